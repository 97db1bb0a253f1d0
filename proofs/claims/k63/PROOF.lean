import PyProof.Rows.All
import Wide.All
import OpenK.AllK
import Lean
import PyProof.MinMaxWalk
import PyProof.WalkInts
import KE.KMinBuiltin
import PySem.Challenge.RW_mustrows_k63_whole_sure_by_steps
set_option Elab.async false
set_option linter.all false
set_option genSizeOf false
set_option maxRecDepth 100000
set_option maxHeartbeats 0
set_option tactic.hygienic false
noncomputable section
local macro_rules | `(tactic| obtain $p:rcasesPatMed := $e:term) => do
  let n := (p.raw.reprint.getD "").foldl (λn c => if c == ',' then n + 1 else n) 0
  let q := Lean.mkIdent `hzz
  if n < 2 then `(tactic| rcases $e:term with $p:rcasesPatMed) else `(tactic| (refine Classical.byContradiction fun $q => ?_; rcases $e:term with $p:rcasesPatMed; refine $q ?_; clear $q))
local macro_rules| `(tactic|trivial)=> `(tactic|contradiction)
abbrev Z_:=@PySem.wpAny_bind
abbrev Z9:=@List
abbrev Z8:=@Option
abbrev Z7:=@Option.some.inj
abbrev Z6:=@PySem.wpAny_pure
abbrev Z5:=@PySem.Heap.get?_push_of_some
abbrev Z4:=@PySem.W.Frag
abbrev Z3:=@PySem.Value
abbrev Z2:=@List.all_eq_true
abbrev Z1:=@PySem.Heap.lt_size
abbrev Z0:=@List.map_cons
abbrev ZZ:=@List.mem_map
abbrev ZY:=@List.mem_cons_of_mem
abbrev ZX:=@PySem.Heap.get?_push_size
abbrev ZW:=@List.length_map
abbrev ZV:=@PySem.Shared
abbrev ZU:=@Nat.le_refl
abbrev ZT:=@List.mem_cons
abbrev ZR:=@List.mem_cons_self
abbrev ZQ:=@Bool.and_eq_true
abbrev ZP:=@PySem.Addr
abbrev ZO:=@List.getElem?_eq_some_iff
abbrev ZN:=@List.getElem?_set_ne
abbrev ZM:=@if_pos
abbrev ZL:=@Nat.le_trans
abbrev ZK:=@PySem.Heap.get?_update_other
abbrev ZJ:=@List.mem_append_right
abbrev ZI:=@List.size_toArray
abbrev ZH:=@if_neg
abbrev ZG:=@Option.some.injEq
abbrev ZF:=@Ne.symm
abbrev ZE:=@Bool.false_eq_true
abbrev ZD:=@List.mem_singleton
abbrev ZC:=@Nat.lt_of_lt_of_le
abbrev ZA:=@Nat.ne_of_lt
abbrev Zz:=@PySem.Heap.get?_update_self
abbrev Zy:=@of_decide_eq_true
abbrev Zx:=@decide_eq_true
abbrev Zw:=@decide_eq_true_eq
abbrev Zv:=@Nat.lt_irrefl
abbrev Zu:=@decide_eq_false
abbrev Zt:=@List.Nodup.length_le_of_subset
abbrev Zs:=@List.mem_of_getElem?
abbrev Zr:=@PySem.codeAny_builtin
abbrev Zo:=@List.drop_eq_getElem_cons
abbrev Zn:=@PySem.Heap.SameBut.update
abbrev Zm:=@Nat.zero_le
abbrev Zl:=@PySem.wpAny_holding
abbrev Zk:=@List.mem_range
abbrev Zj:=@PySem.Around
abbrev Zi:=@List.mem_filter
abbrev Zh:=@List.getElem?_set_self
abbrev Zg:=@List.getElem?_map
abbrev Zf:=@List.getD_eq_getElem?_getD
abbrev Ze:=@List.not_mem_nil
abbrev Zd:=@PySem.plainId_quiet
abbrev Zc:=@List.mem_append
abbrev Zb:=@List.map_map
abbrev Za:=@PySem.Program
abbrev Y_:=@List.mem_iff_getElem
abbrev Y9:=@PySem.wpAny_seqItems
abbrev Y8:=@List.nodup_cons
abbrev Y7:=@List.map_append
abbrev Y6:=@List.length_set
abbrev Y5:=@PySem.wpAny_newObj_type
abbrev Y4:=@List.map_congr_left
abbrev Y3:=@PySem.Obj.data_mapFields
abbrev Y2:=@List.mem_append_left
abbrev Y1:=@PySem.World
abbrev Y0:=@PySem.wpAny_updateSeq
abbrev YZ:=@PySem.wpAny_call_entry
abbrev YY:=@decide_eq_true_iff
abbrev YX:=@List.length_append
abbrev YW:=@List.getElem?_eq_getElem
abbrev YV:=@PySem.Heap.size_push
abbrev YU:=@Array.getElem?_eq_some_iff
abbrev YT:=@PyProof.Rows.wpS_bind
abbrev YS:=@PySem.wpAny_mono
abbrev YR:=@PySem.wpAny_truthy_bool
abbrev YQ:=@PySem.mem_of_lookup
abbrev YO:=@if_false
abbrev YN:=@PyProof.Rows.callWith_type1
abbrev YM:=@List.idxOf_lt_length_of_mem
abbrev YL:=@PySem.wpAny_setState_of
abbrev YK:=@List.nodup_nil
abbrev YJ:=@PySem.wpAny_callSpecial?_slot
abbrev YI:=@List.map_nil
abbrev YG:=@Bool.eq_iff_iff
abbrev YF:=@List.getElem_mem
abbrev YE:=@PySem.wpAny_rule
abbrev YD:=@PySem.wpAny_Call_Name_kw
abbrev YC:=@Bool.and_true
abbrev YB:=@if_true
abbrev YA:=@List.perm_ext_iff_of_nodup
abbrev Yz:=@List.pairwise_map
abbrev Yy:=@decide_true
abbrev Yx:=@List.append_nil
abbrev Yw:=@PySem.Paired.length
abbrev Yv:=@List.getElem?_append_left
abbrev Yu:=@Classical.byContradiction
abbrev Yt:=@Array.getElem?_eq_getElem
abbrev Ys:=@List.length_filter_le
abbrev Yr:=@Nat.lt_succ_self
abbrev Yp:=@decide_false
abbrev Yo:=@List.cons.inj
abbrev Yn:=@PyProof.Rows.wpS_pure
abbrev Ym:=@Nat.not_lt_zero
abbrev Yl:=@PySem.wpAny_tryCatch
abbrev Yk:=@PySem.wpAny_setField
abbrev Yj:=@PySem.wpAny_letGo
abbrev Yi:=@or_false
abbrev Yh:=@Nat.zero_add
abbrev Yg:=@PySem.wpAny_pyIter_list
abbrev Ye:=@PySem.wpAny_specialOf
abbrev Yd:=@decide_eq_decide
abbrev Yc:=@of_decide_eq_false
abbrev Yb:=@Nat.lt_of_le_of_lt
abbrev X_:=@PySem.sizeLine_eq
abbrev X9:=@PySem.wpAny_isInstance
abbrev X8:=@PySem.wpAny_forIn_list
abbrev X7:=@List.cons.injEq
abbrev X6:=@PySem.wpAny_setField_rec
abbrev X5:=@List.nodup_append
abbrev X4:=@PySem.Obj.isFreed_of_fields
abbrev X3:=@Bool.true_and
abbrev X2:=@List.length_pos_iff
abbrev X1:=@beq_self_eq_true
abbrev X0:=@List.length_take
abbrev XZ:=@PySem.Around.under_plainId
abbrev XY:=@PySem.wpAny_attempt
abbrev XX:=@PySem.F.plain_min_loop
abbrev XW:=@PySem.F.plain_max_loop
abbrev XU:=@List.pairwise_cons
abbrev XT:=@List.mem_filterMap
abbrev XS:=@PySem.F.plain_extend_loop
abbrev XR:=@PySem.Heap.size_update
abbrev XQ:=@Bool.not_true
abbrev XO:=@PySem.wpAny_field
abbrev XN:=@Nat.le_succ_of_le
abbrev XM:=@PySem.wpAny_typeOf
abbrev XJ:=@PySem.wpAny_passesOwn
abbrev XI:=@List.getElem?_of_mem
abbrev XH:=@Nat.le_of_lt
abbrev XG:=@List.any_eq_true
abbrev XF:=@List.mem_map_of_mem
abbrev XE:=@Array.toList_append
abbrev XD:=@PyProof.Rows.listUpdate_at
abbrev XC:=@beq_iff_eq
abbrev XB:=@PySem.F.called_set
abbrev XA:=@Bool.false_ne_true
abbrev Xz:=@PySem.F.plainAttrs_list
abbrev Xy:=@List.length_eq_zero_iff
abbrev Xx:=@PySem.Calls.call_function_entry
abbrev Xw:=@PySem.wpAny_setEntries_of
abbrev Xv:=@Option.map_eq_some_iff
abbrev Xu:=@List.map_inj_left
abbrev Xs:=@List.length_range
abbrev Xr:=@List.append_assoc
abbrev Xq:=@List.Perm.refl
abbrev Xp:=@List.Pairwise.map
abbrev Xo:=@Bool.not_false
abbrev Xn:=@Array.toList_push
abbrev Xm:=@List.eraseIdx_eq_take_drop_succ
abbrev Xl:=@PySem.Str.length_append
abbrev Xk:=@PySem.Obj.cls_mapFields
abbrev Xj:=@PySem.F.slot_tuple_hash
abbrev Xi:=@PyProof.Rows.get?_update_seq
abbrev Xh:=@Array.getElem?_setIfInBounds
abbrev Xg:=@Nat.succ_pos
abbrev Xf:=@PySem.wpAny_typeNameOfWhole_keyiter
abbrev Xe:=@PySem.wpAny_of_eq
abbrev Xd:=@PySem.Obj.data_mapDictKeys
abbrev Xc:=@List.getElem?_append_right
abbrev Xb:=@Array.forIn_toList
abbrev Xa:=@PyProof.Rows.listItems_at
abbrev W_:=@PySem.size_of_entries
abbrev W9:=@PySem.F.slot_dict_keyiterator_next
abbrev W8:=@not_false_eq_true
abbrev W7:=@Option.isSome_map
abbrev W6:=@Nat.lt_trichotomy
abbrev W5:=@Nat.lt_succ_of_lt
abbrev W4:=@Nat.le_succ
abbrev W3:=@List.ext_getElem?
abbrev W2:=@PySem.codeAny_mono
abbrev W1:=@PySem.F.args_tuple_add_2
abbrev W0:=@PySem.wpAny_fieldsOf
abbrev WZ:=@PySem.isSubtype_stop
abbrev WY:=@decide_eq_false_iff_not
abbrev WX:=@PySem.F.entry_tuple_add
abbrev WW:=@List.drop_length
abbrev WV:=@PySem.W.cellsFrom_some
abbrev WU:=@PySem.F.slot_tuple_add
abbrev WT:=@PySem.F.entry_min_loop
abbrev WR:=@PySem.F.entry_max_loop
abbrev WQ:=@Nat.mod_lt
abbrev WO:=@Nat.lt_or_ge
abbrev WN:=@List.pairwise_lt_range
abbrev WM:=@List.drop_eq_nil_of_le
abbrev WL:=@PySem.wpAny_storeSet_of
abbrev WK:=@PySem.wpAny_dictEntries
abbrev WJ:=@List.of_mem_zip
abbrev WI:=@Int.emod_nonneg
abbrev WH:=@PySem.wpAny_typeNameOf_keyiter
abbrev WG:=@PySem.wpAny_newList
abbrev WE:=@PySem.SetTable.toList_insertAt
abbrev WD:=@PySem.F.slot_dict_get
abbrev WB:=@List.getElem?_zipWith
abbrev WA:=@List.getElem?_eq_none
abbrev Wz:=@PySem.F.slot_list_getattribute
abbrev Wy:=@PyProof.Rows.wpS_forRange
abbrev Wx:=@not_or
abbrev Ww:=@PySem.F.slot_list_lt
abbrev Wv:=@PyProof.Rows.wpS_modify
abbrev Wu:=@PySem.wpAny_load
abbrev Wt:=@PySem.richCompare_meets_room
abbrev Ws:=@PySem.call_meets
abbrev Wr:=@PySem.SetTable.insertAt_perm
abbrev Wq:=@List.filter_eq_self
abbrev Wp:=@Int.toNat_of_nonneg
abbrev Wo:=@PySem.wpAny_execs_nil
abbrev Wn:=@PySem.F.slot_zip_next
abbrev Wm:=@PySem.wpAny_notOrdered_dict
abbrev Wl:=@PySem.wpAny_runValue
abbrev Wk:=@PySem.wpAny_newTuple
abbrev Wj:=@PyProof.Rows.plain_sorted
abbrev Wi:=@PyProof.Rows.entry_sorted
noncomputable abbrev U:=@some
abbrev M:=@none
abbrev Y:=false
abbrev L:=true
noncomputable abbrev PySem.Shared.z(s:PySem.Shared):Nat:=s.heap.objs.size
open PySem PyProof.Rows in
def qm{P:Za}{w:Y1}{A:Zj}{q:Type}{c:Prop}[Decidable c]{t e:Sem q}{Q:q->ZV->Prop}{E:Z3->ZV->Prop}{s:ZV}(h:c)(k:wpAny (model P w) A t Q E s):wpAny (model P w) A (if c then t else e) Q E s:=by rw[ZM h];exact k
open PySem PyProof.Rows in
def gT{P:Za}{w:Y1}{A:Zj}{q:Type}{c:Prop}[Decidable c]{t e:Sem q}{Q:q->ZV->Prop}{E:Z3->ZV->Prop}{s:ZV}(h:¬c)(k:wpAny (model P w) A e Q E s):wpAny (model P w) A (if c then t else e) Q E s:=by rw[ZH h];exact k
open PySem PyProof.Rows in
def wW{P:Za}{w:Y1}{A:Zj}{q σ:Type}{c:Prop}[Decidable c]{t e:StateT σ Sem q}{Q:q->σ->Prop}{E:Z3->ZV->Prop}{s:ZV}{st:σ}(h:c)(k:wpS (model P w) A E s t Q st):wpS (model P w) A E s (if c then t else e) Q st:=by rw[ZM h];exact k
open PySem PyProof.Rows in
def sG{P:Za}{w:Y1}{A:Zj}{q σ:Type}{c:Prop}[Decidable c]{t e:StateT σ Sem q}{Q:q->σ->Prop}{E:Z3->ZV->Prop}{s:ZV}{st:σ}(h:¬c)(k:wpS (model P w) A E s e Q st):wpS (model P w) A E s (if c then t else e) Q st:=by rw[ZH h];exact k
section
namespace L2
open PySem PySem.Spec PyProof.Rows PySem.W
class Lams where
 tb:Z9 (ZP×Str)
variable[Lams]
noncomputable def defArgs(s:Stmt):Arguments:=match s with
 |.FunctionDef _ a _ _ _ _ _ _ _ _=>a
 |_=>{posonlyargs:=[],args:=[],vararg:=M,kwonlyargs:=[],kw_defaults:=[],kwarg:=M,defaults:=[]}
noncomputable def defBody(s:Stmt):Z9 Stmt:=match s with
 |.FunctionDef _ _ b _ _ _ _ _ _ _=>b
 |_=>[]
noncomputable def defScope(s:Stmt):Scope:=match s with
 |.FunctionDef _ _ _ _ _ _ sc _ _ _=>sc
 |_=>{kind:=.function,names:=[],isGenerator:=Y,isCoroutine:=Y}
noncomputable def Am(h:Heap):Frag:=(List.range h.objs.size).filterMap λa=>(h.get? a).bind λo=>if o.cls != .none||a==mainGlobals then U (a,o) else M
abbrev acw:=Str×Str×Arguments×FuncBody×Scope×ZP×Z9 (Str×ZP)×Z3×ZP
noncomputable def Du(fd:FuncData):acw:=(fd.name,fd.qualname,fd.params,fd.body,fd.scope,fd.globals,fd.closure,fd.defaults,fd.builtins)
noncomputable def EX(K:Frag)(x:Str):Z8 acw:=match nsIn K mainGlobals x with
 |some (some (.ref f))=>(match K.lookup f with
  |some ⟨_,_,.func fd,_⟩=>if codeIn K fd.code x then U (Du fd) else M
  |_=>M)
 |_=>M
def xQ(x:Str)(st:Stmt):acw:=(x,x,defArgs st,.stmts (defBody st),defScope st,mainGlobals,[],.none,builtinsNs)
noncomputable def pH(K:Frag)(x:Str):Z8 Z3:=match nsIn K mainGlobals x with
 |some (some (.ref f))=>(match K.lookup f with
  |some ⟨_,_,.func fd,_⟩=>U fd.code
  |_=>M)
 |_=>M
noncomputable def G1:Obj:={cls:=.none,data:=.fields #[]}
noncomputable def YfH(defs:Z9 (Str×Stmt))(bl:Z9 Str)(cs:Z9 (Str×ZP))(s:ZV):=
 (λ(h:Heap) (K:Frag)=>(defs.map (λp=>EX K p.1),bl.map (nsIn K mainGlobals),cs.map (λp=>pH K p.1),Lams.tb.map (λq=>h.get? q.1),(Lams.tb.zip cs).map (λq=>codeHdIn K q.2.2 q.1.1),Lams.tb.map (λq=>K.lookup q.1))) s.heap (Am s.heap)
noncomputable def YaH(defs:Z9 (Str×Stmt))(bl:Z9 Str)(cs:Z9 (Str×ZP))(_:Y1):=
 (defs.map (λp=>U (xQ p.1 p.2)),bl.map (λ_=>U (M:Z8 Z3)),cs.map (λp=>U (Value.ref p.2)),Lams.tb.map (λ_=>U G1),(Lams.tb.zip cs).map (λ_=>L),Lams.tb.map (λ_=>(M:Z8 Obj)))
end L2
namespace K63
open PySem L2
noncomputable def top(i:Nat):Stmt:=PySem.Challenge.pw_mustrows_k63_whole_sure_by_steps.main.body.getD i (.Pass ⟨0,0,0,0⟩)
abbrev Hd:=top 1
abbrev HS:=top 2
abbrev G6:=top 4
abbrev HW:=top 3
abbrev HA:=top 6
abbrev HN:=top 8
abbrev GV:=top 15
abbrev HG:=top 14
abbrev Hn:=top 13
abbrev BY:=top 12
abbrev GS:=top 18
abbrev Hw:=top 16
abbrev Hh:=top 19
abbrev Hc:=top 17
abbrev Hm:=top 11
abbrev Hj:=top 9
abbrev Hl:=top 7
abbrev HJ:=top 10
abbrev HC:=top 21
abbrev HP:=top 25
abbrev Hx:=top 22
abbrev HM:=top 24
abbrev He:=top 26
abbrev G0:=top 23
abbrev Hv:=top 30
abbrev G2:=top 31
abbrev Hq:=top 29
abbrev Hf:=top 32
abbrev G8:=top 34
abbrev GR:=top 33
abbrev Hb:=top 28
abbrev GX:=top 36
abbrev Ha:=top 38
abbrev Hu:=top 39
abbrev Hi:=top 40
abbrev G4:=top 41
abbrev Ea:=top 42
abbrev CO:=top 43
abbrev Cm:=top 44
abbrev Cs:=top 45
abbrev CL:=top 46
abbrev s_law:=top 47
noncomputable abbrev blK:Z9 Str:=["all","any","dict","enumerate","isinstance","len","list","max","min","range","set","sorted","tuple","zip"]
noncomputable def defsK:Z9 (Str×Stmt):=([("stand_of",Hd),("blanks_of",HS),("exchanged",G6),("moved",HW),("filled",HA),("letters_of",HN),("binding_of",GV),("bindings",HG),("is_linked",Hn),("search_order",BY),("places_of",GS),("grouped",Hw),("picked",Hh),("extended",Hc),("joined_from",Hm),("joined",Hj),("answers",Hl),("fit_with",HJ),("fresh",HC),("two_terms",HP),("deciding_letters",Hx)]:Z9 (Str×Stmt))++([("is_unlike",HM),("two_cells",He),("broken_cells",G0),("urgency_of",Hv),("age",G2),("next_broken",Hq),("is_clash",Hf),("same_moves",G8),("fresh_moves",GR),("full",Hb),("sure",GX),("_law_mixed",Ha),("_law_words",Hu),("_law_drawn",Hi),("_law_stand",G4),("_law_rows",Ea),("_law_must",CO),("_law_is_open",Cm),("_law_same",Cs),("_law_right",CL),("law",s_law)]:Z9 (Str×Stmt))
end K63
def Ge:Z9 Nat:=((PySem.Challenge.pw_mustrows_k63_whole_sure_by_steps.main.body.zipIdx.filter λp=>match p.1 with|.FunctionDef .. =>true|_=>false).map (·.2))
theorem K63.hl0:PySem.W.LeftO PySem.Challenge.rw_mustrows_k63_whole_sure_by_steps.row.prog (PySem.W.view PySem.Challenge.pw_mustrows_k63_whole_sure_by_steps Ge) [] (fun _=>true) (@L2.YfH ⟨[(74,"search_order.<locals>.<lambda>")]⟩ K63.defsK K63.blK [("search_order",76)]) (@L2.YaH ⟨[(74,"search_order.<locals>.<lambda>")]⟩ K63.defsK K63.blK [("search_order",76)]) 2000:=fun w=>by kernel_rfl
theorem K63.hl1:PySem.Challenge.rw_mustrows_k63_whole_sure_by_steps.wellSaid=true:=by kernel_rfl
theorem K63.hl7:(PySem.W.chainsOk (PySem.W.view PySem.Challenge.pw_mustrows_k63_whole_sure_by_steps Ge)&&PySem.W.opensWell PySem.Challenge.rw_mustrows_k63_whole_sure_by_steps.row.prog&&(PySem.W.frees PySem.Challenge.rw_mustrows_k63_whole_sure_by_steps.row.toRowW&&PySem.Challenge.rw_mustrows_k63_whole_sure_by_steps.row.within.isEmpty))=true:=by kernel_rfl
namespace L2
theorem aN{q:Type u}{x a:q}{xs:Z9 q}:(x::xs).set 0 a=a::xs:=rfl
theorem aO{q:Type u}{x a:q}{xs:Z9 q}{i:Nat}:(x::xs).set (i+1) a=x::xs.set i a:=rfl
theorem cn{q:Type u}{a:q}{as:Z9 q}:(a::as).length=as.length+1:=rfl
theorem lF{q:Type u}:([]:Z9 q).length=0:=rfl
def li{q:Type u}{a:q}{l:Z9 q}{f:q->Bool}:(a::l).all f=(f a&&l.all f):=rfl
open PySem PySem.Spec PyProof.Rows
abbrev Key:=Sum Int Str
inductive D where
 |non|bl (b:Bool)|int (i:Int)|str (x:Str)|tup (ds:List D)|lst (ds:List D)|dK (ks:List Key) (vs:List D)
 |dD (ks vs:List D)
mutual
noncomputable def D.beq:D->D->Bool
 |.non,.non=>L
 |.bl a,.bl b=>a==b
 |.int a,.int b=>a==b
 |.str a,.str b=>decide (a=b)
 |.tup a,.tup b=>D.abp a b
 |.lst a,.lst b=>D.abp a b
 |.dK Z a,.dK O b=>decide (Z=O)&&D.abp a b
 |.dD Z a,.dD O b=>D.abp Z O&&D.abp a b
 |_,_=>Y
noncomputable def D.abp:Z9 D->Z9 D->Bool
 |[],[]=>L
 |a::O,b::bs=>D.beq a b&&D.abp O bs
 |_,_=>Y
end
mutual
theorem D.beq_iff:∀(a b:D),D.beq a b=L↔a=b
 |.non,b=>by cases b<;>simp[D.beq]
 |.bl a,b=>by cases b<;>simp[D.beq]
 |.int a,b=>by cases b<;>simp[D.beq]
 |.str a,b=>by cases b<;>simp[D.beq]
 |.tup a,b=>by
  cases b with
  |tup b=>simp only[D.beq,D.tup.injEq];exact D.aaO a b
  |_=>simp[D.beq]
 |.lst a,b=>by
  cases b with
  |lst b=>simp only[D.beq,D.lst.injEq];exact D.aaO a b
  |_=>simp[D.beq]
 |.dK Z a,b=>by
  cases b with
  |dK O b=>simp only[D.beq,D.dK.injEq,ZQ,Zw];rw[D.aaO a b]
  |_=>simp[D.beq]
 |.dD Z a,b=>by
  cases b with
  |dD O b=>simp only[D.beq,D.dD.injEq,ZQ];rw[D.aaO Z O,D.aaO a b]
  |_=>simp[D.beq]
theorem D.aaO:∀(a b:Z9 D),D.abp a b=L↔a=b
 |[],b=>by cases b<;>simp[D.abp]
 |a::O,b=>by
  cases b with
  |nil=>simp[D.abp]
  |cons b bs=>simp only[D.abp,ZQ,X7];rw[D.beq_iff a b,D.aaO O bs]
end
noncomputable instance:DecidableEq D:=λa b=>if h:D.beq a b=L then isTrue ((D.beq_iff a b).mp h) else isFalse λe=>h ((D.beq_iff a b).mpr e)
noncomputable def bf:Nat->D->Bool
 |_,.int _=>L
 |_,.str _=>L
 |n+1,.tup ds=>ds.all (bf n)
 |_,_=>Y
mutual
noncomputable def fu(w:Y1):D->Int
 |.int i=>hashInt i
 |.str x=>hashStr w x
 |.tup ds=>reduceHash (Builtin.Tuple.tupleHashOf (oX w ds))
 |_=>0
noncomputable def oX(w:Y1):Z9 D->Z9 Int
 |[]=>[]
 |d::ds=>fu w d::oX w ds
end
theorem iE(w:Y1):∀ds:Z9 D,oX w ds=ds.map (fu w)
 |[]=>by rfl
 |d::ds=>by simp[oX,iE w ds]
def cA(h:bf n (.tup ds)=L):∃k,n=k+1/\ds.all (bf k)=L:=by
 cases n with
 |zero=>trivial
 |succ n=>exact⟨n,rfl,by assumption⟩
mutual
noncomputable def eU:D->Nat
 |.int _=>1
 |.str _=>1
 |.tup ds=>cu ds+1
 |_=>0
noncomputable def cu:Z9 D->Nat
 |[]=>0
 |d::ds=>eU d+cu ds
end
theorem fI(d:D):∀ds:Z9 D,cu (ds++[d])=cu ds+eU d
 |[]=>by simp[cu]
 |x::ds=>by rw[List.cons_append];simp only[cu];rw[fI d ds];lia
mutual
def RH(h:Heap):D->Z3->Prop
 |.int i,v=>∃t,v=.int i t
 |.str x,v=>∃t,v=.str x t
 |.tup ds,v=>∃a its,v=.ref a/\IsTup h a its.toArray/\RHs h ds its
 |_,_=>False
def RHs(h:Heap):Z9 D->Z9 Z3->Prop
 |[],vs=>vs=[]
 |d::ds,vs=>∃v r,vs=v::r/\RH h d v/\RHs h ds r
end
theorem RHs.length:∀{ds:Z9 D}{vs:Z9 Z3},RHs h ds vs->ds.length=vs.length
 |[],vs,r=>by subst r;rfl
 |d::ds,vs,r=>by
  obtain⟨v,q,rfl,_,O⟩:=r;simp[RHs.length O]
theorem RHs.get:∀{ds:Z9 D}{vs:Z9 Z3}{i:Nat}{d:D},RHs h ds vs->ds[i]?=U d->∃v,vs[i]?=U v/\RH h d v
 |[],vs,i,d,_,e=>by simp at e
 |x::ds,vs,0,d,r,e=>by
  obtain⟨v,q,rfl,Z,_⟩:=r
  simp_all
 |x::ds,vs,i+1,d,r,e=>by
  obtain⟨v,q,rfl,_,O⟩:=r;obtain⟨u,h1,h2⟩:=RHs.get (i:=i) (d:=d) O (by trivial)
  simp_all
mutual
theorem RH.inj:∀{d e:D}{v:Z3},RH h d v->RH h e v->d=e
 |.int i,e,v,r,q=>by
  obtain⟨t,rfl⟩:=r;cases e<;>simp only[RH]at q<;>first
   |(obtain⟨t',z⟩:=q;cases z;rfl)
   |(obtain⟨t',z⟩:=q;cases z;done)
   |lia
   |cases q
 |.str i,e,v,r,q=>by
  obtain⟨t,rfl⟩:=r;cases e<;>simp only[RH]at q<;>first
   |(obtain⟨t',z⟩:=q;cases z;rfl)
   |(obtain⟨t',z⟩:=q;cases z;done)
   |lia
   |cases q
 |.tup ds,e,v,r,q=>by
  obtain⟨a,its,rfl,⟨o,g,_,n,hd⟩,rs⟩:=r;cases e with
  |tup es=>
   obtain⟨b,Tj,z,⟨o',g',_,n',r_⟩,qs⟩:=q;cases z;rw[g]at g';obtain rfl:=Z7 g';rw[hd]at r_;have:its.toArray=Tj.toArray:=by injection r_
   have e2:its=Tj:=by simpa using this
   subst e2;rw[RHs.inj rs qs]
  |int _=>simp_all [RH]
  |str _=>simp_all [RH]
  |_=>simp only[RH]at q
 |.non,e,v,r,q=>by trivial
 |.bl _,e,v,r,q=>by trivial
 |.lst _,e,v,r,q=>by trivial
 |.dK _ _,e,v,r,q=>by trivial
 |.dD _ _,e,v,r,q=>by trivial
theorem RHs.inj:∀{ds es:Z9 D}{vs:Z9 Z3},RHs h ds vs->RHs h es vs->ds=es
 |[],es,vs,r,q=>by
  subst r;cases es with
  |nil=>rfl
  |cons e es=>simp_all [RHs]
 |d::ds,es,vs,r,q=>by
  obtain⟨v,z,rfl,r1,r2⟩:=r;cases es with
  |nil=>trivial
  |cons e es=>
   obtain⟨v',z',e',q1,q2⟩:=q;cases e';rw[RH.inj r1 q1,RHs.inj r2 q2]
end
mutual
theorem RH.to(k:∀a o,h.get? a=U o->o.cls=.type "tuple"->(∃its n,o.data=.seq its n)->h'.get? a=U o):∀{d:D}{v:Z3},RH h d v->RH h' d v
 |.int i,v,r=>by assumption
 |.str i,v,r=>by assumption
 |.tup ds,v,r=>by
  obtain⟨a,its,e,⟨o,g,O,n,hd⟩,rs⟩:=r;exact⟨a,its,e,⟨o,k a o g O ⟨_,_,hd⟩,O,n,hd⟩,RHs.to k rs⟩
 |.non,v,r=>by assumption
 |.bl _,v,r=>by assumption
 |.lst _,v,r=>by assumption
 |.dK _ _,v,r=>by assumption
 |.dD _ _,v,r=>by assumption
theorem RHs.to(k:∀a o,h.get? a=U o->o.cls=.type "tuple"->(∃its n,o.data=.seq its n)->h'.get? a=U o):∀{ds:Z9 D}{vs:Z9 Z3},RHs h ds vs->RHs h' ds vs
 |[],vs,r=>by assumption
 |d::ds,vs,r=>by
  obtain⟨v,z,e,Z,O⟩:=r;exact⟨v,z,e,RH.to k Z,RHs.to k O⟩
end
def yz:∀(n:Nat)(d:D)(u:Z3)(A:Zj)(s:ZV)(Q:Int->ZV->Prop)(E:Z3->ZV->Prop),bf n d=L->A.units+2*n+2<cLine->RH s.heap d u->
  Q (fu w d) {s with toks:=s.toks+eU d}->wpAny (model P w) A (pyHash u) Q E s:=by
 intro n
 induction n using Nat.strongRecOn with
 |ind n ih=>
 intro d u A s Q E hd hA rd hQ;cases d with
 |int i=>
  obtain⟨t,rfl⟩:=rd;exact wpAny_pyHash_int hQ
 |str i=>
  obtain⟨t,rfl⟩:=rd;exact wpAny_pyHash_str hQ
 |tup ds=>
  obtain⟨a,its,rfl,⟨o,ho,hc,m,Ke⟩,hr⟩:=rd;obtain⟨k,rfl,r_⟩:=cA hd;have hT:s.TypeIs (.ref a) "tuple":=⟨o,ho,hc⟩;refine Z_ (wpAny_cRoomFor_or (.inr (by lia)) (Z_ (Ye hT Xj.lookup ?_)));refine Z_ (Ye hT Xj.lookup ?_);refine Z_ (wpAny_callSpecialIfBoundUnlessNone?_slot hT Xj (YZ Xj hT F.entry_tuple_hash ?_ (F.args_tuple_hash_1 _)));show wpAny _ _ (Builtin.Tuple.tupleItemsOf (.ref a) >>= _) _ _ _;refine Z_ (wpAny_tupleItemsOf ho Ke (Z_ ?_));rw[<-Xb];refine X8 _
   (λav (b:Array Int) s'=>∃done left,ds=done++left/\RHs s.heap left av/\b.toList=done.map (fu w)/\s'={s with toks:=s.toks+cu done})
   _ ?_ ?_ _ _ ⟨[],ds,rfl,by simpa using hr,rfl,rfl⟩
  .intro v av b s' hz;obtain⟨done,left,rfl,hl,hb,rfl⟩:=hz
   cases left with
   |nil=>trivial
   |cons d' H_=>
    obtain⟨v',r',e',r1,r2⟩:=hl;cases e';have Lw:bf k d'=L:=by
     rw[List.all_append,ZQ,li,ZQ]at r_;exact r_.2.1
    refine Z_ (ih k (by lia) d' v _ _ _ _ Lw ?_ r1 ?_);show A.units+1+2*k+2<cLine;lia
    .have et:({s with toks:=s.toks+cu done+eU d'}:ZV)={s with toks:=s.toks+cu (done++[d'])}:=by rw[fI,Nat.add_assoc]
     first
      |exact Z6 ⟨done++[d'],H_,by simp,r2,by simp[hb],et⟩
      |exact Z_ (Z6 (Z6 ⟨done++[d'],H_,by simp,r2,by simp[hb],et⟩))
  .intro b s' hz;obtain⟨done,left,rfl,hl,hb,rfl⟩:=hz
   have PU:left=[]:=by
    have:=hl.length;cases left with
    |nil=>rfl
    |cons _ _=>simp at this
   subst PU;rw[Yx]at hQ;simp only[fu,iE,eU]at hQ;show wpAny _ _ (retInt (Builtin.Tuple.tupleHashOf b.toList)) _ _ _;rw[hb];refine wpAny_ret_mkInt ?_;show wpAny _ _ (if(decide (-(2:Int) ^ 63<=Builtin.Tuple.tupleHashOf (done.map (fu w)))&&decide (Builtin.Tuple.tupleHashOf (done.map (fu w))<2 ^ 63))=L then _ else _) Q E _;unfold reduceHash at hQ;by_cases hr:(decide (-(2:Int) ^ 63<=Builtin.Tuple.tupleHashOf (done.map (fu w)))&&decide (Builtin.Tuple.tupleHashOf (done.map (fu w))<2 ^ 63))=L;refine qm hr ?_;rw[ZM hr]at hQ;exact Z6 hQ;refine gT hr ?_;rw[ZH hr]at hQ;exact Z_ (YE (Z6 hQ))
 |_=>simp[bf]at hd
def nA:∀(n:Nat)(d:D)(u:Z3)(A:Zj)(s:ZV)(Q:Bool->ZV->Prop)(E:Z3->ZV->Prop),bf n d=L->RH s.heap d u->Q L s->wpAny (model P w) A (eqIsQuiet n u) Q E s:=by
 intro n
 induction n using Nat.strongRecOn with
 |ind n ih=>
 intro d u A s Q E hd rd hQ;cases d with
 |int i=>obtain⟨t,rfl⟩:=rd;unfold eqIsQuiet;exact Z6 hQ
 |str i=>obtain⟨t,rfl⟩:=rd;unfold eqIsQuiet;exact Z6 hQ
 |tup ds=>
  obtain⟨a,its,rfl,⟨o,ho,hc,m,Ke⟩,hr⟩:=rd;obtain⟨k,rfl,r_⟩:=cA hd;have hT:s.TypeIs (.ref a) "tuple":=⟨o,ho,hc⟩;unfold eqIsQuiet;refine Z_ (Ye hT F.slot_tuple_eq.lookup ?_);refine Z_ (X9 hT isSubtype_tuple_tuple ?_);refine Z_ (Y9 ho Ke (Z_ ?_));rw[<-Xb];refine X8 _ (λav b s'=>b.1=M/\s'=s/\∃O,O.all (bf k)=L/\RHs s.heap O av) _ ?_ ?_ _ _ ⟨rfl,rfl,ds,r_,by trivial⟩;intro v av b s' hz;obtain⟨hb,rfl,O,Z,hl⟩:=hz;cases O with
  |nil=>trivial
  |cons d' H_=>
   obtain⟨v',r',e',r1,r2⟩:=hl;cases e';rw[li,ZQ]at Z;refine Z_ (ih k (by lia) d' v _ _ _ _ Z.1 r1 ?_);exact Z6 ⟨rfl,rfl,H_,Z.2,r2⟩
  rintro⟨b1,b2⟩ s' ⟨hb,rfl,_⟩
  subst hb;exact Z6 hQ
 |_=>simp[bf]at hd
def CN:∀(ds es:Z9 D),ds.length=es.length->((List.range ds.length).all λj=>decide (ds[j]?=es[j]?))=decide (ds=es):=by
 intro ds es Z;rw[YG,Z2,YY];constructor;intro h;refine W3 λj=>?_;by_cases O:j<ds.length;exact Zy (h j (Zk.mpr O))
 .simp_all
 lia
def Al(ds es:Z9 D):(((List.range (min ds.length es.length)).all λj=>decide (ds[j]?=es[j]?))&&ds.length==es.length)=decide (ds=es):=by
 by_cases O:ds.length=es.length;rw[O,Nat.min_self,X1,YC,<-O,CN ds es O];lia
open SeqAt in
def HF:∀(n:Nat)(d e:D)(u w:Z3)(A:Zj),bf n d=L->bf n e=L->A.units+n+1<cLine->RH s.heap d u->RH s.heap e w->EqAt A s u w (decide (d=e)):=by
 intro n
 induction n using Nat.strongRecOn with
 |ind n ih=>
 intro d e u w A hd he hA rd re;have hu:A.units<cLine:=by lia
 cases d with
 |int i=>
  obtain⟨t',rfl⟩:=rd;cases e with
  |int j=>
   obtain⟨t,rfl⟩:=re;rw[show decide (D.int i=D.int j)=(i==j) by lia];exact EqAt.int_int i t' j t
  |str j=>obtain⟨t,rfl⟩:=re;exact EqAt.int_str i t' j t
  |tup es=>obtain⟨b,its,rfl,ht,_⟩:=re;exact EqAt.int_tuple i t' ht hu
  |_=>simp[bf]at he
 |str i=>
  obtain⟨t',rfl⟩:=rd;cases e with
  |int j=>obtain⟨t,rfl⟩:=re;exact EqAt.str_int i t' j t
  |str j=>
   obtain⟨t,rfl⟩:=re;rw[show decide (D.str i=D.str j)=(i==j) by lia];exact EqAt.str_str i t' j t
  |tup es=>obtain⟨b,its,rfl,ht,_⟩:=re;exact EqAt.str_tuple i t' ht hu
  |_=>simp[bf]at he
 |tup ds=>
  have Vb:=rd;obtain⟨a,its,rfl,Q6,hr⟩:=rd;obtain⟨k,rfl,r_⟩:=cA hd;cases e with
  |int j=>obtain⟨t,rfl⟩:=re;exact EqAt.tuple_int j t Q6 hu
  |str j=>obtain⟨t,rfl⟩:=re;exact EqAt.tuple_str j t Q6 hu
  |tup es=>
   have Va:=re;obtain⟨b,k_,rfl,OH,LL⟩:=re;obtain⟨k',e',Ms⟩:=cA he;cases e';have l1:=hr.length;have l2:=LL.length;by_cases x_:a=b;subst x_;rw[Zx (RH.inj Vb Va)];exact EqAt.same _;have el:∀j (h1:j<its.toArray.size) (h2:j<k_.toArray.size),EqAt A.in1 s its.toArray[j] k_.toArray[j] (decide (ds[j]?=es[j]?)):=λj h1 h2=>by
    simp only[ZI]at h1 h2;obtain⟨d',Lw⟩:∃d',ds[j]?=U d':=⟨ds[j]'(by lia),by simp⟩
    obtain⟨e',OW⟩:∃e',es[j]?=U e':=⟨es[j]'(by lia),by simp⟩
    obtain⟨u',Nc,QJ⟩:=hr.get Lw;obtain⟨w',VD,Kk⟩:=LL.get OW;have q:=ih k (Yr k) d' e' u' w' A.in1 ((Z2.mp r_) d' (Zs Lw)) ((Z2.mp Ms) e' (Zs OW)) (by show A.units+1+k+1<cLine;lia) QJ Kk
    simp_all
   have key:((List.range (min its.toArray.size k_.toArray.size)).all (λj=>decide (ds[j]?=es[j]?))&&its.toArray.size==k_.toArray.size)=decide (D.tup ds=D.tup es):=by
    rw[ZI,ZI,<-l1,<-l2,Al];simp only[D.tup.injEq]
   have rc:=RcAt.tuples Q6 OH hu el;rw[key]at rc;exact EqAt.of_refs x_ rc
  |_=>simp[bf]at he
 |_=>simp[bf]at hd
noncomputable def bv(P:Za)(w:Y1):HeapKind P w D where
 is h d a:=bf 8 d=L/\RH h d (.ref a)
 hash:=fu w
 draws:=eU
 room A:=A.units+30<cLine
 inj hx hy:=RH.inj hx.2 hy.2
 keeps:=λ{h h' k a d o es ep} hk ho hd hs=>⟨hk.1,hk.2.to λb u g _ ⟨its,n,q⟩=>((hs.2 b (λe=>by lia)).trans g)⟩
 pyHash:=λ{A E s k a Q} hr hk h=>yz 8 k _ A s Q E hk.1 (by lia) hk.2 h
 eqBool:=λ{A E s x y a b Q} hr hx hy h=>HF 8 x y _ _ A hx.1 hy.1 (by lia) hx.2 hy.2 P w E Q h
 quiet:=λ{A E s k a Q} hk h=>nA 8 k _ A s Q E hk.1 hk.2 h
noncomputable def qQ:Key->Z3->Bool
 |.inl k,v=>Value.isInt k v
 |.inr x,v=>Value.isStrOf x v
noncomputable def IN(w:Y1):Key->Int
 |.inl k=>hashInt k
 |.inr x=>hashStr w x
def aT:∀{k:Key}{v:Z3},qQ k v=L->(∃i t,k=Sum.inl i/\v=Value.int i t)\/(∃x t,k=Sum.inr x/\v=Value.str x t)
 |.inl i,v,h=>by
  obtain⟨t,e⟩:=Value.isInt_shape (k:=i) (v:=v) h;exact .inl ⟨i,t,rfl,e⟩
 |.inr x,v,h=>by
  obtain⟨t,e⟩:=Value.isStrOf_shape (x:=x) (v:=v) h;exact .inr ⟨x,t,rfl,e⟩
def tx(i:Int)(t:Tok):qQ (.inl i) (.int i t)=L:=by simp[qQ,Value.isInt]
def tm(x:Str)(t:Tok):qQ (.inr x) (.str x t)=L:=by simp[qQ,Value.isStrOf]
def Ck(a b:Int):decide ((Sum.inl a:Key)=Sum.inl b)=(a==b):=by
 lia
def Ed(a b:Str):decide ((Sum.inr a:Key)=Sum.inr b)=decide (a=b):=by
 lia
def HH(a:Int)(b:Str):decide ((Sum.inl a:Key)=Sum.inr b)=Y:=Zu (λq=>nomatch q)
def HI(a:Str)(b:Int):decide ((Sum.inr a:Key)=Sum.inl b)=Y:=Zu (λq=>nomatch q)
noncomputable def aI(prog:Za)(w:Y1):PySem.KeyKind prog w Key where
 is:=qQ
 hash:=IN w
 inj:=λv a b Z hb=>by
  rcases aT Z with⟨i,t,rfl,rfl⟩|⟨x,t,rfl,rfl⟩;rcases aT hb with⟨j,u,rfl,e⟩|⟨y,u,rfl,e⟩;lia;exact nomatch e;rcases aT hb with⟨j,u,rfl,e⟩|⟨y,u,rfl,e⟩;exact nomatch e;lia
 byValue:=λk v h=>by
  rcases aT h with⟨i,t,rfl,rfl⟩|⟨x,t,rfl,rfl⟩<;>rfl
 pyHash:=λO h=>by
  rcases aT O with⟨i,t,rfl,rfl⟩|⟨x,t,rfl,rfl⟩;exact wpAny_pyHash_int h;exact wpAny_pyHash_str h
 eqBool:=λhu O h=>by
  rcases aT hu with⟨i,t,rfl,rfl⟩|⟨x,t,rfl,rfl⟩;rcases aT O with⟨j,u,rfl,rfl⟩|⟨y,u,rfl,rfl⟩;rw[Ck]at h;exact wpAny_eqBool_int h;exact SeqAt.EqAt.int_str i t y u _ _ _ _ h;rcases aT O with⟨j,u,rfl,rfl⟩|⟨y,u,rfl,rfl⟩;exact SeqAt.EqAt.str_int x t j u _ _ _ _ h;rw[Ed]at h;exact wpAny_eqBool_str h
 «strs»:=λk x t v h=>by
  rcases aT h with⟨i,u,rfl,e⟩|⟨y,u,rfl,e⟩;exact nomatch e
  .injection e with e1 _
   subst e1;cases v<;>rfl
def fJ(prog:Za)(w:Y1)(i:Int)(t:Tok):(aI prog w).is (.inl i) (.int i t)=L:=tx i t
def f7(prog:Za)(w:Y1)(x:Str)(t:Tok):(aI prog w).is (.inr x) (.str x t)=L:=tm x t
inductive V where
 |non|bl (b:Bool)|int (i:Int)|str (x:Str)|byt (b:Array UInt8)|flt (b:UInt64)|ref (a:ZP)|ty (n:String)
 deriving DecidableEq
def RelV:V->Z3->Prop
 |.non,u=>u=Value.none
 |.bl b,u=>u=Value.bool b
 |.int i,u=>∃t,u=Value.int i t
 |.str x,u=>∃t,u=Value.str x t
 |.byt b,u=>∃t,u=Value.bytes b t
 |.flt b,u=>∃t,u=Value.float b t
 |.ref a,u=>u=Value.ref a
 |.ty n,u=>u=Value.type n
abbrev aac:Z9 V->Z9 Z3->Prop:=Paired RelV
theorem aac.length(r:aac xs us):xs.length=us.length:=Yw r
theorem aac.get:∀{xs:Z9 V}{us:Z9 Z3}{i:Nat}{x:V},aac xs us->xs[i]?=U x->∃u,us[i]?=U u/\RelV x u
 |_,_,_,_,.nil,e=>by simp at e
 |_,_,0,_,.cons r _,e=>by simp_all
 |_,_,i+1,x,.cons _ t,e=>by
  obtain⟨u,h1,O⟩:=aac.get (i:=i) (x:=x) t (by trivial)
  simp_all
theorem aac.append:∀{xs ys:Z9 V}{us ws:Z9 Z3},aac xs us->aac ys ws->aac (xs++ys) (us++ws)
 |_,_,_,_,.nil,s=>s
 |_,_,_,_,.cons r t,s=>.cons r (aac.append t s)
theorem aac.take:∀{xs:Z9 V}{us:Z9 Z3}(n:Nat),aac xs us->aac (xs.take n) (us.take n)
 |_,_,0,_=>.nil
 |_,_,_+1,.nil=>.nil
 |_,_,n+1,.cons r t=>.cons r (aac.take n t)
theorem aac.drop:∀{xs:Z9 V}{us:Z9 Z3}(n:Nat),aac xs us->aac (xs.drop n) (us.drop n)
 |_,_,0,r=>r
 |_,_,_+1,.nil=>.nil
 |_,_,n+1,.cons _ t=>aac.drop n t
def aaV:Z8 V->Z8 Z3->Prop
 |some v,some u=>RelV v u
 |none,none=>True
 |_,_=>False
def KV{κ:Type}:Z9 (κ×V)->Z9 (κ×Z3)->Prop:=Paired λ(p:κ×V) (q:κ×Z3)=>p.1=q.1/\RelV p.2 q.2
noncomputable def kV:Key->V
 |.inl i=>.int i
 |.inr x=>.str x
inductive HO where
 |lst (xs:List V)
 |tup (xs:List V)
 |dK (kvs:List (Key×V))|dD (kvs:List (D×V)) (ep:Nat)
 |own (x:ZP)
 |rng (lo hi:Int)
 |frz (o:Obj) (u:HO)
 |tbl (lq:Str) (ps:Array Z3)
 |ext (φ:Heap->Prop)
abbrev Hp:=ZP->Z8 HO
noncomputable def upd(H:Hp)(a:ZP)(o:HO):Hp:=λb=>if b=a then U o else H b
def ah:upd H a o a=U o:=by unfold upd;lia
def aj(h:b≠a):upd H a o b=H b:=by unfold upd;rw[ZH h]
def vq:upd (upd H a o) a u=upd H a u:=by
 funext b;unfold upd;lia
def mh{H:Hp}(h:H a=U o)(h':H b=U u)(d:o≠u):a≠b:=by
 lia
def aw{H:Hp}(h:H a=U o)(h':H b=M):a≠b:=by
 lia
mutual
def KR(H:Hp):D->V->Prop
 |.int i,v=>v=.int i
 |.str x,v=>v=.str x
 |.tup ds,v=>∃a xs,v=.ref a/\H a=U (.tup xs)/\KRs H ds xs
 |_,_=>False
def KRs(H:Hp):Z9 D->Z9 V->Prop
 |[],xs=>xs=[]
 |d::ds,xs=>∃x r,xs=x::r/\KR H d x/\KRs H ds r
end
mutual
theorem KR.to(t:∀a xs,H a=U (.tup xs)->H' a=U (.tup xs)):∀{d:D}{v:V},KR H d v->KR H' d v
 |.int i,v,r=>by assumption
 |.str i,v,r=>by assumption
 |.tup ds,v,r=>by
  obtain⟨a,xs,e,g,rs⟩:=r;exact⟨a,xs,e,t a xs g,KRs.to t rs⟩
 |.non,v,r=>by assumption
 |.bl _,v,r=>by assumption
 |.lst _,v,r=>by assumption
 |.dK _ _,v,r=>by assumption
 |.dD _ _,v,r=>by assumption
theorem KRs.to(t:∀a xs,H a=U (.tup xs)->H' a=U (.tup xs)):∀{ds:Z9 D}{xs:Z9 V},KRs H ds xs->KRs H' ds xs
 |[],xs,r=>by assumption
 |d::ds,xs,r=>by
  obtain⟨x,q,e,Z,O⟩:=r;exact⟨x,q,e,KR.to t Z,KRs.to t O⟩
end
def aau(H:Hp):Z9 (D×V)->Z9 (D×ZP×Z3)->Prop:=Paired λp q=>p.1=q.1/\bf 8 p.1=L/\KR H p.1 (.ref q.2.1)/\RelV p.2 q.2.2
section
variable(P:Za)(w:Y1)
def aaj(H:Hp)(h:Heap)(a:ZP):HO->Prop
 |.lst xs=>xs.length<=sizeLine/\∃(its:Z9 Z3)(n:Nat),aac xs its/\h.get? a=U {cls:=.type "list",data:=.seq its.toArray n}
 |.tup xs=>xs.length<=sizeLine/\∃its:Z9 Z3,aac xs its/\IsTup h a its.toArray
 |.dK kvs=>kvs.length<=sizeLine/\(a==sysModules)=Y/\∃vs,KV kvs vs/\h.DictOf (aI P w) a vs
 |.dD kvs ep=>kvs.length<=sizeLine/\(a==sysModules)=Y/\∃xs,aau H kvs xs/\
   ∃o es,h.get? a=U o/\o.ExactDict/\o.data=.dict es ep/\es.toList=xs.map (entryOfKey (bv P w))/\(xs.map (·.1)).Nodup
 |.own _=>∃o,h.get? a=U o
 |.rng lo hi=>∃t u v,h.get? a=U {cls:=.type "range",data:=.fields #[.int lo t,.int hi u,.int 1 v]}
 |.frz o u=>h.get? a=U o/\aaj H h a u
 |.tbl lq ps=>h.get? a=U {cls:=.none,data:=.fields ps}/\TriplesOk ps.toList/\∀pos cv,codeAmong pos ps.toList=U cv->
   ∃O Z vs t,cv=.ref O/\H O=U (.own a)/\h.get? O=U Z/\Z.data=.fields vs/\vs[1]?=U (.str lq t)
 |.ext φ=>φ h/\(∃o,h.get? a=U o)/\∀h1 h2:Heap,φ h1->(∀o,h1.get? a=U o->h2.get? a=U o)->φ h2
def HOk(H:Hp)(h:Heap):Prop:=∀a o,H a=U o->aaj P w H h a o
end
section
variable{H':Hp}{h':Heap}{a:ZP}{o:HO}
theorem aaj.lt(x:aaj P w H h a o):a<h.objs.size:=by
 cases o with
 |lst xs=>obtain⟨_,_,_,_,e⟩:=x;exact Z1 e
 |tup xs=>obtain⟨_,_,_,p⟩:=x;exact p.lt
 |dK kvs=>obtain⟨_,_,_,_,o,_,_,e,_⟩:=x;exact Z1 e
 |dD kvs ep=>obtain⟨_,_,_,_,o,_,e,_⟩:=x;exact Z1 e
 |own y=>obtain⟨_,e⟩:=x;exact Z1 e
 |rng lo hi=>obtain⟨_,_,_,e⟩:=x;exact Z1 e
 |frz ob u=>obtain⟨e,_⟩:=x;exact Z1 e
 |tbl lq ps=>exact Z1 x.1
 |ext φ=>obtain⟨_,⟨_,e⟩,_⟩:=x;exact Z1 e
theorem Paired.abS{Z O:Type}{F G:Z->O->Prop}:∀{l₁:Z9 Z}{l₂:Z9 O},Paired F l₁ l₂->(∀a b,F a b->G a b)->Paired G l₁ l₂
 |_,_,.nil,_=>.nil
 |_,_,.cons r t,f=>.cons (f _ _ r) (Paired.abS t f)
def aaj.abm(x:aaj P w H h a o)(k:∀b u,(b=a\/H b=U (.own a))->h.get? b=U u->h'.get? b=U u)(ho:∀b,H b=U (.own a)->H' b=U (.own a))(ht:∀b xs,H b=U (.tup xs)->H' b=U (.tup xs)):aaj P w H' h' a o:=by
 induction o with
 |lst xs=>obtain⟨z,its,n,r,e⟩:=x;exact⟨z,its,n,r,k _ _ (.inl rfl) e⟩
 |tup xs=>obtain⟨z,its,r,ob,e,c⟩:=x;exact⟨z,its,r,ob,k _ _ (.inl rfl) e,c⟩
 |dK kvs=>obtain⟨z,y,vs,r,ob,es,ep,e,c⟩:=x;exact⟨z,y,vs,r,ob,es,ep,k _ _ (.inl rfl) e,c⟩
 |dD kvs ep=>
  obtain⟨z,y,xs,r,ob,es,e,c⟩:=x;exact⟨z,y,xs,Paired.abS r λp q z=>⟨z.1,z.2.1,KR.to ht z.2.2.1,z.2.2.2⟩,ob,es,k _ _ (.inl rfl) e,c⟩
 |own y=>obtain⟨ob,e⟩:=x;exact⟨ob,k _ _ (.inl rfl) e⟩
 |rng lo hi=>obtain⟨t,u,v,e⟩:=x;exact⟨t,u,v,k _ _ (.inl rfl) e⟩
 |frz ob u ih=>obtain⟨e,q⟩:=x;exact⟨k _ _ (.inl rfl) e,ih q⟩
 |tbl lq ps=>
  obtain⟨e,tr,r⟩:=x;refine⟨k _ _ (.inl rfl) e,tr,λpos cv q=>?_⟩;obtain⟨c',Z,vs,t,e1,O,e3,e4⟩:=r pos cv q;exact⟨c',Z,vs,t,e1,ho _ O,k _ _ (.inr O) e3,e4⟩
 |ext φ=>obtain⟨p,⟨o,e⟩,st⟩:=x;exact⟨st _ _ p λo q=>k _ _ (.inl rfl) q,⟨o,k _ _ (.inl rfl) e⟩,st⟩
theorem HOk.lt(x:HOk P w H h)(e:H a=U o):a<h.objs.size:=(x a o e).lt
def HOk.fresh(x:HOk P w H h)(e:h.objs.size<=a):H a=M:=by
 cases q:H a with
 |none=>rfl
 |some u=>exact absurd (ZC (x.lt q) e) (Zv _)
def HOk.kept(x:HOk P w H h)(k:∀b u,h.get? b=U u->h'.get? b=U u):HOk P w H h':=λa o e=>
 (x a o e).abm (λb u _ q=>k b u q) (λ_ q=>q) λ_ _ q=>q
def HOk.laid(x:HOk P w H h)(k:∀b u,h.get? b=U u->h'.get? b=U u)(hp:h.objs.size<=a)(new:aaj P w (upd H a o) h' a o):HOk P w (upd H a o) h':=λb u e=>by
 have O:=x.fresh hp;by_cases hb:b=a
 .simp_all [ah]
 rw[aj hb]at e;exact(x b u e).abm (λc v _ q=>k c v q) (λc q=>by rw[aj (aw q O)];exact q) λc xs q=>by rw[aj (aw q O)];exact q
end
def Rd(H:Hp)(a:ZP)(u:HO):Prop:=H a=U u\/∃o,H a=U (.frz o u)
def Rd.ok(r:Rd H a u)(x:HOk P w H h):aaj P w H h a u:=by
 rcases r with r|⟨o,r⟩;exact x a u r;obtain⟨_,q⟩:=x a _ r;exact q
def Mut:Z8 HO->Prop
 |some (.lst _)=>True
 |some (.dK _)=>True
 |some (.dD _ _)=>True
 |some (.ext _)=>True
 |_=>False
section
variable{h':Heap}
def HOk.write(ok:HOk P w H h)(mu:Mut (H x))(he:e=x\/H e=U (.own x))(k:∀b u,b≠e->h.get? b=U u->h'.get? b=U u)(Ql:∃u,h'.get? e=U u)(new:aaj P w (upd H x o') h' x o'):HOk P w (upd H x o') h':=λb u q=>by
 have Z:∀c y,H c=U (.own y)->c≠x:=λc y r z=>by subst z;rw[r]at mu;exact mu
 have O:∀c xs,H c=U (.tup xs)->c≠x:=λc xs r z=>by subst z;rw[r]at mu;exact mu
 by_cases hb:b=x
 .simp_all [ah]
 rw[aj hb]at q;by_cases T2:b=e;have q':H b=U (.own x):=by
  rcases he with z|z;lia;rw[T2];exact z
 rw[q]at q';obtain rfl:=Z7 q';obtain⟨v,hv⟩:=Ql;exact⟨v,by rw[T2];exact hv⟩;refine(ok b u q).abm (λc v hc r=>k c v ?_ r) (λc r=>by rw[aj (Z c b r)];exact r) λc xs r=>by rw[aj (O c xs r)];exact r
 grind
end
structure Un (fs ex:List ZP)(H H':Hp)(h h':Heap):Prop where
 keep:∀b o,h.get? b=some o->H b=none->b∉fs->b∉ex->h'.get? b=some o
 slot:∀b o,h.get? b=some o->H b=none->b∈fs->b∉ex->∃sl,h'.get? b=some {o with slots:=sl}
 free:∀b o,h.get? b=some o->H b=none->b∉ex->H' b=none
 there:∀b o,h.get? b=some o->b∉ex->∃o',h'.get? b=some o'
 aaY:∀b xs,H b=some (.tup xs)->H' b=some (.tup xs)
 aaU:∀b o u,H b=some (.frz o u)->H' b=some (.frz o u)
 aa8:∀b lq ps,H b=some (.tbl lq ps)->∃more,H' b=some (.tbl lq (ps++more))
section
variable{H:Hp}{h h':Heap}
def Un.any(u:Un fs ex H H1 h h1)(q:h.get? b=U ob)(n:H b=M)(O:b∉ex):∃sl,h1.get? b=U {ob with slots:=sl}:=by
 by_cases hb:b∈fs;exact u.slot b ob q n hb O;exact⟨ob.slots,u.keep b ob q n hb O⟩
def Un.kept(k:∀b u,h.get? b=U u->h'.get? b=U u):Un fs ex H H h h':=
 ⟨λb ob q _ _ _=>k b ob q,λb ob q _ _ _=>⟨ob.slots,k b ob q⟩,λ_ _ _ n _=>n,λb ob q _=>⟨ob,k b ob q⟩,λ_ _ q=>q,λ_ _ _ q=>q,λ_ lq ps q=>⟨#[],by rw[q];simp⟩⟩
def Un.refl:Un fs ex H H h h:=Un.kept λ_ _ q=>q
def Un.laid(k:∀b u,h.get? b=U u->h'.get? b=U u)(hp:h.objs.size<=a)(O:H a=M):Un fs ex H (upd H a o) h h' where
 keep:=λb u q _ _ _=>k b u q
 slot:=λb u q _ _ _=>⟨u.slots,k b u q⟩
 free:=λb u q n _=>by rw[aj (ZA (ZC (Z1 q) hp))];exact n
 there:=λb u q _=>⟨u,k b u q⟩
 aaY:=λb xs q=>by rw[aj (aw q O)];exact q
 aaU:=λb u xs q=>by rw[aj (aw q O)];exact q
 aa8:=λb lq ps q=>⟨#[],by rw[aj (aw q O),q];simp⟩
def Un.write(Z:Mut (H x))(he:e=x\/H e=U (.own x))(k:∀b u,b≠e->h.get? b=U u->h'.get? b=U u)(Ql:∃u,h'.get? e=U u):Un fs ex H (upd H x o) h h':=by
 have hx:∀b,H b=M->b≠x:=λb n z=>by subst z;rw[n]at Z;exact Z
 have hb:∀b,H b=M->b≠e:=λb n z=>by
  lia
 have O:∀b u,H b=U u->¬Mut (U u)->b≠x:=λb u q nm z=>by lia
 refine⟨λb u q n _ _=>k b u (hb b n) q,λb u q n _ _=>⟨u.slots,k b u (hb b n) q⟩,λb u q n _=>by rw[aj (hx b n)];exact n,λb u q _=>?_,
  λb xs q=>by rw[aj (O b _ q λz=>z)];exact q,λb u xs q=>by rw[aj (O b _ q λz=>z)];exact q,λb lq ps q=>⟨#[],by rw[aj (O b _ q λz=>z),q];simp⟩⟩
 grind
end
noncomputable def trk(h:Heap)(H:Hp):Z9 ZP:=(List.range h.objs.size).filter λa=>(H a).isSome
noncomputable def yd(h:Heap)(H:Hp):Heap:=W.hideAll h (trk h H)
def se(h:Heap)(H:Hp):(yd h H).objs.size=h.objs.size:=W.hideAll_size _ _
def wB(e:h.get? b=U o)(n:H b=M):(yd h H).get? b=U o:=
 W.hideAll_get _ e λO=>by
  have q:(H b).isSome=L:=(Zi.mp O).2
  simp_all
def Bn(e:(yd h H).get? b=U o):h.get? b=U o/\H b=M:=by
 have e':h.get? b=U o:=W.of_hideAll (trk h H) e;refine⟨e',?_⟩;cases q:H b with
 |none=>rfl
 |some x=>
  have hm:b∈trk h H:=Zi.mpr ⟨Zk.mpr (Z1 e'),by simp[q]⟩;have z:(yd h H).get? b=M:=W.hideAll_none (trk h H) hm;lia
noncomputable def Az(g h:Heap)(Lq:ZP):Z9 (ZP×Obj):=(List.range h.objs.size).filterMap λa=>if a=Lq\/(g.get? a).isSome=L then M else(h.get? a).map λo=>(a,o)
def av(g h:Heap)(Lq d:ZP):Z9 (ZP×Obj):=(Az g h Lq).filter λp=>decide (p.1≠d)
section
structure Mod (K:Z4)(mg:Str->Z8 Z3)(base:Heap):Prop where
 kin:K.In base
 glob:base.Ns mainGlobals mg
 blt:∃mb,base.Ns builtinsNs mb/\∀x:Str,x≠"__name__"->mb x=bootBuiltins x
 nolimit:base.NoLimit
 bmain:∃bm ob,mg "__builtins__"=some (.ref bm)/\bm≠builtinsNs/\base.get? bm=some ob/\ob.cls=.type "module"/\ob.dict=some builtinsNs/\ob.data=.plain
structure Cx where
 prog:Za
 w:Y1
 K:Z4
 mg:Str->Z8 Z3
 base:Heap
 A:Zj
 N:List Str
 e_:ZV
 LI:Hp
 env:Env
 outer:List Env
 stack:List Env
 ex:List ZP
 fn:Str->Bool
 calm:Bool
 pn:List (ZP×Obj)
 xe:Z3->ZV->Prop
noncomputable def frs(l:Z9 Env):Z9 ZP:=l.filterMap (·.frame)
noncomputable abbrev Cx.fs(X:Cx):Z9 ZP:=frs X.outer
def Vis(sc:Scope)(x:Str):Prop:=sc.names.lookup x=U .local\/sc.names.lookup x=U .cell\/sc.names.lookup x=U .free
def Loc(sc:Scope)(x:Str):Prop:=sc.names.lookup x=U .local\/sc.names.lookup x=U .cell
def J6(env:Env)(h:Heap)(m:Str->Z8 Z3)(x:Str)(u:Z3):Prop:=
 (env.kindOf x=U .local/\m x=U u)\/((env.kindOf x=U .cell\/env.kindOf x=U .free)/\∃c,env.cells.lookup x=U c/\h.IsCell c (U u))
variable[Lams]
def abT(H:Hp):Prop:=∀q∈Lams.tb,∃ps,H q.1=U (.tbl q.2 ps)
def abT.to(h:abT H)(tb:∀b lq ps,H b=U (.tbl lq ps)->∃more,H' b=U (.tbl lq (ps++more))):abT H':=λq O=>by
 obtain⟨ps,e⟩:=h q O;obtain⟨m,Z⟩:=tb _ _ _ e;exact⟨_,Z⟩
structure Cx.Ok (X:Cx):Prop where
 mod:Mod X.K X.mg X.base
 kind:X.env.scope.kind=.function
 glob:X.env.globals=mainGlobals
 blt:X.env.builtins=builtinsNs
 above:X.e_.heap.objs.size<=X.env.locals
 inj:∀x y c,X.env.cells.lookup x=some c->X.env.cells.lookup y=some c->x=y
 has:∀x,(X.env.kindOf x=some .cell\/X.env.kindOf x=some .free)->∃c,X.env.cells.lookup x=some c
 cab:∀x c,X.fn x=true->X.env.cells.lookup x=some c->X.e_.heap.objs.size<=c
 hd:X.calm=true->X.A.handled=none
 frames:X.A.frames=some X.stack
 stk:X.stack=X.outer\/(X.stack=X.env::X.outer/\X.env.frame=some X.env.locals)
 exf:∀b∈X.ex,b≠X.env.locals/\∀x c,X.env.cells.lookup x=some c->c≠b
 bs:∀b o,X.base.get? b=some o->X.e_.heap.get? b=some o/\X.LI b=none
 bsz:X.base.objs.size<=X.e_.heap.objs.size
 ab4:∀b o,X.base.get? b=some o->b∉X.ex
 ace:∀b∈X.ex,b∉X.fs
 aa9:X.e_.heap.FunFrames X.base X.outer
 frf:∀b∈X.fs,X.LI b=none
 tabs:abT X.LI
structure Inv (X:Cx)(pins:List (ZP×Obj))(σ:List (Z8 V))(H:Hp)(s:ZV):Prop where
 ok:X.Ok
 os:s.os=X.e_.os
 bare:AllBare s.gens
 base:Un X.fs X.ex X.LI H X.e_.heap s.heap
 loc:∃m,s.heap.Ns X.env.locals m/\∀(i:Nat)(x:Str)(v:V),X.N[i]?=some x->σ[i]?=some (some v)->Vis X.env.scope x->∃u,RelV v u/\J6 X.env s.heap m x u
 cell:∀x c,X.env.cells.lookup x=some c->∃v,s.heap.IsCell c v
 free:H X.env.locals=none
 aaR:∀x c,X.env.cells.lookup x=some c->H c=none
 pin:∀p∈X.pn++pins,s.heap.get? p.1=some p.2/\H p.1=none/\p.1≠X.env.locals/\p.1∉X.fs/\∀v,p.2.data≠.cell v
 hok:HOk X.prog X.w H s.heap
 len:σ.length=X.N.length
section
variable{X:Cx}{H':Hp}{h':Heap}
def Cx.Ok.acJ(ok:X.Ok)(e:X.base.get? b=U o):b∉X.fs:=λhb=>by
 have:=(ok.aa9.mem hb).1;lia
theorem Inv.bs(I:Inv X pins σ H s):∀b o,X.base.get? b=U o->s.heap.get? b=U o/\H b=M:=λb o e=>
 ⟨I.base.keep b o (I.ok.bs b o e).1 (I.ok.bs b o e).2 (I.ok.acJ e) (I.ok.ab4 b o e),I.base.free b o (I.ok.bs b o e).1 (I.ok.bs b o e).2 (I.ok.ab4 b o e)⟩
def Inv.bk(I:Inv X pins σ H s):∀b o,X.base.get? b=U o->s.heap.get? b=U o:=λb o e=>(I.bs b o e).1
theorem Inv.mod(I:Inv X pins σ H s):Mod X.K X.mg X.base:=I.ok.mod
def Inv.kIn(I:Inv X pins σ H s):X.K.In s.heap:=I.ok.mod.kin.keeps I.bk
theorem Inv.lt(I:Inv X pins σ H s):X.env.locals<s.z:=let ⟨_,hn,_⟩:=I.loc;hn.lt
def Inv.sz(I:Inv X pins σ H s):X.e_.z<=s.z:=ZL I.ok.above (XH I.lt)
def Inv.acn(I:Inv X pins σ H s)(h:s.z<=a):a∉X.fs:=λhb=>by
 obtain⟨_,o,O,_⟩:=I.ok.aa9.mem hb;exact absurd (ZC (Z1 O) (ZL I.sz h)) (Zv _)
def Inv.cne(I:Inv X pins σ H s):∀x c,X.env.cells.lookup x=U c->c≠X.env.locals:=λx c e z=>by
 obtain⟨v,o,ho,hd⟩:=I.cell x c e;obtain⟨m,⟨o',es,ep,O,Z,_⟩,_⟩:=I.loc;lia
theorem Inv.aa9(I:Inv X pins σ H s):s.heap.FunFrames X.base X.outer:=by
 have all:∀(l:Z9 Env),(∀b∈frs l,b∈X.fs)->X.e_.heap.FunFrames X.base l->s.heap.FunFrames X.base l:=by
  intro l
  induction l with
  |nil=>intro _ _;trivial
  |cons env r ih=>
   intro hs hl;obtain⟨hk,⟨Lq,o,O,hn,ho,hd⟩,hr⟩:=hl;have Z:Lq∈X.fs:=hs Lq (by unfold frs;rw[List.filterMap_cons,O];exact ZR);obtain⟨sl,e⟩:=I.base.slot Lq o ho (I.ok.frf Lq Z) Z λz=>I.ok.ace Lq z Z;exact⟨hk,⟨Lq,_,O,hn,e,hd⟩,ih (λb hb=>hs b (by unfold frs;rw[List.filterMap_cons,O];exact ZY _ hb)) hr⟩
 exact all X.outer (λ_ hb=>hb) I.ok.aa9
theorem Inv.stack(I:Inv X pins σ H s):s.heap.FunFrames X.base X.stack:=by
 rcases I.ok.stk with e|⟨e,Z⟩;rw[e];exact I.aa9;rw[e];obtain⟨m,O,_⟩:=I.loc;refine .cons (by rw[I.ok.kind];decide) Z O ?_ I.aa9;exact Heap.get?_none_of_le (ZL I.ok.bsz I.ok.above)
def Inv.abe(I:Inv X pins σ H s):∀b∈frs X.stack,b∈X.env.locals::X.fs:=λb hb=>by
 rcases I.ok.stk with e|⟨e,O⟩;rw[e]at hb;exact ZY _ hb;rw[e]at hb;unfold frs at hb;rw[List.filterMap_cons,O]at hb;exact hb
def Inv.abL(I:Inv X pins σ H s):∀b∈frs X.stack,H b=M:=λb hb=>by
 rcases ZT.mp (I.abe b hb)with e|hb;rw[e];exact I.free;obtain⟨_,o,O,_⟩:=I.ok.aa9.mem hb;exact I.base.free b o O (I.ok.frf b hb) λz=>I.ok.ace b z hb
def Inv.step{g':Array GenState}{t':Nat}{d':Drawn}{ch:Z9 ZP}(I:Inv X pins σ H s)
  (MZ:∀b∈ch,(b∈X.ex\/X.e_.z<=b)/\b≠X.env.locals/\(∀x c,X.env.cells.lookup x=U c->c≠b)/\∀p∈X.pn++pins,p.1≠b)
  (keep:∀b o,b≠X.env.locals->b∉X.fs->b∉ch->s.heap.get? b=U o->H b=M->h'.get? b=U o)
  (slot:∀b o,b≠X.env.locals->b∈X.fs->b∉ch->s.heap.get? b=U o->H b=M->∃sl,h'.get? b=U {o with slots:=sl}) (free:∀b o,b∉ch->s.heap.get? b=U o->H b=M->H' b=M)
  (there:∀b o,b∉ch->s.heap.get? b=U o->∃o',h'.get? b=U o')
  (aaY:∀b xs,H b=U (.tup xs)->H' b=U (.tup xs)) (aaU:∀b o u,H b=U (.frz o u)->H' b=U (.frz o u)) (aa8:∀b lq ps,H b=U (.tbl lq ps)->∃more,H' b=U (.tbl lq (ps++more)))
  (ns:∀m,s.heap.Ns X.env.locals m->h'.Ns X.env.locals m)(hok:HOk X.prog X.w H' h')(hg:AllBare g'):
  Inv X pins σ H' {s with heap:=h',gens:=g',drawn:=d',toks:=t'}:=by
 have S8:∀b o,X.e_.heap.get? b=U o->b≠X.env.locals:=λb o e=>ZA (ZC (Z1 e) I.ok.above);have P9:∀b o,X.e_.heap.get? b=U o->b∉X.ex->b∉ch:=λb o e O hb=>by
  rcases(MZ b hb).1 with z|z;exact O z;exact absurd (ZC (Z1 e) z) (Zv _)
 have cellK:∀x c,X.env.cells.lookup x=U c->∀v,s.heap.IsCell c v->h'.IsCell c v:=λx c e v hz=>by
  obtain⟨o,ho,hd⟩:=hz;have Z:c∉ch:=λz=>(MZ c z).2.2.1 x c e rfl;by_cases hc:c∈X.fs;obtain⟨sl,q⟩:=slot c o (I.cne x c e) hc Z ho (I.aaR x c e);exact⟨_,q,hd⟩;exact⟨o,keep c o (I.cne x c e) hc Z ho (I.aaR x c e),hd⟩
 refine⟨I.ok,I.os,hg,⟨λb o e n hb O=>?_,λb o e n hb O=>?_,λb o e n O=>?_,λb o e O=>?_,λb xs e=>aaY b xs (I.base.aaY b xs e),λb o xs e=>aaU b o xs (I.base.aaU b o xs e),λb lq ps e=>?_⟩,?_,λx c e=>?_,?_,λx c e=>?_,λp hp=>?_,hok,I.len⟩;exact keep b o (S8 b o e) hb (P9 b o e O) (I.base.keep b o e n hb O) (I.base.free b o e n O);obtain⟨sl,e1⟩:=I.base.slot b o e n hb O;obtain⟨U3,e2⟩:=slot b _ (S8 b o e) hb (P9 b o e O) e1 (I.base.free b o e n O);exact⟨U3,e2⟩;obtain⟨o',e1⟩:=I.base.there b o e O;exact free b o' (P9 b o e O) e1 (I.base.free b o e n O);obtain⟨o',e1⟩:=I.base.there b o e O;exact there b o' (P9 b o e O) e1;obtain⟨m1,e1⟩:=I.base.aa8 b lq ps e
 grind
 obtain⟨m,hn,hl⟩:=I.loc;refine⟨m,ns m hn,λi x v e1 e2 e3=>?_⟩;obtain⟨u,r,l⟩:=hl i x v e1 e2 e3;refine⟨u,r,?_⟩;rcases l with l|⟨k,c,e,z⟩;exact .inl l;exact .inr ⟨k,c,e,cellK x c e _ z⟩;obtain⟨v,z⟩:=I.cell x c e;exact⟨v,cellK x c e v z⟩;obtain⟨m,⟨o,_,_,ho,_⟩,_⟩:=I.loc;exact free _ o (λz=>(MZ _ z).2.1 rfl) ho I.free;obtain⟨v,o,ho,hd⟩:=I.cell x c e;exact free c o (λz=>(MZ c z).2.2.1 x c e rfl) ho (I.aaR x c e);obtain⟨e,n,ne,nf,d⟩:=I.pin p hp;have Z:p.1∉ch:=λz=>(MZ p.1 z).2.2.2 p hp rfl
 exact⟨keep p.1 p.2 ne nf Z e n,free p.1 p.2 Z e n,ne,nf,d⟩
def Inv.un(I:Inv X pins σ H s)(u:Un X.fs [] H H' s.heap h')(hok:HOk X.prog X.w H' h'):Inv X pins σ H' {s with heap:=h',toks:=t'}:=by
 obtain⟨m,⟨o,es,ep,ho,r⟩,_⟩:=id I.loc;obtain⟨sl,hL⟩:=u.any ho I.free (by simp);exact I.step (g':=s.gens) (d':=s.drawn) (ch:=[]) (λ_ z=>nomatch z) (λb o _ hb _ e n=>u.keep b o e n hb (by simp)) (λb o _ hb _ e n=>u.slot b o e n hb (by simp)) (λb o _ e n=>u.free b o e n (by simp)) (λb o _ e=>u.there b o e (by simp)) u.aaY u.aaU u.aa8 (λm' hm=>by
  obtain⟨o',es',Z,O,r'⟩:=hm;rw[ho]at O;obtain rfl:=Z7 O;exact⟨_,es',Z,hL,r'⟩) hok I.bare
def Inv.call(I:Inv X pins σ H s)(u:Un (frs X.stack) ch H H' s.heap h')(hok:HOk X.prog X.w H' h')(hg:AllBare g')(MZ:∀b∈ch,(b∈X.ex\/X.e_.z<=b)/\b≠X.env.locals/\(∀x c,X.env.cells.lookup x=U c->c≠b)/\∀p∈X.pn++pins,p.1≠b):
  Inv X pins σ H' {s with heap:=h',gens:=g',drawn:=d',toks:=t'}:=by
 obtain⟨m,⟨o,es,ep,ho,r⟩,_⟩:=id I.loc;obtain⟨sl,hL⟩:=u.any ho I.free λz=>(MZ _ z).2.1 rfl;exact I.step (ch:=ch) MZ (λb o hL hb O e n=>u.keep b o e n (λz=>(ZT.mp (I.abe b z)).elim hL hb) O) (λb o _ _ O e n=>u.any e n O) (λb o O e n=>u.free b o e n O) (λb o O e=>u.there b o e O) u.aaY u.aaU u.aa8 (λm' hm=>by
  obtain⟨o',es',K2,Z,r'⟩:=hm;rw[ho]at Z;obtain rfl:=Z7 Z;exact⟨_,es',K2,hL,r'⟩) hok hg
def Inv.turned{t':Nat}{it:ZP}(I:Inv X pins σ H s)(k:∀b o,b≠it->s.heap.get? b=U o->h'.get? b=U o)(hn:H it=M)(Z:it≠X.env.locals)
  (h1:it∈X.ex\/X.e_.z<=it)(h2:∀x c,X.env.cells.lookup x=U c->c≠it)(h3:∀p∈X.pn++pins,p.1≠it):Inv X pins σ H {s with heap:=h',toks:=t'}:=by
 refine I.step (g':=s.gens) (d':=s.drawn) (ch:=[it]) (λb hb=>?_) (λb o _ _ O e _=>k b o (λz=>O (by simp[z])) e) (λb o _ _ O e _=>⟨o.slots,k b o (λz=>O (by simp[z])) e⟩) (λ_ _ _ _ n=>n)
  (λb o O e=>⟨o,k b o (λz=>O (by simp[z])) e⟩) (λ_ _ e=>e) (λ_ _ _ e=>e) (λb lq ps e=>⟨#[],by rw[e];simp⟩) (λm hm=>?_) (λb u e=>?_) I.bare
 have e:b=it:=by simpa using hb
 subst e;exact⟨h1,Z,h2,h3⟩;obtain⟨o,es,ep,ho,r⟩:=hm;exact⟨o,es,ep,k _ o (ZF Z) ho,r⟩;refine(I.hok b u e).abm (λc v O q=>k c v ?_ q) (λ_ q=>q) λ_ _ q=>q;lia
def Inv.tok(I:Inv X pins σ H s)(t:Nat):Inv X pins σ H {s with toks:=t}:=I.un (h':=s.heap) (t':=t) Un.refl I.hok
theorem Inv.kept(I:Inv X pins σ H s)(k:∀b u,s.heap.get? b=U u->h'.get? b=U u):Inv X pins σ H {s with heap:=h',toks:=t'}:=I.un (Un.kept k) (I.hok.kept k)
theorem Inv.laid(I:Inv X pins σ H s)(k:∀b u,s.heap.get? b=U u->h'.get? b=U u)(hp:s.z<=a)(new:aaj X.prog X.w (upd H a o) h' a o):
  Inv X pins σ (upd H a o) {s with heap:=h',toks:=t'}:=I.un (Un.laid k hp (I.hok.fresh hp)) (I.hok.laid k hp new)
theorem Inv.write(I:Inv X pins σ H s)(Z:Mut (H x))(he:e=x\/H e=U (.own x))(k:∀b u,b≠e->s.heap.get? b=U u->h'.get? b=U u)(O:∃u,h'.get? e=U u)(new:aaj X.prog X.w (upd H x o) h' x o):Inv X pins σ (upd H x o) {s with heap:=h',toks:=t'}:=I.un (Un.write Z he k O) (I.hok.write Z he k O new)
def Inv.aaL(I:Inv X pins σ H s)(h:∀p∈Ki,s.heap.get? p.1=U p.2/\H p.1=M/\p.1≠X.env.locals/\p.1∉X.fs/\∀v,p.2.data≠.cell v):Inv X Ki σ H s:=
 ⟨I.ok,I.os,I.bare,I.base,I.loc,I.cell,I.free,I.aaR,λp hp=>(Zc.mp hp).elim (λz=>I.pin p (Y2 _ z)) (h p),I.hok,I.len⟩
def pG{N:Z9 Str}(O:N.Nodup){i j:Nat}{x:Str}(a:N[i]?=U x)(b:N[j]?=U x):i=j:=by
 obtain⟨h1,e1⟩:=ZO.mp a;obtain⟨h2,Z⟩:=ZO.mp b;exact(List.getElem_inj O).mp (e1.trans Z.symm)
def kq(I:Inv X pins σ H s)(hN:X.N.Nodup)(hi:X.N[i]?=U x)(hx:Loc X.env.scope x)(r:RelV v u)(h:∀s',Inv X pins (σ.set i (U v)) H s'->(∃a,Heap.SameBut a s.heap s'.heap/\(a=X.env.locals\/X.env.cells.lookup x=U a))->Q () s')(hf:X.fn x=L\/X.env.scope.names.lookup x=U .local):wpAny Mq A (storeName X.env x u) Q E s:=by
 obtain⟨m,hn,hl⟩:=id I.loc;have Sv:(X.env.scope.kind==.class||(X.env.scope.kind==.module&&X.env.locals != X.env.globals))=Y:=by rw[I.ok.kind];rfl
 have PB:i<σ.length:=by rw[I.len];exact(ZO.mp hi).1
 have cne:=I.cne;have Z:∀{a:ZP}{h':Heap},(∃o,s.heap.get? a=U o/\H a=M)->Heap.SameBut a s.heap h'->HOk X.prog X.w H h':=λ{a h'} ha O b ob e=>by
  obtain⟨_,_,UA⟩:=ha;refine(I.hok b ob e).abm (λc w' hc q=>(O.2 c ?_).trans q) (λ_ q=>q) λ_ _ q=>q;lia
 rcases hx with hk|hk;refine wpAny_storeName_local hk hn (λh' Mr O=>?_) Sv;obtain⟨oL,_,_,Ni,_⟩:=id hn;refine h _ ⟨I.ok,I.os,I.bare,⟨λb o e n hb hx=>?_,λb o e n hb hx=>?_,I.base.free,λb o e hx=>?_,I.base.aaY,I.base.aaU,I.base.aa8⟩,⟨_,Mr,λj y v' e1 e2 e3=>?_⟩,λy c e=>?_,I.free,I.aaR,λp hp=>?_,Z ⟨oL,Ni,I.free⟩ O,by simpa using I.len⟩ ⟨_,O,.inl rfl⟩;exact(O.2 b (ZA (ZC (Z1 e) I.ok.above))).trans (I.base.keep b o e n hb hx);obtain⟨sl,e1⟩:=I.base.slot b o e n hb hx;exact⟨sl,(O.2 b (ZA (ZC (Z1 e) I.ok.above))).trans e1⟩;obtain⟨o',e1⟩:=I.base.there b o e hx;exact⟨o',(O.2 b (ZA (ZC (Z1 e) I.ok.above))).trans e1⟩;by_cases hj:j=i;subst hj;rw[hi]at e1;obtain rfl:=Z7 e1;rw[Zh PB]at e2;cases e2;exact⟨u,r,.inl ⟨hk,by simp⟩⟩;rw[ZN (ZF hj)]at e2;obtain⟨u',r',q⟩:=hl j y v' e1 e2 e3;refine⟨u',r',?_⟩;rcases q with⟨k,e⟩|⟨k,c,e,z⟩;refine .inl ⟨k,?_⟩;have:y≠x:=λe=>hj (pG hN e1 (e▸hi))
 simp[this,e];exact .inr ⟨k,c,e,z.sameBut O (cne y c e)⟩;obtain⟨w',z⟩:=I.cell y c e;exact⟨w',z.sameBut O (cne y c e)⟩;obtain⟨e,n,ne,nf,d⟩:=I.pin p hp;exact⟨(O.2 p.1 ne).trans e,n,ne,nf,d⟩;have Rn:X.fn x=L:=by
  rcases hf with z|z;exact z;lia
 obtain⟨c,hc⟩:=I.ok.has x (.inl hk);obtain⟨w',z⟩:=I.cell x c hc;refine wpAny_storeName_cell I.ok.kind hk hc z (λh' Om O=>?_);obtain⟨oc,OM,Sn⟩:=id z;refine h {s with heap:=h'} ⟨I.ok,I.os,I.bare,⟨λb o e n hb hx=>?_,λb o e n hb hx=>?_,I.base.free,λb o e hx=>?_,I.base.aaY,I.base.aaU,I.base.aa8⟩,⟨m,hn.sameBut O (ZF (cne x c hc)),λj y v' e1 e2 e3=>?_⟩,λy c' e=>?_,I.free,I.aaR,λp hp=>?_,Z ⟨oc,OM,I.aaR x c hc⟩ O,by simpa using I.len⟩ ⟨c,O,.inr hc⟩;exact(O.2 b (ZA (ZC (Z1 e) (I.ok.cab x c Rn hc)))).trans (I.base.keep b o e n hb hx);obtain⟨sl,e1⟩:=I.base.slot b o e n hb hx;exact⟨sl,(O.2 b (ZA (ZC (Z1 e) (I.ok.cab x c Rn hc)))).trans e1⟩;obtain⟨o',e1⟩:=I.base.there b o e hx;exact⟨o',(O.2 b (ZA (ZC (Z1 e) (I.ok.cab x c Rn hc)))).trans e1⟩;by_cases hj:j=i;subst hj;rw[hi]at e1;obtain rfl:=Z7 e1;rw[Zh PB]at e2;cases e2;exact⟨u,r,.inr ⟨.inl hk,c,hc,Om⟩⟩;rw[ZN (ZF hj)]at e2;obtain⟨u',r',q⟩:=hl j y v' e1 e2 e3;refine⟨u',r',?_⟩;rcases q with q|⟨k,c',e,z'⟩;exact .inl q;refine .inr ⟨k,c',e,z'.sameBut O ?_⟩
 rintro rfl
 exact hj (pG hN e1 (I.ok.inj _ _ _ e hc▸hi));by_cases TZ:c'=c;subst TZ;exact⟨_,Om⟩;obtain⟨w2,z2⟩:=I.cell y c' e;exact⟨w2,z2.sameBut O TZ⟩;obtain⟨e,n,ne,nf,d⟩:=I.pin p hp;refine⟨(O.2 p.1 ?_).trans e,n,ne,nf,d⟩;intro q;rw[q,OM]at e;have q':oc=p.2:=Z7 e;exact d w' (by rw[<-q'];exact Sn)
def iY{Q:Unit->ZV->Prop}(I:Inv X pins σ H s)(hN:X.N.Nodup)(hi:X.N[i]?=U x)(Z:Loc X.env.scope x)(r:RelV v u)(h:∀O,Inv X pins (σ.set i (U v)) H O->Q () O)(hf:X.fn x=L\/X.env.scope.names.lookup x=U .local):wpAny Mq A (storeName X.env x u) Q E s:=
 kq I hN hi Z r (λO I' _=>h O I') hf
def Inv.acH(I:Inv X pins σ H s)(ho:s'.os=s.os)(u:Un (frs X.stack) ch H H' s.heap s'.heap)(hok:HOk X.prog X.w H' s'.heap)(hg:AllBare s'.gens)(O:∀b∈ch,(b∈X.ex\/X.e_.z<=b)/\b≠X.env.locals/\(∀x c,X.env.cells.lookup x=U c->c≠b)/\∀p∈X.pn++pins,p.1≠b):Inv X pins σ H' s':=by
 obtain⟨h',g',d',t',Z⟩:=s';have e:Z=s.os:=ho;subst e;exact I.call (g':=g') (t':=t') (d':=d') u hok hg O
end
abbrev XK:=Z3->Z8 ZP->Hp->Prop
abbrev St:=Z9 (Z8 V)
abbrev VK:=V->Hp->Prop
abbrev TE:=St->Hp->VK->Prop
abbrev TT:=St->Hp->(Bool->Hp->Prop)->Prop
abbrev TA:=St->Hp->(Z9 V->Hp->Prop)->Prop
structure Ends where
 nx:St->Hp->Prop
 rt:VK
 bk:St->Hp->Prop:=λ_ _=>False
 ct:St->Hp->Prop:=λ_ _=>False
abbrev TS:=Ends->St->Hp->Prop
def EP(X:Cx)(pins:Z9 (ZP×Obj))(σ:St)(Q:VK)(u:Z3)(O:ZV):Prop:=∃v H',Inv X pins σ H' O/\RelV v u/\Q v H'
def TP(X:Cx)(pins:Z9 (ZP×Obj))(σ:St)(Q:Bool->Hp->Prop)(b:Bool)(O:ZV):Prop:=∃H',Inv X pins σ H' O/\Q b H'
def AP(X:Cx)(pins:Z9 (ZP×Obj))(σ:St)(Q:Z9 V->Hp->Prop)(us:Z9 Z3)(O:ZV):Prop:=∃vs H',Inv X pins σ H' O/\aac vs us/\Q vs H'
def SP(X:Cx)(pins:Z9 (ZP×Obj))(D:Ends)(f:Flow)(Z:ZV):Prop:=
 match f with
 |.next=>∃O H',Inv X pins O H' Z/\D.nx O H'
 |.brk=>∃O H',Inv X pins O H' Z/\D.bk O H'
 |.cont=>∃O H',Inv X pins O H' Z/\D.ct O H'
 |.ret u=>∃v O H',Inv X pins O H' Z/\RelV v u/\D.rt v H'
def PE(X:Cx)(e:Expr)(t:TE):Prop:=
 ∀(pins:Z9 (ZP×Obj))(s:ZV)(σ:St)(H:Hp)(Q:VK),Inv X pins σ H s->t σ H Q->wpAny (model X.prog X.w) X.A (eval e X.env) (EP X pins σ Q) X.xe s
def PT(X:Cx)(e:Expr)(t:TT):Prop:=
 ∀(pins:Z9 (ZP×Obj))(s:ZV)(σ:St)(H:Hp)(Q:Bool->Hp->Prop),Inv X pins σ H s->t σ H Q->wpAny (model X.prog X.w) X.A (isTrue e X.env (eval e X.env)) (TP X pins σ Q) X.xe s
def PW(X:Cx)(e:Expr)(t:TT):Prop:=
 ∀(O:Sem Z3)(pins:Z9 (ZP×Obj))(s:ZV)(σ:St)(H:Hp)(Q:Bool->Hp->Prop),Inv X pins σ H s->t σ H Q->wpAny (model X.prog X.w) X.A (isTrue e X.env O) (TP X pins σ Q) X.xe s
def PW.pt(h:PW X e t):PT X e t:=h _
def PA(X:Cx)(es:Z9 Expr)(t:TA):Prop:=
 ∀(pos:Pos)(pins:Z9 (ZP×Obj))(s:ZV)(σ:St)(H:Hp)(Q:Z9 V->Hp->Prop),Inv X pins σ H s->t σ H Q->wpAny (model X.prog X.w) X.A (spliced (backTo pos (starEach es X.env))) (AP X pins σ Q) X.xe s
def PS(X:Cx)(st:Stmt)(t:TS):Prop:=
 ∀(pins:Z9 (ZP×Obj))(s:ZV)(σ:St)(H:Hp)(D:Ends),Inv X pins σ H s->t D σ H->wpAny (model X.prog X.w) X.A (exec st X.env) (SP X pins D) X.xe s
def PSs(X:Cx)(st:Z9 Stmt)(t:TS):Prop:=
 ∀(pins:Z9 (ZP×Obj))(s:ZV)(σ:St)(H:Hp)(D:Ends),Inv X pins σ H s->t D σ H->wpAny (model X.prog X.w) X.A (execs st X.env) (SP X pins D) X.xe s
def thn{O:Type}{t:Sem O}{Q Z:O->ZV->Prop}{Mq:Model}{A:Zj}{E:Z3->ZV->Prop}{s:ZV}(h:wpAny Mq A t Q E s)(hQ:∀a s,Q a s->Z a s):wpAny Mq A t Z E s:=YS h hQ λ_ _ x=>x
end
variable[Lams]
section
variable{X:Cx}
def t5(i:Nat):TE:=λσ H Q=>∃v,σ[i]?=U (U v)/\Q v H
def tC(v:V):TE:=λ_ H Q=>Q v H
def bA(hN:X.N[i]?=U x)(hv:Vis X.env.scope x)(hd:(x==("__debug__":Str))=Y:=by decide)(Ks:(x==("__classdict__":Str))=Y:=by decide):PE X (.Name x pos) (t5 i):=by
 intro pins s σ H Q I h;obtain⟨v,e,h⟩:=h;obtain⟨m,hn,hl⟩:=I.loc;obtain⟨u,r,l⟩:=hl i x v hN e hv;have fin:EP X pins σ Q u s:=⟨v,H,I,r,h⟩
 rcases l with⟨Z,hm⟩|⟨Z,c,hc,O⟩;exact wpAny_Name (wpAny_loadName_local I.ok.kind Z hn hm fin) hd;rcases Z with Z|Z;exact wpAny_Name (wpAny_loadName_cell I.ok.kind Z hc O fin) hd;exact wpAny_Name (wpAny_loadName_free I.ok.kind Z hc O fin Ks) hd
def vE{i j pos}:PE X (.Constant (.int i) j pos) (tC (.int i)):=λ_ _ _ H _ I h=>wpAny_Constant_int ⟨.int i,H,I.tok _,⟨_,rfl⟩,h⟩
def Es{b j pos}:PE X (.Constant (.bool b) j pos) (tC (.bl b)):=λ_ _ _ H _ I h=>Constant_bool ⟨.bl b,H,I,rfl,h⟩
def Ds{j pos}:PE X (.Constant .none j pos) (tC .non):=λ_ _ _ H _ I h=>Constant_none ⟨.non,H,I,rfl,h⟩
def Cg{x j pos}:PE X (.Constant (.str x) j pos) (tC (.str x)):=λ_ _ _ H _ I h=>Calls.Constant_str ⟨.str x,H,I.tok _,⟨_,rfl⟩,h⟩
def Gl(X:Cx)(x:Str):Prop:=X.env.kindOf x=U .globalImplicit
def AG(I:Inv X pins σ H s)(Z:Gl X x)(O:X.mg x=U u)(h:Q u s)(hd:(x==("__debug__":Str))=Y:=by decide):wpAny (model X.prog X.w) X.A (eval (.Name x pos) X.env) Q E s:=
 Calls.Name_function_global I.ok.kind Z (Calls.loadGlobal_global (by rw[I.ok.glob];exact I.mod.glob.keeps I.bk) O h) hd
def cF{E:Z3->ZV->Prop}{pos:Pos}{Q:Z3->ZV->Prop}(I:Inv X pins σ H s)(hg:Gl X x)(hm:X.mg x=M)(O:bootBuiltins x=U u)(h:Q u s)(Z:x≠"__name__":=by decide)(hd:(x==("__debug__":Str))=Y:=by decide):wpAny (model X.prog X.w) X.A (eval (.Name x pos) X.env) Q E s:=by
 obtain⟨mb,h1,h2⟩:=I.mod.blt;exact Calls.Name_function_global I.ok.kind hg (Calls.loadGlobal_builtin (by rw[I.ok.glob];exact I.mod.glob.keeps I.bk) hm (by rw[I.ok.blt];exact h1.keeps I.bk) ((h2 x Z).trans O) h) hd
def A3(hg:Gl X x)(hm:X.mg x=M)(O:bootBuiltins x=U u)(r:RelV v u)(Z:x≠"__name__":=by decide)(hd:(x==("__debug__":Str))=Y:=by decide):PE X (.Name x pos) (tC v):=
 λ_ _ _ H _ I h=>cF I hg hm O ⟨v,H,I,r,h⟩ Z hd
variable{a b:Expr}{ta tb:TE}{pos:Pos}
def PC(X:Cx)(op:CmpOp)(a b:Expr)(t:TE):Prop:=
 ∀(pins:Z9 (ZP×Obj))(s:ZV)(σ:St)(H:Hp)(Q:VK),Inv X pins σ H s->t σ H Q->
  wpAny (model X.prog X.w) X.A (eval a X.env) (λv Z=>wpAny (model X.prog X.w) X.A (eval b X.env) (λu O=>wpAny (model X.prog X.w) X.A (compareOp op v u) (EP X pins σ Q) X.xe O) X.xe Z) X.xe s
def E3(b:Expr)(h:op≠.In)(h2:op≠.NotIn):behindInMarks op b=Y:=by
 have Z:(op==CmpOp.In)=Y:=by cases op<;>first|rfl|lia
 have O:(op==CmpOp.NotIn)=Y:=by cases op<;>first|rfl|lia
 cases b<;>simp[behindInMarks,Z,O]
def tB(t:TE):TT:=λσ H Q=>t σ H λx O=>∃c,x=.bl c/\Q c O
def GZ{op:CmpOp}{t:TE}(h:PC X op a b t)(h1:behindInMarks op b=Y):PT X (.Compare a [op] [b] pos) (tB t):=by
 intro pins s σ H Q I hw;refine wpAny_isTrue_Compare1 (thn (h pins s σ H _ I hw) λv s1 h1=>thn h1 λu s2 h2=>thn h2 λc s3 ⟨x,H1,I1,O,Z⟩=>?_) h1;obtain⟨d,rfl,q⟩:=Z;cases O;exact YR ⟨H1,I1,q⟩
noncomputable def DM{e:Expr}{t:TE}(h:PE X e t)(he:∀O,isTrue e X.env O=(do let v <-O;standAt e.pos;holding [v] (truthy v)):=by intro _;rfl):PT X e (tB t):=by
 intro pins s σ H Q I hw;refine isTrue_plain (thn (h pins s σ H _ I hw) λv s1 ⟨x,H1,I1,Z,q1⟩=>?_) (he _);obtain⟨d,rfl,q⟩:=q1;cases Z;exact YR ⟨H1,I1,q⟩
variable{tA P2:TT}{av:Z9 Expr}
def JU(t u:TT):TT:=λσ H Q=>t σ H λc O=>if c=L then u σ O Q else Q Y O
def tOr(t u:TT):TT:=λσ H Q=>t σ H λc O=>if c=L then Q L O else u σ O Q
def Iy(t:TT):TT:=λσ H Q=>t σ H λc O=>Q (!c) O
def Bb(ha:PT X a tA):PW X (.BoolOp .And [a] pos) tA:=by
 intro wh pins s σ H Q I h;refine isTrue_and (thn (ha pins s σ H Q I h) λc s1 e=>?_);cases c with
 |true=>exact isTrue_and_nil e
 |false=>exact e
def Ev(ha:PT X a tA):PW X (.BoolOp .Or [a] pos) tA:=by
 intro wh pins s σ H Q I h;refine isTrue_or (thn (ha pins s σ H Q I h) λc s1 e=>?_);cases c with
 |false=>exact isTrue_or_nil e
 |true=>exact e
def B6(ha:PT X a tA)(hb:PW X (.BoolOp .And (b::av) pos) P2):PW X (.BoolOp .And (a::b::av) pos) (JU tA P2):=by
 intro wh pins s σ H Q I h;refine isTrue_and (thn (ha pins s σ H _ I h) λc s1 hz=>?_);obtain⟨H1,I1,q1⟩:=hz;cases c with
 |true=>exact hb wh pins s1 σ H1 Q I1 q1
 |false=>exact⟨H1,I1,q1⟩
def GG(ha:PT X a tA)(hb:PW X (.BoolOp .Or (b::av) pos) P2):PW X (.BoolOp .Or (a::b::av) pos) (tOr tA P2):=by
 intro wh pins s σ H Q I h;refine isTrue_or (thn (ha pins s σ H _ I h) λc s1 hz=>?_);obtain⟨H1,I1,q1⟩:=hz;cases c with
 |true=>exact⟨H1,I1,q1⟩
 |false=>exact hb wh pins s1 σ H1 Q I1 q1
def Cp(O:PT X a tA):PT X (.UnaryOp .Not a pos) (Iy tA):=by
 intro pins s σ H Q I h;exact isTrue_not (O pins s σ H (λc Z=>Q (!c) Z) I h)
def Fc(ta tb:TE):TE:=λσ H Q=>ta σ H λx O=>∃c,x=.bl c/\if c=L then tb σ O Q else Q (.bl Y) O
def J5(ta tb:TE):TE:=λσ H Q=>ta σ H λx O=>∃c,x=.bl c/\if c=L then Q (.bl L) O else tb σ O Q
def Fk(ta:TE):TE:=λσ H Q=>ta σ H λx O=>∃c,x=.bl c/\Q (.bl (!c)) O
def G7{op}(h:PE X a t):PE X (.BoolOp op [a] pos) t:=λpins s σ H Q I O=>BoolOp_one (h pins s σ H Q I O)
def Ci(ha:PE X a ta)(hb:PE X (.BoolOp .And (b::av) pos) tb):PE X (.BoolOp .And (a::b::av) pos) (Fc ta tb):=by
 intro pins s σ H Q I h;refine BoolOp_and (thn (ha pins s σ H _ I h) λv s1 hz=>?_);obtain⟨x,H1,I1,r1,q1⟩:=hz;obtain⟨c,rfl,q1⟩:=q1;cases r1;refine YR ?_;cases c with
 |true=>exact hb pins s1 σ H1 Q I1 q1
 |false=>exact⟨.bl Y,H1,I1,rfl,q1⟩
def Gq(ha:PE X a ta)(hb:PE X (.BoolOp .Or (b::av) pos) tb):PE X (.BoolOp .Or (a::b::av) pos) (J5 ta tb):=by
 intro pins s σ H Q I h;refine BoolOp_or (thn (ha pins s σ H _ I h) λv s1 hz=>?_);obtain⟨x,H1,I1,r1,q1⟩:=hz;obtain⟨c,rfl,q1⟩:=q1;cases r1;refine YR ?_;cases c with
 |false=>exact hb pins s1 σ H1 Q I1 q1
 |true=>exact⟨.bl L,H1,I1,rfl,q1⟩
def CT(ha:PE X a ta):PE X (.UnaryOp .Not a pos) (Fk ta):=by
 intro pins s σ H Q I h;refine UnaryOp_ (thn (ha pins s σ H _ I h) λv s1 hz=>?_);obtain⟨x,H1,I1,Z,O⟩:=hz;obtain⟨c,rfl,O⟩:=O;cases Z;exact not_of (YR ⟨.bl (!c),H1,I1,rfl,O⟩)
def tIf(t:TT)(ta tb:TE):TE:=λσ H Q=>t σ H λc O=>if c=L then ta σ O Q else tb σ O Q
def pC{c:Expr}(hc:PT X c tA)(ha:PE X a ta)(hb:PE X b tb):PE X (.IfExp c a b pos) (tIf tA ta tb):=by
 intro pins s σ H Q I h;refine wpAny_IfExp (thn (hc pins s σ H _ I h) λd s1 hz=>?_);obtain⟨H1,I1,q1⟩:=hz;cases d with
 |true=>exact ha pins s1 σ H1 Q I1 q1
 |false=>exact hb pins s1 σ H1 Q I1 q1
end
def SqL(K:Z4)(H:Hp)(a:ZP)(xs:Z9 V):Prop:=
 Rd H a (.lst xs)\/
  ∃(o:Obj)(its:Array Z3)(n:Nat),K.lookup a=U o/\o.cls=.type "list"/\o.dict=M/\o.data=.seq its n/\its.size<=sizeLine/\aac xs its.toList
def SqT(K:Z4)(H:Hp)(a:ZP)(xs:Z9 V):Prop:=
 Rd H a (.tup xs)\/
  ∃(o:Obj)(its:Array Z3)(n:Nat),K.lookup a=U o/\o.cls=.type "tuple"/\o.data=.seq its n/\its.size<=sizeLine/\aac xs its.toList
noncomputable def JZ:Z3->Z8 V
 |.none=>U .non
 |.bool b=>U (.bl b)
 |.int i _=>U (.int i)
 |.str x _=>U (.str x)
 |.bytes b _=>U (.byt b)
 |.float b _=>U (.flt b)
 |.ref a=>U (.ref a)
 |.type n=>U (.ty n)
 |_=>M
def RelV.abs(r:RelV x u):JZ u=U x:=by
 cases x with
 |non=>cases r;rfl
 |bl _=>cases r;rfl
 |int _=>obtain⟨t,rfl⟩:=r;rfl
 |str _=>obtain⟨t,rfl⟩:=r;rfl
 |byt _=>obtain⟨t,rfl⟩:=r;rfl
 |flt _=>obtain⟨t,rfl⟩:=r;rfl
 |ref _=>cases r;rfl
 |ty _=>cases r;rfl
theorem RelV.inj(r:RelV x u)(q:RelV y u):x=y:=Z7 (r.abs.symm.trans q.abs)
theorem aac.inj:∀{xs ys:Z9 V}{us:Z9 Z3},aac xs us->aac ys us->xs=ys
 |_,_,_,.nil,.nil=>rfl
 |_,_,_,.cons r t,.cons O t'=>by rw[r.inj O,aac.inj t t']
section
variable{H:Hp}
def SqL.of{K:Z4}(h:H a=U (.lst xs)):SqL K H a xs:=.inl (.inl h)
def SqT.of{K:Z4}(h:H a=U (.tup xs)):SqT K H a xs:=.inl (.inl h)
def Inv.list(I:Inv X pins σ H s)(h:SqL X.K H a xs):∃its:Z9 Z3,aac xs its/\PlainL s.heap a its.toArray/\xs.length<=sizeLine:=by
 rcases h with h|⟨o,its,n,O,Z,hd,hs,hz,r⟩;obtain⟨z,its,n,r,e⟩:=h.ok I.hok;exact⟨its,r,⟨_,n,e,rfl,rfl,rfl⟩,z⟩;refine⟨its.toList,r,⟨o,n,I.kIn a o O,Z,hd,by trivial⟩,?_⟩;have e:=r.length
 simp_all
def Inv.tuple(I:Inv X pins σ H s)(h:SqT X.K H a xs):∃its:Z9 Z3,aac xs its/\IsTup s.heap a its.toArray/\xs.length<=sizeLine:=by
 rcases h with h|⟨o,its,n,O,Z,hs,hz,r⟩;obtain⟨z,its,r,p⟩:=h.ok I.hok;exact⟨its,r,p,z⟩;refine⟨its.toList,r,⟨o,I.kIn a o O,Z,n,by trivial⟩,?_⟩;have e:=r.length
 simp_all
def Inv.aaN(I:Inv X pins σ H s)(h:SqL X.K H a xs)(h':SqL X.K H a ys):xs=ys:=by
 obtain⟨its,r,⟨o,n,e,_,_,d⟩,_⟩:=I.list h;obtain⟨its',Z,⟨o',n',O,_,_,d'⟩,_⟩:=I.list h';rw[e]at O;obtain rfl:=Z7 O;rw[d]at d';injection d' with d1 _;have:its=its':=by simpa using congrArg Array.toList d1
 subst this;exact r.inj Z
def Inv.aaW(I:Inv X pins σ H s)(h:SqT X.K H a xs)(h':SqT X.K H a ys):xs=ys:=by
 obtain⟨its,r,⟨o,e,_,n,d⟩,_⟩:=I.tuple h;obtain⟨its',Z,⟨o',O,_,n',d'⟩,_⟩:=I.tuple h';rw[e]at O;obtain rfl:=Z7 O;rw[d]at d';injection d' with d1 _;have:its=its':=by simpa using congrArg Array.toList d1
 subst this;exact r.inj Z
end
noncomputable abbrev Cx.abd(X:Cx)(E:Z3->ZV->Prop):Cx:={X with xe:=E}
noncomputable abbrev Cx.nox(X:Cx):Cx:=X.abd λ_ _=>False
theorem Cx.Ok.abd{X:Cx}(ok:X.Ok)(E:Z3->ZV->Prop):(X.abd E).Ok:=
 ⟨ok.mod,ok.kind,ok.glob,ok.blt,ok.above,ok.inj,ok.has,ok.cab,ok.hd,ok.frames,ok.stk,ok.exf,ok.bs,ok.bsz,ok.ab4,ok.ace,ok.aa9,ok.frf,ok.tabs⟩
def Cx.Ok.aaP{X:Cx}(ok:(X.abd E).Ok):X.Ok:=
 ⟨ok.mod,ok.kind,ok.glob,ok.blt,ok.above,ok.inj,ok.has,ok.cab,ok.hd,ok.frames,ok.stk,ok.exf,ok.bs,ok.bsz,ok.ab4,ok.ace,ok.aa9,ok.frf,ok.tabs⟩
section
variable{X:Cx}{pins:Z9 (ZP×Obj)}{σ:St}{H:Hp}{s:ZV}
theorem Inv.abd(I:Inv X pins σ H s)(E:Z3->ZV->Prop):Inv (X.abd E) pins σ H s:=⟨I.ok.abd E,I.os,I.bare,I.base,I.loc,I.cell,I.free,I.aaR,I.pin,I.hok,I.len⟩
theorem Inv.aaP(I:Inv (X.abd E) pins σ H s):Inv X pins σ H s:=⟨I.ok.aaP,I.os,I.bare,I.base,I.loc,I.cell,I.free,I.aaR,I.pin,I.hok,I.len⟩
theorem SP.aaP{D:Ends}{f:Flow}{Z:ZV}(h:SP (X.abd E) pins D f Z):SP X pins D f Z:=by
 cases f with
 |next=>obtain⟨O,H',I,q⟩:=h;exact⟨O,H',I.aaP,q⟩
 |brk=>obtain⟨O,H',I,q⟩:=h;exact⟨O,H',I.aaP,q⟩
 |cont=>obtain⟨O,H',I,q⟩:=h;exact⟨O,H',I.aaP,q⟩
 |ret u=>obtain⟨v,O,H',I,r,q⟩:=h;exact⟨v,O,H',I.aaP,r,q⟩
theorem PE.nox(h:PE X.nox e t):PE X e t:=λpins s σ H Q I O=>
 YS (h pins s σ H Q (I.abd _) O) (λ_ _ hz=>by obtain⟨v,H',Z,r,q⟩:=hz;exact⟨v,H',Z.aaP,r,q⟩) λ_ _ z=>False.elim z
theorem PSs.nox{st:Z9 Stmt}{t:TS}(h:PSs X.nox st t):PSs X st t:=λpins s σ H D I O=>
 YS (h pins s σ H D (I.abd _) O) (λ_ _ q=>q.aaP) λ_ _ z=>False.elim z
end
section
variable{X:Cx}{st:Stmt}{av:Z9 Stmt}{t u:TS}{e:Expr}{te:TE}{pos:Pos}
def acB:TS:=λD σ H=>D.nx σ H
def Ft(t u:TS):TS:=λD σ H=>t {D with nx:=u D} σ H
def AD:PSs X [] acB:=λ_ _ σ H _ I h=>Wo ⟨σ,H,I,h⟩
def bX(h1:PS X st t)(Z:PSs X av u):PSs X (st::av) (Ft t u):=by
 intro pins s σ H D I h;refine wpAny_execs_cons (thn (h1 pins s σ H {D with nx:=u D} I h) λf s1 q=>?_);cases f with
 |next=>
  obtain⟨O,H',I',q⟩:=q;exact Z pins s1 O H' D I' q
 |ret v=>exact q
 |brk=>exact q
 |cont=>exact q
def lV(h1:PS X st t):PSs X [st] t:=by
 intro pins s σ H D I h;refine wpAny_execs_cons (thn (h1 pins s σ H D I h) λf s1 q=>?_);cases f with
 |next=>exact Wo q
 |ret v=>exact q
 |brk=>exact q
 |cont=>exact q
def Inv.quiet(I:Inv X pins σ H s):interactive X.env=Y:=by simp[interactive,I.ok.kind]
def Eo(te:TE):TS:=λD σ H=>te σ H λ_ O=>D.nx σ O
def nI(he:PE X e te)(Z:swapsWith e M pos.line X.env=pure Y:=by rfl):PS X (.Expr e pos) (Eo te):=by
 intro pins s σ H D I h;exact wpAny_Expr_any (thn (he pins s σ H _ I h) λv s1 hz=>by obtain⟨x,H1,I1,r1,O⟩:=hz;exact⟨σ,H1,I1,O⟩) I.quiet Z
def IJ(te:TE):TS:=λD σ H=>te σ H D.rt
def ox(he:PE X e te):PS X (.Return (U e) pos) (IJ te):=by
 intro pins s σ H D I h;exact wpAny_Return_some (thn (he pins s σ H _ I h) λv s1 hz=>by obtain⟨x,H1,I1,O,Z⟩:=hz;exact⟨x,σ,H1,I1,O,Z⟩)
def Jv(c:TT)(t u:TS):TS:=λD σ H=>c σ H λb O=>if b=L then t D σ O else u D σ O
def CY{c:Expr}{a b:Z9 Stmt}{tc:TT}(hc:PT X c tc)(ha:PSs X a t)(hb:PSs X b u):PS X (.If c a b pos) (Jv tc t u):=by
 intro pins s σ H D I h;refine wpAny_If (thn (hc pins s σ H _ I h) λd s1 hz=>?_);obtain⟨H1,I1,q1⟩:=hz;cases d with
 |true=>exact ha pins s1 σ H1 D I1 q1
 |false=>exact hb pins s1 σ H1 D I1 q1
end
abbrev TG:=V->St->Hp->(St->Hp->Prop)->Prop
abbrev TGs:=Z9 V->St->Hp->(St->Hp->Prop)->Prop
def PG(X:Cx)(O:Expr)(t:TG):Prop:=
 ∀(pins:Z9 (ZP×Obj))(s:ZV)(σ:St)(H:Hp)(v:V)(u:Z3)(Q:St->Hp->Prop),Inv X pins σ H s->RelV v u->t v σ H Q->
  wpAny (model X.prog X.w) X.A (assign O X.env u) (λ_ s'=>∃Z H',Inv X pins Z H' s'/\Q Z H') X.xe s
def PGs(X:Cx)(ts:Z9 Expr)(t:TGs):Prop:=
 ∀(pins:Z9 (ZP×Obj))(s:ZV)(σ:St)(H:Hp)(vs:Z9 V)(us:Z9 Z3)(Q:St->Hp->Prop),Inv X pins σ H s->aac vs us->t vs σ H Q->
  wpAny (model X.prog X.w) X.A (assignInOrder ((assignEach ts X.env).map (·.2)) us) (λ_ Z=>∃O H',Inv X pins O H' Z/\Q O H') X.xe s
abbrev TIp:=V->V->Hp->VK->Prop
def PIp(X:Cx)(op:Operator)(t:TIp):Prop:=
 ∀(pins:Z9 (ZP×Obj))(s:ZV)(σ:St)(H:Hp)(x y:V)(v u:Z3)(Q:VK),Inv X pins σ H s->RelV x v->RelV y u->t x y H Q->
  wpAny (model X.prog X.w) X.A (inplaceOp op v u) (EP X pins σ Q) X.xe s
section
variable{X:Cx}{pos:Pos}
def gW(i:Nat):TG:=λv σ H Q=>Q (σ.set i (U v)) H
def md(hN:X.N.Nodup)(hi:X.N[i]?=U x)(O:Loc X.env.scope x)(Z:X.fn x=L\/X.env.scope.names.lookup x=U .local):PG X (.Name x pos) (gW i):=by
 intro pins s σ H v u Q I r h;exact wpAny_assign_Name (iY I hN hi O r (λs' I'=>⟨_,H,I',h⟩) Z)
def acK:TGs:=λvs σ H Q=>vs=[]/\Q σ H
def Fq(t:TG)(u:TGs):TGs:=λvs σ H Q=>∃v r,vs=v::r/\t v σ H λO H'=>u r O H' Q
def AZ:PGs X [] acK:=by
 intro pins s σ H vs us Q I r h;obtain⟨e,h⟩:=h;exact assignInOrder_nil ⟨σ,H,I,h⟩
noncomputable def wk{e:Expr}{es:Z9 Expr}{t:TG}{u:TGs}(h1:PG X e t)(h2:PGs X es u)
  (hs:(assignEach (e::es) X.env).map (·.2)=assign e X.env::(assignEach es X.env).map (·.2):=by rfl):PGs X (e::es) (Fq t u):=by
 intro pins s σ H vs us Q I r h;obtain⟨v,vr,e1,h⟩:=h;subst e1;cases r with
 |cons r Z=>
  rw[hs];refine assignInOrder_cons (thn (h1 pins s σ H _ _ _ I r h) λ_ s1 hz=>?_);obtain⟨O,H1,I1,q1⟩:=hz;exact h2 pins s1 O H1 _ _ Q I1 Z q1
def J4(K:Z4)(n:Nat)(t:TGs):TG:=λv σ H Q=>∃a xs,v=.ref a/\SqT K H a xs/\xs.length=n/\t xs σ H Q
def Ct(hc:X.calm=L)(h:PGs X es t)(hn:(assignEach es X.env).length=n:=by rfl)(Z:(assignEach es X.env).findIdx? (·.1)=M:=by rfl):PG X (.Tuple es k pos) (J4 X.K n t):=by
 intro pins s σ H v u Q I r O;obtain⟨a,xs,e1,hq,hl,O⟩:=O;subst e1;cases r;obtain⟨its,rv,ht,hz⟩:=I.tuple hq;refine assign_Tuple_tuple (I.ok.hd hc) ht (by simp[hn,<-hl,rv.length]) Z λh' hx=>?_;have I1:Inv X pins σ H {s with heap:=h'}:=I.kept (t':=s.toks) λb o e=>hx b o (ZA (Z1 e)) e;exact h pins _ σ H xs _ Q I1 (by simpa using rv) O
def BV(te:TE)(g:TG):TS:=λD σ H=>te σ H λx O=>g x σ O D.nx
def Db{O e:Expr}{te:TE}{g:TG}(he:PE X e te)(hg:PG X O g)(hs:swapsWithSole [O] e pos.line X.env=pure Y:=by rfl)(hw:swappedStores [O] e X.env=pure M:=by rfl)
  (h1:(assignEach [O] X.env).map (·.2)=[assign O X.env]:=by rfl):PS X (.Assign [O] e pos) (BV te g):=by
 intro pins s σ H D I h;refine wpAny_Assign_stores (thn (he pins s σ H _ I h) λv s1 ⟨x,H1,I1,Z,q1⟩=>?_) hs hw;rw[h1];exact thn (hg pins s1 σ H1 x v _ I1 Z q1) λ_ s2 q=>q
def iB{i:Nat}{x:Str}{e:Expr}{te:TE}{pos':Pos}(hN:X.N.Nodup)(hi:X.N[i]?=U x)(hx:Loc X.env.scope x)(he:PE X e te)(hs:swapsWith e (U (.Name x pos')) pos.line X.env=pure Y:=by rfl)(hf:X.fn x=L\/X.env.scope.names.lookup x=U .local):
  PS X (.Assign [.Name x pos'] e pos) (BV te (gW i)):=by
 intro pins s σ H D I h;refine wpAny_Assign_Name (thn (he pins s σ H _ I h) λv s1 ⟨y,H1,I1,O,Z⟩=>?_) hs;exact iY I1 hN hi hx O (λs2 I2=>⟨_,H1,I2,Z⟩) hf
def IQ(i:Nat)(te:TE)(ti:TIp):TS:=λD σ H=>∃x,σ[i]?=U (U x)/\te σ H λy Z=>ti x y Z λz O=>D.nx (σ.set i (U z)) O
def D0(hN:X.N.Nodup)(hi:X.N[i]?=U x)(hx:Loc X.env.scope x)(he:PE X e te)(ho:PIp X op ti)(hf:X.fn x=L\/X.env.scope.names.lookup x=U .local):
  PS X (.AugAssign (.Name x pos') op e pos) (IQ i te ti):=by
 intro pins s σ H D I h;obtain⟨v,e1,h⟩:=h;obtain⟨m,hn,hl⟩:=I.loc;have vis:Vis X.env.scope x:=by rcases hx with k|k;exact .inl k;exact .inr (.inl k)
 obtain⟨u,r,l⟩:=hl i x v hi e1 vis;refine wpAny_AugAssign_Name ?_;have go:wpAny (model X.prog X.w) X.A (eval e X.env) (λw s_=>wpAny (model X.prog X.w) X.A (inplaceOp op u w) (λr Ly=>wpAny (model X.prog X.w) X.A (storeName X.env x r) (λ_=>SP X pins D .next) X.xe Ly) X.xe s_) X.xe s:=by
  refine thn (he pins s σ H _ I h) λw s1 hz=>?_;obtain⟨y,H1,I1,r1,q1⟩:=hz;refine thn (ho pins s1 σ H1 v y u w _ I1 r r1 q1) λz s2 hz=>?_;obtain⟨zv,H2,I2,r2,q2⟩:=hz;exact iY I2 hN hi hx r2 (λs3 I3=>⟨_,H2,I3,q2⟩) hf
 rcases l with⟨O,hm⟩|⟨O,c,hc,Z⟩;exact wpAny_loadName_local I.ok.kind O hn hm go;rcases O with O|O;exact wpAny_loadName_cell I.ok.kind O hc Z go;rcases hx with k|k;have:X.env.scope.names.lookup x=U .free:=O;rw[k]at this;trivial;have:X.env.scope.names.lookup x=U .free:=O;rw[k]at this;trivial
end
section
variable{X:Cx}
def DQ(c:TT)(tb:TS):TS:=λD σ H=>∃W:Nat->St->Hp->Prop,(∃m,W m σ H)/\∀m σ H,W m σ H->
 c σ H λb Z=>if b=L then ∃N:St->Hp->Prop,(∀O H',N O H'->∃m',m'<m/\W m' O H')/\tb {D with nx:=N,ct:=N,bk:=D.nx} σ Z else D.nx σ Z
def wf{c:Expr}{body:Z9 Stmt}{tc:TT}{tb:TS}(hp:PassesOwn (model X.prog X.w) X.A X.env X.xe)(hc:PT X c tc)(hb:PSs X body tb):PS X (.While c body [] pos) (DQ tc tb):=by
 intro pins s σ H D I h;obtain⟨W,⟨m0,w0⟩,turn⟩:=h;refine wpAny_While (codeAny_whileLoop (λn s'=>∃i_ H',Inv X pins i_ H' s'/\W n i_ H') ?_ m0 ⟨σ,H,I,w0⟩);intro n s1 hz;obtain⟨Z,H1,I1,w1⟩:=hz;refine XJ hp (thn (hc pins s1 Z H1 _ I1 (turn n Z H1 w1)) λb s2 hz=>?_);obtain⟨H2,I2,q2⟩:=hz;cases b with
 |true=>
  obtain⟨N,hN,q2⟩:=q2;refine XJ hp (thn (hb pins s2 Z H2 _ I2 q2) λf s3 q3=>?_);cases f with
  |next=>
   obtain⟨O,H3,I3,n3⟩:=q3;obtain⟨m',hm,w3⟩:=hN O H3 n3;exact⟨m',hm,O,H3,I3,w3⟩
  |cont=>
   obtain⟨O,H3,I3,n3⟩:=q3;obtain⟨m',hm,w3⟩:=hN O H3 n3;exact⟨m',hm,O,H3,I3,w3⟩
  |brk=>exact q3
  |ret v=>exact q3
 |false=>
  exact Wo ⟨Z,H2,I2,q2⟩
end
structure It where
 go:Nat->Hp->Prop
 yld:Nat->Hp->V->Hp->Prop
 stop:Nat->Hp->Prop
def d8(X:Cx)(pins:Z9 (ZP×Obj))(H:Hp)(b:ZP):Prop:=
 H b=M/\b≠X.env.locals/\b∉X.fs/\(b∈X.ex\/X.e_.z<=b)/\(∀x c,X.env.cells.lookup x=U c->c≠b)/\∀p∈X.pn++pins,p.1≠b
def Inv.abg(I:Inv X pins σ H s)(hb:s.z<=b)(O:H' b=M):d8 X pins H' b:=by
 refine⟨O,Nat.ne_of_gt (ZC I.lt hb),I.acn hb,.inr (ZL I.sz hb),λx c e z=>?_,λp hp z=>?_⟩;obtain⟨v,q⟩:=I.cell x c e;exact absurd (ZC q.lt (by rw[z];exact hb)) (Zv _);exact absurd (ZC (Z1 (I.pin p hp).1) (by rw[z];exact hb)) (Zv _)
structure Turn (P:Za)(w:Y1)(K:Z4)(tg:Expr)(J:It)(fp:List ZP)(it:ZP)(tn:Nat->Heap->Prop):Prop where
 mem:it∈fp
 obj:∀i h,tn i h->∀b∈fp,∃o,h.get? b=some o/\∀v,o.data≠.cell v
 keep:∀i h h',tn i h->(∀b∈fp,∀o,h.get? b=some o->h'.get? b=some o)->tn i h'
 item:∀(X:Cx),X.prog=P->X.w=w->X.K=K->X.calm=true->∀(i:Nat)(pins:List (ZP×Obj))(s:ZV)(σ:St)(H:Hp)(E:Z3->ZV->Prop),Inv X pins σ H s->(∀b∈fp,d8 X pins H b)->tn i s.heap->J.go i H->
  wpAny (model P w) X.A (pyNext (.ref it)) (λr s1=>∃u,r=some u/\
   wpAny (model P w) X.A (letOwnedTupleGo tg (.ref it) u) (λ_ s2=>∃x H',Inv X pins σ H' s2/\RelV x u/\J.yld i H x H'/\tn (i+1) s2.heap/\∀b∈fp,H' b=none) E s1) E s
 done:∀(X:Cx),X.prog=P->X.w=w->X.K=K->X.calm=true->∀(i:Nat)(pins:List (ZP×Obj))(s:ZV)(σ:St)(H:Hp)(E:Z3->ZV->Prop),Inv X pins σ H s->(∀b∈fp,d8 X pins H b)->tn i s.heap->J.stop i H->
  wpAny (model P w) X.A (pyNext (.ref it)) (λr s1=>r=none/\Inv X pins σ H s1) E s
 self:∀(A:Zj)(i:Nat)(s:ZV)(Q:Z3->ZV->Prop)(E:Z3->ZV->Prop),tn i s.heap->Q (.ref it) s->wpAny (model P w) A (pyIter (.ref it)) Q E s
abbrev TI:=St->Hp->(It->Hp->Prop)->Prop
def PIE(X:Cx)(pins:Z9 (ZP×Obj))(σ:St)(tg:Expr)(R:It->Hp->Prop)(O:Z3)(s2:ZV):Prop:=
 ∃(it:ZP)(fp:Z9 ZP)(Z:Nat->Heap->Prop)(J:It)(H':Hp),O=.ref it/\Inv X pins σ H' s2/\Turn X.prog X.w X.K tg J fp it Z/\Z 0 s2.heap/\(∀b∈fp,d8 X pins H' b)/\R J H'
def PI(X:Cx)(tg O:Expr)(Z:TI):Prop:=
 ∀(pins:Z9 (ZP×Obj))(s:ZV)(σ:St)(H:Hp)(R:It->Hp->Prop),Inv X pins σ H s->Z σ H R->
  wpAny (model X.prog X.w) X.A (eval O X.env) (λv s1=>wpAny (model X.prog X.w) X.A (pyIter v) (PIE X pins σ tg R) X.xe s1) X.xe s
def xi(ho:s.heap.get? it=U o)(hc:o.cls=.type n)(hd:o.data=.fields vs)(hn:["enumerate","zip","dict_itemiterator","dict_reverseitemiterator","odict_iterator","itertools.zip_longest","itertools.pairwise"].contains n=Y)(hQ:Q () s):wpAny Mq A (letOwnedTupleGo tg (.ref it) u) Q E s:=by
 cases tg<;>first
  |exact Z6 hQ
  |(cases u<;>first
    |exact Z6 hQ
    |(refine Z_ (Wu ho ?_)
      rw[hc,hd];show wpAny Mq A (if(["enumerate","zip","dict_itemiterator","dict_reverseitemiterator","odict_iterator","itertools.zip_longest","itertools.pairwise"].contains n&&vs[0]?==U (rawInt _))=L then _ else _) Q E s;rw[ZH (by intro h;rw[hn,Bool.false_and]at h;trivial)];exact Z6 hQ))
noncomputable def Itl(K:Z4)(a:ZP):It:=
 ⟨λi H=>∃xs x,SqL K H a xs/\xs[i]?=U x,λi H x H'=>H'=H/\∀xs,SqL K H a xs->xs[i]?=U x,λi H=>∃xs,SqL K H a xs/\xs.length<=i⟩
noncomputable def Itt(K:Z4)(a:ZP):It:=
 ⟨λi H=>∃xs x,SqT K H a xs/\xs[i]?=U x,λi H x H'=>H'=H/\∀xs,SqT K H a xs->xs[i]?=U x,λi H=>∃xs,SqT K H a xs/\xs.length<=i⟩
def Itr(lo:Int)(n:Nat):It:=⟨λi _=>i<n,λi H x H'=>H'=H/\x=.int (lo+i),λi _=>n<=i⟩
def sN{P:Za}{w:Y1}{K:Z4}{tg:Expr}(a it:ZP):Turn P w K tg (Itl K a) [it] it (λi h=>h.IsListIter it a i) where
 mem:=by simp
 obj:=λi h st b hb=>by
  have e:b=it:=by simpa using hb
  obtain⟨o,e,c,d⟩:=st
  simp_all
 keep:=λi h h' st k=>st.at λo e=>k it (by simp) o e
 item:=by
  intro X hP hw hK hc i pins s σ H E I hf st hg;subst hP hw hK;obtain⟨xs,x,Z,hx⟩:=hg;obtain⟨its,rv,p,hz⟩:=I.list Z;obtain⟨u,hu,ru⟩:=rv.get hx;obtain⟨f0,f1,f2,f3,f4,f5⟩:=hf it (by simp);refine wpAny_pyNext_list_item st p.isList (x:=u) (by simpa using hu) λh' O sb=>?_;have I1:Inv X pins σ H {s with heap:=h'}:=I.turned (t':=s.toks) (λb o hb e=>(sb.2 b hb).trans e) f0 f1 f3 f4 f5;obtain⟨o,e,c,d⟩:=id O;exact⟨u,rfl,xi (s:={s with heap:=h'}) e c d (by decide) ⟨x,H,I1,ru,⟨rfl,λys hy=>by rw[I.aaN hy Z];exact hx⟩,O,λb hb=>(hf b hb).1⟩⟩
 done:=by
  intro X hP hw hK hc i pins s σ H E I hf st hg;subst hP hw hK;obtain⟨xs,Z,hx⟩:=hg;obtain⟨its,rv,p,hz⟩:=I.list Z;obtain⟨f0,f1,f2,f3,f4,f5⟩:=hf it (by simp);have hl:=rv.length;exact wpAny_pyNext_list_end (I.ok.hd hc) st p.isList (by simp;lia) λh' eb=>⟨rfl,I.turned (t':=s.toks) (λb o hb e=>eb b o hb e) f0 f1 f3 f4 f5⟩
 self:=λ_ _ _ _ _ st h=>wpAny_pyIter_listiter st h
def rf{P:Za}{w:Y1}{K:Z4}{tg:Expr}(a it:ZP):Turn P w K tg (Itt K a) [it] it (λi h=>h.IsTupleIter it a i) where
 mem:=by simp
 obj:=λi h st b hb=>by
  have e:b=it:=by simpa using hb
  obtain⟨o,e,c,d⟩:=st
  simp_all
 keep:=λi h h' st k=>st.at λo e=>k it (by simp) o e
 item:=by
  intro X hP hw hK hc i pins s σ H E I hf st hg;subst hP hw hK;obtain⟨xs,x,Z,hx⟩:=hg;obtain⟨its,rv,p,hz⟩:=I.tuple Z;obtain⟨u,hu,ru⟩:=rv.get hx;obtain⟨f0,f1,f2,f3,f4,f5⟩:=hf it (by simp);refine wpAny_pyNext_tuple_item st (show s.heap.IsTuple a its.toArray from p) (x:=u) (by simpa using hu) λh' O sb=>?_;have I1:Inv X pins σ H {s with heap:=h'}:=I.turned (t':=s.toks) (λb o hb e=>(sb.2 b hb).trans e) f0 f1 f3 f4 f5;obtain⟨o,e,c,d⟩:=id O;exact⟨u,rfl,xi (s:={s with heap:=h'}) e c d (by decide) ⟨x,H,I1,ru,⟨rfl,λys hy=>by rw[I.aaW hy Z];exact hx⟩,O,λb hb=>(hf b hb).1⟩⟩
 done:=by
  intro X hP hw hK hc i pins s σ H E I hf st hg;subst hP hw hK;obtain⟨xs,Z,hx⟩:=hg;obtain⟨its,rv,p,hz⟩:=I.tuple Z;obtain⟨f0,f1,f2,f3,f4,f5⟩:=hf it (by simp);have hl:=rv.length;exact wpAny_pyNext_tuple_end (I.ok.hd hc) st (show s.heap.IsTuple a its.toArray from p) (by simp;lia) λh' eb=>⟨rfl,I.turned (t':=s.toks) (λb o hb e=>eb b o hb e) f0 f1 f3 f4 f5⟩
 self:=λ_ _ _ _ _ st h=>wpAny_pyIter_tupleiter st h
def rh{P:Za}{w:Y1}{K:Z4}{tg:Expr}(it:ZP)(lo:Int)(n:Nat):Turn P w K tg (Itr lo n) [it] it (λi h=>IsRangeIter h it (lo+(i:Nat)*1) ((n:Int) - (i:Nat)) 1) where
 mem:=by simp
 obj:=λi h st b hb=>by
  simp_all
 keep:=λi h h' st k=>k it (by simp) _ st
 item:=by
  intro X hP hw hK hc i pins s σ H E I Z st hg;subst hP hw hK;obtain⟨f0,f1,f2,f3,f4,f5⟩:=Z it (by simp);have W:=Walks.range (prog:=X.prog) (w:=X.w) (I.ok.hd hc) it lo 1 n;refine W.item i s _ _ hg st λv h' tk hv O kk=>?_;obtain⟨t,rfl⟩:=hv;have I1:Inv X pins σ H {s with heap:=h',toks:=tk}:=I.turned (λb o hb e=>kk b o (by simpa using hb) e) f0 f1 f3 f4 f5;refine⟨_,rfl,xi (s:={s with heap:=h',toks:=tk}) (n:="range_iterator") O rfl rfl (by decide) ⟨.int (lo+i),H,I1,⟨t,?_⟩,⟨rfl,rfl⟩,O,λb hb=>(Z b hb).1⟩⟩;rw[Int.mul_one]
 done:=by
  intro X hP hw hK hc i pins s σ H E I Z st hg;obtain⟨f0,f1,f2,f3,f4,f5⟩:=Z it (by simp);exact wpAny_pyNext_range_end (I.ok.hd hc) st (by have:n<=i:=hg;lia) λh' eb=>⟨rfl,I.turned (t':=s.toks) (λb o hb e=>eb b o hb e) f0 f1 f3 f4 f5⟩
 self:=λ_ _ _ _ _ st h=>wpAny_pyIter_rangeiter st h
section
variable{X:Cx}
def DU(K:Z4)(tl:TE):TI:=λσ H R=>tl σ H λx O=>∃a,x=.ref a/\(∃xs,SqL K O a xs)/\R (Itl K a) O
def Jd(K:Z4)(tl:TE):TI:=λσ H R=>tl σ H λx O=>∃a,x=.ref a/\(∃xs,SqT K O a xs)/\R (Itt K a) O
def tV{l:Expr}{tl:TE}(hl:PE X l tl):PI X tg l (DU X.K tl):=by
 intro pins s σ H R I h;refine thn (hl pins s σ H _ I h) λv s1 hz=>?_;obtain⟨x,H1,O,Z,q1⟩:=hz;obtain⟨a,e,⟨xs,hq⟩,q⟩:=q1;subst e;cases Z;obtain⟨its,rv,p,hz⟩:=O.list hq;refine Yg p.isList ?_;refine⟨s1.z,[s1.z],_,_,H1,rfl,O.kept (t':=s1.toks) λb o e=>Z5 _ e,sN a _,⟨_,ZX _ rfl,rfl,rfl⟩,λb hb=>?_,q⟩;have e:b=s1.z:=by simpa using hb
 subst e;exact O.abg (ZU _) (O.hok.fresh (ZU _))
def D6{l:Expr}{tl:TE}(hl:PE X l tl):PI X tg l (Jd X.K tl):=by
 intro pins s σ H R I h;refine thn (hl pins s σ H _ I h) λv s1 hz=>?_;obtain⟨x,H1,O,Z,q1⟩:=hz;obtain⟨a,e,⟨xs,hq⟩,q⟩:=q1;subst e;cases Z;obtain⟨its,rv,p,hz⟩:=O.tuple hq;refine wpAny_pyIter_tuple (show s1.heap.IsTuple a its.toArray from p) ?_;refine⟨s1.z,[s1.z],_,_,H1,rfl,O.kept (t':=s1.toks) λb o e=>Z5 _ e,rf a _,⟨_,ZX _ rfl,rfl,rfl⟩,λb hb=>?_,q⟩;have e:b=s1.z:=by simpa using hb
 subst e;exact O.abg (ZU _) (O.hok.fresh (ZU _))
def w5{R:It->Hp->Prop}{lo hi:Int}{O:Nat}(I:Inv X pins σ H s)(h1: -(2 ^ 62)<=lo)(h2:lo<2 ^ 62)(h3: -(2 ^ 62)<=hi)(h4:hi<2 ^ 62)(q:R (Itr lo (hi - lo).toNat) H):wpAny (model X.prog X.w) X.A (pyIter (.ref s.z)) (PIE X pins σ tg R) E {s with heap:=s.heap.push {cls:=.type "range",data:=.fields #[.int lo t,.int hi u,.int 1 v]},toks:=O}:=by
 refine wpAny_pyIter_range (IsRange.new ..) (small_one h1 h2 h3 h4) ?_;have Z:Inv X pins σ H {s with heap:=s.heap.push {cls:=.type "range",data:=.fields #[.int lo t,.int hi u,.int 1 v]},toks:=O}:=I.kept λb o e=>Z5 _ e;refine⟨(s.heap.push {cls:=.type "range",data:=.fields #[.int lo t,.int hi u,.int 1 v]}).objs.size,[(s.heap.push {cls:=.type "range",data:=.fields #[.int lo t,.int hi u,.int 1 v]}).objs.size],_,_,H,rfl,
  Z.kept (t':=O) λb o e=>Z5 _ e,rh _ lo (hi - lo).toNat,?_,λb hb=>?_,q⟩
 .have e1:lo+((0:Nat):Int)*1=lo:=by simp
  have e2:(((hi - lo).toNat:Nat):Int) - ((0:Nat):Int)=Builtin.Range.rangeSize lo hi 1:=by rw[rangeSize_one];split<;>lia
  rw[e1,e2];exact ZX _ rfl
 have e:b=(s.heap.push {cls:=.type "range",data:=.fields #[.int lo t,.int hi u,.int 1 v]}).objs.size:=by simpa using hb
 subst e;exact Z.abg (ZU _) (Z.hok.fresh (ZU _))
def Fv(ta:TA):TI:=λσ H R=>ta σ H λvs O=>∃j:Int,vs=[.int j]/\ -(2 ^ 62)<=j/\j<2 ^ 62/\R (Itr 0 j.toNat) O
def v0{a:Expr}{ta:TA}{p pos:Pos}(hg:Gl X "range")(hm:X.mg "range"=M)(ha:PA X [a] ta)(hs:starEach [a] X.env=[(Y,eval a X.env)]:=by rfl):PI X tg (.Call (.Name "range" p) [a] [] pos) (Fv ta):=by
 intro pins s σ H R I h;refine Call_ (cF I hg hm boot_range (YN (thn (ha pos pins s σ H _ I h) λus s1 ⟨vs,H1,I1,r1,O⟩=>?_) hs rfl));obtain⟨j,e,O,q2,q⟩:=O;subst e;cases r1 with
 |cons r Z=>
  cases Z;obtain⟨t,rfl⟩:=r;exact call_range_1 (w5 I1 (by lia) (by lia) O q2 (by simpa using q))
def Il(wi:TI)(g:TG)(tb:TS):TS:=λD σ H=>wi σ H λJ H1=>∃W:Nat->Nat->St->Hp->Prop,(∃m,W 0 m σ H1)/\∀i m σ H,W i m σ H->
 (J.stop i H/\D.nx σ H)\/(J.go i H/\∃N:St->Hp->Prop,(∀O H',N O H'->∃m',m'<m/\W (i+1) m' O H')/\∀x H',J.yld i H x H'->g x σ H' λZ H2=>tb {D with nx:=N,ct:=N,bk:=D.nx} Z H2)
noncomputable def kg(fp:Z9 ZP)(h:Heap):Z9 (ZP×Obj):=fp.filterMap λb=>(h.get? b).map λo=>(b,o)
def c9(hb:b∈fp)(e:h.get? b=U o):(b,o)∈kg fp h:=XT.mpr ⟨b,hb,by rw[e];rfl⟩
def uW(hp:p∈kg fp h):p.1∈fp/\h.get? p.1=U p.2:=by
 obtain⟨b,hb,e⟩:=XT.mp hp;cases q:h.get? b with
 |none=>simp_all
 |some o=>
  grind
def Inv.pinned(I:Inv X pins σ H s)(hf:∀b∈fp,d8 X pins H b)(Z:∀b∈fp,∃o,s.heap.get? b=U o/\∀v,o.data≠.cell v):Inv X (pins++kg fp s.heap) σ H s:=
 I.aaL λp hp=>(Zc.mp hp).elim (λz=>I.pin p (ZJ _ z)) λz=>by
  obtain⟨hb,e⟩:=uW z;obtain⟨f0,f1,f2,_⟩:=hf p.1 hb;obtain⟨o,O,d⟩:=Z p.1 hb;rw[e]at O;obtain rfl:=Z7 O;exact⟨e,f0,f1,f2,d⟩
def Inv.aaS(I:Inv X (pins++pl) σ H s):Inv X pins σ H s:=I.aaL λp hp=>I.pin p (ZJ _ (Y2 _ hp))
noncomputable def yA{iter:Expr}{body:Z9 Stmt}{wi:TI}{g:TG}{tb:TS}{pos:Pos}(hp:PassesOwn (model X.prog X.w) X.A X.env X.xe)(hc:X.calm=L)(hi:PI X tg iter wi)(hg:PG X tg g)(hb:PSs X body tb)
  (hs:∀x,foldedSetIterable iter X.env x=pure x:=by intro _;rfl):PS X (.For tg iter body [] pos) (Il wi g tb):=by
 intro pins s σ H D I h;refine wpAny_For (thn (hi pins s σ H _ I h) λv s1 h1=>thn h1 λTn s2 h2=>?_) hs;obtain⟨it,fp,tn,J,H2,e,I2,T,Oy,f2,W,⟨m0,w0⟩,turn⟩:=h2;subst e;have K6:∀{H':Hp},(∀b∈fp,H' b=M)->∀b∈fp,d8 X pins H' b:=λhn b hb=>⟨hn b hb,(f2 b hb).2⟩
 refine codeAny_forLoop_any (λn s'=>∃i i_ H',Inv X pins i_ H' s'/\tn i s'.heap/\(∀b∈fp,H' b=M)/\W i n i_ H') ?_ m0 ⟨0,σ,H2,I2,Oy,λb hb=>(f2 b hb).1,w0⟩;intro n s3 hz;obtain⟨i,Z,H3,I3,SV,Ue,w3⟩:=hz;rcases turn i n Z H3 w3 with⟨stop,qn⟩|⟨go,N,hN,step⟩
 .refine XJ hp (thn (T.done X rfl rfl rfl hc i pins s3 Z H3 X.xe I3 (K6 Ue) SV stop) λr s4 hz=>?_)
  obtain⟨hr,I4⟩:=hz;subst hr;exact Wo ⟨Z,H3,I4,qn⟩
 .refine XJ hp (thn (T.item X rfl rfl rfl hc i pins s3 Z H3 X.xe I3 (K6 Ue) SV go) λr s4 hz=>?_)
  obtain⟨u,hr,h4⟩:=hz;subst hr;refine XJ hp (thn h4 λ_ s5 hz=>?_);obtain⟨x,H5,I5,r5,y5,QF,fr5⟩:=hz;have I5':=I5.pinned (K6 fr5) (T.obj _ _ QF);refine XJ hp (thn (hg _ s5 Z H5 x u _ I5' r5 (step x H5 y5)) λ_ s6 hz=>?_);obtain⟨N6,H6,I6,q6⟩:=hz;refine XJ hp (thn (hb _ s6 N6 H6 _ I6 q6) λf s7 q7=>?_);have again:∀{O:St}{H7:Hp},Inv X (pins++kg fp s5.heap) O H7 s7->N O H7->∃m,m<n/\∃i i_ H',Inv X pins i_ H' s7/\tn i s7.heap/\(∀b∈fp,H' b=M)/\W i m i_ H':=λ{O H7} I7 n7=>by
   obtain⟨m',hm,w7⟩:=hN O H7 n7;refine⟨m',hm,i+1,O,H7,I7.aaS,T.keep _ _ _ QF λb hb o e=>(I7.pin (b,o) (ZJ _ (ZJ _ (c9 hb e)))).1,λb hb=>?_,w7⟩;obtain⟨o,e,d⟩:=T.obj _ _ QF b hb;exact(I7.pin (b,o) (ZJ _ (ZJ _ (c9 hb e)))).2.1
  cases f with
  |next=>obtain⟨O,H7,I7,n7⟩:=q7;exact again I7 n7
  |cont=>obtain⟨O,H7,I7,n7⟩:=q7;exact again I7 n7
  |brk=>obtain⟨O,H7,I7,q7⟩:=q7;exact⟨O,H7,I7.aaS,q7⟩
  |ret v=>obtain⟨x7,O,H7,I7,r7,q7⟩:=q7;exact⟨x7,O,H7,I7.aaS,r7,q7⟩
end
abbrev R2:=V->V->Hp->VK->Prop
def OpR(X:Cx)(f:Z3->Z3->Sem Z3)(r:R2):Prop:=
 ∀(pins:Z9 (ZP×Obj))(s:ZV)(σ:St)(H:Hp)(x y:V)(v u:Z3)(Q:VK),Inv X pins σ H s->RelV x v->RelV y u->r x y H Q->
  wpAny (model X.prog X.w) X.A (f v u) (EP X pins σ Q) X.xe s
def UnR(X:Cx)(f:Z3->Sem Z3)(r:V->Hp->VK->Prop):Prop:=
 ∀(pins:Z9 (ZP×Obj))(s:ZV)(σ:St)(H:Hp)(x:V)(v:Z3)(Q:VK),Inv X pins σ H s->RelV x v->r x H Q->
  wpAny (model X.prog X.w) X.A (f v) (EP X pins σ Q) X.xe s
def dg(X:Cx)(f:Z3)(r:Z9 V->Hp->VK->Prop):Prop:=
 ∀(pins:Z9 (ZP×Obj))(s:ZV)(σ:St)(H:Hp)(xs:Z9 V)(us:Z9 Z3)(Q:VK),Inv X pins σ H s->aac xs us->r xs H Q->
  wpAny (model X.prog X.w) X.A (call f us) (EP X pins σ Q) X.xe s
def Ij(X:Cx)(r:V->Hp->(Bool->Hp->Prop)->Prop):Prop:=
 ∀(pins:Z9 (ZP×Obj))(s:ZV)(σ:St)(H:Hp)(x:V)(v:Z3)(Q:Bool->Hp->Prop),Inv X pins σ H s->RelV x v->r x H Q->
  wpAny (model X.prog X.w) X.A (truthy v) (TP X pins σ Q) X.xe s
def tOp(r:R2)(ta tb:TE):TE:=λσ H Q=>ta σ H λx Z=>tb σ Z λy O=>r x y O Q
def tUn(r:V->Hp->VK->Prop)(ta:TE):TE:=λσ H Q=>ta σ H λx O=>r x O Q
def rI(C:Int->Int->Prop)(g:Int->Int->V):R2:=λx y H Q=>∃i j,x=.int i/\y=.int j/\C i j/\Q (g i j) H
def rI0(g:Int->Int->V):R2:=λx y H Q=>∃i j,x=.int i/\y=.int j/\Q (g i j) H
def rU(g:Int->V):V->Hp->VK->Prop:=λx H Q=>∃i,x=.int i/\Q (g i) H
section
variable{X:Cx}
def FK(ha:PE X a ta)(hb:PE X b tb){pins:Z9 (ZP×Obj)}{s:ZV}{σ:St}{H:Hp}{R:V->V->Hp->Prop}(I:Inv X pins σ H s)
  (h:ta σ H λx H1=>tb σ H1 λy O=>R x y O) {Q:Z3->ZV->Prop}{f:Z3->Z3->Sem Z3}
  (hf:∀v u s2 x y O,Inv X pins σ O s2->RelV x v->RelV y u->R x y O->wpAny (model X.prog X.w) X.A (f v u) Q X.xe s2):
  wpAny (model X.prog X.w) X.A (eval a X.env) (λv a_=>wpAny (model X.prog X.w) X.A (eval b X.env) (λu Z=>wpAny (model X.prog X.w) X.A (f v u) Q X.xe Z) X.xe a_) X.xe s:=by
 refine thn (ha pins s σ H _ I h) λv s1 hz=>?_;obtain⟨x,H1,I1,r1,q1⟩:=hz;refine thn (hb pins s1 σ H1 _ I1 q1) λu s2 hz=>?_;obtain⟨y,O,I2,r2,q2⟩:=hz;exact hf v u s2 x y O I2 r1 r2 q2
def tJ(ho:OpR X (binaryOp op) r)(ha:PE X a ta)(hb:PE X b tb):PE X (.BinOp a op b pos) (tOp r ta tb):=by
 intro pins s σ H Q I h;exact wpAny_BinOp (FK ha hb I h λv u s2 x y H2 I2 Z O q=>ho pins s2 σ H2 x y v u Q I2 Z O q)
def F9(ho:UnR X (unaryOp op) r)(ha:PE X a ta):PE X (.UnaryOp op a pos) (tUn r ta):=by
 intro pins s σ H Q I h;exact UnaryOp_ (thn (ha pins s σ H _ I h) λv s1 hz=>by obtain⟨x,H1,I1,O,Z⟩:=hz;exact ho pins s1 σ H1 x v Q I1 O Z)
def J9(ho:OpR X (inplaceOp op) r)(I:Inv X pins σ H s)(Z:RelV x v)(O:RelV y u)(q:r x y H Q):wpAny (model X.prog X.w) X.A (inplaceOp op v u) (EP X pins σ Q) X.xe s:=ho pins s σ H x y v u Q I Z O q
def opI{f:Z3->Z3->Sem Z3}{C:Int->Int->Prop}{g:Int->Int->Int}(O:∀(i j:Int)(t u:Tok)(s:ZV)(Q:Z3->ZV->Prop)(E:Z3->ZV->Prop),C i j->Q (.int (g i j) s.toks) {s with toks:=s.toks+1}->wpAny (model X.prog X.w) X.A (f (.int i t) (.int j u)) Q E s):
  OpR X f (rI C λi j=>.int (g i j)):=by
 intro pins s σ H x y v u Q I rx Z h;obtain⟨i,j,rfl,rfl,hc,q⟩:=h;obtain⟨t,rfl⟩:=rx;obtain⟨t',rfl⟩:=Z;exact O i j t t' s _ _ hc ⟨.int (g i j),H,I.tok _,⟨_,rfl⟩,q⟩
def HK{f:Z3->Z3->Sem Z3}{g:Int->Int->Int}(O:∀(i j:Int)(t u:Tok)(s:ZV)(Q:Z3->ZV->Prop)(E:Z3->ZV->Prop),Q (.int (g i j) s.toks) {s with toks:=s.toks+1}->wpAny (model X.prog X.w) X.A (f (.int i t) (.int j u)) Q E s):
  OpR X f (rI0 λi j=>.int (g i j)):=by
 intro pins s σ H x y v u Q I rx Z h;obtain⟨i,j,rfl,rfl,q⟩:=h;obtain⟨t,rfl⟩:=rx;obtain⟨t',rfl⟩:=Z;exact O i j t t' s _ _ ⟨.int (g i j),H,I.tok _,⟨_,rfl⟩,q⟩
def ET{f:Z3->Z3->Sem Z3}{g:Int->Int->Bool}(O:∀(i j:Int)(t u:Tok)(s:ZV)(Q:Z3->ZV->Prop)(E:Z3->ZV->Prop),Q (.bool (g i j)) s->wpAny (model X.prog X.w) X.A (f (.int i t) (.int j u)) Q E s):
  OpR X f (rI0 λi j=>.bl (g i j)):=by
 intro pins s σ H x y v u Q I rx Z h;obtain⟨i,j,rfl,rfl,q⟩:=h;obtain⟨t,rfl⟩:=rx;obtain⟨t',rfl⟩:=Z;exact O i j t t' s _ _ ⟨.bl (g i j),H,I,rfl,q⟩
def Ih(i j:Int):Prop:=0<j/\j<1073741824
def acx(i j:Int):Prop:=(-(2 ^ 64)<i/\i<2 ^ 64)\/(-(2 ^ 64)<j/\j<2 ^ 64)
def acx.ok(h:acx i j):IntMulOk i j:=by
 rcases h with⟨h1,O⟩|⟨h1,O⟩;exact .of_left (intBits_le_64 h1 O);exact .of_right (intBits_le_64 h1 O)
def CZ:OpR X (binaryOp .Add) (rI0 λi j=>.int (i+j)):=HK λ_ _ _ _ _ _ _ q=>add_int q
def Cw:OpR X (binaryOp .Mult) (rI acx λi j=>.int (i*j)):=opI λ_ _ _ _ _ _ _ O q=>mul_int q O.ok
def z0:OpR X (binaryOp .FloorDiv) (rI Ih λi j=>.int (i / j)):=opI λi j _ _ _ _ _ O q=>by
 have h1:(0:Int)<j:=O.1;have Z:j<1073741824:=O.2;exact floordiv_int (by lia) (by rw[Int.fdiv_eq_ediv_of_nonneg i (by lia)];exact q) (.inl (PyProof.noPylong_small (by lia)))
def CS:OpR X (binaryOp .Mod) (rI (λ_ j=>0<j) λi j=>.int (i%j)):=opI λi j _ _ _ _ _ O q=>by
 exact mod_int' (by lia) (by rw[Int.fmod_eq_emod_of_nonneg i (by lia)];exact q)
def Aa:OpR X (inplaceOp .Add) (rI0 λi j=>.int (i+j)):=HK λ_ _ _ _ _ _ _ q=>iadd_int q
def unI{f:Z3->Sem Z3}{g:Int->Int}
  (O:∀(i:Int)(t:Tok)(s:ZV)(Q:Z3->ZV->Prop)(E:Z3->ZV->Prop),Q (.int (g i) s.toks) {s with toks:=s.toks+1}->wpAny (model X.prog X.w) X.A (f (.int i t)) Q E s):
  UnR X f (rU λi=>.int (g i)):=by
 intro pins s σ H x v Q I Z h;obtain⟨i,rfl,q⟩:=h;obtain⟨t,rfl⟩:=Z;exact O i t s _ _ ⟨.int (g i),H,I.tok _,⟨_,rfl⟩,q⟩
def DH:UnR X (unaryOp .USub) (rU λi=>.int (-i)):=unI λ_ _ _ _ _ q=>neg_int q
end
section
variable{b c:Expr}
def zF(I:Inv X pins σ H s)(q:Q (.bl k) H)(e:k=k'):EP X pins σ Q (.bool k') s:=by
 subst e;exact⟨.bl k,H,I,rfl,q⟩
def FY:OpR X (compareOp .Lt) (rI0 λi j=>.bl (decide (i<j))):=ET λ_ _ _ _ _ _ _ q=>lt_int q
def F1:OpR X (compareOp .LtE) (rI0 λi j=>.bl (decide (i<=j))):=ET λ_ _ _ _ _ _ _ q=>le_int q
def FV:OpR X (compareOp .Gt) (rI0 λi j=>.bl (decide (j<i))):=ET λ_ _ _ _ _ _ _ q=>gt_int q
def Fh:OpR X (compareOp .GtE) (rI0 λi j=>.bl (decide (j<=i))):=ET λ_ _ _ _ _ _ _ q=>ge_int q
def Et:OpR X (compareOp .Is) (λx y H Q=>y=.non/\Q (.bl (decide (x=.non))) H):=by
 intro pins s σ H x y v u Q I rx ry h;obtain⟨rfl,q⟩:=h;cases ry;refine is_none_gen (zF I q ?_);cases x<;>first
  |(cases rx;rfl)
  |(obtain⟨t,rfl⟩:=rx;rfl)
def AS:OpR X (compareOp .IsNot) (λx y H Q=>y=.non/\Q (.bl (!decide (x=.non))) H):=by
 intro pins s σ H x y v u Q I rx ry h;obtain⟨rfl,q⟩:=h;cases ry;refine isnot_none_gen (zF I q ?_);cases x<;>first
  |(cases rx;rfl)
  |(obtain⟨t,rfl⟩:=rx;rfl)
def pJ(b:Expr)(h:op≠.In:=by decide)(h2:op≠.NotIn:=by decide):behindInMarks op b=Y:=by
 have Z:(op==CmpOp.In)=Y:=by cases op<;>first|rfl|lia
 have O:(op==CmpOp.NotIn)=Y:=by cases op<;>first|rfl|lia
 cases b<;>simp[behindInMarks,Z,O]
def me(ho:OpR X (compareOp op) r)(ha:PE X a ta)(hb:PE X b tb)(hm:behindInMarks op b=Y):PE X (.Compare a [op] [b] pos) (tOp r ta tb):=by
 intro pins s σ H Q I h;exact wpAny_Compare1 (FK ha hb I h λv u s2 x y H2 I2 Z O q=>ho pins s2 σ H2 x y v u Q I2 Z O q) hm
def Fn(t:TE):TT:=λσ H Q=>t σ H λx H'=>∃k,x=.bl k/\Q k H'
def cz{op:CmpOp}{r:R2}(ho:OpR X (compareOp op) r)(ha:PE X a ta)(hb:PE X b tb)(hm:behindInMarks op b=Y):PT X (.Compare a [op] [b] pos) (Fn (tOp r ta tb)):=by
 intro pins s σ H Q I h;refine wpAny_isTrue_Compare1 (thn (ha pins s σ H _ I h) λv s1 ⟨x,H1,I1,r1,q1⟩=>thn (hb pins s1 σ H1 _ I1 q1) λu s2 ⟨y,H2,I2,Z,q2⟩=>
  thn (ho pins s2 σ H2 x y v u _ I2 r1 Z q2) λc s3 ⟨z,H3,I3,O,k,e,q3⟩=>?_) hm
 subst e;cases O;exact YR ⟨H3,I3,q3⟩
def Hr(K:Z4)(x:V)(H:Hp)(k:Bool):Prop:=
 match x with
 |.non=>k=Y
 |.bl b=>k=b
 |.int i=>k=(i != 0)
 |.str y=>y.length<=sizeLine/\k=((y.length:Int) != 0)
 |.byt y=>y.size<=sizeLine/\k=((y.size:Int) != 0)
 |.ref p=>(∃xs,SqL K H p xs/\k=!xs.isEmpty)\/(∃xs,SqT K H p xs/\k=!xs.isEmpty)\/∃kvs,H p=U (.dK kvs)/\k=!kvs.isEmpty
 |_=>False
def qv{κ:Type}{kvs:Z9 (κ×V)}{vs:Z9 (κ×Z3)}(r:KV kvs vs):(!vs.isEmpty)=!kvs.isEmpty:=by
 cases r<;>rfl
def ii(r:aac xs its):(!its.toArray.isEmpty)=!xs.isEmpty:=by
 cases r<;>simp
def jY:(sizeLine:Nat)<2 ^ 63:=by trivial
def D4:Ij X (λx H Q=>∃k,Hr X.K x H k/\Q k H):=by
 intro pins s σ H x v Q I rx h;obtain⟨k,e,q⟩:=h;have hs:sizeLine=16777216:=X_;cases x with
 |non=>
  cases rx;have O:k=Y:=e;subst O;exact truthy_none ⟨H,I,q⟩
 |bl b=>
  cases rx;have O:k=b:=e;subst O;exact YR ⟨H,I,q⟩
 |int i=>
  obtain⟨t,rfl⟩:=rx;have O:k=(i != 0):=e;subst O;exact PySem.P.truthy_int ⟨H,I,q⟩
 |str y=>
  obtain⟨t,rfl⟩:=rx;obtain⟨hy,O⟩:y.length<=sizeLine/\k=((y.length:Int) != 0):=e;subst O;exact PySem.P.truthy_str (by lia) ⟨H,I.tok _,q⟩
 |byt y=>
  obtain⟨t,rfl⟩:=rx;obtain⟨hy,O⟩:y.size<=sizeLine/\k=((y.size:Int) != 0):=e;subst O;exact W.truthy_bytes (by lia) ⟨H,I.tok _,q⟩
 |ref p=>
  cases rx;have O:(∃xs,SqL X.K H p xs/\k=!xs.isEmpty)\/(∃xs,SqT X.K H p xs/\k=!xs.isEmpty)\/∃kvs,H p=U (.dK kvs)/\k=!kvs.isEmpty:=e;rcases O with⟨xs,hx,O⟩|⟨xs,hx,O⟩|⟨kvs,hx,O⟩;subst O;obtain⟨its,r,pl,hz⟩:=I.list hx;have Z:=r.length;exact wpAny_truthy_list pl.isList (by simp only[ZI];lia) ⟨H,I.tok _,by rw[ii r];exact q⟩;subst O;obtain⟨its,r,pl,hz⟩:=I.tuple hx;have Z:=r.length;exact truthy_tuple pl (by simp only[ZI];lia) ⟨H,I.tok _,by rw[ii r];exact q⟩;subst O;obtain⟨hz,hS,vs,r,m⟩:kvs.length<=sizeLine/\(p==sysModules)=Y/\∃vs,KV kvs vs/\s.heap.DictOf (aI X.prog X.w) p vs:=I.hok p _ hx;have Z:kvs.length=vs.length:=Yw r;exact wpAny_truthy_dict hS m (by lia) ⟨H,I.tok _,by rw[qv r];exact q⟩
 |_=>exact(show False from e).elim
def pR(ha:PE X a ta)(he:∀O,isTrue a X.env O=(do let v <-O;standAt a.pos;holding [v] (truthy v))):
  PT X a (λσ H Q=>ta σ H λx H'=>∃k,Hr X.K x H' k/\Q k H'):=by
 intro pins s σ H Q I h;exact isTrue_plain (thn (ha pins s σ H _ I h) λv s1 hz=>by obtain⟨x,H1,I1,Z,q1⟩:=hz;exact D4 pins s1 σ H1 x v Q I1 Z q1) (he _)
def rA:OpR X (binaryOp .Add) (λx y H Q=>∃i j,x=.str i/\y=.str j/\i.length+j.length<=sizeLine/\Q (.str (i++j)) H):=by
 intro pins s σ H x y v u Q I Z O h;obtain⟨i,j,rfl,rfl,hz,q⟩:=h;obtain⟨t,rfl⟩:=Z;obtain⟨t',rfl⟩:=O;exact add_str (λt' tk=>⟨.str (i++j),H,I.tok _,⟨_,rfl⟩,q⟩) hz
def fq(r:aac [x] us):∃u,us=[u]/\RelV x u:=by
 cases r with
 |cons Z O=>cases O;exact⟨_,rfl,Z⟩
def GF(r:aac [x,y] us):∃u O,us=[u,O]/\RelV x u/\RelV y O:=by
 cases r with
 |cons r1 r2=>
  cases r2 with
  |cons r3 Z=>cases Z;exact⟨_,_,rfl,r1,r3⟩
end
section
end
def aaV.some_of(r:aaV (U v) o):∃u,o=U u/\RelV v u:=by
 cases o with
 |none=>trivial
 |some u=>exact⟨u,rfl,r⟩
def aaV.none_of(r:aaV M o):o=M:=by
 cases o with
 |none=>rfl
 |some u=>trivial
section
end
section
end
section
end
section
end
structure aaq (k:Nat)(A:Zj):Prop where
 hd:A.handled=none
 dp:A.depth+3*k+5<recursionLimit
 un:A.units+16*k+200<cLine
def aaq.mono(r:aaq k A)(h:j<=k):aaq j A:=⟨r.hd,by have:=r.dp;lia,by have:=r.un;lia⟩
theorem aaq.deeper(r:aaq (k+1) A)(env:Env):aaq k (A.deeper env):=
 ⟨r.hd,by have:=r.dp;show A.depth+1+3*k+5<_;lia,by have:=r.un;simp;lia⟩
theorem aaq.in1(r:aaq (k+1) A):aaq k A.in1:=
 ⟨r.hd,by have:=r.dp;show A.depth+3*k+5<_;lia,by have:=r.un;show A.units+1+16*k+200<_;lia⟩
theorem aaq.depth(r:aaq k A):A.depth<recursionLimit:=by have:=r.dp;lia
theorem aaq.units(r:aaq k A):A.units+64<cLine:=by have:=r.un;lia
def ab9:TA:=λ_ H Q=>Q [] H
def ua(ta:TE)(tr:TA):TA:=λσ H Q=>ta σ H λx Z=>tr σ Z λxs O=>Q (x::xs) O
section
variable{e:Expr}{t:TA}{pos:Pos}
def aM:PA X [] ab9:=λ_ _ _ _ H Q I h=>Calls.spliced_nil ⟨[],H,I,.nil,h⟩
noncomputable def au(ha:PE X e te)(hr:PA X es t)(hs:starEach (e::es) X.env=(Y,eval e X.env)::starEach es X.env:=by rfl):PA X (e::es) (ua te t):=by
 intro pos pins s σ H Q I h;rw[hs];refine Calls.spliced_cons (thn (ha pins s σ H _ I h) λu s1 hz=>?_);obtain⟨x,H1,I1,Z,q1⟩:=hz;exact thn (hr pos pins s1 σ H1 _ I1 q1) λus s2 hz=>by obtain⟨xs,H2,I2,O,q2⟩:=hz;exact⟨x::xs,H2,I2,.cons Z O,q2⟩
def JV(t:TA):TE:=λσ H Q=>t σ H λxs O=>xs.length<=sizeLine/\∀p,O p=M->Q (.ref p) (upd O p (.tup xs))
def Ji(t:TA):TE:=λσ H Q=>t σ H λxs O=>xs.length<=sizeLine/\∀p,O p=M->Q (.ref p) (upd O p (.lst xs))
def Ec{x1}(h:PA X es t):PE X (.Tuple es x1 pos) (JV t):=by
 intro pins s σ H Q I hq;refine wpAny_Tuple_spliced (thn (h pos pins s σ H _ I hq) λus s1 ⟨xs,Z,O,r,z,q⟩=>⟨by rw[<-r.length];exact z,?_⟩);have hf:Z s1.z=M:=O.hok.fresh (ZU _);refine⟨.ref s1.z,upd Z s1.z (.tup xs),O.laid (t':=s1.toks) (λb u e=>Z5 _ e) (ZU _) ?_,rfl,q _ hf⟩;exact⟨z,us,r,⟨_,ZX _ rfl,rfl,_,rfl⟩⟩
def CA(h:PA X es t):PE X (.List es pos) (Ji t):=by
 intro pins s σ H Q I hq;refine wpAny_List_spliced (thn (h pos pins s σ H _ I hq) λus s1 ⟨xs,Z,O,r,z,q⟩=>⟨by rw[<-r.length];exact z,?_⟩);have hf:Z s1.z=M:=O.hok.fresh (ZU _);refine⟨.ref s1.z,upd Z s1.z (.lst xs),O.laid (t':=s1.toks) (λb u e=>Z5 _ e) (ZU _) ?_,rfl,q _ hf⟩;exact⟨z,us,0,r,ZX _ rfl⟩
end
abbrev Sp:=Z9 V->Hp->VK->XK->Prop
abbrev CXT:=Z9 Env->Hp->ZV->XK->Z3->ZV->Prop
structure abr (P:Za)(w:Y1)(K:Z4)(mg:Str->Z8 Z3)(base:Heap)(A:Zj)(outer:List Env)(s:ZV)(H:Hp):Prop where
 frames:A.frames=some outer
 mod:Mod K mg base
 bs:∀b o,base.get? b=some o->s.heap.get? b=some o/\H b=none
 bsz:base.objs.size<=s.heap.objs.size
 aa9:s.heap.FunFrames base outer
 frf:∀b∈frs outer,H b=none
 hok:HOk P w H s.heap
 bare:AllBare s.gens
 tabs:abT H
def CE(outer:Z9 Env)(P:Za)(w:Y1)(H:Hp)(s:ZV)(Q:VK)(u:Z3)(O:ZV):Prop:=
 ∃v H',O.os=s.os/\AllBare O.gens/\Un (frs outer) [] H H' s.heap O.heap/\HOk P w H' O.heap/\RelV v u/\Q v H'
def CR(CX:CXT)(outer:Z9 Env)(P:Za)(w:Y1)(H:Hp)(s:ZV)(Q:VK)(E:XK)(r:Result)(O:ZV):Prop:=
 match r with
 |.ok (.ret u)=>CE outer P w H s Q u O
 |.ok _=>False
 |.error e=>CX outer H s E e O
structure abk (P:Za)(w:Y1)(K:Z4)(mg:Str->Z8 Z3)(base:Heap)(CX:CXT)(k:Nat)(f:ZP)(fd:FuncData)(ps:List Str)(sp:Sp):Prop where
 len:∀vs H Q E,sp vs H Q E->vs.length=ps.length
 run:∀(A:Zj)(outer:List Env)(s:ZV)(H:Hp)(args:Args)(us:List Z3)(vs:List V)(Q:VK)(E:XK),aaq k A->abr P w K mg base A outer s H->BindsTo s fd args (ps.zip us)->aac vs us->sp vs H Q E->
  codeAny (model P w) A (.call (.ref f) args) (CR CX outer P w H s Q E) s
theorem abr.in1{P:Za}{w:Y1}{K:Z4}{mg:Str->Z8 Z3}{base:Heap}{A:Zj}{outer:Z9 Env}{s:ZV}{H:Hp}(e:abr P w K mg base A outer s H):
  abr P w K mg base A.in1 outer s H:=⟨e.frames,e.mod,e.bs,e.bsz,e.aa9,e.frf,e.hok,e.bare,e.tabs⟩
section
def Inv.acG(I:Inv X pins σ H s):abr X.prog X.w X.K X.mg X.base X.A X.stack s H:=
 ⟨I.ok.frames,I.ok.mod,I.bs,ZL I.ok.bsz I.sz,I.stack,I.abL,I.hok,I.bare,I.ok.tabs.to I.base.aa8⟩
def Inv.after(I:Inv X pins σ H s)(h:CE X.stack X.prog X.w H s Q u s'):EP X pins σ Q u s':=by
 obtain⟨v,H',os,bare,un,hok,r,q⟩:=h;obtain⟨Z,g,d,t,O⟩:=s';obtain rfl:O=s.os:=os;exact⟨v,H',I.call (h':=Z) (g':=g) (d':=d) (t':=t) (ch:=[]) un hok bare (λb z=>absurd z (by simp)),r,q⟩
end
def F0(sp:Sp)(dvs:Z9 V)(E:XK)(t:TA):TE:=λσ H Q=>t σ H λvs O=>sp (vs++dvs) O Q E
def Binds(K:Z4)(fd:FuncData)(ps:Z9 Str)(ds:Z9 Z3):Prop:=
 ∀(s:ZV)(us:Z9 Z3),K.In s.heap->(us++ds).length=ps.length->BindsTo s fd ⟨us,[]⟩ (ps.zip (us++ds))
def Binds.all{K:Z4}{fd:FuncData}{ps:Z9 Str}(h:∀us:Z9 Z3,us.length=ps.length->bindArgs fd ⟨us,[]⟩=pure (ps.zip us)):Binds K fd ps []:=λs us _ O=>by
 rw[Yx]at O⊢;exact .of_eq (h us O)
def t9(CX:CXT)(X:Cx)(E:XK):Prop:=∀(pins:Z9 (ZP×Obj))(σ:St)(H:Hp)(s:ZV)(e:Z3)(O:ZV),Inv X pins σ H s->CX X.stack H s E e O->X.xe e O
section
variable{X:Cx}{e:Expr}
def CG(F:abk X.prog X.w X.K X.mg X.base CX k f fd ps sp)(hr:aaq k X.A)(hb:Binds X.K fd ps ds)(hd:aac dvs ds)(hx:t9 CX X E)(I:Inv X pins σ H s)(r:aac vs us)(h:sp (vs++dvs) H Q E):wpAny (model X.prog X.w) X.A (call (.ref f) us) (EP X pins σ Q) X.xe s:=by
 have r2:aac (vs++dvs) (us++ds):=r.append hd;have hl:(us++ds).length=ps.length:=by rw[<-r2.length];exact F.len _ _ _ _ h
 refine wpAny_call (W2 (F.run X.A X.stack s H ⟨us,[]⟩ (us++ds) (vs++dvs) Q E hr I.acG (hb s us I.kIn hl) r2 h) λr s' hq=>?_);cases r with
 |error e=>exact hx pins σ H s e s' I hq
 |ok fl=>
  cases fl with
  |ret u=>exact I.after hq
  |next=>assumption
  |brk=>assumption
  |cont=>assumption
noncomputable def Bp(F:abk X.prog X.w X.K X.mg X.base CX k f fd ps sp)(hr:aaq k X.A)(hg:Gl X x)(hm:X.mg x=U (.ref f))(hk:W.keepIn X.K (.ref f)=L)(hb:Binds X.K fd ps ds)(hd:aac dvs ds)(hx:t9 CX X E)
  (ha:PA X (e::es) t)(O:(x==("__debug__":Str))=Y:=by decide)(he:starEach (e::es) X.env=(Y,eval e X.env)::starEach es X.env:=by rfl)(hpl:(backTo pos (starEach es X.env)).any (·.1)=Y:=by rfl):
  PE X (.Call (.Name x p) (e::es) [] pos) (F0 sp dvs E t):=by
 intro pins s σ H Q I h;refine YD (AG I hg hm ?_ O);refine W.callWith_K (h₀:=X.base) I.ok.mod.kin hk (thn (ha pos pins s σ H _ I h) λus s1 ⟨vs,H1,Z,r,q⟩=>⟨Z.kIn,?_⟩) he hpl;exact CG F hr hb hd hx Z r q
end
section
end
structure aaC (N P:List Str)(sc:Scope):Prop where
 kind:sc.kind=.function
 co:sc.isCoroutine=false
 gen:sc.isGenerator=false
 nd:N.Nodup
 pre:N.take P.length=P
 par:∀x∈P,sc.names.lookup x=some .local\/sc.names.lookup x=some .cell
 aco:∀y∈sc.names,y.2≠.free
theorem kM{O:Str->Z8 NameKind}{x:Str}:∀{binds:Z9 (Str×Z3)}{m:Str->Z8 Z3},(∀v,(x,v)∉binds)->bindL O binds m x=m x
 |[],_,_=>rfl
 |(n,v)::r,m,h=>by
  unfold bindL;rw[kM λw Z=>h w (ZY _ Z)];split
  .grind
  rfl
theorem kN{O:Str->Z8 NameKind}{x:Str}:∀{binds:Z9 (Str×Z3)}{m:Str->Z8 Z3},(∀v,(x,v)∉binds)->bindC O binds m x=m x
 |[],_,_=>rfl
 |(n,v)::r,m,h=>by
  unfold bindC;rw[kN λw Z=>h w (ZY _ Z)];split;rfl
  grind
theorem ki{O:Str->Z8 NameKind}:∀{P:Z9 Str}{vs:Z9 Z3}{i:Nat}{m:Str->Z8 Z3},P.Nodup->P[i]?=U x->vs[i]?=U v->O x=U .local->
  bindL O (P.zip vs) m x=U v
 |[],_,_,_,_,h,_,_=>by simp at h
 |_::_,[],_,_,_,_,h,_=>by simp at h
 |p::P,w::vs,0,m,nd,h1,Z,hk=>by
  simp at h1 Z;subst h1;subst Z;show bindL O ((p,w)::P.zip vs) m p=_;unfold bindL;rw[kM λv hv=>(Y8.mp nd).1 (WJ hv).1,ZM hk];simp
 |p::P,w::vs,i+1,m,nd,h1,Z,hk=>by
  show bindL O ((p,w)::P.zip vs) m x=_;unfold bindL;exact ki (i:=i) (Y8.mp nd).2 (by simpa using h1) (by simpa using Z) hk
theorem j0{O:Str->Z8 NameKind}:∀{P:Z9 Str}{vs:Z9 Z3}{i:Nat}{m:Str->Z8 Z3},P.Nodup->P[i]?=U x->vs[i]?=U v->O x≠U .local->
  bindC O (P.zip vs) m x=U v
 |[],_,_,_,_,h,_,_=>by simp at h
 |_::_,[],_,_,_,_,h,_=>by simp at h
 |p::P,w::vs,0,m,nd,h1,Z,hk=>by
  simp at h1 Z;subst h1;subst Z;show bindC O ((p,w)::P.zip vs) m p=_;unfold bindC;rw[kN λv hv=>(Y8.mp nd).1 (WJ hv).1,ZH hk];simp
 |p::P,w::vs,i+1,m,nd,h1,Z,hk=>by
  show bindC O ((p,w)::P.zip vs) m x=_;unfold bindC;exact j0 (i:=i) (Y8.mp nd).2 (by simpa using h1) (by simpa using Z) hk
noncomputable def dm(N:Z9 Str)(vs:Z9 V):St:=vs.map U++List.replicate (N.length - vs.length) M
noncomputable def qY(CX:CXT)(P:Za)(w:Y1)(K:Z4)(mg:Str->Z8 Z3)(base:Heap)(N:Z9 Str)(Z:Str)(O:Scope)(f:ZP)(cd:Z3)(A:Zj)(outer:Z9 Env)(s:ZV)(H:Hp)(E:XK):Cx where
 prog:=P
 w:=w
 K:=K
 mg:=mg
 base:=base
 A:=A.deeper (envOfC Z O s.z f cd)
 N:=N
 e_:=s
 LI:=H
 env:=envOfC Z O s.z f cd
 outer:=outer
 stack:=envOfC Z O s.z f cd::outer
 ex:=[]
 calm:=L
 fn:=λ_=>L
 pn:=[]
 xe:=λe s'=>wpAny (model P w) (A.deeper (envOfC Z O s.z f cd)) (leaving (envOfC Z O s.z f cd) e) (λ_ QI=>CX outer H s E e QI) (λe' QI=>CX outer H s E e' QI) s'
def oF{sc:Scope}(h:sc.names.lookup x=U .cell):∃c,(cellsFrom n sc.names []).lookup x=U c:=by
 have q:=WV sc.names n [] (.inl h);exact Option.isSome_iff_exists.mp q
def kL{CX:CXT}{P:Za}{w:Y1}{K:Z4}{mg:Str->Z8 Z3}{base:Heap}{N ps:Z9 Str}{Z:Str}{O:Scope}{f:ZP}{cd:Z3}{A:Zj}{outer:Z9 Env}{s s1:ZV}{H:Hp}{E:XK}{us:Z9 Z3}{vs:Z9 V}
  (S:aaC N ps O) (hd:A.handled=M) (e0:abr P w K mg base A outer s H) (hl:vs.length=ps.length) (r:aac vs us)
  (x:InCallC s s.z (bindL (envOfC Z O s.z f cd).kindOf (ps.zip us) λ_=>M) (cellsFrom (s.z+1) O.names []) (bindC (envOfC Z O s.z f cd).kindOf (ps.zip us) λ_=>M) s1):
  Inv (qY CX P w K mg base N Z O f cd A outer s H E) [] (dm N vs) H s1:=by
 have hpl:ps.length<=N.length:=by have:=congrArg List.length S.pre;rw[X0]at this;lia
 obtain⟨h1,tk,rfl,hk⟩:=x.done;have OF:∀b:ZP,b∉(qY CX P w K mg base N Z O f cd A outer s H E).ex:=λb z=>absurd (show b∈([]:Z9 ZP) from z) (by simp);refine⟨⟨e0.mod,S.kind,rfl,rfl,ZU _,λy z c h1 h2=>?_,λy hy=>?_,λy c _ h=>?_,λ_=>hd,Around.frames_deeper e0.frames,.inr ⟨rfl,rfl⟩,λb z=>absurd z (OF b),e0.bs,e0.bsz,λb _ _=>OF b,λb z=>absurd z (OF b),e0.aa9,e0.frf,e0.tabs⟩,
  rfl,e0.bare,Un.kept hk,⟨_,x.toInCall.ns,λi y v h1 h2 h3=>?_⟩,λy c h=>⟨_,x.cell y c h⟩,e0.hok.fresh (ZU _),λy c h=>?_,λp hp=>absurd (show p∈([]:Z9 (ZP×Obj)) from hp) (by simp),e0.hok.kept hk,?_⟩
 exact name_of_addr x.apart (YQ h1) (YQ h2);rcases hy with hy|hy;exact oF hy;exact absurd rfl (S.aco _ (YQ hy));exact XH (x.above y c (YQ h))
 .have hi:i<vs.length:=by
   unfold dm at h2;by_cases hi:i<vs.length;exact hi
   .rw[Xc (by simpa using hi)]at h2
    rw[List.getElem?_replicate]at h2;split at h2<;>cases h2
  have ha:vs[i]?=U v:=by
   unfold dm at h2;rw[Yv (by simpa using hi),Zg]at h2;cases e:vs[i]? with
   |none=>simp_all
   |some a=>simp_all
  obtain⟨u,hu,rv⟩:=r.get ha;have hp:ps[i]?=U y:=by
   rw[<-S.pre,List.getElem?_take_of_lt (by lia)];exact h1
  have S9:ps.Nodup:=by rw[<-S.pre];exact S.nd.sublist (List.take_sublist _ _)
  refine⟨u,rv,?_⟩;rcases S.par y (Zs hp)with k|k;exact .inl ⟨k,ki S9 hp hu k⟩;obtain⟨c,e⟩:=oF (n:=s.z+1) k;refine .inr ⟨.inl k,c,e,?_⟩;have q:=x.cell y c e;rw[j0 S9 hp hu (by show O.names.lookup y≠_;lia)]at q;exact q
 exact e0.hok.fresh (XH (x.above y c (YQ h)));unfold dm;show _=N.length;simp;lia
def F2{CX:CXT}{P:Za}{w:Y1}{K:Z4}{mg:Str->Z8 Z3}{base:Heap}{k:Nat}{f:ZP}{name Z:Str}{params:Arguments}{body:Z9 Stmt}{O:Scope}{dV kV doc pm Ky ct oc:Z3}{an od:Z8 ZP}
  {Oe:Array (Z8 Z3)}{N ps:Z9 Str}{sp:Sp}(lk:K.lookup f=U ⟨oc,od,.func (W.fnOf name Z params body O dV kV doc pm an Ky ct),Oe⟩) (Ks:W.codeIn K Ky Z=L) (S:aaC N ps O)
  (len:∀vs H Q E,sp vs H Q E->vs.length=ps.length)
  (KZ:∀(A:Zj)(outer:Z9 Env)(s:ZV)(H:Hp)(vs:Z9 V)(Q:VK)(E:XK),aaq k (A.deeper (envOfC Z O s.z f Ky))->sp vs H Q E->
   ∃t,PSs (qY CX P w K mg base N Z O f Ky A outer s H E) body t/\t {nx:=λ_ H'=>Q .non H',rt:=Q} (dm N vs) H):
  abk P w K mg base CX (k+1) f (W.fnOf name Z params body O dV kV doc pm an Ky ct) ps sp:=by
 refine⟨len,λA outer s H args us vs Q E hr e0 hb r MS=>?_⟩;have hl:=len _ _ _ _ MS;have KX:K.In s.heap:=e0.mod.kin.keeps λb o e=>(e0.bs b o e).1;have lim:s.heap.NoLimit:=e0.mod.nolimit.keeps λb o e=>(e0.bs b o e).1;have Mg:∀y∈ps.zip us,O.names.lookup y.1=U .local\/(O.names.lookup y.1=U .cell/\((cellsFrom (s.z+1) O.names []).lookup y.1).isSome=L):=λ⟨n,v⟩ hy=>by
  rcases S.par n (WJ hy).1 with q|q;exact .inl q;exact .inr ⟨q,WV _ _ _ (.inl q)⟩
 refine codeAny_call_function hr.depth (KX _ _ lk) rfl S.co S.gen rfl (W.codeRec_of KX Ks) (hb _ _ _ _ ?_);refine wpAny_newFunctionEnv_cells S.kind Mg λenv he s1 x=>?_;subst he;refine⟨lim.keeps x.toInCall.keep,codeAny_func ?_⟩;obtain⟨t,ht,hq⟩:=KZ A outer s H vs Q E (hr.deeper _) MS;have I:Inv (qY CX P w K mg base N Z O f Ky A outer s H E) [] (dm N vs) H s1:=kL S hr.hd e0 hl r x;refine YS (ht [] s1 (dm N vs) H _ I hq) (λfl s' hs=>?_) λe s' hs=>hs;have fin:∀{i_:St}{H':Hp}{v:V}{u:Z3},Inv (qY CX P w K mg base N Z O f Ky A outer s H E) [] i_ H' s'->RelV v u->Q v H'->CE outer P w H s Q u s':=
  λ{i_ H' v u} J rv q=>⟨v,H',J.os,J.bare,J.base,J.hok,rv,q⟩
 cases fl with
 |ret u=>
  obtain⟨v,i_,H',J,rv,q⟩:=hs;exact fin J rv q
 |next=>
  obtain⟨i_,H',J,q⟩:=hs;exact fin (v:=V.non) (u:=Value.none) J rfl q
 |brk=>
  obtain⟨_,_,_,q⟩:=hs;exact False.elim q
 |cont=>
  obtain⟨_,_,_,q⟩:=hs;exact False.elim q
section
variable{X:Cx}{x:Str}{p pos:Pos}{e:Expr}{es:Z9 Expr}{t:TA}{id T:String}{r:Z9 V->Hp->VK->Prop}
def tCB(r:Z9 V->Hp->VK->Prop)(t:TA):TE:=λσ H Q=>t σ H λvs O=>r vs O Q
def bH(hc:dg X (.builtin id) r)(hg:Gl X x)(hm:X.mg x=M)(hv:bootBuiltins x=U (.builtin id))(ha:PA X (e::es) t)(hn:x≠"__name__":=by decide)(O:(x==("__debug__":Str))=Y:=by decide)(he:starEach (e::es) X.env=(Y,eval e X.env)::starEach es X.env:=by rfl)(hpl:(backTo pos (starEach es X.env)).any (·.1)=Y:=by rfl):PE X (.Call (.Name x p) (e::es) [] pos) (tCB r t):=by
 intro pins s σ H Q I h;refine YD (cF I hg hm hv ?_ hn O);exact PyProof.Rows.callWith_builtin1 (thn (ha pos pins s σ H _ I h) λus s1 hz=>by obtain⟨vs,H1,I1,Z,q1⟩:=hz;exact hc pins s1 σ H1 vs us Q I1 Z q1) he hpl
def cM(hc:dg X (.type T) r)(hg:Gl X x)(hm:X.mg x=M)(hv:bootBuiltins x=U (.type T))(ha:PA X (e::es) t)(hn:x≠"__name__":=by decide)(O:(x==("__debug__":Str))=Y:=by decide)(he:starEach (e::es) X.env=(Y,eval e X.env)::starEach es X.env:=by rfl)(hpl:(backTo pos (starEach es X.env)).any (·.1)=Y:=by rfl):PE X (.Call (.Name x p) (e::es) [] pos) (tCB r t):=by
 intro pins s σ H Q I h;refine YD (cF I hg hm hv ?_ hn O);exact YN (thn (ha pos pins s σ H _ I h) λus s1 hz=>by obtain⟨vs,H1,I1,Z,q1⟩:=hz;exact hc pins s1 σ H1 vs us Q I1 Z q1) he hpl
end
section
variable{κ:Type}[DecidableEq κ]
noncomputable def eP(kvs:Z9 (κ×V))(k:κ):Z8 V:=(kvs.find? λO=>decide (O.1=k)).map (·.2)
noncomputable def de(kvs:Z9 (κ×V))(k:κ)(v:V):Z9 (κ×V):=
 if(kvs.any λO=>decide (O.1=k))=L then kvs.map (λO=>if O.1=k then(O.1,v) else O) else kvs++[(k,v)]
def bV{p:κ×V}{r:Z9 (κ×V)}{k:κ}(e:p.1=k):eP (p::r) k=U p.2:=by simp[eP,List.find?_cons,e]
def b7{p:κ×V}{r:Z9 (κ×V)}{k:κ}(e:¬p.1=k):eP (p::r) k=eP r k:=by simp[eP,List.find?_cons,e]
theorem dN(k:κ):∀kvs:Z9 (κ×V),(kvs.any λO=>decide (O.1=k))=(eP kvs k).isSome
 |[]=>rfl
 |p::r=>by
  rw[List.any_cons];by_cases e:p.1=k;simp only[bV e,Zx e,Bool.true_or,Option.isSome_some];rw[b7 e,Zu e,Bool.false_or];exact dN k r
def bB(kvs:Z9 (κ×V))(k:κ)(v:V):(de kvs k v).length<=kvs.length+1:=by
 unfold de;split;simp;simp
def jy{kvs:Z9 (κ×V)}{k:κ}(v:V)(h:eP kvs k=M):de kvs k v=kvs++[(k,v)]:=by
 unfold de;rw[dN,h];rfl
def aaV.aaX(r:aaV o u):o.isSome=u.isSome:=by
 cases o with
 |none=>cases u with
  |none=>rfl
  |some _=>trivial
 |some _=>cases u with
  |none=>trivial
  |some _=>rfl
theorem aaV.getD(r:aaV o u)(rd:RelV d d'):RelV (o.getD d) (u.getD d'):=by
 cases o with
 |none=>cases u with
  |none=>exact rd
  |some _=>trivial
 |some _=>cases u with
  |none=>trivial
  |some _=>exact r
def KV.val(r:KV kvs vs)(k:κ):aaV (eP kvs k) (valueAt vs k):=by
 induction r with
 |nil=>trivial
 | @cons p q ps qs h t Z=>
  obtain⟨h1,h2⟩:=h;by_cases e:p.1=k;have O:q.1=k:=h1.symm.trans e;have b:valueAt (q::qs) k=U q.2:=by simp[valueAt,List.find?_cons,O]
  rw[bV e,b];exact h2;have O:¬q.1=k:=λz=>e (h1.trans z);have b:valueAt (q::qs) k=valueAt qs k:=by simp[valueAt,List.find?_cons,O]
  rw[b7 e,b];exact Z
theorem KV.any(r:KV kvs vs)(k:κ):(kvs.any λO=>decide (O.1=k))=vs.any λO=>decide (O.1=k):=by
 induction r with
 |nil=>rfl
 |cons h t Z=>rw[List.any_cons,List.any_cons,Z,h.1]
def KV.abZ(r:KV kvs vs)(k:κ)(ry:RelV y u):
  KV (kvs.map λO=>if O.1=k then(O.1,y) else O) (vs.map λO=>if O.1=k then(O.1,u) else O):=by
 induction r with
 |nil=>exact .nil
 | @cons p q ps qs h t Z=>
  refine .cons ?_ Z;lia
def KV.put(r:KV kvs vs)(k:κ)(O:RelV y u):KV (de kvs k y) (stored vs k u):=by
 unfold de stored;rw[r.any k];by_cases e:(vs.any λZ=>decide (Z.1=k))=L;rw[ZM e,ZM e];exact r.abZ k O;rw[ZH e,ZH e];exact Paired.snoc r ⟨rfl,O⟩
theorem KV.length(r:KV kvs vs):kvs.length=vs.length:=Yw r
end
def l6(r:RelV (kV k) u):(aI P w).is k u=L:=by
 cases k with
 |inl i=>obtain⟨t,e⟩:=(show ∃t,u=Value.int i t from r);subst e;exact fJ P w i t
 |inr x=>obtain⟨t,e⟩:=(show ∃t,u=Value.str x t from r);subst e;exact f7 P w x t
theorem kj:∀{ks:Z9 Key}{us:Z9 Z3},aac (ks.map kV) us->ItemsAre (aI P w) ks us
 |[],_,r=>by cases r;exact .nil
 |k::ks,_,r=>by
  cases r with
  |cons h t=>exact .cons (l6 h) (kj t)
abbrev KT(H:Hp):Z9 (Z9 Key×V)->Z9 (Z9 Key×ZP×Z3)->Prop:=Paired λp q=>p.1=q.1/\H q.2.1=U (.tup (p.1.map kV))/\RelV p.2 q.2.2
def KT.val(r:KT H kvs xs)(k:Z9 Key):aaV (eP kvs k) ((atKey xs k).map (·.2)):=by
 induction r with
 |nil=>trivial
 | @cons p q ps qs h t Z=>
  obtain⟨h1,_,h2⟩:=h;by_cases e:p.1=k;have O:q.1=k:=h1.symm.trans e;have b:atKey (q::qs) k=U q.2:=by simp[atKey,List.find?_cons,O]
  rw[bV e,b];exact h2;have O:¬q.1=k:=λz=>e (h1.trans z);have b:atKey (q::qs) k=atKey qs k:=by simp[atKey,List.find?_cons,O]
  rw[b7 e,b];exact Z
def KT.abZ(r:KT H kvs xs)(k:Z9 Key)(ry:RelV y u):
  KT H (kvs.map λO=>if O.1=k then(O.1,y) else O) (xs.map (putAt k u)):=by
 induction r with
 |nil=>exact .nil
 | @cons p q ps qs h t Z=>
  rw[Z0,Z0];refine .cons ?_ Z;obtain⟨h1,h2,h3⟩:=h;unfold putAt;lia
def KT.put(r:KT H kvs xs)(k:Z9 Key)(hb:H b=U (.tup (k.map kV)))(O:RelV y u):
  KT H (de kvs k y) (storedH xs k b u):=by
 have e:(kvs.any λZ=>decide (Z.1=k))=(atKey xs k).isSome:=by
  rw[dN,(r.val k).aaX,W7]
 unfold de storedH;rw[e];by_cases q:(atKey xs k).isSome=L;rw[ZM q,ZM q];exact r.abZ k O;rw[ZH q,ZH q];exact Paired.snoc r ⟨rfl,hb,O⟩
def KT.keeps(r:KT H kvs xs)(O:∀b ys,H b=U (.tup ys)->H' b=U (.tup ys)):KT H' kvs xs:=
 Paired.abS r λ_ _ z=>⟨z.1,O _ _ z.2.1,z.2.2⟩
section
def qV(ok:HOk P w H h)(e:Rd H a u):aaj P w H h a u:=e.ok ok
def mq(ok:HOk P w H h)(e:Rd H a (.dK kvs)):kvs.length<=sizeLine/\(a==sysModules)=Y/\∃vs,KV kvs vs/\h.DictOf (aI P w) a vs:=
 show aaj P w H h a (.dK kvs) from qV ok e
def Dx(ok:HOk P w H h)(e:H a=U (.dK kvs)):kvs.length<=sizeLine/\(a==sysModules)=Y/\∃vs,KV kvs vs/\h.DictOf (aI P w) a vs:=mq ok (.inl e)
def HR(ok:HOk P w H h)(e:H a=U (.tup (ks.map kV))):(tupleKind (aI P w)).is h ks a:=by
 obtain⟨_,its,r,o,h1,Z,n,O⟩:=(show aaj P w H h a (.tup (ks.map kV)) from ok a _ e)
 exact⟨o,its.toArray,n,h1,Z,O,by simpa using kj r⟩
end
def Ek(H:Hp)(a:ZP)(y:V)(r:Z8 V):Prop:=
 ∃kvs k,Rd H a (.dK kvs)/\y=kV k/\r=eP kvs k
def Hz(H:Hp)(a:ZP)(y v:V)(H':Hp):Prop:=
 ∃kvs k,H a=U (.dK kvs)/\y=kV k/\kvs.length<sizeLine/\H'=upd H a (.dK (de kvs k v))
section
variable{o:Z8 V}{A:Zj}
def Inv.big(I:Inv X pins σ H s):sysModules<s.z:=by
 have h:mainGlobals<s.z:=(I.mod.glob.keeps I.bk).lt;exact Nat.lt_trans (by decide) h
def sY(hu:A.units+1<cLine)(I:Inv X pins σ H s)(g:Ek H a y (U v))(ry:RelV y u)(h:∀O s',Inv X pins σ H s'->RelV v O->Q O s'):
  wpAny (model X.prog X.w) A (getItem (.ref a) u) Q E s:=by
 obtain⟨kvs,k,e,ey,l⟩:=g;subst ey;obtain⟨z,hd,vs,rel,dd⟩:=mq I.hok e;obtain⟨O,hw,Z⟩:=aaV.some_of (v:=v) (o:=valueAt vs k) (by rw[l];exact rel.val k);exact wpAny_getItem_of (l6 ry) dd.mapOf hw (h O _ (I.tok _) Z)
def Bx(hu:A.units+1<cLine)(I:Inv X pins σ H s)(g:Ek H a y o)(Z:RelV y u)(h:∀O,Inv X pins σ H O->Q (.bool (!o.isSome)) O):
  wpAny (model X.prog X.w) A (compareOp .NotIn u (.ref a)) Q E s:=by
 obtain⟨kvs,k,e,ey,l⟩:=g;subst ey;obtain⟨z,hd,vs,rel,dd⟩:=mq I.hok e;refine wpAny_notIn_of (l6 Z) hd dd.mapOf ?_;rw[<-(rel.val k).aaX,<-l];exact h _ (I.tok _)
def gv(I:Inv X pins σ H s)(O:Mut (H a))(Z:Heap.SameBut a s.heap h')(he:∃q,h'.get? a=U q)(new:aaj X.prog X.w (upd H a ob) h' a ob):
  Inv X pins σ (upd H a ob) {s with heap:=h',toks:=t'}:=
 I.write (x:=a) (e:=a) O (.inl rfl) (λb q hb z=>(Z.2 b hb).trans z) he new
def ze(z:kvs.length<=sizeLine)(hd:(a==sysModules)=Y)(rel:KV kvs vs)(dd:h'.DictOf (aI P w) a vs):
  aaj P w H' h' a (.dK kvs):=⟨z,hd,vs,rel,dd⟩
def sx(hu:A.units+1<cLine)(I:Inv X pins σ H s)(g:Hz H a y v H')(ry:RelV y u)(rv:RelV v r)(h:∀Z,Inv X pins σ H' Z->Q () Z):
  wpAny (model X.prog X.w) A (setItem (.ref a) u r) Q E s:=by
 obtain⟨kvs,k,e,ey,l,eH⟩:=g;subst ey eH;obtain⟨z,hd,vs,rel,dd⟩:=Dx I.hok e;have hz:vs.length<=sizeLine:=by rw[<-rel.length];exact z
 have hl:(de kvs k v).length<=sizeLine:=by have:=bB kvs k v;lia
 refine wpAny_setItem_pairs (hsz:=hz) (l6 ry) dd λh' O hs=>h _ ?_;have he:∃q,h'.get? a=U q:=let ⟨q,_,_,hq,_⟩:=O;⟨q,hq⟩
 exact gv I (by rw[e];trivial) hs he (ze hl hd (rel.put k rv) O)
end
section
end
def FH(i:Expr):Prop:=∀O Z,subscripted i Y O Z=operate [O,Z] (getItem O Z)
def AI{prog:Za}{w:Y1}{A:Zj}{E:Z3->ZV->Prop}{s:ZV}{env:Env}{value slice:Expr}{pos:Pos}{T id:String}{Q:Z3->ZV->Prop}
  (hl:typeLookup (.type T) "__getitem__"=pure (U (.builtin id))) (hs:FH slice)
  (h:wpAny (model prog w) A (eval value env) (λo a_=>wpAny (model prog w) A (eval slice env) (λi s_=>s_.TypeIs o T/\wpAny (model prog w) A (getItem o i) Q E s_) E a_) E s):
  wpAny (model prog w) A (eval (.Subscript value slice pos) env) Q E s:=by
 refine Subscript_ (YS h (λo a_ J_=>YS J_ (λi s_ LZ=>?_) λ_ _ x=>x) λ_ _ x=>x);obtain⟨hT,LZ⟩:=LZ;refine Z_ ?_;refine Z_ (Ye hT hl ?_);have fin:wpAny (model prog w) A (subscripted slice Y o i) (λr Ly=>wpAny (model prog w) A (letTemporaryGo value o r >>= λ_=>pure r) Q E Ly) E s_:=by
  rw[hs o i];exact wpAny_operating (YS LZ (λr Ly MA=>Z_ (wpAny_letTemporaryGo (Z6 MA))) λ_ _ x=>x)
 first
  |exact Z6 (Z_ fin)
  |exact Z_ (Z6 (Z_ fin))
  |exact Z_ fin
def l8(I:Inv X pins σ H s)(g:Ek H a y o):s.TypeIs (.ref a) "dict":=by
 obtain⟨kvs,k,e,_,_⟩:=g;obtain⟨_,_,vs,_,dd⟩:=mq I.hok e;exact dd.typeIs
section
end
def xP(h:Heap)(hb:sysModules<h.objs.size):aaj P w H (h.push {cls:=.type "dict",data:=.dict #[]}) h.objs.size (.dK []):=
 ⟨Zm _,beq_eq_false_iff_ne.mpr (ZF (ZA hb)),[],.nil,Heap.DictOf.new h⟩
def ack:TE:=λ_ H Q=>∀p,H p=M->Q (.ref p) (upd H p (.dK []))
section
def xO:PE X (.Dict [] [] pos) ack:=λpins s σ H Q I h=>
 wpAny_Dict_empty ⟨.ref s.z,_,I.laid (a:=s.z) (o:=.dK []) (t':=s.toks) (λ_ _ q=>Z5 _ q) (ZU _) (xP s.heap I.big),rfl,h _ (I.hok.fresh (ZU _))⟩
end
section
variable{A:Zj}
def CV(hu:A.units+1<cLine)(I:Inv X pins σ H s)(g:Ek H a y o)(ry:RelV y u)(rd:RelV d r)(h:∀O Z,Inv X pins σ H Z->RelV (o.getD d) O->Q O Z):
  wpAny (model X.prog X.w) A (call (.builtin "dict.get") [.ref a,u,r]) Q E s:=by
 obtain⟨kvs,k,e,ey,l⟩:=g;subst ey;obtain⟨z,hd,vs,rel,dd⟩:=mq I.hok e;refine call_meetsIn WD dd.typeIs F.entry_dict_get (F.args_dict_get_3 _ _ _) (meets_dict_get_default (aI X.prog X.w) a (l6 ry) hd r) ⟨_,dd.mapOf,h _ _ (I.tok _) ?_⟩;rw[l];exact(rel.val k).getD rd
end
section
end
section
end
section
end
end L2
namespace HT
open PySem PyProof.Rows
def ab0(A:Zj)(s:ZV)(a:Int)(t:Tok)(c:Int)(u:Tok)(prog:Za)(w:Y1)(E:Z3->ZV->Prop)(Q:Z3->ZV->Prop)(h:Q (.bool (decide (a<c))) s):
  wpAny (model prog w) A (richCompare .Lt (.int a t) (.int c u)) Q E s:=
 (PyProof.Rows.lt_int h:wpAny (model prog w) A (compareOp .Lt (.int a t) (.int c u)) Q E s)
section
open PySem.SeqAt
open PySem.AutoSeq1 (wpAny_loadPart')
open PySem.MeetsSeq PySem.MeetsSeq2 PySem.MeetsSeq3
end
section
noncomputable def sIx(n d:Nat):Z8 Int->Nat
 |none=>d
 |some v=>if v<0 then(v+(n:Int)).toNat else min v.toNat n
theorem abC(n d:Nat):sIx n d M=d:=rfl
def abM(n d k:Nat):sIx n d (U (k:Int))=min k n:=by
 rfl
end
end HT
namespace L2
open PySem PySem.Spec PyProof.Rows
variable[Lams]
abbrev TO:=St->Hp->(Z8 Int->Hp->Prop)->Prop
def PO(X:Cx)(e:Z8 Expr)(t:TO):Prop:=
 ∀(pins:Z9 (ZP×Obj))(s:ZV)(σ:St)(H:Hp)(Q:Z8 Int->Hp->Prop),Inv X pins σ H s->t σ H Q->
  wpAny (model X.prog X.w) X.A (evalPart e X.env) (λu O=>∃o H',Inv X pins σ H' O/\IsPart u o/\Q o H') X.xe s
def ab8:TO:=λ_ H Q=>Q M H
def GE(t:TE):TO:=λσ H Q=>t σ H λx O=>∃i,x=.int i/\Q (U i) O
section
variable{X:Cx}{te:TE}{lo hi:Z8 Expr}{tl th:TO}
def BF:PO X M ab8:=by
 intro pins s σ H Q I h;exact Z6 ⟨M,H,I,.none,h⟩
def A0(h:PE X e te):PO X (U e) (GE te):=by
 intro pins s σ H Q I hw;refine thn (h pins s σ H _ I hw) λu s1 hz=>?_;obtain⟨x,H1,I1,O,Z⟩:=hz;obtain⟨i,rfl,q⟩:=Z;obtain⟨t,rfl⟩:=O;exact⟨U i,H1,I1,.int i t,q⟩
def SlR(X:Cx)(r:V->Z8 Int->Z8 Int->Hp->VK->Prop):Prop:=
 ∀(pins:Z9 (ZP×Obj))(s:ZV)(σ:St)(H:Hp)(x:V)(v vl O:Z3)(lo hi:Z8 Int)(sl:ZP)(Q:VK),Inv X pins σ H s->RelV x v->s.heap.IsSliceOf sl vl O .none->IsPart vl lo->IsPart O hi->r x lo hi H Q->
  ∃T id,typeLookup (.type T) "__getitem__"=pure (U (.builtin id))/\s.TypeIs v T/\wpAny (model X.prog X.w) X.A (getItem v (.ref sl)) (EP X pins σ Q) X.xe s
def tSl(r:V->Z8 Int->Z8 Int->Hp->VK->Prop)(te:TE)(tl th:TO):TE:=λσ H Q=>te σ H λx H1=>tl σ H1 λl Z=>th σ Z λu O=>r x l u O Q
def oZ(hr:SlR X r)(he:PE X e te)(hl:PO X lo tl)(hu:PO X hi th):PE X (.Subscript e (.Slice lo hi M p2) pos) (tSl r te tl th):=by
 intro pins s σ H Q I h;refine Subscript_ (thn (he pins s σ H _ I h) λv s1 hz=>?_);obtain⟨x,H1,I1,r1,q1⟩:=hz;refine wpAny_Slice (thn (hl pins s1 σ H1 _ I1 q1) λvl s2 ⟨l,H2,I2,pl,q2⟩=>thn (hu pins s2 σ H2 _ I2 q2) λO s3 hz=>?_);obtain⟨u,Z,I3,pu,q3⟩:=hz;refine Z6 ?_;have I4:Inv X pins σ Z {s3 with heap:=s3.heap.push {cls:=.type "slice",data:=.fields #[vl,O,.none]}}:=I3.kept (t':=s3.toks) λb ob q=>Z5 _ q;obtain⟨T,id,hT,ht,hg⟩:=hr pins {s3 with heap:=s3.heap.push {cls:=.type "slice",data:=.fields #[vl,O,.none]}} σ Z x v vl O l u s3.z Q I4 r1 (Heap.IsSliceOf.new ..) pl pu q3;exact tail_any (ops:=[.ref s3.z,v]) ht hT hg (by rfl)
noncomputable def AY(xs:Z9 V)(lo hi:Z8 Int):Z9 V:=(xs.drop (HT.sIx xs.length 0 lo)).take (HT.sIx xs.length xs.length hi - HT.sIx xs.length 0 lo)
def lU(xs:Z9 V)(lo hi:Z8 Int):(AY xs lo hi).length<=xs.length:=by
 unfold AY;simp;lia
end
noncomputable def ixN(n:Nat)(i:Int):Z8 Nat:=if 0<=i then(if i<n then U i.toNat else M) else if -(n:Int)<=i then U (i+n).toNat else M
noncomputable def atI{O:Type}(xs:Z9 O)(i:Int):Z8 O:=(ixN xs.length i).bind λj=>xs[j]?
def Bw(h:ixN n i=U j):seqIndex? i n=U j/\j<n/\ -(n:Int)<=i/\i<n:=by
 unfold ixN at h;by_cases O:0<=i;rw[ZM O]at h;by_cases h1:i<n;rw[ZM h1]at h;have e:i.toNat=j:=Z7 h;exact⟨by rw[seqIndex_of O h1,e],by lia,by lia,h1⟩;rw[ZH h1]at h;trivial;rw[ZH O]at h;by_cases h1: -(n:Int)<=i;rw[ZM h1]at h;have e:(i+n).toNat=j:=Z7 h;exact⟨by rw[seqIndex_neg (by lia) h1,e],by lia,h1,by lia⟩;rw[ZH h1]at h;trivial
def ny{q:Type}{xs:Z9 q}{i:Int}{v:q}(h:atI xs i=U v):∃j,seqIndex? i xs.length=U j/\xs[j]?=U v/\j<xs.length/\ -(xs.length:Int)<=i/\i<xs.length:=by
 unfold atI at h;cases e:ixN xs.length i with
 |none=>simp_all
 |some j=>
  rw[e]at h;obtain⟨h1,h2,h3,h4⟩:=Bw e;exact⟨j,h1,h,h2,h3,h4⟩
def sw{O:Type}{xs:Z9 O}{j:Nat}{v:O}(h:xs[j]?=U v):atI xs (j:Int)=U v:=by
 have Z:j<xs.length:=(ZO.mp h).1;have e:ixN xs.length (j:Int)=U j:=by
  unfold ixN;rw[ZM (by lia),ZM (by lia)];simp
 unfold atI;rw[e];exact h
def gQ(b:Expr):Prop:=∀o i,subscripted b Y o i=operate [o,i] (getItem o i)
def IxR(X:Cx)(r:R2):Prop:=
 ∀(Z O:Expr)(pins:Z9 (ZP×Obj))(s:ZV)(σ:St)(H:Hp)(x y:V)(v u:Z3)(Q:VK),Inv X pins σ H s->RelV x v->RelV y u->r x y H Q->
  subscripted O Y v u=operate [v,u] (getItem v u)->wpAny (model X.prog X.w) X.A (subscriptTail Z O v u) (EP X pins σ Q) X.xe s
def MtR(X:Cx)(id:String)(r:V->Z9 V->Hp->VK->Prop):Prop:=
 ∀(pins:Z9 (ZP×Obj))(s:ZV)(σ:St)(H:Hp)(x:V)(xs:Z9 V)(v:Z3)(us:Z9 Z3)(Q:VK),Inv X pins σ H s->RelV x v->aac xs us->r x xs H Q->
  wpAny (model X.prog X.w) X.A (call (.builtin id) (v::us)) (EP X pins σ Q) X.xe s
structure Mc (v:Env)(o:Expr)(n:Str)(e:Expr)(es:List Expr)(ap cp:Pos):Prop where
 b:attributeBase o n v (eval o v)=eval o v
 f:((backTo cp (starEach (e::es) v)).all (λx=>!x.1)&&(backToKw cp (keywordEach [] v)).all (λx=>x.1.isSome)&&decide ((e::es).length+([]:List Keyword).length+(if([]:List Keyword).isEmpty then 0 else 1)<30))=true
 l:(ap.endLine==cp.line)=true
 s:starEach (e::es) v=(false,eval e v)::starEach es v
 p:(backTo cp (starEach es v)).any (·.1)=false
section
variable{X:Cx}{a b:Expr}{ta tb:TE}{pos:Pos}
def IxR.or(h:IxR X r)(h':IxR X r'):IxR X (λx y H Q=>r x y H Q\/r' x y H Q):=by
 intro O Z pins s σ H x y v u Q I rx ry q hs;rcases q with q|q;exact h O Z pins s σ H x y v u Q I rx ry q hs;exact h' O Z pins s σ H x y v u Q I rx ry q hs
def yw(hr:IxR X r)(ha:PE X a ta)(hb:PE X b tb)(hs:gQ b):PE X (.Subscript a b pos) (tOp r ta tb):=by
 intro pins s σ H Q I h;exact Subscript_ (FK ha hb I h λv u s2 x y H2 I2 Z O q=>hr a b pins s2 σ H2 x y v u Q I2 Z O q (hs _ _))
def G3(K:Z4):R2:=λx y H Q=>∃p xs i v,x=.ref p/\y=.int i/\SqL K H p xs/\atI xs i=U v/\Q v H
def HU(K:Z4):R2:=λx y H Q=>∃p xs i v,x=.ref p/\y=.int i/\SqT K H p xs/\atI xs i=U v/\Q v H
def acC:R2:=λx y H Q=>∃z i c,x=.str z/\y=.int i/\z.length<=sizeLine/\atI z.cps.toList i=U c/\Q (.str ⟨#[c]⟩) H
def mB:IxR X (G3 X.K):=by
 intro O Z pins s σ H x y v u Q I rx ry h hs;obtain⟨p,xs,i,z,rfl,rfl,hq,he,q⟩:=h;cases rx;obtain⟨t,rfl⟩:=ry;obtain⟨its,r,pl,hz⟩:=I.list hq;obtain⟨j,h1,h2,h3,h4,h5⟩:=ny he;obtain⟨w,ew,Kk⟩:=r.get h2;have hl:=r.length;have hn:=jY;have fin:EP X pins σ Q w s:=⟨z,H,I,Kk,q⟩
 by_cases h0:0<=i;have hj:i.toNat=j:=by
  rw[seqIndex_of h0 h5]at h1;exact Z7 h1
 exact item_listR pl.isList h0 (by lia) (by rw[hj];simpa using ew) fin hs;have hj:(i+(its.toArray.size:Int)).toNat=j:=by
  rw[seqIndex_neg (by lia) h4]at h1;rw[ZI,<-hl];exact Z7 h1
 exact subscriptTail_builtinR (x:=w) pl.isList.typeIs slot_list_getitem.lookup
  (wpAny_getItem_list_neg (Q:=λr s'=>r=w/\EP X pins σ Q r s') pl.isList (by lia) (by simp;lia) (by lia) (by rw[hj];simpa using ew) ⟨rfl,fin⟩) hs
def ED:IxR X (HU X.K):=by
 intro O Z pins s σ H x y v u Q I rx ry h hs;obtain⟨p,xs,i,z,rfl,rfl,hq,he,q⟩:=h;cases rx;obtain⟨t,rfl⟩:=ry;obtain⟨its,r,pl,hz⟩:=I.tuple hq;obtain⟨j,h1,h2,h3,h4,h5⟩:=ny he;obtain⟨w,ew,Kk⟩:=r.get h2;have hl:=r.length;have hn:=jY;have fin:EP X pins σ Q w s:=⟨z,H,I,Kk,q⟩;exact subscriptTail_builtinR (x:=w) pl.typeIs slot_tuple_getitem.lookup
  (getItem_tuple (j:=j) (Q:=λr s'=>r=w/\EP X pins σ Q r s') pl (by lia) (by lia) (by simp;lia) (by simpa using ew) ⟨rfl,fin⟩) hs
def zh:IxR X acC:=by
 intro O Z pins s σ H x y v u Q I rx ry h hs;obtain⟨z,i,c,rfl,rfl,hz,he,q⟩:=h;obtain⟨t,rfl⟩:=rx;obtain⟨t',rfl⟩:=ry;obtain⟨j,h1,h2,h3,h4,h5⟩:=ny he;have hl:z.cps.toList.length=z.length:=by simp[Str.length]
 rw[hl]at h1 h4 h5;have hn:=jY;exact tail_any (typeIs_str s z t) slot_str_getitem.lookup (getItem_str (c:=c) (by
  lia) (by rw[h1];simpa using h2) ⟨.str ⟨#[c]⟩,H,I.tok _,⟨_,rfl⟩,q⟩) hs
def rIx(K:Z4):R2:=λx y H Q=>G3 K x y H Q\/HU K x y H Q\/acC x y H Q
def DY:IxR X (rIx X.K):=mB.or (ED.or zh)
def kZ(lo hi:Z8 Int)(n:Nat):(sliceBounds lo hi M n).1=((HT.sIx n 0 lo:Nat):Int)/\(sliceBounds lo hi M n).2.1=((HT.sIx n n hi:Nat):Int)/\(sliceBounds lo hi M n).2.2=1:=by
 refine⟨?_,?_,rfl⟩
 .cases lo with
  |none=>rfl
  |some i=>
   simp only[sliceBounds,HT.sIx,Option.getD_none,show(1:Int)>0 by decide,YB];by_cases h:i<0
   .simp only[h,YB]<;>lia
   .simp only[h,YO]<;>lia
 .cases hi with
  |none=>rfl
  |some i=>
   simp only[sliceBounds,HT.sIx,Option.getD_none,show(1:Int)>0 by decide,YB];by_cases h:i<0
   .simp only[h,YB]<;>lia
   .simp only[h,YO]<;>lia
def iW(its:Z9 Z3)(lo hi:Z8 Int):slicePick its.toArray lo hi M=((its.drop (HT.sIx its.length 0 lo)).take (HT.sIx its.length its.length hi - HT.sIx its.length 0 lo)).toArray:=by
 obtain⟨h1,Z,O⟩:=kZ lo hi its.toArray.size;unfold slicePick;rw[h1,Z,O];simp only[sliceRange_one,pick_run,ZI]<;>rfl
def IL(K:Z4):V->Z8 Int->Z8 Int->Hp->VK->Prop:=λx lo hi H Q=>∃a xs,x=.ref a/\SqL K H a xs/\∀p,H p=M->Q (.ref p) (upd H p (.lst (AY xs lo hi)))
def Af:SlR X (IL X.K):=by
 intro pins s σ H x v vl vu lo hi sl Q I rx hs pl pu h;obtain⟨a,xs,rfl,hx,q⟩:=h;cases rx;obtain⟨its,r,Z,hz⟩:=I.list hx;have O:=r.length;refine⟨"list",_,slot_list_getitem.lookup,Z.isList.typeIs,?_⟩;refine wpAny_getItem_list_slice Z.isList hs pl pu .none (by simp) ?_ (by simp;lia);rw[iW,<-O];refine⟨.ref s.z,_,I.laid (t':=s.toks) (o:=.lst (AY xs lo hi)) (λb ob q=>Z5 _ q) (ZU _) ?_,rfl,q _ (I.hok.fresh (ZU _))⟩;exact⟨ZL (lU xs lo hi) hz,_,0,(r.drop (HT.sIx xs.length 0 lo)).take (HT.sIx xs.length xs.length hi - HT.sIx xs.length 0 lo),ZX _ rfl⟩
def kK:dg X (.builtin "len") (λxs H Q=>∃p ys,xs=[.ref p]/\(SqL X.K H p ys\/SqT X.K H p ys)/\Q (.int ys.length) H):=by
 intro pins s σ H xs us Q I r h;obtain⟨p,ys,rfl,Z,q⟩:=h;obtain⟨u,rfl,rx⟩:=fq r;cases rx;have hn:=jY;rcases Z with Z|Z
 .obtain⟨its,r',pl,hz⟩:=I.list Z
  have O:=r'.length;exact Calls.call_len_list pl.isList (by simp only[ZI]<;>lia) ⟨.int ys.length,H,I.tok _,⟨s.toks+1,by rw[ZI,O]⟩,q⟩
 .obtain⟨its,r',pl,hz⟩:=I.tuple Z
  have O:=r'.length;exact len_tuple pl (by simp only[ZI]<;>lia) ⟨.int ys.length,H,I.tok _,⟨s.toks+1,by rw[ZI,O]⟩,q⟩
def lN:dg X (.builtin "len") (λxs H Q=>∃z,xs=[.str z]/\z.length<=sizeLine/\Q (.int z.length) H):=by
 intro pins s σ H xs us Q I r h;obtain⟨z,rfl,hz,q⟩:=h;obtain⟨u,rfl,t,rfl⟩:=fq r;have O:=jY;exact len_str (by lia) ⟨.int z.length,H,I.tok _,⟨_,rfl⟩,q⟩
def lC:dg X (.type "list") (λxs H Q=>∃p ys,xs=[.ref p]/\(SqL X.K H p ys\/SqT X.K H p ys)/\∀l,H l=M->Q (.ref l) (upd H l (.lst ys))):=by
 intro pins s σ H xs us Q I r h;obtain⟨p,ys,rfl,hq,q⟩:=h;obtain⟨u,rfl,rx⟩:=fq r;cases rx;have fin:∀(its:Z9 Z3),aac ys its->ys.length<=sizeLine->∀(h':Heap)(Z:Nat),(∀b o',s.heap.get? b=U o'->h'.get? b=U o')->
   h'.get? s.z=U {cls:=.type "list",dict:=M,data:=.seq its.toArray Z,slots:=#[]}->EP X pins σ Q (.ref s.z) {s with heap:=h'}:=λits O hz h' Z kp e=>
  ⟨.ref s.z,_,I.laid (t':=s.toks) kp (ZU _) (show aaj X.prog X.w _ h' _ (.lst ys) from⟨hz,its,Z,O,e⟩),rfl,q _ (I.hok.fresh (ZU _))⟩
 rcases hq with hq|hq;obtain⟨its,O,pl,hz⟩:=I.list hq;have hlen:=O.length;obtain⟨o,ho,hc,n,hd⟩:=pl.isList;exact call_list_seq p (.inl rfl) ho hc hd (λh' Z kp e=>fin its O hz h' Z kp e) (by simp;lia);obtain⟨its,O,pl,hz⟩:=I.tuple hq;have hlen:=O.length;obtain⟨o,ho,hc,n,hd⟩:=pl;exact call_list_seq p (.inr rfl) ho hc hd (λh' Z kp e=>fin its O hz h' Z kp e) (by simp;lia)
def jq:dg X (.type "tuple") (λxs H Q=>∃p ys,xs=[.ref p]/\((SqL X.K H p ys/\∀l,H l=M->Q (.ref l) (upd H l (.tup ys)))\/(SqT X.K H p ys/\Q (.ref p) H))):=by
 intro pins s σ H xs us Q I r h;obtain⟨p,ys,rfl,h⟩:=h;obtain⟨u,rfl,rx⟩:=fq r;cases rx;rcases h with⟨Z,q⟩|⟨Z,q⟩;obtain⟨its,O,pl,hz⟩:=I.list Z;have hlen:=O.length;refine call_tuple_list pl.isList (λh' kp=>?_) (by simp;lia);have I1:Inv X pins σ H {s with heap:=h'}:=I.kept (t':=s.toks) kp;have I2:Inv X pins σ (upd H h'.objs.size (.tup ys)) {s with heap:=h'.push {cls:=.type "tuple",data:=.seq its.toArray}}:=
  I1.laid (t':=s.toks) (λb o e=>Z5 _ e) (ZU _) (show aaj X.prog X.w _ _ _ (.tup ys) from⟨hz,its,O,IsTup.new _ _⟩)
 exact⟨.ref h'.objs.size,_,I2,rfl,q _ (I1.hok.fresh (ZU _))⟩;obtain⟨its,O,pl,hz⟩:=I.tuple Z;exact call_tuple_same pl ⟨.ref p,H,I,rfl,q⟩
def tyV(K:Z4)(T:String)(x:V)(H:Hp):Prop:=match x with
 |.str _=>T="str"
 |.int _=>T="int"
 |.ref p=>(T="list"/\∃xs,SqL K H p xs)\/(T="tuple"/\∃o,K.lookup p=U o/\o.cls=.type "tuple"/\o.dict=M)\/
   (T="dict"/\∃kvs,H p=U (.dK kvs))
 |_=>False
def CM(I:Inv X pins σ H s)(r:RelV x v)(ty:tyV X.K T x H):
  s.TypeIs v T/\∀a,v=.ref a->∃ob,s.heap.get? a=U ob/\ob.dict=M:=by
 cases x with
 |str z=>
  obtain⟨t,rfl⟩:=r;cases (show T="str" from ty);exact⟨typeIs_str s z t,λ_ e=>nomatch e⟩
 |int i=>
  obtain⟨t,rfl⟩:=r;cases (show T="int" from ty);exact⟨typeIs_int s i t,λ_ e=>nomatch e⟩
 |ref p=>
  cases r;rcases ty with⟨rfl,xs,Z⟩|⟨rfl,o,O,hc,hd⟩|⟨rfl,kvs,O⟩;obtain⟨its,_,pl,_⟩:=I.list Z;refine⟨pl.isList.typeIs,λa e=>?_⟩;cases e;obtain⟨o,n,e,c,hd,_⟩:=pl;exact⟨o,e,hd⟩;refine⟨⟨o,I.kIn p o O,hc⟩,λa e=>?_⟩;cases e;exact⟨o,I.kIn _ o O,hd⟩;obtain⟨_,_,_,_,o,_,_,e,ex,_⟩:=I.hok p _ O;refine⟨⟨o,e,ex.1⟩,λa e2=>?_⟩;cases e2;exact⟨o,e,ex.2.1⟩
 |_=>exact False.elim ty
def tBM(K:Z4)(T:String)(r:V->Z9 V->Hp->VK->Prop)(to:TE)(t:TA):TE:=λσ H Q=>to σ H λx O=>tyV K T x O/\t σ O λxs Z=>r x xs Z Q
variable{o e:Expr}{es:Z9 Expr}{to:TE}{t:TA}{name:Str}{apos b_:Pos}{T id:String}{r:V->Z9 V->Hp->VK->Prop}
def uJ(pa:PlainAttrs T)(slot:Slot T name id)(Z:typeOf (.builtin id)=pure (.type "method_descriptor"))(hm:MtR X id r)(ho:PE X o to)(ha:PA X (e::es) t)(O:Mc X.env o name e es apos b_):
  PE X (.Call (.Attribute o name apos) (e::es) [] b_) (tBM X.K T r to t):=by
 intro pins s σ H Q I h;refine wpAny_Call_method_late O.b O.f O.l rfl (thn (ho pins s σ H _ I h) λv s1 hz=>?_);obtain⟨x,H1,I1,r1,ty,q1⟩:=hz;obtain⟨h1,h2⟩:=CM I1 r1 ty;refine⟨T,id,pa,slot,Z,h1,h2,?_⟩;have hA:=ha b_ pins s1 σ H1 _ I1 q1;rw[O.s]at hA⊢;refine Calls.callWith_builtin (by show(Y||(backTo b_ (starEach es X.env)).any (·.1))=Y;rw[O.p]<;>rfl) (Calls.evalArgs_plain ?_);exact thn hA λus s2 hz=>by obtain⟨vs,H2,I2,r2,q2⟩:=hz;exact hm pins s2 σ H2 x vs v us Q I2 r1 r2 q2
end
def MtM(X:Cx)(id:String)(r:V->Z9 V->Hp->VK->Prop):Prop:=
 ∀(pins:Z9 (ZP×Obj))(s:ZV)(σ:St)(H:Hp)(x:V)(xs:Z9 V)(v:Z3)(us:Z9 Z3)(Q:VK),Inv X pins σ H s->RelV x v->aac xs us->r x xs H Q->
  wpAny (model X.prog X.w) X.A (call (.builtin id) (v::us)) (EP X pins σ Q) X.xe s
def aac.one(h:aac [x] us):∃u,us=[u]/\RelV x u:=fq h
def aac.two(h:aac [x,y] us):∃u v,us=[u,v]/\RelV x u/\RelV y v:=by
 cases h with
 |cons r t=>
  obtain⟨u,rfl,q⟩:=fq t;exact⟨_,u,rfl,r,q⟩
section
def Inv.abJ{its its':Z9 Z3}{f:Array Z3->Array Z3}{t':Nat}(I:Inv X pins σ H s)(hH:H l=U (.lst xs))(e:s.heap.get? l=U {cls:=.type "list",data:=.seq its.toArray n})(Z:f its.toArray=its'.toArray)(O:aac ys its')(hz:ys.length<=sizeLine):
  Inv X pins σ (upd H l (.lst ys)) {s with heap:=s.heap.update l (Obj.mapSeq f),toks:=t'}:=by
 have q:=PySem.IsL.update e f;rw[Z]at q;refine I.write (x:=l) (e:=l) (by rw[hH];trivial) (.inl rfl) (λb' u hb hu=>(ZK s.heap (Obj.mapSeq f) (ZF hb)).trans hu) ⟨_,q⟩ ?_;exact⟨hz,its',_,O,q⟩
def Inv.acF(I:Inv X pins σ H s)(O:aac ys its)(hz:ys.length<=sizeLine):
  Inv X pins σ (upd H s.z (.lst ys)) {s with heap:=s.heap.push {cls:=.type "list",data:=.seq its.toArray},toks:=t'}:=
 I.laid (λ_ _ q=>Z5 _ q) (ZU _) ⟨hz,its,0,O,ZX _ rfl⟩
theorem Inv.fresh(I:Inv X pins σ H s):H s.z=M:=I.hok.fresh (ZU _)
def Inv.acb(I:Inv X pins σ H s)(O:H l=U (.lst xs)):xs.length<=sizeLine/\∃(its:Z9 Z3)(n:Nat),aac xs its/\xs.length=its.length/\s.heap.get? l=U {cls:=.type "list",data:=.seq its.toArray n}:=by
 obtain⟨z,its,n,r,e⟩:=I.hok l _ O;exact⟨z,its,n,r,r.length,e⟩
def w4(h:n<=sizeLine):Builtin.List.listTooLong n=Y:=by
 exact Zu (by lia)
end
section
def aca:V->Z9 V->Hp->VK->Prop:=λx vs H Q=>∃l xs y,x=.ref l/\vs=[y]/\H l=U (.lst xs)/\xs.length<sizeLine/\Q .non (upd H l (.lst (xs++[y])))
def kC:MtM X "list.append" aca:=by
 intro pins s σ H x vs v us Q I Z rv h;obtain⟨l,xs,y,rfl,rfl,O,hz,q⟩:=h;cases Z;obtain⟨u,rfl,ru⟩:=rv.one;obtain⟨z,its,n,r,hl,e⟩:=I.acb O;refine Ws F.slot_list_append ⟨_,e,rfl⟩ F.entry_list_append (F.args_list_append_2 _ _) (PySem.list_append l its.toArray n u (by simp;lia)) ⟨e,?_⟩;refine⟨.non,_,I.abJ (its':=its++[u]) O e (by simp) (r.append (.cons ru .nil)) ?_,rfl,q⟩;simp;lia
def ab_:V->Z9 V->Hp->VK->Prop:=λx vs H Q=>∃l b xs O,x=.ref l/\vs=[.ref b]/\H l=U (.lst xs)/\H b=U (.lst O)/\xs.length+O.length<=sizeLine/\Q .non (upd H l (.lst (xs++O)))
def vV:MtM X "list.extend" ab_:=by
 intro pins s σ H x vs v us Q I rx rv h;obtain⟨l,b,xs,zs,rfl,rfl,hH,hB,hz,q⟩:=h;cases rx;obtain⟨u,rfl,ru⟩:=rv.one;cases ru;obtain⟨z,its,n,r,hl,e⟩:=I.acb hH;obtain⟨z2,O,n2,r2,Rg,e2⟩:=I.acb hB;have hsz:its.toArray.size+O.toArray.size<=sizeLine:=by rw[ZI,ZI];lia
 have Z:¬(!its.toArray.isEmpty&&Builtin.List.listTooLong (its.toArray.size+O.toArray.size))=L:=by
  rw[w4 hsz,Bool.and_false];exact XA
 refine Ws F.slot_list_extend ⟨_,e,rfl⟩ F.entry_list_extend (F.args_list_extend_2 _ _)
  (AutoSeq1.list_extend_list_list_0 l its.toArray n b O.toArray n2 Z (by rw[ZI];lia) (by lia)) ⟨e,e2,?_⟩
 refine⟨.non,_,I.abJ (its':=its++O) hH e (by simp) (r.append r2) ?_,rfl,q⟩;simp;lia
end
section
end
section
end
end L2
namespace Att
open PySem PySem.W PySem.Calls PyProof.Rows
def fZ:∀(ns:Z9 Int)(vs:Z9 Z3),WellAll P h vs (ns.map WData.int)->IntsAre vs ns:=by
 intro ns
 induction ns with
 |nil=>
  intro vs w;cases w;exact .nil
 |cons n ns O=>
  intro vs w;cases w with
  |cons a b=>
   cases a;exact .cons _ _ (O _ b)
def tZ{l:OpenLaw}(hn:l.most=U n)(Z:l.row.toRowW.claim.pre args=L)(Q4:WellAll P h vals args):
  ∃a vs ns,vals=[Value.ref a]/\args=[WData.list (ns.map WData.int)]/\h.get? a=U {cls:=.type "list",data:=.seq vs.toArray}/\IntsAre vs ns/\ns.length<=n:=by
 have Q7:WShape.hasAll [] args [.list .int]=L:=(pre_splitW Z).1;have hc:l.pre.holds [] {args:=args}=L:=(pre_splitW Z).2;obtain⟨d,r,rfl,h1,h2⟩:=hasAllW_cons Q7;obtain rfl:=hasAllW_nil h2;obtain⟨xs,rfl,h3⟩:=hasW_list h1;obtain⟨ns,rfl⟩:=items_int h3;have hlen:ns.length<=n:=by
  unfold OpenLaw.pre at hc;have h4:(WTm.not (.lt (.lit (.int (n:Int))) (.len (.arg 0)))).holds [] {args:=[.list (ns.map .int)]}=L:=by
   have h4:=(holds_andW hc).1;rw[hn]at h4;exact h4
  have h5:=condW_of h4 (w_not (w_lt w_lit (w_len_list (w_arg rfl))));rw[ZW]at h5;refine Nat.le_of_not_lt λq=>?_;have q':(n:Int)<((ns.length:Nat):Int):=by lia
  first
   |(rw[O q']at h5;exact absurd h5 (by decide))
   |(simp at h5;lia)
 cases Q4 with
 |cons w1 w2=>
  cases w2;cases w1 with
  |list ho K8=>exact⟨_,_,ns,rfl,rfl,ho,fZ ns _ K8,hlen⟩
def rW(l:OpenLaw)(args:Z9 WData):l.row.toRowW.claim.post args (.bool L) args=L:=
 postW_of (r:=l.row.toRowW) (X:=(L==L))
  (show WShape.has [] (.bool L) .bool=L by rfl)
  (show(WTm.eq .res (.lit (.bool L))).value [] {args:=args,res:=U (.bool L),after:=args}=U (.bool (L==L)) from w_eq_bool (w_res rfl) w_lit) rfl
def abF{l:OpenLaw}{YP:Y1->Heap->Prop}{d:DefRec}(hn:l.most=U n)(Ol:d.params.defaults=[])(call:∀(w:Y1)(e_ O:ZV)(mg mb:Str->Z8 Z3)(fa:ZP)(o:Obj)(pm cd doc:Z3)(a:ZP)(vs:Z9 Z3)(ns:Z9 Int),
   Ground q loose [] XP w e_ mg mb O.heap->YP w O.heap->
   O.heap.get? fa=U o->o.data=.func (docDef d.name d.params d.body d.scope pm cd doc)->O.heap.CodeRec cd d.name->mg d.name=U (.ref fa)->
   O.heap.get? a=U {cls:=.type "list",data:=.seq vs.toArray}->IntsAre vs ns->ns.length<=n->O.gens=#[]->
   codeAny (model l.prog w) callerA (.call (.ref fa) ⟨[.ref a],[]⟩) (λr s'=>r=.ok (.ret (.bool L))/\OldK O.heap s'.heap/\s'.os=O.os/\AllBare s'.gens) O):
  WalkO q loose XP YP l.row.toRowW d [] (λf vs=>PySem.call f vs):=by
 intro w e_ O mg mb G Yq fa o pm cd doc dV kV ho hd Ks hD hmg hg args vals as Si hlay Tu Q4 KN;obtain rfl:dV=.none:=Dflts.none hD Ol;obtain rfl:kV=.none:=Dflts.noKw hD;obtain⟨a,vs,ns,rfl,rfl,NO,Z,hlen⟩:=tZ hn Si Q4;refine enter_call (W2 (call w e_ O mg mb fa o pm cd doc a vs ns G Yq ho (fd_plain hd) Ks hmg NO Z hlen hg) λr s' hq=>?_);obtain⟨rfl,h2,h3,h4⟩:=hq;exact⟨.inl ⟨.bool L,.bool L,[],rfl,λ_=>rfl,.bool L,rW l _,λ_=>⟨List.Pairwise.nil,λ_ hm=>(nomatch hm)⟩⟩,h2,h3,h4⟩
section
end
end Att
namespace L2
open PySem PySem.Spec PyProof.Rows
variable[Lams]
theorem jZ:∀{vs:Z9 Z3}{ns:Z9 Int},IntsAre vs ns->aac (ns.map V.int) vs
 |_,_,.nil=>.nil
 |_,_,.cons n t h=>.cons ⟨t,rfl⟩ (jZ h)
def FN(H:Hp):Prop:=∀b,H b=M\/(∃o xs,H b=U (.frz o (.lst xs)))\/∃lq,H b=U (.tbl lq #[])
noncomputable def eG:Hp:=λb=>match Lams.tb.find? (λq=>q.1==b)with
 |some q=>U (.tbl q.2 #[])
 |none=>M
def bM(h:eG b=U u):∃q∈Lams.tb,b=q.1/\u=.tbl q.2 #[]:=by
 unfold eG at h;split at h
 .grind
 trivial
def iQ(O:∀q∈Lams.tb,∀r∈Lams.tb,q.1=r.1->q=r)(Z:q∈Lams.tb):eG q.1=U (.tbl q.2 #[]):=by
 unfold eG
 grind
def wH{K:Z4}{a_:ZV}{vs:Z9 Z3}(KX:K.In a_.heap)(Qe:a_.heap.Ns mainGlobals mg)(hb:a_.heap.Ns builtinsNs mb)(Qq:∀x:Str,x≠"__name__"->mb x=bootBuiltins x)(D_:a_.heap.NoLimit)(hg:a_.gens=#[])(ha:a_.heap.get? a=U {cls:=.type "list",data:=.seq vs.toArray})(hi:IntsAre vs ns)(hl:ns.length<=sizeLine)(hr:aaq k callerA)(F:∀base:Heap,K.In base->base.Ns mainGlobals mg->abk P w K mg base CX k fa fd [x] sp)(Mh:∀(s:ZV)(u:Z3),BindsTo s fd ⟨[u],[]⟩ [(x,u)])(MS:∀H:Hp,FN H->SqL K H a (ns.map V.int)->sp [.ref a] H (λv _=>v=.bl L) λ_ _ _=>False)(Ry:∀H e s',CX [] H a_ (λ_ _ _=>False) e s'->False)(hbm:∃bm ob,mg "__builtins__"=U (.ref bm)/\bm≠builtinsNs/\a_.heap.get? bm=U ob/\ob.cls=.type "module"/\ob.dict=U builtinsNs/\ob.data=.plain)(hT:∀q∈Lams.tb,a_.heap.get? q.1=U {cls:=.none,data:=.fields #[]}/\K.lookup q.1=M/\isCodeTable a_.heap q.1)(OY:∀q∈Lams.tb,∀r∈Lams.tb,q.1=r.1->q=r):
  codeAny (model P w) callerA (.call (.ref fa) ⟨[.ref a],[]⟩) (λr s'=>r=.ok (.ret (.bool L))/\OldK a_.heap s'.heap/\s'.os=a_.os/\AllBare s'.gens) a_:=by
 have rv:=jZ hi;have RZ:=hi.length;have core:∀H:Hp,FN H->SqL K H a (ns.map V.int)->HOk P w H a_.heap->(∀b,H b≠M->(b=a/\K.lookup a=M)\/∃q∈Lams.tb,b=q.1)->abT H->
   codeAny (model P w) callerA (.call (.ref fa) ⟨[.ref a],[]⟩) (λr s'=>r=.ok (.ret (.bool L))/\OldK a_.heap s'.heap/\s'.os=a_.os/\AllBare s'.gens) a_:=by
  intro H hO hS hok hA hTb;have KI:∀{b:ZP}{o:Obj},a_.heap.get? b=U o->H b=M->(yd a_.heap H).get? b=U o:=λe n=>wB e n;have Pe:∀{b:ZP}{o:Obj},a_.heap.get? b=U o->o≠{cls:=.type "list",data:=.seq vs.toArray}->o≠{cls:=.none,data:=.fields #[]}->H b=M:=λ{b o} e n1 n2=>by
   grind
  have OF:∀{b:ZP}{o:Obj}{es:Array DictEntry}{ep:Nat},a_.heap.get? b=U o->o.data=.dict es ep->H b=M:=λ{b o es ep} e d=>
   Pe e (λz=>by subst z;trivial) λz=>by lia
  have P8:∀{b:ZP}{m:Str->Z8 Z3},a_.heap.Ns b m->(yd a_.heap H).Ns b m:=λ{b m} ⟨o,es,ep,e,d,r⟩=>⟨o,es,ep,KI e (OF e d),d,r⟩
  have T_:K.In (yd a_.heap H):=λb o e=>KI (KX b o e) (by
   cases q:H b with
   |none=>rfl
   |some u=>
    rcases hA b (by lia)with⟨z,z2⟩|⟨r,hr,z⟩;lia;subst z;rw[(hT r hr).2.1]at e;trivial)
  have hM:Mod K mg (yd a_.heap H):=⟨T_,P8 Qe,⟨mb,P8 hb,Qq⟩,let ⟨mc,h1,h2⟩:=D_;⟨mc,P8 h1,h2⟩,by
   obtain⟨bm,ob,b1,b2,b3,b4,b5⟩:=hbm;exact⟨bm,ob,b1,b2,KI b3 (Pe b3 (λz=>by lia) λz=>by lia),b4,b5⟩⟩
  have e0:abr P w K mg (yd a_.heap H) callerA [] a_ H:=⟨rfl,hM,λb o e=>Bn e,Nat.le_of_eq (se _ _),trivial,λb hb=>absurd (show b∈([]:Z9 ZP) from hb) (by simp),hok,.of_eq hg,hTb⟩
  refine W2 ((F _ T_ (P8 Qe)).run callerA [] a_ H ⟨[.ref a],[]⟩ [.ref a] [.ref a] _ _ hr e0 (Mh a_ (.ref a)) (.cons rfl .nil) (MS H hO hS)) λr s' h=>?_;cases r with
  |error e=>exact(Ry H e s' h).elim
  |ok fl=>
   cases fl with
   |next=>exact False.elim h
   |brk=>exact False.elim h
   |cont=>exact False.elim h
   |ret u=>
    obtain⟨v,H',os,bare,un,Pw,r',q⟩:=h;have q':v=.bl L:=q;subst q';obtain rfl:u=Value.bool L:=r';refine⟨rfl,⟨λb o e=>?_,λb o e=>un.there b o e (by simp)⟩,os,bare⟩;cases q:H b with
    |none=>exact .inl (un.keep b o e q (by intro z;trivial) (by simp))
    |some u=>
     rcases hO b with z|⟨ob,xs,z⟩|⟨lq,z⟩;lia;have z2:=un.aaU b ob _ z;obtain⟨e1,_⟩:=hok b _ z;obtain⟨e2,_⟩:=Pw b _ z2;rw[e]at e1;obtain rfl:=Z7 e1;exact .inl e2;obtain⟨more,z2⟩:=un.aa8 b lq _ z;obtain⟨e1,_⟩:=hok b _ z;obtain⟨e2,_⟩:=Pw b _ z2;rw[e]at e1;obtain rfl:=Z7 e1;rcases hA b (by lia)with⟨y,_⟩|⟨r,hr,y⟩;lia;subst y;exact .inr (.inl ⟨(hT r hr).2.2,rfl,#[],more,rfl,e2⟩)
 have UX:eG a=M:=by
  cases q:eG a with
  |none=>rfl
  |some u=>
   obtain⟨r,hr,e,_⟩:=bM q
   simp_all
 have tok:∀(H:Hp) b u,eG b=U u->aaj P w H a_.heap b u:=λH b u z=>by
  obtain⟨r,hr,e,rfl⟩:=bM z;subst e;exact⟨(hT r hr).1,trivial,λpos cv e=>by cases e⟩
 cases hk:K.lookup a with
 |some o=>
  have e:=KX a o hk;rw[ha]at e;obtain rfl:=Z7 e;refine core eG (λb=>?_) (.inr ⟨_,vs.toArray,_,hk,rfl,rfl,rfl,by rw[ZI,RZ];exact hl,by simpa using rv⟩) (λb u z=>tok _ b u z) (λb z=>?_) λq hq=>⟨_,iQ OY hq⟩
  cases q:eG b with
  |none=>exact .inl rfl
  |some u=>obtain⟨r,hr,e,rfl⟩:=bM q;exact .inr (.inr ⟨_,rfl⟩)
  cases q:eG b with
  |none=>exact absurd q z
  |some u=>obtain⟨r,hr,e,_⟩:=bM q;exact .inr ⟨r,hr,e⟩
 |none=>
  refine core (λb=>if b=a then U (.frz {cls:=.type "list",data:=.seq vs.toArray} (.lst (ns.map V.int))) else eG b) (λb=>?_) (.inl (.inr ⟨{cls:=.type "list",data:=.seq vs.toArray},ZM rfl⟩)) (λb u z=>?_) (λb z=>?_) λq hq=>⟨#[],?_⟩
  by_cases hb:b=a;exact .inr (.inl ⟨_,_,ZM hb⟩);cases q:eG b with
  |none=>exact .inl ((ZH hb).trans q)
  |some u=>obtain⟨r,hr,e,rfl⟩:=bM q;exact .inr (.inr ⟨_,(ZH hb).trans q⟩)
  by_cases hb:b=a;have z':=(ZM hb).symm.trans z;obtain rfl:=Z7 z';subst hb;exact⟨ha,by rw[ZW];exact hl,vs,_,rv,ha⟩
  simp_all
  by_cases hb:b=a;exact .inl ⟨hb,hk⟩;cases q:eG b with
  |none=>exact absurd ((ZH hb).trans q) z
  |some u=>obtain⟨r,hr,e,_⟩:=bM q;exact .inr ⟨r,hr,e⟩
  have p_:q.1≠a:=λz=>by rw[<-z,iQ OY hq]at UX;trivial
  exact(ZH p_).trans (iQ OY hq)
abbrev CX0:CXT:=λ_ _ _ _ _ _=>False
abbrev E0:XK:=λ_ _ _=>False
def FB:t9 CX0 X E0:=λ_ _ _ _ _ _ _ h=>h.elim
structure Fun (K:Z4)(x qual:Str)(st:Stmt)(f:ZP)(fd:FuncData):Prop where
 ex:∃(oc:Z3)(od:Z8 ZP)(kV doc pm:Z3)(an:Z8 ZP)(Ky ct:Z3)(Oe:Array (Z8 Z3)),
  fd=W.fnOf x qual (defArgs st) (defBody st) (defScope st) .none kV doc pm an Ky ct/\K.lookup f=some ⟨oc,od,.func fd,Oe⟩/\W.codeIn K Ky qual=true
 kp:W.keepIn K (.ref f)=true
section
variable{P:Za}{w:Y1}{K:Z4}{mg:Str->Z8 Z3}{base:Heap}
def Fun.ok{x O:Str}{st:Stmt}{f:ZP}{fd:FuncData}{N ps:Z9 Str}{k:Nat}{sp:Sp}(F:Fun K x O st f fd)(S:aaC N ps (defScope st))(len:∀vs H Q E,sp vs H Q E->vs.length=ps.length)
  (Z:∀(A:Zj)(outer:Z9 Env)(s:ZV)(H:Hp)(vs:Z9 V)(Q:VK)(E:XK),aaq k (A.deeper (envOfC O (defScope st) s.z f fd.code))->sp vs H Q E->
   ∃t,PSs (qY CX0 P w K mg base N O (defScope st) f fd.code A outer s H E).nox (defBody st) t/\t {nx:=λ_ H'=>Q .non H',rt:=Q} (dm N vs) H):abk P w K mg base CX0 (k+1) f fd ps sp:=by
 obtain⟨oc,od,kV,doc,pm,an,Ky,ct,Oe,rfl,lk,Ks⟩:=F.ex;refine F2 lk Ks S len λA outer s H vs Q E hr MS=>?_;obtain⟨t,h,q⟩:=Z A outer s H vs Q E hr MS;exact⟨t,h.nox,q⟩
def Fun.binds{x O:Str}{st:Stmt}{f:ZP}{fd:FuncData}{ps:Z9 Str}(F:Fun K x O st f fd)
  (h:∀(kV Z pm:Z3)(an:Z8 ZP)(Ky ct:Z3)(us:Z9 Z3),us.length=ps.length->bindArgs (W.fnOf x O (defArgs st) (defBody st) (defScope st) .none kV Z pm an Ky ct) ⟨us,[]⟩=pure (ps.zip us)):Binds K fd ps []:=by
 obtain⟨oc,od,kV,Z,pm,an,Ky,ct,Oe,rfl,lk,Ks⟩:=F.ex;exact .all (h kV Z pm an Ky ct)
def pv(i:Nat)(hN:X.N[i]?=U x:=by rfl)(Z:Vis X.env.scope x)(hd:(x==("__debug__":Str))=Y:=by decide)(O:(x==("__classdict__":Str))=Y:=by decide):PE X (.Name x pos) (t5 i):=bA hN Z hd O
end
section
end
def yC{A B:Prop}(h:B):if Y=L then A else B:=by
 lia
def zt{A B:Prop}(h:A):if L=L then A else B:=by
 lia
noncomputable def HO.nt:HO->Bool
 |.tbl _ _=>Y
 |_=>L
abbrev HOn:={o:HO // o.nt=L}
def HOn.ok(o:HOn):HO.nt o.1=L:=o.2
structure aab (H H':Hp):Prop where
 get:∀b o,o.nt=true->H b=some o->H' b=some o
 tbl:∀b lq ps,H b=some (.tbl lq ps)->∃more,H' b=some (.tbl lq (ps++more))
theorem aab.app{H H':Hp}(s:aab H H')(b:ZP)(o:HO)(h:H b=U o)(n:o.nt=L:=by first|rfl|assumption|exact HOn.ok _):H' b=U o:=s.get b o n h
instance aab.fn {H H':Hp}:CoeFun (aab H H') (λ_=>∀(b:ZP)(o:HO)(h:H b=U o)(n:o.nt=L:=by first|rfl|assumption|exact HOn.ok _),H' b=U o):=⟨@aab.app _ H H'⟩
def aab.refl(H:Hp):aab H H:=⟨λ_ _ _ h=>h,λb lq ps h=>⟨#[],by assumption⟩⟩
def aab.trans(a:aab H H1)(b:aab H1 H2):aab H H2:=⟨λc o n h=>b.get c o n (a.get c o n h),λc lq ps h=>by
 obtain⟨m1,O⟩:=a.tbl c lq ps h;obtain⟨m2,Z⟩:=b.tbl c lq _ O;exact⟨m1++m2,by simp_all⟩⟩
def aab.there(e:aab H H')(q:H l=U o):∃o',H' l=U o':=by
 cases n:o.nt with
 |true=>exact⟨o,e.get l o n q⟩
 |false=>
  cases o with
  |tbl lq ps=>obtain⟨m,q'⟩:=e.tbl l lq ps q;exact⟨_,q'⟩
  |_=>trivial
def aab.free(e:aab H H')(h:H' l=Option.none):H l=Option.none:=by
 cases q:H l with
 |none=>rfl
 |some o=>
  obtain⟨o',q'⟩:=e.there q;lia
def aab.keep(e:aab Hk H)(k:∀c o Z,Hk c=U Z->H c=U o->H' c=U o):aab Hk H':=
 ⟨λc o n q=>k c o o q (e.get c o n q),λc lq ps q=>by
  obtain⟨m,O⟩:=e.tbl c lq ps q;exact⟨m,k c _ _ q O⟩⟩
def aab.put(e:aab Hk H)(h:Hk b=M):aab Hk (upd H b o):=
 e.keep λc o' o2 Z O=>by rw[aj (aw Z h)];exact O
def aab.seq{K:Z4}{H H':Hp}{a:ZP}{xs:Z9 V}(e:aab H H')(h:SqL K H a xs):SqL K H' a xs:=by
 rcases h with(h|⟨o,h⟩)|h;exact .inl (.inl (e _ _ h));exact .inl (.inr ⟨o,e _ _ h⟩);exact .inr h
section
variable{κ:Type}[DecidableEq κ]
def xB{kvs:Z9 (κ×V)}{k:κ}(h:eP kvs k=M):¬k∈kvs.map (·.1):=by
 intro m;obtain⟨p,hp,e⟩:=ZZ.mp m;have q:(kvs.any λO=>decide (O.1=k))=L:=XG.mpr ⟨p,hp,Zx e⟩
 simp_all [dN,h]
end
noncomputable abbrev aH(X:Cx)(scope:Scope)(cl:Z9 (Str×ZP))(C:ZP)(O:ZV)(Z:Hp)(ex:Z9 ZP)(pn:Z9 (ZP×Obj)):Cx:=
 {X with e_:=O,LI:=Z,env:=compEnvC scope cl C X.env,outer:=X.stack,stack:=X.stack,ex:=ex,fn:=λ_=>Y,pn:=pn,xe:=λ_ _=>False}
noncomputable def mask(bs:Z9 Bool)(σ:St):St:=List.zipWith (λ(b:Bool) o=>if b=L then o else M) bs σ
def dx(h:bs.length=σ.length):(mask bs σ).length=σ.length:=by
 unfold mask;rw[List.length_zipWith,h,Nat.min_self]
def ya{bs:Z9 Bool}{σ:St}{i:Nat}{v:V}(h:(mask bs σ)[i]?=U (U v)):bs[i]?=U L/\σ[i]?=U (U v):=by
 unfold mask at h;rw[WB]at h;cases e1:bs[i]? with
 |none=>rw[e1]at h;simp at h
 |some b=>
  cases e2:σ[i]? with
  |none=>rw[e1,e2]at h;simp at h
  |some o=>
   rw[e1,e2]at h;simp only[ZG]at h;cases b with
   |false=>simp at h
   |true=>lia
def PTs(X:Cx)(O:Z9 Expr)(t:TT):Prop:=
 ∀(pins:Z9 (ZP×Obj))(s:ZV)(σ:St)(H:Hp)(Q:Bool->Hp->Prop),Inv X pins σ H s->t σ H Q->
  wpAny (model X.prog X.w) X.A (forIn O L λc r=>if r=L then do let ok <-isTrue c X.env (eval c X.env);pure (ForInStep.yield ok) else pure (ForInStep.yield r)) (TP X pins σ Q) X.xe s
def acA:TT:=λ_ H Q=>Q L H
def BE:PTs X [] acA:=λpins s σ H Q I h=>wpAny_tests_nil ⟨H,I,h⟩
def Ab(h:PT X c t):PTs X [c] t:=λpins s σ H Q I O=>wpAny_tests_one (h pins s σ H Q I O)
noncomputable def cX(env:Env):Z9 (Str×NameKind)->Z9 (Str×ZP)->Z9 (Str×ZP)
 |[],O=>O
 |(n,k)::r,O=>if(k==NameKind.free)=L then cX env r ((n,(env.cells.lookup n).getD 0)::O) else cX env r O
theorem iO(env:Env):∀(O:Z9 (Str×NameKind))(Z:Z9 (Str×ZP)),(∀y∈O,y.2=.free->∃c,env.cells.lookup y.1=U c)->
  (forIn O Z (λ(x:Str×NameKind) (cs:Z9 (Str×ZP))=>(match x with
   |(name,kind)=>if(kind==.free)=L then(do let c <-cellOf env name;pure (ForInStep.yield ((name,c)::cs))) else pure (ForInStep.yield cs):Sem (ForInStep (Z9 (Str×ZP))))))=pure (cX env O Z)
 |[],Z,_=>rfl
 |(n,k)::r,Z,h=>by
  by_cases hk:k=.free;subst hk;obtain⟨c,e⟩:=h (n,.free) ZR rfl;have ih:=iO env r ((n,c)::Z) λy hy=>h y (ZY _ hy);have ec:cellOf env n=pure c:=by unfold cellOf;rw[e]
  rw[List.forIn_cons];simp only[X1,YB,ec,pure_bind];rw[ih];simp only[cX,X1,YB,e,Option.getD_some]
  .have hb:(k==NameKind.free)=Y:=by simpa using hk
   have ih:=iO env r Z λy hy=>h y (ZY _ hy);rw[List.forIn_cons];simp only[hb,ZE,YO,pure_bind];rw[ih]
   conv=>rhs;rw[cX.eq_def]
   simp only[hb,ZE,YO]
theorem c6(env:Env):∀(O:Z9 (Str×NameKind))(Z:Z9 (Str×ZP)),(∀y∈O,y.2=.free->∃c,env.cells.lookup y.1=U c)->
  (∀x c,Z.lookup x=U c->env.cells.lookup x=U c)->∀x c,(cX env O Z).lookup x=U c->env.cells.lookup x=U c
 |[],Z,_,ha=>ha
 |(n,k)::r,Z,h,ha=>by
  have hr:∀y∈r,y.2=.free->∃c,env.cells.lookup y.1=U c:=λy hy=>h y (ZY _ hy);unfold cX;by_cases hk:(k==NameKind.free)=L;rw[ZM hk];obtain⟨c,e⟩:=h (n,k) ZR (eq_of_beq hk);refine c6 env r _ hr λx d hx=>?_;rw[List.lookup_cons]at hx;cases q:x==n with
  |true=>
   simp_all
  |false=>rw[q]at hx;exact ha x d hx
  rw[ZH hk];exact c6 env r Z hr ha
theorem d3(env:Env)(x:Str):∀(O:Z9 (Str×NameKind))(Z:Z9 (Str×ZP)),((x,NameKind.free)∈O\/∃c,Z.lookup x=some c)->∃c,(cX env O Z).lookup x=some c
 |[],Z,h=>by
  rcases h with h|h;trivial;exact h
 |(n,k)::r,Z,h=>by
  unfold cX;by_cases hk:(k==NameKind.free)=true;rw[ZM hk];refine d3 env x r _ ?_;by_cases q:(x==n)=true
  .simp_all
  rcases h with h|⟨c,h⟩
  .simp_all
  exact .inr ⟨c,by rw[List.lookup_cons];simp[q,h]⟩;rw[ZH hk];refine d3 env x r _ ?_
  grind
def dL(h:∀y∈scope.names,y.2=.free->∃c,env.cells.lookup y.1=U c):closureFor scope env=pure (cX env scope.names []):=by
 have e:=iO env scope.names [] h;have q:closureFor scope env=((forIn scope.names [] (λ(x:Str×NameKind) (O:Z9 (Str×ZP))=>(match x with
   |(name,kind)=>if(kind==.free)=L then(do let c <-cellOf env name;pure (ForInStep.yield ((name,c)::O))) else pure (ForInStep.yield O):Sem (ForInStep (Z9 (Str×ZP)))))) >>= λO=>pure O):=rfl
 rw[q,e,pure_bind]
theorem bC{env:Env}:∀{O:Z9 (Str×NameKind)}{x:Str}{k:NameKind},
  (O.map λ(n,k)=>if(k==NameKind.free&&env.scope.kind==.function&&env.kindOf n==U .cell) then(n,NameKind.cell) else(n,k)).lookup x=U k->
  O.lookup x=U k\/(O.lookup x=U .free/\k=.cell)
 |[],_,_,h=>by simp at h
 |(n,Z)::r,x,k,h=>by
  have ih:=@bC env r x k
  grind
noncomputable def ul(wi:TI)(bs:Z9 Bool)(g:TG)(tt:TT)(te:TE):TE:=λσ H Q=>wi σ H λJ H1=>∀O,H1 O=M->
 ∃W:Nat->Nat->Z9 V->St->Hp->Prop,(∃m,W 0 m [] (mask bs σ) (upd H1 O (.lst [])))/\∀i m ys σ H,W i m ys σ H->H O=U (.lst ys)/\
  ((J.stop i H/\Q (.ref O) H)\/(J.go i H/\∀x H',J.yld i H x H'->g x σ H' λZ H2=>tt Z H2 λok H3=>if ok=L
   then te Z H3 λv H4=>H4 O=U (.lst ys)/\ys.length<sizeLine/\∃m',m'<m/\W (i+1) m' (ys++[v]) Z (upd H4 O (.lst (ys++[v])))
   else ∃m',m'<m/\W (i+1) m' ys Z H3))
section
variable{X:Cx}{scope:Scope}{bs:Z9 Bool}
structure aag (X:Cx)(scope:Scope)(bs:List Bool):Prop where
 kind:scope.kind=.function
 cell:∀y∈scope.names,y.2≠.cell
 loc:∀y∈scope.names,y.2=.local->scope.names.lookup y.1=some .local
 fre:∀y∈scope.names,y.2=.free->scope.names.lookup y.1=some .free/\(X.env.kindOf y.1=some .cell\/X.env.kindOf y.1=some .free)
 len:bs.length=X.N.length
 vis:∀(i:Nat)(x:Str),X.N[i]?=some x->bs[i]?=some true->scope.names.lookup x=some .free
theorem aag.has(S:aag X scope bs)(I:Inv X pins σ H s):∀y∈scope.names,y.2=.free->∃c,X.env.cells.lookup y.1=U c:=λy O e=>I.ok.has y.1 (S.fre y O e).2
def ym{h':Heap}{m:Str->Z8 Z3}(S:aag X scope bs)(I:Inv X pins σ H s)(hf:∀b∈fp,d8 X pins H b)(ho:∀b∈fp,∃o,s.heap.get? b=U o)
  (Qe:h'.Ns s.z m)(hk:∀b o,s.heap.get? b=U o->h'.get? b=U o){t':Nat}:
  Inv (aH X scope (cX X.env scope.names []) s.z s H fp (X.pn++pins)) [] (mask bs σ) H {s with heap:=h',toks:=t'}:=by
 have hh:=S.has I;have cons:=c6 X.env scope.names [] hh (λx c e=>by simp at e);refine⟨⟨I.ok.mod,S.kind,I.ok.glob,I.ok.blt,ZU _,λx y c h1 h2=>I.ok.inj x y c (cons x c h1) (cons y c h2),λx hx=>?_,(λx c h=>nomatch h),I.ok.hd,I.ok.frames,.inl rfl,λb hb=>⟨?_,λx c e=>(hf b hb).2.2.2.2.1 x c (cons x c e)⟩,
  I.bs,ZL I.ok.bsz I.sz,λb o e hb=>?_,λb hb z=>?_,I.stack,I.abL,I.ok.tabs.to I.base.aa8⟩,
  rfl,I.bare,Un.kept hk,⟨m,Qe,λi x v e1 e2 e3=>?_⟩,λx c e=>?_,I.hok.fresh (ZU _),λx c e=>I.aaR x c (cons x c e),λp hp=>?_,I.hok.kept hk,?_⟩
 have Mj:(relabel scope X.env).names.lookup x=U .cell\/(relabel scope X.env).names.lookup x=U .free:=hx;have key:(x,NameKind.free)∈scope.names:=by
  rcases Mj with q|q;rcases bC q with q|⟨q,_⟩;exact absurd rfl (S.cell _ (YQ q));exact YQ q;rcases bC q with q|⟨_,q⟩;exact YQ q;trivial
 exact d3 X.env x scope.names [] (.inl key);obtain⟨o,e⟩:=ho b hb;exact ZA (Z1 e);rcases(hf b hb).2.2.2.1 with z|z;exact I.ok.ab4 b o e z;exact absurd (ZC (Z1 (I.ok.bs b o e).1) z) (Zv _);rcases ZT.mp (I.abe b z)with q|q;exact(hf b hb).2.1 q;exact(hf b hb).2.2.1 q;obtain⟨hb,hs⟩:=ya e2;have O:=S.vis i x e1 hb;obtain⟨_,V6⟩:=S.fre _ (YQ O) rfl;obtain⟨m0,Ra,hl⟩:=I.loc;have Z:Vis X.env.scope x:=V6.elim (λz=>.inr (.inl z)) λz=>.inr (.inr z)
 obtain⟨u,ru,lk⟩:=hl i x v e1 hs Z;refine⟨u,ru,.inr ⟨?_,?_⟩⟩;rcases e3 with q|q|q;rcases bC (show(relabel scope X.env).names.lookup x=U .local from q)with q|⟨_,q⟩;rw[O]at q;trivial;trivial;exact .inl q;exact .inr q;rcases lk with⟨kl,_⟩|⟨_,c,ec,ic⟩;lia;obtain⟨c',e'⟩:=d3 X.env x scope.names [] (.inl (YQ O));have Uk:=cons x c' e';rw[ec]at Uk;obtain rfl:=Z7 Uk;obtain⟨o,q1,q2⟩:=ic;exact⟨c,e',o,hk c o q1,q2⟩;obtain⟨v,o,q1,q2⟩:=I.cell x c (cons x c e);exact⟨v,o,hk c o q1,q2⟩;have MT:p∈X.pn++pins:=by
  have q:p∈(X.pn++pins)++([]:Z9 (ZP×Obj)):=hp;rwa[Yx]at q
 obtain⟨e,n,ne,nf,d⟩:=I.pin p MT;refine⟨hk _ _ e,n,ZA (Z1 e),λz=>?_,d⟩;rcases ZT.mp (I.abe p.1 z)with q|q;exact ne q;exact nf q;rw[dx (by rw[S.len,I.len])];exact I.len
def yr(I:Inv X pins σ H s)(O:∀b∈fp,d8 X pins H b)(J:Inv (aH X scope cl C s H fp (X.pn++pins)) Ki i_ H' s'):Inv X pins σ H' s':=by
 refine I.acH (ch:=fp) J.os J.base J.hok J.bare λb hb=>?_;obtain⟨f0,f1,f2,f3,f4,Z⟩:=O b hb;exact⟨f3,f1,f4,Z⟩
end
section
def m4(I:Nat->ZV->Prop)(turn:∀n s,I n s->wpAny (model prog w) A (pyNext it) (λr O=>match r with
   |none=>R (.ok .next) O
   |some v=>wpAny (model prog w) A (letOwnedTupleGo target it v) (λ_ O=>wpAny (model prog w) A (assign target env v) (λ_ s_=>
     wpAny (model prog w) A (forIn ifs L λc r=>if r=L then do let ok <-isTrue c env (eval c env);pure (ForInStep.yield ok) else pure (ForInStep.yield r)) (λok Z=>
      if ok=L then wpAny (model prog w) A (eval elt env) (λx Mz=>
       wpAny (model prog w) A (call (.builtin "list.append") [acc,x]) (λ_ Pf=>∃m,m<n/\I m Pf) (λ_ _=>False) Mz) (λ_ _=>False) Z
      else ∃m,m<n/\I m Z) (λ_ _=>False) s_) (λ_ _=>False) O) (λ_ _=>False) O) (λ_ _=>False) s) (n:Nat) (h:I n s):
  codeAny (model prog w) A (.compLoop (.ListComp elt [⟨target,iter,ifs,0⟩] scope pos) 0 it acc env) R s:=by
 refine codeAny_loop rfl I (λn s hI=>?_) n h;refine wpAny_noted ?_;refine Z_ (wpAny_standAt (Z_ (YS (turn n s hI) (λr O J_=>?_) λ_ _ h'=>h'.elim)));cases r with
 |none=>exact Z6 J_
 |some v=>
  refine Z_ (YS J_ (λ_ Uw PM=>?_) λ_ _ h'=>h'.elim);refine Z_ (YS PM (λ_ s_ LZ=>Z_ (YS LZ (λok Z MA=>?_) λ_ _ h'=>h'.elim)) λ_ _ h'=>h'.elim);cases ok with
  |false=>exact Z6 ⟨rfl,MA⟩
  |true=>
   exact Z_ (Z_ (YS MA (λx Mz Sa=>Z_ (YS Sa (λ_ Pf R_=>Z6 (Z6 ⟨rfl,R_⟩)) λ_ _ h'=>h'.elim)) λ_ _ h'=>h'.elim))
end
section
variable{X:Cx}
def iz{pins:Z9 (ZP×Obj)}{σ:St}{H:Hp}{s:ZV}{it:ZP}{fp:Z9 ZP}{tn:Nat->Heap->Prop}{J:It}{Q:VK}{E:Z3->ZV->Prop}{RR:Z3->ZP->Result->ZV->Prop}
  (hc:X.calm=L) (S:aag X scope bs)
  (hg:∀cl C s_ Li ex pn,PG (aH X scope cl C s_ Li ex pn) tg g) (ht:∀cl C s_ Li ex pn,PTs (aH X scope cl C s_ Li ex pn) ifs tt) (he:∀cl C s_ Li ex pn,PE (aH X scope cl C s_ Li ex pn) elt te)
  (I:Inv X pins σ H s) (T:Turn X.prog X.w X.K tg J fp it tn) (st:tn 0 s.heap) (hf:∀b∈fp,d8 X pins H b)
  (hq:∀O,H O=M->
   ∃W:Nat->Nat->Z9 V->St->Hp->Prop,(∃m,W 0 m [] (mask bs σ) (upd H O (.lst [])))/\∀i m ys σ H,W i m ys σ H->H O=U (.lst ys)/\
    ((J.stop i H/\Q (.ref O) H)\/(J.go i H/\∀x Z,J.yld i H x Z->g x σ Z λLK H2=>tt LK H2 λok H3=>if ok=L
     then te LK H3 λv H4=>H4 O=U (.lst ys)/\ys.length<sizeLine/\∃m',m'<m/\W (i+1) m' (ys++[v]) LK (upd H4 O (.lst (ys++[v])))
     else ∃m',m'<m/\W (i+1) m' ys LK H3)))
  (hRR:∀D C s' Z m',Inv X pins σ Z s'->Q (.ref D) Z->s'.heap.Ns C m'->Z C=M->C≠X.env.locals->C∉X.fs->X.e_.heap.objs.size<=C->(∀x c,X.env.cells.lookup x=U c->c≠C)->(∀p∈X.pn++pins,p.1≠C)->
   RR (.ref D) C (.ok .next) s'):
  wpAny (model X.prog X.w) X.A (newList []) (λO Ly=>wpAny (model X.prog X.w) X.A (newFunctionEnv scope X.env.globals (cX X.env scope.names []) [] X.env.qual M .none (U X.env)) (λPH Mz=>
   codeAny (model X.prog X.w) X.A (.compStart (.ListComp elt [⟨tg,iter,ifs,0⟩] scope pos) 0 (.ref it) O {PH with scope:=relabel scope X.env}) (RR O PH.locals) Mz) E Ly) E s:=by
 refine Y5 ?_;have MY:H s.heap.objs.size=M:=I.fresh;have I3:Inv X pins σ (upd H s.heap.objs.size (.lst [])) {s with heap:=s.heap.push {cls:=.type "list",dict:=M,data:=.seq ([]:Z9 Z3).toArray}}:=I.acF (its:=[]) (t':=s.toks) .nil (Zm _);have U0:tn 0 (s.heap.push {cls:=.type "list",dict:=M,data:=.seq ([]:Z9 Z3).toArray}):=T.keep _ _ _ st λb _ o e=>Z5 _ e;have d_:∀b∈fp,b<s.heap.objs.size:=λb hb=>by
  obtain⟨o,e,_⟩:=T.obj _ _ st b hb;exact Z1 e
 have f3:∀b∈fp,d8 X pins (upd H s.heap.objs.size (.lst [])) b:=λb hb=>⟨by rw[aj (ZA (d_ b hb))];exact(hf b hb).1,(hf b hb).2⟩
 obtain⟨W,⟨m0,w0⟩,turn⟩:=hq s.heap.objs.size MY;generalize KA:s.heap.objs.size=O at*;generalize VN:({s with heap:=s.heap.push {cls:=.type "list",dict:=M,data:=.seq ([]:Z9 Z3).toArray}}:ZV)=s3 at*;have Pg:tn 0 s3.heap:=by rw[<-VN];exact U0
 refine wpAny_newFunctionEnv S.cell (λy hy=>by simp at hy) (λJ_ N3 N1=>?_) S.kind;have keep:∀b o,s3.heap.get? b=U o->J_.get? b=U o:=λb o e=>(N1.2 b (ZA (Z1 e))).trans (Z5 _ e);have S7:∀b∈fp,∃o,s3.heap.get? b=U o:=λb hb=>by
  obtain⟨o,e,_⟩:=T.obj _ _ Pg b hb;exact⟨o,e⟩
 have I4:=ym (t':=s3.toks+([]:Z9 (Str×Z3)).length) S I3 f3 S7 N3 keep;have SU:tn 0 J_:=T.keep _ _ _ Pg λb _ o e=>keep b o e;have K6:∀{Z:Hp}{pl:Z9 (ZP×Obj)},(∀b∈fp,Z b=M)->∀b∈fp,d8 (aH X scope (cX X.env scope.names []) s3.heap.objs.size s3 (upd H O (.lst [])) fp (X.pn++pins)) [] Z b:=λ{Z pl} hn b hb=>by
  obtain⟨_,f1,f2,Uh,f4,f5⟩:=f3 b hb;obtain⟨o,e⟩:=S7 b hb;refine⟨hn b hb,ZA (Z1 e),λz=>?_,.inl hb,λx c e=>f4 x c (c6 X.env scope.names [] (S.has I3) (λx c e=>by simp at e) x c e),λp hp=>?_⟩;rcases ZT.mp (I3.abe b z)with q|q;exact f1 q;exact f2 q;have q:p∈(X.pn++pins)++([]:Z9 (ZP×Obj)):=hp;rw[Yx]at q;exact f5 p q
 let X':Cx:=aH X scope (cX X.env scope.names []) s3.heap.objs.size s3 (upd H O (.lst [])) fp (X.pn++pins)
 have loop:∀s5:ZV,s5={s3 with heap:=J_,toks:=s3.toks+([]:Z9 (Str×Z3)).length}->
   codeAny (model X.prog X.w) X.A (.compLoop (.ListComp elt [⟨tg,iter,ifs,0⟩] scope pos) 0 (.ref it) (.ref O) (compEnvC scope (cX X.env scope.names []) s3.heap.objs.size X.env)) (RR (.ref O) s3.heap.objs.size) s5:=by
  rintro s5 rfl
  refine m4 (λn s'=>∃i ys i_ Z,Inv (aH X scope (cX X.env scope.names []) s3.heap.objs.size s3 (upd H O (.lst [])) fp (X.pn++pins)) [] i_ Z s'/\tn i s'.heap/\(∀b∈fp,Z b=M)/\W i n ys i_ Z) ?_ m0
   ⟨0,[],mask bs σ,upd H O (.lst []),I4,SU,λb hb=>(f3 b hb).1,w0⟩
  intro n s6 hz;obtain⟨i,ys,N6,H6,I6,SS,Ud,w6⟩:=hz;obtain⟨hac,way⟩:=turn i n ys N6 H6 w6;rcases way with⟨stop,qn⟩|⟨go,step⟩
  .refine thn (T.done X' rfl rfl rfl hc i [] s6 N6 H6 (λ_ _=>False) I6 (K6 (pl:=[]) Ud) SS stop) λr s7 hz=>?_
   obtain⟨hr,I7⟩:=hz;subst hr;obtain⟨m',Mr,_⟩:=I7.loc;have IX:=yr (C:=s3.heap.objs.size) I3 f3 I7;refine hRR O s3.heap.objs.size s7 H6 m' IX qn Mr I7.free (Nat.ne_of_gt I3.lt) (I3.acn (ZU _)) I3.sz (λx c e z=>?_) λp hp z=>?_;obtain⟨v,q⟩:=I3.cell x c e;exact absurd q.lt (by rw[z];exact Zv _);exact absurd (Z1 (I3.pin p hp).1) (by rw[z];exact Zv _)
  refine thn (T.item X' rfl rfl rfl hc i [] s6 N6 H6 (λ_ _=>False) I6 (K6 (pl:=[]) Ud) SS go) λr s7 hz=>?_;obtain⟨u,hr,h7⟩:=hz;subst hr;refine thn h7 λ_ s8 hz=>?_;obtain⟨x,H8,I8,r8,y8,QE,fr8⟩:=hz;have I8':=I8.pinned (K6 (pl:=[]) fr8) (T.obj _ _ QE);refine thn (hg _ _ _ _ _ _ _ s8 N6 H8 x u _ I8' r8 (step x H8 y8)) λ_ s9 hz=>?_;obtain⟨Ow,H9,I9,q9⟩:=hz;refine thn (ht _ _ _ _ _ _ _ s9 Ow H9 _ I9 q9) λok U5 hz=>?_;obtain⟨Uv,RO,SY⟩:=hz;have back:∀{i_:St}{Z:Hp}{s':ZV},Inv (aH X scope (cX X.env scope.names []) s3.heap.objs.size s3 (upd H O (.lst [])) fp (X.pn++pins)) ([]++kg fp s8.heap) i_ Z s'->tn (i+1) s'.heap/\∀b∈fp,Z b=M:=λ{i_ Z s'} K=>by
   refine⟨T.keep _ _ _ QE λb hb o e=>(K.pin (b,o) (ZJ _ (ZJ _ (c9 hb e)))).1,λb hb=>?_⟩;obtain⟨o,e,d⟩:=T.obj _ _ QE b hb;exact(K.pin (b,o) (ZJ _ (ZJ _ (c9 hb e)))).2.1
  cases ok with
  |false=>
   obtain⟨m',hm,w'⟩:=SY;obtain⟨b1,b2⟩:=back RO;exact⟨m',hm,i+1,ys,Ow,Uv,RO.aaS,b1,b2,w'⟩
  |true=>
   refine thn (he _ _ _ _ _ _ _ U5 Ow Uv _ RO SY) λy U4 hz=>?_;obtain⟨v,Uu,I11,Vd,PX,hz,m',hm,w'⟩:=hz;have ap:=kC (X:=X') _ U4 Ow Uu (.ref O) [v] (.ref O) [y] (λ(z:V) (Z:Hp)=>Z=upd Uu O (.lst (ys++[v]))) I11 rfl (.cons Vd .nil) ⟨O,ys,v,rfl,rfl,PX,hz,rfl⟩;refine thn ap λ_ s12 hz=>?_;obtain⟨_,H12,Ut,_,e12⟩:=hz;subst e12;obtain⟨b1,b2⟩:=back Ut;exact⟨m',hm,i+1,ys++[v],Ow,_,Ut.aaS,b1,b2,w'⟩
 exact codeAny_compStart_list (loop _ rfl) (T.self _ 0 _ _ _ SU (loop _ rfl))
def Bo(hc:X.calm=L)(hi:PI X tg iter wi)(S:aag X scope bs)(hg:∀cl C O Z ex pn,PG (aH X scope cl C O Z ex pn) tg g)(ht:∀cl C O Z ex pn,PTs (aH X scope cl C O Z ex pn) ifs tt)(he:∀cl C O Z ex pn,PE (aH X scope cl C O Z ex pn) elt te)(hs:∀x,foldedSetIterable iter X.env x=pure x:=by intro _;rfl):PE X (.ListComp elt [⟨tg,iter,ifs,0⟩] scope pos) (ul wi bs g tt te):=by
 intro pins s σ H Q I h;refine wpAny_comprehension_free (use:=M) rfl hs (dL (S.has I)) S.kind S.loc (thn (hi pins s σ H _ I h) λv s1 h1=>thn h1 λTn s2 h2=>?_);obtain⟨it,fp,tn,J,H2,e,I2,T,Oy,f2,hq⟩:=h2;subst e;refine iz (RR:=λacc C=>compPost (model X.prog X.w) X.A X.xe M (EP X pins σ Q) acc C) hc S hg ht he I2 T Oy f2 hq ?_;intro D C s' H' m' I' q' hn hC hL hF hz Kr hp;refine⟨m',hn,λNx NK=>⟨.ref D,H',?_,rfl,q'⟩⟩;exact I'.turned (t':=s'.toks) (λb o hb e=>(NK.2 b hb).trans e) hC hL (.inr hz) Kr hp
def uk(hc:X.calm=L)(hi:PI X tg iter wi)(S:aag X scope bs)(hg:∀cl C O Z ex pn,PG (aH X scope cl C O Z ex pn) tg g)(ht:∀cl C O Z ex pn,PTs (aH X scope cl C O Z ex pn) ifs tt)(he:∀cl C O Z ex pn,PE (aH X scope cl C O Z ex pn) elt te)(hN:X.N.Nodup)(Rk:X.N[i]?=U y)(hy:X.env.scope.names.lookup y=U .local)(Nf:swapsWith (.ListComp elt [⟨tg,iter,ifs,0⟩] scope pos) (U (.Name y py)) K7.line X.env=pure L:=by rfl)(hs:∀x,foldedSetIterable iter X.env x=pure x:=by intro _;rfl):PS X (.Assign [.Name y py] (.ListComp elt [⟨tg,iter,ifs,0⟩] scope pos) K7) (BV (ul wi bs g tt te) (gW i)):=by
 intro pins s σ H D I h;rw[exec_Assign_Name_used _ _ _ _ Nf];refine Z_ (wpAny_standAt (Z_ ?_));refine Z_ (YS (wpAny_comprehension_free (use:=U (assign (.Name y py) X.env)) (Q:=λ_ s'=>SP X pins D .next s') rfl hs (dL (S.has I)) S.kind S.loc
  (thn (hi pins s σ H _ I h) λv s1 h1=>thn h1 λTn s2 h2=>?_)) (λ_ s' hq=>Z6 (Z6 hq)) λ_ _ e=>e)
 obtain⟨it,fp,tn,J,H2,e,I2,T,Oy,f2,hq⟩:=h2;subst e;refine iz (Q:=λx H1=>gW i x σ H1 D.nx) (RR:=λacc C=>compPost (model X.prog X.w) X.A X.xe (U (assign (.Name y py) X.env)) (λ_ s'=>SP X pins D .next s') acc C) hc S hg ht he I2 T Oy f2 hq ?_;intro A C s' H' m' I' q' hn hC hL hF hz Kr hp;refine wpAny_assign_Name (kq I' hN Rk (.inl hy) (v:=.ref A) rfl (λs2 I2 Ll=>?_) (.inr hy));obtain⟨a,sb,ha⟩:=Ll;have hCa:C≠a:=by
  rcases ha with z|z;rw[z];exact hL;exact λq=>Kr y a z q.symm
 refine⟨m',hn.sameBut sb hCa,λNx NK=>⟨σ.set i (U (.ref A)),H',?_,q'⟩⟩;exact I2.turned (t':=s2.toks) (λb o hb e=>(NK.2 b hb).trans e) hC hL (.inr hz) Kr hp
end
mutual
noncomputable def D.flat:D->Bool
 |.non=>L|.bl _=>L|.int _=>L|.str _=>L
 |.tup ds=>D.aay ds
 |.lst _=>Y|.dK _ _=>Y|.dD _ _=>Y
noncomputable def D.aay:Z9 D->Bool
 |[]=>L
 |d::ds=>d.flat&&D.aay ds
end
theorem D.aax:∀ds:Z9 D,D.aay ds=ds.all D.flat
 |[]=>rfl
 |d::ds=>by simp only[D.aay,li,D.aax ds]
def abq(K:Z4)(B:ZP->Prop)(H:Hp)(a:ZP)(xs:Z9 V):Prop:=
 (B a/\H a=U (.lst xs))\/(∃o,H a=U (.frz o (.lst xs)))\/
  ∃(o:Obj)(its:Array Z3)(n:Nat),K.lookup a=U o/\o.cls=.type "list"/\o.dict=M/\o.data=.seq its n/\its.size<=sizeLine/\aac xs its.toList
def abq.sq{K:Z4}{B:ZP->Prop}{H:Hp}{a:ZP}{xs:Z9 V}(h:abq K B H a xs):SqL K H a xs:=by
 rcases h with⟨_,h⟩|⟨o,h⟩|h;exact .inl (.inl h);exact .inl (.inr ⟨o,h⟩);exact .inr h
def abQ(B:ZP->Prop)(H:Hp)(a:ZP)(kvs:Z9 (Key×V)):Prop:=(B a/\H a=U (.dK kvs))\/∃o,H a=U (.frz o (.dK kvs))
def abR(B:ZP->Prop)(H:Hp)(a:ZP)(kvs:Z9 (D×V)):Prop:=∃ep,(B a/\H a=U (.dD kvs ep))\/∃o,H a=U (.frz o (.dD kvs ep))
mutual
def Rep(K:Z4)(B:ZP->Prop)(H:Hp):D->V->Prop
 |.non,v=>v=.non
 |.bl b,v=>v=.bl b
 |.int i,v=>v=.int i
 |.str x,v=>v=.str x
 |.tup ds,v=>∃a xs,v=.ref a/\H a=U (.tup xs)/\M1 K B H ds xs
 |.lst ds,v=>∃a xs,v=.ref a/\abq K B H a xs/\M1 K B H ds xs
 |.dK ks ds,v=>∃a kvs,v=.ref a/\abQ B H a kvs/\kvs.map (·.1)=ks/\M1 K B H ds (kvs.map (·.2))
 |.dD ks ds,v=>∃a kvs,v=.ref a/\abR B H a kvs/\kvs.map (·.1)=ks/\M1 K B H ds (kvs.map (·.2))
def M1(K:Z4)(B:ZP->Prop)(H:Hp):Z9 D->Z9 V->Prop
 |[],xs=>xs=[]
 |d::ds,xs=>∃x r,xs=x::r/\Rep K B H d x/\M1 K B H ds r
end
structure Ext (B:ZP->Prop)(H H':Hp):Prop where
 aaY:∀a xs,H a=some (.tup xs)->H' a=some (.tup xs)
 aaU:∀a o u,H a=some (.frz o u)->H' a=some (.frz o u)
 abD:∀a,B a->H' a=H a
def Ext.refl:Ext B H H:=⟨λ_ _ h=>h,λ_ _ _ h=>h,λ_ _=>rfl⟩
theorem Ext.trans(a:Ext B H H1)(b:Ext B H1 H2):Ext B H H2:=
 ⟨λx y h=>b.aaY x y (a.aaY x y h),λx y z h=>b.aaU x y z (a.aaU x y z h),λx h=>(b.abD x h).trans (a.abD x h)⟩
section
variable{K:Z4}{B B':ZP->Prop}{H H':Hp}
def abq.ext(h:abq K B H a xs)(e:Ext B H H'):abq K B H' a xs:=by
 rcases h with⟨b,h⟩|⟨o,h⟩|h;exact .inl ⟨b,(e.abD a b).trans h⟩;exact .inr (.inl ⟨o,e.aaU _ _ _ h⟩);exact .inr (.inr h)
def abq.more(h:abq K B H a xs)(e:∀a,B a->B' a):abq K B' H a xs:=by
 rcases h with⟨b,h⟩|h|h;exact .inl ⟨e a b,h⟩;exact .inr (.inl h);exact .inr (.inr h)
def abQ.ext(h:abQ B H a xs)(e:Ext B H H'):abQ B H' a xs:=by
 rcases h with⟨b,h⟩|⟨o,h⟩;exact .inl ⟨b,(e.abD a b).trans h⟩;exact .inr ⟨o,e.aaU _ _ _ h⟩
def abR.ext(h:abR B H a xs)(e:Ext B H H'):abR B H' a xs:=by
 obtain⟨ep,h⟩:=h;rcases h with⟨b,h⟩|⟨o,h⟩;exact⟨ep,.inl ⟨b,(e.abD a b).trans h⟩⟩;exact⟨ep,.inr ⟨o,e.aaU _ _ _ h⟩⟩
mutual
theorem Rep.ext(e:Ext B H H'):∀{d:D}{v:V},Rep K B H d v->Rep K B H' d v
 |.non,v,h=>by assumption
 |.bl b,v,h=>by assumption
 |.int i,v,h=>by assumption
 |.str x,v,h=>by assumption
 |.tup ds,v,h=>by
  obtain⟨a,xs,O,hq,Z⟩:=h;exact⟨a,xs,O,e.aaY _ _ hq,M1.ext e Z⟩
 |.lst ds,v,h=>by
  obtain⟨a,xs,O,hq,Z⟩:=h;exact⟨a,xs,O,hq.ext e,M1.ext e Z⟩
 |.dK ks ds,v,h=>by
  obtain⟨a,xs,O,hq,hk,Z⟩:=h;exact⟨a,xs,O,hq.ext e,hk,M1.ext e Z⟩
 |.dD ks ds,v,h=>by
  obtain⟨a,xs,O,hq,hk,Z⟩:=h;exact⟨a,xs,O,hq.ext e,hk,M1.ext e Z⟩
theorem M1.ext(e:Ext B H H'):∀{ds:Z9 D}{xs:Z9 V},M1 K B H ds xs->M1 K B H' ds xs
 |[],xs,h=>by assumption
 |d::ds,xs,h=>by
  obtain⟨x,r,O,h1,Z⟩:=h;exact⟨x,r,O,Rep.ext e h1,M1.ext e Z⟩
end
mutual
theorem Rep.more(e:∀a,B a->B' a):∀{d:D}{v:V},Rep K B H d v->Rep K B' H d v
 |.non,v,h=>by assumption
 |.bl b,v,h=>by assumption
 |.int i,v,h=>by assumption
 |.str x,v,h=>by assumption
 |.tup ds,v,h=>by
  obtain⟨a,xs,O,hq,Z⟩:=h;exact⟨a,xs,O,hq,M1.more e Z⟩
 |.lst ds,v,h=>by
  obtain⟨a,xs,O,hq,Z⟩:=h;exact⟨a,xs,O,hq.more e,M1.more e Z⟩
 |.dK ks ds,v,h=>by
  obtain⟨a,xs,O,hq,hk,Z⟩:=h;exact⟨a,xs,O,hq.imp (λz=>⟨e a z.1,z.2⟩) λz=>z,hk,M1.more e Z⟩
 |.dD ks ds,v,h=>by
  obtain⟨a,xs,O,⟨ep,hq⟩,hk,Z⟩:=h;exact⟨a,xs,O,⟨ep,hq.imp (λz=>⟨e a z.1,z.2⟩) λz=>z⟩,hk,M1.more e Z⟩
theorem M1.more(e:∀a,B a->B' a):∀{ds:Z9 D}{xs:Z9 V},M1 K B H ds xs->M1 K B' H ds xs
 |[],xs,h=>by assumption
 |d::ds,xs,h=>by
  obtain⟨x,r,O,h1,Z⟩:=h;exact⟨x,r,O,Rep.more e h1,M1.more e Z⟩
end
mutual
theorem Rep.flat:∀{d:D}{v:V},d.flat=L->Rep K B H d v->Rep K B' H d v
 |.non,v,_,h=>by assumption
 |.bl b,v,_,h=>by assumption
 |.int i,v,_,h=>by assumption
 |.str x,v,_,h=>by assumption
 |.tup ds,v,f,h=>by
  obtain⟨a,xs,O,hq,Z⟩:=h;exact⟨a,xs,O,hq,M1.flat f Z⟩
 |.lst ds,v,f,_=>by trivial
 |.dK _ _,v,f,_=>by trivial
 |.dD _ _,v,f,_=>by trivial
theorem M1.flat:∀{ds:Z9 D}{xs:Z9 V},D.aay ds=L->M1 K B H ds xs->M1 K B' H ds xs
 |[],xs,_,h=>by assumption
 |d::ds,xs,f,h=>by
  simp only[D.aay,ZQ]at f;obtain⟨x,r,O,h1,Z⟩:=h;exact⟨x,r,O,Rep.flat f.1 h1,M1.flat f.2 Z⟩
end
theorem M1.length:∀{ds:Z9 D}{xs:Z9 V},M1 K B H ds xs->ds.length=xs.length
 |[],xs,h=>by subst h;rfl
 |d::ds,xs,h=>by
  obtain⟨x,r,O,h1,Z⟩:=h;subst O;simp only[cn,M1.length Z]
theorem M1.nil:M1 K B H [] []:=by rfl
theorem M1.cons{d:D}{ds:Z9 D}{x:V}{xs:Z9 V}(h:Rep K B H d x)(t:M1 K B H ds xs):M1 K B H (d::ds) (x::xs):=by
 exact⟨x,xs,rfl,h,t⟩
def M1.abH(h:M1 K B H (d::ds) (x::xs)):Rep K B H d x/\M1 K B H ds xs:=by
 simp only[M1]at h;obtain⟨y,r,e,h1,O⟩:=h;cases e;exact⟨h1,O⟩
theorem M1.get:∀{ds:Z9 D}{xs:Z9 V}{i:Nat}{d:D},M1 K B H ds xs->ds[i]?=U d->∃x,xs[i]?=U x/\Rep K B H d x
 |[],_,_,_,_,e=>by simp at e
 |d::ds,xs,0,e,h,he=>by
  obtain⟨x,r,O,h1,Z⟩:=h
  simp_all
 |d::ds,xs,i+1,e,h,he=>by
  obtain⟨x,r,O,h1,Z⟩:=h;subst O;exact M1.get (i:=i) Z (by trivial)
def M1.get':∀{ds:Z9 D}{xs:Z9 V}{i:Nat}{x:V},M1 K B H ds xs->xs[i]?=U x->∃d,ds[i]?=U d/\Rep K B H d x:=λ{ds xs i x} h e=>by
 have hl:=h.length;have Z:i<ds.length:=by rw[hl];exact(ZO.mp e).1
 obtain⟨y,O,r⟩:=h.get (i:=i) (d:=ds[i]) (by simp[Z]);rw[e]at O;obtain rfl:=Z7 O;exact⟨ds[i],by simp[Z],r⟩
theorem M1.append:∀{ds es:Z9 D}{xs ys:Z9 V},M1 K B H ds xs->M1 K B H es ys->M1 K B H (ds++es) (xs++ys)
 |[],es,xs,ys,h,t=>by simp_all [M1]
 |d::ds,es,xs,ys,h,t=>by
  obtain⟨x,r,O,h1,Z⟩:=h;subst O;exact M1.cons h1 (M1.append Z t)
theorem M1.take:∀{ds:Z9 D}{xs:Z9 V}(n:Nat),M1 K B H ds xs->M1 K B H (ds.take n) (xs.take n)
 |_,_,0,_=>by rfl
 |[],xs,n+1,h=>by subst h;rfl
 |d::ds,xs,n+1,h=>by
  obtain⟨x,r,O,h1,Z⟩:=h;subst O;exact M1.cons h1 (M1.take n Z)
theorem M1.drop:∀{ds:Z9 D}{xs:Z9 V}(n:Nat),M1 K B H ds xs->M1 K B H (ds.drop n) (xs.drop n)
 |_,_,0,h=>h
 |[],xs,n+1,h=>by subst h;rfl
 |d::ds,xs,n+1,h=>by
  obtain⟨x,r,O,h1,Z⟩:=h;subst O;exact M1.drop n Z
end
abbrev iv:=Z9 (Z8 (D×Bool))
def ObR(K:Z4)(B:ZP->Prop)(H:Hp)(d:D)(a:ZP):Prop:=match d with
 |.lst ds=>∃xs,H a=U (.lst xs)/\M1 K B H ds xs
 |.dK ks ds=>∃kvs,H a=U (.dK kvs)/\kvs.map (·.1)=ks/\M1 K B H ds (kvs.map (·.2))
 |.dD ks ds=>∃kvs,(∃ep,H a=U (.dD kvs ep))/\kvs.map (·.1)=ks/\M1 K B H ds (kvs.map (·.2))
 |_=>False
structure Rel (K:Z4)(B:ZP->Prop)(Hk:Hp)(δ:iv)(σ:St)(H:Hp):Prop where
 same:aab Hk H
 bor:∀a,B a->∃o:HOn,Hk a=some o.1
 len:δ.length=σ.length
 var:∀(i:Nat) d,δ[i]?=some (some (d,false))->∃v,σ[i]?=some (some v)/\Rep K B H d v
 own:∀(i:Nat) d,δ[i]?=some (some (d,true))->∃a,σ[i]?=some (some (.ref a))/\Hk a=none/\ObR K B H d a
 dis:∀(i j:Nat) d e a,i≠j->δ[i]?=some (some (d,true))->δ[j]?=some (some (e,true))->σ[i]?=some (some (.ref a))->σ[j]?=some (some (.ref a))->False
def BO(B:ZP->Prop)(q:iv)(σ:St)(a:ZP):Prop:=B a\/∃(i:Nat)(d:D),q[i]?=U (U (d,L))/\σ[i]?=U (U (.ref a))
def bq(m:Bool)(B:ZP->Prop)(q:iv)(σ:St):ZP->Prop:=if m=L then BO B q σ else B
section
variable{K:Z4}{B B':ZP->Prop}{Hk H H':Hp}{δ:iv}{σ:St}
def aab.ext(s:aab H H')(b:∀a,B a->∃o:HOn,H a=U o.1):Ext B H H':=
 ⟨λa xs h=>s a _ h,λa o u h=>s a _ h,λa h=>by obtain⟨o,e⟩:=b a h;rw[e,s a o e]⟩
theorem ObR.ext(h:ObR K B H d a)(e:Ext B H H')(Z:∀o:HO,H a=U o->o.nt=L->H' a=U o):ObR K B H' d a:=by
 cases d with
 |lst ds=>obtain⟨xs,h1,O⟩:=h;exact⟨xs,Z _ h1 rfl,O.ext e⟩
 |dK ks ds=>obtain⟨xs,h1,h0,O⟩:=h;exact⟨xs,Z _ h1 rfl,h0,O.ext e⟩
 |dD ks ds=>obtain⟨xs,⟨ep,h1⟩,h0,O⟩:=h;exact⟨xs,⟨ep,Z _ h1 rfl⟩,h0,O.ext e⟩
 |_=>exact(show False from h).elim
def ObR.there(h:ObR K B H d a):∃o:HOn,H a=U o.1:=by
 cases d with
 |lst ds=>obtain⟨xs,h1,O⟩:=h;exact⟨⟨_,rfl⟩,h1⟩
 |dK ks ds=>obtain⟨xs,h1,Z,O⟩:=h;exact⟨⟨_,rfl⟩,h1⟩
 |dD ks ds=>obtain⟨xs,⟨ep,h1⟩,Z,O⟩:=h;exact⟨⟨_,rfl⟩,h1⟩
 |_=>exact(show False from h).elim
def Rel.abo(R:Rel K B Hk δ σ H):∀a,B a->∃o:HOn,H a=U o.1:=λa h=>by
 obtain⟨o,e⟩:=R.bor a h;exact⟨o,R.same a o e⟩
def Rel.boH(R:Rel K B Hk δ σ H):∀a,BO B δ σ a->∃o:HOn,H a=U o.1:=λa h=>by
 rcases h with h|⟨i,d,h1,O⟩;exact R.abo a h;obtain⟨b,e,_,ob⟩:=R.own i d h1;rw[O]at e;cases e;exact ob.there
def Rel.bsH(R:Rel K B Hk δ σ H)(m:Bool):∀a,bq m B δ σ a->∃o:HOn,H a=U o.1:=by
 cases m with
 |true=>exact R.boH
 |false=>exact R.abo
def Rel.to(R:Rel K B Hk δ σ H)(s:aab H H'):Rel K B Hk δ σ H':=by
 have e:Ext B H H':=s.ext R.abo;refine⟨R.same.trans s,R.bor,R.len,λi d h=>?_,λi d h=>?_,R.dis⟩;obtain⟨v,h1,O⟩:=R.var i d h;exact⟨v,h1,O.ext e⟩;obtain⟨a,h1,O,Z⟩:=R.own i d h;exact⟨a,h1,O,Z.ext e λo q n=>s.get a o n q⟩
def Rep.same(r:Rep K (bq m B δ σ) H d v)(R:Rel K B Hk δ σ H)(s:aab H H'):Rep K (bq m B δ σ) H' d v:=r.ext (s.ext (R.bsH m))
def M1.same(r:M1 K (bq m B δ σ) H d v)(R:Rel K B Hk δ σ H)(s:aab H H'):M1 K (bq m B δ σ) H' d v:=r.ext (s.ext (R.bsH m))
def je(m:Bool):∀a,B a->bq m B δ σ a:=λa h=>by
 cases m with
 |true=>exact .inl h
 |false=>exact h
def ObR.rep(h:ObR K B H d a)(hb:B' a)(Z:∀a,B a->B' a):Rep K B' H d (.ref a):=by
 cases d with
 |lst ds=>obtain⟨xs,h1,O⟩:=h;exact⟨a,xs,rfl,.inl ⟨hb,h1⟩,O.more Z⟩
 |dK ks ds=>obtain⟨xs,h1,h0,O⟩:=h;exact⟨a,xs,rfl,.inl ⟨hb,h1⟩,h0,O.more Z⟩
 |dD ks ds=>obtain⟨xs,⟨ep,h1⟩,h0,O⟩:=h;exact⟨a,xs,rfl,⟨ep,.inl ⟨hb,h1⟩⟩,h0,O.more Z⟩
 |_=>exact(show False from h).elim
end
def PE.imp(h:PE X e t)(i:∀σ H Q,t' σ H Q->t σ H Q):PE X e t':=λpins s σ H Q I q=>h pins s σ H Q I (i σ H Q q)
def PT.imp(h:PT X e t)(i:∀σ H Q,t' σ H Q->t σ H Q):PT X e t':=λpins s σ H Q I q=>h pins s σ H Q I (i σ H Q q)
def PW.imp(h:PW X e t)(i:∀σ H Q,t' σ H Q->t σ H Q):PW X e t':=λO pins s σ H Q I q=>h O pins s σ H Q I (i σ H Q q)
def PA.imp(h:PA X e t)(i:∀σ H Q,t' σ H Q->t σ H Q):PA X e t':=λpos pins s σ H Q I q=>h pos pins s σ H Q I (i σ H Q q)
def PI.imp(h:PI X tg e t)(i:∀σ H Q,t' σ H Q->t σ H Q):PI X tg e t':=λpins s σ H Q I q=>h pins s σ H Q I (i σ H Q q)
def PS.imp(h:PS X e t)(i:∀D σ H,t' D σ H->t D σ H):PS X e t':=λpins s σ H D I q=>h pins s σ H D I (i D σ H q)
def PSs.imp(h:PSs X e t)(i:∀D σ H,t' D σ H->t D σ H):PSs X e t':=λpins s σ H D I q=>h pins s σ H D I (i D σ H q)
noncomputable def tM(K:Z4)(m:Bool)(f:iv->Z8 D):TE:=λσ H Q=>∃B Hk q d,Rel K B Hk q σ H/\f q=U d/\∀v O,aab H O->Rep K (bq m B q σ) O d v->Q v O
def tF(K:Z4)(f:iv->Z8 D):TE:=λσ H Q=>∃B Hk q d,Rel K B Hk q σ H/\f q=U d/\∀a O,aab H O->H a=M->ObR K B O d a->Q (.ref a) O
def tMT(K:Z4)(f:iv->Z8 Bool):TT:=λσ H Q=>∃B Hk q d,Rel K B Hk q σ H/\f q=U d/\∀O,aab H O->Q d O
noncomputable def tMA(K:Z4)(m:Bool)(f:iv->Z8 (Z9 D)):TA:=λσ H Q=>∃B Hk q ds,Rel K B Hk q σ H/\f q=U ds/\∀vs O,aab H O->M1 K (bq m B q σ) O ds vs->Q vs O
abbrev DE(X:Cx)(m:Bool)(e:Expr)(f:iv->Z8 D):Prop:=PE X e (tM X.K m f)
abbrev DF(X:Cx)(e:Expr)(f:iv->Z8 D):Prop:=PE X e (tF X.K f)
abbrev DT(X:Cx)(e:Expr)(f:iv->Z8 Bool):Prop:=PT X e (tMT X.K f)
abbrev DA(X:Cx)(m:Bool)(es:Z9 Expr)(f:iv->Z8 (Z9 D)):Prop:=PA X es (tMA X.K m f)
section
variable{X:Cx}{m m':Bool}{a b:Expr}{fa fb:iv->Z8 D}{pos:Pos}
noncomputable def rd(m:Bool)(i:Nat)(q:iv):Z8 D:=match q[i]? with|some (some (d,o))=>if(o&&!m)=L then M else U d|_=>M
set_option tactic.hygienic true in
def vP(h:rd m i q=U d):∃o,q[i]?=U (U (d,o))/\(o=L->m=L):=by
 unfold rd at h;split at h
 .simp_all
 trivial
theorem Rel.rd{K:Z4}{B:ZP->Prop}{Hk H:Hp}{q:iv}{σ:St}{i:Nat}{d:D}(R:Rel K B Hk q σ H)(h:rd m i q=U d):∃v,σ[i]?=U (U v)/\Rep K (bq m B q σ) H d v:=by
 obtain⟨o,e,ho⟩:=vP h;cases o with
 |false=>
  obtain⟨v,h1,h2⟩:=R.var i d e;exact⟨v,h1,h2.more λa h=>je m a h⟩
 |true=>
  obtain⟨a,h1,h2,h3⟩:=R.own i d e;obtain rfl:=ho rfl;exact⟨_,h1,h3.rep (B':=bq L B q σ) (by unfold bq;exact .inr ⟨i,d,e,h1⟩) λa h=>je L a h⟩
def CJ(hN:X.N[i]?=U x)(Z:Vis X.env.scope x)(hd:(x==("__debug__":Str))=Y:=by decide)(O:(x==("__classdict__":Str))=Y:=by decide):DE X m (.Name x pos) (rd m i):=
 (bA hN Z hd O).imp λσ H Q hz=>by
  obtain⟨B,Hk,q,d,R,e,k⟩:=hz;obtain⟨v,h1,h2⟩:=R.rd e;exact⟨v,h1,k v H (aab.refl H) h2⟩
theorem oY{i:Int}{j:Nat}:DE X m (.Constant (.int i) j pos) (λ_=>U (.int i)):=vE.imp λσ H Q hz=>by obtain⟨B,Hk,q,d,R,e,k⟩:=hz;obtain rfl:=Z7 e;exact k _ H (aab.refl H) rfl
theorem CF:DE X m (.Constant (.str x) j pos) (λ_=>U (.str x)):=Cg.imp λσ H Q hz=>by obtain⟨B,Hk,q,d,R,e,k⟩:=hz;obtain rfl:=Z7 e;exact k _ H (aab.refl H) rfl
theorem Gc:DE X m (.Constant (.bool x) j pos) (λ_=>U (.bl x)):=Es.imp λσ H Q hz=>by obtain⟨B,Hk,q,d,R,e,k⟩:=hz;obtain rfl:=Z7 e;exact k _ H (aab.refl H) rfl
theorem sW:DE X m (.Constant .none j pos) (λ_=>U .non):=Ds.imp λσ H Q hz=>by obtain⟨B,Hk,q,d,R,e,k⟩:=hz;obtain rfl:=Z7 e;exact k _ H (aab.refl H) rfl
def two{K:Z4}{σ:St}{H:Hp}{B:ZP->Prop}{Hk:Hp}{q:iv}{d1 d2:D}{P:V->V->Hp->Prop}(R:Rel K B Hk q σ H)(e1:fa q=U d1)(e2:fb q=U d2)
  (k:∀v u O,aab H O->Rel K B Hk q σ O->Rep K (bq m B q σ) O d1 v->Rep K (bq m' B q σ) O d2 u->P v u O):tM K m fa σ H λx H1=>tM K m' fb σ H1 λy Z=>P x y Z:=
 ⟨B,Hk,q,d1,R,e1,λv H1 s1 r1=>⟨B,Hk,q,d2,R.to s1,e2,λu Z s2 r2=>k v u Z (s1.trans s2) (R.to (s1.trans s2)) (r1.same (R.to s1) s2) r2⟩⟩
noncomputable def bI(C:Int->Int->Bool)(g:Int->Int->D)(x y:Z8 D):Z8 D:=match x,y with|some (.int i),some (.int j)=>if C i j=L then U (g i j) else M|_,_=>M
set_option tactic.hygienic true in
def sJ(h:bI C g x y=U d):∃i j,x=U (.int i)/\y=U (.int j)/\C i j=L/\d=g i j:=by
 unfold bI at h;split at h;lia;trivial
def Ba(h:C i j=L):bI C g (U (.int i)) (U (.int j))=U (g i j):=by unfold bI;simp only[ZM h]
noncomputable def cT:Int->Int->Bool:=λ_ _=>L
noncomputable def Jm:Int->Int->Bool:=λi j=>decide ((-(2 ^ 64)<i/\i<2 ^ 64)\/(-(2 ^ 64)<j/\j<2 ^ 64))
noncomputable def ID:Int->Int->Bool:=λ_ j=>decide (0<j/\j<1073741824)
noncomputable def H0:Int->Int->Bool:=λ_ j=>decide (0<j)
def xz{C:Int->Int->Bool}{g:Int->Int->Int}(ho:OpR X (binaryOp op) r)(hr:∀i j H Q,C i j=L->Q (V.int (g i j)) H->r (.int i) (.int j) H Q)(ha:DE X m a fa)(hb:DE X m' b fb):
  DE X mm (.BinOp a op b pos) (λq=>bI C (λi j=>.int (g i j)) (fa q) (fb q)):=
 (tJ ho ha hb).imp λσ H Q hz=>by
  obtain⟨B,Hk,q,d,R,e,k⟩:=hz;obtain⟨i,j,e1,e2,hc,rfl⟩:=sJ e;refine two R e1 e2 λv u O s R' r1 Z=>?_;subst r1 Z;exact hr i j O Q hc (k _ O s (by rfl))
def fC(x y:Z8 D):Z8 D:=bI cT (λi j=>.int (i+j)) x y
def v7(x y:Z8 D):Z8 D:=bI Jm (λi j=>.int (i*j)) x y
def v6(x y:Z8 D):Z8 D:=bI ID (λi j=>.int (i / j)) x y
def fw(x y:Z8 D):Z8 D:=bI H0 (λi j=>.int (i%j)) x y
theorem Ez(O:DE X m a fa)(hb:DE X m' b fb):DE X mm (.BinOp a .Add b pos) (λZ=>fC (fa Z) (fb Z)):=xz CZ (λi j H Q _ q=>⟨i,j,rfl,rfl,q⟩) O hb
theorem Dv(O:DE X m a fa)(hb:DE X m' b fb):DE X mm (.BinOp a .Mult b pos) (λZ=>v7 (fa Z) (fb Z)):=xz Cw (λi j H Q c q=>⟨i,j,rfl,rfl,(show(-(2 ^ 64)<i/\i<2 ^ 64)\/(-(2 ^ 64)<j/\j<2 ^ 64) from Zy c),q⟩) O hb
theorem Dw(O:DE X m a fa)(hb:DE X m' b fb):DE X mm (.BinOp a .FloorDiv b pos) (λZ=>v6 (fa Z) (fb Z)):=xz z0 (λi j H Q c q=>⟨i,j,rfl,rfl,(show 0<j/\j<1073741824 from Zy c),q⟩) O hb
theorem Ee(O:DE X m a fa)(hb:DE X m' b fb):DE X mm (.BinOp a .Mod b pos) (λZ=>fw (fa Z) (fb Z)):=xz CS (λi j H Q c q=>⟨i,j,rfl,rfl,(show 0<j from Zy c),q⟩) O hb
noncomputable def cI(g:Int->Int->Bool)(x y:Z8 D):Z8 Bool:=match x,y with|some (.int i),some (.int j)=>U (g i j)|_,_=>M
set_option tactic.hygienic true in
def BG(h:cI g x y=U c):∃i j,x=U (.int i)/\y=U (.int j)/\c=g i j:=by
 unfold cI at h;split at h;rename_i i j;obtain rfl:=Z7 h;exact⟨i,j,rfl,rfl,rfl⟩;trivial
theorem Dm(ho:OpR X (compareOp op) (rI0 λi j=>.bl (g i j)))(hm:behindInMarks op b=Y)(ha:DE X m a fa)(hb:DE X m' b fb):
  DT X (.Compare a [op] [b] pos) (λq=>cI g (fa q) (fb q)):=
 (cz ho ha hb hm).imp λσ H Q hz=>by
  obtain⟨B,Hk,q,d,R,e,k⟩:=hz;obtain⟨i,j,e1,e2,rfl⟩:=BG e;refine two R e1 e2 λv u H' s R' Z O=>?_;subst Z O;exact⟨i,j,rfl,rfl,_,rfl,k H' s⟩
noncomputable abbrev gLt:Int->Int->Bool:=λi j=>decide (i<j)
noncomputable abbrev gGt:Int->Int->Bool:=λi j=>decide (j<i)
noncomputable abbrev gGe:Int->Int->Bool:=λi j=>decide (j<=i)
noncomputable def tyB(x:Z8 D):Z8 Bool:=match x with|some (.bl b)=>U b|_=>M
noncomputable def ofB(x:Z8 Bool):Z8 D:=match x with|some b=>U (.bl b)|none=>M
def c7(h:tyB x=U c):x=U (.bl c):=by
 unfold tyB at h;split at h;lia;trivial
theorem zp(Z:DE X m a fa)(he:∀O,isTrue a X.env O=(do let v <-O;standAt a.pos;holding [v] (truthy v)):=by intro _;rfl):DT X a (λq=>tyB (fa q)):=
 (DM Z he).imp λσ H Q ⟨B,Hk,q,d,R,e,k⟩=>⟨B,Hk,q,_,R,c7 e,λv H' s r=>by
  simp only[Rep]at r;subst r;exact⟨d,rfl,k H' s⟩⟩
variable{fc ga gb:iv->Z8 Bool}{av:Z9 Expr}
noncomputable def rG(x y:Z8 Bool):Z8 Bool:=match x with|some true=>y|some false=>U Y|none=>M
noncomputable def orO(x y:Z8 Bool):Z8 Bool:=match x with|some true=>U L|some false=>y|none=>M
noncomputable def dB(x:Z8 Bool):Z8 Bool:=match x with|some c=>U (!c)|none=>M
abbrev DW(X:Cx)(e:Expr)(f:iv->Z8 Bool):Prop:=PW X e (tMT X.K f)
theorem BB(O:DT X a ga):DW X (.BoolOp .And [a] pos) ga:=Bb O
theorem EH(O:DT X a ga):DW X (.BoolOp .Or [a] pos) ga:=Ev O
theorem DZ(Z:DT X a ga)(hb:DW X (.BoolOp .And (b::av) pos) gb):DW X (.BoolOp .And (a::b::av) pos) (λδ=>rG (ga δ) (gb δ)):=
 (B6 Z hb).imp λσ H Q hz=>by
  obtain⟨B,Hk,δ,d,R,e,k⟩:=hz;unfold rG at e;dsimp only at e;split at e;rename_i q;exact⟨B,Hk,δ,L,R,q,λO s1=>zt (⟨B,Hk,δ,d,R.to s1,e,λH2 s2=>k H2 (s1.trans s2)⟩)⟩;rename_i q;obtain rfl:=Z7 e;exact⟨B,Hk,δ,Y,R,q,λO s1=>yC (k O s1)⟩;trivial
theorem Fx(Z:DT X a ga)(hb:DW X (.BoolOp .Or (b::av) pos) gb):DW X (.BoolOp .Or (a::b::av) pos) (λδ=>orO (ga δ) (gb δ)):=
 (GG Z hb).imp λσ H Q hz=>by
  obtain⟨B,Hk,δ,d,R,e,k⟩:=hz;unfold orO at e;dsimp only at e;split at e;rename_i q;obtain rfl:=Z7 e;exact⟨B,Hk,δ,L,R,q,λO s1=>zt (k O s1)⟩;rename_i q;exact⟨B,Hk,δ,Y,R,q,λO s1=>yC (⟨B,Hk,δ,d,R.to s1,e,λH2 s2=>k H2 (s1.trans s2)⟩)⟩;trivial
set_option tactic.hygienic true in
theorem CP(O:DT X a ga):DT X (.UnaryOp .Not a pos) (λδ=>dB (ga δ)):=
 (Cp O).imp λσ H Q hz=>by
  obtain⟨B,Hk,δ,d,R,e,k⟩:=hz;dsimp only[dB]at e;split at e;rename_i c q;obtain rfl:=Z7 e;exact⟨B,Hk,δ,c,R,q,λZ s1=>k Z s1⟩;trivial
def CU(Z:DE X m a fa)(O:m=mm:=by rfl):DE X mm (.BoolOp op [a] pos) fa:=by subst O;trivial
def EO(Z:DE X m a fa)(hb:DE X mm (.BoolOp .And (b::av) pos) fb):DE X mm (.BoolOp .And (a::b::av) pos) (λδ=>match tyB (fa δ)with|some true=>fb δ|some false=>U (.bl Y)|none=>M):=
 (Ci Z hb).imp λσ H Q hz=>by
  obtain⟨B,Hk,δ,d,R,e,k⟩:=hz;dsimp only at e;split at e;rename_i q;exact⟨B,Hk,δ,_,R,c7 q,λv O s1 r=>by
   exact⟨L,r,by exact⟨B,Hk,δ,d,R.to s1,e,λv H2 s2=>k v H2 (s1.trans s2)⟩⟩⟩
  rename_i q;obtain rfl:=Z7 e;exact⟨B,Hk,δ,_,R,c7 q,λv O s1 r=>by
   exact⟨Y,r,by exact k _ O s1 (by rfl)⟩⟩
  trivial
def Gp(Z:DE X m a fa)(hb:DE X mm (.BoolOp .Or (b::av) pos) fb):DE X mm (.BoolOp .Or (a::b::av) pos) (λδ=>match tyB (fa δ)with|some true=>U (.bl L)|some false=>fb δ|none=>M):=
 (Gq Z hb).imp λσ H Q hz=>by
  obtain⟨B,Hk,δ,d,R,e,k⟩:=hz;dsimp only at e;split at e;rename_i q;obtain rfl:=Z7 e;exact⟨B,Hk,δ,_,R,c7 q,λv O s1 r=>by
   exact⟨L,r,by exact k _ O s1 (by rfl)⟩⟩
  rename_i q;exact⟨B,Hk,δ,_,R,c7 q,λv O s1 r=>by
   exact⟨Y,r,by exact⟨B,Hk,δ,d,R.to s1,e,λv H2 s2=>k v H2 (s1.trans s2)⟩⟩⟩
  trivial
theorem Ep(ha:DE X m a fa):DE X mm (.UnaryOp .Not a pos) (λO=>ofB (dB (tyB (fa O)))):=
 (CT ha).imp λσ H Q hz=>by
  obtain⟨B,Hk,O,d,R,e,k⟩:=hz;cases q:tyB (fa O)with
  |none=>simp only[q,dB,ofB]at e;trivial
  |some c=>
   simp only[q,dB,ofB]at e;obtain rfl:=Z7 e;exact⟨B,Hk,O,_,R,c7 q,λv H1 s1 r=>by
    exact⟨c,r,k _ H1 s1 (by rfl)⟩⟩
def wZ(Z:DT X c fc)(ha:DE X mm a fa)(hb:DE X mm b fb):DE X mm (.IfExp c a b pos) (λδ=>match fc δ with|some true=>fa δ|some false=>fb δ|none=>M):=
 (pC Z ha hb).imp λσ H Q hz=>by
  obtain⟨B,Hk,δ,d,R,e,k⟩:=hz;dsimp only at e;split at e;rename_i q;exact⟨B,Hk,δ,L,R,q,λH1 s1=>zt (⟨B,Hk,δ,d,R.to s1,e,λv O s2=>k v O (s1.trans s2)⟩)⟩;rename_i q;exact⟨B,Hk,δ,Y,R,q,λH1 s1=>yC (⟨B,Hk,δ,d,R.to s1,e,λv O s2=>k v O (s1.trans s2)⟩)⟩;trivial
noncomputable def aa(x:Z8 D)(y:Z8 (Z9 D)):Z8 (Z9 D):=match x,y with|some d,some ds=>U (d::ds)|_,_=>M
set_option tactic.hygienic true in
def ro(h:aa x y=U l):∃d ds,x=U d/\y=U ds/\l=d::ds:=by
 unfold aa at h;split at h;rename_i d ds;obtain rfl:=Z7 h;exact⟨d,ds,rfl,rfl,rfl⟩;trivial
variable{e:Expr}{es:Z9 Expr}{fe:iv->Z8 D}{fs:iv->Z8 (Z9 D)}
theorem ia:DA X m [] (λ_=>U []):=aM.imp λσ H Q hz=>by obtain⟨B,Hk,q,d,R,e,k⟩:=hz;obtain rfl:=Z7 e;exact k [] H (aab.refl H) M1.nil
theorem cY(ha:DE X m e fe)(hr:DA X m es fs)(hs:starEach (e::es) X.env=(Y,eval e X.env)::starEach es X.env:=by rfl):DA X m (e::es) (λq=>aa (fe q) (fs q)):=
 (au ha hr hs).imp λσ H Q hz=>by
  obtain⟨B,Hk,q,l,R,e,k⟩:=hz;obtain⟨d,ds,e1,e2,rfl⟩:=ro e;exact⟨B,Hk,q,d,R,e1,λv H1 s1 Z=>⟨B,Hk,q,ds,R.to s1,e2,λvs H2 s2 O=>k (v::vs) H2 (s1.trans s2) (M1.cons (Z.same (R.to s1) s2) O)⟩⟩
def lim:Nat:=1000000
def aF(h:n<=lim):n<=sizeLine:=ZL h (by decide)
noncomputable def aJ(x:Z8 (Z9 D)):Z8 D:=match x with|some ds=>if ds.length<=lim then U (.tup ds) else M|none=>M
noncomputable def bg(x:Z8 (Z9 D)):Z8 D:=match x with|some ds=>if ds.length<=lim then U (.lst ds) else M|none=>M
def r6(h:aJ x=U d):∃ds,x=U ds/\ds.length<=lim/\d=.tup ds:=by
 unfold aJ at h;split at h;lia;trivial
def uX(h:bg x=U d):∃ds,x=U ds/\ds.length<=lim/\d=.lst ds:=by
 unfold bg at h;split at h;lia;trivial
def ar(h:H p=M):aab H (upd H p o):=(aab.refl H).put h
theorem yZ{Z:Nat}(h:DA X m es fs):DE X m (.Tuple es Z pos) (λq=>aJ (fs q)):=
 (Ec h).imp λσ H Q hz=>by
  obtain⟨B,Hk,q,d,R,e,k⟩:=hz;obtain⟨ds,e1,hl,rfl⟩:=r6 e;refine⟨B,Hk,q,ds,R,e1,λvs H1 s1 O=>⟨by rw[<-O.length];exact aF hl,λp hp=>?_⟩⟩;have s2:=ar (o:=.tup vs) hp;refine k _ _ (s1.trans s2) ?_;exact⟨p,vs,rfl,ah,O.same (R.to s1) s2⟩
theorem yQ(h:DA X Y es fs):DF X (.List es pos) (λq=>bg (fs q)):=
 (CA h).imp λσ H Q hz=>by
  obtain⟨B,Hk,q,d,R,e,k⟩:=hz;obtain⟨ds,e1,Z,rfl⟩:=uX e;refine⟨B,Hk,q,ds,R,e1,λvs H1 s1 O=>⟨by rw[<-O.length];exact aF Z,λp hp=>?_⟩⟩;have s2:=ar (o:=.lst vs) hp;exact k p _ (s1.trans s2) (s1.free hp) ⟨vs,ah,O.same (m:=Y) (R.to s1) s2⟩
end
noncomputable def okD:Nat->D->Bool
 |_,.non=>L
 |_,.int _=>L
 |_,.str _=>L
 |n+1,.tup ds=>ds.all (okD n)
 |n+1,.lst ds=>ds.all (okD n)
 |_,_=>Y
def BK(h:okD n (.tup ds)=L):∃k,n=k+1/\ds.all (okD k)=L:=by
 cases n with
 |zero=>trivial
 |succ k=>exact⟨k,rfl,by assumption⟩
def BU(h:okD n (.lst ds)=L):∃k,n=k+1/\ds.all (okD k)=L:=by
 cases n with
 |zero=>trivial
 |succ k=>exact⟨k,rfl,by assumption⟩
section
def dn(I:Inv X pins σ H s)(h:SqL X.K H a xs)(h':SqT X.K H a ys):False:=by
 obtain⟨its,_,⟨o,n,e,hc,_,_⟩,_⟩:=I.list h;obtain⟨its',_,⟨Z,e',O,_⟩,_⟩:=I.tuple h';lia
def shp{K:Z4}{n:Nat}{d:D}{v:V}(hd:okD n d=L)(r:Rep K B H d v):(d=.non/\v=.non)\/(∃i,d=.int i/\v=.int i)\/(∃i,d=.str i/\v=.str i)\/
  (∃ds a xs k,d=.tup ds/\v=.ref a/\n=k+1/\ds.all (okD k)=L/\SqT K H a xs/\M1 K B H ds xs)\/∃ds a xs k,d=.lst ds/\v=.ref a/\n=k+1/\ds.all (okD k)=L/\SqL K H a xs/\M1 K B H ds xs:=by
 cases d with
 |non=>exact .inl ⟨rfl,r⟩
 |int i=>exact .inr (.inl ⟨_,rfl,r⟩)
 |str i=>exact .inr (.inr (.inl ⟨_,rfl,r⟩))
 |tup ds=>
  obtain⟨a,xs,rfl,Z,O⟩:=r;obtain⟨k,rfl,h⟩:=BK hd;exact .inr (.inr (.inr (.inl ⟨_,a,xs,k,rfl,rfl,rfl,h,SqT.of Z,O⟩)))
 |lst ds=>
  obtain⟨a,xs,rfl,Z,O⟩:=r;obtain⟨k,rfl,h⟩:=BU hd;exact .inr (.inr (.inr (.inr ⟨_,a,xs,k,rfl,rfl,rfl,h,Z.sq,O⟩)))
 |_=>simp[okD]at hd
theorem M1.acd{K:Z4}{n Z:Nat}(f:∀d e v,okD n d=L->okD Z e=L->Rep K B H d v->Rep K B' H e v->d=e):∀{ds es:Z9 D}{xs:Z9 V},ds.all (okD n)=L->es.all (okD Z)=L->M1 K B H ds xs->M1 K B' H es xs->ds=es
 |[],es,xs,hd,he,r,O=>by
  subst r;cases es with
  |nil=>rfl
  |cons e es=>obtain⟨_,_,z,_⟩:=O;trivial
 |d::ds,es,xs,hd,he,r,O=>by
  obtain⟨x,t,rfl,r1,r2⟩:=r;cases es with
  |nil=>trivial
  |cons e es=>
   obtain⟨q1,q2⟩:=O.abH;rw[li,ZQ]at hd he;rw[f _ _ _ hd.1 he.1 r1 q1,M1.acd f hd.2 he.2 r2 q2]
def Rep.inj(I:Inv X pins σ H s):∀{n n':Nat}{d e:D}{v:V},okD n d=L->okD n' e=L->Rep X.K B H d v->Rep X.K B' H e v->d=e:=by
 intro n
 induction n using Nat.strongRecOn with
 |ind n ih=>
 intro n' d e v hd he r r';rcases shp hd r with⟨rfl,rfl⟩|⟨i,rfl,rfl⟩|⟨i,rfl,rfl⟩|⟨ds,a,xs,k,rfl,rfl,rfl,h1,Z,r1⟩|⟨ds,a,xs,k,rfl,rfl,rfl,h1,Z,r1⟩<;>rcases shp he r' with⟨rfl,z⟩|⟨j,rfl,z⟩|⟨j,rfl,z⟩|⟨es,b,ys,k',rfl,z,_,h2,O,r2⟩|⟨es,b,ys,k',rfl,z,_,h2,O,r2⟩<;>cases z<;>try rfl
 obtain rfl:=I.aaW Z O;rw[M1.acd (λ_ _ _=>ih k (Yr k)) h1 h2 r1 r2];exact(dn I O Z).elim;exact(dn I Z O).elim;obtain rfl:=I.aaN Z O;rw[M1.acd (λ_ _ _=>ih k (Yr k)) h1 h2 r1 r2]
theorem M1.inj(I:Inv X pins σ H s)(hd:ds.all (okD n)=L)(he:es.all (okD n')=L)(r:M1 X.K B H ds xs)(O:M1 X.K B' H es xs):ds=es:=M1.acd (λ_ _ _=>Rep.inj I) hd he r O
def eV:∀(ds es:Z9 D),(ds.length=es.length)->((List.range ds.length).all λj=>decide (ds[j]?=es[j]?))=decide (ds=es):=by
 intro ds es Z;rw[YG,Z2,YY];constructor;intro h;apply W3;intro j;by_cases O:j<ds.length;exact Zy (h j (Zk.mpr O))
 .simp_all
 lia
def jP:∀(ds es:Z9 D),(((List.range (min ds.length es.length)).all λj=>decide (ds[j]?=es[j]?))&&ds.length==es.length)=decide (ds=es):=by
 intro ds es;by_cases O:ds.length=es.length;rw[O,Nat.min_self,X1,YC,<-O,eV ds es O];lia
def GU(I:Inv X pins σ H s){n:Nat}{d:D}{v:V}{u:Z3}(hd:okD n d=L)(r:Rep X.K B H d v)(O:RelV v u):(d=.non/\u=.none)\/(∃i t,d=.int i/\u=.int i t)\/(∃i t,d=.str i/\u=.str i t)\/
  (∃ds a xs k its,d=.tup ds/\u=.ref a/\n=k+1/\ds.all (okD k)=L/\SqT X.K H a xs/\M1 X.K B H ds xs/\aac xs its/\s.heap.IsTuple a its.toArray)\/∃ds a xs k its,d=.lst ds/\u=.ref a/\n=k+1/\ds.all (okD k)=L/\SqL X.K H a xs/\M1 X.K B H ds xs/\aac xs its/\s.heap.IsList a its.toArray:=by
 rcases shp hd r with⟨rfl,rfl⟩|⟨i,rfl,rfl⟩|⟨i,rfl,rfl⟩|⟨ds,a,xs,k,rfl,rfl,rfl,h1,Z,r1⟩|⟨ds,a,xs,k,rfl,rfl,rfl,h1,Z,r1⟩;exact .inl ⟨rfl,O⟩;obtain⟨t,rfl⟩:=O;exact .inr (.inl ⟨i,t,rfl,rfl⟩);obtain⟨t,rfl⟩:=O;exact .inr (.inr (.inl ⟨i,t,rfl,rfl⟩));obtain⟨its,rv,h,_⟩:=I.tuple Z;exact .inr (.inr (.inr (.inl ⟨ds,a,xs,k,its,rfl,O,rfl,h1,Z,r1,rv,h⟩)));obtain⟨its,rv,h,_⟩:=I.list Z;exact .inr (.inr (.inr (.inr ⟨ds,a,xs,k,its,rfl,O,rfl,h1,Z,r1,rv,h.isList⟩)))
open SeqAt in
def Ey(I:Inv X pins σ H s)(ih:∀(d e:D)(x y:V)(u w:Z3),okD k d=L->okD k e=L->Rep X.K B H d x->Rep X.K B' H e y->RelV x u->RelV y w->EqAt A s u w (decide (d=e)))(hd:ds.all (okD k)=L)(he:es.all (okD k)=L)(hr:M1 X.K B H ds xs)(Z:M1 X.K B' H es ys)(rv:aac xs its)(O:aac ys k_):∀j (h1:j<its.toArray.size) (h2:j<k_.toArray.size),EqAt A s its.toArray[j] k_.toArray[j] (decide (ds[j]?=es[j]?)):=λj h1 h2=>by
 have l1:=hr.length;have l2:=rv.length;have l3:=Z.length;have l4:=O.length;simp only[ZI]at h1 h2;obtain⟨d',Lw⟩:∃d',ds[j]?=U d':=⟨ds[j]'(by lia),by simp⟩
 obtain⟨e',OW⟩:∃e',es[j]?=U e':=⟨es[j]'(by lia),by simp⟩
 obtain⟨x',VC,U7⟩:=hr.get Lw;obtain⟨y',Vz,U6⟩:=Z.get OW;obtain⟨u',Nc,QJ⟩:=rv.get VC;obtain⟨w',VD,Kk⟩:=O.get Vz;have q:=ih d' e' x' y' u' w' ((Z2.mp hd) d' (Zs Lw)) ((Z2.mp he) e' (Zs OW)) U7 U6 QJ Kk
 simp_all
open SeqAt in
def B0(I:Inv X pins σ H s):∀(n:Nat)(d e:D)(x y:V)(u w:Z3)(A:Zj),okD n d=L->okD n e=L->A.units+n+1<cLine->Rep X.K B H d x->Rep X.K B' H e y->RelV x u->RelV y w->
  RcAt A s u w (decide (d=e))/\EqAt A s u w (decide (d=e))/\RcNeAt A s u w (!decide (d=e)):=by
 intro n
 induction n using Nat.strongRecOn with
 |ind n ih=>
 intro d e x y u w A hd he hA rd re rx ry;have hu:A.units<cLine:=by lia
 rcases GU I hd rd rx with⟨rfl,rfl⟩|⟨i,t',rfl,rfl⟩|⟨i,t',rfl,rfl⟩|⟨ds,a,xs,k,its,rfl,rfl,rfl,r_,hp,hr,rv,Z⟩|⟨ds,a,xs,k,its,rfl,rfl,rfl,r_,hp,hr,rv,Z⟩<;>rcases GU I he re ry with⟨rfl,rfl⟩|⟨j,t,rfl,rfl⟩|⟨j,t,rfl,rfl⟩|⟨es,b,ys,k',k_,rfl,rfl,z,Ms,hq,LL,Oz,O⟩|⟨es,b,ys,k',k_,rfl,rfl,z,Ms,hq,LL,Oz,O⟩;exact⟨RcAt.none_none,EqAt.same _,RcNeAt.none_none⟩;exact⟨RcAt.none_int j t,EqAt.none_int j t,RcNeAt.none_int j t⟩;exact⟨RcAt.none_str j t,EqAt.none_str j t,RcNeAt.none_str j t⟩;exact⟨RcAt.none_tuple O hu,EqAt.none_tuple O hu,RcNeAt.none_tuple O hu⟩;exact⟨RcAt.none_list O hu,EqAt.none_list O hu,RcNeAt.none_list O hu⟩;exact⟨RcAt.int_none i t',EqAt.int_none i t',RcNeAt.int_none i t'⟩;have q:decide (D.int i=D.int j)=(i==j):=by rw[YG,YY,XC,D.int.injEq]
 rw[q];exact⟨RcAt.int_int i t' j t,EqAt.int_int i t' j t,RcNeAt.int_int i t' j t⟩;exact⟨RcAt.int_str i t' j t,EqAt.int_str i t' j t,RcNeAt.int_str i t' j t⟩;exact⟨RcAt.int_tuple i t' O hu,EqAt.int_tuple i t' O hu,RcNeAt.int_tuple i t' O hu⟩;exact⟨RcAt.int_list i t' O hu,EqAt.int_list i t' O hu,RcNeAt.int_list i t' O hu⟩;exact⟨RcAt.str_none i t',EqAt.str_none i t',RcNeAt.str_none i t'⟩;exact⟨RcAt.str_int i t' j t,EqAt.str_int i t' j t,RcNeAt.str_int i t' j t⟩;have q:decide (D.str i=D.str j)=(i==j):=by rw[YG,YY,XC,D.str.injEq]
 rw[q];exact⟨RcAt.str_str i t' j t,EqAt.str_str i t' j t,RcNeAt.str_str i t' j t⟩;exact⟨RcAt.str_tuple i t' O hu,EqAt.str_tuple i t' O hu,RcNeAt.str_tuple i t' O hu⟩;exact⟨RcAt.str_list i t' O hu,EqAt.str_list i t' O hu,RcNeAt.str_list i t' O hu⟩;exact⟨RcAt.tuple_none Z hu,EqAt.tuple_none Z hu,RcNeAt.tuple_none Z hu⟩;exact⟨RcAt.tuple_int j t Z hu,EqAt.tuple_int j t Z hu,RcNeAt.tuple_int j t Z hu⟩;exact⟨RcAt.tuple_str j t Z hu,EqAt.tuple_str j t Z hu,RcNeAt.tuple_str j t Z hu⟩;cases z;have el:=Ey I (A:=A.in1) (λd e x y u w h1 h2 h3 h4 h5 h6=>(ih k (Yr k) d e x y u w A.in1 h1 h2 (by show A.units+1+k+1<cLine;lia) h3 h4 h5 h6).2.1) r_ Ms hr LL rv Oz;have l1:=hr.length;have l2:=rv.length;have l3:=LL.length;have l4:=Oz.length;have key:((List.range (min its.toArray.size k_.toArray.size)).all (λj=>decide (ds[j]?=es[j]?))&&its.toArray.size==k_.toArray.size)=decide (D.tup ds=D.tup es):=by
  rw[ZI,ZI,<-l2,<-l4,<-l1,<-l3,jP];simp only[D.tup.injEq]
 have rc:=RcAt.tuples Z O hu el;have rn:=RcNeAt.tuples Z O hu el;rw[key]at rc rn;refine⟨rc,?_,rn⟩;by_cases x_:a=b;subst x_;obtain rfl:=I.aaW hp hq;have:=M1.inj I r_ Ms hr LL;subst this;rw[Zx rfl];exact EqAt.same _;exact EqAt.of_refs x_ rc;exact⟨RcAt.tuple_list Z O hu,EqAt.tuple_list Z O hu,RcNeAt.tuple_list Z O hu⟩;exact⟨RcAt.list_none Z hu,EqAt.list_none Z hu,RcNeAt.list_none Z hu⟩;exact⟨RcAt.list_int j t Z hu,EqAt.list_int j t Z hu,RcNeAt.list_int j t Z hu⟩;exact⟨RcAt.list_str j t Z hu,EqAt.list_str j t Z hu,RcNeAt.list_str j t Z hu⟩;exact⟨RcAt.list_tuple Z O hu,EqAt.list_tuple Z O hu,RcNeAt.list_tuple Z O hu⟩;cases z;have el:=Ey I (A:=A.in1) (λd e x y u w h1 h2 h3 h4 h5 h6=>(ih k (Yr k) d e x y u w A.in1 h1 h2 (by show A.units+1+k+1<cLine;lia) h3 h4 h5 h6).2.1) r_ Ms hr LL rv Oz;have l1:=hr.length;have l2:=rv.length;have l3:=LL.length;have l4:=Oz.length;by_cases hsz:its.toArray.size=k_.toArray.size;have key:((List.range its.toArray.size).all (λj=>decide (ds[j]?=es[j]?)))=decide (D.lst ds=D.lst es):=by
  have hl:ds.length=es.length:=by simp only[ZI]at hsz;lia
  rw[ZI,<-l2,<-l1,eV _ _ hl];simp only[D.lst.injEq]
 have rc:=RcAt.lists Z O hsz hu el;have rn:=RcNeAt.lists Z O hsz hu el;rw[key]at rc rn;refine⟨rc,?_,rn⟩;by_cases x_:a=b;subst x_;obtain rfl:=I.aaN hp hq;have:=M1.inj I r_ Ms hr LL;subst this;rw[Zx rfl];exact EqAt.same _;exact EqAt.of_refs x_ rc;have p_:¬D.lst ds=D.lst es:=λz=>hsz (by
  simp;lia)
 have hb:(its.toArray.size != k_.toArray.size)=L:=by simpa using hsz
 rw[Zu p_];have rc:=RcAt.lists_lengths Z O hb hu;refine⟨rc,?_,RcNeAt.lists_lengths Z O hb hu⟩;have x_:a≠b:=λz=>by
  subst z;obtain rfl:=I.aaN hp hq
  simp_all
 exact EqAt.of_refs x_ rc
end
section
variable{X:Cx}{a:Expr}
noncomputable def ok2(x y:D):Bool:=okD 16 x&&okD 16 y
def eqO(x y:Z8 D):Z8 Bool:=match x,y with|some d,some e=>if ok2 d e=L then U (decide (d=e)) else M|_,_=>M
set_option tactic.hygienic true in
def dU(h:eqO x y=U c):∃d e,x=U d/\y=U e/\okD 16 d=L/\okD 16 e=L/\c=decide (d=e):=by
 unfold eqO at h;split at h;rename_i d e;by_cases q:ok2 d e=L;rw[ZM q]at h;obtain rfl:=Z7 h;unfold ok2 at q;rw[ZQ]at q;exact⟨d,e,rfl,rfl,q.1,q.2,rfl⟩;rw[ZH q]at h;trivial;trivial
def neO(x y:Z8 D):Z8 Bool:=dB (eqO x y)
def rD(K:Z4)(g:D->D->Bool):R2:=λx y H Q=>∃B B' d e,okD 16 d=L/\okD 16 e=L/\Rep K B H d x/\Rep K B' H e y/\Q (.bl (g d e)) H
def zM(hu:X.A.units+64<cLine):OpR X (compareOp .Eq) (rD X.K λd e=>decide (d=e)):=by
 intro pins s σ H x y v u Q I Z O h;obtain⟨B,B',d,e,hd,he,r1,r2,q⟩:=h;exact(B0 I 16 d e x y v u X.A hd he (by lia) r1 r2 Z O).1 X.prog X.w X.xe _ ⟨.bl _,H,I,rfl,q⟩
def vn(hu:X.A.units+64<cLine):OpR X (compareOp .NotEq) (rD X.K λd e=>!decide (d=e)):=by
 intro pins s σ H x y v u Q I Z O h;obtain⟨B,B',d,e,hd,he,r1,r2,q⟩:=h;exact(B0 I 16 d e x y v u X.A hd he (by lia) r1 r2 Z O).2.2 X.prog X.w X.xe _ ⟨.bl _,H,I,rfl,q⟩
theorem FW(hu:X.A.units+64<cLine)(ha:DE X m a fa)(hb:DE X m' b fb):DE X mm (.Compare a [.Eq] [b] pos) (λO=>ofB (eqO (fa O) (fb O))):=
 (me (zM hu) ha hb (pJ _)).imp λσ H Q hz=>by
  obtain⟨B,Hk,O,d,R,e,k⟩:=hz;cases q:eqO (fa O) (fb O)with
  |none=>simp only[q,ofB]at e;trivial
  |some c=>
   simp only[q,ofB]at e;obtain rfl:=Z7 e;obtain⟨d1,d2,e1,e2,o1,o2,rfl⟩:=dU q;exact two R e1 e2 λv u H' s R' r1 r2=>⟨_,_,d1,d2,o1,o2,r1,r2,k _ H' s (by rfl)⟩
theorem Fu(hu:X.A.units+64<cLine)(ha:DE X m a fa)(hb:DE X m' b fb):DE X mm (.Compare a [.NotEq] [b] pos) (λO=>ofB (neO (fa O) (fb O))):=
 (me (vn hu) ha hb (pJ _)).imp λσ H Q hz=>by
  obtain⟨B,Hk,O,d,R,e,k⟩:=hz;cases q:eqO (fa O) (fb O)with
  |none=>simp only[q,ofB,neO,dB]at e;trivial
  |some c=>
   simp only[q,ofB,neO,dB]at e;obtain rfl:=Z7 e;obtain⟨d1,d2,e1,e2,o1,o2,rfl⟩:=dU q;exact two R e1 e2 λv u H' s R' r1 r2=>⟨_,_,d1,d2,o1,o2,r1,r2,k _ H' s (by rfl)⟩
theorem Gy(hu:X.A.units+64<cLine)(ha:DE X m a fa)(hb:DE X m' b fb):DT X (.Compare a [.Eq] [b] pos) (λδ=>eqO (fa δ) (fb δ)):=
 (cz (zM hu) ha hb (pJ _)).imp λσ H Q hz=>by
  obtain⟨B,Hk,δ,d,R,q,k⟩:=hz;obtain⟨d1,d2,e1,e2,o1,o2,rfl⟩:=dU q;exact two R e1 e2 λv u H' s R' Z O=>⟨_,_,d1,d2,o1,o2,Z,O,_,rfl,k H' s⟩
theorem Ga(hu:X.A.units+64<cLine)(ha:DE X m a fa)(hb:DE X m' b fb):DT X (.Compare a [.NotEq] [b] pos) (λO=>neO (fa O) (fb O)):=
 (cz (vn hu) ha hb (pJ _)).imp λσ H Q hz=>by
  obtain⟨B,Hk,O,d,R,e,k⟩:=hz;cases q:eqO (fa O) (fb O)with
  |none=>simp only[q,neO,dB]at e;trivial
  |some c=>
   simp only[q,neO,dB]at e;obtain rfl:=Z7 e;obtain⟨d1,d2,e1,e2,o1,o2,rfl⟩:=dU q;exact two R e1 e2 λv u H' s R' r1 r2=>⟨_,_,d1,d2,o1,o2,r1,r2,_,rfl,k H' s⟩
noncomputable def bx:D->Z8 (Z9 D)
 |.lst ds=>U ds
 |.tup ds=>U ds
 |_=>M
noncomputable def inO(x y:Z8 D):Z8 Bool:=match x,y with|some d,some e=>(match bx e with|some es=>if(okD 16 d&&es.all (okD 16))=L then U (decide (d∈es)) else M|none=>M)|_,_=>M
set_option tactic.hygienic true in
def jv(h:inO x y=U c):∃d e es,x=U d/\y=U e/\bx e=U es/\okD 16 d=L/\es.all (okD 16)=L/\c=decide (d∈es):=by
 unfold inO at h;split at h;rename_i d e;split at h
 .simp_all
 trivial;trivial
def eZ(x y:Z8 D):Z8 Bool:=dB (inO x y)
def Rep.items{K:Z4}{B:ZP->Prop}{H:Hp}{e:D}{es:Z9 D}{y:V}(r:Rep K B H e y)(h:bx e=U es):∃p xs,y=.ref p/\(SqL K H p xs\/SqT K H p xs)/\M1 K B H es xs:=by
 cases e with
 |lst ds=>obtain rfl:=Z7 h;obtain⟨a,xs,e,Z,O⟩:=r;exact⟨a,xs,e,.inl Z.sq,O⟩
 |tup ds=>obtain rfl:=Z7 h;obtain⟨a,xs,e,Z,O⟩:=r;exact⟨a,xs,e,.inr (SqT.of Z),O⟩
 |_=>simp[bx]at h
open Classical in
def wg(hu:X.A.units+64<cLine)(I:Inv X pins σ H s)(hd:okD 16 d=L)(he:es.all (okD 16)=L)(r1:Rep X.K B H d x)(r2:M1 X.K B' H es xs)(rx:RelV x v)(rv:aac xs its):∃e:Z3->Bool,(∀y,y∈its.toArray->SeqAt.EqAt X.A.in1 s y v (e y))/\its.toArray.any e=decide (d∈es):=by
 have one:∀j u,its[j]?=U u->∃d' Z,es[j]?=U d'/\okD 16 d'=L/\Rep X.K B' H d' Z/\RelV Z u:=λj u hj=>by
  have hl:=rv.length;have d_:j<xs.length:=by rw[hl];exact(ZO.mp hj).1
  obtain⟨u',KL,ru⟩:=rv.get (i:=j) (x:=xs[j]) (by simp[d_]);rw[hj]at KL;obtain rfl:=Z7 KL;obtain⟨d',r_,O⟩:=r2.get' (i:=j) (x:=xs[j]) (by simp[d_]);exact⟨d',xs[j],r_,(Z2.mp he) d' (Zs r_),O,ru⟩
 refine⟨λu=>decide (∃d' Z,okD 16 d'=L/\Rep X.K B' H d' Z/\RelV Z u/\d'=d),λu KL=>?_,?_⟩;obtain⟨j,hj⟩:=XI (show u∈its by simp_all);obtain⟨d',Z,_,o',O,ru⟩:=one j u hj;have q:=(B0 I 16 d' d Z x u v X.A.in1 o' hd (by show X.A.units+1+16+1<cLine;lia) O r1 ru rx).2.1;have key:decide (∃d' Z,okD 16 d'=L/\Rep X.K B' H d' Z/\RelV Z u/\d'=d)=decide (d'=d):=by
  rw[YG,YY,YY];constructor
  rintro⟨d2,x2,o2,OC,OA,e2⟩
  rw[<-e2];have ex:=ru.inj OA;subst ex;exact Rep.inj I o' o2 O OC;intro e2;exact⟨d',Z,o',O,ru,e2⟩
 lia;rw[YG,YY,Array.any_eq_true];constructor
 rintro⟨j,hj,h⟩
 have h':=Zy h;obtain⟨d2,x2,o2,OC,OA,e2⟩:=h';have OS:its[j]?=U its.toArray[j]:=by
  simp only[ZI]at hj;simp[hj]
 obtain⟨d',Z,r_,o',O,ru⟩:=one j _ OS;have ex:=ru.inj OA;subst ex;have:=Rep.inj I o' o2 O OC;subst this;rw[<-e2];exact Zs r_;intro h;obtain⟨j,hj⟩:=XI h;obtain⟨y,hy,ry⟩:=r2.get hj;obtain⟨u,KL,ru⟩:=rv.get hy;obtain⟨d_,ge⟩:=ZO.mp KL;refine⟨j,by trivial,Zx ⟨d,y,hd,ry,?_,rfl⟩⟩;simpa[ge]using ru
noncomputable def GW(K:Z4)(O:Bool):R2:=λx y H Q=>∃B B' d e es,bx e=U es/\okD 16 d=L/\es.all (okD 16)=L/\Rep K B H d x/\Rep K B' H e y/\Q (.bl (if O then !decide (d∈es) else decide (d∈es))) H
def zG(hu:X.A.units+64<cLine):OpR X (compareOp .In) (GW X.K Y):=by
 intro pins s σ H x y v u Q I rx ry h;obtain⟨B,B',d,e,es,hi,hd,he,r1,r2,q⟩:=h;obtain⟨p,xs,rfl,O,rs⟩:=r2.items hi;cases ry;rcases O with O|O;obtain⟨its,r,pl,hz⟩:=I.list O;obtain⟨g,g1,Z⟩:=wg hu I hd he r1 rs rx r;exact SeqAt.in_listAt g pl.isList g1 ⟨.bl _,H,I,rfl,by rw[Z];exact q⟩;obtain⟨its,r,pl,hz⟩:=I.tuple O;obtain⟨g,g1,Z⟩:=wg hu I hd he r1 rs rx r;exact SeqAt.in_tupleAt g pl g1 ⟨.bl _,H,I,rfl,by rw[Z];exact q⟩
def uE(hu:X.A.units+64<cLine):OpR X (compareOp .NotIn) (GW X.K L):=by
 intro pins s σ H x y v u Q I rx ry h;obtain⟨B,B',d,e,es,hi,hd,he,r1,r2,q⟩:=h;obtain⟨p,xs,rfl,O,rs⟩:=r2.items hi;cases ry;rcases O with O|O;obtain⟨its,r,pl,hz⟩:=I.list O;obtain⟨g,g1,Z⟩:=wg hu I hd he r1 rs rx r;exact SeqAt.notIn_listAt g pl.isList g1 ⟨.bl _,H,I,rfl,by rw[Z];exact q⟩;obtain⟨its,r,pl,hz⟩:=I.tuple O;obtain⟨g,g1,Z⟩:=wg hu I hd he r1 rs rx r;exact SeqAt.notIn_tupleAt g pl g1 ⟨.bl _,H,I,rfl,by rw[Z];exact q⟩
theorem Go(hu:X.A.units+64<cLine)(ha:DE X m a fa)(hb:DE X m' b fb)(hm:behindInMarks .In b=Y:=by rfl):DT X (.Compare a [.In] [b] pos) (λδ=>inO (fa δ) (fb δ)):=
 (cz (zG hu) ha hb hm).imp λσ H Q hz=>by
  obtain⟨B,Hk,δ,d,R,q,k⟩:=hz;obtain⟨d1,d2,es,e1,e2,hi,o1,o2,rfl⟩:=jv q;exact two R e1 e2 λv u H' s R' Z O=>⟨_,_,d1,d2,es,hi,o1,o2,Z,O,_,rfl,k H' s⟩
theorem xN(hu:X.A.units+64<cLine)(ha:DE X m a fa)(hb:DE X m' b fb)(hm:behindInMarks .NotIn b=Y:=by rfl):DT X (.Compare a [.NotIn] [b] pos) (λO=>eZ (fa O) (fb O)):=
 (cz (uE hu) ha hb hm).imp λσ H Q hz=>by
  obtain⟨B,Hk,O,d,R,e,k⟩:=hz;cases q:inO (fa O) (fb O)with
  |none=>simp only[q,eZ,dB]at e;trivial
  |some c=>
   simp only[q,eZ,dB]at e;obtain rfl:=Z7 e;obtain⟨d1,d2,es,e1,e2,hi,o1,o2,rfl⟩:=jv q;exact two R e1 e2 λv u H' s R' r1 r2=>⟨_,_,d1,d2,es,hi,o1,o2,r1,r2,_,rfl,k H' s⟩
theorem FG(hu:X.A.units+64<cLine)(ha:DE X m a fa)(hb:DE X m' b fb)(hm:behindInMarks .In b=Y:=by rfl):DE X mm (.Compare a [.In] [b] pos) (λO=>ofB (inO (fa O) (fb O))):=
 (me (zG hu) ha hb hm).imp λσ H Q hz=>by
  obtain⟨B,Hk,O,d,R,e,k⟩:=hz;cases q:inO (fa O) (fb O)with
  |none=>simp only[q,ofB]at e;trivial
  |some c=>
   simp only[q,ofB]at e;obtain rfl:=Z7 e;obtain⟨d1,d2,es,e1,e2,hi,o1,o2,rfl⟩:=jv q;exact two R e1 e2 λv u H' s R' r1 r2=>⟨_,_,d1,d2,es,hi,o1,o2,r1,r2,k _ H' s (by rfl)⟩
end
section
variable{X:Cx}{m m':Bool}{a b:Expr}{fa fb:iv->Z8 D}{pos:Pos}
noncomputable def ixO(x y:Z8 D):Z8 D:=match x,y with|some d,some (.int i)=>(match bx d with|some ds=>atI ds i|none=>M)|_,_=>M
set_option tactic.hygienic true in
def xn(h:ixO x y=U d):∃e i es,x=U e/\y=U (.int i)/\bx e=U es/\atI es i=U d:=by
 unfold ixO at h;split at h;rename_i e i;split at h;rename_i es he;exact⟨e,i,es,rfl,rfl,he,h⟩;trivial;trivial
theorem M1.atI{K:Z4}{B:ZP->Prop}{H:Hp}{ds:Z9 D}{xs:Z9 V}{i:Int}{d:D}(r:M1 K B H ds xs)(h:atI ds i=U d):∃x,atI xs i=U x/\Rep K B H d x:=by
 unfold L2.atI at h⊢;rw[r.length]at h;cases q:ixN xs.length i with
 |none=>simp_all
 |some j=>
  rw[q]at h;exact r.get (i:=j) h
def wU{K:Z4}{B:ZP->Prop}{H:Hp}{e:D}{es:Z9 D}{y:V}{i:Int}{d:D}{Q:VK}(r:Rep K B H e y)(h:bx e=U es)(hi:atI es i=U d)(k:∀v,Rep K B H d v->Q v H):rIx K y (.int i) H Q:=by
 obtain⟨p,xs,rfl,O,rs⟩:=r.items h;obtain⟨x,hx,Z⟩:=rs.atI hi;rcases O with O|O;exact .inl ⟨p,xs,i,x,rfl,rfl,O,hx,k x Z⟩;exact .inr (.inl ⟨p,xs,i,x,rfl,rfl,O,hx,k x Z⟩)
theorem xU(ha:DE X m a fa)(hb:DE X m' b fb)(hs:gQ b):DE X m (.Subscript a b pos) (λq=>ixO (fa q) (fb q)):=
 (yw DY ha hb hs).imp λσ H Q hz=>by
  obtain⟨B,Hk,q,d,R,e,k⟩:=hz;obtain⟨d1,i,es,e1,e2,hi,hd⟩:=xn e;refine two R e1 e2 λv u H' s R' r1 Z=>?_;subst Z;exact wU r1 hi hd λv O=>k v H' s O
noncomputable def fE(x y:Z8 D):Z8 D:=match x,y with|some (.str z),some (.int i)=>if z.length<=lim then(match atI z.cps.toList i with|some c=>U (.str ⟨#[c]⟩)|none=>M) else M|_,_=>M
set_option tactic.hygienic true in
def sE(h:fE x y=U d):∃z i c,x=U (.str z)/\y=U (.int i)/\z.length<=lim/\atI z.cps.toList i=U c/\d=.str ⟨#[c]⟩:=by
 unfold fE at h;split at h;rename_i z i;by_cases q:z.length<=lim;rw[ZM q]at h;split at h;rename_i c O;cases h;exact⟨z,i,c,rfl,rfl,q,O,rfl⟩;trivial;rw[ZH q]at h;trivial;trivial
theorem D9(ha:DE X m a fa)(hb:DE X m' b fb)(hs:gQ b):DE X mm (.Subscript a b pos) (λq=>fE (fa q) (fb q)):=
 (yw zh ha hb hs).imp λσ H Q hz=>by
  obtain⟨B,Hk,q,d,R,e,k⟩:=hz;obtain⟨z,i,c,e1,e2,hl,hc,rfl⟩:=sE e;refine two R e1 e2 λv u H' s R' Z O=>?_;subst Z O;exact⟨z,i,c,rfl,rfl,aF hl,hc,k _ H' s (by rfl)⟩
noncomputable def EV(x:Z8 D):Z8 D:=match x with|some d=>(match bx d with|some ds=>U (.int ds.length)|none=>(match d with|.str z=>if z.length<=lim then U (.int z.length) else M|_=>M))|none=>M
noncomputable def eX(x:Z8 D):Z8 D:=match x with|some d=>(match bx d with|some ds=>U (.int ds.length)|none=>M)|none=>M
set_option tactic.hygienic true in
def u5(h:eX x=U d):∃e es,x=U e/\bx e=U es/\d=.int es.length:=by
 unfold eX at h;split at h;rename_i e;split at h;rename_i es he;cases h;exact⟨e,es,rfl,he,rfl⟩;trivial;trivial
def ou{K:Z4}{σ:St}{H:Hp}{B:ZP->Prop}{Hk:Hp}{q:iv}{d:D}{P:Z9 V->Hp->Prop}(R:Rel K B Hk q σ H)(e:fa q=U d)
  (k:∀v O,aab H O->Rel K B Hk q σ O->Rep K (bq m B q σ) O d v->P [v] O):ua (tM K m fa) ab9 σ H P:=
 ⟨B,Hk,q,d,R,e,λv H1 s1 Z=>k v H1 s1 (R.to s1) Z⟩
def DJ(g:Gl X "len")(hm:X.mg "len"=M)(ha:DE X m a fa)(O:starEach [a] X.env=[(Y,eval a X.env)]:=by rfl)(Lw:((Str.ofString "len")==("__debug__":Str))=Y:=by decide):DE X mm (.Call (.Name "len" p) [a] [] pos) (λq=>eX (fa q)):=
 (bH kK g hm PySem.boot_len (au ha aM O) (he:=O)).imp λσ H Q hz=>by
  obtain⟨B,Hk,q,d,R,e,k⟩:=hz;obtain⟨d1,es,e1,hi,rfl⟩:=u5 e;refine ou R e1 λv H' s R' r=>?_;obtain⟨p,xs,rfl,Z,rs⟩:=r.items hi;exact⟨p,xs,rfl,Z,k _ H' s (by simp only[Rep,rs.length])⟩
theorem Inv.frz(I:Inv X pins σ H s)(h:H p=U u)(mu:Mut (U u)):∃o,Inv X pins σ (upd H p (.frz o u)) s:=by
 have O:=I.hok p u h;have Tf:Mut (H p):=by rw[h];exact mu
 have Ql:∃o,s.heap.get? p=U o:=by
  cases u with
  |lst xs=>obtain⟨_,_,_,_,e⟩:=O;exact⟨_,e⟩
  |tup xs=>trivial
  |dK kvs=>obtain⟨_,_,_,_,o,_,_,e,_⟩:=O;exact⟨_,e⟩
  |dD kvs ep=>obtain⟨_,_,_,_,o,_,e,_⟩:=O;exact⟨_,e⟩
  |own y=>trivial
  |rng lo hi=>trivial
  |frz ob u=>trivial
  |tbl lq ps=>trivial
  |ext φ=>obtain⟨_,⟨_,e⟩,_⟩:=O;exact⟨_,e⟩
 obtain⟨o,ho⟩:=Ql;refine⟨o,?_⟩;have NC:∀c y,H c=U (.own y)->c≠p:=λc y r z=>by subst z;rw[h]at r;cases r;exact mu
 have Z:∀c xs,H c=U (.tup xs)->c≠p:=λc xs r z=>by subst z;rw[h]at r;cases r;exact mu
 have new:aaj X.prog X.w (upd H p (.frz o u)) s.heap p (.frz o u):=⟨ho,O.abm (λb v _ q=>q) (λb q=>by rw[aj (NC b p q)];exact q) λb xs q=>by rw[aj (Z b xs q)];exact q⟩
 exact I.un (t':=s.toks) (Un.write Tf (.inl rfl) (λb v _ q=>q) ⟨o,ho⟩) (I.hok.write Tf (.inl rfl) (λb v _ q=>q) ⟨o,ho⟩ new)
def ObR.mut{K:Z4}{B:ZP->Prop}{H:Hp}{d:D}{p:ZP}(h:ObR K B H d p):∃u,H p=U u/\Mut (U u):=by
 cases d with
 |lst ds=>obtain⟨xs,h1,O⟩:=h;exact⟨_,h1,trivial⟩
 |dK ks ds=>obtain⟨xs,h1,Z,O⟩:=h;exact⟨_,h1,trivial⟩
 |dD ks ds=>obtain⟨xs,⟨ep,h1⟩,Z,O⟩:=h;exact⟨_,h1,trivial⟩
 |_=>exact(show False from h).elim
def cb(h:H p=U u)(O:Mut (U u))(hb:¬B p):Ext B H (upd H p o):=
 ⟨λc xs r=>by rw[aj (λz=>by subst z;rw[h]at r;cases r;exact O)];exact r,λc x y r=>by rw[aj (λz=>by subst z;rw[h]at r;cases r;exact O)];exact r,
  λc r=>by rw[aj (λz=>by lia)]⟩
def ObR.frozen{K:Z4}{B B':ZP->Prop}{H:Hp}{d:D}{p:ZP}{u:HO}{o:Obj}(h:ObR K B H d p)(hu:H p=U u)(hb:¬B p)(Z:∀a,B a->B' a):Rep K B' (upd H p (.frz o u)) d (.ref p):=by
 obtain⟨u',e,mu⟩:=h.mut;rw[hu]at e;cases e;have ex:Ext B H (upd H p (.frz o u)):=cb hu mu hb;cases d with
 |lst ds=>
  obtain⟨xs,h1,O⟩:=h;rw[hu]at h1;cases h1;exact⟨p,xs,rfl,.inr (.inl ⟨o,ah⟩),(O.ext ex).more Z⟩
 |dK ks ds=>
  obtain⟨xs,h1,h0,O⟩:=h;rw[hu]at h1;cases h1;exact⟨p,xs,rfl,.inr ⟨o,ah⟩,h0,(O.ext ex).more Z⟩
 |dD ks ds=>
  obtain⟨xs,⟨ep,h1⟩,h0,O⟩:=h;rw[hu]at h1;cases h1;exact⟨p,xs,rfl,⟨ep,.inr ⟨o,ah⟩⟩,h0,(O.ext ex).more Z⟩
 |_=>exact(show False from h).elim
theorem DF.share(h:DF X a fa):DE X m a fa:=by
 intro pins s σ H Q I hq;obtain⟨B,Hk,q,d,R,e,k⟩:=hq;have h1:=h pins s σ H (λv O=>∃p,v=.ref p/\aab H O/\H p=M/\ObR X.K B O d p) I ⟨B,Hk,q,d,R,e,λp O s n ob=>⟨p,rfl,s,n,ob⟩⟩;refine thn h1 λu s1 hz=>?_;obtain⟨v,H1,I1,rv,p,ev,Z,hn,ob⟩:=hz;subst ev;obtain⟨u',hu,mu⟩:=ob.mut;obtain⟨o,I2⟩:=I1.frz hu mu;have hb:¬B p:=λz=>by
  obtain⟨o',e'⟩:=R.abo p z;lia
 refine⟨.ref p,_,I2,rv,k _ _ (Z.put hn) (ob.frozen hu hb λa h=>je m a h)⟩
end
def acv(K:Z4)(B:ZP->Prop)(Hk H:Hp)(d:D)(v:V):Prop:=match d with
 |.lst es=>∃b xs,v=.ref b/\Hk b=M/\H b=U (.lst xs)/\M1 K B H es xs
 |d=>Rep K B H d v
def abG(K:Z4)(B:ZP->Prop)(Hk H:Hp):Z9 D->Z9 V->Prop
 |[],vs=>vs=[]
 |d::ds,vs=>∃x r,vs=x::r/\acv K B Hk H d x/\abG K B Hk H ds r
def Jb(K:Z4)(B:ZP->Prop)(Hk H:Hp)(d:D)(v:V):Prop:=match d with
 |.tup ds=>∃a vs,v=.ref a/\H a=U (.tup vs)/\abG K B Hk H ds vs
 |_=>False
def Ho(K:Z4)(B:ZP->Prop)(Hk H:Hp)(d:D)(v:V):Prop:=Rep K B H d v\/∃es b xs,d=.lst es/\v=.ref b/\Hk b=M/\H b=U (.lst xs)/\M1 K B H es xs
def aa7(K:Z4)(B:ZP->Prop)(Hk H:Hp):Z9 D->Z9 V->Prop
 |[],vs=>vs=[]
 |d::ds,vs=>∃x r,vs=x::r/\Ho K B Hk H d x/\aa7 K B Hk H ds r
def acv.m{K:Z4}{B:ZP->Prop}{Hk H:Hp}{d:D}{v:V}(h:acv K B Hk H d v):Ho K B Hk H d v:=by
 cases d with
 |lst es=>obtain⟨b,xs,h1,h2,Z,O⟩:=h;exact .inr ⟨es,b,xs,rfl,h1,h2,Z,O⟩
 |_=>exact .inl h
theorem abG.m{K:Z4}{B:ZP->Prop}{Hk H:Hp}:∀{ds:Z9 D}{vs:Z9 V},abG K B Hk H ds vs->aa7 K B Hk H ds vs
 |[],vs,h=>h
 |d::ds,vs,h=>by obtain⟨x,r,e,h1,O⟩:=h;exact⟨x,r,e,h1.m,abG.m O⟩
theorem aa7.ab6{K:Z4}{B:ZP->Prop}{Hk H:Hp}{b:ZP}{xs:Z9 V}{o:Obj}(hx:H b=U (.lst xs))(ex:Ext B H (upd H b (.frz o (.lst xs)))):∀{ds:Z9 D}{vs:Z9 V},aa7 K B Hk H ds vs->aa7 K B Hk (upd H b (.frz o (.lst xs))) ds vs
 |[],vs,h=>h
 |d::ds,vs,h=>by
  obtain⟨x,r,e,h1,h2⟩:=h;refine⟨x,r,e,?_,aa7.ab6 hx ex h2⟩;rcases h1 with h1|⟨es,Z,xs',rfl,rfl,n,O,rs⟩;exact .inl (h1.ext ex);by_cases q:Z=b;subst q;rw[hx]at O;cases O;refine .inl ?_;exact⟨Z,xs,rfl,.inr (.inl ⟨o,ah⟩),rs.ext ex⟩;exact .inr ⟨es,Z,xs',rfl,rfl,n,by rw[aj q];exact O,rs.ext ex⟩
theorem GN(hB:∀a,B a->∃o:HOn,Hk a=U o.1):∀(ds:Z9 D)(vs:Z9 V)(H:Hp),Inv X pins σ H s->aa7 X.K B Hk H ds vs->
  ∃O,Inv X pins σ O s/\Ext B H O/\(∀c o o',Hk c=U o'->H c=U o->O c=U o)/\M1 X.K B O ds vs
 |[],vs,H,I,h=>⟨H,I,Ext.refl,λ_ _ _ _ q=>q,by assumption⟩
 |d::ds,vs,H,I,h=>by
  obtain⟨x,r,rfl,h1,h2⟩:=h;rcases h1 with h1|⟨es,b,xs,rfl,rfl,n,hb,rs⟩;obtain⟨O,I',Z,k',r'⟩:=GN hB ds r H I h2;exact⟨O,I',Z,k',M1.cons (h1.ext Z) r'⟩;obtain⟨o,I1⟩:=I.frz hb trivial;have nb:¬B b:=λz=>by obtain⟨o',q⟩:=hB b z;lia
  have ex:Ext B H (upd H b (.frz o (.lst xs))):=cb hb trivial nb;obtain⟨O,I',Z,k',r'⟩:=GN hB ds r _ I1 (aa7.ab6 hb ex h2);refine⟨O,I',ex.trans Z,λc o' o2 q1 q2=>k' c o' o2 q1 (by rw[aj (aw q1 n)];exact q2),M1.cons (Rep.ext Z ?_) r'⟩;exact⟨b,xs,rfl,.inr (.inl ⟨o,ah⟩),rs.ext ex⟩
def u7(K:Z4)(B:ZP->Prop)(Hk O:Hp)(d:D)(Z:Bool)(v:V):Prop:=if Z=L then(∃a,v=.ref a/\Hk a=M/\ObR K B O d a)\/Jb K B Hk O d v else Rep K B O d v
noncomputable def spM(K:Z4)(f:Z9 D->Z8 (D×Bool)):Sp:=λvs H Q _=>∃B ds r Z,(∀a,B a->∃o:HOn,H a=U o.1)/\M1 K B H ds vs/\f ds=U (r,Z)/\∀v O,aab H O->u7 K B H O r Z v->Q v O
structure FnM (P:Za)(w:Y1)(K:Z4)(mg:Str->Z8 Z3)(base:Heap)(k:Nat)(x:Str)(f:List D->Z8 (D×Bool)):Prop where
 ex:∃(p:ZP)(fd:FuncData)(ps:List Str),abk P w K mg base CX0 k p fd ps (spM K f)/\mg x=some (.ref p)/\W.keepIn K (.ref p)=true/\Binds K fd ps []
noncomputable def af{Z O:Type}(x:Z8 Z)(f:Z->Z8 O):Z8 O:=match x with|some a=>f a|none=>M
def am{Z O:Type}{x:Z8 Z}{f:Z->Z8 O}{b:O}(h:af x f=U b):∃a,x=U a/\f a=U b:=by
 cases x with
 |none=>trivial
 |some a=>exact⟨a,rfl,h⟩
noncomputable def shO(x:Z8 (D×Bool)):Z8 D:=match x with|some (d,_)=>U d|none=>M
noncomputable def frO(x:Z8 (D×Bool)):Z8 D:=match x with|some (.tup _,true)=>M|some (d,true)=>U d|_=>M
noncomputable def flO(x:Z8 (D×Bool)):Z8 D:=match x with|some (.lst ds,true)=>if D.aay ds=L then U (.lst ds) else M|_=>M
section
variable{X:Cx}{a:Expr}
def ni(F:FnM X.prog X.w X.K X.mg X.base k x f)(hr:aaq k X.A)(hg:Gl X x)(ha:DA X m (e::es) fs)(OX:(x==("__debug__":Str))=Y)(he:starEach (e::es) X.env=(Y,eval e X.env)::starEach es X.env)(hpl:(backTo pos (starEach es X.env)).any (·.1)=Y):
  PE X (.Call (.Name x p) (e::es) [] pos) (λσ H Q=>∃B Hk δ ds r fr,Rel X.K B Hk δ σ H/\fs δ=U ds/\f ds=U (r,fr)/\∀v O Z,aab H O->aab O Z->u7 X.K (bq m B δ σ) O Z r fr v->Q v Z):=by
 obtain⟨q,fd,ps,h1,h2,h3,h4⟩:=F.ex;refine(Bp (ds:=[]) (dvs:=[]) h1 hr hg h2 h3 h4 .nil FB ha OX he hpl).imp λσ H Q hz=>?_;obtain⟨B,Hk,δ,ds,r,fr,R,e1,e2,kk⟩:=hz;refine⟨B,Hk,δ,ds,R,e1,λvs O s1 rs=>?_⟩;show spM X.K f (vs++[]) O Q E0;rw[Yx];exact⟨bq m B δ σ,ds,r,fr,(R.to s1).bsH m,rs,e2,λv Z s2 rr=>kk v O Z s1 s2 rr⟩
def AE(F:FnM X.prog X.w X.K X.mg X.base k x f)(hr:aaq k X.A)(hg:Gl X x)(ha:DA X Y (e::es) fs)(OX:(x==("__debug__":Str))=Y:=by decide)(he:starEach (e::es) X.env=(Y,eval e X.env)::starEach es X.env:=by rfl)
  (hpl:(backTo pos (starEach es X.env)).any (·.1)=Y:=by rfl):DF X (.Call (.Name x p) (e::es) [] pos) (λO=>frO (af (fs O) f)):=
 (ni F hr hg ha OX he hpl).imp λσ H Q hz=>by
  obtain⟨B,Hk,O,d,R,e,kk⟩:=hz;cases q:af (fs O) f with
  |none=>simp only[q,frO]at e;trivial
  |some p=>
   obtain⟨d',fr⟩:=p;obtain⟨ds,e1,e2⟩:=am q;cases fr with
   |false=>cases d'<;>simp only[q,frO]at e<;>trivial
   |true=>
    have hd:d'=d/\∀ts,d≠.tup ts:=by
     cases d' with
     |tup ts=>simp only[q,frO]at e;trivial
     |_=>simp only[q,frO]at e;cases e;exact⟨rfl,λts z=>by cases z⟩
    obtain⟨rfl,nt⟩:=hd;refine⟨B,Hk,O,ds,_,_,R,e1,e2,λv H1 H' s1 s2 rr=>?_⟩;unfold u7 at rr;rcases rr with⟨a,rfl,n,ob⟩|rt;exact kk a H' (s1.trans s2) (s1.free n) ob;cases d' with
    |tup ts=>lia
    |_=>exact(show False from rt).elim
set_option tactic.hygienic true in
def wT(F:FnM X.prog X.w X.K X.mg X.base k x f)(hr:aaq k X.A)(hg:Gl X x)(ha:DA X L (e::es) fs)(O:(x==("__debug__":Str))=Y:=by decide)(he:starEach (e::es) X.env=(Y,eval e X.env)::starEach es X.env:=by rfl)
  (hpl:(backTo pos (starEach es X.env)).any (·.1)=Y:=by rfl):DF X (.Call (.Name x p) (e::es) [] pos) (λδ=>flO (af (fs δ) f)):=
 (ni F hr hg ha O he hpl).imp λσ H Q hz=>by
  obtain⟨B,Hk,δ,d,R,e,kk⟩:=hz;unfold flO at e;dsimp only at e;split at e;rename_i ls q;by_cases fl:D.aay ls=L;rw[ZM fl]at e;cases e;obtain⟨ds,e1,e2⟩:=am q;refine⟨B,Hk,δ,ds,_,_,R,e1,e2,λv H1 H' s1 s2 Z=>?_⟩;unfold u7 at Z;rcases Z with⟨a,rfl,n,xs,hx,rs⟩|rt;exact kk a H' (s1.trans s2) (s1.free n) ⟨xs,hx,M1.flat fl rs⟩;trivial;rw[ZH fl]at e;trivial;trivial
set_option tactic.hygienic true in
def zZ(F:FnM X.prog X.w X.K X.mg X.base k x f)(hr:aaq k X.A)(hg:Gl X x)(ha:DA X m (e::es) fs)(OX:(x==("__debug__":Str))=Y:=by decide)(he:starEach (e::es) X.env=(Y,eval e X.env)::starEach es X.env:=by rfl)
  (hpl:(backTo pos (starEach es X.env)).any (·.1)=Y:=by rfl):DE X m (.Call (.Name x p) (e::es) [] pos) (λδ=>shO (af (fs δ) f)):=by
 intro pins s σ H Q I hq;obtain⟨B,Hk,δ,d,R,e,kk⟩:=hq;unfold shO at e;dsimp only at e;split at e
 .rename_i d' fr q
  cases e;obtain⟨ds,e1,e2⟩:=am q;have h1:=ni (p:=p) F hr hg ha OX he hpl pins s σ H (λv H'=>∃H1,aab H H1/\aab H1 H'/\u7 X.K (bq m B δ σ) H1 H' d fr v) I ⟨B,Hk,δ,ds,d,fr,R,e1,e2,λv H1 H' s1 s2 rr=>⟨H1,s1,s2,rr⟩⟩;refine thn h1 λu s1 hz=>?_;obtain⟨v,H',I1,rv,H1,O,Z,rr⟩:=hz;cases fr with
  |false=>
   unfold u7 at rr;exact⟨v,H',I1,rv,kk v H' (O.trans Z) rr⟩
  |true=>
   unfold u7 at rr;rcases rr with⟨p,rfl,n,ob⟩|rt
   rotate_left
   cases d with
   |tup ts=>
    obtain⟨a,vs,rfl,ha',rs⟩:=rt;obtain⟨H2,I2,e2,k2,r2⟩:=GN (B:=bq m B δ σ) (Hk:=H1) (λc z=>by obtain⟨o',e'⟩:=R.bsH m c z;exact⟨o',O c o' e'⟩) ts vs H' I1 rs.m;refine⟨.ref a,H2,I2,rv,kk _ _ (O.trans (Z.keep k2)) ?_⟩;exact⟨a,vs,rfl,e2.aaY _ _ ha',r2⟩
   |_=>exact(show False from rt).elim
   obtain⟨u',hu,mu⟩:=ob.mut;obtain⟨o,I2⟩:=I1.frz hu mu;have hb:¬bq m B δ σ p:=λz=>by
    obtain⟨o',e'⟩:=R.bsH m p z;have:=O p o' e';lia
   refine⟨.ref p,_,I2,rv,kk _ _ (O.trans (Z.put n)) (ob.frozen hu hb λa h=>h)⟩
 trivial
end
inductive Out where
 |next (δ:iv)|ret (d:D) (fr:Bool)|brk (δ:iv)|cont (δ:iv)
def ach(K:Z4)(B:ZP->Prop)(Hk H:Hp)(Dn:Ends):Out->Prop
 |.next q=>∀O Z,Ext B H Z->Rel K B Hk q O Z->Dn.nx O Z
 |.brk q=>∀O Z,Ext B H Z->Rel K B Hk q O Z->Dn.bk O Z
 |.cont q=>∀O Z,Ext B H Z->Rel K B Hk q O Z->Dn.ct O Z
 |.ret d fr=>∀v Z,Ext B H Z->aab Hk Z->u7 K B Hk Z d fr v->Dn.rt v Z
def tD(K:Z4)(g:iv->Z8 Out):TS:=λDn σ H=>∃B Hk q o,Rel K B Hk q σ H/\g q=U o/\ach K B Hk H Dn o
abbrev DS(X:Cx)(st:Stmt)(g:iv->Z8 Out):Prop:=PS X st (tD X.K g)
abbrev DSs(X:Cx)(O:Z9 Stmt)(g:iv->Z8 Out):Prop:=PSs X O (tD X.K g)
def ach.ext{K:Z4}{B:ZP->Prop}{Hk H H1:Hp}{Dn:Ends}{o:Out}(h:ach K B Hk H Dn o)(e:Ext B H H1):ach K B Hk H1 Dn o:=by
 cases o with
 |next q=>exact λO Z x r=>h O Z (e.trans x) r
 |brk q=>exact λO Z x r=>h O Z (e.trans x) r
 |cont q=>exact λO Z x r=>h O Z (e.trans x) r
 |ret d fr=>exact λv Z x r=>h v Z (e.trans x) r
noncomputable def aai(q:iv):Z8 Out:=U (.next q)
noncomputable def ay(x:Z8 Out)(k:iv->Z8 Out):Z8 Out:=match x with|some (.next q)=>k q|o=>o
section
variable{X:Cx}{a b e:Expr}{fa:iv->Z8 D}{pos p:Pos}{st:Stmt}{av:Z9 Stmt}{g1 g2:iv->Z8 Out}
theorem Bf:DSs X [] aai:=AD.imp λDn σ H hz=>by
 obtain⟨B,Hk,q,o,R,e,k⟩:=hz;cases e;exact k σ H Ext.refl R
theorem dM(h1:DS X st g1)(h2:DSs X av g2):DSs X (st::av) (λO=>ay (g1 O) g2):=
 (bX h1 h2).imp λDn σ H hz=>by
  obtain⟨B,Hk,O,o,R,e,k⟩:=hz;cases q:g1 O with
  |none=>simp only[q,ay]at e;trivial
  |some o1=>
   cases o1 with
   |next C_=>
    simp only[q,ay]at e;exact⟨B,Hk,O,_,R,q,λi_ H' x R'=>⟨B,Hk,C_,o,R',e,k.ext x⟩⟩
   |brk C_=>simp only[q,ay]at e;cases e;exact⟨B,Hk,O,_,R,q,k⟩
   |cont C_=>simp only[q,ay]at e;cases e;exact⟨B,Hk,O,_,R,q,k⟩
   |ret d fr=>simp only[q,ay]at e;cases e;exact⟨B,Hk,O,_,R,q,k⟩
theorem mL(h1:DS X st g1):DSs X [st] g1:=lV h1
noncomputable def ifO(c:Z8 Bool)(x y:Z8 Out):Z8 Out:=match c with|some true=>x|some false=>y|none=>M
theorem Rel.ext{K:Z4}{B:ZP->Prop}{Hk H O:Hp}{q:iv}{σ:St}(R:Rel K B Hk q σ H)(s:aab H O):Ext B H O:=s.ext R.abo
theorem FC(O:DT X c fc)(Z:DSs X x g1)(hb:DSs X y g2):DS X (.If c x y pos) (λδ=>ifO (fc δ) (g1 δ) (g2 δ)):=
 (CY O Z hb).imp λDn σ H hz=>by
  obtain⟨B,Hk,δ,o,R,e,k⟩:=hz;unfold ifO at e;dsimp only at e;split at e;rename_i q;exact⟨B,Hk,δ,L,R,q,λH1 s1=>zt ⟨B,Hk,δ,o,R.to s1,e,k.ext (R.ext s1)⟩⟩;rename_i q;exact⟨B,Hk,δ,Y,R,q,λH1 s1=>yC ⟨B,Hk,δ,o,R.to s1,e,k.ext (R.ext s1)⟩⟩;trivial
theorem Rel.set{K:Z4}{B:ZP->Prop}{Hk H:Hp}{δ:iv}{σ:St}{i:Nat}{d:D}{v:V}(R:Rel K B Hk δ σ H)(hi:i<σ.length)(r:Rep K B H d v):Rel K B Hk (δ.set i (U (d,Y))) (σ.set i (U v)) H:=by
 have t_:i<δ.length:=by rw[R.len];exact hi
 refine⟨R.same,R.bor,by simpa using R.len,λj e h=>?_,λj e h=>?_,λj k e f q Z h1 h2 h3 h4=>?_⟩;by_cases O:j=i
 .simp_all
 rw[ZN (ZF O)]at h;rw[ZN (ZF O)];exact R.var j e h;by_cases O:j=i
 .simp_all
 rw[ZN (ZF O)]at h;rw[ZN (ZF O)];exact R.own j e h;have nj:j≠i:=λz=>by simp_all
 have nk:k≠i:=λz=>by simp_all
 rw[ZN (ZF nj)]at h1 h3;rw[ZN (ZF nk)]at h2 h4;exact R.dis j k e f q Z h1 h2 h3 h4
def Rel.abI{K:Z4}{B:ZP->Prop}{Hk H:Hp}{δ:iv}{σ:St}{i:Nat}{d:D}{a:ZP}(R:Rel K B Hk δ σ H)(hi:i<σ.length)(hk:Hk a=M)(ob:ObR K B H d a)
  (ho:∀(j:Nat) e,j≠i->δ[j]?=U (U (e,L))->σ[j]?≠U (U (.ref a))):Rel K B Hk (δ.set i (U (d,L))) (σ.set i (U (.ref a))) H:=by
 have t_:i<δ.length:=by rw[R.len];exact hi
 refine⟨R.same,R.bor,by simpa using R.len,λj e h=>?_,λj e h=>?_,λj k e f q O h1 h2 h3 h4=>?_⟩;by_cases Z:j=i
 .simp_all
 rw[ZN (ZF Z)]at h;rw[ZN (ZF Z)];exact R.var j e h;by_cases Z:j=i
 .simp_all
 rw[ZN (ZF Z)]at h;rw[ZN (ZF Z)];exact R.own j e h;by_cases nj:j=i;subst nj;have nk:k≠j:=λz=>O z.symm;rw[Zh hi]at h3;cases h3;rw[ZN (ZF nk)]at h2 h4;exact ho k f nk h2 h4;rw[ZN (ZF nj)]at h1 h3;by_cases nk:k=i
 .simp_all
 rw[ZN (ZF nk)]at h2 h4;exact R.dis j k e f q O h1 h2 h3 h4
noncomputable def aS(i:Nat)(x:Z8 D)(q:iv):Z8 Out:=match x with|some d=>if i<q.length then U (.next (q.set i (U (d,Y)))) else M|none=>M
noncomputable def dT(i:Nat)(x:Z8 D)(q:iv):Z8 Out:=match x with|some d=>if i<q.length then U (.next (q.set i (U (d,L)))) else M|none=>M
def k9(h:aS i x O=U o):∃d,x=U d/\i<O.length/\o=.next (O.set i (U (d,Y))):=by
 unfold aS at h;split at h;rename_i d;by_cases q:i<O.length;rw[ZM q]at h;cases h;exact⟨d,rfl,q,rfl⟩;rw[ZH q]at h;trivial;trivial
def lK(h:dT i x O=U o):∃d,x=U d/\i<O.length/\o=.next (O.set i (U (d,L))):=by
 unfold dT at h;split at h;rename_i d;by_cases q:i<O.length;rw[ZM q]at h;cases h;exact⟨d,rfl,q,rfl⟩;rw[ZH q]at h;trivial;trivial
def AK{i:Nat}{Dn:Ends}{σ:St}{H:Hp}(h:tD X.K (λq=>aS i (fa q) q) Dn σ H):BV (tM X.K Y fa) (gW i) Dn σ H:=by
 obtain⟨B,Hk,q,o,R,e,k⟩:=h;obtain⟨d,Z,O,rfl⟩:=k9 e;exact⟨B,Hk,q,d,R,Z,λv H' s r=>k _ H' (R.ext s) ((R.to s).set (by rw[<-R.len];exact O) r)⟩
def wc{i:Nat}{Dn:Ends}{σ:St}{H:Hp}(h:tD X.K (λq=>dT i (fa q) q) Dn σ H):BV (tF X.K fa) (gW i) Dn σ H:=by
 obtain⟨B,Hk,q,o,R,e,k⟩:=h;obtain⟨d,e1,hi,rfl⟩:=lK e;refine⟨B,Hk,q,d,R,e1,λa H' s n ob=>k _ H' (R.ext s) ((R.to s).abI (by rw[<-R.len];exact hi) (R.same.free n) ob λj e hj h1 h2=>?_)⟩;obtain⟨b,Z,_,O⟩:=R.own j e h1;rw[h2]at Z;cases Z;obtain⟨o,e'⟩:=O.there;lia
def Cf(hN:X.N.Nodup)(ha:DE X Y a fa)(hi:X.N[i]?=U x:=by rfl)(O:Loc X.env.scope x)(Z:swapsWith a (U (.Name x pos')) pos.line X.env=pure Y:=by rfl)(hf:X.fn x=L\/X.env.scope.names.lookup x=U .local):DS X (.Assign [.Name x pos'] a pos) (λq=>aS i (fa q) q):=
 (iB hN hi O ha Z hf).imp λDn σ H h=>AK h
def BT(hN:X.N.Nodup)(ha:DF X a fa)(hi:X.N[i]?=U x:=by rfl)(O:Loc X.env.scope x)(Z:swapsWith a (U (.Name x pos')) pos.line X.env=pure Y:=by rfl)(hf:X.fn x=L\/X.env.scope.names.lookup x=U .local):DS X (.Assign [.Name x pos'] a pos) (λq=>dT i (fa q) q):=
 (iB hN hi O ha Z hf).imp λDn σ H h=>wc h
noncomputable def cq(x:Z8 D):Z8 Out:=match x with|some d=>U (.ret d Y)|none=>M
noncomputable def db(x:Z8 D):Z8 Out:=match x with|some d=>U (.ret d L)|none=>M
theorem Da(ha:DE X Y a fa):DS X (.Return (U a) pos) (λO=>cq (fa O)):=
 (ox ha).imp λDn σ H hz=>by
  obtain⟨B,Hk,O,o,R,e,k⟩:=hz;cases q:fa O with
  |none=>simp only[q,cq]at e;trivial
  |some d=>
   simp only[q,cq]at e;cases e;exact⟨B,Hk,O,d,R,q,λv H' s r=>k v H' (R.ext s) (R.same.trans s) (by assumption)⟩
theorem Au(ha:DF X a fa):DS X (.Return (U a) pos) (λO=>db (fa O)):=
 (ox ha).imp λDn σ H hz=>by
  obtain⟨B,Hk,O,o,R,e,k⟩:=hz;cases q:fa O with
  |none=>simp only[q,db]at e;trivial
  |some d=>
   simp only[q,db]at e;cases e;exact⟨B,Hk,O,d,R,q,λp H' s n ob=>k (.ref p) H' (R.ext s) (R.same.trans s) (by unfold u7;exact .inl ⟨p,rfl,R.same.free n,ob⟩)⟩
noncomputable def cm(i:Nat)(q:iv):Z8 D:=match q[i]? with|some (some (d,true))=>U d|_=>M
def ck(h:cm i q=U d):q[i]?=U (U (d,L)):=by
 unfold cm at h;split at h;lia;trivial
def BQ(hN:X.N[i]?=U x:=by rfl)(hv:Vis X.env.scope x)(hd:(x==("__debug__":Str))=Y:=by decide)(Ks:(x==("__classdict__":Str))=Y:=by decide):
  DS X (.Return (U (.Name x px)) pos) (λO=>db (cm i O)):=
 (ox (bA hN hv hd Ks)).imp λDn σ H hz=>by
  obtain⟨B,Hk,O,o,R,e,k⟩:=hz;cases q:cm i O with
  |none=>simp only[q,db]at e;trivial
  |some d=>
   simp only[q,db]at e;cases e;obtain⟨p,h1,h2,h3⟩:=R.own i d (ck q);exact⟨.ref p,h1,k (.ref p) H Ext.refl R.same (by unfold u7;rw[ZM rfl];exact .inl ⟨p,rfl,h2,h3⟩)⟩
def Rel.abJ{K:Z4}{B:ZP->Prop}{Hk H:Hp}{δ:iv}{σ:St}{i:Nat}{ds ds':Z9 D}{l:ZP}{xs xs':Z9 V}(R:Rel K B Hk δ σ H)(h:δ[i]?=U (U (.lst ds,L)))(hl:σ[i]?=U (U (.ref l)))(hx:H l=U (.lst xs))(r:M1 K B H ds' xs'):
  Ext B H (upd H l (.lst xs'))/\Rel K B Hk (δ.set i (U (.lst ds',L))) σ (upd H l (.lst xs')):=by
 obtain⟨a,e1,e2,ys,e3,_⟩:=R.own i _ h;rw[hl]at e1;cases e1;have hb:¬B l:=λz=>by obtain⟨o,q⟩:=R.bor l z;lia
 have ex:Ext B H (upd H l (.lst xs')):=cb hx trivial hb;have t_:i<δ.length:=(ZO.mp h).1;refine⟨ex,⟨R.same.put e2,R.bor,by simpa using R.len,λj e q=>?_,λj e q=>?_,λj k e f q Np h1 h2 h3 h4=>?_⟩⟩;by_cases O:j=i
 .simp_all
 rw[ZN (ZF O)]at q;obtain⟨v,q1,q2⟩:=R.var j e q;exact⟨v,q1,q2.ext ex⟩;by_cases O:j=i;subst O;rw[Zh t_]at q;cases q;exact⟨l,hl,e2,xs',ah,r.ext ex⟩;rw[ZN (ZF O)]at q;obtain⟨c,q1,q2,q3⟩:=R.own j e q;have hc:c≠l:=λz=>by subst z;exact R.dis j i e _ c O q h q1 hl
 exact⟨c,q1,q2,q3.ext ex λo q _=>by rw[aj hc];exact q⟩;have O6:∃e',δ[j]?=U (U (e',L)):=by
  by_cases O:j=i;subst O;exact⟨_,h⟩;rw[ZN (ZF O)]at h1;exact⟨_,h1⟩
 have Z:∃e',δ[k]?=U (U (e',L)):=by
  by_cases O:k=i;subst O;exact⟨_,h⟩;rw[ZN (ZF O)]at h2;exact⟨_,h2⟩
 obtain⟨e',O6⟩:=O6;obtain⟨f',Z⟩:=Z;exact R.dis j k e' f' q Np O6 Z h3 h4
noncomputable def kO(i:Nat)(x:Z8 D)(q:iv):Z8 Out:=match cm i q,x with|some (.lst ds),some d=>if ds.length<lim then U (.next (q.set i (U (.lst (ds++[d]),L)))) else M|_,_=>M
set_option tactic.hygienic true in
def vJ(h:kO i x Z=U o):∃ds d,Z[i]?=U (U (.lst ds,L))/\x=U d/\ds.length<lim/\o=.next (Z.set i (U (.lst (ds++[d]),L))):=by
 unfold kO at h;split at h;rename_i ds d q;by_cases O:ds.length<lim;rw[ZM O]at h;cases h;exact⟨ds,d,ck q,rfl,O,rfl⟩;rw[ZH O]at h;trivial;trivial
def sI{i:Nat}{x:Str}{px Z O:Pos}(ha:DE X Y a fa)(hN:X.N[i]?=U x:=by rfl)(hv:Vis X.env.scope x)
  (mc:Mc X.env (.Name x px) "append" a [] Z O)(hd:(x==("__debug__":Str))=Y:=by decide)(Ks:(x==("__classdict__":Str))=Y:=by decide)
  (Nf:swapsWith (.Call (.Attribute (.Name x px) "append" Z) [a] [] O) M pos.line X.env=pure Y:=by rfl):DS X (.Expr (.Call (.Attribute (.Name x px) "append" Z) [a] [] O) pos) (λq=>kO i (fa q) q):=
 (nI (uJ Xz F.slot_list_append F.type_list_append kC (bA hN hv hd Ks) (au ha aM mc.s) mc) Nf).imp λDn σ H hz=>by
  obtain⟨B,Hk,q,o,R,e,k⟩:=hz;obtain⟨ds,d,h1,e1,hl,rfl⟩:=vJ e;obtain⟨l,h2,h3,xs,h4,h5⟩:=R.own i _ h1;refine⟨.ref l,h2,.inl ⟨rfl,xs,SqL.of h4⟩,ou R e1 λv H' s R' r=>?_⟩;have Nw:=s l _ h4;have Rz:M1 X.K B H' ds xs:=h5.ext (R.ext s);obtain⟨x1,x2⟩:=R'.abJ (ds':=ds++[d]) (xs':=xs++[v]) h1 h2 Nw (Rz.append (M1.cons r M1.nil));exact⟨l,xs,v,rfl,rfl,Nw,by rw[<-h5.length];exact ZC hl (aF (ZU _)),k σ _ ((R.ext s).trans x1) x2⟩
noncomputable def aaB(i:Nat)(q:iv):iv:=match q[i]? with|some (some (d,true))=>q.set i (U (d,Y))|_=>q
theorem Rel.aaB(i:Nat)(I:Inv X pins σ H s)(R:Rel X.K B Hk δ σ H):∃H',Inv X pins σ H' s/\Ext B H H'/\Rel X.K B Hk (aaB i δ) σ H':=by
 unfold L2.aaB;split;rename_i d h;obtain⟨a,e1,e2,ob⟩:=R.own i d h;obtain⟨u,hu,mu⟩:=ob.mut;obtain⟨o,I2⟩:=I.frz hu mu;have hb:¬B a:=λz=>by obtain⟨o,q⟩:=R.bor a z;lia
 have ex:Ext B H (upd H a (.frz o u)):=cb hu mu hb;have t_:i<δ.length:=(ZO.mp h).1;refine⟨_,I2,ex,⟨R.same.put e2,R.bor,by simpa using R.len,λj e q=>?_,λj e q=>?_,λj k e f q Np h1 h2 h3 h4=>?_⟩⟩;by_cases O:j=i;subst O;rw[Zh t_]at q;cases q;exact⟨_,e1,ob.frozen hu hb λa h=>h⟩;rw[ZN (ZF O)]at q;obtain⟨v,Z,q2⟩:=R.var j e q;exact⟨v,Z,q2.ext ex⟩;by_cases O:j=i
 .simp_all
 rw[ZN (ZF O)]at q;obtain⟨c,Z,q2,q3⟩:=R.own j e q;have hc:c≠a:=λz=>by subst z;exact R.dis j i e _ c O q h Z e1
 exact⟨c,Z,q2,q3.ext ex λo q _=>by rw[aj hc];exact q⟩;have nj:j≠i:=λz=>by simp_all
 have nk:k≠i:=λz=>by simp_all
 rw[ZN (ZF nj)]at h1;rw[ZN (ZF nk)]at h2;exact R.dis j k e f q Np h1 h2 h3 h4;exact⟨H,I,Ext.refl,R⟩
def Hg(i:Nat)(h:DS X st g):DS X st (λq=>g (aaB i q)):=by
 intro pins s σ H Dn I ⟨B,Hk,q,o,R,e,k⟩;obtain⟨H',Z,x,O⟩:=R.aaB i I;exact h pins s σ H' Dn Z ⟨B,Hk,_,o,O,e,k.ext x⟩
theorem Bu(i:Nat)(h:DSs X UZ g):DSs X UZ (λq=>g (aaB i q)):=by
 intro pins s σ H Dn I ⟨B,Hk,q,o,R,e,k⟩;obtain⟨H',Z,x,O⟩:=R.aaB i I;exact h pins s σ H' Dn Z ⟨B,Hk,_,o,O,e,k.ext x⟩
end
def tG(K:Z4)(τ:D->iv->Z8 iv):TG:=λv σ H Q=>∃B Hk q d Z,Rel K B Hk q σ H/\Rep K B H d v/\τ d q=U Z/\∀O,Rel K B Hk Z O H->Q O H
noncomputable def tGs(K:Z4)(τ:Z9 D->iv->Z8 iv):TGs:=λvs σ H Q=>∃B Hk q ds Z,Rel K B Hk q σ H/\M1 K B H ds vs/\τ ds q=U Z/\∀O,Rel K B Hk Z O H->Q O H
abbrev DG(X:Cx)(tg:Expr)(q:D->iv->Z8 iv):Prop:=PG X tg (tG X.K q)
abbrev DGs(X:Cx)(tg:Z9 Expr)(q:Z9 D->iv->Z8 iv):Prop:=PGs X tg (tGs X.K q)
noncomputable def ae(i:Nat)(d:D)(q:iv):Z8 iv:=if i<q.length then U (q.set i (U (d,Y))) else M
noncomputable def aak(ds:Z9 D)(q:iv):Z8 iv:=match ds with|[]=>U q|_=>M
noncomputable def ao(q:D->iv->Z8 iv)(O:Z9 D->iv->Z8 iv)(ds:Z9 D)(Z:iv):Z8 iv:=match ds with|d::r=>af (q d Z) (O r)|[]=>M
noncomputable def bd(O:Z9 D->iv->Z8 iv)(d:D)(q:iv):Z8 iv:=match d with|.tup ds=>O ds q|_=>M
def PG.imp(h:PG X tg t)(i:∀v σ H Q,t' v σ H Q->t v σ H Q):PG X tg t':=λpins s σ H v u Q I r q=>h pins s σ H v u Q I r (i v σ H Q q)
def PGs.imp(h:PGs X tg t)(i:∀v σ H Q,t' v σ H Q->t v σ H Q):PGs X tg t':=λpins s σ H v u Q I r q=>h pins s σ H v u Q I r (i v σ H Q q)
section
variable{X:Cx}
def zV(hN:X.N.Nodup)(hi:X.N[i]?=U x:=by rfl)(Z:Loc X.env.scope x)(hf:X.fn x=L\/X.env.scope.names.lookup x=U .local):DG X (.Name x pos) (ae i):=
 (md hN hi Z hf).imp λv σ H Q hz=>by
  obtain⟨B,Hk,δ,d,O,R,r,e,k⟩:=hz;unfold ae at e;by_cases q:i<δ.length;rw[ZM q]at e;obtain rfl:=Z7 e;exact k _ (R.set (by rw[<-R.len];exact q) r);rw[ZH q]at e;trivial
theorem AB:DGs X [] aak:=AZ.imp λv σ H Q hz=>by
 obtain⟨B,Hk,q,ds,O,R,r,e,k⟩:=hz;cases ds with
 |nil=>obtain rfl:=Z7 e;exact⟨r,k σ R⟩
 |cons d ds=>trivial
theorem wA(h1:DG X e q)(h2:DGs X es υ)(hs:(assignEach (e::es) X.env).map (·.2)=assign e X.env::(assignEach es X.env).map (·.2):=by rfl):DGs X (e::es) (ao q υ):=
 (wk h1 h2 hs).imp λv σ H Q hz=>by
  obtain⟨B,Hk,δ,ds,Z,R,r,e,k⟩:=hz;cases ds with
  |nil=>trivial
  |cons d ds=>
   obtain⟨O,e1,e2⟩:=am e;obtain⟨x,xs,rfl,r1,r2⟩:=r;exact⟨x,xs,rfl,B,Hk,δ,d,O,R,r1,e1,λSO R1=>⟨B,Hk,O,ds,Z,R1,r2,e2,k⟩⟩
def bO(h:∀ds q O,υ ds q=U O->ds.length=n)(ds:Z9 D)(q O:iv)(e:ao τ υ ds q=U O):ds.length=n+1:=by
 cases ds with
 |nil=>trivial
 |cons d ds=>
  obtain⟨Z,_,e2⟩:=am e;rw[cn,h _ _ _ e2]
def fY(ds:Z9 D)(q O:iv)(e:aak ds q=U O):ds.length=0:=by
 cases ds with
 |nil=>rfl
 |cons d ds=>trivial
theorem C5(hc:X.calm=L)(h:DGs X es υ)(hl:∀ds q O,υ ds q=U O->ds.length=n)(hn:(assignEach es X.env).length=n:=by rfl)(Z:(assignEach es X.env).findIdx? (·.1)=M:=by rfl):DG X (.Tuple es k pos) (bd υ):=
 (Ct hc h hn Z).imp λv σ H Q hz=>by
  obtain⟨B,Hk,q,d,O,R,r,e,k⟩:=hz;cases d with
  |tup ds=>
   obtain⟨a,xs,rfl,hq,rs⟩:=r;exact⟨a,xs,rfl,SqT.of hq,by rw[<-rs.length];exact hl _ _ _ e,B,Hk,q,ds,O,R,rs,e,k⟩
  |_=>simp only[bd]at e;trivial
end
def bh(q:iv):Prop:=∀(i:Nat) d,q[i]?≠U (U (d,L))
structure abl (τ:D->iv->Z8 iv):Prop where
 new:∀d d' δ B_,τ d δ=some B_->τ d' B_=τ d' δ
 own:∀d δ B_,τ d δ=some B_->bh δ->bh B_
def f8(h:bh Z):bh (Z.set i (U (d,Y))):=λj e q=>by
 by_cases O:i=j;subst O;rw[List.getElem?_set]at q;simp at q;rw[ZN O]at q;exact h j e q
def jo(i:Nat):∀d Z O,ae i d Z=U O->bh Z->bh O:=λd Z O h n=>by
 unfold ae at h;by_cases q:i<Z.length;rw[ZM q]at h;obtain rfl:=Z7 h;exact f8 n;rw[ZH q]at h;trivial
def zW:∀ds q O,aak ds q=U O->bh q->bh O:=λds q O h n=>by
 cases ds with
 |nil=>simp only[aak]at h;obtain rfl:=Z7 h;exact n
 |cons d ds=>simp only[aak]at h;trivial
def oQ(h1:∀d q O,τ d q=U O->bh q->bh O)(h2:∀ds q O,υ ds q=U O->bh q->bh O):∀ds q O,ao τ υ ds q=U O->bh q->bh O:=λds q O h n=>by
 cases ds with
 |nil=>trivial
 |cons d ds=>
  obtain⟨Z,e1,e2⟩:=am h;exact h2 _ _ _ e2 (h1 _ _ _ e1 n)
def Bh(Z:∀ds q O,υ ds q=U O->bh q->bh O):∀d q O,bd υ d q=U O->bh q->bh O:=λd q O h n=>by
 cases d with
 |tup ds=>exact Z ds q O h n
 |_=>simp only[bd]at h;trivial
def fF(i:Nat):abl (ae i):=abl.mk (own:=jo i)<|λd d' Z O h=>by
 unfold ae at h⊢;by_cases q:i<Z.length;rw[ZM q]at h;obtain rfl:=Z7 h;simp;rw[ZH q]at h;trivial
def sK(i j:Nat)(OT:i≠j):abl (bd (ao (ae i) (ao (ae j) aak))):=abl.mk (own:=Bh (oQ (jo i) (oQ (jo j) zW)))<|λd d' q B_ h=>by
 cases d with
 |tup ds=>
  cases ds with
  |nil=>trivial
  |cons a ds=>
   cases ds with
   |nil=>obtain⟨_,_,h⟩:=am h;trivial
   |cons b ds=>
    cases ds with
    |cons c ds=>obtain⟨_,_,h⟩:=am h;obtain⟨_,_,h⟩:=am h;trivial
    |nil=>
     obtain⟨C_,h1,h⟩:=am h;obtain⟨Qv,h2,h⟩:=am h;obtain rfl:=Z7 h;unfold ae at h1;by_cases O:i<q.length;rw[ZM O]at h1;obtain rfl:=Z7 h1;unfold ae at h2;by_cases Z:j<(q.set i (U (a,Y))).length;rw[ZM Z]at h2;obtain rfl:=Z7 h2;rw[Y6]at Z;cases d' with
     |tup es=>
      cases es with
      |nil=>rfl
      |cons a' es=>
       cases es with
       |nil=>
        simp only[bd,ao,ae,Y6];rw[ZM O,ZM O];rfl
       |cons b' es=>
        have e3:(((List.set q i (U (a,Y))).set j (U (b,Y))).set i (U (a',Y))).set j (U (b',Y))=(List.set q i (U (a',Y))).set j (U (b',Y)):=by
         rw[List.set_comm _ _ OT.symm,List.set_set,List.set_set]
        simp only[bd,ao,ae,Y6];rw[ZM O,ZM O];simp only[af,ao,ae,Y6];rw[ZM Z,ZM Z,e3]
     |_=>rfl
     rw[ZH Z]at h2;trivial;rw[ZH O]at h1;trivial
 |_=>simp only[bd]at h;trivial
def ItD(K:Z4)(B:ZP->Prop)(H1:Hp)(J:It)(ds:Z9 D):Prop:=∀Z,Ext B H1 Z->J.stop ds.length Z/\∀(i:Nat) d,ds[i]?=U d->J.go i Z/\∀x O,J.yld i Z x O->aab Z O/\Rep K B O d x
noncomputable def tI(K:Z4)(m:Bool)(f:iv->Z8 (Z9 D)):TI:=λσ H R=>∃B Hk q ds,Rel K B Hk q σ H/\f q=U ds/\∀J O,aab H O->ItD K (bq m B q σ) O J ds->R J O
abbrev DI(X:Cx)(m:Bool)(tg O:Expr)(f:iv->Z8 (Z9 D)):Prop:=PI X tg O (tI X.K m f)
noncomputable def b9(x:Z8 D):Z8 (Z9 D):=match x with|some (.lst ds)=>U ds|_=>M
noncomputable def pV(x:Z8 D):Z8 (Z9 D):=match x with|some (.tup ds)=>U ds|_=>M
def lO(h:b9 x=U ds):x=U (.lst ds):=by
 unfold b9 at h;split at h;lia;trivial
def kP(h:pV x=U ds):x=U (.tup ds):=by
 unfold pV at h;split at h;lia;trivial
noncomputable def iA(lo:Int)(n:Nat):Z9 D:=(List.range n).map λ(i:Nat)=>.int (lo+(i:Int))
section
variable{X:Cx}{m:Bool}{a tg:Expr}{fa:iv->Z8 D}
theorem mn(h:DE X m a fa):DI X m tg a (λq=>b9 (fa q)):=
 (tV h).imp λσ H Q hz=>by
  obtain⟨B,Hk,q,ds,R,e,k⟩:=hz;refine⟨B,Hk,q,_,R,lO e,λv H' s r=>?_⟩;obtain⟨l,xs,rfl,hq,rs⟩:=r;refine⟨l,rfl,⟨xs,hq.sq⟩,k _ H' s λH2 x=>?_⟩;have O:=hq.ext x;have Z:=rs.ext x;refine⟨⟨xs,O.sq,by rw[rs.length];exact ZU _⟩,λi d hd=>?_⟩;obtain⟨y,hy,ry⟩:=Z.get hd;refine⟨⟨xs,y,O.sq,hy⟩,λz H3 ⟨e3,hz⟩=>⟨by rw[e3];exact aab.refl _,?_⟩⟩;rw[e3];have:=hz xs O.sq;lia
theorem EF(h:DE X m a fa):DI X m tg a (λq=>pV (fa q)):=
 (D6 h).imp λσ H Q hz=>by
  obtain⟨B,Hk,q,ds,R,e,k⟩:=hz;refine⟨B,Hk,q,_,R,kP e,λv H' s r=>?_⟩;obtain⟨l,xs,rfl,hq,rs⟩:=r;refine⟨l,rfl,⟨xs,SqT.of hq⟩,k _ H' s λH2 x=>?_⟩;have O:SqT X.K H2 l xs:=SqT.of (x.aaY _ _ hq);have Z:=rs.ext x;refine⟨⟨xs,O,by rw[rs.length];exact ZU _⟩,λi d hd=>?_⟩;obtain⟨y,hy,ry⟩:=Z.get hd;refine⟨⟨xs,y,O,hy⟩,λz H3 ⟨e3,hz⟩=>⟨by rw[e3];exact aab.refl _,?_⟩⟩
  simp_all
def AO{K:Z4}{B:ZP->Prop}{H1:Hp}(lo:Int)(n:Nat):ItD K B H1 (Itr lo n) (iA lo n):=λH' x=>by
 refine⟨by show n<=(iA lo n).length;unfold iA;simp,λi d hd=>?_⟩;unfold iA at hd;rw[Zg]at hd;cases q:(List.range n)[i]? with
 |none=>simp_all
 |some j=>
  rw[q]at hd;obtain⟨hi,ej⟩:=ZO.mp q;rw[List.getElem_range]at ej;subst ej;rw[Xs]at hi;simp only[Option.map_some,ZG]at hd;subst hd;refine⟨hi,λz H3 ⟨e3,hz⟩=>⟨by rw[e3];exact aab.refl _,?_⟩⟩
  assumption
noncomputable def rB(x:Z8 D):Z8 (Z9 D):=match x with|some (.int j)=>if(decide (-(2 ^ 62)<=j/\j<2 ^ 62))=L then U (iA 0 j.toNat) else M|_=>M
theorem A7(g:Gl X "range")(hm:X.mg "range"=M)(h:DE X m a fa)(O:starEach [a] X.env=[(Y,eval a X.env)]:=by rfl):DI X mm tg (.Call (.Name "range" p) [a] [] pos) (λδ=>rB (fa δ)):=
 (v0 g hm (au h aM O) O).imp λσ H Q hz=>by
  obtain⟨B,Hk,δ,ds,R,e,k⟩:=hz;unfold rB at e;dsimp only at e;split at e;rename_i j q;by_cases c:(decide (-(2 ^ 62)<=j/\j<2 ^ 62))=L;rw[ZM c]at e;obtain rfl:=Z7 e;have Z:=Zy c;refine ou R q λv H' s R' r=>?_;subst r;exact⟨j,rfl,Z.1,Z.2,k _ H' s (AO 0 _)⟩;rw[ZH c]at e;trivial;trivial
end
noncomputable def aA(body:D->iv->Z8 Out):Z9 D->iv->Z8 Out
 |[],q=>U (.next q)
 |d::ds,q=>match body d q with
  |some (.next B_)=>aA body ds B_
  |some (.cont B_)=>aA body ds B_
  |some (.brk B_)=>U (.next B_)
  |some (.ret e fr)=>U (.ret e fr)
  |none=>M
section
variable{X:Cx}
theorem Dq(hp:PassesOwn (model X.prog X.w) X.A X.env X.xe)(hc:X.calm=L)(hi:DI X Y tg iter fi)(hg:DG X tg τ)(hb:DSs X body gb)(hs:∀x,foldedSetIterable iter X.env x=pure x:=by intro _;rfl):
  DS X (.For tg iter body [] pos) (λδ=>af (fi δ) λds=>aA (λd δ=>af (τ d δ) gb) ds δ):=
 (yA hp hc hi hg hb hs).imp λDn σ H hz=>by
  obtain⟨B,Hk,δ,o,R,e,k⟩:=hz;obtain⟨ds,e1,e2⟩:=am e;refine⟨B,Hk,δ,ds,R,e1,λJ H1 s1 it=>?_⟩;have LP:ItD X.K B H1 J ds:=it;refine⟨λi n i_ H'=>n=ds.length - i/\i<=ds.length/\Ext B H1 H'/\∃O,Rel X.K B Hk O i_ H'/\aA (λd δ=>af (τ d δ) gb) (ds.drop i) O=U o,
   ⟨ds.length,by simp,Zm _,Ext.refl,δ,R.to s1,e2⟩,?_⟩
  intro i n i_ H' hz;obtain⟨rfl,hi,x,O,R',Z⟩:=hz;obtain⟨n_,OU⟩:=LP H' x;by_cases d_:i<ds.length
  .obtain⟨go,yl⟩:=OU i ds[i] (by simp[d_])
   refine .inr ⟨go,λLK H2=>Ext B H1 H2/\∃Qv,Rel X.K B Hk Qv LK H2/\aA (λd δ=>af (τ d δ) gb) (ds.drop (i+1)) Qv=U o,λLK H2 z=>⟨_,by lia,rfl,d_,z⟩,λv H2 hy=>?_⟩;obtain⟨sy,rv⟩:=yl v H2 hy;replace x:=x.trans (R'.ext sy);replace R':=R'.to sy;rw[Zo d_]at Z;simp only[aA]at Z;cases q:af (τ ds[i] O) gb with
   |none=>rw[q]at Z;trivial
   |some o1=>
    rw[q]at Z;obtain⟨C_,q1,q2⟩:=am q;refine⟨B,Hk,O,ds[i],C_,R',rv,q1,λM8 R3=>⟨B,Hk,C_,o1,R3,q2,?_⟩⟩;have kx:=k.ext (R.ext s1);cases o1 with
    |next Mn=>exact λM7 H4 x4 R4=>⟨x.trans x4,Mn,R4,Z⟩
    |cont Mn=>exact λM7 H4 x4 R4=>⟨x.trans x4,Mn,R4,Z⟩
    |brk Mn=>obtain rfl:=Z7 Z;exact λM7 H4 x4 R4=>kx M7 H4 (x.trans x4) R4
    |ret d fr=>obtain rfl:=Z7 Z;exact λv4 H4 x4 R4=>kx v4 H4 (x.trans x4) R4
  have t_:i=ds.length:=by lia
  subst t_;rw[WW]at Z;obtain rfl:=Z7 Z;exact .inl ⟨n_,k i_ H' ((R.ext s1).trans x) R'⟩
end
noncomputable def aU(h:D->Z8 (Z8 D)):Z9 D->Z8 (Z9 D)
 |[]=>U []
 |d::ds=>match h d with
  |none=>M
  |some none=>aU h ds
  |some (some y)=>match aU h ds with
   |some l=>U (y::l)
   |none=>M
noncomputable def az(bo:Bool)(bs:Z9 Bool)(q:iv):iv:=List.zipWith (λ(b:Bool) (o:Z8 (D×Bool))=>if b=L then(match o with|some (d,ow)=>if(ow&&!bo)=L then M else U (d,Y)|none=>M) else M) bs q
def cN(h:(az bo bs O)[i]?=U (U (d,ow))):bs[i]?=U L/\ow=Y/\rd bo i O=U d:=by
 unfold az at h;rw[WB]at h;cases e1:bs[i]? with
 |none=>rw[e1]at h;simp at h
 |some b=>
  cases e2:O[i]? with
  |none=>rw[e1,e2]at h;simp at h
  |some o=>
   rw[e1,e2]at h;simp only[ZG]at h;cases b with
   |false=>simp at h
   |true=>
    rw[ZM rfl]at h;cases o with
    |none=>trivial
    |some q=>
     obtain⟨d',Vk⟩:=q;simp only at h;by_cases c:(Vk&&!bo)=L;rw[ZM c]at h;trivial;rw[ZH c]at h;cases h;exact⟨rfl,rfl,by unfold rd;rw[e2];simp only[ZH c]⟩
def lH{K:Z4}{B:ZP->Prop}{Hk H:Hp}{q:iv}{σ:St}{bo:Bool}{bs:Z9 Bool}(R:Rel K B Hk q σ H)(O:bs.length=σ.length):Rel K (bq bo B q σ) H (az bo bs q) (mask bs σ) H:=by
 refine⟨aab.refl H,R.bsH bo,?_,λi d h=>?_,λi d h=>?_,λi j d e a Z h=>?_⟩;unfold az;rw[List.length_zipWith,dx O,R.len,O,Nat.min_self];obtain⟨h1,_,h3⟩:=cN h;obtain⟨v,h4,h5⟩:=R.rd h3;refine⟨v,?_,h5⟩;unfold mask;rw[WB,h1,h4];simp;obtain⟨_,h2,_⟩:=cN h;trivial;obtain⟨_,h2,_⟩:=cN h;trivial
noncomputable def aq(x:Z8 (Z9 D)):Z8 D:=match x with|some ds=>U (.lst ds)|none=>M
section
variable{X:Cx}{ifs:Z9 Expr}{bo:Bool}{fi:iv->Z8 (Z9 D)}{τ:D->iv->Z8 iv}{ft:iv->Z8 Bool}{fe:iv->Z8 D}{bs:Z9 Bool}
abbrev DTs(X:Cx)(ifs:Z9 Expr)(f:iv->Z8 Bool):Prop:=PTs X ifs (tMT X.K f)
theorem mM{X:Cx}:DTs X [] (λ_=>U L):=λpins s σ H Q I hz=>by obtain⟨B,Hk,q,d,R,e,k⟩:=hz;obtain rfl:=Z7 e;exact BE pins s σ H Q I (k H (aab.refl H))
theorem uc{X:Cx}{c:Expr}{f:iv->Z8 Bool}(h:DT X c f):DTs X [c] f:=Ab h
noncomputable def aB(τ:D->iv->Z8 iv)(ft:iv->Z8 Bool)(fe:iv->Z8 D)(q:iv)(d:D):Z8 (Z8 D):=af (τ d q) λO=>match ft O with|some true=>(match fe O with|some y=>U (U y)|none=>M)|some false=>U M|none=>M
noncomputable def bF(bo:Bool)(bs:Z9 Bool)(τ:D->iv->Z8 iv)(ft:iv->Z8 Bool)(fe:iv->Z8 D)(q:iv)(ds:Z9 D):Z8 (Z9 D):=if ds.length<=lim then aU (aB τ ft fe (az bo bs q)) ds else M
set_option tactic.hygienic true in
def yg{K:Z4}{σ:St}{H:Hp}{Q:VK}{te:TE}{J:Hp->Hp->D->V->Prop}{Js:Hp->ZP->Hp->Z9 D->Z9 V->Prop}(Lj:abl τ)(hl:bs.length=σ.length){B:ZP->Prop}{Hk:Hp}{δ:iv}{ds ls:Z9 D}(R:Rel K B Hk δ σ H)(e1:fi δ=U ds)(e2:bF bo bs τ ft fe δ ds=U ls)
  (VJ:∀Z C_ M8 H3 y,Rel K (bq bo B δ σ) Z C_ M8 H3->fe C_=U y->∀Q:VK,(∀v H4,aab H3 H4->J H3 H4 y v->Q v H4)->te M8 H3 Q) (h0:∀Z O H',Js Z O H' [] [])
  (h1:∀{Z O H' H2 l ys},Js Z O H' l ys->aab H' H2->Ext (bq bo B δ σ) H' H2->Js Z O H2 l ys)
  (h2:∀{Z O H3 H4 l ys y v},aab Z H3->H3 O=U (.lst ys)->Js Z O H4 l ys->J H3 H4 y v->Ext (bq bo B δ σ) H4 (upd H4 O (.lst (ys++[v])))->Js Z O (upd H4 O (.lst (ys++[v]))) (l++[y]) (ys++[v]))
  (k:∀Z a H',aab H Z->aab Z H'->Z a=M->(∃xs,H' a=U (.lst xs)/\Js Z a H' ls xs)->Q (.ref a) H'):ul (tI K bo fi) bs (tG K τ) (tMT K ft) te σ H Q:=by
 unfold bF at e2;by_cases D_:ds.length<=lim;rw[ZM D_]at e2;refine⟨B,Hk,δ,ds,R,e1,λJ Z s1 it O KA=>?_⟩;have R1:=R.to s1;have nb:¬bq bo B δ σ O:=λz=>by obtain⟨o,q⟩:=R1.bsH bo O z;lia
 have R2:Rel K (bq bo B δ σ) Z (az bo bs δ) (mask bs σ) (upd Z O (.lst [])):=(lH (bo:=bo) (bs:=bs) R1 hl).to (ar KA);have QU:bh (az bo bs δ):=λj d h=>by obtain⟨_,h2,_⟩:=cN h;trivial
 have x0:Ext (bq bo B δ σ) Z (upd Z O (.lst [])):=(ar KA).ext (R1.bsH bo);refine⟨λi n ys i_ H'=>n=ds.length - i/\i<=ds.length/\ys.length<=i/\H' O=U (.lst ys)/\Ext (bq bo B δ σ) Z H'/\∃B_ l1 l2,Rel K (bq bo B δ σ) Z B_ i_ H'/\(∀d,τ d B_=τ d (az bo bs δ))/\bh B_/\ls=l1++l2/\Js Z O H' l1 ys/\aU (aB τ ft fe (az bo bs δ)) (ds.drop i)=U l2,
  ⟨ds.length,by simp,Zm _,ZU _,ah,x0,az bo bs δ,[],ls,R2,λ_=>rfl,QU,rfl,h0 ..,e2⟩,?_⟩
 intro i n ys i_ H' hz;obtain⟨rfl,hi,Q3,ha,x,B_,l1,l2,R',r_,Vm,Nj,rs,ec⟩:=hz;refine⟨ha,?_⟩;obtain⟨n_,OU⟩:=it H' x;by_cases d_:i<ds.length;obtain⟨go,yl⟩:=OU i ds[i] (by simp[d_]);refine .inr ⟨go,λv H2 hy=>?_⟩;obtain⟨sy,rv⟩:=yl v H2 hy;have xy:=R'.ext sy;replace ha:=sy O _ ha;replace rs:=h1 rs sy xy;replace x:=x.trans xy;replace R':=R'.to sy;rw[Zo d_]at ec;simp only[aU]at ec;cases q:aB τ ft fe (az bo bs δ) ds[i]with
 |none=>rw[q]at ec;trivial
 |some oy=>
  rw[q]at ec;obtain⟨C_,q1,q2⟩:=am q;have QM:τ ds[i] B_=U C_:=by rw[r_];exact q1
  have Lw:∀d,τ d C_=τ d (az bo bs δ):=λd=>by rw[Lj.new _ d _ _ QM,r_ d]
  have QS:bh C_:=Lj.own _ _ _ QM Vm;refine⟨_,Z,B_,ds[i],C_,R',rv,QM,λM8 R3=>?_⟩;split at q2;rename_i qt;refine⟨_,Z,C_,L,R3,qt,λH3 s3=>zt ?_⟩;split at q2;rename_i y qe;obtain rfl:=Z7 q2;cases qc:aU (aB τ ft fe (az bo bs δ)) (ds.drop (i+1))with
  |none=>rw[qc]at ec;trivial
  |some l3=>
   rw[qc]at ec;obtain rfl:=Z7 ec;refine VJ Z C_ M8 H3 y (R3.to s3) qe _ λv4 H4 s4 r4=>?_;have P4:=s3.trans s4;have T6:H4 O=U (.lst ys):=P4 O _ ha;have x4:Ext (bq bo B δ σ) H2 H4:=R3.ext P4;have x5:Ext (bq bo B δ σ) H4 (upd H4 O (.lst (ys++[v4]))):=cb T6 trivial nb;have R5:Rel K (bq bo B δ σ) Z C_ M8 (upd H4 O (.lst (ys++[v4]))):=by
    have R4:=R3.to P4;refine⟨R4.same.put KA,R4.bor,R4.len,λj d h=>?_,λj d h=>(QS j d h).elim,R4.dis⟩;obtain⟨v,h1,h2⟩:=R4.var j d h;exact⟨v,h1,h2.ext x5⟩
   exact⟨T6,by have:=aF D_;lia,ds.length - (i+1),by lia,rfl,d_,by rw[YX,List.length_singleton];lia,ah,x.trans (x4.trans x5),C_,l1++[y],l3,R5,Lw,QS,by simp;lia,h2 (R3.to s3).same (s3 O _ ha) (h1 rs P4 x4) r4 x5,qc⟩
  trivial;rename_i qt;obtain rfl:=Z7 q2;refine⟨_,Z,C_,Y,R3,qt,λH3 s3=>yC ?_⟩;exact⟨ds.length - (i+1),by lia,rfl,d_,by lia,s3 O _ ha,x.trans (R3.ext s3),C_,l1,l2,R3.to s3,Lw,QS,Nj,h1 rs s3 (R3.ext s3),ec⟩;trivial
 have t_:i=ds.length:=by lia
 subst t_;rw[WW]at ec;obtain rfl:=Z7 ec;rw[Yx]at Nj;subst Nj;exact .inl ⟨n_,k Z O H' s1 R'.same KA ⟨ys,ha,rs⟩⟩;rw[ZH D_]at e2;trivial
def kI{K:Z4}{σ:St}{H:Hp}{Q:VK}(Lj:abl τ)(hl:bs.length=σ.length){B:ZP->Prop}{Hk:Hp}{q:iv}{ds ls:Z9 D}(R:Rel K B Hk q σ H)(e1:fi q=U ds)(e2:bF bo bs τ ft fe q ds=U ls)
  (k:∀a O,aab H O->H a=M->(∃xs,O a=U (.lst xs)/\M1 K (bq bo B q σ) O ls xs)->Q (.ref a) O):ul (tI K bo fi) bs (tG K τ) (tMT K ft) (tM K Y fe) σ H Q:=
 yg (J:=λ_ H y v=>Rep K (bq bo B q σ) H y v) (Js:=λ_ _ H l ys=>M1 K (bq bo B q σ) H l ys) Lj hl R e1 e2 (λH1 Z M8 H3 y R3 qe Q kk=>⟨_,H1,Z,y,R3,qe,kk⟩) (λ_ _ _=>M1.nil) (λr _ x=>r.ext x) (λ_ _ r r4 x=>(r.ext x).append (M1.cons (r4.ext x) M1.nil)) λH1 a O s1 s2 n ob=>k a O (s1.trans s2) (s1.free n) ob
end
section
variable{X:Cx}{elt tg iter:Expr}{ifs:Z9 Expr}{scope:Scope}{pos:Pos}{fi:iv->Z8 (Z9 D)}{τ:D->iv->Z8 iv}{ft:iv->Z8 Bool}{fe:iv->Z8 D}{bs:Z9 Bool}
def vA(hc:X.calm=L)(Lj:abl τ)(hi:DI X bo tg iter fi)(S:aag X scope bs)(hg:∀cl C O Z ex pn,DG (aH X scope cl C O Z ex pn) tg τ)(ht:∀cl C O Z ex pn,DTs (aH X scope cl C O Z ex pn) ifs ft)(he:∀cl C O Z ex pn,DE (aH X scope cl C O Z ex pn) Y elt fe)(hs:∀x,foldedSetIterable iter X.env x=pure x):PE X (.ListComp elt [⟨tg,iter,ifs,0⟩] scope pos) (λσ H Q=>∃B Hk q ds ls,Rel X.K B Hk q σ H/\fi q=U ds/\bF bo bs τ ft fe q ds=U ls/\
   ∀a H',aab H H'->H a=M->(∃xs,H' a=U (.lst xs)/\M1 X.K (bq bo B q σ) H' ls xs)->Q (.ref a) H'):=by
 intro pins s σ H Q I ⟨B,Hk,q,ds,ls,R,e1,e2,k⟩;exact Bo hc hi S hg ht he hs pins s σ H Q I (kI Lj (by rw[S.len,I.len]) R e1 e2 k)
theorem tP(hc:X.calm=L)(Lj:abl τ)(hi:DI X Y tg iter fi)(S:aag X scope bs)
  (hg:∀cl C O Z ex pn,DG (aH X scope cl C O Z ex pn) tg τ) (ht:∀cl C O Z ex pn,DTs (aH X scope cl C O Z ex pn) ifs ft) (he:∀cl C O Z ex pn,DE (aH X scope cl C O Z ex pn) Y elt fe)
  (hs:∀x,foldedSetIterable iter X.env x=pure x:=by intro _;rfl):DF X (.ListComp elt [⟨tg,iter,ifs,0⟩] scope pos) (λδ=>aq (af (fi δ) (bF Y bs τ ft fe δ))):=
 (vA hc Lj hi S hg ht he hs).imp λσ H Q hz=>by
  obtain⟨B,Hk,δ,d,R,e,k⟩:=hz;cases q:af (fi δ) (bF Y bs τ ft fe δ)with
  |none=>simp_all [q,aq]
  |some ls=>
   simp only[q,aq]at e;obtain rfl:=Z7 e;obtain⟨ds,e1,e2⟩:=am q;exact⟨B,Hk,δ,ds,ls,R,e1,e2,λa H' s n ob=>k a H' s n ob⟩
noncomputable def fV(x:Z8 (Z9 D)):Z8 (Z9 D):=match x with|some ds=>if D.aay ds=L then U ds else M|none=>M
def mX(h:fV x=U ds):x=U ds/\D.aay ds=L:=by
 unfold fV at h;cases x with
 |none=>trivial
 |some e=>
  lia
theorem o6(hc:X.calm=L)(Lj:abl τ)(hi:DI X L tg iter fi)(S:aag X scope bs)
  (hg:∀cl C O Z ex pn,DG (aH X scope cl C O Z ex pn) tg τ) (ht:∀cl C O Z ex pn,DTs (aH X scope cl C O Z ex pn) ifs ft) (he:∀cl C O Z ex pn,DE (aH X scope cl C O Z ex pn) Y elt fe)
  (hs:∀x,foldedSetIterable iter X.env x=pure x:=by intro _;rfl):DF X (.ListComp elt [⟨tg,iter,ifs,0⟩] scope pos) (λδ=>aq (fV (af (fi δ) (bF L bs τ ft fe δ)))):=
 (vA hc Lj hi S hg ht he hs).imp λσ H Q hz=>by
  obtain⟨B,Hk,δ,d,R,e,k⟩:=hz;cases q:fV (af (fi δ) (bF L bs τ ft fe δ))with
  |none=>simp_all [q,aq]
  |some ls=>
   simp only[q,aq]at e;obtain rfl:=Z7 e;obtain⟨q1,q2⟩:=mX q;obtain⟨ds,e1,e2⟩:=am q1;exact⟨B,Hk,δ,ds,ls,R,e1,e2,λa H' s n hz=>by obtain⟨xs,h1,h2⟩:=hz;exact k a H' s n ⟨xs,h1,M1.flat q2 h2⟩⟩
def zS(hN:X.N.Nodup)(hc:X.calm=L)(Lj:abl τ)(hi:DI X Y tg iter fi)(S:aag X scope bs)(hg:∀cl C O Z ex pn,DG (aH X scope cl C O Z ex pn) tg τ)(ht:∀cl C O Z ex pn,DTs (aH X scope cl C O Z ex pn) ifs ft)(he:∀cl C O Z ex pn,DE (aH X scope cl C O Z ex pn) Y elt fe)(Rk:X.N[i]?=U y:=by rfl)(hy:X.env.scope.names.lookup y=U .local:=by rfl)(Nf:swapsWith (.ListComp elt [⟨tg,iter,ifs,0⟩] scope pos) (U (.Name y py)) K7.line X.env=pure L:=by rfl)(hs:∀x,foldedSetIterable iter X.env x=pure x:=by intro _;rfl):DS X (.Assign [.Name y py] (.ListComp elt [⟨tg,iter,ifs,0⟩] scope pos) K7) (λδ=>dT i (aq (af (fi δ) (bF Y bs τ ft fe δ))) δ):=by
 intro pins s σ H Dn I ⟨B,Hk,δ,o,R,e,k⟩;obtain⟨d,ed,d_,rfl⟩:=lK e;cases q:af (fi δ) (bF Y bs τ ft fe δ)with
 |none=>simp_all [q,aq]
 |some ls=>
  simp only[q,aq]at ed;obtain rfl:=Z7 ed;obtain⟨ds,e1,e2⟩:=am q;refine uk hc hi S hg ht he hN Rk hy Nf hs pins s σ H Dn I (kI (Q:=λx H1=>gW i x σ H1 Dn.nx) Lj (by rw[S.len,I.len]) R e1 e2 λa H' s n ob=>?_);refine k _ H' (R.ext s) ((R.to s).abI (by simp_all [R.len]) (R.same.free n) ob λj e hj h1 h2=>?_);obtain⟨b,h3,_,OD⟩:=R.own j e h1;rw[h2]at h3;obtain⟨o,e'⟩:=OD.there;lia
end
noncomputable def dO(n:Nat)(ds:Z9 D):iv:=ds.map (λd=>U (d,Y))++List.replicate (n - ds.length) M
noncomputable def pZ(x:Z8 Out):Z8 (D×Bool):=match x with|some (.ret d fr)=>U (d,fr)|some (.next _)=>U (.non,Y)|_=>M
noncomputable def bG(n O:Nat)(g:iv->Z8 Out)(ds:Z9 D):Z8 (D×Bool):=if ds.length=O then pZ (g (dO n ds)) else M
def kX{K:Z4}{B:ZP->Prop}{H:Hp}{N:Z9 Str}{ds:Z9 D}{vs:Z9 V}(hb:∀a,B a->∃o:HOn,H a=U o.1)(r:M1 K B H ds vs)(hl:ds.length<=N.length):Rel K B H (dO N.length ds) (dm N vs) H:=by
 have el:=r.length;have key:∀(i:Nat) d Z,(dO N.length ds)[i]?=U (U (d,Z))->Z=Y/\ds[i]?=U d:=λi d Z h=>by
  unfold dO at h;by_cases O:i<ds.length;rw[Yv (by simpa using O),Zg]at h;cases q:ds[i]? with
  |none=>simp_all
  |some e=>simp_all
  .rw[Xc (by simpa using O),List.getElem?_replicate]at h
   split at h<;>cases h
 refine⟨aab.refl H,hb,?_,λi d h=>?_,λi d h=>?_,λi j d e a _ h=>?_⟩;unfold dO dm;simp;lia;obtain⟨_,h2⟩:=key i d _ h;obtain⟨v,h3,h4⟩:=r.get h2;refine⟨v,?_,h4⟩;have O:i<vs.length:=(ZO.mp h3).1;unfold dm;rw[Yv (by simpa using O),Zg,h3];rfl;have:=(key i d _ h).1;trivial;have:=(key i d _ h).1;trivial
section
variable{P:Za}{w:Y1}{K:Z4}{mg:Str->Z8 Z3}{base:Heap}
def zg{N ps:Z9 Str}{Dn:Ends}(hn:ps.length<=N.length)(h:spM K (bG N.length ps.length g) vs H Q E)(h1:∀v H,Q v H->Dn.rt v H)(h2:∀σ H,Q .non H->Dn.nx σ H):vs.length=ps.length/\tD K g Dn (dm N vs) H:=by
 obtain⟨B,ds,r,fr,hB,Z,O,kk⟩:=h;unfold bG at O;by_cases q:ds.length=ps.length
 .rw[ZM q]at O
  refine⟨by rw[<-Z.length,q],B,H,dO N.length ds,?_⟩;cases qo:g (dO N.length ds)with
  |none=>rw[qo]at O;trivial
  |some o=>
   rw[qo]at O;refine⟨o,kX hB Z (by lia),rfl,?_⟩;cases o with
   |ret d fr'=>
    obtain⟨rfl,rfl⟩:=O;exact λv H' x s rr=>h1 _ _ (kk v H' s rr)
   |next δ=>
    obtain⟨rfl,rfl⟩:=O;exact λi_ H' x R'=>h2 _ _ (kk .non H' R'.same (by rfl))
   |brk δ=>trivial
   |cont δ=>trivial
 lia
def D00:Ends:=⟨λ_ _=>True,λ_ _=>True,λ_ _=>True,λ_ _=>True⟩
def yW{x O:Str}{st:Stmt}{f:ZP}{fd:FuncData}{N ps:Z9 Str}{k:Nat}{g:iv->Z8 Out}(F:Fun K x O st f fd)(S:aaC N ps (defScope st))(hb:Binds K fd ps [])(hm:mg x=U (.ref f))(Z:ps.length<=N.length)
  (body:∀(A:Zj)(outer:Z9 Env)(s:ZV)(H:Hp)(E:XK),aaq k (A.deeper (envOfC O (defScope st) s.z f fd.code))->DSs (qY CX0 P w K mg base N O (defScope st) f fd.code A outer s H E).nox (defBody st) g):
  abk P w K mg base CX0 (k+1) f fd ps (spM K (bG N.length ps.length g))/\FnM P w K mg base (k+1) x (bG N.length ps.length g):=
 have key:=F.ok S (λvs H Q E h=>(zg (Dn:=D00) Z h (λ_ _ _=>trivial) λ_ _ _=>trivial).1) λA outer s H vs Q E hr h=>⟨_,body A outer s H E hr,(zg Z h (λ_ _ h=>h) λ_ _ h=>h).2⟩
 ⟨key,⟨f,fd,ps,key,hm,F.kp,hb⟩⟩
end
noncomputable def fx{O:Type}:Z9 O->Z9 Bool->Z9 O
 |x::xs,b::bs=>if b=L then x::fx xs bs else fx xs bs
 |_,_=>[]
theorem wY{O:Type}(bs:Z9 Bool):fx ([]:Z9 O) bs=[]:=by rfl
def Bq{O:Type}{xs:Z9 O}{bs:Z9 Bool}{i:Nat}(h:i<xs.length)(hb:bs[i]?=U b):fx (xs.drop i) (bs.drop i)=if b=L then xs[i]::fx (xs.drop (i+1)) (bs.drop (i+1)) else fx (xs.drop (i+1)) (bs.drop (i+1)):=by
 obtain⟨Z,e⟩:=ZO.mp hb;rw[Zo h,Zo Z,e];rw[fx]
theorem gm{K:Z4}{B:ZP->Prop}{H:Hp}:∀{ds:Z9 D}{xs:Z9 V}{bs:Z9 Bool},M1 K B H ds xs->M1 K B H (fx ds bs) (fx xs bs)
 |[],xs,bs,h=>by subst h;rfl
 |d::ds,xs,bs,h=>by
  obtain⟨x,r,rfl,h1,h2⟩:=h;cases bs with
  |nil=>rfl
  |cons b bs=>
   rw[fx,fx];cases b with
   |true=>exact M1.cons h1 (gm h2)
   |false=>exact gm h2
def sR{K:Z4}{σ:St}{H:Hp}{Q:VK}{r j:Nat}{bs bl:Z9 Bool}{ft:iv->Z8 Bool}{B:ZP->Prop}{Hk:Hp}{δ:iv}{ds:Z9 D}(hl:bs.length=σ.length)(R:Rel K B Hk δ σ H)(hr:δ[r]?=U (U (.lst ds,L)))(hj:j<σ.length)
  (Oo:bl.length=ds.length) (D_:ds.length<=lim) (hft:∀(i:Nat) d b,ds[i]?=U d->bl[i]?=U b->ft ((az L bs δ).set j (U (d,Y)))=U b)
  (k:∀l xs a H',σ[r]?=U (U (.ref l))->H l=U (.lst xs)->M1 K B H ds xs->aab H H'->H a=M->H' a=U (.lst (fx xs bl))->Q (.ref a) H'):
  ul (DU K (t5 r)) bs (gW j) (tMT K ft) (t5 j) σ H Q:=by
 obtain⟨l,h1,h2,xs,h3,h4⟩:=R.own r _ hr;have hlen:=h4.length;refine⟨.ref l,h1,l,rfl,⟨xs,.inl (.inl h3)⟩,λacc Z=>?_⟩;have nb:¬bq L B δ σ acc:=λz=>by obtain⟨o,q⟩:=R.bsH L acc z;lia
 have R2:Rel K (bq L B δ σ) H (az L bs δ) (mask bs σ) (upd H acc (.lst [])):=(lH (bo:=L) (bs:=bs) R hl).to (ar Z);have QU:bh (az L bs δ):=λj d h=>by obtain⟨_,h2,_⟩:=cN h;lia
 refine⟨λi n ys i_ H'=>n=xs.length - i/\i<=xs.length/\ys.length<=i/\H' acc=U (.lst ys)/\aab H H'/\fx xs bl=ys++fx (xs.drop i) (bl.drop i)/\i_.length=σ.length/\∃O,Rel K (bq L B δ σ) H O i_ H'/\bh O/\O.set j M=(az L bs δ).set j M,
  ⟨xs.length,by simp,Zm _,ZU _,ah,ar Z,by simp,dx hl,az L bs δ,R2,QU,rfl⟩,?_⟩
 intro i n ys i_ H' hz;obtain⟨rfl,hi,Q3,ha,sm,hp,Oh,O,R',nw,hd⟩:=hz;refine⟨ha,?_⟩;have hq:SqL K H' l xs:=.inl (.inl (sm l _ h3));by_cases d_:i<xs.length;refine .inr ⟨⟨xs,xs[i],hq,by simp⟩,λx H2 ⟨e2,hx⟩=>?_⟩;subst e2;obtain rfl:xs[i]=x:=by have:=hx xs hq;simp_all
 obtain⟨d,Lw,rd⟩:=(h4.ext (sm.ext R.abo)).get' (i:=i) (x:=xs[i]) (by simp[d_]);have Vc:Rep K (bq L B δ σ) H2 d xs[i]:=rd.more λa h=>je L a h;have R3:=R'.set (i:=j) (by lia) Vc;have SD:∀y,O.set j y=(az L bs δ).set j y:=λy=>by
  have:=congrArg (λz=>z.set j y) hd;simpa only[List.set_set]using this
 obtain⟨b,hb⟩:∃b,bl[i]?=U b:=⟨bl[i]'(by lia),by simp⟩
 have QR:bh (O.set j (U (d,Y))):=λm e z=>by
  by_cases hm:m=j;subst hm;have OS:m<O.length:=by rw[R'.len];lia
  rw[Zh OS]at z;cases z;rw[ZN (ZF hm)]at z;exact nw m e z
 have Pu:(O.set j (U (d,Y))).set j M=(az L bs δ).set j M:=by rw[List.set_set];exact hd
 refine⟨_,H,_,b,R3,by rw[SD];exact hft i d b Lw hb,λH3 s3=>?_⟩;have Rw:=s3 acc _ ha;have pa:=Bq d_ hb;rw[pa]at hp;cases b with
 |false=>
  exact yC ⟨xs.length - (i+1),by lia,rfl,d_,by lia,Rw,sm.trans s3,hp,by rw[Y6];exact Oh,_,R3.to s3,QR,Pu⟩
 |true=>
  have R4:=R3.to s3;have x5:Ext (bq L B δ σ) H3 (upd H3 acc (.lst (ys++[xs[i]]))):=cb Rw trivial nb;have R5:Rel K (bq L B δ σ) H (O.set j (U (d,Y))) (i_.set j (U xs[i])) (upd H3 acc (.lst (ys++[xs[i]]))):=by
   refine⟨R4.same.put Z,R4.bor,R4.len,λm e h=>?_,λm e h=>(QR m e h).elim,R4.dis⟩;obtain⟨v,z1,z2⟩:=R4.var m e h;exact⟨v,z1,z2.ext x5⟩
  refine zt ⟨xs[i],Zh (by lia),Rw,by have:=aF D_;lia,xs.length - (i+1),by lia,rfl,d_,by rw[YX,List.length_singleton];lia,ah,(sm.trans s3).put Z,by rw[hp,Xr];rfl,by rw[Y6];exact Oh,_,R5,QR,Pu⟩
 have t_:i=xs.length:=by lia
 subst t_;rw[WW,wY,Yx]at hp;exact .inl ⟨⟨xs,hq,ZU _⟩,k l xs acc H' h1 h3 h4 sm Z (by rw[hp];exact ha)⟩
theorem uB:bootBuiltins "list"=U (.type "list"):=by rfl
theorem nM:bootBuiltins "tuple"=U (.type "tuple"):=by rfl
theorem jL:bootBuiltins "isinstance"=U (.builtin "isinstance"):=by rfl
theorem CW:bootBuiltins "set"=U (.type "set"):=by rfl
theorem cJ:bootBuiltins "sorted"=U (.builtin "sorted"):=by rfl
noncomputable def jr(x:Str)(lo hi:Z8 Int):Str:=if((Builtin.Str.strSliceIndices lo hi 1 x.length).length==x.length)=L then x else⟨((Builtin.Str.strSliceIndices lo hi 1 x.length).filterMap (x.cps[·]?)).toArray⟩
def fz(x:Str)(lo hi:Z8 Int):(jr x lo hi).length<=x.length:=by
 unfold jr;split;exact ZU _;exact ZL (List.length_filterMap_le _ _) (sliceIndices_le lo hi x.length)
section
def ug(h:IsPart v o):∃l:Z8 (Int×Tok),v=partValue l/\l.map (·.1)=o:=by
 cases h with
 |none=>exact⟨M,rfl,rfl⟩
 |int i t=>exact⟨U (i,t),rfl,rfl⟩
def Co:SlR X (λx lo hi H Q=>∃z,x=.str z/\z.length<=sizeLine/\Q (.str (jr z lo hi)) H):=by
 intro pins s σ H x v vl vu lo hi sl Q I Z hs pl pu h;obtain⟨z,rfl,hz,q⟩:=h;obtain⟨t,rfl⟩:=Z;obtain⟨l,rfl,rfl⟩:=ug pl;obtain⟨u,rfl,rfl⟩:=ug pu;refine⟨"str",_,F.slot_str_getitem.lookup,typeIs_str s z t,wpAny_getItem_str_slice (l:=l) (u:=u) (st:=M) hs rfl ?_⟩;have key:(sliceMade z t l u M)=if((Builtin.Str.strSliceIndices (l.map (·.1)) (u.map (·.1)) 1 z.length).length==z.length)=L then Made.val (.str z t) else Made.str ⟨((Builtin.Str.strSliceIndices (l.map (·.1)) (u.map (·.1)) 1 z.length).filterMap (z.cps[·]?)).toArray⟩:=by
  unfold sliceMade slicePicked;simp
 rw[key];refine post_val_or_made (λhc=>?_) λt' k=>⟨.str (jr z (l.map (·.1)) (u.map (·.1))),H,I.tok k,⟨t',rfl⟩,q⟩
 have O:=fz z (l.map (·.1)) (u.map (·.1));unfold jr at O;rw[ZH hc]at O;exact ZL O hz
end
def DO(X:Cx)(e:Z8 Expr)(f:iv->Z8 (Z8 Int)):Prop:=PO X e (λσ H Q=>∃B Hk q o,Rel X.K B Hk q σ H/\f q=U o/\∀O,aab H O->Q o O)
def PO.imp(h:PO X e t)(i:∀σ H Q,t' σ H Q->t σ H Q):PO X e t':=λpins s σ H Q I q=>h pins s σ H Q I (i σ H Q q)
noncomputable def dk(x:Z8 D):Z8 (Z8 Int):=match x with|some (.int i)=>U (U i)|_=>M
section
variable{X:Cx}{m:Bool}{a b:Expr}{fa:iv->Z8 D}{pos p:Pos}{lo hi:Z8 Expr}{fl fh:iv->Z8 (Z8 Int)}
theorem Bg:DO X M (λ_=>U M):=BF.imp λσ H Q hz=>by obtain⟨B,Hk,q,o,R,e,k⟩:=hz;obtain rfl:=Z7 e;exact k H (aab.refl H)
set_option tactic.hygienic true in
theorem zY(h:DE X m a fa):DO X (U a) (λZ=>dk (fa Z)):=(A0 h).imp λσ H Q hz=>by
 obtain⟨B,Hk,Z,o,R,e,k⟩:=hz;unfold dk at e;dsimp only at e;split at e;rename_i i q;obtain rfl:=Z7 e;refine⟨B,Hk,Z,_,R,q,λv O s r=>?_⟩;exact⟨i,r,k O s⟩;trivial
def EL{K:Z4}{σ:St}{H:Hp}{B:ZP->Prop}{Hk:Hp}{q:iv}{d:D}{l u:Z8 Int}{r:V->Z8 Int->Z8 Int->Hp->VK->Prop}{Q:VK}(R:Rel K B Hk q σ H)(e1:fa q=U d)(e2:fl q=U l)(e3:fh q=U u)
  (k:∀v O,aab H O->Rel K B Hk q σ O->Rep K (bq m B q σ) O d v->r v l u O Q):
  tSl r (tM K m fa) (λσ H Q=>∃B Hk q o,Rel K B Hk q σ H/\fl q=U o/\∀O,aab H O->Q o O) (λσ H Q=>∃B Hk q o,Rel K B Hk q σ H/\fh q=U o/\∀O,aab H O->Q o O) σ H Q:=
 ⟨B,Hk,q,d,R,e1,λv H1 s1 Z=>⟨B,Hk,q,l,R.to s1,e2,λH2 s2=>⟨B,Hk,q,u,R.to (s1.trans s2),e3,λH3 s3=>k v H3 (s1.trans (s2.trans s3)) (R.to (s1.trans (s2.trans s3))) (Z.same (R.to s1) (s2.trans s3))⟩⟩⟩
noncomputable def fo(x:Z8 D)(l u:Z8 (Z8 Int)):Z8 D:=match x,l,u with|some (.str z),some l,some u=>if z.length<=lim then U (.str (jr z l u)) else M|_,_,_=>M
set_option tactic.hygienic true in
theorem Ai(ha:DE X m a fa)(hl:DO X lo fl)(hh:DO X hi fh):DE X mm (.Subscript a (.Slice lo hi M p2) pos) (λq=>fo (fa q) (fl q) (fh q)):=
 (oZ Co ha hl hh).imp λσ H Q hz=>by
  obtain⟨B,Hk,q,d,R,e,k⟩:=hz;unfold fo at e;dsimp only at e;split at e;rename_i z l u q1 Z O;by_cases hz:z.length<=lim;rw[ZM hz]at e;obtain rfl:=Z7 e;refine EL R q1 Z O λv H' s R' r=>?_;exact⟨z,r,aF hz,k _ H' s (by rfl)⟩;rw[ZH hz]at e;trivial;trivial
noncomputable def v9(ds:Z9 D)(lo hi:Z8 Int):Z9 D:=(ds.drop (HT.sIx ds.length 0 lo)).take (HT.sIx ds.length ds.length hi - HT.sIx ds.length 0 lo)
def M1.cut{K:Z4}{B:ZP->Prop}{H:Hp}{ds:Z9 D}{xs:Z9 V}(r:M1 K B H ds xs)(lo hi:Z8 Int):M1 K B H (v9 ds lo hi) (AY xs lo hi):=by
 unfold v9 AY;rw[r.length];exact(r.drop _).take _
noncomputable def vO(x:Z8 D)(l u:Z8 (Z8 Int)):Z8 D:=match x,l,u with|some (.lst ds),some l,some u=>U (.lst (v9 ds l u))|_,_,_=>M
set_option tactic.hygienic true in
theorem AW(ha:DE X Y a fa)(hl:DO X lo fl)(hh:DO X hi fh):DF X (.Subscript a (.Slice lo hi M p2) pos) (λq=>vO (fa q) (fl q) (fh q)):=
 (oZ Af ha hl hh).imp λσ H Q hz=>by
  obtain⟨B,Hk,q,d,R,e,k⟩:=hz;unfold vO at e;dsimp only at e;split at e;rename_i ds l u q1 Z O;obtain rfl:=Z7 e;refine EL R q1 Z O λv H' s R' r=>?_;obtain⟨c,xs,rfl,hq,rs⟩:=r;refine⟨c,xs,rfl,hq.sq,λp hp=>?_⟩;have s2:=ar (o:=.lst (AY xs l u)) hp;exact k p _ (s.trans s2) (s.free hp) ⟨_,ah,(rs.cut l u).same (m:=Y) R' s2⟩;trivial
noncomputable def v8(x y:Z8 D):Z8 D:=match x,y with|some (.str i),some (.str j)=>if i.length+j.length<=lim then U (.str (i++j)) else M|_,_=>M
set_option tactic.hygienic true in
theorem AC(ha:DE X m a fa)(hb:DE X m' b fb):DE X mm (.BinOp a .Add b pos) (λq=>v8 (fa q) (fb q)):=
 (tJ rA ha hb).imp λσ H Q hz=>by
  obtain⟨B,Hk,q,d,R,e,k⟩:=hz;unfold v8 at e;dsimp only at e;split at e;rename_i i j q1 q2;by_cases hz:i.length+j.length<=lim;rw[ZM hz]at e;obtain rfl:=Z7 e;refine two R q1 q2 λv u H' s R' Z O=>?_;subst Z O;exact⟨i,j,rfl,rfl,aF hz,k _ H' s (by rfl)⟩;rw[ZH hz]at e;trivial;trivial
noncomputable def jD(x:Z8 D):Z8 D:=match x with|some d=>(match bx d with|some ds=>U (.lst ds)|none=>M)|none=>M
set_option tactic.hygienic true in
def zH{g:Z9 D->D}(h:(match x with|some d=>(match bx d with|some ds=>U (g ds)|none=>M)|none=>M)=U d):∃e es,x=U e/\bx e=U es/\d=g es:=by
 split at h;rename_i e;split at h
 .simp_all
 trivial;trivial
theorem sa(g:Gl X "list")(hm:X.mg "list"=M)(ha:DE X Y a fa)(O:starEach [a] X.env=[(Y,eval a X.env)]:=by rfl):DF X (.Call (.Name "list" p) [a] [] pos) (λq=>jD (fa q)):=
 (cM lC g hm uB (au ha aM O) (he:=O)).imp λσ H Q hz=>by
  obtain⟨B,Hk,q,d,R,e,k⟩:=hz;obtain⟨d1,es,e1,hi,rfl⟩:=zH (g:=D.lst) e;refine ou R e1 λv H' s R' r=>?_;obtain⟨p,xs,rfl,hq,rs⟩:=r.items hi;refine⟨p,xs,rfl,hq,λl Z=>?_⟩;have s2:=ar (o:=.lst xs) Z;exact k l _ (s.trans s2) (s.free Z) ⟨_,ah,rs.same (m:=Y) R' s2⟩
noncomputable def ce(x:Z8 D):Z8 D:=match x with|some d=>(match bx d with|some ds=>U (.tup ds)|none=>M)|none=>M
theorem wM(g:Gl X "tuple")(hm:X.mg "tuple"=M)(ha:DE X m a fa)(Z:starEach [a] X.env=[(Y,eval a X.env)]:=by rfl):DE X m (.Call (.Name "tuple" p) [a] [] pos) (λq=>ce (fa q)):=
 (cM jq g hm nM (au ha aM Z) (he:=Z)).imp λσ H Q hz=>by
  obtain⟨B,Hk,q,d,R,e,k⟩:=hz;obtain⟨d1,es,e1,hi,rfl⟩:=zH (g:=D.tup) e;refine ou R e1 λv H' s R' r=>?_;cases d1 with
  |lst ds=>
   obtain rfl:=Z7 hi;obtain⟨c,xs,rfl,O,rs⟩:=r;refine⟨c,xs,rfl,.inl ⟨O.sq,λl hl=>?_⟩⟩;have s2:=ar (o:=.tup xs) hl;refine k _ _ (s.trans s2) ?_;exact⟨l,xs,rfl,ah,rs.same R' s2⟩
  |tup ds=>
   obtain rfl:=Z7 hi;have r':=r;obtain⟨c,xs,rfl,O,rs⟩:=r;exact⟨c,xs,rfl,.inr ⟨SqT.of O,k _ H' s r'⟩⟩
  |_=>simp[bx]at hi
noncomputable def gU:Z9 D->Z8 (Z9 Int)
 |[]=>U []
 |.int i::ds=>(match gU ds with|some l=>U (i::l)|none=>M)
 |_=>M
def dS(ns:Z9 Int):gU (ns.map D.int)=U ns:=by
 induction ns with
 |nil=>rfl
 |cons n ns O=>simp only[Z0,gU,O]
theorem hU:∀{ds:Z9 D}{ns:Z9 Int},gU ds=U ns->ds=ns.map D.int
 |[],ns,h=>by simp_all [gU,ZG]
 |.int i::ds,ns,h=>by
  simp only[gU]at h;cases q:gU ds with
  |none=>rw[q]at h;trivial
  |some l=>
   rw[q]at h;simp only[ZG]at h;subst h;rw[Z0,hU q]
 |.non::ds,ns,h=>by trivial
 |.bl _::ds,ns,h=>by trivial
 |.str _::ds,ns,h=>by trivial
 |.tup _::ds,ns,h=>by trivial
 |.lst _::ds,ns,h=>by trivial
 |.dK _ _::ds,ns,h=>by trivial
 |.dD _ _::ds,ns,h=>by trivial
theorem M1.ints{K:Z4}{B:ZP->Prop}{H:Hp}:∀{ns:Z9 Int}{xs:Z9 V},M1 K B H (ns.map D.int) xs->xs=ns.map V.int
 |[],xs,h=>by assumption
 |n::ns,xs,h=>by
  obtain⟨x,r,rfl,h1,O⟩:=h;rw[Z0,h1,M1.ints O]
noncomputable def tyD:D->Z8 String
 |.tup _=>U "tuple"|.lst _=>U "list"|_=>M
noncomputable def E2(t c:String):Bool:=t==c
noncomputable def B2(c:String)(x:Z8 D):Z8 D:=match x with|some d=>(match tyD d with|some t=>U (.bl (E2 t c))|none=>M)|none=>M
def xX(hc:c="list"\/c="tuple"):dg X (.builtin "isinstance") (λxs H Q=>∃B d x t,xs=[x,.ty c]/\Rep X.K B H d x/\tyD d=U t/\Q (.bl (E2 t c)) H):=by
 intro pins s σ H xs us Q I r h;obtain⟨B,d,x,t,rfl,rx,Z,q⟩:=h;obtain⟨u,w',rfl,ru,Kk⟩:=GF r;cases Kk;have fin:∀b,b=E2 t c->∀tk,EP X pins σ Q (.bool b) {s with toks:=tk}:=λb e tk=>⟨.bl b,H,I.tok tk,rfl,by rw[e];exact q⟩
 have O:∀(T:String),(T="list"\/T="tuple")->W.kitOne X.K (.type T) (.type c)=U (E2 T c):=λT hT=>by
  rcases hc with rfl|rfl<;>rcases hT with rfl|rfl<;>rfl
 cases d with
 |tup ds=>
  simp only[tyD,ZG]at Z;subst Z;obtain⟨a,xs,rfl,hq,_⟩:=rx;cases ru;obtain⟨its,_,⟨o,h1,h2,_⟩,_⟩:=I.tuple (SqT.of hq);exact W.kia_one W.kitx_tuple I.kIn ⟨o,h1,h2⟩ (O _ (by simp)) (λz=>nomatch z) (fin _ rfl)
 |lst ds=>
  simp only[tyD,ZG]at Z;subst Z;obtain⟨a,xs,rfl,hq,_⟩:=rx;cases ru;obtain⟨its,_,⟨o,n,h1,h2,_⟩,_⟩:=I.list hq.sq;exact W.kia_one W.kitx_list I.kIn ⟨o,h1,h2⟩ (O _ (by simp)) (λz=>nomatch z) (fin _ rfl)
 |_=>simp[tyD]at Z
set_option tactic.hygienic true in
theorem Cu(hc:cs="list"\/cs="tuple")(g:Gl X "isinstance")(hm:X.mg "isinstance"=M)(gc:Gl X c)(Z:X.mg c=M)(hv:bootBuiltins c=U (.type cs))(ha:DE X m a fa)(hs:starEach [a,.Name c pc] X.env=[(Y,eval a X.env),(Y,eval (.Name c pc) X.env)]:=by rfl)(O:starEach [.Name c pc] X.env=[(Y,eval (.Name c pc) X.env)]:=by rfl)(hn:c≠"__name__":=by decide)(hd:(c==("__debug__":Str))=Y:=by decide)(hpl:(backTo pos (starEach [.Name c pc] X.env)).any (·.1)=Y:=by rfl):
  DE X mm (.Call (.Name "isinstance" p) [a,.Name c pc] [] pos) (λδ=>B2 cs (fa δ)):=
 (bH (xX hc) g hm jL (au ha (au (A3 (v:=.ty cs) gc Z hv rfl hn hd) aM O) (by rw[hs,O])) (he:=by rw[hs,O]) (hpl:=hpl)).imp λσ H Q hz=>by
  obtain⟨B,Hk,δ,d,R,e,k⟩:=hz;unfold B2 at e;dsimp only at e;split at e;rename_i d1 q;split at e;rename_i t qt;obtain rfl:=Z7 e;exact⟨B,Hk,δ,d1,R,q,λv H' s r=>⟨_,d1,v,t,rfl,r,qt,k _ H' s (by rfl)⟩⟩;trivial;trivial
end
end L2
namespace SM
open PySem PyProof.Rows
structure aa2 (LT:Keyed->Keyed->Bool):Prop where
 acg:∀x y,LT x y=true->LT y x=false
 tr:∀x y z,LT y x=false->LT z y=false->LT z x=false
def aa2.irr{LT:Keyed->Keyed->Bool}(O:aa2 LT)(x:Keyed):LT x x=Y:=by
 cases h:LT x x with
 |false=>rfl
 |true=>exact h.symm.trans (O.acg x x h)
def Ans(prog:Za)(w:Y1)(A:Zj)(s:ZV)(κ:SortKind)(LT:Keyed->Keyed->Bool)(T:Array Keyed):Prop:=
 ∀x∈T,∀y∈T,∀C:Bool->ZV->Prop,C (LT x y) s->wpAny (model prog w) A (keyLt' κ x.1 y.1) C (λ_ _=>False) s
noncomputable abbrev nK:Keyed:=(Value.none,Value.none)
noncomputable def K(a:Array Keyed)(i:Nat):Keyed:=(a[i]?).getD nK
def GA{a:Array Keyed}{i:Nat}(h:i<a.size):a[i]?=U (K a i):=by unfold K;simp_all
def Cj{a:Array Keyed}{i:Nat}(h:i<a.size):K a i∈a:=by unfold K;simp_all
def C3{a b:Array Keyed}{i j:Nat}(h:a[i]?=b[j]?):K a i=K b j:=by unfold K;rw[h]
def i8{a:Array Keyed}{i j:Nat}(O:j<=a.size)(k:Nat):K (mirror a i j ((j - i) / 2)) k=if i<=k/\k<j then K a (i+j - 1 - k) else K a k:=by
 have e:=getElem?_mirror_all (i:=i) O k;by_cases h:i<=k/\k<j;rw[ZM h]at e⊢;exact C3 e;rw[ZH h]at e⊢;exact C3 e
def Aw{a:Array Keyed}{O d:Nat}(hs:O<a.size)(hd:d<=O)(k:Nat):K (bubble a O d) k=if k=O - d then K a O else if O - d<k/\k<=O then K a (k - 1) else K a k:=by
 have e:=getElem?_bubble hs d hd k;by_cases h:k=O - d;rw[ZM h]at e⊢;exact C3 e;rw[ZH h]at e⊢;by_cases Z:O - d<k/\k<=O;rw[ZM Z]at e⊢;exact C3 e;rw[ZH Z]at e⊢;exact C3 e
section
variable{LT:Keyed->Keyed->Bool}{T:Array Keyed}{st:SortSt}
def Up(LT:Keyed->Keyed->Bool)(a:Array Keyed)(i j:Nat):Prop:=∀p q,i<=p->p<=q->q<j->LT (K a q) (K a p)=Y
def Dn(LT:Keyed->Keyed->Bool)(a:Array Keyed)(i j:Nat):Prop:=∀p q,i<=p->p<=q->q<j->LT (K a p) (K a q)=Y
def Up.one(O:aa2 LT){a:Array Keyed}{i:Nat}:Up LT a i (i+1):=λp q h1 h2 Z=>by
 have e:p=q:=by lia
 rw[e];exact O.irr _
def Dn.one(O:aa2 LT){a:Array Keyed}{i:Nat}:Dn LT a i (i+1):=λp q h1 h2 Z=>by
 have e:p=q:=by lia
 rw[e];exact O.irr _
def Up.snoc(O:aa2 LT){a:Array Keyed}{i j:Nat}(h:Up LT a i j)(OT:i<j)(Z:LT (K a j) (K a (j - 1))=Y):Up LT a i (j+1):=λp q h1 h2 h3=>by
 by_cases e:q=j;subst e;by_cases e':p=q;rw[e'];exact O.irr _;exact O.tr _ _ _ (h p (q - 1) h1 (by lia) (by lia)) Z;exact h p q h1 h2 (by lia)
def Dn.snoc(O:aa2 LT){a:Array Keyed}{i j:Nat}(h:Dn LT a i j)(OT:i<j)(Z:LT (K a (j - 1)) (K a j)=Y):Dn LT a i (j+1):=λp q h1 h2 h3=>by
 by_cases e:q=j;subst e;by_cases e':p=q;rw[e'];exact O.irr _;exact O.tr _ _ _ Z (h p (q - 1) h1 (by lia) (by lia));exact h p q h1 h2 (by lia)
def Fr(H:Ans prog w A s κ LT T)(hk:kindOf st=κ){x y:Keyed}{Q:Z8 Bool->SortSt->Prop}(hx:x∈T)(Z:y∈T)(h:Q (U (LT x y)) st):wpS (model prog w) A E s (lt' x y) Q st:=by
 rw[lt'_eq];refine YT (wpS_get ?_);rw[hk];refine YT (wpS_lift (XY (YS (H x hx y Z (λb O=>O=s/\wpS (model prog w) A E s (pure (U b)) Q st) ⟨rfl,Yn h⟩) (λ_ _ h=>h) λ_ _ h=>h.elim)))
def ue{a:Array Keyed}{i:Nat}{Q:Keyed->SortSt->Prop}(O:i<a.size)(h:Q (K a i) st):wpS (model prog w) A E s (elem' a i) Q st:=by
 rw[elem'_eq,GA O];exact Yn h
def gI(H:Ans prog w A s κ LT T)(O:kindOf st=κ)(hp:(arrOf st).Perm T){i j:Nat}{Q:Z8 Bool->SortSt->Prop}(hi:i<T.size)(Z:j<T.size)(h:Q (U (LT (K (arrOf st) i) (K (arrOf st) j))) st):
  wpS (model prog w) A E s (ltAt' i j) Q st:=by
 have hz:=hp.size_eq;rw[ltAt'_eq];refine YT (wpS_get ?_);exact YT (ue (by lia) (YT (ue (by lia) (Fr H O (hp.mem_iff.mp (Cj (by lia))) (hp.mem_iff.mp (Cj (by lia))) h))))
structure Chg (T a:Array Keyed)(lo:Nat)(a':Array Keyed):Prop where
 perm:a'.Perm T
 keep:∀k,k<lo->K a' k=K a k
def Chg.rev{a O:Array Keyed}{lo i j:Nat}(h:Chg T a lo O)(hi:lo<=i)(hj:j<=T.size):Chg T a lo (mirror O i j ((j - i) / 2)):=by
 have hz:=h.perm.size_eq;refine⟨(mirror_perm O i j _).trans h.perm,λk Z=>?_⟩;rw[i8 (by lia),ZH (by lia)];exact h.keep k Z
def Chg.bub{a Z:Array Keyed}{lo O d:Nat}(h:Chg T a lo Z)(hs:O<T.size)(hd:lo+d<=O):Chg T a lo (bubble Z O d):=by
 have hz:=h.perm.size_eq;refine⟨(bubble_perm Z O d).trans h.perm,λk hk=>?_⟩;rw[Aw (by lia) (by lia),ZH (by lia),ZH (by lia)];exact h.keep k hk
def wK{a:Array Keyed}{i j:Nat}(O:j<=a.size)(h:Dn LT a i j):Up LT (mirror a i j ((j - i) / 2)) i j:=λp q h1 h2 Z=>by
 rw[i8 O,i8 O,ZM ⟨by lia,Z⟩,ZM ⟨h1,by lia⟩];exact h _ _ (by lia) (by lia) (by lia)
def tw{a:Array Keyed}{lo i j:Nat}(Z:j<=a.size)(hi:lo<=i)(h:Dn LT a lo j)(e:∀p q,i<=p->i<=q->p<j->q<j->LT (K a p) (K a q)=Y):Dn LT (mirror a i j ((j - i) / 2)) lo j:=λp q h1 h2 h3=>by
 rw[i8 Z,i8 Z];by_cases c1:i<=p/\p<j;rw[ZM c1];by_cases O:i<=q/\q<j;rw[ZM O];exact e _ _ (by lia) (by lia) (by lia) (by lia);lia;rw[ZH c1];by_cases O:i<=q/\q<j;rw[ZM O];exact h _ _ h1 (by lia) (by lia);rw[ZH O];exact h _ _ h1 h2 h3
def zf(O:aa2 LT)(H:Ans prog w A s κ LT T)(hk:kindOf st=κ){a:Array Keyed}(hc:(arrOf st).Perm T){lo n Z:Nat}(hz:lo+Z<=T.size)(hn:1<=n)(Qf:n<=Z)(hu:Up LT (arrOf st) lo (lo+n))
  {q:Type}{Q:q->SortSt->Prop}{f:Z8 (Z8 Nat)×Nat->StateT SortSt Sem q}(h:∀m,n<=m->m<=Z->Up LT (arrOf st) lo (lo+m)->(m<Z->LT (K (arrOf st) (lo+m)) (K (arrOf st) (lo+m - 1))=L)->wpS (model prog w) A E s (f (M,m)) Q st):
  wpS (model prog w) A E s (forIn [n:Z] ((M,n):Z8 (Z8 Nat)×Nat) (λ_ r=>do
   let x <-ltAt' (lo+r.2) (lo+r.2 - 1)
   match x with
   |some q_=>if q_=L then pure (ForInStep.done (M,r.2)) else pure (ForInStep.yield (M,r.2+1))
   |_=>pure (ForInStep.done (U M,r.2))) >>= f) Q st:=by
 refine YT (wpS_mono (Wy (I:=λx c o_=>c=(M,x)/\o_=st/\n<=x/\Up LT (arrOf st) lo (lo+x)) (Q:=λc o_=>∃m,c=(M,m)/\o_=st/\n<=m/\m<=Z/\Up LT (arrOf st) lo (lo+m)/\(m<Z->LT (K (arrOf st) (lo+m)) (K (arrOf st) (lo+m - 1))=L)) ?_ ?_ ⟨rfl,rfl,ZU _,hu⟩) ?_);intro x c o_ h1 h2 hz;obtain⟨rfl,rfl,h3,h4⟩:=hz;dsimp only;refine YT (gI H hk hc (by lia) (by lia) ?_);cases hl:LT (K (arrOf o_) (lo+x)) (K (arrOf o_) (lo+x - 1))with
 |true=>exact Yn ⟨x,rfl,rfl,h3,by lia,h4,λ_=>hl⟩
 |false=>exact Yn ⟨rfl,rfl,by lia,h4.snoc O (by lia) hl⟩
 intro c o_ hz;obtain⟨rfl,rfl,h3,h4⟩:=hz;have e:max n Z=Z:=by lia
 rw[e]at h4⊢;exact⟨Z,rfl,rfl,Qf,ZU _,h4,λh=>absurd h (Zv _)⟩
 simp_all
end
section
variable{LT:Keyed->Keyed->Bool}{st:SortSt}
def FD(LT:Keyed->Keyed->Bool)(a:Array Keyed)(i j:Nat):Prop:=∀p q,i<=p->i<=q->p<j->q<j->LT (K a p) (K a q)=Y
def uI(O:aa2 LT)(H:Ans prog w A s κ LT T)(hk:kindOf st=κ){lo n Z:Nat}(hC:Chg T a lo a')(hz:lo+Z<=T.size)(hn:1<=n)(Qf:n<=Z)(hd:Dn LT a' lo (lo+n))(h:∀m NA,1<=m->m<=Z->Chg T a lo NA->Up LT NA lo (lo+m)->Q (U m) (setArr st NA)):
  wpS (model prog w) A E s (do
   let mut n:=n
   reverseSlice' lo (lo+n)
   for _ in [n:Z] do
    let some q_ <-ltAt' (lo+n) (lo+n - 1)|return M
    if q_ then break
    n:=n+1
   return U n) Q (setArr st a'):=by
 have e:=hC.perm.size_eq;refine YT (Wv ?_);have C':=hC.rev (i:=lo) (j:=lo+n) (ZU _) (by lia);have Uq:=wK (LT:=LT) (a:=a') (i:=lo) (j:=lo+n) (by lia) hd;exact zf (st:=setArr st (mirror a' lo (lo+n) ((lo+n - lo) / 2))) (a:=a) O H hk C'.perm hz hn Qf Uq λm h1 h2 h3 _=>Yn (h m _ (by lia) h2 C' h3)
def tu(O:aa2 LT)(H:Ans prog w A s κ LT T)(hk:kindOf st=κ){lo n Z:Nat}(hC:Chg T a lo a')(hz:lo+Z<=T.size)(hn:1<=n)(Qf:n<Z)(hd:Dn LT a' lo (lo+n))(hl:LT (K a' (lo+n)) (K a' (lo+n - 1))=L)(h:∀m NA,1<=m->m<=Z->Chg T a lo NA->Up LT NA lo (lo+m)->Q (U m) (setArr st NA)):
  wpS (model prog w) A E s (do
   let mut n:=n
   rule "list.sort.descending-run"
   n:=n+1
   let mut Nb:=0
   for _ in [n:Z] do
    let some q_ <-ltAt' (lo+n) (lo+n - 1)|return M
    if q_ then
     if Nb>0 then reverseSlice' (lo+n - (Nb+1)) (lo+n)
     Nb:=0
    else
     let some NZ <-ltAt' (lo+n - 1) (lo+n)|return M
     if NZ then break
     Nb:=Nb+1
    n:=n+1
   if Nb>0 then reverseSlice' (lo+n - (Nb+1)) (lo+n)
   reverseSlice' lo (lo+n)
   for _ in [n:Z] do
    let some q_ <-ltAt' (lo+n) (lo+n - 1)|return M
    if q_ then break
    n:=n+1
   return U n) Q (setArr st a'):=by
 refine YT (wpS_lift (YE ⟨rfl,?_⟩));have d1:=hd.snoc O (by lia) (O.acg _ _ hl);refine YT (wpS_mono (Wy (I:=λx c o_=>∃q a1,c=(M,x,q)/\o_=setArr st a1/\Chg T a lo a1/\n+1<=x/\q+1<=x/\Dn LT a1 lo (lo+x)/\FD LT a1 (lo+x - (q+1)) (lo+x))
  (Q:=λc o_=>∃x q a1,c=(M,x,q)/\o_=setArr st a1/\Chg T a lo a1/\x<=Z/\n+1<=x/\q+1<=x/\Dn LT a1 lo (lo+x)/\FD LT a1 (lo+x - (q+1)) (lo+x)) ?_ ?_ ⟨0,a',rfl,rfl,hC,ZU _,by lia,d1,λp q h1 h2 h3 h4=>by rw[show p=q by lia];exact O.irr _⟩) ?_)
 intro x c o_ h1 h2 hz;obtain⟨q,a1,rfl,rfl,C1,h3,h4,D1,L1⟩:=hz;have e:=C1.perm.size_eq;dsimp only;refine YT (gI (st:=setArr st a1) H hk C1.perm (by lia) (by lia) ?_);dsimp only;cases hl:LT (K a1 (lo+x)) (K a1 (lo+x - 1))with
 |true=>
  have D2:=D1.snoc O (by lia) (O.acg _ _ hl);simp only[YB];by_cases hq:q>0;rw[ZM hq,reverseSlice'_eq];refine YT (Wv (Yn ⟨0,_,rfl,rfl,C1.rev (by lia) (by lia),by lia,by lia,?_,λp q h1 h2 h3 h4=>by rw[show p=q by lia];exact O.irr _⟩));have D3:=tw (LT:=LT) (a:=a1) (lo:=lo) (i:=lo+x - (q+1)) (j:=lo+x) (by lia) (by lia) D1 L1;refine D3.snoc O (by lia) ?_;rw[i8 (by lia),i8 (by lia),ZM (by lia),ZH (by lia)];exact D2 _ _ (by lia) (by lia) (by lia);refine sG hq ?_;exact Yn ⟨0,a1,rfl,rfl,C1,by lia,by lia,D2,λp q h1 h2 h3 h4=>by rw[show p=q by lia];exact O.irr _⟩
 |false=>
  simp only[ZE,YO];refine YT (gI (st:=setArr st a1) H hk C1.perm (by lia) (by lia) ?_);dsimp only;cases hg:LT (K a1 (lo+x - 1)) (K a1 (lo+x))with
  |true=>exact Yn ⟨x,q,a1,rfl,rfl,C1,by lia,h3,h4,D1,L1⟩
  |false=>
   refine Yn ⟨q+1,a1,rfl,rfl,C1,by lia,by lia,D1.snoc O (by lia) hg,λp p' h1 h2 h5 h6=>?_⟩;have key:∀p,lo+(x+1) - (q+1+1)<=p->p<lo+(x+1)->LT (K a1 p) (K a1 (lo+x - 1))=Y/\LT (K a1 (lo+x - 1)) (K a1 p)=Y:=λp h1 h2=>by
    by_cases e:p=lo+x;rw[e];exact⟨hl,hg⟩;exact⟨L1 _ _ (by lia) (by lia) (by lia) (by lia),L1 _ _ (by lia) (by lia) (by lia) (by lia)⟩
   exact O.tr _ _ _ (key p' h2 h6).2 (key p h1 h5).1
 intro c o_ hz;obtain⟨q,a1,rfl,rfl,C1,h3,h4,D1,L1⟩:=hz;rw[show max (n+1) Z=Z by lia]at*;exact⟨Z,q,a1,rfl,rfl,C1,ZU _,h3,h4,D1,L1⟩;intro c o_ hz;obtain⟨x,q,a1,rfl,rfl,C1,h1,h3,h4,D1,L1⟩:=hz;have e:=C1.perm.size_eq;dsimp only;by_cases hq:q>0;refine wW hq ?_;refine YT ?_;rw[reverseSlice'_eq];refine Wv ?_;exact uI O H hk (C1.rev (by lia) (by lia)) hz (by lia) h1 (tw (LT:=LT) (a:=a1) (lo:=lo) (i:=lo+x - (q+1)) (j:=lo+x) (by lia) (by lia) D1 L1) h;refine sG hq ?_;exact uI O H hk C1 hz (by lia) h1 D1 h
def mY(O:aa2 LT)(H:Ans prog w A s κ LT T)(hk:kindOf st=κ){lo Z:Nat}(hp:(arrOf st).Perm T)(hz:lo+Z<=T.size)(hn:1<=Z)(h:∀m a',1<=m->m<=Z->Chg T (arrOf st) lo a'->Up LT a' lo (lo+m)->Q (U m) (setArr st a')):wpS (model prog w) A E s (countRun' lo Z) Q st:=by
 have e:=hp.size_eq;have C0:Chg T (arrOf st) lo (arrOf st):=⟨hp,λ_ _=>rfl⟩
 rw[countRun'_eq];refine zf (a:=arrOf st) O H hk hp hz (ZU 1) hn (Up.one O) λm h1 h2 h3 h4=>?_;dsimp only;by_cases hm:m=Z;refine wW (XC.mpr hm) ?_;exact Yn (h m (arrOf st) h1 h2 C0 h3);refine sG (λq=>hm (XC.mp q)) ?_;have hl:=h4 (by lia);by_cases h5:m>1;refine wW h5 ?_;refine YT (gI H hk hp (by lia) (by lia) ?_);dsimp only;cases hr:LT (K (arrOf st) lo) (K (arrOf st) (lo+m - 1))with
 |true=>
  simp only[YB];exact Yn (h m (arrOf st) h1 h2 C0 h3)
 |false=>
  simp only[ZE,YO];rw[reverseSlice'_eq];refine YT (Wv ?_);have al:FD LT (arrOf st) lo (lo+m):=λp q h1 h2 h5 h6=>O.tr _ _ _ (h3 q (lo+m - 1) h2 (by lia) (by lia)) (O.tr _ _ _ hr (h3 lo p (ZU _) h1 (by lia)));have D1:Dn LT (arrOf st) lo (lo+m):=λp q h1 h2 h5=>al p q h1 (by lia) (by lia) h5;refine tu O H hk (C0.rev (ZU _) (by lia)) hz h1 (by lia) (tw (LT:=LT) (a:=arrOf st) (lo:=lo) (i:=lo) (j:=lo+m) (by lia) (ZU _) D1 al) ?_ h;rw[i8 (by lia),i8 (by lia),ZH (by lia),ZM (by lia)];cases hc:LT (K (arrOf st) (lo+m)) (K (arrOf st) (lo+(lo+m) - 1 - (lo+m - 1)))with
  |true=>rfl
  |false=>exact absurd (O.tr _ _ _ (al (lo+(lo+m) - 1 - (lo+m - 1)) (lo+m - 1) (by lia) (by lia) (by lia) (by lia)) hc) (by rw[hl];exact λq=>nomatch q)
 refine sG h5 ?_;have Ml:m=1:=by lia
 exact tu O H hk C0 hz h1 (by lia) (by subst Ml;exact Dn.one O) hl h
end
section
variable{prog:Za}{w:Y1}{A:Zj}{E:Z3->ZV->Prop}{s:ZV}{LT:Keyed->Keyed->Bool}{T:Array Keyed}{κ:SortKind}{st:SortSt}
def DP(O:aa2 LT){lo k l:Nat}(hs:lo+k<a.size)(hl:l<=k)(hu:Up LT a lo (lo+k))(h1:∀p,p<l->LT (K a (lo+k)) (K a (lo+p))=Y)(h2:∀p,l<=p->p<k->LT (K a (lo+k)) (K a (lo+p))=L):
  Up LT (bubble a (lo+k) (lo+k - (lo+l))) lo (lo+(k+1)):=λp q g1 g2 g3=>by
 have O5:∀p,lo+l<=p->p<lo+k->LT (K a p) (K a (lo+k))=Y:=λp a1 a2=>by
  have:=h2 (p - lo) (by lia) (by lia);rw[show lo+(p - lo)=p by lia]at this;exact O.acg _ _ this
 have O6:∀p,lo<=p->p<lo+l->LT (K a (lo+k)) (K a p)=Y:=λp a1 a2=>by
  have:=h1 (p - lo) (by lia)
  simp_all
 have e:lo+k - (lo+k - (lo+l))=lo+l:=by lia
 rw[Aw hs (by lia),Aw hs (by lia),e]
 repeat' split
 all_goals first
  |exact O.irr _
  |(exfalso;lia)
  |exact O5 _ (by lia) (by lia)
  |exact O6 _ (by lia) (by lia)
  |exact hu _ _ (by lia) (by lia) (by lia)
def jK(O:aa2 LT)(H:Ans prog w A s κ LT T)(hk:kindOf st=κ){lo n ok:Nat}(hp:(arrOf st).Perm T)(hz:lo+n<=T.size)(hok:ok<=n)(hn:1<=n)(hu:Up LT (arrOf st) lo (lo+ok))(h:∀a',Chg T (arrOf st) lo a'->Up LT a' lo (lo+n)->Q L (setArr st a')):wpS (model prog w) A E s (binarySort' lo n ok) Q st:=by
 have e:=hp.size_eq;have C0:Chg T (arrOf st) lo (arrOf st):=⟨hp,λ_ _=>rfl⟩
 have Nc:Up LT (arrOf st) lo (lo+max ok 1):=by
  by_cases c:ok=0;subst c;exact Up.one O;rw[show max ok 1=ok by lia];exact hu
 refine YT (wpS_mono (Wy (I:=λx c o_=>c=(M,())/\∃Z,o_=setArr st Z/\Chg T (arrOf st) lo Z/\Up LT Z lo (lo+x))
  (Q:=λc o_=>c=(M,())/\∃Z,o_=setArr st Z/\Chg T (arrOf st) lo Z/\Up LT Z lo (lo+n)) ?_ ?_ ⟨rfl,arrOf st,rfl,C0,Nc⟩) ?_)
 rintro k c o_ h1 h2 ⟨rfl,Z,rfl,C1,U1⟩
 have e1:=C1.perm.size_eq;refine YT (wpS_mono (Wy (I:=λx c o_=>∃l r,c=(M,l,r)/\o_=setArr st Z/\l<=r/\r<=k/\r - l+x<=k/\(∀p,p<l->LT (K Z (lo+k)) (K Z (lo+p))=Y)/\∀p,r<=p->p<k->LT (K Z (lo+k)) (K Z (lo+p))=L)
  (Q:=λc o_=>∃l r,c=(M,l,r)/\o_=setArr st Z/\l<=k/\(∀p,p<l->LT (K Z (lo+k)) (K Z (lo+p))=Y)/\∀p,l<=p->p<k->LT (K Z (lo+k)) (K Z (lo+p))=L) ?_ ?_ ⟨0,k,rfl,rfl,Zm _,ZU _,by lia,λp hp=>absurd hp (Ym _),λp q1 q2=>absurd q2 (by lia)⟩) ?_)
 rintro x c o_ g1 g2 ⟨l,r,rfl,rfl,g3,g4,g5,g6,g7⟩
 dsimp only;by_cases TK:l>=r;refine wW TK ?_;have:l=r:=by lia
 exact Yn ⟨l,r,rfl,rfl,by lia,g6,by rw[this];exact g7⟩;refine sG TK ?_;refine YT (gI (st:=setArr st Z) H hk C1.perm (by lia) (by lia) ?_);cases hl:LT (K Z (lo+k)) (K Z (lo+(l+r) / 2))with
 |true=>
  refine Yn ⟨l,(l+r) / 2,rfl,rfl,by lia,by lia,by lia,g6,λp q1 q2=>?_⟩;cases hc:LT (K Z (lo+k)) (K Z (lo+p))with
  |true=>rfl
  |false=>exact absurd (O.tr _ _ _ (U1 (lo+(l+r) / 2) (lo+p) (by lia) (by lia) (by lia)) hc) (by lia)
 |false=>
  refine Yn ⟨(l+r) / 2+1,r,rfl,rfl,by lia,g4,by lia,λp q1=>?_,g7⟩;exact O.tr _ _ _ (U1 (lo+p) (lo+(l+r) / 2) (by lia) (by lia) (by lia)) hl
 rintro c o_ ⟨l,r,rfl,rfl,g3,g4,g5,g6,g7⟩
 have:l=r:=by lia
 exact⟨l,r,rfl,rfl,by lia,g6,by rw[this];exact g7⟩
 rintro c o_ ⟨l,r,rfl,rfl,g1,g2,g3⟩
 dsimp only;exact YT (Wv (Yn ⟨rfl,_,rfl,C1.bub (by lia) (by lia),DP O (show lo+k<Z.size by lia) g1 U1 g2 g3⟩))
 .simp_all
 rintro c o_ ⟨rfl,Z,rfl,C1,U1⟩
 exact Yn (h Z C1 U1)
end
section
variable{prog:Za}{w:Y1}{A:Zj}{E:Z3->ZV->Prop}{s:ZV}{LT:Keyed->Keyed->Bool}{T:Array Keyed}{κ:SortKind}
def R(LT:Keyed->Keyed->Bool)(x y:Keyed):Prop:=LT y x=Y
def acE(u:Up LT c 0 c.size):c.toList.Pairwise (R LT):=List.pairwise_iff_getElem.mpr λi j hi Z O=>by
 have:=u i j (Zm _) (XH O) (by trivial);rw[show K c i=c.toList[i] by unfold K;rw[getElem?_pos c i (by trivial)];simp,show K c j=c.toList[j] by unfold K;rw[getElem?_pos c j (by trivial)];simp]at this;exact this
def abA(O:aa2 LT)(H:Ans prog w A s κ LT T)(h2:2<=T.size)(Lo:T.size<64)(hQ:∀a p g,a.Perm T->Up LT a 0 T.size->Q () (SortSt.mk' κ a p g M)):wpS (model prog w) A E s sortRuns' Q (SortSt.mk' κ T #[] g M):=by
 rw[sortRuns'_eq];refine YT (wpS_get ?_);have ea:∀a p g,arrOf (SortSt.mk' κ a p g M)=a:=λ_ _ _=>rfl;simp only[ea];have VZ:minRun' T.size T.size 0=T.size:=by
  obtain⟨n,hn⟩:∃n,T.size=n+1:=⟨T.size - 1,by lia⟩
  rw[hn]at Lo⊢;rw[minRun'_succ,ZM Lo]
 rw[VZ];refine YT (wpS_mono (Wy (I:=λx c Z=>∃a p g lo,c=(M,lo)/\Z=SortSt.mk' κ a p g M/\x<=lo/\(lo=0/\a=T/\p=#[]\/lo=T.size/\a.Perm T/\Up LT a 0 T.size/\p.size<=1))
  (Q:=λc Z=>∃a p g,c=(M,T.size)/\Z=SortSt.mk' κ a p g M/\a.Perm T/\Up LT a 0 T.size/\p.size<=1) ?_ ?_ ⟨T,#[],g,0,rfl,rfl,ZU _,.inl ⟨rfl,rfl,rfl⟩⟩) ?_)
 intro x c Z _ hx hz;obtain⟨a,p,g,lo,rfl,rfl,Qb,hw⟩:=hz;dsimp only;rcases hw with⟨rfl,rfl,rfl⟩|⟨rfl,hp,hu,hs⟩;rw[ZH (by lia)];refine YT (mY (st:=SortSt.mk' κ a #[] g M) O H rfl (Array.Perm.refl _) (by lia) (by lia) λm a1 m1 m2 C1 U1=>?_);dsimp only;by_cases c2:m<a.size;rw[ZM c2];refine YT (wpS_lift (YE ⟨rfl,?_⟩));refine YT (jK (st:=SortSt.mk' κ a1 #[] g M) O H rfl C1.perm (by lia) (by lia) (by lia) U1 λa1 C2 U1=>?_);refine YT (wpS_get ?_);rw[show min (a.size - 0) a.size=a.size by lia]at U1⊢;exact YT (Wv (Yn ⟨_,_,_,_,rfl,rfl,by lia,.inr ⟨by lia,C2.perm,by rw[Yh]at U1;exact U1,ZU 1⟩⟩));rw[ZH c2];refine YT (wpS_get ?_);have em:m=a.size:=by lia
 subst em;exact YT (Wv (Yn ⟨_,_,_,_,rfl,rfl,by lia,.inr ⟨by lia,C1.perm,by rw[Yh]at U1;exact U1,ZU 1⟩⟩));rw[ZM (ZU _)];exact Yn ⟨a,p,g,rfl,rfl,hp,hu,hs⟩;intro c Z hz;obtain⟨a,p,g,lo,rfl,rfl,Qb,hw⟩:=hz;rcases hw with⟨rfl,rfl,rfl⟩|⟨rfl,hp,hu,hs⟩;lia;exact⟨a,p,g,rfl,rfl,hp,hu,hs⟩;intro c Z hz;obtain⟨a,p,g,rfl,rfl,hp,hu,hs⟩:=hz;refine YT (wpS_mono (Wy (I:=λx c Z=>c=(M,())/\Z=SortSt.mk' κ a p g M)
  (Q:=λc Z=>c=(M,())/\Z=SortSt.mk' κ a p g M) ?_ (λ_ _ h=>h) ⟨rfl,rfl⟩) ?_)
 intro x c Z _ _ hz;obtain⟨rfl,rfl⟩:=hz;refine YT (wpS_get ?_);rw[ZM hs];exact Yn ⟨rfl,rfl⟩;intro c Z hz;obtain⟨rfl,rfl⟩:=hz;exact Yn (hQ a p g hp hu)
end
end SM
namespace L2
open PySem PySem.Spec PyProof.Rows PySem.W
variable[Lams]
section
variable{vs:Z9 Z3}
def wv{n:Nat}{P:PySem.Fin->ZV->Prop}{κ:SortKind}{LT:Z3->Z3->Bool}(ho:s.heap.get? a=U (seqObj "list" vs.toArray n))(Lo:vs.length<64)(O:SM.aa2 λx y=>LT x.1 y.1)
  (hk:2<=vs.length->∀h',(∀b o,b≠a->s.heap.get? b=U o->h'.get? b=U o)->∀Q:SortKind->ZV->Prop,Q κ {s with heap:=h'}->wpAny (model prog w) A (keyKind' vs.toArray) Q (λ_ _=>False) {s with heap:=h'})
  (d_:2<=vs.length->∀h',(∀b o,b≠a->s.heap.get? b=U o->h'.get? b=U o)->∀(u v:Z3)(C:Bool->ZV->Prop),u∈vs->v∈vs->C (LT u v) {s with heap:=h'}->wpAny (model prog w) A (keyLt' κ u v) C (λ_ _=>False) {s with heap:=h'})
  (h:∀us:Z9 Z3,us.Perm vs->us.Pairwise (λu v=>LT v u=Y)->∀h' c,(∀b o,b≠a->s.heap.get? b=U o->h'.get? b=U o)->h'.get? a=U (seqObj "list" us.toArray c)->P (.done (.ret .none)) {s with heap:=h'}):
  wpAny (model prog w) A (Builtin.«list.sort» ⟨[.ref a],[]⟩) P E s:=by
 have hz:vs.length<=sizeLine:=by rw[X_];lia
 rw[list_sort_plain];refine Z_ (Xa ho rfl (Z_ (XD ho rfl ?_ (by assumption) (Zm _))));obtain⟨e1,g1⟩:∃e1,(s.heap.update a (Obj.mapSeq λ_=>(#[]:Array Z3))).get? a=U (seqObj "list" #[] e1):=⟨_,Xi ho λ_=>#[]⟩
 refine Z_ (seqEpoch_at g1 rfl (Z_ (Wk ?_ hz)));refine Z_ (WG ?_ (Zm _));refine Zl ?_;have keep:∀b o,b≠a->s.heap.get? b=U o->(((s.heap.update a (Obj.mapSeq λ_=>(#[]:Array Z3))).push (seqObj "tuple" vs.toArray 0)).push (seqObj "list" #[] 0)).get? b=U o:=λb o hb e=>
  Z5 _ (Z5 _ ((ZK s.heap _ (ZF hb)).trans e))
 have g3:(((s.heap.update a (Obj.mapSeq λ_=>(#[]:Array Z3))).push (seqObj "tuple" vs.toArray 0)).push (seqObj "list" #[] 0)).get? a=U (seqObj "list" #[] e1):=Z5 _ (Z5 _ g1);generalize hH:(((s.heap.update a (Obj.mapSeq λ_=>(#[]:Array Z3))).push (seqObj "tuple" vs.toArray 0)).push (seqObj "list" #[] 0))=H1 at*;have fin:∀st:SortSt,((arrOf st).map (·.2)).toList.Perm vs->((arrOf st).map (·.2)).toList.Pairwise (λu v=>LT v u=Y)->failedOf st=M->
   wpAny (model prog w) A (do
    let Z:=(<-seqEpoch a) != e1
    Builtin.List.listUpdate (.ref a) λ_=>(arrOf st).map (·.2)
    if let some e:=failedOf st then rule "list.sort.comparison-raised";throw e
    if Z then rule "list.sort.modified";raiseError "ValueError" "list modified during sort"
    ret .none) P E {s with heap:=H1}:=λst hp hs hf=>by
  rw[hf];refine Z_ (seqEpoch_at g3 rfl (Z_ (XD g3 rfl ?_ (Zm _) ?_)));simp only[bne_self_eq_false,ZE,YO];obtain⟨c,g4⟩:∃c,(H1.update a (Obj.mapSeq λ_=>(arrOf st).map (·.2))).get? a=U (seqObj "list" ((arrOf st).map (·.2)) c):=⟨_,Xi g3 λ_=>(arrOf st).map (·.2)⟩
  exact Z6 (h _ hp hs _ c (λb o hb e=>(ZK H1 _ (ZF hb)).trans (keep b o hb e)) (by assumption));have:=hp.length_eq;rw[Array.length_toList]at this;lia
 have zs:∀l:Z9 Z3,(l.toArray.zip l.toArray).map (·.2)=l.toArray:=λl=>by
  rw[show l.toArray.zip l.toArray=(l.zip l).toArray by simp];simp[List.map_snd_zip]
 by_cases h2:vs.toArray.size<2;rw[ZM h2,ZM h2];have e0:(arrOf (SortSt.mk' general' (vs.toArray.zip vs.toArray) #[] 7 M)).map (·.2)=vs.toArray:=zs vs;refine fin (SortSt.mk' general' (vs.toArray.zip vs.toArray) #[] 7 M) (by rw[e0]) ?_ rfl;rw[e0];clear fin d_ hk h ho keep hH g3 g1 e0;rcases vs with _|⟨v,_|⟨v',r⟩⟩;exact .nil;simp;exact absurd h2 (by simp);rw[ZH h2,ZH h2];rw[ZI]at h2;refine Z_ (YS (hk (by lia) H1 keep _ ?_) (λ_ _ q=>q) λ_ _ x=>x.elim);have mz:∀x∈vs.toArray.zip vs.toArray,x.1=x.2/\x.1∈vs:=λx hx=>mem_zip_self (by simp_all)
 have sz:(vs.toArray.zip vs.toArray).size=vs.length:=by simp
 have run:=SM.abA (prog:=prog) (w:=w) (A:=A) (E:=E) (s:={s with heap:=H1}) (κ:=κ) (T:=vs.toArray.zip vs.toArray) (g:=7) (LT:=λx y=>LT x.1 y.1) O
  (λx hx y hy C hC=>d_ (by lia) H1 keep x.1 y.1 C (mz x hx).2 (mz y hy).2 hC) (by lia) (by rw[sz];exact Lo)
  (Q:=λ_ st=>((arrOf st).map (·.2)).toList.Perm vs/\((arrOf st).map (·.2)).toList.Pairwise (λu v=>LT v u=Y)/\failedOf st=M) (λb p g hp hu=>by
   have he:∀x∈b,x.1=x.2:=λx hx=>(mz x (hp.mem_iff.mp hx)).1;refine⟨?_,?_,rfl⟩;have:=(Array.perm_iff_toList_perm.mp hp).map (·.2)
   simp_all
   rw[Array.toList_map,Yz];have bz:b.size=vs.length:=by rw[hp.size_eq,sz]
   rw[sz,<-bz]at hu;refine(SM.acE hu).imp_of_mem λ{x y} hx hy q=>?_;rw[<-he x (by simp_all),<-he y (by simp_all)];exact q)
 refine Z_ (YS run ?_ λ_ _ e=>e)
 rintro⟨⟨⟩,o_⟩ s' ⟨rfl,hp,hs,hf⟩
 exact fin o_ hp hs hf
end
noncomputable def ca(lt:D->D->Z8 Bool):Z9 D->Z9 D->Z8 Bool
 |[],[]=>U Y
 |[],_::_=>U L
 |_::_,[]=>U Y
 |x::xs,y::ys=>if x=y then ca lt xs ys else lt x y
noncomputable def ltD:Nat->D->D->Z8 Bool
 |_,.int i,.int j=>U (decide (i<j))
 |_,.str x,.str y=>U (decide (x.cps.toList<y.cps.toList))
 |n+1,.tup xs,.tup ys=>ca (ltD n) xs ys
 |n+1,.lst xs,.lst ys=>ca (ltD n) xs ys
 |_,_,_=>M
def sv{x y:Str}(h:x.cps.toList=y.cps.toList):x=y:=by
 obtain⟨a⟩:=x;simp_all
section
variable{lt:D->D->Z8 Bool}
theorem lZ(h:∀x y z,lt x y=U L->lt y z=U L->lt x z=U L)(Z:∀x y,lt x y=U L->lt y x≠U L):∀xs ys O,ca lt xs ys=U L->ca lt ys O=U L->ca lt xs O=U L
 |[],[],_,a,_=>by lia
 |[],_::_,[],_,b=>by assumption
 |[],_::_,_::_,_,_=>by rfl
 |_::_,[],_,a,_=>by simp[ca]at a
 |_::_,_::_,[],_,b=>by assumption
 |x::xs,y::ys,z::O,a,b=>by
  simp only[ca]at a b⊢;by_cases e1:x=y;subst e1;rw[ZM rfl]at a;by_cases e2:x=z;subst e2;rw[ZM rfl]at b⊢;exact lZ h Z xs ys O a b;lia
  grind
theorem mf(O:∀x y,lt x y=U L->lt y x≠U L):∀xs ys,ca lt xs ys=U L->ca lt ys xs≠U L
 |[],[],a=>by simp[ca]at a
 |[],_::_,_=>by simp[ca]
 |_::_,[],a=>by simp[ca]at a
 |x::xs,y::ys,a=>by
  simp only[ca]at a⊢;by_cases Z:x=y;subst Z;rw[ZM rfl]at a⊢;exact mf O xs ys a
  grind
theorem jp(h:∀x y,lt x y=U Y->x=y\/lt y x=U L):∀xs ys,ca lt xs ys=U Y->xs=ys\/ca lt ys xs=U L
 |[],[],_=>.inl rfl
 |[],_::_,a=>by simp[ca]at a
 |_::_,[],_=>.inr (by rfl)
 |x::xs,y::ys,a=>by
  simp only[ca]at a⊢;by_cases O:x=y;subst O;rw[ZM rfl]at a⊢;rcases jp h xs ys a with q|q;exact .inl (by rw[q]);exact .inr q
  grind
end
def g8:∀(n:Nat)(x y:D),ltD n x y=U L->ltD n y x≠U L:=by
 intro n
 induction n with
 |zero=>
  intro x y h;cases x<;>cases y<;>simp only[ltD,ZG,Zw,reduceCtorEq]at h<;>simp only[ltD,ne_eq,ZG,Zw];lia;exact List.lt_asymm h
 |succ n ih=>
  intro x y h;cases x<;>cases y<;>simp only[ltD,ZG,Zw,reduceCtorEq]at h<;>simp only[ltD,ne_eq,ZG,Zw];lia;exact List.lt_asymm h;exact mf ih _ _ h;exact mf ih _ _ h
def yT:∀(n:Nat)(x y z:D),ltD n x y=U L->ltD n y z=U L->ltD n x z=U L:=by
 intro n
 induction n with
 |zero=>
  intro x y z h h';cases x<;>cases y<;>simp only[ltD,ZG,Zw,reduceCtorEq]at h<;>cases z<;>simp only[ltD,ZG,Zw,reduceCtorEq]at h'<;>simp only[ltD,ZG,Zw];lia;exact List.lt_trans h h'
 |succ n ih=>
  intro x y z h h';cases x<;>cases y<;>simp only[ltD,ZG,Zw,reduceCtorEq]at h<;>cases z<;>simp only[ltD,ZG,Zw,reduceCtorEq]at h'<;>simp only[ltD,ZG,Zw];lia;exact List.lt_trans h h';exact lZ ih (g8 n) _ _ _ h h';exact lZ ih (g8 n) _ _ _ h h'
set_option tactic.hygienic true in
def mA:∀(n:Nat)(x y:D),ltD n x y=U Y->x=y\/ltD n y x=U L:=by
 intro n
 induction n with
 |zero=>
  intro x y h;cases x<;>cases y<;>simp only[ltD,ZG,WY,reduceCtorEq]at h<;>simp only[ltD,ZG,Zw,D.int.injEq,D.str.injEq];lia;rename_i x y;by_cases q:y.cps.toList<x.cps.toList;exact .inr q;exact .inl (sv (List.le_antisymm (List.not_lt.mp q) (List.not_lt.mp h)))
 |succ n ih=>
  intro x y h;cases x<;>cases y<;>simp only[ltD,ZG,WY,reduceCtorEq]at h<;>simp only[ltD,ZG,Zw,D.int.injEq,D.str.injEq,D.tup.injEq,D.lst.injEq];lia;rename_i x y;by_cases q:y.cps.toList<x.cps.toList;exact .inr q;exact .inl (sv (List.le_antisymm (List.not_lt.mp q) (List.not_lt.mp h)));exact jp ih _ _ h;exact jp ih _ _ h
def aba(A:Zj)(s:ZV)(y x:Z3)(b:Bool):Prop:=
 ∀(prog:Za)(w:Y1)(E:Z3->ZV->Prop)(Q:Z3->ZV->Prop),Q (.bool b) s->wpAny (model prog w) A (richCompare .Lt y x) Q E s
inductive aaK (A:Zj)(s:ZV):List Z3->List Z3->Bool->Prop
 |none:aaK A s [] [] false
 |less {w:Z3}{ws:List Z3}:aaK A s [] (w::ws) true
 |more {v:Z3}{vs:List Z3}:aaK A s (v::vs) [] false
 |eq {v w:Z3}{vs ws:List Z3}{b:Bool}:SeqAt.EqAt A s v w true->aaK A s vs ws b->aaK A s (v::vs) (w::ws) b
 |ne {v w:Z3}{vs ws:List Z3}{b:Bool}:SeqAt.EqAt A s v w false->aba A s v w b->aaK A s (v::vs) (w::ws) b
section
open PySem.SeqAt
open PySem.AutoSeq1 (wpAny_loadPart')
open PySem.MeetsSeq PySem.MeetsSeq2 PySem.MeetsSeq3
def vv(l b:ZP)(items O:Array Z3)(n n2:Nat)(dd Kt:Z8 ZP)(sl QH:Array (Z8 Z3))(r:Bool):
  Meets (Builtin.«tuple.__lt__» ⟨[.ref l,.ref b],[]⟩)
   (λA R s=>s.heap.get? l=U {cls:=.type "tuple",dict:=dd,data:=.seq items n,slots:=sl}/\s.heap.get? b=U {cls:=.type "tuple",dict:=Kt,data:=.seq O n2,slots:=QH}/\
    aaK A.in1 s items.toList O.toList r/\R (.ok (.ret (.bool r))) s):=
 .of_wp λprog w A R s h=>by
  obtain⟨hp,g,d,tk,os⟩:=s;obtain⟨hl,hb,hx,h⟩:=h;have f2:=AutoSeq1.sub_tuple_tuple
  wp_walk using wpAny_loadPart' hl,wpAny_loadPart' hb,X8 _ (λav b s'=>b.1=M/\s'=⟨hp,g,d,tk,os⟩/\∃(vs ws:Z9 Z3),av=vs.zip ws/\
   aaK A.in1 ⟨hp,g,d,tk,os⟩ vs ws r/\vs.length+O.size=ws.length+items.size) _
  case turn=>
   rintro⟨y,x⟩ av b s' ⟨Oq,rfl,vs,ws,hz,NP,Z⟩
   cases NP with
   |none=>trivial
   |less=>trivial
   |more=>trivial
   |eq he ht=>
    injection hz with Q2 KU;injection Q2 with hy Mj;subst hy Mj;simp only[cn]at Z;refine Z_ (he prog w _ _ ?_)
    wp_walk
    exact⟨rfl,rfl,_,_,KU,ht,by lia⟩
   |ne he d_=>
    injection hz with Q2 KU;injection Q2 with hy Mj;subst hy Mj;refine Z_ (he prog w _ _ ?_);have Q9:=d_ prog w
    wp_walk using Q9
    exact⟨_,rfl,by simpa using h⟩
  case fin=>
   rintro⟨b1,b2⟩ s' ⟨Oq,rfl,vs,ws,hz,NP,Z⟩
   subst Oq;have hv:r=decide (items.size<O.size):=by
    cases NP with
    |none=>simp only[lF]at Z;exact(Zu (by lia)).symm
    |less=>simp_all
    |more=>simp only[lF,cn]at Z;exact(Zu (by lia)).symm
    |eq _ _=>trivial
    |ne _ _=>trivial
   rw[hv]at h
   wp_walk
   exact⟨_,rfl,by assumption⟩
  case h=>exact⟨rfl,rfl,items.toList,O.toList,rfl,hx,by simp;lia⟩
end
def aba.tuples(hl:s.heap.IsTuple l items)(hb:s.heap.IsTuple b w_)(hu:A.units<cLine)(hx:aaK A.in1 s items.toList w_.toList r):aba A s (.ref l) (.ref b) r:=λprog w E Q h=>by
 obtain⟨⟨cls,dd,data,sl⟩,ho,hc,n,hd⟩:=id hl;obtain⟨⟨MG,Kt,data2,Z⟩,O,LS,n2,hd2⟩:=id hb;subst hc hd LS hd2;exact Wt (op:=.Lt) ⟨_,ho,rfl⟩ ⟨_,O,rfl⟩ F.slot_tuple_lt F.entry_tuple_lt (F.args_tuple_lt_2 _ _) (vv l b items w_ n n2 dd Kt sl Z r)
  ⟨ho,O,hx,show Value.bool r≠Value.notImplemented/\Q (.bool r) s from⟨(λx=>nomatch x),h⟩⟩ hu
section
open PySem.SeqAt
open PySem.AutoSeq1 (wpAny_loadPart')
open PySem.MeetsSeq PySem.MeetsSeq2 PySem.MeetsSeq3
def vM(l b:ZP)(items O:Array Z3)(n n2:Nat)(dd Kt:Z8 ZP)(sl QH:Array (Z8 Z3))(r:Bool)(k:Nat):
  ∀i:Nat,i<=items.size->i<=O.size->items.size - i=k->Meets (Builtin.«list.__eq__.loop» ⟨[.ref l,.ref b,rawInt i,rawInt 0],[]⟩)
   (λA R s=>s.heap.get? l=U {cls:=.type "list",dict:=dd,data:=.seq items n,slots:=sl}/\s.heap.get? b=U {cls:=.type "list",dict:=Kt,data:=.seq O n2,slots:=QH}/\
    aaK A.in1 s (items.toList.drop i) (O.toList.drop i) r/\R (.ok (.ret (.bool r))) s):=by
 induction k with
 |zero=>
  intro i hi hj hk prog w A R s h;obtain⟨hl,hb,hx,h⟩:=h
  wp_walk using wpAny_loadPart' hl,wpAny_loadPart' hb
  have Z:items[((i:Nat):Int).toNat]?=M:=by simp;lia
  have e1:items.toList.drop i=[]:=WM (by rw[Array.length_toList];lia);rw[e1]at hx;have hr:r=decide (items.size<O.size):=by
   generalize e2:O.toList.drop i=ws at hx;have hz:=congrArg List.length e2;rw[List.length_drop,Array.length_toList]at hz;cases hx with
   |none=>simp at hz;exact(Zu (by lia)).symm
   |less=>simp at hz;exact(Zx (by lia)).symm
  rw[Z]
  wp_walk using wpAny_loadPart' hl,wpAny_loadPart' hb
  show R (.ok (.ret (.bool (decide (items.size<O.size))))) _
  simp_all
 |succ k ih=>
  intro i hi hj hk prog w A R s h;obtain⟨hl,hb,hx,h⟩:=h
  wp_walk using wpAny_loadPart' hl,wpAny_loadPart' hb
  have d_:i<items.size:=by lia
  have Z:items[((i:Nat):Int).toNat]?=U items[i]:=by simp[d_]
  have d1:items.toList.drop i=items[i]::items.toList.drop (i+1):=by rw[Zo (by trivial)];simp
  rw[d1]at hx;by_cases Sr:i<O.size
  .have MX:O[((i:Nat):Int).toNat]?=U O[i]:=by simp[Sr]
   have d2:O.toList.drop i=O[i]::O.toList.drop (i+1):=by rw[Zo (by assumption)];simp
   rw[d2]at hx;rw[Z,MX];cases hx with
   |eq he ht=>
    refine Z_ (he prog w _ _ ?_)
    wp_walk
    exact⟨Zd plain_eq_loop _,Zr entry_eq_loop (by
     exact ih (i+1) (by lia) (by lia) (by lia) prog w A R _ ⟨hl,hb,ht,h⟩)⟩
   |ne he ht=>
    refine Z_ (he prog w _ _ ?_);have Q9:=ht prog w
    wp_walk using wpAny_loadPart' hl,wpAny_loadPart' hb
    rw[Z,MX]
    wp_walk using Q9
    exact h
  .have MX:O[((i:Nat):Int).toNat]?=M:=by simp;lia
   have e2:O.toList.drop i=[]:=WM (by rw[Array.length_toList];lia);rw[e2]at hx;cases hx;rw[Z,MX]
   wp_walk using wpAny_loadPart' hl,wpAny_loadPart' hb
   show R (.ok (.ret (.bool (decide (items.size<O.size))))) _;rw[Zu (by lia)];exact h
def nQ(l b:ZP)(items O:Array Z3)(n n2:Nat)(dd Kt:Z8 ZP)(sl Z:Array (Z8 Z3))(r:Bool):
  Meets (Builtin.«list.__lt__» ⟨[.ref l,.ref b],[]⟩)
   (λA R s=>s.heap.get? l=U {cls:=.type "list",dict:=dd,data:=.seq items n,slots:=sl}/\s.heap.get? b=U {cls:=.type "list",dict:=Kt,data:=.seq O n2,slots:=Z}/\
    aaK A.in1 s items.toList O.toList r/\R (.ok (.ret (.bool r))) s):=by
 intro prog w A R s h;obtain⟨hl,hb,hx,h⟩:=h;have f3:=AutoSeq1.sub_list_list
 wp_walk using wpAny_loadPart' hl,wpAny_loadPart' hb
 exact⟨Zd plain_eq_loop _,Zr entry_eq_loop (by
  exact vM l b items O n n2 dd Kt sl Z r _ 0 (Zm _) (Zm _) rfl prog w A R _ ⟨hl,hb,hx,h⟩)⟩
end
def aba.lists(hl:s.heap.IsList l items)(hb:s.heap.IsList b w_)(hu:A.units<cLine)(hx:aaK A.in1 s items.toList w_.toList r):aba A s (.ref l) (.ref b) r:=λprog w E Q h=>by
 obtain⟨⟨cls,dd,data,sl⟩,ho,hc,n,hd⟩:=id hl;obtain⟨⟨MG,Kt,data2,Z⟩,O,LS,n2,hd2⟩:=id hb;subst hc hd LS hd2;exact Wt (op:=.Lt) ⟨_,ho,rfl⟩ ⟨_,O,rfl⟩ Ww F.entry_list_lt (F.args_list_lt_2 _ _) (nQ l b items w_ n n2 dd Kt sl Z r)
  ⟨ho,O,hx,show Value.bool r≠Value.notImplemented/\Q (.bool r) s from⟨(λx=>nomatch x),h⟩⟩ hu
def qL(hl:s.heap.IsList l items)(hb:s.heap.IsList b w_)(hu:A.units<cLine)(hx:aaK A.in1 s items.toList w_.toList r)(h:Q r s):
  wpAny (model prog w) A (oneLt' L (.ref l) (.ref b)) Q E s:=by
 obtain⟨⟨cls,dd,data,sl⟩,ho,hc,n,hd⟩:=id hl;obtain⟨⟨MG,Kt,data2,O⟩,Z,LS,n2,hd2⟩:=id hb;subst hc hd LS hd2;refine Z_ (wpAny_cRoomFor hu ?_);refine Z_ (wpAny_callSpecialIfBound?_slot ⟨_,ho,rfl⟩ Ww (Ws Ww ⟨_,ho,rfl⟩ F.entry_list_lt (F.args_list_lt_2 _ _) (nQ l b items w_ n n2 dd Kt sl O r) ⟨ho,Z,hx,?_⟩));exact YR h
section
theorem qI(I:Inv X pins σ H s)(hA:A.units+n+1<cLine)(ih:∀(d e:D)(x y:V)(u w:Z3)(r:Bool),okD n d=L->okD n e=L->Rep X.K B H d x->Rep X.K B' H e y->RelV x u->RelV y w->ltD n d e=U r->aba A s u w r):
  ∀(ds es:Z9 D)(xs ys:Z9 V)(us ws:Z9 Z3)(r:Bool),ds.all (okD n)=L->es.all (okD n)=L->M1 X.K B H ds xs->M1 X.K B' H es ys->aac xs us->aac ys ws->ca (ltD n) ds es=U r->aaK A s us ws r
 |[],[],xs,ys,us,ws,r,hd,he,r1,r2,Z,O,h=>by
  subst r1 r2;cases Z;cases O;simp only[ca,ZG]at h;subst h;exact .none
 |[],e::es,xs,ys,us,ws,r,hd,he,r1,r2,Z,O,h=>by
  subst r1;obtain⟨y,t,rfl,_,_⟩:=r2;cases Z;cases O;simp only[ca,ZG]at h;subst h;exact .less
 |d::ds,[],xs,ys,us,ws,r,hd,he,r1,r2,Z,O,h=>by
  subst r2;obtain⟨y,t,rfl,_,_⟩:=r1;cases Z;cases O;simp only[ca,ZG]at h;subst h;exact .more
 |d::ds,e::es,xs,ys,us,ws,r,hd,he,r1,r2,Z,O,h=>by
  obtain⟨x,xt,rfl,P7,QL⟩:=r1;obtain⟨y,yt,rfl,P6,QK⟩:=r2;cases Z with
  |cons va vb=>
   cases O with
   |cons wa wb=>
    rw[li,ZQ]at hd he;have q:=(B0 I n d e x y _ _ A hd.1 he.1 hA P7 P6 va wa).2.1;simp only[ca]at h;by_cases c:d=e;rw[ZM c]at h;rw[Zx c]at q;exact .eq q (qI I hA ih ds es xt yt _ _ r hd.2 he.2 QL QK vb wb h);rw[ZH c]at h;rw[Zu c]at q;exact .ne q (ih d e x y _ _ r hd.1 he.1 P7 P6 va wa h)
def EQ(I:Inv X pins σ H s):∀(n:Nat)(d e:D)(x y:V)(u w:Z3)(r:Bool)(A:Zj),okD n d=L->okD n e=L->A.units+n+1<cLine->Rep X.K B H d x->Rep X.K B' H e y->RelV x u->RelV y w->ltD n d e=U r->aba A s u w r:=by
 intro n;have flat:∀(d e:D)(x y:V)(u w:Z3)(r:Bool)(A:Zj),Rep X.K B H d x->Rep X.K B' H e y->RelV x u->RelV y w->ltD 0 d e=U r->aba A s u w r:=λd e x y u w r A rd re rx ry h=>by
  cases d with
  |int i=>
   cases e with
   |int j=>
    subst rd re;obtain⟨t,rfl⟩:=rx;obtain⟨t',rfl⟩:=ry;simp only[ltD,ZG]at h;subst h;exact λprog w E Q hq=>HT.ab0 A s i t j t' prog w E Q hq
   |_=>simp[ltD]at h
  |str i=>
   cases e with
   |str j=>
    subst rd re;obtain⟨t,rfl⟩:=rx;obtain⟨t',rfl⟩:=ry;simp only[ltD,ZG]at h;subst h;exact λprog w E Q hq=>(lt_str hq:wpAny (model prog w) A (compareOp .Lt (.str i t) (.str j t')) Q E s)
   |_=>simp[ltD]at h
  |_=>simp[ltD]at h
 induction n with
 |zero=>exact λd e x y u w r A _ _ _ rd re rx ry h=>flat d e x y u w r A rd re rx ry h
 |succ n ih=>
  intro d e x y u w r A hd he hA rd re rx ry h;cases d with
  |tup ds=>
   cases e with
   |tup es=>
    obtain⟨a,xs,rfl,hq,r1⟩:=rd;obtain⟨b,ys,rfl,K4,r2⟩:=re;cases rx;cases ry;obtain⟨its,v1,t1,_⟩:=I.tuple (SqT.of hq);obtain⟨O,v2,t2,_⟩:=I.tuple (SqT.of K4);have Z:A.in1.units+n+1<cLine:=by show A.units+1+n+1<cLine;lia
    exact aba.tuples t1 t2 (by lia) (by simpa using qI I Z (λd e x y u w r o1 o2 r1 r2 v1 v2 hl=>ih d e x y u w r A.in1 o1 o2 Z r1 r2 v1 v2 hl) ds es xs ys its O r hd he r1 r2 v1 v2 h)
   |_=>simp[ltD]at h
  |lst ds=>
   cases e with
   |lst es=>
    obtain⟨a,xs,rfl,hq,r1⟩:=rd;obtain⟨b,ys,rfl,K4,r2⟩:=re;cases rx;cases ry;obtain⟨its,v1,t1,_⟩:=I.list hq.sq;obtain⟨O,v2,t2,_⟩:=I.list K4.sq;have Z:A.in1.units+n+1<cLine:=by show A.units+1+n+1<cLine;lia
    exact aba.lists t1.isList t2.isList (by lia) (by simpa using qI I Z (λd e x y u w r o1 o2 r1 r2 v1 v2 hl=>ih d e x y u w r A.in1 o1 o2 Z r1 r2 v1 v2 hl) ds es xs ys its O r hd he r1 r2 v1 v2 h)
   |_=>simp[ltD]at h
  |int i=>cases e<;>first|(simp[ltD]at h;done)|exact flat _ _ x y u w r A rd re rx ry (by assumption)
  |str i=>cases e<;>first|(simp[ltD]at h;done)|exact flat _ _ x y u w r A rd re rx ry (by assumption)
  |_=>simp[ltD]at h
end
def leD(x y:D):Prop:=ltD 15 y x≠U L
def tL(x:D):Z9 D->Z9 D
 |[]=>[x]
 |y::ys=>if ltD 15 y x=U L then y::tL x ys else x::y::ys
def bK(ds:Z9 D):Z9 D:=ds.foldr tL []
def bL(ds:Z9 D):Bool:=ds.all λx=>okD 15 x&&ds.all λy=>(ltD 15 x y).isSome
def dz(h:bL ds=L)(Z:x∈ds)(O:y∈ds):∃b,ltD 15 x y=U b:=by
 have h1:=Z2.mp h x Z;rw[ZQ]at h1;exact Option.isSome_iff_exists.mp (Z2.mp h1.2 y O)
def cK(h:bL ds=L)(O:x∈ds):okD 15 x=L:=by
 unfold bL at h;have h1:=Z2.mp h x O;rw[ZQ]at h1;exact h1.1
theorem fX(x:D):∀l:Z9 D,(tL x l).Perm (x::l)
 |[]=>Xq _
 |y::ys=>by
  unfold tL;split
  .exact((fX x ys).cons y).trans (List.Perm.swap x y ys)
  rfl
theorem ax:∀ds:Z9 D,(bK ds).Perm ds
 |[]=>Xq _
 |d::ds=>by
  exact(fX d _).trans ((ax ds).cons d)
def zi(h:bL ds=L)(hx:x∈ds)(hy:y∈ds)(hz:z∈ds)(a:leD x y)(b:leD y z):leD x z:=by
 intro c;obtain⟨r1,e1⟩:=dz h hy hx;obtain⟨r2,e2⟩:=dz h hz hy;cases r1 with
 |true=>exact a e1
 |false=>
  cases r2 with
  |true=>exact b e2
  |false=>
   rcases mA 15 _ _ e1 with q1|q1;lia;rcases mA 15 _ _ e2 with q2|q2;lia;exact g8 15 _ _ (yT 15 _ _ _ q1 q2) c
def Ej(h:bL ds=L)(hx:x∈ds)(hy:y∈ds)(a:leD x y)(b:leD y x):x=y:=by
 obtain⟨r1,e1⟩:=dz h hx hy;cases r1 with
 |true=>trivial
 |false=>
  rcases mA 15 _ _ e1 with q|q;exact q;trivial
theorem gu(h:bL ds=L)(Z:x∈ds):∀l:Z9 D,(∀y∈l,y∈ds)->l.Pairwise leD->(tL x l).Pairwise leD
 |[],_,_=>by simp[tL]
 |y::ys,O,hp=>by
  unfold tL;obtain⟨h1,h2⟩:=XU.mp hp;have hy:=O y ZR;split;rename_i c;refine XU.mpr ⟨λz hz=>?_,gu h Z ys (λz hz=>O z (ZY _ hz)) h2⟩;rcases ZT.mp ((fX x ys).mem_iff.mp hz)with q|q;subst q;exact g8 15 _ _ c
  simp_all
  rename_i c;refine XU.mpr ⟨λz hz=>?_,hp⟩;rcases ZT.mp hz with q|q;subst q;exact c;exact zi h Z hy (O z hz) c (h1 z q)
def bp(h:bL ds=L):(bK ds).Pairwise leD:=by
 have key:∀l:Z9 D,(∀y∈l,y∈ds)->(bK l).Pairwise leD:=by
  intro l
  induction l with
  |nil=>intro _;exact List.Pairwise.nil
  |cons y l Z=>
   intro O;exact gu h (O y ZR) _ (λz hz=>O z (ZY _ ((ax l).mem_iff.mp hz))) (Z λz hz=>O z (ZY _ hz))
 exact key ds λ_ h=>h
theorem cg(h:bL ds=L):∀(Z O:Z9 D),(∀y∈Z,y∈ds)->Z.Perm O->Z.Pairwise leD->O.Pairwise leD->Z=O
 |[],O,_,hp,_,_=>(List.nil_perm.mp hp).symm
 |a::Z,[],_,hp,_,_=>(List.perm_nil.mp hp)
 |a::Z,b::O,hm,hp,h1,h2=>by
  obtain⟨p1,q1⟩:=XU.mp h1;obtain⟨p2,q2⟩:=XU.mp h2;have OQ:∀y∈b::O,y∈ds:=λy hy=>hm y (hp.mem_iff.mpr hy);have ab:a=b:=by
   have ha:a∈b::O:=hp.mem_iff.mp ZR;have hb:b∈a::Z:=hp.mem_iff.mpr ZR;rcases ZT.mp ha with z|z;exact z;rcases ZT.mp hb with y|y;exact y.symm;exact Ej h (hm a ZR) (OQ b ZR) (p1 b y) (p2 a z)
  subst ab;rw[cg h Z O (λy hy=>hm y (ZY _ hy)) (List.perm_cons a |>.mp hp) q1 q2]
inductive KD|st|it|ts|tt|ls
noncomputable def dw:KD->D->Bool
 |.st,.str _=>L
 |.it,.int _=>L
 |.ts,.tup (.str _::_)=>L
 |.tt,.tup (.tup _::_)=>L
 |.ls,.lst _=>L
 |_,_=>Y
def mF(h:dw .ts d=L):∃x ds,d=.tup (.str x::ds):=by
 unfold dw at h;split at h;trivial;trivial;lia;trivial;trivial;trivial
def mS(h:dw .tt d=L):∃x ds,d=.tup (.tup x::ds):=by
 unfold dw at h;split at h;trivial;trivial;trivial;lia;trivial;trivial
noncomputable def Bs:KD->SortKind
 |.st=>oneType'
 |.it=>oneType'
 |.ts=>tuples' L
 |.tt=>tuples' Y
 |.ls=>oneType'
section
def ie:∀{vs ws:Z9 Z3}{i:Nat},aaK A s vs ws r->(b=Y\/1<=i)->(fin=decide (vs.length<ws.length))->Q r s->KatLex prog w A b fin Q (vs.zip ws) i s:=by
 intro vs ws i h
 induction h generalizing i with
 |none=>
  intro hb O q;subst O
  assumption
 |less=>
  intro hb O q;subst O
  assumption
 |more=>
  intro hb O q;subst O
  assumption
 |eq he ht Z=>
  intro hb O q;refine kat_cons (he prog w _ _ (kat_yes ?_));exact Z (.inr (by lia)) (by rw[O];simp) q
 |ne he hl=>
  intro hb O q;refine kat_cons (he prog w _ _ (kat_no ?_));have hz:(b&&i==0)=Y:=by
   rcases hb with z|z;rw[z,Bool.false_and];lia
  rw[hz];exact kat_one _ _ (hl prog w _ _ q)
end
section
def Ew(I:Inv X pins σ H s)(hA:A.units+20<cLine)(hd:okD 15 d=L)(he:okD 15 e=L)(kd:dw c d=L)(ke:dw c e=L)(rd:Rep X.K B H d x)(re:Rep X.K B' H e y)(rx:RelV x u)(ry:RelV y w')(h:ltD 15 d e=U r)(q:C r s):wpAny (model X.prog X.w) A (keyLt' (Bs c) u w') C (λ_ _=>False) s:=by
 cases c with
 |st=>
  cases d<;>simp only[dw,ZE]at kd;cases e<;>simp only[dw,ZE]at ke;subst rd re;obtain⟨t,rfl⟩:=rx;obtain⟨t',rfl⟩:=ry;simp only[ltD,ZG]at h;subst h;exact oneLt_str q
 |it=>
  cases d<;>simp only[dw,ZE]at kd;cases e<;>simp only[dw,ZE]at ke;subst rd re;obtain⟨t,rfl⟩:=rx;obtain⟨t',rfl⟩:=ry;simp only[ltD,ZG]at h;subst h;exact oneLt_int q
 |ts=>
  obtain⟨i,ds,rfl⟩:=mF kd;obtain⟨j,es,rfl⟩:=mF ke;obtain⟨a,xs,rfl,hq,r1⟩:=rd;obtain⟨b,ys,rfl,K4,r2⟩:=re;cases rx;cases ry;obtain⟨its,Z,⟨o1,g1,c1,n1,d1⟩,_⟩:=I.tuple (SqT.of hq);obtain⟨k_,O,⟨o2,g2,c2,n2,d2⟩,_⟩:=I.tuple (SqT.of K4);refine kat_lt g1 d1 g2 d2 ?_;obtain⟨x,xt,rfl,P7,QL⟩:=r1;obtain⟨y,yt,rfl,P6,QK⟩:=r2;subst P7 P6;simp only[okD,li,ZQ]at hd he;simp only[ltD,ca,D.str.injEq]at h;cases Z with
  |cons va vb=>
   cases O with
   |cons wa wb=>
    obtain⟨t,rfl⟩:=va;obtain⟨t',rfl⟩:=wa;by_cases RN:i=j;subst RN;rw[ZM rfl]at h;have q1:=SeqAt.EqAt.str_str (A:=A) (s:=s) i t i t';rw[X1]at q1;refine kat_cons (q1 _ _ _ _ (kat_yes ?_));have lx:=qI (B:=B) (B':=B') I (n:=14) (A:=A) (by lia) (λd e x y u w r o1 o2 r1 r2 Z O hl=>EQ I 14 d e x y u w r A o1 o2 (by lia) r1 r2 Z O hl) ds es xt yt _ _ r
     hd.2 he.2 QL QK vb wb h
    exact ie lx (.inr (ZU _)) (by simp) q;rw[ZH RN]at h;have q1:=SeqAt.EqAt.str_str (A:=A) (s:=s) i t j t';have eb:(i==j)=Y:=by simpa using RN
    rw[eb]at q1;refine kat_cons (q1 _ _ _ _ (kat_no ?_));simp only[ZG]at h;subst h;exact oneLt_str q
 |tt=>
  obtain⟨i,ds,rfl⟩:=mS kd;obtain⟨j,es,rfl⟩:=mS ke;obtain⟨a,xs,rfl,hq,r1⟩:=rd;obtain⟨b,ys,rfl,K4,r2⟩:=re;cases rx;cases ry;obtain⟨its,Z,⟨o1,g1,c1,n1,d1⟩,_⟩:=I.tuple (SqT.of hq);obtain⟨k_,O,⟨o2,g2,c2,n2,d2⟩,_⟩:=I.tuple (SqT.of K4);refine kat_lt g1 d1 g2 d2 ?_;have r_:(D.tup i::ds).all (okD 14)=L:=by simpa only[okD]using hd
  have Ms:(D.tup j::es).all (okD 14)=L:=by simpa only[okD]using he
  have lx:=qI (B:=B) (B':=B') I (n:=14) (A:=A) (by lia) (λd e x y u w r o1 o2 r1 r2 Z O hl=>EQ I 14 d e x y u w r A o1 o2 (by lia) r1 r2 Z O hl) _ _ xs ys _ _ r r_ Ms (by lia) (by lia) Z O h;exact ie lx (.inl rfl) (by simp) q
 |ls=>
  cases d<;>simp only[dw,ZE]at kd;cases e<;>simp only[dw,ZE]at ke;obtain⟨a,xs,rfl,hq,r1⟩:=rd;obtain⟨b,ys,rfl,K4,r2⟩:=re;cases rx;cases ry;obtain⟨its,Z,t1,_⟩:=I.list hq.sq;obtain⟨k_,O,t2,_⟩:=I.list K4.sq;have M0:A.in1.units+14+1<cLine:=by show A.units+1+14+1<cLine;lia
  exact qL t1.isList t2.isList (by lia) (by simpa using qI I M0 (λd e x y u w r o1 o2 r1 r2 Z O hl=>EQ I 14 d e x y u w r A.in1 o1 o2 M0 r1 r2 Z O hl) _ _ xs ys its k_ r hd he r1 r2 Z O h) q
def wm(I:Inv X pins σ H s)(h2:2<=us.length)(O:ds.all (dw c)=L)(r:M1 X.K B H ds xs)(v:aac xs us)(q:Q (Bs c) s):
  wpAny (model X.prog X.w) A (keyKind' us.toArray) Q (λ_ _=>False) s:=by
 have Z:∀u∈us,∃d x,dw c d=L/\Rep X.K B H d x/\RelV x u:=λu hu=>by
  obtain⟨j,hj⟩:=XI hu;have hl:=v.length;have d_:j<xs.length:=by rw[hl];exact(ZO.mp hj).1
  obtain⟨u',KL,ru⟩:=v.get (i:=j) (x:=xs[j]) (by simp[d_]);rw[hj]at KL;obtain rfl:=Z7 KL;obtain⟨d,hd,rd⟩:=r.get' (i:=j) (x:=xs[j]) (by simp[d_]);exact⟨d,xs[j],Z2.mp O d (Zs hd),rd,ru⟩
 cases c with
 |st=>
  refine kas_kind (T:=.type "str") h2 (λu hu=>?_) (by decide) (by decide) q;obtain⟨d,x,k1,rd,ru⟩:=Z u hu;cases d<;>simp only[dw,ZE]at k1;subst rd;obtain⟨t,rfl⟩:=ru;exact .now
 |it=>
  refine kas_kind (T:=.type "int") h2 (λu hu=>?_) (by decide) (by decide) q;obtain⟨d,x,k1,rd,ru⟩:=Z u hu;cases d<;>simp only[dw,ZE]at k1;subst rd;obtain⟨t,rfl⟩:=ru;exact .now
 |ls=>
  refine kas_kind (T:=.type "list") h2 (λu hu=>?_) (by decide) (by decide) q;obtain⟨d,x,k1,rd,ru⟩:=Z u hu;cases d<;>simp only[dw,ZE]at k1;obtain⟨a,xs,rfl,hq,r1⟩:=rd;cases ru;obtain⟨its,v1,t1,_⟩:=I.list hq.sq;obtain⟨o,ho,hc,_⟩:=t1.isList;have:=(show Looks (model X.prog X.w) s.heap (typeOf (.ref a)) o.cls from(Looks.ld ho).andThen .now)
  lia
 |ts=>
  have mk:∀(ds:Z9 D)(xs:Z9 V)(us:Z9 Z3),ds.all (dw .ts)=L->M1 X.K B H ds xs->aac xs us->∃fs,KatTups s.heap us fs/\fs.length=us.length/\∀f∈fs,∃z t,f=.str z t:=by
   intro ds
   induction ds with
   |nil=>intro xs us _ r v;subst r;cases v;exact⟨[],.nil,rfl,λ_ h=>by cases h⟩
   |cons d ds ih=>
    intro xs us O r v;obtain⟨x,xt,rfl,ra,rb⟩:=r;cases v with
    |cons va vb=>
     rw[li,ZQ]at O;obtain⟨fs,f1,f2,f3⟩:=ih xt _ O.2 rb vb;obtain⟨z,es,rfl⟩:=mF O.1;obtain⟨a,ys,rfl,hq,rs⟩:=ra;cases va;obtain⟨its,v1,⟨o1,g1,c1,n1,d1⟩,_⟩:=I.tuple (SqT.of hq);obtain⟨y,yt,rfl,ry,_⟩:=rs;subst ry;cases v1 with
     |cons w1 w2=>
      obtain⟨t,rfl⟩:=w1;exact⟨.str z t::fs,.cons g1 c1 d1 (by simp) f1,by simp[f2],λf hf=>by
       rcases ZT.mp hf with q|q;exact⟨z,t,q⟩;exact f3 f q⟩
  obtain⟨fs,f1,f2,f3⟩:=mk ds xs us O r v;refine kat_kind (T:=.type "str") f1 (by lia) (λf hf=>?_) (by decide) q;obtain⟨z,t,rfl⟩:=f3 f hf;exact .now
 |tt=>
  have mk:∀(ds:Z9 D)(xs:Z9 V)(us:Z9 Z3),ds.all (dw .tt)=L->M1 X.K B H ds xs->aac xs us->∃fs,KatTups s.heap us fs/\fs.length=us.length/\∀f∈fs,∃b o,f=.ref b/\s.heap.get? b=U o/\o.cls=.type "tuple":=by
   intro ds
   induction ds with
   |nil=>intro xs us _ r v;subst r;cases v;exact⟨[],.nil,rfl,λ_ h=>by cases h⟩
   |cons d ds ih=>
    intro xs us O r v;obtain⟨x,xt,rfl,ra,rb⟩:=r;cases v with
    |cons va vb=>
     rw[li,ZQ]at O;obtain⟨fs,f1,f2,f3⟩:=ih xt _ O.2 rb vb;obtain⟨z,es,rfl⟩:=mS O.1;obtain⟨a,ys,rfl,hq,rs⟩:=ra;cases va;obtain⟨its,v1,⟨o1,g1,c1,n1,d1⟩,_⟩:=I.tuple (SqT.of hq);obtain⟨y,yt,rfl,ry,_⟩:=rs;obtain⟨b,zs,rfl,VQ,_⟩:=ry;cases v1 with
     |cons w1 w2=>
      cases w1;obtain⟨_,_,⟨o2,g2,c2,_⟩,_⟩:=I.tuple (SqT.of VQ);exact⟨.ref b::fs,.cons g1 c1 d1 (by simp) f1,by simp[f2],λf hf=>by
       rcases ZT.mp hf with q|q;exact⟨b,o2,q,g2,c2⟩;exact f3 f q⟩
  obtain⟨fs,f1,f2,f3⟩:=mk ds xs us O r v;refine kat_kind (T:=.type "tuple") f1 (by lia) (λf hf=>?_) (by decide) q;obtain⟨b,o,rfl,g,hc⟩:=f3 f hf;rw[<-hc];exact(Looks.ld g).andThen .now
end
def FR(h:bL ds=L){f:Z3->D}(Z:ds≠[]->∀u,f u∈ds)(h0:ds=[]->∀u,f u=.non):SM.aa2 λx y=>decide (ltD 15 (f x.1) (f y.1)=U L):=by
 by_cases O:ds=[];have e:=h0 O;exact⟨λi j q=>by simp[e,ltD],λi j k _ _=>by simp[e,ltD]⟩;exact⟨λi j q=>Zu (g8 15 _ _ (Zy q)),λi j k a b=>Zu (zi h (Z O _) (Z O _) (Z O _) (Yc a) (Yc b))⟩
section
variable{X:Cx}
def Di(I:Inv X pins σ H s)(r:M1 X.K B H ds ys)(v:aac ys us)(hc:bL ds=L):
  ∃f:Z3->D,(ds≠[]->∀u,f u∈ds)/\(ds=[]->∀u,f u=.non)/\us.map f=ds/\∀u∈us,∃y,Rep X.K B H (f u) y/\RelV y u:=by
 refine⟨λu=>open Classical in if h:∃d,d∈ds/\∃y,Rep X.K B H d y/\RelV y u then h.choose else ds.headD .non,λhn u=>?_,λhn u=>?_,?_⟩;dsimp only;split;rename_i h;exact h.choose_spec.1;cases ds with
 |nil=>lia
 |cons d ds=>exact .head _
 .simp_all
 have key:∀i,i<us.length->∃d y u,ds[i]?=U d/\us[i]?=U u/\Rep X.K B H d y/\RelV y u:=λi hi=>by
  have l1:=r.length;have l2:=v.length;have t_:i<ds.length:=by lia
  obtain⟨x,hx,rx⟩:=r.get (i:=i) (d:=ds[i]) (by simp[t_]);obtain⟨u,hu,ru⟩:=v.get hx;exact⟨ds[i],x,u,by simp[t_],hu,rx,ru⟩
 have val:∀d y u,d∈ds->Rep X.K B H d y->RelV y u->(open Classical in if h:∃d,d∈ds/\∃y,Rep X.K B H d y/\RelV y u then h.choose else ds.headD .non)=d:=λd y u hd hr hv=>by
  rw[dif_pos ⟨d,hd,y,hr,hv⟩];have h:∃d,d∈ds/\∃y,Rep X.K B H d y/\RelV y u:=⟨d,hd,y,hr,hv⟩;obtain⟨h1,y',h2,h3⟩:=h.choose_spec;cases RelV.inj h3 hv;exact Rep.inj I (cK hc h1) (cK hc hd) h2 hr
 constructor;refine W3 λi=>?_;rw[Zg];by_cases hi:i<us.length;obtain⟨d,y,u,h1,h2,h3,h4⟩:=key i hi;rw[h1,h2,Option.map_some,val d y u (Zs h1) h3 h4];have l1:=r.length;have l2:=v.length
 simp_all
 intro u hu;obtain⟨i,hi⟩:=XI hu;obtain⟨d,y,u',h1,h2,h3,h4⟩:=key i (ZO.mp hi).1;cases hi.symm.trans h2;exact⟨y,by dsimp only;rw[val d y u (Zs h1) h3 h4];exact h3,h4⟩
theorem uQ:∀{us:Z9 Z3},(∀u∈us,∃y,Rep X.K B H (f u) y/\RelV y u)->∃O,M1 X.K B H (us.map f) O/\aac O us
 |[],_=>⟨[],M1.nil,.nil⟩
 |u::us,h=>by
  obtain⟨y,r,v⟩:=h u (.head _);obtain⟨O,rs,vs⟩:=uQ (us:=us) λu hu=>h u (.tail _ hu);exact⟨y::O,M1.cons r rs,.cons v vs⟩
end
section
variable{X:Cx}{m:Bool}{a b:Expr}
noncomputable def kkD(c:KD)(ds:Z9 D):Bool:=decide (ds.length<64)&&(decide (ds.length<2)||ds.all (dw c))
def cy(hu:X.A.units+64<cLine)(I:Inv X pins σ H s)(k1:∀b o,s.heap.get? b=U o->h1.get? b=U o)(hsz:s.z<=h1.objs.size)(r:M1 X.K B H ds ys)(v:aac ys us)(hz:us.length<=sizeLine)(hc:bL ds=L)(hk:kkD c ds=L)(q:∀l zs,H l=M->M1 X.K B H (bK ds) zs->Q (.ref l) (upd H l (.lst zs))):
  wpAny (model X.prog X.w) X.A.in1 (do
   let l <-newList us
   let _ <-holding [l] (call (.builtin "list.sort") [l] [])
   ret l) (λfin s'=>∃w,fin=.done (.ret w)/\EP X pins σ Q w s') X.xe {s with heap:=h1,toks:=t1}:=by
 obtain⟨f,f1,f0,f2,f3⟩:=Di I r v hc;unfold kkD at hk;rw[ZQ]at hk;obtain⟨Lo,hk⟩:=hk;have Lo:us.length<64:=by have:=Zy Lo;have l1:=r.length;have l2:=v.length;lia
 have Z:2<=us.length->ds.all (dw c)=L:=λh=>by
  grind
 refine Z_ (WG ?_ hz);have g0:(h1.push (seqObj "list" us.toArray 0)).get? h1.objs.size=U (seqObj "list" us.toArray 0):=ZX _ rfl;have k2:∀b o,s.heap.get? b=U o->b≠h1.objs.size/\(h1.push (seqObj "list" us.toArray 0)).get? b=U o:=λb o e=>⟨ZA (Z1 (k1 b o e)),Z5 _ (k1 b o e)⟩
 refine Z_ (Zl (YZ slot_list_sort ⟨_,g0,rfl⟩ entry_list_sort ?_ (args_list_sort _)));have hA:X.A.in1.in1.units+20<cLine:=by show X.A.units+1+1+20<cLine;lia
 refine wv (s:={s with heap:=h1.push (seqObj "list" us.toArray 0),toks:=t1}) (vs:=us) (κ:=Bs c) (LT:=λu v=>decide (ltD 15 (f u) (f v)=U L)) g0 Lo (FR hc f1 f0) (λh2 h' kp Q' q'=>?_) (λh2 h' kp u u' C hu KL hC=>?_) (λO hp hs h' cc kp g=>?_);have I1:Inv X pins σ H {s with heap:=h',toks:=t1}:=I.kept λb o e=>kp b o (k2 b o e).1 (k2 b o e).2;exact wm I1 h2 (Z h2) r v q';have I1:Inv X pins σ H {s with heap:=h',toks:=t1}:=I.kept λb o e=>kp b o (k2 b o e).1 (k2 b o e).2;obtain⟨x,rx,vx⟩:=f3 u hu;obtain⟨y,ry,vy⟩:=f3 u' KL;have m1:f u∈ds:=by rw[<-f2];exact XF hu
 have m2:f u'∈ds:=by rw[<-f2];exact XF KL
 obtain⟨rr,er⟩:=dz hc m1 m2;refine Ew I1 hA (cK hc m1) (cK hc m2) (Z2.mp (Z h2) _ m1) (Z2.mp (Z h2) _ m2) rx ry vx vy er ?_
 simp_all
 have es:O.map f=bK ds:=by
  have perm:(O.map f).Perm ds:=by rw[<-f2];exact hp.map f
  refine cg hc _ _ (λy hy=>perm.mem_iff.mp hy) (perm.trans (ax ds).symm) ?_ (bp hc);rw[Yz];exact hs.imp λq=>Yc q
 obtain⟨zs,rz,vz⟩:=uQ (us:=O) λu hu=>f3 u (hp.mem_iff.mp hu);rw[es]at rz;have hlen:zs.length<=sizeLine:=by rw[vz.length,hp.length_eq];exact hz
 have MY:H h1.objs.size=M:=I.hok.fresh hsz;refine⟨_,rfl,Z6 ⟨_,rfl,.ref h1.objs.size,_,I.laid (a:=h1.objs.size) (o:=.lst zs) (h':=h') (t':=t1) (λb o e=>kp b o (k2 b o e).1 (k2 b o e).2) hsz ?_,rfl,q _ _ MY rz⟩⟩;exact⟨hlen,_,cc,vz,g⟩
def mI(hu:X.A.units+64<cLine):dg X (.builtin "sorted") (λxs H Q=>∃B p ds ys,xs=[.ref p]/\SqL X.K H p ys/\M1 X.K B H ds ys/\bL ds=L/\kkD c ds=L/\
  ∀l O,H l=M->M1 X.K B H (bK ds) O->Q (.ref l) (upd H l (.lst O))):=by
 intro pins s σ H xs us Q I r h;obtain⟨B,p,ds,ys,rfl,hq,rs,hc,hk,q⟩:=h;obtain⟨u,rfl,rx⟩:=fq r;cases rx;obtain⟨its,Z,pl,hz⟩:=I.list hq;have l2:=Z.length;refine Xx kind_sorted Wj Wi (args_sorted1 _) ?_;refine Z_ (m:=checkCount "sorted" 1 1 _) (Z6 (Z_ (collect_list pl.isList ?_ (by lia))));have hsz:((s.heap.push (seqObj "list" #[] 0)).update s.z (Obj.mapSeq (· ++its.toArray))).objs.size=s.z+1:=by
  rw[XR,size_push']
 refine cy (t1:=s.toks) hu I (λb o e=>?_) (by rw[hsz];lia) rs Z (by lia) hc hk q;exact(ZK _ _ (Nat.ne_of_gt (Z1 e))).trans (Z5 _ e)
def dh(c:KD)(x:Z8 D):Z8 D:=match x with|some (.lst ds)=>if(bL ds&&kkD c ds)=L then U (.lst (bK ds)) else M|_=>M
def fA(h1:ds.length<64)(Z:bL ds=L)(O:ds.length<2\/ds.all (dw c)=L):dh c (U (.lst ds))=U (.lst (bK ds)):=by
 unfold dh;have:(bL ds&&kkD c ds)=L:=by unfold kkD;rcases O with O|O<;>simp[h1,Z,O]
 simp only[this,YB]
theorem tY(hu:X.A.units+64<cLine)(g:Gl X "sorted")(hm:X.mg "sorted"=M)(ha:DE X Y a fa)(O:starEach [a] X.env=[(Y,eval a X.env)]:=by rfl):DF X (.Call (.Name "sorted" p) [a] [] pos) (λq=>dh c (fa q)):=
 (bH (mI (c:=c) hu) g hm cJ (au ha aM O) (he:=O)).imp λσ H Q hz=>by
  obtain⟨B,Hk,q,d,R,e,k⟩:=hz;unfold dh at e;dsimp only at e;split at e;rename_i ds qd;by_cases cc:(bL ds&&kkD c ds)=L;rw[ZM cc]at e;obtain rfl:=Z7 e;rw[ZQ]at cc;obtain⟨c2,c3⟩:=cc;refine ou R qd λv H' s R' r=>?_;obtain⟨l,xs,rfl,hq,rs⟩:=r;refine⟨_,l,ds,xs,rfl,hq.sq,rs,c2,c3,λl' zs Z rz=>?_⟩;have s2:=ar (o:=.lst zs) Z;exact k l' _ (s.trans s2) (s.free Z) ⟨_,ah,rz.same (m:=Y) R' s2⟩;rw[ZH cc]at e;trivial;trivial
end
def dv:entryFor table "dict.update.loop"=U Builtin.«dict.update.loop»:=entryFor_of_tree (by kernel_rfl)
def dr:plainId "dict.update.loop"=L:=by decide +kernel
theorem sX:typeLookup (.type "list") "keys"=pure M:=by rfl
def zR(hx:s.heap.get? a=U o)(hc:o.cls=.type "list")(O:o.data=.seq xs k)(hd:o.dict=M)(hA:A.handled=M)(h:∀h' tk,(∀b o,s.heap.get? b=U o->h'.get? b=U o)->Q M {s with heap:=h',toks:=tk}):wpAny (model prog w) A (getAttr? (.ref a) "keys") Q E s:=by
 obtain⟨c,dct,dat,sl⟩:=o;simp only at hc O hd;subst hc O hd;obtain⟨hp,g,d,tk,os⟩:=s;have hT:∀Z,(⟨hp,g,d,Z,os⟩:ZV).TypeIs (.ref a) "list":=λ_=>⟨_,hx,rfl⟩
 have f1:=sub_AttributeError;have f3:=Wz.lookup;have f4:=Wz.bind (.ref a);have f5:=am_list_getattr_none;unfold getAttr? getAttrBy? getAttrBy
 repeat (any_goals (first|assumption|exact hT _|((with_reducible show wpAny _ _ (call (Value.builtin "list.__getattribute__") _ _) _ _ _);refine Ws Wz (hT _) am_entry_list_getattribute (F.args_list_getattribute_2 _ _) (meets_getattribute_miss_list a xs k sl _ _ sX (by decide) (by decide)) ⟨hx,hA,λh' Z e Mj=>?_⟩)|wp_step))
 obtain⟨t',u',he⟩:=Mj.there;show wpAny _ _ (getattributeRaised _ _ _ _ _ _ _) _ _ _;unfold getattributeRaised
 repeat (any_goals (first|assumption|wp_step))
 exact h _ _ Mj.keeps
section
end
section
end
noncomputable def iJ:D->Z8 Key
 |.int i=>U (.inl i)
 |.str x=>U (.inr x)
 |_=>M
section
end
noncomputable def jU:Z9 D->Z8 (Z9 Str)
 |[]=>U []
 |.str i::ds=>(match jU ds with|some l=>U (i::l)|none=>M)
 |_=>M
def ui(ns:Z9 Str):jU (ns.map D.str)=U ns:=by
 induction ns with
 |nil=>rfl
 |cons n ns O=>simp only[Z0,jU,O]
theorem iu:∀{ds:Z9 D}{ns:Z9 Str},jU ds=U ns->ds=ns.map D.str
 |[],ns,h=>by simp_all [jU,ZG]
 |.str i::ds,ns,h=>by
  simp only[jU]at h;cases q:jU ds with
  |none=>rw[q]at h;trivial
  |some l=>
   rw[q]at h;simp only[ZG]at h;subst h;rw[Z0,iu q]
 |.non::ds,ns,h=>by trivial
 |.bl _::ds,ns,h=>by trivial
 |.int _::ds,ns,h=>by trivial
 |.tup _::ds,ns,h=>by trivial
 |.lst _::ds,ns,h=>by trivial
 |.dK _ _::ds,ns,h=>by trivial
 |.dD _ _::ds,ns,h=>by trivial
theorem M1.strs{K:Z4}{B:ZP->Prop}{H:Hp}:∀{ns:Z9 Str}{xs:Z9 V},M1 K B H (ns.map D.str) xs->xs=ns.map V.str
 |[],xs,h=>by assumption
 |n::ns,xs,h=>by
  obtain⟨x,r,rfl,h1,O⟩:=h;rw[Z0,h1,M1.strs O]
def qU:∀{us:Z9 Z3},aac (ns.map V.str) us->StrsAre us ns:=by
 induction ns with
 |nil=>intro us r;cases r;exact .nil
 |cons n ns ih=>
  intro us r;cases r with
  |cons Z O=>
   obtain⟨t,e⟩:=Z;subst e;exact .cons n t (ih O)
section
variable{X:Cx}{m:Bool}{a b:Expr}{fa fb:iv->Z8 D}{pos p:Pos}
def A4:MtM X "str.join" (λx vs H Q=>∃(z:Str)(p:ZP)(ys:Z9 Str),x=.str z/\vs=[.ref p]/\SqL X.K H p (ys.map V.str)/\(ys.map (·.length)).sum+ys.length*z.length<=16777216/\Q (.str (Txt.join z ys)) H):=by
 intro pins s σ H x vs v us Q I O Z h;obtain⟨z,p,ys,rfl,rfl,hq,hl,q⟩:=h;obtain⟨t,rfl⟩:=O;obtain⟨u,rfl,ru⟩:=Z.one;cases ru;obtain⟨its,r,pl,hz⟩:=I.list hq;exact join_list pl.isList (by simpa using qU r) hl λt' k=>⟨.str _,H,I.tok k,⟨t',rfl⟩,q⟩
noncomputable def tE(x y:Z8 D):Z8 D:=match x,y with|some (.str z),some (.lst ds)=>(match jU ds with|some ys=>if(ys.map (·.length)).sum+ys.length*z.length<=16777216 then U (.str (Txt.join z ys)) else M|none=>M)|_,_=>M
set_option tactic.hygienic true in
theorem Ay(ha:DE X m a fa)(hb:DE X m' b fb)(O:Mc X.env a "join" b [] apos b_):DE X mm (.Call (.Attribute a "join" apos) [b] [] b_) (λq=>tE (fa q) (fb q)):=
 (uJ F.plainAttrs_str F.slot_str_join F.type_str_join A4 ha (au hb aM O.s) O).imp λσ H Q hz=>by
  obtain⟨B,Hk,q,d,R,e,k⟩:=hz;unfold tE at e;dsimp only at e;split at e;rename_i z ds q1 q2;split at e;rename_i ys qs;obtain rfl:=iu qs;by_cases c:(ys.map (·.length)).sum+ys.length*z.length<=16777216;rw[ZM c]at e;obtain rfl:=Z7 e;refine⟨B,Hk,q,_,R,q1,λv H1 s1 r1=>?_⟩;subst r1;refine⟨rfl,ou (R.to s1) q2 λw H2 s2 R2 Z=>?_⟩;obtain⟨l,xs,rfl,hq,rs⟩:=Z;obtain rfl:=rs.strs;exact⟨z,l,ys,rfl,rfl,hq.sq,c,k _ H2 (s1.trans s2) (by rfl)⟩;rw[ZH c]at e;trivial;trivial;trivial
def so(l:ZP)(items:Array Z3)(n:Nat)(b:ZP)(O:Array Z3)(n2:Nat)(s1 s2:Array (Z8 Z3))(hc0:items.size+O.size<=sizeLine):
  Meets (Builtin.«list.__add__» ⟨[.ref l,.ref b],[]⟩) (λ_ R s=>s.heap.get? l=U ⟨.type "list",M,.seq items n,s1⟩/\s.heap.get? b=U ⟨.type "list",M,.seq O n2,s2⟩/\R (.ok (.ret (Value.ref s.z))) {s with heap:=s.heap.push {cls:=Value.type "list",data:=Data.seq (items++O)}}):=
 .of_wp λprog w A R s h=>by
  obtain⟨Z,hb,h⟩:=h;have f3:=AutoSeq1.sub_list_list;wp_walk using AutoSeq1.wpAny_loadPart' Z,AutoSeq1.wpAny_loadPart' hb;exact⟨_,rfl,h⟩
def tN{l b:ZP}(hl:PlainL s.heap l its)(hb:PlainL s.heap b k_)(h:Q (.ref s.z) {s with heap:=s.heap.push {cls:=.type "list",data:=.seq (its++k_)}})(hsz:its.size+k_.size<=sizeLine):wpAny (model P w) A (binaryOp .Add (.ref l) (.ref b)) Q E s:=by
 obtain⟨⟨c1,d1,a1,s1⟩,n1,Z,rfl,rfl,rfl⟩:=hl;obtain⟨⟨c2,d2,a2,s2⟩,n2,O,rfl,rfl,rfl⟩:=hb;exact concat_meets ⟨_,Z,rfl⟩ ⟨_,O,rfl⟩ noFill_list_add seq_list_add F.slot_list_add F.entry_list_add (F.args_list_add_2 _ _) (so l its n1 b k_ n2 s1 s2 hsz) ⟨Z,O,h⟩
def uT:OpR X (binaryOp .Add) (λx y H Q=>∃l b xs Z,x=.ref l/\y=.ref b/\SqL X.K H l xs/\SqL X.K H b Z/\xs.length+Z.length<=sizeLine/\∀p,H p=M->Q (.ref p) (upd H p (.lst (xs++Z)))):=by
 intro pins s σ H x y v u Q I rx ry h;obtain⟨l,b,xs,Z,rfl,rfl,hH,hB,hz,q⟩:=h;cases rx;cases ry;obtain⟨its,r,pl,_⟩:=I.list hH;obtain⟨O,r2,Oa,_⟩:=I.list hB;have hl:=r.length;have Rg:=r2.length;refine tN pl Oa ?_ (by simp;lia);have ea:its.toArray++O.toArray=(its++O).toArray:=by simp
 rw[ea];exact⟨.ref _,_,I.acF (t':=s.toks) (r.append r2) (by simp;lia),rfl,q _ I.fresh⟩
noncomputable def jQ(x y:Z8 D):Z8 D:=match x,y with|some (.lst i),some (.lst j)=>if i.length+j.length<=lim then U (.lst (i++j)) else M|_,_=>M
set_option tactic.hygienic true in
theorem zk(ha:DE X Y a fa)(hb:DE X Y b fb):DF X (.BinOp a .Add b pos) (λq=>jQ (fa q) (fb q)):=
 (tJ uT ha hb).imp λσ H Q hz=>by
  obtain⟨B,Hk,q,d,R,e,k⟩:=hz;unfold jQ at e;dsimp only at e;split at e;rename_i i j q1 q2;by_cases hz:i.length+j.length<=lim;rw[ZM hz]at e;obtain rfl:=Z7 e;refine two R q1 q2 λv u H' s R' r1 r2=>?_;obtain⟨c,xs,rfl,hq,rs⟩:=r1;obtain⟨c2,O,rfl,OL,Z⟩:=r2;refine⟨c,c2,xs,O,rfl,rfl,hq.sq,OL.sq,by rw[<-rs.length,<-Z.length];exact aF hz,λp hp=>?_⟩;have s2:=ar (o:=.lst (xs++O)) hp;exact k p _ (s.trans s2) (s.free hp) ⟨_,ah,(rs.append Z).same (m:=Y) R' s2⟩;rw[ZH hz]at e;trivial;trivial
noncomputable def tj(i:Nat)(x:Z8 D)(q:iv):Z8 Out:=match cm i q,x with|some (.lst ds),some (.lst es)=>if ds.length+es.length<=lim then U (.next (q.set i (U (.lst (ds++es),L)))) else M|_,_=>M
set_option tactic.hygienic true in
def sg(h:tj i x Z=U o):∃ds es,Z[i]?=U (U (.lst ds,L))/\x=U (.lst es)/\ds.length+es.length<=lim/\o=.next (Z.set i (U (.lst (ds++es),L))):=by
 unfold tj at h;split at h;rename_i ds d q;by_cases O:ds.length+d.length<=lim;rw[ZM O]at h;obtain rfl:=Z7 h;exact⟨ds,d,ck q,rfl,O,rfl⟩;rw[ZH O]at h;trivial;trivial
def vL(ha:DF X a fa)(hN:X.N[i]?=U x:=by rfl)(hv:Vis X.env.scope x)(mc:Mc X.env (.Name x px) "extend" a [] apos b_)(hd:(x==("__debug__":Str))=Y:=by decide)(Ks:(x==("__classdict__":Str))=Y:=by decide)(Z:swapsWith (.Call (.Attribute (.Name x px) "extend" apos) [a] [] b_) M pos.line X.env=pure Y:=by rfl):DS X (.Expr (.Call (.Attribute (.Name x px) "extend" apos) [a] [] b_) pos) (λq=>tj i (fa q) q):=
 (nI (uJ Xz F.slot_list_extend F.type_list_extend vV (bA hN hv hd Ks) (au ha aM mc.s) mc) Z).imp λDn σ H hz=>by
  obtain⟨B,Hk,q,o,R,e,k⟩:=hz;obtain⟨ds,es,h1,e1,hl,rfl⟩:=sg e;obtain⟨l,h2,h3,xs,h4,h5⟩:=R.own i _ h1;refine⟨.ref l,h2,.inl ⟨rfl,xs,SqL.of h4⟩,B,Hk,q,_,R,e1,λp H' s hp ob=>?_⟩;have R':=R.to s;have O:=s l _ h4;have Rz:M1 X.K B H' ds xs:=h5.ext (R.ext s);obtain⟨zs,h6,h7⟩:=ob;obtain⟨x1,x2⟩:=R'.abJ (ds':=ds++es) (xs':=xs++zs) h1 h2 O (Rz.append h7);exact⟨l,p,xs,zs,rfl,rfl,O,h6,by rw[<-h5.length,<-h7.length];exact aF hl,k σ _ ((R.ext s).trans x1) x2⟩
end
noncomputable def mN(Z:Scope)(O:Scope)(N:Z9 Str)(bs:Z9 Bool):Bool:=
 decide (O.kind=.function)&&O.names.all (λy=>!decide (y.2=.cell))&&O.names.all (λy=>!decide (y.2=.local)||decide (O.names.lookup y.1=U .local))&&
 O.names.all (λy=>!decide (y.2=.free)||(decide (O.names.lookup y.1=U .free)&&(decide (Z.names.lookup y.1=U .cell)||decide (Z.names.lookup y.1=U .free))))&&
 decide (bs.length=N.length)&&(N.zip bs).all (λp=>!p.2||decide (O.names.lookup p.1=U .free))
def ka(h1:X.env.scope=Vl)(h2:X.N=N)(h:mN Vl scope N bs=L):aag X scope bs:=by
 unfold mN at h;simp only[ZQ,Zw]at h;obtain⟨⟨⟨⟨⟨a,b⟩,c⟩,d⟩,e⟩,f⟩:=h;refine⟨a,λy O z=>?_,λy O z=>?_,λy O z=>?_,by rw[h2];exact e,λi x Z hb=>?_⟩
 .grind
 .grind
 have:=Z2.mp d y O;rw[Zx z]at this;simp only[XQ,Bool.false_or,ZQ,Bool.or_eq_true,Zw]at this;refine⟨this.1,?_⟩;unfold Env.kindOf;rw[h1];exact this.2;rw[h2]at Z;have hz:(N.zip bs)[i]?=U (x,L):=by rw[List.getElem?_zip_eq_some];exact⟨Z,hb⟩
 have:=Z2.mp f _ (Zs hz);simpa using this
structure Nm (X:Cx)(i:Nat)(x:Str):Prop where
 at':X.N[i]?=some x
 vis:Vis X.env.scope x
 d1:(x==("__debug__":Str))=false
 d2:(x==("__classdict__":Str))=false
structure Lc (X:Cx)(i:Nat)(x:Str):Prop where
 at':X.N[i]?=some x
 loc:Loc X.env.scope x
 fnl:X.fn x=true\/X.env.scope.names.lookup x=some .local
structure Gb (X:Cx)(x:Str):Prop where
 gl:Gl X x
 d1:(x==("__debug__":Str))=false
noncomputable def GP:Z8 NameKind->Bool
 |some .local=>L|some .cell=>L|some .free=>L|_=>Y
noncomputable def Gv:Z8 NameKind->Bool
 |some .local=>L|some .cell=>L|_=>Y
noncomputable def nmB(N:Z9 Str)(sc:Scope)(i:Nat)(x:Str):Bool:=decide (N[i]?=U x)&&GP (sc.names.lookup x)&&!(x==("__debug__":Str))&&!(x==("__classdict__":Str))
noncomputable def lcB(N:Z9 Str)(sc:Scope)(i:Nat)(x:Str):Bool:=decide (N[i]?=U x)&&Gv (sc.names.lookup x)
noncomputable def G9(N:Z9 Str)(sc:Scope)(i:Nat)(x:Str):Bool:=decide (N[i]?=U x)&&decide (sc.names.lookup x=U .local)
noncomputable def gbB(sc:Scope)(x:Str):Bool:=decide (sc.names.lookup x=U .globalImplicit)&&!(x==("__debug__":Str))
def wJ(h:GP (sc.names.lookup x)=L):Vis sc x:=by
 unfold GP at h;split at h;rename_i e;exact .inl e;rename_i e;exact .inr (.inl e);rename_i e;exact .inr (.inr e);lia
def wt(h:Gv (sc.names.lookup x)=L):Loc sc x:=by
 unfold Gv at h;split at h;rename_i e;exact .inl e;rename_i e;exact .inr e;lia
structure Has (X:Cx)(N:List Str)(sc:Scope):Prop where
 n:X.N=N
 sc:X.env.scope=sc
 calm:X.calm=true
 nd:X.N.Nodup
def Has.nm{X:Cx}{N:Z9 Str}{sc:Scope}{i:Nat}{x:Str}(h:Has X N sc)(b:nmB N sc i x=L):Nm X i x:=by
 unfold nmB at b;simp only[ZQ,Zw,Bool.not_eq_true']at b;exact⟨by rw[h.n];exact b.1.1.1,by rw[h.sc];exact wJ b.1.1.2,b.1.2,b.2⟩
def Has.lc{X:Cx}{N:Z9 Str}{sc:Scope}{i:Nat}{x:Str}(h:Has X N sc)(O:∀x,X.fn x=L)(b:lcB N sc i x=L):Lc X i x:=by
 unfold lcB at b;simp only[ZQ,Zw]at b;exact⟨by rw[h.n];exact b.1,by rw[h.sc];exact wt b.2,.inl (O x)⟩
def Has.lcl{X:Cx}{N:Z9 Str}{sc:Scope}{i:Nat}{x:Str}(h:Has X N sc)(b:G9 N sc i x=L):Lc X i x:=by
 unfold G9 at b;simp only[ZQ,Zw]at b;exact⟨by rw[h.n];exact b.1,by rw[h.sc];exact .inl b.2,.inr (by rw[h.sc];exact b.2)⟩
def Has.gb{X:Cx}{N:Z9 Str}{sc:Scope}{x:Str}(h:Has X N sc)(b:gbB sc x=L):Gb X x:=by
 unfold gbB at b;simp only[ZQ,Zw,Bool.not_eq_true']at b;refine⟨?_,b.2⟩;unfold Gl Env.kindOf;rw[h.sc];exact b.1
noncomputable def HQ(scope sc:Scope):Scope:=
 {scope with names:=scope.names.map λ(n,k)=>if(k==.free&&sc.kind==.function&&sc.names.lookup n==U .cell) then(n,.cell) else(n,k)}
def AN(h:env.scope=sc):relabel scope env=HQ scope sc:=by subst h;rfl
def Has.comp{X:Cx}{N:Z9 Str}{sc:Scope}(h:Has X N sc)(O:Scope)(cl:Z9 (Str×ZP))(C:ZP)(Z:ZV)(Li:Hp)(ex:Z9 ZP)(pn:Z9 (ZP×Obj)):Has (aH X O cl C Z Li ex pn) N (HQ O sc):=
 ⟨h.n,AN h.sc,h.calm,h.nd⟩
def aag.of'(h:Has X N sc)(b:mN sc scope N bs=L):aag X scope bs:=ka h.sc h.n b
section
variable{X:Cx}{m mm:Bool}{a e:Expr}{es:Z9 Expr}{fa:iv->Z8 D}{fs:iv->Z8 (Z9 D)}{pos p:Pos}{k:Nat}{x:Str}{f:Z9 D->Z8 (D×Bool)}{i:Nat}
theorem nv(m:Bool)(n:Nm X i x):DE X m (.Name x pos) (rd m i):=CJ n.at' n.vis n.d1 n.d2
theorem rR{pos':Pos}(n:X.N.Nodup)(l:Lc X i x)(Z:DE X Y a fa)(O:swapsWith a (U (.Name x pos')) pos.line X.env=pure Y:=by rfl):DS X (.Assign [.Name x pos'] a pos) (λq=>aS i (fa q) q):=Cf (i:=i) (x:=x) (pos:=pos) (pos':=pos') n Z l.at' l.loc O l.fnl
theorem jA{pos':Pos}(n:X.N.Nodup)(l:Lc X i x)(Z:DF X a fa)(O:swapsWith a (U (.Name x pos')) pos.line X.env=pure Y:=by rfl):DS X (.Assign [.Name x pos'] a pos) (λq=>dT i (fa q) q):=BT (i:=i) (x:=x) (pos:=pos) (pos':=pos') n Z l.at' l.loc O l.fnl
theorem jz(n:X.N.Nodup)(l:Lc X i x):DG X (.Name x pos) (ae i):=zV n l.at' l.loc l.fnl
theorem pK{px:Pos}(n:Nm X i x):DS X (.Return (U (.Name x px)) pos) (λq=>db (cm i q)):=BQ (i:=i) (x:=x) (px:=px) (pos:=pos) n.at' n.vis n.d1 n.d2
theorem nO(F:FnM X.prog X.w X.K X.mg X.base k x f)(O:aaq k X.A)(g:Gb X x)(Z:DA X m (e::es) fs)(he:starEach (e::es) X.env=(Y,eval e X.env)::starEach es X.env:=by rfl)
  (hpl:(backTo pos (starEach es X.env)).any (·.1)=Y:=by rfl):DE X m (.Call (.Name x p) (e::es) [] pos) (λq=>shO (af (fs q) f)):=zZ F O g.gl Z g.d1 he hpl
theorem nU(F:FnM X.prog X.w X.K X.mg X.base k x f)(O:aaq k X.A)(g:Gb X x)(Z:DA X Y (e::es) fs)(he:starEach (e::es) X.env=(Y,eval e X.env)::starEach es X.env:=by rfl)
  (hpl:(backTo pos (starEach es X.env)).any (·.1)=Y:=by rfl):DF X (.Call (.Name x p) (e::es) [] pos) (λq=>frO (af (fs q) f)):=AE (p:=p) F O g.gl Z g.d1 he hpl
theorem j1(F:FnM X.prog X.w X.K X.mg X.base k x f)(O:aaq k X.A)(g:Gb X x)(Z:DA X L (e::es) fs)(he:starEach (e::es) X.env=(Y,eval e X.env)::starEach es X.env:=by rfl)
  (hpl:(backTo pos (starEach es X.env)).any (·.1)=Y:=by rfl):DF X (.Call (.Name x p) (e::es) [] pos) (λq=>flO (af (fs q) f)):=wT (p:=p) F O g.gl Z g.d1 he hpl
theorem uP{p:Pos}(g:Gb X "len")(Z:X.mg "len"=M)(ha:DE X m a fa)(O:starEach [a] X.env=[(Y,eval a X.env)]:=by rfl):DE X mm (.Call (.Name "len" p) [a] [] pos) (λq=>eX (fa q)):=DJ g.gl Z ha O g.d1
variable{apos b_ px:Pos}
theorem iC(n:Nm X i x)(ha:DE X Y a fa)
  (Z:Mc X.env (.Name x px) "append" a [] apos b_)
  (O:swapsWith (.Call (.Attribute (.Name x px) "append" apos) [a] [] b_) M pos.line X.env=pure Y:=by rfl):DS X (.Expr (.Call (.Attribute (.Name x px) "append" apos) [a] [] b_) pos) (λq=>kO i (fa q) q):=
 sI ha n.at' n.vis Z n.d1 n.d2 O
theorem ql(n:Nm X i x)(ha:DF X a fa)(Z:Mc X.env (.Name x px) "extend" a [] apos b_)(O:swapsWith (.Call (.Attribute (.Name x px) "extend" apos) [a] [] b_) M pos.line X.env=pure Y:=by rfl):DS X (.Expr (.Call (.Attribute (.Name x px) "extend" apos) [a] [] b_) pos) (λq=>tj i (fa q) q):=
 vL ha n.at' n.vis Z n.d1 n.d2 O
noncomputable def swB(sc O:Scope)(t:Str)(l1 Z:Nat):Bool:=
 ((if sc.kind.isAnnotationScope then ScopeKind.function else sc.kind)==.function)&&sc.names.lookup t==U .local&&l1==Z&&!(O.names.any λ(n,k)=>n==t&&(k==.local||k==.cell))
def d9(h:Has X N sc)(q:swB sc scope x pos'.line pos.line=c):
  swapsWith (.ListComp elt gens scope pos) (U (.Name x pos')) l X.env=pure c:=by
 subst q;rw[<-h.sc];rfl
def lf(h:Has X N sc)(b:decide (sc.names.lookup y=U .local)=L):X.env.scope.names.lookup y=U .local:=by rw[h.sc];exact Zy b
theorem ww(h:Has X N sc)(l:Lc X i y)(Lj:abl τ)(hi:DI X Y tg iter fi)(S:aag X scope bs)(hg:∀cl C O Z ex pn,DG (aH X scope cl C O Z ex pn) tg τ)(ht:∀cl C O Z ex pn,DTs (aH X scope cl C O Z ex pn) ifs ft)(he:∀cl C O Z ex pn,DE (aH X scope cl C O Z ex pn) Y elt fe)(b1:decide (sc.names.lookup y=U .local)=L)(b2:swB sc scope y py.line pos.line=L)(hs:∀x,foldedSetIterable iter X.env x=pure x:=by intro _;rfl):DS X (.Assign [.Name y py] (.ListComp elt [⟨tg,iter,ifs,0⟩] scope pos) K7) (λq=>dT i (aq (af (fi q) (bF Y bs τ ft fe q))) q):=
 zS h.nd h.calm Lj hi S hg ht he l.at' (lf h b1) (d9 h b2) hs
end
def EU{P:Za}{w:Y1}{K:Z4}{mg:Str->Z8 Z3}{base:Heap}{f:ZP}{O:Z3}{A:Zj}{outer:Z9 Env}{s:ZV}{H:Hp}{E:XK}{N:Z9 Str}{q:Str}{sc:Scope}(nd:N.Nodup):
  Has (qY CX0 P w K mg base N q sc f O A outer s H E).nox N sc:=⟨rfl,rfl,rfl,nd⟩
def spM_law{K:Z4}{H:Hp}{a:ZP}{ns:Z9 Int}{f:Z9 D->Z8 (D×Bool)}(O:SqL K H a (ns.map V.int))(h:f [.lst (ns.map D.int)]=U (.bl L,Y)):
  spM K f [.ref a] H (λv _=>v=.bl L) λ_ _ _=>False:=by
 have hr:M1 K (λb=>∃o:HOn,H b=U o.1) H (ns.map D.int) (ns.map V.int):=by
  clear O h
  induction ns with
  |nil=>rfl
  |cons n ns Z=>exact M1.cons (by rfl) Z
 refine⟨λb=>∃o:HOn,H b=U o.1,[.lst (ns.map D.int)],.bl L,Y,λ_ h=>h,M1.cons ?_ M1.nil,h,λv H' _ r=>?_⟩;refine⟨a,_,rfl,?_,hr⟩;rcases O with(h1|⟨o,h1⟩)|h1;exact .inl ⟨⟨⟨_,rfl⟩,h1⟩,h1⟩;exact .inr (.inl ⟨o,h1⟩);exact .inr (.inr h1)
 assumption
def pY{pos pos':Pos}(l:Z9 Z3)(ht:TriplesOk l)(h:codeAmong pos' (l++[rawInt pos.line,rawInt pos.col,c])=U cv):codeAmong pos' l=U cv\/cv=c:=by
 fun_induction TriplesOk l with
 |case1=>
  simp_all [List.nil_append,rawInt,codeAmong]
 |case2 a t b u x av ih=>
  simp only[List.cons_append,codeAmong]at h⊢;split at h;rename_i hc;rw[ZM hc];exact .inl h;rename_i hc;rw[ZH hc];exact ih ht h
 |case3 l h1 h2=>exact ht.elim
section
def Inv.grow{pos:Pos}{t':Nat}(I:Inv X pins σ H s)(hP:H P=U (.tbl lq ps))(hx:Heap.ExtBut P s.heap h')(Nq:s.z<=c')(d_:c'<h'.objs.size)(NL:h'.CodeRec (.ref c') lq)(OH:h'.get? P=U (W.tabObj (ps++#[rawInt pos.line,rawInt pos.col,.ref c']))):
  Inv X pins σ (upd (upd H P (.tbl lq (ps++#[rawInt pos.line,rawInt pos.col,.ref c']))) c' (.own P)) {s with heap:=h',toks:=t'}/\
  aab H (upd (upd H P (.tbl lq (ps++#[rawInt pos.line,rawInt pos.col,.ref c']))) c' (.own P)):=by
 have hc:H c'=M:=I.hok.fresh Nq;have Rt:P≠c':=λz=>by lia
 have O:∀b,b≠P->b≠c'->(upd (upd H P (.tbl lq (ps++#[rawInt pos.line,rawInt pos.col,.ref c']))) c' (.own P)) b=H b:=λb h1 h2=>by rw[aj h2,aj h1]
 have Z:(upd (upd H P (.tbl lq (ps++#[rawInt pos.line,rawInt pos.col,.ref c']))) c' (.own P)) P=U (.tbl lq (ps++#[rawInt pos.line,rawInt pos.col,.ref c'])):=by rw[aj Rt,ah]
 have nP:∀{b u},H b=U u->(∀l p,u≠.tbl l p)->b≠P:=λ{b u} e n z=>by grind
 have nc:∀{b u},H b=U u->b≠c':=λ{b u} e z=>by lia
 have n0:∀{b},H b=M->b≠P:=λ{b} e z=>by lia
 obtain⟨MF,oc,vs,t,e2,OM,hd,hv⟩:=NL;cases e2;refine⟨I.un ⟨λb o e n _ _=>hx b o (n0 n) e,λb o e n _ _=>⟨o.slots,hx b o (n0 n) e⟩,λb o e n _=>?_,λb o e _=>?_,λb xs e=>?_,λb o u e=>?_,λb l p e=>?_⟩ λb u q=>?_,λb o n e=>?_,λb l p e=>?_⟩;rw[O b (n0 n) (ZA (ZC (Z1 e) Nq))];exact n;by_cases hb:b=P
 .simp_all
 exact⟨o,hx b o hb e⟩;rw[O b (nP e λl p z=>by trivial) (nc e)];exact e;rw[O b (nP e λl p z=>by trivial) (nc e)];exact e;by_cases hb:b=P;subst hb;rw[hP]at e;cases e;exact⟨_,Z⟩
 simp_all
 by_cases T3:b=c';subst T3;rw[ah]at q;obtain rfl:=Z7 q;exact⟨oc,OM⟩;by_cases hb:b=P;subst hb;rw[Z]at q;obtain rfl:=Z7 q;obtain⟨e1,tr,rc⟩:=I.hok b _ hP;refine⟨OH,by rw[XE];exact TriplesOk_snoc _ _ _ _ tr,λpos' cv e=>?_⟩;rw[XE]at e;rcases pY _ tr e with e|e;obtain⟨c2,o2,v2,t2,z1,z2,z3,z4⟩:=rc pos' cv e;have m1:=nP z2 λl p z=>by trivial
 exact⟨c2,o2,v2,t2,z1,by rw[O c2 m1 (nc z2)];exact z2,hx _ _ m1 z3,z4⟩;subst e;exact⟨c',oc,vs,t,rfl,ah,OM,hd,hv⟩;rw[O b hb T3]at q;refine(I.hok b u q).abm (λd v hd r=>hx d v ?_ r) (λd r=>by rw[O d (nP r λl p z=>by trivial) (nc r)];exact r) λd xs r=>by rw[O d (nP r λl p z=>by trivial) (nc r)];exact r
 lia;rw[O b (nP e λl p z=>by subst z;trivial) (nc e)];exact e;by_cases hb:b=P;subst hb;rw[hP]at e;cases e;exact⟨_,Z⟩
 simp_all
def wq(I:Inv X pins σ H s)(hP:(P,lq)∈Lams.tb)(hq:X.env.qual++"<lambda>"=lq)(hC:W.CodeHd X.base c P)(Ks:X.env.code=.ref c)(Kr:closureFor scope X.env=pure [])(NR:defaultsOf params X.env=([],[]))(h:∀f c' pm Z h' O H' ps,Inv X ((f,W.kla_obj "<lambda>" lq params body scope [] pm c' Z)::pins) σ H' {s with heap:=h',toks:=O}->aab H H'->H' P=U (.tbl lq ps)->codeAmong pos ps.toList=U (.ref c')->
   Q (.ref f) {s with heap:=h',toks:=O}):wpAny (model X.prog X.w) X.A (eval (.Lambda params body scope pos) X.env) Q E s:=by
 refine W.kla_eval NR ?_;rw[hq];obtain⟨ps,KJ⟩:=(I.ok.tabs.to I.base.aa8) (P,lq) hP;obtain⟨e1,tr,rc⟩:=I.hok P _ KJ;have hg:s.heap.Ns mainGlobals X.mg:=I.mod.glob.keeps I.bk;have hgP:mainGlobals≠P:=λz=>by
  obtain⟨o,es,ep,e,d,_⟩:=hg;lia
 obtain⟨bm,ob,b1,b2,b3,b4,b5,b6⟩:=I.mod.bmain;have Uo:=I.bk _ _ b3;have T4:bm≠P:=λz=>by lia
 have T5:bm≠mainGlobals:=λz=>by
  obtain⟨o,es,ep,e,d,_⟩:=hg;lia
 have fin:∀{H':Hp}{h1:Heap}{O:Nat}{o:Obj},Inv X pins σ H' {s with heap:=h1,toks:=O}->(∀v,o.data≠.cell v)->o.isFreed=Y->Inv X ((h1.objs.size,o)::pins) σ H' {s with heap:=h1.push o,toks:=O}:=λ{H' h1 O o} I1 TH VU=>by
  have I2:Inv X pins σ H' {s with heap:=h1.push o,toks:=O}:=I1.kept (h':=h1.push o) λb u e=>Z5 _ e;refine I2.aaL λp hp=>?_;rcases ZT.mp hp with rfl|hp
  exact⟨ZX _ VU,I1.hok.fresh (ZU _),Nat.ne_of_gt I1.lt,I1.acn (ZU _),TH⟩;exact I2.pin p (ZJ _ hp)
 cases hf:codeAmong pos ps.toList with
 |none=>
  refine W.kla_makeFunction (mg:=X.mg) Kr I.ok.glob hg Ks (hC.keeps I.bk) e1 tr hf hgP ⟨bm,ob,b1,b2,T5,T4,Uo,b4,b5,b6⟩ λc' Z h' O hx Nq d_ NL OH=>?_;obtain⟨I1,s1⟩:=I.grow (t':=O) KJ hx Nq d_ NL OH;have hc:H c'=M:=I.hok.fresh Nq;have Rt:P≠c':=λz=>by lia
  exact h _ c' _ Z _ O _ _ (fin I1 (λv z=>by trivial) rfl) s1 (by rw[aj Rt,ah]) (by rw[XE];exact codeAmong_snoc _ tr hf)
 |some cv=>
  obtain⟨c',oc,vs,t,rfl,o1,o2,o3,o4⟩:=rc pos cv hf;refine W.kla_makeFunctionHit (mg:=X.mg) Kr I.ok.glob hg Ks (hC.keeps I.bk) e1 tr hf ⟨bm,ob,b1,b2,T5,T4,Uo,b4,b5,b6⟩ λZ h' O hk hsz=>?_;exact h _ c' _ Z _ O _ _ (fin (I.kept (h':=h') (t':=O) hk) (λv z=>by trivial) rfl) (aab.refl H) KJ hf
end
def Bc{CX:CXT}{P:Za}{w:Y1}{K:Z4}{mg:Str->Z8 Z3}{base:Heap}{k:Nat}{f c':ZP}{name Z:Str}{params:Arguments}{body:Expr}{O:Scope}{pm M4:Z3}{N ps:Z9 Str}{A:Zj}{outer:Z9 Env}{s:ZV}{H:Hp}
  {args:Args}{us:Z9 Z3}{vs:Z9 V}{Q:VK}{E:XK}(hr:aaq (k+1) A) (e0:abr P w K mg base A outer s H) (hf:s.heap.get? f=U (W.kla_obj name Z params body O [] pm c' M4)) (hc:s.heap.CodeRec (.ref c') Z) (S:aaC N ps O)
  (hb:BindsTo s (W.kla_fn name Z params body O [] pm (.ref c') M4) args (ps.zip us)) (r:aac vs us) (hl:vs.length=ps.length)
  (KZ:aaq k (A.deeper (envOfC Z O s.z f (.ref c')))->∃t,PE (qY CX P w K mg base N Z O f (.ref c') A outer s H E) body t/\t (dm N vs) H Q):
  codeAny (model P w) A (.call (.ref f) args) (CR CX outer P w H s Q E) s:=by
 have lim:s.heap.NoLimit:=e0.mod.nolimit.keeps λb o e=>(e0.bs b o e).1;have Mg:∀y∈ps.zip us,O.names.lookup y.1=U .local\/(O.names.lookup y.1=U .cell/\((cellsFrom (s.z+1) O.names []).lookup y.1).isSome=L):=λ⟨n,v⟩ hy=>by
  rcases S.par n (WJ hy).1 with q|q;exact .inl q;exact .inr ⟨q,WV _ _ _ (.inl q)⟩
 refine W.kla_callFunE hr.depth hf rfl S.co S.gen rfl hc (hb _ _ _ _ ?_);refine wpAny_newFunctionEnv_cells S.kind Mg λenv he s1 x=>?_;subst he;refine⟨lim.keeps x.toInCall.keep,W.kla_codeExpr ?_⟩;obtain⟨t,ht,hq⟩:=KZ (hr.deeper _);have I:Inv (qY CX P w K mg base N Z O f (.ref c') A outer s H E) [] (dm N vs) H s1:=kL S hr.hd e0 hl r x;exact YS (ht [] s1 (dm N vs) H _ I hq) (λu s' hz=>by obtain⟨v,H',J,rv,q⟩:=hz;exact⟨v,H',J.os,J.bare,J.base,J.hok,rv,q⟩) λe s' hs=>hs
section
def xL{k:Nat}{f c' P:ZP}{lq:Str}{QC:Array Z3}{Z:Arguments}{body:Expr}{O:Scope}{pos:Pos}{pm M4:Z3}{N ps:Z9 Str}{us:Z9 Z3}{vs:Z9 V}{Q:VK}{A:Zj}{E:Z3->ZV->Prop}
  (I:Inv X pins σ H s) (hA:aaq (k+1) A) (hE:abr X.prog X.w X.K X.mg X.base X.A X.stack s H->abr X.prog X.w X.K X.mg X.base A X.stack s H) (hf:(f,W.kla_obj "<lambda>" lq Z body O [] pm c' M4)∈pins) (hP:H P=U (.tbl lq QC)) (Rr:codeAmong pos QC.toList=U (.ref c')) (S:aaC N ps O)
  (hb:BindsTo s (W.kla_fn "<lambda>" lq Z body O [] pm (.ref c') M4) ⟨us,[]⟩ (ps.zip us)) (r:aac vs us) (hl:vs.length=ps.length)
  (KZ:aaq k (A.deeper (envOfC lq O s.z f (.ref c')))->∃t,PE (qY CX0 X.prog X.w X.K X.mg X.base N lq O f (.ref c') A X.stack s H (λ_ _ _=>False)) body t/\t (dm N vs) H Q):
  wpAny (model X.prog X.w) A (call (.ref f) us) (EP X pins σ Q) E s:=by
 obtain⟨e1,tr,rc⟩:=I.hok P _ hP;obtain⟨c2,oc,US,t2,z1,z2,z3,z4,z5⟩:=rc pos _ Rr;cases z1;refine wpAny_call (W2 (Bc (CX:=CX0) hA (hE I.acG) (I.pin _ (ZJ _ hf)).1 ⟨c',oc,US,t2,rfl,z3,z4,z5⟩ S hb r hl KZ) λr s' hq=>?_);cases r with
 |error e=>trivial
 |ok fl=>
  cases fl with
  |ret u=>exact I.after hq
  |next=>assumption
  |brk=>assumption
  |cont=>assumption
end
section
def Inv.abW(I:Inv X pins σ H s)(f:d8 X pins H a)(hs:X.e_.z<=a)(new:aaj X.prog X.w (upd H a o) s.heap a o):Inv X pins σ (upd H a o) s:=by
 have O:=f.1;refine⟨I.ok,I.os,I.bare,⟨I.base.keep,I.base.slot,λb ob e n hx=>?_,I.base.there,λb xs e=>?_,λb ob u e=>?_,λb lq ps e=>?_⟩,I.loc,I.cell,?_,λx c e=>?_,λp hp=>?_,λb u q=>?_,I.len⟩;rw[aj (ZA (ZC (Z1 e) hs))];exact I.base.free b ob e n hx;have z:=I.base.aaY b xs e;rw[aj (aw z O)];exact z;have z:=I.base.aaU b ob u e;rw[aj (aw z O)];exact z;obtain⟨m,z⟩:=I.base.aa8 b lq ps e;exact⟨m,by rw[aj (aw z O)];exact z⟩;rw[aj (ZF f.2.1)];exact I.free;rw[aj (f.2.2.2.2.1 x c e)];exact I.aaR x c e;obtain⟨p1,p2,Z⟩:=I.pin p hp;exact⟨p1,by rw[aj (f.2.2.2.2.2 p hp)];exact p2,Z⟩;by_cases hb:b=a
 .simp_all [ah]
 rw[aj hb]at q;exact(I.hok b u q).abm (λ_ _ _ r=>r) (λd r=>by rw[aj (aw r O)];exact r) λd xs r=>by rw[aj (aw r O)];exact r
def Aq(O vs:Array Z3)(h:O.size=vs.size):(O.zip vs).map (·.2)=vs:=by
 apply Array.ext;simp[h];intro i h1 Z;simp
noncomputable def hW(h:Heap)(vs:Z9 Z3):Heap:=Heap.push (Heap.update (h.push (seqObj "list" #[] 0)) h.objs.size (Obj.mapSeq (· ++vs.toArray))) (seqObj "list" vs.toArray 0)
def uO(h:Heap)(vs:Z9 Z3):(Heap.update (h.push (seqObj "list" #[] 0)) h.objs.size (Obj.mapSeq (· ++vs.toArray))).objs.size=h.objs.size+1/\(hW h vs).objs.size=h.objs.size+2/\
  (hW h vs).get? (h.objs.size+1)=U (seqObj "list" vs.toArray 0)/\∀b o,h.get? b=U o->(hW h vs).get? b=U o:=by
 have e:(Heap.update (h.push (seqObj "list" #[] 0)) h.objs.size (Obj.mapSeq (· ++vs.toArray))).objs.size=h.objs.size+1:=by
  rw[XR,size_push']
 refine⟨e,by unfold hW;simp,?_,λb o q=>?_⟩;rw[<-e];exact ZX _ rfl;exact Z5 _ ((Heap.get?_update_ne _ _ _ _ (ZA (Z1 q))).trans (Z5 _ q))
end
end L2
namespace L2
open PySem PySem.Spec PyProof.Rows PySem.W
noncomputable def B3{O:Type}(lt:Nat->Nat->Bool):KasT O->O
 |.ret a=>a
 |.ask i j k=>B3 lt (k (lt i j))
noncomputable def AV(n:Nat):KasT (Array Nat)->Bool
 |.ret a=>a.toList.isPerm (List.range n)
 |.ask i j k=>decide (i<n)&&decide (j<n)&&(AV n (k L)&&AV n (k Y))
theorem gw(lt:Nat->Nat->Bool):∀t:KasT (Array Nat),AV n t=L->(B3 lt t).toList.Perm (List.range n)
 |.ret a,h=>List.isPerm_iff.mp h
 |.ask i j k,h=>by
  simp only[AV,ZQ]at h;unfold B3;cases lt i j with
  |true=>exact gw lt _ h.2.1
  |false=>exact gw lt _ h.2.2
theorem za(hc:∀i j C,i<n->j<n->C (lt i j) s->cmp i j C s):∀t:KasT (Array Nat),AV n t=L->Q (B3 lt t) s->t.kasWp cmp Q s
 |.ret a,_,h=>h
 |.ask i j k,h,h'=>by
  simp only[AV,ZQ,Zw]at h;refine hc i j _ h.1.1 h.1.2 (za hc (k (lt i j)) ?_ h');cases lt i j with
  |true=>exact h.2.1
  |false=>exact h.2.2
def nW:∀{n:Nat},n<5->AV n (kas_sort n)=L
 |0,_=>by kernel_rfl
 |1,_=>by kernel_rfl
 |2,_=>by kernel_rfl
 |3,_=>by kernel_rfl
 |4,_=>by kernel_rfl
 |n+5,h=>absurd h (by lia)
variable[Lams]
noncomputable def ltK(ks:Z9 Int)(i j:Nat):Bool:=decide (ks.getD i 0<ks.getD j 0)
noncomputable def i6(ks:Z9 Int):Z9 Nat:=if ks.length<2 then List.range ks.length else(B3 (ltK ks) (kas_sort ks.length)).toList
def gx(h:ks.length<5):(i6 ks).Perm (List.range ks.length):=by
 unfold i6;split;rfl;exact gw _ _ (nW h)
noncomputable def bT(vs:Z9 Z3)(p:Z9 Nat):Z9 Z3:=p.map λi=>vs.getD i Value.none
section
theorem cr(m:Z9 Z3):∀(l:Z9 Z3),codeAmong pos l=U c->codeAmong pos (l++m)=U c
 |.int O t::.int Z u::x::av,h=>by
  simp only[List.cons_append,codeAmong]at h⊢;split at h;rename_i q;rw[ZM q];exact h;rename_i q;rw[ZH q];exact cr m av h
 |[],h=>by trivial
 |[_],h=>by simp[codeAmong]at h
 |[_,_],h=>by simp[codeAmong]at h
 |a::b::x::av,h=>by
  unfold codeAmong at h;split at h;rename_i q;cases q;show codeAmong pos (_::_::_::(av++m))=_;unfold codeAmong;split at h;rename_i q;rw[ZM q];exact h;rename_i q;rw[ZH q];exact cr m av h;trivial
theorem cP:∀{us:Z9 Z3}{ks:Z9 Int}{i:Nat},IntsAre us ks->i<us.length->∃t,us.getD i Value.none=.int (ks.getD i 0) t
 |_,_,i,.nil,h=>by simp at h
 |_,_,0,.cons n t h,_=>⟨t,rfl⟩
 |_,_,i+1,.cons n t h,O=>by simpa using cP (i:=i) h (by simp_all)
def vh{A:Zj}{E:Z3->ZV->Prop}{Z D:ZP}{O:Array Z3}{e e1:Nat}{vs:Z9 Z3}{ks:Z9 Int}{P:PySem.Fin->ZV->Prop}(J:Inv X ((Z,seqObj "list" O e)::(D,seqObj "list" #[] e1)::pins) σ H s)
  (fk:d8 X pins H Z) (fD:d8 X pins H D) (sk:X.e_.z<=Z) (sD:X.e_.z<=D) (Qi:Z≠D) (hk:IntsAre O.toList ks) (hl:vs.length=ks.length) (Lo:vs.length<5) {ys:Z9 V}(rv:aac ys (bT vs (i6 ks)))
  (h:∀h' tk,Inv X pins σ (upd H D (.lst ys)) {s with heap:=h',toks:=tk}->P (.done (.ret .none)) {s with heap:=h',toks:=tk}):
  wpAny (model X.prog X.w) A (ksk_end D Y vs.toArray e1 (.ref Z) O) P E s:=by
 have nk:=J.pin (Z,seqObj "list" O e) (ZJ _ (.head _));have nD:=J.pin (D,seqObj "list" #[] e1) (ZJ _ (.tail _ (.head _)));have hz:(64:Nat)<=sizeLine:=by rw[X_];lia
 have Nk:O.size=vs.length:=by have:=hk.length;rw[Array.length_toList]at this;lia
 have I0:Inv X pins σ H s:=J.aaL λp hp=>J.pin p (ZJ _ (.tail _ (.tail _ hp)));have s1:=Zn s.heap Z (Obj.mapSeq λ_=>(#[]:Array Z3));have QV:(s.heap.update Z (Obj.mapSeq λ_=>(#[]:Array Z3))).get? D=U (seqObj "list" #[] e1):=(s1.2 D (ZF Qi)).trans nD.1;have EV:(bT vs (i6 ks)).length=vs.length:=by unfold bT;rw[ZW,(gx (ks:=ks) (by lia)).length_eq,Xs];lia
 have tail:∀st:SortSt,(arrOf st).map (·.2)=(bT vs (i6 ks)).toArray->failedOf st=M->wpAny (model X.prog X.w) A (ksk_tail D Y e1 (.ref Z) st) P E s:=by
  intro st es hf;unfold ksk_tail
  try dsimp only
  refine Z_ (XD nk.1 rfl ?_ (by rw[Nk];lia) (Zm _));refine Z_ (Yj ?_);refine Z_ (seqEpoch_at QV rfl ?_);rw[es,hf];refine Z_ (XD QV rfl ?_ (Zm _) (by simp only[ZE,YO];rw[ZI,EV];lia));simp only[bne_self_eq_false,ZE,YO];refine Z6 (h _ s.toks ?_);have I1:Inv X pins σ H {s with heap:=s.heap.update Z (Obj.mapSeq λ_=>(#[]:Array Z3)),toks:=s.toks}:=I0.turned (it:=Z) (λb o hb q=>(s1.2 b hb).trans q) fk.1 fk.2.1 (.inr sk) fk.2.2.2.2.1 fk.2.2.2.2.2;have s2:=Zn (s.heap.update Z (Obj.mapSeq λ_=>(#[]:Array Z3))) D (Obj.mapSeq λ_=>(bT vs (i6 ks)).toArray);have I2:Inv X pins σ H {s with heap:=(s.heap.update Z (Obj.mapSeq λ_=>(#[]:Array Z3))).update D (Obj.mapSeq λ_=>(bT vs (i6 ks)).toArray),toks:=s.toks}:=Inv.turned (s:={s with heap:=s.heap.update Z (Obj.mapSeq λ_=>(#[]:Array Z3)),toks:=s.toks}) (it:=D) I1 (λb o hb q=>(s2.2 b hb).trans q) fD.1 fD.2.1 (.inr sD) fD.2.2.2.2.1 fD.2.2.2.2.2;exact I2.abW fD sD ⟨by rw[rv.length,EV];lia,_,_,rv,Xi QV λ_=>(bT vs (i6 ks)).toArray⟩
 unfold ksk_end;simp only[ZE,YO];by_cases h2:vs.toArray.size<2;rw[ZM h2,ZM h2];refine Z_ (Z6 ?_);refine tail _ ?_ rfl;rw[ZI]at h2;have e0:(arrOf (SortSt.mk' general' (O.zip vs.toArray) #[] 7 M)).map (·.2)=vs.toArray:=Aq O vs.toArray (by assumption);rw[e0];unfold i6;rw[ZM (by lia),<-hl];clear tail h rv EV e0 J
 match vs,h2 with
 |[],_=>rfl
 |[v],_=>rfl
 rw[ZH h2,ZH h2];rw[ZI]at h2;have O5:2<=vs.length:=by lia
 have OR:keyKind' O=pure oneType':=by
  have e0:O=O.toList.toArray:=by simp
  rw[e0];have lk:2<=O.toList.length:=by rw[Array.length_toList];lia
  generalize O.toList=us at hk lk
  match us,hk,lk with
  |v1::v2::r,hk,_=>exact keyKind_ints hk
 rw[OR];refine Z_ (Z6 ?_);have U2:=nW Lo;have Qh:O.toList.length=vs.length:=by rw[Array.length_toList];exact Nk
 have run:=kat_run (prog:=X.prog) (w:=X.w) (A:=A) (E:=E) (s:=s) (κ:=oneType') (vs:=vs) (ks:=O.toList) (Q:=λo_ s'=>s'=s/\(arrOf o_).map (·.2)=(bT vs (i6 ks)).toArray/\failedOf o_=M)
  (G:=λp s'=>s'=s/\p=B3 (ltK ks) (kas_sort vs.length)) Qh O5 (by lia) (λp o_ s' hp har hf ⟨e1,e2⟩=>⟨e1,by
   rw[kat_snds Qh har,e2];unfold i6 bT;rw[ZH (by lia),<-hl],hf⟩)
  (za (λi j C hi hj hC=>by
   obtain⟨t1,q1⟩:=cP hk (i:=i) (by lia);obtain⟨t2,q2⟩:=cP hk (i:=j) (by lia);unfold kas_ask;rw[q1,q2,keyLt'_oneType];exact oneLt_int hC) _ U2 ⟨rfl,rfl⟩)
 have ez:O.toList.toArray.zip vs.toArray=O.zip vs.toArray:=by simp
 refine Z_ (YS run ?_ λ_ _ e=>e)
 simp_all
def nF{A:Zj}{E:Z3->ZV->Prop}{l f:ZP}{vs:Z9 Z3}{xs ys:Z9 V}{ks:Z9 Int}{Q:Z3->ZV->Prop}{T:Hp->Prop}(I:Inv X pins σ H s)(hl:s.heap.IsList l vs.toArray)(rv:aac xs vs)(Lo:vs.length<5)(Nk:vs.length=ks.length)(t0:T H)
  (turn:∀(Ki:Z9 (ZP×Obj))(s':ZV)(H':Hp)(i:Nat)(u:Z3)(v:V)(k:Int),vs[i]?=U u->xs[i]?=U v->ks[i]?=U k->(∀p∈pins,p∈Ki)->T H'->Inv X Ki σ H' s'->wpAny (model X.prog X.w) A.in1.in1 (call (.ref f) [u]) (EP X Ki σ λy My=>y=V.int k/\T My) (λ_ _=>False) s')
  (Q3:aac ys (bT vs (i6 ks)))
  (h:∀D H' s',Inv X pins σ (upd H' D (.lst ys)) s'->T H'->H' D=M->Q (.ref D) s'):
  wpAny (model X.prog X.w) A (call (.builtin "sorted") [.ref l] [(Str.ofString "key",.ref f)]) Q E s:=by
 have hz:(64:Nat)<=sizeLine:=by rw[X_];lia
 refine call_function_entry_kw kind_sorted Wj Wi (ksk_s1 _ _) ?_;unfold Builtin.«sorted»;refine Z_ (m:=checkCount "sorted" 1 1 _) (Z6 ?_);refine Z_ (collect_list hl ?_ (by lia));refine Z_ (WG ?_ (by lia));obtain⟨n1,n2,n3,n4⟩:=uO s.heap vs;rw[n1];show wpAny _ _ _ _ _ {s with heap:=hW s.heap vs};generalize hW s.heap vs=g at n2 n3 n4⊢;have Ni:=n3;have keep:=n4;have Rl:g.objs.size=s.z+2:=n2;generalize hD:s.z+1=D at Ni⊢;have Qr:s.z<=D:=by lia
 refine Z_ (Zl (wpAny_call_entry_kw slot_list_sort ⟨_,Ni,rfl⟩ entry_list_sort ?body (ksk_l1 _ _)));show wpAny (model X.prog X.w) A.in1.in1 (Builtin.«list.sort» ⟨[.ref D],[(Str.ofString "key",.ref f)]⟩) _ _ _;rw[ksk_t1];have s1:=Zn g D (Obj.mapSeq λ_=>(#[]:Array Z3));obtain⟨e1,ON⟩:∃e1,(g.update D (Obj.mapSeq λ_=>(#[]:Array Z3))).get? D=U (seqObj "list" #[] e1):=⟨_,Xi Ni λ_=>#[]⟩
 unfold ksk_tree;refine Z_ (Xa Ni rfl ?_);refine Z_ (XD Ni rfl ?_ (by rw[ZI];lia) (Zm _));refine Z_ (seqEpoch_at ON rfl ?_);refine Z_ (Wk ?_ (by show vs.length<=_;lia));refine Z_ (WG ?_ (Zm _));refine Zl ?_;have hgD:(g.update D (Obj.mapSeq λ_=>(#[]:Array Z3))).objs.size=s.z+2:=by rw[XR,Rl]
 have Wa:((g.update D (Obj.mapSeq λ_=>(#[]:Array Z3))).push (seqObj "tuple" vs.toArray 0)).objs.size=s.z+3:=by rw[size_push',hgD]
 generalize V_:((g.update D (Obj.mapSeq λ_=>(#[]:Array Z3))).push (seqObj "tuple" vs.toArray 0)).objs.size=kS at Wa;have gk:(((g.update D (Obj.mapSeq λ_=>(#[]:Array Z3))).push (seqObj "tuple" vs.toArray 0)).push (seqObj "list" #[] 0)).get? kS=U (seqObj "list" #[] 0):=by rw[<-V_];exact ZX _ rfl
 have gD:(((g.update D (Obj.mapSeq λ_=>(#[]:Array Z3))).push (seqObj "tuple" vs.toArray 0)).push (seqObj "list" #[] 0)).get? D=U (seqObj "list" #[] e1):=Z5 _ (Z5 _ ON);have Lr:∀b o,s.heap.get? b=U o->(((g.update D (Obj.mapSeq λ_=>(#[]:Array Z3))).push (seqObj "tuple" vs.toArray 0)).push (seqObj "list" #[] 0)).get? b=U o:=λb o q=>
  Z5 _ (Z5 _ ((s1.2 b (ZA (ZC (Z1 q) Qr))).trans (keep b o q)))
 generalize hg2:((g.update D (Obj.mapSeq λ_=>(#[]:Array Z3))).push (seqObj "tuple" vs.toArray 0)).push (seqObj "list" #[] 0)=g2 at gk gD Lr;have fk:d8 X pins H kS:=I.abg (by lia) (I.hok.fresh (by lia));have fD:d8 X pins H D:=I.abg Qr (I.hok.fresh Qr);have sk:X.e_.z<=kS:=ZL I.sz (by lia);have sD:X.e_.z<=D:=ZL I.sz Qr;have Qi:kS≠D:=by lia
 have I1:Inv X pins σ H {s with heap:=g2,toks:=s.toks}:=I.kept (h':=g2) Lr;have I2:Inv X ((kS,seqObj "list" #[] 0)::(D,seqObj "list" #[] e1)::pins) σ H {s with heap:=g2,toks:=s.toks}:=I1.aaL λp hp=>by
  rcases ZT.mp hp with rfl|hp;exact⟨gk,fk.1,fk.2.1,fk.2.2.1,λv z=>by cases z⟩;rcases ZT.mp hp with rfl|hp;exact⟨gD,fD.1,fD.2.1,fD.2.2.1,λv z=>by cases z⟩;exact I1.pin p (ZJ _ hp)
 show wpAny (model X.prog X.w) A.in1.in1 (ksk_rest D (.ref f) Y vs.toArray e1 _) _ _ {s with heap:=_,toks:=s.toks};unfold ksk_rest;refine Z_ (YE ?_);rw[List.forIn_toArray];have hP:∀h' tk H',Inv X pins σ (upd H' D (.lst ys)) {s with heap:=h',toks:=tk}->True:=λ_ _ _ _=>trivial;refine Z_ (X8 _
  (λav _ s'=>∃(i:Nat)(kA:Array Z3)(c:Nat)(H':Hp),av=vs.drop i/\i<=vs.length/\IntsAre kA.toList (ks.take i)/\T H'/\d8 X pins H' kS/\d8 X pins H' D/\Inv X ((kS,seqObj "list" kA c)::(D,seqObj "list" #[] e1)::pins) σ H' s') _ ?step ?fin _ _ ⟨0,#[],0,H,by simp,Zm _,by simpa using IntsAre.nil,t0,fk,fD,I2⟩)
 case step=>
  rintro u av b s' ⟨i,kA,c,H',hr,hi,Nl,tH,Ug,RD,J⟩
  have d_:i<vs.length:=by
   rcases WO i vs.length with q|q;exact q;rw[WM q]at hr;trivial
  rw[Zo d_]at hr;obtain⟨rfl,rfl⟩:=Yo hr;have hu:vs[i]?=U vs[i]:=by simp[d_]
  obtain⟨v,hv⟩:∃v,xs[i]?=U v:=⟨xs[i]'(by rw[rv.length];exact d_),by simp[rv.length,d_]⟩
  have TN:i<ks.length:=by lia
  refine Z_ (XY (YS (turn _ s' H' i vs[i] v ks[i] hu hv (by simp[TN]) (λp hp=>.tail _ (.tail _ hp)) tH J) (λy Z he=>?_) λ_ _ hF=>hF.elim));obtain⟨yv,My,J',ry,rfl,UY⟩:=he;obtain⟨t,rfl⟩:=ry;have nk:=J'.pin (kS,seqObj "list" kA c) (ZJ _ (.head _));have nD:=J'.pin (D,seqObj "list" #[] e1) (ZJ _ (.tail _ (.head _)));have O:d8 X pins My kS:=⟨nk.2.1,fk.2⟩;have ME:d8 X pins My D:=⟨nD.2.1,fD.2⟩;have J0:Inv X pins σ My Z:=J'.aaL λp hp=>J'.pin p (ZJ _ (.tail _ (.tail _ hp)));have s3:=Zn Z.heap kS (Obj.mapSeq (·.push (.int ks[i] t)));obtain⟨c2,LS⟩:∃c2,(Z.heap.update kS (Obj.mapSeq (·.push (.int ks[i] t)))).get? kS=U (seqObj "list" (kA.push (.int ks[i] t)) c2):=⟨_,Xi nk.1 (·.push (.int ks[i] t))⟩
  have J1:Inv X pins σ My {Z with heap:=Z.heap.update kS (Obj.mapSeq (·.push (.int ks[i] t))),toks:=Z.toks}:=J0.turned (it:=kS) (λb o hb q=>(s3.2 b hb).trans q) O.1 O.2.1 (.inr sk) O.2.2.2.2.1 O.2.2.2.2.2;have J2:Inv X ((kS,seqObj "list" (kA.push (.int ks[i] t)) c2)::(D,seqObj "list" #[] e1)::pins) σ My {Z with heap:=Z.heap.update kS (Obj.mapSeq (·.push (.int ks[i] t))),toks:=Z.toks}:=J1.aaL λp hp=>by
   rcases ZT.mp hp with rfl|hp;exact⟨LS,O.1,O.2.1,O.2.2.1,λv z=>by cases z⟩;rcases ZT.mp hp with rfl|hp;exact⟨(s3.2 D (ZF Qi)).trans nD.1,ME.1,ME.2.1,ME.2.2.1,λv z=>by cases z⟩;exact J1.pin p (ZJ _ hp)
  have hsz:kA.size=i:=by have:=Nl.length;rw[Array.length_toList,X0]at this;lia
  refine Z_ (XD nk.1 rfl ?_ (by rw[hsz];lia) (by show(kA.push _).size<=_;rw[Array.size_push,hsz];lia));refine Z6 ⟨i+1,kA.push (.int ks[i] t),c2,My,rfl,d_,?_,UY,O,ME,J2⟩;rw[Xn,List.take_succ_eq_append_getElem TN];exact Nl.append (.cons _ _ .nil)
 case fin=>
  rintro b s' ⟨i,kA,c,H',hr,hi,Nl,tH,Ug,RD,J⟩
  have Lu:i=vs.length:=by
   rcases WO i vs.length with q|q;rw[Zo q]at hr;trivial;lia
  subst Lu;have nk:=J.pin (kS,seqObj "list" kA c) (ZJ _ (.head _));refine Z_ (Xa nk.1 rfl ?_);rw[Nk,List.take_length]at Nl;exact vh J Ug RD sk sD Qi Nl Nk Lo Q3 λh' tk J3=>⟨_,rfl,Z6 ⟨_,rfl,h D H' _ J3 tH RD.1⟩⟩
end
noncomputable def gV(O:D->Z8 D):Z9 D->Z8 (Z9 Int)
 |[]=>U []
 |d::ds=>match O d,gV O ds with|some (.int i),some l=>U (i::l)|_,_=>M
set_option tactic.hygienic true in
theorem kW:∀{ds:Z9 D}{ks:Z9 Int},gV fk ds=U ks->ds.length=ks.length
 |[],ks,h=>by simp only[gV,ZG]at h;subst h;rfl
 |d::ds,ks,h=>by
  simp only[gV]at h;split at h;rename_i i l Z O;obtain rfl:=Z7 h;simp[kW O];trivial
set_option tactic.hygienic true in
theorem kh:∀{ds:Z9 D}{ks:Z9 Int}{i:Nat}{d:D}{k:Int},gV fk ds=U ks->ds[i]?=U d->ks[i]?=U k->fk d=U (.int k)
 |[],ks,i,d,k,h,hd,hk=>by simp at hd
 |d'::ds,ks,i,d,k,h,hd,hk=>by
  simp only[gV]at h;split at h;rename_i i' l q1 q2;obtain rfl:=Z7 h;cases i with
  |zero=>simp at hd hk;subst hd;subst hk;exact q1
  |succ i=>simp at hd hk;exact kh q2 hd hk
  trivial
noncomputable def pF(ds:Z9 D)(ks:Z9 Int):Z9 D:=(i6 ks).map λi=>ds.getD i .non
noncomputable def iK(x:Z8 D)(fk:D->Z8 D):Z8 D:=match x with
 |some (.lst ds)=>if ds.length<5 then(match gV fk ds with|some ks=>U (.lst (pF ds ks))|none=>M) else M
 |_=>M
set_option tactic.hygienic true in
def lY(h:iK x fk=U d):∃ds ks,x=U (.lst ds)/\ds.length<5/\gV fk ds=U ks/\d=.lst (pF ds ks):=by
 unfold iK at h;split at h;rename_i ds;split at h;rename_i O;split at h;rename_i ks q;obtain rfl:=Z7 h;exact⟨ds,ks,rfl,O,q,rfl⟩;trivial;trivial;trivial
theorem M1.order{K:Z4}{B:ZP->Prop}{H:Hp}{ds:Z9 D}{xs:Z9 V}(r:M1 K B H ds xs):∀(p:Z9 Nat),(∀i∈p,i<ds.length)->M1 K B H (p.map λi=>ds.getD i .non) (p.map λi=>xs.getD i .non)
 |[],_=>M1.nil
 |i::p,h=>by
  have hi:=h i (ZR ..);have hd:ds[i]?=U ds[i]:=by simp[hi]
  obtain⟨x,Z,O⟩:=r.get hd;refine M1.cons ?_ (M1.order r p λj hj=>h j (ZY _ hj));dsimp only;rw[Zf,Zf,hd,Z];exact O
theorem aac.order(r:aac xs us):∀(p:Z9 Nat),(∀i∈p,i<xs.length)->aac (p.map λi=>xs.getD i .non) (bT us p)
 |[],_=>.nil
 |i::p,h=>by
  have hi:=h i (ZR ..);have O:xs[i]?=U xs[i]:=by simp[hi]
  obtain⟨u,hu,Z⟩:=r.get O;refine .cons ?_ (aac.order r p λj hj=>h j (ZY _ hj));dsimp only;rw[Zf,Zf,O,hu];exact Z
section
variable{X:Cx}{a Lp:Expr}{fa fb:iv->Z8 D}{params:Arguments}{A_:Scope}{Po kp pos p:Pos}{c P:ZP}{lq x:Str}{k:Nat}
theorem m5(hr:aaq (k+3) X.A)(g:Gl X "sorted")(hm:X.mg "sorted"=M)(hP:(P,lq)∈Lams.tb)(hq:X.env.qual++"<lambda>"=lq)(hC:W.CodeHd X.base c P)(Ks:X.env.code=.ref c)(Kr:closureFor A_ X.env=pure [])(NR:defaultsOf params X.env=([],[]))
  (S:aaC [x] [x] A_) (Mh:∀(s:ZV)(u pm M4:Z3)(c':ZP),BindsTo s (W.kla_fn "<lambda>" lq params Lp A_ [] pm (.ref c') M4) ⟨[u],[]⟩ [(x,u)])
  (hb:∀(f c':ZP)(A:Zj)(s:ZV)(H:Hp),aaq k (A.deeper (envOfC lq A_ s.z f (.ref c')))->DE (qY CX0 X.prog X.w X.K X.mg X.base [x] lq A_ f (.ref c') A X.stack s H (λ_ _ _=>False)).nox Y Lp fb)
  (ha:DE X Y a fa)(hs:starEach [a] X.env=(Y,eval a X.env)::starEach [] X.env:=by rfl):
  DF X (.Call (.Name "sorted" p) [a] [⟨U "key",.Lambda params Lp A_ Po,kp⟩] pos) (λq=>iK (fa q) λd=>fb [U (d,Y)]):=by
 intro pins s σ H Q I Q_;obtain⟨B,Hk,q,d,R,e,kk⟩:=Q_;obtain⟨ds,ks,Oj,hlen,MC,rfl⟩:=lY e;refine YD (cF I g hm cJ ?_ (by decide) (by decide));refine callWith_kw (thn ((au ha aM hs) pos pins s σ H (λvs H1=>∃v,vs=[v]/\aab H H1/\Rep X.K B H1 (.lst ds) v) I ⟨B,Hk,q,_,R,Oj,λv H1 s1 r1=>⟨v,rfl,s1,r1⟩⟩) λus s1 ⟨vs,H1,I1,r1,v,hv,sm,rp⟩=>?_) ?_ ?_ rfl rfl;subst hv;obtain⟨u,rfl,ru⟩:=fq r1;show wpAny _ _ (evalAll [do let v <-eval (.Lambda params Lp A_ Po) X.env;standAt pos;pure v]) _ _ _;unfold evalAll;refine Z_ (Z_ (wq I1 hP hq hC Ks Kr NR λf c' pm M4 h' tk H2 QC I2 Z hH2 Rr=>Z_ (wpAny_standAt (Z6 ?_))));unfold evalAll;refine Z_ (Zl (Z6 (Z6 ?_)));have R1:Rel X.K B Hk q σ H1:=R.to sm;have MQ:Rep X.K B H2 (.lst ds) v:=rp.ext (Z.ext R1.abo);simp only[Rep]at MQ;obtain⟨l,xs,rfl,Nj,rs⟩:=MQ;cases ru;obtain⟨its,hv,hp,hz⟩:=I2.list Nj.sq;have l1:=rs.length;have l2:=hv.length;have l3:=kW MC;have hpl:∀i∈i6 ks,i<ds.length:=λi hi=>by
  have:=(gx (ks:=ks) (by lia)).mem_iff.mp hi;rw[Zk]at this;lia
 show wpAny (model X.prog X.w) X.A (call (.builtin "sorted") [.ref l] [(Str.ofString "key",.ref f)]) _ _ _;have R2:Rel X.K B Hk q σ H2:=R1.to Z;refine nF (ks:=ks) (T:=λH'=>aab H2 H') I2 (let ⟨o,n,ho,hc,_,hd⟩:=hp;⟨o,ho,hc,n,hd⟩) hv (by lia) (by lia) (aab.refl H2) (λKi s' H' i u' v' k' e1 e2 e3 sub O I'=>?_) (hv.order (i6 ks) λi hi=>by have:=hpl i hi;lia) λD H' s' J O hD=>?_;have hi:i<ds.length:=by have:=(ZO.mp e2).1;lia
 have hd:ds[i]?=U ds[i]:=by simp[hi]
 obtain⟨y,hy,ry⟩:=rs.get hd;rw[e2]at hy;obtain rfl:=Z7 hy;obtain⟨w',hw,Kk⟩:=hv.get e2;rw[e1]at hw;obtain rfl:=Z7 hw;have t_:=kh MC hd e3;have bo:∀a,B a->∃o:HOn,H' a=U o.1:=(R2.to O).abo;obtain⟨more,hH3⟩:=O.tbl _ _ _ hH2;refine xL I' hr.in1.in1 (λe=>e.in1.in1) (sub _ (.head _)) hH3 (by rw[XE];exact cr _ _ Rr) S (Mh _ _ _ _ _) (.cons Kk .nil) rfl λhR=>⟨_,(hb f c' _ _ _ hR).nox,B,H',[U (ds[i],Y)],.int k',kX (N:=[x]) (ds:=[ds[i]]) bo (M1.cons (ry.ext (R2.ext O)) M1.nil) (ZU _),t_,λv My s r=>⟨?_,O.trans s⟩⟩
 simp only[Rep]at r;exact r;have tD:H D=M:=(sm.trans (Z.trans O)).free hD;refine⟨.ref D,_,J.aaL λp hp=>J.pin p (ZJ _ (.tail _ hp)),rfl,kk D _ ((sm.trans (Z.trans O)).trans (ar hD)) tD ⟨_,ah,(rs.order (i6 ks) hpl).ext ((R2.ext O).trans ((R2.to O).ext (ar hD)))⟩⟩;rw[hs];rfl;rw[hs];rfl
end
section
open PySem.SeqAt
open PySem.AutoSeq1 (wpAny_loadPart')
open PySem.MeetsSeq PySem.MeetsSeq2 PySem.MeetsSeq3
def vK(l b:ZP)(v w:Z3)(vs ws:Z9 Z3)(n n2:Nat)(dd Kt:Z8 ZP)(sl O:Array (Z8 Z3)):
  Meets (Builtin.«tuple.__eq__» ⟨[.ref l,.ref b],[]⟩)
   (λA R s=>s.heap.get? l=U {cls:=.type "tuple",dict:=dd,data:=.seq (v::vs).toArray n,slots:=sl}/\s.heap.get? b=U {cls:=.type "tuple",dict:=Kt,data:=.seq (w::ws).toArray n2,slots:=O}/\
    EqAt A.in1 s v w Y/\R (.ok (.ret (.bool Y))) s):=
 .of_wp λprog w' A R s h=>by
  obtain⟨hp,g,d,tk,os⟩:=s;obtain⟨hl,hb,he,h⟩:=h;have f2:=AutoSeq1.sub_tuple_tuple
  wp_walk using wpAny_loadPart' hl,wpAny_loadPart' hb,X8 _ (λav b s'=>b.1=M/\s'=⟨hp,g,d,tk,os⟩/\av=(v::vs).zip (w::ws)) _
  case turn=>
   rintro⟨y,x⟩ av b s' ⟨Oq,rfl,hz⟩
   injection hz with Z KU;injection Z with hy Mj;subst hy Mj;refine Z_ (he prog w' _ _ ?_)
   wp_walk
   exact⟨_,rfl,by simpa using h⟩
  case fin=>
   simp
  case h=>exact⟨rfl,rfl,rfl⟩
end
def EqAt.acr(p_:l≠b)(hl:s.heap.IsTuple l (v::vs).toArray)(hb:s.heap.IsTuple b (w::ws).toArray)(hu:A.units<cLine)(he:SeqAt.EqAt A.in1 s v w Y):SeqAt.EqAt A s (.ref l) (.ref b) Y:=by
 refine SeqAt.EqAt.of_refs p_ λprog w' E Q h=>?_;obtain⟨⟨cls,dd,data,sl⟩,ho,hc,n,hd⟩:=id hl;obtain⟨⟨MG,Kt,data2,Z⟩,O,LS,n2,hd2⟩:=id hb;subst hc hd LS hd2;exact Wt (op:=.Eq) ⟨_,ho,rfl⟩ ⟨_,O,rfl⟩ F.slot_tuple_eq F.entry_tuple_eq (F.args_tuple_eq_2 _ _) (vK l b v w vs ws n n2 dd Kt sl Z)
  ⟨ho,O,he,show Value.bool Y≠Value.notImplemented/\Q (.bool Y) s from⟨(λx=>nomatch x),h⟩⟩ hu
section
variable{A:Zj}
def mT(hj:j<items.size)(hz:items.size<=sizeLine)(hl:s.heap.get? l=U (seqObj "list" items n))(hit:SeqAt.EqAt A.in1 s items[j] x L)(h:R (.ok (.ret .none)) {s with heap:=s.heap.update l (Obj.mapSeq λxs=>xs.eraseIdxIfInBounds j)}):∀(k i:Nat),j - i=k->i<=j->(∀m (hm:m<items.size),i<=m->m<j->SeqAt.EqAt A.in1 s items[m] x Y)->
  codeAny (model prog w) A (.builtin "list.remove.loop" ⟨[.ref l,x,rawInt i],[]⟩) R s:=by
 intro k
 induction k with
 |zero=>
  intro i hk hi O;have e:i=j:=by lia
  subst e;refine Zr PySem.MeetsSeq.entry_remove_loop ?_;refine Z_ (Xa hl rfl ?_);simp only[Int.toNat_natCast];rw[Yt hj];refine Z_ (hit prog w _ _ ?_);refine Z_ (XD hl rfl (Z6 h) hz (by show(items.eraseIdxIfInBounds i).size<=_;exact ZL (by unfold Array.eraseIdxIfInBounds;split<;>simp[Array.size_eraseIdx]) (XN hz)))
 |succ k ih=>
  intro i hk hi O;refine Zr PySem.MeetsSeq.entry_remove_loop ?_;refine Z_ (Xa hl rfl ?_);simp only[Int.toNat_natCast];have Z:i<items.size:=by lia
  rw[Yt Z];refine Z_ (O i Z (ZU _) (by lia) prog w _ _ ?_);exact Z6 ⟨Zd PySem.MeetsSeq.plain_remove_loop _,ih (i+1) (by lia) (by lia) λm hm h1 h2=>O m hm (by lia) h2⟩
def mJ(hj:j<items.size)(hz:items.size<=sizeLine)(hl:s.heap.get? l=U (seqObj "list" items n))(Z:SeqAt.EqAt A.in1 s items[j] x L)(O:∀m (hm:m<items.size),m<j->SeqAt.EqAt A.in1 s items[m] x Y)(h:Q .none {s with heap:=s.heap.update l (Obj.mapSeq λxs=>xs.eraseIdxIfInBounds j)}):wpAny (model prog w) A (call (.builtin "list.remove") [.ref l,x]) Q E s:=by
 refine Ws (S:=λA' R s'=>s'=s/\A'=A/\R (.ok (.ret .none)) {s with heap:=s.heap.update l (Obj.mapSeq λxs=>xs.eraseIdxIfInBounds j)}) F.slot_list_remove (show s.TypeIs (.ref l) "list" from⟨_,hl,rfl⟩) F.entry_list_remove (F.args_list_remove_2 _ _) ?_ ⟨rfl,rfl,h⟩
 rintro prog w A' R s' ⟨rfl,rfl,hR⟩
 exact Z6 ⟨Zd PySem.MeetsSeq.plain_remove_loop _,mT hj hz hl Z hR _ 0 rfl (Zm _) λm hm _ h2=>O m hm h2⟩
end
noncomputable def cQ(f:D->Z8 Bool):Z9 D->Z8 (Z9 Bool)
 |[]=>U []
 |d::ds=>match f d,cQ f ds with|some b,some bl=>U (b::bl)|_,_=>M
set_option tactic.hygienic true in
theorem iH:∀{ds:Z9 D}{bl:Z9 Bool},cQ f ds=U bl->bl.length=ds.length
 |[],bl,h=>by simp_all [cQ,ZG]
 |d::ds,bl,h=>by
  simp only[cQ]at h;split at h;rename_i b l Z O;obtain rfl:=Z7 h;simp[iH O];trivial
set_option tactic.hygienic true in
theorem iw:∀{ds:Z9 D}{bl:Z9 Bool}{i:Nat}{d:D}{b:Bool},cQ f ds=U bl->ds[i]?=U d->bl[i]?=U b->f d=U b
 |[],bl,i,d,b,h,hd,hb=>by simp at hd
 |d'::ds,bl,i,d,b,h,hd,hb=>by
  simp only[cQ]at h;split at h;rename_i b' l q1 q2;obtain rfl:=Z7 h;cases i with
  |zero=>simp_all
  |succ i=>exact iw q2 hd hb
  trivial
noncomputable def aP(bl:Z9 Bool):Nat:=if L∈bl then bl.idxOf L else 0
def eN(d e:D):Bool:=match d,e with|.tup (a::_),.tup (b::_)=>okD 15 a&&okD 15 b&&decide (a≠b)|_,_=>Y
noncomputable def sS:D->Bool
 |.tup _=>L
 |_=>Y
noncomputable def vZ(r iL iT j:Nat)(bs:Z9 Bool)(ft:iv->Z8 Bool)(q:iv)(gr:iv->Z8 Out):Z8 Out:=match q[r]? with
 |some (some (.lst ds,true))=>(match cQ (λd=>ft ((az L bs q).set j (U (d,Y)))) ds,ds[0]? with
  |some bl,some _=>if(iL<q.length/\iT<q.length/\j<q.length/\ds.length<=lim)/\(ds.all sS&&(ds.take (aP bl)).all λd=>eN d (ds.getD (aP bl) .non))=L then
    gr (((q.set iL (U (.lst (fx ds bl),L))).set iT (U (ds.getD (aP bl) .non,Y))).set r (U (.lst (ds.eraseIdx (aP bl)),L))) else M
  |_,_=>M)
 |_=>M
set_option tactic.hygienic true in
def qZ(h:vZ r iL iT j bs ft q gr=U o):∃ds bl,q[r]?=U (U (.lst ds,L))/\cQ (λd=>ft ((az L bs q).set j (U (d,Y)))) ds=U bl/\0<ds.length/\(iL<q.length/\iT<q.length/\j<q.length/\ds.length<=lim)/\
  ds.all sS=L/\((ds.take (aP bl)).all λd=>eN d (ds.getD (aP bl) .non))=L/\
  gr (((q.set iL (U (.lst (fx ds bl),L))).set iT (U (ds.getD (aP bl) .non,Y))).set r (U (.lst (ds.eraseIdx (aP bl)),L)))=U o:=by
 unfold vZ at h;split at h;rename_i ds e;split at h;rename_i bl x O ex;split at h;rename_i c;rw[ZQ]at c;exact⟨ds,bl,e,O,(ZO.mp ex).1,c.1,c.2.1,c.2.2,h⟩;trivial;trivial;trivial
theorem M1.erase{K:Z4}{B:ZP->Prop}{H:Hp}:∀{ds:Z9 D}{xs:Z9 V}(i:Nat),M1 K B H ds xs->M1 K B H (ds.eraseIdx i) (xs.eraseIdx i)
 |[],xs,i,r=>by subst r;rfl
 |d::ds,xs,0,r=>by obtain⟨x,q,rfl,Z,O⟩:=r;exact O
 |d::ds,xs,i+1,r=>by obtain⟨x,q,rfl,Z,O⟩:=r;exact M1.cons Z (M1.erase i O)
theorem aac.erase:∀{xs:Z9 V}{us:Z9 Z3}(i:Nat),aac xs us->aac (xs.eraseIdx i) (us.eraseIdx i)
 |_,_,i,.nil=>by simpa using Paired.nil
 |_,_,0,.cons a b=>b
 |_,_,i+1,.cons a b=>.cons a (aac.erase i b)
theorem j5{q:Type}:∀{xs:Z9 q}{bl:Z9 Bool},bl.length=xs.length->(L∈bl->(fx xs bl)[0]?=xs[aP bl]?)/\(L∉bl->fx xs bl=[])
 |[],bl,h=>by cases bl with
  |nil=>exact⟨λh=>(by rfl),λ_=>rfl⟩
  |cons _ _=>simp at h
 |x::xs,bl,h=>by
  cases bl with
  |nil=>simp at h
  |cons b bl=>
   have ih:=j5 (xs:=xs) (bl:=bl) (by simpa using h);cases b with
   |true=>exact⟨λ_=>by rfl,λn=>absurd (ZR ..) n⟩
   |false=>
    refine⟨λm=>?_,λn=>?_⟩;have m':L∈bl:=by simpa using m
    have:=ih.1 m';unfold fx;simp only[ZE,YO];rw[this];unfold aP
    simp_all [List.idxOf_cons]
    unfold fx
    simp_all
def pb{O:Type}{xs:Z9 O}{x:O}(h:xs[0]?=U x):atI xs 0=U x:=by
 have Z:=(ZO.mp h).1
 simp_all [atI,ixN,Z]
section
variable{X:Cx}
set_option tactic.hygienic true in
def qf(hu:X.A.units+64<cLine):MtR X "list.remove" (λx vs H Q=>∃B l p ds xs j,x=.ref l/\vs=[.ref p]/\H l=U (.lst xs)/\M1 X.K B H ds xs/\xs[j]?=U (.ref p)/\ds.all sS=L/\((ds.take j).all λd=>eN d (ds.getD j .non))=L/\Q .non (upd H l (.lst (xs.eraseIdx j)))):=by
 intro pins s σ H x vs v us Q I rx rv h;obtain⟨B,l,p,ds,xs,j,rfl,rfl,hH,rs,hj,hT,Q5,q⟩:=h;cases rx;obtain⟨u,rfl,ru⟩:=rv.one;cases ru;obtain⟨z,its,n,r,hl,e⟩:=I.acb hH;have l2:=rs.length;have hjx:j<xs.length:=(ZO.mp hj).1;have hji:j<its.length:=by lia
 have TQ:j<ds.length:=by lia
 obtain⟨w,hw,Kk⟩:=r.get hj;cases Kk;have ej:its[j]=Value.ref p:=by have:=ZO.mp hw;exact this.2
 refine mJ (j:=j) (items:=its.toArray) (n:=n) (by trivial) (by simp;lia) e ?_ (λm hm hmj=>?_) ?_;rw[List.getElem_toArray,ej];exact SeqAt.EqAt.same _;rw[List.getElem_toArray];have V0:m<ds.length:=by lia
 have O:=(Z2.mp Q5) ds[m] (by
  rw[List.mem_iff_getElem?];exact⟨m,by simp_all⟩)
 have Qk:ds.getD j .non=ds[j]:=by rw[Zf];simp[TQ]
 rw[Qk]at O;obtain⟨xm,VB,rm⟩:=rs.get (i:=m) (d:=ds[m]) (by simp[V0]);obtain⟨xj,Z,rj⟩:=rs.get (i:=j) (d:=ds[j]) (by simp[TQ]);rw[hj]at Z;obtain rfl:=Z7 Z;unfold eN at O;split at O;rename_i d1 d2 a as b bs e1 e2;rw[ZQ,ZQ]at O;obtain⟨⟨oa,ob⟩,ne⟩:=O;rw[e1]at rm;rw[e2]at rj;obtain⟨t1,y1,rfl,g1,q1⟩:=rm;obtain⟨t2,y2,z2,g2,q2⟩:=rj;cases z2;obtain⟨um,VG,U9⟩:=r.get VB;cases U9;have em:its[m]=Value.ref t1:=by have:=ZO.mp VG;exact this.2
 rw[em];obtain⟨v1,r1,rfl,ra,_⟩:=q1;obtain⟨v2,r2,rfl,rb,_⟩:=q2;obtain⟨i1,w1,UU,_⟩:=I.tuple (SqT.of g1);obtain⟨i2,w2,UT,_⟩:=I.tuple (SqT.of g2);cases w1 with
 |cons a1 a2=>cases w2 with
  |cons b1 b2=>
   have p_:t1≠p:=λz=>by
    subst z;rw[g1]at g2;cases g2;exact(Zy ne) (Rep.inj I oa ob ra rb)
   have q:=(B0 I 15 a b v1 v2 _ _ (X.A.in1.in1) oa ob (by show X.A.units+1+1+15+1<cLine;lia) ra rb a1 b1).2.1;rw[Zu (Zy ne)]at q;exact EqAt.acr p_ UU UT (by show X.A.units+1<cLine;lia) q
 trivial;refine⟨.non,_,I.abJ (its':=its.eraseIdx j) (ys:=xs.eraseIdx j) hH e ?_ (aac.erase j r) ?_,rfl,q⟩;simp;have:=List.length_eraseIdx_le xs j;lia
variable{r j iL iT:Nat}{xr xl xt xp:Str}{bs:Z9 Bool}{ifs:Z9 Expr}{scope:Scope}{ft:iv->Z8 Bool}{av:Z9 Stmt}{gr:iv->Z8 Out}{pe pp pr M6 py K7 S0 j_ Ob Oa S3 QO QN S4 S1 apos b_ pt Pj pf QP:Pos}{k1 k2:Nat}
theorem uq(hu:X.A.units+64<cLine)(hN:X.N.Nodup)(hc:X.calm=L)(nr:Nm X r xr)(nl:Nm X iL xl)(nt:Nm X iT xt)(lt:Lc X iT xt)(hy:X.env.scope.names.lookup xl=U .local)(OJ:r≠iL)(Tt:r≠iT)(d_:iL≠iT)(S:aag X scope bs)
  (hg:∀cl C O Z ex pn,PG (aH X scope cl C O Z ex pn) (.Name xp pp) (gW j)) (ht:∀cl C O Z ex pn,DTs (aH X scope cl C O Z ex pn) ifs ft) (he:∀cl C O Z ex pn,PE (aH X scope cl C O Z ex pn) (.Name xp pe) (t5 j))
  (KU:DSs X av gr)
  (Nf:swapsWith (.ListComp (.Name xp pe) [⟨.Name xp pp,.Name xr pr,ifs,0⟩] scope M6) (U (.Name xl py)) K7.line X.env=pure L)
  (hs:∀x,foldedSetIterable (.Name xr pr) X.env x=pure x)
  (NJ:swapsWith (.IfExp (.Name xl Ob) (.Subscript (.Name xl Oa) (.Constant (.int 0) k1 QO) S4) (.Subscript (.Name xr S3) (.Constant (.int 0) k2 QN) S1) pf) (U (.Name xt S0)) j_.line X.env=pure Y)
  (Sd:∀whole,isTrue (.Name xl Ob) X.env whole=(do let v <-whole;standAt (Expr.pos (.Name xl Ob));holding [v] (truthy v)))
  (We:gQ (.Constant (.int 0) k1 QO)) (MX:gQ (.Constant (.int 0) k2 QN))
  (mc:Mc X.env (.Name xr QP) "remove" (.Name xt pt) [] apos b_)
  (NI:swapsWith (.Call (.Attribute (.Name xr QP) "remove" apos) [.Name xt pt] [] b_) M Pj.line X.env=pure Y):
  DSs X (.Assign [.Name xl py] (.ListComp (.Name xp pe) [⟨.Name xp pp,.Name xr pr,ifs,0⟩] scope M6) K7::
   .Assign [.Name xt S0] (.IfExp (.Name xl Ob) (.Subscript (.Name xl Oa) (.Constant (.int 0) k1 QO) S4) (.Subscript (.Name xr S3) (.Constant (.int 0) k2 QN) S1) pf) j_::
   .Expr (.Call (.Attribute (.Name xr QP) "remove" apos) [.Name xt pt] [] b_) Pj::av) (λδ=>vZ r iL iT j bs ft δ gr):=by
 intro pins s σ H Dn I hq;obtain⟨B,Hk,δ,o,R,e,kk⟩:=hq;obtain⟨ds,bl,hr,hb,h0,⟨q1,q2,q3,q4⟩,hT,Q5,e'⟩:=qZ e;have Vy:=R.len;have Th:=iH hb;refine bX (uk (tt:=tMT X.K ft) hc (tV (bA nr.at' nr.vis nr.d1 nr.d2)) S hg ht he hN nl.at' hy Nf hs)
  (bX (iB hN lt.at' lt.loc (pC (pR (bA nl.at' nl.vis nl.d1 nl.d2) Sd) (yw mB (bA nl.at' nl.vis nl.d1 nl.d2) vE We) (yw mB (bA nr.at' nr.vis nr.d1 nr.d2) vE MX)) NJ lt.fnl)
   (bX (nI (uJ Xz F.slot_list_remove F.type_list_remove (qf hu) (bA nr.at' nr.vis nr.d1 nr.d2) (au (bA nt.at' nt.vis nt.d1 nt.d2) aM mc.s) mc) NI) KU)) pins s σ H Dn I ?_
 unfold Ft BV;refine sR (bl:=bl) (by rw[S.len,<-I.len]) R hr (by lia) Th q4 (λi d c h1 h2=>iw hb h1 h2) λl xs a H' h1 h3 h4 sm VX ha=>?_;have lx:=h4.length;have N4:aP bl<ds.length:=by
  unfold aP;split;rename_i m;rw[<-Th];exact YM m;exact h0
 have LR:H' l=U (.lst xs):=sm l _ h3;have R0:=R.to sm;have Nw:M1 X.K B H' ds xs:=h4.ext (R.ext sm);have Ol:ds[aP bl]?=U (ds.getD (aP bl) .non):=by rw[Zf];simp[N4]
 obtain⟨w,hw,Ph⟩:=Nw.get Ol;obtain⟨ts,ets⟩:∃ts,ds.getD (aP bl) .non=.tup ts:=by
  have:=(Z2.mp hT) _ (Zs Ol);cases q:ds.getD (aP bl) .non with
  |tup ts=>lia
  |_=>rw[q]at this;simp[sS]at this
 have MQ:=Ph;rw[ets]at MQ;obtain⟨p,ws,rfl,hp,rws⟩:=MQ;have Qu:(σ.set iL (U (.ref a)))[iL]?=U (U (.ref a)):=Zh (by lia);have SK:(σ.set iL (U (.ref a)))[r]?=U (U (.ref l)):=by rw[ZN (ZF OJ)];exact h1
 have V9:Hk a=M:=R.same.free VX;have R1:Rel X.K B Hk (δ.set iL (U (.lst (fx ds bl),L))) (σ.set iL (U (.ref a))) H':=R0.abI (by lia) V9 ⟨_,ha,gm Nw⟩ (λm f hm z1 z2=>by
  obtain⟨c,y1,_,y3⟩:=R.own m f z1;rw[z2]at y1;obtain⟨u,hu⟩:=y3.there;lia)
 have R2:=R1.set (i:=iT) (by simp;lia) Ph;have LL:((δ.set iL (U (.lst (fx ds bl),L))).set iT (U (ds.getD (aP bl) .non,Y)))[r]?=U (U (.lst ds,L)):=by
  rw[ZN (ZF Tt),ZN (ZF OJ)];exact hr
 have O_:((σ.set iL (U (.ref a))).set iT (U (.ref p)))[r]?=U (U (.ref l)):=by rw[ZN (ZF Tt)];exact SK
 have RP:((σ.set iL (U (.ref a))).set iT (U (.ref p)))[iT]?=U (U (.ref p)):=Zh (by simp;lia);obtain⟨x5,R3⟩:=R2.abJ (ds':=ds.eraseIdx (aP bl)) (xs':=xs.eraseIdx (aP bl)) LL O_ LR (Nw.erase _);have fin:Eo (tBM X.K "list" (λx vs H Q=>∃B l p ds xs j,x=.ref l/\vs=[.ref p]/\H l=U (.lst xs)/\M1 X.K B H ds xs/\xs[j]?=U (.ref p)/\ds.all sS=L/\((ds.take j).all λd=>eN d (ds.getD j .non))=L/\Q .non (upd H l (.lst (xs.eraseIdx j)))) (t5 r) (ua (t5 iT) ab9)) {Dn with nx:=tD X.K gr Dn} ((σ.set iL (U (.ref a))).set iT (U (.ref p))) H':=
  ⟨.ref l,O_,.inl ⟨rfl,_,SqL.of LR⟩,.ref p,RP,B,l,p,ds,xs,aP bl,rfl,rfl,LR,Nw,hw,hT,Q5,B,Hk,_,o,R3,e',kk.ext ((R.ext sm).trans x5)⟩
 have ph:=j5 (xs:=xs) (bl:=bl) (by lia);by_cases m:L∈bl;have p_:(fx xs bl)[0]?=U (.ref p):=(ph.1 m).trans hw;refine⟨.ref a,Qu,L,.inl ⟨_,SqL.of ha,?_⟩,?_⟩;cases q:fx xs bl with
 |nil=>rw[q]at p_;trivial
 |cons _ _=>simp
 exact zt ⟨.ref a,Qu,a,_,0,.ref p,rfl,rfl,SqL.of ha,pb p_,fin⟩;have So:=ph.2 m;have f0:aP bl=0:=by unfold aP;rw[ZH m]
 refine⟨.ref a,Qu,Y,.inl ⟨_,SqL.of ha,by rw[So];rfl⟩,?_⟩;rw[f0]at hw;exact yC ⟨.ref l,SK,l,xs,0,.ref p,rfl,rfl,SqL.of LR,pb hw,fin⟩
end
section
end
section
end
inductive acP where
 |o (x:Out)|rai
section
end
section
end
end L2
namespace L2
open PySem
def abj(t:Bool)(h:Heap)(c q:ZP)(n:Nat):Prop:=if t=L then h.IsTupleIter c q n else h.IsListIter c q n
def aar(t:Bool)(h:Heap)(q:ZP)(vs:Array Z3):Prop:=if t=L then h.IsTuple q vs else h.IsList q vs
def abj.obj(x:abj t h c q n):∃o,h.get? c=U o/\o.cls=.type (if t=L then "tuple_iterator" else "list_iterator")/\o.data=.fields #[.ref q,.int n 0]:=by
 cases t<;>exact x
def abj.to(x:abj t h c q n)(k:∀o,h.get? c=U o->h'.get? c=U o):abj t h' c q n:=by
 cases t<;>(obtain⟨o,e,r⟩:=x;exact⟨o,k o e,r⟩)
def aar.to(x:aar t h q vs)(k:∀o,h.get? q=U o->h'.get? q=U o):aar t h' q vs:=by
 cases t<;>(obtain⟨o,e,r⟩:=x;exact⟨o,k o e,r⟩)
section
variable{A:Zj}{E:Z3->ZV->Prop}
def wj(hh:A.handled=M)(hc:s.heap.IsTupleIter c q n)(hq:s.heap.IsTuple q vs)(O:∀v,vs[n]?=U v->∀h',h'.IsTupleIter c q (n+1)->Heap.SameBut c s.heap h'->Q v {s with heap:=h'})(Z:vs[n]?=M->∀h' e,Heap.ExtBut c s.heap h'->(∃o,h'.get? e=U o/\o.cls=.type "StopIteration")->E (.ref e) {s with heap:=h'}):
  wpAny (model prog w) A (Builtin.SmallTypes.nextOf (.ref c)) Q E s:=by
 have ty:=hc.typeIs;obtain⟨oc,gc,kc,dc⟩:=hc;obtain⟨oq,gq,_,m,dq⟩:=hq;refine Z_ (YJ (name:=Str.ofString "__next__") ty F.slot_tuple_iterator_next (YZ F.slot_tuple_iterator_next ty F.entry_tuple_iterator_next ?body (F.args_tuple_iterator_next_1 _)));change wpAny _ _ (field (.ref c) 0 >>= _) _ E s;refine Z_ (XO gc dc (x:=.ref q) rfl ?_);refine Z_ (XO gc dc (x:=.int n 0) rfl (Z_ (Y9 gq dq ?_)));simp only[Int.toNat_natCast];rcases hv:vs[n]? with _|v;refine Z_ (YE (Z_ (Yk gc dc (by simp) (Z_ (Z_ (Y5 ?_ (by size_fits)))))));refine Z_ (m:=firstArgMember _ _) (Xe (a:=Value.none) (by rfl) (Y5 ?_ (by size_fits)));refine Z_ (wpAny_handled ?_);rw[show A.in1.handled=M from hh];exact Z_ (Z6 (wpAny_throw (Z hv _ _ (((Zn ..).extBut.push _).push _) ⟨_,ZX _ rfl,rfl⟩)));refine Z_ (Yk gc dc (by simp) (Z6 ⟨v,rfl,Z6 (O v hv _ ⟨_,Zz _ gc (X4 (Y3 dc _)),?_,?_⟩ (Zn ..))⟩));rw[Xk];exact kc;rw[Y3 dc];rfl
def E5(hh:A.handled=M)(hc:abj t s.heap c q n)(hq:aar t s.heap q vs)(O:∀v,vs[n]?=U v->∀h',abj t h' c q (n+1)->Heap.SameBut c s.heap h'->Q v {s with heap:=h'})(Z:vs[n]?=M->∀h' e,Heap.ExtBut c s.heap h'->(∃o,h'.get? e=U o/\o.cls=.type "StopIteration")->E (.ref e) {s with heap:=h'}):
  wpAny (model prog w) A (Builtin.SmallTypes.nextOf (.ref c)) Q E s:=by
 cases t with
 |true=>exact wj hh hc hq O Z
 |false=>
  rcases hv:vs[n]? with _|v;exact wpAny_nextOf_list_end hh hc hq hv (Z hv);exact wpAny_nextOf_list_item hc hq hv (O v hv)
end
structure Zp (t u:Bool)(h:Heap)(z P O c d p q:ZP)(n:Nat)(f:Z3):Prop where
 zz:IsZip h z P O f
 pp:IsPair h P (.ref c) (.ref d)
 oo:∃a b,IsPair h O a b
 cc:abj t h c p n
 dd:abj u h d q n
structure Ap (z P O c d p q:ZP):Prop where
 nd:[z,P,O,c,d].Nodup
 p:p∉[z,P,O,c,d]
 q:q∉[z,P,O,c,d]
def ai(k:Heap.SameBut a h h')(n:b≠a)(e:h.get? b=U o):h'.get? b=U o:=(k.2 b n).trans e
section
variable{prog:Za}{w:Y1}{A:Zj}{E:Z3->ZV->Prop}{s:ZV}
def wx{Q:Z3->ZV->Prop}(hh:A.handled=M)(ap:Ap z P O c d p q)(Z:Zp t u s.heap z P O c d p q n .none)(hp:aar t s.heap p xs)(hq:aar u s.heap q ys)(item:∀x y,xs[n]?=U x->ys[n]?=U y->∀h',Zp t u h' z P O c d p q (n+1) (rawInt s.z)->IsPair h' s.z x y->h'.objs.size=s.z+1->
   (∀b o,b∉[z,P,O,c,d]->s.heap.get? b=U o->h'.get? b=U o)->Q (.ref s.z) {s with heap:=h'}) (stop:(xs[n]?=M\/ys[n]?=M)->∀h' e,(∀b o,b∉[z,P,O,c,d]->s.heap.get? b=U o->h'.get? b=U o)->(∃o,h'.get? e=U o/\o.cls=.type "StopIteration")->E (.ref e) {s with heap:=h'}):
  wpAny (model prog w) A (Builtin.«zip.__next__» ⟨[.ref z],[]⟩) (λr s'=>∃v,r=.done (.ret v)/\Q v s') E s:=by
 obtain⟨zz,pp,⟨a,b,oo⟩,cc,dd⟩:=Z;have nd:=ap.nd;have np:=ap.p;have nq:=ap.q;simp only[Y8,ZT,Ze,Yi,Wx,YK,and_true,W8]at nd np nq;obtain⟨⟨zP,zO,zc,zd⟩,⟨PO,Pc,Pd⟩,⟨Oc,Od⟩,cd⟩:=nd;obtain⟨pz,pP,pO,pc,pd⟩:=np;obtain⟨qz,qP,qO,qc,qd⟩:=nq;change wpAny _ _ (field (.ref z) 2 >>= _) _ E s;refine Z_ (XO zz rfl (x:=.bool Y) rfl ?_);refine Z_ (XO zz rfl (x:=.ref P) rfl (Z_ (Y9 pp rfl ?_)));refine Z_ (Z_ (XO zz rfl (x:=.none) rfl (Z6 ?_)));refine Z_ (YE (Z_ (XO zz rfl (x:=.ref O) rfl (Z_ (X6 zz (by simp) λPp NT m_=>Z_ ?_)))));have LV:IsZip Pp z P O .ellipsis:=NT;refine Z_ (Z_ (wpAny_onRaise ?_));refine Z_ (E5 (t:=t) hh (cc.to λo e=>ai m_ (ZF zc) e) (hp.to λo e=>ai m_ pz e) (λx hx LA MF l_=>Z6 ?_) λhx LA e l_ he=>?_);have Pm:IsPair LA O a b:=ai l_ Oc (ai m_ (ZF zO) oo);refine Z_ (Y9 Pm rfl (Z_ (wpAny_updateSeq_pair Pm λNG SA Kf=>Z_ (Yj (Z6 ?_)))));have RW:IsPair NG O x b:=SA;refine Z_ (Z_ (wpAny_onRaise ?_));refine Z_ (E5 (t:=u) hh (dd.to λo e=>ai Kf (ZF Od) (ai l_ (ZF cd) (ai m_ (ZF zd) e))) (hq.to λo e=>ai Kf qO (ai l_ qc (ai m_ qz e))) (λy hy z_ NU y_=>Z6 ?_) λhy z_ e y_ he=>?_);have Pl:IsPair z_ O x b:=ai y_ Od RW;refine Z_ (Y9 Pl rfl (Z_ (wpAny_updateSeq_pair Pl λI_ Sz KO=>Z_ (Yj (Z6 (Z6 ?_))))));have Pk:IsPair I_ O x y:=Sz;have old:∀f o,f≠z->f≠O->f≠c->f≠d->s.heap.get? f=U o->I_.get? f=U o:=λf o n1 n2 n3 n4 e=>ai KO n2 (ai y_ n4 (ai Kf n2 (ai l_ n3 (ai m_ n1 e))));have sz:I_.objs.size=s.z:=by rw[KO.1,y_.1,Kf.1,l_.1,m_.1]
 have Pb:IsZip I_ z P O .ellipsis:=ai KO zO (ai y_ zd (ai Kf zO (ai l_ zc LV)));refine Z_ (Y9 Pk rfl (Z_ (Wk ?_)));have RS:IsZip (I_.push {cls:=.type "tuple",data:=.seq #[x,y]}) z P O .ellipsis:=Z5 _ Pb;refine Z_ (Z_ (X6 RS (by simp) λR9 Sy NF=>?_));have RQ:IsZip R9 z P O (rawInt I_.objs.size):=Sy;refine X6 RQ (by simp) λLY Sx ND=>Z6 ⟨_,rfl,?_⟩;have Pa:IsZip LY z P O (rawInt I_.objs.size):=Sx;have up:∀f o,f≠z->I_.get? f=U o->LY.get? f=U o:=λf o n1 e=>ai ND n1 (ai NF n1 (Z5 _ e));have lz:=Z1 Pb;have new:IsPair LY I_.objs.size x y:=ai ND (Nat.ne_of_gt lz) (ai NF (Nat.ne_of_gt lz) (ZX _ rfl));have Ox:LY.objs.size=I_.objs.size+1:=by rw[ND.1,NF.1,YV]
 rw[sz]at Pa new Ox⊢;refine item x y hx hy LY ⟨Pa,up _ _ (ZF zP) (old _ _ (ZF zP) PO Pc Pd pp),⟨x,y,up _ _ (ZF zO) Pk⟩,?_,?_⟩ new Ox λf o hf e=>?_;exact MF.to λo e=>up _ o (ZF zc) (ai KO (ZF Oc) (ai y_ cd (ai Kf (ZF Oc) e)));exact NU.to λo e=>up _ o (ZF zd) (ai KO (ZF Od) e)
 simp_all
 obtain⟨oe,ge,ke⟩:=he;have NB:IsZip z_ z P O .ellipsis:=y_ _ _ zd (ai Kf zO (ai l_ zc LV));have ez:e≠z:=λr=>by lia
 refine X6 NB (by simp) λI_ _ KO=>stop (.inr hy) I_ e (λf o hf g=>?_) ⟨oe,ai KO ez ge,ke⟩;simp only[ZT,Ze,Yi,Wx]at hf;obtain⟨n1,_,n2,n3,n4⟩:=hf;exact ai KO n1 (y_ _ _ n4 (ai Kf n2 (ai l_ n3 (ai m_ n1 g))));obtain⟨oe,ge,ke⟩:=he;have RT:IsZip LA z P O .ellipsis:=l_ _ _ zc LV;have ez:e≠z:=λr=>by lia
 refine X6 RT (by simp) λNG _ Kf=>stop (.inl hx) NG e (λf o hf g=>?_) ⟨oe,ai Kf ez ge,ke⟩;simp only[ZT,Ze,Yi,Wx]at hf;exact ai Kf hf.1 (l_ _ _ hf.2.2.2.1 (ai m_ hf.1 g))
end
variable[Lams]
section
variable{h':Heap}
def Inv.abK{t':Nat}{fp:Z9 ZP}{T:ZP}{o:HO}(I:Inv X pins σ H s)(k:∀b u,b∉fp->s.heap.get? b=U u->h'.get? b=U u)(hf:∀b∈fp,d8 X pins H b)
  (hT:s.z<=T)(new:aaj X.prog X.w (upd H T o) h' T o):Inv X pins σ (upd H T o) {s with heap:=h',toks:=t'}:=by
 have Z:H T=M:=I.hok.fresh hT;have far:∀b u,H b=U u->b∉fp:=λb u e z=>by rw[(hf b z).1]at e;trivial
 have lo:∀b u,s.heap.get? b=U u->b≠T:=λb u e=>ZA (ZC (Z1 e) hT);refine I.step (g':=s.gens) (d':=s.drawn) (ch:=fp) (λb hb=>?_) (λb u _ _ O e _=>k b u O e) (λb u _ _ O e _=>⟨u.slots,k b u O e⟩) (λb u _ e n=>by rw[aj (lo b u e)];exact n)
  (λb u O e=>⟨u,k b u O e⟩) (λb xs e=>by rw[aj (aw e Z)];exact e) (λb u v e=>by rw[aj (aw e Z)];exact e) (λb lq ps e=>⟨#[],by rw[aj (aw e Z),e];simp⟩) (λm hm=>?_) (λb u e=>?_) I.bare
 obtain⟨_,f1,_,f3,f4,f5⟩:=hf b hb;exact⟨f3,f1,f4,f5⟩;obtain⟨ob,es,ep,ho,r⟩:=hm;exact⟨ob,es,ep,k _ ob (λz=>(hf _ z).2.1 rfl) ho,r⟩;by_cases hb:b=T
 .simp_all [ah]
 rw[aj hb]at e;refine(I.hok b u e).abm (λc v O q=>k c v ?_ q) (λc q=>by rw[aj (aw q Z)];exact q) λc xs q=>by rw[aj (aw q Z)];exact q
 grind
def Inv.turns{t':Nat}{fp:Z9 ZP}(I:Inv X pins σ H s)(k:∀b u,b∉fp->s.heap.get? b=U u->h'.get? b=U u)(Z:∀b∈fp,d8 X pins H b):Inv X pins σ H {s with heap:=h',toks:=t'}:=by
 have far:∀b u,H b=U u->b∉fp:=λb u e z=>by rw[(Z b z).1]at e;trivial
 refine I.step (g':=s.gens) (d':=s.drawn) (ch:=fp) (λb hb=>?_) (λb u _ _ O e _=>k b u O e) (λb u _ _ O e _=>⟨u.slots,k b u O e⟩) (λb u _ e n=>n)
  (λb u O e=>⟨u,k b u O e⟩) (λb xs e=>e) (λb u v e=>e) (λb lq ps e=>⟨#[],by rw[e];simp⟩) (λm hm=>?_) (λb u e=>?_) I.bare
 obtain⟨_,f1,_,f3,f4,f5⟩:=Z b hb;exact⟨f3,f1,f4,f5⟩;obtain⟨ob,es,ep,ho,r⟩:=hm;exact⟨ob,es,ep,k _ ob (λz=>(Z _ z).2.1 rfl) ho,r⟩;refine(I.hok b u e).abm (λc v O q=>k c v ?_ q) (λ_ q=>q) λ_ _ q=>q
 grind
end
def SqV(t:Bool)(K:Z4)(H:Hp)(a:ZP)(xs:Z9 V):Prop:=if t=L then SqT K H a xs else SqL K H a xs
section
variable{A:Zj}
def jF(hh:A.handled=M)(ap:Ap z P O c d p q)(Z:Zp t u s.heap z P O c d p q n .none)(hp:aar t s.heap p xs)(hq:aar u s.heap q ys)(item:∀x y,xs[n]?=U x->ys[n]?=U y->∀h',Zp t u h' z P O c d p q (n+1) (rawInt s.z)->IsPair h' s.z x y->h'.objs.size=s.z+1->
   (∀b o,b∉[z,P,O,c,d]->s.heap.get? b=U o->h'.get? b=U o)->Q (U (.ref s.z)) {s with heap:=h'}) (stop:(xs[n]?=M\/ys[n]?=M)->∀h',(∀b o,b∉[z,P,O,c,d]->s.heap.get? b=U o->h'.get? b=U o)->Q M {s with heap:=h'}):
  wpAny (model prog w) A (pyNext (.ref z)) Q E s:=by
 have ty:s.TypeIs (.ref z) "zip":=⟨_,Z.zz,rfl⟩;refine Z_ (XY (YJ (name:=Str.ofString "__next__") ty Wn (YZ Wn ty F.entry_zip_next (wx hh ap Z hp hq (λx y hx hy h' b1 b2 b3 b4=>Z6 (item x y hx hy h' b1 b2 b3 b4)) λhn h' e k he=>?_) (F.args_zip_next_1 _))));obtain⟨o,ho,hc⟩:=he;exact Z_ (X9 (T:="StopIteration") (b:=L) ⟨o,ho,hc⟩ WZ (Z6 (stop hn h' k)))
end
section
def Inv.abn(I:Inv X pins σ H s)(h:SqV t X.K H a xs):∃its,aac xs its/\aar t s.heap a its.toArray:=by
 cases t with
 |true=>obtain⟨its,rv,p,_⟩:=I.tuple h;exact⟨its,rv,p⟩
 |false=>obtain⟨its,rv,p,_⟩:=I.list h;exact⟨its,rv,p.isList⟩
def Inv.abB(I:Inv X pins σ H s)(h:SqV t X.K H a xs)(h':SqV t X.K H a ys):xs=ys:=by
 cases t with
 |true=>exact I.aaW h h'
 |false=>exact I.aaN h h'
end
noncomputable def Itz(t u:Bool)(K:Z4)(p q:ZP):It:=
 ⟨λi H=>∃xs ys x y,SqV t K H p xs/\SqV u K H q ys/\xs[i]?=U x/\ys[i]?=U y,
  λi H v O=>∃T x y,H T=M/\v=.ref T/\O=upd H T (.tup [x,y])/\(∀xs,SqV t K H p xs->xs[i]?=U x)/\∀ys,SqV u K H q ys->ys[i]?=U y,
  λi H=>∃xs ys,SqV t K H p xs/\SqV u K H q ys/\(xs.length<=i\/ys.length<=i)⟩
def xo{x1}(ap:Ap z Pr O c d p q):
  Turn P w K (.Tuple elts x1 pos) (Itz t u K p q) [z,Pr,O,c,d] z (λn h=>Zp t u h z Pr O c d p q n .none) where
 mem:=by simp
 obj:=λi h st b hb=>by
  obtain⟨zz,pp,⟨a,a',oo⟩,cc,dd⟩:=st;simp only[ZT,Ze,Yi]at hb;rcases hb with rfl|rfl|rfl|rfl|rfl
  .simp_all
  .simp_all
  .simp_all
  obtain⟨o,e,_,hd⟩:=cc.obj;simp_all;obtain⟨o,e,_,hd⟩:=dd.obj;simp_all
 keep:=λi h h' st k=>by
  obtain⟨zz,pp,⟨a,a',oo⟩,cc,dd⟩:=st;exact⟨k z (by simp) _ zz,k Pr (by simp) _ pp,⟨a,a',k O (by simp) _ oo⟩,cc.to λo e=>k c (by simp) o e,dd.to λo e=>k d (by simp) o e⟩
 item:=by
  intro X hP hw hK hc i pins s σ H E I hf st hg;subst hP hw hK;obtain⟨xs,ys,x,y,h1,h2,hx,hy⟩:=hg;obtain⟨is,ri,sp⟩:=I.abn h1;obtain⟨js,rj,sq⟩:=I.abn h2;obtain⟨ux,e1,r1⟩:=ri.get hx;obtain⟨uy,e2,r2⟩:=rj.get hy;refine jF (I.ok.hd hc) ap st sp sq (λvx vy Of Z h' Z' new sz k=>?_) λhn=>?_;have ex:vx=ux:=by simp at Of;rw[e1]at Of;exact(Z7 Of).symm
  have ey:vy=uy:=by simp at Z;rw[e2]at Z;exact(Z7 Z).symm
  subst ex ey;refine⟨_,rfl,?_⟩;have hT:H s.z=M:=I.hok.fresh (ZU _);have nT:∀b∈[z,Pr,O,c,d],b≠s.z:=λb hb e=>by
   obtain⟨o,g,_⟩:=(show ∀b∈[z,Pr,O,c,d],∃o,s.heap.get? b=U o/\∀v,o.data≠.cell v from λb hb=>by
    obtain⟨zz,pp,⟨a,a',oo⟩,cc,dd⟩:=st;simp only[ZT,Ze,Yi]at hb;rcases hb with rfl|rfl|rfl|rfl|rfl
    .simp_all
    .simp_all
    .simp_all
    obtain⟨o,e,_,hd⟩:=cc.obj;simp_all;obtain⟨o,e,_,hd⟩:=dd.obj;simp_all) b hb
   rw[e]at g;exact absurd (Z1 g) (Zv _)
  have I1:Inv X pins σ (upd H s.z (.tup [x,y])) {s with heap:=h'}:=I.abK (t':=s.toks) k hf (ZU _) ⟨by show 2<=sizeLine;decide,[vx,vy],.cons r1 (.cons r2 .nil),⟨_,new,rfl,_,rfl⟩⟩;obtain⟨zz,pp,oo,cc,dd⟩:=Z';have nd:=ap.nd;simp only[Y8,ZT,Ze,Yi,Wx,YK,and_true,W8]at nd;refine wpAny_letOwnedTupleGo_zip zz λg2 z2 m2=>?_;have hz:=hf z (by simp);refine⟨.ref s.z,upd H s.z (.tup [x,y]),I1.turned (t':=s.toks) (λb o hb e=>ai m2 hb e) (by rw[aj (nT z (by simp))];exact hz.1) hz.2.1 hz.2.2.2.1 hz.2.2.2.2.1 hz.2.2.2.2.2,rfl,
   ⟨s.z,x,y,hT,rfl,rfl,λxs' h=>by rw[I.abB h h1];exact hx,λUQ h=>by rw[I.abB h h2];exact hy⟩,?_,λb hb=>by rw[aj (nT b hb)];exact(hf b hb).1⟩
  obtain⟨a,a',oo⟩:=oo;exact⟨z2,ai m2 (ZF nd.1.1) pp,⟨a,a',ai m2 (ZF nd.1.2.1) oo⟩,cc.to λo e=>ai m2 (ZF nd.1.2.2.1) e,dd.to λo e=>ai m2 (ZF nd.1.2.2.2) e⟩
  simp_all
 done:=by
  intro X hP hw hK hc i pins s σ H E I hf st hg;subst hP hw hK;obtain⟨xs,ys,h1,h2,hl⟩:=hg;obtain⟨is,ri,sp⟩:=I.abn h1;obtain⟨js,rj,sq⟩:=I.abn h2;have l1:=ri.length;have l2:=rj.length;refine jF (I.ok.hd hc) ap st sp sq (λvx vy Of Z h' Z' new sz k=>?_) λhn h' k=>⟨rfl,I.turns (t':=s.toks) k hf⟩
  exfalso;simp at Of Z;have a1:=(ZO.mp Of).1;have a2:=(ZO.mp Z).1;lia
 self:=λ_ _ _ _ _ st h=>wpAny_pyIter_zip st.zz h
open PySem.Spec PyProof.Rows
noncomputable def itO(t:Bool)(p:ZP):Obj:={cls:=.type (if t=L then "tuple_iterator" else "list_iterator"),data:=.fields #[.ref p,.int 0 0]}
def dJ(hp:aar t s.heap p xs)(h:Q (.ref s.z) {s with heap:=s.heap.push (itO t p)}):wpAny (model prog w) A (pyIter (.ref p)) Q E s:=by
 cases t with
 |true=>exact wpAny_pyIter_tuple hp h
 |false=>exact Yg hp h
noncomputable def zO(a b:Z3):Obj:={cls:=.type "tuple",data:=.seq #[a,b]}
noncomputable def xK(t u:Bool)(h:Heap)(p q:ZP):Heap:=
 ((((h.push (itO t p)).push (itO u q)).push (zO (.ref h.objs.size) (.ref (h.push (itO t p)).objs.size))).push (zO .none .none)).push
  {cls:=.type "zip",data:=.fields #[.none,.bool Y,.bool Y,.ref ((h.push (itO t p)).push (itO u q)).objs.size,.ref (((h.push (itO t p)).push (itO u q)).push (zO (.ref h.objs.size) (.ref (h.push (itO t p)).objs.size))).objs.size]}
def BL(t u:Bool)(p q:ZP)(xs ys:Array Z3):
  Meets (Builtin.«zip.__new__» ⟨[.type "zip",.ref p,.ref q],[]⟩) (λ_ R s=>aar t s.heap p xs/\aar u s.heap q ys/\
   R (.ok (.ret (.ref (((((s.heap.push (itO t p)).push (itO u q)).push (zO (.ref s.z) (.ref (s.heap.push (itO t p)).objs.size))).push (zO .none .none)).objs.size)))) {s with heap:=xK t u s.heap p q}):=
 .of_wp λprog w A R s h=>by
  obtain⟨hp,g,d,O,os⟩:=s;obtain⟨h1,h2,h⟩:=h;have Z:=sub_zip;have k1:aar t (Shared.heap ⟨hp,g,d,O,os⟩) p xs:=h1;have k2:aar u (Shared.heap ⟨hp.push (itO t p),g,d,O,os⟩) q ys:=h2.to λo e=>Z5 _ e
  wp_walk using dJ k1,dJ k2
  exact⟨_,rfl,h⟩
def jJ(hp:aar t s.heap p xs)(hq:aar u s.heap q ys)(h:∀z P O c d h',Ap z P O c d p q->Zp t u h' z P O c d p q 0 .none->(∀b∈[z,P,O,c,d],s.z<=b)->(∀b o,s.heap.get? b=U o->h'.get? b=U o)->Q (.ref z) {s with heap:=h'}):
  wpAny (model prog w) A (call (.type "zip") [.ref p,.ref q]) Q E s:=by
 refine callType_new F.called_zip (by decide) (F.typeCall_zip_2 _ _) (F.newCall_zip_2 _ _) (λobj=>F.args_object_init_3 obj _ _) F.entry_zip_new (BL t u p q xs ys) ⟨hp,hq,?_⟩;have lp:p<s.z:=by cases t<;>(obtain⟨o,e,_⟩:=hp;exact Z1 e)
 have lq:q<s.z:=by cases u<;>(obtain⟨o,e,_⟩:=hq;exact Z1 e)
 generalize e1:s.heap.push (itO t p)=k1;generalize e2:k1.push (itO u q)=k2;generalize e3:k2.push (zO (.ref s.z) (.ref k1.objs.size))=k3;generalize e4:k3.push (zO .none .none)=k4;have hL:xK t u s.heap p q=k4.push {cls:=.type "zip",data:=.fields #[.none,.bool Y,.bool Y,.ref k2.objs.size,.ref k3.objs.size]}:=by unfold xK;rw[e1,e2,e3,e4]
 have s1:k1.objs.size=s.z+1:=by rw[<-e1];exact YV ..
 have s2:k2.objs.size=s.z+2:=by rw[<-e2,YV,s1]
 have s3:k3.objs.size=s.z+3:=by rw[<-e3,YV,s2]
 have s4:k4.objs.size=s.z+4:=by rw[<-e4,YV,s3]
 have u1:∀{b o},s.heap.get? b=U o->k1.get? b=U o:=λe=>by rw[<-e1];exact Z5 _ e
 have u2:∀{b o},k1.get? b=U o->k2.get? b=U o:=λe=>by rw[<-e2];exact Z5 _ e
 have u3:∀{b o},k2.get? b=U o->k3.get? b=U o:=λe=>by rw[<-e3];exact Z5 _ e
 have u4:∀{b o},k3.get? b=U o->k4.get? b=U o:=λe=>by rw[<-e4];exact Z5 _ e
 have Z:∀{b o},k4.get? b=U o->(xK t u s.heap p q).get? b=U o:=λe=>by rw[hL];exact Z5 _ e
 have z5:IsZip (xK t u s.heap p q) k4.objs.size k2.objs.size k3.objs.size .none:=by rw[hL];exact ZX _ rfl
 have o5:IsPair (xK t u s.heap p q) k3.objs.size .none .none:=Z (by rw[<-e4];exact ZX _ rfl);have p5:IsPair (xK t u s.heap p q) k2.objs.size (.ref s.z) (.ref k1.objs.size):=Z (u4 (by rw[<-e3];exact ZX _ rfl));have d5:(xK t u s.heap p q).get? k1.objs.size=U (itO u q):=Z (u4 (u3 (by rw[<-e2];exact ZX _ rfl)));have c5:(xK t u s.heap p q).get? s.z=U (itO t p):=Z (u4 (u3 (u2 (by rw[<-e1];exact ZX _ rfl))));refine⟨⟨_,z5,rfl⟩,h k4.objs.size k2.objs.size k3.objs.size s.z k1.objs.size _ ⟨?_,?_,?_⟩ ⟨z5,p5,⟨_,_,o5⟩,?_,?_⟩ ?_ λb o e=>Z (u4 (u3 (u2 (u1 e))))⟩
 .rw[s1,s2,s3,s4]
  simp only[Y8,ZT,Ze,Yi,Wx,YK,and_true,W8];refine⟨⟨?_,?_,?_,?_⟩,⟨?_,?_,?_⟩,⟨?_,?_⟩,?_⟩<;>(intro e;have e':(_:Nat)=_:=e;lia)
 simp;lia;simp;lia
 .cases t<;>exact⟨_,c5,rfl,rfl⟩
 .cases u<;>exact⟨_,d5,rfl,rfl⟩
 simp;lia
section
noncomputable def JC(t u:Bool)(K:Z4)(Z:TA):TI:=λσ H R=>Z σ H λvs O=>∃p q,vs=[.ref p,.ref q]/\(∃xs,SqV t K O p xs)/\(∃ys,SqV u K O q ys)/\R (Itz t u K p q) O
def DK(hg:Gl X "zip")(hm:X.mg "zip"=M)(ha:PA X [a,b] ta)(hs:starEach [a,b] X.env=[(Y,eval a X.env),(Y,eval b X.env)]:=by rfl)(Lm:starEach [b] X.env=[(Y,eval b X.env)]:=by rfl):
  PI X (.Tuple elts x1 tp) (.Call (.Name "zip" p) [a,b] [] pos) (JC t u X.K ta):=by
 intro pins s σ H R I h;refine Call_ (cF I hg hm boot_zip (YN (thn (ha pos pins s σ H _ I h) λus s1 ⟨vs,H1,I1,r1,q1⟩=>?_) (by rw[hs,Lm]) (by rw[Lm];rfl)));obtain⟨l1,l2,e,⟨xs,h1⟩,⟨ys,h2⟩,q⟩:=q1;subst e;cases r1 with
 |cons r rr=>
  cases rr with
  |cons r' rr=>
   cases rr;cases r;cases r';obtain⟨is,ri,sp⟩:=I1.abn h1;obtain⟨js,rj,sq⟩:=I1.abn h2;refine jJ sp sq λz P O c d h' ap Z hi k=>?_;have I2:Inv X pins σ H1 {s1 with heap:=h'}:=I1.kept (t':=s1.toks) k;refine wpAny_pyIter_zip (s:={s1 with heap:=h'}) Z.zz ⟨z,[z,P,O,c,d],_,_,H1,rfl,I2,xo ap,Z,λb hb=>?_,q⟩;have hn:H1 b=M:=I1.hok.fresh (hi b hb);obtain⟨f0,f1,f2,f3,f4,f5⟩:=I1.abg (hi b hb) hn;trivial
noncomputable def fv:Z9 D->Z9 D->Z9 D
 |d::ds,e::es=>.tup [d,e]::fv ds es
 |_,_=>[]
theorem lj:∀(ds es:Z9 D)(i:Nat)(x:D),(fv ds es)[i]?=U x->∃d e,ds[i]?=U d/\es[i]?=U e/\x=.tup [d,e]
 |[],_,i,x,h=>by trivial
 |d::ds,[],i,x,h=>by trivial
 |d::ds,e::es,0,x,h=>by simp[fv]at h;exact⟨d,e,rfl,rfl,h.symm⟩
 |d::ds,e::es,i+1,x,h=>by simpa using lj ds es i x h
theorem dX:∀ds es:Z9 D,(fv ds es).length=min ds.length es.length
 |[],_=>by rfl
 |d::ds,[]=>by rfl
 |d::ds,e::es=>by simp[fv,dX ds es]
noncomputable def E9(t:Bool)(x:Z8 D):Z8 (Z9 D):=if t=L then pV x else b9 x
noncomputable def BZ(t u:Bool)(x y:Z8 D):Z8 (Z9 D):=af (E9 t x) λds=>af (E9 u y) λes=>U (fv ds es)
def da{K:Z4}{B:ZP->Prop}{H:Hp}{t:Bool}{x:Z8 D}{ds:Z9 D}{v:V}{d:D}(h:E9 t x=U ds)(e:x=U d)(r:Rep K B H d v):∃l xs,v=.ref l/\M1 K B H ds xs/\∀O,Ext B H O->SqV t K O l xs:=by
 cases t with
 |true=>
  have:=kP h;rw[e]at this;obtain rfl:=Z7 this;obtain⟨l,xs,rfl,Z,rs⟩:=r;exact⟨l,xs,rfl,rs,λO x=>SqT.of (x.aaY _ _ Z)⟩
 |false=>
  have:=lO h;rw[e]at this;obtain rfl:=Z7 this;obtain⟨l,xs,rfl,Z,rs⟩:=r;exact⟨l,xs,rfl,rs,λO x=>(Z.ext x).sq⟩
theorem B7{t u m:Bool}{a b:Expr}{fa fb:iv->Z8 D}{p pos:Pos}(g:Gl X "zip")(hm:X.mg "zip"=M)(h:DE X m a fa)(h':DE X m b fb)(hs:starEach [a,b] X.env=[(Y,eval a X.env),(Y,eval b X.env)]:=by rfl)(O:starEach [b] X.env=[(Y,eval b X.env)]:=by rfl):
  DI X m (.Tuple elts x1 tp) (.Call (.Name "zip" p) [a,b] [] pos) (λδ=>BZ t u (fa δ) (fb δ)):=
 (DK (t:=t) (u:=u) g hm (au h (au h' aM O) (by rw[hs,O])) hs O).imp λσ H Q hz=>by
  obtain⟨B,Hk,δ,ds,R,e,k⟩:=hz;obtain⟨as,q1,e⟩:=am e;obtain⟨bs,q2,e⟩:=am e;obtain rfl:=Z7 e;obtain⟨d1,e1⟩:∃d,fa δ=U d:=by
   cases q:fa δ with
   |none=>rw[q]at q1;cases t<;>trivial
   |some d=>lia
  obtain⟨d2,e2⟩:∃d,fb δ=U d:=by
   cases q:fb δ with
   |none=>rw[q]at q2;cases u<;>trivial
   |some d=>lia
  refine two R e1 e2 λv w H' s R' r1 r2=>?_;obtain⟨l1,xs,rfl,Na,N_⟩:=da q1 e1 r1;obtain⟨l2,ys,rfl,M_,Z⟩:=da q2 e2 r2;refine⟨l1,l2,rfl,⟨xs,N_ _ Ext.refl⟩,⟨ys,Z _ Ext.refl⟩,k _ H' s λH2 x=>?_⟩;have hx:=N_ H2 x;have hy:=Z H2 x;have rx:=Na.ext x;have ry:=M_.ext x;refine⟨⟨xs,ys,hx,hy,?_⟩,λi d hd=>?_⟩;rw[dX,<-rx.length,<-ry.length];lia;obtain⟨d1,d2,g1,g2,rfl⟩:=lj _ _ _ _ hd;obtain⟨y1,w1,z1⟩:=rx.get g1;obtain⟨y2,w2,z2⟩:=ry.get g2;refine⟨⟨xs,ys,y1,y2,hx,hy,w1,w2⟩,λv H3 ⟨T,v1,v2,hT,ev,e3,n1,n2⟩=>?_⟩;have:=n1 xs hx;rw[w1]at this;obtain rfl:=Z7 this;have:=n2 ys hy;rw[w2]at this;obtain rfl:=Z7 this;have sm:aab H2 (upd H2 T (.tup [y1,y2])):=ar hT;have bo:∀a,bq m B δ σ a->∃o:HOn,H2 a=U o.1:=λa ha=>by
   obtain⟨o,ho⟩:=R'.bsH m a ha;exact⟨o,(x.abD a ha).trans ho⟩
  have ex:=sm.ext bo;rw[e3,ev];refine⟨sm,?_⟩;exact⟨T,[y1,y2],rfl,ah,M1.cons (z1.ext ex) (M1.cons (z2.ext ex) M1.nil)⟩
end
end L2
namespace L2
open PySem PySem.Spec PyProof.Rows
noncomputable def uS:Z9 Str->Z9 Str
 |[]=>[]
 |x::l=>if x∈l then uS l else x::uS l
theorem ip(x:Str):∀l:Z9 Str,x∈uS l↔x∈l
 |[]=>Iff.rfl
 |d::l=>by
  unfold uS;split;rename_i h;rw[ip x l,ZT];lia;rw[ZT,ZT,ip x l]
theorem dF:∀l:Z9 Str,(uS l).Nodup
 |[]=>YK
 |d::l=>by
  unfold uS;split;exact dF l;rename_i h;exact Y8.mpr ⟨λz=>h ((ip d l).mp z),dF l⟩
theorem t7:∀l:Z9 Str,(uS l).length<=l.length
 |[]=>ZU _
 |d::l=>by
  have:=t7 l;unfold uS;split<;>simp<;>lia
section
end
variable[Lams]
theorem Inv.drawn(I:Inv X pins σ H s)(d:Drawn):Inv X pins σ H {s with drawn:=d}:=
 ⟨I.ok,I.os,I.bare,I.base,I.loc,I.cell,I.free,I.aaR,I.pin,I.hok,I.len⟩
@[simp] theorem aaA:lim=1000000:=by decide
@[simp] theorem Mk {O Z:Type}(a:O)(f:O->Z8 Z):af (U a) f=f a:=(rfl)
@[simp] theorem aao (d:D)(b:Bool):shO (U (d,b))=U d:=(rfl)
@[simp] theorem aam (ds:Z9 D):frO (U (.lst ds,L))=U (.lst ds):=(rfl)
@[simp] theorem PK (a:D)(l:Z9 D):aa (U a) (U l)=U (a::l):=(rfl)
@[simp] theorem VV (q:iv)(k:iv->Z8 Out):ay (U (.next q)) k=k q:=(rfl)
@[simp] theorem acI (d:D)(b:Bool)(k:iv->Z8 Out):ay (U (.ret d b)) k=U (.ret d b):=(rfl)
@[simp] theorem aaH (x y:Z8 Out):ifO (U L) x y=x:=(rfl)
@[simp] theorem aaD (x y:Z8 Out):ifO (U Y) x y=y:=(rfl)
@[simp] theorem abY (d:D):cq (U d)=U (.ret d Y):=(rfl)
@[simp] theorem abf (d:D):db (U d)=U (.ret d L):=(rfl)
@[simp] theorem aa6 (d:D)(b:Bool):pZ (U (.ret d b))=U (d,b):=(rfl)
@[simp] theorem aal (q:iv):aai q=U (.next q):=(rfl)
@[simp] theorem aad (i:Nat)(d:D)(q:iv)(h:i<q.length):aS i (U d) q=U (.next (q.set i (U (d,Y)))):=by unfold aS;simp only[ZM h]
@[simp] theorem aav (i:Nat)(d:D)(q:iv)(h:i<q.length):dT i (U d) q=U (.next (q.set i (U (d,L)))):=by unfold dT;simp only[ZM h]
@[simp] theorem aae (i:Nat)(d:D)(q:iv)(h:i<q.length):ae i d q=U (q.set i (U (d,Y))):=by unfold ae;simp only[ZM h]
@[simp] theorem aa3 (O:Z9 D->iv->Z8 iv)(ds:Z9 D)(q:iv):bd O (.tup ds) q=O ds q:=(rfl)
@[simp] theorem aaT (Z:D->iv->Z8 iv)(O:Z9 D->iv->Z8 iv)(d:D)(ds:Z9 D)(q:iv):ao Z O (d::ds) q=af (Z d q) (O ds):=(rfl)
@[simp] theorem aa4 (q:iv):aak [] q=U q:=(rfl)
@[simp] theorem aaG (i j:Int):fC (U (.int i)) (U (.int j))=U (.int (i+j)):=(rfl)
@[simp] theorem aa0 (i j:Int)(h:(-(2 ^ 64)<i/\i<2 ^ 64)\/(-(2 ^ 64)<j/\j<2 ^ 64)):v7 (U (.int i)) (U (.int j))=U (.int (i*j)):=Ba (by exact Zx h)
@[simp] theorem aat (i j:Int)(h:0<j):fw (U (.int i)) (U (.int j))=U (.int (i%j)):=Ba (by exact Zx h)
@[simp] theorem abh (i j:Int)(h:0<j/\j<1073741824):v6 (U (.int i)) (U (.int j))=U (.int (i / j)):=Ba (by exact Zx h)
@[simp] theorem aap (ds:Z9 D)(h:ds.length<=lim):aJ (U ds)=U (.tup ds):=by unfold aJ;simp only[ZM h]
@[simp] theorem aan (ds:Z9 D)(h:ds.length<=lim):bg (U ds)=U (.lst ds):=by unfold bg;simp only[ZM h]
@[simp] theorem aaf (ds:Z9 D):aq (U ds)=U (.lst ds):=(rfl)
@[simp] theorem aah (ds:Z9 D):b9 (U (.lst ds))=U ds:=(rfl)
@[simp] theorem abV (ds:Z9 D):pV (U (.tup ds))=U ds:=(rfl)
@[simp] theorem abz (ds:Z9 D):ce (U (.lst ds))=U (.tup ds):=(rfl)
@[simp] theorem abb (ds:Z9 D):jD (U (.lst ds))=U (.lst ds):=(rfl)
@[simp] theorem aaI (ds:Z9 D):eX (U (.lst ds))=U (.int ds.length):=(rfl)
@[simp] theorem acq (ds:Z9 D):eX (U (.tup ds))=U (.int ds.length):=(rfl)
@[simp] theorem aaZ (ds:Z9 D)(i:Int):ixO (U (.lst ds)) (U (.int i))=atI ds i:=(rfl)
@[simp] theorem abE (ds:Z9 D)(i:Int):ixO (U (.tup ds)) (U (.int i))=atI ds i:=(rfl)
@[simp] theorem aa5 (i:Int):dk (U (.int i))=U (U i):=(rfl)
@[simp] theorem acf (ds:Z9 D)(l u:Z8 Int):vO (U (.lst ds)) (U l) (U u)=U (.lst (v9 ds l u)):=(rfl)
@[simp] theorem abc (z:Str)(l u:Z8 Int)(h:z.length<=lim):fo (U (.str z)) (U l) (U u)=U (.str (jr z l u)):=by unfold fo;simp only[ZM h]
@[simp] theorem abw (x y:Str)(h:x.length+y.length<=lim):v8 (U (.str x)) (U (.str y))=U (.str (x++y)):=by unfold v8;simp only[ZM h]
@[simp] theorem aa1 (x y:Z9 D)(h:x.length+y.length<=lim):jQ (U (.lst x)) (U (.lst y))=U (.lst (x++y)):=by unfold jQ;simp only[ZM h]
@[simp] theorem ab3 (b:Bool):dB (U b)=U (!b):=(rfl)
@[simp] theorem aby (b:Bool):tyB (U (.bl b))=U b:=(rfl)
@[simp] theorem ab2 (b:Bool):ofB (U b)=U (.bl b):=(rfl)
@[simp] theorem acs (g:Int->Int->Bool)(i j:Int):cI g (U (.int i)) (U (.int j))=U (g i j):=(rfl)
@[simp] theorem acO (y:Z8 Bool):orO (U L) y=U L:=(rfl)
@[simp] theorem ab1 (y:Z8 Bool):orO (U Y) y=y:=(rfl)
@[simp] theorem ab7 (y:Z8 Bool):rG (U L) y=y:=(rfl)
@[simp] theorem acN (y:Z8 Bool):rG (U Y) y=U Y:=(rfl)
def yf(x y:D)(h:ok2 x y=L):eqO (U x) (U y)=U (decide (x=y)):=by unfold eqO;simp only[ZM h]
@[simp] theorem aaM (i j:Int):eqO (U (.int i)) (U (.int j))=U (decide (i=j)):=by
 rw[yf _ _ (by rfl)];simp only[D.int.injEq]
def BD(x y:D)(h:ok2 x y=L):neO (U x) (U y)=U (!decide (x=y)):=by unfold neO;rw[yf _ _ h];rfl
def gP(j:Int)(h: -(2 ^ 62)<=j/\j<2 ^ 62):rB (U (.int j))=U (iA 0 j.toNat):=by unfold rB;simp only[Zx h,YB]
def fm(d:D)(h:q[i]?=U (U (.lst ds,L)))(O:ds.length<lim):kO i (U d) q=U (.next (q.set i (U (.lst (ds++[d]),L)))):=by
 unfold kO cm;simp only[h,ZM O]
def yH(h:q[i]?=U (U (.lst ds,L)))(O:ds.length+es.length<=lim):tj i (U (.lst es)) q=U (.next (q.set i (U (.lst (ds++es),L)))):=by
 unfold tj cm;simp only[h,ZM O]
@[simp] theorem WC (m:Bool)(d:D)(q:iv):rd m 0 (U (d,Y)::q)=U d:=(rfl)
@[simp] theorem abt (d:D)(q:iv):rd L 0 (U (d,L)::q)=U d:=(rfl)
@[simp] theorem aaa (m:Bool)(i:Nat)(x:Z8 (D×Bool))(q:iv):rd m (i+1) (x::q)=rd m i q:=(rfl)
@[simp] theorem abO (d:D)(q:iv):cm 0 (U (d,L)::q)=U d:=(rfl)
@[simp] theorem abN (i:Nat)(x:Z8 (D×Bool))(q:iv):cm (i+1) (x::q)=cm i q:=(rfl)
@[simp] theorem aaF (d:D)(b:Bool)(q:iv):aaB 0 (U (d,b)::q)=U (d,Y)::q:=by cases b<;>rfl
@[simp] theorem aaE (i:Nat)(x:Z8 (D×Bool))(q:iv):aaB (i+1) (x::q)=x::aaB i q:=by
 unfold aaB;rw[List.getElem?_cons_succ];split<;>simp_all
set_option tactic.hygienic true in
def HV(i:Nat)(d:D)(q:iv):kO i (U d) q=(match cm i q with|some (.lst ds)=>if ds.length<lim then U (.next (q.set i (U (.lst (ds++[d]),L)))) else M|_=>M):=by
 unfold kO;split;rename_i Z O;obtain rfl:=Z7 O;rw[Z];rename_i h;split;lia;rfl
set_option tactic.hygienic true in
def Cz(i:Nat)(es:Z9 D)(q:iv):tj i (U (.lst es)) q=(match cm i q with|some (.lst ds)=>if ds.length+es.length<=lim then U (.next (q.set i (U (.lst (ds++es),L)))) else M|_=>M):=by
 unfold tj;split;rename_i Z O;cases O;rw[Z];rename_i h;split;lia;rfl
def Em(h:ds.length=np):bG n np g ds=pZ (g (dO n ds)):=by unfold bG;rw[ZM h]
def ak(hf:f=bG n np g)(Z:ds.length=np)(O:dO n ds=d):f ds=pZ (g d):=by subst hf O;exact Em Z
def zn{Z:Type}{xs:Z9 Z}{i:Int}(h0:0<=i)(h1:i<xs.length):∃v,v∈xs/\xs[i.toNat]?=U v/\atI xs i=U v:=by
 have O:i.toNat<xs.length:=by lia
 refine⟨xs[i.toNat],YF O,by simp[O],?_⟩;have:=sw (xs:=xs) (j:=i.toNat) (v:=xs[i.toNat]) (by simp[O]);rwa[Wp h0]at this
def kH{O:Type}{xs:Z9 O}{i:Int}{v:O}(Z:0<=i)(h:xs[i.toNat]?=U v):atI xs i=U v:=by
 have:=sw h;rwa[Wp Z]at this
theorem gB:∀{ds:Z9 D},(∀d∈ds,h d=U (U (g d)))->aU h ds=U (ds.map g)
 |[],_=>rfl
 |d::ds,e=>by
  unfold aU;rw[e d (ZR ..),gB λx O=>e x (ZY _ O)];rfl
theorem oS{h:D->Z8 (Z8 D)}{P:D->D->Prop}:∀{ds:Z9 D},(∀d∈ds,∃y,h d=U (U y)/\P d y)->∃g:Z9 D,aU h ds=U g/\g.length=ds.length/\∀(i:Nat) d,ds[i]?=U d->∃y,g[i]?=U y/\P d y
 |[],_=>⟨[],rfl,rfl,λi d h=>by simp at h⟩
 |d::ds,e=>by
  obtain⟨y,e1,p⟩:=e d (ZR ..);obtain⟨g,e2,hl,hp⟩:=oS λx hx=>e x (ZY _ hx);refine⟨y::g,?_,by simp[hl],λi z hz=>?_⟩;unfold aU;rw[e1,e2];cases i with
  |zero=>simp_all
  |succ i=>simp_all
def aC(h:ds.length<=lim):bF bo bs q ft fe O ds=aU (aB q ft fe (az bo bs O)) ds:=by unfold bF;rw[ZM h]
theorem kB(I:Z9 D->iv->Prop):∀(O pre:Z9 D)(δ:iv),I pre δ->(∀p d q δ,p++d::q=pre++O->I p δ->∃Z,(body d δ=U (.next Z)\/body d δ=U (.cont Z))/\I (p++[d]) Z)->
  ∃Z,aA body O δ=U (.next Z)/\I (pre++O) Z
 |[],pre,δ,h,_=>⟨δ,rfl,by simpa using h⟩
 |d::O,pre,δ,h,st=>by
  obtain⟨C_,e1,i1⟩:=st pre d O δ rfl h;obtain⟨Z,e',i'⟩:=kB I O (pre++[d]) C_ i1 λp d' q δ e i=>st p d' q δ (by simpa using e) i;refine⟨Z,?_,by simp_all⟩;unfold aA;rcases e1 with e1|e1<;>rw[e1]<;>exact e'
def wR{lo:Int}(h:d∈iA lo n):∃i:Nat,i<n/\d=.int (lo+i):=by
 obtain⟨i,O,e⟩:=ZZ.mp h;exact⟨i,Zk.mp O,e.symm⟩
def cw(lo:Int)(n:Nat):(iA lo n).length=n:=by unfold iA;simp
def vU:∀(ts:Z9 Str),(Txt.join "" ts).length=(ts.map (·.length)).sum:=by
 intro ts;show(Builtin.Str.glued "" ts).length=_;rw[StrLaws.glued_eq_join]
 induction ts with
 |nil=>rfl
 |cons x r O=>
  cases r with
  |nil=>rfl
  |cons y r=>
   show(x++("":Str)++Str.join "" (y::r)).length=_;rw[Xl,Xl,O];rfl
def A9{P:D->D->Prop}{ds g:Z9 D}{Q:Str->Prop}(hl:g.length=ds.length)(h:∀(i:Nat) d,ds[i]?=U d->∃y,g[i]?=U y/\P d y)(hP:∀d y,P d y->∃x,y=.str x/\Q x):∃ss:Z9 Str,g=ss.map D.str/\∀x∈ss,Q x:=by
 have O:∀y∈g,∃x,y=.str x/\Q x:=λy O=>by
  obtain⟨i,hi,e⟩:=Y_.mp O;obtain⟨z,Z,p⟩:=h i (ds[i]'(by lia)) (by simp);rw[YW hi]at Z;obtain rfl:=Z7 Z;rw[<-e];exact hP _ _ p
 clear h hl
 induction g with
 |nil=>simp
 |cons y g ih=>
  obtain⟨x,e,q⟩:=O y (ZR ..);obtain⟨ss,e2,q2⟩:=ih λz hz=>O z (ZY _ hz);refine⟨x::ss,by rw[e,e2];rfl,λz hz=>?_⟩
  grind
def Bk(z:Str)(ys:Z9 Str)(h:(ys.map (·.length)).sum+ys.length*z.length<=16777216):tE (U (.str z)) (U (.lst (ys.map D.str)))=U (.str (Txt.join z ys)):=by
 unfold tE;simp only[ui,ZM h]
def oN{ss:Z9 Str}(h:∀x∈ss,x.length=1):(ss.map (·.length)).sum=ss.length:=by
 induction ss with
 |nil=>rfl
 |cons x r O=>
  grind
noncomputable def Fa(x:Z8 D)(Z:D->iv->Z8 iv)(q:iv):Z8 Out:=match x with|some d=>(match Z d q with|some O=>U (.next O)|none=>M)|none=>M
set_option tactic.hygienic true in
theorem uG(ha:DE X Y a fa)(hg:DG X tg τ)(hs:swapsWithSole [tg] a pos.line X.env=pure Y:=by rfl)(hw:swappedStores [tg] a X.env=pure M:=by rfl)(h1:(assignEach [tg] X.env).map (·.2)=[assign tg X.env]:=by rfl):
  DS X (.Assign [tg] a pos) (λq=>Fa (fa q) τ q):=
 (Db ha hg hs hw h1).imp λDn σ H hz=>by
  obtain⟨B,Hk,q,o,R,e,k⟩:=hz;unfold Fa at e;dsimp only at e;split at e;rename_i d qd;split at e;rename_i Z Ve;obtain rfl:=Z7 e;refine⟨B,Hk,q,d,R,qd,λv H1 s1 r1=>?_⟩;exact⟨B,Hk,q,d,Z,R.to s1,r1,Ve,λO R'=>k O H1 (s1.ext R.abo) R'⟩;trivial;trivial
noncomputable def aY(t:iv->Z8 Bool)(b:iv->Z8 Out):Nat->iv->Z8 Out
 |0,_=>M
 |n+1,q=>match t q with
  |none=>M
  |some false=>U (.next q)
  |some true=>match b q with
   |some (.next B_)=>aY t b n B_
   |some (.cont B_)=>aY t b n B_
   |some (.brk B_)=>U (.next B_)
   |some (.ret e fr)=>U (.ret e fr)
   |none=>M
section
variable{X:Cx}{c a b:Expr}{body:Z9 Stmt}{ft:iv->Z8 Bool}{gb:iv->Z8 Out}{pos:Pos}{fa fb:iv->Z8 D}{m:Bool}
theorem oC(n:Nat)(hp:PassesOwn (model X.prog X.w) X.A X.env X.xe)(hc:DT X c ft)(hb:DSs X body gb):DS X (.While c body [] pos) (λδ=>aY ft gb n δ):=
 (wf hp hc hb).imp λDn σ H hz=>by
  obtain⟨B,Hk,δ,o,R,e,k⟩:=hz;refine⟨λj i_ H'=>∃O,Ext B H H'/\Rel X.K B Hk O i_ H'/\aY ft gb j O=U o,⟨n,δ,Ext.refl,R,e⟩,?_⟩
  rintro j SO H1 ⟨C_,x1,R1,Z⟩
  cases j with
  |zero=>trivial
  |succ j=>
   unfold aY at Z;cases q:ft C_ with
   |none=>rw[q]at Z;trivial
   |some t=>
    refine⟨B,Hk,C_,t,R1,q,λH2 s2=>?_⟩;rw[q]at Z;have x2:=x1.trans (R1.ext s2);have R2:=R1.to s2;cases t with
    |false=>
     obtain rfl:=Z7 Z;exact k SO H2 x2 R2
    |true=>
     cases q2:gb C_ with
     |none=>rw[q2]at Z;trivial
     |some o1=>
      rw[q2]at Z;refine⟨λi_ H'=>∃O,Ext B H H'/\Rel X.K B Hk O i_ H'/\aY ft gb j O=U o,λi_ H' z=>⟨j,Yr j,z⟩,B,Hk,C_,o1,R2,q2,?_⟩;cases o1 with
      |next Mn=>exact λM7 H4 x4 R4=>⟨Mn,x2.trans x4,R4,Z⟩
      |cont Mn=>exact λM7 H4 x4 R4=>⟨Mn,x2.trans x4,R4,Z⟩
      |brk Mn=>obtain rfl:=Z7 Z;exact λM7 H4 x4 R4=>k M7 H4 (x2.trans x4) R4
      |ret d fr=>obtain rfl:=Z7 Z;exact λv4 H4 x4 R4=>k v4 H4 (x2.trans x4) R4
noncomputable def B1(x:Z8 D):Z8 Bool:=match x with
 |some .non=>U Y
 |some (.bl b)=>U b
 |some (.int i)=>U (i != 0)
 |some (.str y)=>if y.length<=lim then U ((y.length:Int) != 0) else M
 |some (.lst ds)=>U (!ds.isEmpty)
 |some (.tup ds)=>U (!ds.isEmpty)
 |_=>M
def M1.empty{K:Z4}{B:ZP->Prop}{H:Hp}{ds:Z9 D}{xs:Z9 V}(r:M1 K B H ds xs):ds.isEmpty=xs.isEmpty:=by
 have:=r.length;cases ds<;>cases xs<;>simp at this<;>rfl
theorem zl(ha:DE X m a fa)(he:∀O,isTrue a X.env O=(do let v <-O;standAt a.pos;holding [v] (truthy v)):=by intro _;rfl):DT X a (λδ=>B1 (fa δ)):=
 (pR ha he).imp λσ H Q hz=>by
  obtain⟨B,Hk,δ,d,R,e,k⟩:=hz;dsimp only at e;cases q:fa δ with
  |none=>rw[q]at e;trivial
  |some z=>
   rw[q]at e;refine⟨B,Hk,δ,z,R,q,λv H' s r=>⟨d,?_,k H' s⟩⟩;cases z with
   |non=>subst r;obtain rfl:=Z7 e;rfl
   |bl b=>subst r;obtain rfl:=Z7 e;rfl
   |int i=>subst r;obtain rfl:=Z7 e;rfl
   |str y=>
    subst r;simp only[B1]at e;by_cases hl:y.length<=lim;rw[ZM hl]at e;obtain rfl:=Z7 e;exact⟨aF hl,rfl⟩;rw[ZH hl]at e;trivial
   |lst ds=>
    obtain⟨p,xs,rfl,Z,rs⟩:=r;obtain rfl:=Z7 e;exact .inl ⟨xs,Z.sq,by rw[rs.empty]⟩
   |tup ds=>
    obtain⟨p,xs,rfl,Z,rs⟩:=r;obtain rfl:=Z7 e;exact .inr (.inl ⟨xs,SqT.of Z,by rw[rs.empty]⟩)
   |dK ks vs=>trivial
   |dD ks vs=>trivial
def rH(x:Z8 D):Z8 Bool:=match x with|some d=>U (decide (d=.non))|none=>M
theorem Rep.non{K:Z4}{B:ZP->Prop}{H:Hp}{d:D}{v:V}(r:Rep K B H d v):(v=.non)=(d=.non):=by
 cases d
 all_goals first
  |(subst r;simp)
  |(obtain⟨p,xs,rfl,_⟩:=r;simp)
def rN{K:Z4}{B:ZP->Prop}{H:Hp}{d:D}{v:V}(r:Rep K B H d v):decide (v=.non)=decide (d=.non):=by
 simp[r.non]
def k7{c:Bool}(h:rH x=U c):∃d,x=U d/\c=decide (d=.non):=by
 unfold rH at h;split at h;lia;trivial
theorem Dc(ha:DE X m a fa)(hm:behindInMarks .Is (.Constant .none tk p)=Y:=by rfl):DT X (.Compare a [.Is] [.Constant .none tk p] pos) (λδ=>rH (fa δ)):=
 (cz Et ha (sW (m:=Y)) hm).imp λσ H Q hz=>by
  obtain⟨B,Hk,δ,d,R,e,k⟩:=hz;obtain⟨z,q,rfl⟩:=k7 e;refine two (fb:=λ_=>U .non) R q rfl λv u H' s R' Z O=>?_;exact⟨O,_,rfl,by rw[rN Z];exact k H' s⟩
theorem Ao{tk:Nat}{p:Pos}(ha:DE X m a fa)(hm:behindInMarks .IsNot (.Constant .none tk p)=Y:=by rfl):DT X (.Compare a [.IsNot] [.Constant .none tk p] pos) (λO=>dB (rH (fa O))):=
 (cz AS ha (sW (m:=Y)) hm).imp λσ H Q hz=>by
  obtain⟨B,Hk,O,d,R,e,k⟩:=hz;cases h:rH (fa O)with
  |none=>simp_all [h,dB]
  |some c=>
   simp only[h,dB]at e;obtain rfl:=Z7 e;obtain⟨z,q,rfl⟩:=k7 h;refine two (fb:=λ_=>U .non) R q rfl λv u H' s R' r1 r2=>?_;exact⟨r2,_,rfl,by rw[rN r1];exact k H' s⟩
end
noncomputable def Ite(K:Z4)(p:ZP):It:=
 ⟨λi H=>∃xs x,SqL K H p xs/\xs[i]?=U x,
  λi H v O=>∃T x,H T=M/\v=.ref T/\O=upd H T (.tup [.int i,x])/\∀xs,SqL K H p xs->xs[i]?=U x,
  λi H=>∃xs,SqL K H p xs/\xs.length<=i⟩
structure En (h:Heap)(e c p:ZP)(n:Nat):Prop where
 ee:∃old,IsEnum h e c n old
 cc:h.IsListIter c p n
def Ae{x1}(he:IsEnumOut s.heap e c i x T)(O:∀h',IsEnum h' e c i x->Heap.SameBut e s.heap h'->Q () {s with heap:=h'}):wpAny (model prog w) A (letOwnedTupleGo (.Tuple elts x1 pos) (.ref e) (.ref T)) Q E s:=by
 refine Z_ (Wu he ?_);change wpAny _ _ (if(["enumerate","zip","dict_itemiterator","dict_reverseitemiterator","odict_iterator","itertools.zip_longest","itertools.pairwise"].contains "enumerate"&&(#[rawInt T,.bool Y,.ref c,rawInt i,.none,x]:Array Z3)[0]?==U (rawInt T))=L then _ else _) Q E s;refine qm (by simp) ?_;refine Z_ (YE (X6 he (by simp) λh' g' m'=>O h' g' m'))
def rO{P:Za}{w:Y1}{K:Z4}{elts:Z9 Expr}{x1}{pos:Pos}{e c p:ZP}(ne:e≠c):
  Turn P w K (.Tuple elts x1 pos) (Ite K p) [e,c] e (λn h=>En h e c p n) where
 mem:=by simp
 obj:=λi h st b hb=>by
  obtain⟨⟨O,ee⟩,cc⟩:=st;simp only[ZT,Ze,Yi]at hb;rcases hb with rfl|rfl
  .simp_all
  obtain⟨o,g,_,hd⟩:=cc;simp_all
 keep:=λi h h' st k=>by
  obtain⟨⟨O,ee⟩,cc⟩:=st;exact⟨⟨O,k e (by simp) _ ee⟩,cc.at λo g=>k c (by simp) o g⟩
 item:=by
  intro X hP hw hK hc i pins s σ H E I Z st hg;subst hP hw hK;obtain⟨xs,x,h1,hx⟩:=hg;obtain⟨is,ri,sp,_⟩:=I.list h1;obtain⟨ux,e1,r1⟩:=ri.get hx;obtain⟨⟨O,ee⟩,cc⟩:=st;refine wpAny_pyNext_enum_item ee cc sp.isList (x:=ux) (by simpa using e1) ne λh' out cc' new sz k=>⟨_,rfl,?_⟩
  have hT:H s.z=M:=I.hok.fresh (ZU _);have nT:∀b∈[e,c],b≠s.z:=λb hb q=>by
   simp only[ZT,Ze,Yi]at hb;rcases hb with rfl|rfl;rw[q]at ee;exact absurd (Z1 ee) (Zv _);obtain⟨o,g,_⟩:=cc;rw[q]at g;exact absurd (Z1 g) (Zv _)
  have I1:Inv X pins σ (upd H s.z (.tup [.int i,x])) {s with heap:=h',toks:=s.toks+1}:=I.abK (fp:=[e,c]) (λb o hb q=>k b o (λz=>hb (by simp[z])) (λz=>hb (by simp[z])) q) Z (ZU _)
   ⟨by show 2<=sizeLine;decide,[.int i s.toks,ux],.cons ⟨_,rfl⟩ (.cons r1 .nil),⟨_,new,rfl,_,rfl⟩⟩
  refine Ae (s:={s with heap:=h',toks:=s.toks+1}) out λg2 e2 m2=>?_;have hz:=Z e (by simp);refine⟨.ref s.z,upd H s.z (.tup [.int i,x]),I1.turned (t':=s.toks+1) (λb o hb q=>ai m2 hb q) (by rw[aj (nT e (by simp))];exact hz.1) hz.2.1 hz.2.2.2.1 hz.2.2.2.2.1 hz.2.2.2.2.2,rfl,
   ⟨s.z,x,hT,rfl,rfl,λxs' h=>by rw[I.aaN h h1];exact hx⟩,⟨⟨_,e2⟩,cc'.at λo g=>ai m2 (ZF ne) g⟩,λb hb=>by rw[aj (nT b hb)];exact(Z b hb).1⟩
 done:=by
  intro X hP hw hK hc i pins s σ H E I Z st hg;subst hP hw hK;obtain⟨xs,h1,hl⟩:=hg;obtain⟨is,ri,sp,_⟩:=I.list h1;have l1:=ri.length;obtain⟨⟨O,ee⟩,cc⟩:=st;exact wpAny_pyNext_enum_end (I.ok.hd hc) ee cc sp.isList (by simp;lia) λh' k=>⟨rfl,I.turns (t':=s.toks) (fp:=[e,c]) (λb o hb q=>k b o (λz=>hb (by simp[z])) q) Z⟩
 self:=λ_ _ _ _ _ st h=>by obtain⟨⟨O,ee⟩,cc⟩:=st;exact wpAny_pyIter_enum ee h
noncomputable def enL(h:Heap)(p:ZP):Heap:=(h.push (itO Y p)).push {cls:=.type "enumerate",data:=.fields #[.none,.bool Y,.ref h.objs.size,rawInt 0,.none,.none]}
set_option tactic.hygienic true in
def yy(p:ZP)(xs:Array Z3):Meets (Builtin.«enumerate.__new__» ⟨[.type "enumerate",.ref p],[]⟩) (λ_ R s=>aar Y s.heap p xs/\R (.ok (.ret (.ref (s.heap.push (itO Y p)).objs.size))) {s with heap:=enL s.heap p}):=
 .of_wp λprog w A R s h=>by
  obtain⟨hp,g,d,tk,os⟩:=s;obtain⟨h1,h⟩:=h;have Z:=sub_enumerate;have O:aar Y (Shared.heap ⟨hp,g,d,tk,os⟩) p xs:=h1
  wp_walk using dJ O
  refine wpAny_stack_any λst=>Z6 ?_;split
  .rename_i c0 _ _ _ _ _
   cases (c0==Value.type "enumerate")<;>(wp_walk using dJ O;exact⟨_,rfl,h⟩)
  .wp_walk using dJ O
   exact⟨_,rfl,h⟩
def tS(hp:aar Y s.heap p xs)(h:∀h',IsEnum h' (s.z+1) s.z 0 .none->h'.IsListIter s.z p 0->(∀b o,s.heap.get? b=U o->h'.get? b=U o)->Q (.ref (s.z+1)) {s with heap:=h'}):
  wpAny (model prog w) A (call (.type "enumerate") [.ref p]) Q E s:=by
 refine callType_new F.called_enumerate (by decide) (F.typeCall_enumerate_1 _) (F.newCall_enumerate_1 _) (λobj=>F.args_object_init_2 obj _) F.entry_enumerate_new (yy p xs) ⟨hp,?_⟩;have s1:(s.heap.push (itO Y p)).objs.size=s.z+1:=YV ..;have O:(enL s.heap p).get? (s.heap.push (itO Y p)).objs.size=U {cls:=.type "enumerate",data:=.fields #[.none,.bool Y,.ref s.z,rawInt 0,.none,.none]}:=ZX _ rfl;have Z:(enL s.heap p).get? s.z=U (itO Y p):=Z5 _ (ZX _ rfl);rw[s1]at O;refine⟨⟨_,by rw[s1];exact O,rfl⟩,?_⟩;rw[s1];exact h _ O ⟨_,Z,rfl,rfl⟩ λb o e=>Z5 _ (Z5 _ e)
section
variable{p:Pos}
def Gj(K:Z4)(Z:TA):TI:=λσ H R=>Z σ H λvs O=>∃p,vs=[.ref p]/\(∃xs,SqL K O p xs)/\R (Ite K p) O
def Bm{ta:TA}(hg:Gl X "enumerate")(hm:X.mg "enumerate"=M)(ha:PA X [a] ta)(hs:starEach [a] X.env=[(Y,eval a X.env)]:=by rfl):
  PI X (.Tuple elts x1 tp) (.Call (.Name "enumerate" p) [a] [] pos) (Gj X.K ta):=by
 intro pins s σ H R I h;refine Call_ (cF I hg hm boot_enumerate (YN (thn (ha pos pins s σ H _ I h) λus s1 ⟨vs,H1,Z,r1,q1⟩=>?_) hs rfl));obtain⟨l1,e,⟨xs,h1⟩,q⟩:=q1;subst e;cases r1 with
 |cons r rr=>
  cases rr;cases r;obtain⟨is,ri,sp,_⟩:=Z.list h1;refine tS (p:=l1) sp.isList λh' ee cc k=>?_;have I2:Inv X pins σ H1 {s1 with heap:=h'}:=Z.kept (t':=s1.toks) k;refine wpAny_pyIter_enum (s:={s1 with heap:=h'}) ee ⟨s1.z+1,[s1.z+1,s1.z],_,_,H1,rfl,I2,rO (Nat.ne_of_gt (Yr _)),⟨⟨_,ee⟩,cc⟩,λb hb=>?_,q⟩;have O:s1.z<=b:=by
   simp only[ZT,Ze,Yi]at hb;rcases hb with rfl|rfl;exact W4 _;exact ZU _
  obtain⟨f0,f1,f2,f3,f4,f5⟩:=Z.abg O (Z.hok.fresh O);trivial
noncomputable def dy(i:Nat):Z9 D->Z9 D
 |[]=>[]
 |d::ds=>.tup [.int i,d]::dy (i+1) ds
theorem k6:∀(ds:Z9 D)(j i:Nat)(x:D),(dy j ds)[i]?=U x->∃d,ds[i]?=U d/\x=.tup [.int ((j+i:Nat):Int),d]
 |[],j,i,x,h=>by trivial
 |d::ds,j,0,x,h=>by simp_all [dy,h]
 |d::ds,j,i+1,x,h=>by
  obtain⟨e,h1,O⟩:=k6 ds (j+1) i x h;exact⟨e,by trivial,by rw[O,show j+1+i=j+(i+1) by lia]⟩
theorem jR:∀(j:Nat)(ds:Z9 D),(dy j ds).length=ds.length
 |_,[]=>rfl
 |j,d::ds=>by simp[dy,jR (j+1) ds]
noncomputable def ju(x:Z8 D):Z8 (Z9 D):=match x with|some (.lst ds)=>U (dy 0 ds)|_=>M
theorem AR(g:Gl X "enumerate")(hm:X.mg "enumerate"=M)(h:DE X m a fa)(hs:starEach [a] X.env=[(Y,eval a X.env)]:=by rfl):
  DI X m (.Tuple elts x1 tp) (.Call (.Name "enumerate" p) [a] [] pos) (λq=>ju (fa q)):=
 (Bm g hm (au h aM hs) hs).imp λσ H Q hz=>by
  obtain⟨B,Hk,q,ds,R,e,k⟩:=hz;dsimp only at e;unfold ju at e;split at e;rename_i as q1;obtain rfl:=Z7 e;refine ou R q1 λv H' s R' r1=>?_;obtain⟨l1,xs,rfl,hq,rs⟩:=r1;refine⟨l1,rfl,⟨xs,hq.sq⟩,k _ H' s λH2 x=>?_⟩;have Z:=(hq.ext x).sq;have rx:=rs.ext x;refine⟨⟨xs,Z,by simp[jR,rx.length]⟩,λi d hd=>?_⟩;obtain⟨d1,g1,rfl⟩:=k6 _ _ _ _ hd;obtain⟨O,w1,z1⟩:=rx.get g1;refine⟨⟨xs,O,Z,w1⟩,λv H3 ⟨T,v1,hT,ev,e3,n1⟩=>?_⟩;have:=n1 xs Z;rw[w1]at this;obtain rfl:=Z7 this;have sm:aab H2 (upd H2 T (.tup [.int i,O])):=ar hT;have bo:∀a,bq m B q σ a->∃o:HOn,H2 a=U o.1:=λa ha=>by
   obtain⟨o,ho⟩:=R'.bsH m a ha;exact⟨o,(x.abD a ha).trans ho⟩
  have ex:=sm.ext bo;rw[e3,ev];refine⟨sm,?_⟩;refine⟨T,[.int i,O],rfl,ah,M1.cons ?_ (M1.cons (z1.ext ex) M1.nil)⟩;simp only[Rep,Yh];trivial
end
mutual
theorem KR.raw(ok:HOk P w H h):∀{d:D}{v:V}{u:Z3},KR H d v->RelV v u->RH h d u
 |.int i,v,u,r,q=>by subst r;assumption
 |.str i,v,u,r,q=>by subst r;assumption
 |.tup ds,v,u,r,q=>by
  obtain⟨a,xs,rfl,g,rs⟩:=r;cases q;obtain⟨_,its,O,Z⟩:=(show aaj P w H h a (.tup xs) from ok a _ g)
  exact⟨a,its,rfl,Z,KRs.raw ok rs O⟩
 |.non,v,u,r,_=>by assumption
 |.bl _,v,u,r,_=>by assumption
 |.lst _,v,u,r,_=>by assumption
 |.dK _ _,v,u,r,_=>by assumption
 |.dD _ _,v,u,r,_=>by assumption
theorem KRs.raw(ok:HOk P w H h):∀{ds:Z9 D}{xs:Z9 V}{us:Z9 Z3},KRs H ds xs->aac xs us->RHs h ds us
 |[],xs,us,r,q=>by subst r;cases q;rfl
 |d::ds,xs,us,r,q=>by
  obtain⟨x,t,rfl,Z,O⟩:=r;cases q with
  |cons q1 q2=>exact⟨_,_,rfl,KR.raw ok Z q1,KRs.raw ok O q2⟩
end
mutual
theorem Rep.key{K:Z4}{B:ZP->Prop}{H:Hp}:∀{n:Nat}{d:D}{v:V},bf n d=L->Rep K B H d v->KR H d v
 |n,.int i,v,_,r=>by assumption
 |n,.str i,v,_,r=>by assumption
 |n,.tup ds,v,h,r=>by
  obtain⟨a,xs,rfl,g,rs⟩:=r;obtain⟨k,_,hd⟩:=cA h;exact⟨a,xs,rfl,g,M1.key hd rs⟩
 |n,.non,v,h,_=>by simp_all [bf]
 |n,.bl _,v,h,_=>by simp_all [bf]
 |n,.lst _,v,h,_=>by simp_all [bf]
 |n,.dK _ _,v,h,_=>by simp_all [bf]
 |n,.dD _ _,v,h,_=>by simp_all [bf]
theorem M1.key{K:Z4}{B:ZP->Prop}{H:Hp}:∀{n:Nat}{ds:Z9 D}{xs:Z9 V},ds.all (bf n)=L->M1 K B H ds xs->KRs H ds xs
 |n,[],xs,_,r=>by assumption
 |n,d::ds,xs,h,r=>by
  rw[li,ZQ]at h;obtain⟨x,t,rfl,Z,O⟩:=r;exact⟨x,t,rfl,Rep.key h.1 Z,M1.key h.2 O⟩
end
mutual
theorem KR.rep{K:Z4}{B:ZP->Prop}{H:Hp}:∀{d:D}{v:V},KR H d v->Rep K B H d v
 |.int i,v,r=>by assumption
 |.str i,v,r=>by assumption
 |.tup ds,v,r=>by
  obtain⟨a,xs,rfl,g,rs⟩:=r;exact⟨a,xs,rfl,g,KRs.rep rs⟩
 |.non,v,r=>by trivial
 |.bl _,v,r=>by trivial
 |.lst _,v,r=>by trivial
 |.dK _ _,v,r=>by trivial
 |.dD _ _,v,r=>by trivial
theorem KRs.rep{K:Z4}{B:ZP->Prop}{H:Hp}:∀{ds:Z9 D}{xs:Z9 V},KRs H ds xs->M1 K B H ds xs
 |[],xs,r=>by assumption
 |d::ds,xs,r=>by
  obtain⟨x,t,rfl,Z,O⟩:=r;exact⟨x,t,rfl,KR.rep Z,KRs.rep O⟩
end
def aau.val(r:aau H kvs xs)(k:D):aaV (eP kvs k) ((atKey xs k).map (·.2)):=by
 induction r with
 |nil=>trivial
 | @cons p q ps qs h t O=>
  by_cases e:p.1=k;rw[bV e,show atKey (q::qs) k=U q.2 by simp[atKey,List.find?_cons,h.1.symm.trans e]];exact h.2.2.2;have Z:¬q.1=k:=λz=>e (h.1.trans z);rw[b7 e,show atKey (q::qs) k=atKey qs k by simp[atKey,List.find?_cons,Z]];exact O
def aau.abZ(r:aau H kvs xs)(k:D)(ry:RelV y u):aau H (kvs.map λO=>if O.1=k then(O.1,y) else O) (xs.map (putAt k u)):=by
 induction r with
 |nil=>exact .nil
 | @cons p q ps qs h t Z=>
  refine .cons ?_ Z;simp[putAt];lia
def aau.put(r:aau H kvs xs)(k:D)(hk:bf 8 k=L)(hb:KR H k (.ref b))(O:RelV y u):aau H (de kvs k y) (storedH xs k b u):=by
 have e:(kvs.any λZ=>decide (Z.1=k))=(atKey xs k).isSome:=by rw[dN,(r.val k).aaX,W7]
 unfold de storedH;rw[e];by_cases q:(atKey xs k).isSome=L;rw[ZM q,ZM q];exact r.abZ k O;rw[ZH q,ZH q];exact Paired.snoc r ⟨rfl,hk,hb,O⟩
section
variable{h:Heap}
def jO(ok:HOk P w H h)(e:Rd H a (.dD kvs ep)):kvs.length<=sizeLine/\(a==sysModules)=Y/\∃xs,aau H kvs xs/\h.DictOfH (bv P w) a xs:=by
 obtain⟨z,y,xs,r,o,es,h1,h2,h3,h4,h5⟩:=(show aaj P w H h a (.dD kvs ep) from qV ok e)
 refine⟨z,y,xs,r,o,es,ep,h1,h2,h3,h4,?_,h5⟩;have all:∀{l:Z9 (D×V)}{m:Z9 (D×ZP×Z3)},aau H l m->∀x∈m,(bv P w).is h x.1 x.2.1:=by
  intro l m q
  induction q with
  |nil=>simp
  | @cons p q ps qs O t ih=>
   intro x Z;rcases ZT.mp Z with rfl|Z;exact⟨by rw[<-O.1];exact O.2.1,by rw[<-O.1];exact KR.raw ok O.2.2.1 rfl⟩;exact ih x Z
 exact all r
def oz(hb:sysModules<h.objs.size):aaj P w H (h.push {cls:=.type "dict",data:=.dict #[]}) h.objs.size (.dD [] 0):=
 ⟨Zm _,by simpa using Nat.ne_of_gt hb,[],.nil,_,#[],ZX _ rfl,⟨rfl,rfl,rfl⟩,rfl,rfl,YK⟩
end
section
variable{A:Zj}
def cx(I:Inv X pins σ H s)(Z:bf 8 k=L)(O:KR H k (.ref b)):(bv X.prog X.w).is s.heap k b:=⟨Z,KR.raw I.hok O rfl⟩
def qx(hu:A.units+40<cLine)(I:Inv X pins σ H s)(e:Rd H a (.dD kvs ep))(hk:bf 8 k=L)(kb:KR H k (.ref b))(l:eP kvs k=U v)(h:∀O s',Inv X pins σ H s'->RelV v O->Q O s'):
  wpAny (model X.prog X.w) A (getItem (.ref a) (.ref b)) Q E s:=by
 obtain⟨z,hd,xs,rel,dd⟩:=jO I.hok e;obtain⟨O,hw,Z⟩:=aaV.some_of (v:=v) (o:=(atKey xs k).map (·.2)) (by rw[<-l];exact rel.val k);obtain⟨p,hp,Mp⟩:=Xv.mp hw;refine wpAny_getItem_heap (knd:=bv X.prog X.w) (by show A.units+1+30<cLine;lia) (cx I hk kb) dd hp ?_;rw[Mp];exact h O _ (I.tok _) Z
def wu(hu:A.units+40<cLine)(I:Inv X pins σ H s)(e:Rd H a (.dD kvs ep))(hk:bf 8 k=L)(Z:KR H k (.ref b))(h:∀O,Inv X pins σ H O->Q (.bool (!(eP kvs k).isSome)) O):
  wpAny (model X.prog X.w) A (compareOp .NotIn (.ref b) (.ref a)) Q E s:=by
 obtain⟨z,hd,xs,rel,dd⟩:=jO I.hok e;refine wpAny_notIn_heap (knd:=bv X.prog X.w) (by show A.units+1+30<cLine;lia) (cx I hk Z) hd dd ?_;have q:=(rel.val k).aaX;rw[W7]at q;rw[<-q];exact h _ (I.tok _)
def qW(hu:A.units+40<cLine)(I:Inv X pins σ H s)(e:H a=U (.dD kvs ep))(hk:bf 8 k=L)(kb:KR H k (.ref b))(l:kvs.length<sizeLine)(rv:RelV v r)(h:∀O s',Inv X pins σ (upd H a (.dD (de kvs k v) O)) s'->Q () s'):
  wpAny (model X.prog X.w) A (setItem (.ref a) (.ref b) r) Q E s:=by
 obtain⟨z,hd,xs,rel,dd⟩:=jO I.hok (.inl e);have hl:(de kvs k v).length<=sizeLine:=by have:=bB kvs k v;lia
 refine wpAny_setItem_heap (knd:=bv X.prog X.w) (hsz:=by rw[<-Yw rel];exact z) (by show A.units+1+30<cLine;lia) (cx I hk kb) dd λh' Z hs=>?_;obtain⟨q,es,O,hq,h2,h3,h4,_,h5⟩:=Z;refine h O _ (gv I (by rw[e];trivial) hs ⟨q,hq⟩ ⟨hl,hd,_,Paired.abS (rel.put k hk kb rv) λp q z=>⟨z.1,z.2.1,KR.to (λc ys ec=>?_) z.2.2.1,z.2.2.2⟩,q,es,hq,h2,h3,h4,h5⟩);rw[aj (mh ec e (λz=>nomatch z))];exact ec
end
def Rel.oset{K:Z4}{B:ZP->Prop}{Hk H:Hp}{δ:iv}{σ:St}{i:Nat}{d d':D}{l:ZP}{o:HO}(R:Rel K B Hk δ σ H)(h:δ[i]?=U (U (d,L)))(hl:σ[i]?=U (U (.ref l)))(new:Ext B H (upd H l o)->ObR K B (upd H l o) d' l):
  Ext B H (upd H l o)/\Rel K B Hk (δ.set i (U (d',L))) σ (upd H l o):=by
 obtain⟨a,e1,e2,ob⟩:=R.own i _ h;rw[hl]at e1;cases e1;obtain⟨u,hx,mu⟩:=ob.mut;have hb:¬B l:=λz=>by obtain⟨o,q⟩:=R.bor l z;lia
 have ex:Ext B H (upd H l o):=cb hx mu hb;have t_:i<δ.length:=(ZO.mp h).1;have Z:∀j e,(δ.set i (U (d',L)))[j]?=U (U (e,L))->∃e',δ[j]?=U (U (e',L)):=λj e q=>by
  by_cases O:j=i;subst O;exact⟨_,h⟩;rw[ZN (ZF O)]at q;exact⟨_,q⟩
 refine⟨ex,⟨R.same.put e2,R.bor,by simpa using R.len,λj e q=>?_,λj e q=>?_,λj k e f q Np h1 h2 h3 h4=>?_⟩⟩;by_cases O:j=i
 .simp_all
 rw[ZN (ZF O)]at q;obtain⟨v,q1,q2⟩:=R.var j e q;exact⟨v,q1,q2.ext ex⟩;by_cases O:j=i
 .simp_all
 rw[ZN (ZF O)]at q;obtain⟨c,q1,q2,q3⟩:=R.own j e q;have hc:c≠l:=λz=>by subst z;exact R.dis j i e _ c O q h q1 hl
 exact⟨c,q1,q2,q3.ext ex λo q _=>by rw[aj hc];exact q⟩;obtain⟨e',z1⟩:=Z j e h1;obtain⟨f',z2⟩:=Z k f h2;exact R.dis j k e' f' q Np z1 z2 h3 h4
noncomputable def lR:D->Bool
 |.tup _=>L
 |_=>Y
noncomputable def cC{κ:Type}[DecidableEq κ](k:κ):Z9 κ->Z9 D->Z8 D
 |x::ks,d::ds=>if x=k then U d else cC k ks ds
 |_,_=>M
noncomputable def qr{κ:Type}[DecidableEq κ](k:κ)(v:D):Z9 κ->Z9 D->Z9 D
 |x::ks,d::ds=>(if x=k then v else d)::qr k v ks ds
 |_,_=>[]
noncomputable def yJ{κ:Type}[DecidableEq κ](k:κ)(v:D)(ks:Z9 κ)(ds:Z9 D):Z9 D:=if k∈ks then qr k v ks ds else ds++[v]
noncomputable def i7{κ:Type}[DecidableEq κ](k:κ)(ks:Z9 κ):Z9 κ:=if k∈ks then ks else ks++[k]
section
variable{K:Z4}{B:ZP->Prop}{H:Hp}{κ:Type}[DecidableEq κ]
theorem cU(k:κ):∀{kvs:Z9 (κ×V)}{ds:Z9 D},M1 K B H ds (kvs.map (·.2))->(cC k (kvs.map (·.1)) ds=M->eP kvs k=M)/\∀d,cC k (kvs.map (·.1)) ds=U d->∃v,eP kvs k=U v/\Rep K B H d v
 |[],ds,r=>⟨λ_=>rfl,λd h=>by trivial⟩
 |p::kvs,ds,r=>by
  cases ds with
  |nil=>trivial
  |cons d ds=>
   obtain⟨Z,O⟩:=r.abH;rw[Z0];unfold cC;by_cases e:p.1=k;rw[ZM e];exact⟨λz=>(by trivial),λd2 z=>(by obtain rfl:=Z7 z;exact⟨p.2,bV e,Z⟩)⟩;rw[ZH e,b7 e];exact cU k O
def rZ(k:κ)(kvs:Z9 (κ×V)):(kvs.any λO=>decide (O.1=k))=decide (k∈kvs.map (·.1)):=by
 grind
def dE(k:κ)(v:V)(kvs:Z9 (κ×V)):(de kvs k v).map (·.1)=i7 k (kvs.map (·.1)):=by
 unfold de i7;rw[rZ];by_cases O:k∈kvs.map (·.1)
 .rw[Zx O,ZM rfl,ZM O,Zb]
  refine Y4 λx _=>?_;simp only[Function.comp];split<;>rfl
 rw[Zu O,ZH XA,ZH O];simp
theorem lE(r:Rep K B H d v)(k:κ):∀{kvs:Z9 (κ×V)}{ds:Z9 D},M1 K B H ds (kvs.map (·.2))->M1 K B H (qr k d (kvs.map (·.1)) ds) ((kvs.map λO=>if O.1=k then(O.1,v) else O).map (·.2))
 |[],ds,q=>by
  rfl
 |p::kvs,ds,q=>by
  cases ds with
  |nil=>trivial
  |cons d0 ds=>
   obtain⟨r1,r2⟩:=q.abH;have Z:=lE r k r2;rw[Z0,Z0,Z0];unfold qr;by_cases e:p.1=k;rw[ZM e,ZM e];exact M1.cons r Z;rw[ZH e,ZH e];exact M1.cons r1 Z
def iP(r:Rep K B H d v)(k:κ)(q:M1 K B H ds (kvs.map (·.2))):M1 K B H (yJ k d (kvs.map (·.1)) ds) ((de kvs k v).map (·.2)):=by
 unfold de yJ;rw[rZ];by_cases O:k∈kvs.map (·.1);rw[Zx O,ZM rfl,ZM O];exact lE r k q;rw[Zu O,ZH XA,ZH O,Y7];exact q.append (M1.cons r M1.nil)
end
def DGA(H:Hp)(a:ZP)(y:V)(r:Z8 V):Prop:=Ek H a y r\/∃kvs ep k b,Rd H a (.dD kvs ep)/\y=.ref b/\bf 8 k=L/\KR H k (.ref b)/\r=eP kvs k
def DPA(H:Hp)(a:ZP)(y v:V)(N:Hp->Prop):Prop:=(∃Z,Hz H a y v Z/\N Z)\/∃kvs ep k b,H a=U (.dD kvs ep)/\y=.ref b/\bf 8 k=L/\KR H k (.ref b)/\kvs.length<sizeLine/\∀O,N (upd H a (.dD (de kvs k v) O))
section
variable{A:Zj}
def qN(hu:A.units+40<cLine)(I:Inv X pins σ H s)(g:DGA H a y (U v))(ry:RelV y u)(h:∀O Z,Inv X pins σ H Z->RelV v O->Q O Z):wpAny (model X.prog X.w) A (getItem (.ref a) u) Q E s:=by
 rcases g with g|⟨kvs,ep,k,b,e,rfl,hk,kb,l⟩;exact sY (by lia) I g ry h;cases (show u=Value.ref b from ry);exact qx hu I e hk kb l.symm h
def xf(hu:A.units+40<cLine)(I:Inv X pins σ H s)(g:DGA H a y o)(Z:RelV y u)(h:∀O,Inv X pins σ H O->Q (.bool (!o.isSome)) O):wpAny (model X.prog X.w) A (compareOp .NotIn u (.ref a)) Q E s:=by
 rcases g with g|⟨kvs,ep,k,b,e,rfl,hk,kb,rfl⟩;exact Bx (by lia) I g Z h;cases (show u=Value.ref b from Z);exact wu hu I e hk kb h
def qB(hu:A.units+40<cLine)(I:Inv X pins σ H s)(g:DPA H a y v N)(ry:RelV y u)(rv:RelV v r)(h:∀Z O,Inv X pins σ Z O->N Z->Q () O):wpAny (model X.prog X.w) A (setItem (.ref a) u r) Q E s:=by
 rcases g with⟨Z,g,n⟩|⟨kvs,ep,k,b,e,rfl,hk,kb,l,n⟩;exact sx (by lia) I g ry rv λO I'=>h Z O I' n
 cases (show u=Value.ref b from ry);exact qW hu I e hk kb l rv λK2 O I'=>h _ O I' (n K2)
def kU(I:Inv X pins σ H s)(g:DGA H a y o):s.TypeIs (.ref a) "dict":=by
 rcases g with g|⟨kvs,ep,k,b,e,_⟩;exact l8 I g;obtain⟨_,_,xs,_,dd⟩:=jO I.hok e;exact dd.typeIs
end
def tGA(Z ty:TE):TE:=λσ H Q=>Z σ H λx H1=>ty σ H1 λy O=>∃a v,x=.ref a/\DGA O a y (U v)/\Q v O
def rIA(O:Bool):R2:=λy x H Q=>∃a o,x=.ref a/\DGA H a y o/\Q (.bl (if O then !o.isSome else o.isSome)) H
def sPA(Z ty O:TE):TS:=λD σ H=>O σ H λv H1=>Z σ H1 λx H2=>ty σ H2 λy H3=>∃a,x=.ref a/\DPA H3 a y v λH4=>D.nx σ H4
section
variable{X:Cx}{o:Expr}{pos:Pos}
def wN(hu:X.A.units+64<cLine)(ho:PE X o td)(hi:PE X i ty)(hs:FH i):PE X (.Subscript o i pos) (tGA td ty):=by
 intro pins s σ H Q I h;refine AI F.slot_dict_getitem.lookup hs (thn (ho pins s σ H _ I h) λu s1 ⟨x,H1,I1,rx,q1⟩=>thn (hi pins s1 σ H1 _ I1 q1) λiv s2 hz=>?_);obtain⟨y,H2,Z,ry,a,v,ex,g,q2⟩:=hz;subst ex;obtain rfl:u=Value.ref a:=rx;exact⟨kU Z g,qN (by lia) Z g ry λw' s3 I3 O=>⟨v,H2,I3,O,q2⟩⟩
def uV(hu:X.A.units+64<cLine):OpR X (compareOp .NotIn) (rIA L):=by
 intro pins s σ H y x v u Q I O Z ⟨a,o,ex,g,q⟩;subst ex;obtain rfl:u=Value.ref a:=Z;exact xf (by lia) I g O λs3 I3=>⟨.bl (!o.isSome),H,I3,rfl,q⟩
def nL(hu:X.A.units+64<cLine)(ho:PE X o td)(hi:PE X i ty)(hv:PE X value tv)(hs:swapsWith value (U (.Subscript o i pos')) pos.line X.env=pure Y):PS X (.Assign [.Subscript o i pos'] value pos) (sPA td ty tv):=by
 intro pins s σ H D I h;refine wpAny_Assign_Subscript (thn (hv pins s σ H _ I h) λr s1 ⟨v,H1,I1,rv,q1⟩=>thn (ho pins s1 σ H1 _ I1 q1) λu s2 ⟨x,H2,I2,Z,q2⟩=>thn (hi pins s2 σ H2 _ I2 q2) λiv s3 ⟨y,H3,I3,O,a,ex,g⟩=>?_) hs;subst ex;obtain rfl:u=Value.ref a:=Z;exact qB (by lia) I3 g O rv λH4 s4 I4 q3=>⟨σ,H4,I4,q3⟩
end
noncomputable def bU(x k:Z8 D):Z8 (Z8 D):=match x,k with
 |some (.dK ks vs),some d=>(match iJ d with|some kk=>U (cC kk ks vs)|none=>M)
 |some (.dD ks vs),some d=>if(bf 8 d&&lR d)=L then U (cC d ks vs) else M
 |_,_=>M
def eO{K:Z4}{B:ZP->Prop}{H:Hp}{d:D}{k:Key}{v:V}(h:iJ d=U k)(r:Rep K B H d v):v=kV k:=by
 cases d<;>simp only[iJ]at h<;>first
  |(cases h;simp only[Rep]at r;exact r)
  |trivial
def c8{K:Z4}{B:ZP->Prop}{H:Hp}{d:D}{v:V}(h:lR d=L)(r:Rep K B H d v):∃b,v=.ref b:=by
 cases d<;>simp only[lR]at h<;>first
  |(simp only[Rep]at r;obtain⟨a,xs,e,_⟩:=r;exact⟨a,e⟩)
  |trivial
set_option tactic.hygienic true in
def cW{K:Z4}{B B':ZP->Prop}{H:Hp}{x k:Z8 D}{o:Z8 D}(h:bU x k=U o):∃d e,x=U d/\k=U e/\∀{v u:V},Rep K B H d v->Rep K B' H e u->∃a r,v=.ref a/\DGA H a u r/\r.isSome=o.isSome/\∀z,o=U z->∃w,r=U w/\Rep K B H z w:=by
 unfold bU at h;split at h;rename_i ks vs d;split at h;rename_i kk hk;obtain rfl:=Z7 h;refine⟨_,_,rfl,rfl,λ{v u} r1 r2=>?_⟩;obtain⟨a,kvs,rfl,hq,rfl,rs⟩:=r1;have hu:=eO hk r2;obtain⟨n1,n2⟩:=cU kk rs;refine⟨a,eP kvs kk,rfl,.inl ⟨kvs,kk,hq.imp And.right id,hu,rfl⟩,?_,λz hz=>n2 z hz⟩;cases q:cC kk (kvs.map (·.1)) vs with
 |none=>rw[n1 q];rfl
 |some z=>obtain⟨w,e,_⟩:=n2 z q;rw[e];rfl
 trivial;rename_i ks vs d;split at h;rename_i hk;obtain rfl:=Z7 h;rw[ZQ]at hk;refine⟨_,_,rfl,rfl,λ{v u} r1 r2=>?_⟩;obtain⟨a,kvs,rfl,⟨ep,hq⟩,rfl,rs⟩:=r1;obtain⟨b,rfl⟩:=c8 hk.2 r2;obtain⟨n1,n2⟩:=cU d rs;refine⟨a,eP kvs d,rfl,.inr ⟨kvs,ep,d,b,hq.imp And.right id,rfl,hk.1,r2.key hk.1,rfl⟩,?_,λz hz=>n2 z hz⟩;cases q:cC d (kvs.map (·.1)) vs with
 |none=>rw[n1 q];rfl
 |some z=>obtain⟨w,e,_⟩:=n2 z q;rw[e];rfl
 trivial;trivial
def B5(x k:Z8 D):Z8 D:=match bU x k with|some (some d)=>U d|_=>M
def BW(k x:Z8 D):Z8 Bool:=match bU x k with|some o=>U o.isSome|none=>M
section
variable{X:Cx}{a b:Expr}{fa fb:iv->Z8 D}{m m' mm:Bool}{pos:Pos}
theorem DD(hu:X.A.units+64<cLine)(ha:DE X m a fa)(hb:DE X m' b fb)(hs:FH b):DE X m (.Subscript a b pos) (λO=>B5 (fa O) (fb O)):=
 (wN hu ha hb hs).imp λσ H Q hz=>by
  obtain⟨B,Hk,O,d,R,e,k⟩:=hz;dsimp only at e;unfold B5 at e;cases q:bU (fa O) (fb O)with
  |none=>rw[q]at e;trivial
  |some o=>
   rw[q]at e;cases o with
   |none=>trivial
   |some z=>
    obtain rfl:=Z7 e;obtain⟨d1,d2,e1,e2,_⟩:=cW (K:=X.K) (B:=bq m B O σ) (B':=bq m' B O σ) (H:=H) q;refine two R e1 e2 λv u H' s R' r1 r2=>?_;obtain⟨Um,Ul,RM,RK,go⟩:=cW (K:=X.K) (B:=bq m B O σ) (B':=bq m' B O σ) (H:=H') q
    grind
def vX{K:Z4}{B B':ZP->Prop}{H:Hp}{x y:Z8 D}{c:Bool}(h:BW y x=U c):∃d e,x=U d/\y=U e/\∀{v u:V},Rep K B H d v->Rep K B' H e u->∃a r,v=.ref a/\DGA H a u r/\r.isSome=c:=by
 unfold BW at h;cases q:bU x y with
 |none=>rw[q]at h;trivial
 |some o=>
  rw[q]at h;obtain rfl:=Z7 h;obtain⟨d,e,e1,e2,go⟩:=cW (K:=K) (B:=B) (B':=B') (H:=H) q;exact⟨d,e,e1,e2,λr1 r2=>by obtain⟨a,r,ev,g,hs,_⟩:=go r1 r2;exact⟨a,r,ev,g,hs⟩⟩
theorem u8(hu:X.A.units+64<cLine)(ha:DE X m a fa)(hb:DE X m' b fb)(hm:behindInMarks .NotIn b=Y:=by rfl):DT X (.Compare a [.NotIn] [b] pos) (λδ=>dB (BW (fa δ) (fb δ))):=
 (cz (uV hu) ha hb hm).imp λσ H Q hz=>by
  obtain⟨B,Hk,δ,d,R,e,k⟩:=hz;cases q:BW (fa δ) (fb δ)with
  |none=>simp_all [q,dB]
  |some c=>
   simp only[q,dB]at e;obtain rfl:=Z7 e;obtain⟨d1,d2,e1,e2,_⟩:=vX (K:=X.K) (B:=bq m' B δ σ) (B':=bq m B δ σ) (H:=H) q;refine two R e2 e1 λv u H' s R' r1 r2=>?_;obtain⟨Um,Ul,Z,O,go⟩:=vX (K:=X.K) (B:=bq m' B δ σ) (B':=bq m B δ σ) (H:=H') q;rw[e1]at Z;obtain rfl:=Z7 Z;rw[e2]at O;obtain rfl:=Z7 O;obtain⟨p,r,ev,g,rfl⟩:=go r2 r1;exact⟨p,r,ev,g,_,rfl,k H' s⟩
end
section
def oD{κ:Type}[DecidableEq κ]{knd:PySem.KeyKind prog w κ}{d:ZP}{kvs:Z9 (κ×Z3)}{k:κ}{key Z:Z3}{Q:Z3->ZV->Prop}(O:knd.is k key=true)(hm:s.heap.DictOf knd d kvs)(hsz:kvs.length<=sizeLine)
  (old:∀v,valueAt kvs k=some v->Q v {s with toks:=s.toks+1})(new:valueAt kvs k=none->∀h',h'.DictOf knd d (stored kvs k Z)->Heap.SameBut d s.heap h'->Q Z {s with heap:=h',toks:=s.toks+1}):
  wpAny (model prog w) A (dictSetDefault d key Z) Q E s:=by
 obtain⟨o,es,ep,ho,hc,hd,hk,hp,hn⟩:=hm;have Ro:es.size<=sizeLine:=by
  have e1:=hp.length;rw[Array.length_toList]at e1;lia
 have Wc:(es.findIdx? λe=>knd.is k e.key)=kvs.findIdx? λkv=>decide (kv.1=k):=by rw[<-hp.findIdx k];obtain⟨l⟩:=es;simp
 unfold dictSetDefault
 try with_reducible refine Zl ?_
 refine Z_ (knd.pyHash O (Z_ (wpAny_dictFind_of (s:={s with toks:=s.toks+1}) O ho hd hk ?_)));rcases hi:(es.findIdx? λe=>knd.is k e.key)with _|i<;>rw[hi];have Px:k∉kvs.map (·.1):=not_mem_of_findIdx_none (Wc▸hi);have NS:¬(kvs.any λkv=>decide (kv.1=k))=true:=by
  rw[XG]
  rintro⟨kv,V5,he⟩
  exact Px (ZZ.mpr ⟨kv,V5,Zy he⟩)
 have hv:valueAt kvs k=none:=by
  unfold valueAt;rw[Option.map_eq_none_iff,List.find?_eq_none];exact λx hx he=>NS (XG.mpr ⟨x,hx,he⟩)
 refine Z_ (YE (Z_ (wpAny_updateDictKeys (hz:=Ro) (s:={s with toks:=s.toks+1}) ho hd (Z6 (new hv _ ⟨_,_,ep+1,Zz _ ho (Obj.isFreed_of_dict (Xd hd _)),hc.mapDictKeys _,Xd hd _,hk.push O _,?_,?_⟩ (Zn ..))))));rw[stored,ZH NS];have q:=hp.append O (knd.hash k) Z;simp;lia;rw[stored,ZH NS,Y7,X5]
 grind
 obtain⟨d_,_⟩:=Array.findIdx?_eq_some_iff_findIdx_eq.mp hi;have hv:valueAt kvs k=some es[i].val:=by
  have q:=hp.find k;rw[<-q];have hf:(es.toList.findIdx? λe=>knd.is k e.key)=some i:=by rw[<-hi];obtain⟨l⟩:=es;simp
  obtain⟨h1,h2,h3⟩:=List.findIdx?_eq_some_iff_getElem.mp hf;have:es.toList.find? (λe=>knd.is k e.key)=some es.toList[i]:=by
   rw[List.find?_eq_some_iff_getElem];exact⟨h2,i,h1,rfl,λj hj=>by simpa using h3 j hj⟩
  rw[this];simp
 refine Z_ (WK (s:={s with toks:=s.toks+1}) ho hd ?_);rw[Yt d_];exact Z_ (YE (Z6 (old _ hv)))
def uA{κ:Type}[DecidableEq κ]{knd:HeapKind prog w κ}{d a:ZP}{xs:Z9 (κ×ZP×Z3)}{k:κ}{dflt:Z3}{Q:Z3->ZV->Prop}(hu:knd.room A)(Z:knd.is s.heap k a)(hm:s.heap.DictOfH knd d xs)(hsz:xs.length<=sizeLine)
  (old:∀p,atKey xs k=U p->Q p.2 {s with toks:=s.toks+knd.draws k})(new:atKey xs k=M->∀h',h'.DictOfH knd d (storedH xs k a dflt)->Heap.SameBut d s.heap h'->Q dflt {s with heap:=h',toks:=s.toks+knd.draws k}):
  wpAny (model prog w) A (dictSetDefault d (.ref a) dflt) Q E s:=by
 obtain⟨o,es,ep,ho,hc,hd,he,TU,hn⟩:=hm;unfold dictSetDefault
 try with_reducible refine Zl ?_
 refine Z_ (knd.pyHash hu Z (Z_ (wpAny_dictFind_heap (s:={s with toks:=s.toks+knd.draws k}) hu Z ho hd he TU hn (λLn=>?_) λj p hj=>?_)));have O:=atKey_none_of_get Ln;have Px:=not_mem_keys_of_get Ln;refine Z_ (YE (Z_ (wpAny_updateDictKeys (hz:=by have e:=W_ he;lia) (s:={s with toks:=s.toks+knd.draws k}) ho hd (Z6 (new O _ ⟨_,_,ep+1,Zz _ ho (Obj.isFreed_of_dict (Xd hd _)),hc.mapDictKeys _,Xd hd _,?_,?_,?_⟩ (Zn ..))))));rw[storedH_new O];simp[he,entryOfKey];rw[storedH_new O];intro x hx;rcases Zc.mp hx with hx|hx;exact knd.keeps (TU x hx) ho hd (Zn ..);rw[ZD.mp hx];exact knd.keeps Z ho hd (Zn ..);rw[storedH_new O,Y7,X5]
 grind
 have O:=atKey_of_get hn hj;refine Z_ (WK (s:={s with toks:=s.toks+knd.draws k}) ho hd ?_);rw[entry_at he j,hj];exact Z_ (YE (Z6 (old p O)))
end
section
variable{s:ZV}{v:V}{A:Zj}
def jm{Q:Z3->ZV->Prop}{P:Za}{w:Y1}{d:ZP}{key O:Z3}(ty:s.TypeIs (.ref d) "dict")(hd:(d==sysModules)=Y)(h:wpAny (model P w) A.in1 (dictSetDefault d key O) Q E s):
  wpAny (model P w) A (call (.builtin "dict.setdefault") [.ref d,key,O]) Q E s:=by
 refine YZ F.slot_dict_setdefault ty F.entry_dict_setdefault ?_ (F.args_dict_setdefault_3 _ _ _);refine Z_ ?_;refine Z_ (Wm ty (Z6 ?_));change wpAny _ _ (if(d==sysModules)=L then _ else(dictSetDefault d key O >>= _)) _ _ s;refine gT (by lia) ?_;refine Z_ (YS h (λv Z q=>Z6 ⟨v,rfl,q⟩) λ_ _ q=>q)
end
def DSd(H:Hp)(a:ZP)(y z v:V)(N:Hp->Prop):Prop:=(DGA H a y (U v)/\N H/\((∃kvs,H a=U (.dK kvs))\/∃kvs ep,H a=U (.dD kvs ep)))\/(DGA H a y M/\v=z/\DPA H a y z N)
section
variable{A:Zj}
def sA{Q:Z3->ZV->Prop}(hu:A.units+40<cLine)(I:Inv X pins σ H s)(g:DSd H a y z v N)(ry:RelV y u)(rz:RelV z r)(h:∀w' H' s',Inv X pins σ H' s'->N H'->RelV v w'->Q w' s'):
  wpAny (model X.prog X.w) A (call (.builtin "dict.setdefault") [.ref a,u,r]) Q E s:=by
 have ty:s.TypeIs (.ref a) "dict":=by rcases g with⟨g,_⟩|⟨g,_⟩<;>exact kU I g
 rcases g with⟨g,nn,own⟩|⟨g,rfl,p⟩;rcases g with⟨kvs,k,e,ey,l⟩|⟨kvs,ep,k,b,e,ey,hk,kb,l⟩;subst ey;obtain⟨z1,hd,vs,rel,dd⟩:=mq I.hok e;obtain⟨w',hw,Kk⟩:=aaV.some_of (v:=v) (o:=valueAt vs k) (by rw[l];exact rel.val k);refine jm ty hd (oD (l6 ry) dd (by simp_all [rel.length]) (λv' Lk=>?_) λhn=>?_);rw[hw]at Lk;obtain rfl:=Z7 Lk;exact h w' _ _ (I.tok _) nn Kk;rw[hw]at hn;trivial;subst ey;cases (show u=Value.ref b from ry);obtain⟨z1,hd,xs,rel,dd⟩:=jO I.hok e;obtain⟨w',hw,Kk⟩:=aaV.some_of (v:=v) (o:=(atKey xs k).map (·.2)) (by rw[l];exact rel.val k);obtain⟨p,hp,Mp⟩:=Xv.mp hw;refine jm ty hd (uA (knd:=bv X.prog X.w) (by show A.units+1+30<cLine;lia) (cx I hk kb) dd (by rw[<-Yw rel];exact z1) (λp' MT=>?_) λhn=>?_);rw[hp]at MT;obtain rfl:=Z7 MT;rw[Mp];exact h w' _ _ (I.tok _) nn Kk;rw[hp]at hn;trivial
 .rcases p with⟨H',⟨kvs,k,e,ey,l,eH⟩,nn⟩|⟨kvs,ep,k,b,e,ey,hk,kb,l,nn⟩
  .subst ey eH
   obtain⟨z1,hd,vs,rel,dd⟩:=Dx I.hok e;have hn:valueAt vs k=M:=by
    rcases g with⟨NH,k',O,Z,l'⟩|⟨NH,K2,k',b',O,Z,_,_,l'⟩
    .have OR:k'=k:=by cases k<;>cases k'<;>simp[kV]at Z<;>rw[Z]
     subst OR;rcases O with O|⟨o,O⟩;rw[e]at O;cases O;exact aaV.none_of (by rw[l'];exact rel.val k');lia
    .rcases O with O|⟨o,O⟩<;>(rw[e]at O;cases O)
   refine jm ty hd (oD (l6 ry) dd (by simp_all [rel.length]) (λv' Lk=>?_) λ_ h' Ov hs=>?_);lia;have hl:(de kvs k v).length<=sizeLine:=by have:=bB kvs k v;lia
   have he:∃q,h'.get? a=U q:=let ⟨q,_,_,hq,_⟩:=Ov;⟨q,hq⟩
   exact h r _ _ (gv I (by rw[e];trivial) hs he (ze hl hd (rel.put k rz) Ov)) nn rz
  .subst ey
   cases (show u=Value.ref b from ry);obtain⟨z1,hd,xs,rel,dd⟩:=jO I.hok (.inl e);have hn:(atKey xs k).map (·.2)=M:=by
    rcases g with⟨NH,k',O,Z,l'⟩|⟨NH,K2,k',b',O,Z,Mm,Vx,l'⟩
    .rcases O with O|⟨o,O⟩<;>(rw[e]at O;cases O)
    cases Z;have OR:k'=k:=RH.inj (cx I Mm Vx).2 (cx I hk kb).2;subst OR;rcases O with O|⟨o,O⟩;rw[e]at O;cases O;exact aaV.none_of (by rw[l'];exact rel.val k');lia
   refine jm ty hd (uA (knd:=bv X.prog X.w) (by show A.units+1+30<cLine;lia) (cx I hk kb) dd (by rw[<-Yw rel];exact z1) (λp' MT=>?_) λ_ h' Ov hs=>?_)
   .simp_all
   have hl:(de kvs k v).length<=sizeLine:=by have:=bB kvs k v;lia
   obtain⟨q,es,K2,hq,h2,h3,h4,_,h5⟩:=Ov;refine h r (upd H a (.dD (de kvs k v) K2)) _ (gv I (by rw[e];trivial) hs ⟨q,hq⟩ ⟨hl,hd,_,Paired.abS (rel.put k hk kb rz) λp q z=>⟨z.1,z.2.1,KR.to (λc ys ec=>?_) z.2.2.1,z.2.2.2⟩,q,es,hq,h2,h3,h4,h5⟩) (nn K2) rz;rw[aj (mh ec e (λz=>nomatch z))];exact ec
end
def abX:TE:=λ_ H Q=>∀p,H p=M->Q (.ref p) (upd H p (.dD [] 0))
section
variable{X:Cx}{pos:Pos}{a b:Expr}{i:Nat}{x:Str}
def jH:PE X (.Dict [] [] pos) abX:=λpins s σ H Q I h=>
 wpAny_Dict_empty ⟨.ref s.z,_,I.laid (a:=s.z) (o:=.dD [] 0) (t':=s.toks) (λ_ _ q=>Z5 _ q) (ZU _) (oz I.big),rfl,h _ (I.hok.fresh (ZU _))⟩
theorem yx:DF X (.Dict [] [] pos) (λ_=>U (.dK [] [])):=xO.imp λσ H Q hz=>by
 obtain⟨B,Hk,q,d,R,e,k⟩:=hz;obtain rfl:=Z7 e;intro p hp;exact k p _ (ar hp) hp ⟨[],ah,rfl,M1.nil⟩
theorem wC:DF X (.Dict [] [] pos) (λ_=>U (.dD [] [])):=jH.imp λσ H Q hz=>by
 obtain⟨B,Hk,q,d,R,e,k⟩:=hz;obtain rfl:=Z7 e;intro p hp;exact k p _ (ar hp) hp ⟨[],⟨0,ah⟩,rfl,M1.nil⟩
noncomputable def lw(x:D)(k v:D):Z8 D:=match x with
 |.dK ks vs=>(match iJ k with|some kk=>if ks.length<lim then U (.dK (i7 kk ks) (yJ kk v ks vs)) else M|none=>M)
 |.dD ks vs=>if(bf 8 k&&lR k&&decide (ks.length<lim))=L then U (.dD (i7 k ks) (yJ k v ks vs)) else M
 |_=>M
noncomputable def xG(i:Nat)(k v:Z8 D)(q:iv):Z8 Out:=match cm i q,k,v with
 |some x,some k,some v=>(match lw x k v with|some y=>U (.next (q.set i (U (y,L))))|none=>M)
 |_,_,_=>M
set_option tactic.hygienic true in
def nN{K:Z4}{B B':ZP->Prop}{H:Hp}{x k v y:D}{l:ZP}{u z:V}(h:lw x k v=U y)(ob:ObR K B H x l)(O:Rep K B' H k u)(rz:Rep K B H v z):
  ∀{N:Hp->Prop},(∀o,(Ext B H (upd H l o)->ObR K B (upd H l o) y l)->N (upd H l o))->DPA H l u z N:=by
 intro N go;unfold lw at h;split at h;obtain⟨kvs,e,rfl,rs⟩:=ob;split at h;rename_i Z hk;split at h;rename_i hl;obtain rfl:=Z7 h;rw[ZW]at hl;exact .inl ⟨_,⟨kvs,Z,e,eO hk O,ZC hl (aF (ZU _)),rfl⟩,go _ λex=>⟨_,ah,dE Z z kvs,(iP rz Z rs).ext ex⟩⟩;trivial;trivial;obtain⟨kvs,⟨ep,e⟩,rfl,rs⟩:=ob;split at h;rename_i hc;obtain rfl:=Z7 h;rw[ZQ,ZQ,YY,ZW]at hc;obtain⟨⟨h1,h2⟩,h3⟩:=hc;obtain⟨b,rfl⟩:=c8 h2 O;exact .inr ⟨kvs,ep,k,b,e,rfl,h1,O.key h1,ZC h3 (aF (ZU _)),λK2=>go _ λex=>⟨_,⟨K2,ah⟩,dE k z kvs,(iP rz k rs).ext ex⟩⟩;trivial;trivial
set_option tactic.hygienic true in
theorem Bd(hu:X.A.units+64<cLine)(n:Nm X i x)(hb:DE X m b fb)(hv:DE X Y c fc)(hs:swapsWith c (U (.Subscript (.Name x px) b pos')) pos.line X.env=pure Y:=by rfl):
  DS X (.Assign [.Subscript (.Name x px) b pos'] c pos) (λδ=>xG i (fb δ) (fc δ) δ):=
 (nL hu (bA n.at' n.vis n.d1 n.d2) hb hv hs).imp λDn σ H hz=>by
  obtain⟨B,Hk,δ,o,R,e,k⟩:=hz;dsimp only at e;unfold xG at e;split at e;rename_i d0 kd vd q0 q1 q2;split at e;rename_i y qy;obtain rfl:=Z7 e;have h1:=ck q0;refine⟨B,Hk,δ,vd,R,q2,λz H1 s1 rz=>?_⟩;have O:=R.to s1;obtain⟨l,h2,h3,ob⟩:=O.own i _ h1;refine⟨.ref l,h2,B,Hk,δ,kd,O,q1,λu H2 s2 rk=>?_⟩;have R2:=O.to s2;have Z:=ob.ext (O.ext s2) λo q n=>s2.get l o n q;refine⟨l,rfl,nN qy Z rk (rz.ext (O.ext s2)) λho new=>?_⟩;obtain⟨x1,x2⟩:=R2.oset h1 h2 new;exact k σ _ ((R.ext (s1.trans s2)).trans x1) x2;trivial;trivial
end
def n9(x:V)(H:Hp):Prop:=∃a,x=.ref a/\((∃kvs,Rd H a (.dK kvs))\/∃kvs ep,Rd H a (.dD kvs ep))
section
variable{X:Cx}{pos b_ apos px:Pos}{m m' mm:Bool}{o a b c e:Expr}{es:Z9 Expr}{fa fb fc:iv->Z8 D}{i:Nat}{x:Str}{to:TE}{t:TA}{name:Str}{id:String}{r:V->Z9 V->Hp->VK->Prop}
def tW(I:Inv X pins σ H s)(Z:RelV v u)(d:n9 v H):s.TypeIs u "dict"/\∀a,u=.ref a->∃ob,s.heap.get? a=U ob/\ob.dict=M:=by
 obtain⟨a,rfl,d⟩:=d;obtain rfl:u=Value.ref a:=Z;rcases d with⟨kvs,e⟩|⟨kvs,ep,e⟩;obtain⟨_,_,vs,_,dd⟩:=mq I.hok e;refine⟨dd.typeIs,λb q=>?_⟩;cases q;obtain⟨ob,_,_,h1,O,_⟩:=dd;exact⟨ob,h1,O.2.1⟩;obtain⟨_,_,xs,_,dd⟩:=jO I.hok e;refine⟨dd.typeIs,λb q=>?_⟩;cases q;obtain⟨ob,_,_,h1,O,_⟩:=dd;exact⟨ob,h1,O.2.1⟩
def HD(r:V->Z9 V->Hp->VK->Prop)(to:TE)(t:TA):TE:=λσ H Q=>to σ H λx O=>n9 x O/\t σ O λxs Z=>r x xs Z Q
def vR(slot:Slot "dict" name id)(VI:typeOf (.builtin id)=pure (.type "method_descriptor"))(hm:MtM X id r)(ho:PE X o to)(ha:PA X (e::es) t)(base:attributeBase o name X.env (eval o X.env)=eval o X.env:=by rfl)(few:((backTo b_ (starEach (e::es) X.env)).all (λx=>!x.1)&&(backToKw b_ (keywordEach [] X.env)).all (λx=>x.1.isSome)&&decide ((e::es).length+([]:Z9 Keyword).length+(if([]:Z9 Keyword).isEmpty then 0 else 1)<30))=L:=by rfl)(Z:(apos.endLine==b_.line)=L:=by rfl)(O:starEach (e::es) X.env=(Y,eval e X.env)::starEach es X.env:=by rfl)(plain:(backTo b_ (starEach es X.env)).any (·.1)=Y:=by rfl):
  PE X (.Call (.Attribute o name apos) (e::es) [] b_) (HD r to t):=by
 intro pins s σ H Q I h;refine wpAny_Call_method_late base few Z rfl (thn (ho pins s σ H _ I h) λv s1 hz=>?_);obtain⟨x,H1,I1,r1,d1,q1⟩:=hz;obtain⟨h1,h2⟩:=tW I1 r1 d1;have hA:=ha b_ pins s1 σ H1 _ I1 q1;refine⟨"dict",id,F.plainAttrs_dict,slot,VI,h1,h2,?_⟩;rw[O]at hA⊢;exact Calls.callWith_builtin (by assumption) (Calls.evalArgs_plain (thn hA λus s2 hz=>by obtain⟨vs,H2,I2,r2,q2⟩:=hz;exact hm pins s2 σ H2 x vs v us Q I2 r1 r2 q2))
def abP:V->Z9 V->Hp->VK->Prop:=λx vs H Q=>∃l y z v,x=.ref l/\vs=[y,z]/\DSd H l y z v λO=>Q v O
def j7(hu:X.A.units+64<cLine):MtM X "dict.setdefault" abP:=by
 intro pins s σ H x vs v us Q I Z rv h;obtain⟨l,y,z,w,rfl,rfl,g⟩:=h;cases Z;obtain⟨u1,u2,rfl,r1,r2⟩:=rv.two;exact sA (by lia) I g r1 r2 λw' H' s' I' q O=>⟨w,H',I',O,q⟩
noncomputable def tMX(K:Z4)(g:iv->Z8 (D×iv)):TE:=λσ H Q=>∃B Hk q d O,Rel K B Hk q σ H/\g q=U (d,O)/\∀v Z,Ext B H Z->Rel K B Hk O σ Z->Rep K B Z d v->Q v Z
def Jt(K:Z4)(g:iv->Z8 (Bool×iv)):TT:=λσ H Q=>∃B Hk q b O,Rel K B Hk q σ H/\g q=U (b,O)/\∀Z,Ext B H Z->Rel K B Hk O σ Z->Q b Z
abbrev DX(X:Cx)(e:Expr)(g:iv->Z8 (D×iv)):Prop:=PE X e (tMX X.K g)
abbrev DTX(X:Cx)(e:Expr)(g:iv->Z8 (Bool×iv)):Prop:=PT X e (Jt X.K g)
noncomputable def sdO(i:Nat)(k v:Z8 D)(q:iv):Z8 (D×iv):=match cm i q,k,v with
 |some x,some kd,some vd=>(match bU (U x) (U kd)with
  |some (some d)=>U (d,q)
  |some none=>(match lw x kd vd with|some y=>U (vd,q.set i (U (y,L)))|none=>M)
  |none=>M)
 |_,_,_=>M
def ObR.dictAt{K:Z4}{B:ZP->Prop}{H:Hp}{x k v y:D}{l:ZP}{o:Z8 D}(ob:ObR K B H x l)(h:bU (U x) (U k)=U o):n9 (.ref l) H/\((∃kvs,H l=U (.dK kvs))\/∃kvs ep,H l=U (.dD kvs ep)):=by
 cases x with
 |dK ks vs=>obtain⟨kvs,e,_⟩:=ob;exact⟨⟨l,rfl,.inl ⟨kvs,.inl e⟩⟩,.inl ⟨kvs,e⟩⟩
 |dD ks vs=>obtain⟨kvs,⟨ep,e⟩,_⟩:=ob;exact⟨⟨l,rfl,.inr ⟨kvs,ep,.inl e⟩⟩,.inr ⟨kvs,ep,e⟩⟩
 |_=>simp only[bU]at h;trivial
def ObR.get{K:Z4}{B B':ZP->Prop}{H:Hp}{x k:D}{l:ZP}{o:Z8 D}{u:V}(ob:ObR K B H x l)(h:bU (U x) (U k)=U o)(rk:Rep K B' H k u):
  ∃r,DGA H l u r/\r.isSome=o.isSome/\∀z,o=U z->∃w,r=U w/\Rep K B H z w:=by
 cases x with
 |dK ks vs=>
  obtain⟨kvs,e,rfl,rs⟩:=ob;simp only[bU]at h;split at h;rename_i kk hk;obtain⟨n1,n2⟩:=cU kk rs;have h':cC kk (kvs.map (·.1)) vs=o:=Z7 h;refine⟨eP kvs kk,.inl ⟨kvs,kk,.inl e,eO hk rk,rfl⟩,?_,λz hz=>n2 z (h'.trans hz)⟩;rw[<-h'];cases q:cC kk (kvs.map (·.1)) vs with
  |none=>rw[n1 q];rfl
  |some z=>obtain⟨w,e,_⟩:=n2 z q;rw[e];rfl
  trivial
 |dD ks vs=>
  obtain⟨kvs,⟨ep,e⟩,rfl,rs⟩:=ob;simp only[bU]at h;split at h;rename_i hk;rw[ZQ]at hk;obtain⟨b,rfl⟩:=c8 hk.2 rk;obtain⟨n1,n2⟩:=cU k rs;have h':cC k (kvs.map (·.1)) vs=o:=Z7 h;refine⟨eP kvs k,.inr ⟨kvs,ep,k,b,.inl e,rfl,hk.1,rk.key hk.1,rfl⟩,?_,λz hz=>n2 z (h'.trans hz)⟩;rw[<-h'];cases q:cC k (kvs.map (·.1)) vs with
  |none=>rw[n1 q];rfl
  |some z=>obtain⟨w,e,_⟩:=n2 z q;rw[e];rfl
  trivial
 |_=>simp only[bU]at h;trivial
set_option tactic.hygienic true in
theorem vC(hu:X.A.units+64<cLine)(n:Nm X i x)(hb:DE X Y b fb)(hc:DE X Y c fc)(base:attributeBase (.Name x px) "setdefault" X.env (eval (.Name x px) X.env)=eval (.Name x px) X.env:=by rfl)(few:((backTo b_ (starEach [b,c] X.env)).all (λx=>!x.1)&&(backToKw b_ (keywordEach [] X.env)).all (λx=>x.1.isSome)&&decide (([b,c]).length+([]:Z9 Keyword).length+(if([]:Z9 Keyword).isEmpty then 0 else 1)<30))=L:=by rfl)(line:(apos.endLine==b_.line)=L:=by rfl)(O:starEach [b,c] X.env=(Y,eval b X.env)::starEach [c] X.env:=by rfl)(Z:starEach [c] X.env=[(Y,eval c X.env)]:=by rfl)(plain:(backTo b_ (starEach [c] X.env)).any (·.1)=Y:=by rfl):
  DX X (.Call (.Attribute (.Name x px) "setdefault" apos) [b,c] [] b_) (λδ=>sdO i (fb δ) (fc δ) δ):=
 (vR F.slot_dict_setdefault F.type_dict_setdefault (j7 hu) (bA n.at' n.vis n.d1 n.d2) (au hb (au hc aM Z) O) base few line O plain).imp λσ H Q hz=>by
  obtain⟨B,Hk,δ,d,B_,R,e,k⟩:=hz;dsimp only at e;unfold sdO at e;split at e;rename_i d0 kd vd q0 q1 q2;have h1:=ck q0;obtain⟨l,h2,h3,ob⟩:=R.own i _ h1;obtain⟨og,Qd⟩:∃o,bU (U d0) (U kd)=U o:=by
   cases q:bU (U d0) (U kd)with
   |none=>rw[q]at e;trivial
   |some o=>exact⟨o,rfl⟩
  refine⟨.ref l,h2,(ob.dictAt (v:=vd) (y:=d0) Qd).1,two (m:=Y) (m':=Y) R q1 q2 λu z H' s R' r1 r2=>?_⟩;have OD:=ob.ext (R.ext s) λo q n=>s.get l o n q;have ow:=(OD.dictAt (v:=vd) (y:=d0) Qd).2;obtain⟨rr,g,gs,gz⟩:=OD.get Qd r1;rw[Qd]at e;cases og with
  |some dd=>
   cases e;obtain⟨w,rfl,Kk⟩:=gz _ rfl;exact⟨l,u,z,w,rfl,rfl,.inl ⟨g,k w H' (R.ext s) R' Kk,ow⟩⟩
  |none=>
   simp only at e;split at e;rename_i y qy;cases e;have hr:rr=M:=by cases rr with
    |none=>rfl
    |some _=>simp at gs
   subst hr;refine⟨l,u,z,z,rfl,rfl,.inr ⟨g,rfl,nN qy OD r1 r2 λho new=>?_⟩⟩;obtain⟨x1,x2⟩:=R'.oset h1 h2 new;exact k z _ ((R.ext s).trans x1) x2 (r2.ext x1);trivial
  trivial
def B9(hu:X.A.units+64<cLine)(ha:DX X a ga)(hb:DE X Y b fb)(hm:behindInMarks .NotEq b=Y:=by rfl):
  DTX X (.Compare a [.NotEq] [b] pos) (λO=>af (ga O) λp=>match neO (U p.1) (fb p.2)with|some c=>U (c,p.2)|none=>M):=
 (cz (vn hu) ha hb hm).imp λσ H Q hz=>by
  obtain⟨B,Hk,O,t,B_,R,e,k⟩:=hz;obtain⟨⟨d1,C_⟩,e1,e2⟩:=am e;simp only at e2;split at e2;rename_i cc qc;cases e2;refine⟨B,Hk,O,d1,_,R,e1,λv H1 x1 R1 r1=>?_⟩;unfold neO dB at qc;cases q:eqO (U d1) (fb B_)with
  |none=>rw[q]at qc;trivial
  |some c0=>
   rw[q]at qc;obtain rfl:=Z7 qc;obtain⟨d,d2,z1,z2,h1,h2,rfl⟩:=dU q;obtain rfl:=Z7 z1;refine⟨B,Hk,B_,d2,R1,z2,λu H2 s2 r2=>⟨B,_,d1,d2,h1,h2,r1.ext (R1.ext s2),r2,_,rfl,k H2 (x1.trans (R1.ext s2)) (R1.to s2)⟩⟩
  trivial
noncomputable def ifX(t:Z8 (Bool×iv))(g1 g2:iv->Z8 Out):Z8 Out:=match t with
 |some (true,q)=>g1 q
 |some (false,q)=>g2 q
 |none=>M
set_option tactic.hygienic true in
theorem Eg{x y:Z9 Stmt}(hc:DTX X c gt)(ha:DSs X x g1)(hb:DSs X y g2):DS X (.If c x y pos) (λδ=>ifX (gt δ) g1 g2):=
 (CY hc ha hb).imp λDn σ H hz=>by
  obtain⟨B,Hk,δ,o,R,e,k⟩:=hz;dsimp only at e;unfold ifX at e;split at e;rename_i O q;exact⟨B,Hk,δ,L,O,R,q,λH1 Z R1=>zt ⟨B,Hk,O,o,R1,e,k.ext Z⟩⟩;rename_i O q;exact⟨B,Hk,δ,Y,O,R,q,λH1 Z R1=>yC ⟨B,Hk,O,o,R1,e,k.ext Z⟩⟩;trivial
end
section
variable{A:Zj}
def jV(hd:(d==sysModules)=Y)(Z:s.heap.get? d=U o)(hc:o.ExactDict)(O:o.data=.dict es ep)(hQ:Q (.ref s.z) {s with heap:=s.heap.push {cls:=.type "dict_keyiterator",data:=.fields #[.ref d,.int 0 0,.int es.size 0,.int ep 0]}}):wpAny (model prog w) A (pyIter (.ref d)) Q E s:=by
 have ty:s.TypeIs (.ref d) "dict":=⟨o,Z,hc.1⟩;refine wpAny_pyIter_slot ty F.slot_dict_iter (YZ F.slot_dict_iter ty F.entry_dict_iter ?_ (F.args_dict_iter_1 _));refine Z_ ?_;refine Z_ (Wm ty (Z6 ?_));change wpAny _ _ (Builtin.Dict.showsAll d >>= _) _ E s;unfold Builtin.Dict.showsAll;rw[ZH (by lia)];refine Z_ (Z6 (Z_ (WK Z O (Z_ (wpAny_dictEpoch Z O (Z_ (Y5 (Z6 ⟨_,rfl,"dict_keyiterator",_,⟨_,ZX _ rfl,rfl⟩,W9.lookup,?_⟩))))))))
 assumption
def dP(hh:A.handled=M)(O:s.heap.IsKeyIter it d i es.size ep)(ho:s.heap.get? d=U o)(Z:o.data=.dict es ep)(item:∀e,es[i]?=U e->∀h',h'.IsKeyIter it d (i+1) es.size ep->Heap.SameBut it s.heap h'->Q (U e.key) {s with heap:=h'})(stop:es[i]?=M->∀h',Heap.ExtBut it s.heap h'->Q M {s with heap:=h'}):wpAny (model prog w) A (pyNext (.ref it)) Q E s:=by
 obtain⟨oi,gi,ci,di⟩:=id O;refine Z_ (XY (YJ (name:=Str.ofString "__next__") O.typeIs W9 (YZ W9 O.typeIs F.entry_dict_keyiterator_next ?_ (F.args_dict_keyiterator_next_1 _))));refine Z_ (Z6 (Z_ (Z_ ?_)))
 first|refine Z_ (Xf O.typeIs (Z6 ?_))|refine Z_ (WH O.typeIs (Z6 ?_))
 refine Z_ (W0 gi di ?_);refine Z_ (Z6 (Z_ (WK ho Z ?_)));refine gT (by simp) ?_;refine Z_ (Z6 (Z_ (wpAny_dictEpoch ho Z ?_)));refine gT (by simp) ?_;refine Z6 ?_;by_cases d_:i<es.size
 .have hx:=Yt d_
  simp only[show ¬((i:Int)<0) from by lia,YO,Int.toNat_natCast,hx];refine Z_ ?_
  first|refine Z_ (Xf O.typeIs (Z6 ?_))|refine Z_ (WH O.typeIs (Z6 ?_))
  refine Z_ (wpAny_isOneOf_keyiter O.typeIs ?_);change wpAny _ _ (setField (.ref it) 1 (rawInt ((i:Int)+1)) >>= _) _ _ s;have nx:(s.heap.update it (Obj.mapFields (·.setIfInBounds 1 (rawInt ((i:Int)+1))))).IsKeyIter it d (i+1) es.size ep:=⟨_,Zz _ gi (X4 (Y3 di _)),(Xk ..).trans ci,by rw[Y3 di];rfl⟩
  refine Z_ (Yk gi di (by simp) (Z_ (Zl (Z_ (wpAny_isOneOf_keyiter (s:={s with heap:=s.heap.update it (Obj.mapFields (·.setIfInBounds 1 (rawInt ((i:Int)+1))))}) nx.typeIs ?_)))));exact Z6 (Z6 ⟨_,rfl,Z6 (item _ hx _ nx (Zn ..))⟩)
 .have hx:es[i]?=M:=Array.getElem?_eq_none (by lia)
  simp only[show ¬((i:Int)<0) from by lia,YO,Int.toNat_natCast,hx];refine Z_ ?_
  first|refine Z_ (Xf O.typeIs (Z6 ?_))|refine Z_ (WH O.typeIs (Z6 ?_))
  change wpAny _ _ (setField (.ref it) 0 .none >>= _) _ _ s;refine Z_ (Yk gi di (by simp) ?_);refine Z_ (Z_ (Y5 ?_ (by size_fits)));refine Z_ (m:=firstArgMember _ _) (Xe (a:=Value.none) (by rfl) (Y5 ?_ (by size_fits)));refine Z_ (wpAny_handled ?_);rw[show A.in1.handled=M from hh];refine Z_ (Z6 (wpAny_throw ?_));refine Z_ (X9 (T:="StopIteration") (b:=L) ⟨_,ZX _ rfl,rfl⟩ WZ ?_);exact Z6 (stop hx _ (((Zn ..).extBut.push _).push _))
end
noncomputable def Itk(a:ZP)(kvs:Z9 (D×V))(ep:Nat):It:=
 ⟨λi H=>Rd H a (.dD kvs ep)/\i<kvs.length,λi H v O=>O=H/\∃p,kvs[i]?=U p/\KR H p.1 v,λi H=>Rd H a (.dD kvs ep)/\kvs.length<=i⟩
theorem aau.get:∀{kvs:Z9 (D×V)}{xs:Z9 (D×ZP×Z3)}{i:Nat}{p:D×V},aau H kvs xs->kvs[i]?=U p->∃q,xs[i]?=U q/\KR H p.1 (.ref q.2.1)
 |_,_,_,_,.nil,h=>by simp at h
 |_,_,0,_,.cons r _,h=>by simp at h;subst h;exact⟨_,rfl,r.2.2.1⟩
 |_,_,i+1,p,.cons _ t,h=>by
  obtain⟨q,h1,O⟩:=aau.get (i:=i) (p:=p) t (by trivial);exact⟨q,by trivial,O⟩
def t6{P:Za}{w:Y1}{K:Z4}{tg:Expr}{a it:ZP}{kvs:Z9 (D×V)}{ep:Nat}:Turn P w K tg (Itk a kvs ep) [it] it (λi h=>h.IsKeyIter it a i kvs.length ep) where
 mem:=by simp
 obj:=λi h st b hb=>by
  have e:b=it:=by simpa using hb
  obtain⟨o,e,c,d⟩:=st
  simp_all
 keep:=λi h h' st k=>st.at λo e=>k it (by simp) o e
 item:=by
  intro X hP hw hK hc i pins s σ H E I Z st hg;obtain⟨rd,hi⟩:=hg;obtain⟨z,y,xs,r,o,es,h1,h2,h3,h4,h5⟩:=(show aaj X.prog X.w H s.heap a (.dD kvs ep) from qV I.hok rd)
  have hsz:es.size=kvs.length:=by rw[W_ h4,<-Yw r]
  have hp:kvs[i]?=U kvs[i]:=by simp[hi]
  obtain⟨q,hq,kr⟩:=r.get hp;obtain⟨f0,f1,f2,f3,f4,f5⟩:=Z it (by simp);rw[<-hsz]at st;refine dP (I.ok.hd hc) st h1 h3 (λe he h' O sb=>?_) λhn=>?_;have ek:e.key=.ref q.2.1:=by
   rw[entry_at h4 i,hq]at he;have:=Z7 he;rw[<-this];rfl
  have I1:Inv X pins σ H {s with heap:=h'}:=I.turned (t':=s.toks) (λb o hb e=>(sb.2 b hb).trans e) f0 f1 f3 f4 f5;rw[hsz]at O;obtain⟨o',e',c',d'⟩:=id O;rw[ek];exact⟨_,rfl,xi (s:={s with heap:=h'}) e' c' d' (by decide) ⟨.ref q.2.1,H,I1,rfl,⟨rfl,kvs[i],hp,kr⟩,O,λb hb=>(Z b hb).1⟩⟩
  simp_all
 done:=by
  intro X hP hw hK hc i pins s σ H E I Z st hg;obtain⟨rd,hi⟩:=hg;obtain⟨z,y,xs,r,o,es,h1,h2,h3,h4,h5⟩:=(show aaj X.prog X.w H s.heap a (.dD kvs ep) from qV I.hok rd)
  have hsz:es.size=kvs.length:=by rw[W_ h4,<-Yw r]
  obtain⟨f0,f1,f2,f3,f4,f5⟩:=Z it (by simp);rw[<-hsz]at st;refine dP (I.ok.hd hc) st h1 h3 (λe he h' O sb=>?_) λhn h' eb=>⟨rfl,I.turned (t':=s.toks) (λb o hb e=>eb b o hb e) f0 f1 f3 f4 f5⟩
  simp_all
 self:=λ_ _ _ _ _ st h=>wpAny_pyIter_keyiter st h
section
variable{a:Expr}
def Fg(Z:TE):TI:=λσ H R=>Z σ H λx O=>∃a kvs ep,x=.ref a/\Rd O a (.dD kvs ep)/\R (Itk a kvs ep) O
def A5{Z:TE}(h:PE X a Z):PI X tg a (Fg Z):=by
 intro pins s σ H R I hq;refine thn (h pins s σ H _ I hq) λv s1 hz=>?_;obtain⟨x,H1,O,r1,l,kvs,ep,e,rd,q⟩:=hz;subst e;cases r1;obtain⟨z,y,xs,r,o,es,h1,h2,h3,h4,h5⟩:=(show aaj X.prog X.w H1 s1.heap l (.dD kvs ep) from qV O.hok rd)
 have hsz:es.size=kvs.length:=by rw[W_ h4,<-Yw r]
 refine jV y h1 h2 h3 ?_;rw[hsz];refine⟨s1.z,[s1.z],_,_,H1,rfl,O.kept (t':=s1.toks) λb o e=>Z5 _ e,t6,⟨_,ZX _ rfl,rfl,rfl⟩,λb hb=>?_,q⟩;have e:b=s1.z:=by simpa using hb
 subst e;exact O.abg (ZU _) (O.hok.fresh (ZU _))
noncomputable def xJ(x:Z8 D):Z8 (Z9 D):=match x with|some (.dD ks vs)=>U ks|_=>M
set_option tactic.hygienic true in
theorem zX(h:DE X m a fa):DI X m tg a (λq=>xJ (fa q)):=
 (A5 h).imp λσ H Q hz=>by
  obtain⟨B,Hk,q,ds,R,e,k⟩:=hz;dsimp only at e;unfold xJ at e;split at e;rename_i ks vs q1;obtain rfl:=Z7 e;refine⟨B,Hk,q,_,R,q1,λv H' s r=>?_⟩;obtain⟨l,kvs,rfl,⟨ep,O⟩,rfl,rs⟩:=r;have rd:∀{H2:Hp},Ext (bq m B q σ) H' H2->Rd H2 l (.dD kvs ep):=λ{H2} x=>by
   rcases O with⟨b,O⟩|⟨o,O⟩;exact .inl ((x.abD l b).trans O);exact .inr ⟨o,x.aaU _ _ _ O⟩
  refine⟨l,kvs,ep,rfl,rd Ext.refl,k _ H' s λH2 x=>?_⟩;refine⟨⟨rd x,by simp⟩,λi d hd=>?_⟩;rw[Zg]at hd;cases hp:kvs[i]? with
  |none=>simp_all
  |some p=>
   rw[hp]at hd;have r_:p.1=d:=Z7 hd;refine⟨⟨rd x,(ZO.mp hp).1⟩,λz H3 ⟨e3,p',Z,kr⟩=>?_⟩;rw[hp]at Z;obtain rfl:=Z7 Z;rw[e3];exact⟨aab.refl _,by rw[<-r_];exact kr.rep⟩
  trivial
end
section
variable{X:Cx}{apos p:Pos}{m':Bool}{a b c:Expr}
noncomputable def CB(K:Z4):R2:=λx y H Q=>∃a b xs ys,x=.ref a/\y=.ref b/\SqT K H a xs/\SqT K H b ys/\xs.length+ys.length<=sizeLine/\(xs=[]->Q (.ref b) H)/\(ys=[]->Q (.ref a) H)/\∀p,H p=M->Q (.ref p) (upd H p (.tup (xs++ys)))
def xV:OpR X (binaryOp .Add) (CB X.K):=by
 intro pins s σ H x y v u Q I rx ry h;obtain⟨t,b,xs,ys,rfl,rfl,ht,hb,hz,q0,q1,q2⟩:=h;cases rx;cases ry;obtain⟨vs,r1,p1,_⟩:=I.tuple ht;obtain⟨ws,r2,p2,_⟩:=I.tuple hb;have l1:=r1.length;have l2:=r2.length;obtain⟨⟨cls,dd,data,sl⟩,ho,hc,n,hd⟩:=id p1;obtain⟨⟨MG,Kt,data2,Z⟩,O,LS,n2,hd2⟩:=id p2;subst hc hd LS hd2;by_cases hv:vs=[];have hx:xs=[]:=by cases xs with
  |nil=>rfl
  |cons _ _=>simp_all
 exact concat_meets ⟨_,ho,rfl⟩ ⟨_,O,rfl⟩ noFill_tuple_add seq_tuple_add WU WX (W1 _ _) (tuple_addW0 t b vs.toArray ws.toArray n n2 dd Kt sl Z (by simp[hv])) ⟨ho,O,.ref b,H,I,rfl,q0 hx⟩;by_cases hw:ws=[];have hy:ys=[]:=by cases ys with
  |nil=>rfl
  |cons _ _=>simp_all
 exact concat_meets ⟨_,ho,rfl⟩ ⟨_,O,rfl⟩ noFill_tuple_add seq_tuple_add WU WX (W1 _ _) (tuple_addW1 t b vs.toArray ws.toArray n n2 dd Kt sl Z (by simpa using hv) (by simp[hw])) ⟨ho,O,.ref t,H,I,rfl,q1 hy⟩;refine concat_meets ⟨_,ho,rfl⟩ ⟨_,O,rfl⟩ noFill_tuple_add seq_tuple_add WU WX (W1 _ _) (tuple_addW2 t b vs.toArray ws.toArray n n2 dd Kt sl Z (by simpa using hv) (by simpa using hw) (by simp;lia)) ⟨ho,O,.ref s.z,_,?_,rfl,q2 _ (I.hok.fresh (ZU _))⟩;refine I.laid (t':=s.toks) (λb u e=>Z5 _ e) (ZU _) ⟨by rw[YX];exact hz,vs++ws,r1.append r2,⟨_,ZX _ rfl,rfl,0,?_⟩⟩;simp
noncomputable def uv(x y:Z8 D):Z8 D:=match x,y with|some (.tup xs),some (.tup ys)=>if xs.length+ys.length<=lim then U (.tup (xs++ys)) else M|_,_=>M
set_option tactic.hygienic true in
theorem yh(ha:DE X m a fa)(hb:DE X m b fb):DE X m (.BinOp a .Add b pos) (λq=>uv (fa q) (fb q)):=
 (tJ xV ha hb).imp λσ H Q hz=>by
  obtain⟨B,Hk,q,d,R,e,k⟩:=hz;dsimp only at e;unfold uv at e;split at e;rename_i ds es q1 q2;split at e;rename_i hl;obtain rfl:=Z7 e;refine two R q1 q2 λv u H' s R' r1 r2=>?_;obtain⟨t,xs,rfl,ht,Z⟩:=r1;obtain⟨b,ys,rfl,hb,O⟩:=r2;have l1:=Z.length;have l2:=O.length;refine⟨t,b,xs,ys,rfl,rfl,SqT.of ht,SqT.of hb,by rw[<-l1,<-l2];exact aF hl,λhx=>?_,λhy=>?_,λp hp=>?_⟩;have:ds=[]:=by cases ds with
   |nil=>rfl
   |cons _ _=>simp_all
  subst this;exact k _ H' s (by exact⟨b,ys,rfl,hb,O⟩)
  .simp_all [Rep,Yx]
  have s2:=ar (o:=.tup (xs++ys)) hp;exact k _ _ (s.trans s2) (by exact⟨p,xs++ys,rfl,ah,(Z.append O).same R' s2⟩);trivial;trivial
noncomputable def nC:Z9 D->Z8 (Z9 Bool)
 |[]=>U []
 |.bl b::ds=>(match nC ds with|some bs=>U (b::bs)|none=>M)
 |_=>M
theorem eD:∀{ds:Z9 D}{bs:Z9 Bool},nC ds=U bs->ds=bs.map D.bl
 |[],bs,h=>by obtain rfl:=Z7 h;rfl
 |.bl b::ds,bs,h=>by
  simp only[nC]at h;split at h;rename_i O q;obtain rfl:=Z7 h;rw[eD q];rfl;trivial
 |.non::ds,bs,h=>by trivial
 |.int _::ds,bs,h=>by trivial
 |.str _::ds,bs,h=>by trivial
 |.tup _::ds,bs,h=>by trivial
 |.lst _::ds,bs,h=>by trivial
 |.dK _ _::ds,bs,h=>by trivial
 |.dD _ _::ds,bs,h=>by trivial
def vF(hc:X.calm=L):dg X (.builtin "any") (λxs H Q=>∃(q:ZP)(bs:Z9 Bool),xs=[.ref q]/\SqL X.K H q (bs.map V.bl)/\Q (.bl (bs.any id)) H):=by
 intro pins s σ H xs us Q I rv h;obtain⟨q,bs,rfl,hq,k⟩:=h;obtain⟨u,rfl,ru⟩:=rv.one;cases ru;obtain⟨its,r,pl,hz⟩:=I.list hq;have hl:=r.length;rw[ZW]at hl;have p_:q≠s.z:=ZA (by obtain⟨o,e,_⟩:=pl.isList;exact Z1 e);refine call_any_walk (Yg pl.isList ⟨s.z,_,_,its.toArray.size,_,_,λi=>bs.getD i Y,rfl,Walks.list (A:=X.A.in1) (show X.A.in1.handled=M from I.ok.hd hc) s.z q p_ its.toArray,⟨⟨_,ZX _ rfl,rfl,rfl⟩,pl.isList.push _⟩,λi v s' Q' E' hv O0=>?_,λh' tk hk=>?_⟩);have Z:its[i]?=U v:=by simpa using hv
 have O:i<bs.length:=by have:=(ZO.mp Z).1;lia
 obtain⟨v',e1,e2⟩:=r.get (i:=i) (x:=.bl bs[i]) (by simp[O]);rw[Z]at e1;obtain rfl:=Z7 e1;cases e2;refine YR ?_;rw[show bs[i]=bs.getD i Y by simp[O]];exact O0;have e:(List.range its.toArray.size).any (λi=>bs.getD i Y)=bs.any id:=by
  rw[ZI,<-hl,YG,XG,XG];constructor
  rintro⟨i,O,h1⟩
  have t_:=Zk.mp O;exact⟨bs[i],YF t_,by simpa[t_]using h1⟩
  rintro⟨x,hx,h1⟩
  obtain⟨i,O,rfl⟩:=Y_.mp hx;exact⟨i,Zk.mpr O,by simpa[O]using h1⟩
 rw[e];refine⟨.bl (bs.any id),H,?_,rfl,k⟩;exact(I.kept (t':=tk) λb o eb=>hk b o (λz=>by
  have:b=s.z:=by simpa using z
  rw[this]at eb;exact absurd (Z1 eb) (Zv _)) (Z5 _ eb))
noncomputable def E7(x:Z8 D):Z8 D:=match x with|some (.lst ds)=>(match nC ds with|some bs=>U (.bl (bs.any id))|none=>M)|_=>M
theorem M1.acu{K:Z4}{B:ZP->Prop}{H:Hp}:∀{bs:Z9 Bool}{xs:Z9 V},M1 K B H (bs.map D.bl) xs->xs=bs.map V.bl
 |[],xs,r=>r
 |b::bs,xs,r=>by
  obtain⟨x,t,rfl,Z,O⟩:=r;rw[Z,M1.acu O];rfl
theorem Eu(hc:X.calm=L)(g:Gl X "any")(hm:X.mg "any"=M)(ha:DE X m a fa)(O:starEach [a] X.env=[(Y,eval a X.env)]:=by rfl):DE X mm (.Call (.Name "any" p) [a] [] pos) (λδ=>E7 (fa δ)):=
 (bH (vF hc) g hm boot_any (au ha aM O) (he:=O)).imp λσ H Q hz=>by
  obtain⟨B,Hk,δ,d,R,e,k⟩:=hz;unfold E7 at e;dsimp only at e;split at e;rename_i ds q;split at e;rename_i bs Z;obtain rfl:=Z7 e;obtain rfl:=eD Z;refine ou R q λv H' s R' r=>?_;obtain⟨c,xs,rfl,hq,rs⟩:=r;obtain rfl:=rs.acu;exact⟨c,bs,rfl,hq.sq,k _ H' s (by rfl)⟩;trivial;trivial
def acD:V->Z9 V->Hp->VK->Prop:=λx vs H Q=>∃l y z o,x=.ref l/\vs=[y,z]/\DGA H l y o/\Q (o.getD z) H
def AF(hu:X.A.units+64<cLine):MtM X "dict.get" acD:=by
 intro pins s σ H x vs v us Q I rx rv h;obtain⟨l,y,z,o,rfl,rfl,g,q⟩:=h;cases rx;obtain⟨u1,u2,rfl,r1,Z⟩:=rv.two;rcases g with g|⟨kvs,ep,k,b,e,rfl,hk,kb,rfl⟩;exact CV (by lia) I g r1 Z λw' s' I' O=>⟨_,H,I',O,q⟩
 cases (show u1=Value.ref b from r1);obtain⟨z1,hd,xs,rel,dd⟩:=jO I.hok e;refine call_meetsIn WD dd.typeIs F.entry_dict_get (F.args_dict_get_3 _ _ _) (meetsH_dict_get_default (bv X.prog X.w) l b hd u2) ⟨by show X.A.units+1+30<cLine;lia,k,xs,cx I hk kb,dd,⟨_,H,I.tok _,?_,q⟩⟩;exact(rel.val k).getD Z
def bY(x k y:Z8 D):Z8 D:=match bU x k,y with|some o,some z=>U (o.getD z)|_,_=>M
set_option tactic.hygienic true in
theorem BC(hu:X.A.units+64<cLine)(ha:DE X m a fa)(hb:DE X m b fb)(hc:DE X m c fc)(base:attributeBase a "get" X.env (eval a X.env)=eval a X.env:=by rfl)(few:((backTo b_ (starEach [b,c] X.env)).all (λx=>!x.1)&&(backToKw b_ (keywordEach [] X.env)).all (λx=>x.1.isSome)&&decide (([b,c]).length+([]:Z9 Keyword).length+(if([]:Z9 Keyword).isEmpty then 0 else 1)<30))=L:=by rfl)(line:(apos.endLine==b_.line)=L:=by rfl)(O:starEach [b,c] X.env=(Y,eval b X.env)::starEach [c] X.env:=by rfl)(Z:starEach [c] X.env=[(Y,eval c X.env)]:=by rfl)(plain:(backTo b_ (starEach [c] X.env)).any (·.1)=Y:=by rfl):
  DE X m (.Call (.Attribute a "get" apos) [b,c] [] b_) (λq=>bY (fa q) (fb q) (fc q)):=
 (vR WD F.type_dict_get (AF hu) ha (au hb (au hc aM Z) O) base few line O plain).imp λσ H Q hz=>by
  obtain⟨B,Hk,q,d,R,e,k⟩:=hz;dsimp only at e;unfold bY at e;split at e;rename_i o z q1 q2;obtain rfl:=Z7 e;obtain⟨d1,d2,e1,e2,_⟩:=cW (K:=X.K) (B:=bq m B q σ) (B':=bq m B q σ) (H:=H) q1;refine⟨B,Hk,q,d1,R,e1,λv H1 s1 r1=>?_⟩;have R1:=R.to s1;have hda:n9 v H1:=by
   unfold bU at q1;rw[e1,e2]at q1;cases d1 with
   |dK ks vs=>obtain⟨a,kvs,rfl,hq,_⟩:=r1;exact⟨a,rfl,.inl ⟨kvs,hq.imp And.right id⟩⟩
   |dD ks vs=>obtain⟨a,kvs,rfl,⟨ep,hq⟩,_⟩:=r1;exact⟨a,rfl,.inr ⟨kvs,ep,hq.imp And.right id⟩⟩
   |_=>simp at q1
  refine⟨hda,two (m:=m) (m':=m) R1 e2 q2 λu w H' s R' r2 r3=>?_⟩;obtain⟨Um,Ul,RM,RK,go⟩:=cW (K:=X.K) (B:=bq m B q σ) (B':=bq m B q σ) (H:=H') q1;rw[e1]at RM;obtain rfl:=Z7 RM;rw[e2]at RK;obtain rfl:=Z7 RK;obtain⟨c',r,ev,g,gs,gz⟩:=go (r1.same R1 s) r2;refine⟨c',u,w,r,ev,rfl,g,?_⟩;cases o with
  |none=>
   cases r with
   |none=>exact k w H' (s1.trans s) r3
   |some _=>simp at gs
  |some dd=>
   obtain⟨w',rfl,Kk⟩:=gz _ rfl;exact k w' H' (s1.trans s) Kk
  trivial
end
section
variable{A:Zj}{E:Z3->ZV->Prop}{s:ZV}
def qE(hh:A.handled=M)(I d:ZP)(p_:d≠I)(O:o.data=.dict es ep):
  Walks prog w A I [I,d] [I] es.size (λi v=>∃e,es[i]?=U e/\v=e.key) (λi h=>h.IsKeyIter I d i es.size ep/\h.get? d=U o) where
 sub:=λb hb=>by simp_all
 frame:=λ_ _ _ st hk=>⟨st.1.at λo e=>hk I (by simp) o e,hk d (by simp) _ st.2⟩
 item:=λi s Q E hi st Z=>dP hh st.1 st.2 O (λe he h' LP sb=>Z _ h' s.toks ⟨e,he,rfl⟩ ⟨LP,(sb.2 d p_).trans st.2⟩ λb o hb e=>(sb.2 b (λz=>hb (by simp[z]))).trans e) λhn=>by
  simp_all
 done:=λs Q E st Z=>dP hh st.1 st.2 O (λe he=>by simp_all) λ_ h' eb=>Z h' s.toks λb o hb e=>eb b o (λz=>hb (by simp[z])) e
 self:=λ_ _ _ _ st Z=>wpAny_pyIter_keyiter st.1 Z
def nB(hh:A.handled=M)(hd:(d==sysModules)=Y)(ho:s.heap.get? d=U o)(hc:o.ExactDict)(Ke:o.data=.dict es ep)(hn:es.size<=sizeLine)(res:Z3)(hS:s.heap.get? S=U {cls:=.type "list",data:=.seq #[] NV})(hR:∀h' tk O c',(∀b o,b≠S->s.heap.get? b=U o->h'.get? b=U o)->h'.get? S=U {cls:=.type "list",dict:=M,data:=.seq O c',slots:=#[]}->ItemsOf (λi v=>∃e,es[i]?=U e/\v=e.key) O es.size->R (.ok (.ret res)) {s with heap:=h',toks:=tk}):
  wpAny (model prog w) A.in1 (Builtin.List.listExtendWith (.ref S) (.ref d) res)
   (λfin s'=>match fin with|.done f=>R (.ok f) s'|.again c'=>c'.quiet=L/\codeAny (model prog w) A c' R s') (λe s'=>R (.error e) s') s:=by
 have ty:s.TypeIs (.ref d) "dict":=⟨o,ho,hc.1⟩;have Ta:S≠d:=λe=>by lia
 have Vt:S≠s.z:=ZA (Z1 hS);have Vp:d≠s.z:=ZA (Z1 ho);have Vs:S∉[s.z,d]:=λhm=>by
  simp_all
 refine Z_ (XM ty ?_);simp only[show Builtin.List.listSameRef (.ref S) (.ref d)=Y by simp[Builtin.List.listSameRef,Ta],show(Value.type "dict"==Value.type "list")=Y by decide,show(Value.type "dict"==Value.type "tuple")=Y by decide,Bool.or_false,ZE,YO];refine Z_ (jV hd ho hc Ke (Z_ (Zl ?_)));have ON:(s.heap.push {cls:=.type "dict_keyiterator",data:=.fields #[.ref d,.int 0 0,.int es.size 0,.int ep 0]}).get? d=U o:=Z5 _ ho;have QB:Shared.TypeIs {s with heap:=s.heap.push {cls:=.type "dict_keyiterator",data:=.fields #[.ref d,.int 0 0,.int es.size 0,.int ep 0]}} (.ref d) "dict":=⟨o,ON,hc.1⟩
 refine Z_ (Ye QB F.slot_dict_len.lookup ?_);refine Z_ (X9 QB (b:=L) (by rfl) ?_);refine Z_ (XM QB (Z6 ?_));have OZ:(s.heap.push {cls:=.type "dict_keyiterator",data:=.fields #[.ref d,.int 0 0,.int es.size 0,.int ep 0]}).get? S=U {cls:=.type "list",data:=.seq #[] NV}:=Z5 _ hS;refine Z_ (YE (Z_ ?_));have Mu:=Zz (Obj.mapSeq (·.push Value.none)) OZ rfl;refine Z_ (Y0 OZ rfl (Y0 (hz:=by seq_fits) Mu rfl ?_));have Nv:=Zz (Obj.mapSeq (·.pop)) Mu rfl;have oth:∀b o,b≠S->(s.heap.push {cls:=.type "dict_keyiterator",data:=.fields #[.ref d,.int 0 0,.int es.size 0,.int ep 0]}).get? b=U o->(((s.heap.push {cls:=.type "dict_keyiterator",data:=.fields #[.ref d,.int 0 0,.int es.size 0,.int ep 0]}).update S (Obj.mapSeq (·.push Value.none))).update S (Obj.mapSeq (·.pop))).get? b=U o:=
  λb o hb e=>(ZK _ _ (ZF hb)).trans ((ZK _ _ (ZF hb)).trans e)
 refine Z6 ⟨Zd XS _,codeAny_extend_loopS (qE (A:=A.in1) (show A.in1.handled=M from hh) s.z d Vp Ke).toS hn _ Vs _ es.size 0 _ _ _ rfl (Zm _) ⟨⟨_,oth _ _ (ZF Vt) (ZX _ rfl),rfl,rfl⟩,oth _ _ (ZF Ta) ON⟩ Nv (ItemsOf.nil _) λs' O c' hm G_ KA=>?_⟩;rw[Moved.eq_with hm];refine hR s'.heap s'.toks O c' (λb ob hb e=>hm.heap b ob (λZ=>?_) (oth b ob hb (Z5 _ e))) G_ KA;rcases ZT.mp Z with e'|Z;exact hb e';rw[ZD.mp Z]at e;exact absurd (Z1 e) (Zv _)
def gZ(hh:A.handled=M)(hd:(d==sysModules)=Y)(ho:s.heap.get? d=U o)(hc:o.ExactDict)(Ke:o.data=.dict es ep)(hn:es.size<=sizeLine)(hQ:∀h' tk O c',(∀b o,s.heap.get? b=U o->h'.get? b=U o)->h'.get? s.z=U {cls:=.type "list",dict:=M,data:=.seq O c',slots:=#[]}->ItemsOf (λi v=>∃e,es[i]?=U e/\v=e.key) O es.size->Q (.ref s.z) {s with heap:=h',toks:=tk}):
  wpAny (model prog w) A (call (.type "list") [.ref d]) Q E s:=by
 refine callType_codes (Q₁:=λobj Z=>obj=.ref s.z/\Z={s with heap:=s.heap.push {cls:=.type "list",data:=.seq #[]}}) F.called_list (F.typeCall_list_1 _) F.entry_list_init (code_list_new _ ⟨rfl,rfl⟩) λobj Z J_=>?_;obtain⟨rfl,rfl⟩:=J_;have hS:(s.heap.push {cls:=.type "list",data:=.seq #[]}).get? s.z=U {cls:=.type "list",data:=.seq #[]}:=ZX _ rfl;refine⟨⟨_,hS,rfl⟩,F.args_list_init_2 _ _,?_⟩;refine Z_ ?_;refine Z_ (Y9 hS rfl (Z6 ?_));have Mu:=Zz (Obj.mapSeq (λ_=>(#[]:Array Z3))) hS rfl;have up:∀b ob,s.heap.get? b=U ob->((s.heap.push {cls:=.type "list",data:=.seq #[]}).update s.z (Obj.mapSeq (λ_=>(#[]:Array Z3)))).get? b=U ob:=λb ob e=>(ZK _ _ (ZF (ZA (Z1 e)))).trans (Z5 _ e);refine Z_ (Y0 hS rfl (Z_ (Yj ?_)));exact nB (A:=A.in1) hh hd (up d o ho) hc Ke hn .none Mu λh' tk O c' hk G_ KA=>⟨rfl,hQ h' tk O c' (λb ob e=>hk b ob (ZA (Z1 e)) (up b ob e)) G_ KA⟩
end
section
variable{X:Cx}{m:Bool}
theorem aau.keys:∀{kvs:Z9 (D×V)}{xs:Z9 (D×ZP×Z3)},aau H kvs xs->KRs H (kvs.map (·.1)) (xs.map λq=>V.ref q.2.1)
 |_,_,.nil=>by rfl
 |_,_,.cons r t=>by
  exact⟨_,_,rfl,r.2.2.1,aau.keys t⟩
def qT(hc:X.calm=L):dg X (.type "list") (λxs H Q=>∃d kvs ep,xs=[.ref d]/\Rd H d (.dD kvs ep)/\∀ks p,KRs H (kvs.map (·.1)) ks->H p=M->Q (.ref p) (upd H p (.lst ks))):=by
 intro pins s σ H xs us Q I rv h;obtain⟨d,kvs,ep,rfl,rd,k⟩:=h;obtain⟨u,rfl,ru⟩:=rv.one;cases ru;obtain⟨z,y,xs,r,o,es,h1,h2,h3,h4,h5⟩:=(show aaj X.prog X.w H s.heap d (.dD kvs ep) from qV I.hok rd)
 have hsz:es.size=kvs.length:=by rw[W_ h4,<-Yw r]
 refine gZ (I.ok.hd hc) y h1 h2 h3 (by rw[hsz];exact z) λh' tk O c' hk hS Z=>?_;have hf:H s.z=M:=I.hok.fresh (ZU _);have Qb:xs.length=kvs.length:=(Yw r).symm;have hv:aac (xs.map λq=>V.ref q.2.1) O.toList:=by
  have hlen:O.toList.length=xs.length:=by rw[Array.length_toList,Z.1,hsz,Qb]
  have key:∀(l:Z9 (D×ZP×Z3))(m:Z9 Z3),m.length=l.length->(∀(i:Nat) q v,l[i]?=U q->m[i]?=U v->v=.ref q.2.1)->aac (l.map λq=>V.ref q.2.1) m:=by
   intro l
   induction l with
   |nil=>intro m hm _;cases m with
    |nil=>exact .nil
    |cons _ _=>simp at hm
   |cons q l ih=>intro m hm hp;cases m with
    |nil=>simp at hm
    |cons v m=>exact .cons (hp 0 q v rfl rfl) (ih m (by simpa using hm) λi q' v' a1 a2=>hp (i+1) q' v' (by trivial) (by trivial))
  refine key xs O.toList hlen λi q v a1 a2=>?_;obtain⟨e,he,rfl⟩:=Z.2 i v (by simpa using a2);rw[entry_at h4 i,a1]at he;rw[<-Z7 he];rfl
 refine⟨.ref s.z,_,I.laid (t':=tk) (o:=.lst (xs.map λq=>V.ref q.2.1)) hk (ZU _) ⟨by rw[ZW,Qb];exact z,O.toList,c',hv,by rw[hS]⟩,rfl,k _ _ r.keys hf⟩
noncomputable def ud(x:Z8 D):Z8 D:=match x with|some (.dD ks vs)=>U (.lst ks)|_=>M
def pT:bootBuiltins "list"=U (.type "list"):=by rfl
set_option tactic.hygienic true in
theorem xD(hc:X.calm=L)(g:Gl X "list")(hm:X.mg "list"=M)(ha:DE X Y a fa)(O:starEach [a] X.env=[(Y,eval a X.env)]:=by rfl):DF X (.Call (.Name "list" p) [a] [] pos) (λδ=>ud (fa δ)):=
 (cM (qT hc) g hm pT (au ha aM O) (he:=O)).imp λσ H Q hz=>by
  obtain⟨B,Hk,δ,d,R,e,k⟩:=hz;dsimp only at e;unfold ud at e;split at e;rename_i ks vs q;obtain rfl:=Z7 e;refine ou R q λv H' s R' r=>?_;obtain⟨c,kvs,rfl,⟨ep,hq⟩,rfl,rs⟩:=r;refine⟨c,kvs,ep,rfl,hq.imp And.right id,λks p Z hp=>?_⟩;have s2:=ar (o:=.lst ks) hp;exact k p _ (s.trans s2) (s.free hp) ⟨_,ah,(KRs.rep Z).same (m:=Y) R' s2⟩;trivial
end
open PySem.W
section
variable{X:Cx}{pins:Z9 (ZP×Obj)}{σ:St}{H:Hp}{s:ZV}{A:Zj}{E:Z3->ZV->Prop}
def qH(hu:A.units+30<cLine)(I:Inv X pins σ H s)(e:H d=U (.dD kvs ep))(hk:bf 8 k=L)(kb:KR H k (.ref b))(l:kvs.length<sizeLine)(rv:RelV v r)(h:∀O h' tk,Heap.SameBut d s.heap h'->Inv X pins σ (upd H d (.dD (de kvs k v) O)) {s with heap:=h',toks:=tk}->Q () {s with heap:=h',toks:=tk}):wpAny (model X.prog X.w) A (dictSet d (.ref b) r) Q E s:=by
 obtain⟨z,hd,xs,rel,dd⟩:=jO I.hok (.inl e);have hl:(de kvs k v).length<=sizeLine:=by have:=bB kvs k v;lia
 refine wpAny_dictSet_heap (knd:=bv X.prog X.w) (hsz:=by rw[<-Yw rel];exact z) (show A.units+30<cLine from hu) (cx I hk kb) dd λh' Z hs=>?_;obtain⟨q,es,O,hq,h2,h3,h4,_,h5⟩:=Z;refine h O h' _ hs (gv I (by rw[e];trivial) hs ⟨q,hq⟩ ⟨hl,hd,_,Paired.abS (rel.put k hk kb rv) λp q z=>⟨z.1,z.2.1,KR.to (λc ys ec=>?_) z.2.2.1,z.2.2.2⟩,q,es,hq,h2,h3,h4,h5⟩);rw[aj (mh ec e (λz=>nomatch z))];exact ec
def abu(H:Hp)(y:V)(p:D×V):Prop:=∃b O,y=.ref b/\H b=U (.tup [.ref O,p.2])/\bf 8 p.1=L/\KR H p.1 (.ref O)
theorem abu.upd(h:abu H y p)(e:H d=U (.dD kvs ep)):abu (L2.upd H d o) y p:=by
 obtain⟨b,kb,h1,O,h3,h4⟩:=h;exact⟨b,kb,h1,by rw[aj (mh O e (λz=>nomatch z))];exact O,h3,h4.to λc ys Z=>by rw[aj (mh Z e (λz=>nomatch z))];exact Z⟩
def fN(kvs:Z9 (D×V))(ps:Z9 (D×V)):Z9 (D×V):=ps.foldl (λm p=>de m p.1 p.2) kvs
def SqL.acz{K:Z4}{l d:ZP}{ys:Z9 V}{kvs:Z9 (D×V)}{ep:Nat}{o:HO}(h:SqL K H l ys)(e:H d=U (.dD kvs ep)):SqL K (upd H d o) l ys:=by
 rcases h with(h|⟨ob,h⟩)|h;exact .inl (.inl (by rw[aj (mh h e (λz=>nomatch z))];exact h));exact .inl (.inr ⟨ob,by rw[aj (mh h e (λz=>nomatch z))];exact h⟩);exact .inr h
def qA(hu:A.units+40<cLine)(hh:A.handled=M)(ps:Z9 (D×V))(ys:Z9 V)(hlen:ys.length=ps.length):
  ∀(n i:Nat)(t:Tok)(H:Hp)(s:ZV)(kvs:Z9 (D×V))(ep:Nat),i+n=ps.length->Inv X pins σ H s->H d=U (.dD kvs ep)->kvs.length+n<lim->SqL X.K H l ys->(∀(j:Nat) y p,ys[j]?=U y->ps[j]?=U p->abu H y p)->s.heap.IsListIter it l i->d8 X pins H it->it≠d->
   (∀H' s',Inv X pins σ H' s'->(∃Z,H'=upd H d (.dD (fN kvs (ps.drop i)) Z))->R (.ok (.ret .none)) s')->
   codeAny (model X.prog X.w) A (.builtin "dict.update.loop" ⟨[.ref d,.ref it,.int i t,.none],[]⟩) R s:=by
 intro n
 induction n with
 |zero=>
  intro i t H s kvs ep hi I e hl hq hp st hf O hR;refine Zr dv ?_;obtain⟨its,rv,pl,hz⟩:=I.list hq;have Rf:=rv.length;obtain⟨f0,f1,f2,f3,f4,f5⟩:=hf;refine Z_ (wpAny_pyNext_list_end hh st pl.isList (by simp;lia) λh' eb=>?_);refine Z_ (Z6 (Z6 (hR H _ (I.turned (t':=s.toks) (λb o hb e=>eb b o hb e) f0 f1 f3 f4 f5) ⟨ep,?_⟩)));rw[List.drop_of_length_le (by lia)]
  funext b
  by_cases hb:b=d;subst hb;rw[ah];exact e;rw[aj hb]
 |succ n ih=>
  intro i t H s kvs ep hi I e hl hq hp st hf O hR;refine Zr dv ?_;obtain⟨its,rv,pl,hz⟩:=I.list hq;have MW:i<ps.length:=by lia
  have TR:i<ys.length:=by lia
  obtain⟨b,kb,ey,hb,Qj,V8⟩:=hp i ys[i] ps[i] (by simp[TR]) (by simp[MW]);obtain⟨u,Nc,ru⟩:=rv.get (i:=i) (x:=ys[i]) (by simp[TR]);rw[ey]at ru;cases ru;obtain⟨f0,f1,f2,f3,f4,f5⟩:=id hf;refine Z_ (wpAny_pyNext_list_item st pl.isList (x:=.ref b) (by simpa using Nc) λh' o_ sb=>?_);have I1:Inv X pins σ H {s with heap:=h'}:=I.turned (t':=s.toks) (λb o hb e=>(sb.2 b hb).trans e) f0 f1 f3 f4 f5;obtain⟨tz,tis,tv,⟨to,tg,tc,tn,td⟩⟩:=(show aaj X.prog X.w H h' b (.tup [.ref kb,ps[i].2]) from I1.hok b _ hb)
  obtain⟨ku,vu,rfl,rk,U8⟩:=aac.two tv;cases rk;refine Z_ (Zl (Z_ (Yl ?_)));refine Z_ (XM (show Shared.TypeIs {s with heap:=h'} (.ref b) "tuple" from⟨_,tg,tc⟩) ?_);refine Z_ (Z_ (Wu tg ?_));rw[td];refine Z6 (Z6 ?_);refine Zl (qH (by show A.units+1+30<cLine;lia) I1 e Qj V8 (by have:=aF (ZU lim);lia) U8 λZ h2 QD Lm I2=>?_);refine Z6 ⟨Zd dr _,?_⟩;have Uz:=bB kvs ps[i].1 ps[i].2;refine ih (i+1) 0 (upd H d (.dD (de kvs ps[i].1 ps[i].2) Z)) _ (de kvs ps[i].1 ps[i].2) Z (by lia) I2 ah (by lia) (hq.acz e) (λj y p h1 h2=>(hp j y p h1 h2).upd e) ?_ ?_ O ?_;obtain⟨o,ho,hc,r_⟩:=o_;exact⟨o,(Lm.2 it O).trans ho,hc,r_⟩;exact⟨by rw[aj O];exact f0,f1,f2,f3,f4,f5⟩
  rintro H' s' I' ⟨Ou,eH⟩
  refine hR H' s' I' ⟨Ou,?_⟩;rw[eH,vq,Zo MW];rfl
def qa(hc:X.calm=L)(hu:X.A.units+64<cLine):dg X (.type "dict") (λxs H Q=>∃(l:ZP)(ys:Z9 V)(ps:Z9 (D×V)),xs=[.ref l]/\SqL X.K H l ys/\ys.length=ps.length/\ps.length<lim/\
  (∀(j:Nat) y p,ys[j]?=U y->ps[j]?=U p->abu H y p)/\∀d ep,H d=M->Q (.ref d) (upd H d (.dD (fN [] ps) ep))):=by
 intro pins s σ H xs us Q I r h;obtain⟨l,ys,ps,rfl,hq,hl,D_,hp,q⟩:=h;obtain⟨u,rfl,rx⟩:=r.one;cases rx;have hh:X.A.handled=M:=I.ok.hd hc;refine callType_codes (Q₁:=λobj O=>obj=.ref s.z/\O={s with heap:=s.heap.push {cls:=.type "dict",data:=.dict #[]}}) F.kt_called_dict (F.kt_typeCall_dict_1 _) F.entry_dict_init (kt_code_dict_new _ ⟨rfl,rfl⟩) ?_
 rintro obj O ⟨rfl,rfl⟩
 have MY:H s.z=M:=I.fresh;have I1:Inv X pins σ (upd H s.z (.dD [] 0)) {s with heap:=s.heap.push {cls:=.type "dict",data:=.dict #[]}}:=
  I.laid (t':=s.toks) (λ_ _ q=>Z5 _ q) (ZU _) (oz I.big)
 have hT:Shared.TypeIs {s with heap:=s.heap.push {cls:=.type "dict",data:=.dict #[]}} (.ref s.z) "dict":=⟨_,ZX _ rfl,rfl⟩
 have sm:aab H (upd H s.z (.dD [] 0)):=ar MY;have Tw:SqL X.K (upd H s.z (.dD [] 0)) l ys:=sm.seq hq;obtain⟨its,rv,⟨ol,nl,Nh,Kr,Mt,Oh⟩,hz⟩:=I1.list Tw;refine⟨hT,F.args_dict_init_2 _ _,?_⟩;refine Z_ ?_;refine Z_ (Wm hT ?_);refine Z6 ?_;refine Z_ (XM (show Shared.TypeIs {s with heap:=s.heap.push {cls:=.type "dict",data:=.dict #[]}} (.ref l) "list" from⟨_,Nh,Kr⟩) ?_);refine Z_ (zR Nh Kr Oh Mt (by simp[hh]) λh2 QD Z=>?_);have I2:Inv X pins σ (upd H s.z (.dD [] 0)) {s with heap:=h2,toks:=QD}:=I1.kept Z;refine Z_ (YE ?_);have Oa:h2.IsList l its.toArray:=⟨ol,Z _ _ Nh,Kr,nl,Oh⟩;refine Z_ (Yg Oa ?_);refine Z6 ⟨Zd dr _,?_⟩;have I3:Inv X pins σ (upd H s.z (.dD [] 0)) {s with heap:=h2.push {cls:=.type "list_iterator",data:=.fields #[.ref l,.int 0 0]},toks:=QD}:=I2.kept λb o e=>Z5 _ e;have d_:s.z<h2.objs.size:=Z1 (Z _ _ (ZX (h:=s.heap) (o:={cls:=.type "dict",data:=.dict #[]}) rfl));have fp:d8 X pins (upd H s.z (.dD [] 0)) h2.objs.size:=I2.abg (ZU _) (I2.hok.fresh (ZU _));refine qA (X:=X) (A:=X.A.in1) (by show X.A.units+1+40<cLine;lia) (by simp[hh]) ps ys hl ps.length 0 0 (upd H s.z (.dD [] 0)) _ [] 0 (by lia) I3 ah (by simp_all) Tw (λj y p h1 O5=>?_) ⟨_,ZX _ rfl,rfl,rfl⟩ fp (Nat.ne_of_gt d_) ?_;obtain⟨b,kb,e1,e2,e3,e4⟩:=hp j y p h1 O5;exact⟨b,kb,e1,sm _ _ e2,e3,e4.to λc ys ec=>sm _ _ ec⟩
 rintro H' s' I' ⟨ep,eH⟩
 rw[vq,List.drop_zero]at eH;subst eH;exact⟨rfl,⟨.ref s.z,_,I',rfl,q _ ep MY⟩⟩
end
noncomputable def uZ:D->Z8 (D×D)
 |.tup [k,v]=>if(bf 8 k&&lR k)=L then U (k,v) else M
 |_=>M
noncomputable def d4:Z9 D->Z8 (Z9 (D×D))
 |[]=>U []
 |d::ds=>match uZ d,d4 ds with|some p,some ps=>U (p::ps)|_,_=>M
def jb:Z9 D->Z9 D->Z9 (D×D)->Z9 D×Z9 D
 |ks,vs,[]=>(ks,vs)
 |ks,vs,p::ps=>jb (i7 p.1 ks) (yJ p.1 p.2 ks vs) ps
noncomputable def fM(x:Z8 D):Z8 D:=match x with|some (.lst ds)=>(match d4 ds with|some ps=>if ds.length<lim then U (.dD (jb [] [] ps).1 (jb [] [] ps).2) else M|none=>M)|_=>M
section
variable{K:Z4}{B:ZP->Prop}{H:Hp}
def PQ(K:Z4)(B:ZP->Prop)(H:Hp):Z9 (D×D)->Z9 (D×V)->Prop:=Paired λp q=>p.1=q.1/\Rep K B H p.2 q.2
theorem kD:∀{ps:Z9 (D×D)}{qs:Z9 (D×V)}{kvs:Z9 (D×V)}{vs:Z9 D},PQ K B H ps qs->M1 K B H vs (kvs.map (·.2))->(fN kvs qs).map (·.1)=(jb (kvs.map (·.1)) vs ps).1/\M1 K B H (jb (kvs.map (·.1)) vs ps).2 ((fN kvs qs).map (·.2))
 |_,_,kvs,vs,.nil,r=>⟨rfl,r⟩
 |_,_,kvs,vs,@Paired.cons _ _ _ p q ps qs h t,r=>by
  have h1:=dE q.1 q.2 kvs;have Z:=iP h.2 q.1 r;have O:=kD (kvs:=de kvs q.1 q.2) t Z;rw[h1]at O;unfold jb;rw[h.1];exact O
set_option tactic.hygienic true in
theorem gj:∀{ds:Z9 D}{ps:Z9 (D×D)}{ys:Z9 V},d4 ds=U ps->M1 K B H ds ys->∃qs,PQ K B H ps qs/\ys.length=qs.length/\∀(j:Nat) y q,ys[j]?=U y->qs[j]?=U q->abu H y q
 |[],ps,ys,h,r=>by
  obtain rfl:=Z7 h;have:ys=[]:=r;subst this;exact⟨[],.nil,rfl,λj y q h=>by simp at h⟩
 |d::ds,ps,ys,h,r=>by
  simp only[d4]at h;split at h;rename_i p ps' O q2;obtain rfl:=Z7 h;obtain⟨y,UQ,rfl,r1,r2⟩:=r;obtain⟨qs,h1,h2,h3⟩:=gj q2 r2;unfold uZ at O;split at O;rename_i k v;split at O;rename_i Z;obtain rfl:=Z7 O;rw[ZQ]at Z;obtain⟨b,xs,rfl,hb,rr⟩:=r1;obtain⟨ku,r3,rfl,rk,U_⟩:=rr;obtain⟨vu,r4,rfl,rv,rfl⟩:=U_;obtain⟨kb,rfl⟩:=c8 Z.2 rk;refine⟨(k,vu)::qs,.cons ⟨rfl,rv⟩ h1,by simp[h2],λj y q e1 e2=>?_⟩;cases j with
  |zero=>
   simp at e1 e2;subst e1 e2;exact⟨b,kb,rfl,hb,Z.1,rk.key Z.1⟩
  |succ j=>exact h3 j y q (by trivial) (by trivial)
  trivial;trivial;trivial
end
section
variable{X:Cx}
theorem xY:bootBuiltins "dict"=U (.type "dict"):=by rfl
theorem xC(hc:X.calm=L)(hu:X.A.units+64<cLine)(g:Gl X "dict")(hm:X.mg "dict"=M)(ha:DE X Y a fa)(Z:starEach [a] X.env=[(Y,eval a X.env)]:=by rfl):DF X (.Call (.Name "dict" p) [a] [] pos) (λδ=>fM (fa δ)):=
 (cM (qa hc hu) g hm xY (au ha aM Z) (he:=Z)).imp λσ H Q hz=>by
  obtain⟨B,Hk,δ,d,R,e,k⟩:=hz;dsimp only at e;unfold fM at e;split at e;rename_i ds q;split at e;rename_i ps qp;split at e;rename_i hl;obtain rfl:=Z7 e;refine ou R q λv H' s R' r=>?_;obtain⟨l,ys,rfl,hq,rs⟩:=r;obtain⟨qs,h1,h2,h3⟩:=gj qp rs;have O:qs.length=ds.length:=by rw[<-h2,rs.length]
  refine⟨l,ys,qs,rfl,hq.sq,h2,by rw[O];exact hl,h3,λd ep hd=>?_⟩;have s2:=ar (o:=.dD (fN [] qs) ep) hd;obtain⟨g1,g2⟩:=kD (kvs:=[]) (vs:=[]) h1 M1.nil;exact k d _ (s.trans s2) (s.free hd) ⟨_,⟨ep,ah⟩,g1,M1.same (m:=Y) g2 R' s2⟩;trivial;trivial;trivial
end
section
variable{K:Z4}{B:ZP->Prop}{Hk H H' H1:Hp}
def Rel.unset(R:Rel K B Hk δ σ H)(hi:i<σ.length):Rel K B Hk (δ.set i M) (σ.set i (U v)) H:=by
 have t_:i<δ.length:=by rw[R.len];exact hi
 have key:∀(j:Nat) p,(δ.set i M)[j]?=U (U p)->j≠i/\δ[j]?=U (U p)/\(σ.set i (U v))[j]?=σ[j]?:=λj p q=>by
  by_cases hj:j=i
  .simp_all
  rw[ZN (ZF hj)]at q;exact⟨hj,q,by rw[ZN (ZF hj)]⟩
 refine⟨R.same,R.bor,by simpa using R.len,λj e q=>?_,λj e q=>?_,λj k e f q Np h1 h2 h3 h4=>?_⟩;obtain⟨_,q1,q2⟩:=key j _ q;obtain⟨u,Z,O⟩:=R.var j e q1;exact⟨u,by rw[q2];exact Z,O⟩;obtain⟨_,q1,q2⟩:=key j _ q;obtain⟨a,Z,O⟩:=R.own j e q1;exact⟨a,by rw[q2];exact Z,O⟩;obtain⟨_,q1,q2⟩:=key j _ h1;obtain⟨_,Z,O⟩:=key k _ h2;rw[q2]at h3;rw[O]at h4;exact R.dis j k e f q Np q1 Z h3 h4
end
section
end
section
end
section
end
noncomputable def FI(z:Str):Z9 D:=z.cps.toList.map λc=>.str ⟨#[c]⟩
noncomputable def Kc(x:Z8 D):Z8 (Z9 D):=match x with|some (.str z)=>U (FI z)|_=>M
noncomputable def Dt(x:Z8 D):Z8 D:=match x with|some (.str z)=>if z.length<=lim then U (.int z.length) else M|_=>M
section
end
theorem w9:bootBuiltins "all"=U (.builtin "all"):=by rfl
def rX(hc:X.calm=L):dg X (.builtin "all") (λxs H Q=>∃(q:ZP)(bs:Z9 Bool),xs=[.ref q]/\SqL X.K H q (bs.map V.bl)/\Q (.bl (bs.all id)) H):=by
 intro pins s σ H xs us Q I rv h;obtain⟨q,bs,rfl,hq,k⟩:=h;obtain⟨u,rfl,ru⟩:=rv.one;cases ru;obtain⟨its,r,pl,hz⟩:=I.list hq;have hl:=r.length;rw[ZW]at hl;have p_:q≠s.z:=ZA (by obtain⟨o,e,_⟩:=pl.isList;exact Z1 e);refine call_all_walk (Yg pl.isList ⟨s.z,_,_,its.toArray.size,_,_,λi=>bs.getD i Y,rfl,Walks.list (A:=X.A.in1) (show X.A.in1.handled=M from I.ok.hd hc) s.z q p_ its.toArray,⟨⟨_,ZX _ rfl,rfl,rfl⟩,pl.isList.push _⟩,λi v s' Q' E' hv O0=>?_,λh' tk hk=>?_⟩);have Z:its[i]?=U v:=by simpa using hv
 have O:i<bs.length:=by have:=(ZO.mp Z).1;lia
 obtain⟨v',e1,e2⟩:=r.get (i:=i) (x:=.bl bs[i]) (by simp[O]);rw[Z]at e1;obtain rfl:=Z7 e1;cases e2;refine YR ?_;rw[show bs[i]=bs.getD i Y by simp[O]];exact O0;have e:(List.range its.toArray.size).all (λi=>bs.getD i Y)=bs.all id:=by
  rw[ZI,<-hl,YG,Z2,Z2];constructor;intro h x hx;obtain⟨i,O,rfl⟩:=Y_.mp hx;simpa[O]using h i (Zk.mpr O);intro h i O;have t_:=Zk.mp O;simpa[t_]using h bs[i] (YF t_)
 rw[e];refine⟨.bl (bs.all id),H,?_,rfl,k⟩;exact(I.kept (t':=tk) λb o eb=>hk b o (λz=>by
  have:b=s.z:=by simpa using z
  rw[this]at eb;exact absurd (Z1 eb) (Zv _)) (Z5 _ eb))
noncomputable def Dh(x:Z8 D):Z8 D:=match x with|some (.lst ds)=>(match nC ds with|some bs=>U (.bl (bs.all id))|none=>M)|_=>M
theorem B8(hc:X.calm=L)(g:Gl X "all")(hm:X.mg "all"=M)(ha:DE X m a fa)(O:starEach [a] X.env=[(Y,eval a X.env)]:=by rfl):DE X mm (.Call (.Name "all" p) [a] [] pos) (λδ=>Dh (fa δ)):=
 (bH (rX hc) g hm w9 (au ha aM O) (he:=O)).imp λσ H Q hz=>by
  obtain⟨B,Hk,δ,d,R,e,k⟩:=hz;unfold Dh at e;dsimp only at e;split at e;rename_i ds q;split at e;rename_i bs Z;obtain rfl:=Z7 e;obtain rfl:=eD Z;refine ou R q λv H' s R' r=>?_;obtain⟨c,xs,rfl,hq,rs⟩:=r;obtain rfl:=rs.acu;exact⟨c,bs,rfl,hq.sq,k _ H' s (by rfl)⟩;trivial;trivial
theorem A1(g:Gl X "len")(hm:X.mg "len"=M)(ha:DE X m a fa)(Z:starEach [a] X.env=[(Y,eval a X.env)]:=by rfl):DE X mm (.Call (.Name "len" p) [a] [] pos) (λδ=>Dt (fa δ)):=
 (bH lN g hm PySem.boot_len (au ha aM Z) (he:=Z)).imp λσ H Q hz=>by
  obtain⟨B,Hk,δ,d,R,e,k⟩:=hz;unfold Dt at e;dsimp only at e;split at e;rename_i z q;by_cases O:z.length<=lim;rw[ZM O]at e;obtain rfl:=Z7 e;exact⟨B,Hk,δ,_,R,q,λv H' s r=>⟨z,by rw[r],aF O,k _ H' s (by rfl)⟩⟩;rw[ZH O]at e;trivial;trivial
section
variable{X:Cx}
open Classical in
def D7(hu:X.A.units+64<cLine)(I:Inv X pins σ H s)(hd:okD 16 d=L)(he:es.all (okD 16)=L)(r1:Rep X.K B H d x)(r2:M1 X.K B' H es xs)(rx:RelV x v)(rv:aac xs its):∃e:Z3->Bool,(∀y,y∈its.toArray->SeqAt.EqAt X.A.in1 s y v (e y))/\∀(j:Nat) u d',its[j]?=U u->es[j]?=U d'->e u=decide (d'=d):=by
 have one:∀j u,its[j]?=U u->∃d' O,es[j]?=U d'/\okD 16 d'=L/\Rep X.K B' H d' O/\RelV O u:=λj u hj=>by
  have hl:=rv.length;have d_:j<xs.length:=by rw[hl];exact(ZO.mp hj).1
  obtain⟨u',KL,ru⟩:=rv.get (i:=j) (x:=xs[j]) (by simp[d_]);rw[hj]at KL;obtain rfl:=Z7 KL;obtain⟨d',r_,Z⟩:=r2.get' (i:=j) (x:=xs[j]) (by simp[d_]);exact⟨d',xs[j],r_,(Z2.mp he) d' (Zs r_),Z,ru⟩
 have key:∀u d' O,okD 16 d'=L->Rep X.K B' H d' O->RelV O u->decide (∃d' O,okD 16 d'=L/\Rep X.K B' H d' O/\RelV O u/\d'=d)=decide (d'=d):=λu d' O o' Z ru=>by
  rw[YG,YY,YY];constructor
  rintro⟨d2,x2,o2,OC,OA,e2⟩
  rw[<-e2];have ex:=ru.inj OA;subst ex;exact Rep.inj I o' o2 Z OC;intro e2;exact⟨d',O,o',Z,ru,e2⟩
 refine⟨λu=>decide (∃d' O,okD 16 d'=L/\Rep X.K B' H d' O/\RelV O u/\d'=d),λu KL=>?_,λj u d' hj r_=>?_⟩;obtain⟨j,hj⟩:=XI (show u∈its by simp_all);obtain⟨d',O,_,o',Z,ru⟩:=one j u hj;have q:=(B0 I 16 d' d O x u v X.A.in1 o' hd (by show X.A.units+1+16+1<cLine;lia) Z r1 ru rx).2.1;show SeqAt.EqAt X.A.in1 s u v (decide (∃d' O,okD 16 d'=L/\Rep X.K B' H d' O/\RelV O u/\d'=d));rw[key u d' O o' Z ru];exact q;obtain⟨d2,O,e2,o',Z,ru⟩:=one j u hj;rw[r_]at e2;obtain rfl:=Z7 e2;exact(key u d' O o' Z ru).trans (by congr)
noncomputable def B4(x y:Z8 D):Z8 D:=match x,y with
 |some (.lst ds),some d=>if okD 16 d=L/\ds.all (okD 16)=L/\ds.idxOf d<ds.length/\ds.length<=lim then U (.int (ds.idxOf d)) else M
 |_,_=>M
def yb(hu:X.A.units+64<cLine):MtR X "list.index" (λx vs H Q=>∃B B' l y ds d,x=.ref l/\vs=[y]/\Rep X.K B H (.lst ds) x/\Rep X.K B' H d y/\okD 16 d=L/\ds.all (okD 16)=L/\ds.idxOf d<ds.length/\ds.length<=lim/\Q (.int (ds.idxOf d)) H):=by
 intro pins s σ H x vs v us Q I rx rv h;obtain⟨B,B',l,y,ds,d,rfl,rfl,r1,r2,o1,o2,hj,hz,q⟩:=h;cases rx;obtain⟨u,rfl,ru⟩:=rv.one;obtain⟨l',xs,e,hq,rs⟩:=r1;cases e;obtain⟨its,r,pl,_⟩:=I.list hq.sq;obtain⟨e,g1,g2⟩:=D7 hu I o1 o2 r2 rs ru r;obtain⟨⟨cl,dd,dt,sl⟩,n,e1,e2,e3,e4⟩:=pl;subst e2;subst e3;subst e4;have K5:=r.length;have Rg:=rs.length;have hsz:ds.idxOf d<its.toArray.size:=by rw[ZI];lia
 have at1:∀(i:Nat)(Z:i<its.length),e its[i]=decide (ds[i]'(by lia)=d):=λi Z=>g2 i its[i] (ds[i]'(by lia)) (by simp) (by simp);refine Ws F.slot_list_index ⟨_,e1,rfl⟩ F.entry_list_index (F.args_list_index_2 _ _) (SeqAt.list_indexAt l its.toArray n M sl u e (ds.idxOf d) hsz ?_ ?_ ?_) ⟨e1,g1,?_⟩;have:lim<2 ^ 63 - 1:=by decide +kernel
 lia
 .simp_all
 intro i Z O;rw[List.getElem_toArray,at1 i (by simpa using Z)];have:=List.not_of_lt_findIdx (p:=λz=>z==d) (xs:=ds) (i:=i) O;simpa using this;exact⟨.int _,H,I.tok _,⟨_,rfl⟩,q⟩
set_option tactic.hygienic true in
def vw(h:B4 x y=U z):∃ds d,x=U (.lst ds)/\y=U d/\okD 16 d=L/\ds.all (okD 16)=L/\ds.idxOf d<ds.length/\ds.length<=lim/\z=.int (ds.idxOf d):=by
 unfold B4 at h;split at h;rename_i ds d;split at h;rename_i c;obtain rfl:=Z7 h;exact⟨ds,d,rfl,rfl,c.1,c.2.1,c.2.2.1,c.2.2.2,rfl⟩;trivial;trivial
theorem yp(hu:X.A.units+64<cLine)(ha:DE X m a fa)(hb:DE X m' b fb)(O:Mc X.env a "index" b [] apos b_):DE X mm (.Call (.Attribute a "index" apos) [b] [] b_) (λq=>B4 (fa q) (fb q)):=
 (uJ Xz F.slot_list_index F.type_list_index (yb hu) ha (au hb aM O.s) O).imp λσ H Q hz=>by
  obtain⟨B,Hk,q,d,R,e,k⟩:=hz;obtain⟨ds,d0,e1,e2,o1,o2,h1,h2,rfl⟩:=vw e;refine⟨B,Hk,q,_,R,e1,λv H1 s1 r1=>?_⟩;have Z:=R.to s1;obtain⟨l,xs,ev,hq,rs⟩:∃l xs,v=.ref l/\abq X.K (bq m B q σ) H1 l xs/\M1 X.K (bq m B q σ) H1 ds xs:=by assumption
  subst ev;refine⟨.inl ⟨rfl,xs,hq.sq⟩,B,Hk,q,_,Z,e2,λy H2 s2 r2=>?_⟩;exact⟨_,_,l,y,ds,d0,rfl,rfl,r1.same Z s2,r2,o1,o2,h1,h2,k _ H2 (s1.trans s2) (by rfl)⟩
end
end L2
namespace L2
open PySem
def bj:Z9 (D×Z9 D)->D->D->Z9 (D×Z9 D)
 |[],k,e=>[(k,[e])]
 |p::r,k,e=>if p.1=k then(p.1,if e∈p.2 then p.2 else p.2++[e])::r else p::bj r k e
noncomputable def oG(g:Z9 (D×Z9 D)):D:=.dD (g.map (·.1)) (g.map λp=>.dD p.2 (p.2.map λ_=>.bl L))
open PySem.Spec PyProof.Rows
variable[Lams]
def abx(Hk H:Hp)(l:ZP)(v:V)(es:Z9 D):Prop:=∃a ks ep,v=.ref a/\a≠l/\Hk a=M/\H a=U (.dD ks ep)/\ks.map (·.1)=es/\∀x∈ks,x.2=.bl L
def GL(Hk H:Hp)(l:ZP):Z9 (D×V)->Z9 (D×Z9 D)->Prop
 |[],g=>g=[]
 |p::r,g=>∃q g',g=q::g'/\p.1=q.1/\abx Hk H l p.2 q.2/\GL Hk H l r g'
def abx.to(h:abx Hk H l v es)(k:∀a ks ep,v=.ref a->H a=U (.dD ks ep)->H' a=U (.dD ks ep)):abx Hk H' l v es:=by
 obtain⟨a,ks,ep,h1,h2,h3,Z,O⟩:=h;exact⟨a,ks,ep,h1,h2,h3,k a ks ep h1 Z,O⟩
theorem GL.to:∀{kvs:Z9 (D×V)}{g:Z9 (D×Z9 D)},GL Hk H l kvs g->(∀p∈kvs,∀a ks ep,p.2=.ref a->H a=U (.dD ks ep)->H' a=U (.dD ks ep))->GL Hk H' l kvs g
 |[],g,h,k=>h
 |p::r,g,h,k=>by
  obtain⟨q,g',h1,h2,h3,Z⟩:=h;exact⟨q,g',h1,h2,h3.to (k p (ZR ..)),GL.to Z λO hp=>k O (ZY _ hp)⟩
theorem GL.length:∀{kvs:Z9 (D×V)}{g:Z9 (D×Z9 D)},GL Hk H l kvs g->kvs.length=g.length
 |[],g,h=>by rw[show g=[] from h];rfl
 |p::r,g,h=>by obtain⟨q,g',rfl,_,_,O⟩:=h;simp[GL.length O]
theorem GL.mem:∀{kvs:Z9 (D×V)}{g:Z9 (D×Z9 D)}{p:D×V},GL Hk H l kvs g->p∈kvs->∃es,abx Hk H l p.2 es/\∃q∈g,q.2=es
 |[],g,p,h,hp=>by trivial
 |p'::r,g,p,h,hp=>by
  obtain⟨q,g',rfl,h2,h3,h4⟩:=h;rcases ZT.mp hp with rfl|hp;exact⟨q.2,h3,q,ZR ..,rfl⟩;obtain⟨es,h5,O,h6,Z⟩:=GL.mem h4 hp;exact⟨es,h5,O,ZY _ h6,Z⟩
def jc{kvs:Z9 (D×V)}{k:D}{v:V}(h:eP kvs k=U v):∃p∈kvs,p.2=v/\p.1=k:=by
 obtain⟨p,h1,O⟩:=Xv.mp h
 grind
theorem GL.add{Hk H:Hp}{l a:ZP}{ks:Z9 (D×V)}{k e:D}{ep:Nat}:∀{kvs:Z9 (D×V)}{g:Z9 (D×Z9 D)},GL Hk H l kvs g->(kvs.map (·.2)).Nodup->eP kvs k=U (.ref a)->H a=U (.dD ks ep)->∀O,GL Hk (upd H a (.dD (de ks e (.bl L)) O)) l kvs (bj g k e)
 |[],g,h,nd,Z,ha=>by trivial
 |p::r,g,h,nd,Z,ha=>by
  intro O;obtain⟨q,g',rfl,h2,h3,h4⟩:=h;rw[Z0,Y8]at nd;unfold bj;by_cases c:p.1=k;rw[bV c]at Z;rw[ZM (by lia)];refine⟨_,_,rfl,h2,?_,h4.to λp' MT a' Ti Ou e1 e2=>?_⟩;obtain⟨a',Ti,Ou,e1,e2,e3,e4,e5,e6⟩:=h3;have Lk:p.2=.ref a:=Z7 Z;rw[e1]at Lk;cases Lk;rw[ha]at e4;cases e4;refine⟨a,_,O,e1,e2,e3,ah,?_,λx hx=>?_⟩;rw[dE];unfold i7;rw[e5];unfold de at hx
  grind
  have:a'≠a:=λz=>by
   grind
  rw[aj this];exact e2;rw[b7 c]at Z;rw[ZH (by lia)];refine⟨_,_,rfl,h2,h3.to λa' Ti Ou e1 e2=>?_,GL.add h4 nd.2 Z ha O⟩;obtain⟨p',MT,e3,_⟩:=jc Z;have:a'≠a:=λz=>by
   grind
  rw[aj this];exact e2
theorem GL.keys:∀{kvs:Z9 (D×V)}{g:Z9 (D×Z9 D)},GL Hk H l kvs g->kvs.map (·.1)=g.map (·.1)
 |[],g,h=>by rw[show g=[] from h];rfl
 |p::r,g,h=>by obtain⟨q,g',rfl,Z,_,O⟩:=h;simp[GL.keys O,Z]
theorem GL.snoc:∀{kvs:Z9 (D×V)}{g:Z9 (D×Z9 D)},GL Hk H l kvs g->abx Hk H l (.ref a) es->GL Hk H l (kvs++[(k,.ref a)]) (g++[(k,es)])
 |[],g,h,i=>by rw[show g=[] from h];exact⟨_,_,rfl,rfl,i,rfl⟩
 |p::r,g,h,i=>by obtain⟨q,g',rfl,h2,Z,O⟩:=h;exact⟨_,_,rfl,h2,Z,GL.snoc O i⟩
theorem GL.ab5{n:Nat}{Hk H:Hp}{l:ZP}:∀{g:Z9 (D×Z9 D)},(∀q∈g,q.2.length<=n)->∀q∈bj g k e,q.2.length<=n+1
 |[],h,q,O=>by unfold bj at O;rw[ZD.mp O];simp
 |p::r,h,q,O=>by
  unfold bj at O;split at O;rcases ZT.mp O with rfl|O;have:=h p (ZR ..);dsimp only;split;lia;rw[YX,List.length_singleton];lia;have:=h q (ZY _ O);lia;rcases ZT.mp O with rfl|O;have:=h q (ZR ..);lia;exact GL.ab5 (Hk:=Hk) (H:=H) (l:=l) (λq' Z=>h q' (ZY _ Z)) q O
theorem iD:∀(g:Z9 (D×Z9 D))(k e:D),(bj g k e).length<=g.length+1
 |[],k,e=>by simp[bj]
 |p::r,k,e=>by
  unfold bj;split;simp;have:=iD r k e;simp only[cn];lia
def InM(K:Z4)(B:ZP->Prop)(Hk H:Hp)(l:ZP)(v:V)(es:Z9 D):Prop:=Rep K B H (.dD es (es.map λ_=>.bl L)) v\/abx Hk H l v es
def GM(K:Z4)(B:ZP->Prop)(Hk H:Hp)(l:ZP):Z9 (D×V)->Z9 (D×Z9 D)->Prop
 |[],g=>g=[]
 |p::r,g=>∃q g',g=q::g'/\p.1=q.1/\InM K B Hk H l p.2 q.2/\GM K B Hk H l r g'
theorem GL.m{K:Z4}{B:ZP->Prop}{Hk H:Hp}{l:ZP}:∀{kvs:Z9 (D×V)}{g:Z9 (D×Z9 D)},GL Hk H l kvs g->GM K B Hk H l kvs g
 |[],g,h=>h
 |p::r,g,h=>by obtain⟨q,g',h1,h2,Z,O⟩:=h;exact⟨q,g',h1,h2,.inr Z,GL.m O⟩
theorem EJ{K:Z4}{B:ZP->Prop}{H:Hp}:∀{ks:Z9 (D×V)},(∀x∈ks,x.2=.bl L)->M1 K B H ((ks.map (·.1)).map λ_=>.bl L) (ks.map (·.2))
 |[],h=>M1.nil
 |p::r,h=>M1.cons (by exact h p (ZR ..)) (EJ λx O=>h x (ZY _ O))
def abx.obR{K:Z4}{B:ZP->Prop}{Hk H:Hp}{l:ZP}{v:V}{es:Z9 D}(h:abx Hk H l v es):∃a,v=.ref a/\a≠l/\Hk a=M/\ObR K B H (.dD es (es.map λ_=>.bl L)) a:=by
 obtain⟨a,ks,ep,h1,h2,h3,Z,rfl,O⟩:=h;exact⟨a,h1,h2,h3,ks,⟨ep,Z⟩,rfl,EJ O⟩
theorem GM.ab6{K:Z4}{B:ZP->Prop}{Hk H:Hp}{l b:ZP}{u:HO}{o:Obj}(hx:H b=U u)(mu:Mut (U u))(nb:¬B b):∀{kvs:Z9 (D×V)}{g:Z9 (D×Z9 D)},GM K B Hk H l kvs g->GM K B Hk (upd H b (.frz o u)) l kvs g
 |[],g,h=>h
 |p::r,g,h=>by
  obtain⟨q,g',h1,h2,O,h4⟩:=h;refine⟨q,g',h1,h2,?_,GM.ab6 hx mu nb h4⟩;rcases O with O|O;exact .inl (O.ext (cb hx mu nb));by_cases c:p.2=.ref b;obtain⟨a,Z,e2,e3,ob⟩:=O.obR (K:=K) (B:=B);rw[c]at Z;cases Z;rw[c];exact .inl (ob.frozen hx nb λ_ z=>z);exact .inr (O.to λa ks ep Z e2=>by rw[aj (λz=>c (by rw[Z,z]))];exact e2)
theorem FA{X:Cx}{pins:Z9 (ZP×Obj)}{σ:St}{s:ZV}{B:ZP->Prop}{Hk:Hp}{l:ZP}{ol:HO}(hB:∀a,B a->∃o:HOn,Hk a=U o.1):∀(kvs:Z9 (D×V))(g:Z9 (D×Z9 D))(H:Hp),Inv X pins σ H s->GM X.K B Hk H l kvs g->H l=U ol->
  ∃O,Inv X pins σ O s/\Ext B H O/\(∀c o o',Hk c=U o'->H c=U o->O c=U o)/\O l=U ol/\M1 X.K B O (g.map λp=>.dD p.2 (p.2.map λ_=>.bl L)) (kvs.map (·.2))
 |[],g,H,I,h,hl=>⟨H,I,Ext.refl,λ_ _ _ _ q=>q,hl,by rw[show g=[] from h];rfl⟩
 |p::r,g,H,I,h,hl=>by
  obtain⟨q,g',rfl,h2,Z,h4⟩:=h;rcases Z with Z|Z;obtain⟨O,I',e',k',l',r'⟩:=FA hB r g' H I h4 hl;exact⟨O,I',e',k',l',M1.cons (Z.ext e') r'⟩;obtain⟨a,e1,e2,e3,ob⟩:=Z.obR (K:=X.K) (B:=B);obtain⟨u,hu,mu⟩:=ob.mut;obtain⟨o,I1⟩:=I.frz hu mu;have nb:¬B a:=λz=>by obtain⟨o',w⟩:=hB a z;lia
  have ex:Ext B H (upd H a (.frz o u)):=cb hu mu nb;obtain⟨O,I',e',k',l',r'⟩:=FA hB r g' _ I1 (GM.ab6 hu mu nb h4) (by rw[aj (ZF e2)];exact hl);refine⟨O,I',ex.trans e',λc o' o2 q1 q2=>k' c o' o2 q1 (by rw[aj (aw q1 e3)];exact q2),l',M1.cons ?_ r'⟩;dsimp only;rw[e1];exact(ob.frozen hu nb λ_ z=>z).ext e'
noncomputable def zC(q:iv):Bool:=q.all λo=>match o with|some (_,true)=>Y|_=>L
def rM(h:zC q=L):bh q:=λi d e=>by
 have:=(Z2.mp h) _ (Zs e);simp at this
def eC(h:bh Z):bh (Z.set i M):=λj e q=>by
 by_cases O:i=j;subst O;rw[List.getElem?_set]at q;split at q;lia;exact h i e q;rw[ZN O]at q;exact h j e q
def Rel.acy{K:Z4}{B:ZP->Prop}{Hk H:Hp}{δ:iv}{σ:St}{l:ZP}{u o:HO}(R:Rel K B Hk δ σ H)(no:bh δ)(hk:Hk l=M)(hl:H l=U u)(mu:Mut (U u)):Ext B H (upd H l o)/\Rel K B Hk δ σ (upd H l o):=by
 have nb:¬B l:=λz=>by obtain⟨o,q⟩:=R.bor l z;lia
 have ex:Ext B H (upd H l o):=cb hl mu nb;refine⟨ex,R.same.put hk,R.bor,R.len,λj e q=>?_,λj e q=>(no j e q).elim,R.dis⟩;obtain⟨v,Z,O⟩:=R.var j e q;exact⟨v,Z,O.ext ex⟩
noncomputable def cS(ib ik ir:Nat)(fk fe:iv->Z8 D):Z9 D->iv->Z9 (D×Z9 D)->Z8 (Z9 (D×Z9 D))
 |[],_,g=>U g
 |d::ds,q,g=>match fk (q.set ib (U (d,Y)))with
  |some k=>(match fe (((q.set ib (U (d,Y))).set ik (U (k,Y))).set ir M)with
   |some e=>if(bf 8 k&&lR k&&(bf 8 e&&lR e))=L then cS ib ik ir fk fe ds (((q.set ib (U (d,Y))).set ik (U (k,Y))).set ir M) (bj g k e) else M
   |none=>M)
  |none=>M
noncomputable def EG(ig ib ik ir:Nat)(fi:iv->Z8 (Z9 D))(fk fe:iv->Z8 D)(q:iv):Z8 Out:=
 if zC q=L/\ig<q.length/\ib<q.length/\ik<q.length/\ir<q.length then
  (match fi (q.set ig M)with
  |some ds=>if ds.length<lim then(match cS ib ik ir fk fe ds (q.set ig M) []with|some g=>U (.ret (oG g) L)|none=>M) else M
  |none=>M) else M
def sV(h:EG ig ib ik ir fi fk fe q=U o):bh q/\(ig<q.length/\ib<q.length/\ik<q.length/\ir<q.length)/\∃ds g,fi (q.set ig M)=U ds/\ds.length<lim/\cS ib ik ir fk fe ds (q.set ig M) []=U g/\o=.ret (oG g) L:=by
 unfold EG at h;split at h;rename_i c;split at h;rename_i ds Z;split at h;rename_i hl;split at h;rename_i g O;cases h;exact⟨rM c.1,c.2,ds,g,Z,hl,O,rfl⟩;trivial;trivial;trivial;trivial
theorem fQ:∀{g:Z9 (D×Z9 D)}{k e:D},¬k∈g.map (·.1)->bj (g++[(k,[])]) k e=bj g k e
 |[],k,e,_=>by simp[bj]
 |p::r,k,e,h=>by
  simp only[Z0,ZT,Wx]at h;show bj (p::(r++[(k,[])])) k e=_;unfold bj;rw[ZH (λz=>h.1 z.symm),ZH (λz=>h.1 z.symm),fQ h.2]
def xw{kvs:Z9 (D×V)}{k:D}{v:V}(h:eP kvs k=M):eP (kvs++[(k,v)]) k=U v:=by
 induction kvs with
 |nil=>exact bV rfl
 |cons p r O=>
  by_cases c:p.1=k;rw[bV c]at h;trivial;rw[b7 c]at h;rw[List.cons_append,b7 c];exact O h
structure aci (K:Z4)(B:ZP->Prop)(Hk:Hp)(ig l n:Nat)(δ:iv)(σ:St)(H:Hp)(g:List (D×List D)):Prop where
 rel:Rel K B Hk δ σ H
 no:bh δ
 at':σ[ig]?=some (some (.ref l))
 new:Hk l=none
 dict:∃kvs ep,H l=some (.dD kvs ep)/\GL Hk H l kvs g/\(kvs.map (·.2)).Nodup
 len:g.length<=n
 ab5:∀q∈g,q.2.length<=n
section
variable{X:Cx}{ig ib ik ir:Nat}{fk fe:iv->Z8 D}{p3 S6 S5:Pos}
noncomputable def tGR(K:Z4)(ig:Nat):TS:=λDn σ H=>∃B Hk l kvs ep g,(∀a,B a->∃o:HOn,Hk a=U o.1)/\σ[ig]?=U (U (.ref l))/\H l=U (.dD kvs ep)/\GL Hk H l kvs g/\
 ∀O,Ext B H O->(∀c o Z,Hk c=U Z->H c=U o->O c=U o)->ObR K B O (oG g) l->Dn.rt (.ref l) O
def Ax(O:Nm X ig xg):PS X (.Return (U (.Name xg Vg)) Vf) (tGR X.K ig):=by
 intro pins s σ H Dn I ⟨B,Hk,l,kvs,ep,g,hB,Z,hl,gl,k⟩;obtain⟨H',I',e',k',l',r'⟩:=FA hB kvs g H I gl.m hl;exact ox (bA O.at' O.vis O.d1 O.d2) pins s σ H' Dn I' ⟨.ref l,Z,k H' e' k' ⟨kvs,⟨ep,l'⟩,gl.keys,r'⟩⟩
def xF{K:Z4}{B:ZP->Prop}{Hk:Hp}{l n:Nat}{δ:iv}{σ:St}{H H3 H4:Hp}{g:Z9 (D×Z9 D)}{d k e:D}{v vk:V}{N:St->Hp->Prop}{Dn:Ends}
  (d_:ig<σ.length/\ib<σ.length/\ik<σ.length/\ir<σ.length) (h1:ig≠ib) (h2:ig≠ik) (h3:ig≠ir) (h5:ik≠ir) (hn:n<lim)
  (G:aci K B Hk ig l n δ σ H g) (sy:aab H H3) (rv:Rep K B H3 d v) (qk:fk (δ.set ib (U (d,Y)))=U k) (s4:aab H3 H4) (rk:Rep K B H4 k vk)
  (qe:fe (((δ.set ib (U (d,Y))).set ik (U (k,Y))).set ir M)=U e) (Qj:(bf 8 k&&lR k&&(bf 8 e&&lR e))=L)
  (fin:∀i_ H',Ext B H H'->aci K B Hk ig l (n+1) (((δ.set ib (U (d,Y))).set ik (U (k,Y))).set ir M) i_ H' (bj g k e)->N i_ H'):
  Ft (BV (HD abP (t5 ig) (ua (t5 ik) (ua abX ab9))) (gW ir)) (sPA (t5 ir) (tM K Y fe) (tC (.bl L))) {Dn with nx:=N} ((σ.set ib (U v)).set ik (U vk)) H4:=by
 simp only[ZQ]at Qj;obtain⟨⟨k8,kt⟩,e8,et⟩:=Qj;obtain⟨lg,lb,lk,lr⟩:=d_;have R3:=(G.rel.to sy).set (i:=ib) lb rv;have R4:=(R3.to s4).set (i:=ik) (by rw[Y6];exact lk) rk;have QT:bh ((δ.set ib (U (d,Y))).set ik (U (k,Y))):=f8 (f8 G.no);obtain⟨kvs,ep,hl,gl,nd⟩:=G.dict;have P5:=sy.trans s4;have TM:H4 l=U (.dD kvs ep):=P5 l _ hl;have Ub:GL Hk H4 l kvs g:=gl.to λp hp a ks Z e1 e2=>P5 a _ e2;obtain⟨b,rfl⟩:=c8 kt rk;have SN:((σ.set ib (U v)).set ik (U (.ref b)))[ig]?=U (U (.ref l)):=by
  rw[ZN (ZF h2),ZN (ZF h1)];exact G.at'
 have UB:((σ.set ib (U v)).set ik (U (.ref b)))[ik]?=U (U (.ref b)):=Zh (by rw[Y6];exact lk);refine⟨.ref l,SN,⟨l,rfl,.inr ⟨kvs,ep,.inl TM⟩⟩,.ref b,UB,λc hc=>?_⟩;have cl:c≠l:=λz=>by lia
 have sc:=ar (o:=.dD [] 0) hc;have Oi:upd H4 c (.dD [] 0) l=U (.dD kvs ep):=sc l _ TM;have Qs:GL Hk (upd H4 c (.dD [] 0)) l kvs g:=Ub.to λp hp a ks Z e1 e2=>sc a _ e2;have QW:KR (upd H4 c (.dD [] 0)) k (.ref b):=(rk.ext (R4.ext sc)).key k8;have Rc:=R4.to sc;have xc:Ext B H (upd H4 c (.dD [] 0)):=G.rel.ext (P5.trans sc);have av:∀(H5:Hp)(a:ZP)(O:Z9 (D×V))(Mx:Nat)(g1:Z9 (D×Z9 D)),Ext B H H5->Rel K B Hk ((δ.set ib (U (d,Y))).set ik (U (k,Y))) ((σ.set ib (U v)).set ik (U (.ref b))) H5->H5 l=U (.dD O Mx)->GL Hk H5 l O g1->(O.map (·.2)).Nodup->
   eP O k=U (.ref a)->bj g1 k e=bj g k e->(∀q∈g1,q.2.length<=n)->
   sPA (t5 ir) (tM K Y fe) (tC (.bl L)) {Dn with nx:=N} (((σ.set ib (U v)).set ik (U (.ref b))).set ir (U (.ref a))) H5:=by
  intro H5 a O Mx g1 x5 R5 V4 Ua S_ Tr Ui Tg;have R6:=R5.unset (i:=ir) (v:=.ref a) (by rw[Y6,Y6];exact lr);refine⟨.ref a,Zh (by rw[Y6,Y6];exact lr),B,Hk,_,e,R6,qe,λy H6 s6 ry=>?_⟩;obtain⟨b2,rfl⟩:=c8 et ry;obtain⟨p,hp,e1,e2⟩:=jc Tr;obtain⟨es,⟨a',ks,Z,f1,f2,f3,f4,f5,f6⟩,q,hq,Tv⟩:=Ua.mem hp;rw[e1]at f1;cases f1;have RE:H6 a=U (.dD ks Z):=s6 a _ f4;have Nk:ks.length<=n:=by
   have:=Tg q hq;rw[Tv,<-f5,ZW]at this;exact this
  refine⟨a,rfl,.inr ⟨ks,Z,e,b2,RE,rfl,e8,ry.key e8,?_,λK2=>?_⟩⟩;exact ZC (Yb Nk hn) (aF (ZU _));have R7:=R6.to s6;have gl6:GL Hk H6 l O g1:=Ua.to λp hp a ks Z e1 e2=>s6 a _ e2;obtain⟨x8,R8⟩:=R7.acy (o:=.dD (de ks e (.bl L)) K2) (eC QT) f3 RE trivial;refine fin _ _ ((x5.trans (R5.ext s6)).trans x8) ⟨R8,eC QT,?_,G.new,⟨O,Mx,?_,?_,S_⟩,?_,?_⟩;rw[ZN (ZF h3)];exact SN;rw[aj (ZF f2)];exact s6 l _ V4;rw[<-Ui];exact gl6.add S_ Tr RE K2;have:=iD g k e;have:=G.len;lia;rw[<-Ui];exact GL.ab5 (Hk:=Hk) (H:=H) (l:=l) Tg
 cases hv:eP kvs k with
 |some w=>
  obtain⟨p,hp,e1,e2⟩:=jc hv;obtain⟨es,⟨a,ks,Z,f1,f2,f3,f4,f5,f6⟩,q,hq,Tv⟩:=Qs.mem hp;have ew:w=.ref a:=by rw[<-e1,f1]
  subst ew;refine⟨l,.ref b,.ref c,.ref a,rfl,rfl,.inl ⟨.inr ⟨kvs,ep,k,b,.inl Oi,rfl,k8,QW,hv.symm⟩,?_,.inr ⟨kvs,ep,Oi⟩⟩⟩;exact av _ a kvs ep g xc Rc Oi Qs nd hv rfl G.ab5
 |none=>
  refine⟨l,.ref b,.ref c,.ref c,rfl,rfl,.inr ⟨.inr ⟨kvs,ep,k,b,.inl Oi,rfl,k8,QW,hv.symm⟩,rfl,.inr ⟨kvs,ep,k,b,Oi,rfl,k8,QW,?_,λK2=>?_⟩⟩⟩;rw[gl.length];exact ZC (Yb G.len hn) (aF (ZU _));have V7:Hk c=M:=G.rel.same.free ((P5.free hc));obtain⟨x5,R5⟩:=Rc.acy (o:=.dD (de kvs k (.ref c)) K2) QT G.new Oi trivial;have ek:¬k∈g.map (·.1):=by rw[<-gl.keys];exact xB hv
  refine av _ c (de kvs k (.ref c)) K2 (g++[(k,[])]) (xc.trans x5) R5 ah ?_ ?_ ?_ (fQ ek) ?_;rw[jy _ hv];refine GL.snoc (Qs.to λp hp a ks Z e1 e2=>?_) ⟨c,[],0,rfl,cl,V7,?_,rfl,λx hx=>by cases hx⟩;have:a≠l:=λz=>by
   obtain⟨es,⟨a2,Vv,ep3,z1,z2,_⟩,_⟩:=Qs.mem hp;lia
  rw[aj this];exact e2;rw[aj cl];exact ah;rw[jy _ hv,Y7];refine X5.mpr ⟨nd,by simp,λx hx y hy z=>?_⟩;obtain rfl:y=.ref c:=by simp_all
  subst z;obtain⟨p,hp,e1⟩:=ZZ.mp hx;obtain⟨es,⟨a2,Vv,ep3,z1,z2,z3,z4,_⟩,_⟩:=Ub.mem hp;lia;rw[jy _ hv];exact xw hv;intro q hq;rcases Zc.mp hq with hq|hq;exact G.ab5 q hq
  simp_all
set_option tactic.hygienic true in
theorem rV(hp:PassesOwn (model X.prog X.w) X.A X.env X.xe)(hc:X.calm=L)(hu:X.A.units+64<cLine)(hN:X.N.Nodup)(ng:Nm X ig xg)(lg:Lc X ig xg)(lb:Lc X ib xb)(nk:Nm X ik xk)(lk:Lc X ik xk)(nr:Nm X ir xr)(lr:Lc X ir xr)
  (h1:ig≠ib) (h2:ig≠ik) (h3:ig≠ir) (h5:ik≠ir) (hi:DI X Y (.Name xb p4) iter fi) (hk:DE X Y ke fk) (he:DE X Y ve fe)
  (hs:∀x,foldedSetIterable iter X.env x=pure x)
  (Sf:swapsWith (.Dict [] [] p2) (U (.Name xg p1)) p3.line X.env=pure Y)
  (NJ:swapsWith ke (U (.Name xk p5)) p6.line X.env=pure Y)
  (NI:swapsWith (.Call (.Attribute (.Name xg p8) "setdefault" ap) [.Name xk p9,.Dict [] [] MR] [] cp) (U (.Name xr p7)) S6.line X.env=pure Y)
  (Se:swapsWith (.Constant (.bool L) kk Vh) (U (.Subscript (.Name xr Vj) ve Vi)) S5.line X.env=pure Y)
  (base:attributeBase (.Name xg p8) "setdefault" X.env (eval (.Name xg p8) X.env)=eval (.Name xg p8) X.env)
  (few:((backTo cp (starEach [.Name xk p9,.Dict [] [] MR] X.env)).all (λx=>!x.1)&&(backToKw cp (keywordEach [] X.env)).all (λx=>x.1.isSome)&&decide (([Expr.Name xk p9,.Dict [] [] MR]).length+([]:Z9 Keyword).length+(if([]:Z9 Keyword).isEmpty then 0 else 1)<30))=L)
  (line:(ap.endLine==cp.line)=L)(Z:starEach [.Name xk p9,.Dict [] [] MR] X.env=(Y,eval (.Name xk p9) X.env)::starEach [.Dict [] [] MR] X.env)(NX:starEach [.Dict [] [] MR] X.env=[(Y,eval (.Dict [] [] MR) X.env)])(plain:(backTo cp (starEach [.Dict [] [] MR] X.env)).any (·.1)=Y):
  DSs X (.Assign [.Name xg p1] (.Dict [] [] p2) p3::
   .For (.Name xb p4) iter (.Assign [.Name xk p5] ke p6::
    .Assign [.Name xr p7] (.Call (.Attribute (.Name xg p8) "setdefault" ap) [.Name xk p9,.Dict [] [] MR] [] cp) S6::
    .Assign [.Subscript (.Name xr Vj) ve Vi] (.Constant (.bool L) kk Vh) S5::[]) [] p16::
   .Return (U (.Name xg Vg)) Vf::[]) (EG ig ib ik ir fi fk fe):=by
 intro pins s σ H Dn I hq;obtain⟨B,Hk,δ,o,R,e,Vw⟩:=hq;obtain⟨no,⟨q1,q2,q3,q4⟩,ds,g,Lv,hl,hg,rfl⟩:=sV e;have Vy:=R.len;refine bX (iB hN lg.at' lg.loc jH Sf lg.fnl)
  (bX (yA hp hc hi (md hN lb.at' lb.loc lb.fnl)
   (bX (iB hN lk.at' lk.loc hk NJ lk.fnl)
    (bX (iB hN lr.at' lr.loc (vR F.slot_dict_setdefault F.type_dict_setdefault (j7 hu) (bA ng.at' ng.vis ng.d1 ng.d2) (au (bA nk.at' nk.vis nk.d1 nk.d2) (au jH aM NX) Z) base few line Z plain) NI lr.fnl)
     (lV (nL hu (bA nr.at' nr.vis nr.d1 nr.d2) he Es Se)))) hs)
   (lV (Ax ng))) pins s σ H Dn I ?_
 intro p Tx;have s1:=ar (o:=.dD [] 0) Tx;have R1:=(R.to s1).unset (i:=ig) (v:=.ref p) (by lia);have Qg:Hk p=M:=R.same.free Tx;refine⟨B,Hk,_,ds,R1,Lv,λJ H2 s2 it=>?_⟩;have LP:ItD X.K B H2 J ds:=it;refine⟨λi n i_ H'=>n=ds.length - i/\i<=ds.length/\Ext B H2 H'/\∃O g',aci X.K B Hk ig p i O i_ H' g'/\i_.length=σ.length/\cS ib ik ir fk fe (ds.drop i) O g'=U g,
  ⟨ds.length,by simp,Zm _,Ext.refl,_,[],⟨R1.to s2,eC no,Zh (by lia),Qg,⟨[],0,s2 p _ ah,rfl,YK⟩,Zm _,λq hq=>by cases hq⟩,by simp,by trivial⟩,?_⟩
 intro i n i_ H' hz;obtain⟨rfl,t_,x,O,g',G,hlen,e'⟩:=hz;obtain⟨n_,OU⟩:=LP H' x;by_cases d_:i<ds.length;obtain⟨go,yl⟩:=OU i ds[i] (by simp[d_]);refine .inr ⟨go,λLK H3=>Ext B H2 H3/\∃O g',aci X.K B Hk ig p (i+1) O LK H3 g'/\LK.length=σ.length/\cS ib ik ir fk fe (ds.drop (i+1)) O g'=U g,λLK H3 z=>⟨_,by lia,rfl,d_,z⟩,λv H3 hy=>?_⟩;obtain⟨sy,rv⟩:=yl v H3 hy;rw[Zo d_]at e';simp only[cS]at e';split at e';rename_i k qk;split at e';rename_i e2 qe;split at e';rename_i h8;refine⟨B,Hk,_,k,(G.rel.to sy).set (i:=ib) (by lia) rv,qk,λvk H4 s4 rk=>?_⟩;refine xF (Dn:=Dn) ⟨by lia,by lia,by lia,by lia⟩ h1 h2 h3 h5 (by lia) G sy rv qk s4 rk qe h8 λLK H5 x5 G5=>⟨x.trans x5,_,_,G5,?_,e'⟩
 have r1:=G5.rel.len;have r2:=G.rel.len
 simp_all
 trivial;trivial;trivial;have MX:i=ds.length:=by lia
 subst MX;rw[WW]at e';cases e';obtain⟨kvs,ep,K5,gl,nd⟩:=G.dict;refine .inl ⟨n_,B,Hk,p,kvs,ep,g,R.bor,G.at',K5,gl,λH' x' k' ob=>?_⟩;have same:aab Hk H':=G.rel.same.keep k';exact Vw (.ref p) H' (((R.ext s1).trans (R1.ext s2)).trans (x.trans x')) same (by unfold u7;rw[ZM rfl];exact .inl ⟨p,rfl,Qg,ob⟩)
end
abbrev IsZ(h:Heap)(z P O:ZP)(f:Z3)(b:Bool):Prop:=
 h.get? z=U {cls:=.type "zip",dict:=M,data:=.fields #[f,.bool b,.bool Y,.ref P,.ref O],slots:=#[]}
structure Zq (t u:Bool)(h:Heap)(z P O c d p q:ZP)(n:Nat)(T:ZP)(b:Bool):Prop where
 zz:IsZ h z P O (rawInt T) b
 al:∃o,h.get? T=some o
 pp:IsPair h P (.ref c) (.ref d)
 oo:∃a b,IsPair h O a b
 cc:abj t h c p n
 dd:abj u h d q n
section
variable{A:Zj}{E:Z3->ZV->Prop}{s:ZV}
def d7(h:Q (s.heap.get? a) s):wpAny Mq A (loadIfAlive a) Q E s:=λO p _=>by
 assumption
def xH{bo:Bool}{z P O T:ZP}{oT:Obj}{Q:Bool->ZV->Prop}(zz:IsZ s.heap z P O (rawInt T) bo)(al:s.heap.get? T=U oT)(h:∀Z,IsZ Z z P O (rawInt T) L->Heap.SameBut z s.heap Z->Q Y {s with heap:=Z}):
  wpAny (model prog w) A (Builtin.SmallTypes.ownedTupleIsFree (.ref z)) Q E s:=by
 have hal:s.heap.get? (Int.toNat (T:Int))=U oT:=by rw[Int.toNat_natCast];exact al
 refine Z_ (XO zz rfl (x:=rawInt T) rfl ?_);refine Z_ (d7 ?_);rw[hal];refine Z_ (XO zz rfl (x:=.bool bo) rfl ?_);cases bo with
 |true=>
  exact Z6 (h _ zz ⟨rfl,λ_ _=>rfl⟩)
 |false=>
  exact Z_ (X6 zz (by simp) λZ NT m_=>Z6 (h Z NT m_))
def sf{t u bo:Bool}{z P O c d p q T:ZP}{n:Nat}{xs ys:Array Z3}{Q:Z3->ZV->Prop}(hh:A.handled=M)(ap:Ap z P O c d p q)(hT:T∉[z,P,O,c,d])(Z:Zq t u s.heap z P O c d p q n T bo)
  (hp:aar t s.heap p xs) (hq:aar u s.heap q ys)
  (item:∀x y,xs[n]?=U x->ys[n]?=U y->∀h',Zq t u h' z P O c d p q (n+1) T L->IsPair h' s.z x y->h'.objs.size=s.z+1->
   (∀b o,b∉[z,P,O,c,d]->s.heap.get? b=U o->h'.get? b=U o)->Q (.ref s.z) {s with heap:=h'})
  (stop:(xs[n]?=M\/ys[n]?=M)->∀h' e,(∀b o,b∉[z,P,O,c,d]->s.heap.get? b=U o->h'.get? b=U o)->(∃o,h'.get? e=U o/\o.cls=.type "StopIteration")->E (.ref e) {s with heap:=h'}):
  wpAny (model prog w) A (Builtin.«zip.__next__» ⟨[.ref z],[]⟩) (λr s'=>∃v,r=.done (.ret v)/\Q v s') E s:=by
 obtain⟨zz,⟨oT,al⟩,pp,⟨a,b,oo⟩,cc,dd⟩:=Z;have nd:=ap.nd;have np:=ap.p;have nq:=ap.q;simp only[Y8,ZT,Ze,Yi,Wx,YK,and_true,W8]at nd np nq hT;obtain⟨⟨zP,zO,zc,zd⟩,⟨PO,Pc,Pd⟩,⟨Oc,Od⟩,cd⟩:=nd;obtain⟨pz,pP,pO,pc,pd⟩:=np;obtain⟨qz,qP,qO,qc,qd⟩:=nq;obtain⟨Tz,TP,TO,Tc,Td⟩:=hT;change wpAny _ _ (field (.ref z) 2 >>= _) _ E s;refine Z_ (XO zz rfl (x:=.bool Y) rfl ?_);refine Z_ (XO zz rfl (x:=.ref P) rfl (Z_ (Y9 pp rfl ?_)));refine Z_ (xH zz al λPp LV m_=>?_);simp only[ZE,YO];refine Z_ (Z_ (Z_ (Zl ?_)));refine Z_ (E5 (t:=t) hh (cc.to λo e=>ai m_ (ZF zc) e) (hp.to λo e=>ai m_ pz e) (λx hx LA MF l_=>Z6 ?_) λhx LA e l_ he=>?_);refine Z6 ?_;refine Z_ (Z_ (Zl ?_));refine Z_ (E5 (t:=u) hh (dd.to λo e=>ai l_ (ZF cd) (ai m_ (ZF zd) e)) (hq.to λo e=>ai l_ qc (ai m_ qz e)) (λy hy z_ NU y_=>Z6 ?_) λhy z_ e y_ he=>?_);refine Z6 (Z6 ?_);refine Z_ (Wk (Z6 ⟨_,rfl,?_⟩) (by show 2<=sizeLine;trivial));have sz:z_.objs.size=s.z:=by rw[y_.1,l_.1,m_.1]
 have old:∀f o,f≠z->f≠c->f≠d->s.heap.get? f=U o->z_.get? f=U o:=λf o n1 n3 n4 e=>ai y_ n4 (ai l_ n3 (ai m_ n1 e));have NB:IsZ z_ z P O (rawInt T) L:=ai y_ zd (ai l_ zc LV);have up:∀f o,z_.get? f=U o->(z_.push {cls:=.type "tuple",data:=.seq #[x,y]}).get? f=U o:=λf o e=>Z5 _ e;have new:IsPair (z_.push {cls:=.type "tuple",data:=.seq #[x,y]}) z_.objs.size x y:=ZX _ rfl;have Ox:(z_.push {cls:=.type "tuple",data:=.seq #[x,y]}).objs.size=z_.objs.size+1:=YV ..;rw[sz]at new Ox⊢;refine item x y hx hy _ ⟨up _ _ NB,⟨oT,up _ _ (old _ _ Tz Tc Td al)⟩,up _ _ (old _ _ (ZF zP) Pc Pd pp),⟨a,b,up _ _ (old _ _ (ZF zO) Oc Od oo)⟩,?_,?_⟩ new Ox λf o hf e=>?_;exact MF.to λo e=>up _ o (ai y_ cd e);exact NU.to λo e=>up _ o e
 simp_all
 refine stop (.inr hy) z_ e (λf o hf g=>?_) he;simp only[ZT,Ze,Yi,Wx]at hf;obtain⟨n1,_,n2,n3,n4⟩:=hf;exact y_ _ _ n4 (ai l_ n3 (ai m_ n1 g));refine stop (.inl hx) LA e (λf o hf g=>?_) he;simp only[ZT,Ze,Yi,Wx]at hf;exact l_ _ _ hf.2.2.2.1 (ai m_ hf.1 g)
def ZS(t u:Bool)(h:Heap)(z P O c d p q:ZP)(n:Nat):Prop:=Zp t u h z P O c d p q n .none\/∃T b,T∉[z,P,O,c,d]/\Zq t u h z P O c d p q n T b
theorem ZS.to(Z:ZS t u h z P O c d p q n)(k:∀b o,b≠S->h.get? b=U o->h'.get? b=U o)(hS:S∉[z,P,O,c,d])(he:∃o,h'.get? S=U o):ZS t u h' z P O c d p q n:=by
 have ne:∀b∈[z,P,O,c,d],b≠S:=λb hb e=>hS (by rw[<-e];exact hb);rcases Z with⟨zz,pp,⟨a,b,oo⟩,cc,dd⟩|⟨T,bo,nT,⟨zz,⟨o,al⟩,pp,⟨a,b,oo⟩,cc,dd⟩⟩
 exact .inl ⟨k _ _ (ne z (by simp)) zz,k _ _ (ne P (by simp)) pp,⟨a,b,k _ _ (ne O (by simp)) oo⟩,cc.to λo e=>k _ o (ne c (by simp)) e,dd.to λo e=>k _ o (ne d (by simp)) e⟩;refine .inr ⟨T,bo,nT,k _ _ (ne z (by simp)) zz,?_,k _ _ (ne P (by simp)) pp,⟨a,b,k _ _ (ne O (by simp)) oo⟩,cc.to λo e=>k _ o (ne c (by simp)) e,dd.to λo e=>k _ o (ne d (by simp)) e⟩
 grind
def jW(hh:A.handled=M)(ap:Ap z P O c d p q)(Z:ZS t u s.heap z P O c d p q n)(hp:aar t s.heap p xs)(hq:aar u s.heap q ys)(item:∀x y,xs[n]?=U x->ys[n]?=U y->∀h',ZS t u h' z P O c d p q (n+1)->IsPair h' s.z x y->h'.objs.size=s.z+1->
   (∀b o,b∉[z,P,O,c,d]->s.heap.get? b=U o->h'.get? b=U o)->Q (U (.ref s.z)) {s with heap:=h'}) (stop:(xs[n]?=M\/ys[n]?=M)->∀h',(∀b o,b∉[z,P,O,c,d]->s.heap.get? b=U o->h'.get? b=U o)->Q M {s with heap:=h'}):
  wpAny (model prog w) A (pyNext (.ref z)) Q E s:=by
 have OG:∀b∈[z,P,O,c,d],b<s.z:=λb hb=>by
  rcases Z with⟨zz,pp,⟨a,b',oo⟩,cc,dd⟩|⟨T,bo,nT,⟨zz,⟨o,al⟩,pp,⟨a,b',oo⟩,cc,dd⟩⟩<;>
   (simp only[ZT,Ze,Yi]at hb
    rcases hb with rfl|rfl|rfl|rfl|rfl;exact Z1 zz;exact Z1 pp;exact Z1 oo;obtain⟨o,e,_⟩:=cc.obj;exact Z1 e;obtain⟨o,e,_⟩:=dd.obj;exact Z1 e)
 rcases Z with Z|⟨T,bo,nT,Z⟩;refine jF hh ap Z hp hq (λx y hx hy h' Z' new sz k=>item x y hx hy h' (.inr ⟨s.z,Y,λhm=>Zv _ (OG _ hm),?_⟩) new sz k) stop;obtain⟨zz,pp,oo,cc,dd⟩:=Z';exact⟨zz,⟨_,new⟩,pp,oo,cc,dd⟩;have ty:s.TypeIs (.ref z) "zip":=⟨_,Z.zz,rfl⟩
 refine Z_ (XY (YJ (name:=Str.ofString "__next__") ty Wn (YZ Wn ty F.entry_zip_next (sf hh ap nT Z hp hq (λx y hx hy h' b1 b2 b3 b4=>Z6 (item x y hx hy h' (.inr ⟨T,L,nT,b1⟩) b2 b3 b4)) λhn h' e k he=>?_) (F.args_zip_next_1 _))));obtain⟨o,ho,hc⟩:=he;exact Z_ (X9 (T:="StopIteration") (b:=L) ⟨o,ho,hc⟩ WZ (Z6 (stop hn h' k)))
def Made(h:Heap)(lo:ZP)(xs ys:Array Z3):Nat->Z9 Z3->Prop
 |_,[]=>True
 |i,v::r=>∃T x y,v=.ref T/\lo<=T/\xs[i]?=U x/\ys[i]?=U y/\IsPair h T x y/\(∀O∈r,O≠v)/\Made h lo xs ys (i+1) r
theorem Made.to{h h':Heap}{lo:ZP}{xs ys:Array Z3}:∀{i:Nat}{l:Z9 Z3},Made h lo xs ys i l->(∀T,.ref T∈l->∀o,h.get? T=U o->h'.get? T=U o)->Made h' lo xs ys i l
 |_,[],_,_=>trivial
 |i,v::r,hz,k=>by obtain⟨T,x,y,h1,h2,h3,h4,h5,h6,Z⟩:=hz;exact⟨T,x,y,h1,h2,h3,h4,k T (by rw[h1];simp) _ h5,h6,Z.to λT' O=>k T' (ZY _ O)⟩
theorem Made.snoc{h:Heap}{lo T:ZP}{xs ys:Array Z3}{x y:Z3}:∀{i:Nat}{l:Z9 Z3},Made h lo xs ys i l->lo<=T->xs[i+l.length]?=U x->ys[i+l.length]?=U y->IsPair h T x y->(∀v∈l,v≠.ref T)->Made h lo xs ys i (l++[.ref T])
 |i,[],_,a1,a2,Z,a4,_=>⟨T,x,y,rfl,a1,a2,Z,a4,λv hv=>(by lia),trivial⟩
 |i,v::r,hz,a1,a2,Z,a4,a5=>by
  obtain⟨T',x',y',h1,h2,h3,h4,h5,h6,h7⟩:=hz;refine⟨T',x',y',h1,h2,h3,h4,h5,λv' O=>?_,h7.snoc a1 (by rw[cn]at a2;rw[show i+1+r.length=i+(r.length+1) by lia];exact a2) (by rw[cn]at Z;rw[show i+1+r.length=i+(r.length+1) by lia];exact Z) a4 λv' O=>a5 v' (ZY _ O)⟩;rcases Zc.mp O with O|O;exact h6 v' O;rw[ZD.mp O];exact ZF (a5 v (ZR ..))
theorem Made.lt{h:Heap}{lo:ZP}{xs ys:Array Z3}:∀{i:Nat}{l:Z9 Z3},Made h lo xs ys i l->∀v∈l,∃T,v=.ref T/\T<h.objs.size/\lo<=T
 |_,[],_,v,O=>by trivial
 |i,v::r,hz,Z,O=>by
  obtain⟨T,x,y,h1,h2,h3,h4,h5,h6,h7⟩:=hz;rcases ZT.mp O with rfl|O;exact⟨T,h1,Z1 h5,h2⟩;exact h7.lt Z O
def nH{R:Result->ZV->Prop}{t u:Bool}{z P O c d p q S lo:ZP}{xs ys:Array Z3}{res:Z3}{n:Nat}(hh:A.handled=M)(ap:Ap z P O c d p q)(hS:S∉[z,P,O,c,d])(pS:p≠S)(qS:q≠S)(Pz:n=min xs.size ys.size)(hn:n<=sizeLine)(bl:∀b∈[z,P,O,c,d],lo<=b)(bS:lo<=S):
  ∀(k i:Nat)(s:ZV)(acc:Array Z3)(e:Nat),n - i=k->i<=n->ZS t u s.heap z P O c d p q i->aar t s.heap p xs->aar u s.heap q ys->s.heap.get? S=U {cls:=.type "list",dict:=M,data:=.seq acc e,slots:=#[]}->acc.size=i->Made s.heap lo xs ys 0 acc.toList->lo<=s.z->(∀T,.ref T∈acc.toList->T∉S::[z,P,O,c,d])->
  (∀s' g_ e',(∀b o,b∉S::[z,P,O,c,d]->s.heap.get? b=U o->s'.heap.get? b=U o)->s'.heap.get? S=U {cls:=.type "list",dict:=M,data:=.seq g_ e',slots:=#[]}->g_.size=n->Made s'.heap lo xs ys 0 g_.toList->(∃h' tk,s'={s with heap:=h',toks:=tk})->R (.ok (.ret res)) s')->
  codeAny (model prog w) A (.builtin "list.extend.loop" ⟨[.ref S,.ref z,res],[]⟩) R s:=by
 intro k
 induction k with
 |zero=>
  intro i s acc e hk hi Z hp hq hL ha hm KN hT hR;have Lu:i=n:=by lia
  subst Lu;refine Zr F.entry_extend_loop ?_;rw[XZ XS _];show wpAny _ A.in1 (pyNext (.ref z) >>= _) _ _ s;refine Z_ (jW (show A.in1.handled=M from hh) ap Z hp hq (λx y hx hy=>?_) λ_ h' kp=>?_);exfalso;have a1:=(YU.mp hx).1;have a2:=(YU.mp hy).1;lia;refine Z6 (hR _ acc e (λb o hb g=>kp b o (λz=>hb (ZY _ z)) g) (kp S _ hS hL) ha (hm.to λT LU o g=>kp T o (λz=>hT T LU (ZY _ z)) g) ⟨h',s.toks,rfl⟩)
 |succ k ih=>
  intro i s acc e hk hi Z hp hq hL ha hm KN hT hR;have d_:i<n:=by lia
  refine Zr F.entry_extend_loop ?_;rw[XZ XS _];show wpAny _ A.in1 (pyNext (.ref z) >>= _) _ _ s;refine Z_ (jW (show A.in1.handled=M from hh) ap Z hp hq (λx y hx hy h' Z' new sz kp=>?_) λMr h' kp=>?_)
  .have T9:=kp S _ hS hL
   have SQ:∀b∈S::[z,P,O,c,d],b≠s.z:=λb hb e'=>by
    rcases ZT.mp hb with rfl|hb;exact absurd (Z1 hL) (by rw[e'];exact Zv _)
    .have:b<s.z:=by
      rcases Z with⟨zz,pp,⟨a,b',oo⟩,cc,dd⟩|⟨T,bo,nT,⟨zz,⟨o,al⟩,pp,⟨a,b',oo⟩,cc,dd⟩⟩<;>
       (simp only[ZT,Ze,Yi]at hb
        rcases hb with rfl|rfl|rfl|rfl|rfl;exact Z1 zz;exact Z1 pp;exact Z1 oo;obtain⟨o,e,_⟩:=cc.obj;exact Z1 e;obtain⟨o,e,_⟩:=dd.obj;exact Z1 e)
     rw[e']at this;exact Zv _ this
   show wpAny _ A.in1 (updateSeq S (·.push (.ref s.z)) >>= _) _ _ _;refine Z_ (Y0 T9 rfl (Z6 ⟨Zd XS _,?_⟩) (by rw[ha];lia) (by show(acc.push _).size<=sizeLine+1;rw[Array.size_push,ha];lia));have sb:=Zn h' S (Obj.mapSeq (·.push (.ref s.z)));have oth:∀b o,b≠S->h'.get? b=U o->(h'.update S (Obj.mapSeq (·.push (.ref s.z)))).get? b=U o:=λb o hb g=>(sb.2 b hb).trans g;have gS:=Zz (Obj.mapSeq (·.push (Value.ref s.z))) T9 rfl;refine ih (i+1) _ (acc.push (.ref s.z)) _ (by lia) d_ (Z'.to oth hS ⟨_,gS⟩) (hp.to λo g=>oth _ o pS (kp _ o ap.p g)) (hq.to λo g=>oth _ o qS (kp _ o ap.q g)) gS (by rw[Array.size_push,ha]) ?_ ?_ ?_ λs' g_ e' k1 k2 k3 k4 k5=>?_;rw[Xn];refine(hm.to λT LU o g=>oth _ o (λz=>hT T LU (by rw[z];exact ZR ..)) (kp T o (λz=>hT T LU (ZY _ z)) g)).snoc KN ?_ ?_ (oth _ _ (ZF (SQ S (ZR ..))) new) λv hv z=>?_;rw[Array.length_toList,ha,Yh];exact hx;rw[Array.length_toList,ha,Yh];exact hy;obtain⟨T,rfl,lt,_⟩:=hm.lt v hv;cases z;exact Zv _ lt;show lo<=(Heap.update h' S _).objs.size;rw[sb.1,sz];exact ZL KN (W4 _);intro T LU;rw[Xn]at LU;rcases Zc.mp LU with LU|LU
   exact hT T LU;have:T=s.z:=by simpa using LU
   intro MV;exact SQ T MV this;refine hR s' g_ e' (λb o hb g=>k1 b o hb (oth b o (λz=>hb (by rw[z];exact ZR ..)) (kp b o (λz=>hb (ZY _ z)) g))) k2 k3 k4 ?_;obtain⟨h2,tk,e2⟩:=k5;exact⟨h2,tk,e2⟩
  exfalso;rcases Mr with Mr|Mr;rw[Array.getElem?_eq_none_iff]at Mr;lia;rw[Array.getElem?_eq_none_iff]at Mr;lia
theorem lQ:typeLookup (.type "zip") "__len__"=pure M:=by rfl
theorem iV:typeLookup (.type "zip") "__length_hint__"=pure M:=by rfl
def il{R:Result->ZV->Prop}(hh:A.handled=M){t u:Bool}{z P O c d p q S lo:ZP}{xs ys:Array Z3}{NV:Nat}(ap:Ap z P O c d p q)(hS:S∉[z,P,O,c,d])(pS:p≠S)(qS:q≠S)(hn:min xs.size ys.size<=sizeLine)(bl:∀b∈[z,P,O,c,d],lo<=b)(bS:lo<=S)(res:Z3)
  (Z:Zp t u s.heap z P O c d p q 0 .none) (hp:aar t s.heap p xs) (hq:aar u s.heap q ys) (KN:lo<=s.z)
  (hL:s.heap.get? S=U {cls:=.type "list",data:=.seq #[] NV})
  (hR:∀s' g_ e',(∀b o,b∉S::[z,P,O,c,d]->s.heap.get? b=U o->s'.heap.get? b=U o)->s'.heap.get? S=U {cls:=.type "list",dict:=M,data:=.seq g_ e',slots:=#[]}->g_.size=min xs.size ys.size->Made s'.heap lo xs ys 0 g_.toList->(∃h' tk,s'={s with heap:=h',toks:=tk})->R (.ok (.ret res)) s'):
  wpAny (model prog w) A.in1 (Builtin.List.listExtendWith (.ref S) (.ref z) res)
   (λfin s'=>match fin with|.done f=>R (.ok f) s'|.again c'=>c'.quiet=L/\codeAny (model prog w) A c' R s') (λe s'=>R (.error e) s') s:=by
 have ty:s.TypeIs (.ref z) "zip":=⟨_,Z.zz,rfl⟩;have Vr:S≠z:=λe=>hS (by rw[e];simp);unfold Builtin.List.listExtendWith;refine Z_ (XM ty ?_);simp only[show Builtin.List.listSameRef (.ref S) (.ref z)=Y by simp[Builtin.List.listSameRef,Vr],show(Value.type "zip"==Value.type "list")=Y by decide,show(Value.type "zip"==Value.type "tuple")=Y by decide,Bool.or_false,ZE,YO];refine Z_ (wpAny_pyIter_zip Z.zz (Z_ (Zl ?_)));unfold Builtin.List.listLengthHint;refine Z_ (Ye ty lQ ?_);dsimp only;change wpAny _ _ (specialOf (.ref z) "__length_hint__" >>= _) _ _ _;refine Z_ (Ye ty iV (Z6 ?_));refine qm (by simp) ?_;refine Z_ (YE (Z_ ?_));change wpAny _ A.in1 (updateSeq S (·.push .none) >>= λ_=>updateSeq S (·.pop)) _ _ _;have Mu:=Zz (Obj.mapSeq (·.push Value.none)) hL rfl;refine Z_ (Y0 hL rfl (Y0 (hz:=by seq_fits) Mu rfl ?_));have Nv:=Zz (Obj.mapSeq (·.pop)) Mu rfl;have oth:∀b o,b≠S->s.heap.get? b=U o->((s.heap.update S (Obj.mapSeq (·.push Value.none))).update S (Obj.mapSeq (·.pop))).get? b=U o:=
  λb o hb e=>(ZK _ _ (ZF hb)).trans ((ZK _ _ (ZF hb)).trans e)
 refine Z6 ⟨Zd XS _,nH hh ap hS pS qS rfl hn bl bS _ 0 _ _ _ rfl (Zm _) ((show ZS t u s.heap z P O c d p q 0 from .inl Z).to oth hS ⟨_,Nv⟩) (hp.to λo e=>oth _ o pS e) (hq.to λo e=>oth _ o qS e) Nv (by simp) (by simp[Made]) ?_ (by simp) λs' g_ e' k1 k2 k3 k4 k5=>?_⟩;show lo<=(Heap.update (Heap.update s.heap S _) S _).objs.size;rw[XR,XR];exact KN;obtain⟨h',tk,e2⟩:=k5;exact hR s' g_ e' (λb o hb e=>k1 b o hb (oth b o (λz=>hb (by rw[z];exact ZR ..)) e)) k2 k3 k4 ⟨h',tk,e2⟩
def jk{Q:Z3->ZV->Prop}(hh:A.handled=M){t u:Bool}{z P O c d p q:ZP}{xs ys:Array Z3}(ap:Ap z P O c d p q)(hn:min xs.size ys.size<=sizeLine){lo:ZP}(bl:∀b∈[z,P,O,c,d],lo<=b)(KN:lo<=s.z)
  (Z:Zp t u s.heap z P O c d p q 0 .none) (hp:aar t s.heap p xs) (hq:aar u s.heap q ys)
  (hQ:∀h' tk g_ e',(∀b o,b∉[z,P,O,c,d]->s.heap.get? b=U o->h'.get? b=U o)->h'.get? s.z=U {cls:=.type "list",dict:=M,data:=.seq g_ e',slots:=#[]}->g_.size=min xs.size ys.size->Made h' lo xs ys 0 g_.toList->Q (.ref s.z) {s with heap:=h',toks:=tk}):
  wpAny (model prog w) A (call (.type "list") [.ref z]) Q E s:=by
 refine callType_codes (Q₁:=λobj a_=>obj=.ref s.z/\a_={s with heap:=s.heap.push {cls:=.type "list",data:=.seq #[]}}) F.called_list (F.typeCall_list_1 _) F.entry_list_init (code_list_new _ ⟨rfl,rfl⟩) λobj a_ J_=>?_;obtain⟨rfl,rfl⟩:=J_;have hS:(s.heap.push {cls:=.type "list",data:=.seq #[]}).get? s.z=U {cls:=.type "list",data:=.seq #[]}:=ZX _ rfl;refine⟨⟨_,hS,rfl⟩,F.args_list_init_2 _ _,?_⟩;change wpAny _ _ (do let old <-Builtin.List.listItems (.ref s.z);Builtin.List.listUpdate (.ref s.z) (λ_=>#[]);letGo old.toList.reverse;Builtin.List.listExtendWith (.ref s.z) (.ref z) .none) _ _ _;refine Z_ ?_;unfold Builtin.List.listItems;refine Z_ (Y9 hS rfl (Z6 ?_));change wpAny _ _ (updateSeq s.z (λ_=>#[]) >>= λ_=>letGo (#[]:Array Z3).toList.reverse >>= λ_=>Builtin.List.listExtendWith (.ref s.z) (.ref z) .none) _ _ _;have Mu:=Zz (Obj.mapSeq (λ_=>(#[]:Array Z3))) hS rfl;have up:∀b ob,s.heap.get? b=U ob->((s.heap.push {cls:=.type "list",data:=.seq #[]}).update s.z (Obj.mapSeq (λ_=>(#[]:Array Z3)))).get? b=U ob:=λb ob e=>(ZK _ _ (ZF (ZA (Z1 e)))).trans (Z5 _ e);have OG:∀b∈[z,P,O,c,d],b<s.z:=λb hb=>by
  obtain⟨zz,pp,⟨a,b',oo⟩,cc,dd⟩:=Z;simp only[ZT,Ze,Yi]at hb;rcases hb with rfl|rfl|rfl|rfl|rfl;exact Z1 zz;exact Z1 pp;exact Z1 oo;obtain⟨o,e,_⟩:=cc.obj;exact Z1 e;obtain⟨o,e,_⟩:=dd.obj;exact Z1 e
 have lp:p<s.z:=by cases t<;>(obtain⟨o,e,_⟩:=hp;exact Z1 e)
 have lq:q<s.z:=by cases u<;>(obtain⟨o,e,_⟩:=hq;exact Z1 e)
 refine Z_ (Y0 hS rfl (Z_ (Yj ?_)));obtain⟨zz,pp,⟨a,b',oo⟩,cc,dd⟩:=Z;refine il (A:=A.in1) hh ap (λhm=>Zv _ (OG _ hm)) (ZA lp) (ZA lq) hn bl KN .none ⟨up _ _ zz,up _ _ pp,⟨a,b',up _ _ oo⟩,cc.to λo e=>up _ o e,dd.to λo e=>up _ o e⟩ (hp.to λo e=>up _ o e) (hq.to λo e=>up _ o e) ?_ Mu λs' g_ e' k1 k2 k3 k4 k5=>?_;show lo<=(Heap.update (Heap.push s.heap _) _ _).objs.size;rw[XR,YV];exact ZL KN (W4 _);obtain⟨h',tk,rfl⟩:=k5;exact⟨rfl,hQ h' tk g_ e' (λb ob hb e=>k1 b ob (λhm=>(ZT.mp hm).elim (λz=>ZA (Z1 e) z) hb) (up b ob e)) k2 k3 k4⟩
end
def aa_(H:Hp):Z9 V->Z9 V->Z9 V->Prop
 |x::xs,y::ys,vs=>∃T r,vs=.ref T::r/\H T=U (.tup [x,y])/\aa_ H xs ys r
 |_,_,vs=>vs=[]
section
variable{X:Cx}{pins:Z9 (ZP×Obj)}{σ:St}{s:ZV}
theorem eK{lo:ZP}{is js:Z9 Z3}(KN:X.e_.z<=lo):∀(l:Z9 Z3)(i:Nat)(H:Hp)(xs ys:Z9 V),Inv X pins σ H s->Made s.heap lo is.toArray js.toArray i l->(∀T,.ref T∈l->d8 X pins H T)->aac xs (is.drop i)->aac ys (js.drop i)->l.length=min xs.length ys.length->
  ∃H' vs,Inv X pins σ H' s/\aab H H'/\(∀c,.ref c∉l->H' c=H c)/\aa_ H' xs ys vs/\aac vs l
 |[],i,H,xs,ys,I,m,f,vx,vy,hl=>by
  refine⟨H,[],I,aab.refl H,λ_ _=>rfl,?_,.nil⟩;cases xs with
  |nil=>exact rfl
  |cons x xs=>cases ys with
   |nil=>exact rfl
   |cons y ys=>simp at hl
 |v::r,i,H,xs,ys,I,hz,f,vx,vy,hl=>by
  obtain⟨T,x,y,e1,e2,e3,e4,e5,e6,e7⟩:=hz;subst e1;cases xs with
  |nil=>simp at hl
  |cons x' xs=>cases ys with
   |nil=>simp at hl
   |cons y' ys=>
    have hi:i<is.length:=by simpa using(YU.mp e3).1
    have hj:i<js.length:=by simpa using(YU.mp e4).1
    rw[Zo hi]at vx;rw[Zo hj]at vy;cases vx with
    |cons a1 a2=>cases vy with
     |cons b1 b2=>
      have ex:is[i]=x:=by simpa[hi]using e3
      have ey:js[i]=y:=by simpa[hj]using e4
      rw[ex]at a1;rw[ey]at b1;have fT:=f T (ZR ..);have I1:=I.abW (o:=.tup [x',y']) fT (ZL KN e2) ⟨by show 2<=sizeLine;trivial,[x,y],.cons a1 (.cons b1 .nil),⟨_,e5,rfl,_,rfl⟩⟩;have ne:∀Z,Value.ref Z∈r->Z≠T:=λZ O z=>e6 _ O (by rw[z]);obtain⟨H',vs,i1,i2,i3,i4,i5⟩:=eK KN r (i+1) (upd H T (.tup [x',y'])) xs ys I1 e7 (λZ O=>⟨by rw[aj (ne Z O)];exact(f Z (ZY _ O)).1,(f Z (ZY _ O)).2⟩) a2 b2 (by simp_all);have sT:=ar (o:=.tup [x',y']) fT.1;refine⟨H',.ref T::vs,i1,sT.trans i2,λc hc=>?_,⟨T,vs,rfl,i2 T _ ah,i4⟩,.cons rfl i5⟩;rw[i3 c (λz=>hc (ZY _ z)),aj (λz=>hc (by rw[z];exact ZR ..))]
variable{t u:Bool}{ta:TA}{p:Pos}
noncomputable def tLZ(t u:Bool)(K:Z4)(ta:TA):TE:=λσ H Q=>ta σ H λvs Z=>∃p q xs ys,vs=[.ref p,.ref q]/\SqV t K Z p xs/\SqV u K Z q ys/\min xs.length ys.length<=sizeLine/\∀S O,aab Z O->Z S=M->(∃vs,O S=U (.lst vs)/\aa_ O xs ys vs)->Q (.ref S) O
theorem aa_.to(s:∀T xs,H T=U (.tup xs)->H' T=U (.tup xs)):∀{xs ys vs:Z9 V},aa_ H xs ys vs->aa_ H' xs ys vs
 |[],ys,vs,h=>by assumption
 |x::xs,[],vs,h=>h
 |x::xs,y::ys,vs,hz=>by obtain⟨T,r,h1,Z,O⟩:=hz;exact⟨T,r,h1,s _ _ Z,O.to s⟩
def qX(hc:X.calm=L)(gl:Gl X "list")(hl:X.mg "list"=M)(gz:Gl X "zip")(hz:X.mg "zip"=M)(ha:PA X [a,b] ta)(hs:starEach [a,b] X.env=[(Y,eval a X.env),(Y,eval b X.env)]:=by rfl)(Lm:starEach [b] X.env=[(Y,eval b X.env)]:=by rfl)
  (Ng:starEach [.Call (.Name "zip" p2) [a,b] [] j_] X.env=[(Y,eval (.Call (.Name "zip" p2) [a,b] [] j_) X.env)]:=by rfl):
  PE X (.Call (.Name "list" p) [.Call (.Name "zip" p2) [a,b] [] j_] [] pos) (tLZ t u X.K ta):=by
 intro pins s σ H Q I h;refine YD (cF I gl hl pT (YN ?_ Ng (by rfl)) (by decide) (by decide));refine Calls.spliced_cons (YD (cF I gz hz boot_zip (YN (thn (ha j_ pins s σ H _ I h) λus s1 ⟨vs,H1,I1,r1,q1⟩=>?_) (by rw[hs,Lm]) (by rw[Lm];rfl)) (by decide) (by decide)));obtain⟨l1,l2,xs,ys,e,h1,h2,hm,q⟩:=q1;subst e;cases r1 with
 |cons r rr=>
  cases rr with
  |cons r' rr=>
   cases rr;cases r;cases r';obtain⟨is,ri,sp⟩:=I1.abn h1;obtain⟨js,rj,sq⟩:=I1.abn h2;refine jJ sp sq λz P O c d h' ap Z hi k=>Calls.spliced_nil ?_;have up1:aar t h' l1 is.toArray:=sp.to λo e=>k _ o e;have Qz:aar u h' l2 js.toArray:=sq.to λo e=>k _ o e;have hsz:s1.z<=h'.objs.size:=ZL (hi z (by simp)) (XH (Z1 Z.zz));refine jk (s:={s1 with heap:=h'}) (I1.ok.hd hc) ap (by simp_all [ZI,ri.length,rj.length]) (lo:=s1.z) hi hsz Z up1 Qz λh2 tk acc e' k1 k2 k3 k4=>?_;have kk:∀b o,s1.heap.get? b=U o->h2.get? b=U o:=λb o e=>k1 b o (λhm=>absurd (ZC (Z1 e) (hi b hm)) (Zv _)) (k b o e);have I2:Inv X pins σ H1 {s1 with heap:=h2,toks:=tk}:=I1.kept kk;have nw:∀T,s1.z<=T->d8 X pins H1 T:=λT hT=>I1.abg hT (I1.hok.fresh hT);obtain⟨H3,vs,i1,i2,i3,i4,i5⟩:=eK (lo:=s1.z) (is:=is) (js:=js) (X:=X) I1.sz acc.toList 0 H1 xs ys I2 k4 (λT hT=>by
    obtain⟨T',e,_,lo⟩:=k4.lt _ hT
    simp_all) (by trivial) (by trivial) (by simp[Array.length_toList,k3,ZI,ri.length,rj.length])
   have fS:=nw h'.objs.size hsz;have nS:Value.ref h'.objs.size∉acc.toList:=λhm=>by
    have key:∀(l:Z9 Z3)(i:Nat),Made h2 s1.z is.toArray js.toArray i l->∀T,.ref T∈l->∃x y,IsPair h2 T x y:=by
     intro l
     induction l with
     |nil=>simp
     |cons v l ih=>
      rintro i ⟨T',x,y,e1,e2,e3,e4,e5,e6,e7⟩ T hT
      rcases ZT.mp hT with e|hT;rw[e1]at e;cases e;exact⟨x,y,e5⟩;exact ih _ e7 T hT
    grind
   have Nv:H3 h'.objs.size=M:=by rw[i3 _ nS];exact fS.1
   have lv:=i5.length;have I4:=i1.abW (a:=h'.objs.size) (o:=.lst vs) ⟨Nv,fS.2⟩ (ZL I1.sz hsz) ⟨by simp_all [lv,Array.length_toList,k3,ZI,ri.length,rj.length],acc.toList,e',i5,by trivial⟩;have s4:=ar (o:=.lst vs) Nv;exact⟨.ref h'.objs.size,_,I4,rfl,q _ _ (i2.trans s4) fS.1 ⟨vs,ah,i4.to λT xs e=>s4 T _ e⟩⟩
end
section
variable{X:Cx}{t u:Bool}
noncomputable def gY(t u:Bool)(x y:Z8 D):Z8 D:=match BZ t u x y with|some ds=>if ds.length<=lim then U (.lst ds) else M|none=>M
theorem aa_.acm{K:Z4}{B:ZP->Prop}{H:Hp}:∀{ds es:Z9 D}{xs ys vs:Z9 V},M1 K B H ds xs->M1 K B H es ys->aa_ H xs ys vs->M1 K B H (fv ds es) vs
 |[],es,xs,ys,vs,O,Z,h=>by
  subst O
  assumption
 |d::ds,[],xs,ys,vs,O,Z,h=>by
  obtain⟨x,r,rfl,_⟩:=O;subst Z
  assumption
 |d::ds,e::es,xs,ys,vs,O,Z,h=>by
  obtain⟨x,r,rfl,q1,q2⟩:=O;obtain⟨y,r',rfl,q3,q4⟩:=Z;obtain⟨T,w,rfl,hT,z⟩:=h;exact M1.cons (by exact⟨T,[x,y],rfl,hT,M1.cons q1 (M1.cons q3 M1.nil)⟩) (aa_.acm q2 q4 z)
theorem qh(t u:Bool)(hc:X.calm=L)(gl:Gl X "list")(hl:X.mg "list"=M)(gz:Gl X "zip")(hz:X.mg "zip"=M)(h:DE X Y a fa)(h':DE X Y b fb)(hs:starEach [a,b] X.env=[(Y,eval a X.env),(Y,eval b X.env)]:=by rfl)(Z:starEach [b] X.env=[(Y,eval b X.env)]:=by rfl)(Ng:starEach [.Call (.Name "zip" p2) [a,b] [] j_] X.env=[(Y,eval (.Call (.Name "zip" p2) [a,b] [] j_) X.env)]:=by rfl):
  DF X (.Call (.Name "list" p) [.Call (.Name "zip" p2) [a,b] [] j_] [] pos) (λδ=>gY t u (fa δ) (fb δ)):=
 (qX (t:=t) (u:=u) hc gl hl gz hz (au h (au h' aM Z) (by rw[hs,Z])) hs Z Ng).imp λσ H Q hz=>by
  obtain⟨B,Hk,δ,d,R,e,k⟩:=hz;dsimp only at e;unfold gY at e;split at e
  .rename_i ds e0
   split at e
   .rename_i O
    obtain rfl:=Z7 e;obtain⟨as,q1,e⟩:=am e0;obtain⟨bs,q2,e⟩:=am e;obtain rfl:=Z7 e;obtain⟨d1,e1⟩:∃d,fa δ=U d:=by
     cases q:fa δ with
     |none=>rw[q]at q1;cases t<;>trivial
     |some d=>lia
    obtain⟨d2,e2⟩:∃d,fb δ=U d:=by
     cases q:fb δ with
     |none=>rw[q]at q2;cases u<;>trivial
     |some d=>lia
    refine two R e1 e2 λv w H' s R' r1 r2=>?_;obtain⟨l1,xs,rfl,Na,N_⟩:=da q1 e1 r1;obtain⟨l2,ys,rfl,M_,QG⟩:=da q2 e2 r2;refine⟨l1,l2,xs,ys,rfl,N_ _ Ext.refl,QG _ Ext.refl,?_,λS H2 s2 hS ⟨vs,VE,zv⟩=>?_⟩;rw[dX,Na.length,M_.length]at O;exact aF O;exact k S H2 (s.trans s2) (s.free hS) ⟨vs,VE,aa_.acm (Na.same (m:=Y) R' s2) (M_.same (m:=Y) R' s2) zv⟩
   trivial
  trivial
end
@[simp] theorem acp (z:Str)(h:z.length<=lim):Dt (U (.str z))=U (.int z.length):=by unfold Dt;simp only[ZM h]
noncomputable def leT(a b:Str):Bool:=!decide (b.cps.toList<a.cps.toList)
def t4(a b c:Str)(h1:leT a b=L)(O:leT b c=L):leT a c=L:=by
 unfold leT at*
 grind
def vp(a b:Str):(leT a b||leT b a)=L:=by
 unfold leT
 grind
def EY(a b:Str)(h1:leT a b=L)(O:leT b a=L):a=b:=by
 unfold leT at*;simp only[Bool.not_eq_true',WY]at*;exact Str.ext' (Array.toList_inj.mp (List.le_antisymm h1 O))
noncomputable def wo(ss:Z9 Str):Z9 Str:=ss.mergeSort leT
def bN(ss:Z9 Str):(wo ss).Perm ss:=List.mergeSort_perm ss leT
section
end
open PySem.StrLaws
noncomputable def sU(ss:Z9 Str):Z9 D:=(wo (uS ss)).map D.str
def C7:x∈sU ss↔x∈ss.map D.str:=by
 unfold sU;rw[((bN (uS ss)).map D.str).mem_iff];simp[ip]
def bu(x y:Str):eqO (U (.str x)) (U (.str y))=U (decide (x=y)):=by
 rw[yf _ _ rfl];congr 1;simp
noncomputable def ifV{O:Type}(c:Z8 Bool)(x y:Z8 O):Z8 O:=match c with|some true=>x|some false=>y|none=>M
noncomputable def F4(x y:Z8 D):Z8 D:=match tyB x with|some true=>y|some false=>U (.bl Y)|none=>M
noncomputable def orV(x y:Z8 D):Z8 D:=match tyB x with|some true=>U (.bl L)|some false=>y|none=>M
def neX(x:Z8 (D×iv))(fb:iv->Z8 D):Z8 (Bool×iv):=af x λp=>match neO (U p.1) (fb p.2)with|some c=>U (c,p.2)|none=>M
section
variable{X:Cx}{m mm:Bool}{a b c:Expr}{av:Z9 Expr}{fa fb:iv->Z8 D}{fc:iv->Z8 Bool}{pos:Pos}
theorem DV(O:DT X c fc)(Z:DE X mm a fa)(hb:DE X mm b fb):DE X mm (.IfExp c a b pos) (λq=>ifV (fc q) (fa q) (fb q)):=wZ O Z hb
theorem Bj(O:DE X m a fa)(hb:DE X mm (.BoolOp .And (b::av) pos) fb):DE X mm (.BoolOp .And (a::b::av) pos) (λq=>F4 (fa q) (fb q)):=EO O hb
theorem EB(O:DE X m a fa)(hb:DE X mm (.BoolOp .Or (b::av) pos) fb):DE X mm (.BoolOp .Or (a::b::av) pos) (λq=>orV (fa q) (fb q)):=Gp O hb
theorem zU(hu:X.A.units+64<cLine)(Z:DX X a ga)(hb:DE X Y b fb)(O:behindInMarks .NotEq b=Y:=by rfl):DTX X (.Compare a [.NotEq] [b] pos) (λq=>neX (ga q) fb):=B9 hu Z hb O
end
section
end
theorem AM(O:DE X mm a fa):DE X mm (.BoolOp op [a] pos) fa:=CU O rfl
end L2
namespace L2.G
open PySem
def Ris(xs:Z9 Nat):Prop:=xs.Pairwise (· < ·)
def Ris.at(h:Ris xs)(O:i<j)(Z:j<xs.length):xs[i]'(Nat.lt_trans O Z)<xs[j]:=(List.pairwise_iff_getElem.mp h) i j (Nat.lt_trans O Z) Z O
theorem iR(h:Ris xs.toList)(j:Nat):∀(fuel lo O:Nat),O - lo<=fuel->lo<=O->O<=xs.size->(∀i (Z:i<xs.size),i<lo->xs[i]<j)->(∀i (Z:i<xs.size),O<=i->j<=xs[i])->
  (∀i (Z:i<xs.size),i<SetTable.below.go xs j fuel lo O->xs[i]<j)/\(∀i (Z:i<xs.size),SetTable.below.go xs j fuel lo O<=i->j<=xs[i])/\SetTable.below.go xs j fuel lo O<=xs.size
 |0,lo,O,h1,h2,h3,h4,h5=>by
  have:lo=O:=by lia
  subst this;trivial
 |fuel+1,lo,O,h1,h2,h3,h4,h5=>by
  unfold SetTable.below.go;by_cases hl:lo<O;rw[ZM hl];have Ml:(lo+O) / 2<O:=by lia
  have OQ:lo<=(lo+O) / 2:=by lia
  have hm:(lo+O) / 2<xs.size:=by lia
  have hg:xs.getD ((lo+O) / 2) j=xs[(lo+O) / 2]:=by simp[Array.getD,hm]
  dsimp only;rw[hg];have mono:∀a b (ha:a<xs.size) (hb:b<xs.size),a<=b->xs[a]<=xs[b]:=λa b ha hb x_=>by
   rcases Nat.lt_or_eq_of_le x_ with q|q;have:=Ris.at h q (by trivial);simp only[Array.getElem_toList]at this;lia;subst q;exact ZU _
  by_cases hq:xs[(lo+O) / 2]<j;rw[ZM hq];refine iR h j fuel ((lo+O) / 2+1) O (by lia) (by lia) h3 (λi Z q=>?_) h5;exact Yb (mono i ((lo+O) / 2) Z hm (by lia)) hq;rw[ZH hq];refine iR h j fuel lo ((lo+O) / 2) (by lia) OQ (by lia) h4 (λi Z q=>?_);exact ZL (by lia) (mono ((lo+O) / 2) i hm Z q);rw[ZH hl];have:lo=O:=by lia
  subst this;exact⟨λi Z q=>h4 i Z q,λi Z q=>h5 i Z q,h3⟩
def dG(h:Ris xs.toList)(j:Nat):(∀i (O:i<xs.size),i<SetTable.below xs j->xs[i]<j)/\(∀i (O:i<xs.size),SetTable.below xs j<=i->j<=xs[i])/\SetTable.below xs j<=xs.size:=
 iR h j xs.size 0 xs.size (by lia) (Zm _) (ZU _) (λi _ q=>absurd q (Ym i)) λi O q=>absurd q (by lia)
def xa(h:Ris xs.toList)(Z:i<xs.size):SetTable.below xs xs[i]=i:=by
 obtain⟨h1,h2,h3⟩:=dG h xs[i];rcases W6 (SetTable.below xs xs[i]) i with q|q|q;have hb:SetTable.below xs xs[i]<xs.size:=by lia
 have:=h2 _ hb (ZU _);have O:=Ris.at h q (by trivial);simp only[Array.getElem_toList]at O;lia;exact q;have:=h1 i Z q;lia
def rC(h:Ris xs.toList)(Z:i<xs.size):SetTable.below xs (xs[i]+1)=i+1:=by
 obtain⟨h1,h2,h3⟩:=dG h (xs[i]+1);rcases W6 (SetTable.below xs (xs[i]+1)) (i+1)with q|q|q;have:=h2 i Z (by lia);lia;exact q;have hb:i+1<xs.size:=by lia
 have:=h1 (i+1) hb q;have O:=Ris.at h (show i<i+1 by lia) (by trivial);simp only[Array.getElem_toList]at O;lia
def qR(h:Ris xs.toList)(hj:∀i (hi:i<xs.size),xs[i]≠j):Ris (SetTable.insertAt xs (SetTable.below xs j) j).toList:=by
 obtain⟨h1,h2,h3⟩:=dG h j;rw[WE];generalize SetTable.below xs j=p at h1 h2 h3⊢;unfold Ris;rw[List.pairwise_append,XU];have ht:∀a∈xs.toList.take p,a<j:=λa Z=>by
  obtain⟨i,hi,rfl⟩:=Y_.mp Z;rw[X0]at hi;rw[List.getElem_take];have O:i<xs.size:=by have:xs.toList.length=xs.size:=Array.length_toList;lia
  have:=h1 i O (by lia);simpa using this
 have hd:∀a∈xs.toList.drop p,j<a:=λa Z=>by
  obtain⟨i,hi,rfl⟩:=Y_.mp Z;rw[List.length_drop]at hi;rw[List.getElem_drop];have O:p+i<xs.size:=by have:xs.toList.length=xs.size:=Array.length_toList;lia
  have:=h2 (p+i) O (by lia);have:=hj (p+i) O;simp only[Array.getElem_toList];lia
 refine⟨h.sublist (List.take_sublist _ _),⟨hd,h.sublist (List.drop_sublist _ _)⟩,λa Z b hb=>?_⟩;rcases ZT.mp hb with rfl|hb;exact ht a Z;exact Nat.lt_trans (ht a Z) (hd b hb)
def cR{t:SetTable}(h:Ris t.place.toList){i:Nat}(O:i<t.place.size):t.slot t.place[i]=.live i:=by
 unfold SetTable.slot;rw[xa h O];simp[O]
def ot{t:SetTable}(h:Ris t.place.toList)(hd:t.dummies=#[])(hj:∀i (hi:i<t.place.size),t.place[i]≠j):t.slot j=.empty:=by
 unfold SetTable.slot;dsimp only;have:(t.place[SetTable.below t.place j]?==U j)=Y:=by
  cases q:t.place[SetTable.below t.place j]? with
  |none=>rfl
  |some v=>
   obtain⟨hi,e⟩:=YU.mp q;have:=hj _ hi;rw[e]at this;simpa using this
 rw[this,hd];rfl
def j3{t:SetTable}{j i:Nat}(h:t.slot j=.live i):∃O:i<t.place.size,t.place[i]=j:=by
 unfold SetTable.slot at h;dsimp only at h;split at h;rename_i q;cases h;obtain⟨O,e⟩:=YU.mp (XC.mp q);exact⟨O,e⟩
 .split at h<;>cases h
noncomputable def bR(t:SetTable):Nat->SetTable.Probe->SetTable.Probe
 |0,p=>p
 |n+1,p=>bR t n (t.advance p)
def gy(t:SetTable)(n:Nat)(p:SetTable.Probe):bR t (n+1) p=t.advance (bR t n p):=by
 induction n generalizing p with
 |zero=>rfl
 |succ n ih=>show bR t (n+1) (t.advance p)=_;rw[ih];rfl
def dW(t:SetTable)(m n:Nat)(p:SetTable.Probe):bR t (m+n) p=bR t n (bR t m p):=by
 induction m generalizing p with
 |zero=>rw[Yh];rfl
 |succ m ih=>rw[Nat.succ_add];show bR t (m+n) (t.advance p)=_;rw[ih];rfl
def vc(t:SetTable)(p:SetTable.Probe):(t.advance p).dummy=p.dummy:=by
 unfold SetTable.advance;split<;>rfl
def eM(t:SetTable)(n:Nat)(p:SetTable.Probe):(bR t n p).dummy=p.dummy:=by
 induction n generalizing p with
 |zero=>rfl
 |succ n ih=>show(bR t n (t.advance p)).dummy=_;rw[ih,vc]
def yc{t u:SetTable}(h:t.mask=u.mask)(p:SetTable.Probe):t.advance p=u.advance p:=by
 unfold SetTable.advance;rw[h]
def vD(h:t.mask=u.mask)(n:Nat)(p:SetTable.Probe):bR t n p=bR u n p:=by
 induction n generalizing p with
 |zero=>rfl
 |succ n ih=>show bR t n (t.advance p)=bR u n (u.advance p);rw[yc h,ih]
def q8{t u:SetTable}(h:t.mask=u.mask)(x:Int):t.probeStart x=u.probeStart x:=by
 unfold SetTable.probeStart;rw[h]
noncomputable def aD(mask:Nat)(h:Int):Nat->Nat×Nat
 |0=>(SetTable.bits h%(mask+1),SetTable.bits h)
 |m+1=>SetTable.leap mask (aD mask h m).1 (aD mask h m).2
noncomputable def dY(mask:Nat)(b:Nat×Nat):SetTable.Probe:={j:=b.1,more:=SetTable.runEnd mask b.1 - b.1,i:=b.1,perturb:=b.2,dummy:=M}
def zr(mask i:Nat):SetTable.runEnd mask i - i<=9:=by unfold SetTable.runEnd;split<;>lia
theorem iU(t:SetTable):∀(k:Nat)(p:SetTable.Probe),k<=p.more->bR t k p={p with j:=p.j+k,more:=p.more - k}
 |0,p,_=>rfl
 |k+1,p,h=>by
  show bR t k (t.advance p)=_;have:t.advance p={p with j:=p.j+1,more:=p.more - 1}:=by unfold SetTable.advance;rw[ZM (by lia)]
  rw[this,iU t k _ (show k<=p.more - 1 by lia)];lia
def sF(t:SetTable)(b:Nat×Nat):bR t (SetTable.runEnd t.mask b.1 - b.1+1) (dY t.mask b)=dY t.mask (SetTable.leap t.mask b.1 b.2):=by
 rw[gy,iU t (SetTable.runEnd t.mask b.1 - b.1) _ (show SetTable.runEnd t.mask b.1 - b.1<=(dY t.mask b).more from ZU _)];unfold SetTable.advance dY;rw[ZH (by dsimp only;lia)]
theorem sd(t:SetTable)(h:Int):∀m:Nat,∃n,n<=10*m/\bR t n (t.probeStart h)=dY t.mask (aD t.mask h m)
 |0=>⟨0,ZU _,rfl⟩
 |m+1=>by
  obtain⟨n,Z,e⟩:=sd t h m;have O:=zr t.mask (aD t.mask h m).1;refine⟨n+(SetTable.runEnd t.mask (aD t.mask h m).1 - (aD t.mask h m).1+1),by lia,?_⟩;rw[dW,e,sF];rfl
theorem Hs(mask:Nat)(h:Int):∀m,(aD mask h m).2=SetTable.bits h / 32 ^ m
 |0=>by simp[aD]
 |m+1=>by
  show(aD mask h m).2 / 32=_;rw[Hs mask h m,Nat.div_div_eq_div_mul,Nat.pow_succ]
def Ag(h:Int):SetTable.bits h<2 ^ 64:=by unfold SetTable.bits;lia
def Fe(mask:Nat)(h:Int)(m:Nat):(aD mask h (13+m)).2=0:=by
 rw[Hs];apply Nat.div_eq_of_lt;refine ZC (Ag h) ?_
 grind
noncomputable def lcg(mask:Nat):Nat->Nat->Nat
 |0,x=>x
 |n+1,x=>(lcg mask n x*5+1)%(mask+1)
def oB(mask:Nat)(h:Int)(m:Nat):(aD mask h (13+m)).1=lcg mask m (aD mask h 13).1:=by
 induction m with
 |zero=>rfl
 |succ m ih=>
  show(SetTable.leap mask (aD mask h (13+m)).1 (aD mask h (13+m)).2).1=(lcg mask m _*5+1)%(mask+1);rw[Fe,ih];rfl
def mW(mask:Nat)(h:Int):∀m,(aD mask h m).1<mask+1
 |0=>WQ _ (Xg _)
 |m+1=>WQ _ (Xg _)
noncomputable def ER(mask:Nat):Nat->Nat->Z9 Nat
 |0,_=>[]
 |n+1,x=>x::ER mask n ((x*5+1)%(mask+1))
theorem lM(mask:Nat):∀n x,lcg mask n ((x*5+1)%(mask+1))=lcg mask (n+1) x
 |0,x=>rfl
 |n+1,x=>by
  show(lcg mask n ((x*5+1)%(mask+1))*5+1)%(mask+1)=(lcg mask (n+1) x*5+1)%(mask+1);rw[lM mask n x]
theorem pM{mask j:Nat}:∀{n x:Nat},j∈ER mask n x->∃k,k<n/\lcg mask k x=j
 |0,x,h=>by simp[ER]at h
 |n+1,x,h=>by
  rcases ZT.mp h with rfl|h;exact⟨0,Xg _,rfl⟩;obtain⟨k,O,e⟩:=pM h;exact⟨k+1,Nat.succ_lt_succ O,by rw[<-lM];exact e⟩
def nh(mask:Nat)(m n x:Nat):lcg mask (m+n) x=lcg mask m (lcg mask n x):=by
 induction m with
 |zero=>rw[Yh];rfl
 |succ m ih=>rw[Nat.succ_add];show(lcg mask (m+n) x*5+1)%(mask+1)=(lcg mask m (lcg mask n x)*5+1)%(mask+1);rw[ih]
noncomputable def fU(mask:Nat):Bool:=let l:=ER mask (mask+1) 0;((List.range (mask+1)).all λj=>l.contains j)&&lcg mask (mask+1) 0==0
theorem JB:fU 7=L:=by rfl
theorem IS:fU 31=L:=by rfl
theorem GY:fU 127=L:=by rfl
def Msk(mask:Nat):Prop:=mask=7\/mask=31\/mask=127
def Msk.cov{mask:Nat}(h:Msk mask):fU mask=L:=by
 rcases h with rfl|rfl|rfl;exact JB;rfl;rfl
def uo{mask x j:Nat}(h:Msk mask)(hx:x<mask+1)(hj:j<mask+1):∃n,n<mask+1/\lcg mask n x=j:=by
 have O:=h.cov;unfold fU at O;rw[ZQ,XC]at O;have at0:∀y,y<mask+1->∃k,k<mask+1/\lcg mask k 0=y:=λy hy=>pM (List.contains_iff_mem.mp (Z2.mp O.1 y (Zk.mpr hy)));obtain⟨k0,h0,e0⟩:=at0 x hx;obtain⟨Z,h1,e1⟩:=at0 j hj;by_cases hk:k0<=Z;refine⟨Z - k0,by lia,?_⟩;rw[<-e0,<-nh,Nat.sub_add_cancel hk,e1];refine⟨Z+(mask+1) - k0,by lia,?_⟩;rw[<-e0,<-nh,Nat.sub_add_cancel (by lia),nh,O.2,e1]
def AT{t:SetTable}(O:Msk t.mask)(h:Int){j:Nat}(Z:j<t.mask+1):∃n,n<10*SetTable.turns t.mask/\(bR t n (t.probeStart h)).j=j:=by
 obtain⟨k,hk,e⟩:=uo O (mW t.mask h 13) Z;obtain⟨n,hn,en⟩:=sd t h (13+k);refine⟨n,by unfold SetTable.turns;lia,?_⟩;rw[en];show(aD t.mask h (13+k)).1=j;rw[oB,e]
theorem jf:∀(n O:Nat)(p:SetTable.Probe),n<O->(∀m,m<n->∃i,t.slot (bR t m p).j=.live i/\(hashAt i==h)=Y)->
  (t.slot (bR t n p).j=.empty->SetTable.probe.go t hashAt h O p=U (.empty (bR t n p).j (bR t n p).dummy))/\
  (∀i,t.slot (bR t n p).j=.live i->(hashAt i==h)=L->SetTable.probe.go t hashAt h O p=U (.candidate (bR t n p).j i (t.advance (bR t n p))))
 |0,O+1,p,_,_=>by
  refine⟨λe=>?_,λi e q=>?_⟩;unfold SetTable.probe.go;rw[show t.slot p.j=.empty from e];rfl;unfold SetTable.probe.go;rw[show t.slot p.j=.live i from e];dsimp only;rw[ZM q];rfl
 |n+1,O+1,p,hn,Z=>by
  obtain⟨i,e,q⟩:=Z 0 (Xg _);have ih:=jf (hashAt:=hashAt) (h:=h) n O (t.advance p) (by lia) λm MV=>Z (m+1) (by lia);have e0:SetTable.probe.go t hashAt h (O+1) p=SetTable.probe.go t hashAt h O (t.advance p):=by
   conv=>lhs;unfold SetTable.probe.go
   rw[show t.slot p.j=.live i from e];dsimp only;rw[ZH (by lia)]
  rw[e0];exact ih
noncomputable abbrev way(t:SetTable)(h:Int)(n:Nat):Nat:=(bR t n (t.probeStart h)).j
structure Tab (t:SetTable)(hs:List Int):Prop where
 msk:Msk t.mask
 dum:t.dummies=#[]
 len:t.place.size=hs.length
 ris:Ris t.place.toList
 le:∀j∈t.place.toList,j<=t.mask
 rch:∀(i:Nat) h j,hs[i]?=some h->t.place.toList[i]?=some j->∃n,n<10*SetTable.turns t.mask/\way t h n=j/\∀m,m<n->∃k,t.slot (way t h m)=.live k
theorem Tab.fresh(f m:Nat)(l:Bool):Tab (SetTable.fresh f m l) []:=by
 refine⟨.inl rfl,rfl,rfl,List.Pairwise.nil,λj O=>absurd O (by simp[SetTable.fresh]),λi h j e=>absurd e (by simp)⟩
def Tab.slots(T:Tab t hs)(j:Nat):t.slot j=.empty\/∃k,t.slot j=.live k:=by
 by_cases h:∃i,∃O:i<t.place.size,t.place[i]=j;obtain⟨i,O,e⟩:=h;exact .inr ⟨i,by rw[<-e];exact cR T.ris O⟩;exact .inl (ot T.ris T.dum λi O e=>h ⟨i,O,e⟩)
def gap:∀(n:Nat)(xs:Z9 Nat),Ris xs->xs.length=n->∃j,j<=n/\j∉xs
 |n,xs,h,hl=>by
  by_cases q:∀i (O:i<xs.length),xs[i]=i;refine⟨n,ZU _,λm=>?_⟩;obtain⟨i,O,e⟩:=Y_.mp m;rw[q i O]at e;lia;have hex:∃i,∃O:i<xs.length,xs[i]≠i:=by
   obtain⟨i,O⟩:=Classical.not_forall.mp q;obtain⟨O,ne⟩:=Classical.not_forall.mp O;exact⟨i,O,ne⟩
  obtain⟨i,⟨O,ne⟩,Pz⟩:∃i,(∃O:i<xs.length,xs[i]≠i)/\∀k,k<i->¬∃Z:k<xs.length,xs[k]≠k:=by
   obtain⟨i,O⟩:=hex
   induction i using Nat.strongRecOn with
   |_ i ih=>
    by_cases z:∃k,k<i/\∃Z:k<xs.length,xs[k]≠k;obtain⟨k,Z,Nn⟩:=z;exact ih k Z Nn;exact⟨i,O,λk Z hh=>z ⟨k,Z,hh⟩⟩
  have MB:∀k (Z:k<xs.length),k<i->xs[k]=k:=λk Z Nl=>Yu λz=>Pz k Nl ⟨Z,z⟩;have hgt:i<xs[i]:=by
   rcases W6 i xs[i]with z|z|z;exact z;exact absurd z.symm ne;have e1:=MB xs[i] (by lia) z;have e2:=Ris.at h z O;rw[e1]at e2;lia
  refine⟨i,by lia,λm=>?_⟩;obtain⟨k,Z,e⟩:=Y_.mp m;rcases W6 k i with z|z|z;have:=MB k Z z;lia;subst z;lia;have:=Ris.at h z Z;lia
def Cy{P:Nat->Prop}(h:P n):∃m,m<=n/\P m/\∀k,k<m->¬P k:=by
 induction n using Nat.strongRecOn with
 |_ n Z=>
  by_cases z:∃k,k<n/\P k;obtain⟨k,O,pk⟩:=z;obtain⟨m,hm,r⟩:=Z k O pk;exact⟨m,by lia,r⟩;exact⟨n,ZU _,h,λk O pk=>z ⟨k,O,pk⟩⟩
def Tab.free(T:Tab t hs)(hf:t.place.size<=t.mask)(h:Int):∃n,n<10*SetTable.turns t.mask/\t.slot (way t h n)=.empty/\∀m,m<n->∃k,t.slot (way t h m)=.live k:=by
 obtain⟨j,hj,O⟩:=gap t.place.size t.place.toList T.ris (by simp);obtain⟨n,hn,e⟩:=AT T.msk h (show j<t.mask+1 by lia);have:t.slot (way t h n)=.empty:=by
  show t.slot (bR t n (t.probeStart h)).j=.empty;rw[e];exact ot T.ris T.dum λi hi q=>O (by rw[<-q];simp)
 obtain⟨m,hm,Z,e2⟩:=Cy (P:=λn=>t.slot (way t h n)=.empty) this;refine⟨m,by lia,Z,λk hk=>?_⟩;rcases T.slots (way t h k)with q|q
 .simp_all
 exact q
def b8(h:t.mask=u.mask)(x:Int)(n:Nat):way t x n=way u x n:=by
 unfold way;rw[q8 h,vD h]
def j8{O:Type}(xs:Array O)(p:Nat)(x:O):(SetTable.insertAt xs p x).size=xs.size+1:=by
 have:=(Wr xs p x).length_eq;simpa using this
def lA{O:Type}(l:Z9 O)(x:O)(hp:p<=l.length)(i:Nat):(l.take p++x::l.drop p)[i]?=if i<p then l[i]? else if i=p then U x else l[i - 1]?:=by
 by_cases h1:i<p;rw[ZM h1,Yv (by rw[X0];lia),List.getElem?_take_of_lt h1];rw[ZH h1,Xc (by rw[X0];lia),X0,Nat.min_eq_left hp];by_cases Z:i=p
 .simp_all
 rw[ZH Z];obtain⟨d,rfl⟩:∃d,i=p+1+d:=⟨i - p - 1,by lia⟩
 rw[show p+1+d - p=d+1 by lia,List.getElem?_cons_succ,List.getElem?_drop];congr 1;lia
theorem Tab.put(T:Tab t hs)(hn:n<10*SetTable.turns t.mask)(he:t.slot (way t h n)=.empty)(hw:∀m,m<n->∃k,t.slot (way t h m)=.live k)(hj:way t h n<=t.mask):
  Tab (t.put (way t h n)).1 (hs.take (t.put (way t h n)).2++h::hs.drop (t.put (way t h n)).2)/\(t.put (way t h n)).2<=hs.length:=by
 generalize hJ:way t h n=J at he hj⊢;have Vo:∀i (hi:i<t.place.size),t.place[i]≠J:=λi hi q=>by
  rw[<-q,cR T.ris hi]at he;cases he
 have hp:(t.put J).1.place=SetTable.insertAt t.place (SetTable.below t.place J) J:=rfl;have h2:(t.put J).2=SetTable.below t.place J:=rfl;have hpl:(t.put J).1.place.toList=t.place.toList.take (SetTable.below t.place J)++J::t.place.toList.drop (SetTable.below t.place J):=by rw[hp,WE]
 have hd:(t.put J).1.dummies=#[]:=by
  show(if SetTable.has t.dummies J then SetTable.eraseAt t.dummies (SetTable.below t.dummies J) else t.dummies)=#[];rw[T.dum];simp[SetTable.has]
 have hr:Ris (t.put J).1.place.toList:=by rw[hp];exact qR T.ris Vo
 have ble:=(dG T.ris J).2.2;have keep:∀j,(∃k,t.slot j=.live k)->∃k,(t.put J).1.slot j=.live k:=λj ⟨k,hk⟩=>by
  obtain⟨hi,e⟩:=j3 hk;have:j∈(t.put J).1.place.toList:=by
   rw[hp];exact(Wr _ _ _).mem_iff.mpr (by rw[<-e];simp)
  obtain⟨i,hi,e⟩:=Y_.mp this;have t_:i<(t.put J).1.place.size:=by simpa using hi
  exact⟨i,by rw[<-e];simpa using cR hr t_⟩
 have em:(t.put J).1.mask=t.mask:=rfl;have Rf:=T.len;rw[h2];refine⟨⟨T.msk,hd,?_,hr,?_,?_⟩,by lia⟩;rw[hp,j8];simp;lia;intro j OS;have:=(Wr _ _ _).mem_iff.mp OS;simp only[Xn,Zc,ZD]at this;rcases this with q|q;exact T.le j q;rw[q];exact hj;intro i h' j' Z O;rw[hpl]at O;rw[lA _ _ (by rw[<-Rf];exact ble)]at Z;rw[lA _ _ (by trivial)]at O;have old:∀k,hs[k]?=U h'->t.place.toList[k]?=U j'->∃n,n<10*SetTable.turns (t.put J).1.mask/\way (t.put J).1 h' n=j'/\∀m,m<n->∃q,(t.put J).1.slot (way (t.put J).1 h' m)=.live q:=λk q1 q2=>by
  obtain⟨n,a1,a2,a3⟩:=T.rch k h' j' q1 q2;refine⟨n,a1,by rw[b8 em];exact a2,λm hm=>?_⟩;rw[b8 em];exact keep _ (a3 m hm)
 by_cases z1:i<SetTable.below t.place J;rw[ZM z1]at Z O;exact old i Z O;rw[ZH z1]at Z O;by_cases z2:i=SetTable.below t.place J;rw[ZM z2]at Z O;cases Z;cases O;refine⟨n,hn,by rw[b8 em];exact hJ,λm hm=>?_⟩;rw[b8 em];exact keep _ (hw m hm);rw[ZH z2]at Z O;exact old (i - 1) Z O
noncomputable abbrev cE(mask:Nat):SetTable:={mask:=mask,place:=#[],dummies:=#[],finger:=0,led:=L,moves:=0,plain:=L}
noncomputable abbrev xS(mask:Nat)(h:Int)(n:Nat):Nat:=way (cE mask) h n
def Own(o:Array (Z8 Nat))(j:Nat):Prop:=∃k,o[j]?=U (U k)
def sC{mask i:Nat}(h:i<mask+1):SetTable.runEnd mask i<mask+1:=by unfold SetTable.runEnd;split<;>lia
def uN(mask i:Nat):i<=SetTable.runEnd mask i:=by unfold SetTable.runEnd;split<;>lia
def Ex(mask:Nat)(b:Nat×Nat)(k:Nat)(O:k<=SetTable.runEnd mask b.1 - b.1):(bR (cE mask) k (dY mask b)).j=b.1+k:=by
 rw[iU (cE mask) k (dY mask b) O];rfl
theorem vI{mask:Nat}{o:Array (Z8 Nat)}(hs:o.size=mask+1)(h:Int):∀(O m n:Nat),n<=10*m->bR (cE mask) n ((cE mask).probeStart h)=dY mask (aD mask h m)->(∀q,q<n->Own o (xS mask h q))->
  (∃j n',SetTable.layClean.free mask o O (aD mask h m).1 (aD mask h m).2=U j/\n'<10*(m+O)/\xS mask h n'=j/\o[j]?=U M/\∀q,q<n'->Own o (xS mask h q))\/
  (SetTable.layClean.free mask o O (aD mask h m).1 (aD mask h m).2=M/\∀k,k<O->Own o (aD mask h (m+k)).1)
 |0,m,n,_,_,_=>.inr ⟨rfl,λk hk=>absurd hk (Ym k)⟩
 |O+1,m,n,hn,e,hq=>by
  have hb:=mW mask h m;have hr:=sC hb;have hg:=uN mask (aD mask h m).1;have h9:=zr mask (aD mask h m).1;have QX:∀k,k<=SetTable.runEnd mask (aD mask h m).1 - (aD mask h m).1->xS mask h (n+k)=(aD mask h m).1+k:=λk hk=>by
   show(bR (cE mask) (n+k) ((cE mask).probeStart h)).j=_;rw[dW,e,Ex mask _ k hk]
  have own:∀k,k<=SetTable.runEnd mask (aD mask h m).1 - (aD mask h m).1->(o.getD ((aD mask h m).1+k) (U 0)).isNone=Y->Own o ((aD mask h m).1+k):=λk hk q=>by
   have d_:(aD mask h m).1+k<o.size:=by lia
   have:o.getD ((aD mask h m).1+k) (U 0)=o[(aD mask h m).1+k]:=by simp[Array.getD,d_]
   cases z:o[(aD mask h m).1+k]with
   |none=>simp_all
   |some v=>exact⟨v,by rw[Yt d_,z]⟩
  unfold SetTable.layClean.free;cases hf:(List.range (SetTable.runEnd mask (aD mask h m).1+1 - (aD mask h m).1)).find? λk=>(o.getD ((aD mask h m).1+k) (U 0)).isNone with
  |some k=>
   obtain⟨pk,as,bs,Uj,K8⟩:=List.find?_eq_some_iff_append.mp hf;have hkr:k<SetTable.runEnd mask (aD mask h m).1+1 - (aD mask h m).1:=Zk.mp (by simp_all);have has:as.length=k:=by
    have h1:(List.range (SetTable.runEnd mask (aD mask h m).1+1 - (aD mask h m).1))[as.length]?=U k:=by rw[Uj];simp
    have h2:=(ZO.mp h1)
    obtain⟨hl,e2⟩:=h2;simpa using e2
   have MB:∀q,q<k->(o.getD ((aD mask h m).1+q) (U 0)).isNone=Y:=λq hqk=>by
    have:q∈as:=by
     have h1:(List.range (SetTable.runEnd mask (aD mask h m).1+1 - (aD mask h m).1))[q]?=U q:=by rw[List.getElem?_range (by lia)]
     rw[Uj,Yv (by lia)]at h1;exact Zs h1
    simp_all
   refine .inl ⟨(aD mask h m).1+k,n+k,rfl,by lia,QX k (by lia),?_,λq VP=>?_⟩;have d_:(aD mask h m).1+k<o.size:=by lia
   simp_all
   by_cases z:q<n;exact hq q z;obtain⟨d,rfl⟩:∃d,q=n+d:=⟨q - n,by lia⟩
   rw[QX d (by lia)];exact own d (by lia) (MB d (by lia))
  |none=>
   have K8:=List.find?_eq_none.mp hf;have Z:∀k,k<=SetTable.runEnd mask (aD mask h m).1 - (aD mask h m).1->Own o ((aD mask h m).1+k):=λk hk=>own k hk (by
    have:=K8 k (Zk.mpr (by lia));exact Bool.not_eq_true _▸this)
   have PR:bR (cE mask) (n+(SetTable.runEnd mask (aD mask h m).1 - (aD mask h m).1+1)) ((cE mask).probeStart h)=dY mask (aD mask h (m+1)):=by
    rw[dW,e];exact sF (cE mask) _
   have ih:=vI hs h O (m+1) (n+(SetTable.runEnd mask (aD mask h m).1 - (aD mask h m).1+1)) (by lia) PR λq VP=>by
    by_cases z:q<n;exact hq q z;obtain⟨d,rfl⟩:∃d,q=n+d:=⟨q - n,by lia⟩
    rw[QX d (by lia)];exact Z d (by lia)
   rcases ih with⟨j,n',a1,a2,a3,a4,a5⟩|⟨a1,a2⟩;exact .inl ⟨j,n',a1,by lia,a3,a4,a5⟩;refine .inr ⟨a1,λk hk=>?_⟩;cases k with
   |zero=>exact Z 0 (by lia)
   |succ k=>
    have:=a2 k (by lia);rwa[show m+(k+1)=m+1+k by lia]
def Bz{mask:Nat}{o:Array (Z8 Nat)}(hm:Msk mask)(hs:o.size=mask+1)(h:Int){j:Nat}(hj:j<mask+1)(O:o[j]?=U M):
  ∃J n,SetTable.layClean.free mask o (SetTable.turns mask) (SetTable.bits h%(mask+1)) (SetTable.bits h)=U J/\n<10*SetTable.turns mask/\xS mask h n=J/\o[J]?=U M/\∀q,q<n->Own o (xS mask h q):=by
 rcases vI hs h (SetTable.turns mask) 0 0 (ZU _) rfl (λq hq=>absurd hq (Ym q))with⟨J,n,a1,a2,a3⟩|⟨a1,a2⟩;exact⟨J,n,a1,by lia,a3⟩;obtain⟨k,hk,e⟩:=uo hm (mW mask h 13) hj;obtain⟨v,Z⟩:=a2 (13+k) (by unfold SetTable.turns;lia);rw[Yh,oB,e,O]at Z;cases Z
structure abi (mask:Nat)(hs:List Int)(o:Array (Z8 Nat)):Prop where
 sz:o.size=mask+1
 cnt:o.toList.countP (·.isSome)=hs.length
 lt:∀(j:Nat) v,o[j]?=some (some v)->v<hs.length
 inj:∀(j j':Nat) v,o[j]?=some (some v)->o[j']?=some (some v)->j=j'
 at':∀(v:Nat) h,hs[v]?=some h->∃j n,o[j]?=some (some v)/\n<10*SetTable.turns mask/\xS mask h n=j/\∀q,q<n->Own o (xS mask h q)
def abi.nil(mask:Nat):abi mask [] (Array.replicate (mask+1) M):=by
 refine⟨by simp,?_,λj v e=>?_,λj O v e=>?_,λv h e=>by simp at e⟩;simp
 .simp_all [Array.getElem?_replicate]
 simp[Array.getElem?_replicate]
def abi.hole{mask:Nat}{hs:Z9 Int}{o:Array (Z8 Nat)}(Lq:abi mask hs o)(h:hs.length<=mask):∃j,j<mask+1/\o[j]?=U M:=by
 apply Yu;intro hn;have:∀x∈o.toList,x.isSome=L:=λx hx=>by
  obtain⟨i,hi,e⟩:=Y_.mp hx;have t_:i<o.size:=by simpa using hi
  cases x with
  |some v=>rfl
  |none=>simp_all [Lq.sz]
 have e:=List.countP_eq_length.mpr this;have e2:=Lq.cnt;have e3:=Lq.sz;rw[e]at e2;simp only[Array.length_toList]at e2;lia
def abi.step{mask:Nat}{Z:Z9 Int}{o:Array (Z8 Nat)}(hm:Msk mask)(Lq:abi mask Z o)(h:Int)(hl:Z.length<=mask):
  ∃J,SetTable.layClean.free mask o (SetTable.turns mask) (SetTable.bits h%(mask+1)) (SetTable.bits h)=U J/\abi mask (Z++[h]) (o.setIfInBounds J (U Z.length)):=by
 obtain⟨j,hj,hf⟩:=Lq.hole hl;obtain⟨J,n,a1,a2,a3,a4,a5⟩:=Bz hm Lq.sz h hj hf;obtain⟨hJ,eJ⟩:=YU.mp a4;have keep:∀(i:Nat),Own o i->Own (o.setIfInBounds J (U Z.length)) i:=λi ⟨v,hv⟩=>by
  refine⟨v,?_⟩;rw[Xh,ZH (by lia)];exact hv
 have at0:(o.setIfInBounds J (U Z.length))[J]?=U (U Z.length):=by rw[Xh,ZM rfl,ZM hJ]
 have O:∀i,i≠J->(o.setIfInBounds J (U Z.length))[i]?=o[i]?:=λi hi=>by rw[Xh,ZH (λe=>hi e.symm)]
 refine⟨J,a1,⟨by simp[Lq.sz],?_,λi v e=>?_,λi i' v e e'=>?_,λv h' e=>?_⟩⟩;rw[Array.toList_setIfInBounds,List.countP_set (by trivial),Lq.cnt]
 simp_all
 by_cases z:i=J;rw[z,at0]at e;cases e;simp;rw[O i z]at e;have:=Lq.lt i v e;simp;lia
 .by_cases z:i=J<;>by_cases z':i'=J
  rw[z,z'];rw[z,at0]at e;cases e;rw[O i' z']at e';exact absurd (Lq.lt i' _ e') (Zv _);rw[z',at0]at e';cases e';rw[O i z]at e;exact absurd (Lq.lt i _ e) (Zv _);rw[O i z]at e;rw[O i' z']at e';exact Lq.inj i i' v e e'
 by_cases z:v<Z.length;rw[Yv z]at e;obtain⟨j,n,b1,b2,b3,b4⟩:=Lq.at' v h' e;refine⟨j,n,?_,b2,b3,λq hq=>keep _ (b4 q hq)⟩;rw[O j (by lia)];exact b1;have hv:v=Z.length:=by
  have:=(ZO.mp e).1;simp at this;lia
 subst hv;simp at e;subst e;exact⟨J,n,at0,a2,a3,λq hq=>keep _ (a5 q hq)⟩
theorem oA{mask:Nat}(hm:Msk mask):∀(O pre:Z9 Int)(o:Array (Z8 Nat)),abi mask pre o->(pre++O).length<=mask->
  ∃Z,O.foldl (λ(acc:Z8 (Array (Z8 Nat)×Nat)) h=>do
   let (owner,k) <-acc
   let j <-SetTable.layClean.free mask owner (SetTable.turns mask) (SetTable.bits h%(mask+1)) (SetTable.bits h)
   pure (owner.setIfInBounds j (U k),k+1)) (U (o,pre.length))=U (Z,(pre++O).length)/\abi mask (pre++O) Z
 |[],pre,o,Lq,_=>⟨o,by simp,by simpa using Lq⟩
 |h::O,pre,o,Lq,hl=>by
  rw[YX,cn]at hl;obtain⟨J,e,L1⟩:=Lq.step hm h (by lia);obtain⟨Z,e',L'⟩:=oA hm O (pre++[h]) _ L1 (by simp;lia)
  simp_all
def Ca{mask:Nat}(Z:Msk mask)(O:Z9 Int)(hl:O.length<=mask):∃o,SetTable.layClean mask O.toArray=some o/\abi mask O o:=by
 obtain⟨o,e,Lq⟩:=oA Z O [] _ (abi.nil mask) (by trivial);unfold SetTable.layClean
 simp_all
theorem jx{q:Type}(g:Nat->Z8 q):∀l:Z9 Nat,(l.filterMap λj=>(g j).map (j,·)).map (·.1)=l.filter λj=>(g j).isSome
 |[]=>rfl
 |x::l=>by
  rw[List.filterMap_cons,List.filter_cons];cases e:g x with
  |none=>simpa using jx g l
  |some v=>simpa using jx g l
theorem ji{q:Type}(g:Nat->Z8 q):∀l:Z9 Nat,(l.filterMap λj=>(g j).map (j,·)).map (·.2)=l.filterMap g
 |[]=>rfl
 |x::l=>by
  rw[List.filterMap_cons,List.filterMap_cons];cases e:g x with
  |none=>simpa using ji g l
  |some v=>simpa using ji g l
def A6{mask:Nat}(hm:Msk mask)(hs:Z9 Int)(hl:hs.length<=mask)(finger moves:Nat)(led plain:Bool):∃t order,SetTable.laid mask finger moves led plain hs.toArray=U (t,order)/\
  order.toList.Perm (List.range hs.length)/\Tab t (order.toList.map λi=>hs.getD i 0)/\t.mask=mask/\t.led=led/\t.plain=plain/\t.place.size=hs.length:=by
 obtain⟨o,e,Lq⟩:=Ca hm hs hl;unfold SetTable.laid;rw[e];refine⟨_,_,rfl,?_⟩;have gd:∀j v,o.getD j M=U v↔o[j]?=U (U v):=λj v=>by
  by_cases h:j<o.size;simp[h];simp[h]
 generalize Me:((List.range (mask+1)).filterMap λj=>(o.getD j M).map (j,·))=live;have hf:live.map (·.1)=(List.range (mask+1)).filter λj=>(o.getD j M).isSome:=by rw[<-Me];exact jx (λj=>o.getD j M) _
 have VM:live.map (·.2)=(List.range (mask+1)).filterMap λj=>o.getD j M:=by rw[<-Me];exact ji (λj=>o.getD j M) _
 have mem:∀j v,(j,v)∈live↔o[j]?=U (U v):=λj v=>by
  rw[<-Me,XT];constructor
  .simp_all
  intro h;refine⟨j,Zk.mpr ?_,by simp_all⟩;have:=(YU.mp h).1
  simp_all [Lq.sz]
 have nd:(live.map (·.2)).Nodup:=by
  rw[VM];unfold List.Nodup;rw[List.pairwise_filterMap];refine List.Pairwise.imp ?_ (List.nodup_range (n:=mask+1));intro a b x_ x hx y hy VA;subst VA;exact x_ (Lq.inj a b x ((gd a x).mp hx) ((gd b x).mp hy))
 have perm:(live.map (·.2)).Perm (List.range hs.length):=by
  refine(YA nd List.nodup_range).mpr λv=>?_;rw[Zk];constructor;intro h;obtain⟨⟨j,u⟩,hp,rfl⟩:=ZZ.mp h;exact Lq.lt j u ((mem j u).mp hp);intro h;obtain⟨j,n,a1,_⟩:=Lq.at' v hs[v] (by simp[h]);exact ZZ.mpr ⟨(j,v),(mem j v).mpr a1,rfl⟩
 have ris:Ris (live.map (·.1)):=by
  rw[hf];exact List.Pairwise.filter _ (WN (n:=mask+1))
 have RY:live.length=hs.length:=by have:=perm.length_eq;simpa using this
 refine⟨by simpa using perm,⟨hm,rfl,?_,by simpa using ris,?_,?_⟩,rfl,rfl,rfl,by simpa using RY⟩;simp
 .grind
 intro i h j e1 e2;obtain⟨⟨j',v⟩,hp,rfl⟩:∃p,live[i]?=U p/\p.1=j:=by
  rw[Zg]at e2;cases q:live[i]? with
  |none=>simp_all
  |some p=>simp_all
 have ho:=(mem j' v).mp (Zs hp);have hv:=Lq.lt j' v ho;have eh:h=hs[v]:=by
  rw[Zg,Zg,hp]at e1;simp[hv]at e1;exact e1.symm
 subst eh;obtain⟨j2,n,b1,b2,b3,b4⟩:=Lq.at' v hs[v] (by simp[hv]);have:j2=j':=Lq.inj j2 j' v b1 ho;subst this;refine⟨n,b2,?_,λm MV=>?_⟩;exact(b8 (t:={mask:=mask,place:=(live.map (·.1)).toArray,dummies:=#[],finger:=finger,led:=led,moves:=moves,plain:=plain}) (u:=cE mask) rfl _ _).trans b3;rw[b8 (t:={mask:=mask,place:=(live.map (·.1)).toArray,dummies:=#[],finger:=finger,led:=led,moves:=moves,plain:=plain}) (u:=cE mask) rfl];obtain⟨u,hu⟩:=b4 m MV;have LC:xS mask hs[v] m∈live.map (·.1):=ZZ.mpr ⟨(_,u),(mem _ u).mpr hu,rfl⟩;obtain⟨k,hk,ek⟩:=Y_.mp LC;have Nn:k<((live.map (·.1)).toArray).size:=by simpa using hk
 have:=cR (t:={mask:=mask,place:=(live.map (·.1)).toArray,dummies:=#[],finger:=finger,led:=led,moves:=moves,plain:=plain}) (by simpa using ris) Nn
 simp_all
open PySem.Spec PyProof.Rows
variable[Lams]
def sB:∀(n:Nat)(d:D)(u:Z3)(A:Zj)(Q:Bool->ZV->Prop)(E:Z3->ZV->Prop),bf n d=L->RH s.heap d u->Q Y s->wpAny (model P w) A (ofAClassStatement n u) Q E s:=by
 intro n
 induction n using Nat.strongRecOn with
 |ind n ih=>
 intro d u A Q E hd rd hQ;cases d with
 |int i=>obtain⟨t,rfl⟩:=rd;unfold ofAClassStatement;exact Z6 hQ
 |str i=>obtain⟨t,rfl⟩:=rd;unfold ofAClassStatement;exact Z6 hQ
 |tup ds=>
  obtain⟨a,its,rfl,⟨o,ho,hc,m,Ke⟩,hr⟩:=rd;obtain⟨k,rfl,r_⟩:=cA hd;unfold ofAClassStatement;refine Z_ (XM ⟨o,ho,hc⟩ ?_);refine Z_ (Z6 ?_);refine Z_ (Y9 ho Ke ?_);dsimp only;rw[<-Xb];refine Z_ (X8 _ (λav b s'=>b.1=M/\s'=s/\∃O,O.all (bf k)=L/\RHs s.heap O av) _ ?_ ?_ _ _ ⟨rfl,rfl,ds,r_,by simpa using hr⟩);intro v av b s' hz;obtain⟨hb,rfl,O,Z,hl⟩:=hz;cases O with
  |nil=>trivial
  |cons d' H_=>
   obtain⟨v',r',e',r1,r2⟩:=hl;cases e';rw[li,ZQ]at Z;refine Z_ (ih k (by lia) d' v _ _ _ Z.1 r1 ?_);exact Z6 ⟨rfl,rfl,H_,Z.2,r2⟩
  rintro⟨b1,b2⟩ s' ⟨hb,rfl,_⟩
  subst hb;exact Z6 hQ
 |_=>simp[bf]at hd
def A2:∀(n:Nat)(d:D)(u:Z3)(A:Zj)(Q:Bool->ZV->Prop)(E:Z3->ZV->Prop),bf n d=L->RH s.heap d u->(∀b,Q b s)->wpAny (model P w) A (hashByValue n u) Q E s:=by
 intro n
 induction n using Nat.strongRecOn with
 |ind n ih=>
 intro d u A Q E hd rd hQ;cases d with
 |int i=>obtain⟨t,rfl⟩:=rd;unfold hashByValue;exact Z6 (hQ _)
 |str i=>obtain⟨t,rfl⟩:=rd;unfold hashByValue;exact Z6 (hQ _)
 |tup ds=>
  obtain⟨a,its,rfl,⟨o,ho,hc,m,Ke⟩,hr⟩:=rd;obtain⟨k,rfl,r_⟩:=cA hd;refine Z_ (Ye ⟨o,ho,hc⟩ Xj.lookup ?_);refine Z_ (Y9 ho Ke (Z_ ?_));rw[<-Xb];refine X8 _ (λav b s'=>s'=s/\∃O,O.all (bf k)=L/\RHs s.heap O av) _ ?_ ?_ _ _ ⟨rfl,ds,r_,by trivial⟩
  .intro v av b s' hz;obtain⟨rfl,O,Z,hl⟩:=hz
   cases O with
   |nil=>trivial
   |cons d' H_=>
    obtain⟨v',r',e',r1,r2⟩:=hl;cases e';rw[li,ZQ]at Z;refine Z_ (ih k (by lia) d' v _ _ _ Z.1 r1 λb=>?_);cases b with
    |true=>
     exact Z6 ⟨rfl,H_,Z.2,r2⟩
    |false=>
     exact Z6 (by first|exact Z6 (hQ _)|exact hQ _|exact rfl)
  .rintro⟨b1,b2⟩ s' ⟨rfl,_⟩
   cases b1<;>exact Z6 (hQ _)
 |_=>simp[bf]at hd
theorem Tab.fits(T:Tab t hs)(O:t.place.size<=t.mask):t.fits hs.length=L:=by
 unfold SetTable.fits SetTable.fill
 simp_all [T.dum,T.len,O]
def Tab.odd(T:Tab t hs):t.gaveWay=Y:=by
 unfold SetTable.gaveWay;rcases T.msk with h|h|h<;>rw[h]<;>rfl
section
variable{s:ZV}{es:Z9 (Int×Z3)}{hx:Int}
def gF(ho:s.heap.get? a=U o)(hd:o.data=.set es.toArray ep t)(T:Tab t (es.map (·.1)))(hf:t.place.size<=t.mask)(O9:Z3->Bool)(hrefs:∀e∈es,∃b,e.2=.ref b)(heq:∀e∈es,e.1=hx->SeqAt.EqAt A s e.2 x (O9 e.2))(N2:∀l:Z9 Z3,(∀y∈l,∃e∈es,e.2=y)->∀Q:Bool->ZV->Prop,Q Y s->wpAny (model prog w) A (searchCouldBeSeen x l) Q E s)(hN:N<10*SetTable.turns t.mask)(hw:∀m,m<N->∃k,t.slot (way t hx m)=.live k)(NQ:(t.slot (way t hx N)=.empty/\(∀e∈es,e.1=hx->O9 e.2=Y)/\Q (.free (way t hx N) Y) s)\/(∃i e,t.slot (way t hx N)=.live i/\es[i]?=U e/\e.1=hx/\O9 e.2=L)/\Q (.there M) s)(N0:(∃e∈es,e.1=hx/\O9 e.2=L)->Q (.there M) s):
  ∀(fuel m:Nat)(st:Z8 SetTable.Probe),m<=N->N - m<fuel->st.getD (t.probeStart hx)=bR t m (t.probeStart hx)->wpAny (model prog w) A (setSearchFrom a x hx L fuel st) Q E s:=by
 intro fuel
 induction fuel with
 |zero=>lia
 |succ fuel ih=>
  intro m st hm hfu n_;have Kn:t.fits es.toArray.size=L:=by simpa using T.fits hf
  refine Z_ (YL ho hd Kn ?_);dsimp only;rw[T.odd];simp only[ZE,YO];rw[n_]
  let hashAt:Nat->Int:=λi=>(es.toArray[i]?.map (·.1)).getD 0
  have Ot:∀i e,es[i]?=U e->hashAt i=e.1:=λi e h=>by show(es.toArray[i]?.map (·.1)).getD 0=_;simp[h]
  have SJ:t.slot (way t hx N)=.empty\/∃i,t.slot (way t hx N)=.live i/\(hashAt i==hx)=L:=by
   rcases NQ with⟨h,_⟩|⟨⟨i,e,h1,h2,h3,_⟩,_⟩;exact .inl h;exact .inr ⟨i,h1,by rw[Ot i e h2,h3];lia⟩
  obtain⟨n,hn,tell,before⟩:=Cy (P:=λk=>t.slot (way t hx (m+k))=.empty\/∃i,t.slot (way t hx (m+k))=.live i/\(hashAt i==hx)=L) (n:=N - m) (by simp_all);have Sw:∀k,(bR t k (bR t m (t.probeStart hx))).j=way t hx (m+k):=λk=>by rw[<-dW]
  have live:∀k,k<n->∃i,t.slot (way t hx (m+k))=.live i:=λk hk=>hw (m+k) (by lia);obtain⟨RC,go2⟩:=jf (t:=t) (hashAt:=hashAt) (h:=hx) n (10*SetTable.turns t.mask) (bR t m (t.probeStart hx)) (by lia) λk hk=>by
   obtain⟨i,hi⟩:=live k hk;refine⟨i,by simp_all,?_⟩;cases q:(hashAt i==hx)with
   |false=>rfl
   |true=>exact absurd (.inr ⟨i,hi,q⟩) (before k hk)
  rw[Sw]at RC go2;have SG:(bR t n (bR t m (t.probeStart hx))).dummy=M:=by rw[eM,eM];rfl
  rw[SG]at RC;rcases tell with te|⟨i,ti,hi⟩
  .-- an empty one:it is the last
   have VY:m+n=N:=by
    rcases WO (m+n) N with z|z;obtain⟨k,hk⟩:=hw (m+n) z;lia;lia
   have hp:∀f:Nat->Int,f=hashAt->t.probe f hx (bR t m (t.probeStart hx))=U (.empty (way t hx (m+n)) M):=λf e=>by rw[e];exact RC te
   rw[hp]
   rotate_left
   rfl;rcases NQ with⟨_,_,h⟩|⟨⟨i,e,h1,_⟩,_⟩;rw[VY];exact Z6 h;lia
  .have hp:∀f:Nat->Int,f=hashAt->t.probe f hx (bR t m (t.probeStart hx))=U (.candidate (way t hx (m+n)) i (t.advance (bR t n (bR t m (t.probeStart hx))))):=λf e=>by rw[e];exact go2 i ti hi
   rw[hp]
   rotate_left
   rfl;obtain⟨Ri,hpl⟩:=j3 ti;have Rj:i<es.length:=by have:=T.len;simp at this;lia
   have Ro:es[i]?=U es[i]:=by simp[Rj]
   have hh:es[i].1=hx:=by
    have:=Ot i _ Ro;rw[this]at hi;exact XC.mp hi
   have LC:es[i]∈es:=YF Rj;obtain⟨b,hb⟩:=hrefs _ LC;have tail:wpAny (model prog w) A (do
     let some (_,y):=es.toArray[i]?|unsupported "internal:set-entry"
     let equal <-holding [y] (eqBool y x)
     let (es',_,t') <-setState a
     if L&&equal then return .there M
     let some same:=t'.sameMemory t.moves t.mask|unsupported "set.changed-during-lookup:is-the-new-block-at-the-old-address"
     let PJ <-match(if same then t'.slot (way t hx (m+n)) else .empty)with
      |.live i'=>match es'[i']? with
       |some (_,y')=>do pure (if <-isSame y' y then U i' else M)
       |none=>pure M
      |_=>pure M
     match PJ with
     |none=>rule "set.search.anew";setSearchFrom a x hx L fuel M
     |some i'=>if equal then return .there (U i') else setSearchFrom a x hx L fuel (U (t.advance (bR t n (bR t m (t.probeStart hx)))))) Q E s:=by
    have e1:es.toArray[i]?=U es[i]:=by simp[Rj]
    rw[e1];dsimp only;refine Z_ (Zl (heq _ LC hh _ _ _ _ ?_));refine Z_ (YL ho hd Kn ?_);dsimp only;cases hq:O9 es[i].2 with
    |true=>
     exact Z6 (N0 ⟨_,LC,hh,hq⟩)
    |false=>
     have sm:t.sameMemory t.moves t.mask=U L:=by unfold SetTable.sameMemory;rw[ZM (X1 _)]
     rw[sm];simp only[YB];rw[ti];dsimp only;rw[e1];dsimp only;rw[hb];have e3:isSame (.ref b) (.ref b)=pure L:=by unfold isSame;dsimp only;rw[ZM (X1 _)]
     rw[e3];have h1:m+n+1<=N:=by
      rcases WO (m+n) N with z|z;lia;have zN:m+n=N:=by lia
      rcases NQ with⟨h,_⟩|⟨⟨i',e,h1,h2,h3,h4⟩,_⟩;lia;lia
     refine ih (m+n+1) _ h1 (by lia) ?_;simp[dW,gy]
   cases Km:t.led with
   |true=>
    assumption
   |false=>
    refine Z_ (N2 _ (λy hy=>?_) _ ?_);obtain⟨e,he,rfl⟩:=ZZ.mp hy;refine⟨e,?_,rfl⟩;have:e∈(es.toArray.filter λz=>z.1==hx).toList:=he;simp at this;exact this.1
    assumption
end
def aaJ(h:Heap)(a:ZP)(es:Z9 (Int×Z3))(led:Bool):Prop:=
 ∃o ep t,h.get? a=U o/\o.ExactSet/\o.data=.set es.toArray ep t/\Tab t (es.map (·.1))/\t.place.size*5<t.mask*3/\t.led=led
theorem Tab.plain(T:Tab t hs)(b:Bool):Tab {t with plain:=b} hs:=by
 refine⟨T.msk,T.dum,T.len,T.ris,T.le,λi h j e1 Z=>?_⟩;obtain⟨n,a1,a2,a3⟩:=T.rch i h j e1 Z;refine⟨n,a1,(b8 (t:={t with plain:=b}) (u:=t) rfl _ _).trans a2,λm O=>?_⟩;rw[b8 (t:={t with plain:=b}) (u:=t) rfl];exact a3 m O
def pN{es:Z9 (Int×Z3)}{order:Z9 Nat}(h:order.Perm (List.range es.length)):(order.filterMap (es[·]?)).Perm es/\(order.filterMap (es[·]?)).map (·.1)=order.map λi=>(es.map (·.1)).getD i 0:=by
 refine⟨?_,?_⟩;have h1:=h.filterMap (es[·]?)
 simp_all [List.filterMap_getElem?_range_length]
 have hl:∀i∈order,i<es.length:=λi O=>Zk.mp (h.mem_iff.mp O);clear h
 induction order with
 |nil=>rfl
 |cons i order Z=>
  simp_all
section
variable{prog:Za}{w:Y1}{A:Zj}{E:Z3->ZV->Prop}{s:ZV}{a:ZP}
theorem wy(a:ZP)(wanted:Nat):setRelay a wanted=(do
  let (es,_,t) <-setState a
  if SetTable.sizeAbove wanted>sizeLine then unsupported "set:memory"
  let (es,t) <-(do
   let some (t,order):=t.relaid (es.map (·.1)) wanted|unsupported "internal:set-table-without-room"
   let es':=order.filterMap (es[·]?)
   if es'.size != es.size then unsupported "internal:set-table-lost-an-element"
   pure (es',t))
  storeSet a es t):=rfl
def dQ{h:Heap}(O:h.get? a=U o)(hd:o.data=.set es ep t):(h.update a (Obj.putSet es' t')).get? a=U {o with data:=.set es' (ep+1) t'}:=by
 have:=Zz (Obj.putSet es' t') O (by rw[putSet_of es' t' hd];rfl);rw[putSet_of es' t' hd]at this;exact this
def Dz{t:SetTable}{p:SetTable.Probe}(h:p.j+p.more<=t.mask):(t.advance p).j+(t.advance p).more<=t.mask:=by
 unfold SetTable.advance;split;dsimp only;lia;unfold SetTable.leap;dsimp only;have h1:(p.i*5+1+p.perturb / 32)%(t.mask+1)<t.mask+1:=WQ _ (Xg _);have:=sC h1;have:=uN t.mask ((p.i*5+1+p.perturb / 32)%(t.mask+1));lia
def CK(t:SetTable)(hx:Int)(n:Nat):∃m,m<=t.mask/\way t hx n=m:=by
 have:∀n,(bR t n (t.probeStart hx)).j+(bR t n (t.probeStart hx)).more<=t.mask:=λn=>by
  induction n with
  |zero=>
   show(t.probeStart hx).j+(t.probeStart hx).more<=t.mask;unfold SetTable.probeStart;dsimp only;have h1:SetTable.bits hx%(t.mask+1)<t.mask+1:=WQ _ (Xg _);have:=sC h1;have:=uN t.mask (SetTable.bits hx%(t.mask+1));lia
  |succ n ih=>rw[gy];exact Dz ih
 exact⟨_,by have:=this n;show(bR t n (t.probeStart hx)).j<=t.mask;lia,rfl⟩
def o9(T:Tab t (es.map (·.1)))(hg:t.mask*3<=es.length*5)(hl:es.length*5<t.mask*3+5)(O4:es.length<=76):∃(O:Z9 (Int×Z3))(Z:SetTable)(order:Array Nat),t.relaid (es.toArray.map (·.1)) (SetTable.grown es.length)=U (Z,order)/\SetTable.sizeAbove (SetTable.grown es.length)<=128/\
  order.filterMap (es.toArray[·]?)=O.toArray/\order.toList.Perm (List.range es.length)/\O.Perm es/\Tab Z (O.map (·.1))/\Z.place.size*5<Z.mask*3/\Z.led=t.led:=by
 obtain⟨m,e2,e3,e4⟩:∃m,SetTable.sizeAbove (SetTable.grown es.length)=m+1/\Msk m/\es.length*5<m*3:=by
  rcases T.msk with z|z|z;have h5:es.length=5:=by lia
  exact⟨31,by rw[h5];decide,.inr (.inl rfl),by lia⟩;have h5:es.length=19:=by lia
  exact⟨127,by rw[h5];decide,.inr (.inr rfl),by lia⟩;lia
 obtain⟨t',order,q1,q2,q3,q4,q5,q6,q7⟩:=A6 e3 (es.map (·.1)) (by simp;lia) t.finger (t.movedTo m) t.led t.plain;rw[ZW]at q2 q7;obtain⟨p1,p2⟩:=pN q2;refine⟨order.toList.filterMap (es[·]?),t',order,?_,by rcases e3 with h|h|h<;>lia,by apply Array.ext';simp,q2,p1,by rw[p2];exact q3,by rw[q7,q4];exact e4,q5⟩;unfold SetTable.relaid
 simp_all
def yu(Z:s.heap.get? a=U o)(hex:o.ExactSet)(hd:o.data=.set es.toArray ep t)(T:Tab t (es.map (·.1)))(hf:t.place.size<=t.mask)(hg:t.mask*3<=es.length*5)(hl:es.length*5<t.mask*3+5)(O4:es.length<=76)(h:∀es' t',es'.Perm es->aaJ (s.heap.update a (Obj.putSet es'.toArray t')) a es' t.led->Q () {s with heap:=s.heap.update a (Obj.putSet es'.toArray t')}):
  wpAny (model prog w) A (setRelay a (SetTable.grown es.length)) Q E s:=by
 obtain⟨Ny,t2,order,e1,e2,e3,e4,p1,e5,e6,e7⟩:=o9 T hg hl O4;have O:=p1.length_eq;rw[wy];refine Z_ (YL Z hd (by simpa using T.fits hf) ?_);dsimp only;rw[ZH (by rw[X_];lia),e1];dsimp only;rw[e3,show(Ny.toArray.size != es.toArray.size)=Y by simp[O]];exact Z_ (Z6 (WL Z hd (h _ t2 p1 ⟨_,ep+1,t2,dQ Z hd,hex,rfl,e5,e6,e7⟩) (by rw[X_];simp[O];lia)))
def sr(T:Tab t (es.map (·.1)))(hn:n<10*SetTable.turns t.mask)(he:t.slot (way t hx n)=.empty)(Z:∀m,m<n->∃k,t.slot (way t hx m)=.live k)(x:Z3):∃(t1:SetTable)(p:Nat)(O:Z9 (Int×Z3)),t.put (way t hx n)=(t1,p)/\t1.mask=t.mask/\t1.led=t.led/\
  SetTable.insertAt es.toArray p (hx,x)=O.toArray/\O.Perm ((hx,x)::es)/\Tab t1 (O.map (·.1)):=by
 obtain⟨m,hm,e⟩:=CK t hx n;refine⟨_,_,es.take _++(hx,x)::es.drop _,rfl,rfl,rfl,Array.ext' (by rw[WE]),?_,?_⟩;have:=List.perm_middle (a:=(hx,x)) (l₁:=es.take (t.put (way t hx n)).2) (l₂:=es.drop (t.put (way t hx n)).2);rwa[List.take_append_drop]at this;rw[Y7,Z0,List.map_take,List.map_drop];exact(T.put hn he Z (by lia)).1
def Tab.full(T:Tab t hs):t.tooFull=decide (t.place.size*5>=t.mask*3):=by
 unfold SetTable.tooFull SetTable.fill;rw[T.dum];rfl
def we{es:Z9 (Int×Z3)}{n:Nat}{Q:Bool->ZV->Prop}(ho:s.heap.get? a=U o)(hex:o.ExactSet)(hd:o.data=.set es.toArray ep t)(T:Tab t (es.map (·.1)))(hf:t.place.size*5<t.mask*3)(M3:es.length<=75)(hn:n<10*SetTable.turns t.mask)(he:t.slot (way t hx n)=.empty)(hw:∀m,m<n->∃k,t.slot (way t hx m)=.live k)(Ru:∀R:Bool->ZV->Prop,(∀b,R b s)->wpAny (model prog w) A (hashByValue 8 x) R E s){J:Nat}(hJ:way t hx n=J)(h:∀h' es',Heap.SameBut a s.heap h'->es'.Perm ((hx,x)::es)->aaJ h' a es' t.led->Q L {s with heap:=h'}):
  wpAny (model prog w) A (do
   let (es,_,t) <-setState a
   let (t,p):=t.put J
   let byValue <-if t.plain then hashByValue 8 x else pure L
   let t:=if byValue then t else{t with plain:=Y}
   storeSet a (SetTable.insertAt es p (hx,x)) t
   if !Y&&t.tooFull then setRelay a (SetTable.grown (es.size+1))
   return L) Q E s:=by
 subst hJ;have hl:=T.len;rw[ZW]at hl;refine Z_ (YL ho hd (by simpa using T.fits (by lia)) ?_);dsimp only;obtain⟨t1,p,O,Mx,Ml,K5,ei,Z,T1⟩:=sr T hn he hw x;have Lh:=Z.length_eq;rw[cn]at Lh;rw[Mx];dsimp only;rw[ei];have core:∀tb:SetTable,Tab tb (O.map (·.1))->tb.mask=t.mask->tb.led=t.led->wpAny (model prog w) A (do
   storeSet a O.toArray tb
   if(!Y&&tb.tooFull)=L then do
     setRelay a (SetTable.grown (es.toArray.size+1))
     pure L
    else pure L) Q E s:=λtb Tb mb lb=>by
  have QQ:=Tb.len;rw[ZW]at QQ;refine Z_ (WL ho hd ?_ (by rw[X_];simp[Lh];lia));have n_:=dQ (es':=O.toArray) (t':=tb) ho hd;have Ll:Heap.SameBut a s.heap (s.heap.update a (Obj.putSet O.toArray tb)):=Zn s.heap a _;have tf:=Tb.full;cases KY:tb.tooFull with
  |false=>
   rw[KY]at tf;have:=Yc tf.symm;exact Z6 (h _ O Ll Z ⟨_,ep+1,tb,n_,hex,rfl,Tb,by lia,lb⟩)
  |true=>
   rw[KY]at tf;have Nq:=Zy tf.symm;rw[ZI,<-Lh];refine Z_ (yu (s:={s with heap:=s.heap.update a (Obj.putSet O.toArray tb)}) (o:={o with data:=.set O.toArray (ep+1) tb}) n_ hex rfl Tb (by lia) (by lia) (by lia) (by lia) λNy t2 p2 S2=>?_);rw[lb]at S2;exact Z6 (h _ Ny (Ll.trans (Zn _ a _)) (p2.trans Z) S2)
 cases hpl:t1.plain with
 |true=>
  exact Z_ (Ru _ λb=>by cases b;exact core _ (T1.plain Y) Ml K5;exact core _ T1 Ml K5)
 |false=>
  simp only[ZE,YO];exact Z_ (Z6 (core _ T1 Ml K5))
end
section
def zT(S:aaJ s.heap a es led)(M3:es.length<=75)(O:Z3->Bool)(hrefs:∀e∈es,∃b,e.2=.ref b)(heq:∀e∈es,e.1=hx->SeqAt.EqAt A s e.2 (.ref b) (O e.2))(himp:∀e∈es,O e.2=L->e.1=hx)(Z:∀l:Z9 Z3,(∀y∈l,∃e∈es,e.2=y)->∀Q:Bool->ZV->Prop,Q Y s->wpAny (model prog w) A (searchCouldBeSeen (.ref b) l) Q E s)(Ru:∀R:Bool->ZV->Prop,(∀b,R b s)->wpAny (model prog w) A (hashByValue 8 (.ref b)) R E s)(h1:(∃e∈es,O e.2=L)->Q Y s)(h2:(∀e∈es,O e.2=Y)->∀h' es',Heap.SameBut a s.heap h'->es'.Perm ((hx,.ref b)::es)->aaJ h' a es' led->Q L {s with heap:=h'}):
  wpAny (model prog w) A (setAddHashed a (.ref b) hx) Q E s:=by
 obtain⟨o,ep,t,ho,hex,hd,T,hf,Km⟩:=S;have hl:=T.len;rw[ZW]at hl;have Nr:t.place.size<=t.mask:=by lia
 have Kn:t.fits es.toArray.size=L:=by simpa using T.fits Nr
 refine Zl (Z_ (YL ho hd Kn ?_));dsimp only;have hbs:byScan (.ref b) es.toArray=Y:=by unfold byScan Value.scannable;rfl
 by_cases Pq:∃e∈es,O e.2=L
 .obtain⟨e,Qm,Qn⟩:=Pq
  obtain⟨i,hi,rfl⟩:=Y_.mp Qm;have hh:=himp _ Qm Qn;have MW:i<t.place.size:=by lia
  obtain⟨N,n1,n2,n3⟩:=T.rch i es[i].1 t.place[i] (by simp[hi]) (by simp[MW]);rw[hh]at n2 n3;refine Z_ (gF ho hd T Nr O hrefs heq Z n1 n3 (.inr ⟨⟨i,es[i],by rw[n2];exact cR T.ris MW,by simp[hi],hh,Qn⟩,?_⟩) (λ_=>?_) 100000 0 M (Zm _) ?_ rfl);exact Z6 (h1 ⟨_,Qm,Qn⟩);exact Z6 (h1 ⟨_,Qm,Qn⟩)
  .have:SetTable.turns t.mask<=142:=by unfold SetTable.turns;rcases T.msk with z|z|z<;>lia
   lia
 .have Ln:∀e∈es,O e.2=Y:=λe he=>by
   grind
  obtain⟨N,n1,n2,n3⟩:=T.free Nr hx;refine Z_ (gF ho hd T Nr O hrefs heq Z n1 n3 (.inl ⟨n2,λe he _=>Ln e he,?_⟩) (λ⟨e,he,_,q⟩=>absurd ⟨e,he,q⟩ Pq) 100000 0 M (Zm _) ?_ rfl);exact we ho hex hd T hf M3 n1 n2 n3 Ru rfl λh' es' k p S'=>h2 Ln h' es' k p (Km▸S')
  .have:SetTable.turns t.mask<=142:=by unfold SetTable.turns;rcases T.msk with z|z|z<;>lia
   lia
def nz(T:Tab t hs)(O:n<10*SetTable.turns t.mask)(he:t.slot (way t hx n)=.empty)(Z:∀m,m<n->∃k,t.slot (way t hx m)=.live k):
  t.freeSlot hx=U (way t hx n,Y):=by
 unfold SetTable.freeSlot;have:=(jf (t:=t) (hashAt:=λ_=>hx+1) (h:=hx) n (10*SetTable.turns t.mask) (t.probeStart hx) O λm hm=>by
  grind).1 he
 have e:t.probe (λ_=>hx+1) hx (t.probeStart hx)=U (.empty (way t hx n) M):=by
  unfold SetTable.probe;rw[this,eM];rfl
 rw[e];rfl
def wX(S:aaJ s.heap a es led)(M3:es.length<=75)(MC:(aI prog w).is k x=L)(Qc:x.scannable=L)(Rp:ElemsOf (aI prog w) es)(h1:(∃e∈es,(aI prog w).is k e.2=L)->Q Y s)(h2:(∀e∈es,(aI prog w).is k e.2=Y)->∀h' es',Heap.SameBut a s.heap h'->es'.Perm (((aI prog w).hash k,x)::es)->aaJ h' a es' led->Q L {s with heap:=h'}):
  wpAny (model prog w) A (setAddHashed a x ((aI prog w).hash k)) Q E s:=by
 obtain⟨o,ep,t,ho,hex,hd,T,hf,Km⟩:=S;have hl:=T.len;rw[ZW]at hl;have Nr:t.place.size<=t.mask:=by lia
 have Kn:t.fits es.toArray.size=L:=by simpa using T.fits Nr
 have PD:ElemsOf (aI prog w) es.toArray.toList:=by simpa using Rp
 unfold setAddHashed setAddHashedIn;refine Zl (Z_ (YL ho hd Kn ?_));dsimp only;rw[byScan_of Qc (by unfold scanBound;simp;lia) PD];simp only[↓reduceIte];unfold setAddByScan;refine Z_ ?_;refine Z_ (YE ?_);refine Z_ (wpAny_setScan_of MC ho hd Kn PD ?_);cases hr:List.findIdx? (λe=>(aI prog w).is k e.2) es.toArray.toList with
 |some j=>
  dsimp only;obtain⟨hj,VR,_⟩:=List.findIdx?_eq_some_iff_getElem.mp hr;refine Z6 (Z6 (h1 ⟨es[j]'(by simpa using hj),YF _,by simpa using VR⟩))
 |none=>
  dsimp only;have Ln:∀e∈es,(aI prog w).is k e.2=Y:=λe he=>List.findIdx?_eq_none_iff.mp hr e (by simpa using he);obtain⟨n,n1,n2,n3⟩:=T.free Nr ((aI prog w).hash k);generalize hhx:(aI prog w).hash k=hx at n1 n2 n3 h2⊢;obtain⟨t1,p,O,Mx,Ml,K5,ei,Z,T1⟩:=sr T n1 n2 n3 x;have Lh:=Z.length_eq;rw[cn]at Lh;have Ob:=T1.len;rw[ZW]at Ob;have SF:layNew t es.toArray hx x=(O.toArray,t1,Y,Y):=by
   unfold layNew;rw[nz T n1 n2 n3];dsimp only;rw[Mx];dsimp only;rw[ei];unfold SetTable.orStandIn;rw[show t1.fits O.toArray.size=L by simpa using T1.fits (by lia)];rfl
  rw[SF];dsimp only;refine Z_ (Z6 ?_);have core:∀tb:SetTable,Tab tb (O.map (·.1))->tb.mask=t.mask->tb.led=t.led->wpAny (model prog w) A (do
    storeSet a O.toArray tb
    if(!Y&&tb.tooFull)=L then do
      (match(relayAll tb O.toArray (SetTable.grown O.toArray.size)).2.2 with|true=>rule "set.scan.the-table-gave-way"|false=>pure ())
      storeSet a (relayAll tb O.toArray (SetTable.grown O.toArray.size)).1 (relayAll tb O.toArray (SetTable.grown O.toArray.size)).2.1
      pure (U L)
     else pure (U L)) (λr s'=>wpAny (model prog w) A (match r with|some added=>pure added|none=>setAddHashedIn a x hx 99999) Q E s') E s:=λtb Tb mb lb=>by
   have QQ:=Tb.len;rw[ZW]at QQ;refine Z_ (WL ho hd ?_ (by rw[X_];simp[Lh];lia));have n_:=dQ (es':=O.toArray) (t':=tb) ho hd;have Ll:Heap.SameBut a s.heap (s.heap.update a (Obj.putSet O.toArray tb)):=Zn s.heap a _;have tf:=Tb.full;cases KY:tb.tooFull with
   |false=>
    simp only[Xo,Bool.and_false,ZE,YO];rw[KY]at tf;have:=Yc tf.symm;exact Z6 (Z6 (h2 Ln _ O Ll Z ⟨_,ep+1,tb,n_,hex,rfl,Tb,by lia,lb.trans Km⟩))
   |true=>
    simp only[Xo,YC,YB];rw[KY]at tf;have Nq:=Zy tf.symm;obtain⟨Ny,t2,order,e1,e2,e3,e4,p1,e5,e6,e7⟩:=o9 Tb (by lia) (by lia) (by lia);have c2:=e5.fits (by lia);rw[ZW]at c2;have er:relayAll tb O.toArray (SetTable.grown O.toArray.size)=(Ny.toArray,t2,Y):=by
     unfold relayAll;rw[ZI,e1];dsimp only;rw[e3,show coversAll order O.length=L by unfold coversAll;rw[List.isPerm_iff];exact e4,show t2.fits Ny.toArray.size=L by simpa using c2];rfl
    rw[er];refine Z_ (Z6 ?_);refine Z_ (WL (s:={s with heap:=s.heap.update a (Obj.putSet O.toArray tb)}) (o:={o with data:=.set O.toArray (ep+1) tb}) n_ rfl ?_ (by rw[X_];have:=p1.length_eq;simp[this,Lh];lia));exact Z6 (Z6 (h2 Ln _ Ny (Ll.trans (Zn _ a _)) (p1.trans Z) ⟨_,ep+2,t2,dQ (o:={o with data:=.set O.toArray (ep+1) tb}) n_ rfl,hex,rfl,e5,e6,e7.trans (lb.trans Km)⟩))
  split;refine Z_ ?_;rw[hashByValue_scannable 8 Qc];refine Z6 ?_;cases plainKind x with
  |true=>exact core _ T1 Ml K5
  |false=>exact core _ (T1.plain Y) Ml K5
  exact Z_ (Z6 (core _ T1 Ml K5))
end
noncomputable def scD:D->Bool
 |.int _=>L
 |.str _=>L
 |_=>Y
abbrev El:=D×V×Z3
structure aaQ (K:Z4)(B:ZP->Prop)(H:Hp)(sc:Bool)(t:El):Prop where
 rep:Rep K B H t.1 t.2.1
 rel:RelV t.2.1 t.2.2
 has:bf 8 t.1=true
 sc:scD t.1=sc
noncomputable abbrev elE(w:Y1)(t:El):Int×Z3:=(fu w t.1,t.2.2)
def bE{α β:Type}(f:α->β):∀{Z O:Z9 β},Z.Perm O->∀l:Z9 α,O=l.map f->∃l':Z9 α,l'.Perm l/\Z=l'.map f:=by
 intro Z O p
 induction p with
 |nil=>simp
 |cons x p ih=>
  intro l h;cases l with
  |nil=>cases h
  |cons a l=>
   simp only[Z0,X7]at h;obtain⟨l',p',e'⟩:=ih l h.2;exact⟨a::l',List.Perm.cons a p',by rw[Z0,h.1,e']⟩
 |swap x y l0=>
  intro l h;cases l with
  |nil=>cases h
  |cons a l=>
   cases l with
   |nil=>cases h
   |cons b l=>
    simp only[Z0,X7]at h;exact⟨b::a::l,List.Perm.swap a b l,by rw[Z0,Z0,h.1,h.2.1,h.2.2]⟩
 |trans p q QZ QY=>
  intro l h;obtain⟨O,p2,e2⟩:=QY l h;obtain⟨Z,p1,e1⟩:=QZ O e2;exact⟨Z,p1.trans p2,e1⟩
section
variable{X:Cx}{pins:Z9 (ZP×Obj)}{σ:St}{H:Hp}{s:ZV}{B:ZP->Prop}{A:Zj}{E:Z3->ZV->Prop}{a:ZP}{sc led:Bool}
theorem aaQ.raw(h:aaQ X.K B H sc t)(I:Inv X pins σ H s):RH s.heap t.1 t.2.2:=KR.raw I.hok (Rep.key h.has h.rep) h.rel
def oh(h:aaQ X.K B H Y t):∃b,t.2.1=.ref b/\t.2.2=.ref b:=by
 obtain⟨d,x,u⟩:=t;have r:=h.rep;have q:=h.rel;have O:=h.sc;have Z:=h.has;cases d with
 |tup ds=>
  obtain⟨b,xs,rfl,_⟩:=r;exact⟨b,rfl,q⟩
 |int i=>cases O
 |str i=>cases O
 |_=>simp[bf]at Z
noncomputable def qK:D->Key
 |.int i=>.inl i
 |.str x=>.inr x
 |_=>.inl 0
def uF(h:scD d=L)(h':scD e=L)(q:qK d=qK e):d=e:=by
 cases d<;>cases e<;>simp_all [scD,qK]
def AH(h:aaQ X.K B H L t):(aI X.prog X.w).is (qK t.1) t.2.2=L/\t.2.2.scannable=L/\(aI X.prog X.w).hash (qK t.1)=fu X.w t.1:=by
 obtain⟨d,x,u⟩:=t;have r:=h.rep;have q:=h.rel;have Z:=h.sc;cases d with
 |int i=>subst r;obtain⟨O,rfl⟩:=q;exact⟨fJ _ _ _ _,rfl,by rfl⟩
 |str i=>subst r;obtain⟨O,rfl⟩:=q;exact⟨f7 _ _ _ _,rfl,by rfl⟩
 |_=>cases Z
def Ht(h:aaQ X.K B H L t)(h':aaQ X.K B H L t'):(aI X.prog X.w).is (qK t.1) t'.2.2=decide (t'.1=t.1):=by
 rw[KeyKind.is_eq_decide (AH h').1];exact Yd.mpr ⟨λe=>uF h'.sc h.sc e.symm,λe=>by rw[e]⟩
def Er(I:Inv X pins σ H s)(Z:aaQ X.K B H Y t)(l:Z9 Z3)(hl:∀y∈l,∃t':El,aaQ X.K B H Y t'/\t'.2.2=y)(hQ:Q Y s):wpAny (model X.prog X.w) A (searchCouldBeSeen t.2.2 l) Q E s:=by
 refine Z_ ?_;refine X8 _ (λav b s'=>b.1=M/\s'=s/\∀y∈av,∃t':El,aaQ X.K B H Y t'/\t'.2.2=y) _ ?_ ?_ _ _ ⟨rfl,rfl,hl⟩
 rintro y av b s' ⟨hb,rfl,hr⟩
 have O:∀z∈av,∃t':El,aaQ X.K B H Y t'/\t'.2.2=z:=λz hz=>hr z (ZY _ hz);obtain⟨t',h',rfl⟩:=hr y (ZR ..);obtain⟨c,_,hc⟩:=oh Z;obtain⟨c',_,Om⟩:=oh h';have q1:=Z.raw I;have q2:=h'.raw I;rw[hc]at q1⊢;rw[Om]at q2⊢;dsimp only;split;exact Z6 ⟨rfl,rfl,O⟩;refine Z_ (nA 8 _ _ _ _ _ _ Z.has q1 ?_);refine Z_ (nA 8 _ _ _ _ _ _ h'.has q2 ?_);refine Z_ (sB 8 _ _ _ _ _ Z.has q1 ?_);refine Z_ (sB 8 _ _ _ _ _ h'.has q2 ?_);exact Z6 ⟨rfl,rfl,O⟩
 rintro⟨b1,b2⟩ s' ⟨hb,rfl,_⟩
 subst hb;exact Z6 hQ
def GJ(I:Inv X pins σ H s)(hA:A.units+32<cLine){ts:Z9 El}{Q:Bool->ZV->Prop}(S:aaJ s.heap a (ts.map (elE X.w)) led)(M3:ts.length<=75)(O:∀t∈ts,aaQ X.K B H sc t)(ht:aaQ X.K B H sc t)(h:∀h' Z tk,s.toks<=tk->Heap.SameBut a s.heap h'->(Z=ts/\t.1∈ts.map (·.1)\/Z.Perm (t::ts)/\t.1∉ts.map (·.1))->aaJ h' a (Z.map (elE X.w)) led->∀b,Q b {s with heap:=h',toks:=tk}):
  wpAny (model X.prog X.w) A (setAdd a t.2.2) Q E s:=by
 refine Zl (Z_ ?_);refine yz 8 t.1 t.2.2 A s _ _ ht.has (by lia) (ht.raw I) ?_;have Nd:=Nat.le_add_right s.toks (eU t.1);generalize s.toks+eU t.1=tk at Nd⊢;have I':Inv X pins σ H {s with toks:=tk}:=I.tok tk;cases sc with
 |false=>
  obtain⟨b,_,hb⟩:=oh ht;have inj:∀t1∈ts,∀t2∈ts,t1.2.2=t2.2.2->t1.1=t2.1:=λt1 h1 t2 h2 e=>RH.inj ((O t1 h1).raw I) (e▸(O t2 h2).raw I);have S':aaJ {s with toks:=tk}.heap a (ts.map (elE X.w)) led:=S
  open Classical in
  rw[hb];refine zT (s:={s with toks:=tk}) (led:=led) (es:=ts.map (elE X.w)) S' (by simpa using M3) (λv=>decide (∃t1∈ts,t1.2.2=v/\t1.1=t.1)) ?_ ?_ ?_ ?_ ?_ ?_ ?_;intro e he;obtain⟨t1,h1,rfl⟩:=ZZ.mp he;obtain⟨b1,_,u1⟩:=oh (O t1 h1);exact⟨b1,u1⟩;intro e he _;obtain⟨t1,h1,rfl⟩:=ZZ.mp he;have:=HF 8 t1.1 t.1 t1.2.2 t.2.2 A (O t1 h1).has ht.has (by lia) ((O t1 h1).raw I') (ht.raw I');rw[hb]at this;have e2:decide (∃t2∈ts,t2.2.2=t1.2.2/\t2.1=t.1)=decide (t1.1=t.1):=by
   apply Yd.mpr;constructor
   rintro⟨t2,h2,e1,e2⟩
   rw[<-inj t2 h2 t1 h1 e1];exact e2;exact λe=>⟨t1,h1,rfl,e⟩
  lia
  .grind
  intro l hl Q' O0;have:=Er (A:=A) (E:=E) I' ht l (λy hy=>by
   grind) O0
  rw[hb]at this;exact this;intro R hR;have:=A2 (P:=X.prog) (w:=X.w) 8 t.1 t.2.2 A R E ht.has (ht.raw I') hR;rw[hb]at this;exact this
  rintro⟨e,he,hq⟩
  obtain⟨t2,h2,e1,e2⟩:=Zy hq;exact h s.heap ts tk Nd (Heap.SameBut.refl a s.heap) (.inl ⟨rfl,ZZ.mpr ⟨t2,h2,e2⟩⟩) S Y;intro Ln h' es' Ll hp S2;obtain⟨Z,pt,rfl⟩:=bE (elE X.w) hp (t::ts) (by simp;lia);refine h h' Z tk Nd Ll (.inr ⟨pt,λhm=>?_⟩) S2 L;obtain⟨t2,h2,e2⟩:=ZZ.mp hm;have:=Ln (elE X.w t2) (ZZ.mpr ⟨t2,h2,rfl⟩);exact absurd ⟨t2,h2,rfl,e2⟩ (Yc this)
 |true=>
  obtain⟨k1,k2,k3⟩:=AH ht;rw[<-k3];refine wX (s:={s with toks:=tk}) (led:=led) (es:=ts.map (elE X.w)) S (by simpa using M3) k1 k2 ?_ ?_ ?_;intro e he;obtain⟨t1,h1,rfl⟩:=ZZ.mp he;obtain⟨a1,a2,a3⟩:=AH (O t1 h1);exact⟨⟨_,a1,a3.symm⟩,a2⟩
  rintro⟨e,he,hq⟩
  obtain⟨t1,h1,rfl⟩:=ZZ.mp he;rw[Ht ht (O t1 h1)]at hq;exact h s.heap ts tk Nd (Heap.SameBut.refl a s.heap) (.inl ⟨rfl,ZZ.mpr ⟨t1,h1,Zy hq⟩⟩) S Y;intro Ln h' es' Ll hp S2;rw[k3]at hp;obtain⟨Z,pt,rfl⟩:=bE (elE X.w) hp (t::ts) rfl;refine h h' Z tk Nd Ll (.inr ⟨pt,λhm=>?_⟩) S2 L;obtain⟨t1,h1,e1⟩:=ZZ.mp hm;have hq:=Ln (elE X.w t1) (ZZ.mpr ⟨t1,h1,rfl⟩);rw[Ht ht (O t1 h1)]at hq;lia
end
structure abU (X:Cx)(B:ZP->Prop)(H:Hp)(sc led:Bool)(h:Heap)(a:ZP)(done:List D)(ts:List El):Prop where
 at':aaJ h a (ts.map (elE X.w)) led
 ok:∀t∈ts,aaQ X.K B H sc t
 nd:(ts.map (·.1)).Nodup
 mem:∀d,d∈ts.map (·.1)↔d∈done
def aaJ.same(S:aaJ h a es led)(k:∀o,h.get? a=U o->h'.get? a=U o):aaJ h' a es led:=by
 obtain⟨o,ep,t,O,r⟩:=S;exact⟨o,ep,t,k o O,r⟩
def n8{l m:Z9 D}(hl:l.Nodup)(h:∀x∈l,x∈m):l.length<=m.length:=by
 induction l generalizing m with
 |nil=>simp
 |cons x l ih=>
  have Z:=h x (ZR ..);obtain⟨h1,h2⟩:=Y8.mp hl;have:=ih (m:=m.erase x) h2 λy O=>(List.mem_erase_of_ne (λ(e:y=x)=>h1 (e▸O))).mpr (h y (ZY _ O));rw[List.length_erase_of_mem Z]at this;have:0<m.length:=List.length_pos_of_mem Z;rw[cn];lia
def bQ:Z9 D->Z9 D
 |[]=>[]
 |d::ds=>if d∈ds then bQ ds else d::bQ ds
theorem aK(x:D):∀ds:Z9 D,x∈bQ ds↔x∈ds
 |[]=>Iff.rfl
 |d::ds=>by
  unfold bQ;split;rename_i h;rw[aK x ds,ZT];lia;rw[ZT,ZT,aK x ds]
theorem aV:∀ds:Z9 D,(bQ ds).Nodup
 |[]=>YK
 |d::ds=>by
  unfold bQ;split;exact aV ds;rename_i h;exact Y8.mpr ⟨λz=>h ((aK d ds).mp z),aV ds⟩
def cf(ds:Z9 D):(bQ ds).length<=ds.length:=n8 (aV ds) λx O=>(aK x ds).mp O
section
variable{X:Cx}{pins:Z9 (ZP×Obj)}{σ:St}{H:Hp}{s:ZV}{B:ZP->Prop}{A:Zj}{sc led:Bool}{R:Result->ZV->Prop}{It:ZP}{fp wr:Z9 ZP}{G:Array GenState->Array GenState->Prop}{n:Nat}{P:Nat->Z3->Prop}{St:Nat->ZV->Prop}
def wQ(I:Inv X pins σ H s)(hA:A.units+40<cLine)(W:WalksS X.prog X.w A.in1 It fp wr G n P St)(hG:∀a b,G a b->b=a)(S:ZP)(K1:S∉fp)(T7:s.heap.get? S=M)(hwr:∀b∈wr,s.heap.get? b=M)(ds:Z9 D)(hn:ds.length=n)(O4:(bQ ds).length<=75)(Sb:∀i v d,P i v->ds[i]?=U d->∃x,aaQ X.K B H sc (d,x,v)):
  ∀(k i:Nat)(h:Heap)(tk:Nat)(ts:Z9 El),n - i=k->i<=n->St i {s with heap:=h,toks:=tk}->(∀b o,s.heap.get? b=U o->h.get? b=U o)->abU X B H sc led h S (ds.take i) ts->
   (∀h' MP P1,(∀b o,s.heap.get? b=U o->h'.get? b=U o)->abU X B H sc led h' S ds P1->R (.ok (.ret .none)) {s with heap:=h',toks:=MP})->
   codeAny (model X.prog X.w) A (.builtin "set.update.loop" ⟨[.ref S,.ref It],[]⟩) R {s with heap:=h,toks:=tk}:=by
 have LN:S∉wr:=λh=>K1 (W.sub _ h);have back:∀{h:Heap}{tk:Nat}{Z:ZV},(∀b o,s.heap.get? b=U o->h.get? b=U o)->Moved wr G {s with heap:=h,toks:=tk} Z->Z={s with heap:=Z.heap,toks:=Z.toks}/\∀b o,s.heap.get? b=U o->Z.heap.get? b=U o:=λ{h tk Z} hk hm=>by
  have e1:Z.gens=s.gens:=hG _ _ hm.gens;have e2:Z.drawn=s.drawn:=hm.drawn;have e3:Z.os=s.os:=hm.os;refine⟨?_,λb o e=>?_⟩;obtain⟨h',g',d',t',o'⟩:=Z;lia;refine hm.heap b o (λhb=>?_) (hk b o e)
  simp_all
 intro k
 induction k with
 |zero=>
  intro i h tk ts hk hi n_ KW hF hR;have Lu:i=n:=by lia
  subst Lu;refine Zr F.entry_set_update_loop ?_;refine Z_ (W.done _ _ _ n_ λZ hm=>?_);obtain⟨es,O⟩:=back KW hm;rw[es];refine Z6 (hR Z.heap Z.toks ts O ⟨hF.at'.same λo e=>hm.heap S o LN e,hF.ok,hF.nd,λd=>?_⟩);rw[hF.mem d,<-hn,List.take_length]
 |succ k ih=>
  intro i h tk ts hk hi n_ KW hF hR;have d_:i<n:=by lia
  refine Zr F.entry_set_update_loop ?_;refine Z_ (W.item i _ _ _ d_ n_ λv Z hP Kd hm=>?_);obtain⟨es,O⟩:=back KW hm;have Ri:i<ds.length:=by lia
  obtain⟨x,hx⟩:=Sb i v ds[i] hP (by simp[Ri]);have Ot:aaJ Z.heap S (ts.map (elE X.w)) led:=hF.at'.same λo e=>hm.heap S o LN e;have I':Inv X pins σ H {s with heap:=Z.heap,toks:=Z.toks}:=I.kept O;have M3:ts.length<=75:=by
   have:=n8 hF.nd λd hd=>(aK d ds).mpr (List.mem_of_mem_take ((hF.mem d).mp hd));rw[ZW]at this;lia
  refine Z_ (Zl ?_);rw[es]at Kd⊢;refine GJ (t:=(ds[i],x,v)) I' (by show A.units+1+32<cLine;lia) Ot M3 hF.ok hx λh' P1 MP Nd Ll VS G_ b=>?_;have Lr:∀b o,s.heap.get? b=U o->h'.get? b=U o:=λb o e=>by
   rw[Ll.2 b (λz=>by lia)];exact O b o e
  have F':abU X B H sc led h' S (ds.take (i+1)) P1:=by
   have M5:ds.take (i+1)=ds.take i++[ds[i]]:=by rw[List.take_succ];simp[Ri]
   rcases VS with⟨rfl,MV⟩|⟨hp,MV⟩;refine⟨G_,hF.ok,hF.nd,λd=>?_⟩;rw[hF.mem d,M5,Zc,ZD];constructor;exact .inl
   rintro(h|rfl)
   exact h;exact(hF.mem _).mp MV;have Mp:=hp.map (·.1);rw[Z0]at Mp;refine⟨G_,λt ht=>?_,?_,λd=>?_⟩;rcases ZT.mp (hp.mem_iff.mp ht)with rfl|h;exact hx;exact hF.ok t h;rw[Mp.nodup_iff,Y8];exact⟨MV,hF.nd⟩;rw[Mp.mem_iff,ZT,hF.mem d,M5,Zc,ZD];exact Or.comm
  refine Z6 ⟨Zd F.plain_set_update_loop _,ih (i+1) h' MP P1 (by lia) d_ ?_ Lr F' hR⟩;exact W.frame _ {s with heap:=Z.heap,toks:=Z.toks} _ _ Kd Nd λb hb o e=>by
   rw[Ll.2 b (λh:b=S=>K1 (by lia))];exact e
end
noncomputable abbrev cL(w:Y1):Bool:=!w.params.followText "set-order"
noncomputable abbrev du(led:Bool):Obj:={cls:=.type "set",dict:=M,data:=.set #[] 0 (.fresh 0 0 led)}
section
def lJ(a:Z3)(h:Q₁ (.ref s.z) {s with heap:=s.heap.push (du (cL w))}):
  codeAny (model prog w) A (.call (.builtin "set.__new__") ⟨[.type "set",a],[]⟩) (wants Q₁ E) s:=by
 refine codeAny_of_tree ?_;refine Z_ (Xe (F.newCall_set_1 a) (Z6 ⟨Zd F.plain_set_new _,Zr F.entry_set_new ?_⟩));unfold Builtin.«set.__new__» Builtin.Frozenset.newClass;have O:=sub_set_self
 wp_walk
 refine wpAny_askSetting (Z6 ?_);refine Z_ (wpAny_alloc (Z6 ?_));exact Z6 h
end
section
variable{X:Cx}{A:Zj}
def wP(e:h.get? a=U (du (cL X.w))):abU X B H sc (cL X.w) h a [] []:=
 ⟨⟨_,0,_,e,⟨rfl,rfl,rfl⟩,rfl,Tab.fresh _ _ _,by simp[SetTable.fresh],rfl⟩,λt O=>by simp at O,YK,λd=>Iff.rfl⟩
def rE(I:Inv X pins σ H s)(hh:A.handled=M)(hA:A.units+50<cLine)(hl:s.heap.IsList l items)(ds:Z9 D)(hlen:ds.length=items.size)(O4:(bQ ds).length<=75)(Rp:∀(i:Nat) v d,items[i]?=U v->ds[i]?=U d->∃x,aaQ X.K B H sc (d,x,v))(h:∀(h':Heap)(tk:Nat) ts,(∀b o,s.heap.get? b=U o->h'.get? b=U o)->abU X B H sc (cL X.w) h' s.z ds ts->Q (.ref s.z) {s with heap:=h',toks:=tk}):
  wpAny (model X.prog X.w) A (call (.type "set") [.ref l]) Q E s:=by
 obtain⟨c,tl,hmro⟩:=XB.mro;have Uy:=XB.made;have Pt:=XB.sub;refine wpAny_call (codeAny_of_tree ?_);show wpAny _ _ (callAny (.type "set") _) _ _ _;refine Z6 ⟨Code.quiet_builtin _ (by decide +kernel),Zr F.entry_type_call ?_⟩;rw[Around.under_plain (weight_type_call_type "set" [.ref l] []) rfl];have h1:=XB.notType;have h2:=XB.canCreate;have hct:=F.typeCall_set_1 (.ref l)
 repeat (any_goals (first|assumption|wp_step))
 refine W2 (lJ (.ref l) (E:=E) (Q₁:=λobj a_=>obj=.ref s.z/\a_={s with heap:=s.heap.push (du (cL X.w))}) ⟨rfl,rfl⟩) λr a_ hr=>?_;cases r with
 |error e=>exact hr
 |ok fl=>
  cases fl with
  |ret obj=>
   obtain⟨rfl,rfl⟩:=hr;have hS:(s.heap.push (du (cL X.w))).get? s.z=U (du (cL X.w)):=ZX _ rfl;have hT:Shared.TypeIs {s with heap:=s.heap.push (du (cL X.w))} (.ref s.z) "set":=⟨_,hS,rfl⟩
   have hli:=XB.init.lookup;have hbi:=XB.init.bind (.ref s.z)
   repeat (any_goals (first|assumption|wp_step))
   refine W2 (codeAny_call_builtin (R:=wants (λr s_=>r=.none/\∃h' tk ts,s_={s with heap:=h',toks:=tk}/\abU X B H sc (cL X.w) h' s.z ds ts/\
     (∀b o,s.heap.get? b=U o->h'.get? b=U o)) E) XB.init.plain F.entry_set_init (check_set_init_1 hT ?_)) λRU s_ O=>?_
   .obtain⟨ol,Nh,Kr,nl,Mt⟩:=hl
    obtain⟨ocls,PL,Ux,NY⟩:=ol;simp only at Kr Mt;subst Kr;subst Mt;have Sk:(s.heap.push (du (cL X.w))).get? l=U {cls:=.type "list",dict:=PL,data:=.seq items nl,slots:=NY}:=Z5 _ Nh;have hsls:=F.sub_list_set;have hslf:=F.sub_list_frozenset;have p_:(Value.type "list"==Value.type "dict")=Y:=by decide
    have K5:(s.heap.push (du (cL X.w))).IsList l items:=⟨_,Sk,rfl,nl,rfl⟩;unfold Builtin.«set.__init__» noKeywords Builtin.Frozenset.updateFrom;generalize hPI:pyIter=PI
    wp_walk
    subst hPI;refine Yg K5 ?_;refine Z_ (Wl ?_);have TL:l<s.z:=Z1 Nh;have Wg:A.in1.in1.in1.handled=M:=by simp[hh]
    have Sq:l≠(s.heap.push (du (cL X.w))).objs.size:=by
     rw[YV];exact ZA (W5 TL)
    have K1:s.z∉[(s.heap.push (du (cL X.w))).objs.size,l]:=by
     rw[YV];simp only[ZT,ZD,Ze,Yi,Wx];exact⟨ZA (Yr _),Nat.ne_of_gt TL⟩
    have Z:∀b,s.z<=b->s.heap.get? b=M:=λb hb=>by
     cases q:s.heap.get? b with
     |none=>rfl
     |some o=>exact absurd (Z1 q) (Nat.not_lt.mpr hb)
    refine wQ (s:=s) (X:=X) (σ:=σ) (pins:=pins) (H:=H) (B:=B) (sc:=sc) (led:=cL X.w) I ?_ ((Walks.list Wg _ l Sq items).toS) ?_ s.z
     K1 (Z _ (ZU _)) ?_ ds hlen O4 (λi v d hv hd=>Rp i v d hv hd) (items.size - 0) 0 _ s.toks [] (by lia) (Zm _)
     ⟨⟨_,ZX _ rfl,rfl,rfl⟩,(K5.push _)⟩ (λb o e=>Z5 _ (Z5 _ e)) ?_ ?_
    show A.units+1+1+40<cLine;lia;intro a b e;exact e;intro b hb;simp only[ZD]at hb;rw[hb,YV];exact Z _ (W4 _);exact wP (Z5 _ hS);intro h' MP ts hk hF;show wpAny _ _ _ _ _ _;refine Z6 ?_;show wpAny _ _ (ret Value.none) _ _ _;exact Z6 ⟨rfl,h',MP,ts,rfl,hF,hk⟩
   .cases RU with
    |error e=>exact O
    |ok PZ=>
     cases PZ with
     |ret r=>
      obtain⟨rfl,h',tk,ts,rfl,hF,hk⟩:=O
      repeat (any_goals (first|assumption|wp_step))
      exact h _ _ _ hk hF
     |_=>exact O.elim
  |_=>exact hr.elim
end
def aG:Slot "set_iterator" "__next__" "set_iterator.__next__":=
 .of (owner:="set_iterator") (n:="__next__") (by rfl) (by rfl) (by rfl) (by rfl)
  (by trivial) (by rfl)
def bJ:entryFor table "set_iterator.__next__"=U Builtin.«set_iterator.__next__»:=entryFor_of_tree (by kernel_rfl)
def eY:Slot "set_iterator" "__iter__" "set_iterator.__iter__":=
 .of (owner:="set_iterator") (n:="__iter__") (by rfl) (by rfl) (by rfl) (by rfl)
  (by trivial) (by rfl)
def jG:entryFor table "set_iterator.__iter__"=U Builtin.«dict_keyiterator.__iter__»:=
 entryFor_alias (id':="dict_keyiterator.__iter__") (by kernel_rfl) rfl (by decide +kernel) (by kernel_rfl)
def gK:entryFor table "set.__iter__"=U Builtin.«frozenset.__iter__»:=
 entryFor_alias (id':="frozenset.__iter__") (by kernel_rfl) rfl (by decide +kernel) (by kernel_rfl)
def bZ(a:Z3):argsOk "set_iterator.__next__" ⟨[a],[]⟩:=by
 rfl
def lG(a:Z3):argsOk "set_iterator.__iter__" ⟨[a],[]⟩:=by
 rfl
def cj{O:Type}{l:Z9 O}{i:Nat}(h:i<l.length):(l[i]::l.eraseIdx i).Perm l:=by
 rw[Xm];refine List.perm_middle.symm.trans ?_;rw[<-Zo h,List.take_append_drop]
theorem iG{q:Type}:∀(n:Nat)(xs:Z9 q)(s:ZV)(Q:Z9 q->ZV->Prop),xs.length=n->
  (∀ys d,ys.Perm xs->Q ys {s with drawn:=d})->wpAny (model prog w) A (drawOrder n xs) Q E s
 |0,xs,s,Q,Z,hQ=>by
  have:xs=[]:=Xy.mp Z;subst this;unfold drawOrder;exact Z6 (hQ [] s.drawn (Xq _))
 |n+1,[],s,Q,Z,hQ=>by cases Z
 |n+1,x::xs,s,Q,Z,hQ=>by
  unfold drawOrder;refine Z_ (Q:=Q) ?_;intro Γ p hΓ;refine⟨by simp,?_⟩;generalize hd:s.drawn.bump .order=d1;generalize hi:(model prog w).w.draws .order (s.drawn.get .order)%(x::xs).length=i;have O:i<(x::xs).length:=by rw[<-hi];exact WQ _ (by simp)
  have key:wpAny (model prog w) A (match(x::xs)[i]? with|some y=>(do return y::(<-drawOrder n ((x::xs).eraseIdx i)))|none=>unsupported "internal:drawOrder") Q E {s with drawn:=d1}:=by
   rw[YW O];dsimp only;refine Z_ (iG n ((x::xs).eraseIdx i) _ _ (by rw[List.length_eraseIdx_of_lt O,Z];rfl) λys d hp=>?_);refine Z6 (hQ _ d ?_);exact(List.Perm.cons _ hp).trans (cj O)
  exact key
theorem rQ{q:Type}(f:Nat->Nat):∀(Z k:Nat)(O:Z9 q)(out:Array q),Z=O.length->(pickOrder.go f Z k O out).toList.Perm (out.toList++O)
 |0,k,O,out,h=>by
  have:O=[]:=Xy.mp h.symm;subst this;unfold pickOrder.go;simp
 |Z+1,k,O,out,h=>by
  unfold pickOrder.go;have d_:f k%O.length<O.length:=WQ _ (by lia);rw[YW d_];dsimp only;refine(rQ f Z (k+1) _ _ (by rw[List.length_eraseIdx_of_lt d_];lia)).trans ?_;rw[Xn,Xr];exact List.Perm.append_left _ (cj d_)
def gE{O:Type}(f:Nat->Nat)(xs:Array O):(pickOrder f xs).toList.Perm xs.toList:=by
 unfold pickOrder;simpa using rQ f xs.size 0 xs.toList #[] (by simp)
structure aaz (h:Heap)(S:ZP)(es:List (Int×Z3))(ep:Nat)(t:SetTable):Prop where
 ob:∃o,h.get? S=some o/\o.ExactSet/\o.data=.set es.toArray ep t
 tab:Tab t (es.map (·.1))
 few:t.place.size<=t.mask
theorem aaz.fits(x:aaz h S es ep t):t.fits es.toArray.size=L:=by simpa using x.tab.fits x.few
def aaz.at{h h':Heap}(x:aaz h S es ep t)(k:∀o,h.get? S=U o->h'.get? S=U o):aaz h' S es ep t:=by
 obtain⟨⟨o,O,r⟩,a,b⟩:=x;exact⟨⟨o,k o O,r⟩,a,b⟩
def aaw(h:Heap)(I:ZP)(O:Z3)(i:Nat)(S:ZP)(n ep:Nat):Prop:=∃o,h.get? I=U o/\o.cls=.type "set_iterator"/\o.data=.fields #[O,rawInt i,.ref S,rawInt n,rawInt ep]
def aaw.typeIs{s:ZV}(x:aaw s.heap I first i S n ep):s.TypeIs (.ref I) "set_iterator":=by
 obtain⟨o,O,Z,_⟩:=x;exact⟨o,O,Z⟩
def aaw.at{h h':Heap}(x:aaw h I first i S n ep)(k:∀o,h.get? I=U o->h'.get? I=U o):aaw h' I first i S n ep:=by
 obtain⟨o,O,r⟩:=x;exact⟨o,k o O,r⟩
section
variable{A:Zj}{s:ZV}{es:Z9 (Int×Z3)}
def eW{sl nx:Nat}{v:Z3}{Q:Z8 Z3->ZV->Prop}(p_:S≠I)(it:aaw s.heap I (rawInt sl) i S es.length ep)(st:aaz s.heap S es ep t)
  (hn:∀(s:ZV)(R:Z8 (Z3×Nat)->ZV->Prop)(E:Z3->ZV->Prop),aaz s.heap S es ep t->R (U (v,nx)) s->wpAny (model prog w) A.in1 (setNext S sl i ep) R E s)
  (hQ:∀h',aaw h' I (rawInt nx) (i+1) S es.length ep->(∀b o,b≠I->s.heap.get? b=U o->h'.get? b=U o)->Q (U v) {s with heap:=h'}):wpAny (model prog w) A (pyNext (.ref I)) Q E s:=by
 have hT:=it.typeIs;obtain⟨o,Z,hc,hd⟩:=it;refine Z_ (XY (YJ (name:=Str.ofString "__next__") hT aG (YZ aG hT bJ ?_ (bZ _))));refine Z_ (m:=slotArgs "__next__" 0 _) (Z6 ?_);refine Z_ (W0 Z hd ?_);obtain⟨os,O,hex,Lv⟩:=st.ob;refine Z_ (Xw O Lv st.fits ?_);refine gT (by simp) ?_;refine Z_ (hn s _ _ st ?_);refine Z_ (Yk Z hd (by simp) ?_);have g1:=Zz (Obj.mapFields (·.setIfInBounds 0 (rawInt nx))) Z (X4 (Y3 hd _));refine Z_ (Yk g1 (Y3 hd _) (by simp) ?_);have g2:=Zz (Obj.mapFields (·.setIfInBounds 1 (rawInt ((i:Int)+1)))) g1 (X4 (Y3 (Y3 hd _) _));refine Z6 ⟨_,rfl,Z6 (hQ _ ?_ ?_)⟩;exact⟨_,g2,(Xk ..).trans ((Xk ..).trans hc),by rw[Y3 (Y3 hd _)];rfl⟩;intro b o' hb e;exact(ZK _ _ (ZF hb)).trans ((ZK _ _ (ZF hb)).trans e)
def jh{ps:Z9 Nat}{Q:Z8 Z3->ZV->Prop}(p_:S≠I)(it:aaw s.heap I (.ref T) i S es.length ep)(st:aaz s.heap S es ep t)(ht:∃o n,s.heap.get? T=U o/\o.data=.seq (ps.map λ(k:Nat)=>rawInt k).toArray n)(hp:ps[i]?=U p)(he:es[p]?=U e)(hQ:∀h',aaw h' I (.ref T) (i+1) S es.length ep->(∀b o,b≠I->s.heap.get? b=U o->h'.get? b=U o)->Q (U e.2) {s with heap:=h'}):wpAny (model prog w) A (pyNext (.ref I)) Q E s:=by
 have hT:=it.typeIs;obtain⟨o,ho,hc,hd⟩:=it;refine Z_ (XY (YJ (name:=Str.ofString "__next__") hT aG (YZ aG hT bJ ?_ (bZ _))));refine Z_ (m:=slotArgs "__next__" 0 _) (Z6 ?_);refine Z_ (W0 ho hd ?_);obtain⟨os,O,hex,Z⟩:=st.ob;refine Z_ (Xw O Z st.fits ?_);refine gT (by simp) ?_;simp only[Int.toNat_natCast];obtain⟨oT,nT,VT,Rq⟩:=ht;refine Z_ (Y9 VT Rq ?_);dsimp only;have e1:(ps.map λ(k:Nat)=>rawInt k).toArray[i]?=U (rawInt p):=by simp[hp]
 rw[e1];dsimp only[rawInt];simp only[Int.toNat_natCast];refine Z_ ?_;refine Z_ (YL O Z st.fits ?_);dsimp only;refine gT (by simp) ?_;have e2:es.toArray[p]?=U e:=by simp[he]
 rw[e2];refine Z6 ?_;refine Z_ (Yk ho hd (by simp) ?_);have g2:=Zz (Obj.mapFields (·.setIfInBounds 1 (rawInt ((i:Int)+1)))) ho (X4 (Y3 hd _));refine Z6 ⟨_,rfl,Z6 (hQ _ ?_ ?_)⟩;exact⟨_,g2,(Xk ..).trans hc,by rw[Y3 hd];rfl⟩;intro b o' hb e;exact(ZK _ _ (ZF hb)).trans e
def f9{sl:Nat}{Q:Z8 Z3->ZV->Prop}(hh:A.handled=M)(it:aaw s.heap I (rawInt sl) i S es.length ep)(st:aaz s.heap S es ep t)
  (hn:∀(s:ZV)(R:Z8 (Z3×Nat)->ZV->Prop)(E:Z3->ZV->Prop),aaz s.heap S es ep t->R M s->wpAny (model prog w) A.in1 (setNext S sl i ep) R E s)
  (hQ:∀h',(∀b o,b≠I->s.heap.get? b=U o->h'.get? b=U o)->Q M {s with heap:=h'}):wpAny (model prog w) A (pyNext (.ref I)) Q E s:=by
 have hT:=it.typeIs;obtain⟨o,ho,hc,hd⟩:=it;refine Z_ (XY (YJ (name:=Str.ofString "__next__") hT aG (YZ aG hT bJ ?_ (bZ _))));refine Z_ (m:=slotArgs "__next__" 0 _) (Z6 ?_);refine Z_ (W0 ho hd ?_);obtain⟨os,O,hex,Z⟩:=st.ob;refine Z_ (Xw O Z st.fits ?_);refine gT (by simp) ?_;refine Z_ (hn s _ _ st ?_);refine Z_ (Yk ho hd (by simp) ?_);refine Z_ ?_;refine Z_ (m:=firstArgMember _ _) (Xe (a:=Value.none) (by rfl) ?_);refine Y5 ?_ (by size_fits);refine Z_ (wpAny_handled ?_);rw[show A.in1.handled=M from hh];refine Z_ (Z6 (wpAny_throw ?_));refine Z_ (X9 (T:="StopIteration") (b:=L) ⟨_,ZX _ rfl,rfl⟩ WZ ?_);exact Z6 (hQ _ λb o' hb e=>Z5 _ (Z5 _ ((ZK _ _ (ZF hb)).trans e)))
def lu{ps:Z9 Nat}{Q:Z8 Z3->ZV->Prop}(hh:A.handled=M)(it:aaw s.heap I (.ref T) i S es.length ep)(st:aaz s.heap S es ep t)(ht:∃o n,s.heap.get? T=U o/\o.data=.seq (ps.map λ(k:Nat)=>rawInt k).toArray n)(hp:ps[i]?=M)(hQ:∀h',(∀b o,b≠I->s.heap.get? b=U o->h'.get? b=U o)->Q M {s with heap:=h'}):wpAny (model prog w) A (pyNext (.ref I)) Q E s:=by
 have hT:=it.typeIs;obtain⟨o,ho,hc,hd⟩:=it;refine Z_ (XY (YJ (name:=Str.ofString "__next__") hT aG (YZ aG hT bJ ?_ (bZ _))));refine Z_ (m:=slotArgs "__next__" 0 _) (Z6 ?_);refine Z_ (W0 ho hd ?_);obtain⟨os,O,hex,Lv⟩:=st.ob;refine Z_ (Xw O Lv st.fits ?_);refine gT (by simp) ?_;simp only[Int.toNat_natCast];obtain⟨oT,nT,Z,Rq⟩:=ht;refine Z_ (Y9 Z Rq ?_);dsimp only;have e1:(ps.map λ(k:Nat)=>rawInt k).toArray[i]?=M:=by simpa using hp
 rw[e1];refine Z_ (Yk ho hd (by simp) ?_);have g1:=Zz (Obj.mapFields (·.setIfInBounds 0 (rawInt 0))) ho (X4 (Y3 hd _));refine Z_ (Yk g1 (Y3 hd _) (by simp) ?_);refine Z_ ?_;refine Z_ (m:=firstArgMember _ _) (Xe (a:=Value.none) (by rfl) ?_);refine Y5 ?_ (by size_fits);refine Z_ (wpAny_handled ?_);rw[show A.in1.handled=M from hh];refine Z_ (Z6 (wpAny_throw ?_));refine Z_ (X9 (T:="StopIteration") (b:=L) ⟨_,ZX _ rfl,rfl⟩ WZ ?_);exact Z6 (hQ _ λb o' hb e=>Z5 _ (Z5 _ ((ZK _ _ (ZF hb)).trans ((ZK _ _ (ZF hb)).trans e))))
def nG{Q:Z3->ZV->Prop}(it:aaw s.heap I first i S n ep)(O:Q (.ref I) s):wpAny (model prog w) A (pyIter (.ref I)) Q E s:=by
 refine wpAny_pyIter_slot it.typeIs eY (YZ eY it.typeIs jG ?_ (lG _));exact Z6 ⟨_,rfl,"set_iterator",_,it.typeIs,aG.lookup,O⟩
end
section
variable{w:Y1}{s:ZV}
theorem qb(a:ZP)(slot Z O:Nat):setNext a slot Z O=(do
  let (es,P0,t) <-setState a
  if <-setsByText then
   if P0 != O then unsupported "set_iterator.__next__:elements-changed"
   return ((<-setWalk a)[Z]?).map λe=>(e.2,slot)
  if !t.plain&&es.size>1 then unsupported "set_iterator.__next__:the-table-is-plain-no-more"
  (if(!t.led&&!es.isEmpty)=L then unsupported "set:maker-not-led" else pure ():Sem Unit)
  let i:=SetTable.below t.place slot
  return match es[i]?,t.place[i]? with
   |some (_,x),some j=>U (x,j+1)
   |_,_=>M):=rfl
def ly(hb:w.params.followText "set-order"=L)(st:aaz s.heap S es ep t)(h:R (((pickOrder (w.params.setOrder S ep) es.toArray)[i]?).map λe=>(e.2,sl)) s):wpAny (model prog w) A (setNext S sl i ep) R E s:=by
 obtain⟨os,O,hex,Z⟩:=st.ob;refine Z_ (YL O Z st.fits ?_);show wpAny _ _ (if w.params.followText "set-order"=L then _ else _) _ _ _;rw[ZM hb,ZH (by simp)];refine Z_ ?_;refine Z_ (YL O Z st.fits ?_);show wpAny _ _ (if w.params.followText "set-order"=L then _ else _) _ _ _;refine qm hb ?_;refine Z_ (wpAny_askSetting (Z6 ?_));exact Z6 h
def jS(hb:w.params.followText "set-order"=Y)(st:aaz s.heap S es ep t)(O:t.led=L)(hpl:(!t.plain&&decide (es.toArray.size>1))=Y)(h:R (match es.toArray[SetTable.below t.place sl]?,t.place[SetTable.below t.place sl]? with|some (_,x),some j=>U (x,j+1)|_,_=>M) s):wpAny (model prog w) A (setNext S sl i ep) R E s:=by
 obtain⟨os,Z,hex,Lv⟩:=st.ob;rw[qb];refine Z_ (YL Z Lv st.fits ?_);show wpAny _ _ (if w.params.followText "set-order"=L then _ else _) _ _ _;rw[ZH (by rw[hb];exact XA),ZH (by rw[hpl];exact XA),ZH (by rw[O];simp)];exact Z6 h
end
noncomputable def jX(t:SetTable)(i:Nat):Nat:=match i with|0=>0|k+1=>t.place.getD k 0+1
def qq(T:Tab t hs):SetTable.below t.place 0=0:=by
 obtain⟨h1,Z,O⟩:=dG T.ris 0;rcases Nat.eq_zero_or_pos (SetTable.below t.place 0)with z|z;exact z;have:=h1 0 (by lia) z;exact absurd this (Ym _)
def fg(T:Tab t hs)(hi:i<=t.place.size):SetTable.below t.place (jX t i)=i:=by
 cases i with
 |zero=>exact qq T
 |succ k=>
  have hk:k<t.place.size:=by lia
  show SetTable.below t.place (t.place.getD k 0+1)=k+1;have:t.place.getD k 0=t.place[k]:=by simp[Array.getD,hk]
  rw[this];exact rC T.ris hk
section
variable{w:Y1}{A:Zj}{E:Z3->ZV->Prop}{s:ZV}{es:Z9 (Int×Z3)}{t:SetTable}
def rg(hb:w.params.followText "set-order"=L)(hh:A.handled=M)(Z:S≠I):Walks prog w A I [I,S] [I] es.length (λi v=>((pickOrder (w.params.setOrder S ep) es.toArray).toList.map (·.2))[i]?=U v)
  (λi h=>aaw h I (rawInt 0) i S es.length ep/\aaz h S es ep t) where
 sub:=λb hb=>by simp_all
 frame:=λ_ _ _ st hk=>⟨st.1.at λo e=>hk I (by simp) o e,st.2.at λo e=>hk S (by simp) o e⟩
 item:=λi s Q E hi st hQ=>by
  have hl:(pickOrder (w.params.setOrder S ep) es.toArray).toList.length=es.length:=by have:=(gE (w.params.setOrder S ep) es.toArray).length_eq;simpa using this
  have t_:i<(pickOrder (w.params.setOrder S ep) es.toArray).size:=by rw[<-Array.length_toList];lia
  refine eW (sl:=0) (nx:=0) (v:=((pickOrder (w.params.setOrder S ep) es.toArray)[i]).2) Z st.1 st.2 (λs R E O hR=>ly hb O (by simp_all)) λh' LP k=>?_;exact hQ _ h' s.toks (by simp[t_]) ⟨LP,st.2.at λo e=>k S o Z e⟩ λb o hb e=>k b o (λz=>hb (by simp[z])) e
 done:=λs Q E st hQ=>by
  have hl:(pickOrder (w.params.setOrder S ep) es.toArray).size=es.length:=by have:=(gE (w.params.setOrder S ep) es.toArray).length_eq;simpa using this
  exact f9 hh st.1 st.2 (λs R E O hR=>ly hb O (by simp_all)) λh' k=>hQ h' s.toks λb o hb e=>k b o (λz=>hb (by simp[z])) e
 self:=λ_ _ _ _ st hQ=>nG st.1 hQ
def qD(hb:w.params.followText "set-order"=Y)(O:t.led=L)(hpl:(!t.plain&&decide (es.toArray.size>1))=Y)(hh:A.handled=M)(p_:S≠I):Walks prog w A I [I,S] [I] es.length (λi v=>(es.map (·.2))[i]?=U v)
  (λi h=>aaw h I (rawInt (jX t i)) i S es.length ep/\aaz h S es ep t) where
 sub:=λb hb=>by simp_all
 frame:=λ_ _ _ st hk=>⟨st.1.at λo e=>hk I (by simp) o e,st.2.at λo e=>hk S (by simp) o e⟩
 item:=λi s Q E hi st hQ=>by
  have hl:=st.2.tab.len;rw[ZW]at hl;have MW:i<t.place.size:=by lia
  refine eW (sl:=jX t i) (nx:=jX t (i+1)) (v:=es[i].2) p_ st.1 st.2 (λs R E Z hR=>jS hb Z O hpl (by
   rw[fg st.2.tab (by lia)];rw[show es.toArray[i]?=U es[i] by simp[hi],Yt MW];have:jX t (i+1)=t.place[i]+1:=by show t.place.getD i 0+1=_;simp[Array.getD,MW]
   rw[this]at hR;exact hR)) λh' LP k=>?_
  exact hQ _ h' s.toks (by simp[hi]) ⟨LP,st.2.at λo e=>k S o p_ e⟩ λb o hb e=>k b o (λz=>hb (by simp[z])) e
 done:=λs Q E st hQ=>by
  have hl:=st.2.tab.len;rw[ZW]at hl;exact f9 hh st.1 st.2 (λs R E Z hR=>jS hb Z O hpl (by
   rw[fg st.2.tab (by lia)];simp;lia)) λh' k=>hQ h' s.toks λb o hb e=>k b o (λz=>hb (by simp[z])) e
 self:=λ_ _ _ _ st hQ=>nG st.1 hQ
def lW{ps:Z9 Nat}(hp:ps.Perm (List.range es.length))(hh:A.handled=M)(p_:S≠I)(hTI:T≠I):Walks prog w A I [I,S,T] [I] es.length (λi v=>((ps.filterMap (es[·]?)).map (·.2))[i]?=U v)
  (λi h=>aaw h I (.ref T) i S es.length ep/\aaz h S es ep t/\∃o n,h.get? T=U o/\o.data=.seq (ps.map λ(k:Nat)=>rawInt k).toArray n) where
 sub:=λb hb=>by simp_all
 frame:=λ_ _ _ st hk=>⟨st.1.at λo e=>hk I (by simp) o e,st.2.1.at λo e=>hk S (by simp) o e,by obtain⟨o,n,e,r⟩:=st.2.2;exact⟨o,n,hk T (by simp) o e,r⟩⟩
 item:=λi s Q E hi st hQ=>by
  have hpl:=hp.length_eq;rw[Xs]at hpl;have O:i<ps.length:=by lia
  have Z:ps[i]<es.length:=Zk.mp (hp.mem_iff.mp (YF O));refine jh (ps:=ps) (p:=ps[i]) (e:=es[ps[i]]) p_ st.1 st.2.1 st.2.2 (by simp[O]) (by simp[Z]) λh' LP k=>?_;refine hQ _ h' s.toks ?_ ⟨LP,st.2.1.at λo e=>k S o p_ e,by obtain⟨o,n,e,r⟩:=st.2.2;exact⟨o,n,k T o hTI e,r⟩⟩ λb o hb e=>k b o (λz=>hb (by simp[z])) e;have e1:ps.filterMap (es[·]?)=ps.map λk=>es.getD k (0,.none):=by
   have K8:∀k∈ps,k<es.length:=λk hk=>Zk.mp (hp.mem_iff.mp hk);clear hpl O Z hp hi hQ st
   induction ps with
   |nil=>rfl
   |cons k ps ih=>
    simp_all
  rw[e1];simp[O,Z]
 done:=λs Q E st hQ=>by
  have hpl:=hp.length_eq;rw[Xs]at hpl;exact lu hh st.1 st.2.1 st.2.2 (by rw[WA (by lia)]) λh' k=>hQ h' s.toks λb o hb e=>k b o (λz=>hb (by simp[z])) e
 self:=λ_ _ _ _ st hQ=>nG st.1 hQ
end
theorem BX(a:ZP):setDrawn a=(do
  let (es,_,t) <-setState a
  let N5 <-setsByText
  return !N5&&(!t.plain&&es.size>1)):=rfl
def tQ:typeLookup (.type "set") "__len__"=pure (U (.builtin "set.__len__")):=F.slot_set_len.lookup
section
variable{A:Zj}
def ye(st:aaz s.heap S es ep t)(Km:t.led=cL w)(hn:es.length<=1000){Q:Z3->ZV->Prop}(hQ:∀(I:ZP)(vs:Z9 Z3)(fp:Z9 ZP)(St:Nat->Heap->Prop)(h':Heap)(d:Drawn),vs.Perm (es.map (·.2))->(∀A':Zj,A'.handled=M->Walks prog w A' I fp [I] es.length (λi v=>vs[i]?=U v) St)->St 0 h'->
   (∀b o,s.heap.get? b=U o->h'.get? b=U o)->s.heap.objs.size<=I->I∈fp->(∀b∈fp,b=S\/s.heap.objs.size<=b)->Q (.ref I) {s with heap:=h',drawn:=d}):wpAny (model prog w) A (pyIter (.ref S)) Q E s:=by
 obtain⟨os,O,hex,Lv⟩:=id st.ob;have hT:s.TypeIs (.ref S) "set":=⟨os,O,hex.1⟩;have Z:S<s.heap.objs.size:=Z1 O;refine wpAny_pyIter_slot hT F.slot_set_iter (YZ F.slot_set_iter hT gK ?_ (F.args_set_iter_1 _));unfold Builtin.«frozenset.__iter__» Builtin.Frozenset.slot0 slotArgs;simp only[List.isEmpty_nil,XQ,ZE,↓reduceIte,bind_assoc,lF,bne_self_eq_false];refine Z_ (Z6 ?_);refine Z_ (Z6 ?_);refine Z_ (Z_ (Xw O Lv st.fits (Z6 ?_)));refine Z_ ?_;refine Z_ (YL O Lv st.fits ?_);refine Z_ ?_;refine Z_ (wpAny_askSetting (Z6 ?_));refine Z6 ?_;have hsz:es.toArray.size=es.length:=by simp
 show wpAny _ _ (if(!w.params.followText "set-order"&&(!t.plain&&decide (es.toArray.size>1)))=L then _ else _) _ _ _;by_cases Qo:(!w.params.followText "set-order"&&(!t.plain&&decide (es.toArray.size>1)))=L;refine qm Qo ?_;refine Z_ (iG es.toArray.size (List.range es.toArray.size) s _ (by simp) λps d hp=>?_);rw[hsz]at hp⊢;have hpl:=hp.length_eq;rw[Xs]at hpl;refine Z_ (Y5 ?_ (by show(ps.map λ(i:Nat)=>rawInt i).toArray.size<=sizeLine;rw[X_];simp;lia));have g1:(s.heap.push {cls:=.type "tuple",data:=.seq (ps.map λ(i:Nat)=>rawInt i).toArray}).get? S=U os:=Z5 _ O;refine Z_ (wpAny_setEpoch_of (s:={s with heap:=s.heap.push {cls:=.type "tuple",data:=.seq (ps.map λ(i:Nat)=>rawInt i).toArray},drawn:=d}) g1 Lv st.fits ?_);refine Z_ (Y5 ?_ (by size_fits));refine Z6 ⟨_,rfl,"set_iterator",_,⟨_,ZX _ rfl,rfl⟩,aG.lookup,?_⟩;have SR:(s.heap.push {cls:=.type "tuple",data:=.seq (ps.map λ(i:Nat)=>rawInt i).toArray}).objs.size=s.heap.objs.size+1:=YV ..;refine hQ (s.heap.push {cls:=.type "tuple",data:=.seq (ps.map λ(i:Nat)=>rawInt i).toArray}).objs.size ((ps.filterMap (es[·]?)).map (·.2)) [(s.heap.push {cls:=.type "tuple",data:=.seq (ps.map λ(i:Nat)=>rawInt i).toArray}).objs.size,S,s.heap.objs.size] _ _ d ((pN hp).1.map _)
  (λA' M0=>lW (T:=s.heap.objs.size) (ps:=ps) (es:=es) (S:=S) (ep:=ep) (t:=t) hp M0 ?_ ?_) ?_ (λb o e=>Z5 _ (Z5 _ e)) ?_ (by simp) ?_
 rw[SR];exact ZA (W5 Z);lia;exact⟨⟨_,ZX _ rfl,rfl,rfl⟩,st.at λo e=>Z5 _ (Z5 _ e),_,_,Z5 _ (ZX _ rfl),rfl⟩;rw[SR];exact W4 _;simp;refine gT Qo ?_;refine Z_ (Z6 ?_);refine Z_ (wpAny_setEpoch_of O Lv st.fits ?_);refine Z_ (Y5 ?_ (by size_fits));refine Z6 ⟨_,rfl,"set_iterator",_,⟨_,ZX _ rfl,rfl⟩,aG.lookup,?_⟩;have fin:∀(vs:Z9 Z3)(St:Nat->Heap->Prop),vs.Perm (es.map (·.2))->(∀A':Zj,A'.handled=M->Walks prog w A' s.heap.objs.size [s.heap.objs.size,S] [s.heap.objs.size] es.length (λi v=>vs[i]?=U v) St)->
   St 0 (s.heap.push {cls:=.type "set_iterator",data:=.fields [rawInt 0,rawInt 0,.ref S,rawInt es.length,rawInt ep].toArray})->
   Q (.ref s.heap.objs.size) {s with heap:=s.heap.push {cls:=.type "set_iterator",data:=.fields [rawInt 0,rawInt 0,.ref S,rawInt es.length,rawInt ep].toArray}}:=λvs St hp W h0=>by
  refine hQ s.heap.objs.size vs [s.heap.objs.size,S] St _ s.drawn hp W h0 (λb o e=>Z5 _ e) (ZU _) (by simp) λb hb=>?_
  grind
 cases Rv:w.params.followText "set-order" with
 |true=>
  refine fin _ _ ?_ (λA' M0=>rg (S:=S) (es:=es) (ep:=ep) (t:=t) Rv M0 (ZA Z)) ⟨⟨_,ZX _ rfl,rfl,rfl⟩,st.at λo e=>Z5 _ e⟩;have:=(gE (w.params.setOrder S ep) es.toArray).map (·.2);simpa using this
 |false=>
  have hpl:(!t.plain&&decide (es.toArray.size>1))=Y:=by
   rw[Rv]at Qo;simpa using Qo
  exact fin _ _ (Xq _) (λA' M0=>qD (S:=S) (es:=es) (ep:=ep) (t:=t) Rv (by lia) hpl M0 (ZA Z)) ⟨⟨_,ZX _ rfl,rfl,rfl⟩,st.at λo e=>Z5 _ e⟩
def m8(hh:A.handled=M)(st:aaz s.heap S es ep t)(Km:t.led=cL w)(hn:es.length<=1000)(hQ:∀(vs:Z9 Z3)(h':Heap)(d:Drawn)(tk:Nat),vs.Perm (es.map (·.2))->(∀b o,s.heap.get? b=U o->h'.get? b=U o)->s.heap.objs.size<=h'.objs.size->Q vs {s with heap:=h',drawn:=d,toks:=tk}):wpAny (model prog w) A (collect (.ref S)) Q E s:=by
 obtain⟨os,TB,hex,Lv⟩:=id st.ob;have PF:S<s.heap.objs.size:=Z1 TB;refine Z_ (Wl (Zr F.entry_proto_collect ?_));refine Z_ (Y5 ?_);refine Z6 ⟨Zd F.plain_list_iadd _,Zr F.entry_list_iadd ?_⟩;generalize hL:s.heap.objs.size=Lq;have Sg:aaz (s.heap.push {cls:=.type "list",data:=.seq ([]:Z9 Z3).toArray}) S es ep t:=st.at λo e=>Z5 _ e;have g0:(s.heap.push {cls:=.type "list",data:=.seq ([]:Z9 Z3).toArray}).get? Lq=U {cls:=.type "list",data:=.seq ([]:Z9 Z3).toArray}:=by rw[<-hL];exact ZX _ rfl
 have OZ:(s.heap.push {cls:=.type "list",data:=.seq ([]:Z9 Z3).toArray}).get? S=U os:=Z5 _ TB;have hT1:Shared.TypeIs {s with heap:=s.heap.push {cls:=.type "list",data:=.seq ([]:Z9 Z3).toArray}} (.ref S) "set":=⟨os,OZ,hex.1⟩
 show wpAny _ A.in1 (Builtin.List.listExtendWith (.ref Lq) (.ref S) (.ref Lq)) _ _ _;refine Z_ (XM hT1 ?_);have h1:Builtin.List.listSameRef (.ref Lq) (.ref S)=Y:=by simp[Builtin.List.listSameRef];rw[<-hL];exact Nat.ne_of_gt PF
 have h2:(Value.type "set"==Value.type "list")=Y:=by decide
 have h3:(Value.type "set"==Value.type "tuple")=Y:=by decide
 simp only[h1,h2,h3,Bool.or_false,ZE,YO];refine Z_ (ye (s:={s with heap:=s.heap.push {cls:=.type "list",data:=.seq ([]:Z9 Z3).toArray}}) Sg Km hn λI vs fp St h' d hp W T7 hk hI hIf Rm=>?_);have Rx:Shared.TypeIs {s with heap:=h',drawn:=d} (.ref S) "set":=⟨os,hk S os OZ,hex.1⟩
 have gL:h'.get? Lq=U {cls:=.type "list",data:=.seq ([]:Z9 Z3).toArray}:=hk Lq _ g0;refine Z_ (Zl ?_);refine Z_ (Ye Rx tQ ?_);generalize Wd:("set.__len__":String)=id0;subst Wd;refine Z_ (X9 (b:=L) Rx (by rfl) ?_);refine Z_ (XM Rx ?_);refine Z6 ?_;refine Z_ (YE ?_);refine Z_ ?_;refine Z_ (Y0 gL rfl ?_);have Uc:=Zz (Obj.mapSeq (·.push Value.none)) gL rfl;refine Y0 Uc rfl ?_;have gL3:=Zz (Obj.mapSeq (·.pop)) Uc rfl;have oth:∀b o,b≠Lq->h'.get? b=U o->((h'.update Lq (Obj.mapSeq (·.push Value.none))).update Lq (Obj.mapSeq (·.pop))).get? b=U o:=
  λb o hb e=>(ZK _ _ (ZF hb)).trans ((ZK _ _ (ZF hb)).trans e)
 have WS:=(W A.in1 (by simp[hh])).toS;have hLS:Lq≠S:=by rw[<-hL];exact Nat.ne_of_gt PF
 have T8:Lq∉fp:=λhm=>by
  rcases Rm Lq hm with e|e;exact hLS e;have e2:s.heap.objs.size+1<=Lq:=by have:=e;rwa[YV]at this
  rw[hL]at e2;exact Zv _ e2
 refine Z6 ⟨Zd XS _,codeAny_extend_loopS WS (by rw[X_];lia) Lq T8 _ es.length 0 _ _ _ rfl (Zm _)
  (WS.frame 0 ({s with heap:=h',drawn:=d}:ZV) _ s.toks T7 (ZU _) λb hb o e=>oth b o (λh=>T8 (h▸hb)) e) gL3 (ItemsOf.nil _) λs' O c' hm G_ Z=>?_⟩
 refine Z_ (Wu G_ ?_);have e1:s'.gens=s.gens:=hm.gens;have e2:s'.drawn=d:=hm.drawn;have e3:s'.os=s.os:=hm.os;obtain⟨Wh,gg',Ov,UW,oo'⟩:=s';simp only at e1 e2 e3;subst e1;subst e3;refine Z6 (hQ O.toList Wh Ov UW ?_ (λb o e=>?_) (by rw[hL];exact XH (Z1 G_)));have:O.toList=vs:=by
  have Og:=hp.length_eq;rw[ZW]at Og;apply W3;intro j;by_cases hj:j<O.size;have:=Z.2 j O[j] (by simp[hj])
  simp_all
  rw[WA (by simpa using hj),WA (by rw[Og,<-Z.1];lia)]
 rw[this];exact hp;have hbL:b≠Lq:=by rw[<-hL];exact ZA (Z1 e)
 have hbI:b≠I:=λz=>by
  have h5:s.heap.objs.size+1<=I:=by have:=hI;rwa[YV]at this
  have:=Z1 e;rw[z]at this;exact absurd (ZC (W5 this) h5) (Zv _)
 refine hm.heap b o (by simp;lia) (oth b o hbL (hk b o (Z5 _ e)))
end
noncomputable def wG(w:Y1)(S:ZP)(ts:Z9 El):HO:=.ext λh=>∃O:Z9 El,O.Perm ts/\aaJ h S (O.map (elE w)) (cL w)
section
variable{X:Cx}{sc:Bool}
def v3(hc:X.calm=L)(hu:X.A.units+64<cLine):dg X (.type "set") (λxs H Q=>∃B l ds ys,xs=[.ref l]/\SqL X.K H l ys/\M1 X.K B H ds ys/\(bQ ds).length<64/\ds.all (bf 8)=L/\(ds.all λd=>scD d==sc)=L/\
  ∀S ts,H S=M->(∀t∈ts,aaQ X.K B H sc t)->(ts.map (·.1)).Nodup->(∀d,d∈ts.map (·.1)↔d∈ds)->Q (.ref S) (upd H S (wG X.w S ts))):=by
 intro pins s σ H xs us Q I r h;obtain⟨B,l,ds,ys,rfl,hq,rs,Lo,Wf,Qc,q⟩:=h;obtain⟨u,rfl,rx⟩:=fq r;cases rx;obtain⟨its,rv,pl,hz⟩:=I.list hq;have l1:=rs.length;have l2:=rv.length;refine rE (B:=B) (sc:=sc) I (I.ok.hd hc) (by lia) pl.isList ds (by simp;lia) (by lia) (λi v d hv hd=>?_) λh' tk ts hk O=>?_;obtain⟨x,hx,rx⟩:=rs.get hd;obtain⟨u,KL,ru⟩:=rv.get hx;have:u=v:=by
  have:its[i]?=U v:=by simpa using hv
  rw[KL]at this;exact Z7 this
 subst this;have hm:=Zs hd;exact⟨x,rx,ru,Z2.mp Wf d hm,XC.mp (Z2.mp Qc d hm)⟩;have MY:H s.z=M:=I.fresh;refine⟨.ref s.z,_,I.laid (a:=s.z) (o:=wG X.w s.z ts) (h':=h') (t':=tk) hk (ZU _) ?_,rfl,q _ ts MY O.ok O.nd O.mem⟩;obtain⟨o,ep,t,ho,r⟩:=O.at';exact⟨⟨ts,Xq _,o,ep,t,ho,r⟩,⟨o,ho⟩,λh1 h2 ⟨Z,p,a⟩ k=>⟨Z,p,a.same k⟩⟩
def im(hc:bL ds=L)(hp:es.Perm ds):bK es=bK ds/\bL es=L:=by
 have Z:bL es=L:=by
  unfold bL;rw[Z2];intro x hx;rw[ZQ];have O:=hp.mem_iff.mp hx;refine⟨cK hc O,?_⟩;rw[Z2];intro y hy;obtain⟨b,e⟩:=dz hc O (hp.mem_iff.mp hy);rw[e];rfl
 exact⟨cg hc _ _ (λy hy=>hp.mem_iff.mp ((ax es).mem_iff.mp hy)) ((ax es).trans (hp.trans (ax ds).symm)) (bp Z) (bp hc),Z⟩
theorem oK{K:Z4}{B:ZP->Prop}{H:Hp}:∀{ts:Z9 El},(∀t∈ts,aaQ K B H sc t)->M1 K B H (ts.map (·.1)) (ts.map (·.2.1))/\aac (ts.map (·.2.1)) (ts.map (·.2.2))
 |[],_=>⟨M1.nil,.nil⟩
 |t::ts,h=>by
  obtain⟨a,b⟩:=oK (ts:=ts) λz hz=>h z (ZY _ hz);have O:=h t (ZR ..);exact⟨M1.cons O.rep a,.cons O.rel b⟩
def lL(hc:X.calm=L)(hu:X.A.units+64<cLine):dg X (.builtin "sorted") (λxs H Q=>∃B S ts,xs=[.ref S]/\H S=U (wG X.w S ts)/\(∀t∈ts,aaQ X.K B H sc t)/\ts.length<64/\bL (ts.map (·.1))=L/\(ts.map (·.1)).all (dw c)=L/\
  ∀l zs,H l=M->M1 X.K B H (bK (ts.map (·.1))) zs->Q (.ref l) (upd H l (.lst zs))):=by
 intro pins s σ H xs us Q I r h;obtain⟨B,S,ts,rfl,hS,hok,Lo,Nt,hk,q⟩:=h;obtain⟨u,rfl,rx⟩:=fq r;cases rx;obtain⟨⟨Z,p1,o,ep,t,ho,hex,hd,T,hf,Km⟩,_,_⟩:=I.hok S _ hS;have hl:=T.len;have K5:=p1.length_eq;rw[ZW,ZW]at hl;have st:aaz s.heap S (Z.map (elE X.w)) ep t:=⟨⟨o,ho,hex,hd⟩,T,by lia⟩
 refine Xx kind_sorted Wj Wi (args_sorted1 _) ?_;refine Z_ (m:=checkCount "sorted" 1 1 _) (Z6 (Z_ (m8 (by simp[I.ok.hd hc]) st Km (by rw[ZW];lia) λvs h' d tk hp KW hsz=>?_)));have Mp:vs.Perm (Z.map (·.2.2)):=by rw[Zb]at hp;exact hp
 obtain⟨O,p2,rfl⟩:=bE (λt:El=>t.2.2) Mp Z rfl;have p3:O.Perm ts:=p2.trans p1;have Sl:∀t∈O,aaQ X.K B H sc t:=λt ht=>hok t (p3.mem_iff.mp ht);obtain⟨rs,rv⟩:=oK Sl;obtain⟨es,Su⟩:=im Nt (p3.map (·.1));have Nn:(O.map (·.1)).all (dw c)=L:=by
  rw[Z2]at hk⊢;exact λx hx=>hk x ((p3.map (·.1)).mem_iff.mp hx)
 have hlen:=p3.length_eq;refine cy (s:={s with drawn:=d}) (t1:=tk) hu (I.drawn d) KW hsz rs rv (by rw[ZW,X_];lia) Su (by unfold kkD;rw[Nn,Bool.or_true,YC];exact Zx (by rw[ZW];lia)) λl zs LR rz=>q l zs LR (es▸rz)
def wz(Z:bL ds=L)(h:∀x∈es,x∈ds):bL es=L:=by
 unfold bL;rw[Z2];intro x O;rw[ZQ];refine⟨cK Z (h x O),?_⟩;rw[Z2];intro y hy;obtain⟨b,e⟩:=dz Z (h x O) (h y hy);rw[e];rfl
noncomputable def _root_.L2.aas(c:KD)(sc:Bool)(x:Z8 D):Z8 D:=match x with
 |some (.lst ds)=>if(decide ((bQ ds).length<64)&&bL ds&&ds.all (dw c)&&ds.all (bf 8)&&ds.all λd=>scD d==sc)=L then U (.lst (bK (bQ ds))) else M
 |_=>M
variable{a:Expr}{fa:iv->Z8 D}{pos j_ p p2:Pos}
theorem _root_.L2.abv(hu:X.A.units+64<cLine)(hc:X.calm=L)(g:Gl X "sorted")(hm:X.mg "sorted"=M)(g2:Gl X "set")(OQ:X.mg "set"=M)(ha:DE X Y a fa)(hs:starEach [a] X.env=[(Y,eval a X.env)]:=by rfl)(O:starEach [.Call (.Name "set" p2) [a] [] j_] X.env=[(Y,eval (.Call (.Name "set" p2) [a] [] j_) X.env)]:=by rfl):
  DF X (.Call (.Name "sorted" p) [.Call (.Name "set" p2) [a] [] j_] [] pos) (λδ=>aas c sc (fa δ)):=
 (bH (lL (c:=c) (sc:=sc) hc hu) g hm cJ (au (cM (v3 (sc:=sc) hc hu) g2 OQ CW (au ha aM hs) (he:=hs)) aM O) (he:=O)).imp λσ H Q ⟨B,Hk,δ,d,R,e,k⟩=>by
  unfold aas at e;dsimp only at e;split at e;rename_i ds qd;by_cases cc:(decide ((bQ ds).length<64)&&bL ds&&ds.all (dw c)&&ds.all (bf 8)&&ds.all λd=>scD d==sc)=L;rw[ZM cc]at e;cases e;rw[ZQ,ZQ,ZQ,ZQ]at cc;obtain⟨⟨⟨⟨c1,c2⟩,c3⟩,c4⟩,c5⟩:=cc;refine⟨B,Hk,δ,_,R,qd,λv H' s r=>?_⟩;have R':=R.to s;obtain⟨l,xs,rfl,hq,rs⟩:=r;refine⟨bq Y B δ σ,l,ds,xs,rfl,hq.sq,rs,Zy c1,c4,c5,λS ts hS hok VW Z=>?_⟩;have s2:=ar (o:=wG X.w S ts) hS;have hp:(ts.map (·.1)).Perm (bQ ds):=(YA VW (aV ds)).mpr λx=>(Z x).trans (aK x ds).symm;have hl:=hp.length_eq;rw[ZW]at hl;have c1':=Zy c1;have c2':bL (bQ ds)=L:=wz c2 λx hx=>(aK x ds).mp hx;obtain⟨es,Nt⟩:=im c2' hp;refine⟨bq Y B δ σ,S,ts,rfl,ah,λt ht=>?_,by lia,Nt,?_,λl' zs LR rz=>?_⟩;have q:=hok t ht;exact⟨q.rep.same (m:=Y) R' s2,q.rel,q.has,q.sc⟩
  .grind
  have s3:=ar (o:=.lst zs) LR;have R2:=R'.to s2;rw[es]at rz;exact k l' _ (s.trans (s2.trans s3)) (s.free (s2.free LR)) ⟨_,ah,rz.same (m:=Y) R2 s3⟩;rw[ZH cc]at e;cases e;cases e
end
end L2.G
namespace L2
open PySem PySem.Spec PyProof.Rows PySem.W
section
theorem iM:∀{l:Frag},l.lookup a=U o->(a,o)∈l
 |[],h=>nomatch h
 |(b,p)::l,h=>by
  rw[List.lookup_cons]at h;cases e:a==b with
  |true=>rw[e]at h;cases h;rw[XC.mp e];exact .head _
  |false=>rw[e]at h;exact .tail _ (iM h)
def xh(h:Heap):(Am h).In h:=λa o e=>by
 obtain⟨b,_,hb⟩:=XT.mp (iM e);obtain⟨p,h1,O⟩:=Option.bind_eq_some_iff.mp hb;split at O;lia;cases O
structure Seen (defs:List (Str×Stmt))(bl:List Str)(cs:List (Str×ZP))(K:Frag):Prop where
 fn:defs.map (λp=>EX K p.1)=defs.map λp=>some (xQ p.1 p.2)
 bl:bl.map (nsIn K mainGlobals)=bl.map λ_=>some none
 cd:cs.map (λp=>pH K p.1)=cs.map λp=>some (.ref p.2)
theorem ut{O Z:Type}{f g:O->Z}:∀{l:Z9 O}{i:Nat}{x:O},l.map f=l.map g->l[i]?=U x->f x=g x
 |[],_,_,_,h=>by simp at h
 |y::l,0,x,e,h=>by cases h;exact(Yo e).1
 |y::l,i+1,x,e,h=>ut (Yo e).2 h
def map_mem{O Z:Type}{f g:O->Z}{l:Z9 O}{x:O}(e:l.map f=l.map g)(h:x∈l):f x=g x:=by
 simp_all
section
variable{defs:Z9 (Str×Stmt)}{bl:Z9 Str}{cs:Z9 (Str×ZP)}{K:Frag}{h:Heap}{mg:Str->Z8 Z3}
set_option tactic.hygienic true in
def Seen.df0(S:Seen defs bl cs K)(X:K.In h)(G:h.Ns mainGlobals mg)(i:Nat){x:Str}{st:Stmt}(e:defs[i]?=U (x,st)):∃f fd,Fun K x x st f fd/\mg x=U (.ref f)/\pH K x=U fd.code:=by
 have q:EX K x=U (xQ x st):=ut S.fn e;unfold EX at q;unfold pH;split at q;rename_i f hf;split at q;rename_i oc od fd sl O;split at q;rename_i hc;refine⟨f,fd,⟨⟨oc,od,fd.kwdefaults,fd.doc,fd.pyModule,fd.annotations,fd.code,fd.closureTuple,sl,?_,O,hc⟩,?_⟩,mg_of X G hf,rfl⟩;have Z:=Z7 q;obtain⟨a1,a2,a3,a4,a5,a6,a7,a8,a9,a10,a11,a12,a13,a14,a15⟩:=fd;simp only[Du,xQ,Prod.mk.injEq]at Z;lia;unfold keepIn;dsimp only;rw[O];cases q;cases q;cases q
def Seen.df(S:Seen defs bl cs K)(X:K.In h)(G:h.Ns mainGlobals mg)(i:Nat){x:Str}{st:Stmt}(e:defs[i]?=U (x,st)):∃f fd,Fun K x x st f fd/\mg x=U (.ref f):=by
 obtain⟨f,fd,F,O,_⟩:=S.df0 X G i e;exact⟨f,fd,F,O⟩
def Seen.dfC(S:Seen defs bl cs K)(X:K.In h)(G:h.Ns mainGlobals mg)(i j:Nat){x:Str}{st:Stmt}{c:ZP}(e:defs[i]?=U (x,st))(e':cs[j]?=U (x,c)):∃f fd,Fun K x x st f fd/\mg x=U (.ref f)/\fd.code=.ref c:=by
 obtain⟨f,fd,F,O,Z⟩:=S.df0 X G i e;exact⟨f,fd,F,O,Z7 (Z.symm.trans (ut S.cd e'))⟩
def Seen.txt(S:Seen defs bl cs K)(X:K.In h)(G:h.Ns mainGlobals mg):∀x∈bl,mg x=M:=λx O=>mg_none_of X G (map_mem S.bl O)
end
variable[Lams]
def GT(cs:Z9 (Str×ZP))(K:Frag):Prop:=(Lams.tb.zip cs).map (λq=>codeHdIn K q.2.2 q.1.1)=(Lams.tb.zip cs).map (λ_=>L)/\Lams.tb.map (λq=>K.lookup q.1)=Lams.tb.map (λ_=>M)
def YH(defs:Z9 (Str×Stmt))(bl:Z9 Str)(cs:Z9 (Str×ZP))(_:Y1)(h:Heap):Prop:=∃K:Frag,K.In h/\Seen defs bl cs K/\Lams.tb.map (λq=>h.get? q.1)=Lams.tb.map (λ_=>U G1)/\GT cs K
def yh_of(w:Y1)(s:ZV)(e:YfH defs bl cs s=YaH defs bl cs w):YH defs bl cs w s.heap:=by
 unfold YfH YaH at e;simp only[Prod.mk.injEq]at e;exact⟨Am s.heap,xh _,⟨e.1,e.2.1,e.2.2.1⟩,e.2.2.2.1,e.2.2.2.2.1,e.2.2.2.2.2⟩
def yh_keeps(w:Y1)(h h':Heap)(y:YH defs bl cs w h)(k:∀b o,h.get? b=U o->h'.get? b=U o):YH defs bl cs w h':=by
 obtain⟨K,hK,hS,O,hc⟩:=y;refine⟨K,hK.keeps k,hS,?_,hc⟩;exact Y4 λq Z=>k _ _ (map_mem O Z)
theorem uR{O Z:Type}:∀{l:Z9 O}{m:Z9 Z}{x:O},l.length=m.length->x∈l->∃y,(x,y)∈l.zip m
 |a::l,b::m,x,e,h=>by
  rcases ZT.mp h with rfl|h;exact⟨b,.head _⟩;obtain⟨y,hy⟩:=uR (Nat.succ.inj e) h;exact⟨y,.tail _ hy⟩
def walk_H{l:OpenLaw}{d:DefRec}{cs:Z9 (Str×ZP)}{sp:Frag->Sp}(hn:l.most=U n)(MU:n<=sizeLine)(Ol:d.params.defaults=[])(hr:aaq k callerA)(hcs:Lams.tb.length=cs.length)(F:∀(w:Y1)(mg:Str->Z8 Z3)(fa:ZP)(h:Heap)(K:Frag),Seen defs bl cs K->GT cs K->K.In h->h.Ns mainGlobals mg->mg d.name=U (.ref fa)->
   ∃fd:FuncData,(∀(s:ZV)(u:Z3),BindsTo s fd ⟨[u],[]⟩ [(x,u)])/\
    ∀base:Heap,K.In base->base.Ns mainGlobals mg->abk l.prog w K mg base CX k fa fd [x] (sp K)) (MS:∀(K:Frag)(H:Hp)(a:ZP)(ns:Z9 Int),ns.length<=n->FN H->SqL K H a (ns.map V.int)->sp K [.ref a] H (λv _=>v=.bl L) λ_ _ _=>False) (Ry:∀(H:Hp)(s:ZV)(e:Z3)(s':ZV),CX [] H s (λ_ _ _=>False) e s'->False) (OY:∀q∈Lams.tb,∀r∈Lams.tb,q.1=r.1->q=r):
  WalkO q loose XP (YH defs bl cs) l.row.toRowW d [] (λf vs=>PySem.call f vs):=by
 refine Att.abF hn Ol λw e_ a_ mg mb fa o pm cd doc a vs ns G Yq ho hd Ks hmg NO Z O hg=>?_;obtain⟨K,KX,S,ht,hL⟩:=Yq;obtain⟨fd,hb,hF⟩:=F w mg fa _ K S hL KX G.T.g hmg;exact wH KX G.T.g G.T.b G.T.builtins G.T.nolimit hg NO Z (ZL O MU) hr hF hb (λH hO hS=>MS K H a ns O hO hS) (λH e s'=>Ry H a_ e s') G.T.bmain (λq hq=>⟨map_mem ht hq,map_mem hL.2 hq,by
  obtain⟨c,hz⟩:=uR hcs hq;obtain⟨o,vs,_,_,_,_,_,_,_,e1,e2,e3,e4,_⟩:=codeHd_of_K KX (map_mem hL.1 hz);exact⟨c.2,o,vs,e1,e2,e3,e4⟩⟩) OY
end
section
variable{prog:Za}{w:Y1}{A:Zj}{R:Result->ZV->Prop}{I:ZP}{fp wr:Z9 ZP}{n:Nat}{P:Nat->Z3->Prop}{St:Nat->Heap->Prop}{kw:Z9 (Str×Z3)}
def wd(W:Walks prog w A.in1 I fp wr n P St)(bt:Nat->Nat->Bool)(Kz:CmpOf prog w A.in1 .Gt P bt)(S:ZP)(K1:S∉fp):
  ∀(k j:Nat)(s:ZV)(vb:Z3)(c:Nat),n - (j+1)=k->j+1<=n->St (j+1) s.heap->P (argBest bt j) vb->
  s.heap.get? S=U {cls:=.type "list",dict:=M,data:=.seq #[vb,vb] c,slots:=#[]}->
  (∀v h' tk,P (argBest bt (n - 1)) v->(∀b o,b∉wr->b≠S->s.heap.get? b=U o->h'.get? b=U o)->R (.ok (.ret v)) {s with heap:=h',toks:=tk})->
  codeAny (model prog w) A (.builtin "max.loop" ⟨[.ref I,.none,.ref S],kw⟩) R s:=by
 have LN:S∉wr:=λh=>K1 (W.sub _ h);have E_:(toString "max"++toString ".loop":String)="max.loop":=by decide
 intro k
 induction k with
 |zero=>
  intro j s vb c hk hj n_ Mw hS hR;have Lu:j+1=n:=by lia
  refine Zr WR ?_;refine Z_ (Y9 hS rfl ?_);refine Z_ (Yl (W.done s _ _ (Lu▸n_) λh' tk Z=>?_));have G_:=Z S _ LN hS;refine Z_ ?_;refine Y0 G_ rfl (Z_ (Yj (Z6 ?_)));refine hR vb _ tk (by rw[<-Lu];exact Mw) λb o O LM e=>(ZK _ _ (ZF LM)).trans (Z b o O e)
 |succ k ih=>
  intro j s vb c hk hj n_ Mw hS hR;have d_:j+1<n:=by lia
  refine Zr WR ?_;refine Z_ (Y9 hS rfl ?_);refine Z_ (Yl (W.item (j+1) s _ _ d_ n_ λv h' tk hP Kd Z=>?_));have G_:=Z S _ LN hS;show wpAny _ A.in1 (tryCatch (holding [v,v] (richCompare .Gt v vb >>= _)) _ >>= _) _ _ _;refine Z_ (Yl (Zl (Z_ (Kz (j+1) (argBest bt j) v vb _ _ _ hP Mw ?_))));refine Z_ (Zl (YR ?_));refine Z_ (Yj (Z6 ?_));cases hb:bt (j+1) (argBest bt j)with
  |true=>
   simp only[YB];refine Z_ ?_;refine Y0 G_ rfl (Z_ (Yj ?_));rw[E_];refine Z6 ⟨Zd XW _,ih (j+1) _ v _ (by lia) d_ (W.frame _ _ _ Kd λb Nu o e=>?_) (by simp only[argBest,hb,YB];exact hP) (Zz _ G_ rfl)
    λv' Nx LW O1 L3=>?_⟩
   exact(ZK _ _ (λh:S=b=>K1 (by rw[h];exact Nu))).trans e;exact hR v' Nx LW O1 λb o O LM e=>L3 b o O LM ((ZK _ _ (ZF LM)).trans (Z b o O e))
  |false=>
   simp only[ZE,YO];refine Z_ (Yj ?_);rw[E_];refine Z6 ⟨Zd XW _,ih (j+1) _ vb c (by lia) d_ Kd (by simp only[argBest,hb,ZE,YO];exact Mw) G_ λv' Nx LW O1 L3=>?_⟩;exact hR v' Nx LW O1 λb o O LM e=>L3 b o O LM (Z b o O e)
def vS(W:Walks prog w A.in1 I fp wr n P St)(bt:Nat->Nat->Bool)(Kz:CmpOf prog w A.in1 .Gt P bt)(S:ZP)(K1:S∉fp)(n_:St 0 s.heap)(hS:s.heap.get? S=U {cls:=.type "list",dict:=M,data:=.seq #[] c,slots:=#[]})(hR:∀v h' tk,(n=0/\v=d\/0<n/\P (argBest bt (n - 1)) v)->(∀b o,b∉wr->b≠S->s.heap.get? b=U o->h'.get? b=U o)->R (.ok (.ret v)) {s with heap:=h',toks:=tk}):
  codeAny (model prog w) A (.builtin "max.loop" ⟨[.ref I,.none,.ref S],[(x,d)]⟩) R s:=by
 have LN:S∉wr:=λh=>K1 (W.sub _ h);have E_:(toString "max"++toString ".loop":String)="max.loop":=by decide
 refine Zr WR ?_;rw[XZ XW _];show wpAny _ A.in1 (seqItems? (.ref S) >>= _) _ _ s;refine Z_ (Y9 hS rfl ?_);show wpAny _ A.in1 (tryCatch (pyNext (.ref I)) _ >>= _) _ _ s;by_cases hn:0<n;refine Z_ (Yl (W.item 0 s _ _ hn n_ λv h' tk hP Kd O=>?_));have G_:=O S _ LN hS;show wpAny _ A.in1 (updateSeq S (λ_=>#[v,v]) >>= _) _ _ _;refine Z_ ?_;refine Y0 G_ rfl ?_;rw[E_];refine Z6 ⟨Zd XW _,wd W bt Kz S K1 _ 0 _ v _ rfl hn (W.frame _ _ _ Kd λb Nu o e=>?_) hP (Zz _ G_ rfl) λv' Nx LW O1 L3=>?_⟩;exact(ZK _ _ (λh:S=b=>K1 (by rw[h];exact Nu))).trans e;exact hR v' Nx LW (.inr ⟨hn,O1⟩) λb o Z LM e=>L3 b o Z LM ((ZK _ _ (ZF LM)).trans (O b o Z e))
 .have h0:n=0:=by lia
  refine Z_ (Yl (W.done s _ _ (h0▸n_) λh' tk O=>?_));show wpAny _ A.in1 (rule _ >>= λ_=>ret d) _ _ _;exact Z_ (YE (Z6 (hR d h' tk (.inl ⟨h0,rfl⟩) λb o Z _ e=>O b o Z e)))
end
variable[Lams]
def vY(a v:Z3):argsOk "max" ⟨[a],[(Str.ofString "default",v)]⟩:=by rfl
section
variable{prog:Za}{w:Y1}{A:Zj}{E:Z3->ZV->Prop}{s:ZV}
def uD(h:wpAny (model prog w) A.in1 (pyIter x) (λit O=>∃I fp wr n P St bt,it=.ref I/\Walks prog w A.in1 I fp wr n P St/\St 0 O.heap/\(∀b∈fp,b<O.z)/\CmpOf prog w A.in1 .Gt P bt/\
   ∀v h' tk,(n=0/\v=d\/0<n/\P (argBest bt (n - 1)) v)->(∀b o,b∉wr->O.heap.get? b=U o->h'.get? b=U o)->Q v {O with heap:=h',toks:=tk}) E s):
  wpAny (model prog w) A (call (.builtin "max") [x] [(Str.ofString "default",d)]) Q E s:=by
 refine kmb_tree F.kind_max F.plain_max F.entry_max (vY _ _) ?_;refine Z_ (Xe (show Builtin.Builtins.bindParams "max" ["key","default"] 0 ⟨[],[(Str.ofString "default",d)]⟩=pure [M,U d] from rfl) ?_);refine Z_ (Z6 ?_);refine Z_ (YS h (λit O Z=>?_) λ_ _ e=>e);obtain⟨I,fp,wr,n,P,St,bt,rfl,W,n_,Rm,Kz,hQ⟩:=Z;refine Z_ (Y5 ?_);have K1:O.z∉fp:=λhm=>Zv _ (Rm _ hm);refine Z6 ⟨Zd XW _,vS W bt Kz O.z K1 (W.frame _ _ _ n_ λb _ o e=>Z5 _ e) (ZX _ rfl) λv h' tk hP hk=>?_⟩;exact hQ v h' tk hP λb o Qp e=>hk b o Qp (ZA (Z1 e)) (Z5 _ e)
end
noncomputable def eE(ns:Z9 Int):Int:=ns.getD (argBest (λi j=>decide (ns.getD i 0>ns.getD j 0)) (ns.length - 1)) 0
noncomputable def lB(x y:Z8 D):Z8 D:=match x,y with
 |some (.lst ds),some (.int d)=>(match gU ds with|some ns=>U (.int (if ns=[] then d else eE ns))|none=>M)
 |_,_=>M
def p0(h:lB x y=U d):∃(ns:Z9 Int)(i:Int),x=U (.lst (ns.map D.int))/\y=U (.int i)/\d=.int (if ns=[] then i else eE ns):=by
 unfold lB at h;split at h;split at h;rename_i q;obtain rfl:=Z7 h;obtain rfl:=hU q;exact⟨_,_,rfl,rfl,rfl⟩;trivial;trivial
theorem cZ(bt:Nat->Nat->Bool):∀k,argBest bt k<=k
 |0=>ZU _
 |k+1=>by
  unfold argBest;split;exact ZU _;exact XN (cZ bt k)
theorem Ef:bootBuiltins "max"=U (.builtin "max"):=by rfl
def Ei:bootBuiltins "min"=U (.builtin "min"):=by rfl
section
variable{X:Cx}{m m' mm:Bool}{a b:Expr}{fa fb:iv->Z8 D}{pos p kp:Pos}
theorem AU(hc:X.calm=L)(g:Gl X "max")(hm:X.mg "max"=M)(ha:DE X Y a fa)(hb:DE X Y b fb)(hs:starEach [a] X.env=(Y,eval a X.env)::starEach [] X.env:=by rfl):
  DE X mm (.Call (.Name "max" p) [a] [⟨U "default",b,kp⟩] pos) (λq=>lB (fa q) (fb q)):=by
 intro pins s σ H Q I Q_;obtain⟨B,Hk,q,d,R,e,kk⟩:=Q_;obtain⟨ns,i,Oj,hfb,rfl⟩:=p0 e;refine YD (cF I g hm Ef ?_ (by decide) (by decide));refine callWith_kw (thn ((au ha aM hs) pos pins s σ H (λvs H1=>∃v,vs=[v]/\aab H H1/\Rep X.K B H1 (.lst (ns.map D.int)) v) I ⟨B,Hk,q,_,R,Oj,λv H1 s1 r1=>⟨v,rfl,s1,r1⟩⟩) λus s1 ⟨vs,H1,I1,r1,v,hv,sm,rp⟩=>?_) ?_ ?_ rfl rfl;subst hv;obtain⟨u,rfl,ru⟩:=fq r1;show wpAny _ _ (evalAll [do let v <-eval b X.env;standAt pos;pure v]) _ _ _;unfold evalAll;have R1:Rel X.K B Hk q σ H1:=R.to sm;refine Z_ (Z_ (thn (hb pins s1 σ H1 (λv2 H2=>aab H1 H2/\v2=.int i) I1 ⟨B,Hk,q,_,R1,hfb,λv2 H2 s2 r2=>⟨s2,by simpa only[Rep]using r2⟩⟩) λu2 s2 hz=>?_));obtain⟨v2,H2,I2,r2,SW,rfl⟩:=hz;refine Z_ (wpAny_standAt (Z6 ?_));unfold evalAll;refine Z_ (Zl (Z6 (Z6 ?_)));have MQ:=rp.ext (SW.ext R1.abo);simp only[Rep]at MQ;obtain⟨l,xs,rfl,Nj,rs⟩:=MQ;cases ru;obtain rfl:=rs.ints;obtain⟨its,hv,pl,hz⟩:=I2.list Nj.sq;have hlen:=hv.length;rw[ZW]at hlen;show wpAny (model X.prog X.w) X.A (call (.builtin "max") [.ref l] [(Str.ofString "default",u2)]) _ _ _;have p_:l≠s2.z:=ZA (by obtain⟨o,e,_⟩:=pl.isList;exact Z1 e);refine uD (Yg pl.isList ⟨s2.z,_,_,its.toArray.size,_,_,λi j=>decide (ns.getD i 0>ns.getD j 0),rfl,Walks.list (A:=X.A.in1) (show X.A.in1.handled=M from I2.ok.hd hc) s2.z l p_ its.toArray,⟨⟨_,ZX _ rfl,rfl,rfl⟩,pl.isList.push _⟩,?_,CmpOf.ints_gt (λi=>ns.getD i 0) λi v hi=>?_,λv h' tk Lk hk=>?_⟩);intro b hb;obtain⟨o,e,_⟩:=pl.isList;have hl:=Z1 e;simp at hb;show b<(Heap.push _ _).objs.size;rw[YV];rcases hb with rfl|rfl;exact Yr _;exact W5 hl;have Lk:its[i]?=U v:=by simpa using hi
 have t_:i<ns.length:=by have:=(ZO.mp Lk).1;lia
 obtain⟨v',e1,e2⟩:=hv.get (i:=i) (x:=.int ns[i]) (by simp[t_]);rw[Lk]at e1;obtain rfl:=Z7 e1;obtain⟨t,rfl⟩:=e2;exact⟨t,by simp[t_]⟩;refine⟨.int (if ns=[] then i else eE ns),H2,?_,?_,kk _ H2 (sm.trans SW) (by simp only[Rep])⟩;exact I2.kept (t':=tk) λb o eb=>hk b o (λz=>by
  have:b=s2.z:=by simpa using z
  rw[this]at eb;exact absurd (Z1 eb) (Zv _)) (Z5 _ eb)
 rcases Lk with⟨h0,rfl⟩|⟨h0,hP⟩;have:ns=[]:=Xy.mp (by simpa[hlen]using h0);rw[ZM this];exact r2;have hn:0<ns.length:=by simpa[hlen]using h0
 rw[ZH (X2.mp hn)];have hsz:its.toArray.size - 1=ns.length - 1:=by simp[hlen]
 rw[hsz]at hP;have hb1:=cZ (λi j=>decide (ns.getD i 0>ns.getD j 0)) (ns.length - 1);have VF:its[argBest (λi j=>decide (ns.getD i 0>ns.getD j 0)) (ns.length - 1)]?=U v:=by simpa using hP
 obtain⟨v',e1,e2⟩:=hv.get (i:=argBest (λi j=>decide (ns.getD i 0>ns.getD j 0)) (ns.length - 1)) (x:=.int (eE ns)) (by
  unfold eE;rw[Zg,Zf,YW (by lia)];rfl)
 rw[VF]at e1;obtain rfl:=Z7 e1;exact e2;rw[hs];rfl;rw[hs];rfl
end
section
variable{prog:Za}{w:Y1}{A:Zj}{R:Result->ZV->Prop}{I:ZP}{fp wr:Z9 ZP}{n:Nat}{P:Nat->Z3->Prop}{St:Nat->Heap->Prop}{s0:ZV}{S:ZP}{bt:Nat->Nat->Bool}
abbrev m7(wr:Z9 ZP)(S:ZP)(O h:Heap):Prop:=∀b o,b∉wr->b≠S->O.get? b=U o->h.get? b=U o
def xM(W:Walks prog w A.in1 I fp wr n P St)(Kz:∀i j vi vj h tk,m7 wr S s0.heap h->P i vi->P j vj->aba A.in1 {s0 with heap:=h,toks:=tk} vi vj (bt i j))(K1:S∉fp):
  ∀(k j:Nat)(h:Heap)(tk:Nat)(vb:Z3)(c:Nat),m7 wr S s0.heap h->n - (j+1)=k->j+1<=n->St (j+1) h->P (argBest bt j) vb->
  h.get? S=U {cls:=.type "list",dict:=M,data:=.seq #[vb,vb] c,slots:=#[]}->
  (∀v h' tk,P (argBest bt (n - 1)) v->m7 wr S s0.heap h'->R (.ok (.ret v)) {s0 with heap:=h',toks:=tk})->
  codeAny (model prog w) A (.builtin "min.loop" ⟨[.ref I,.none,.ref S],[]⟩) R {s0 with heap:=h,toks:=tk}:=by
 have LN:S∉wr:=λh=>K1 (W.sub _ h);have E_:(toString "min"++toString ".loop":String)="min.loop":=by decide
 intro k
 induction k with
 |zero=>
  intro j h tk vb c O7 hk hj n_ Mw hS hR;have Lu:j+1=n:=by lia
  refine Zr WT ?_;refine Z_ (Y9 hS rfl ?_);refine Z_ (Yl (W.done _ _ _ (Lu▸n_) λh' MP Mm=>?_));have G_:=Mm S _ LN hS;refine Z_ ?_;refine Y0 G_ rfl (Z_ (Yj (Z6 ?_)));exact hR vb _ _ (by rw[<-Lu];exact Mw) λb o O Z e=>(ZK _ _ (ZF Z)).trans (Mm b o O (O7 b o O Z e))
 |succ k ih=>
  intro j h tk vb c O7 hk hj n_ Mw hS hR;have d_:j+1<n:=by lia
  refine Zr WT ?_;refine Z_ (Y9 hS rfl ?_);refine Z_ (Yl (W.item (j+1) _ _ _ d_ n_ λv h' MP hP Kd Mm=>?_));have G_:=Mm S _ LN hS;have RB:m7 wr S s0.heap h':=λb o O Z e=>Mm b o O (O7 b o O Z e);show wpAny _ A.in1 (tryCatch (holding [v,v] (richCompare .Lt v vb >>= _)) _ >>= _) _ _ _;refine Z_ (Yl (Zl (Z_ (Kz (j+1) (argBest bt j) v vb _ _ RB hP Mw _ _ _ _ ?_))));refine Z_ (Zl (YR ?_));refine Z_ (Yj (Z6 ?_));cases hb:bt (j+1) (argBest bt j)with
  |true=>
   simp only[YB];refine Z_ ?_;refine Y0 G_ rfl (Z_ (Yj ?_));rw[E_];refine Z6 ⟨Zd XX _,ih (j+1) _ _ v _ (λb o O Z e=>(ZK _ _ (ZF Z)).trans (RB b o O Z e)) (by lia) d_ (W.frame _ _ _ Kd λb Nu o e=>?_) (by simp only[argBest,hb,YB];exact hP) (Zz _ G_ rfl) hR⟩;exact(ZK _ _ (λh:S=b=>K1 (by rw[h];exact Nu))).trans e
  |false=>
   simp only[ZE,YO];refine Z_ (Yj ?_);rw[E_];exact Z6 ⟨Zd XX _,ih (j+1) _ _ vb c RB (by lia) d_ Kd (by simp only[argBest,hb,ZE,YO];exact Mw) G_ hR⟩
def vg(W:Walks prog w A.in1 I fp wr n P St)(Kz:∀i j vi vj h tk,m7 wr S s0.heap h->P i vi->P j vj->aba A.in1 {s0 with heap:=h,toks:=tk} vi vj (bt i j))(Z:S∉fp)(hn:0<n)(O7:m7 wr S s0.heap h)(n_:St 0 h)(hS:h.get? S=U {cls:=.type "list",dict:=M,data:=.seq #[] c,slots:=#[]})(hR:∀v h' tk,P (argBest bt (n - 1)) v->m7 wr S s0.heap h'->R (.ok (.ret v)) {s0 with heap:=h',toks:=tk}):
  codeAny (model prog w) A (.builtin "min.loop" ⟨[.ref I,.none,.ref S],[]⟩) R {s0 with heap:=h,toks:=tk}:=by
 have LN:S∉wr:=λh=>Z (W.sub _ h);have O:(toString "min"++toString ".loop":String)="min.loop":=by decide
 refine Zr WT ?_;rw[XZ XX _];show wpAny _ A.in1 (seqItems? (.ref S) >>= _) _ _ _;refine Z_ (Y9 hS rfl ?_);show wpAny _ A.in1 (tryCatch (pyNext (.ref I)) _ >>= _) _ _ _;refine Z_ (Yl (W.item 0 _ _ _ hn n_ λv h' MP hP Kd Mm=>?_));have G_:=Mm S _ LN hS;show wpAny _ A.in1 (updateSeq S (λ_=>#[v,v]) >>= _) _ _ _;refine Z_ ?_;refine Y0 G_ rfl ?_;rw[O];refine Z6 ⟨Zd XX _,xM W Kz Z _ 0 _ _ v _ (λb o Qp LM e=>(ZK _ _ (ZF LM)).trans (Mm b o Qp (O7 b o Qp LM e))) rfl hn (W.frame _ _ _ Kd λb Nu o e=>?_) hP (Zz _ G_ rfl) hR⟩;exact(ZK _ _ (λh:S=b=>Z (by rw[h];exact Nu))).trans e
end
def btD(ds:Z9 D)(i j:Nat):Bool:=decide (ltD 15 (ds.getD i .non) (ds.getD j .non)=U L)
abbrev mE(ds:Z9 D):Nat:=argBest (btD ds) (ds.length - 1)
def Do(x:Z8 D):Z8 D:=match x with|some (.lst ds)=>if(bL ds&&decide (0<ds.length))=L then ds[mE ds]? else M|_=>M
section
variable{X:Cx}{m m' mm:Bool}{a b:Expr}{fa fb:iv->Z8 D}{pos p:Pos}
def vH(hu:X.A.units+64<cLine)(hc:X.calm=L):dg X (.builtin "min") (λxs H Q=>∃B p ds ys,xs=[.ref p]/\SqL X.K H p ys/\M1 X.K B H ds ys/\bL ds=L/\0<ds.length/\∀y,ys[mE ds]?=U y->Q y H):=by
 intro pins s σ H xs us Q I rv h;obtain⟨B,q,ds,ys,rfl,hq,rs,Nt,hlen,k⟩:=h;obtain⟨u,rfl,ru⟩:=rv.one;cases ru;obtain⟨its,r,pl,hz⟩:=I.list hq;have hl:=r.length;have Rg:=rs.length;have V1:q<s.z:=by obtain⟨o,e,_⟩:=pl.isList;exact Z1 e
 have p_:q≠s.z:=ZA V1;have E_:(toString "min"++toString ".loop":String)="min.loop":=by decide
 refine call_function_tree F.kind_min F.plain_min F.entry_min (F.args_min1 _) ?_;show wpAny _ X.A.in1 (Builtin.Builtins.bindParams "min" ["key","default"] 0 ⟨[],[]⟩ >>= _) _ _ s;refine Z_ (Xe (show Builtin.Builtins.bindParams "min" ["key","default"] 0 ⟨[],[]⟩=pure [M,M] from rfl) ?_);refine Z_ (Z6 ?_);refine Z_ (Yg pl.isList ?_);refine Z_ (Y5 ?_);rw[E_];have W:=Walks.list (prog:=X.prog) (w:=X.w) (A:=X.A.in1) (show X.A.in1.handled=M from I.ok.hd hc) s.z q p_ its.toArray;have item:∀{i:Nat}{v:Z3},its.toArray[i]?=U v->∃y,ys[i]?=U y/\RelV y v/\∃d,ds[i]?=U d/\d∈ds/\Rep X.K B H d y:=λ{i v} hv=>by
  have Lk:its[i]?=U v:=by simpa using hv
  have hi:i<its.length:=(ZO.mp Lk).1;obtain⟨y,hy⟩:∃y,ys[i]?=U y:=⟨ys[i]'(by lia),YW _⟩
  obtain⟨v',e1,e2⟩:=r.get hy;rw[Lk]at e1;obtain rfl:=Z7 e1;have hd:i<ds.length:=by lia
  obtain⟨y',e3,e4⟩:=rs.get (i:=i) (YW hd);rw[hy]at e3;obtain rfl:=Z7 e3;exact⟨y,hy,e2,ds[i],YW hd,YF hd,e4⟩
 refine Z6 ⟨Zd XX _,vg (s0:=s) (bt:=btD ds) W (λi j vi vj h tk Z hi hj=>?_) (λhm=>?_) (by simp;lia) (λb o _ _ e=>?_) ⟨⟨_,Z5 _ (ZX _ rfl),rfl,rfl⟩,(pl.isList.push _).push _⟩ (ZX _ rfl) λv h' tk hP Z=>?_⟩
 .have J:Inv X pins σ H {s with heap:=h,toks:=tk}:=I.kept (t':=tk) λb o O=>Z b o (λz=>by
   have:b=s.z:=by simpa using z
   rw[this]at O;exact absurd (Z1 O) (Zv _)) (λz=>by
   have:=Z1 O;rw[z]at this;simp at this;lia) O
  obtain⟨yi,_,ri,di,hdi,mi,pi⟩:=item hi;obtain⟨yj,_,rj,dj,hdj,mj,pj⟩:=item hj;obtain⟨bb,Qq⟩:=dz Nt mi mj;have:btD ds i j=bb:=by
   unfold btD;rw[Zf,Zf,hdi,hdj];simp only[Option.getD_some,Qq];cases bb<;>rfl
  rw[this];exact EQ J 15 di dj yi yj vi vj bb X.A.in1 (cK Nt mi) (cK Nt mj) (by simp only[Around.in1]at*;lia) pi pj ri rj Qq
 simp at hm;lia;exact Z5 _ (Z5 _ e);have hsz:its.toArray.size - 1=ds.length - 1:=by simp;lia
 rw[hsz]at hP;obtain⟨y,hy,ry,_⟩:=item hP;refine⟨y,H,I.kept (t':=tk) λb o O=>Z b o (λz=>by
  have:b=s.z:=by simpa using z
  rw[this]at O;exact absurd (Z1 O) (Zv _)) (λz=>by
  have:=Z1 O;rw[z]at this;simp at this;lia) O,ry,k y hy⟩
theorem Cq(hu:X.A.units+64<cLine)(hc:X.calm=L)(g:Gl X "min")(hm:X.mg "min"=M)(ha:DE X m a fa)(Z:starEach [a] X.env=[(Y,eval a X.env)]:=by rfl):DE X m (.Call (.Name "min" p) [a] [] pos) (λδ=>Do (fa δ)):=
 (bH (vH hu hc) g hm Ei (au ha aM Z) (he:=Z)).imp λσ H Q hz=>by
  obtain⟨B,Hk,δ,d,R,e,k⟩:=hz;unfold Do at e;dsimp only at e;split at e;rename_i ds q;split at e;rename_i O;rw[ZQ,Zw]at O;refine ou R q λv H' s R' r=>?_;simp only[Rep]at r;obtain⟨c,xs,rfl,hq,rs⟩:=r;exact⟨_,c,ds,xs,rfl,hq.sq,rs,O.1,O.2,λy hy=>by
   obtain⟨y',e1,e2⟩:=rs.get e;rw[hy]at e1;obtain rfl:=Z7 e1;exact k _ H' s e2⟩
  trivial;trivial
end
section
variable{X:Cx}{m m' mm:Bool}{a b:Expr}{fa fb:iv->Z8 D}{pos p:Pos}
noncomputable def yn(x:Z8 D):Z8 D:=match x with|some (.int i)=>U (.int (-i))|_=>M
set_option tactic.hygienic true in
theorem DL(O:DE X m a fa):DE X mm (.UnaryOp .USub a pos) (λδ=>yn (fa δ)):=
 (F9 DH O).imp λσ H Q hz=>by
  obtain⟨B,Hk,δ,d,R,e,k⟩:=hz;dsimp only at e;unfold yn at e;split at e;rename_i i q;obtain rfl:=Z7 e;exact⟨B,Hk,δ,_,R,q,λv Z s1 r=>by
   exact⟨i,r,k _ Z s1 (by rfl)⟩⟩
  trivial
theorem Cn(hN:X.N.Nodup)(l:Lc X i x)(ha:DE X Y a fa):DS X (.AugAssign (.Name x pos') .Add a pos) (λδ=>aS i (fC (rd Y i δ) (fa δ)) δ):=
 (D0 hN l.at' l.loc ha (λpins s σ H x y v u Q I Z O q=>J9 Aa I Z O q) l.fnl).imp λDn σ H hz=>by
  obtain⟨B,Hk,δ,o,R,e,k⟩:=hz;obtain⟨d,e1,hi,rfl⟩:=k9 e;obtain⟨n,j,q1,q2,_,rfl⟩:=sJ e1;obtain⟨o,h1,h2⟩:=vP q1;have ho:o=Y:=by cases o;rfl;cases h2 rfl
  subst ho;obtain⟨v,hv,rv⟩:=R.var i _ h1;subst rv;exact⟨.int n,hv,B,Hk,δ,_,R,q2,λu H' s r=>by
   exact⟨n,j,rfl,r,k _ H' (R.ext s) ((R.to s).set (by rw[<-R.len];exact hi) (by rfl))⟩⟩
noncomputable def uj(x y:Z8 D):Z8 D:=match x,y with|some (.lst i),some (.lst j)=>if(decide (i.length+j.length<=lim)&&(D.aay i&&D.aay j))=L then U (.lst (i++j)) else M|_,_=>M
set_option tactic.hygienic true in
theorem By(ha:DE X m a fa)(hb:DE X m' b fb):DF X (.BinOp a .Add b pos) (λq=>uj (fa q) (fb q)):=
 (tJ uT ha hb).imp λσ H Q hz=>by
  obtain⟨B,Hk,q,d,R,e,k⟩:=hz;unfold uj at e;dsimp only at e;split at e;rename_i i j q1 q2;split at e;rename_i hz;rw[ZQ,ZQ,Zw]at hz;obtain rfl:=Z7 e;refine two R q1 q2 λv u H' s R' r1 r2=>?_;obtain⟨c,xs,rfl,hq,rs⟩:=r1;obtain⟨c2,O,rfl,OL,Z⟩:=r2;refine⟨c,c2,xs,O,rfl,rfl,hq.sq,OL.sq,by rw[<-rs.length,<-Z.length];exact aF hz.1,λp hp=>?_⟩;have s2:=ar (o:=.lst (xs++O)) hp;exact k p _ (s.trans s2) (s.free hp) ⟨_,ah,((M1.flat hz.2.1 rs).append (M1.flat hz.2.2 Z)).same (m:=Y) R' s2⟩;trivial;trivial
end
section
variable{prog:Za}{w:Y1}{A:Zj}{E:Z3->ZV->Prop}{s:ZV}
def jw(hh:A.handled=M)(ap:Ap z P O c d p q)(hn:min xs.size ys.size<=sizeLine){lo:ZP}(bl:∀b∈[z,P,O,c,d],lo<=b)(KN:lo<=s.z)(Z:Zp t u s.heap z P O c d p q 0 .none)(hp:aar t s.heap p xs)(hq:aar u s.heap q ys)(hR:∀(h':Heap)(tk:Nat)(g_:Array Z3)(c':Nat),(∀b o,b∉[z,P,O,c,d]->s.heap.get? b=U o->h'.get? b=U o)->h'.get? s.z=U {cls:=.type "list",dict:=M,data:=.seq g_ c',slots:=#[]}->g_.size=min xs.size ys.size->Made h' lo xs ys 0 g_.toList->R (.ok (.ret (.ref s.z))) {s with heap:=h',toks:=tk}):
  codeAny (model prog w) A (.builtin "proto.collect" ⟨[.ref z],[]⟩) R s:=by
 refine Zr F.entry_proto_collect ?_;rw[XZ F.plain_proto_collect _];change wpAny _ A.in1 (newList [] >>= λl=>again (.builtin "list.__iadd__" ⟨[l,.ref z],[]⟩)) _ _ s;refine Z_ (Y5 ?_);refine Z6 ⟨Zd F.plain_list_iadd _,Zr F.entry_list_iadd ?_⟩;rw[XZ F.plain_list_iadd _];have g0:(s.heap.push {cls:=.type "list",data:=.seq ([]:Z9 Z3).toArray}).get? s.z=U {cls:=.type "list",data:=.seq #[]}:=ZX _ rfl;have up:∀b ob,s.heap.get? b=U ob->(s.heap.push {cls:=.type "list",data:=.seq ([]:Z9 Z3).toArray}).get? b=U ob:=λb ob e=>Z5 _ e;have OG:∀b∈[z,P,O,c,d],b<s.z:=λb hb=>by
  obtain⟨zz,pp,⟨a,b',oo⟩,cc,dd⟩:=Z;simp only[ZT,Ze,Yi]at hb;rcases hb with rfl|rfl|rfl|rfl|rfl;exact Z1 zz;exact Z1 pp;exact Z1 oo;obtain⟨o,e,_⟩:=cc.obj;exact Z1 e;obtain⟨o,e,_⟩:=dd.obj;exact Z1 e
 have lp:p<s.z:=by cases t<;>(obtain⟨o,e,_⟩:=hp;exact Z1 e)
 have lq:q<s.z:=by cases u<;>(obtain⟨o,e,_⟩:=hq;exact Z1 e)
 obtain⟨zz,pp,⟨a,b',oo⟩,cc,dd⟩:=Z;change wpAny _ A.in1 (Builtin.List.listExtendWith (.ref s.z) (.ref z) (.ref s.z)) _ _ _;refine il (A:=A) (s:={s with heap:=s.heap.push {cls:=.type "list",data:=.seq ([]:Z9 Z3).toArray}}) hh ap (λhm=>Zv _ (OG _ hm)) (ZA lp) (ZA lq) hn bl KN (.ref s.z) ⟨up _ _ zz,up _ _ pp,⟨a,b',up _ _ oo⟩,cc.to λo e=>up _ o e,dd.to λo e=>up _ o e⟩ (hp.to λo e=>up _ o e) (hq.to λo e=>up _ o e) ?_ g0 λs' g_ e' k1 k2 k3 k4 k5=>?_;show lo<=(Heap.push s.heap _).objs.size;rw[YV];exact ZL KN (W4 _);obtain⟨h',tk,rfl⟩:=k5;exact hR h' tk g_ e' (λb ob hb e=>k1 b ob (λhm=>(ZT.mp hm).elim (λz=>ZA (Z1 e) z) hb) (up b ob e)) k2 k3 k4
def xE(hh:A.handled=M)(ap:Ap z P O c d p q)(hn:min xs.size ys.size<=sizeLine){lo:ZP}(bl:∀b∈[z,P,O,c,d],lo<=b)(KN:lo<=s.z)(Z:Zp t u s.heap z P O c d p q 0 .none)(hp:aar t s.heap p xs)(hq:aar u s.heap q ys)(hQ:∀(h':Heap)(tk:Nat)(g_:Array Z3),(∀b o,b∉[z,P,O,c,d]->s.heap.get? b=U o->h'.get? b=U o)->s.z<=h'.objs.size->g_.size=min xs.size ys.size->Made h' lo xs ys 0 g_.toList->Q g_.toList {s with heap:=h',toks:=tk}):
  wpAny (model prog w) A (collect (.ref z)) Q E s:=by
 refine Z_ (Wl (jw hh ap hn bl KN Z hp hq λh' tk acc c' kp hS h3 h4=>?_));exact Z_ (Wu hS (Z6 (hQ h' tk acc kp (XH (Z1 hS)) h3 h4)))
end
section
variable{X:Cx}{t u:Bool}{a b:Expr}{ta:TA}{p pos p2 j_:Pos}
def tSZ(t u:Bool)(K:Z4)(c:KD)(ta:TA):TE:=λσ H Q=>ta σ H λvs Z=>∃(B:ZP->Prop)(p q:ZP)(xs ys:Z9 V)(ds:Z9 D),vs=[.ref p,.ref q]/\SqV t K Z p xs/\SqV u K Z q ys/\min xs.length ys.length<=sizeLine/\bL ds=L/\kkD c ds=L/\
 (∀O vs,aab Z O->aa_ O xs ys vs->M1 K B O ds vs)/\∀O l zs,aab Z O->O l=M->M1 K B O (bK ds) zs->Q (.ref l) (upd O l (.lst zs))
def qJ(hc:X.calm=L)(hu:X.A.units+64<cLine)(gl:Gl X "sorted")(hl:X.mg "sorted"=M)(gz:Gl X "zip")(hz:X.mg "zip"=M)(ha:PA X [a,b] ta)(hs:starEach [a,b] X.env=[(Y,eval a X.env),(Y,eval b X.env)]:=by rfl)(Lm:starEach [b] X.env=[(Y,eval b X.env)]:=by rfl)(Ng:starEach [.Call (.Name "zip" p2) [a,b] [] j_] X.env=[(Y,eval (.Call (.Name "zip" p2) [a,b] [] j_) X.env)]:=by rfl):
  PE X (.Call (.Name "sorted" p) [.Call (.Name "zip" p2) [a,b] [] j_] [] pos) (tSZ t u X.K c0 ta):=by
 intro pins s σ H Q I h;refine YD (cF I gl hl cJ ?_ (by decide) (by decide));refine PyProof.Rows.callWith_builtin1 ?_ Ng rfl;refine Calls.spliced_cons (YD (cF I gz hz boot_zip (YN (thn (ha j_ pins s σ H _ I h) λus s1 ⟨vs,H1,I1,r1,q1⟩=>?_) (by rw[hs,Lm]) (by rw[Lm];rfl)) (by decide) (by decide)));obtain⟨B,l1,l2,xs,ys,ds,e,h1,h2,hm,c1,c2,hr,q⟩:=q1;subst e;cases r1 with
 |cons r rr=>
  cases rr with
  |cons r' rr=>
   cases rr;cases r;cases r';obtain⟨is,ri,sp⟩:=I1.abn h1;obtain⟨js,rj,sq⟩:=I1.abn h2;refine jJ sp sq λz P O c d h' ap Z hi k=>Calls.spliced_nil ?_;have up1:aar t h' l1 is.toArray:=sp.to λo e=>k _ o e;have Qz:aar u h' l2 js.toArray:=sq.to λo e=>k _ o e;have hsz:s1.z<=h'.objs.size:=ZL (hi z (by simp)) (XH (Z1 Z.zz));refine Xx kind_sorted Wj Wi (args_sorted1 _) ?_;refine Z_ (m:=checkCount "sorted" 1 1 _) (Z6 (Z_ (xE (A:=X.A.in1) (s:={s1 with heap:=h'}) (I1.ok.hd hc) ap (by simp_all [ZI,ri.length,rj.length]) (lo:=s1.z) hi hsz Z up1 Qz λh2 tk acc k1 k2 k3 k4=>?_)));have kk:∀b o,s1.heap.get? b=U o->h2.get? b=U o:=λb o e=>k1 b o (λhm=>absurd (ZC (Z1 e) (hi b hm)) (Zv _)) (k b o e);have I2:Inv X pins σ H1 {s1 with heap:=h2,toks:=tk}:=I1.kept kk;have nw:∀T,s1.z<=T->d8 X pins H1 T:=λT hT=>I1.abg hT (I1.hok.fresh hT);obtain⟨H3,vs,i1,i2,i3,i4,i5⟩:=eK (lo:=s1.z) (is:=is) (js:=js) (X:=X) I1.sz acc.toList 0 H1 xs ys I2 k4 (λT hT=>by
    obtain⟨T',e,_,lo⟩:=k4.lt _ hT
    simp_all) (by trivial) (by trivial) (by simp[Array.length_toList,k3,ZI,ri.length,rj.length])
   exact cy (s:={s1 with heap:=h2,toks:=tk}) (h1:=h2) (t1:=tk) hu i1 (λb o e=>e) (ZU _) (hr H3 vs i2 i4) i5 (by simp_all [Array.length_toList,k3,ZI,ri.length,rj.length]) c1 c2 λl zs hn rz=>q H3 l zs i2 hn rz
end
section
variable{X:Cx}{t u:Bool}{a b:Expr}{fa fb:iv->Z8 D}{p pos p2 j_:Pos}
theorem rq(t u:Bool)(hc:X.calm=L)(hu:X.A.units+64<cLine)(gl:Gl X "sorted")(hl:X.mg "sorted"=M)(gz:Gl X "zip")(hz:X.mg "zip"=M)(h:DE X Y a fa)(h':DE X Y b fb)(hs:starEach [a,b] X.env=[(Y,eval a X.env),(Y,eval b X.env)]:=by rfl)(Lm:starEach [b] X.env=[(Y,eval b X.env)]:=by rfl)(Ng:starEach [.Call (.Name "zip" p2) [a,b] [] j_] X.env=[(Y,eval (.Call (.Name "zip" p2) [a,b] [] j_) X.env)]:=by rfl):
  DF X (.Call (.Name "sorted" p) [.Call (.Name "zip" p2) [a,b] [] j_] [] pos) (λO=>dh c (gY t u (fa O) (fb O))):=
 (qJ (t:=t) (u:=u) (c0:=c) hc hu gl hl gz hz (au h (au h' aM Lm) (by rw[hs,Lm])) hs Lm Ng).imp λσ H Q hz=>by
  obtain⟨B,Hk,O,d,R,e,k⟩:=hz;dsimp only at e;cases e0:BZ t u (fa O) (fb O)with
  |none=>unfold gY at e;rw[e0]at e;trivial
  |some ds=>
   have ez:gY t u (fa O) (fb O)=if ds.length<=lim then U (.lst ds) else M:=by unfold gY;rw[e0]
   rw[ez]at e;by_cases D_:ds.length<=lim
   .rw[ZM D_]at e
    unfold dh at e;dsimp only at e;split at e
    .rename_i hk
     rw[ZQ]at hk;obtain rfl:=Z7 e;obtain⟨as,q1,e⟩:=am e0;obtain⟨bs,q2,e⟩:=am e;obtain rfl:=Z7 e;obtain⟨d1,e1⟩:∃d,fa O=U d:=by
      cases q:fa O with
      |none=>rw[q]at q1;cases t<;>trivial
      |some d=>lia
     obtain⟨d2,e2⟩:∃d,fb O=U d:=by
      cases q:fb O with
      |none=>rw[q]at q2;cases u<;>trivial
      |some d=>lia
     refine two R e1 e2 λv w H' s R' r1 r2=>?_;obtain⟨l1,xs,rfl,Na,N_⟩:=da q1 e1 r1;obtain⟨l2,ys,rfl,M_,QG⟩:=da q2 e2 r2;refine⟨_,l1,l2,xs,ys,_,rfl,N_ _ Ext.refl,QG _ Ext.refl,?_,hk.1,hk.2,λH2 vs s2 zv=>aa_.acm (Na.same (m:=Y) R' s2) (M_.same (m:=Y) R' s2) zv,λH2 l zs s2 hn rz=>?_⟩;rw[dX,Na.length,M_.length]at D_;exact aF D_;have s3:=ar (o:=.lst zs) hn;exact k l _ ((s.trans s2).trans s3) ((s.trans s2).free hn) ⟨zs,ah,rz.same (m:=Y) (R'.to s2) s3⟩
    trivial
   rw[ZH D_]at e;trivial
end
section
variable{prog:Za}{w:Y1}{A:Zj}{E:Z3->ZV->Prop}{s:ZV}
def nE(hl:s.heap.IsTuple l vs.toArray)(h:Q vs {s with heap:=(s.heap.push (seqObj "list" #[] 0)).update s.z (Obj.mapSeq (· ++vs.toArray))})(hsz:vs.length<=sizeLine):
  wpAny (model prog w) A (collect (.ref l)) Q E s:=by
 obtain⟨o,ho,hc,n,hd⟩:=id hl;refine Z_ (Wl (Zr entry_proto_collect' ?_));refine Z_ (WG (Z6 ⟨Code.quiet_builtin _ (by decide +kernel),Zr entry_list_iadd' ?_⟩));show wpAny _ _ (Builtin.List.listExtendWith (.ref s.z) (.ref l) (.ref s.z)) _ _ {s with heap:=s.heap.push (seqObj "list" #[] 0)};have O:(s.heap.push (seqObj "list" #[] 0)).get? l=U o:=Z5 _ ho;refine Z_ (XM (T:="tuple") ⟨o,O,hc⟩ ?_);have Z:(Value.type "tuple"==Value.type "tuple")=L:=by rfl
 refine qm (by rw[Z];simp) ?_;refine Z_ (Xa O hd ?_);refine Z_ (Xa (xs:=#[]) (n:=0) (ZX _ rfl) rfl ?_);refine Z_ (XD (xs:=#[]) (n:=0) (ZX _ rfl) rfl ?_ (Zm _) (by simp;lia));refine Z6 ?_;refine Z_ (Wu (Xi (ZX _ rfl) _) ?_);show wpAny _ _ (pure ((#[]:Array Z3)++vs.toArray).toList) Q E _;rw[show((#[]:Array Z3)++vs.toArray).toList=vs by simp];exact Z6 h
end
section
variable{X:Cx}{a:Expr}{fa:iv->Z8 D}{p pos:Pos}
def jt(hu:X.A.units+64<cLine):dg X (.builtin "sorted") (λxs H Q=>∃B p ds ys,xs=[.ref p]/\SqT X.K H p ys/\M1 X.K B H ds ys/\bL ds=L/\kkD c ds=L/\
  ∀l O,H l=M->M1 X.K B H (bK ds) O->Q (.ref l) (upd H l (.lst O))):=by
 intro pins s σ H xs us Q I r h;obtain⟨B,p,ds,ys,rfl,hq,rs,hc,hk,q⟩:=h;obtain⟨u,rfl,rx⟩:=fq r;cases rx;obtain⟨its,Z,pl,hz⟩:=I.tuple hq;have l2:=Z.length;refine Xx kind_sorted Wj Wi (args_sorted1 _) ?_;refine Z_ (m:=checkCount "sorted" 1 1 _) (Z6 (Z_ (nE (by assumption) ?_ (by lia))));have hsz:((s.heap.push (seqObj "list" #[] 0)).update s.z (Obj.mapSeq (· ++its.toArray))).objs.size=s.z+1:=by
  rw[XR,size_push']
 refine cy (t1:=s.toks) hu I (λb o e=>?_) (by rw[hsz];lia) rs Z (by lia) hc hk q;exact(ZK _ _ (Nat.ne_of_gt (Z1 e))).trans (Z5 _ e)
def fW(c:KD)(x:Z8 D):Z8 D:=match x with|some (.tup ds)=>if(bL ds&&kkD c ds)=L then U (.lst (bK ds)) else M|_=>M
theorem mG(hu:X.A.units+64<cLine)(g:Gl X "sorted")(hm:X.mg "sorted"=M)(ha:DE X Y a fa)(O:starEach [a] X.env=[(Y,eval a X.env)]:=by rfl):DF X (.Call (.Name "sorted" p) [a] [] pos) (λq=>fW c (fa q)):=
 (bH (jt (c:=c) hu) g hm cJ (au ha aM O) (he:=O)).imp λσ H Q hz=>by
  obtain⟨B,Hk,q,d,R,e,k⟩:=hz;unfold fW at e;dsimp only at e;split at e;rename_i ds qd;by_cases cc:(bL ds&&kkD c ds)=L;rw[ZM cc]at e;obtain rfl:=Z7 e;rw[ZQ]at cc;obtain⟨c2,c3⟩:=cc;refine ou R qd λv H' s R' r=>?_;obtain⟨l,xs,rfl,hq,rs⟩:=r;refine⟨_,l,ds,xs,rfl,.inl (.inl hq),rs,c2,c3,λl' zs Z rz=>?_⟩;have s2:=ar (o:=.lst zs) Z;exact k l' _ (s.trans s2) (s.free Z) ⟨_,ah,rz.same (m:=Y) R' s2⟩;rw[ZH cc]at e;trivial;trivial
end
end L2
namespace L2
open PySem
def Txb(bl:Z9 Str)(mg:Str->Z8 Z3):Prop:=∀x∈bl,mg x=M
def Txb.get{bl:Z9 Str}{mg:Str->Z8 Z3}{x:Str}(T:Txb bl mg)(h:decide (x∈bl)=L):mg x=M:=T x (Zy h)
def us0{P:Z9 Z3->Prop}(h:P []):∀us:Z9 Z3,us.length=0->P us
 |[],_=>h
def usS{n:Nat}{P:Z9 Z3->Prop}(h:∀a us,us.length=n->P (a::us)):∀us:Z9 Z3,us.length=n+1->P us
 |a::us,e=>h a us (Nat.succ.inj e)
def Df(K:Z4)(mg:Str->Z8 Z3)(x:Str)(st:Stmt):Prop:=∃f fd,Fun K x x st f fd/\mg x=U (.ref f)
def DfC(K:Z4)(mg:Str->Z8 Z3)(x:Str)(st:Stmt)(c:ZP):Prop:=∃f fd,Fun K x x st f fd/\mg x=U (.ref f)/\fd.code=.ref c
section
variable[Lams]{P:Za}{w:Y1}{K:Z4}{mg:Str->Z8 Z3}{base:Heap}{x:Str}{st:Stmt}{f:ZP}
abbrev HB(x:Str)(st:Stmt)(N:Z9 Str)(n:Nat):Prop:=∀(kV doc pm:Z3)(an:Z8 ZP)(Ky ct:Z3)(us:Z9 Z3),us.length=(N.take n).length->bindArgs (W.fnOf x x (defArgs st) (defBody st) (defScope st) .none kV doc pm an Ky ct) ⟨us,[]⟩=pure ((N.take n).zip us)
abbrev HY(P:Za)(w:Y1)(K:Z4)(mg:Str->Z8 Z3)(base:Heap)(N:Z9 Str)(st:Stmt)(k:Nat)(J:Cx->Prop):Prop:=∀X:Cx,X.prog=P->X.w=w->X.K=K->X.mg=mg->X.base=base->Has X N (defScope st)->(∀x,X.fn x=L)->PassesOwn (model X.prog X.w) X.A X.env X.xe->aaq k X.A->J X
def mkF{fd:FuncData}{k:Nat}(n:Nat)(N:Z9 Str)(g:iv->Z8 Out)(F:Fun K x x st f fd)(hm:mg x=U (.ref f))(S:aaC N (N.take n) (defScope st))
  (hb:HB x st N n)
  (body:HY P w K mg base N st k λX=>DSs X (defBody st) g):
  abk P w K mg base CX0 (k+1) f fd (N.take n) (spM K (bG N.length (N.take n).length g))/\FnM P w K mg base (k+1) x (bG N.length (N.take n).length g):=
 yW (P:=P) (w:=w) (base:=base) (g:=g) F S (F.binds hb) hm (by rw[X0];exact Nat.min_le_right ..) λA outer s H E hr=>body _ rfl rfl rfl rfl rfl (EU S.nd) (λ_=>rfl) PassesOwn.never hr
theorem mk{k:Nat}(n:Nat)(N:Z9 Str)(g:iv->Z8 Out)(D:Df K mg x st)(S:aaC N (N.take n) (defScope st):=by walk_at "sc")
  (hb:HB x st N n:=by walk_at "bi")
  (body:HY P w K mg base N st k (λX=>DSs X (defBody st) g):=by walk_at "mk"):FnM P w K mg base (k+1) x (bG N.length (N.take n).length g):=by
 obtain⟨f,fd,F,hm⟩:=D;exact(mkF n N g F hm S hb body).2
end
end L2
namespace JP
open PySem L2
inductive Ce where|nm (w:Str)|bk (n:Int)
deriving DecidableEq,Inhabited
inductive Te where|any (l:Str)|nm (w:Str)
deriving DecidableEq
noncomputable def ceD:Ce->D|.nm w=>.tup [.str "name",.str w]|.bk n=>.tup [.str "blank",.int n]
noncomputable def teD:Te->D|.any l=>.tup [.str "any",.str l]|.nm w=>.tup [.str "name",.str w]
def gH(h:ceD a=ceD b):a=b:=by
 cases a<;>cases b<;>simp[ceD]at h;rw[h];rw[h]
abbrev Row:=Str×Z9 Ce
abbrev Pat:=Str×Z9 Te
noncomputable def Tn(r:Row):D:=.tup [.str r.1,.tup (r.2.map ceD)]
noncomputable def aQ(p:Pat):D:=.tup [.str p.1,.tup (p.2.map teD)]
abbrev Fit:=Str->Ce
noncomputable def ev(φ:Fit):Te->Ce|.any l=>φ l|.nm w=>.nm w
def dC(O:Z9 Row)(φ:Fit)(p:Pat):Prop:=∃r∈O,r.1=p.1/\r.2=p.2.map (ev φ)
noncomputable def ans:Z9 Te->Z9 Str
 |[]=>[]
 |.any l::ts=>l::ans ts
 |.nm _::ts=>ans ts
theorem fy:∀{ts:Z9 Te},(∀l∈ans ts,φ l=ψ l)->ts.map (ev φ)=ts.map (ev ψ)
 |[],_=>rfl
 |.any l::ts,h=>by
  rw[Z0,Z0,fy (ts:=ts) λO Z=>h O (ZY _ Z)];simp only[ev];rw[h l (ZR ..)]
 |.nm w::ts,h=>by rw[Z0,Z0,fy (ts:=ts) h];rfl
def qM(h:∀l∈ans p.2,φ l=ψ l)(i:dC rows φ p):dC rows ψ p:=by
 obtain⟨r,h1,Z,O⟩:=i;exact⟨r,h1,Z,by rw[O,fy h]⟩
abbrev Bi:=Z9 (Str×Ce)
noncomputable def gt(b:Bi)(l:Str):Z8 Ce:=(b.find? λq=>decide (q.1=l)).map (·.2)
def fK(b:Bi)(k:Str)(c:Ce)(l:Str):gt ((k,c)::b) l=if k=l then U c else gt b l:=by
 unfold gt;by_cases h:k=l<;>simp[h]
theorem nY(l:Str):∀(b O:Bi),gt (b++O) l=(gt b l).or (gt O l)
 |[],O=>by simp[gt]
 |(k,c)::b,O=>by
  rw[List.cons_append,fK,fK,nY l b O];split<;>simp
noncomputable def bnd:Z9 Te->Z9 Ce->Bi->Z8 Bi
 |.any l::ts,c::O,b=>(match gt b l with|some c'=>if c'=c then bnd ts O b else M|none=>bnd ts O (b++[(l,c)]))
 |.nm w::ts,c::O,b=>if Ce.nm w=c then bnd ts O b else M
 |_,_,b=>U b
set_option tactic.hygienic true in
theorem dR:∀{ts:Z9 Te}{cs:Z9 Ce}{b b':Bi},ts.length=cs.length->bnd ts cs b=U b'->(∀l c,gt b l=U c->gt b' l=U c)/\(∀l∈ans ts,∃c,gt b' l=U c)/\∀φ:Fit,(∀l∈ans ts,gt b' l=U (φ l))->cs=ts.map (ev φ)
 |[],[],b,b',_,h=>by simp only[bnd,ZG]at h;subst h;exact⟨λ_ _ h=>h,λ_ h=>by simp[ans]at h,λ_ _=>rfl⟩
 |.any l::ts,c::cs,b,b',hl,h=>by
  simp only[bnd]at h;have Z:ts.length=cs.length:=by simpa using hl
  split at h;rename_i c' e;split at h;rename_i ec;subst ec;obtain⟨h1,h2,h3⟩:=dR Z h;refine⟨h1,λl' Z=>?_,λφ O=>?_⟩;rcases ZT.mp Z with rfl|hm;exact⟨_,h1 _ _ e⟩;exact h2 l' hm;have:=O l (ZR ..);rw[h1 _ _ e]at this;rw[Z0,<-h3 φ λl' hm=>O l' (ZY _ hm)];simp only[ev];rw[Z7 this];trivial;rename_i e;obtain⟨h1,h2,h3⟩:=dR Z h;have hg:gt b' l=U c:=h1 l c (by rw[nY,e];simp[gt]);refine⟨λl' c' e'=>h1 l' c' (by rw[nY,e'];rfl),λl' Z=>?_,λφ O=>?_⟩;rcases ZT.mp Z with rfl|hm;exact⟨_,hg⟩;exact h2 l' hm;have:=O l (ZR ..);rw[hg]at this;rw[Z0,<-h3 φ λl' hm=>O l' (ZY _ hm)];simp only[ev];rw[Z7 this]
 |.nm w::ts,c::cs,b,b',hl,h=>by
  simp only[bnd]at h;split at h;rename_i ec;subst ec;obtain⟨h1,h2,h3⟩:=dR (by simpa using hl) h;exact⟨h1,h2,λφ O=>by rw[Z0,<-h3 φ O];rfl⟩;trivial
theorem fB:∀(ts:Z9 Te)(b:Bi),(∀l c,gt b l=U c->φ l=c)->∃b',bnd ts (ts.map (ev φ)) b=U b'/\∀l c,gt b' l=U c->φ l=c
 |[],b,h=>⟨b,rfl,h⟩
 |.any l::ts,b,h=>by
  simp only[Z0,ev,bnd];cases e:gt b l with
  |some c=>
   simp only;rw[ZM (h l c e).symm];exact fB ts b h
  |none=>
   refine fB ts _ λl' c hc=>?_;rw[nY]at hc;cases e':gt b l' with
   |some c'=>rw[e']at hc;simp at hc;subst hc;exact h _ _ e'
   |none=>
    rw[e']at hc;simp only[Option.none_or]at hc;rw[fK]at hc;split at hc;rename_i q;subst q;exact Z7 hc;simp[gt]at hc
 |.nm w::ts,b,h=>by
  simp only[Z0,ev,bnd,YB];exact fB ts b h
def fP(p:Pat)(r:Row):Z8 Bi:=if r.1=p.1/\r.2.length=p.2.length then bnd p.2 r.2 [] else M
def binds(O:Z9 Row)(p:Pat):Z9 Bi:=O.filterMap (fP p)
def dA(h:b∈binds rows p):(∀l∈ans p.2,∃c,gt b l=U c)/\∀φ:Fit,(∀l∈ans p.2,gt b l=U (φ l))->dC rows φ p:=by
 obtain⟨r,Z,e⟩:=XT.mp h;unfold fP at e;split at e;rename_i c;obtain⟨_,h2,h3⟩:=dR c.2.symm e;exact⟨h2,λφ O=>⟨r,Z,c.1,h3 φ O⟩⟩;trivial
def qu(h:dC rows φ p):∃b∈binds rows p,∀l∈ans p.2,gt b l=U (φ l):=by
 obtain⟨r,hr,h1,h2⟩:=h;obtain⟨b,e,hb⟩:=fB (φ:=φ) p.2 [] (λl c e=>by trivial);have hm:fP p r=U b:=by unfold fP;rw[ZM ⟨h1,by rw[h2];simp⟩,h2];exact e
 have O:b∈binds rows p:=XT.mpr ⟨r,hr,hm⟩;refine⟨b,O,λl hl=>?_⟩;obtain⟨c,Z⟩:=(dA O).1 l hl;rw[Z,hb l c Z]
noncomputable def vl(b:Bi)(ls:Z9 Str):Z9 Ce:=ls.map λl=>(gt b l).getD default
abbrev Gr:=Z9 (Z9 Ce×Z9 (Z9 Ce))
noncomputable def mC:Gr->Z9 Ce->Z9 Ce->Gr
 |[],k,e=>[(k,[e])]
 |p::r,k,e=>if p.1=k then(p.1,if e∈p.2 then p.2 else p.2++[e])::r else p::mC r k e
noncomputable def cH(g:Gr)(k:Z9 Ce):Z9 (Z9 Ce):=((g.find? λq=>decide (q.1=k)).map (·.2)).getD []
def aZ(g:Gr)(q:Z9 Ce×Z9 (Z9 Ce))(k:Z9 Ce):cH (q::g) k=if q.1=k then q.2 else cH g k:=by
 unfold cH;by_cases h:q.1=k<;>simp[h]
theorem oM:∀(g:Gr)(k e O x:Z9 Ce),x∈cH (mC g k e) O↔x∈cH g O\/(O=k/\x=e)
 |[],k,e,O,x=>by
  unfold mC;rw[aZ];by_cases h:k=O;simp[h,cH];simp[h,cH];intro z;exact absurd z.symm h
 |p::r,k,e,O,x=>by
  unfold mC;by_cases h:p.1=k;rw[ZM h,aZ,aZ]
  grind
  rw[ZH h,aZ,aZ];by_cases h':p.1=O;lia;rw[ZH h',ZH h'];exact oM r k e O x
noncomputable def grp(bs:Z9 Bi)(sh ad:Z9 Str):Gr:=bs.foldl (λg b=>mC g (vl b sh) (vl b ad)) []
def mP(bs:Z9 Bi)(sh ad:Z9 Str)(k x:Z9 Ce):x∈cH (grp bs sh ad) k↔∃b∈bs,vl b sh=k/\vl b ad=x:=by
 have key:∀(bs:Z9 Bi)(g:Gr),x∈cH (bs.foldl (λg b=>mC g (vl b sh) (vl b ad)) g) k↔x∈cH g k\/∃b∈bs,vl b sh=k/\vl b ad=x:=by
  intro bs
  induction bs with
  |nil=>simp
  |cons b bs O=>
   intro g;rw[List.foldl_cons,O,oM]
   grind
 rw[grp,key];simp[cH]
noncomputable def bc(ls known:Z9 Str):Z9 Nat:=ls.map λl=>known.idxOf l
noncomputable def pk(c:Z9 Ce)(ps:Z9 Nat):Z9 Ce:=ps.map λi=>c.getD i default
def bw(h:∀l∈ls,l∈known):pk (known.map φ) (bc ls known)=ls.map φ:=by
 unfold pk bc;rw[Zb];refine Y4 λl O=>?_;have Z:=YM (h l O);simp[Z]
noncomputable def ins(x:Z9 Ce)(l:Z9 (Z9 Ce)):Z9 (Z9 Ce):=if x∈l then l else l++[x]
def Aj:y∈ins x l↔y∈l\/y=x:=by
 unfold ins;split;constructor;exact .inl;lia;simp
def EA(h:l.Nodup):(ins x l).Nodup:=by
 unfold ins;split;exact h;rename_i n;rw[X5];exact⟨h,by simp,λa O b hb e=>n (by simp_all)⟩
noncomputable def rF(g:Gr)(sp kp:Z9 Nat)(l:Z9 (Z9 Ce))(c:Z9 Ce):Z9 (Z9 Ce):=(cH g (pk c sp)).foldl (λl a=>ins (pk c kp++a) l) l
noncomputable def ext(found:Z9 (Z9 Ce))(sp kp:Z9 Nat)(g:Gr):Z9 (Z9 Ce):=found.foldl (rF g sp kp) []
def AL(g:Gr)(sp kp:Z9 Nat)(c:Z9 Ce)(l:Z9 (Z9 Ce))(h:l.Nodup):(rF g sp kp l c).Nodup/\∀x,x∈rF g sp kp l c↔x∈l\/∃a∈cH g (pk c sp),x=pk c kp++a:=by
 unfold rF;generalize cH g (pk c sp)=O
 induction O generalizing l with
 |nil=>simp;lia
 |cons a O Z=>
  rw[List.foldl_cons];obtain⟨h1,h2⟩:=Z _ (EA h);refine⟨h1,λx=>?_⟩;rw[h2,Aj];simp;lia
def DN(found:Z9 (Z9 Ce))(sp kp:Z9 Nat)(g:Gr):(ext found sp kp g).Nodup/\∀x,x∈ext found sp kp g↔∃c∈found,∃a∈cH g (pk c sp),x=pk c kp++a:=by
 have key:∀(found l:Z9 (Z9 Ce)),l.Nodup->(found.foldl (rF g sp kp) l).Nodup/\∀x,x∈found.foldl (rF g sp kp) l↔x∈l\/∃c∈found,∃a∈cH g (pk c sp),x=pk c kp++a:=by
  intro found
  induction found with
  |nil=>simp
  |cons c found Z=>
   intro l h;obtain⟨e1,e2⟩:=AL g sp kp c l h;obtain⟨h1,O⟩:=Z _ e1;rw[List.foldl_cons];refine⟨h1,λx=>?_⟩;rw[O,e2];simp only[ZT,exists_eq_or_imp];constructor
   rintro((q|q)|q)
   exact .inl q;exact .inr (.inl q);exact .inr (.inr q)
   rintro(q|q|q)
   exact .inl (.inl q);exact .inl (.inr q);exact .inr q
 obtain⟨h1,O⟩:=key found [] YK;exact⟨h1,λx=>by rw[ext,O];simp⟩
theorem ky:∀{kn:Z9 Str}{x:Z9 Ce},kn.Nodup->x.length=kn.length->∃φ:Fit,x=kn.map φ
 |[],[],_,_=>⟨λ_=>default,rfl⟩
 |[],_::_,_,h=>by simp at h
 |_::_,[],_,h=>by simp at h
 |l::ks,c::x,nd,h=>by
  obtain⟨h1,O⟩:=Y8.mp nd;obtain⟨φ,e⟩:=ky O (by simpa using h);refine⟨λk=>if k=l then c else φ k,?_⟩;rw[Z0,ZM rfl,e];simp;lia
structure Jn (rows:List Row)(kn:List Str)(fd:List (List Ce))(wanted:List Str)(done av:List Pat)(known:List Str)(found:List (List Ce)):Prop where
 nk:known.Nodup
 nf:found.Nodup
 mem:∀x,x∈found↔∃φ:Fit,x=known.map φ/\kn.map φ∈fd/\∀p∈done,dC rows φ p
 has:∀l,(l∈kn\/∃p∈done,l∈ans p.2)->(l∈wanted\/∃p∈av,l∈ans p.2)->l∈known
 few:∀l∈known,l∈wanted\/∃p∈av,l∈ans p.2
def xv(O:Z9 Row){av:Z9 Pat}(h1:kn.Nodup)(h2:fd.Nodup)(h3:∀x∈fd,x.length=kn.length)(Z:∀l∈kn,l∈wanted\/∃p∈av,l∈ans p.2):Jn O kn fd wanted [] av kn fd:=
 ⟨h1,h2,λx=>⟨λh=>by obtain⟨φ,rfl⟩:=ky h1 (h3 x h);exact⟨φ,rfl,h,λp hp=>(by trivial)⟩,λhz=>by lia⟩,λl hz _=>by simp_all,Z⟩
def Ak{rows:Z9 Row}{kn:Z9 Str}{fd:Z9 (Z9 Ce)}{wanted:Z9 Str}{done av:Z9 Pat}{p:Pat}{known own O:Z9 Str}{found:Z9 (Z9 Ce)}(J:Jn rows kn fd wanted done (p::av) known found)
  (LB:∀l,l∈own↔l∈ans p.2)(Ln:own.Nodup)(L0:∀l,l∈O↔l∈wanted\/∃q∈av,l∈ans q.2):
  Jn rows kn fd wanted (done++[p]) av (known.filter (λl=>decide (l∈O))++own.filter λl=>decide (l∈O)&&!decide (l∈known))
   (ext found (bc (own.filter λl=>decide (l∈known)) known) (bc (known.filter λl=>decide (l∈O)) known)
    (grp (binds rows p) (own.filter λl=>decide (l∈known)) (own.filter λl=>decide (l∈O)&&!decide (l∈known)))):=by
 obtain⟨e1,e2⟩:=DN found (bc (own.filter λl=>decide (l∈known)) known) (bc (known.filter λl=>decide (l∈O)) known) (grp (binds rows p) (own.filter λl=>decide (l∈known)) (own.filter λl=>decide (l∈O)&&!decide (l∈known)));have LX:∀l∈own.filter (λl=>decide (l∈known)),l∈known:=λl Z=>by simp at Z;exact Z.2
 have Lz:∀l∈known.filter (λl=>decide (l∈O)),l∈known:=λl Z=>by simp at Z;exact Z.1
 refine⟨?_,e1,λx=>?_,λl hd hw=>?_,λl Z=>?_⟩;rw[X5];refine⟨J.nk.filter _,Ln.filter _,λa ha b hb e=>?_⟩;subst e;simp at ha hb;exact hb.2.2 ha.1
 .rw[e2]
  constructor
  .rintro⟨c,hc,a,ha,rfl⟩
   obtain⟨φ,rfl,hf,Mi⟩:=(J.mem c).mp hc;rw[bw LX,mP]at ha;obtain⟨b,hb,h1,h2⟩:=ha;obtain⟨bs1,bs2⟩:=dA hb;have hv:∀l∈own,∃c,gt b l=U c:=λl Z=>bs1 l ((LB l).mp Z);have Ur:∀l∈known,(if l∈own then(gt b l).getD default else φ l)=φ l:=λl hk=>by
    split;rename_i ho;have hs:l∈own.filter (λl=>decide (l∈known)):=by simp;exact⟨ho,hk⟩
    unfold vl at h1;exact(Xu.mp h1) l hs;rfl
   have Us:∀l,(l∈kn\/∃q∈done,l∈ans q.2)->(if l∈own then(gt b l).getD default else φ l)=φ l:=λl Z=>by
    by_cases ho:l∈own;exact Ur l (J.has l Z (.inr ⟨p,ZR ..,(LB l).mp ho⟩));rw[ZH ho]
   refine⟨λl=>if l∈own then(gt b l).getD default else φ l,?_,?_,λq hq=>?_⟩;rw[bw Lz,Y7];congr 1;exact Y4 λl Z=>(Ur l (Lz l Z)).symm;rw[<-h2];unfold vl;refine Y4 λl Z=>?_;simp at Z;rw[ZM Z.1];rw[Y4 λl Z=>Us l (.inl Z)];exact hf;rcases Zc.mp hq with hq|hq
   exact qM (λl Z=>(Us l (.inr ⟨q,hq,Z⟩)).symm) (Mi q hq);rw[ZD.mp hq];refine bs2 _ λl Z=>?_;have ho:=(LB l).mpr Z;obtain⟨c,hc⟩:=hv l ho;rw[ZM ho,hc];rfl
  rintro⟨φ,rfl,hf,Mi⟩
  obtain⟨b,hb,Oo⟩:=qu (Mi p (ZJ _ (ZD.mpr rfl)));refine⟨known.map φ,(J.mem _).mpr ⟨φ,rfl,hf,λq hq=>Mi q (Y2 _ hq)⟩,(own.filter λl=>decide (l∈O)&&!decide (l∈known)).map φ,?_,?_⟩;rw[bw LX,mP];refine⟨b,hb,?_,?_⟩;unfold vl;refine Y4 λl Z=>?_;rw[Oo l ((LB l).mp (Zi.mp Z).1)];rfl;unfold vl;refine Y4 λl Z=>?_;rw[Oo l ((LB l).mp (Zi.mp Z).1)];rfl;rw[bw Lz,Y7]
 have Ls:l∈O:=(L0 l).mpr hw;by_cases hk:l∈known;exact Y2 _ (Zi.mpr ⟨hk,by simpa using Ls⟩);have ho:l∈own:=Yu λho=>hk (J.has l (hd.imp id λ⟨q,hq,Z⟩=>⟨q,(Zc.mp hq).elim id λz=>absurd ((LB l).mpr (by rw[<-ZD.mp z];exact Z)) ho,Z⟩) (hw.imp id λ⟨q',K4,LR⟩=>⟨q',ZY _ K4,LR⟩));exact ZJ _ (Zi.mpr ⟨ho,by simp[Ls,hk]⟩);rcases Zc.mp Z with Z|Z
 exact(L0 l).mp (by simpa using(Zi.mp Z).2);have:=(Zi.mp Z).2;simp at this;exact(L0 l).mp this.1
def D5(J:Jn rows kn fd wanted done [] known found)(hw:∀l∈wanted,l∈kn\/∃p∈done,l∈ans p.2):
  (found.map λc=>pk c (bc wanted known)).Nodup/\∀x,x∈found.map (λc=>pk c (bc wanted known))↔∃φ:Fit,x=wanted.map φ/\kn.map φ∈fd/\∀p∈done,dC rows φ p:=by
 have Z:∀l∈wanted,l∈known:=λl hl=>J.has l (hw l hl) (.inl hl);have kw:∀l∈known,l∈wanted:=λl hl=>(J.few l hl).elim id λhz=>by simp_all
 constructor;rw[List.nodup_iff_pairwise_ne,Yz];refine J.nf.imp_of_mem λ{c d} hc hd p_ e=>p_ ?_;obtain⟨φ,rfl,_⟩:=(J.mem c).mp hc;obtain⟨ψ,rfl,_⟩:=(J.mem d).mp hd;rw[bw Z,bw Z]at e
 simp_all
 intro x;rw[ZZ];constructor
 rintro⟨c,hc,rfl⟩
 obtain⟨φ,rfl,O⟩:=(J.mem c).mp hc;exact⟨φ,bw Z,O⟩
 rintro⟨φ,rfl,O⟩
 exact⟨known.map φ,(J.mem _).mpr ⟨φ,rfl,O⟩,bw Z⟩
end JP
namespace K63
open PySem L2
variable[Lams]
local macro_rules| `(tactic|walk_at "z")=> `(tactic|first
 |fail_if_success refine(?_:(_:Prop))
 |rfl
 |assumption
 |(((with_reducible first|(refine'(?_:DE ..);first|refine' @nv .. |refine' @oY .. |refine' @CF .. |refine' @xU .. |refine' @nO .. |refine' @Ai .. |refine' @DV .. |refine' @D9 .. |refine' @yh .. |refine' @BC .. |refine' @yp .. |refine' @Ee .. |refine' @Eu .. |refine' @Bj .. |refine' @Ez .. |refine' @DD .. |refine' @Cu .. |refine' @EB .. |refine' @Ay .. |refine' @uP .. |refine' @Dv .. |refine' @wM .. |refine' @FW .. |refine' @yZ .. |refine' @FG .. |refine' @Cq .. |refine' @B8 .. |refine' @Fu .. |refine' @AU .. |refine' @Dw .. |refine' @Ep .. |refine' @Gc .. |refine' @sW .. |refine' @DL .. |refine' @A1 .. |refine' @AC .. |refine' @AM .. |refine' @DF.share ..)|(refine'(?_:DF ..);first|refine' @rq .. |refine' @xD .. |refine' @By .. |refine' @j1 .. |refine' @o6 .. |refine' @mG .. |refine' @nU .. |refine' @xC .. |refine' @sa .. |refine' @qh .. |refine' @abv .. |refine' @AW .. |refine' @tY .. |refine' @yQ .. |refine' @zk .. |refine' @yx .. |refine' @tP .. |refine' @wC ..)|(refine'(?_:DT ..);first|refine' @Ao .. |refine' @Dm .. |refine' @Dc .. |refine' @CP .. |refine' @Go .. |refine' @xN .. |refine' @Gy .. |refine' @Ga .. |refine' @u8 .. |refine' @zl .. |refine' @zp ..)|(refine'(?_:DS ..);first|refine' @rR .. |refine' @pK .. |refine' @Bd .. |refine' @ww .. |refine' @jA .. |refine' @ql .. |refine' @Cn .. |refine' @iC .. |refine' @Au .. |refine' @Dq .. |refine' @FC .. |refine' @uG .. |refine' @Eg .. |refine' @oC .. |refine' @Da ..)|refine' @ia .. |refine' @cY .. |(refine'(?_:DI ..);first|refine' @zX .. |refine' @mn .. |refine' @EF .. |refine' @AR .. |refine' @A7 .. |refine' @B7 ..)|refine' @C5 .. |refine' @jz .. |refine' @wA .. |refine' @AB .. |refine' @zY .. |refine' @Bg .. |refine' @mM .. |refine' @uc .. |refine' @vC .. |refine' @zU .. |(refine'(?_:DW ..);first|refine' @BB .. |refine' @EH .. |refine' @Fx .. |refine' @DZ ..)|(refine'(?_:DSs ..);first|refine' @Bf .. |refine' @Bu .. |refine' @rV .. |refine' @dM .. |refine' @mL ..)|refine' PW.pt ..)<;>walk_at "z");all_goals exact false)
 |(have h:=(by assumption:Has _ _ _);first|exact Has.nm h (by decide +kernel)|exact Has.nm (Has.comp h ..) (by decide +kernel)|exact Has.nm (Has.comp (Has.comp h ..) ..) (by decide +kernel))
 |(have h:=(by assumption:Has _ _ _);first|exact Has.lc h (by assumption) (by decide +kernel)|exact Has.lcl (Has.comp h ..) (by decide +kernel)|exact Has.lcl (Has.comp (Has.comp h ..) ..) (by decide +kernel))
 |(refine Gb.gl ?_;walk_at "z")
 |(have h:=(by assumption:Has _ _ _);first|exact Has.gb h (by decide +kernel)|exact Has.gb (Has.comp h ..) (by decide +kernel)|exact Has.gb (Has.comp (Has.comp h ..) ..) (by decide +kernel))
 |(have h:=(by assumption:Txb _ _);exact Txb.get h (by decide +kernel))
 |(have h:=(by assumption:aaq _ _);exact aaq.mono h (by decide))
 |(have h:=(by assumption:Has _ _ _);first|exact Has.calm h|exact Has.calm (Has.comp h ..)|exact Has.calm (Has.comp (Has.comp h ..) ..))
 |(have h:=(by assumption:Has _ _ _);first|exact Has.nd h|exact Has.nd (Has.comp h ..)|exact Has.nd (Has.comp (Has.comp h ..) ..))
 |(have h:=(by assumption:Has _ _ _);first|exact aag.of' h (by decide +kernel)|exact aag.of' (Has.comp h ..) (by decide +kernel))
 |exact fF _
 |exact sK _ _ (by decide)
 |exact FY
 |exact F1
 |exact FV
 |exact Fh
 |exact bt_int
 |exact bt_bool
 |exact bt_str
 |exact uB
 |exact nM
 |exact bO (bO fY)
 |exact bO fY
 |exact bO (bO (bO fY))
 |exact⟨rfl,rfl,rfl,rfl,rfl⟩|(have h:=(by assumption:Has _ _ _);exact d9 h (by decide +kernel))
 |decide +kernel
 |decide
 |(simp;done)
 |(intros;rfl)
 |(intro _;walk_at "z"))
local macro_rules| `(tactic|walk_at "sc")=> `(tactic|first
 |exact⟨rfl,rfl,rfl,by decide +kernel,rfl,by decide +kernel,by decide +kernel⟩)
local macro_rules| `(tactic|walk_at "bi")=> `(tactic|first
 |exact λ_ _ _ _ _ _=>usS λ_=>us0 rfl
 |exact λ_ _ _ _ _ _=>usS λ_=>usS λ_=>us0 rfl
 |exact λ_ _ _ _ _ _=>usS λ_=>usS λ_=>usS λ_=>us0 rfl
 |exact λ_ _ _ _ _ _=>usS λ_=>usS λ_=>usS λ_=>usS λ_=>us0 rfl
 |exact λ_ _ _ _ _ _=>usS λ_=>usS λ_=>usS λ_=>usS λ_=>usS λ_=>us0 rfl)
local macro_rules| `(tactic|walk_at "mk")=> `(tactic|first
 |(intro X e1 e2 e3 e4 e5 h f p r;subst e1 e2 e3 e4 e5;have u:=r.units;(conv in defBody _=>whnf);walk_at "z"))
noncomputable abbrev rY:=rd Y
abbrev Txt:(Str->Z8 Z3)->Prop:=Txb blK
noncomputable abbrev Ik:Z9 Str:=["rows"]
abbrev GC(q:iv):Z8 Out:=db (aas .ts Y (rY 0 q))
def KS:Z9 D->Z8 (D×Bool):=bG 1 1 GC
noncomputable abbrev IM:Z9 Str:=["rows","numbers","table","cells","cell"]
abbrev tO(q:iv):Z8 D:=ixO (rY 4 q) (U (.int 1))
abbrev uM(q:iv):Z8 Out:=tj 1 (aq (af (pV (rY 3 q)) (bF Y [Y,Y,Y,Y,Y] (ae 4) (λq=>eqO (ixO (rY 4 q) (U (.int 0))) (U (.str "blank"))) tO q))) q
abbrev yB(q:iv):Z8 Out:=db (aas .it L (rY 1 q))
abbrev Gs(q:iv):Z8 Out:=ay (dT 1 (bg (U [])) q) (λq=>ay (af (b9 (rY 0 q)) λds=>aA (λd q=>af ((bd (ao (ae 2) (ao (ae 3) (aak)))) d q) uM) ds q) (λq=>yB (aaB 1 q)))
def Md:Z9 D->Z8 (D×Bool):=bG 5 1 Gs
noncomputable abbrev Ka:Z9 Str:=["row","cell_for","cell"]
abbrev uz(q:iv):Z8 D:=bY (rY 1 q) (rY 2 q) (rY 2 q)
abbrev FJ(q:iv):Z8 Out:=cq (aJ (aa (ixO (rY 0 q) (U (.int 0))) (aa (ce (aq (af (pV (ixO (rY 0 q) (U (.int 1)))) (bF Y [Y,L,Y] (ae 2) (λq=>U L) uz q)))) (U []))))
def Lf:Z9 D->Z8 (D×Bool):=bG 3 2 FJ
noncomputable abbrev IF:Z9 Str:=["rows","moves","cell_for","cell","number","row"]
noncomputable abbrev CD(q:iv):Z8 D:=aJ (aa (aJ (aa (U (.str "blank")) (aa (rY 4 q) (U [])))) (aa (rY 3 q) (U [])))
abbrev zI(q:iv):Z8 D:=shO (af (aa (rY 5 q) (aa (rY 2 q) (U []))) Lf)
abbrev GD(q:iv):Z8 Out:=ay (aS 2 (fM (aq (af (b9 (rY 1 q)) (bF Y [Y,Y,Y,Y,Y,Y] (bd (ao (ae 4) (ao (ae 3) (aak)))) (λq=>U L) CD q)))) q) (λq=>db (frO (af (aa (aq (af (b9 (rY 0 q)) (bF Y [Y,Y,L,Y,Y,Y] (ae 5) (λq=>U L) zI q))) (U [])) KS)))
def Lg:Z9 D->Z8 (D×Bool):=bG 6 2 GD
noncomputable abbrev Ie:Z9 Str:=["patterns","fit","cell_for","pattern","cell","letter"]
noncomputable abbrev Dk(q:iv):Z8 D:=aJ (aa (aJ (aa (U (.str "any")) (aa (rY 5 q) (U [])))) (aa (rY 4 q) (U [])))
abbrev yO(q:iv):Z8 D:=shO (af (aa (rY 3 q) (aa (rY 2 q) (U []))) Lf)
abbrev F7(q:iv):Z8 Out:=ay (aS 2 (fM (aq (af (b9 (rY 1 q)) (bF Y [Y,Y,Y,Y,Y,Y] (bd (ao (ae 5) (ao (ae 4) (aak)))) (λq=>U L) Dk q)))) q) (λq=>db (aq (af (b9 (rY 0 q)) (bF Y [Y,Y,L,Y,Y,Y] (ae 3) (λq=>U L) yO q))))
def KH:Z9 D->Z8 (D×Bool):=bG 6 2 F7
noncomputable abbrev IK:Z9 Str:=["patterns","letters","table","terms","term"]
abbrev zb(q:iv):Z8 D:=ixO (rY 4 q) (U (.int 1))
abbrev uH(q:iv):Z8 Out:=tj 1 (aq (af (pV (rY 3 q)) (bF Y [Y,Y,Y,Y,Y] (ae 4) (λq=>eqO (ixO (rY 4 q) (U (.int 0))) (U (.str "any"))) zb q))) q
abbrev y0(q:iv):Z8 Out:=db (aas .st L (rY 1 q))
abbrev F8(q:iv):Z8 Out:=ay (dT 1 (bg (U [])) q) (λq=>ay (af (b9 (rY 0 q)) λds=>aA (λd q=>af ((bd (ao (ae 2) (ao (ae 3) (aak)))) d q) uH) ds q) (λq=>y0 (aaB 1 q)))
def f_:Z9 D->Z8 (D×Bool):=bG 5 1 F8
noncomputable abbrev JK:Z9 Str:=["terms","cells","binding","term","cell"]
abbrev yR(q:iv):Z8 (Bool×iv):=neX (sdO 2 (ixO (rY 3 q) (U (.int 1))) (rY 4 q) q) (λq=>rY 4 q)
abbrev ko(q:iv):Z8 Out:=ifO (eqO (ixO (rY 3 q) (U (.int 0))) (U (.str "any"))) (ifX (yR q) (λq=>cq (U .non)) (λq=>aai q)) (ifO (neO (rY 3 q) (rY 4 q)) (cq (U .non)) (aai q))
abbrev Gw(q:iv):Z8 Out:=ay (dT 2 (U (.dK [] [])) q) (λq=>ay (af (BZ L L (rY 0 q) (rY 1 q)) λds=>aA (λd q=>af ((bd (ao (ae 3) (ao (ae 4) (aak)))) d q) ko) ds q) (λq=>db (cm 2 q)))
def L_:Z9 D->Z8 (D×Bool):=bG 5 2 Gw
noncomputable abbrev JL:Z9 Str:=["rows","pattern","found","table","cells","binding"]
abbrev ij(q:iv):Z8 Out:=ifO (rG (eqO (rY 3 q) (ixO (rY 1 q) (U (.int 0)))) (eqO (eX (rY 4 q)) (eX (ixO (rY 1 q) (U (.int 1)))))) (ay (aS 5 (shO (af (aa (ixO (rY 1 q) (U (.int 1))) (aa (rY 4 q) (U []))) L_)) q) (λq=>ifO (dB (rH (rY 5 q))) (kO 2 (rY 5 q) q) (aai q))) (aai q)
abbrev Gu(q:iv):Z8 Out:=ay (dT 2 (bg (U [])) q) (λq=>ay (af (b9 (rY 0 q)) λds=>aA (λd q=>af ((bd (ao (ae 3) (ao (ae 4) (aak)))) d q) ij) ds q) (λq=>db (cm 2 q)))
def LH:Z9 D->Z8 (D×Bool):=bG 6 2 Gu
noncomputable abbrev Jy:Z9 Str:=["pattern","known","letter"]
abbrev tT(q:iv):Z8 D:=ofB (inO (rY 2 q) (rY 1 q))
abbrev FE(q:iv):Z8 Out:=cq (E7 (aq (af (b9 (frO (af (aa (bg (aa (rY 0 q) (U []))) (U [])) f_))) (bF Y [Y,L,Y] (ae 2) (λq=>U L) tT q))))
def Ld:Z9 D->Z8 (D×Bool):=bG 3 2 FE
noncomputable abbrev Fs:Z9 Str:=["rows","body","known","rest","placed","bound","linked","taken","pattern","pair"]
abbrev kz(q:iv):Z8 D:=aJ (aa (rY 8 q) (aa (frO (af (aa (rY 0 q) (aa (rY 8 q) (U []))) LH)) (U [])))
abbrev iq(q:iv):Z8 D:=eX (ixO (rY 0 q) (U (.int 1)))
abbrev o8(q:iv):Z8 D:=ixO (rY 9 q) (U (.int 0))
abbrev pE(q:iv):Z8 Bool:=tyB (shO (af (aa (ixO (rY 9 q) (U (.int 0))) (aa (rY 5 q) (U []))) Ld))
abbrev t8(q:iv):Z8 Out:=kO 4 (rY 7 q) q
abbrev lm(q:iv):Z8 Bool:=B1 (rd L 3 q)
abbrev jT(q:iv):Z8 Out:=ay (aS 5 (jQ (jD (rY 2 q)) (flO (af (aa (aq (fV (af (b9 (rd L 4 q)) (bF L [Y,Y,Y,Y,Y,Y,Y,Y,Y,Y] (ae 9) (λq=>U L) o8 q)))) (U [])) f_))) q) (λq=>vZ 3 6 7 9 [Y,Y,Y,Y,Y,L,Y,Y,Y,Y] pE q t8)
abbrev MD(q:iv):Z8 Out:=ay (dT 3 (iK (aq (af (b9 (rY 1 q)) (bF Y [L,Y,Y,Y,Y,Y,Y,Y,Y,Y] (ae 8) (λq=>U L) kz q))) (λd=>iq [U (d,Y)])) q) (λq=>ay (dT 4 (bg (U [])) q) (λq=>ay (aY lm jT 1000 q) (λq=>db (cm 4 q))))
def Ma:Z9 D->Z8 (D×Bool):=bG 10 3 MD
noncomputable abbrev Ju:Z9 Str:=["letters","known","letter"]
abbrev uu(q:iv):Z8 D:=B4 (rY 1 q) (rY 2 q)
abbrev Ff(q:iv):Z8 Out:=db (aq (af (b9 (rY 0 q)) (bF Y [Y,L,Y] (ae 2) (λq=>U L) uu q)))
def Lb:Z9 D->Z8 (D×Bool):=bG 3 2 Ff
noncomputable abbrev Jg:Z9 Str:=["found","shared","added","groups","binding","key","group","letter"]
abbrev Kj(q:iv):Z8 D:=B5 (rY 4 q) (rY 7 q)
abbrev zD(q:iv):Z8 D:=B5 (rY 4 q) (rY 7 q)
noncomputable abbrev yN(q:iv):Z8 (Z9 D):=b9 (rY 0 q)
abbrev oU(q:iv):Z8 D:=ce (aq (af (b9 (rY 1 q)) (bF Y [Y,Y,Y,Y,L,Y,Y,Y] (ae 7) (λq=>U L) Kj q)))
abbrev oW(q:iv):Z8 D:=ce (aq (af (b9 (rY 2 q)) (bF Y [Y,Y,Y,Y,L,Y,Y,Y] (ae 7) (λq=>U L) zD q)))
abbrev Fz(q:iv):Z8 Out:=EG 3 4 5 6 yN oU oW q
def L9:Z9 D->Z8 (D×Bool):=bG 8 3 Fz
noncomputable abbrev Jk:Z9 Str:=["cells","places","place"]
abbrev vo(q:iv):Z8 D:=ixO (rY 0 q) (rY 2 q)
abbrev Fi(q:iv):Z8 Out:=cq (ce (aq (af (b9 (rY 1 q)) (bF Y [L,Y,Y] (ae 2) (λq=>U L) vo q))))
def KQ:Z9 D->Z8 (D×Bool):=bG 3 2 Fi
noncomputable abbrev JN:Z9 Str:=["found","shared_places","kept_places","groups","longer","cells","kept","added"]
abbrev uY(q:iv):Z8 Out:=xG 4 (uv (rY 6 q) (rY 7 q)) (U (.bl L)) q
abbrev sO(q:iv):Z8 Out:=ay (aS 6 (shO (af (aa (rY 5 q) (aa (rY 2 q) (U []))) KQ)) q) (λq=>af (xJ (bY (rY 3 q) (shO (af (aa (rY 5 q) (aa (rY 1 q) (U []))) KQ)) (U (.dD [] [])))) λds=>aA (λd q=>af ((ae 7) d q) uY) ds q)
noncomputable abbrev EN(q:iv):Z8 Out:=db (ud (rY 4 q))
abbrev FU(q:iv):Z8 Out:=ay (dT 4 (U (.dD [] [])) q) (λq=>ay (af (b9 (rY 0 q)) λds=>aA (λd q=>af ((ae 5) d q) sO) ds q) (λq=>EN (aaB 4 q)))
def L8:Z9 D->Z8 (D×Bool):=bG 8 4 FU
noncomputable abbrev Ii:Z9 Str:=["rows","body","wanted","known","found","pairs","place","pair","later","own","shared","added","kept","groups","wanted_places","letter","cells","behind"]
abbrev yY(q:iv):Z8 D:=ixO (rY 17 q) (U (.int 0))
noncomputable abbrev zm(q:iv):Z8 D:=rY 15 q
noncomputable abbrev yF(q:iv):Z8 D:=rY 15 q
noncomputable abbrev yU(q:iv):Z8 D:=rY 15 q
abbrev zJ(q:iv):Z8 Out:=ay (aS 13 (frO (af (aa (ixO (rY 7 q) (U (.int 1))) (aa (rY 10 q) (aa (rY 11 q) (U [])))) L9)) q) (λq=>ay (aS 4 (frO (af (aa (rY 4 q) (aa (frO (af (aa (rY 10 q) (aa (rY 3 q) (U []))) Lb)) (aa (frO (af (aa (rY 12 q) (aa (rY 3 q) (U []))) Lb)) (aa (rY 13 q) (U []))))) L8)) q) (λq=>aS 3 (jQ (rY 12 q) (rY 11 q)) q))
abbrev zx(q:iv):Z8 Out:=ay (dT 12 (aq (af (b9 (rY 3 q)) (bF Y [Y,Y,Y,Y,Y,Y,Y,Y,L,Y,Y,Y,Y,Y,Y,Y,Y,Y] (ae 15) (λq=>inO (rY 15 q) (rY 8 q)) yU q))) q) (λq=>zJ (aaB 12 q))
abbrev zB(q:iv):Z8 Out:=ay (dT 11 (aq (af (b9 (rY 9 q)) (bF Y [Y,Y,Y,L,Y,Y,Y,Y,L,Y,Y,Y,Y,Y,Y,Y,Y,Y] (ae 15) (λq=>rG (inO (rY 15 q) (rY 8 q)) (eZ (rY 15 q) (rY 3 q))) yF q))) q) (λq=>zx (aaB 11 q))
abbrev oJ(q:iv):Z8 Out:=ay (aS 8 (jQ (jD (rY 2 q)) (frO (af (aa (aq (af (b9 (vO (rY 5 q) (dk (fC (rY 6 q) (U (.int 1)))) (U M))) (bF Y [Y,Y,Y,Y,Y,Y,Y,Y,Y,Y,Y,Y,Y,Y,Y,Y,Y,Y] (ae 17) (λq=>U L) yY q))) (U [])) f_))) q) (λq=>ay (aS 9 (frO (af (aa (bg (aa (ixO (rY 7 q) (U (.int 0))) (U []))) (U [])) f_)) q) (λq=>ay (dT 10 (aq (af (b9 (rY 9 q)) (bF Y [Y,Y,Y,L,Y,Y,Y,Y,Y,Y,Y,Y,Y,Y,Y,Y,Y,Y] (ae 15) (λq=>inO (rY 15 q) (rY 3 q)) zm q))) q) (λq=>zB (aaB 10 q))))
abbrev yE(q:iv):Z8 D:=shO (af (aa (rY 16 q) (aa (rY 14 q) (U []))) KQ)
abbrev FF(q:iv):Z8 Out:=ay (aS 5 (frO (af (aa (rY 0 q) (aa (rY 1 q) (aa (rY 3 q) (U [])))) Ma)) q) (λq=>ay (af (ju (rY 5 q)) λds=>aA (λd q=>af ((bd (ao (ae 6) (ao (ae 7) (aak)))) d q) oJ) ds q) (λq=>ay (aS 14 (frO (af (aa (rY 2 q) (aa (rY 3 q) (U []))) Lb)) q) (λq=>db (dh .tt (aq (af (b9 (rY 4 q)) (bF Y [Y,Y,Y,Y,Y,Y,Y,Y,Y,Y,Y,Y,Y,Y,L,Y,Y,Y] (ae 16) (λq=>U L) yE q)))))))
def KG:Z9 D->Z8 (D×Bool):=bG 18 5 FF
noncomputable abbrev Iw:Z9 Str:=["rows","body","wanted"]
abbrev E8(q:iv):Z8 Out:=db (frO (af (aa (rY 0 q) (aa (rY 1 q) (aa (rY 2 q) (aa (bg (U [])) (aa (bg (aa (aJ (U [])) (U []))) (U [])))))) KG))
def Kq:Z9 D->Z8 (D×Bool):=bG 3 3 E8
noncomputable abbrev JO:Z9 Str:=["rows","question"]
abbrev FQ(q:iv):Z8 Out:=db (frO (af (aa (rY 0 q) (aa (ixO (rY 1 q) (U (.int 1))) (aa (ixO (rY 1 q) (U (.int 0))) (U [])))) Kq))
def Le:Z9 D->Z8 (D×Bool):=bG 2 2 FQ
noncomputable abbrev IB:Z9 Str:=["rows","body","known","cells","letter"]
abbrev pB(q:iv):Z8 Out:=ifO (eZ (rY 4 q) (rd L 2 q)) (ay (aS 3 (ixO (flO (af (aa (rd L 0 q) (aa (rd L 1 q) (aa (uj (rd L 2 q) (bg (aa (rY 4 q) (U [])))) (aa (rd L 2 q) (aa (bg (aa (rY 3 q) (U []))) (U [])))))) KG)) (U (.int 0))) q) (λq=>kO 2 (rY 4 q) q)) (aai q)
abbrev zj(q:iv):Z8 Out:=db (dh .ts (gY Y L (rY 2 q) (rY 3 q)))
abbrev FM(q:iv):Z8 Out:=ay (dT 2 (jD (rY 2 q)) q) (λq=>ay (af (b9 (frO (af (aa (rY 1 q) (U [])) f_))) λds=>aA (λd q=>af ((ae 4) d q) pB) ds q) (λq=>zj (aaB 2 q)))
def Mb:Z9 D->Z8 (D×Bool):=bG 5 4 FM
noncomputable abbrev JQ:Z9 Str:=["rule","known","letter"]
noncomputable abbrev zL(q:iv):Z8 D:=rY 2 q
abbrev Gx(q:iv):Z8 Out:=ay (aS 1 (frO (af (aa (ixO (rY 0 q) (U (.int 1))) (U [])) f_)) q) (λq=>db (aq (af (b9 (frO (af (aa (ixO (rY 0 q) (U (.int 2))) (U [])) f_))) (bF Y [Y,L,Y] (ae 2) (λq=>eZ (rY 2 q) (rY 1 q)) zL q))))
def La:Z9 D->Z8 (D×Bool):=bG 3 1 Gx
noncomputable abbrev JS:Z9 Str:=["rule"]
abbrev HE(q:iv):Z8 Out:=cq (aJ (aa (U (.str "same")) (aa (aJ (aa (ixO (rY 0 q) (U (.int 2))) (aa (ixO (rY 0 q) (U (.int 3))) (U [])))) (U []))))
def LG:Z9 D->Z8 (D×Bool):=bG 1 1 HE
noncomputable abbrev J8:Z9 Str:=["rule","known","letter"]
noncomputable abbrev zq(q:iv):Z8 D:=rY 2 q
abbrev EZ(q:iv):Z8 Out:=ay (ifO (eqO (ixO (rY 0 q) (U (.int 0))) (U (.str "same"))) (db (frO (af (aa (bg (aa (shO (af (aa (rY 0 q) (U [])) LG)) (U []))) (U [])) f_))) (aai q)) (λq=>ay (aS 1 (frO (af (aa (ixO (rY 0 q) (U (.int 1))) (U [])) f_)) q) (λq=>db (aq (af (b9 (frO (af (aa (ixO (rY 0 q) (U (.int 2))) (U [])) f_))) (bF Y [Y,L,Y] (ae 2) (λq=>inO (rY 2 q) (rY 1 q)) zq q)))))
def Kp:Z9 D->Z8 (D×Bool):=bG 3 1 EZ
noncomputable abbrev Jj:Z9 Str:=["cells"]
abbrev Gz(q:iv):Z8 Out:=cq (ofB (neO (ixO (rY 0 q) (U (.int 0))) (ixO (rY 0 q) (U (.int 1)))))
def L7:Z9 D->Z8 (D×Bool):=bG 1 1 Gz
noncomputable abbrev Jl:Z9 Str:=["rule","fit"]
abbrev Fb(q:iv):Z8 Out:=cq (ixO (ixO (frO (af (aa (bg (aa (shO (af (aa (rY 0 q) (U [])) LG)) (U []))) (aa (rY 1 q) (U []))) KH)) (U (.int 0))) (U (.int 1)))
def Kh:Z9 D->Z8 (D×Bool):=bG 2 2 Fb
noncomputable abbrev IV:Z9 Str:=["rows","rule","letters","found","kept","cells"]
noncomputable abbrev yS(q:iv):Z8 D:=rY 5 q
noncomputable abbrev Cr(q:iv):Z8 D:=aJ (aa (rY 5 q) (aa (U (.bl L)) (U [])))
noncomputable abbrev zu(q:iv):Z8 D:=rY 5 q
abbrev E4(q:iv):Z8 Out:=ay (aS 2 (frO (af (aa (rY 1 q) (U [])) Kp)) q) (λq=>ay (aS 3 (frO (af (aa (rY 0 q) (aa (ixO (rY 1 q) (U (.int 1))) (aa (rY 2 q) (U [])))) Kq)) q) (λq=>ay (ifO (eqO (ixO (rY 1 q) (U (.int 0))) (U (.str "same"))) (db (aq (af (b9 (rY 3 q)) (bF Y [Y,L,L,Y,Y,Y] (ae 5) (λq=>tyB (shO (af (aa (shO (af (aa (rY 1 q) (aa (gY Y L (rY 2 q) (rY 5 q)) (U []))) Kh)) (U [])) L7))) yS q)))) (aai q)) (λq=>ay (aS 4 (fM (aq (af (b9 (frO (af (aa (rY 0 q) (aa (ixO (rY 1 q) (U (.int 2))) (aa (rY 2 q) (U [])))) Kq))) (bF Y [Y,Y,Y,Y,Y,Y] (ae 5) (λq=>U L) Cr q)))) q) (λq=>db (aq (af (b9 (rY 3 q)) (bF Y [Y,Y,Y,Y,L,Y] (ae 5) (λq=>dB (BW (rY 5 q) (rY 4 q))) zu q)))))))
def KP:Z9 D->Z8 (D×Bool):=bG 6 2 E4
noncomputable abbrev JY:Z9 Str:=["rule"]
abbrev Fp(q:iv):Z8 Out:=ay (ifO (eqO (ixO (rY 0 q) (U (.int 0))) (U (.str "same"))) (cq (U (.int 0))) (aai q)) (λq=>cq (ifV (B1 (frO (af (aa (rY 0 q) (U [])) La))) (U (.int 2)) (U (.int 1))))
def K9:Z9 D->Z8 (D×Bool):=bG 1 1 Fp
noncomputable abbrev Iu:Z9 Str:=["cells","cell"]
abbrev u9(q:iv):Z8 D:=ixO (rY 1 q) (U (.int 1))
abbrev Fo(q:iv):Z8 Out:=cq (lB (aq (af (pV (rY 0 q)) (bF Y [Y,Y] (ae 1) (λq=>eqO (ixO (rY 1 q) (U (.int 0))) (U (.str "blank"))) u9 q))) (yn (U (.int 1))))
def L6:Z9 D->Z8 (D×Bool):=bG 2 1 Fo
noncomputable abbrev IC:Z9 Str:=["stand","rules","urgency","found","k","rule","oldest","cells"]
abbrev zw(q:iv):Z8 D:=aJ (aa (shO (af (aa (rY 7 q) (U [])) L6)) (aa (rY 4 q) (aa (rY 7 q) (U []))))
abbrev sL(q:iv):Z8 Out:=ifO (eqO (shO (af (aa (rY 5 q) (U [])) K9)) (rY 2 q)) (tj 3 (aq (af (b9 (frO (af (aa (rY 0 q) (aa (rY 5 q) (U []))) KP))) (bF Y [Y,Y,Y,Y,L,Y,Y,Y] (ae 7) (λq=>U L) zw q))) q) (aai q)
abbrev zE(q:iv):Z8 Out:=ay (aS 6 (Do (rY 3 q)) q) (λq=>ay (aS 5 (ixO (rY 1 q) (ixO (rY 6 q) (U (.int 1)))) q) (λq=>cq (aJ (aa (ixO (rY 6 q) (U (.int 1))) (aa (frO (af (aa (rY 0 q) (aa (ixO (rY 5 q) (U (.int 1))) (aa (frO (af (aa (rY 5 q) (U [])) Kp)) (aa (ixO (rY 6 q) (U (.int 2))) (U []))))) Mb)) (U []))))))
abbrev io(q:iv):Z8 Out:=ay (dT 3 (bg (U [])) q) (λq=>ay (af (ju (rY 1 q)) λds=>aA (λd q=>af ((bd (ao (ae 4) (ao (ae 5) (aak)))) d q) sL) ds q) (λq=>ifO (B1 (rd L 3 q)) (zE (aaB 3 q)) (aai q)))
abbrev Gm(q:iv):Z8 Out:=ay (af (rB (U (.int 3))) λds=>aA (λd q=>af ((ae 2) d q) io) ds q) (λq=>cq (U .non))
def Kg:Z9 D->Z8 (D×Bool):=bG 8 2 Gm
noncomputable abbrev IG:Z9 Str:=["rule","fit","cells"]
abbrev Gi(q:iv):Z8 Out:=ay (ifO (neO (ixO (rY 0 q) (U (.int 0))) (U (.str "same"))) (cq (U (.bl Y))) (aai q)) (λq=>ay (aS 2 (shO (af (aa (rY 0 q) (aa (rY 1 q) (U []))) Kh)) q) (λq=>cq (F4 (ofB (eqO (ixO (ixO (rY 2 q) (U (.int 0))) (U (.int 0))) (U (.str "name")))) (ofB (eqO (ixO (ixO (rY 2 q) (U (.int 1))) (U (.int 0))) (U (.str "name")))))))
def Ko:Z9 D->Z8 (D×Bool):=bG 3 2 Gi
noncomputable abbrev Jz:Z9 Str:=["rule","fit","cells"]
abbrev FT(q:iv):Z8 Out:=ay (aS 2 (fW .ts (shO (af (aa (rY 0 q) (aa (rY 1 q) (U []))) Kh))) q) (λq=>ay (ifO (eqO (ixO (ixO (rY 2 q) (U (.int 1))) (U (.int 0))) (U (.str "name"))) (db (bg (aa (aJ (aa (ixO (ixO (rY 2 q) (U (.int 0))) (U (.int 1))) (aa (ixO (rY 2 q) (U (.int 1))) (U [])))) (U [])))) (aai q)) (λq=>db (bg (aa (aJ (aa (ixO (ixO (rY 2 q) (U (.int 1))) (U (.int 1))) (aa (ixO (rY 2 q) (U (.int 0))) (U [])))) (U [])))))
def LD:Z9 D->Z8 (D×Bool):=bG 3 2 FT
noncomputable abbrev Iq:Z9 Str:=["rule","unused","letter","place"]
abbrev oP(q:iv):Z8 D:=aJ (aa (rY 2 q) (aa (aJ (aa (U (.str "blank")) (aa (fC (rY 1 q) (rY 3 q)) (U [])))) (U [])))
abbrev F6(q:iv):Z8 Out:=db (aq (af (ju (frO (af (aa (rY 0 q) (U [])) La))) (bF Y [Y,L,Y,Y] (bd (ao (ae 3) (ao (ae 2) (aak)))) (λq=>U L) oP q)))
def LF:Z9 D->Z8 (D×Bool):=bG 4 2 F6
noncomputable abbrev Ia:Z9 Str:=["rows","rules","most","stand","steps","unused","chosen","fit","rule","moves"]
noncomputable abbrev Eb(q:iv):Z8 Out:=cq (aJ (aa (U (.str "full")) (aa (rY 3 q) (aa (rY 4 q) (U [])))))
abbrev yI(q:iv):Z8 Out:=cq (aJ (aa (U (.str "clash")) (aa (rY 4 q) (aa (ixO (rY 6 q) (U (.int 0))) (aa (rY 7 q) (U []))))))
noncomputable abbrev De(q:iv):Z8 Out:=cq (aJ (aa (U (.str "open")) (aa (rY 3 q) (aa (rY 4 q) (U [])))))
noncomputable abbrev dZ(q:iv):Z8 Bool:=tyB (U (.bl L))
abbrev aW(q:iv):Z8 Out:=ay (aS 6 (shO (af (aa (rY 3 q) (aa (rY 1 q) (U []))) Kg)) q) (λq=>ay (ifO (rH (rY 6 q)) (Eb (aaB 4 q)) (aai q)) (λq=>ay (aS 7 (ixO (rY 6 q) (U (.int 1))) q) (λq=>ay (aS 8 (ixO (rY 1 q) (ixO (rY 6 q) (U (.int 0)))) q) (λq=>ay (ifO (tyB (shO (af (aa (rY 8 q) (aa (rY 7 q) (U []))) Ko))) (yI (aaB 4 q)) (aai q)) (λq=>ay (ifO (cI gGe (eX (rd L 4 q)) (rY 2 q)) (De (aaB 4 q)) (aai q)) (λq=>ay (ifO (eqO (ixO (rY 8 q) (U (.int 0))) (U (.str "same"))) (ay (aS 9 (frO (af (aa (rY 8 q) (aa (rY 7 q) (U []))) LD)) q) (λq=>aS 3 (frO (af (aa (rY 3 q) (aa (rY 9 q) (U []))) Lg)) q)) (ay (aS 9 (frO (af (aa (rY 8 q) (aa (rY 5 q) (U []))) LF)) q) (λq=>ay (aS 3 (frO (af (aa (jQ (rY 3 q) (frO (af (aa (ixO (rY 8 q) (U (.int 2))) (aa (jQ (rY 7 q) (rY 9 q)) (U []))) KH))) (U [])) KS)) q) (λq=>aS 5 (fC (rY 5 q) (eX (rY 9 q))) q)))) (λq=>kO 4 (aJ (aa (ixO (rY 6 q) (U (.int 0))) (aa (rY 7 q) (aa (rY 9 q) (U []))))) q)))))))
abbrev Gg(q:iv):Z8 Out:=ay (aS 3 (jD (rY 0 q)) q) (λq=>ay (dT 4 (bg (U [])) q) (λq=>ay (aS 5 (fC (lB (frO (af (aa (rY 3 q) (U [])) Md)) (yn (U (.int 1)))) (U (.int 1))) q) (λq=>aY dZ aW 1000 q)))
def K_:Z9 D->Z8 (D×Bool):=bG 10 3 Gg
noncomputable abbrev JH:Z9 Str:=["rows","rules","question","most","told","found","cells","cell"]
abbrev oV(q:iv):Z8 D:=ofB (eqO (ixO (rY 7 q) (U (.int 0))) (U (.str "name")))
noncomputable abbrev CI(q:iv):Z8 D:=rY 6 q
abbrev yL(q:iv):Z8 Out:=cq (aJ (aa (ifV (eqO (ixO (rY 4 q) (U (.int 0))) (U (.str "full"))) (U (.str "sure")) (U (.str "open"))) (aa (rY 5 q) (U []))))
abbrev ES(q:iv):Z8 Out:=ay (aS 4 (shO (af (aa (rY 0 q) (aa (rY 1 q) (aa (rY 3 q) (U [])))) K_)) q) (λq=>ay (ifO (eqO (ixO (rY 4 q) (U (.int 0))) (U (.str "clash"))) (cq (aJ (aa (U (.str "clash")) (U [])))) (aai q)) (λq=>ay (dT 5 (aq (af (b9 (frO (af (aa (ixO (rY 4 q) (U (.int 1))) (aa (rY 2 q) (U []))) Le))) (bF Y [Y,Y,Y,Y,Y,Y,Y,Y] (ae 6) (λq=>tyB (Dh (aq (af (pV (rY 6 q)) (bF Y [Y,Y,Y,Y,Y,Y,Y,Y] (ae 7) (λq=>U L) oV q))))) CI q))) q) (λq=>yL (aaB 5 q))))
def v_:Z9 D->Z8 (D×Bool):=bG 8 4 ES
noncomputable abbrev Im:Z9 Str:=["_law_cell","_law_k","_law_one"]
abbrev Fw(q:iv):Z8 Out:=ay (aS 2 (fw (v7 (fC (fC (fw (rY 0 q) (U (.int 2147483647))) (v7 (v7 (U (.int 40503)) (rY 1 q)) (rY 1 q))) (v7 (U (.int 17)) (rY 1 q))) (U (.int 48271))) (U (.int 2147483647))) q) (λq=>cq (fw (v7 (rY 2 q) (fC (fC (fw (rY 2 q) (U (.int 65537))) (v7 (U (.int 3)) (rY 1 q))) (U (.int 1)))) (U (.int 2147483629))))
def u_:Z9 D->Z8 (D×Bool):=bG 3 2 Fw
noncomputable abbrev Ib:Z9 Str:=["_law_cell","_law_many","_law_letters","_law_word","_law_at","_law_first","_law_k"]
abbrev rS(q:iv):Z8 D:=fE (rY 2 q) (fw (shO (af (aa (rY 0 q) (aa (rY 6 q) (U []))) u_)) (U (.int 26)))
abbrev vm(q:iv):Z8 D:=v8 (v8 (fo (rY 3 q) (U M) (dk (rY 4 q))) (fE (rY 2 q) (fw (fC (rY 5 q) (rY 6 q)) (U (.int 26))))) (fo (rY 3 q) (dk (fC (rY 4 q) (U (.int 1)))) (U M))
abbrev GB(q:iv):Z8 Out:=ay (aS 2 (U (.str "abcdefghijklmnopqrstuvwxyz")) q) (λq=>ay (aS 3 (tE (U (.str "")) (aq (af (rB (fC (U (.int 1)) (fw (rY 0 q) (U (.int 8))))) (bF Y [L,Y,L,Y,Y,Y,Y] (ae 6) (λq=>U L) rS q)))) q) (λq=>ay (aS 4 (fw (shO (af (aa (rY 0 q) (aa (U (.int 19)) (U []))) u_)) (Dt (rY 3 q))) q) (λq=>ay (aS 5 (shO (af (aa (rY 0 q) (aa (U (.int 20)) (U []))) u_)) q) (λq=>db (aq (af (rB (rY 1 q)) (bF Y [Y,Y,L,L,L,L,Y] (ae 6) (λq=>U L) vm q)))))))
def KC:Z9 D->Z8 (D×Bool):=bG 7 2 GB
noncomputable abbrev Ix:Z9 Str:=["_law_number","_law_names","_law_numbers"]
abbrev Fy(q:iv):Z8 Out:=ay (ifO (eqO (fw (rY 0 q) (U (.int 2))) (U (.int 1))) (cq (aJ (aa (U (.str "blank")) (aa (ixO (rY 2 q) (fw (v6 (rY 0 q) (U (.int 2))) (eX (rY 2 q)))) (U []))))) (aai q)) (λq=>cq (aJ (aa (U (.str "name")) (aa (ixO (rY 1 q) (fw (v6 (rY 0 q) (U (.int 2))) (eX (rY 1 q)))) (U [])))))
def L5:Z9 D->Z8 (D×Bool):=bG 3 3 Fy
noncomputable abbrev IE:Z9 Str:=["_law_rows_here","_law_told","_law_row"]
abbrev fH(q:iv):Z8 Out:=ifO (orO (eqO (eX (rd L 1 q)) (U (.int 0))) (neO (ixO (rd L 1 q) (yn (U (.int 1)))) (rY 2 q))) (kO 1 (rY 2 q) q) (aai q)
abbrev Gf(q:iv):Z8 Out:=ay (dT 1 (bg (U [])) q) (λq=>ay (af (b9 (dh .ts (rY 0 q))) λds=>aA (λd q=>af ((ae 2) d q) fH) ds q) (λq=>db (cm 1 q)))
def L4:Z9 D->Z8 (D×Bool):=bG 3 1 Gf
noncomputable abbrev GI:Z9 Str:=["_law_cell","_law_table","_law_names","_law_many","_law_numbers","_law_told","_law_k","_law_cells"]
abbrev lS(q:iv):Z8 D:=fC (fw (shO (af (aa (rY 0 q) (aa (U (.int 30)) (U []))) u_)) (U (.int 999000))) (v7 (U (.int 7)) (rY 6 q))
noncomputable abbrev gh(q:iv):Z8 Bool:=cI gLt (eX (rd L 7 q)) (rY 3 q)
abbrev fO(q:iv):Z8 Out:=kO 7 (shO (af (aa (shO (af (aa (rY 0 q) (aa (fC (fC (U (.int 40)) (v7 (U (.int 3)) (rY 6 q))) (eX (rd L 7 q))) (U []))) u_)) (aa (rY 2 q) (aa (rY 4 q) (U [])))) L5)) q
abbrev si(q:iv):Z8 Out:=kO 5 (aJ (aa (rY 1 q) (aa (ce (rY 7 q)) (U [])))) q
abbrev i9(q:iv):Z8 Out:=ay (dT 7 (bg (aa (aJ (aa (U (.str "name")) (aa (ixO (rY 2 q) (rY 6 q)) (U [])))) (U []))) q) (λq=>ay (aY gh fO 1000 q) (λq=>si (aaB 7 q)))
abbrev u6(q:iv):Z8 Out:=ay (dT 5 (bg (U [])) q) (λq=>ay (af (rB (eX (rY 2 q))) λds=>aA (λd q=>af ((ae 6) d q) i9) ds q) (λq=>db (flO (af (aa (rd L 5 q) (U [])) L4))))
abbrev Av(q:iv):Z8 Out:=ay (dT 4 (aq (af (rB (U (.int 3))) (bF Y [L,Y,Y,Y,Y,Y,Y,Y] (ae 6) (λq=>U L) lS q))) q) (λq=>u6 (aaB 4 q))
def Kx:Z9 D->Z8 (D×Bool):=bG 8 4 Av
noncomputable abbrev FP:Z9 Str:=["_law_cell","_law_one","_law_other","_law_many","_law_letters","_law_body","_law_head","_law_k"]
abbrev mw(q:iv):Z8 D:=aJ (aa (U (.str "any")) (aa (fE (rY 4 q) (rY 7 q)) (U [])))
abbrev Ad(q:iv):Z8 Out:=ay (aS 5 (bg (aa (aJ (aa (rY 1 q) (aa (ce (aq (af (rB (rY 3 q)) (bF Y [Y,Y,Y,Y,L,Y,Y,Y] (ae 7) (λq=>U L) mw q)))) (U [])))) (U []))) q) (λq=>ay (aS 6 (bg (aa (aJ (aa (rY 2 q) (aa (aJ (aa (aJ (aa (U (.str "any")) (aa (fE (rY 4 q) (U (.int 0))) (U [])))) (U []))) (U [])))) (U []))) q) (λq=>ay (ifO (eqO (fw (rY 0 q) (U (.int 2))) (U (.int 1))) (aS 6 (jQ (rY 6 q) (bg (aa (aJ (aa (v8 (rY 2 q) (U (.str "x"))) (aa (aJ (aa (aJ (aa (U (.str "any")) (aa (fE (rY 4 q) (U (.int 0))) (U [])))) (aa (aJ (aa (U (.str "any")) (aa (fE (rY 4 q) (U (.int 4))) (U [])))) (U [])))) (U [])))) (U [])))) q) (aai q)) (λq=>cq (aJ (aa (U (.str "must")) (aa (rY 5 q) (aa (rY 6 q) (U []))))))))
def Kw:Z9 D->Z8 (D×Bool):=bG 8 5 Ad
noncomputable abbrev Gn:Z9 Str:=["_law_found","_law_names","_law_many","_law_due","_law_told","_law_name","_law_answer"]
noncomputable abbrev BH(q:iv):Z8 D:=aJ (aa (aJ (aa (U (.str "name")) (aa (rY 5 q) (U [])))) (U []))
noncomputable abbrev su(q:iv):Z8 D:=rY 6 q
abbrev tU(q:iv):Z8 Out:=cq (F4 (ofB (eqO (ixO (rY 0 q) (U (.int 1))) (rY 4 q))) (ofB (eqO (eX (rY 4 q)) (rY 2 q))))
abbrev rP(q:iv):Z8 Out:=ay (dT 4 (aq (af (b9 (rY 3 q)) (bF Y [L,Y,Y,Y,Y,Y,Y] (ae 6) (λq=>inO (rY 6 q) (ixO (rY 0 q) (U (.int 1)))) su q))) q) (λq=>tU (aaB 4 q))
abbrev Bv(q:iv):Z8 Out:=ay (ifO (orO (dB (tyB (B2 "tuple" (rY 0 q)))) (orO (neO (eX (rY 0 q)) (U (.int 2))) (orO (neO (ixO (rY 0 q) (U (.int 0))) (U (.str "open"))) (dB (tyB (B2 "list" (ixO (rY 0 q) (U (.int 1))))))))) (cq (U (.bl Y))) (aai q)) (λq=>ay (dT 3 (aq (af (b9 (dh .st (rY 1 q))) (bF Y [Y,Y,Y,Y,Y,Y,Y] (ae 5) (λq=>U L) BH q))) q) (λq=>rP (aaB 3 q)))
def Kv:Z9 D->Z8 (D×Bool):=bG 7 3 Bv
noncomputable abbrev Gh:Z9 Str:=["_law_rows_here","_law_one","_law_many","_law_letters","_law_names","_law_other","_law_rule","_law_clash","_law_table","_law_cells","_law_there","_law_k"]
abbrev m9(q:iv):Z8 D:=aJ (aa (U (.str "any")) (aa (fE (rY 3 q) (rY 11 q)) (U [])))
abbrev jB(q:iv):Z8 Out:=ay (aS 10 (rY 5 q) q) (λq=>ay (ifO (cI gGt (rY 2 q) (U (.int 1))) (aS 10 (ixO (rY 9 q) (U (.int 1))) q) (aai q)) (λq=>ifO (rG (eqO (ixO (rY 10 q) (U (.int 0))) (U (.str "name"))) (neO (rY 10 q) (ixO (rY 9 q) (U (.int 0))))) (aS 7 (U (.bl L)) q) (aai q)))
abbrev Dg(q:iv):Z8 Out:=ay (aS 5 (aJ (aa (U (.str "name")) (aa (ixO (rY 4 q) (U (.int 0))) (U [])))) q) (λq=>ay (ifO (cI gGt (rY 2 q) (U (.int 1))) (aS 5 (aJ (aa (U (.str "any")) (aa (fE (rY 3 q) (U (.int 1))) (U [])))) q) (aai q)) (λq=>ay (aS 6 (aJ (aa (U (.str "same")) (aa (bg (aa (aJ (aa (rY 1 q) (aa (ce (aq (af (rB (rY 2 q)) (bF Y [Y,Y,Y,L,Y,Y,Y,Y,Y,Y,Y,Y] (ae 11) (λq=>U L) m9 q)))) (U [])))) (U []))) (aa (aJ (aa (U (.str "any")) (aa (fE (rY 3 q) (U (.int 0))) (U [])))) (aa (rY 5 q) (U [])))))) q) (λq=>ay (aS 7 (U (.bl Y)) q) (λq=>ay (af (b9 (rY 0 q)) λds=>aA (λd q=>af ((bd (ao (ae 8) (ao (ae 9) (aak)))) d q) jB) ds q) (λq=>cq (aJ (aa (rY 6 q) (aa (rY 7 q) (U [])))))))))
def K0:Z9 D->Z8 (D×Bool):=bG 12 5 Dg
noncomputable abbrev F5:Z9 Str:=["_law_cell","_law_words_here","_law_one","_law_other","_law_names","_law_many","_law_first","_law_letters","_law_rows_here","_law_rules","_law_most","_law_question","_law_handed","_law_found","_law_rule","_law_clash","_law_name"]
noncomputable abbrev Ar(q:iv):Z8 D:=aJ (aa (aJ (aa (U (.str "name")) (aa (rY 16 q) (U [])))) (U []))
abbrev CC(q:iv):Z8 Out:=ay (aS 1 (frO (af (aa (rY 0 q) (aa (U (.int 2)) (U []))) KC)) q) (λq=>ay (aS 2 (v8 (U (.str "a")) (fo (ixO (rY 1 q) (U (.int 0))) (U M) (dk (U (.int 6))))) q) (λq=>ay (aS 3 (v8 (U (.str "b")) (fo (ixO (rY 1 q) (U (.int 1))) (U M) (dk (U (.int 6))))) q) (λq=>ay (aS 4 (frO (af (aa (v6 (rY 0 q) (U (.int 3))) (aa (fC (U (.int 1)) (fw (v6 (rY 0 q) (U (.int 8))) (U (.int 6)))) (U []))) KC)) q) (λq=>ay (aS 5 (fC (U (.int 1)) (fw (shO (af (aa (rY 0 q) (aa (U (.int 25)) (U []))) u_)) (U (.int 3)))) q) (λq=>ay (aS 6 (fw (shO (af (aa (rY 0 q) (aa (U (.int 26)) (U []))) u_)) (U (.int 21))) q) (λq=>ay (aS 7 (fo (U (.str "ABCDEFGHIJKLMNOPQRSTUVWXYZ")) (dk (rY 6 q)) (dk (fC (rY 6 q) (U (.int 5))))) q) (λq=>ay (aS 8 (frO (af (aa (rY 0 q) (aa (rY 2 q) (aa (rY 4 q) (aa (rY 5 q) (U []))))) Kx)) q) (λq=>ay (aS 9 (bg (aa (shO (af (aa (rY 0 q) (aa (rY 2 q) (aa (rY 3 q) (aa (rY 5 q) (aa (rY 7 q) (U [])))))) Kw)) (U []))) q) (λq=>ay (ifO (eqO (fw (v6 (rY 0 q) (U (.int 5))) (U (.int 3))) (U (.int 1))) (aS 9 (jQ (bg (aa (aJ (aa (U (.str "must")) (aa (bg (aa (aJ (aa (U (.str "none")) (aa (aJ (aa (aJ (aa (U (.str "any")) (aa (U (.str "A")) (U [])))) (U []))) (U [])))) (U []))) (aa (bg (aa (aJ (aa (rY 2 q) (aa (aJ (aa (aJ (aa (U (.str "any")) (aa (U (.str "B")) (U [])))) (U []))) (U [])))) (U []))) (U []))))) (U []))) (rY 9 q)) q) (aai q)) (λq=>ay (aS 10 (fw (shO (af (aa (rY 0 q) (aa (U (.int 27)) (U []))) u_)) (fC (eX (rY 4 q)) (U (.int 2)))) q) (λq=>ay (aS 11 (aJ (aa (bg (aa (fE (rY 7 q) (U (.int 1))) (U []))) (aa (bg (aa (aJ (aa (rY 3 q) (aa (aJ (aa (aJ (aa (U (.str "any")) (aa (fE (rY 7 q) (U (.int 1))) (U [])))) (U []))) (U [])))) (U []))) (U [])))) q) (λq=>ay (aS 12 (bg (aa (jD (rY 8 q)) (aa (jD (rY 9 q)) (U [])))) q) (λq=>ay (aS 13 (shO (af (aa (ixO (rY 12 q) (U (.int 0))) (aa (ixO (rY 12 q) (U (.int 1))) (aa (rY 11 q) (aa (rY 10 q) (U []))))) v_)) q) (λq=>ay (ifO (neO (rY 12 q) (bg (aa (rY 8 q) (aa (rY 9 q) (U []))))) (cq (U (.bl Y))) (aai q)) (λq=>ay (ifO (rG (cI gLt (rY 10 q) (eX (rY 4 q))) (dB (tyB (shO (af (aa (rY 13 q) (aa (rY 4 q) (aa (rY 10 q) (U [])))) Kv))))) (cq (U (.bl Y))) (aai q)) (λq=>ay (ifO (rG (cI gGe (rY 10 q) (eX (rY 4 q))) (neO (rY 13 q) (aJ (aa (U (.str "sure")) (aa (aq (af (b9 (dh .st (rY 4 q))) (bF Y [Y,Y,Y,Y,Y,Y,Y,Y,Y,Y,Y,Y,Y,Y,Y,Y,Y] (ae 16) (λq=>U L) Ar q))) (U [])))))) (cq (U (.bl Y))) (aai q)) (λq=>ay (ifO (neO (shO (af (aa (rY 8 q) (aa (bg (U [])) (aa (aJ (aa (bg (U [])) (aa (bg (U [])) (U [])))) (aa (rY 10 q) (U []))))) v_)) (aJ (aa (U (.str "sure")) (aa (bg (aa (aJ (U [])) (U []))) (U []))))) (cq (U (.bl Y))) (aai q)) (λq=>ay (Fa (shO (af (aa (rY 8 q) (aa (rY 2 q) (aa (rY 5 q) (aa (rY 7 q) (aa (rY 4 q) (U [])))))) K0)) (bd (ao (ae 14) (ao (ae 15) (aak)))) q) (λq=>ay (aS 13 (shO (af (aa (rY 8 q) (aa (bg (aa (rY 14 q) (U []))) (aa (rY 11 q) (aa (rY 10 q) (U []))))) v_)) q) (λq=>cq (orV (ofB (dB (tyB (rY 15 q)))) (ofB (eqO (rY 13 q) (aJ (aa (U (.str "clash")) (U []))))))))))))))))))))))))))
def Ku:Z9 D->Z8 (D×Bool):=bG 17 1 CC
noncomputable abbrev acj:Z9 Str:=["_law_script","_law_cell"]
abbrev lX(q:iv):Z8 Out:=ifO (dB (tyB (shO (af (aa (rd Y 1 q) (U [])) Ku)))) (cq (U (.bl Y))) (aai q)
abbrev DB(q:iv):Z8 Out:=ay (af (b9 (jQ (vO (rd Y 0 q) (U M) (dk (U (.int 40)))) (bg (aa (U (.int 0)) (U []))))) λds=>aA (λd q=>af ((ae 1) d q) lX) ds q) (λq=>cq (U (.bl L)))
def f_law:Z9 D->Z8 (D×Bool):=bG 2 1 DB
section
variable{P:Za}{w:Y1}{K:Z4}{m:Str->Z8 Z3}{b:Heap}(T:Txt m)
include T
theorem Ig(D:Df K m "stand_of" Hd):FnM P w K m b 1 "stand_of" KS:=
 mk 1 Ik GC D
theorem JF(D:Df K m "blanks_of" HS):FnM P w K m b 1 "blanks_of" Md:=
 mk 1 IM Gs D
theorem HX(D:Df K m "exchanged" G6):FnM P w K m b 1 "exchanged" Lf:=
 mk 2 Ka FJ D
theorem Ir(D:Df K m "moved" HW)(_:FnM P w K m b 1 "stand_of" KS)(_:FnM P w K m b 1 "exchanged" Lf):FnM P w K m b 2 "moved" Lg:=
 mk 2 IF GD D
theorem IW(D:Df K m "filled" HA)(_:FnM P w K m b 1 "exchanged" Lf):FnM P w K m b 2 "filled" KH:=
 mk 2 Ie F7 D
theorem Jr(D:Df K m "letters_of" HN):FnM P w K m b 1 "letters_of" f_:=
 mk 1 IK F8 D
theorem Kb(D:Df K m "binding_of" GV):FnM P w K m b 1 "binding_of" L_:=
 mk 2 JK Gw D
theorem IA(D:Df K m "bindings" HG)(_:FnM P w K m b 1 "binding_of" L_):FnM P w K m b 2 "bindings" LH:=
 mk 2 JL Gu D
theorem Ic(D:Df K m "is_linked" Hn)(_:FnM P w K m b 1 "letters_of" f_):FnM P w K m b 2 "is_linked" Ld:=
 mk 2 Jy FE D
omit T in
def Dl:aaC Fs (["rows","body","known"]:Z9 Str) (defScope BY):=⟨rfl,rfl,rfl,by decide +kernel,rfl,by decide +kernel,by decide +kernel⟩
omit T in
theorem JR{X:Cx}(hX:Has X Fs (defScope BY))(hf:∀x,X.fn x=L)(hp:PassesOwn (model X.prog X.w) X.A X.env X.xe)(hr:aaq 3 X.A)(T:Txt X.mg)(P_ c_:ZP)(O2:((P_,("search_order.<locals>.<lambda>":Str)):ZP×Str)∈Lams.tb)(hLq:X.env.qual++"<lambda>"=("search_order.<locals>.<lambda>":Str))(O3:W.CodeHd X.base c_ P_)(hLc:X.env.code=.ref c_)(SI:FnM X.prog X.w X.K X.mg X.base 1 "letters_of" f_)(NW:FnM X.prog X.w X.K X.mg X.base 2 "bindings" LH)(SH:FnM X.prog X.w X.K X.mg X.base 2 "is_linked" Ld):
  DSs X (defBody BY) MD:=by
 have hu:=hr.units;have n1:Nm X 1 "body":=hX.nm (by decide +kernel);have n2:Nm X 2 "known":=hX.nm (by decide +kernel);have n3:Nm X 3 "rest":=hX.nm (by decide +kernel);have l3:Lc X 3 "rest":=hX.lc hf (by decide +kernel);have n4:Nm X 4 "placed":=hX.nm (by decide +kernel);have l4:Lc X 4 "placed":=hX.lc hf (by decide +kernel);have l5:Lc X 5 "bound":=hX.lc hf (by decide +kernel);have n6:Nm X 6 "linked":=hX.nm (by decide +kernel);have n7:Nm X 7 "taken":=hX.nm (by decide +kernel);have l7:Lc X 7 "taken":=hX.lc hf (by decide +kernel);have PY:Gb X "letters_of":=hX.gb (by decide +kernel);have MH:Gb X "list":=hX.gb (by decide +kernel);have LJ:Gb X "sorted":=hX.gb (by decide +kernel);refine' @dM _ _ _ _ _ _ ?z1 ?_
 case z1=>
  refine' @jA _ _ _ _ _ _ _ _ hX.nd l3 ?z2 (by rfl)
  case z2=>
   refine' @m5 _ _ _ _ _ iq _ _ _ _ _ _ _ _ _ "pair" 0 (hr.mono (by decide)) LJ.gl (Txb.get (x:="sorted") T (by decide +kernel)) O2 hLq O3 hLc rfl rfl ⟨rfl,rfl,rfl,by decide +kernel,rfl,by decide +kernel,by decide +kernel⟩ (λ_ _ _ _ _=>.of_eq rfl) ?z3 ?z4 (by rfl)
   case z3=>
    intro _ _ _ _ _ _;exact @uP _ _ Y Y _ _ _ _ ((EU (N:=["pair"]) (by decide +kernel)).gb (x:="len") (by decide +kernel)) (Txb.get (x:="len") T (by decide +kernel)) (@xU _ _ Y Y _ _ _ _ _ (@nv _ _ _ _ _ Y ((EU (N:=["pair"]) (by decide +kernel)).nm (i:=0) (by decide +kernel))) (@oY _ _ Y _ _ _) (by exact λ_ _=>rfl)) (by rfl)
   case z4=>
    refine' @DF.share _ _ Y _ _ ?z5
    case z5=>
     refine' @tP _ _ _ _ _ _ _ _ _ _ _ _ _ hX.calm (fF 8) (@mn _ _ Y _ _ _ (@nv _ _ _ _ _ Y n1)) (aag.of' hX (by decide +kernel)) (λcl C O Z ex pn=>@jz _ _ _ _ _ (hX.comp _ cl C O Z ex pn).nd ((hX.comp _ cl C O Z ex pn).lcl (i:=8) (by decide +kernel))) (λcl C O Z ex pn=>@mM _ _) ?z6 (by intro _;rfl)
     case z6=>
      intro cl C O Z ex pn;refine' @yZ _ _ Y _ _ _ _ ?z7
      case z7=>
       refine' @cY _ _ Y _ _ _ _ (@nv _ _ _ _ _ Y ((hX.comp _ cl C O Z ex pn).nm (i:=8) (by decide +kernel))) ?z8 (by rfl)
       case z8=>
        refine' @cY _ _ Y _ _ _ _ ?z9 (@ia _ _ _) (by rfl)
        case z9=>
         refine' @DF.share _ _ Y _ _ ?K3
         case K3=>
          refine' @nU _ _ _ _ _ _ _ _ _ _ NW (hr.mono (by decide)) ((hX.comp _ cl C O Z ex pn).gb (x:="bindings") (by decide +kernel)) ?Qy (by rfl) (by rfl)
          case Qy=>
           exact @cY _ _ Y _ _ _ _ (@nv _ _ _ _ _ Y ((hX.comp _ cl C O Z ex pn).nm (i:=0) (by decide +kernel))) (@cY _ _ Y _ _ _ _ (@nv _ _ _ _ _ Y ((hX.comp _ cl C O Z ex pn).nm (i:=8) (by decide +kernel))) (@ia _ _ _) (by rfl)) (by rfl)
 refine' @dM _ _ _ _ _ _ ?Qx ?_
 case Qx=>
  exact @jA _ _ _ _ _ _ _ _ hX.nd l4 (@yQ _ _ _ _ _ (@ia _ _ _)) (by rfl)
 refine @dM _ _ _ _ _ _ (@oC _ _ _ _ lm jT _ 1000 hp (@zl _ _ _ _ _ (@nv _ _ _ _ _ L n3) (by intro _;rfl)) ?_) ?_
 .refine' @dM _ _ _ _ _ _ ?Qw ?_
  case Qw=>
   refine' @rR _ _ _ _ _ _ _ _ hX.nd l5 ?UP (by rfl)
   case UP=>
    refine' @DF.share _ _ Y _ _ ?UO
    case UO=>
     refine' @zk _ _ _ _ _ _ _ ?UN ?UM
     case UN=>
      exact @DF.share _ _ Y _ _ (@sa _ _ _ _ _ _ MH.gl (Txb.get (x:="list") T (by decide +kernel)) (@nv _ _ _ _ _ Y n2) (by rfl))
     case UM=>
      refine' @DF.share _ _ Y _ _ ?UL
      case UL=>
       refine' @j1 _ _ _ _ _ _ _ _ _ _ SI (hr.mono (by decide)) PY ?UK (by rfl) (by rfl)
       case UK=>
        refine' @cY _ _ _ _ _ _ _ ?UJ (@ia _ _ _) (by rfl)
        case UJ=>
         refine' @DF.share _ _ L _ _ ?UI
         case UI=>
          refine' @o6 _ _ _ _ _ _ _ _ _ _ _ _ _ hX.calm (fF 9) (@mn _ _ _ _ _ _ (@nv _ _ _ _ _ L n4)) (aag.of' hX (by decide +kernel)) (λcl C O Z ex pn=>@jz _ _ _ _ _ (hX.comp _ cl C O Z ex pn).nd ((hX.comp _ cl C O Z ex pn).lcl (i:=9) (by decide +kernel))) (λcl C O Z ex pn=>@mM _ _) ?UH (by intro _;rfl)
          case UH=>
           intro cl C O Z ex pn;exact @xU _ _ Y Y _ _ _ _ _ (@nv _ _ _ _ _ Y ((hX.comp _ cl C O Z ex pn).nm (i:=9) (by decide +kernel))) (@oY _ _ Y _ _ _) (by exact λ_ _=>rfl)
  refine' @uq _ _ 3 9 6 7 _ _ _ _ ([Y,Y,Y,Y,Y,L,Y,Y,Y,Y]) _ _ pE _ t8 _ _ _ _ _ _ _ _ _ _ _ _ _ _ _ _ _ _ _ _ _ _ _ hu hX.nd hX.calm n3 n6 n7 l7 (lf hX (by decide +kernel)) (by decide) (by decide) (by decide) (aag.of' hX (by decide +kernel)) (λcl C O Z ex pn=>md (hX.comp _ cl C O Z ex pn).nd ((hX.comp _ cl C O Z ex pn).lcl (i:=9) (x:="pair") (by decide +kernel)).at' ((hX.comp _ cl C O Z ex pn).lcl (i:=9) (x:="pair") (by decide +kernel)).loc ((hX.comp _ cl C O Z ex pn).lcl (i:=9) (x:="pair") (by decide +kernel)).fnl) ?UG (λcl C O Z ex pn=>bA ((hX.comp _ cl C O Z ex pn).nm (i:=9) (x:="pair") (by decide +kernel)).at' ((hX.comp _ cl C O Z ex pn).nm (i:=9) (x:="pair") (by decide +kernel)).vis (by decide) (by decide)) ?_ (d9 hX (by decide +kernel)) (by intro _;rfl) (by rfl) (by intro _;rfl) (λ_ _=>rfl) (λ_ _=>rfl) ⟨by rfl,by rfl,by rfl,by rfl,by rfl⟩ (by rfl)
  case UG=>
   intro cl C O Z ex pn;refine' @uc _ _ _ _ ?UE
   case UE=>
    refine' @zp _ _ Y _ _ ?UD (by intro _;rfl)
    case UD=>
     refine' @nO _ _ Y _ _ _ _ _ _ _ _ SH (hr.mono (by decide)) ((hX.comp _ cl C O Z ex pn).gb (x:="is_linked") (by decide +kernel)) ?UC (by rfl) (by rfl)
     case UC=>
      exact @cY _ _ Y _ _ _ _ (@xU _ _ Y Y _ _ _ _ _ (@nv _ _ _ _ _ Y ((hX.comp _ cl C O Z ex pn).nm (i:=9) (by decide +kernel))) (@oY _ _ Y _ _ _) (by exact λ_ _=>rfl)) (@cY _ _ Y _ _ _ _ (@nv _ _ _ _ _ Y ((hX.comp _ cl C O Z ex pn).nm (i:=5) (by decide +kernel))) (@ia _ _ _) (by rfl)) (by rfl)
  refine @mL _ _ _ _ (@iC _ _ _ _ _ _ _ _ _ _ n4 (@nv _ _ _ _ _ Y n7) ⟨by rfl,by rfl,by rfl,by rfl,by rfl⟩ (by rfl))
 refine @mL _ _ _ _ (@pK _ _ _ _ _ _ n4)
theorem Jp{c_ P_:ZP}(D:DfC K m "search_order" BY c_)(O2:((P_,("search_order.<locals>.<lambda>":Str)):ZP×Str)∈Lams.tb)(O3:W.CodeHd b c_ P_)(O:FnM P w K m b 1 "letters_of" f_)(NW:FnM P w K m b 2 "bindings" LH)(Z:FnM P w K m b 2 "is_linked" Ld):
  FnM P w K m b 4 "search_order" Ma:=by
 obtain⟨f,fd,F,hm,PV⟩:=D;have hb:=F.binds (ps:=["rows","body","known"]) (by walk_at "bi");have h:=yW (P:=P) (w:=w) (base:=b) (k:=3) (g:=MD) F Dl hb hm (by decide) λA outer s H E hr=>by
  exact @JR _ ((qY CX0 P w K m b Fs "search_order" (defScope BY) f fd.code A outer s H E).nox) (EU Dl.nd) (λ_=>rfl) PassesOwn.never hr T P_ c_ O2 rfl O3 PV O NW Z
 exact h.2
theorem Jx(D:Df K m "places_of" GS):FnM P w K m b 1 "places_of" Lb:=
 mk 2 Ju Ff D
theorem Jq(D:Df K m "grouped" Hw):FnM P w K m b 1 "grouped" L9:=
 mk 3 Jg Fz D
theorem Jf(D:Df K m "picked" Hh):FnM P w K m b 1 "picked" KQ:=
 mk 2 Jk Fi D
theorem JW(D:Df K m "extended" Hc)(_:FnM P w K m b 1 "picked" KQ):FnM P w K m b 2 "extended" L8:=
 mk 4 JN FU D
theorem IU(D:Df K m "joined_from" Hm)(_:FnM P w K m b 1 "letters_of" f_)(_:FnM P w K m b 4 "search_order" Ma)(_:FnM P w K m b 1 "places_of" Lb)(_:FnM P w K m b 1 "grouped" L9)(_:FnM P w K m b 1 "picked" KQ)(_:FnM P w K m b 2 "extended" L8):FnM P w K m b 5 "joined_from" KG:=
 mk 5 Ii FF D
theorem Jw(D:Df K m "joined" Hj)(_:FnM P w K m b 5 "joined_from" KG):FnM P w K m b 6 "joined" Kq:=
 mk 3 Iw E8 D
theorem J7(D:Df K m "answers" Hl)(_:FnM P w K m b 6 "joined" Kq):FnM P w K m b 7 "answers" Le:=
 mk 2 JO FQ D
theorem Jh(D:Df K m "fit_with" HJ)(_:FnM P w K m b 1 "letters_of" f_)(_:FnM P w K m b 5 "joined_from" KG):FnM P w K m b 6 "fit_with" Mb:=
 mk 4 IB FM D
theorem JI(D:Df K m "fresh" HC)(_:FnM P w K m b 1 "letters_of" f_):FnM P w K m b 2 "fresh" La:=
 mk 1 JQ Gx D
theorem Io(D:Df K m "two_terms" HP):FnM P w K m b 1 "two_terms" LG:=
 mk 1 JS HE D
theorem IY(D:Df K m "deciding_letters" Hx)(_:FnM P w K m b 1 "letters_of" f_)(_:FnM P w K m b 1 "two_terms" LG):FnM P w K m b 2 "deciding_letters" Kp:=
 mk 1 J8 EZ D
theorem IT(D:Df K m "is_unlike" HM):FnM P w K m b 1 "is_unlike" L7:=
 mk 1 Jj Gz D
theorem JE(D:Df K m "two_cells" He)(_:FnM P w K m b 2 "filled" KH)(_:FnM P w K m b 1 "two_terms" LG):FnM P w K m b 3 "two_cells" Kh:=
 mk 2 Jl Fb D
theorem Jc(D:Df K m "broken_cells" G0)(_:FnM P w K m b 6 "joined" Kq)(_:FnM P w K m b 2 "deciding_letters" Kp)(_:FnM P w K m b 1 "is_unlike" L7)(_:FnM P w K m b 3 "two_cells" Kh):FnM P w K m b 7 "broken_cells" KP:=
 mk 2 IV E4 D
theorem JA(D:Df K m "urgency_of" Hv)(_:FnM P w K m b 2 "fresh" La):FnM P w K m b 3 "urgency_of" K9:=
 mk 1 JY Fp D
theorem IP(D:Df K m "age" G2):FnM P w K m b 1 "age" L6:=
 mk 1 Iu Fo D
theorem II(D:Df K m "next_broken" Hq)(_:FnM P w K m b 6 "fit_with" Mb)(_:FnM P w K m b 2 "deciding_letters" Kp)(_:FnM P w K m b 7 "broken_cells" KP)(_:FnM P w K m b 3 "urgency_of" K9)(_:FnM P w K m b 1 "age" L6):FnM P w K m b 8 "next_broken" Kg:=
 mk 2 IC Gm D
theorem JM(D:Df K m "is_clash" Hf)(_:FnM P w K m b 3 "two_cells" Kh):FnM P w K m b 4 "is_clash" Ko:=
 mk 2 IG Gi D
theorem Iz(D:Df K m "same_moves" G8)(_:FnM P w K m b 3 "two_cells" Kh):FnM P w K m b 4 "same_moves" LD:=
 mk 2 Jz FT D
theorem IH(D:Df K m "fresh_moves" GR)(_:FnM P w K m b 2 "fresh" La):FnM P w K m b 3 "fresh_moves" LF:=
 mk 2 Iq F6 D
theorem IR(D:Df K m "full" Hb)(_:FnM P w K m b 1 "stand_of" KS)(_:FnM P w K m b 1 "blanks_of" Md)(_:FnM P w K m b 2 "moved" Lg)(_:FnM P w K m b 2 "filled" KH)(_:FnM P w K m b 8 "next_broken" Kg)(_:FnM P w K m b 4 "is_clash" Ko)(_:FnM P w K m b 4 "same_moves" LD)(_:FnM P w K m b 3 "fresh_moves" LF):FnM P w K m b 9 "full" K_:=
 mk 3 Ia Gg D
theorem Je(D:Df K m "sure" GX)(_:FnM P w K m b 7 "answers" Le)(_:FnM P w K m b 9 "full" K_):FnM P w K m b 10 "sure" v_:=
 mk 4 JH ES D
theorem JD(D:Df K m "_law_mixed" Ha):FnM P w K m b 1 "_law_mixed" u_:=
 mk 2 Im Fw D
theorem JG(D:Df K m "_law_words" Hu)(_:FnM P w K m b 1 "_law_mixed" u_):FnM P w K m b 2 "_law_words" KC:=
 mk 2 Ib GB D
theorem JX(D:Df K m "_law_drawn" Hi):FnM P w K m b 1 "_law_drawn" L5:=
 mk 3 Ix Fy D
theorem IZ(D:Df K m "_law_stand" G4):FnM P w K m b 1 "_law_stand" L4:=
 mk 1 IE Gf D
theorem GQ(D:Df K m "_law_rows" Ea)(_:FnM P w K m b 1 "_law_mixed" u_)(_:FnM P w K m b 1 "_law_drawn" L5)(_:FnM P w K m b 1 "_law_stand" L4):FnM P w K m b 2 "_law_rows" Kx:=
 mk 4 GI Av D
theorem Gk(D:Df K m "_law_must" CO):FnM P w K m b 1 "_law_must" Kw:=
 mk 5 FP Ad D
theorem Fl(D:Df K m "_law_is_open" Cm):FnM P w K m b 1 "_law_is_open" Kv:=
 mk 3 Gn Bv D
theorem Fd(D:Df K m "_law_same" Cs):FnM P w K m b 1 "_law_same" K0:=
 mk 5 Gh Dg D
theorem FZ(D:Df K m "_law_right" CL)(_:FnM P w K m b 10 "sure" v_)(_:FnM P w K m b 1 "_law_mixed" u_)(_:FnM P w K m b 2 "_law_words" KC)(_:FnM P w K m b 2 "_law_rows" Kx)(_:FnM P w K m b 1 "_law_must" Kw)(_:FnM P w K m b 1 "_law_is_open" Kv)(_:FnM P w K m b 1 "_law_same" K0):FnM P w K m b 11 "_law_right" Ku:=
 mk 1 F5 CC D
def GK(F:Fun K "law" "law" s_law f fd)(O:m "law"=U (.ref f))(_:FnM P w K m b 11 "_law_right" Ku):abk P w K m b CX0 12 f fd (acj.take 1) (spM K f_law):=
 (mkF 1 acj DB F O (by walk_at "sc") (by walk_at "bi") (by walk_at "mk")).1
end
end K63
namespace K63
open PySem L2
variable[Lams]
def all_mk{l:W.OpenLaw}(S:Seen defsK blK [("search_order",c_)] K)(X:K.In h)(G:h.Ns mainGlobals mg)(Oj:mg "law"=U (.ref fa))(O2:((P_,("search_order.<locals>.<lambda>":Str)):ZP×Str)∈Lams.tb)(O3:W.codeHdIn K c_ P_=L):
  ∃fd:FuncData,(∀(s:ZV)(v:Z3),BindsTo s fd ⟨[v],[]⟩ [("_law_script",v)])/\∀base:Heap,K.In base->base.Ns mainGlobals mg->abk l.prog w K mg base CX0 12 fa fd ["_law_script"] (spM K f_law):=by
 have T:Txt mg:=S.txt X G;obtain⟨f,fd,F,hm⟩:=S.df X G 41 rfl;cases Oj.symm.trans hm;have F':=F;obtain⟨oc,od,kV,doc,pm,an,Ky,ct,Oe,rfl,_,_⟩:=F'.ex;refine⟨W.fnOf "law" "law" (defArgs s_law) (defBody s_law) (defScope s_law) .none kV doc pm an Ky ct,λs v=>.of_eq rfl,λbase KB _=>?_⟩;have M_stand_of:=@Ig _ l.prog w K mg base T (S.df X G 0 rfl);have M_blanks_of:=@JF _ l.prog w K mg base T (S.df X G 1 rfl);have M_exchanged:=@HX _ l.prog w K mg base T (S.df X G 2 rfl);have M_moved:=@Ir _ l.prog w K mg base T (S.df X G 3 rfl) M_stand_of M_exchanged;have M_filled:=@IW _ l.prog w K mg base T (S.df X G 4 rfl) M_exchanged;have O:=@Jr _ l.prog w K mg base T (S.df X G 5 rfl);have M_binding_of:=@Kb _ l.prog w K mg base T (S.df X G 6 rfl);have M_bindings:=@IA _ l.prog w K mg base T (S.df X G 7 rfl) M_binding_of;have M_is_linked:=@Ic _ l.prog w K mg base T (S.df X G 8 rfl) O;have M_search_order:=@Jp _ l.prog w K mg base T c_ P_ (S.dfC X G 9 0 rfl rfl) O2 (W.codeHd_of_K KB O3) O M_bindings M_is_linked;have M_places_of:=@Jx _ l.prog w K mg base T (S.df X G 10 rfl);have M_grouped:=@Jq _ l.prog w K mg base T (S.df X G 11 rfl);have M_picked:=@Jf _ l.prog w K mg base T (S.df X G 12 rfl);have M_extended:=@JW _ l.prog w K mg base T (S.df X G 13 rfl) M_picked;have M_joined_from:=@IU _ l.prog w K mg base T (S.df X G 14 rfl) O M_search_order M_places_of M_grouped M_picked M_extended;have M_joined:=@Jw _ l.prog w K mg base T (S.df X G 15 rfl) M_joined_from;have M_answers:=@J7 _ l.prog w K mg base T (S.df X G 16 rfl) M_joined;have M_fit_with:=@Jh _ l.prog w K mg base T (S.df X G 17 rfl) O M_joined_from;have M_fresh:=@JI _ l.prog w K mg base T (S.df X G 18 rfl) O;have M_two_terms:=@Io _ l.prog w K mg base T (S.df X G 19 rfl);have Z:=@IY _ l.prog w K mg base T (S.df X G 20 rfl) O M_two_terms;have M_is_unlike:=@IT _ l.prog w K mg base T (S.df X G 21 rfl);have M_two_cells:=@JE _ l.prog w K mg base T (S.df X G 22 rfl) M_filled M_two_terms;have M_broken_cells:=@Jc _ l.prog w K mg base T (S.df X G 23 rfl) M_joined Z M_is_unlike M_two_cells;have M_urgency_of:=@JA _ l.prog w K mg base T (S.df X G 24 rfl) M_fresh;have M_age:=@IP _ l.prog w K mg base T (S.df X G 25 rfl);have M_next_broken:=@II _ l.prog w K mg base T (S.df X G 26 rfl) M_fit_with Z M_broken_cells M_urgency_of M_age;have M_is_clash:=@JM _ l.prog w K mg base T (S.df X G 27 rfl) M_two_cells;have M_same_moves:=@Iz _ l.prog w K mg base T (S.df X G 28 rfl) M_two_cells;have M_fresh_moves:=@IH _ l.prog w K mg base T (S.df X G 29 rfl) M_fresh;have M_full:=@IR _ l.prog w K mg base T (S.df X G 30 rfl) M_stand_of M_blanks_of M_moved M_filled M_next_broken M_is_clash M_same_moves M_fresh_moves;have M_sure:=@Je _ l.prog w K mg base T (S.df X G 31 rfl) M_answers M_full;have M__law_mixed:=@JD _ l.prog w K mg base T (S.df X G 32 rfl);have M__law_words:=@JG _ l.prog w K mg base T (S.df X G 33 rfl) M__law_mixed;have M__law_drawn:=@JX _ l.prog w K mg base T (S.df X G 34 rfl);have M__law_stand:=@IZ _ l.prog w K mg base T (S.df X G 35 rfl);have M__law_rows:=@GQ _ l.prog w K mg base T (S.df X G 36 rfl) M__law_mixed M__law_drawn M__law_stand;have M__law_must:=@Gk _ l.prog w K mg base T (S.df X G 37 rfl);have M__law_is_open:=@Fl _ l.prog w K mg base T (S.df X G 38 rfl);have M__law_same:=@Fd _ l.prog w K mg base T (S.df X G 39 rfl);have M__law_right:=@FZ _ l.prog w K mg base T (S.df X G 40 rfl) M_sure M__law_mixed M__law_words M__law_rows M__law_must M__law_is_open M__law_same;exact GK T F Oj M__law_right
open JP
def na:(("name":Str)="any")=False:=by trivial
theorem at0(a b:D):atI [a,b] 0=U a:=rfl
theorem at1(a b:D):atI [a,b] 1=U b:=rfl
def EW(a:D)(r:Z9 D):atI (a::r) 0=U a:=by unfold atI ixN;simp
theorem jE:∀ts:Z9 Te,(ans ts).length<=ts.length
 |[]=>ZU _
 |.any m::ts=>by have:=jE ts;simp[ans];lia
 |.nm w::ts=>by have:=jE ts;simp[ans];lia
noncomputable def br(ps:Z9 Pat):Z9 Str:=(ps.map λp=>ans p.2).flatten
def ba:l∈br ps↔∃p∈ps,l∈ans p.2:=by
 unfold br;grind
theorem aL:∀{ps:Z9 Pat},(∀p∈ps,p.2.length<=4)->(br ps).length<=4*ps.length
 |[],_=>ZU _
 |p::ps,h=>by
  have h1:=aL λq O=>h q (ZY _ O);have h2:=jE p.2;have Z:=h p (ZR ..);have:br (p::ps)=ans p.2++br ps:=by simp[br]
  rw[this,YX,cn];lia
def wF(ts:Z9 Te):aU (aB (ae 4) (λq=>eqO (ixO (rd Y 4 q) (U (.int 0))) (U (.str "any"))) zb [M,M,M,M,M]) (ts.map teD)=U ((ans ts).map D.str):=by
 induction ts with
 |nil=>rfl
 |cons c ts O=>
  rw[Z0];unfold aU;rw[O];cases c with
  |any n=>rfl
  |nm w=>rfl
theorem lP:∀(rs:Z9 Pat)(O:Z9 Str)(a0 x2 x3 Z:Z8 (D×Bool)),(∀r∈rs,r.2.length<=4)->O.length+4*rs.length<=1000->∃y2 y3,
  aA (λd δ=>af ((bd (ao (ae 2) (ao (ae 3) (aak)))) d δ) uH) (rs.map aQ) [a0,U (.lst (O.map D.str),L),x2,x3,Z]=U (.next [a0,U (.lst ((O++br rs).map D.str),L),y2,y3,Z])
 |[],O,a0,x2,x3,Z,_,_=>⟨x2,x3,by simp[aA,br]⟩
 |r::rs,O,a0,x2,x3,Z,h4,hl=>by
  have hr:=h4 r (ZR ..);have hb:=jE r.2;rw[cn]at hl;obtain⟨y2,y3,e⟩:=lP rs (O++ans r.2) a0 (U (.str r.1,Y)) (U (.tup (r.2.map teD),Y)) Z (λq hq=>h4 q (ZY _ hq)) (by simp;lia);refine⟨y2,y3,?_⟩;have en:O++br (r::rs)=O++ans r.2++br rs:=by simp[br]
  rw[en,<-e,Z0]
  conv=>lhs;unfold aA
  simp[aQ,uH];rw[aC (by simp;lia)];simp[az];have:=wF r.2;rw[this];simp[Cz];rw[ZM (by lia)]
open L2.G (bQ scD aK cf aV) in
def iZ(h:ss.length<64):aas .st L (U (.lst (ss.map D.str)))=U (.lst (sU ss)):=by
 have hc:∀l:Z9 D,(∀d∈l,∃s,d=.str s)->bL l=L:=λl hl=>by
  unfold bL;rw[Z2];intro x Z;obtain⟨a,rfl⟩:=hl x Z;rw[ZQ,Z2];refine⟨rfl,λy hy=>?_⟩;obtain⟨b,rfl⟩:=hl y hy;rfl
 have hs:∀d∈ss.map D.str,∃s,d=.str s:=λd hd=>by obtain⟨s,_,rfl⟩:=ZZ.mp hd;exact⟨s,rfl⟩
 have hu:=cf (ss.map D.str);rw[ZW]at hu;have TY:=hc (bQ (ss.map D.str)) λd hd=>hs d ((aK _ _).mp hd);have e:bK (bQ (ss.map D.str))=sU ss:=by
  refine cg TY _ _ (λy hy=>(ax _).mem_iff.mp hy) ((ax _).trans ((YA (aV _) ?_).mpr λx=>?_)) (bp TY) ?_;exact Xp _ (λa b O z=>O (D.str.inj z)) ((bN _).nodup_iff.mpr (dF ss));rw[aK,C7];refine Xp _ (λa b O=>?_) (List.pairwise_mergeSort t4 vp (uS ss));show ¬(U (decide (b.cps.toList<a.cps.toList))=U L);intro z;unfold leT at O;rw[Z7 z]at O;trivial
 unfold aas;dsimp only;rw[ZM,e];have h1:(ss.map D.str).all (dw .st)=L:=Z2.mpr λx Z=>by obtain⟨s,rfl⟩:=hs x Z;rfl
 have h2:(ss.map D.str).all (bf 8)=L:=Z2.mpr λx Z=>by obtain⟨s,rfl⟩:=hs x Z;rfl
 have h3:((ss.map D.str).all λd=>scD d==L)=L:=Z2.mpr λx Z=>by obtain⟨s,rfl⟩:=hs x Z;rfl
 rw[hc _ hs,h1,h2,h3,Zx (by lia)];rfl
def aE(hl:ps.length<=4)(O:∀p∈ps,p.2.length<=4):f_ [.lst (ps.map aQ)]=U (.lst (sU (br ps)),L):=by
 obtain⟨y2,Z,e⟩:=lP ps [] (U (.lst (ps.map aQ),Y)) M M M O (by simp;lia);have:=aL O;rw[ak (f:=f_) (d:=[U (.lst (ps.map aQ),Y),M,M,M,M]) rfl rfl rfl];rw[YI]at e;simp[F8];rw[e];simp[y0];rw[iZ (by lia)];simp
def jl(ss:Z9 Str):∃us:Z9 Str,sU ss=us.map D.str/\us.Nodup/\(∀x,x∈us↔x∈ss)/\us.length<=ss.length:=by
 have hp:=bN (uS ss);exact⟨wo (uS ss),rfl,hp.nodup_iff.mpr (dF ss),λx=>hp.mem_iff.trans (ip x ss),hp.length_eq▸t7 ss⟩
noncomputable def bD(b:Bi):D:=.dK (b.map λq=>.inr q.1) (b.map λq=>ceD q.2)
theorem sP(l:Str):∀b:Bi,cC (.inr l:Key) (b.map λq=>(.inr q.1:Key)) (b.map λq=>ceD q.2)=(gt b l).map ceD
 |[]=>rfl
 |(k,c)::b=>by
  rw[Z0,Z0,cC,fK,sP l b]
  grind
def rT(b:Bi)(l:Str):bU (U (bD b)) (U (.str l))=U ((gt b l).map ceD):=by
 unfold bD bU;simp only[iJ,sP]
def AJ(h:gt b l=M):l∉b.map (·.1):=by
 induction b with
 |nil=>simp
 |cons q b O=>
  rw[fK]at h
  grind
def A8(h:gt b l=M)(hl:b.length<1000000):lw (bD b) (.str l) (ceD c)=U (bD (b++[(l,c)])):=by
 unfold bD lw;have O:(.inr l:Key)∉b.map λq=>(.inr q.1:Key):=λz=>by
  obtain⟨q,Z,e⟩:=ZZ.mp z;exact AJ h (ZZ.mpr ⟨q,Z,by lia⟩)
 simp only[iJ,ZW];rw[ZM (by assumption)];unfold i7 yJ;rw[ZH O,ZH O];simp
def Cd(c:Ce):okD 16 (ceD c)=L:=by cases c<;>rfl
def j6(a b:Ce):neO (U (ceD a)) (U (ceD b))=U (!decide (a=b)):=by
 rw[BD _ _ (by unfold ok2;rw[Cd,Cd];rfl)];congr 2;exact Yd.mpr ⟨gH,λh=>by rw[h]⟩
def EK(w:Str)(c:Ce):neO (U (teD (.nm w))) (U (ceD c))=U (!decide (Ce.nm w=c)):=j6 (.nm w) c
theorem kT:∀(ts:Z9 Te)(O:Z9 Ce),fv (ts.map teD) (O.map ceD)=(ts.zip O).map λq=>.tup [teD q.1,ceD q.2]
 |[],O=>by rfl
 |t::ts,[]=>by rfl
 |t::ts,c::O=>by simp[fv,kT ts O]
theorem gN:∀(ts:Z9 Te)(cs:Z9 Ce)(b:Bi)(a0 a1 x3 x4:Z8 (D×Bool)),b.length+ts.length<1000->
  (match bnd ts cs b with
  |some b'=>∃y3 y4,aA (λd O=>af ((bd (ao (ae 3) (ao (ae 4) (aak)))) d O) ko) ((ts.zip cs).map λq=>.tup [teD q.1,ceD q.2]) [a0,a1,U (bD b,L),x3,x4]=U (.next [a0,a1,U (bD b',L),y3,y4])
  |none=>aA (λd O=>af ((bd (ao (ae 3) (ao (ae 4) (aak)))) d O) ko) ((ts.zip cs).map λq=>.tup [teD q.1,ceD q.2]) [a0,a1,U (bD b,L),x3,x4]=U (.ret .non Y))
 |[],cs,b,a0,a1,x3,x4,_=>⟨x3,x4,by rfl⟩
 |.any l::ts,[],b,a0,a1,x3,x4,_=>⟨x3,x4,by rfl⟩
 |.nm l::ts,[],b,a0,a1,x3,x4,_=>⟨x3,x4,by rfl⟩
 |.any l::ts,c::cs,b,a0,a1,x3,x4,hl=>by
  have ih:=λb hb=>gN ts cs b a0 a1 (U (teD (.any l),Y)) (U (ceD c,Y)) hb;rw[cn]at hl;rw[List.zip_cons_cons,Z0];unfold aA;have e0:eqO (ixO (rd Y 3 [a0,a1,U (bD b,L),U (teD (.any l),Y),U (ceD c,Y)]) (U (.int 0))) (U (.str "any"))=U L:=by simp[teD,at0,bu]
  have e1:ixO (rd Y 3 [a0,a1,U (bD b,L),U (teD (.any l),Y),U (ceD c,Y)]) (U (.int 1))=U (.str l):=by simp[teD,at1]
  have e2:rd Y 4 [a0,a1,U (bD b,L),U (teD (.any l),Y),U (ceD c,Y)]=U (ceD c):=by simp
  simp only[aa3,aaT,aa4,aae,Y6,cn,lF,Mk,aO,aN,Nat.reduceAdd,Nat.reduceLT];simp only[ko,e0,aaH,yR,e1,e2,sdO,abN,abO,rT,bnd];cases eg:gt b l with
  |some c'=>
   simp only[Option.map_some,neX,Mk,e2,j6];by_cases hc:c'=c;simp only[hc,Yy,XQ,ifX,aal,YB];have:=ih b (by lia);cases eb:bnd ts cs b with
   |some b'=>simp_all
   |none=>rw[eb]at this;exact this
   simp[hc,Yp,Xo,ifX,abY,YO]
  |none=>
   simp only[Option.map_none,A8 eg (show b.length<1000000 by lia)];simp only[neX,Mk,aO,aN];have e3:rd Y 4 [a0,a1,U (bD (b++[(l,c)]),L),U (teD (.any l),Y),U (ceD c,Y)]=U (ceD c):=by simp
   simp only[e3,j6,Yy,XQ,ifX,aal];have:=ih (b++[(l,c)]) (by simp;lia);cases eb:bnd ts cs (b++[(l,c)])with
   |some b'=>simp_all
   |none=>rw[eb]at this;exact this
 |.nm w::ts,c::cs,b,a0,a1,x3,x4,hl=>by
  have ih:=gN ts cs b a0 a1 (U (teD (.nm w),Y)) (U (ceD c,Y)) (by simp at hl;lia);rw[List.zip_cons_cons,Z0];unfold aA;have e0:eqO (ixO (rd Y 3 [a0,a1,U (bD b,L),U (teD (.nm w),Y),U (ceD c,Y)]) (U (.int 0))) (U (.str "any"))=U Y:=by simp[teD,at0,bu,na]
  have e1:rd Y 3 [a0,a1,U (bD b,L),U (teD (.nm w),Y),U (ceD c,Y)]=U (teD (.nm w)):=by simp
  have e2:rd Y 4 [a0,a1,U (bD b,L),U (teD (.nm w),Y),U (ceD c,Y)]=U (ceD c):=by simp
  simp only[aa3,aaT,aa4,aae,Y6,cn,lF,Mk,aO,aN,Nat.reduceAdd,Nat.reduceLT];have e00:eqO (ixO (U (teD (.nm w))) (U (.int 0))) (U (.str "any"))=U Y:=by simp[teD,at0,bu,na]
  simp only[ko,e0,e00,aaD,e1,e2,EK,bnd];by_cases hc:Ce.nm w=c
  .simp_all
  simp_all
def jC(ts:Z9 Te)(cs:Z9 Ce)(hl:ts.length<=4):L_ [.tup (ts.map teD),.tup (cs.map ceD)]=U (match bnd ts cs []with|some b=>(bD b,L)|none=>(.non,Y)):=by
 rw[ak (f:=L_) (d:=[U (.tup (ts.map teD),Y),U (.tup (cs.map ceD),Y),M,M,M]) rfl rfl rfl];have:=gN ts cs [] (U (.tup (ts.map teD),Y)) (U (.tup (cs.map ceD),Y)) M M (by simp;lia);have e0:(.dK [] []:D)=bD []:=rfl;simp only[Gw,aav,cn,lF,Nat.reduceAdd,Nat.reduceLT,aO,aN,VV,WC,aaa,BZ,E9,YB,abV,Mk,kT,e0];cases eb:bnd ts cs []with
 |some b=>
  rw[eb]at this;obtain⟨y3,y4,e⟩:=this;rw[e];simp
 |none=>
  rw[eb]at this;rw[this];simp
theorem Dp(b:Bi):rH (U (bD b))=U Y:=by rfl
theorem hZ(h4:p.2.length<=4):∀(rs:Z9 Row)(O:Z9 Bi)(a0 x3 x4 Z:Z8 (D×Bool)),O.length+rs.length<=100000->∃y3 y4 y5,
  aA (λd q=>af ((bd (ao (ae 3) (ao (ae 4) (aak)))) d q) ij) (rs.map Tn) [a0,U (aQ p,Y),U (.lst (O.map bD),L),x3,x4,Z]=U (.next [a0,U (aQ p,Y),U (.lst ((O++binds rs p).map bD),L),y3,y4,y5])
 |[],O,a0,x3,x4,Z,_=>⟨x3,x4,Z,by simp[aA,binds]⟩
 |r::rs,O,a0,x3,x4,Z,hl=>by
  rw[cn]at hl;rw[Z0];have e1:eqO (U (.str r.1)) (ixO (U (aQ p)) (U (.int 0)))=U (decide (r.1=p.1)):=by simp[aQ,at0,bu]
  have e2:eqO (eX (U (.tup (r.2.map ceD)))) (eX (ixO (U (aQ p)) (U (.int 1))))=U (decide (r.2.length=p.2.length)):=by
   simp only[aQ,abE,at1,acq,ZW,aaM];congr 1;exact Yd.mpr (by lia)
  have e3:ixO (U (aQ p)) (U (.int 1))=U (.tup (p.2.map teD)):=by simp[aQ,at1]
  have body:∃y5,ij [a0,U (aQ p,Y),U (.lst (O.map bD),L),U (.str r.1,Y),U (.tup (r.2.map ceD),Y),Z]=U (.next [a0,U (aQ p,Y),U (.lst ((O++(fP p r).toList).map bD),L),U (.str r.1,Y),U (.tup (r.2.map ceD),Y),y5]):=by
   simp only[ij,WC,aaa,e1,e2];unfold fP;by_cases c1:r.1=p.1;by_cases c2:r.2.length=p.2.length;simp only[c1,c2,Yy,ab7,aaH,e3,PK,Mk,jC p.2 r.2 h4];cases eb:bnd p.2 r.2 []with
   |some b=>
    refine⟨U (bD b,Y),?_⟩;simp[Dp];rw[fm (ds:=O.map bD) (bD b) rfl (by simp;lia)];simp
   |none=>
    refine⟨U (.non,Y),?_⟩;simp[rH]
   rw[ZH (λz=>c2 z.2)];exact⟨Z,by simp[c1,c2]⟩
   .simp_all
  obtain⟨UR,eb⟩:=body;have hle:(fP p r).toList.length<=1:=by cases fP p r<;>simp
  obtain⟨y3,y4,y5,e⟩:=hZ h4 rs (O++(fP p r).toList) a0 (U (.str r.1,Y)) (U (.tup (r.2.map ceD),Y)) UR (by simp;lia);refine⟨y3,y4,y5,?_⟩;have en:O++binds (r::rs) p=O++(fP p r).toList++binds rs p:=by
   unfold binds;rw[List.filterMap_cons];cases fP p r<;>simp
  rw[en,<-e]
  conv=>lhs;unfold aA
  have et:af ((bd (ao (ae 3) (ao (ae 4) (aak)))) (Tn r) [a0,U (aQ p,Y),U (.lst (O.map bD),L),x3,x4,Z]) ij=ij [a0,U (aQ p,Y),U (.lst (O.map bD),L),U (.str r.1,Y),U (.tup (r.2.map ceD),Y),Z]:=by
   simp[Tn]
  rw[et,eb]
def mH(O:p.2.length<=4)(hl:rs.length<=1000):LH [.lst (rs.map Tn),aQ p]=U (.lst ((binds rs p).map bD),L):=by
 rw[ak (f:=LH) (d:=[U (.lst (rs.map Tn),Y),U (aQ p,Y),M,M,M,M]) rfl rfl rfl];obtain⟨y3,y4,Z,e⟩:=hZ O rs [] (U (.lst (rs.map Tn),Y)) M M M (by simp;lia);simp[Gu]
 simp_all
def j9(rs:Z9 Row)(p:Pat):(binds rs p).length<=rs.length:=List.length_filterMap_le ..
def prD(rs:Z9 Row)(p:Pat):D:=.tup [aQ p,.lst ((binds rs p).map bD)]
def eI(l:Str)(ss:Z9 Str):inO (U (.str l)) (U (.lst (ss.map D.str)))=U (decide (l∈ss)):=by
 unfold inO;simp only[bx];rw[ZM];simp;rw[ZQ,Z2];refine⟨rfl,λx O=>?_⟩;obtain⟨c,_,rfl⟩:=ZZ.mp O;rfl
def om(bs:Z9 Bool):nC (bs.map D.bl)=U bs:=by
 induction bs with
 |nil=>rfl
 |cons b bs O=>simp[nC,O]
noncomputable def lk(ks:Z9 Str)(p:Pat):Bool:=(ans p.2).any λl=>decide (l∈ks)
def sH(p:Pat)(Z:p.2.length<=4)(ks:Z9 Str):Ld [aQ p,.lst (ks.map D.str)]=U (.bl (lk ks p),Y):=by
 rw[ak (f:=Ld) (d:=[U (aQ p,Y),U (.lst (ks.map D.str),Y),M]) rfl rfl rfl];have O:=aE (ps:=[p]) (by simp) (by simpa using Z);obtain⟨us,e1,_,e3,e4⟩:=jl (br [p]);rw[e1]at O;have hul:us.length<=1000:=by
  have:=aL (ps:=[p]) (by simpa using Z);simp at this;lia
 simp only[FE,WC,aaa,PK,Mk];rw[aan _ (by simp)];simp only[Z0,YI]at O;simp only[PK,Mk,O,aam,aah];rw[aC (by simp;lia)];have hc:aU (aB (ae 2) (λq=>U L) tT (az Y [Y,L,Y] [U (aQ p,Y),U (.lst (ks.map D.str),Y),M])) (us.map D.str)=U ((us.map λl=>decide (l∈ks)).map D.bl):=by
  rw[gB (g:=λd=>match d with|.str l=>.bl (decide (l∈ks))|d=>d)];simp;simp[aB,az,tT,eI]
 rw[hc];simp only[aaf,E7,om,abY,aa6];congr 3;rw[YG];unfold lk
 simp_all [XG,ZZ,id_eq,br]
def jM(h:teD a=teD b):a=b:=by
 cases a<;>cases b<;>simp[teD]at h;rw[h];exact absurd h.1 (by trivial);exact absurd h.1 (by trivial);rw[h]
theorem mD{O:Type}{f:O->D}(Z:∀a b,f a=f b->a=b):∀{l m:Z9 O},l.map f=m.map f->l=m
 |[],[],_=>rfl
 |[],_::_,h=>by simp at h
 |_::_,[],h=>by simp at h
 |a::l,b::m,h=>by
  simp only[Z0,X7]at h;rw[Z _ _ h.1,mD Z h.2]
def xA(h:aQ p=aQ q):p=q:=by
 simp[aQ]at h;exact Prod.ext h.1 (mD (λ_ _=>jM) h.2)
def Ah(t:Te):D.flat (teD t)=L:=by cases t<;>rfl
def xR(p:Pat):D.flat (aQ p)=L:=by
 have:D.aay (p.2.map teD)=L:=by rw[D.aax,Z2];intro x O;obtain⟨t,_,rfl⟩:=ZZ.mp O;exact Ah t
 simp[aQ,D.flat,D.aay,this]
def EE(p:Pat):okD 15 (aQ p)=L:=by
 simp only[aQ,okD,li,List.all_nil,YC,X3,Z2];intro x O;obtain⟨t,_,rfl⟩:=ZZ.mp O;cases t<;>rfl
def iI(ss:Z9 Str):D.aay (ss.map D.str)=L:=by
 rw[D.aax,Z2];intro x O;obtain⟨t,_,rfl⟩:=ZZ.mp O;rfl
theorem kQ:∀{ps:Z9 Pat},(∀p∈ps,f (h p)=U (g p))->cQ f (ps.map h)=U (ps.map g)
 |[],_=>rfl
 |p::ps,e=>by simp only[Z0,cQ,e p (ZR ..),kQ λq O=>e q (ZY _ O)]
def tX(h:bl≠[]):aP bl<bl.length:=by
 unfold aP;split;rename_i m;exact YM m;exact X2.mpr h
def v5(h:i<aP bl):bl[i]?=U Y/\bl[aP bl]?=U L:=by
 unfold aP at h⊢;split at h;rename_i m;have O:=YM m;have h1:=List.not_of_lt_findIdx (p:=λz=>z==L) (xs:=bl) (i:=i) h;have Z:i<bl.length:=by lia
 refine⟨?_,?_⟩
 .simp_all
 .simp_all
 lia
def AX(rs:Z9 Row)(ks:Z9 Str)(hk:ks.length<=1000){av O:Z9 Pat}(h4:∀p∈av++O,p.2.length<=4)(p_:av≠[])(hl:av.length+O.length<=4)(a0 a1 x5 x6 x7 x8 x9:Z8 (D×Bool)):
  ∃j y5 y6 y7,j<av.length/\jT [a0,a1,U (.lst (ks.map D.str),Y),U (.lst (av.map (prD rs)),L),U (.lst (O.map (prD rs)),L),x5,x6,x7,x8,x9]=
   U (.next [a0,a1,U (.lst (ks.map D.str),Y),U (.lst ((av.eraseIdx j).map (prD rs)),L),U (.lst ((O++(av[j]?).toList).map (prD rs)),L),y5,y6,y7,x8,x9]):=by
 have hpl:O.length<=4:=by lia
 have el:=aE (ps:=O) hpl (λp hp=>h4 p (ZJ _ hp));obtain⟨us,e1,_,e3,e4⟩:=jl (br O);have e5:=aL (ps:=O) (λp hp=>h4 p (ZJ _ hp));rw[e1]at el;have hc:aU (aB (ae 9) (λq=>U L) o8 (az L [Y,Y,Y,Y,Y,Y,Y,Y,Y,Y] [a0,a1,U (.lst (ks.map D.str),Y),U (.lst (av.map (prD rs)),L),U (.lst (O.map (prD rs)),L),x5,x6,x7,x8,x9])) (O.map (prD rs))=U (O.map aQ):=by
  have:(O.map aQ)=(O.map (prD rs)).map λd=>match d with|.tup (x::_)=>x|d=>d:=by rw[Zb];rfl
  rw[this,gB];intro d hd;obtain⟨p,_,rfl⟩:=ZZ.mp hd;simp[aB,az,o8,prD,at0]
 have TX:D.aay (O.map aQ)=L:=by rw[D.aax,Z2];intro x hx;obtain⟨t,_,rfl⟩:=ZZ.mp hx;exact xR t
 have hb:jQ (jD (U (.lst (ks.map D.str)))) (flO (af (aa (aq (fV (af (b9 (U (.lst (O.map (prD rs))))) (bF L [Y,Y,Y,Y,Y,Y,Y,Y,Y,Y] (ae 9) (λq=>U L) o8 [a0,a1,U (.lst (ks.map D.str),Y),U (.lst (av.map (prD rs)),L),U (.lst (O.map (prD rs)),L),x5,x6,x7,x8,x9])))) (U [])) f_))=U (.lst ((ks++us).map D.str)):=by
  simp only[aah,Mk];rw[aC (by simp;lia),hc];simp only[fV,TX,YB,aaf,PK,Mk,el,flO,iI,abb];rw[aa1 _ _ (by simp;lia)];simp
 have hf:cQ (λd=>pE ((az L [Y,Y,Y,Y,Y,L,Y,Y,Y,Y] [a0,a1,U (.lst (ks.map D.str),Y),U (.lst (av.map (prD rs)),L),U (.lst (O.map (prD rs)),L),U (.lst ((ks++us).map D.str),Y),x6,x7,x8,x9]).set 9 (U (d,Y)))) (av.map (prD rs))=U (av.map (lk (ks++us))):=by
  refine kQ λp hp=>?_;have:=sH p (h4 p (Y2 _ hp)) (ks++us);simp only[pE,az,List.zipWith,aO,aN,aaa,WC];have e9:∀(x:Z8 D),x=U (.lst ((ks++us).map D.str))->tyB (shO (af (aa (ixO (U (prD rs p)) (U (.int 0))) (aa x (U []))) Ld))=U (lk (ks++us) p):=λx hx=>by rw[hx];simp only[prD,abE,at0,PK,Mk,this,aao,aby]
  exact e9 _ rfl
 have Oo:av.map (lk (ks++us))≠[]:=by simpa using p_
 have hj:aP (av.map (lk (ks++us)))<av.length:=by have:=tX Oo;simpa using this
 generalize Z:aP (av.map (lk (ks++us)))=j at hj;have Qk:(av.map (prD rs)).getD j .non=prD rs av[j]:=by rw[Zf];simp[hj]
 refine⟨j,U (.lst ((ks++us).map D.str),Y),U (.lst (fx (av.map (prD rs)) (av.map (lk (ks++us)))),L),U (prD rs av[j],Y),hj,?_⟩;have Tu:rd L 4 [a0,a1,U (.lst (ks.map D.str),Y),U (.lst (av.map (prD rs)),L),U (.lst (O.map (prD rs)),L),x5,x6,x7,x8,x9]=U (.lst (O.map (prD rs))):=rfl;simp only[jT,Tu,aaa,WC,hb];rw[aad _ _ _ (by simp)];simp only[VV,aO,aN];unfold vZ;simp only[List.getElem?_cons_succ,List.getElem?_cons_zero,hf];have h0:(av.map (prD rs))[0]?=U (prD rs (av[0]'(by lia))):=by simp[show 0<av.length by lia]
 simp only[h0,Z];rw[ZM];simp only[t8,aO,aN,aaa,WC,Qk];rw[fm (ds:=O.map (prD rs)) _ rfl (by simp;lia)];have em:(av.map (prD rs)).eraseIdx j=(av.eraseIdx j).map (prD rs):=by rw[Xm,Xm,Y7,List.map_take,List.map_drop]
 simp[em,hj];refine⟨⟨by simp,by simp,by simp,by simp;lia⟩,?_⟩;rw[ZQ,Z2,Z2];refine⟨λd hd=>?_,λd hd=>?_⟩;obtain⟨p,_,rfl⟩:=ZZ.mp hd;rfl;obtain⟨i,hi⟩:=List.mem_iff_getElem?.mp hd;rw[List.getElem?_take]at hi;split at hi;rename_i OT;rw[Zg]at hi;obtain⟨p,hp,rfl⟩:=Xv.mp hi;rw[Qk];obtain⟨f1,f2⟩:=v5 (bl:=av.map (lk (ks++us))) (i:=i) (by rw[Z];exact OT);rw[Z]at f2;rw[Zg,hp]at f1;rw[Zg,YW hj]at f2;simp only[eN,prD,EE,YC,X3,Zw];intro e;rw[xA e,f2]at f1;cases f1;cases hi
theorem cj{O:Type}:∀{l:Z9 O}{j:Nat}{x:O},l[j]?=U x->(x::l.eraseIdx j).Perm l
 |[],j,x,h=>by simp at h
 |a::l,0,x,h=>by simp_all
 |a::l,j+1,x,h=>by
  exact(List.Perm.swap a x _).trans ((cj (by trivial)).cons a)
theorem iN(rs:Z9 Row)(ks:Z9 Str)(hk:ks.length<=1000):∀(n:Nat)(av O:Z9 Pat)(a0 a1 x5 x6 x7 x8 x9:Z8 (D×Bool))(Z:Nat),av.length=n->n<Z->(∀p∈av++O,p.2.length<=4)->av.length+O.length<=4->∃o y5 y6 y7,o.Perm av/\
  aY lm jT Z [a0,a1,U (.lst (ks.map D.str),Y),U (.lst (av.map (prD rs)),L),U (.lst (O.map (prD rs)),L),x5,x6,x7,x8,x9]=
   U (.next [a0,a1,U (.lst (ks.map D.str),Y),U (.lst [],L),U (.lst ((O++o).map (prD rs)),L),y5,y6,y7,x8,x9])
 |0,av,O,a0,a1,x5,x6,x7,x8,x9,Z,hn,hf,h4,hl=>by
  have:av=[]:=Xy.mp hn;subst this;obtain⟨f,rfl⟩:∃f,Z=f+1:=⟨Z - 1,by lia⟩
  refine⟨[],x5,x6,x7,Xq _,?_⟩;unfold aY;have:lm [a0,a1,U (.lst (ks.map D.str),Y),U (.lst (([]:Z9 Pat).map (prD rs)),L),U (.lst (O.map (prD rs)),L),x5,x6,x7,x8,x9]=U Y:=rfl;rw[this];simp
 |n+1,av,O,a0,a1,x5,x6,x7,x8,x9,Z,hn,hf,h4,hl=>by
  obtain⟨f,rfl⟩:∃f,Z=f+1:=⟨Z - 1,by lia⟩
  have p_:av≠[]:=λz=>by simp_all
  obtain⟨j,y5,y6,y7,hj,e⟩:=AX rs ks hk h4 p_ hl a0 a1 x5 x6 x7 x8 x9;have Q8:av[j]?=U av[j]:=by simp[hj]
  have hp:=cj Q8;have hlen:(av.eraseIdx j).length=n:=by have:=hp.length_eq;simp at this;lia
  have hm:∀p∈av.eraseIdx j++(O++av[j]?.toList),p.2.length<=4:=λp MT=>by
   grind
  obtain⟨o,z5,z6,z7,po,e'⟩:=iN rs ks hk n (av.eraseIdx j) (O++av[j]?.toList) a0 a1 y5 y6 y7 x8 x9 f hlen (by lia) hm (by rw[Q8];simp;lia);refine⟨av[j]::o,z5,z6,z7,(po.cons _).trans hp,?_⟩;have ht:lm [a0,a1,U (.lst (ks.map D.str),Y),U (.lst (av.map (prD rs)),L),U (.lst (O.map (prD rs)),L),x5,x6,x7,x8,x9]=U L:=by
   cases av with
   |nil=>exact absurd rfl p_
   |cons a b=>rfl
  unfold aY;rw[ht];simp only[e];rw[e',Q8];simp
theorem nX(rs:Z9 Row):∀ps:Z9 Pat,gV (λd=>iq [U (d,Y)]) (ps.map (prD rs))=U (ps.map λp=>((binds rs p).length:Int))
 |[]=>rfl
 |p::ps=>by
  simp only[Z0,gV,nX rs ps];have:iq [U (prD rs p,Y)]=U (.int (binds rs p).length):=by simp[iq,prD,at1]
  rw[this]
def mr(ps:Z9 Pat)(ks:Z9 Int)(h:ks.length=ps.length)(h5:ks.length<5):∃o:Z9 Pat,o.Perm ps/\pF (ps.map f) ks=o.map f:=by
 have hp:=gx h5;rw[h]at hp;refine⟨(i6 ks).filterMap λi=>ps[i]?,?_,?_⟩;have e:(List.range ps.length).filterMap (λi=>ps[i]?)=ps:=by
  clear hp h;have key:∀(l pre:Z9 Pat),((List.range' pre.length l.length).filterMap λi=>(pre++l)[i]?)=l:=by
   intro l
   induction l with
   |nil=>intro pre;rfl
   |cons a l O=>
    intro pre;rw[cn,List.range'_succ,List.filterMap_cons];have:(pre++a::l)[pre.length]?=U a:=by simp
    rw[this];have:=O (pre++[a])
    simp_all
  have:=key ps [];simpa[List.range_eq_range']using this
 grind
 unfold pF;have Z:∀i∈i6 ks,i<ps.length:=λi hi=>Zk.mp (hp.mem_iff.mp hi);generalize i6 ks=kp at Z
 induction kp with
 |nil=>rfl
 |cons i l O=>
  simp_all
def gC(rs:Z9 Row)(F_:rs.length<=1000)(ks:Z9 Str)(hk:ks.length<=1000)(h4:∀p∈ps,p.2.length<=4)(hl:ps.length<=4):∃o:Z9 Pat,o.Perm ps/\
  Ma [.lst (rs.map Tn),.lst (ps.map aQ),.lst (ks.map D.str)]=U (.lst (o.map (prD rs)),L):=by
 obtain⟨O,Z,e1⟩:=mr (f:=prD rs) ps (ps.map λp=>((binds rs p).length:Int)) (by simp) (by simp;lia);have h41:∀p∈O++[],p.2.length<=4:=λp hp=>h4 p (Z.mem_iff.mp (by simp_all));have K5:O.length=ps.length:=Z.length_eq;obtain⟨o,y5,y6,y7,po,e⟩:=iN rs ks hk O.length O [] (U (.lst (rs.map Tn),Y)) (U (.lst (ps.map aQ),Y)) M M M M M 1000 rfl (by lia) h41 (by simp;lia);refine⟨o,po.trans Z,?_⟩;rw[ak (f:=Ma) (d:=[U (.lst (rs.map Tn),Y),U (.lst (ps.map aQ),Y),U (.lst (ks.map D.str),Y),M,M,M,M,M,M,M]) rfl rfl rfl];have hc:aU (aB (ae 8) (λδ=>U L) kz (az Y [L,Y,Y,Y,Y,Y,Y,Y,Y,Y] [U (.lst (rs.map Tn),Y),U (.lst (ps.map aQ),Y),U (.lst (ks.map D.str),Y),M,M,M,M,M,M,M])) (ps.map aQ)=U (ps.map (prD rs)):=by
  have key:∀qs:Z9 Pat,(∀p∈qs,p.2.length<=4)->aU (aB (ae 8) (λδ=>U L) kz (az Y [L,Y,Y,Y,Y,Y,Y,Y,Y,Y] [U (.lst (rs.map Tn),Y),U (.lst (ps.map aQ),Y),U (.lst (ks.map D.str),Y),M,M,M,M,M,M,M])) (qs.map aQ)=U (qs.map (prD rs)):=by
   intro qs
   induction qs with
   |nil=>intro _;rfl
   |cons q qs ih=>
    intro h;rw[Z0];unfold aU;have:aB (ae 8) (λδ=>U L) kz (az Y [L,Y,Y,Y,Y,Y,Y,Y,Y,Y] [U (.lst (rs.map Tn),Y),U (.lst (ps.map aQ),Y),U (.lst (ks.map D.str),Y),M,M,M,M,M,M,M]) (aQ q)=U (U (prD rs q)):=by
     simp[aB,az,kz,mH (h q (ZR ..)) F_,prD]
    simp_all
  exact key ps h4
 simp only[MD,aaa,WC,aah,Mk];rw[aC (by simp;lia),hc];have hs:iK (aq (U (ps.map (prD rs)))) (λd=>iq [U (d,Y)])=U (.lst (O.map (prD rs))):=by
  unfold iK;simp only[aaf,nX,e1];rw[ZM (by simp;lia)]
 simp_all
theorem cB{O:Type}{f:O->D}{h:O->D}{p:O->Bool}{F:D->Z8 (Z8 D)}:∀{xs:Z9 O},(∀x∈xs,F (f x)=U (if p x=L then U (h x) else M))->aU F (xs.map f)=U ((xs.filter p).map h)
 |[],_=>rfl
 |x::xs,H=>by
  rw[Z0];unfold aU;rw[H x (ZR ..),cB λy Z=>H y (ZY _ Z),List.filter_cons];cases p x<;>rfl
def aR{O:Type}{f:O->D}{h:O->D}{F:D->Z8 (Z8 D)}{xs:Z9 O}(H:∀x∈xs,F (f x)=U (U (h x))):aU F (xs.map f)=U (xs.map h):=by
 have:=cB (f:=f) (h:=h) (p:=λ_=>L) (F:=F) (xs:=xs) λx Z=>by simp_all
 rwa[Wq.mpr λ_ _=>rfl]at this
noncomputable def jg(ns:Z9 Nat):D:=.lst (ns.map λn:Nat=>D.int n)
noncomputable def cD(c:Z9 Ce):D:=.tup (c.map ceD)
def gn{a b:Z9 Ce}(h:cD a=cD b):a=b:=by
 injection h with h
 induction a generalizing b with
 |nil=>simp_all
 |cons x a O=>cases b with
  |nil=>simp at h
  |cons y b=>simp only[Z0,X7]at h;rw[gH h.1,O h.2]
def kF(c:Z9 Ce):bf 8 (cD c)=L:=by
 unfold cD;simp only[bf];rw[Z2];intro d hd;obtain⟨x,_,rfl⟩:=ZZ.mp hd;cases x<;>rfl
theorem lD(c:Z9 Ce):lR (cD c)=L:=rfl
def Gd(c:Z9 Ce):okD 15 (cD c)=L:=by
 unfold cD;simp only[okD];rw[Z2];intro d hd;obtain⟨x,_,rfl⟩:=ZZ.mp hd;cases x<;>rfl
theorem ub(l:Str):∀known:Z9 Str,(known.map D.str).idxOf (.str l)=known.idxOf l
 |[]=>rfl
 |k::known=>by
  rw[Z0,List.idxOf_cons,List.idxOf_cons,ub l known];lia
def wV{l:Str}{known:Z9 Str}(h:l∈known)(O:known.length<=1000):B4 (U (.lst (known.map D.str))) (U (.str l))=U (.int (known.idxOf l)):=by
 unfold B4;simp only[ub];rw[ZM];refine⟨rfl,?_,by rw[ZW];exact YM h,by simp;lia⟩;rw[Z2];intro d hd;obtain⟨x,_,rfl⟩:=ZZ.mp hd;rfl
def cV{ls known:Z9 Str}(h:∀l∈ls,l∈known)(hl:ls.length<=1000)(Z:known.length<=1000):Lb [.lst (ls.map D.str),.lst (known.map D.str)]=U (jg (bc ls known),L):=by
 rw[ak (f:=Lb) (d:=[U (.lst (ls.map D.str),Y),U (.lst (known.map D.str),Y),M]) rfl rfl rfl];simp only[Ff,WC,aah,Mk];rw[aC (by simp;lia)];have:=aR (f:=D.str) (h:=λl=>D.int (known.idxOf l)) (xs:=ls) (F:=aB (ae 2) (λq=>U L) uu (az Y [Y,L,Y] [U (.lst (ls.map D.str),Y),U (.lst (known.map D.str),Y),M])) λl O=>by
  simp[aB,az,uu,wV (h l O) Z]
 rw[this];simp[jg,bc]
def gJ{c:Z9 Ce}{ps:Z9 Nat}(h:∀i∈ps,i<c.length)(hl:ps.length<=1000):KQ [cD c,jg ps]=U (cD (pk c ps),Y):=by
 rw[ak (f:=KQ) (d:=[U (cD c,Y),U (jg ps,Y),M]) rfl rfl rfl];simp only[Fi,WC,aaa,jg,aah,Mk];rw[aC (by simp;lia)];have:=aR (f:=λn:Nat=>D.int n) (h:=λn=>ceD (c.getD n default)) (xs:=ps) (F:=aB (ae 2) (λq=>U L) vo (az Y [L,Y,Y] [U (cD c,Y),U (.lst (ps.map λn:Nat=>D.int n),Y),M])) λn Z=>by
  have O:=h n Z;have:atI (c.map ceD) (n:Int)=U (ceD (c.getD n default)):=kH (by lia) (by simp[O]);simp[aB,az,vo,cD,this]
 rw[this];simp[cD,pk]
noncomputable def gD(g:Gr):Z9 (D×Z9 D):=g.map λq=>(cD q.1,q.2.map cD)
theorem yP(k e:Z9 Ce):∀g:Gr,bj (gD g) (cD k) (cD e)=gD (mC g k e)
 |[]=>rfl
 |q::g=>by
  have O:=yP k e g;unfold gD at O⊢;rw[Z0];unfold bj mC;have h1:(cD q.1=cD k)=(q.1=k):=propext ⟨gn,λh=>by rw[h]⟩;have h2:(cD e∈q.2.map cD)=(e∈q.2):=propext ⟨λh=>by
   obtain⟨x,Z,he⟩:=ZZ.mp h;rwa[<-gn he],λh=>ZZ.mpr ⟨e,h,rfl⟩⟩
  grind
def D8{b:Bi}{l:Str}{c:Ce}(h:gt b l=U c):B5 (U (bD b)) (U (.str l))=U (ceD c):=by
 unfold B5;rw[rT,h];rfl
def rJ{b:Bi}{sh:Z9 Str}(h:∀l∈sh,∃c,gt b l=U c)(Z:iv)(O:Z=[M,M,M,M,U (bD b,Y),M,M,M]):
  aU (aB (ae 7) (λq=>U L) Kj Z) (sh.map D.str)=U ((vl b sh).map ceD):=by
 subst O;have:=aR (f:=D.str) (h:=λl=>ceD ((gt b l).getD default)) (xs:=sh) (F:=aB (ae 7) (λq=>U L) Kj [M,M,M,M,U (bD b,Y),M,M,M]) λl O=>by
  obtain⟨c,hc⟩:=h l O;simp[aB,Kj,D8 hc,hc]
 rw[this];simp[vl]
theorem pD{sh ad:Z9 Str}(h1:sh.length<=1000)(h2:ad.length<=1000)(a0:D):∀(bs:Z9 Bi)(g:Gr)(a4 O:Z8 (D×Bool)),(∀b∈bs,∀l∈sh++ad,∃c,gt b l=U c)->
  cS 4 5 6 oU oW (bs.map bD) [U (a0,Y),U (.lst (sh.map D.str),Y),U (.lst (ad.map D.str),Y),M,a4,O,M,M] (gD g)=U (gD (bs.foldl (λg b=>mC g (vl b sh) (vl b ad)) g))
 |[],g,a4,O,_=>rfl
 |b::bs,g,a4,O,h=>by
  have hb:=h b (ZR ..);have ih:=pD h1 h2 a0 bs (mC g (vl b sh) (vl b ad)) (U (bD b,Y)) (U (cD (vl b sh),Y)) λb' Oq=>h b' (ZY _ Oq);rw[Z0,List.foldl_cons,<-ih]
  conv=>lhs;unfold cS
  have e1:oU [U (a0,Y),U (.lst (sh.map D.str),Y),U (.lst (ad.map D.str),Y),M,U (bD b,Y),O,M,M]=U (cD (vl b sh)):=by
   simp only[oU,aaa,WC,aah,Mk];rw[aC (by simp;lia)];exact congrArg (λz=>ce (aq z)) (rJ (λl Z=>hb l (Y2 _ Z)) _ rfl)
  have e2:oW [U (a0,Y),U (.lst (sh.map D.str),Y),U (.lst (ad.map D.str),Y),M,U (bD b,Y),U (cD (vl b sh),Y),M,M]=U (cD (vl b ad)):=by
   simp only[oW,aaa,WC,aah,Mk];rw[aC (by simp;lia)];have:=rJ (λl Z=>hb l (ZJ _ Z)) _ rfl;have hh:(zD:iv->Z8 D)=Kj:=rfl;rw[hh];exact congrArg (λz=>ce (aq z)) this
  simp only[aO,aN,e1,e2,kF,lD,Bool.and_self,YB,yP]
def qg{bs:Z9 Bi}{sh ad:Z9 Str}(h1:sh.length<=1000)(Z:ad.length<=1000)(hl:bs.length<=1000)(h:∀b∈bs,∀l∈sh++ad,∃c,gt b l=U c):
  L9 [.lst (bs.map bD),.lst (sh.map D.str),.lst (ad.map D.str)]=U (oG (gD (grp bs sh ad)),L):=by
 rw[ak (f:=L9) (d:=[U (.lst (bs.map bD),Y),U (.lst (sh.map D.str),Y),U (.lst (ad.map D.str),Y),M,M,M,M,M]) rfl rfl rfl];unfold Fz EG;rw[ZM ⟨rfl,by simp,by simp,by simp,by simp⟩];have e0:yN ([U (.lst (bs.map bD),Y),U (.lst (sh.map D.str),Y),U (.lst (ad.map D.str),Y),M,M,M,M,M].set 3 M)=U (bs.map bD):=rfl;simp only[e0];rw[ZM (by simp;lia)];have:=pD h1 Z (.lst (bs.map bD)) bs [] M M h;simp only[aO,aN];have O:gD []=[]:=rfl;rw[O]at this;rw[this];rfl
theorem yX(k:Z9 Ce):∀g:Gr,(cC (cD k) ((gD g).map (·.1)) ((gD g).map λp=>(.dD p.2 (p.2.map λ_=>.bl L):D))).getD (.dD [] [])=.dD ((cH g k).map cD) ((cH g k).map λ_=>.bl L)
 |[]=>rfl
 |q::g=>by
  have O:=yX k g;rw[aZ];show(cC (cD k) (cD q.1::(gD g).map (·.1)) ((.dD (q.2.map cD) ((q.2.map cD).map λ_=>.bl L):D)::_)).getD _=_;unfold cC;by_cases h:q.1=k
  .simp_all
  rw[ZH λz=>h (gn z),ZH h];exact O
def GO(g:Gr)(k:Z9 Ce):bY (U (oG (gD g))) (U (cD k)) (U (.dD [] []))=U (.dD ((cH g k).map cD) ((cH g k).map λ_=>.bl L)):=by
 unfold bY bU oG;simp only[kF,lD,Bool.and_self,YB,yX]
noncomputable def zK(l:Z9 (Z9 Ce)):D:=.dD (l.map cD) (l.map λ_=>.bl L)
def qG{ks:Z9 D}(k:D):∀{n:Z9 (Z9 Ce)},ks.length=n.length->qr k (.bl L) ks (n.map λ_=>(.bl L:D))=n.map λ_=>.bl L:=by
 induction ks with
 |nil=>intro n h;cases n with
  |nil=>rfl
  |cons=>simp at h
 |cons a ks O=>intro n h;cases n with
  |nil=>simp at h
  |cons b n=>simp_all [Z0,qr,ite_self]
def BN(x:Z9 Ce)(l:Z9 (Z9 Ce))(hl:l.length<900000):lw (zK l) (cD x) (.bl L)=U (zK (ins x l)):=by
 unfold zK lw;have O:(cD x∈l.map cD)=(x∈l):=propext ⟨λh=>by
   obtain⟨y,Z,he⟩:=ZZ.mp h;rwa[<-gn he],λh=>ZZ.mpr ⟨x,h,rfl⟩⟩
 simp only[kF,lD,Bool.and_self,X3];rw[ZM (by simp;lia)];unfold i7 yJ ins;simp only[O];split;rw[qG _ (by simp)];simp
def m6(x:Z9 Ce)(l:Z9 (Z9 Ce)):(ins x l).length<=l.length+1:=by unfold ins;split<;>simp
theorem yD(O:Z9 Ce)(hk:O.length<=1000)(a0 a1 a2 a3 a5:Z8 (D×Bool)):∀(Z:Z9 (Z9 Ce))(l:Z9 (Z9 Ce))(a7:Z8 (D×Bool)),(∀a∈Z,a.length<=1000)->l.length+Z.length<=500000->∃y7,
  aA (λd q=>af ((ae 7) d q) uY) (Z.map cD) [a0,a1,a2,a3,U (zK l,L),a5,U (cD O,Y),a7]=U (.next [a0,a1,a2,a3,U (zK (Z.foldl (λl a=>ins (O++a) l) l),L),a5,U (cD O,Y),y7])
 |[],l,a7,_,_=>⟨a7,rfl⟩
 |a::Z,l,a7,ha,hl=>by
  rw[cn]at hl;have hi:=m6 (O++a) l;obtain⟨y7,e⟩:=yD O hk a0 a1 a2 a3 a5 Z (ins (O++a) l) (U (cD a,Y)) (λx hx=>ha x (ZY _ hx)) (by lia);refine⟨y7,?_⟩;rw[List.foldl_cons,<-e,Z0]
  conv=>lhs;unfold aA
  have hc:uv (U (cD O)) (U (cD a))=U (cD (O++a)):=by
   unfold uv cD;have:=ha a (ZR ..);simp only[ZW,aaA];rw[ZM (by lia),Y7]
  simp[uY,xG,hc,BN _ _ (show l.length<900000 by lia)]
theorem pL{sp kp:Z9 Nat}{g:Gr}(h1:sp.length<=1000)(h2:kp.length<=1000)(hg:∀k,((cH g k).length<=25)/\∀a∈cH g k,a.length<=1000)(a0:Z8 (D×Bool)):∀(found l:Z9 (Z9 Ce))(a5 a6 a7:Z8 (D×Bool)),(∀c∈found,∀i∈sp++kp,i<c.length)->l.length+25*found.length<=500000->∃y5 y6 y7,
  aA (λd q=>af ((ae 5) d q) sO) (found.map cD) [a0,U (jg sp,Y),U (jg kp,Y),U (oG (gD g),Y),U (zK l,L),a5,a6,a7]=U (.next [a0,U (jg sp,Y),U (jg kp,Y),U (oG (gD g),Y),U (zK (found.foldl (rF g sp kp) l),L),y5,y6,y7])
 |[],l,a5,a6,a7,_,_=>⟨a5,a6,a7,rfl⟩
 |c::found,l,a5,a6,a7,hc,hl=>by
  rw[cn]at hl;have O:=hc c (ZR ..);have g1:=(hg (pk c sp)).1;obtain⟨z7,e1⟩:=yD (pk c kp) (by unfold pk;simpa using h2) a0 (U (jg sp,Y)) (U (jg kp,Y)) (U (oG (gD g),Y)) (U (cD c,Y)) (cH g (pk c sp)) l a7 (hg _).2 (by lia);have hx:(rF g sp kp l c).length<=l.length+25:=by
   unfold rF;have key:∀(Z l:Z9 (Z9 Ce)),(Z.foldl (λl a=>ins (pk c kp++a) l) l).length<=l.length+Z.length:=by
    intro Z
    induction Z with
    |nil=>simp
    |cons a Z ih=>intro l;have:=ih (ins (pk c kp++a) l);have:=m6 (pk c kp++a) l;simp;lia
   have:=key (cH g (pk c sp)) l;lia
  obtain⟨y5,y6,y7,e⟩:=pL h1 h2 hg a0 found (rF g sp kp l c) (U (cD c,Y)) (U (cD (pk c kp),Y)) z7 (λx hx=>hc x (ZY _ hx)) (by lia);refine⟨y5,y6,y7,?_⟩;rw[List.foldl_cons,<-e,Z0]
  conv=>lhs;unfold aA
  simp only[aae,cn,lF,Nat.reduceAdd,Nat.reduceLT,Mk,aO,aN];simp only[sO,aaa,WC,PK,Mk,gJ (λi hi=>O i (ZJ _ hi)) h2,aao,aad,cn,lF,Nat.reduceAdd,Nat.reduceLT,VV,aO,aN,gJ (λi hi=>O i (Y2 _ hi)) h1,GO,xJ];rw[e1];rfl
def mQ{found:Z9 (Z9 Ce)}{sp kp:Z9 Nat}{g:Gr}(h1:sp.length<=1000)(Z:kp.length<=1000)(O:∀k,((cH g k).length<=25)/\∀a∈cH g k,a.length<=1000)(hf:found.length<=16000)(h:∀c∈found,∀i∈sp++kp,i<c.length):
  L8 [.lst (found.map cD),jg sp,jg kp,oG (gD g)]=U (.lst ((ext found sp kp g).map cD),L):=by
 rw[ak (f:=L8) (d:=[U (.lst (found.map cD),Y),U (jg sp,Y),U (jg kp,Y),U (oG (gD g),Y),M,M,M,M]) rfl rfl rfl];obtain⟨y5,y6,y7,e⟩:=pL h1 Z O (U (.lst (found.map cD),Y)) found [] M M M h (by simp;lia);have e0:zK []=.dD [] []:=rfl;rw[e0]at e;simp only[FU,aav,cn,lF,Nat.reduceAdd,Nat.reduceLT,VV,aO,aN,WC,aah,Mk];rw[e];rfl
def w8(g:Gr)(k e O:Z9 Ce):(cH (mC g k e) O).length<=(cH g O).length+1:=by
 induction g with
 |nil=>
  unfold mC;rw[aZ];split<;>simp[cH]
 |cons q g Z=>
  unfold mC;by_cases h:q.1=k
  .rw[ZM h,aZ,aZ]
   dsimp only;by_cases h':q.1=O
   .rw[ZM h',ZM h'];split<;>simp
   rw[ZH h',ZH h'];lia
  rw[ZH h,aZ,aZ];by_cases h':q.1=O;rw[ZM h',ZM h'];lia;rw[ZH h',ZH h'];exact Z
def Be(sh ad:Z9 Str)(k:Z9 Ce)(bs:Z9 Bi):(cH (grp bs sh ad) k).length<=bs.length:=by
 have key:∀(bs:Z9 Bi)(g:Gr),(cH (bs.foldl (λg b=>mC g (vl b sh) (vl b ad)) g) k).length<=(cH g k).length+bs.length:=by
  intro bs
  induction bs with
  |nil=>simp
  |cons b bs O=>intro g;have:=O (mC g (vl b sh) (vl b ad));have:=w8 g (vl b sh) (vl b ad) k;simp;lia
 have:=key bs [];simpa[cH,grp]using this
def AA(h:∀k,(cH g k).length<=n):(ext found sp kp g).length<=found.length*n:=by
 have kin:∀(c:Z9 Ce)(O l:Z9 (Z9 Ce)),(O.foldl (λl a=>ins (pk c kp++a) l) l).length<=l.length+O.length:=by
  intro c O
  induction O with
  |nil=>simp
  |cons a O Z=>intro l;have:=Z (ins (pk c kp++a) l);have:=m6 (pk c kp++a) l;simp;lia
 have key:∀(found l:Z9 (Z9 Ce)),(found.foldl (rF g sp kp) l).length<=l.length+found.length*n:=by
  intro found
  induction found with
  |nil=>simp
  |cons c found Z=>
   intro l;rw[List.foldl_cons];have h1:=Z (rF g sp kp l c);have h2:=kin c (cH g (pk c sp)) l;have h3:=h (pk c sp);unfold rF at h1⊢;rw[cn,Nat.add_mul];lia
 have:=key found [];simpa[ext]using this
def qF{O:Type}(f:O->D)(a:Z9 O)(x:O)(b:Z9 O):v9 ((a++x::b).map f) (U ((a.length:Int)+1)) M=b.map f:=by
 unfold v9;have e:((a.length:Int)+1)=((a.length+1:Nat):Int):=by lia
 rw[e,HT.abM,HT.abC];simp only[ZW,YX,cn];rw[List.take_of_length_le (by simp)];rw[<-List.map_drop];simp
def wp(l:Str)(ss:Z9 Str):eZ (U (.str l)) (U (.lst (ss.map D.str)))=U (!decide (l∈ss)):=by
 unfold eZ;rw[eI];rfl
def dI{own:Z9 Str}{P:Str->Bool}{F:D->Z8 (Z8 D)}(h:∀l∈own,F (.str l)=U (if P l=L then U (.str l) else M)):aU F (own.map D.str)=U ((own.filter P).map D.str):=cB h
def l9{O:Type}(P:O->Bool)(l:Z9 O):(l.filter P).length<=l.length:=Ys ..
def BS{rs:Z9 Row}(F_:rs.length<=25){wanted:Z9 Str}(hw:wanted.length<=100){done av:Z9 Pat}{p:Pat}{kn:Z9 Str}{fd:Z9 (Z9 Ce)}{known:Z9 Str}{found:Z9 (Z9 Ce)}(J:Jn rs kn fd wanted done (p::av) known found)(hk:known.length<=100)(hf:found.length<=16000)
  (h4:∀q∈p::av,q.2.length<=4) (hl:(p::av).length<=4) (a0 a1 x8 x9 LO MO MN MM ML MK MJ MI:Z8 (D×Bool)):∃O Z y8 y9 M9 N9 N8 N7,Jn rs kn fd wanted (done++[p]) av O Z/\O.length<=known.length+4/\Z.length<=found.length*rs.length/\
  oJ [a0,a1,U (.lst (wanted.map D.str),Y),U (.lst (known.map D.str),Y),U (.lst (found.map cD),Y),U (.lst ((done++p::av).map (prD rs)),Y),U (.int done.length,Y),U (prD rs p,Y),x8,x9,LO,MO,MN,MM,ML,MK,MJ,MI]=
   U (.next [a0,a1,U (.lst (wanted.map D.str),Y),U (.lst (O.map D.str),Y),U (.lst (Z.map cD),Y),U (.lst ((done++p::av).map (prD rs)),Y),U (.int done.length,Y),U (prD rs p,Y),y8,y9,M9,N9,N8,N7,ML,MK,MJ,MI]):=by
 obtain⟨ls,els,_,Vu,lls⟩:=jl (br av);obtain⟨own,SE,NC,RX,lown⟩:=jl (br [p]);have hp4:=h4 p (ZR ..);have LQ:∀q∈av,q.2.length<=4:=λq hq=>h4 q (ZY _ hq);have OJ:av.length<=3:=by simp at hl;lia
 have lr:=aL LQ;have lp:(br [p]).length<=4:=by
  have:=aL (ps:=[p]) λq hq=>by simp_all
  simpa using this
 have mo:∀l,l∈own↔l∈ans p.2:=λl=>by rw[RX,ba];simp
 have ml:∀l,l∈wanted++ls↔l∈wanted\/∃q∈av,l∈ans q.2:=λl=>by rw[Zc,Vu,ba]
 have Nh:own.length<=4:=by lia
 generalize L0:wanted++ls=later at ml;have J':=Ak J mo NC ml;have f1:=l9 (λl=>decide (l∈known)) own;have f2:=l9 (λl=>decide (l∈later)&&!decide (l∈known)) own;have f3:=l9 (λl=>decide (l∈later)) known;have LX:∀l∈own.filter (λl=>decide (l∈known)),l∈known:=λl hl=>by simp at hl;exact hl.2
 have Lz:∀l∈known.filter (λl=>decide (l∈later)),l∈known:=λl hl=>by simp at hl;exact hl.1
 have Lu:∀b∈binds rs p,∀l∈own,∃c,gt b l=U c:=λb hb l hl=>(dA hb).1 l ((mo l).mp hl);have Pt:∀l∈own.filter (λl=>decide (l∈known))++own.filter (λl=>decide (l∈later)&&!decide (l∈known)),l∈own:=λl hl=>(Zc.mp hl).elim (λh=>(Zi.mp h).1) λh=>(Zi.mp h).1;have eg:=qg (bs:=binds rs p) (sh:=own.filter (λl=>decide (l∈known))) (ad:=own.filter (λl=>decide (l∈later)&&!decide (l∈known))) (by lia) (by lia) (by have:=j9 rs p;lia) λb hb l hl=>Lu b hb l (Pt l hl);generalize Q7:own.filter (λl=>decide (l∈known))=sh at*;generalize had:own.filter (λl=>decide (l∈later)&&!decide (l∈known))=ad at*;generalize Qg:known.filter (λl=>decide (l∈later))=kept at*;have TV:∀k,(cH (grp (binds rs p) sh ad) k).length<=rs.length:=λk=>ZL (Be sh ad k _) (j9 rs p);have ee:=mQ (found:=found) (sp:=bc sh known) (kp:=bc kept known) (g:=grp (binds rs p) sh ad) (by unfold bc;simp;lia) (by unfold bc;simp;lia) (λk=>⟨by have:=TV k;lia,λa ha=>by
   obtain⟨b,_,_,e⟩:=(mP _ _ _ _ _).mp ha;rw[<-e];unfold vl;simp;lia⟩) hf λc hc i hi=>by
  obtain⟨φ,rfl,_⟩:=(J.mem c).mp hc;rw[ZW];have:∃l∈sh++kept,i=known.idxOf l:=by
   unfold bc at hi;rw[<-Y7]at hi;obtain⟨l,h1,h2⟩:=ZZ.mp hi;exact⟨l,h1,h2.symm⟩
  obtain⟨l,h1,rfl⟩:=this;exact YM ((Zc.mp h1).elim (LX l) (Lz l))
 have Mx:=cV LX (by lia) (by lia);have Ou:=cV Lz (by lia) (by lia);refine⟨_,_,U (.lst (later.map D.str),Y),U (.lst (own.map D.str),Y),U (.lst (sh.map D.str),Y),U (.lst (ad.map D.str),Y),U (.lst (kept.map D.str),Y),U (oG (gD (grp (binds rs p) sh ad)),Y),J',by simp;lia,AA TV,?_⟩;have c1:aU (aB (ae 17) (λδ=>U L) yY (az Y [Y,Y,Y,Y,Y,Y,Y,Y,Y,Y,Y,Y,Y,Y,Y,Y,Y,Y] [a0,a1,U (.lst (wanted.map D.str),Y),U (.lst (known.map D.str),Y),U (.lst (found.map cD),Y),U (.lst ((done++p::av).map (prD rs)),Y),U (.int done.length,Y),U (prD rs p,Y),x8,x9,LO,MO,MN,MM,ML,MK,MJ,MI])) (av.map (prD rs))=U (av.map aQ):=aR λq hq=>by
  rfl
 have l1:=aE (ps:=av) (by lia) LQ;have l2:=aE (ps:=[p]) (by simp) λq hq=>by simp_all
 have e0:ixO (U (prD rs p)) (U (.int 0))=U (aQ p):=by simp[prD,at0]
 have e1:ixO (U (prD rs p)) (U (.int 1))=U (.lst ((binds rs p).map bD)):=by simp[prD,at1]
 rw[els]at l1;rw[SE,Z0,YI]at l2;simp only[oJ,aaa,WC,abb,aaG,aa5,acf,qF,aah,Mk];rw[aC (by simp;lia),c1];simp only[aaf,PK,Mk,l1,aam];rw[aa1 _ _ (by simp;lia),<-Y7,L0,aad _ _ _ (by simp)];simp only[VV,aO,aN,aaa,WC,e0,PK];rw[aan _ (by simp)];simp only[PK,Mk,l2,aam];rw[aad _ _ _ (by simp)];simp only[VV,aO,aN,aaa,WC,aah,Mk];rw[aC (by simp;lia),dI (P:=λl=>decide (l∈known)) λl hl=>by
  by_cases hm:l∈known<;>simp[aB,az,zm,eI,hm]]
 rw[Q7,aaf,aav _ _ _ (by simp)];simp only[VV,aO,aN,aaE,aaF,zB,aaa,WC,aah,Mk];rw[aC (by simp;lia),dI (P:=λl=>decide (l∈later)&&!decide (l∈known)) λl hl=>by
  by_cases hm:l∈later<;>by_cases hn:l∈known<;>simp[aB,az,yF,eI,wp,hm,hn]]
 rw[had,aaf,aav _ _ _ (by simp)];simp only[VV,aO,aN,aaE,aaF,zx,aaa,WC,aah,Mk];rw[aC (by simp;lia),dI (P:=λl=>decide (l∈later)) λl hl=>by
  by_cases hm:l∈later<;>simp[aB,az,yU,eI,hm]]
 rw[Qg,aaf,aav _ _ _ (by simp)];simp only[VV,aO,aN,aaE,aaF,zJ,aaa,WC,e1,PK,Mk,eg];have efr:frO (U (oG (gD (grp (binds rs p) sh ad)),L))=U (oG (gD (grp (binds rs p) sh ad))):=rfl;rw[efr,aad _ _ _ (by simp)];have RJ:∀ns,frO (U (jg ns,L))=U (jg ns):=λ_=>rfl;simp only[VV,aO,aN,aaa,WC,PK,Mk,Mx,Ou,RJ,ee,aam];rw[aad _ _ _ (by simp)];simp only[VV,aO,aN,aaa,WC];rw[aa1 _ _ (by simp;lia),aad _ _ _ (by simp),<-Y7];rfl
theorem dH:∀{xs ys:Z9 D},(∀x∈xs,∀y∈ys,(lt x y).isSome=L)->(ca lt xs ys).isSome=L
 |[],[],_=>rfl
 |[],_::_,_=>rfl
 |_::_,[],_=>rfl
 |x::xs,y::ys,h=>by
  unfold ca;split;exact dH λa O b hb=>h a (ZY _ O) b (ZY _ hb);exact h x (ZR ..) y (ZR ..)
def bn:¬(Str.ofString "blank")=(Str.ofString "name"):=by decide +kernel
def nb:¬(Str.ofString "name")=(Str.ofString "blank"):=by decide +kernel
def uw(n:Nat)(c e:Ce):(ltD (n+1) (ceD c) (ceD e)).isSome=L:=by
 cases c<;>cases e<;>simp[ceD,ltD,ca,bn,nb]<;>split<;>rfl
def BI(fs:Z9 (Z9 Ce)):bL (fs.map cD)=L:=by
 unfold bL;rw[Z2];intro x Z;obtain⟨r,_,rfl⟩:=ZZ.mp Z;rw[ZQ];refine⟨Gd r,?_⟩;rw[Z2];intro y O;obtain⟨q,_,rfl⟩:=ZZ.mp O;refine dH λx Z y O=>?_;obtain⟨c,_,rfl⟩:=ZZ.mp Z;obtain⟨e,_,rfl⟩:=ZZ.mp O;exact uw 13 c e
def bE{Z:Type}{f:Z->D}:∀{l:Z9 D}{fs:Z9 Z},l.Perm (fs.map f)->∃gs:Z9 Z,gs.Perm fs/\l=gs.map f:=by
 intro l fs h;generalize O:fs.map f=m at h
 induction h generalizing fs with
 |nil=>simp_all
 |cons x h ih=>
  cases fs with
  |nil=>simp at O
  |cons a fs=>
   simp only[Z0,X7]at O;obtain⟨gs,p,e⟩:=ih O.2;exact⟨a::gs,p.cons a,by rw[e,<-O.1];rfl⟩
 |swap x y l=>
  cases fs with
  |nil=>simp at O
  |cons a fs=>
   cases fs with
   |nil=>simp at O
   |cons b fs=>
    simp only[Z0,X7]at O;exact⟨b::a::fs,List.Perm.swap ..,by rw[<-O.1,<-O.2.1,<-O.2.2];rfl⟩
 |trans h1 h2 QZ QY=>
  obtain⟨gs,p,e⟩:=QY O;obtain⟨gs',p',e'⟩:=QZ e.symm;exact⟨gs',p'.trans p,e'⟩
def Ip{fs:Z9 (Z9 Ce)}(nd:fs.Nodup){n:Nat}(Z:∀c∈fs,c.length=n):fs.length<2\/(fs.map cD).all (dw .tt)=L:=by
 by_cases h1:fs.length<2;exact .inl h1
 .have O:n≠0:=λz=>by
   subst z
   match fs,nd,Z,h1 with
   |[],_,_,h=>simp at h
   |[_],_,_,h=>simp at h
   |a::b::r,nd,Z,_=>
    simp_all
  refine .inr (Z2.mpr λd hd=>?_);obtain⟨c,hc,rfl⟩:=ZZ.mp hd;have:=Z c hc;cases c with
  |nil=>exact absurd this.symm O
  |cons x c=>cases x<;>rfl
def Cb{fs:Z9 (Z9 Ce)}(O:fs.length<64)(nd:fs.Nodup){n:Nat}(Z:∀c∈fs,c.length=n):dh .tt (U (.lst (fs.map cD)))=U (.lst (bK (fs.map cD))):=
 fA (by rw[ZW];exact O) (BI fs) (by simpa using Ip nd Z)
def Sm(ps:Z9 Pat)(wanted:Z9 Str):Prop:=wanted=[]\/∃p∈ps,∀l∈wanted,l∈ans p.2
def oE(h:ps.length<=1)(Z:∀l∈wanted,l∈br ps):Sm ps wanted:=by
 match ps,h with
 |[],_=>exact .inl (List.eq_nil_iff_forall_not_mem.mpr λl O=>by obtain⟨p,hp,_⟩:=ba.mp (Z l O);cases hp)
 |[p],_=>exact .inr ⟨p,.head _,λl O=>by obtain⟨q,hq,k⟩:=ba.mp (Z l O);simp_all⟩
theorem sZ:∀{ts:Z9 Te},ts.map (ev φ)=ts.map (ev ψ)->∀l∈ans ts,φ l=ψ l
 |[],_,l,O=>nomatch O
 |.nm w::ts,h,l,O=>sZ (Yo h).2 l O
 |.any a::ts,h,l,O=>by
  rcases ZT.mp O with rfl|O;exact(Yo h).1;exact sZ (Yo h).2 l O
def cnt{rs:Z9 Row}(F_:rs.length<=25){ps:Z9 Pat}{wanted:Z9 Str}(h:Sm ps wanted){fs:Z9 (Z9 Ce)}(nd:fs.Nodup)(hf:∀x∈fs,∃φ:Fit,x=wanted.map φ/\∀p∈ps,dC rs φ p):fs.length<64:=by
 rcases h with rfl|⟨p,hp,hl⟩;have:∀x∈fs,x∈([[]]:Z9 (Z9 Ce)):=λx hx=>by obtain⟨φ,rfl,_⟩:=hf x hx;exact .head _
 exact Yb (Zt nd this) (by decide);have h1:∀x∈fs,∃r∈rs,∃φ:Fit,x=wanted.map φ/\r.2=p.2.map (ev φ):=λx hx=>by
  obtain⟨φ,e,k⟩:=hf x hx;obtain⟨r,Z,_,e2⟩:=k p hp;exact⟨r,Z,φ,e,e2⟩
 have key:∀(fs:Z9 (Z9 Ce))(rs:Z9 Row),fs.Nodup->(∀x∈fs,∃r∈rs,∃φ:Fit,x=wanted.map φ/\r.2=p.2.map (ev φ))->fs.length<=rs.length:=by
  intro fs
  induction fs with
  |nil=>exact λrs _ _=>Zm _
  |cons x fs ih=>
   intro rs nd h;obtain⟨n1,n2⟩:=Y8.mp nd;obtain⟨r,Z,φ,e,e2⟩:=h x (.head _);have:=ih (rs.erase r) n2 λy hy=>by
    obtain⟨r',OK,ψ,e',O⟩:=h y (.tail _ hy);refine⟨r',(List.mem_erase_of_ne λz=>n1 ?_).mpr OK,ψ,e',O⟩;rw[z,e2]at O;rw[e,Y4 λl hw=>sZ O l (hl l hw),<-e'];exact hy
   rw[List.length_erase_of_mem Z]at this;have:=List.length_pos_of_mem Z;rw[cn];lia
 exact Yb (key fs rs nd h1) (by lia)
theorem lh{rs:Z9 Row}(F_:rs.length<=25){wanted:Z9 Str}(hw:wanted.length<=100)(a0 a1 ML MK MJ MI:Z8 (D×Bool)){n:Nat}{kn:Z9 Str}{fd:Z9 (Z9 Ce)}(Rh:kn.length<=16)(hN:∀k,k<n->fd.length*rs.length ^ k<=16000):∀(av done:Z9 Pat)(known:Z9 Str)(found:Z9 (Z9 Ce))(x6 x7 x8 x9 LO MO MN MM:Z8 (D×Bool)),
  done.length+av.length=n->n<=4->(∀q∈av,q.2.length<=4)->Jn rs kn fd wanted done av known found->known.length<=kn.length+4*done.length->found.length<=fd.length*rs.length ^ done.length->∃O Z y6 y7 y8 y9 M9 N9 N8 N7,Jn rs kn fd wanted (done++av) [] O Z/\O.length<=32/\Z.length<=fd.length*rs.length ^ n/\
  aA (λd δ=>af ((bd (ao (ae 6) (ao (ae 7) (aak)))) d δ) oJ) (dy done.length (av.map (prD rs))) [a0,a1,U (.lst (wanted.map D.str),Y),U (.lst (known.map D.str),Y),U (.lst (found.map cD),Y),U (.lst ((done++av).map (prD rs)),Y),x6,x7,x8,x9,LO,MO,MN,MM,ML,MK,MJ,MI]=
   U (.next [a0,a1,U (.lst (wanted.map D.str),Y),U (.lst (O.map D.str),Y),U (.lst (Z.map cD),Y),U (.lst ((done++av).map (prD rs)),Y),y6,y7,y8,y9,M9,N9,N8,N7,ML,MK,MJ,MI])
 |[],done,known,found,x6,x7,x8,x9,LO,MO,MN,MM,h1,h2,h3,J,hk,hf=>by
  simp at h1;exact⟨known,found,x6,x7,x8,x9,LO,MO,MN,MM,by simpa using J,by lia,by rw[<-h1];exact hf,rfl⟩
 |p::av,done,known,found,x6,x7,x8,x9,LO,MO,MN,MM,h1,h2,h3,J,hk,hf=>by
  have hd:done.length<n:=by simp at h1;lia
  have hf1:found.length<=16000:=ZL hf (hN _ hd);obtain⟨k1,f1,z8,z9,K3,Qy,Qx,Qw,J1,hk1,hf2,e⟩:=BS F_ hw J (by lia) hf1 h3 (by simp at h1⊢;lia) a0 a1 x8 x9 LO MO MN MM ML MK MJ MI;obtain⟨k2,f2,y6,y7,y8,y9,M9,N9,N8,N7,J2,Nn,hf3,e2⟩:=lh F_ hw a0 a1 ML MK MJ MI Rh hN av (done++[p]) k1 f1 (U (.int done.length,Y)) (U (prD rs p,Y)) z8 z9 K3 Qy Qx Qw (by simp at h1⊢;lia) h2 (λq hq=>h3 q (ZY _ hq)) J1 (by simp;lia)
   (by rw[YX,List.length_singleton,Nat.pow_succ,<-Nat.mul_assoc];exact ZL hf2 (Nat.mul_le_mul_right _ hf))
  refine⟨k2,f2,y6,y7,y8,y9,M9,N9,N8,N7,by simp_all,Nn,hf3,?_⟩;rw[Xr,List.singleton_append]at e2;rw[Z0];simp only[dy];unfold aA
  simp_all
def gA{rs:Z9 Row}(Z:rs.length<=25){ps:Z9 Pat}(KJ:ps.length<=4)(h4:∀p∈ps,p.2.length<=4){kn:Z9 Str}{fd:Z9 (Z9 Ce)}(Rh:kn.length<=16)(k1:kn.Nodup)(k2:fd.Nodup)(k3:∀x∈fd,x.length=kn.length)(k4:∀l∈kn,l∈br ps)(hf0:fd.length<=16000)(hN:∀k,k<ps.length->fd.length*rs.length ^ k<=16000){wanted:Z9 Str}(hw:wanted.length<=100)(Mo:∀l∈wanted,l∈br ps)(OI:Sm ps wanted):∃fs:Z9 (Z9 Ce),fs.Nodup/\(∀x,x∈fs↔∃φ:Fit,x=wanted.map φ/\kn.map φ∈fd/\∀p∈ps,dC rs φ p)/\
  KG [.lst (rs.map Tn),.lst (ps.map aQ),.lst (wanted.map D.str),.lst (kn.map D.str),.lst (fd.map cD)]=U (.lst (bK (fs.map cD)),L)/\fs.length<=fd.length*rs.length ^ ps.length:=by
 obtain⟨o,po,eo⟩:=gC rs (by lia) kn (by lia) h4 KJ;have ol:=po.length_eq;have ho:∀q∈o,q.2.length<=4:=λq hq=>h4 q (po.mem_iff.mp hq);have inO:∀l,l∈br ps->∃p∈o,l∈ans p.2:=λl O=>by
  obtain⟨p,hp,h⟩:=ba.mp O;exact⟨p,po.mem_iff.mpr hp,h⟩
 obtain⟨known,found,y6,y7,y8,y9,M9,N9,N8,N7,J,hk,hf,e⟩:=lh Z hw (U (.lst (rs.map Tn),Y)) (U (.lst (ps.map aQ),Y)) M M M M (n:=ps.length) Rh hN o [] kn fd M M M M M M M M (by simpa using ol) KJ ho (xv rs k1 k2 k3 λl O=>.inr (inO l (k4 l O))) (by simp) (by simp);simp only[List.nil_append]at J e;have Tp:∀l∈wanted,l∈kn\/∃p∈o,l∈ans p.2:=λl O=>.inr (inO l (Mo l O));have Tq:∀l∈wanted,l∈known:=λl O=>J.has l (Tp l O) (.inl O);obtain⟨nd,mem⟩:=D5 J Tp;have es:=Cb (cnt Z OI nd λx hx=>by obtain⟨φ,h1,_,h2⟩:=(mem x).mp hx;exact⟨φ,h1,λp hp=>h2 p (po.mem_iff.mpr hp)⟩) nd (n:=wanted.length) (λc hc=>by
  grind)
 have hf':found.length<=400000:=by
  refine ZL hf ?_;rcases Nat.eq_zero_or_pos ps.length with z|z;rw[z];simp;lia;obtain⟨m,hm⟩:∃m,ps.length=m+1:=⟨ps.length - 1,by lia⟩
  rw[hm,Nat.pow_succ,<-Nat.mul_assoc];exact ZL (Nat.mul_le_mul (hN m (by lia)) Z) (by decide)
 refine⟨found.map λc=>pk c (bc wanted known),nd,λx=>?_,?_⟩;rw[mem];constructor
 rintro⟨φ,h1,h0,h2⟩;exact⟨φ,h1,h0,λp hp=>h2 p (po.mem_iff.mpr hp)⟩
 rintro⟨φ,h1,h0,h2⟩;exact⟨φ,h1,h0,λp hp=>h2 p (po.mem_iff.mp hp)⟩
 refine⟨?_,by simpa using hf⟩;rw[ak (f:=KG) (d:=[U (.lst (rs.map Tn),Y),U (.lst (ps.map aQ),Y),U (.lst (wanted.map D.str),Y),U (.lst (kn.map D.str),Y),U (.lst (fd.map cD),Y),M,M,M,M,M,M,M,M,M,M,M,M,M]) rfl rfl rfl];simp only[FF,aaa,WC,PK,Mk,eo,aam];rw[aad _ _ _ (by simp)];simp only[VV,aO,aN,aaa,WC,ju,Mk];simp only[lF]at e;rw[e];simp only[VV,aaa,WC,PK,Mk];rw[cV Tq (by lia) (by lia)];have RJ:∀ns,frO (U (jg ns,L))=U (jg ns):=λ_=>rfl;rw[RJ,aad _ _ _ (by simp)];simp only[VV,aO,aN,aaa,WC,aah,Mk];rw[aC (by simp;lia),aR (f:=cD) (h:=λc=>cD (pk c (bc wanted known))) λc hc=>by
  obtain⟨φ,rfl,_⟩:=(J.mem c).mp hc;have:=gJ (c:=known.map φ) (ps:=bc wanted known) (λi hi=>by
   obtain⟨l,h1,rfl⟩:=ZZ.mp hi;rw[ZW];exact YM (Tq l h1)) (by unfold bc;simp;lia)
  simp[aB,az,yE,this]]
 have em:found.map (λc=>cD (pk c (bc wanted known)))=(found.map λc=>pk c (bc wanted known)).map cD:=by simp
 rw[aaf,em,es];rfl
noncomputable def jI(q:Str×Ce):D:=.tup [.str q.1,ceD q.2]
noncomputable def uL(ps:Z9 Pat):Z9 Str:=wo (uS (br ps))
def wS(ps:Z9 Pat):(uL ps).Nodup:=(bN _).nodup_iff.mpr (dF _)
def be(ps:Z9 Pat)(x:Str):x∈uL ps↔x∈br ps:=(bN _).mem_iff.trans (ip x _)
def iF(ps:Z9 Pat):(uL ps).length<=(br ps).length:=(bN (uS (br ps))).length_eq▸t7 _
noncomputable def fL(us:Z9 Str)(c:Z9 Ce):D:=.lst ((us.zip c).map jI)
def Cc(q:Str×Ce)(n:Nat):okD (n+3) (jI q)=L:=by obtain⟨l,c⟩:=q;cases c<;>simp[jI,ceD,okD]
theorem fG:∀us:Z9 Str,us.zip (us.map f)=us.map λl=>(l,f l)
 |[]=>rfl
 |u::us=>by rw[Z0,List.zip_cons_cons,fG us];rfl
def C8(b:Bi):bL (b.map jI)=L:=by
 unfold bL;rw[Z2];intro x Z;obtain⟨⟨l,c⟩,_,rfl⟩:=ZZ.mp Z;rw[ZQ];refine⟨Cc (l,c) 12,?_⟩;rw[Z2];intro y O;obtain⟨⟨k,d⟩,_,rfl⟩:=ZZ.mp O;show(ca (ltD 14) [.str l,ceD c] [.str k,ceD d]).isSome=L;simp only[ca];split;split;rfl;exact uw 13 c d;rfl
def nR(r:Row)(n:Nat):okD (n+3) (Tn r)=L:=by
 simp only[Tn,okD,li,List.all_nil,YC,X3,List.all_map,Z2];intro c _;cases c<;>simp[ceD,okD]
def EC{ws:Z9 Str}{i:Int}(Z:0<=i)(h1:i<ws.length):∃w,atI (ws.map D.str) i=U (.str w):=by
 obtain⟨v,O,_,e⟩:=zn (xs:=ws.map D.str) Z (by simpa using h1);obtain⟨w,_,rfl⟩:=ZZ.mp O;exact⟨w,e⟩
def Cl(n:Nat)(r q:Row):(ltD (n+3) (Tn r) (Tn q)).isSome=L:=by
 show(ca (ltD (n+2)) [.str r.1,.tup (r.2.map ceD)] [.str q.1,.tup (q.2.map ceD)]).isSome=L;unfold ca;split;unfold ca;split;rfl;refine dH λx Z y O=>?_;obtain⟨c,_,rfl⟩:=ZZ.mp Z;obtain⟨e,_,rfl⟩:=ZZ.mp O;exact uw n c e;rfl
def pw(rs:Z9 Row):bL (rs.map Tn)=L:=by
 unfold bL;rw[Z2];intro x Z;obtain⟨r,_,rfl⟩:=ZZ.mp Z;rw[ZQ];refine⟨nR r 12,?_⟩;rw[Z2];intro y O;obtain⟨q,_,rfl⟩:=ZZ.mp O;exact Cl 12 r q
def tK(rs:Z9 Row):(rs.map Tn).all (dw .ts)=L:=by
 rw[Z2];intro x O;obtain⟨r,_,rfl⟩:=ZZ.mp O;rfl
def pQ{Z:Type}{F:Z->D}{P:Z->Prop}(h:∀x∈l,∃a,P a/\x=F a):∃O:Z9 Z,l=O.map F/\∀a∈O,P a:=by
 induction l with
 |nil=>simp
 |cons x l ih=>
  obtain⟨a,pa,e⟩:=h x (ZR ..);obtain⟨O,e2,pas⟩:=ih λy hy=>h y (ZY _ hy);refine⟨a::O,by rw[e,e2];rfl,λb hb=>?_⟩
  grind
def jn(h:Tn r=Tn q):r=q:=by
 obtain⟨a,c⟩:=r;simp only[Tn,D.tup.injEq,X7,D.str.injEq,and_true]at h;rw[h.1,mD (f:=ceD) (λ_ _=>gH) h.2]
def xq{O:Type}(f:O->D)(xs:Z9 O)(k:Nat):v9 (xs.map f) M (U (k:Int))=(xs.take k).map f:=by
 unfold v9;simp[HT.abM,HT.abC,List.drop_zero,Nat.sub_zero,List.map_take,ZW]
def kJ(h:∀d∈ds,okD n d=L):okD (n+1) (.lst ds)=L:=by exact Z2.mpr h
def Cv(t:Te)(n:Nat):okD (n+1) (teD t)=L:=by cases t<;>simp[teD,okD]
def sj(n:Nat)(ps:Z9 Pat):okD (n+4) (.lst (ps.map aQ))=L:=kJ λd hd=>by
 obtain⟨p,_,rfl⟩:=ZZ.mp hd;simp only[aQ,okD,li,List.all_nil,YC,X3];exact Z2.mpr λx O=>by obtain⟨t,_,rfl⟩:=ZZ.mp O;exact Cv t n
def wO(n:Nat)(rs:Z9 Row):okD (n+4) (.lst (rs.map Tn))=L:=kJ λd hd=>by obtain⟨r,_,rfl⟩:=ZZ.mp hd;exact nR r n
def FL(fs:Z9 (Z9 Ce)):okD 16 (.lst (fs.map cD))=L:=kJ λd hd=>by obtain⟨c,_,rfl⟩:=ZZ.mp hd;exact Gd c
def Bt(h:okD 16 d=L):eqO (U d) (U d)=U L:=by rw[yf _ _ (by unfold ok2;rw[h];rfl)];simp
def gO(h:okD 16 d=L):neO (U d) (U d)=U Y:=by rw[BD _ _ (by unfold ok2;rw[h];rfl)];simp
theorem rK:∀(ps:Z9 (D×D))(ks vs:Z9 D),(ks++ps.map (·.1)).Nodup->jb ks vs ps=(ks++ps.map (·.1),vs++ps.map (·.2))
 |[],ks,vs,_=>by simp[jb]
 |p::ps,ks,vs,h=>by
  have O:p.1∉ks:=λz=>by
   grind
  have h':(ks++[p.1]++ps.map (·.1)).Nodup:=by simpa using h
  unfold jb i7 yJ;rw[ZH O,ZH O,rK ps _ _ h'];simp
theorem j4{O:Type}{kf vf:O->D}(Z:∀q,(bf 8 (kf q)&&lR (kf q))=L):∀qs:Z9 O,d4 (qs.map λq=>.tup [kf q,vf q])=U (qs.map λq=>(kf q,vf q))
 |[]=>rfl
 |q::qs=>by
  rw[Z0];unfold d4 uZ;rw[j4 Z qs]
  simp_all
def jj{O:Type}{kf vf:O->D}(qs:Z9 O)(Z:∀q,(bf 8 (kf q)&&lR (kf q))=L)(nd:(qs.map kf).Nodup)(hl:qs.length<1000):fM (U (.lst (qs.map λq=>.tup [kf q,vf q])))=U (.dD (qs.map kf) (qs.map vf)):=by
 unfold fM;simp only[j4 Z];rw[ZM (by simp;lia),rK _ [] [] (by simpa[Function.comp_def]using nd)];simp[Function.comp_def]
theorem ja{O:Type}{kf vf:O->D}(k:D):∀qs:Z9 O,cC k (qs.map kf) (qs.map vf)=(qs.find? λq=>decide (kf q=k)).map vf
 |[]=>rfl
 |q::qs=>by
  rw[Z0,Z0,List.find?_cons];unfold cC;by_cases h:kf q=k
  .simp_all
  rw[ZH h,Zu h];exact ja k qs
def jd{O:Type}{kf vf:O->D}(qs:Z9 O){k:D}(Z:(bf 8 k&&lR k)=L):bY (U (.dD (qs.map kf) (qs.map vf))) (U k) (U k)=U (((qs.find? λq=>decide (kf q=k)).map vf).getD k):=by
 unfold bY bU;simp[Z,YB,ja]
def eT(h:∀x∈xs,bY (U (.dD ks vs)) (U x) (U x)=U (g x))(hl:xs.length<=1000):Lf [.tup [t,.tup xs],.dD ks vs]=U (.tup [t,.tup (xs.map g)],Y):=by
 rw[ak (f:=Lf) (d:=[U (.tup [t,.tup xs],Y),U (.dD ks vs,Y),M]) rfl rfl rfl];have e0:ixO (U (.tup [t,.tup xs])) (U (.int 0))=U t:=by simp[at0]
 have e1:ixO (U (.tup [t,.tup xs])) (U (.int 1))=U (.tup xs):=by simp[at1]
 simp only[FJ,aaa,WC,e0,e1,abV,Mk];have Z:az Y [Y,L,Y] [U (.tup [t,.tup xs],Y),U (.dD ks vs,Y),M]=[M,U (.dD ks vs,Y),M]:=rfl;have O:aU (aB (ae 2) (λq=>U L) uz [M,U (.dD ks vs,Y),M]) (xs.map id)=U (xs.map g):=aR λx hx=>by
  unfold aB
  simp_all [Mk,aO,aN,aaa,WC,uz,id]
 rw[List.map_id]at O;rw[aC (by simp;lia),Z,O,aaf];rfl
def EM(t:Te):(bf 8 (teD t)&&lR (teD t))=L:=by cases t<;>rfl
theorem o0{φ:Fit}{l:Str}:∀{us:Z9 Str},l∈us->((us.zip (us.map φ)).find? λq=>decide (teD (.any q.1)=teD (.any l)))=U (l,φ l)
 |u::us,h=>by
  rw[Z0,List.zip_cons_cons,List.find?_cons];by_cases e:u=l;subst e;rw[Zx rfl];rw[Zu λz=>e (by have:=jM z;lia)];rcases ZT.mp h with z|z;exact absurd z.symm e;exact o0 z
def zo{us:Z9 Str}{φ:Fit}{t:Te}(h:∀l,t=.any l->l∈us):bY (U (.dD ((us.zip (us.map φ)).map λq=>teD (.any q.1)) ((us.zip (us.map φ)).map λq=>ceD q.2))) (U (teD t)) (U (teD t))=U (ceD (ev φ t)):=by
 rw[jd (kf:=λq:Str×Ce=>teD (.any q.1)) (vf:=λq=>ceD q.2) _ (EM t)];cases t with
 |any l=>rw[o0 (h l rfl)];rfl
 |nm w=>
  rw[List.find?_eq_none.mpr λq _=>by
   have:¬teD (.any q.1)=teD (.nm w):=λz=>by cases jM z
   simpa using this]
  rfl
def gg{us:Z9 Str}(nd:us.Nodup)(hu:us.length<=100)(φ:Fit){ps:Z9 Pat}(KJ:ps.length<=4)(h4:∀p∈ps,p.2.length<=4)(hl:∀l∈br ps,l∈us):
  KH [.lst (ps.map aQ),fL us (us.map φ)]=U (.lst (ps.map λp=>Tn (p.1,p.2.map (ev φ))),L):=by
 have ef:fL us (us.map φ)=.lst ((us.zip (us.map φ)).map jI):=rfl;have hz:(us.zip (us.map φ)).length<=100:=by rw[List.length_zip];lia
 rw[ak (f:=KH) (d:=[U (.lst (ps.map aQ),Y),U (fL us (us.map φ),Y),M,M,M,M]) rfl rfl rfl];rw[ef];simp only[F7,aaa,WC,aah,Mk];have em:∀a b c d e f:Z8 (D×Bool),az Y [Y,Y,Y,Y,Y,Y] [a,b,c,d,e,f]=[M,M,M,M,M,M]:=λ_ _ _ _ _ _=>rfl;rw[aC (by rw[ZW,aaA];lia),em,aR (f:=jI) (h:=λq=>.tup [teD (.any q.1),ceD q.2]) λq _=>by
  rfl]
 have Qa:((us.zip (us.map φ)).map λq=>teD (.any q.1)).Nodup:=by
  have e:((us.zip (us.map φ)).map λq=>teD (.any q.1))=us.map λl=>teD (.any l):=by
   rw[fG,Zb];rfl
  rw[e];exact Xp _ (λa b x_ z=>x_ (by have:=jM z;lia)) nd
 rw[aaf,jj (kf:=λq:Str×Ce=>teD (.any q.1)) (vf:=λq=>ceD q.2) _ (λq=>EM _) Qa (by lia),aad _ _ _ (by simp)];simp only[VV,aO,aN,aaa,WC,aah,Mk];have Nz:∀(a b d e f:Z8 (D×Bool))(x:D),az Y [Y,Y,L,Y,Y,Y] [a,b,U (x,Y),d,e,f]=[M,M,U (x,Y),M,M,M]:=λ_ _ _ _ _ _=>rfl;rw[aC (by simp;lia),Nz,aR (f:=aQ) (h:=λp=>Tn (p.1,p.2.map (ev φ))) λp hp=>by
  unfold aB;rw[aae _ _ _ (by simp)];have O:∀t∈p.2,∀l,t=.any l->l∈us:=λt Z l e=>hl l (ba.mpr ⟨p,hp,by
   have key:∀ts:Z9 Te,Te.any l∈ts->l∈ans ts:=λts=>by
    induction ts with
    |nil=>simp
    |cons a ts ih=>
     intro h;rcases ZT.mp h with z|z;subst z;exact ZR ..;cases a with
     |any k=>exact ZY _ (ih z)
     |nm w=>exact ih z
   simp_all⟩)
  have ex:=eT (t:=.str p.1) (xs:=p.2.map teD) (ks:=(us.zip (us.map φ)).map λq=>teD (.any q.1)) (vs:=(us.zip (us.map φ)).map λq=>ceD q.2) (g:=λd=>(bY (U (.dD ((us.zip (us.map φ)).map λq=>teD (.any q.1)) ((us.zip (us.map φ)).map λq=>ceD q.2))) (U d) (U d)).getD .non) (λx hx=>by
   obtain⟨t,Z,rfl⟩:=ZZ.mp hx;rw[zo (O t Z)];rfl) (by rw[ZW];have:=h4 p hp;lia)
  have eg:(p.2.map teD).map (λd=>(bY (U (.dD ((us.zip (us.map φ)).map λq=>teD (.any q.1)) ((us.zip (us.map φ)).map λq=>ceD q.2))) (U d) (U d)).getD .non)=(p.2.map (ev φ)).map ceD:=by
   rw[Zb,Zb];refine Y4 λt Z=>?_;show(bY _ (U (teD t)) (U (teD t))).getD .non=_;rw[zo (O t Z)];rfl
  rw[eg]at ex;have er:aQ p=.tup [.str p.1,.tup (p.2.map teD)]:=rfl;simp only[Mk,aO,aN,aaa,WC,yO,PK,er,ex,aao];rfl]
 rfl
theorem zA:∀(us:Z9 Str)(c:Z9 Ce),fv (us.map D.str) (c.map ceD)=(us.zip c).map jI
 |[],c=>by rfl
 |u::us,[]=>rfl
 |u::us,x::c=>by rw[Z0,Z0,fv,zA us c];rfl
def uK(h:us.length<=1000)(c:Z9 Ce):gY Y L (U (.lst (us.map D.str))) (U (cD c))=U (fL us c):=by
 have e:BZ Y L (U (.lst (us.map D.str))) (U (cD c))=U ((us.zip c).map jI):=by
  show U (fv (us.map D.str) (c.map ceD))=_;rw[zA]
 unfold gY;rw[e];dsimp only;rw[ZM (by simp;lia)];rfl
def E1(h:n<=25)(O:k<=2):n ^ k<=625:=ZL (Nat.pow_le_pow_left h k) (ZL (Nat.pow_le_pow_right (by decide) O) (by decide))
def xW(r:Row):bf 8 (Tn r)=L:=by
 simp only[Tn,bf,li,List.all_nil,YC,X3,List.all_map,Z2];intro c _;cases c<;>simp[ceD,bf]
open L2.G (bQ scD aK cf aV) in
def gG{rs:Z9 Row}(h:rs.length<64):∃fs:Z9 Row,(∀r,r∈fs↔r∈rs)/\fs.length<=rs.length/\KS [.lst (rs.map Tn)]=U (.lst (fs.map Tn),L):=by
 have hu:=cf (rs.map Tn);rw[ZW]at hu;obtain⟨fs,O,hfs⟩:=pQ (F:=Tn) (l:=bK (bQ (rs.map Tn))) (P:=λ_=>True) λx Z=>by
  obtain⟨r,hr,e⟩:=ZZ.mp ((aK _ _).mp ((ax _).mem_iff.mp Z));exact⟨r,trivial,e.symm⟩
 have hl:=(ax (bQ (rs.map Tn))).length_eq;rw[O,ZW]at hl;refine⟨fs,λr=>?_,by lia,?_⟩;have q:Tn r∈fs.map Tn↔Tn r∈rs.map Tn:=by rw[<-O,(ax _).mem_iff,aK]
 constructor;intro hr;obtain⟨s,hs,e⟩:=ZZ.mp (q.mp (XF hr));rw[<-jn e];exact hs;intro hr;obtain⟨s,hs,e⟩:=ZZ.mp (q.mpr (XF hr));rw[<-jn e];exact hs;rw[ak (f:=KS) (d:=[U (.lst (rs.map Tn),Y)]) rfl rfl rfl];simp only[GC,WC];have es:aas .ts Y (U (.lst (rs.map Tn)))=U (.lst (fs.map Tn)):=by
  unfold aas;dsimp only;rw[ZM,O];have hH:(rs.map Tn).all (bf 8)=L:=Z2.mpr λx Z=>by obtain⟨r,_,rfl⟩:=ZZ.mp Z;exact xW r
  have hS:((rs.map Tn).all λd=>scD d==Y)=L:=Z2.mpr λx Z=>by obtain⟨r,_,rfl⟩:=ZZ.mp Z;rfl
  rw[pw,tK,hH,hS,Zx (by lia)];rfl
 simp_all
def eQ{rs:Z9 Row}(O:rs.length<=25){ps:Z9 Pat}(KJ:ps.length<=2)(h4:∀p∈ps,p.2.length<=4){wanted:Z9 Str}(hw:wanted.length<=100)(Mo:∀l∈wanted,l∈br ps)(OI:Sm ps wanted):∃gs:Z9 (Z9 Ce),gs.Nodup/\(∀x,x∈gs↔∃φ:Fit,x=wanted.map φ/\∀p∈ps,dC rs φ p)/\Kq [.lst (rs.map Tn),.lst (ps.map aQ),.lst (wanted.map D.str)]=U (.lst (gs.map cD),L)/\gs.length<=625:=by
 obtain⟨fs,n1,m1,ej,hl⟩:=gA (rs:=rs) (by lia) (ps:=ps) (by lia) h4 (kn:=[]) (fd:=[[]]) (by simp) YK (by simp) (by simp) (by simp) (by simp) (λk hk=>by
  have:k<=1:=by lia
  simp only[cn,lF,Yh,Nat.one_mul];exact ZL (Nat.pow_le_pow_left O k) (ZL (Nat.pow_le_pow_right (by decide) this) (by decide))) hw Mo OI
 obtain⟨gs,Z,eg⟩:=bE (ax (fs.map cD));have mg:∀x,x∈gs↔∃φ:Fit,x=wanted.map φ/\∀p∈ps,dC rs φ p:=λx=>by rw[Z.mem_iff,m1];simp
 have ng:=Z.nodup_iff.mpr n1;refine⟨gs,ng,mg,?_,?_⟩;rw[ak (f:=Kq) (d:=[U (.lst (rs.map Tn),Y),U (.lst (ps.map aQ),Y),U (.lst (wanted.map D.str),Y)]) rfl rfl rfl];simp only[E8,aaa,WC];rw[aan [] (by simp),aap [] (by simp)];simp only[PK];have ec:cD []=.tup []:=rfl
 simp_all
 rw[Z.length_eq];exact ZL hl (by simpa using E1 O KJ)
noncomputable abbrev bi(ps qs:Z9 Pat):D:=.tup [.str "must",.lst (ps.map aQ),.lst (qs.map aQ)]
noncomputable abbrev aX(ps:Z9 Pat)(a b:Te):D:=.tup [.str "same",.lst (ps.map aQ),teD a,teD b]
noncomputable abbrev smP(a b:Te):Pat:=("same",[a,b])
def ms:¬(Str.ofString "must")=(Str.ofString "same"):=by trivial
section
variable(ps qs:Z9 Pat)(a b:Te)
theorem m0:ixO (U (bi ps qs)) (U (.int 0))=U (.str "must"):=rfl
theorem m1:ixO (U (bi ps qs)) (U (.int 1))=U (.lst (ps.map aQ)):=rfl
theorem m2:ixO (U (bi ps qs)) (U (.int 2))=U (.lst (qs.map aQ)):=rfl
theorem s0:ixO (U (aX ps a b)) (U (.int 0))=U (.str "same"):=rfl
theorem s1:ixO (U (aX ps a b)) (U (.int 1))=U (.lst (ps.map aQ)):=rfl
theorem s2:ixO (U (aX ps a b)) (U (.int 2))=U (teD a):=rfl
theorem s3:ixO (U (aX ps a b)) (U (.int 3))=U (teD b):=rfl
def cO:LG [aX ps a b]=U (aQ (smP a b),Y):=by
 rfl
end
noncomputable def dlM(ps qs:Z9 Pat):Z9 Str:=(uL qs).filter λl=>decide (l∈uL ps)
def nZ(h1:ps.length<=2)(h2:qs.length<=2)(h4:∀p∈ps,p.2.length<=4)(O:∀p∈qs,p.2.length<=4):Kp [bi ps qs]=U (.lst ((dlM ps qs).map D.str),L):=by
 rw[ak (f:=Kp) (d:=[U (bi ps qs,Y),M,M]) rfl rfl rfl];have e1:f_ [.lst (ps.map aQ)]=U (.lst ((uL ps).map D.str),L):=aE (by lia) h4;have e2:f_ [.lst (qs.map aQ)]=U (.lst ((uL qs).map D.str),L):=aE (by lia) O;have hu:(uL qs).length<=16:=ZL (iF qs) (ZL (aL O) (by lia));simp only[EZ,WC,m0,m1,m2,bu,ms,Yp,aaD,aal,VV,PK,Mk,e1,aam];rw[aad _ _ _ (by simp)];simp only[VV,aO,aN,aaa,WC,m2,PK,Mk,e2,aam,aah];rw[aC (by simp;lia),dI (P:=λl=>decide (l∈uL ps)) λl hl=>by
  by_cases Z:l∈uL ps<;>simp[aB,az,zq,eI,Z]]
 rfl
def ov(ps:Z9 Pat)(a b:Te):Kp [aX ps a b]=U (.lst ((uL [smP a b]).map D.str),L):=by
 rw[ak (f:=Kp) (d:=[U (aX ps a b,Y),M,M]) rfl rfl rfl];have O:f_ [.lst [aQ (smP a b)]]=U (.lst ((uL [smP a b]).map D.str),L):=aE (ps:=[smP a b]) (by simp) (λp hp=>by simp_all);simp only[EZ,WC,s0,bu,Yy,aaH,PK,Mk,cO,aao]
 simp_all
def Dy(c:Z9 Ce)(O:Z9 (Z9 Ce)):BW (U (cD c)) (U (.dD (O.map cD) (O.map λ_=>.bl L)))=U (decide (c∈O)):=by
 unfold BW bU;have hk:(bf 8 (cD c)&&lR (cD c))=L:=by rw[kF,lD];rfl
 simp only[hk,YB,ja (kf:=cD) (vf:=λ_=>.bl L) (cD c) O,W7,ZG];rw[YG,List.find?_isSome,YY];constructor
 rintro⟨x,Z,e⟩;rw[<-gn (Zy e)];exact Z
 lia
def At(O:rs.length<=25)(h0:ps.length<=1)(h2:qs.length<=2)(h4:∀p∈ps,p.2.length<=4)(h5:∀p∈qs,p.2.length<=4)(VL:Sm qs (dlM ps qs)):
  ∃fd:Z9 (Z9 Ce),fd.Nodup/\fd.length<=625/\(∀x,x∈fd↔(∃φ:Fit,x=(dlM ps qs).map φ/\∀p∈ps,dC rs φ p)/\¬∃φ:Fit,x=(dlM ps qs).map φ/\∀p∈qs,dC rs φ p)/\KP [.lst (rs.map Tn),bi ps qs]=U (.lst (fd.map cD),L):=by
 have h1:ps.length<=2:=by lia
 have hu:(uL qs).length<=16:=ZL (iF qs) (ZL (aL h5) (by lia));have hd:(dlM ps qs).length<=16:=ZL (Ys ..) hu;obtain⟨gs,n1,g1,e1,l1⟩:=eQ O h1 h4 (wanted:=dlM ps qs) (by lia) (λl Z=>(be ps l).mp (Zy (Zi.mp Z).2)) (oE h0 λl Z=>(be ps l).mp (Zy (Zi.mp Z).2));obtain⟨hs,n2,g2,e2,l2⟩:=eQ O h2 h5 (wanted:=dlM ps qs) (by lia) (λl Z=>(be qs l).mp (Zi.mp Z).1) VL;refine⟨gs.filter λc=>!decide (c∈hs),n1.filter _,ZL (Ys ..) l1,λx=>?_,?_⟩;rw[Zi,g1,<-g2];simp;rw[ak (f:=KP) (d:=[U (.lst (rs.map Tn),Y),U (bi ps qs,Y),M,M,M,M]) rfl rfl rfl];simp only[E4,aaa,WC,PK,Mk,nZ h1 h2 h4 h5,aam];rw[aad _ _ _ (by simp)];simp only[VV,aO,aN,aaa,WC,m1,PK,Mk,e1,aam];rw[aad _ _ _ (by simp)];simp only[VV,aO,aN,aaa,WC,m0,bu,ms,Yp,aaD,aal,m2,PK,Mk,e2,aam,aah];have em:∀a b c d e f:Z8 (D×Bool),az Y [Y,Y,Y,Y,Y,Y] [a,b,c,d,e,f]=[M,M,M,M,M,M]:=λ_ _ _ _ _ _=>by rfl
 rw[aC (by simp;lia),em,aR (f:=cD) (h:=λc=>.tup [cD c,.bl L]) λc _=>by
  rfl]
 rw[aaf,jj (kf:=cD) (vf:=λ_=>.bl L) hs (λc=>by rw[kF,lD];rfl) (Xp _ (λa b x_ z=>x_ (gn z)) n2) (by lia),aad _ _ _ (by simp)];simp only[VV,aO,aN,aaa,WC,aah,Mk];have Nz:∀(a b c d f:Z8 (D×Bool))(x:D),az Y [Y,Y,Y,Y,L,Y] [a,b,c,d,U (x,Y),f]=[M,M,M,M,U (x,Y),M]:=λ_ _ _ _ _ _=>by rfl
 rw[aC (by simp;lia),Nz,cB (f:=cD) (h:=cD) (p:=λc=>!decide (c∈hs)) λc _=>by
  unfold aB;rw[aae _ _ _ (by simp)];simp only[Mk,aO,aN,aaa,WC,Dy,ab3,zu];cases decide (c∈hs)<;>rfl]
 rfl
set_option tactic.hygienic true in
def CQ{a b:Te}{l:Str}(h:l∈br [smP a b]):a=.any l\/b=.any l:=by
 rw[ba]at h;obtain⟨p,hp,O⟩:=h;rw[ZD.mp hp]at O;cases a<;>cases b<;>simp[ans]at O<;>simp[O];lia
def BM(F_:rs.length<=25)(h0:ps.length<=1)(h4:∀p∈ps,p.2.length<=4)(x_:∀l,l∈br [smP a b]->l∈br ps):
  ∃fd:Z9 (Z9 Ce),fd.Nodup/\fd.length<=625/\(∀x,x∈fd↔∃φ:Fit,x=(uL [smP a b]).map φ/\(∀p∈ps,dC rs φ p)/\ev φ a≠ev φ b)/\KP [.lst (rs.map Tn),aX ps a b]=U (.lst (fd.map cD),L):=by
 have h1:ps.length<=2:=by lia
 have h2:∀p∈[smP a b],p.2.length<=4:=λp hp=>by simp_all
 have hd:(uL [smP a b]).length<=16:=ZL (iF _) (ZL (aL h2) (by simp));obtain⟨gs,n1,g1,e1,l1⟩:=eQ F_ h1 h4 (wanted:=uL [smP a b]) (by lia) (λl O=>x_ l ((be _ l).mp O)) (oE h0 λl O=>x_ l ((be _ l).mp O));have evc:∀{φ ψ:Fit},(uL [smP a b]).map φ=(uL [smP a b]).map ψ->ev φ a=ev ψ a/\ev φ b=ev ψ b:=λ{φ ψ} e=>by
  have q:=Xu.mp e;have:=fy (ts:=[a,b]) (φ:=φ) (ψ:=ψ) λl O=>q l ((be _ l).mpr (ba.mpr ⟨_,ZD.mpr rfl,O⟩));simpa using this
 obtain⟨bad,Z⟩:∃bad:Z9 Ce->Bool,∀φ:Fit,bad ((uL [smP a b]).map φ)=!decide (ev φ a=ev φ b):=by
  refine⟨λc=>!decide (ev (λl=>c.getD ((uL [smP a b]).idxOf l) default) a=ev (λl=>c.getD ((uL [smP a b]).idxOf l) default) b),λφ=>?_⟩;have pp:=bw (φ:=φ) (ls:=uL [smP a b]) (known:=uL [smP a b]) λl O=>O;unfold pk bc at pp
  simp_all
 refine⟨gs.filter bad,n1.filter _,ZL (Ys ..) l1,λx=>?_,?_⟩
 .grind
 rw[ak (f:=KP) (d:=[U (.lst (rs.map Tn),Y),U (aX ps a b,Y),M,M,M,M]) rfl rfl rfl];simp only[E4,aaa,WC,PK,Mk,ov,aam];rw[aad _ _ _ (by simp)];simp only[VV,aO,aN,aaa,WC,s1,PK,Mk,e1,aam];rw[aad _ _ _ (by simp)];simp only[VV,aO,aN,aaa,WC,s0,bu,Yy,aaH,aah,Mk];have em:∀(a d e f:Z8 (D×Bool))(x y:D),az Y [Y,L,L,Y,Y,Y] [a,U (x,Y),U (y,Y),d,e,f]=[M,U (x,Y),U (y,Y),M,M,M]:=λ_ _ _ _ _ _=>by rfl
 rw[aC (by simp;lia),em,cB (f:=cD) (h:=cD) (p:=bad) λc hc=>by
  obtain⟨φ,rfl,_⟩:=(g1 c).mp hc;have ef:=gg (wS [smP a b]) (by lia) φ (ps:=[smP a b]) (by simp) h2 λl O=>(be _ l).mpr O;simp only[Z0,YI]at ef;have et:Kh [aX ps a b,fL (uL [smP a b]) ((uL [smP a b]).map φ)]=U (.tup [ceD (ev φ a),ceD (ev φ b)],Y):=by
   rw[ak (f:=Kh) (d:=[U (aX ps a b,Y),U (fL (uL [smP a b]) ((uL [smP a b]).map φ),Y)]) rfl rfl rfl];simp only[Fb,aaa,WC,PK,Mk,cO,aao];rw[aan _ (by simp)];simp only[PK,Mk,ef,aam];rfl
  have eu:L7 [.tup [ceD (ev φ a),ceD (ev φ b)]]=U (.bl (!decide (ev φ a=ev φ b)),Y):=by
   rw[ak (f:=L7) (d:=[U (.tup [ceD (ev φ a),ceD (ev φ b)],Y)]) rfl rfl rfl];have t0:ixO (U (.tup [ceD (ev φ a),ceD (ev φ b)])) (U (.int 0))=U (ceD (ev φ a)):=rfl;have t1:ixO (U (.tup [ceD (ev φ a),ceD (ev φ b)])) (U (.int 1))=U (ceD (ev φ b)):=rfl;simp only[Gz,WC,t0,t1,j6];rfl
  unfold aB;rw[aae _ _ _ (by simp)];simp only[Mk,aO,aN,aaa,WC,uK (show(uL [smP a b]).length<=1000 by lia),PK,et,aao,eu,yS,Z];cases decide (ev φ a=ev φ b)<;>rfl]
 rfl
abbrev Mv:=Z9 (Int×Ce)
noncomputable def mvD(q:Int×Ce):D:=.tup [.int q.1,ceD q.2]
noncomputable def led(mv:Mv)(c:Ce):Ce:=match mv.find? (λq=>decide (c=.bk q.1))with|some q=>q.2|none=>c
def nkM(mv:Mv):Prop:=(mv.map (·.1)).Nodup
def wI(c:Ce):(bf 8 (ceD c)&&lR (ceD c))=L:=by cases c<;>rfl
noncomputable def qC(mv:Mv)(r:Row):Row:=(r.1,r.2.map (led mv))
def BA(mv:Mv)(c:Ce):bY (U (.dD (mv.map λq=>ceD (.bk q.1)) (mv.map λq=>ceD q.2))) (U (ceD c)) (U (ceD c))=U (ceD (led mv c)):=by
 rw[jd (kf:=λq:Int×Ce=>ceD (.bk q.1)) (vf:=λq=>ceD q.2) mv (wI c)];unfold led;have:(λq:Int×Ce=>decide (ceD (.bk q.1)=ceD c))=λq=>decide (c=.bk q.1):=funext λq=>Yd.mpr ⟨λh=>(gH h).symm,λh=>by rw[h]⟩;rw[this];cases mv.find? λq=>decide (c=.bk q.1)<;>rfl
def xT{rs:Z9 Row}(h:rs.length<64)(h4:∀r∈rs,r.2.length<=4)(nd:nkM mv)(hm:mv.length<=12):∃fs:Z9 Row,(∀r,r∈fs↔∃q∈rs,r=qC mv q)/\fs.length<=rs.length/\Lg [.lst (rs.map Tn),.lst (mv.map mvD)]=U (.lst (fs.map Tn),L):=by
 obtain⟨fs,f1,f2,f3⟩:=gG (rs:=rs.map (qC mv)) (by simpa using h);refine⟨fs,λr=>by rw[f1,ZZ];exact⟨λ⟨q,a,b⟩=>⟨q,a,b.symm⟩,λ⟨q,a,b⟩=>⟨q,a,b.symm⟩⟩,by simp_all,?_⟩;rw[ak (f:=Lg) (d:=[U (.lst (rs.map Tn),Y),U (.lst (mv.map mvD),Y),M,M,M,M]) rfl rfl rfl];simp only[GD,aaa,WC,aah,Mk];have em:∀a b c d e f:Z8 (D×Bool),az Y [Y,Y,Y,Y,Y,Y] [a,b,c,d,e,f]=[M,M,M,M,M,M]:=λ_ _ _ _ _ _=>by rfl
 rw[aC (by simp;lia),em,aR (f:=mvD) (h:=λq=>.tup [ceD (.bk q.1),ceD q.2]) λq _=>by
  rfl]
 rw[aaf,jj (kf:=λq:Int×Ce=>ceD (.bk q.1)) (vf:=λq=>ceD q.2) mv (λq=>wI _) (by
  have:=Xp (λn:Int=>ceD (.bk n)) (S:=λa b=>a≠b) (λa b O z=>O (Ce.bk.inj (gH z))) nd;rw[Zb]at this;exact this) (by lia),aad _ _ _ (by simp)]
 simp only[VV,aO,aN,aaa,WC,aah,Mk];have Z:∀(a b d e f:Z8 (D×Bool))(x:D),az Y [Y,Y,L,Y,Y,Y] [a,b,U (x,Y),d,e,f]=[M,M,U (x,Y),M,M,M]:=λ_ _ _ _ _ _=>by rfl
 rw[aC (by simp;lia),Z,aR (f:=Tn) (h:=λr=>Tn (qC mv r)) λr hr=>by
  unfold aB;rw[aae _ _ _ (by simp)];have ex:=eT (t:=.str r.1) (xs:=r.2.map ceD) (ks:=mv.map λq=>ceD (.bk q.1)) (vs:=mv.map λq=>ceD q.2) (g:=λd=>((((mv.find? λq=>decide (ceD (.bk q.1)=d)).map λq=>ceD q.2).getD d))) (λx hx=>by
   obtain⟨c,_,rfl⟩:=ZZ.mp hx;exact jd (kf:=λq:Int×Ce=>ceD (.bk q.1)) (vf:=λq=>ceD q.2) mv (wI c)) (by rw[ZW];have:=h4 r hr;lia)
  have eg:(r.2.map ceD).map (λd=>((((mv.find? λq=>decide (ceD (.bk q.1)=d)).map λq=>ceD q.2).getD d)))=(r.2.map (led mv)).map ceD:=by
   rw[Zb,Zb];refine Y4 λc _=>?_;have:=BA mv c;rw[jd (kf:=λq:Int×Ce=>ceD (.bk q.1)) (vf:=λq=>ceD q.2) mv (wI c)]at this;exact Z7 this
  rw[eg]at ex;have er:Tn r=.tup [.str r.1,.tup (r.2.map ceD)]:=rfl;simp only[Mk,aO,aN,aaa,WC,zI,PK,er,ex,aao];rfl]
 have e3:(rs.map λr=>Tn (qC mv r))=(rs.map (qC mv)).map Tn:=by rw[Zb];rfl
 rw[aaf,e3]
 simp_all
noncomputable def frL(ps qs:Z9 Pat):Z9 Str:=(uL qs).filter λl=>!decide (l∈uL ps)
def nV(h1:ps.length<=2)(h2:qs.length<=2)(h4:∀p∈ps,p.2.length<=4)(O:∀p∈qs,p.2.length<=4):La [bi ps qs]=U (.lst ((frL ps qs).map D.str),L):=by
 rw[ak (f:=La) (d:=[U (bi ps qs,Y),M,M]) rfl rfl rfl];have e1:f_ [.lst (ps.map aQ)]=U (.lst ((uL ps).map D.str),L):=aE (by lia) h4;have e2:f_ [.lst (qs.map aQ)]=U (.lst ((uL qs).map D.str),L):=aE (by lia) O;have hu:(uL qs).length<=16:=ZL (iF qs) (ZL (aL O) (by lia));simp only[Gx,WC,m1,PK,Mk,e1,aam];rw[aad _ _ _ (by simp)];simp only[VV,aO,aN,aaa,WC,m2,PK,Mk,e2,aam,aah];rw[aC (by simp;lia),dI (P:=λl=>!decide (l∈uL ps)) λl hl=>by
  by_cases Z:l∈uL ps<;>simp[aB,az,zL,wp,Z]]
 rfl
noncomputable def pX:Z9 Str->Int->Bi
 |[],_=>[]
 |l::ls,k=>(l,.bk k)::pX ls (k+1)
theorem iS:∀(ls:Z9 Str)(k:Int),(pX ls k).map (·.1)=ls
 |[],_=>rfl
 |l::ls,k=>by show l::(pX ls (k+1)).map (·.1)=_;rw[iS ls]
theorem oI(u:Int)(a0:Z8 (D×Bool)):∀(ls:Z9 Str)(n:Nat),aU (aB (bd (ao (ae 3) (ao (ae 2) (aak)))) (λq=>U L) oP [M,U (.int u,Y),M,M]) (dy n (ls.map D.str))=U ((pX ls (u+n)).map jI)
 |[],n=>rfl
 |l::ls,n=>by
  rw[Z0];unfold dy aU;have e:aB (bd (ao (ae 3) (ao (ae 2) (aak)))) (λq=>U L) oP [M,U (.int u,Y),M,M] (.tup [.int n,.str l])=U (U (jI (l,.bk (u+n)))):=by
   unfold aB;simp only[aa3,aaT,aa4,aae,Y6,cn,lF,Mk,aO,aN,Nat.reduceAdd,Nat.reduceLT,oP,aaa,WC,aaG,PK];rw[aap _ (by simp)];simp only[PK];rw[aap _ (by simp)];rfl
  have O:=oI u a0 ls (n+1);rw[show u+((n+1:Nat):Int)=u+n+1 by lia]at O;rw[e,O];rfl
def gX(h1:ps.length<=2)(h2:qs.length<=2)(h4:∀p∈ps,p.2.length<=4)(O:∀p∈qs,p.2.length<=4)(u:Int):LF [bi ps qs,.int u]=U (.lst ((pX (frL ps qs) u).map jI),L):=by
 have hu:(uL qs).length<=16:=ZL (iF qs) (ZL (aL O) (by lia));have hf:(frL ps qs).length<=16:=ZL (Ys ..) hu;rw[ak (f:=LF) (d:=[U (bi ps qs,Y),U (.int u,Y),M,M]) rfl rfl rfl];have hl:∀(ds:Z9 D)(n:Nat),(dy n ds).length=ds.length:=λds=>by
  induction ds with
  |nil=>intro n;rfl
  |cons d ds Z=>intro n;show(dy (n+1) ds).length+1=_;rw[Z];rfl
 have em:∀(a c d:Z8 (D×Bool))(x:D),az Y [Y,L,Y,Y] [a,U (x,Y),c,d]=[M,U (x,Y),M,M]:=λ_ _ _ _=>by rfl
 simp only[F6,aaa,WC,PK,Mk,nV h1 h2 h4 O,aam,ju];rw[aC (by rw[hl,ZW,aaA];lia),em,oI u M,aaf];simp
def fj(ps:Z9 Pat)(a b:Te)(nd:us.Nodup)(hu:us.length<=100)(φ:Fit)(Z:∀l∈br [smP a b],l∈us):Kh [aX ps a b,fL us (us.map φ)]=U (.tup [ceD (ev φ a),ceD (ev φ b)],Y):=by
 have h2:∀p∈[smP a b],p.2.length<=4:=λp hp=>by simp_all
 have O:=gg nd hu φ (ps:=[smP a b]) (by simp) h2 Z;simp only[Z0,YI]at O;rw[ak (f:=Kh) (d:=[U (aX ps a b,Y),U (fL us (us.map φ),Y)]) rfl rfl rfl];simp only[Fb,aaa,WC,PK,Mk,cO,aao];rw[aan _ (by simp)];simp only[PK,Mk,O,aam];rfl
noncomputable def cG:Ce->Bool|.nm _=>L|.bk _=>Y
def xd(c:Ce):eqO (ixO (U (ceD c)) (U (.int 0))) (U (.str "name"))=U (cG c):=by
 cases c with
 |nm w=>rfl
 |bk n=>rfl
def qi(ps qs:Z9 Pat)(f:D):Ko [bi ps qs,f]=U (.bl Y,Y):=by
 rfl
def qj(ps:Z9 Pat)(a b:Te)(nd:us.Nodup)(hu:us.length<=100)(φ:Fit)(Z:∀l∈br [smP a b],l∈us):Ko [aX ps a b,fL us (us.map φ)]=U (.bl (cG (ev φ a)&&cG (ev φ b)),Y):=by
 rw[ak (f:=Ko) (d:=[U (aX ps a b,Y),U (fL us (us.map φ),Y),M]) rfl rfl rfl];have e:neO (U (.str "same")) (U (.str "same"))=U Y:=gO rfl;have O:ixO (U (.tup [ceD (ev φ a),ceD (ev φ b)])) (U (.int 0))=U (ceD (ev φ a)):=rfl;have t1:ixO (U (.tup [ceD (ev φ a),ceD (ev φ b)])) (U (.int 1))=U (ceD (ev φ b)):=rfl;simp only[Gi,aaa,WC,s0,e,aaD,aal,VV,PK,Mk,fj ps a b nd hu φ Z,aao];rw[aad _ _ _ (by simp)];simp only[VV,aO,aN,aaa,WC,O,t1,xd,ab2];cases cG (ev φ a)<;>cases cG (ev φ b)<;>rfl
def HZ(n:Int)(w:Str):ltD 15 (ceD (.bk n)) (ceD (.nm w))=U L:=by
 rfl
def Jo(n:Int)(w:Str):ltD 15 (ceD (.nm w)) (ceD (.bk n))=U Y:=by
 rfl
def iX(ps:Z9 Pat)(a b:Te)(nd:us.Nodup)(hu:us.length<=100)(φ:Fit)(hl:∀l∈br [smP a b],l∈us)(hn:(cG (ev φ a)&&cG (ev φ b))=Y):∃(n:Int)(c:Ce),LD [aX ps a b,fL us (us.map φ)]=U (.lst [mvD (n,c)],L):=by
 have hc:∀x y:Ce,bL [ceD x,ceD y]=L:=λx y=>by
  have o:∀c:Ce,okD 15 (ceD c)=L:=λc=>by cases c<;>rfl
  simp[bL,o,uw 14]
 have hk:∀c:Ce,dw .ts (ceD c)=L:=λc=>by cases c<;>rfl
 have hs:∀x y:Ce,fW .ts (U (.tup [ceD x,ceD y]))=U (.lst (bK [ceD x,ceD y])):=λx y=>by
  unfold fW;dsimp only;rw[hc x y];simp[hk,kkD]
 have key:∃(x y:Ce)(n:Int),(y=.bk n\/(∃w,y=.nm w)/\x=.bk n)/\bK [ceD (ev φ a),ceD (ev φ b)]=[ceD x,ceD y]/\(cG y=Y->y=.bk n):=by
  have two:∀x y:Ce,bK [ceD x,ceD y]=[ceD x,ceD y]\/bK [ceD x,ceD y]=[ceD y,ceD x]:=λx y=>by
   show tL (ceD x) [ceD y]=_\/tL (ceD x) [ceD y]=_;unfold tL tL;lia
  cases ha:ev φ a with
  |nm w=>
   cases hb:ev φ b with
   |nm v=>rw[ha,hb]at hn;cases hn
   |bk n=>
    refine⟨.bk n,.nm w,n,.inr ⟨⟨w,rfl⟩,rfl⟩,?_,λz=>nomatch z⟩;rfl
  |bk n=>
   cases hb:ev φ b with
   |nm w=>
    refine⟨.bk n,.nm w,n,.inr ⟨⟨w,rfl⟩,rfl⟩,?_,λz=>nomatch z⟩;rfl
   |bk k=>
    rcases two (.bk n) (.bk k)with e|e;exact⟨.bk n,.bk k,k,.inl rfl,e,λ_=>rfl⟩;exact⟨.bk k,.bk n,n,.inl rfl,e,λ_=>rfl⟩
 obtain⟨x,y,n,Z,es,hy⟩:=key;have t0:ixO (U (.lst [ceD x,ceD y])) (U (.int 0))=U (ceD x):=rfl;have t1:ixO (U (.lst [ceD x,ceD y])) (U (.int 1))=U (ceD y):=rfl;have b1:∀k:Int,ixO (U (ceD (.bk k))) (U (.int 1))=U (.int k):=λ_=>rfl;rw[ak (f:=LD) (d:=[U (aX ps a b,Y),U (fL us (us.map φ),Y),M]) rfl rfl rfl];simp only[FT,aaa,WC,PK,Mk,fj ps a b nd hu φ hl,aao,hs,es];rw[aad _ _ _ (by simp)];simp only[VV,aO,aN,aaa,WC,t0,t1,xd];cases O:cG y with
 |true=>
  rcases Z with rfl|⟨_,rfl⟩;cases O;refine⟨n,y,?_⟩;rfl
 |false=>
  have:=hy O;subst this;refine⟨n,x,?_⟩;rfl
noncomputable def bls:Z9 Ce->Z9 Int
 |[]=>[]
 |.bk n::O=>n::bls O
 |.nm _::O=>bls O
theorem nJ:∀O:Z9 Ce,(bls O).length<=O.length
 |[]=>ZU _
 |.bk n::O=>Nat.succ_le_succ (nJ O)
 |.nm _::O=>XN (nJ O)
def EI(c:Ce):eqO (ixO (U (ceD c)) (U (.int 0))) (U (.str "blank"))=U (!(cG c)):=by
 cases c with
 |nm w=>rfl
 |bk n=>rfl
theorem dS:∀ns:Z9 Int,gU (ns.map D.int)=U ns
 |[]=>rfl
 |n::ns=>by rw[Z0];unfold gU;rw[dS ns]
noncomputable def pI(c:Z9 Ce):Int:=if bls c=[] then -1 else eE (bls c)
theorem oj:∀O:Z9 Ce,aU (aB (ae 1) (λq=>eqO (ixO (rd Y 1 q) (U (.int 0))) (U (.str "blank"))) u9 [M,M]) (O.map ceD)=U ((bls O).map D.int)
 |[]=>rfl
 |c::O=>by
  rw[Z0];unfold aU;rw[oj O];have e:aB (ae 1) (λq=>eqO (ixO (rd Y 1 q) (U (.int 0))) (U (.str "blank"))) u9 [M,M] (ceD c)=U (match c with|.bk n=>U (.int n)|.nm _=>M):=by
   unfold aB;rw[aae _ _ _ (by simp)];simp only[Mk,aO,aN,aaa,WC,EI];cases c with
   |nm w=>rfl
   |bk n=>rfl
  cases c<;>rfl
def C9(hc:c.length<=1000):L6 [cD c]=U (.int (pI c),Y):=by
 rw[ak (f:=L6) (d:=[U (cD c,Y),M]) rfl rfl rfl];have O:pV (U (cD c))=U (c.map ceD):=rfl;have Z:∀a b:Z8 (D×Bool),az Y [Y,Y] [a,b]=[M,M]:=λ_ _=>by rfl
 simp only[Fo,aaa,WC,O,Mk];rw[aC (by simp;lia),Z,oj,aaf];unfold lB yn;simp only[dS];rfl
def wL(h:ns≠[]):eE ns∈ns:=by
 unfold eE;have:=cZ (λi j=>decide (ns.getD i 0>ns.getD j 0)) (ns.length - 1);have O:=X2.mpr h;rw[Zf,YW (by lia)];exact YF _
def xZ(ps:Z9 Pat)(a b:Te):K9 [aX ps a b]=U (.int 0,Y):=by
 rfl
def yq(h1:ps.length<=2)(h2:qs.length<=2)(Z:∀p∈ps,p.2.length<=4)(O:∀p∈qs,p.2.length<=4):∃u:Int,(u=1\/u=2)/\K9 [bi ps qs]=U (.int u,Y):=by
 refine⟨if frL ps qs=[] then 1 else 2,by lia,?_⟩;rw[ak (f:=K9) (d:=[U (bi ps qs,Y)]) rfl rfl rfl];simp only[Fp,WC,m0,bu,ms,Yp,aaD,aal,VV,PK,Mk,nV h1 h2 Z O,aam];cases frL ps qs<;>rfl
def uC(c:Ce):D.flat (ceD c)=L:=by cases c<;>rfl
def wD(gs:Z9 (Z9 Ce)):D.aay (gs.map cD)=L:=by
 rw[D.aax,Z2];intro d hd;obtain⟨c,_,rfl⟩:=ZZ.mp hd;show D.aay (c.map ceD)=L;rw[D.aax,Z2];intro x O;obtain⟨e,_,rfl⟩:=ZZ.mp O;exact uC e
def wE(us:Z9 Str)(O:us.length<64)(φ:Fit):∃vs:Z9 Str,vs.Perm us/\dh .ts (U (fL us (us.map φ)))=U (fL vs (vs.map φ)):=by
 have ez:us.zip (us.map φ)=us.map λl=>(l,φ l):=fG _;obtain⟨gs,pg,eg⟩:=bE (f:=jI) (ax ((us.map λl=>(l,φ l)).map jI));have hg:∀q∈gs,q=(q.1,φ q.1):=λq Z=>by
  grind
 have e2:gs=(gs.map (·.1)).map λl=>(l,φ l):=by
  rw[Zb];exact((Y4 λq Z=>(hg q Z).symm).trans (List.map_id gs)).symm
 refine⟨gs.map (·.1),?_,?_⟩;have:=pg.map (·.1);rw[Zb]at this;exact this.trans (by rw[show((·.1) ∘ λl=>(l,φ l):Str->Str)=id from rfl,List.map_id]);have ef:fL us (us.map φ)=.lst ((us.map λl=>(l,φ l)).map jI):=by unfold fL;rw[ez]
 rw[ef,fA (by rw[ZW,ZW];exact O) (C8 _) (.inr (Z2.mpr λx hx=>by obtain⟨q,_,rfl⟩:=ZZ.mp hx;rfl)),eg];unfold fL;rw[fG,<-e2]
section
variable{rs:Z9 Row}(F_:rs.length<=25){ps:Z9 Pat}(h1:ps.length<=1)(h4:∀p∈ps,p.2.length<=4)
include F_ h1 h4
theorem mV:∀(ls kn:Z9 Str)(ψ:Fit)(x4:Z8 (D×Bool)),(∀l∈ls,l∈br ps)->kn.Nodup->(∀l∈kn,l∈br ps)->(∀p∈ps,dC rs ψ p)->∃(O:Z9 Str)(q:Fit)(y4:Z8 (D×Bool)),O.Nodup/\(∀l∈O,l∈br ps)/\(∀l∈kn,l∈O/\q l=ψ l)/\(∀l∈ls,l∈O)/\(∀p∈ps,dC rs q p)/\
  aA (λd δ=>af ((ae 4) d δ) pB) (ls.map D.str) [U (.lst (rs.map Tn),Y),U (.lst (ps.map aQ),Y),U (.lst (kn.map D.str),L),U (cD (kn.map ψ),Y),x4]=
   U (.next [U (.lst (rs.map Tn),Y),U (.lst (ps.map aQ),Y),U (.lst (O.map D.str),L),U (cD (O.map q),Y),y4])
 |[],kn,ψ,x4,_,n1,k1,f1=>⟨kn,ψ,x4,n1,k1,λl h=>⟨h,rfl⟩,(λl h=>nomatch h),f1,by rfl⟩
 |l::ls,kn,ψ,x4,hl,n1,k1,f1=>by
  have Mf:(br ps).length<=8:=ZL (aL h4) (by lia);have Qh:kn.length<=8:=ZL (Zt n1 k1) Mf;have r2:∀x3 x4:Z8 (D×Bool),rd L 2 [U (.lst (rs.map Tn),Y),U (.lst (ps.map aQ),Y),U (.lst (kn.map D.str),L),x3,x4]=U (.lst (kn.map D.str)):=λ_ _=>rfl;by_cases hm:l∈kn;obtain⟨O,q,y4,a1,a2,a3,a4,a5,e⟩:=mV ls kn ψ (U (.str l,Y)) (λx Z=>hl x (.tail _ Z)) n1 k1 f1;refine⟨O,q,y4,a1,a2,a3,λx Z=>?_,a5,?_⟩
  .grind
  rw[Z0];unfold aA;rw[aae _ _ _ (by simp)];simp only[Mk,aO,aN,pB,aaa,WC,r2,wp,hm,Yy,XQ,aaD,aal];exact e;have Mo:∀x∈kn++[l],x∈br ps:=λx Z=>by
   grind
  have Vq:(kn++[l]).Nodup:=by
   rw[X5];exact⟨n1,by simp,λa ha b hb e=>hm (by simp_all)⟩
  obtain⟨fs,_,m1,ej,_⟩:=gA F_ (ps:=ps) (by lia) h4 (kn:=kn) (fd:=[kn.map ψ]) (by lia) n1 (by simp) (by simp) k1 (by simp) (λk hk=>by
   simp only[cn,lF,Yh,Nat.one_mul];exact ZL (E1 F_ (by lia)) (by decide)) (wanted:=kn++[l]) (by rw[YX,List.length_singleton];lia) Mo (oE h1 Mo)
  obtain⟨gs,pg,eg⟩:=bE (ax (fs.map cD));have LC:(kn++[l]).map ψ∈gs:=pg.mem_iff.mpr ((m1 _).mpr ⟨ψ,rfl,by simp,f1⟩);obtain⟨g0,gr,Rl⟩:=List.exists_cons_of_ne_nil (show gs≠[] from λz=>by simp_all);obtain⟨q,hg0,hk,hf⟩:=(m1 g0).mp (pg.mem_iff.mp (by simp_all));have agree:∀x∈kn,q x=ψ x:=λx Z=>Xu.mp (ZD.mp hk) x Z;obtain⟨O,ω,y4,a1,a2,a3,a4,a5,e⟩:=mV ls (kn++[l]) q (U (.str l,Y)) (λx Z=>hl x (.tail _ Z)) Vq Mo hf;refine⟨O,ω,y4,a1,a2,λx Z=>⟨(a3 x (Y2 _ Z)).1,(a3 x (Y2 _ Z)).2.trans (agree x Z)⟩,λx Z=>?_,a5,?_⟩
  .grind
  have ec:uj (U (.lst (kn.map D.str))) (U (.lst [.str l]))=U (.lst ((kn++[l]).map D.str)):=by
   unfold uj;dsimp only;rw[ZM];simp;rw[iI,Zx (by simp;lia)];rfl
  have l1:bg (U [.str l])=U (.lst [.str l]):=aan _ (by simp);have l2:bg (U [cD (kn.map ψ)])=U (.lst [cD (kn.map ψ)]):=aan _ (by simp);have ej':flO (KG [.lst (rs.map Tn),.lst (ps.map aQ),.lst ((kn++[l]).map D.str),.lst (kn.map D.str),.lst [cD (kn.map ψ)]])=U (.lst (gs.map cD)):=by
   have:KG [.lst (rs.map Tn),.lst (ps.map aQ),.lst ((kn++[l]).map D.str),.lst (kn.map D.str),.lst [cD (kn.map ψ)]]=U (.lst (gs.map cD),L):=by rw[<-eg];exact ej
   rw[this];unfold flO;dsimp only;rw[ZM (wD gs)]
  have i0:ixO (U (.lst (gs.map cD))) (U (.int 0))=U (cD ((kn++[l]).map q)):=by
   rw[Rl,hg0,Z0,aaZ,EW]
  have q0:∀(a:D)(x1 x2 x3 x4:Z8 (D×Bool)),rd L 0 [U (a,Y),x1,x2,x3,x4]=U a:=λ_ _ _ _ _=>rfl;have q1:∀(a:D)(x0 x2 x3 x4:Z8 (D×Bool)),rd L 1 [x0,U (a,Y),x2,x3,x4]=U a:=λ_ _ _ _ _=>rfl;rw[Z0];unfold aA;rw[aae _ _ _ (by simp)];simp only[Mk,aO,aN,pB,aaa,WC,r2,wp,hm,Yp,Xo,aaH,PK,l1,l2,ec,q0,q1,ej',i0];rw[aad _ _ _ (by simp)];simp only[VV,aO,aN,aaa,WC];rw[fm (ds:=kn.map D.str) _ (by rfl) (by simp;lia)]
  simp_all
def mU{kn:Z9 Str}(n1:kn.Nodup)(k1:∀l∈kn,l∈br ps){φ:Fit}(f1:∀p∈ps,dC rs φ p):∃(vs:Z9 Str)(ψ:Fit),(∀l∈kn,ψ l=φ l)/\(∀p∈ps,dC rs ψ p)/\vs.Nodup/\(∀l,l∈vs↔l∈br ps)/\Mb [.lst (rs.map Tn),.lst (ps.map aQ),.lst (kn.map D.str),cD (kn.map φ)]=U (fL vs (vs.map ψ),L):=by
 have el:f_ [.lst (ps.map aQ)]=U (.lst ((uL ps).map D.str),L):=aE (by lia) h4;obtain⟨O,q,y4,a1,a2,a3,a4,a5,e⟩:=mV F_ h1 h4 (uL ps) kn φ M (λl hl=>(be ps l).mp hl) n1 k1 f1;obtain⟨vs,pv,es⟩:=wE O (Yb (Zt a1 a2) (Yb (aL h4) (by lia))) q;have Z:(br ps).length<=8:=ZL (aL h4) (by lia);have Qh:O.length<=8:=ZL (Zt a1 a2) Z;refine⟨vs,q,λl hl=>(a3 l hl).2,a5,pv.nodup_iff.mpr a1,λl=>⟨λh=>a2 l (pv.mem_iff.mp h),λh=>pv.mem_iff.mpr (a4 l ((be ps l).mpr h))⟩,?_⟩;rw[ak (f:=Mb) (d:=[U (.lst (rs.map Tn),Y),U (.lst (ps.map aQ),Y),U (.lst (kn.map D.str),Y),U (cD (kn.map φ),Y),M]) rfl rfl rfl];simp only[FM,aaa,WC,abb];rw[aav _ _ _ (by simp)];simp only[VV,aO,aN,aaa,WC,PK,Mk,el,aam,aah,e,aaE,aaF,zj,uK (show O.length<=1000 by lia),es,abf,aa6]
end
theorem gM{bt:Nat->Nat->Bool}(irr:∀i,bt i i=Y)(tr:∀i j k,bt i j=L->bt j k=L->bt i k=L):∀k i,i<=k->bt i (argBest bt k)=Y
 |0,i,h=>by rw[Nat.le_zero.mp h];exact irr 0
 |k+1,i,h=>by
  unfold argBest;have O:=gM irr tr k
  grind
noncomputable def trD(x:Nat×Z9 Ce):D:=.tup [.int (pI x.2),.int (x.1:Int),cD x.2]
def FX(x y:Nat×Z9 Ce):(ltD 15 (trD x) (trD y)).isSome=L:=by
 show(ca (ltD 14) [.int (pI x.2),.int (x.1:Int),cD x.2] [.int (pI y.2),.int (y.1:Int),cD y.2]).isSome=L;unfold ca;split;unfold ca;split;unfold ca;split;rfl;refine dH λa O b hb=>?_;obtain⟨c,_,rfl⟩:=ZZ.mp O;obtain⟨e,_,rfl⟩:=ZZ.mp hb;exact uw 12 c e;rfl;rfl
def FS(x:Nat×Z9 Ce):okD 15 (trD x)=L:=by
 simp only[trD,okD,li,List.all_nil,YC,X3];refine Z2.mpr λd hd=>?_;obtain⟨c,_,rfl⟩:=ZZ.mp hd;cases c<;>rfl
def CH(xs:Z9 (Nat×Z9 Ce)):bL (xs.map trD)=L:=by
 unfold bL;rw[Z2];intro a O;obtain⟨x,_,rfl⟩:=ZZ.mp O;rw[ZQ];refine⟨FS x,Z2.mpr λb hb=>?_⟩;obtain⟨y,_,rfl⟩:=ZZ.mp hb;exact FX x y
def Dd(h:xs≠[]):∃x∈xs,(∀y∈xs,pI x.2<=pI y.2)/\Do (U (.lst (xs.map trD)))=U (trD x):=by
 have hl:=X2.mpr h;have hle:=cZ (btD (xs.map trD)) ((xs.map trD).length - 1);have Z:mE (xs.map trD)<xs.length:=by
  unfold mE;rw[ZW]at hle⊢;lia
 have O:=gM (bt:=btD (xs.map trD)) (λi=>by
  exact Zu λz=>g8 _ _ _ z z) (λi j k a b=>by
  exact Zx (yT _ _ _ _ (Zy a) (Zy b))) ((xs.map trD).length - 1)
 have get:∀i,(Z:i<xs.length)->(xs.map trD).getD i .non=trD xs[i]:=λi Z=>by simp_all
 refine⟨xs[mE (xs.map trD)],YF Z,λy hy=>?_,?_⟩;obtain⟨i,t_,rfl⟩:=Y_.mp hy;have:=Yc (show decide (ltD 15 ((xs.map trD).getD i .non) ((xs.map trD).getD (mE (xs.map trD)) .non)=U L)=Y from O i (by simp;lia));rw[get i t_,get _ Z]at this;refine Int.not_lt.mp λz=>this ?_;show ca (ltD 14) [.int (pI xs[i].2),_,_] [.int (pI (xs[mE (xs.map trD)]).2),_,_]=U L;unfold ca;rw[ZH λe=>by lia];exact congrArg U (Zx z);unfold Do;simp[CH,ZW,Z];lia
structure RI (rs:List Row) where
 R:D
 ps:List Pat
 dl:List Str
 u:Int
 fd:List (List Ce)
 hu:K9 [R]=some (.int u,false)
 hb:KP [.lst (rs.map Tn),R]=some (.lst (fd.map cD),true)
 hp:ixO (some R) (some (.int 1))=some (.lst (ps.map aQ))
 hd:Kp [R]=some (.lst (dl.map D.str),true)
 ft:∀c∈fd,∃φ:Fit,c=dl.map φ/\∀p∈ps,dC rs φ p
 nd:dl.Nodup
 ll:∀l∈dl,l∈br ps
 pl:ps.length<=1
 p4:∀p∈ps,p.2.length<=4
 fl:fd.length<=625
 ur:u=0\/u=1\/u=2
variable{rs:Z9 Row}
def RI.acL(r:RI rs):r.dl.length<=8:=ZL (Zt r.nd r.ll) (ZL (aL r.p4) (by have:=r.pl;lia))
def RI.acM(r:RI rs)(h:c∈r.fd):c.length<=8:=by
 obtain⟨φ,rfl,_⟩:=r.ft c h;rw[ZW];exact r.acL
noncomputable def fnd(u:Int):Nat->Z9 (RI rs)->Z9 (Nat×Z9 Ce)
 |_,[]=>[]
 |k,r::Lq=>(if r.u=u then r.fd.map λc=>(k,c) else[])++fnd u (k+1) Lq
theorem vQ:∀{Lq:Z9 (RI rs)}{k:Nat},x∈fnd u k Lq->k<=x.1/\∃r,Lq[x.1 - k]?=U r/\r.u=u/\x.2∈r.fd
 |[],k,h=>nomatch h
 |r::Lq,k,h=>by
  rcases Zc.mp h with h|h;split at h;rename_i hu;obtain⟨c,Z,rfl⟩:=ZZ.mp h;exact⟨ZU _,r,by simp,hu,Z⟩;cases h;obtain⟨h1,O,h2,h3⟩:=vQ h;refine⟨by lia,O,?_,h3⟩;rw[show x.1 - k=(x.1 - (k+1))+1 by lia];simpa using h2
theorem jN:∀{Lq:Z9 (RI rs)}{k:Nat},fnd u k Lq=[]->∀r∈Lq,r.u=u->r.fd=[]
 |r::Lq,k,h,q,O,hu=>by
  obtain⟨h1,Z⟩:=List.append_eq_nil_iff.mp h;rcases ZT.mp O with rfl|O
  .simp_all
  exact jN Z q O hu
theorem pU(S:D)(u:Int)(a0 a1 x6 x7:Z8 (D×Bool))(h0:a0=U (.lst (rs.map Tn),Y)):∀(Lq:Z9 (RI rs))(k:Nat)(O:Z9 (Nat×Z9 Ce))(x4 Z:Z8 (D×Bool)),O.length+625*Lq.length<=100000->∃y4 y5,
  aA (λd q=>af ((bd (ao (ae 4) (ao (ae 5) (aak)))) d q) sL) (dy k (Lq.map (·.R))) [a0,a1,U (.int u,Y),U (.lst (O.map trD),L),x4,Z,x6,x7]=U (.next [a0,a1,U (.int u,Y),U (.lst ((O++fnd u k Lq).map trD),L),y4,y5,x6,x7])
 |[],k,O,x4,Z,_=>⟨x4,Z,by simp[aA,dy,fnd]⟩
 |r::Lq,k,O,x4,Z,hl=>by
  rw[cn]at hl;have TX:=r.fl;obtain⟨y4,y5,e⟩:=pU S u a0 a1 x6 x7 h0 Lq (k+1) (O++if r.u=u then r.fd.map (λc=>(k,c)) else[]) (U (.int k,Y)) (U (r.R,Y)) (by
   split<;>simp<;>lia)
  refine⟨y4,y5,?_⟩;rw[Xr]at e;rw[Z0];unfold dy aA;subst h0;simp only[aa3,aaT,aa4,aae,Y6,cn,lF,Mk,aO,aN,Nat.reduceAdd,Nat.reduceLT,sL,aaa,WC,PK,r.hu,aao,aaM];by_cases hu:r.u=u;have em:∀(a b c d f g h:Z8 (D×Bool))(x:D),az Y [Y,Y,Y,Y,L,Y,Y,Y] [a,b,c,d,U (x,Y),f,g,h]=[M,M,M,M,U (x,Y),M,M,M]:=λ_ _ _ _ _ _ _ _=>rfl;simp only[hu,Yy,aaH,r.hb,aam,aah,Mk];rw[aC (by simp;lia),em,aR (f:=cD) (h:=λc=>trD (k,c)) λc hc=>by
   unfold aB;rw[aae _ _ _ (by simp)];simp only[Mk,aO,aN,aaa,WC,zw,PK,C9 (show c.length<=1000 by have:=r.acM hc;lia),aao];rfl]
  rw[aaf,yH (ds:=O.map trD) rfl (by simp;lia)];simp only[hu,YB]at e;rw[show O.map trD++r.fd.map (λc=>trD (k,c))=(O++r.fd.map λc=>(k,c)).map trD by simp];unfold fnd;rw[ZM hu];exact e;simp only[hu,Yp,aaD,aal];simp only[hu,YO,Yx]at e;unfold fnd;rw[ZH hu];exact e
structure Ch (Lq:List (RI rs))(k:Nat)(r:RI rs)(c:List Ce)(vs:List Str)(ψ:Fit):Prop where
 at':Lq[k]?=some r
 mem:c∈r.fd
 low:∀c'∈r.fd,pI c<=pI c'
 eq:r.dl.map ψ=c
 fit:∀p∈r.ps,dC rs ψ p
 nd:vs.Nodup
 vl:∀l,l∈vs↔l∈br r.ps
theorem oH:∀{Lq:Z9 (RI rs)}{k i:Nat}{r:RI rs},Lq[i]?=U r->r.u=u->c∈r.fd->(k+i,c)∈fnd u k Lq
 |q::Lq,k,0,r,h,hu,O=>by
  obtain rfl:q=r:=by simpa using h
  unfold fnd;rw[ZM hu];exact Y2 _ (ZZ.mpr ⟨c,O,rfl⟩)
 |q::Lq,k,i+1,r,h,hu,O=>by
  have:=oH (Lq:=Lq) (k:=k+1) (i:=i) (by trivial) hu O;rw[show k+(i+1)=k+1+i by lia];exact ZJ _ this
def d6(F_:rs.length<=25)(Lq:Z9 (RI rs))(hL:Lq.length<=100)(u:Int)(x3 x4 x5 x6 x7:Z8 (D×Bool)):
  (fnd u 0 Lq=[]->∃y3 y4 y5,io [U (.lst (rs.map Tn),Y),U (.lst (Lq.map (·.R)),Y),U (.int u,Y),x3,x4,x5,x6,x7]=U (.next [U (.lst (rs.map Tn),Y),U (.lst (Lq.map (·.R)),Y),U (.int u,Y),y3,y4,y5,x6,x7]))/\
  (fnd u 0 Lq≠[]->∃k r c vs ψ,Ch Lq k r c vs ψ/\io [U (.lst (rs.map Tn),Y),U (.lst (Lq.map (·.R)),Y),U (.int u,Y),x3,x4,x5,x6,x7]=U (.ret (.tup [.int (k:Int),fL vs (vs.map ψ)]) Y)):=by
 obtain⟨y4,y5,e⟩:=pU (rs:=rs) .non u (U (.lst (rs.map Tn),Y)) (U (.lst (Lq.map (·.R)),Y)) x6 x7 rfl Lq 0 [] x4 x5 (by simp;lia);simp only[List.nil_append,YI]at e;have l0:bg (U [])=U (.lst []):=aan _ (by simp);have tr:∀ds:Z9 D,B1 (U (.lst ds))=U (!decide (ds=[])):=λds=>by cases ds<;>rfl
 constructor;intro h;refine⟨U (.lst [],L),y4,y5,?_⟩;simp only[io,l0];rw[aav _ _ _ (by simp)];simp only[VV,aO,aN,aaa,WC,ju,Mk,e,h,YI,abt,tr,Yy,XQ,aaD,aal];intro h;obtain⟨x,hx,O,Z⟩:=Dd h;obtain⟨_,r,hr,hu,hc⟩:=vQ hx;rw[Nat.sub_zero]at hr;obtain⟨φ,Mi,hf⟩:=r.ft _ hc;obtain⟨vs,ψ,b1,b2,b3,b4,ew⟩:=mU F_ r.pl r.p4 r.nd r.ll hf;refine⟨x.1,r,x.2,vs,ψ,⟨hr,hc,λc' Om=>?_,?_,b2,b3,b4⟩,?_⟩;exact O (0+x.1,c') (oH hr hu Om)
 .simp_all
 have ne:(fnd u 0 Lq).map trD≠[]:=λz=>h (List.map_eq_nil_iff.mp z);have t1:ixO (U (trD x)) (U (.int 1))=U (.int (x.1:Int)):=rfl;have t2:ixO (U (trD x)) (U (.int 2))=U (cD x.2):=rfl;have tR:ixO (U (.lst (Lq.map (·.R)))) (U (.int (x.1:Int)))=U r.R:=by
  rw[aaZ];exact kH (by lia) (by rw[Int.toNat_natCast,Zg,hr];rfl)
 rw[<-Mi]at ew;simp only[io,l0];rw[aav _ _ _ (by simp)];simp only[VV,aO,aN,aaa,WC,ju,Mk,e,abt,tr,ne,Yp,Xo,aaH,aaE,aaF,zE,Z];rw[aad _ _ _ (by simp)];simp only[VV,aO,aN,aaa,WC,t1,tR];rw[aad _ _ _ (by simp)];have fr:∀us:Z9 Str,∀c,frO (U (fL us c,L))=U (fL us c):=λ_ _=>rfl;simp only[VV,aO,aN,aaa,WC,t1,t2,r.hp,PK,Mk,r.hd,aam,ew,fr];rfl
def An(O:rs.length<=25)(Lq:Z9 (RI rs))(Z:Lq.length<=100):
  ((∀r∈Lq,r.fd=[])/\Kg [.lst (rs.map Tn),.lst (Lq.map (·.R))]=U (.non,Y))\/∃k r c vs ψ,Ch Lq k r c vs ψ/\Kg [.lst (rs.map Tn),.lst (Lq.map (·.R))]=U (.tup [.int (k:Int),fL vs (vs.map ψ)],Y):=by
 have e3:rB (U (.int 3))=U [.int 0,.int 1,.int 2]:=by rw[gP 3 (by lia)];rfl
 have go:Kg [.lst (rs.map Tn),.lst (Lq.map (·.R))]=pZ (ay (aA (λd q=>af ((ae 2) d q) io) [.int 0,.int 1,.int 2] [U (.lst (rs.map Tn),Y),U (.lst (Lq.map (·.R)),Y),M,M,M,M,M,M]) (λq=>cq (U .non))):=by
  rw[ak (f:=Kg) (d:=[U (.lst (rs.map Tn),Y),U (.lst (Lq.map (·.R)),Y),M,M,M,M,M,M]) rfl rfl rfl];simp only[Gm,e3,Mk]
 have tn:∀(u:Int)(x2 x3 x4 x5 x6 x7:Z8 (D×Bool)),ae 2 (.int u) [U (.lst (rs.map Tn),Y),U (.lst (Lq.map (·.R)),Y),x2,x3,x4,x5,x6,x7]=U [U (.lst (rs.map Tn),Y),U (.lst (Lq.map (·.R)),Y),U (.int u,Y),x3,x4,x5,x6,x7]:=λu x2 x3 x4 x5 x6 x7=>by
  rfl
 rw[go];unfold aA;rw[tn,Mk];by_cases h0:fnd 0 0 Lq=[];obtain⟨a3,a4,a5,e0⟩:=(d6 O Lq Z 0 M M M M M).1 h0;rw[e0];dsimp only;unfold aA;rw[tn,Mk];by_cases h1:fnd 1 0 Lq=[];obtain⟨b3,b4,b5,e1⟩:=(d6 O Lq Z 1 a3 a4 a5 M M).1 h1;rw[e1];dsimp only;unfold aA;rw[tn,Mk];by_cases h2:fnd 2 0 Lq=[];obtain⟨c3,c4,c5,e2⟩:=(d6 O Lq Z 2 b3 b4 b5 M M).1 h2;rw[e2];refine .inl ⟨λr hr=>?_,by rfl⟩;rcases r.ur with h|h|h;exact jN h0 r hr h;exact jN h1 r hr h;exact jN h2 r hr h;obtain⟨k,r,c,vs,ψ,C,e2⟩:=(d6 O Lq Z 2 b3 b4 b5 M M).2 h2;rw[e2];exact .inr ⟨k,r,c,vs,ψ,C,rfl⟩;obtain⟨k,r,c,vs,ψ,C,e1⟩:=(d6 O Lq Z 1 a3 a4 a5 M M).2 h1;rw[e1];exact .inr ⟨k,r,c,vs,ψ,C,rfl⟩;obtain⟨k,r,c,vs,ψ,C,e0⟩:=(d6 O Lq Z 0 M M M M M).2 h0;rw[e0];exact .inr ⟨k,r,c,vs,ψ,C,rfl⟩
def lT(F_:rs.length<=25)(h0:ps.length<=1)(h2:qs.length<=2)(O:∀p∈ps,p.2.length<=4)(h5:∀p∈qs,p.2.length<=4)(Z:Sm qs (dlM ps qs)):∃r:RI rs,r.R=bi ps qs/\r.ps=ps/\r.dl=dlM ps qs/\
  ∀x,x∈r.fd↔(∃φ:Fit,x=(dlM ps qs).map φ/\∀p∈ps,dC rs φ p)/\¬∃φ:Fit,x=(dlM ps qs).map φ/\∀p∈qs,dC rs φ p:=by
 have h1:ps.length<=2:=by lia
 obtain⟨fd,f1,f2,f3,f4⟩:=At F_ h0 h2 O h5 Z;obtain⟨u,hu,eu⟩:=yq h1 h2 O h5;exact⟨⟨bi ps qs,ps,dlM ps qs,u,fd,eu,f4,m1 ps qs,nZ h1 h2 O h5,λc hc=>((f3 c).mp hc).1,(wS qs).filter _,λl hl=>(be ps l).mp (Zy (Zi.mp hl).2),h0,O,f2,.inr hu⟩,rfl,rfl,rfl,f3⟩
def Ac(Z:rs.length<=25)(h1:ps.length<=1)(h4:∀p∈ps,p.2.length<=4)(O:∀l,l∈br [smP a b]->l∈br ps):∃r:RI rs,r.R=aX ps a b/\r.ps=ps/\r.dl=uL [smP a b]/\
  ∀x,x∈r.fd↔∃φ:Fit,x=(uL [smP a b]).map φ/\(∀p∈ps,dC rs φ p)/\ev φ a≠ev φ b:=by
 obtain⟨fd,f1,f2,f3,f4⟩:=BM Z h1 h4 O;exact⟨⟨aX ps a b,ps,uL [smP a b],0,fd,xZ ps a b,f4,s1 ps a b,ov ps a b,λc hc=>by obtain⟨φ,e,h,_⟩:=(f3 c).mp hc;exact⟨φ,e,h⟩,wS _,λl hl=>O l ((be _ l).mp hl),h1,h4,f2,.inl rfl⟩,rfl,rfl,rfl,f3⟩
noncomputable abbrev rwF(ψ:Fit)(qs:Z9 Pat):Z9 Row:=qs.map λq=>(q.1,q.2.map (ev ψ))
def AQ(h1:ps.length<=2)(h2:qs.length<=2)(h4:∀p∈ps,p.2.length<=4)(h5:∀p∈qs,p.2.length<=4)(nd:vs.Nodup)(vl:∀l,l∈vs↔l∈br ps)(ψ:Fit)(u:Int):∃(O:Fit)(f:D),(∀l∈br ps,O l=ψ l)/\
  jQ (U (fL vs (vs.map ψ))) (U (.lst ((pX (frL ps qs) u).map jI)))=U f/\KH [.lst (qs.map aQ),f]=U (.lst ((rwF O qs).map Tn),L):=by
 have Mf:(br ps).length<=8:=ZL (aL h4) (by lia);have Og:vs.length<=8:=ZL (Zt nd λl hl=>(vl l).mp hl) Mf;have hq:(uL qs).length<=8:=ZL (iF qs) (ZL (aL h5) (by lia));have Oo:(pX (frL ps qs) u).length<=8:=by
  have:(pX (frL ps qs) u).length=(frL ps qs).length:=by rw[<-ZW (f:=(·.1)),iS]
  rw[this];exact ZL (Ys ..) hq
 have ez:vs.zip (vs.map ψ)=vs.map λl=>(l,ψ l):=fG _;have ek:((vs.map λl=>(l,ψ l))++pX (frL ps qs) u).map (·.1)=vs++frL ps qs:=by
  rw[Y7,iS,Zb];congr 1;exact List.map_id _
 have Qa:(vs++frL ps qs).Nodup:=by
  rw[X5];refine⟨nd,(wS qs).filter _,λx hx y hy e=>?_⟩;subst e;have:=(Zi.mp hy).2;simp[be,(vl x).mp hx]at this
 generalize hP:(vs.map λl=>(l,ψ l))++pX (frL ps qs) u=P at*;obtain⟨O,Z⟩:=ky (kn:=P.map (·.1)) (x:=P.map (·.2)) (ek▸Qa) (by simp);have hp:∀q∈P,O q.1=q.2:=λq hq=>by
  rw[Zb]at Z;exact(Xu.mp Z q hq).symm
 have egs:P=(P.map (·.1)).zip ((P.map (·.1)).map O):=by
  rw[<-Z];exact List.zip_of_prod rfl rfl
 refine⟨O,fL (P.map (·.1)) ((P.map (·.1)).map O),λl hl=>?_,?_,?_⟩;exact hp (l,ψ l) (by grind);have ef:fL vs (vs.map ψ)=.lst ((vs.map λl=>(l,ψ l)).map jI):=by unfold fL;rw[ez]
 rw[ef,aa1 _ _ (by simp;lia),<-Y7,hP];unfold fL;rw[<-egs];have hlen:(P.map (·.1)).length<=100:=by
  rw[ek,YX];have:(frL ps qs).length<=8:=ZL (Ys ..) hq;lia
 rw[gg (us:=P.map (·.1)) (ek▸Qa) hlen O (by lia) h5 λl hl=>?_];rw[Zb];rfl;rw[ek];by_cases h:l∈uL ps;exact Y2 _ ((vl l).mpr ((be ps l).mp h));exact ZJ _ (Zi.mpr ⟨(be qs l).mpr hl,by simp[h]⟩)
noncomputable abbrev eF(a0:Z8 (D×Bool))(RL:D)(mo:Int)(rs:Z9 Row)(st:Z9 D)(un:Int)(x6 x7 x8 x9:Z8 (D×Bool)):iv:=[a0,U (RL,Y),U (.int mo,Y),U (.lst (rs.map Tn),Y),U (.lst st,L),U (.int un,Y),x6,x7,x8,x9]
section
variable{Lq:Z9 (RI rs)}{RL:D}(Lx:RL=.lst (Lq.map (·.R))){a0 x6 x7 x8 x9:Z8 (D×Bool)}{mo un:Int}{st:Z9 D}
include Lx
omit Lx in
def kG(hn:Kg [.lst (rs.map Tn),RL]=U (.non,Y)):aW (eF a0 RL mo rs st un x6 x7 x8 x9)=U (.ret (.tup [.str "full",.lst (rs.map Tn),.lst st]) Y):=by
 have i1:rH (U D.non)=U L:=rfl;simp only[aW,aaa,WC,PK,Mk,hn,aao];rfl
variable{k:Nat}{r:RI rs}{f:D}(hk:Lq[k]?=U r)(hn:Kg [.lst (rs.map Tn),RL]=U (.tup [.int (k:Int),f],Y))
include hk hn
def qw(hc:Ko [r.R,f]=U (.bl L,Y)):aW (eF a0 RL mo rs st un x6 x7 x8 x9)=U (.ret (.tup [.str "clash",.lst st,.int (k:Int),f]) Y):=by
 have i1:∀ds,rH (U (D.tup ds))=U Y:=λ_=>rfl;have O:ixO (U (.tup [.int (k:Int),f])) (U (.int 0))=U (.int (k:Int)):=rfl;have t1:ixO (U (.tup [.int (k:Int),f])) (U (.int 1))=U f:=rfl;have Z:ixO (U RL) (U (.int (k:Int)))=U r.R:=by
  rw[Lx,aaZ];exact kH (by lia) (by rw[Int.toNat_natCast,Zg,hk];rfl)
 simp only[aW,aaa,WC,PK,Mk,hn,aao];rw[aad _ _ _ (by simp)];simp only[VV,aO,aN,aaa,WC,i1,aaD,aal,O,t1];rw[aad _ _ _ (by simp)];simp only[VV,aO,aN,aaa,WC,O,Z];rw[aad _ _ _ (by simp)];simp only[VV,aO,aN,aaa,WC,PK,Mk,hc,aao,aby,aaH,aaE,aaF,yI,O];rfl
variable(hc:Ko [r.R,f]=U (.bl Y,Y))
include hc
def mK:aW (eF a0 RL mo rs st un x6 x7 x8 x9)=(if mo<=st.length then U (.ret (.tup [.str "open",.lst (rs.map Tn),.lst st]) Y) else
  ay (ifO (eqO (ixO (U r.R) (U (.int 0))) (U (.str "same"))) (ay (aS 9 (frO (LD [r.R,f])) (eF a0 RL mo rs st un (U (.tup [.int (k:Int),f],Y)) (U (f,Y)) (U (r.R,Y)) x9)) (λq=>aS 3 (frO (af (aa (rd Y 3 q) (aa (rd Y 9 q) (U []))) Lg)) q))
   (ay (aS 9 (frO (LF [r.R,.int un])) (eF a0 RL mo rs st un (U (.tup [.int (k:Int),f],Y)) (U (f,Y)) (U (r.R,Y)) x9)) (λq=>ay (aS 3 (frO (af (aa (jQ (rd Y 3 q) (frO (af (aa (ixO (rd Y 8 q) (U (.int 2))) (aa (jQ (rd Y 7 q) (rd Y 9 q)) (U []))) KH))) (U [])) KS)) q) (λq=>aS 5 (fC (rd Y 5 q) (eX (rd Y 9 q))) q))))
   (λq=>kO 4 (aJ (aa (ixO (rd Y 6 q) (U (.int 0))) (aa (rd Y 7 q) (aa (rd Y 9 q) (U []))))) q)):=by
 have i1:∀ds,rH (U (D.tup ds))=U Y:=λ_=>rfl;have O:ixO (U (.tup [.int (k:Int),f])) (U (.int 0))=U (.int (k:Int)):=rfl;have t1:ixO (U (.tup [.int (k:Int),f])) (U (.int 1))=U f:=rfl;have Z:ixO (U RL) (U (.int (k:Int)))=U r.R:=by
  rw[Lx,aaZ];exact kH (by lia) (by rw[Int.toNat_natCast,Zg,hk];rfl)
 simp only[aW,aaa,WC,PK,Mk,hn,aao];rw[aad _ _ _ (by simp)];simp only[VV,aO,aN,aaa,WC,i1,aaD,aal,O,t1];rw[aad _ _ _ (by simp)];simp only[VV,aO,aN,aaa,WC,O,Z];rw[aad _ _ _ (by simp)];simp only[VV,aO,aN,aaa,WC,abt,PK,Mk,hc,aao,aby,aaD,aal,aaI,acs];by_cases h:mo<=st.length;rw[ZM h,show gGe (st.length:Int) mo=L from Zx h];rfl;rw[ZH h,show gGe (st.length:Int) mo=Y from Zu h];rfl
end
def vt{Lq:Z9 (RI rs)}(Lx:RL=.lst (Lq.map (·.R)))(F_:rs.length<=20)(C:Ch Lq k r c vs ψ)(hn:Kg [.lst (rs.map Tn),RL]=U (.tup [.int (k:Int),fL vs (vs.map ψ)],Y))(hR:r.R=bi r.ps qs)(h2:qs.length<=2)(h5:∀p∈qs,p.2.length<=4)(a0 x6 x7 x8 x9:Z8 (D×Bool))(mo un:Int)(st:Z9 D)(n_:st.length<=1000):
  (mo<=st.length->aW (eF a0 RL mo rs st un x6 x7 x8 x9)=U (.ret (.tup [.str "open",.lst (rs.map Tn),.lst st]) Y))/\
  (¬mo<=st.length->∃(Z:Fit)(O:Z9 Row)(t:D)(QA:Int)(y6 y7 y8 y9:Z8 (D×Bool)),(∀l∈br r.ps,Z l=ψ l)/\(∀q,q∈O↔q∈rs\/q∈rwF Z qs)/\O.length<=rs.length+2/\aW (eF a0 RL mo rs st un x6 x7 x8 x9)=U (.next (eF a0 RL mo O (st++[t]) QA y6 y7 y8 y9))):=by
 have hc:Ko [r.R,fL vs (vs.map ψ)]=U (.bl Y,Y):=by rw[hR];exact qi _ _ _
 have tg:=mK Lx (a0:=a0) (x6:=x6) (x7:=x7) (x8:=x8) (x9:=x9) (mo:=mo) (un:=un) (st:=st) C.at' hn hc;constructor;intro h;rw[tg,ZM h];intro h;obtain⟨Z,f,Q0,ef,eg⟩:=AQ (XN r.pl) h2 r.p4 h5 C.nd C.vl ψ un;obtain⟨O,f1,f2,f3⟩:=gG (rs:=rs++rwF Z qs) (by simp;lia);have em:=gX (XN r.pl) h2 r.p4 h5 un;refine⟨Z,O,.tup [.int (k:Int),fL vs (vs.map ψ),.lst ((pX (frL r.ps qs) un).map jI)],un+(((pX (frL r.ps qs) un).map jI).length:Int),U (.tup [.int (k:Int),fL vs (vs.map ψ)],Y),U (fL vs (vs.map ψ),Y),U (bi r.ps qs,Y),U (.lst ((pX (frL r.ps qs) un).map jI),Y),Q0,λq=>by rw[f1,Zc],by simp at f2;lia,?_⟩;rw[Y7]at f3;have t0:ixO (U (.tup [.int (k:Int),fL vs (vs.map ψ)])) (U (.int 0))=U (.int (k:Int)):=rfl;rw[tg,ZH h,hR];simp only[m0,bu,ms,Yp,aaD,em,aam];rw[aad _ _ _ (by simp)];simp only[VV,aO,aN,aaa,WC,m2,ef,PK,Mk,eg,aam];rw[aa1 _ _ (by simp;lia)];simp only[PK,Mk,f3,aam];rw[aad _ _ _ (by simp)];simp only[VV,aO,aN,aaa,WC,aaI,aaG];rw[aad _ _ _ (by simp)];simp only[VV,aO,aN,aaa,WC,t0,PK];rw[aap _ (by simp),fm (ds:=st) _ (by rfl) (by simp;lia)];rfl
def vW{Lq:Z9 (RI rs)}(Z:RL=.lst (Lq.map (·.R)))(F_:rs.length<=20)(LQ:∀q∈rs,q.2.length<=4)(C:Ch Lq k r c vs ψ)(hn:Kg [.lst (rs.map Tn),RL]=U (.tup [.int (k:Int),fL vs (vs.map ψ)],Y))(hR:r.R=aX r.ps a b)(x_:∀l∈br [smP a b],l∈br r.ps)(a0 x6 x7 x8 x9:Z8 (D×Bool))(mo un:Int)(st:Z9 D)(n_:st.length<=1000):
  ((cG (ev ψ a)&&cG (ev ψ b))=L->aW (eF a0 RL mo rs st un x6 x7 x8 x9)=U (.ret (.tup [.str "clash",.lst st,.int (k:Int),fL vs (vs.map ψ)]) Y))/\
  ((cG (ev ψ a)&&cG (ev ψ b))=Y->mo<=st.length->aW (eF a0 RL mo rs st un x6 x7 x8 x9)=U (.ret (.tup [.str "open",.lst (rs.map Tn),.lst st]) Y))/\
  ((cG (ev ψ a)&&cG (ev ψ b))=Y->¬mo<=st.length->∃(mv:Mv)(O:Z9 Row)(t:D)(y6 y7 y8 y9:Z8 (D×Bool)),(∀q,q∈O↔∃q'∈rs,q=qC mv q')/\O.length<=rs.length/\aW (eF a0 RL mo rs st un x6 x7 x8 x9)=U (.next (eF a0 RL mo O (st++[t]) un y6 y7 y8 y9))):=by
 have Og:vs.length<=100:=ZL (Zt C.nd λl hl=>(C.vl l).mp hl) (ZL (aL r.p4) (by have:=(XN r.pl);lia));have hl:∀l∈br [smP a b],l∈vs:=λl h=>(C.vl l).mpr (x_ l h);have hc:Ko [r.R,fL vs (vs.map ψ)]=U (.bl (cG (ev ψ a)&&cG (ev ψ b)),Y):=by rw[hR];exact qj r.ps a b C.nd Og ψ hl
 refine⟨λh=>?_,λh hm=>?_,λh hm=>?_⟩;rw[h]at hc;exact qw Z C.at' hn hc;rw[h]at hc;rw[mK Z C.at' hn hc,ZM hm];rw[h]at hc;obtain⟨n,e,em⟩:=iX r.ps a b C.nd Og ψ hl h;obtain⟨O,f1,f2,f3⟩:=xT (rs:=rs) (by lia) LQ (mv:=[(n,e)]) (by unfold nkM;simp) (by simp);refine⟨[(n,e)],O,.tup [.int (k:Int),fL vs (vs.map ψ),.lst [mvD (n,e)]],U (.tup [.int (k:Int),fL vs (vs.map ψ)],Y),U (fL vs (vs.map ψ),Y),U (aX r.ps a b,Y),U (.lst [mvD (n,e)],Y),f1,f2,?_⟩;have t0:ixO (U (.tup [.int (k:Int),fL vs (vs.map ψ)])) (U (.int 0))=U (.int (k:Int)):=rfl;rw[mK Z C.at' hn hc,ZH hm,hR];simp only[s0,bu,Yy,aaH,em,aam];rw[aad _ _ _ (by simp)];have Uh:Lg [.lst (rs.map Tn),.lst [mvD (n,e)]]=U (.lst (O.map Tn),L):=f3;simp only[VV,aO,aN,aaa,WC,PK,Mk,Uh,aam];rw[aad _ _ _ (by simp)];simp only[VV,aO,aN,aaa,WC,t0,PK];rw[aap _ (by simp),fm (ds:=st) _ (by rfl) (by simp;lia)];rfl
end K63
namespace K63
open PySem L2 JP
variable[Lams]
def pq(h:aW q=U (.ret v Y)):aY dZ aW (n+1) q=U (.ret v Y):=by
 unfold aY;rw[show dZ q=U L from rfl,h]
def sM(h:aW q=U (.next O)):aY dZ aW (n+1) q=aY dZ aW n O:=by
 conv=>lhs;unfold aY
 rw[show dZ q=U L from rfl,h]
def HL(v:D):Prop:=(∃ds,v=.tup (.str "clash"::ds))\/∃(s:Str)(rs:Z9 Row)(st:Z9 D),(s="full"\/s="open")/\rs.length<=20/\v=.tup [.str s,.lst (rs.map Tn),.lst st]
section
variable{ps:Z9 Pat}(h1:ps.length<=1)(h4:∀p∈ps,p.2.length<=4){a b:Te}(x_:∀l,l∈br [smP a b]->l∈br ps)(a0:Z8 (D×Bool))(mo un:Int)
include h1 h4 x_
def lI(F_:rs.length<=20)(LQ:∀q∈rs,q.2.length<=4)(st:Z9 D)(n_:st.length<=1000)(x6 x7 x8 x9:Z8 (D×Bool)):
  ((∃φ:Fit,(∀p∈ps,dC rs φ p)/\ev φ a≠ev φ b/\cG (ev φ a)=L/\cG (ev φ b)=L)->(∀q∈rs,∀n,Ce.bk n∈q.2->0<=n)->∃ds,aW (eF a0 (.lst [aX ps a b]) mo rs st un x6 x7 x8 x9)=U (.ret (.tup (.str "clash"::ds)) Y))/\
  ((∃v,HL v/\aW (eF a0 (.lst [aX ps a b]) mo rs st un x6 x7 x8 x9)=U (.ret v Y))\/
   ¬mo<=st.length/\∃(O:Z9 Row)(t:D)(y6 y7 y8 y9:Z8 (D×Bool)),O.length<=20/\(∀q∈O,q.2.length<=4)/\aW (eF a0 (.lst [aX ps a b]) mo rs st un x6 x7 x8 x9)=U (.next (eF a0 (.lst [aX ps a b]) mo O (st++[t]) un y6 y7 y8 y9))):=by
 obtain⟨r,hR,KJ,Mt,OV⟩:=Ac (rs:=rs) (by lia) h1 h4 x_;have hL:D.lst [aX ps a b]=.lst (([r]:Z9 (RI rs)).map (·.R)):=by rw[Z0,YI,hR]
 have nb:=An (by lia) [r] (by simp);rw[<-hL]at nb;rcases nb with⟨hz,en⟩|⟨k,r',c,vs,ψ,C,en⟩;have Q1:=hz r (.head _);refine⟨λ⟨φ,f1,f2,_⟩=>?_,.inl ⟨_,.inr ⟨"full",rs,st,.inl rfl,F_,rfl⟩,kG en⟩⟩;have:=(OV _).mpr ⟨φ,rfl,f1,f2⟩;rw[Q1]at this;cases this
 .have OK:r'=r:=by
   have h:=C.at';cases k with
   |zero=>simp_all
   |succ k=>simp at h
  subst OK;have hR':r'.R=aX r'.ps a b:=by rw[hR,KJ]
  obtain⟨t1,t2,t3⟩:=vW hL F_ LQ C en hR' (by rw[KJ];exact x_) a0 x6 x7 x8 x9 mo un st n_;refine⟨λ⟨φ,f1,f2,n1,n2⟩ NM=>?_,?_⟩
  .have Mi:(uL [smP a b]).map φ∈r'.fd:=(OV _).mpr ⟨φ,rfl,f1,f2⟩
   have evm:∀(χ:Fit)(t:Te),(t=a\/t=b)->∀n,ev χ t=.bk n->Ce.bk n∈(uL [smP a b]).map χ:=λχ t ht n e=>by
    cases t with
    |nm w=>cases e
    |any l=>
     refine ZZ.mpr ⟨l,(be _ l).mpr (ba.mpr ⟨_,ZD.mpr rfl,?_⟩),e⟩;rcases ht with rfl|rfl;exact ZR ..;cases a with
     |any k=>exact ZY _ (ZR ..)
     |nm w=>exact ZR ..
   have Vn:∀Z:Z9 Ce,(∀n,Ce.bk n∉Z)->bls Z=[]:=λZ=>by
    induction Z with
    |nil=>intro _;rfl
    |cons c Z ih=>
     intro h;cases c with
     |nm w=>exact ih λn hn=>h n (.tail _ hn)
     |bk n=>exact absurd (ZR ..) (h n)
   have Pn:∀(Z:Z9 Ce)(n:Int),n∈bls Z↔Ce.bk n∈Z:=λZ n=>by
    induction Z with
    |nil=>simp[bls]
    |cons c Z ih=>cases c<;>simp[bls,ih]
   have ag:pI ((uL [smP a b]).map φ)= -1:=by
    unfold pI;rw[ZM (Vn _ λn hn=>?_)];obtain⟨l,hl,e⟩:=ZZ.mp hn;have:=CQ ((be _ l).mp hl);rcases this with h|h;rw[h]at n1;rw[show ev φ (.any l)=.bk n from e]at n1;cases n1;rw[h]at n2;rw[show ev φ (.any l)=.bk n from e]at n2;cases n2
   have low:=C.low _ Mi;rw[ag]at low;have hc:bls c=[]:=by
    refine Yu λz=>?_;have e:pI c=eE (bls c):=by unfold pI;rw[ZH z]
    have hb:Ce.bk (eE (bls c))∈r'.dl.map ψ:=by rw[C.eq];exact(Pn _ _).mp (wL z)
    obtain⟨l,hl,el⟩:=ZZ.mp hb;obtain⟨p,hp,V2⟩:=ba.mp (r'.ll l hl);obtain⟨q,hq,_,OL⟩:=C.fit p hp;have:Ce.bk (eE (bls c))∈q.2:=by
     rw[OL];have key:∀ts:Z9 Te,l∈ans ts->Te.any l∈ts:=λts=>by
      induction ts with
      |nil=>intro h;cases h
      |cons t ts ih=>
       intro h;cases t with
       |any k=>
        rcases ZT.mp h with h|h;rw[h];exact .head _;exact .tail _ (ih h)
       |nm w=>exact .tail _ (ih h)
     exact ZZ.mpr ⟨_,key _ V2,el⟩
    have:=NM q hq _ this;rw[e]at low;lia
   have fin:∀t:Te,(t=a\/t=b)->cG (ev ψ t)=L:=λt ht=>by
    cases e:ev ψ t with
    |nm w=>rfl
    |bk n=>
     have:=evm ψ t ht n e;rw[<-Mt,C.eq,<-Pn,hc]at this;cases this
   simp_all
  cases Kr:(cG (ev ψ a)&&cG (ev ψ b))with
  |true=>exact .inl ⟨_,.inl ⟨_,rfl⟩,t1 Kr⟩
  |false=>
   by_cases hm:mo<=st.length;exact .inl ⟨_,.inr ⟨"open",rs,st,.inr rfl,F_,rfl⟩,t2 Kr hm⟩;obtain⟨mv,O,t,y6,y7,y8,y9,q1,q2,e⟩:=t3 Kr hm;refine .inr ⟨hm,O,t,y6,y7,y8,y9,by lia,λq hq=>?_,e⟩;obtain⟨q',K4,rfl⟩:=(q1 q).mp hq;show(q'.2.map (led mv)).length<=4;rw[ZW];exact LQ q' K4
theorem km:∀(m O:Nat)(rs:Z9 Row)(st:Z9 D)(x6 x7 x8 x9:Z8 (D×Bool)),mo<=st.length+m->m<O->rs.length<=20->(∀q∈rs,q.2.length<=4)->st.length+m<=1000->∃v,HL v/\aY dZ aW O (eF a0 (.lst [aX ps a b]) mo rs st un x6 x7 x8 x9)=U (.ret v Y)
 |m,0,rs,st,x6,x7,x8,x9,hm,hf,_,_,_=>absurd hf (Ym _)
 |m,O+1,rs,st,x6,x7,x8,x9,hm,hf,F_,LQ,n_=>by
  rcases(lI h1 h4 x_ a0 mo un F_ LQ st (by lia) x6 x7 x8 x9).2 with⟨v,hv,e⟩|⟨hn,Z,t,y6,y7,y8,y9,q1,q2,e⟩;exact⟨v,hv,pq e⟩;cases m with
  |zero=>exact absurd (by simpa using hm) hn
  |succ m=>
   obtain⟨v,hv,e2⟩:=km m O Z (st++[t]) y6 y7 y8 y9 (by simp;lia) (by lia) q1 q2 (by simp;lia);exact⟨v,hv,by rw[sM e];exact e2⟩
end
theorem vG:∀ls:Z9 Str,ans (ls.map Te.any)=ls
 |[]=>rfl
 |l::ls=>by show l::ans (ls.map Te.any)=_;rw[vG ls]
def yG(φ:Fit)(ls:Z9 Str):(ls.map Te.any).map (ev φ)=ls.map φ:=by rw[Zb];rfl
def eB{S ns:Z9 Str}(h1:S.Nodup)(h2:∀x∈S,x∈ns)(hl:ns.length<=S.length){x:Str}(Z:x∈ns):x∈S:=Yu λz=>by
 have:=Zt (Y8.mpr ⟨z,h1⟩) (λy O=>by
  grind:∀y∈x::S,y∈ns)
 rw[cn]at this;lia
section
variable(one oth h_:Str)(ns:Z9 Str)(R0:Z9 Row)(l0 l4:Str)(lt:Z9 Str)(two:Bool)
noncomputable abbrev bP:Z9 Pat:=[(one,(l0::lt).map Te.any)]
noncomputable abbrev hP:Z9 Pat:=(oth,[.any l0])::(if two=L then[(h_,[.any l0,.any l4])] else[])
structure Dr:Prop where
 n1:one≠oth
 n2:one≠h_
 n3:oth≠h_
 nd:(l0::lt).Nodup
 nl:l4∉l0::lt
 ll:lt.length<=2
 nn:ns.Nodup
 nc:ns.length<=6
 tb:∀q∈R0,q.1=one/\q.2.length=lt.length+1/\∃x∈ns,∃t,q.2=Ce.nm x::t
 al:∀x∈ns,∃q∈R0,∃t,q.2=Ce.nm x::t
 rl:R0.length<=6
structure Iv (S:List Str)(rs:List Row):Prop where
 sn:S.Nodup
 ss:∀x∈S,x∈ns
 sub:∀q∈R0,q∈rs
 i1:∀q∈rs,q.1=one->q∈R0
 i2:∀q∈rs,q.1=oth->∃x∈S,q.2=[Ce.nm x]
 i3:∀x∈S,(oth,[Ce.nm x])∈rs
 i4:two=true->∀x∈S,∃b,(h_,[Ce.nm x,b])∈rs
 i5:∀q∈rs,q.1=one\/q.1=oth\/q.1=h_
 ln:rs.length<=6+2*S.length
variable{one oth h_ ns R0 l0 l4 lt two}
def bP4(h:lt.length<=2):∀p∈bP one l0 lt,p.2.length<=4:=λp hp=>by rw[ZD.mp hp];simp;lia
def uf:(hP oth h_ l0 l4 two).length<=2:=by unfold hP;split<;>simp
def hP4:∀p∈hP oth h_ l0 l4 two,p.2.length<=4:=λp hp=>by
 unfold hP at hp;rcases ZT.mp hp with rfl|hp;simp
 .simp_all
def oO:br (bP one l0 lt)=l0::lt:=by simp only[br,bP,Z0,YI,List.flatten_cons,List.flatten_nil,Yx];exact vG (l0::lt)
def mR:(∀p∈bP one l0 lt,dC rs φ p)↔(one,(l0::lt).map φ)∈rs:=by
 constructor;intro h;obtain⟨q,Z,e1,O⟩:=h _ (ZD.mpr rfl);rw[yG]at O;lia;intro h p hp;rw[ZD.mp hp];exact⟨_,h,rfl,(yG φ (l0::lt)).symm⟩
def mO:(∀p∈hP oth h_ l0 l4 two,dC rs φ p)↔(oth,[φ l0])∈rs/\(two=L->(h_,[φ l0,φ l4])∈rs):=by
 constructor;intro h;refine⟨?_,λO=>?_⟩;obtain⟨q,Z,e1,e2⟩:=h (oth,[.any l0]) (.head _);rw[show(oth,[φ l0])=q from Prod.ext e1.symm e2.symm];exact Z;obtain⟨q,Z,e1,e2⟩:=h (h_,[.any l0,.any l4]) (by unfold hP;rw[ZM O];exact .tail _ (.head _));rw[show(h_,[φ l0,φ l4])=q from Prod.ext e1.symm e2.symm];exact Z;intro ⟨h1,h2⟩ p hp;rcases ZT.mp hp with rfl|hp;exact⟨_,h1,rfl,rfl⟩;split at hp;rename_i O;rw[ZD.mp hp];exact⟨_,h2 O,rfl,rfl⟩;cases hp
def yM(h:l∈br (hP oth h_ l0 l4 two)):l=l0\/l=l4:=by
 rw[ba]at h;obtain⟨p,hp,O⟩:=h;rcases ZT.mp hp with rfl|hp
 .simp_all [ans]
 simp_all [ans]
def zQ(D:Dr one oth h_ ns R0 l0 l4 lt):l∈dlM (bP one l0 lt) (hP oth h_ l0 l4 two)↔l=l0:=by
 unfold dlM;rw[Zi,be,YY,be,oO];constructor
 rintro⟨h1,O⟩
 rcases yM h1 with rfl|rfl;rfl;exact absurd O D.nl
 rintro rfl
 exact⟨ba.mpr ⟨_,.head _,by simp[ans]⟩,.head _⟩
def F3(D:Dr one oth h_ ns R0 l0 l4 lt)(h:φ l0=ψ l0):(dlM (bP one l0 lt) (hP oth h_ l0 l4 two)).map φ=(dlM (bP one l0 lt) (hP oth h_ l0 l4 two)).map ψ:=
 Y4 λl O=>by rw[(zQ D).mp O];exact h
def C4(D:Dr one oth h_ ns R0 l0 l4 lt)(h:(dlM (bP one l0 lt) (hP oth h_ l0 l4 two)).map φ=(dlM (bP one l0 lt) (hP oth h_ l0 l4 two)).map ψ):φ l0=ψ l0:=
 Xu.mp h l0 ((zQ D).mpr rfl)
def Rls(one oth h_ l0 l4:Str)(lt:Z9 Str)(two:Bool)(Z:D)(R0:Z9 Row)(ns:Z9 Str):Prop:=∀S rs,rs.length<=25->Iv one oth h_ ns R0 two S rs->∃(Lq:Z9 (RI rs))(r:RI rs),Z=.lst (Lq.map (·.R))/\Lq.length<=2/\r∈Lq/\(∀O∈Lq,O=r\/O.fd=[])/\r.R=bi (bP one l0 lt) (hP oth h_ l0 l4 two)/\r.ps=bP one l0 lt/\r.dl=dlM (bP one l0 lt) (hP oth h_ l0 l4 two)/\
 ∀x,x∈r.fd↔(∃φ:Fit,x=(dlM (bP one l0 lt) (hP oth h_ l0 l4 two)).map φ/\∀p∈bP one l0 lt,dC rs φ p)/\¬∃φ:Fit,x=(dlM (bP one l0 lt) (hP oth h_ l0 l4 two)).map φ/\∀p∈hP oth h_ l0 l4 two,dC rs φ p
theorem kY(D:Dr one oth h_ ns R0 l0 l4 lt)(Lx:Rls one oth h_ l0 l4 lt two RL R0 ns)(a0:Z8 (L2.D×Bool))(mo:Int):∀(m fuel:Nat)(S:Z9 Str)(rs:Z9 Row)(st:Z9 L2.D)(un:Int)(x6 x7 x8 x9:Z8 (L2.D×Bool)),S.length+m=ns.length->m<fuel->st.length=S.length->(S.length:Int)<=mo->Iv one oth h_ ns R0 two S rs->
  ∃(S':Z9 Str)(OB:Z9 Row)(o_:Z9 L2.D)(s:Str),Iv one oth h_ ns R0 two S' OB/\(s="full"/\S'.length=ns.length\/s="open"/\(S'.length:Int)=mo/\S'.length<ns.length)/\(S'.length:Int)<=mo/\aY dZ aW fuel (eF a0 RL mo rs st un x6 x7 x8 x9)=U (.ret (.tup [.str s,.lst (OB.map Tn),.lst o_]) Y)
 |m,0,S,rs,st,un,x6,x7,x8,x9,hm,hf,_,_,_=>absurd hf (Ym _)
 |m,fuel+1,S,rs,st,un,x6,x7,x8,x9,hm,hf,n_,OP,I=>by
  have hc6:=D.nc;have V3:=I.ln;obtain⟨Lq,r,eL,hLl,VO,Sj,hR,KJ,Mt,OV⟩:=Lx S rs (by lia) I;rcases An (by lia) Lq (by lia)with⟨hz,en⟩|⟨k,r',c,vs,ψ,C,en⟩;rw[<-eL]at en;refine⟨S,rs,st,"full",I,.inl ⟨rfl,?_⟩,OP,pq (kG en)⟩;have Q1:=hz r VO;refine Nat.le_antisymm (Zt I.sn I.ss) (Zt D.nn λx hx=>?_);obtain⟨q,hq,t,eq⟩:=D.al x hx;obtain⟨q1,q2,_⟩:=D.tb q hq;obtain⟨φ,Mi⟩:=ky (kn:=l0::lt) (x:=q.2) D.nd (by rw[q2];rfl);have hb:∀p∈bP one l0 lt,dC rs φ p:=mR.mpr (by rw[<-Mi,<-q1];exact I.sub q hq);have nf:(dlM (bP one l0 lt) (hP oth h_ l0 l4 two)).map φ∉r.fd:=by rw[Q1];exact λz=>nomatch z
  rw[OV]at nf;have hh:∃Qt:Fit,(dlM (bP one l0 lt) (hP oth h_ l0 l4 two)).map φ=(dlM (bP one l0 lt) (hP oth h_ l0 l4 two)).map Qt/\∀p∈hP oth h_ l0 l4 two,dC rs Qt p:=Yu λz=>nf ⟨⟨φ,rfl,hb⟩,z⟩;obtain⟨Qt,e',h'⟩:=hh;have e0:=C4 D e';obtain⟨y,hy,ey⟩:=I.i2 _ (mO.mp h').1 rfl
  simp_all
  .rw[<-eL]at en
   have OK:r'=r:=by
    rcases Sj r' (Zs C.at')with h|h;exact h;have:=C.mem;simp_all
   subst OK;obtain⟨t1,t2⟩:=vt eL (by lia) C en (qs:=hP oth h_ l0 l4 two) (by rw[hR,KJ]) uf hP4 a0 x6 x7 x8 x9 mo un st (by lia);have Kn:=C.fit;rw[KJ]at Kn;have Sh:=mR.mp Kn;obtain⟨_,_,x,hx,t,ext⟩:=D.tb _ (I.i1 _ Sh rfl);have e0:ψ l0=Ce.nm x:=(Yo ext).1;have Z:x∉S:=λZ=>by
    have hc:=(OV c).mp C.mem;refine hc.2 ?_;by_cases ht:two=L;obtain⟨b,hb⟩:=I.i4 ht x Z;refine⟨λl=>if l=l4 then b else ψ l,?_,mO.mpr ⟨?_,λ_=>?_⟩⟩;rw[<-C.eq,Mt];exact F3 D (by rw[ZH λz=>D.nl (by rw[<-z];exact .head _)]);rw[ZH λz=>D.nl (by rw[<-z];exact .head _),e0];exact I.i3 x Z;rw[ZH λz=>D.nl (by rw[<-z];exact .head _),ZM rfl,e0];exact hb;exact⟨ψ,by rw[<-C.eq,Mt],mO.mpr ⟨by rw[e0];exact I.i3 x Z,λz=>absurd z ht⟩⟩
   by_cases TJ:mo<=st.length;refine⟨S,rs,st,"open",I,.inr ⟨rfl,by lia,?_⟩,OP,pq (t1 TJ)⟩;refine Nat.lt_of_le_of_ne (Zt I.sn I.ss) λz=>Z ?_;exact eB I.sn I.ss (by lia) hx
   .obtain⟨χ,OB,tt,QA,y6,y7,y8,y9,Q0,q1,q2,e⟩:=t2 TJ
    have x0:χ l0=Ce.nm x:=by rw[Q0 l0 (by simp[KJ,oO])];exact e0
    have O:∀q,q∈rwF χ (hP oth h_ l0 l4 two)↔q=(oth,[Ce.nm x])\/(two=L/\q=(h_,[Ce.nm x,χ l4])):=λq=>by
     cases two<;>simp[ev,x0]
    have I':Iv one oth h_ ns R0 two (x::S) OB:=by
     refine⟨Y8.mpr ⟨Z,I.sn⟩,λy hy=>?_,λq hq=>(q1 q).mpr (.inl (I.sub q hq)),λq hq e1=>?_,λq hq e1=>?_,λy hy=>?_,λht y hy=>?_,λq hq=>?_,by simp;lia⟩;rcases ZT.mp hy with rfl|hy;exact hx;exact I.ss y hy;rcases(q1 q).mp hq with h|h;exact I.i1 q h e1;rcases(O q).mp h with rfl|⟨_,rfl⟩;exact absurd e1.symm D.n1;exact absurd e1.symm D.n2;rcases(q1 q).mp hq with h|h;obtain⟨y,hy,ey⟩:=I.i2 q h e1;exact⟨y,.tail _ hy,ey⟩;rcases(O q).mp h with rfl|⟨_,rfl⟩;exact⟨x,.head _,rfl⟩;exact absurd e1.symm D.n3;rcases ZT.mp hy with rfl|hy;exact(q1 _).mpr (.inr ((O _).mpr (.inl rfl)));exact(q1 _).mpr (.inl (I.i3 y hy));rcases ZT.mp hy with rfl|hy;exact⟨_,(q1 _).mpr (.inr ((O _).mpr (.inr ⟨ht,rfl⟩)))⟩;obtain⟨b,hb⟩:=I.i4 ht y hy;exact⟨b,(q1 _).mpr (.inl hb)⟩;rcases(q1 q).mp hq with h|h;exact I.i5 q h;rcases(O q).mp h with rfl|⟨_,rfl⟩;exact .inr (.inl rfl);exact .inr (.inr rfl)
    cases m with
    |zero=>
     refine absurd ?_ Z;exact eB I.sn I.ss (by lia) hx
    |succ m=>
     obtain⟨S',RV,o_,s,b1,b2,b3,e2⟩:=kY D Lx a0 mo m fuel (x::S) OB (st++[tt]) QA y6 y7 y8 y9 (by simp;lia) (by lia) (by simp[n_]) (by rw[cn];lia) I';exact⟨S',RV,o_,s,b1,b2,b3,by rw[sM e];exact e2⟩
end
theorem sQ:∀O:Z9 Ce,aU (aB (ae 4) (λq=>eqO (ixO (rd Y 4 q) (U (.int 0))) (U (.str "blank"))) tO [M,M,M,M,M]) (O.map ceD)=U ((bls O).map D.int)
 |[]=>rfl
 |c::O=>by
  rw[Z0];unfold aU;rw[sQ O];have e:aB (ae 4) (λq=>eqO (ixO (rd Y 4 q) (U (.int 0))) (U (.str "blank"))) tO [M,M,M,M,M] (ceD c)=U (match c with|.bk n=>U (.int n)|.nm _=>M):=by
   unfold aB;rw[aae _ _ _ (by simp)];simp only[Mk,aO,aN,aaa,WC,EI];cases c with
   |nm w=>rfl
   |bk n=>rfl
  cases c<;>rfl
theorem vN(a0 x4:Z8 (D×Bool)):∀(rs:Z9 Row)(O:Z9 Int)(x2 x3:Z8 (D×Bool)),(∀q∈rs,q.2.length<=4)->O.length+4*rs.length<=1000->∃(Z:Z9 Int)(y2 y3:Z8 (D×Bool)),Z.length<=O.length+4*rs.length/\
  aA (λd δ=>af ((bd (ao (ae 2) (ao (ae 3) (aak)))) d δ) uM) (rs.map Tn) [a0,U (.lst (O.map D.int),L),x2,x3,x4]=U (.next [a0,U (.lst (Z.map D.int),L),y2,y3,x4])
 |[],O,x2,x3,_,_=>⟨O,x2,x3,by simp,by rfl⟩
 |r::rs,O,x2,x3,h4,hl=>by
  have hr:=h4 r (.head _);have hb:=nJ r.2;rw[cn]at hl;obtain⟨Z,y2,y3,q,e⟩:=vN a0 x4 rs (O++bls r.2) (U (.str r.1,Y)) (U (.tup (r.2.map ceD),Y)) (λq hq=>h4 q (.tail _ hq)) (by simp;lia);refine⟨Z,y2,y3,by simp at q⊢;lia,?_⟩;have er:Tn r=.tup [.str r.1,.tup (r.2.map ceD)]:=rfl;have et:pV (U (.tup (r.2.map ceD)))=U (r.2.map ceD):=rfl;have em:∀a b c d e:Z8 (D×Bool),az Y [Y,Y,Y,Y,Y] [a,b,c,d,e]=[M,M,M,M,M]:=λ_ _ _ _ _=>rfl;rw[Z0,er];unfold aA;simp only[aa3,aaT,aa4,aae,Y6,cn,lF,Mk,aO,aN,Nat.reduceAdd,Nat.reduceLT,uM,aaa,WC,et];rw[aC (by simp;lia),em,sQ,aaf,yH (ds:=O.map D.int) rfl (by simp;lia)]
  simp_all
open L2.G (bQ scD aK cf aV) in
def kR{rs:Z9 Row}(F_:rs.length<=15)(h4:∀q∈rs,q.2.length<=4):∃ns:Z9 Int,Md [.lst (rs.map Tn)]=U (.lst (ns.map D.int),L):=by
 obtain⟨ms,y2,y3,hl,e⟩:=vN (U (.lst (rs.map Tn),Y)) M rs [] M M h4 (by simp;lia);have Z:∀d∈ms.map D.int,∃n,d=.int n:=λd hd=>by grind
 obtain⟨ns,en,_⟩:=pQ (F:=D.int) (l:=bK (bQ (ms.map D.int))) (P:=λ_=>True) λx O=>by
  obtain⟨n,rfl⟩:=Z x ((aK _ _).mp ((ax _).mem_iff.mp O));lia
 have hu:=cf (ms.map D.int);rw[ZW]at hu;simp at hl;have es:aas .it L (U (.lst (ms.map D.int)))=U (.lst (ns.map D.int)):=by
  unfold aas;dsimp only;rw[ZM,en];have hc:bL (ms.map D.int)=L:=by
   unfold bL;rw[Z2];intro x O;obtain⟨a,rfl⟩:=Z x O;rw[ZQ,Z2];refine⟨rfl,λy hy=>?_⟩;obtain⟨b,rfl⟩:=Z y hy;rfl
  have k1:(ms.map D.int).all (dw .it)=L:=Z2.mpr λx O=>by obtain⟨s,rfl⟩:=Z x O;rfl
  have k2:(ms.map D.int).all (bf 8)=L:=Z2.mpr λx O=>by obtain⟨s,rfl⟩:=Z x O;rfl
  have k3:((ms.map D.int).all λd=>scD d==L)=L:=Z2.mpr λx O=>by obtain⟨s,rfl⟩:=Z x O;rfl
  rw[hc,k1,k2,k3,Zx (by lia)];rfl
 refine⟨ns,?_⟩;rw[ak (f:=Md) (d:=[U (.lst (rs.map Tn),Y),M,M,M,M]) rfl rfl rfl];have l0:bg (U [])=U (.lst []):=aan _ (by simp);rw[YI]at e;simp only[Gs,l0];rw[aav _ _ _ (by simp)];simp only[VV,aO,aN,aaa,WC,aah,Mk,e,aaE,aaF,yB,es,abf,aa6]
def eA{rs:Z9 Row}(O:rs.length<=15)(h4:∀q∈rs,q.2.length<=4)(Z:D)(mo:Int):∃un:Int,K_ [.lst (rs.map Tn),Z,.int mo]=pZ (aY dZ aW 1000 (eF (U (.lst (rs.map Tn),Y)) Z mo rs [] un M M M M)):=by
 obtain⟨ns,en⟩:=kR O h4;have l0:bg (U [])=U (.lst []):=aan _ (by simp);have em:lB (U (.lst (ns.map D.int))) (yn (U (.int 1)))=U (.int (if ns=[] then -1 else eE ns)):=by
  unfold lB yn;simp only[dS]
 refine⟨(if ns=[] then -1 else eE ns)+1,?_⟩;rw[ak (f:=K_) (d:=[U (.lst (rs.map Tn),Y),U (Z,Y),U (.int mo,Y),M,M,M,M,M,M,M]) rfl rfl rfl];simp only[Gg,aaa,WC,abb,l0]
 simp_all
def g9{rs:Z9 Row}(Z:rs.length<=25){ps:Z9 Pat}(KJ:ps.length<=2)(h4:∀p∈ps,p.2.length<=4){wanted:Z9 Str}(hw:wanted.length<=100)(Mo:∀l∈wanted,l∈br ps)(OI:Sm ps wanted):∃gs:Z9 (Z9 Ce),gs.Nodup/\(∀x,x∈gs↔∃φ:Fit,x=wanted.map φ/\∀p∈ps,dC rs φ p)/\(gs.map cD).Pairwise leD/\gs.length<=625/\
  Le [.lst (rs.map Tn),.tup [.lst (wanted.map D.str),.lst (ps.map aQ)]]=U (.lst (gs.map cD),L):=by
 obtain⟨fs,n1,m1,ej,hl⟩:=gA (rs:=rs) (by lia) (ps:=ps) (by lia) h4 (kn:=[]) (fd:=[[]]) (by simp) YK (by simp) (by simp) (by simp) (by simp) (λk hk=>by
  simp only[cn,lF,Yh,Nat.one_mul];exact ZL (E1 Z (by lia)) (by decide)) hw Mo OI
 obtain⟨gs,pg,eg⟩:=bE (ax (fs.map cD));have O:=bp (BI fs);rw[eg]at O;refine⟨gs,pg.nodup_iff.mpr n1,λx=>by rw[pg.mem_iff,m1];simp,O,by rw[pg.length_eq];exact ZL hl (by simpa using E1 Z KJ),?_⟩;have t0:ixO (U (.tup [.lst (wanted.map D.str),.lst (ps.map aQ)])) (U (.int 0))=U (.lst (wanted.map D.str)):=rfl;have t1:ixO (U (.tup [.lst (wanted.map D.str),.lst (ps.map aQ)])) (U (.int 1))=U (.lst (ps.map aQ)):=rfl;have e1:Kq [.lst (rs.map Tn),.lst (ps.map aQ),.lst (wanted.map D.str)]=U (.lst (gs.map cD),L):=by
  rw[ak (f:=Kq) (d:=[U (.lst (rs.map Tn),Y),U (.lst (ps.map aQ),Y),U (.lst (wanted.map D.str),Y)]) rfl rfl rfl];simp only[E8,aaa,WC];rw[aan [] (by simp),aap [] (by simp)];simp only[PK];rw[aan _ (by simp)];have ec:cD []=.tup []:=rfl;simp only[Z0,YI,ec]at ej;simp only[PK,Mk,ej,aam,abf,aa6,eg]
 rw[ak (f:=Le) (d:=[U (.lst (rs.map Tn),Y),U (.tup [.lst (wanted.map D.str),.lst (ps.map aQ)],Y)]) rfl rfl rfl];simp only[FQ,aaa,WC,t0,t1,PK,Mk,e1,aam,abf,aa6]
theorem oR:∀c:Z9 Ce,aU (aB (ae 7) (λq=>U L) oV [M,M,M,M,M,M,M,M]) (c.map ceD)=U ((c.map cG).map D.bl)
 |[]=>rfl
 |c::O=>by
  rw[Z0];unfold aU;rw[oR O];have e:aB (ae 7) (λq=>U L) oV [M,M,M,M,M,M,M,M] (ceD c)=U (U (.bl (cG c))):=by
   unfold aB;rw[aae _ _ _ (by simp)];simp only[Mk,aO,aN,aaa,WC,oV,xd,ab2]
  rw[e];rfl
def mZ{O RL q:D}{mo:Int}{s:Str}{rs:Z9 Row}{st:Z9 D}{gs:Z9 (Z9 Ce)}(hs:s="full"\/s="open")(hf:K_ [O,RL,.int mo]=U (.tup [.str s,.lst (rs.map Tn),.lst st],Y))(ha:Le [.lst (rs.map Tn),q]=U (.lst (gs.map cD),L))(hg:gs.length<=625)(hc:∀c∈gs,c.length<=1000):
  v_ [O,RL,q,.int mo]=U (.tup [.str (if s="full" then "sure" else "open"),.lst ((gs.filter λc=>c.all cG).map cD)],Y):=by
 have t0:ixO (U (.tup [.str s,.lst (rs.map Tn),.lst st])) (U (.int 0))=U (.str s):=rfl;have t1:ixO (U (.tup [.str s,.lst (rs.map Tn),.lst st])) (U (.int 1))=U (.lst (rs.map Tn)):=rfl;have ne:s≠"clash":=by rcases hs with rfl|rfl<;>decide +kernel
 have em:∀a b c d e f g h:Z8 (D×Bool),az Y [Y,Y,Y,Y,Y,Y,Y,Y] [a,b,c,d,e,f,g,h]=[M,M,M,M,M,M,M,M]:=λ_ _ _ _ _ _ _ _=>rfl;rw[ak (f:=v_) (d:=[U (O,Y),U (RL,Y),U (q,Y),U (.int mo,Y),M,M,M,M]) rfl rfl rfl];simp only[ES,aaa,WC,PK,Mk,hf,aao];rw[aad _ _ _ (by simp)];simp only[VV,aO,aN,aaa,WC,t0,t1,bu,ne,Yp,aaD,aal,PK,Mk,ha,aam,aah];rw[aC (by simp;lia),em,cB (f:=cD) (h:=cD) (p:=λc=>c.all cG) λc Z=>by
  unfold aB;rw[aae _ _ _ (by simp)];have et:pV (U (cD c))=U (c.map ceD):=rfl;have ea:Dh (U (.lst ((c.map cG).map D.bl)))=U (.bl (c.all cG)):=by
   unfold Dh;simp only[om];rw[List.all_map];rfl
  simp only[Mk,aO,aN,aaa,WC,et];rw[aC (by rw[ZW,aaA];have:=hc c Z;lia),em,oR,aaf,ea,aby];cases c.all cG<;>rfl]
 rw[aaf,aav _ _ _ (by simp)];simp only[VV,aO,aN,aaE,aaF,yL,aaa,WC,t0,bu];by_cases h:s="full";rw[ZM h,Zx h];rfl;rw[ZH h,Zu h];rfl
def hV(Z:K_ [rows,RL,.int mo]=U (.tup (.str "clash"::ds),Y)):v_ [rows,RL,q,.int mo]=U (.tup [.str "clash"],Y):=by
 have O:ixO (U (.tup (.str "clash"::ds))) (U (.int 0))=U (.str "clash"):=by rw[abE,EW]
 rw[ak (f:=v_) (d:=[U (rows,Y),U (RL,Y),U (q,Y),U (.int mo,Y),M,M,M,M]) rfl rfl rfl];simp only[ES,aaa,WC,PK,Mk,Z,aao];simp[VV,aO,aN,aaa,WC,O,bu,Yy,aaH,PK]
noncomputable def mx(c k:Int):Int:=((c%2147483647+40503*k*k+17*k)*48271%2147483647)*((c%2147483647+40503*k*k+17*k)*48271%2147483647%65537+3*k+1)%2147483629
def yk(c k:Int):0<=mx c k:=by exact WI _ (by decide)
def bW(c k:Int)(O:0<=k)(h1:k<=1000):u_ [.int c,.int k]=U (.int (mx c k),Y):=by
 rw[ak (f:=u_) (d:=[U (.int c,Y),U (.int k,Y),M]) rfl rfl rfl];simp only[Fw,aaa,WC];rw[aat _ _ (by decide),aa0 40503 k (by lia),aa0 (40503*k) k (by lia),aaG,aa0 17 k (by lia),aaG,aa0 _ 48271 (by lia),aat _ _ (by decide),aad _ _ _ (by simp)];simp only[VV,aO,aN,aaa,WC];rw[aat _ _ (by decide),aa0 3 k (by lia),aaG,aaG,aa0 _ _ (.inl (by lia)),aat _ _ (by decide)];rfl
def C6:∀n:Nat,n<26->fE (U (.str "abcdefghijklmnopqrstuvwxyz")) (U (.int n))=U (.str ⟨#[97+n]⟩):=by decide +kernel
def fR(a b:Str):(a++b).cps.toList=a.cps.toList++b.cps.toList:=XE
def BJ{a b:Str}{x y:Nat}(h:a++⟨#[x]⟩++b=a++⟨#[y]⟩++b):x=y:=by
 have:=congrArg (λs:Str=>s.cps.toList) h;simp only[fR,Xr]at this
 simp_all
def o7(c m:Int)(hm0:1<=m)(hm:m<=20):∃ws:Z9 Str,ws.length=m.toNat/\ws.Nodup/\(∀w∈ws,w.length<=20)/\KC [.int c,.int m]=U (.lst (ws.map .str),L):=by
 generalize hsz:1+c%8=sz;have O:∀i:Int,0<=i->i<26->fE (U (.str "abcdefghijklmnopqrstuvwxyz")) (U (.int i))=U (.str ⟨#[97+i.toNat]⟩):=λi h0 h1=>by
  have:=C6 i.toNat (by lia)
  rwa[Wp h0]at this
 obtain⟨g,eg,gl,gp⟩:=oS (ds:=iA 0 sz.toNat) (P:=λ_ y=>∃x:Str,x.length=1/\y=.str x)
  (h:=aB (ae 6) (λq=>U L) rS [U (.int c,Y),M,U (.str "abcdefghijklmnopqrstuvwxyz",Y),M,M,M,M]) λd hd=>by
   obtain⟨i,hi,rfl⟩:=wR hd;have ex:=O (mx c (0+(i:Int))%26) (by lia) (by lia);refine⟨.str ⟨#[97+(mx c (0+(i:Int))%26).toNat]⟩,?_,⟨#[97+(mx c (0+(i:Int))%26).toNat]⟩,rfl,rfl⟩;unfold aB;rw[aae _ _ _ (by simp)];simp only[Mk,aO,aN,aaa,WC,rS,PK,bW c (0+(i:Int)) (by lia) (by lia),aao];rw[aat _ _ (by decide),ex]
 obtain⟨ss,rfl,Ts⟩:=A9 (Q:=λx=>x.length=1) gl gp λd y hz=>by obtain⟨x,hx,e⟩:=hz;exact⟨x,e,hx⟩
 rw[cw,ZW]at gl;have hj:=Bk "" ss (by rw[oN Ts,show Str.length ""=0 by rfl];lia);have Wb:(Txt.join "" ss).length=ss.length:=by rw[vU,oN Ts]
 generalize Txt.join "" ss=Kl at hj Wb;generalize Ot:mx c 19%(Kl.length:Int)=at';have c1:=fz Kl M (U at');have c2:=fz Kl (U (at'+1)) M;have D_:lim=1000000:=rfl;have Z:aU (aB (ae 6) (λq=>U L) vm [M,M,U (.str "abcdefghijklmnopqrstuvwxyz",Y),U (.str Kl,Y),U (.int at',Y),U (.int (mx c 20),Y),M]) (iA 0 m.toNat)=U (((List.range m.toNat).map λk=>jr Kl M (U at')++⟨#[97+((mx c 20+(0+(k:Int)))%26).toNat]⟩++jr Kl (U (at'+1)) M).map D.str):=by
  unfold iA;rw[aR (f:=λk:Nat=>D.int (0+(k:Int))) (h:=λk=>.str (jr Kl M (U at')++⟨#[97+((mx c 20+(0+(k:Int)))%26).toNat]⟩++jr Kl (U (at'+1)) M)) λk _=>by
   unfold aB;rw[aae _ _ _ (by simp)];simp only[Mk,aO,aN,aaa,WC,vm,aa5,aaG];rw[abc _ _ _ (by lia),abc _ _ _ (by lia),aat _ _ (by decide),O _ (by lia) (by lia),abw _ _ (by show _+1<=_;lia),abw _ _ (by rw[Xl];show _+1+_<=_;lia)]]
  rw[Zb];rfl
 refine⟨(List.range m.toNat).map λk=>jr Kl M (U at')++⟨#[97+((mx c 20+(0+(k:Int)))%26).toNat]⟩++jr Kl (U (at'+1)) M,by simp,?_,?_,?_⟩;refine Yz.mpr (List.Pairwise.imp_of_mem (R:=λa b=>a<b) (λ{a b} ha hb x_ e=>?_) WN);have:=BJ e;have Oq:=Zk.mp hb;lia;intro w hw;obtain⟨k,_,rfl⟩:=ZZ.mp hw;rw[Xl,Xl];show _+1+_<=20;lia;rw[ak (f:=KC) (d:=[U (.int c,Y),U (.int m,Y),M,M,M,M,M]) rfl rfl rfl];have RF:∀(a d e f g:Z8 (D×Bool))(x y:D),az Y [L,Y,L,Y,Y,Y,Y] [U (x,Y),a,U (y,Y),d,e,f,g]=[U (x,Y),M,U (y,Y),M,M,M,M]:=λ_ _ _ _ _ _ _=>rfl;have Nz:∀(a b g:Z8 (D×Bool))(x y z w:D),az Y [Y,Y,L,L,L,L,Y] [a,b,U (x,Y),U (y,Y),U (z,Y),U (w,Y),g]=[M,M,U (x,Y),U (y,Y),U (z,Y),U (w,Y),M]:=λ_ _ _ _ _ _ _=>rfl;simp only[GB];rw[aad _ _ _ (by simp)];simp only[VV,aO,aN,aaa,WC];rw[aat _ _ (by decide),aaG,hsz,gP sz (by lia),Mk,aC (by rw[cw,aaA];lia),RF,eg,aaf,hj,aad _ _ _ (by simp)];simp only[VV,aO,aN,aaa,WC,PK,Mk,bW c 19 (by lia) (by lia),aao];rw[acp _ (by lia),aat _ _ (by lia),Ot,aad _ _ _ (by simp)];simp only[VV,aO,aN,aaa,WC,PK,Mk,bW c 20 (by lia) (by lia),aao];rw[aad _ _ _ (by simp)];simp only[VV,aO,aN,aaa,WC];rw[gP m (by lia),Mk,aC (by rw[cw,aaA];lia),Nz,Z,aaf];rfl
def E6(c:Ce):Prop:=∀n,c=.bk n->0<=n
def xx(hn:ns≠[])(hu:nu≠[])(hp:∀n∈nu,0<=n)(k:Int)(hk:0<=k):∃e:Ce,E6 e/\L5 [.int k,.lst (ns.map D.str),.lst (nu.map D.int)]=U (ceD e,Y):=by
 have l1:=X2.mpr hn;have l2:=X2.mpr hu;have a0:(0:Int)<=k / 2%(ns.length:Int):=WI _ (by lia);have a1:k / 2%(ns.length:Int)<ns.length:=Int.emod_lt_of_pos _ (by lia);have b0:(0:Int)<=k / 2%(nu.length:Int):=WI _ (by lia);have b1:k / 2%(nu.length:Int)<nu.length:=Int.emod_lt_of_pos _ (by lia);obtain⟨w,ew⟩:=EC (ws:=ns) a0 a1;obtain⟨v,O,_,ev⟩:=zn (xs:=nu.map D.int) b0 (by simpa using b1);obtain⟨n,Z,rfl⟩:=ZZ.mp O;rw[ak (f:=L5) (d:=[U (.int k,Y),U (.lst (ns.map D.str),Y),U (.lst (nu.map D.int),Y)]) rfl rfl rfl];simp only[Fy,aaa,WC,aaI,ZW];rw[aat _ _ (by decide),abh _ _ (by lia),aat _ _ (by lia),aaZ,ev,aaM];by_cases h:k%2=1;exact⟨.bk n,λm e=>by simp_all,by simp only[h,Yy,aaH];rfl⟩;refine⟨.nm w,(λm e=>by cases e),?_⟩;simp only[h,Yp,aaD,aal,VV,aaa,WC,aaI,ZW];rw[abh _ _ (by lia),aat _ _ (by lia),aaZ,ew];rfl
def Bl(xs:Z9 D)(x:D)(O:xs.length<=1000):atI (xs++[x]) (-1)=U x:=by
 unfold atI ixN;rw[ZH (by decide),ZM (by simp;lia),YX,List.length_singleton,show(-1+((xs.length+1:Nat):Int)).toNat=xs.length by lia];simp
def yV(r q:Row):neO (U (Tn r)) (U (Tn q))=U (!decide (r=q)):=by
 rw[BD _ _ (by unfold ok2;rw[nR r 13,nR q 13];rfl)];congr 2;exact Yd.mpr ⟨jn,λh=>by rw[h]⟩
theorem uU(a0:Z8 (D×Bool)):∀(qs fs:Z9 Row)(x2:Z8 (D×Bool)),fs.length+qs.length<=100->∃(O:Z9 Row)(y2:Z8 (D×Bool)),(∀r,r∈O↔r∈fs\/r∈qs)/\O.length<=fs.length+qs.length/\
  aA (λd δ=>af ((ae 2) d δ) fH) (qs.map Tn) [a0,U (.lst (fs.map Tn),L),x2]=U (.next [a0,U (.lst (O.map Tn),L),y2])
 |[],fs,x2,_=>⟨fs,x2,λr=>by simp,by simp,by simp[aA]⟩
 |q::qs,fs,x2,hl=>by
  rw[cn]at hl;have r1:∀x2:Z8 (D×Bool),rd L 1 [a0,U (.lst (fs.map Tn),L),x2]=U (.lst (fs.map Tn)):=λ_=>rfl;have go:∀O8:Z9 Row,(∀r,r∈O8↔r∈fs\/r=q)->O8.length<=fs.length+1->af ((ae 2) (Tn q) [a0,U (.lst (fs.map Tn),L),x2]) fH=U (.next [a0,U (.lst (O8.map Tn),L),U (Tn q,Y)])->∃(O:Z9 Row)(y2:Z8 (D×Bool)),(∀r,r∈O↔r∈fs\/r∈q::qs)/\O.length<=fs.length+(q::qs).length/\
    aA (λd δ=>af ((ae 2) d δ) fH) ((q::qs).map Tn) [a0,U (.lst (fs.map Tn),L),x2]=U (.next [a0,U (.lst (O.map Tn),L),y2]):=λO8 h1 h2 e=>by
   obtain⟨O,y2,g1,g2,e2⟩:=uU a0 qs O8 (U (Tn q,Y)) (by lia);refine⟨O,y2,λr=>by rw[g1,h1,ZT,or_assoc],by rw[cn];lia,?_⟩;rw[Z0];unfold aA;rw[e];exact e2
  have ap:kO 1 (U (Tn q)) [a0,U (.lst (fs.map Tn),L),U (Tn q,Y)]=U (.next [a0,U (.lst ((fs++[q]).map Tn),L),U (Tn q,Y)]):=by
   rw[fm (ds:=fs.map Tn) _ rfl (by rw[ZW,aaA];lia)];simp
  have ng:yn (U (.int 1))=U (.int (-1)):=rfl;rcases List.eq_nil_or_concat fs with rfl|⟨f0,l,rfl⟩;refine go [q] (λr=>by simp) (by simp) ?_;rw[aae _ _ _ (by simp)];simp only[Mk,aO,aN,fH,aaa,WC,abt,aaI,YI,lF,aaM];simpa using ap;rw[List.concat_eq_append]at*;have p_:eqO (U (.int (((f0++[l]).map Tn).length:Int))) (U (.int 0))=U Y:=by
   rw[aaM,Zu (by simp;lia)]
  have Z:atI ((f0++[l]).map Tn) (-1)=U (Tn l):=by
   rw[Y7];exact Bl (f0.map Tn) (Tn l) (by simp at hl⊢;lia)
  by_cases h:l=q;subst h;refine go (f0++[l]) (λr=>?_) (by lia) ?_;constructor;exact .inl
  rintro(h1|h1)
  exact h1;rw[h1];simp;rw[aae _ _ _ (by simp)];simp only[Mk,aO,aN,fH,aaa,WC,abt,aaI,p_,ng,aaZ,Z,yV,Yy,XQ,ab1,aaD,aal];refine go (f0++[l]++[q]) (λr=>by simp[or_assoc]) (by simp) ?_;rw[aae _ _ _ (by simp)];simp only[Mk,aO,aN,fH,aaa,WC,abt,aaI,p_,ng,aaZ,Z,yV,h,Yp,Xo,ab1,aaH];exact ap
def xu(rs:Z9 Row)(h:rs.length<=60):∃fs:Z9 Row,(∀r,r∈fs↔r∈rs)/\fs.length<=rs.length/\L4 [.lst (rs.map Tn)]=U (.lst (fs.map Tn),L):=by
 obtain⟨ss,O,es⟩:=bE (ax (rs.map Tn));have Oh:=O.length_eq;obtain⟨fs,y2,h1,h2,h3⟩:=uU (U (.lst (rs.map Tn),Y)) ss [] M (by simp;lia);refine⟨fs,λr=>by rw[h1,<-O.mem_iff];simp,by simp at h2;lia,?_⟩;rw[ak (f:=L4) (d:=[U (.lst (rs.map Tn),Y),M,M]) rfl rfl rfl];have Z:dh .ts (U (.lst (rs.map Tn)))=U (.lst (ss.map Tn)):=by
  rw[fA (by rw[ZW];lia) (pw rs) (.inr (tK rs)),es]
 simp only[Gf,WC];rw[aan [] (by simp),aav _ _ _ (by simp)];simp only[VV,aO,aN,WC,Z,aah,Mk];rw[YI]at h3;rw[h3];simp only[VV,abN,abO,abf,aa6]
noncomputable abbrev eR(c:Int)(one:Str)(ns:Z9 Str)(Z:Int)(O:Z9 Int)(T:Z9 Row)(x6 x7:Z8 (D×Bool)):iv:=[U (.int c,Y),U (.str one,Y),U (.lst (ns.map D.str),Y),U (.int Z,Y),U (.lst (O.map D.int),Y),U (.lst (T.map Tn),L),x6,x7]
theorem hY(hn:ns≠[])(hu:nu≠[])(hp:∀n∈nu,0<=n)(c:Int)(one:Str)(ma k:Int)(k0:0<=k)(k1:k<=10)(Rb:ma<=3)(T:Z9 Row):∀(m Z:Nat)(O:Z9 Ce),(O.length:Int)+m=ma->m<Z->∃ds:Z9 Ce,ds.length=m/\(∀e∈ds,E6 e)/\
  aY gh fO Z (eR c one ns ma nu T (U (.int k,Y)) (U (.lst (O.map ceD),L)))=U (.next (eR c one ns ma nu T (U (.int k,Y)) (U (.lst ((O++ds).map ceD),L))))
 |m,0,O,_,hf=>absurd hf (Ym _)
 |m,Z+1,O,hm,hf=>by
  have r7:∀x:D,rd L 7 (eR c one ns ma nu T (U (.int k,Y)) (U (x,L)))=U x:=λ_=>rfl;have r3:∀x:D,rY 3 (eR c one ns ma nu T (U (.int k,Y)) (U (x,L)))=U (.int ma):=λ_=>rfl;have ht:gh (eR c one ns ma nu T (U (.int k,Y)) (U (.lst (O.map ceD),L)))=U (decide ((O.length:Int)<ma)):=by
   unfold gh;rw[r7,r3,aaI,acs,ZW]
  conv=>arg 1;ext ds;rhs;rhs;lhs;unfold aY
  rw[ht];cases m with
  |zero=>
   rw[Zu (by lia)];exact⟨[],rfl,(λe he=>nomatch he),by simp⟩
  |succ m=>
   rw[Zx (by lia)];have h0:=yk c (40+3*k+(O.length:Int));obtain⟨e,he,ee⟩:=xx hn hu hp _ h0;obtain⟨ds,d1,d2,e2⟩:=hY hn hu hp c one ma k k0 k1 Rb T m Z (O++[e]) (by simp;lia) (by lia);refine⟨e::ds,by simp[d1],λx hx=>?_,?_⟩
   .grind
   .have eb:fO (eR c one ns ma nu T (U (.int k,Y)) (U (.lst (O.map ceD),L)))=U (.next (eR c one ns ma nu T (U (.int k,Y)) (U (.lst ((O++[e]).map ceD),L)))):=by
     simp only[fO,r7,aaI,ZW];simp only[aaa,WC,aa0 3 k (by lia),aaG,PK,Mk,bW c (40+3*k+(O.length:Int)) (by lia) (by lia),aao,ee];rw[fm (ds:=O.map ceD) _ rfl (by simp;lia)];simp
    rw[eb];rw[show O++e::ds=O++[e]++ds by simp];exact e2
def BP(hn:ns≠[])(OO:ns.length<=6)(c:Int)(one:Str)(O:Int)(m1:1<=O)(m3:O<=3):∃R0:Z9 Row,(∀q∈R0,q.1=one/\(q.2.length:Int)=O/\(∀e∈q.2,E6 e)/\∃x∈ns,∃t,q.2=Ce.nm x::t)/\(∀x∈ns,∃q∈R0,∃t,q.2=Ce.nm x::t)/\R0.length<=6/\
  Kx [.int c,.str one,.lst (ns.map D.str),.int O]=U (.lst (R0.map Tn),L):=by
 have en:aU (aB (ae 6) (λδ=>U L) lS [U (.int c,Y),M,M,M,M,M,M,M]) (iA 0 3)=U (((List.range 3).map λk:Nat=>mx c 30%999000+7*(0+(k:Int))).map D.int):=by
  unfold iA;rw[aR (f:=λk:Nat=>D.int (0+(k:Int))) (h:=λk=>.int (mx c 30%999000+7*(0+(k:Int)))) λk hk=>by
   unfold aB;rw[aae _ _ _ (by simp)];simp only[Mk,aO,aN,aaa,WC,lS,PK,bW c 30 (by lia) (by lia),aao];rfl]
  rw[Zb];rfl
 have TC:((List.range 3).map λk:Nat=>mx c 30%999000+7*(0+(k:Int)))≠[]:=by simp
 have TF:∀n∈(List.range 3).map λk:Nat=>mx c 30%999000+7*(0+(k:Int)),0<=n:=λn h=>by
  obtain⟨k,_,rfl⟩:=ZZ.mp h;lia
 generalize (List.range 3).map (λk:Nat=>mx c 30%999000+7*(0+(k:Int)))=nu at en TC TF;obtain⟨B_,el,T,t1,t2,t3,x6,x7,rfl⟩:=kB (body:=λd δ=>af ((ae 6) d δ) i9) (λpre δ=>∃T:Z9 Row,T.length=pre.length/\(∀q∈T,q.1=one/\(q.2.length:Int)=O/\(∀e∈q.2,E6 e)/\∃x∈ns,∃t,q.2=Ce.nm x::t)/\(∀i,i<pre.length->∀x,ns[i]?=U x->∃q∈T,∃t,q.2=Ce.nm x::t)/\∃x6 x7,
   δ=eR c one ns O nu T x6 x7) (iA 0 ns.length) [] (eR c one ns O nu [] M M) ⟨[],rfl,(λq hq=>nomatch hq),(λi hi=>absurd hi (Ym _)),M,M,rfl⟩
  λp d q δ Z hz=>by
   obtain⟨T,t1,t2,t3,x6,x7,rfl⟩:=hz;have hp:p.length<ns.length:=by
    have:=congrArg List.length Z;rw[List.nil_append,cw]at this;simp at this;lia
   have hd:d=.int (p.length:Int):=by
    have e:(iA 0 ns.length)[p.length]?=U d:=by rw[List.nil_append]at Z;rw[<-Z];simp
    unfold iA at e;rw[Zg,List.getElem?_range hp]at e;simp at e;exact e.symm
   subst hd;have ea:atI (ns.map D.str) (p.length:Int)=U (.str ns[p.length]):=kH (by lia) (by simp[hp]);obtain⟨ds,d1,d2,ew⟩:=hY hn TC TF c one O p.length (by lia) (by lia) m3 T (O - 1).toNat 1000 [.nm ns[p.length]] (by simp;lia) (by lia);refine⟨_,.inl ?_,T++[(one,.nm ns[p.length]::ds)],by simp[t1],λr hr=>?_,λi hi x hx=>?_,U (.int (p.length:Int),Y),U (.lst ((Ce.nm ns[p.length]::ds).map ceD),Y),rfl⟩;rw[aae _ _ _ (by simp)];simp only[Mk,aO,aN,i9,aaa,WC,aaZ,ea,PK];rw[aap _ (by simp)];simp only[PK];rw[aan _ (by simp),aav _ _ _ (by simp)];simp only[VV,aO,aN];have ew':aY gh fO 1000 [U (.int c,Y),U (.str one,Y),U (.lst (ns.map D.str),Y),U (.int O,Y),U (.lst (nu.map D.int),Y),U (.lst (T.map Tn),L),U (.int (p.length:Int),Y),U (.lst [.tup [.str "name",.str ns[p.length]]],L)]=_:=ew;rw[ew'];simp only[VV,aaE,aaF,si,aaa,WC,abz,PK];rw[aap _ (by simp),fm (ds:=T.map Tn) _ rfl (by simp;lia)];simp[Tn];rcases Zc.mp hr with h|h;exact t2 r h;rw[ZD.mp h];refine⟨rfl,by simp;lia,λe he=>?_,ns[p.length],YF hp,ds,rfl⟩;rcases ZT.mp he with rfl|he;intro n hn;cases hn
   simp_all
   rcases WO i p.length with h|h;obtain⟨r,hr,z⟩:=t3 i h x hx;exact⟨r,Y2 _ hr,z⟩;have:i=p.length:=by simp at hi;lia
   simp_all
 rw[List.nil_append,cw]at t1 t3;obtain⟨R0,f1,f2,f3⟩:=xu T (by lia);refine⟨R0,λq hq=>t2 q ((f1 q).mp hq),λx hx=>?_,by lia,?_⟩;obtain⟨i,hi,e⟩:=Y_.mp hx;obtain⟨q,hq,z⟩:=t3 i hi x (by simp_all);exact⟨q,(f1 q).mpr hq,z⟩;rw[ak (f:=Kx) (d:=[U (.int c,Y),U (.str one,Y),U (.lst (ns.map D.str),Y),U (.int O,Y),M,M,M,M]) rfl rfl rfl];have em:∀(a b d e f g h:Z8 (D×Bool))(x:D),az Y [L,Y,Y,Y,Y,Y,Y,Y] [U (x,Y),a,b,d,e,f,g,h]=[U (x,Y),M,M,M,M,M,M,M]:=λ_ _ _ _ _ _ _ _=>rfl;have flr:flO (U (.lst (R0.map Tn),L))=U (.lst (R0.map Tn)):=by
  unfold flO;dsimp only;rw[ZM];rw[D.aax,Z2];intro d hd;obtain⟨q,_,rfl⟩:=ZZ.mp hd;show D.aay [.str q.1,.tup (q.2.map ceD)]=L;simp only[D.aay,D.flat,X3,YC];rw[D.aax,Z2];intro x hx;obtain⟨e,_,rfl⟩:=ZZ.mp hx;exact uC e
 simp only[Av];rw[gP 3 (by lia),Mk,aC (by trivial),em,show(3:Int).toNat=3 from rfl,en,aaf,aav _ _ _ (by simp)];simp only[VV,aO,aN,aaE,aaF,u6];rw[aan [] (by simp),aav _ _ _ (by simp)];simp only[VV,aO,aN,aaa,WC,aaI,ZW];rw[gP _ (by lia),Mk,Int.toNat_natCast];have el':aA (λd δ=>af ((ae 6) d δ) i9) (iA 0 ns.length) [U (.int c,Y),U (.str one,Y),U (.lst (ns.map D.str),Y),U (.int O,Y),U (.lst (nu.map D.int),Y),U (.lst [],L),M,M]=_:=el
 simp_all
noncomputable def lq(f k:Nat):Str:=⟨#[65+f+k]⟩
def DC:∀f:Nat,f<21->∀k:Nat,k<5->fE (fo (U (.str "ABCDEFGHIJKLMNOPQRSTUVWXYZ")) (dk (U (.int f))) (dk (U (.int (f+5))))) (U (.int k))=U (.str (lq f k)):=by decide +kernel
def zy(h:lq f i=lq f j):i=j:=by
 have:=congrArg (λs:Str=>s.cps.toList) h;simp[lq]at this;lia
noncomputable abbrev ltf(f n:Nat):Z9 Str:=(List.range n).map λk=>lq f (k+1)
def As(f n:Nat):(List.range (n+1)).map (lq f)=lq f 0::ltf f n:=by
 rw[List.range_succ_eq_map,Z0,Zb];rfl
def Eh(f n:Nat):(lq f 0::ltf f n).Nodup:=by
 rw[<-As];exact Yz.mpr (List.Pairwise.imp (λh e=>absurd (zy e) (ZA h)) WN)
def GH(hn:n<=2):lq f 4∉lq f 0::ltf f n:=by
 rw[<-As];intro h;obtain⟨k,O,e⟩:=ZZ.mp h;have:=zy e;have:=Zk.mp O;lia
section
variable{f n:Nat}(hn:n<=2){la:Str}(Ls:∀k:Nat,k<5->fE (U (.str la)) (U (.int k))=U (.str (lq f k)))
include hn Ls
omit Ls in
def pA(O:ti<dl.length)(he:∀k:Nat,k<5->e (dl.set ti (U (.int (0+(k:Int)),Y)))=U (teD (.any (lq f k)))):aU (aB (ae ti) (λq=>U L) e dl) (iA 0 (n+1))=U (((lq f 0::ltf f n).map Te.any).map teD):=by
 unfold iA;rw[aR (f:=λk:Nat=>D.int (0+(k:Int))) (h:=λk=>teD (.any (lq f k))) λk Z=>by
  have:=Zk.mp Z;unfold aB;rw[aae _ _ _ O];simp only[Mk];rw[he k (by lia)]]
 rw[<-As,Zb,Zb];rfl
def BR(c:Int)(one oth:Str)(ho:oth.length<=100):Kw [.int c,.str one,.str oth,.int (n+1:Nat),.str la]=U (bi (bP one (lq f 0) (ltf f n)) (hP oth (oth++"x") (lq f 0) (lq f 4) (decide (c%2=1))),Y):=by
 have c1:=pA hn (ti:=7) (e:=mw) (dl:=[M,M,M,M,U (.str la,Y),M,M,M]) (by simp) λk hk=>by
  have:=Ls k hk;rw[show(k:Int)=0+(k:Int) by lia]at this;simp only[aO,aN,mw,aaa,WC,this,PK];rfl
 have O:=Ls 0 (by lia);have h4:=Ls 4 (by lia);rw[show((0:Nat):Int)=0 from rfl]at O;rw[show((4:Nat):Int)=4 from rfl]at h4;have em:∀(a b c d e g h:Z8 (D×Bool))(x:D),az Y [Y,Y,Y,Y,L,Y,Y,Y] [a,b,c,d,U (x,Y),e,g,h]=[M,M,M,M,U (x,Y),M,M,M]:=λ_ _ _ _ _ _ _ _=>rfl;have Z:∀l:Str,aJ (U [.str "any",.str l])=U (teD (.any l)):=λl=>aap _ (by simp);rw[ak (f:=Kw) (d:=[U (.int c,Y),U (.str one,Y),U (.str oth,Y),U (.int (n+1:Nat),Y),U (.str la,Y),M,M,M]) rfl rfl rfl];simp only[Ad,aaa,WC];rw[gP _ (by lia),Mk,Int.toNat_natCast,aC (by rw[cw,aaA];lia),em,c1,aaf,abz];simp only[PK];rw[aap _ (by simp)];simp only[PK];rw[aan _ (by simp),aad _ _ _ (by simp)];simp only[VV,aO,aN,aaa,WC,O,PK,Z];rw[aap _ (by simp)];simp only[PK];rw[aap _ (by simp)];simp only[PK];rw[aan _ (by simp),aad _ _ _ (by simp)];simp only[VV,aO,aN,aaa,WC,O,h4,PK,Z];rw[aat _ _ (by decide),aaM];by_cases h:c%2=1;simp only[h,Yy,aaH];rw[abw _ _ (by rw[show Str.length "x"=1 by rfl,aaA];lia),aap _ (by simp)];rfl;simp only[h,Yp,aaD,aal,VV,aaa,WC,PK];rfl
end
def Fj(h:leD (.str x) (.str y)):leD (cD [.nm x]) (cD [.nm y]):=by
 intro z;refine h ?_;have e:ltD 15 (cD [.nm y]) (cD [.nm x])=ca (ltD 14) [ceD (.nm y)] [ceD (.nm x)]:=rfl;rw[e]at z;unfold ca at z;split at z;trivial;rename_i ne;have O:ltD 14 (ceD (.nm y)) (ceD (.nm x))=ca (ltD 13) [.str "name",.str y] [.str "name",.str x]:=rfl;rw[O]at z;unfold ca at z;rw[ZM rfl]at z;unfold ca at z;rw[ZH λe=>ne (by rw[D.str.inj e])]at z;exact z
def yK(h6:ns.length<=6)(hn:ns.Nodup):∃ys:Z9 Str,ys.Perm ns/\dh .st (U (.lst (ns.map D.str)))=U (.lst (ys.map D.str))/\∀{gs:Z9 (Z9 Ce)}{S:Z9 Str},gs.Nodup->(gs.map cD).Pairwise leD->(∀c,c∈gs↔∃x∈S,c=[.nm x])->(∀x∈S,x∈ns)->(ys.filter λx=>decide (x∈S)).map (λx=>cD [.nm x])=gs.map cD:=by
 have hc:bL (ns.map D.str)=L:=by
  unfold bL;rw[Z2];intro x hx;obtain⟨a,_,rfl⟩:=ZZ.mp hx;rw[ZQ,Z2];refine⟨rfl,λy hy=>?_⟩;obtain⟨b,_,rfl⟩:=ZZ.mp hy;rfl
 obtain⟨ys,py,ey⟩:=bE (ax (ns.map D.str));have O:=bp hc;rw[ey]at O;refine⟨ys,py,by rw[fA (by simp;lia) hc (.inr (Z2.mpr λx hx=>by obtain⟨q,_,rfl⟩:=ZZ.mp hx;rfl)),ey],λ{gs S} g1 g2 g3 g4=>?_⟩;have Z:(ys.filter λx=>decide (x∈S)).Nodup:=(py.nodup_iff.mpr hn).filter _;have perm:((ys.filter λx=>decide (x∈S)).map λx=>[Ce.nm x]).Perm gs:=by
  refine(YA (Yz.mpr (Z.imp λh e=>h (by lia))) g1).mpr λc=>?_;rw[g3,ZZ];constructor
  .grind
  .grind
 have:=perm.map cD;rw[Zb]at this;refine cg (BI gs) _ _ (λy hy=>this.mem_iff.mp hy) this ?_ g2;refine Yz.mpr ?_;refine List.Pairwise.imp (λh=>Fj h) ((Yz.mp O).filter _)
def tq(O:Z<q.length)(he:∀x:Str,e (q.set Z (U (.str x,Y)))=U (cD [.nm x]))(ys:Z9 Str):aU (aB (ae Z) (λq=>U L) e q) (ys.map D.str)=U (ys.map λx=>cD [.nm x]):=
 aR λx _=>by
  unfold aB
  simp_all
def FO(c:Z9 Ce)(gs:Z9 (Z9 Ce)):inO (U (cD c)) (U (.lst (gs.map cD)))=U (decide (c∈gs)):=by
 unfold inO;simp only[bx];have ok:∀c:Z9 Ce,okD 16 (cD c)=L:=λc=>by
  have:=Gd c;refine Z2.mpr λd hd=>?_;obtain⟨e,_,rfl⟩:=ZZ.mp hd;cases e<;>rfl
 rw[ZM];congr 1;refine Yd.mpr ⟨λh=>?_,λh=>XF h⟩;obtain⟨x,O,e⟩:=ZZ.mp h;rw[<-gn e];exact O
 simp_all
def pW{ns:Z9 Str}(hn:ns.Nodup)(Z:ns.length<=6){gs:Z9 (Z9 Ce)}{S:Z9 Str}(g1:gs.Nodup)(g2:(gs.map cD).Pairwise leD)(g3:∀c,c∈gs↔∃x∈S,c=[.nm x])(g4:∀x∈S,x∈ns)(hS:S.Nodup):Kv [.tup [.str "open",.lst (gs.map cD)],.lst (ns.map D.str),.int (S.length:Int)]=U (.bl L,Y):=by
 obtain⟨ys,py,es,hd⟩:=yK Z hn;have he:=hd g1 g2 g3 g4;have hyl:=py.length_eq;have O:gs.length=S.length:=by
  have p:gs.Perm (S.map λx=>[Ce.nm x]):=(YA g1 (Yz.mpr (hS.imp λh e=>h (by lia)))).mpr λc=>by
   grind
  rw[p.length_eq,ZW]
 have t0:ixO (U (.tup [.str "open",.lst (gs.map cD)])) (U (.int 0))=U (.str "open"):=rfl;have t1:ixO (U (.tup [.str "open",.lst (gs.map cD)])) (U (.int 1))=U (.lst (gs.map cD)):=rfl;have i1:B2 "tuple" (U (.tup [.str "open",.lst (gs.map cD)]))=U (.bl L):=rfl;have i2:B2 "list" (U (.lst (gs.map cD)))=U (.bl L):=rfl;have ln:eX (U (.tup [.str "open",.lst (gs.map cD)]))=U (.int 2):=rfl;have RF:∀a b c d e f g:Z8 (D×Bool),az Y [Y,Y,Y,Y,Y,Y,Y] [a,b,c,d,e,f,g]=[M,M,M,M,M,M,M]:=λ_ _ _ _ _ _ _=>rfl;have Nz:∀(b c d e f g:Z8 (D×Bool))(x:D),az Y [L,Y,Y,Y,Y,Y,Y] [U (x,Y),b,c,d,e,f,g]=[U (x,Y),M,M,M,M,M,M]:=λ_ _ _ _ _ _ _=>rfl;rw[ak (f:=Kv) (d:=[U (.tup [.str "open",.lst (gs.map cD)],Y),U (.lst (ns.map D.str),Y),U (.int (S.length:Int),Y),M,M,M,M]) rfl rfl rfl];simp only[Bv,aaa,WC,i1,ln,t0,t1,i2,aby,ab3,XQ,ab1,gO (show okD 16 (.int 2)=L from rfl),gO (show okD 16 (.str "open")=L from rfl),aaD,aal,VV,es,aah,Mk];rw[aC (by simp;lia),RF,tq (by simp) (λx=>by
  rfl),aaf,aav _ _ _ (by simp)]
 simp only[VV,aO,aN,aaE,aaF,rP,aaa,WC,aah,Mk];rw[aC (by simp;lia),Nz,cB (f:=λx=>cD [.nm x]) (h:=λx=>cD [.nm x]) (p:=λx=>decide (x∈S)) λx _=>by
  unfold aB;rw[aae _ _ _ (by simp)];simp only[Mk,aO,aN,aaa,WC,t1,FO,su];have:decide ([Ce.nm x]∈gs)=decide (x∈S):=Yd.mpr (by
   simp_all)
  rw[this];cases decide (x∈S)<;>rfl,he,aaf,aav _ _ _ (by simp)]
 simp only[VV,aO,aN,aaE,aaF,tU,aaa,WC,t1,Bt (FL gs),aaI,ZW,O,aaM,Yy,ab2];rfl
def stO(h:x=U d)(k:pZ (g (q.set i (U (d,Y))))=r)(O:Nat.blt i q.length=L:=by rfl):pZ (ay (aS i x q) g)=r:=by
 simp_all
def stN(h:x=U (.next d))(k:pZ (g d)=r):pZ (ay x g)=r:=by
 subst h;exact k
def stI(h:c=U Y)(k:pZ (g q)=r):pZ (ay (ifO c x (aai q)) g)=r:=by
 subst h;exact k
noncomputable def otT(n f:Nat)(n0:Str):Te:=if n=0 then .nm n0 else .any (lq f 1)
def bad(n:Nat)(n0:Str)(q:Row):Prop:=∃x y t,q.2=x::t/\(n=0/\y=Ce.nm n0\/n≠0/\∃t',t=y::t')/\cG y=L/\y≠x
def Fm(c d:Ce):neO (U (ceD c)) (U (ceD d))=U (decide (c≠d)):=by rw[j6,decide_not]
def Ja(a b:D)(r:Z9 D):atI (a::b::r) 1=U b:=by
 unfold atI ixN;rw[ZM (by decide),ZM (by simp only[cn];lia)];simp
noncomputable abbrev eS(a0 a1 a3 a4 a6:Z8 (D×Bool))(n:Nat)(Z:Te)(b:Bool)(x8 x9 O:Z8 (D×Bool)):iv:=[a0,a1,U (.int (n+1:Nat),Y),a3,a4,U (teD Z,Y),a6,U (.bl b,Y),x8,x9,O,M]
def vB(a0 a1 a3 a4 Z:Z8 (D×Bool))(n f:Nat)(n0:Str)(q:Row)(b:Bool)(x8 x9 LO:Z8 (D×Bool))(h:q.2.length=n+1):∃b' K3,(b'=L->b=L\/bad n n0 q)/\
  af ((bd (ao (ae 8) (ao (ae 9) (aak)))) (Tn q) (eS a0 a1 a3 a4 Z n (otT n f n0) b x8 x9 LO)) jB=U (.next (eS a0 a1 a3 a4 Z n (otT n f n0) b' (U (.str q.1,Y)) (U (.tup (q.2.map ceD),Y)) K3)):=by
 obtain⟨x,t,e⟩:∃x t,q.2=x::t:=by
  cases hq:q.2 with
  |nil=>simp_all
  |cons x t=>exact⟨x,t,rfl⟩
 obtain⟨y,hy,ey⟩:∃y:Ce,(n=0/\y=Ce.nm n0\/n≠0/\∃t',t=y::t')/\∀δ:iv,10<δ.length->rY 9 δ=U (.tup (q.2.map ceD))->rY 2 δ=U (.int (n+1:Nat))->rY 10 δ=U (teD (otT n f n0))->∃O,(ifO (cI gGt (rY 2 δ) (U (.int 1))) (aS 10 (ixO (rY 9 δ) (U (.int 1))) δ) (aai δ))=U (.next O)/\(O=δ\/O=δ.set 10 (U (ceD y,Y)))/\rY 10 O=U (ceD y):=by
  by_cases hn:n=0;subst hn;refine⟨.nm n0,.inl ⟨rfl,rfl⟩,λδ RA r9 r2 SX=>⟨δ,?_,.inl rfl,SX⟩⟩;rw[r2];rfl;cases t with
  |nil=>simp_all
  |cons y t'=>
   refine⟨y,.inr ⟨hn,t',rfl⟩,λδ RA r9 r2 SX=>⟨_,?_,.inr rfl,?_⟩⟩;rw[r2,r9,acs,show gGt ((n+1:Nat):Int) 1=L from Zx (by lia),aaH,e,Z0,Z0,abE,Ja];exact aad _ _ _ RA;unfold rY rd;rw[Zh RA];rfl
 have er:Tn q=.tup [.str q.1,.tup (q.2.map ceD)]:=rfl;have h0:ixO (U (.tup (q.2.map ceD))) (U (.int 0))=U (ceD x):=by rw[e,Z0,abE,EW]
 obtain⟨O,e1,e2,e3⟩:=ey [a0,a1,U (.int (n+1:Nat),Y),a3,a4,U (teD (otT n f n0),Y),Z,U (.bl b,Y),U (.str q.1,Y),U (.tup (q.2.map ceD),Y),U (teD (otT n f n0),Y),M] (by simp) rfl rfl rfl;obtain⟨K3,rfl⟩:∃K3,O=eS a0 a1 a3 a4 Z n (otT n f n0) b (U (.str q.1,Y)) (U (.tup (q.2.map ceD),Y)) K3:=by
  rcases e2 with rfl|rfl;exact⟨_,rfl⟩;exact⟨_,rfl⟩
 have e9:rY 9 (eS a0 a1 a3 a4 Z n (otT n f n0) b (U (.str q.1,Y)) (U (.tup (q.2.map ceD),Y)) K3)=U (.tup (q.2.map ceD)):=rfl;have step:af ((bd (ao (ae 8) (ao (ae 9) (aak)))) (Tn q) (eS a0 a1 a3 a4 Z n (otT n f n0) b x8 x9 LO)) jB=ifO (rG (U (cG y)) (U (decide (y≠x)))) (aS 7 (U (.bl L)) (eS a0 a1 a3 a4 Z n (otT n f n0) b (U (.str q.1,Y)) (U (.tup (q.2.map ceD),Y)) K3)) (aai (eS a0 a1 a3 a4 Z n (otT n f n0) b (U (.str q.1,Y)) (U (.tup (q.2.map ceD),Y)) K3)):=by
  rw[er];show ay (ifO _ _ _) _=_;refine Eq.trans (congrArg (λz=>ay z _) e1) ?_;rw[VV,e3,e9,h0,xd,Fm]
 rw[step];by_cases hb:cG y=L/\y≠x;refine⟨L,K3,λ_=>.inr ⟨x,y,t,e,hy,hb⟩,?_⟩;rw[hb.1,Zx hb.2];rfl;refine⟨b,K3,.inl,?_⟩;cases hi:cG y with
 |false=>rfl
 |true=>rw[Zu λz=>hb ⟨hi,z⟩];rfl
theorem vT(a0 a1 a3 a4 a6:Z8 (D×Bool))(n f:Nat)(n0:Str):∀(qs:Z9 Row)(b:Bool)(x8 x9 O:Z8 (D×Bool)),(∀q∈qs,q.2.length=n+1)->∃b' y8 y9 Z,(b'=L->b=L\/∃q∈qs,bad n n0 q)/\
  aA (λd δ=>af ((bd (ao (ae 8) (ao (ae 9) (aak)))) d δ) jB) (qs.map Tn) (eS a0 a1 a3 a4 a6 n (otT n f n0) b x8 x9 O)=U (.next (eS a0 a1 a3 a4 a6 n (otT n f n0) b' y8 y9 Z))
 |[],b,x8,x9,O,_=>⟨b,x8,x9,O,.inl,rfl⟩
 |q::qs,b,x8,x9,O,h=>by
  obtain⟨b1,K3,h1,e1⟩:=vB a0 a1 a3 a4 a6 n f n0 q b x8 x9 O (h q (.head _));obtain⟨b',y8,y9,Z,h2,e2⟩:=vT a0 a1 a3 a4 a6 n f n0 qs b1 _ _ K3 λq' K4=>h q' (.tail _ K4);refine⟨b',y8,y9,Z,λhb=>?_,?_⟩
  .grind
  rw[Z0];unfold aA;rw[e1];exact e2
def Br{f n:Nat}(hn:n<=2){O:Str}(Z:∀k:Nat,k<5->fE (U (.str O)) (U (.int k))=U (.str (lq f k))){R0:Z9 Row}(hR:∀q∈R0,q.2.length=n+1)(one n0:Str)(ns:Z9 Str):∃b:Bool,(b=L->∃q∈R0,bad n n0 q)/\
  K0 [.lst (R0.map Tn),.str one,.int (n+1:Nat),.str O,.lst ((n0::ns).map D.str)]=U (.tup [aX (bP one (lq f 0) (ltf f n)) (.any (lq f 0)) (otT n f n0),.bl b],Y):=by
 have c1:=pA hn (ti:=11) (e:=m9) (dl:=[M,M,M,U (.str O,Y),M,M,M,M,M,M,M,M]) (by simp) λk hk=>by
  have:=Z k hk;rw[show(k:Int)=0+(k:Int) by lia]at this;simp only[aO,aN,m9,aaa,WC,this,PK];rfl
 have h0:=Z 0 (by lia);have h1:=Z 1 (by lia);rw[show((0:Nat):Int)=0 from rfl]at h0;rw[show((1:Nat):Int)=1 from rfl]at h1;have ta:∀l:Str,aJ (U [.str "any",.str l])=U (teD (.any l)):=λl=>aap _ (by simp);have tn:∀l:Str,aJ (U [.str "name",.str l])=U (teD (.nm l)):=λl=>aap _ (by simp);obtain⟨b,y8,y9,M9,hb,el⟩:=vT (U (.lst (R0.map Tn),Y)) (U (.str one,Y)) (U (.str O,Y)) (U (.lst ((n0::ns).map D.str),Y)) (U (aX (bP one (lq f 0) (ltf f n)) (.any (lq f 0)) (otT n f n0),Y)) n f n0 R0 Y M M M hR;refine⟨b,λh=>(hb h).resolve_left (by decide),?_⟩;refine stO (d:=teD (.nm n0)) (by
  show aJ (aa _ (aa (ixO (U (.lst ((n0::ns).map D.str))) (U (.int 0))) _))=_;rw[Z0,aaZ,EW];rfl) ?_
 refine stN (d:=[U (.lst (R0.map Tn),Y),U (.str one,Y),U (.int (n+1:Nat),Y),U (.str O,Y),U (.lst ((n0::ns).map D.str),Y),U (teD (otT n f n0),Y),M,M,M,M,M,M]) ?_ ?_;show ifO (U (gGt ((n+1:Nat):Int) 1)) (aS 5 (aJ (aa _ (aa (fE (U (.str O)) (U (.int 1))) _))) _) _=_;unfold otT;by_cases hz:n=0;subst hz;rfl;rw[show gGt ((n+1:Nat):Int) 1=L from Zx (by lia),aaH,h1,ZH hz];rfl;refine stO (d:=aX (bP one (lq f 0) (ltf f n)) (.any (lq f 0)) (otT n f n0)) ?_ ?_;show aJ (aa _ (aa (bg (aa (aJ (aa _ (aa (ce (aq (af (rB (U (.int (n+1:Nat)))) (bF _ _ _ _ _ _)))) _))) _)) (aa (aJ (aa _ (aa (fE (U (.str O)) (U (.int 0))) _))) _)))=_;rw[gP _ (by lia),Mk,Int.toNat_natCast,aC (by rw[cw,aaA];lia),h0];refine Eq.trans (congrArg (λz=>aJ (aa _ (aa (bg (aa (aJ (aa _ (aa (ce (aq z)) _))) _)) _))) c1) ?_;rfl;refine stO (d:=.bl Y) rfl ?_;refine stN el ?_;rfl
def kE{a b:Str}{x y:Nat}(O:a.cps.toList=x::s)(hb:b.cps.toList=y::t)(h:x≠y):a≠b:=λe=>by
 lia
def ac(u:Str):(("a":Str)++u).cps.toList=97::u.cps.toList:=by rw[fR,show("a":Str).cps.toList=[97] by rfl];rfl
def bc'(u:Str):(("b":Str)++u).cps.toList=98::u.cps.toList:=by rw[fR,show("b":Str).cps.toList=[98] by rfl];rfl
theorem nc':("none":Str).cps.toList=110::[111,110,101]:=by rfl
def xc(u:Str):u≠u++"x":=λe=>by
 have:=congrArg (λs:Str=>s.cps.toList.length) e;simp only[fR,YX,show("x":Str).cps.toList=[120] by rfl,List.length_singleton]at this;lia
def bxc(u:Str):(("b":Str)++u++"x").cps.toList=98::(u.cps.toList++[120]):=by
 rw[fR,bc',show("x":Str).cps.toList=[120] by rfl];rfl
section
variable{one oth h_:Str}{ns:Z9 Str}{R0:Z9 Row}{l0 l4:Str}{lt:Z9 Str}{two:Bool}
def smH(O:l4∉l0::lt):Sm (hP oth h_ l0 l4 two) (dlM (bP one l0 lt) (hP oth h_ l0 l4 two)):=.inr ⟨(oth,[.any l0]),.head _,λl Z=>by
 obtain⟨a,b⟩:=Zi.mp Z;rcases yM ((be _ l).mp a)with rfl|rfl;exact .head _;have:=(be _ l).mp (Zy b)
 simp_all [oO]⟩
def JT(hl:lt.length<=2)(Z:l4∉l0::lt):Rls one oth h_ l0 l4 lt two (.lst [bi (bP one l0 lt) (hP oth h_ l0 l4 two)]) R0 ns:=λS rs O I=>by
 obtain⟨r,hR,hp,hd,hf⟩:=lT O (ps:=bP one l0 lt) (qs:=hP oth h_ l0 l4 two) (by simp) uf (bP4 hl) hP4 (smH Z);exact⟨[r],r,by rw[Z0,YI,hR],by simp,.head _,λr' h=>.inl (ZD.mp h),hR,hp,hd,hf⟩
def JJ(hl:lt.length<=2)(Z:l4∉l0::lt)(h1:"none"≠one)(h2:"none"≠oth)(h3:"none"≠h_):Rls one oth h_ l0 l4 lt two (.lst [bi [("none",[.any "A"])] [(one,[.any "B"])],bi (bP one l0 lt) (hP oth h_ l0 l4 two)]) R0 ns:=λS rs O I=>by
 obtain⟨r,hR,hp,hd,hf⟩:=lT O (ps:=bP one l0 lt) (qs:=hP oth h_ l0 l4 two) (by simp) uf (bP4 hl) hP4 (smH Z);obtain⟨r0,gR,gp,gd,gf⟩:=lT O (ps:=[("none",[.any "A"])]) (qs:=[(one,[.any "B"])]) (by simp) (by simp) (λp hp=>by simp_all) (λp hp=>by simp_all) (oE (by simp) λl hl=>(be _ l).mp (Zi.mp hl).1);have z:r0.fd=[]:=List.eq_nil_iff_forall_not_mem.mpr λx hx=>by
  obtain⟨⟨φ,_,h⟩,_⟩:=(gf x).mp hx;obtain⟨q,hq,e,_⟩:=h _ (.head _);rcases I.i5 q hq with k|k|k;lia;lia;lia
 refine⟨[r0,r],r,by rw[Z0,Z0,YI,hR,gR],by simp,.tail _ (.head _),λr' h=>?_,hR,hp,hd,hf⟩
 grind
def iv0(D:Dr one oth h_ ns R0 l0 l4 lt):Iv one oth h_ ns R0 two [] R0:=
 ⟨YK,(λx h=>by cases h),λq h=>h,λq h _=>h,λq h e=>absurd ((D.tb q h).1.symm.trans e) D.n1,(λx h=>by cases h),(λ_ x h=>by cases h),λq h=>.inl (D.tb q h).1,by have:=D.rl;simpa using this⟩
noncomputable abbrev quD(oth O:Str):L2.D:=.tup [.lst [.str O],.lst [aQ (oth,[.any O])]]
def Dj{rs:Z9 Row}(h:rs.length<=25)(oth O:Str):∃gs:Z9 (Z9 Ce),gs.Nodup/\(∀x,x∈gs↔∃φ:Fit,x=[φ O]/\(oth,[φ O])∈rs)/\(gs.map cD).Pairwise leD/\gs.length<=625/\Le [.lst (rs.map Tn),quD oth O]=U (.lst (gs.map cD),L):=by
 obtain⟨gs,g1,g2,g3,g4,g5⟩:=g9 h (ps:=[(oth,[.any O])]) (by simp) (λp hp=>by simp_all) (wanted:=[O]) (by simp) (λl Z=>by assumption) (.inr ⟨_,.head _,λl Z=>by assumption⟩);refine⟨gs,g1,λx=>(g2 x).trans ?_,g3,g4,g5⟩;constructor
 rintro⟨φ,e,k⟩
 obtain⟨q,hq,e1,e2⟩:=k _ (.head _);refine⟨φ,e,?_⟩;have:q=(oth,[φ O]):=Prod.ext e1 e2;rwa[<-this]
 rintro⟨φ,e,k⟩
 refine⟨φ,e,λp hp=>?_⟩;rw[ZD.mp hp];exact⟨_,k,rfl,rfl⟩
def rL(D:Dr one oth h_ ns R0 l0 l4 lt)(Lx:Rls one oth h_ l0 l4 lt two RL R0 ns)(mo:Int)(h0:0<=mo)(O:Str):∃(gs:Z9 (Z9 Ce))(S:Z9 Str),gs.Nodup/\(gs.map cD).Pairwise leD/\(∀c,c∈gs↔∃x∈S,c=[Ce.nm x])/\(∀x∈S,x∈ns)/\S.Nodup/\
  ((S.length=ns.length/\(ns.length:Int)<=mo/\v_ [.lst (R0.map Tn),RL,quD oth O,.int mo]=U (.tup [.str "sure",.lst (gs.map cD)],Y))\/
   ((S.length:Int)=mo/\mo<(ns.length:Int)/\v_ [.lst (R0.map Tn),RL,quD oth O,.int mo]=U (.tup [.str "open",.lst (gs.map cD)],Y))):=by
 have LQ:∀q∈R0,q.2.length<=4:=λq hq=>by have:=(D.tb q hq).2.1;have:=D.ll;lia
 have OJ:=D.rl;have TH:=D.nc;obtain⟨un,ef⟩:=eA (rs:=R0) (by lia) LQ RL mo;obtain⟨S,rs,st,s,I,hs,hm,e⟩:=kY D Lx (U (.lst (R0.map Tn),Y)) mo ns.length 1000 [] R0 [] un M M M M (by simp) (by lia) rfl (by trivial) (iv0 D);have V3:=I.ln;have hSl:S.length<=ns.length:=Zt I.sn I.ss;obtain⟨gs,g1,g2,g3,g4,g5⟩:=Dj (rs:=rs) (by lia) oth O;have hg:∀c,c∈gs↔∃x∈S,c=[Ce.nm x]:=λc=>by
  rw[g2];constructor
  rintro⟨φ,e,k⟩
  obtain⟨x,Z,ex⟩:=I.i2 _ k rfl;exact⟨x,Z,e.trans ex⟩
  rintro⟨x,Z,e⟩
  exact⟨λ_=>.nm x,e,I.i3 x Z⟩
 rw[e]at ef;have ss:=mZ (rs:=rs) (gs:=gs) (s:=s) (hs.imp (·.1) (·.1)) ef g5 g4 (λc hc=>by obtain⟨x,_,rfl⟩:=(hg c).mp hc;simp);have ff:(gs.filter λc=>c.all cG)=gs:=Wq.mpr λc hc=>by obtain⟨x,_,rfl⟩:=(hg c).mp hc;rfl
 rw[ff]at ss;refine⟨gs,S,g1,g3,hg,I.ss,I.sn,?_⟩;rcases hs with⟨rfl,h⟩|⟨rfl,h,h'⟩;exact .inl ⟨h,by lia,ss⟩;exact .inr ⟨h,by lia,ss⟩
def xI{rs:Z9 Row}(O:rs.length<=15)(h4:∀q∈rs,q.2.length<=4)(mo:Int):v_ [.lst (rs.map Tn),.lst [],.tup [.lst [],.lst []],.int mo]=U (.tup [.str "sure",.lst [.tup []]],Y):=by
 obtain⟨un,ef⟩:=eA O h4 (.lst []) mo;rcases An (rs:=rs) (by lia) [] (by simp)with⟨_,en⟩|⟨k,r,c,vs,ψ,C,en⟩;obtain⟨gs,g1,g2,g3,g4,g5⟩:=g9 (rs:=rs) (by lia) (ps:=[]) (by simp) (λp hp=>nomatch hp) (wanted:=[]) (by simp) (λl Z=>nomatch Z) (.inl rfl);have eg:gs=[[]]:=by
  have:gs.Perm [[]]:=(YA g1 (by simp)).mpr λc=>by
   simp_all
  exact List.perm_singleton.mp this
 subst eg;exact mZ (.inl rfl) ef g5 g4 (λc hc=>by simp_all);have:=C.at';simp at this
end
def uh{f n:Nat}(hn:n<=2){one oth n0:Str}{ns:Z9 Str}{R0:Z9 Row}(OJ:R0.length<=6)(hR:∀q∈R0,q.1=one/\q.2.length=n+1/\∃x∈ns,∃t,q.2=Ce.nm x::t)(NM:∀q∈R0,∀k,Ce.bk k∈q.2->0<=k)(mo:Int)(h0:0<=mo)(h1:mo<=100)(l1:Str):
  ∃v,v_ [.lst (R0.map Tn),.lst [aX (bP one (lq f 0) (ltf f n)) (.any (lq f 0)) (otT n f n0)],quD oth l1,.int mo]=U (v,Y)/\((∃q∈R0,bad n n0 q)->v=.tup [.str "clash"]):=by
 have hl:(ltf f n).length<=2:=by simpa using hn
 have x_:∀l,l∈br [smP (.any (lq f 0)) (otT n f n0)]->l∈br (bP one (lq f 0) (ltf f n)):=λl hl=>by
  rw[oO];obtain⟨p,hp,k⟩:=ba.mp hl;rw[ZD.mp hp]at k;unfold smP otT at k;by_cases hz:n=0;rw[ZM hz]at k;rw[ZD.mp k];exact .head _;rw[ZH hz]at k;rcases ZT.mp k with rfl|k;exact .head _;rw[ZD.mp k];exact .tail _ (ZZ.mpr ⟨0,Zk.mpr (by lia),rfl⟩)
 have Z:∀q∈R0,q.2.length<=4:=λq hq=>by have:=(hR q hq).2.1;lia
 obtain⟨un,ef⟩:=eA (rs:=R0) (by lia) Z (.lst [aX (bP one (lq f 0) (ltf f n)) (.any (lq f 0)) (otT n f n0)]) mo;by_cases hb:∃q∈R0,bad n n0 q;obtain⟨q,hq,x,y,t,eq,hy,iy,ne⟩:=hb;obtain⟨q1,q2,x',_,t',ex⟩:=hR q hq;obtain⟨φ,O⟩:=ky (kn:=lq f 0::ltf f n) (x:=q.2) (Eh f n) (by rw[q2];simp);have ix:cG x=L:=by rw[eq]at ex;rw[(Yo ex).1];rfl
 rw[eq,Z0]at O;have hx:φ (lq f 0)=x:=(Yo O).1.symm;have To:ev φ (otT n f n0)=y:=by
  unfold otT;rcases hy with⟨hz,rfl⟩|⟨hz,t',rfl⟩;rw[ZM hz];rfl;have:=(Yo O).2;cases n with
  |zero=>exact absurd rfl hz
  |succ n=>
   rw[ltf,List.range_succ_eq_map,Z0,Z0]at this;exact(Yo this).1.symm
 obtain⟨ds,e⟩:=(lI (by simp) (bP4 hl) x_ (U (.lst (R0.map Tn),Y)) mo un (rs:=R0) (by lia) Z [] (by simp) M M M M).1 ⟨φ,mR.mpr (by grind),by rw[To];show φ _≠_;rw[hx];exact ne.symm,by show cG (φ _)=_;rw[hx];exact ix,by rw[To];exact iy⟩ NM;rw[pq e]at ef;exact⟨_,hV ef,λ_=>rfl⟩;obtain⟨v,hv,e⟩:=km (by simp) (bP4 hl) x_ (U (.lst (R0.map Tn),Y)) mo un 100 1000 R0 [] M M M M (by simp;lia) (by decide) (by lia) Z (by simp);rw[e]at ef;rcases hv with⟨ds,rfl⟩|⟨s,rs,st,hs,F_,rfl⟩;exact⟨_,hV ef,λh=>absurd h hb⟩;obtain⟨gs,g1,g2,g3,g4,g5⟩:=Dj (rs:=rs) (by lia) oth l1;exact⟨_,mZ hs ef g5 g4 (λc hc=>by obtain⟨φ,rfl,_⟩:=(g2 c).mp hc;simp),λh=>absurd h hb⟩
def my(n:Nat)(ps qs:Z9 Pat):okD (n+5) (bi ps qs)=L:=by
 show(okD (n+4) (.str "must")&&(okD (n+4) (.lst (ps.map aQ))&&(okD (n+4) (.lst (qs.map aQ))&&L)))=L;rw[sj n ps,sj n qs];rfl
def Hy(w p:Str)(hp:p.length=1)(O:w.length<=20):∃u:Str,(p++u).length<=21/\v8 (U (.str p)) (fo (U (.str w)) (U M) (dk (U (.int 6))))=U (.str (p++u)):=by
 have h:=fz w M (U 6);refine⟨jr w M (U 6),?_,?_⟩;have:(p++jr w M (U 6)).length=p.length+(jr w M (U 6)).length:=by
  unfold Str.length;show(p.cps++_).size=_;exact Array.size_append
 lia;rw[aa5,abc _ _ _ (by simp;lia),abw _ _ (by simp;lia)]
def yo(c:Int):Ku [.int c]=U (.bl L,Y):=by
 obtain⟨ws,wl,_,wn,ew⟩:=o7 c 2 (by decide) (by decide);obtain⟨w0,w1,rfl⟩:∃a b,ws=[a,b]:=by
  match ws,wl with
  |[a,b],_=>exact⟨a,b,rfl⟩
 obtain⟨u0,VH,ea⟩:=Hy w0 "a" (by decide +kernel) (wn w0 (by simp));obtain⟨u1,Nc,eb⟩:=Hy w1 "b" (by decide +kernel) (wn w1 (by simp));generalize NN:("a":Str)++u0=one at VH ea;generalize O:("b":Str)++u1=oth at Nc eb;have n1:one≠oth:=by rw[<-NN,<-O];exact kE (ac u0) (bc' u1) (by decide)
 have n2:one≠oth++"x":=by rw[<-NN,<-O];exact kE (ac u0) (bxc u1) (by decide)
 have n4:"none"≠one:=by rw[<-NN];exact kE nc' (ac u0) (by decide)
 have n5:"none"≠oth:=by rw[<-O];exact kE nc' (bc' u1) (by decide)
 have n6:"none"≠oth++"x":=by rw[<-O];exact kE nc' (bxc u1) (by decide)
 generalize hm:1+c / 8%6=m;obtain⟨ns,nl,nn,_,en⟩:=o7 (c / 3) m (by lia) (by lia);have OO:ns.length<=6:=by lia
 have Ra:ns≠[]:=λz=>by rw[z]at nl;simp at nl;lia
 have m25:=yk c 25;have m26:=yk c 26;have m27:=yk c 27;generalize hn:(mx c 25%3).toNat=n;have MU:n<=2:=by lia
 have Rb:1+mx c 25%3=((n+1:Nat):Int):=by lia
 generalize hf:(mx c 26%21).toNat=f;have Ss:f<21:=by lia
 have hfi:mx c 26%21=(f:Int):=by lia
 have RG:fo (U (.str "ABCDEFGHIJKLMNOPQRSTUVWXYZ")) (dk (U (.int (f:Int)))) (dk (U (.int ((f:Int)+5))))=U (.str (jr "ABCDEFGHIJKLMNOPQRSTUVWXYZ" (U (f:Int)) (U ((f:Int)+5)))):=by
  rw[aa5,aa5,abc _ _ _ (by rw[aaA];decide +kernel)]
 have Ls:∀k:Nat,k<5->fE (U (.str (jr "ABCDEFGHIJKLMNOPQRSTUVWXYZ" (U (f:Int)) (U ((f:Int)+5))))) (U (.int k))=U (.str (lq f k)):=λk hk=>by
  rw[<-RG];exact DC f Ss k hk
 generalize jr "ABCDEFGHIJKLMNOPQRSTUVWXYZ" (U (f:Int)) (U ((f:Int)+5))=la at RG Ls;obtain⟨R0,r1,r2,r3,er⟩:=BP Ra OO c one (n+1:Nat) (by lia) (by lia);have Rf:(ltf f n).length=n:=by simp
 have DR:Dr one oth (oth++"x") ns R0 (lq f 0) (lq f 4) (ltf f n):=⟨n1,n2,xc oth,Eh f n,GH MU,by lia,nn,OO,λq Z=>⟨(r1 q Z).1,by have:=(r1 q Z).2.1;lia,(r1 q Z).2.2.2⟩,r2,r3⟩
 have em:=BR MU Ls c one oth (by lia);generalize decide (c%2=1)=two at em;have hR4:∀q∈R0,q.2.length<=4:=λq Z=>by have:=(r1 q Z).2.1;lia
 generalize OP:mx c 27%((ns.length:Int)+2)=mo;have Py:0<=mo:=by rw[<-OP];exact WI _ (by lia)
 have hmo9:mo<8:=by have:=Int.emod_lt_of_pos (mx c 27) (b:=(ns.length:Int)+2) (by lia);lia
 have l1:∀x:L2.D,bg (U [x])=U (.lst [x]):=λx=>aan _ (by simp);have t1:∀x:L2.D,aJ (U [x])=U (.tup [x]):=λx=>aap _ (by simp);have t2:∀x y:L2.D,aJ (U [x,y])=U (.tup [x,y]):=λx y=>aap _ (by simp);have l2:∀x y:L2.D,bg (U [x,y])=U (.lst [x,y]):=λx y=>aan _ (by simp);have t3:∀x y z:L2.D,aJ (U [x,y,z])=U (.tup [x,y,z]):=λx y z=>aap _ (by simp);have h1:=Ls 1 (by decide);rw[show((1:Nat):Int)=1 from rfl]at h1;rw[ak (f:=Ku) (d:=[U (.int c,Y),M,M,M,M,M,M,M,M,M,M,M,M,M,M,M,M]) rfl rfl rfl];refine stO (d:=.lst [.str w0,.str w1]) (by show frO (KC [.int c,.int 2])=_;rw[ew];rfl) ?_;refine stO (d:=.str one) ea ?_;refine stO (d:=.str oth) eb ?_;refine stO (d:=.lst (ns.map .str)) (by
  show frO (af (aa (v6 (U (.int c)) (U (.int 3))) (aa (fC (U (.int 1)) (fw (v6 (U (.int c)) (U (.int 8))) (U (.int 6)))) (U []))) KC)=_;rw[abh _ _ (by decide),abh _ _ (by decide),aat _ _ (by decide),aaG,hm];show frO (KC [.int (c / 3),.int m])=_;rw[en];rfl) ?_
 refine stO (d:=.int (n+1:Nat)) (by
  show fC (U (.int 1)) (fw (shO (u_ [.int c,.int 25])) (U (.int 3)))=_;rw[bW c 25 (by decide) (by decide),aao,aat _ _ (by decide),aaG,Rb]) ?_
 refine stO (d:=.int (f:Int)) (by
  show fw (shO (u_ [.int c,.int 26])) (U (.int 21))=_;rw[bW c 26 (by decide) (by decide),aao,aat _ _ (by decide),hfi]) ?_
 refine stO (d:=.str la) RG ?_;refine stO (d:=.lst (R0.map Tn)) (by
  show frO (Kx [.int c,.str one,.lst (ns.map .str),.int (n+1:Nat)])=_;rw[er];rfl) ?_
 refine stO (d:=.lst [bi (bP one (lq f 0) (ltf f n)) (hP oth (oth++"x") (lq f 0) (lq f 4) two)]) (by
  show bg (aa (shO (af (U [.int c,.str one,.str oth,.int (n+1:Nat),.str la]) Kw)) (U []))=_;rw[Mk,em];exact l1 _) ?_
 obtain⟨Lq,hL2,hok,Lx,eif⟩:∃Lq:Z9 L2.D,Lq.length<=2/\(∀d∈Lq,okD 14 d=L)/\Rls one oth (oth++"x") (lq f 0) (lq f 4) (ltf f n) two (.lst Lq) R0 ns/\
   (ifO (eqO (fw (v6 (U (.int c)) (U (.int 5))) (U (.int 3))) (U (.int 1))) (aS 9 (jQ (bg (aa (aJ (aa (U (.str "must")) (aa (bg (aa (aJ (aa (U (.str "none")) (aa (aJ (aa (aJ (aa (U (.str "any")) (aa (U (.str "A")) (U [])))) (U []))) (U [])))) (U []))) (aa (bg (aa (aJ (aa (U (.str one)) (aa (aJ (aa (aJ (aa (U (.str "any")) (aa (U (.str "B")) (U [])))) (U []))) (U [])))) (U []))) (U []))))) (U []))) (U (.lst [bi (bP one (lq f 0) (ltf f n)) (hP oth (oth++"x") (lq f 0) (lq f 4) two)])))
    [U (.int c,Y),U (.lst [.str w0,.str w1],Y),U (.str one,Y),U (.str oth,Y),U (.lst (ns.map .str),Y),U (.int (n+1:Nat),Y),U (.int (f:Int),Y),U (.str la,Y),U (.lst (R0.map Tn),Y),U (.lst [bi (bP one (lq f 0) (ltf f n)) (hP oth (oth++"x") (lq f 0) (lq f 4) two)],Y),M,M,M,M,M,M,M])
   (aai [U (.int c,Y),U (.lst [.str w0,.str w1],Y),U (.str one,Y),U (.str oth,Y),U (.lst (ns.map .str),Y),U (.int (n+1:Nat),Y),U (.int (f:Int),Y),U (.str la,Y),U (.lst (R0.map Tn),Y),U (.lst [bi (bP one (lq f 0) (ltf f n)) (hP oth (oth++"x") (lq f 0) (lq f 4) two)],Y),M,M,M,M,M,M,M]))=
   U (.next [U (.int c,Y),U (.lst [.str w0,.str w1],Y),U (.str one,Y),U (.str oth,Y),U (.lst (ns.map .str),Y),U (.int (n+1:Nat),Y),U (.int (f:Int),Y),U (.str la,Y),U (.lst (R0.map Tn),Y),U (.lst Lq,Y),M,M,M,M,M,M,M]):=by
  rw[abh _ _ (by decide),aat _ _ (by decide),aaM];by_cases hc:c / 5%3=1;refine⟨[bi [("none",[.any "A"])] [(one,[.any "B"])],bi (bP one (lq f 0) (ltf f n)) (hP oth (oth++"x") (lq f 0) (lq f 4) two)],by simp,λd hd=>?_,JJ (by lia) (GH MU) n4 n5 n6,?_⟩;rcases ZT.mp hd with rfl|hd;exact my 9 _ _;rw[ZD.mp hd];exact my 9 _ _;rw[Zx hc,aaH];simp only[PK,t2,t1,l1,t3];rw[aa1 _ _ (by simp[aaA])];rfl;refine⟨[bi (bP one (lq f 0) (ltf f n)) (hP oth (oth++"x") (lq f 0) (lq f 4) two)],by simp,λd hd=>?_,JT (by lia) (GH MU),?_⟩;rw[ZD.mp hd];exact my 9 _ _;rw[Zu hc];rfl
 refine stN eif ?_;obtain⟨gs,S,g1,g2,g3,g4,hS,PN⟩:=rL DR Lx mo Py (lq f 1);obtain⟨s,es,hs⟩:∃s:Str,v_ [.lst (R0.map Tn),.lst Lq,quD oth (lq f 1),.int mo]=U (.tup [.str s,.lst (gs.map cD)],Y)/\(s="sure"/\S.length=ns.length/\(ns.length:Int)<=mo\/s="open"/\(S.length:Int)=mo/\mo<(ns.length:Int)):=by
  rcases PN with⟨a,b,e⟩|⟨a,b,e⟩;exact⟨_,e,.inl ⟨rfl,a,b⟩⟩;exact⟨_,e,.inr ⟨rfl,a,b⟩⟩
 refine stO (d:=.int mo) (by
  show fw (shO (u_ [.int c,.int 27])) (U (.int (((ns.map D.str).length:Int)+2)))=_;rw[bW c 27 (by decide) (by decide),aao,aat _ _ (by lia),ZW,OP]) ?_
 refine stO (d:=quD oth (lq f 1)) (by
  show aJ (aa (bg (aa (fE (U (.str la)) (U (.int 1))) (U []))) (aa (bg (aa (aJ (aa (U (.str oth)) (aa (aJ (aa (aJ (aa (U (.str "any")) (aa (fE (U (.str la)) (U (.int 1))) (U [])))) (U []))) (U [])))) (U []))) (U [])))=_;rw[h1];simp only[PK,t2,t1,l1];rfl) ?_
 refine stO (d:=.lst [.lst (R0.map Tn),.lst Lq]) (l2 _ _) ?_;refine stO (d:=.tup [.str s,.lst (gs.map cD)]) (by
  show shO (v_ [.lst (R0.map Tn),.lst Lq,quD oth (lq f 1),.int mo])=_;rw[es];rfl) ?_
 refine stI (by
  show neO (U (.lst [.lst (R0.map Tn),.lst Lq])) (bg (U [.lst (R0.map Tn),.lst Lq]))=_;rw[l2,gO (kJ λd hd=>by
   rcases ZT.mp hd with rfl|hd;exact wO 11 R0;rw[ZD.mp hd];exact kJ hok)]) ?_
 refine stI (by
  show rG (U (gLt mo ((ns.map D.str).length:Int))) (dB (tyB (shO (Kv [.tup [.str s,.lst (gs.map cD)],.lst (ns.map D.str),.int mo]))))=_;rw[ZW];rcases hs with⟨rfl,a,b⟩|⟨rfl,a,b⟩;rw[show gLt mo (ns.length:Int)=Y from Zu (by lia)];rfl
  .rw[<-a,pW nn OO g1 g2 g3 g4 hS]
   cases gLt (S.length:Int) (ns.length:Int)<;>rfl) ?_
 obtain⟨ys,py,esr,hd⟩:=yK OO nn;have he:=hd g1 g2 g3 g4;refine stI (by
  show rG (U (gGe mo ((ns.map D.str).length:Int))) (neO (U (.tup [.str s,.lst (gs.map cD)])) (aJ (aa (U (.str "sure")) (aa (aq (af (b9 (dh .st (U (.lst (ns.map D.str))))) (bF _ _ _ _ _ _))) (U [])))))=_;rw[ZW];rcases hs with⟨rfl,a,b⟩|⟨rfl,a,b⟩;have K8:(ys.filter λx=>decide (x∈S))=ys:=Wq.mpr λx hx=>Zx (eB hS g4 (by lia) (py.mem_iff.mp hx))
  rw[K8]at he;rw[show gGe mo (ns.length:Int)=L from Zx (by lia),ab7,esr,aah,Mk,aC (by rw[ZW,py.length_eq,aaA];lia)];refine Eq.trans (congrArg (λz=>neO _ (aJ (aa _ (aa (aq z) _)))) (tq (ys:=ys) (Nat.le_of_ble_eq_true rfl) λx=>by
   show aJ (aa (aJ (aa (U (.str "name")) (aa (U (.str x)) (U [])))) (U []))=_;simp only[PK,t2,t1];rfl)) ?_
  rw[he,aaf];simp only[PK,t2];exact gO (by
   simp only[okD,li,List.all_nil,YC,X3];exact Z2.mpr λd hd=>by
    obtain⟨c,hc,rfl⟩:=ZZ.mp hd;obtain⟨x,_,rfl⟩:=(g3 c).mp hc;rfl)
  rw[show gGe mo (ns.length:Int)=Y from Zu (by lia)];rfl) ?_
 refine stI (by
  show neO (shO (af (aa _ (aa (bg (U [])) (aa (aJ (aa (bg (U [])) (aa (bg (U [])) (U [])))) _))) v_)) (aJ (aa (U (.str "sure")) (aa (bg (aa (aJ (U [])) (U []))) (U []))))=_;rw[aan [] (by simp),aap [] (by simp)];simp only[PK,l1,t2];refine Eq.trans (congrArg (λz=>neO (shO z) _) (xI (rs:=R0) (by lia) hR4 mo)) ?_;rfl) ?_
 obtain⟨n0,OE,rfl⟩:∃n0 OE,ns=n0::OE:=by
  cases ns with
  |nil=>exact absurd rfl Ra
  |cons a b=>exact⟨a,b,rfl⟩
 obtain⟨b,hb,esm⟩:=Br MU Ls (R0:=R0) (λq Z=>by have:=(r1 q Z).2.1;lia) one n0 OE;obtain⟨v,ev,hv⟩:=uh (f:=f) MU (one:=one) (oth:=oth) (n0:=n0) (ns:=n0::OE) r3 (λq Z=>⟨(r1 q Z).1,by have:=(r1 q Z).2.1;lia,(r1 q Z).2.2.2⟩) (λq Z k hk=>(r1 q Z).2.2.1 _ hk k rfl) mo Py (by lia) (lq f 1);refine stN (d:=List.set (List.set _ 14 (U (aX (bP one (lq f 0) (ltf f n)) (.any (lq f 0)) (otT n f n0),Y))) 15 (U (.bl b,Y))) (by
  show Fa (shO (K0 [.lst (R0.map Tn),.str one,.int (n+1:Nat),.str la,.lst ((n0::OE).map D.str)])) _ _=_;rw[esm];rfl) ?_
 refine stO (d:=v) (by
  show shO (af (aa _ (aa (bg (U [_])) _)) v_)=_;rw[l1];exact congrArg shO ev) ?_
 show pZ (cq (orV (U (.bl (!b))) (ofB (eqO (U v) (aJ (U [.str "clash"]))))))=_;cases b with
 |false=>rfl
 |true=>
  rw[hv (hb rfl),t1];rfl
def pure(ns:Z9 Int)(hn:ns.length<=63):f_law [.lst (ns.map D.int)]=U (.bl L,Y):=by
 have ec:v9 (ns.map D.int) M (U 40)=(ns.take 40).map D.int:=xq D.int ns 40;have hl:(ns.take 40).length<=40:=by simp;lia
 have lp:∀(cs:Z9 Int)(a Z:Z8 (D×Bool)),∃O,aA (λd q=>af ((ae 1) d q) lX) (cs.map D.int) [a,Z]=U (.next [a,O]):=by
  intro cs
  induction cs with
  |nil=>exact λa Z=>⟨Z,rfl⟩
  |cons c cs ih=>
   intro a Z;obtain⟨O,e⟩:=ih a (U (.int c,Y));refine⟨O,?_⟩;rw[Z0];unfold aA;have:af ((ae 1) (D.int c) [a,Z]) lX=U (.next [a,U (.int c,Y)]):=by
    show ifO (dB (tyB (shO (Ku [.int c])))) _ _=_;rw[yo];rfl
   rw[this];exact e
 obtain⟨O,e⟩:=lp (ns.take 40++[0]) (U (.lst (ns.map D.int),Y)) M;refine stN (d:=[U (.lst (ns.map D.int),Y),O]) ?_ rfl;show af (b9 (jQ (U (.lst (v9 (ns.map D.int) M (U 40)))) (bg (U [.int 0])))) _=_;rw[ec,aan _ (by simp),aa1 _ _ (by simp only[ZW,List.length_singleton,aaA];lia),aah,Mk];rw[Y7]at e;exact e
end K63
theorem PySem.Challenge.cw_mustrows_k63_whole_sure_by_steps_holds : PySem.Challenge.rw_mustrows_k63_whole_sure_by_steps.Holds := by
 letI:L2.Lams:=⟨[(74,"search_order.<locals>.<lambda>")]⟩
 refine PySem.W.holds_law K63.hl1 fun said=>?_
 refine PySem.W.holds_open (d:=PySem.DefRec.mk "law" (L2.defArgs K63.s_law) (L2.defBody K63.s_law) (L2.defScope K63.s_law) K63.s_law.pos) (kwd:=[]) (q:=PySem.W.view PySem.Challenge.pw_mustrows_k63_whole_sure_by_steps Ge) (loose:=[]) (Xt:=fun _=>true) (XP:=fun _ _=>True) (Yf:=L2.YfH K63.defsK K63.blK [("search_order",76)]) (Ya:=L2.YaH K63.defsK K63.blK [("search_order",76)]) (YP:=L2.YH K63.defsK K63.blK [("search_order",76)]) (N:=2000) ?hl L2.yh_of L2.yh_keeps (fun _ _=>trivial) (fun _ _ _ _ _=>trivial) (by kernel_rfl) (by kernel_rfl) (by kernel_rfl) (fun s _=>PySem.W.recFacts_of (by kernel_rfl)) (by kernel_rfl) said K63.hl7 ⟨rfl,rfl,rfl,rfl,rfl,by decide +kernel⟩ ?hw ?hc
 case hl=>exact K63.hl0
 case hw=>w_witness2
 case hc=>
  refine L2.walk_H (l:=PySem.Challenge.rw_mustrows_k63_whole_sure_by_steps) (n:=63) (k:=12) (x:="_law_script") (CX:=L2.CX0) (sp:=fun K=>L2.spM K K63.f_law) rfl (by decide) rfl ⟨rfl,by decide,by decide⟩ rfl (fun w mg fa h K S L X G hmg=>K63.all_mk S X G hmg (.head _) (L2.map_mem L.1 (.head _))) (fun K H a ns hl hO hS=>L2.spM_law hS (K63.pure ns hl)) (fun _ _ _ _ h=>h) (fun q hq r hr _=>by rw[List.mem_singleton.mp hq,List.mem_singleton.mp hr])
