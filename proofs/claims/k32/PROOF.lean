import PyProof.Rows.All
import Wide.All
import OpenK.AllK
import Lean
import PySem.Challenge.RW_mustrows_k32_broken
set_option Elab.async false
set_option linter.all false
set_option genSizeOf false
set_option maxRecDepth 100000
set_option maxHeartbeats 0
set_option tactic.hygienic false
noncomputable section
local macro_rules | `(tactic| obtain $p:rcasesPatMed := $e:term) => do
  let n := (p.raw.reprint.getD "").foldl (λn c => if c == ',' then n + 1 else n) 0
  let q := Lean.mkIdent `hzz
  if n < 2 then `(tactic| rcases $e:term with $p:rcasesPatMed) else `(tactic| (refine Classical.byContradiction fun $q => ?_; rcases $e:term with $p:rcasesPatMed; refine $q ?_; clear $q))
local macro_rules| `(tactic|trivial)=> `(tactic|contradiction)
abbrev Z_:=@List
abbrev Z9:=@Option
abbrev Z8:=@PySem.wpAny_bind
abbrev Z7:=@Option.some.inj
abbrev Z6:=@PySem.W.Frag
abbrev Z5:=@PySem.Heap.get?_push_of_some
abbrev Z4:=@PySem.wpAny_pure
abbrev Z3:=@PySem.Value
abbrev Z2:=@List.map_cons
abbrev Z1:=@List.mem_cons_of_mem
abbrev Z0:=@List.mem_cons
abbrev ZZ:=@List.mem_cons_self
abbrev ZY:=@List.getElem?_set_ne
abbrev ZX:=@List.getElem?_eq_some_iff
abbrev ZW:=@List.size_toArray
abbrev ZV:=@PySem.Heap.lt_size
abbrev ZU:=@List.getElem?_set_self
abbrev ZT:=@PySem.Shared
abbrev ZR:=@if_pos
abbrev ZQ:=@List.mem_map
abbrev ZP:=@Nat.le_refl
abbrev ZO:=@List.all_eq_true
abbrev ZN:=@PySem.Heap.get?_push_size
abbrev ZM:=@PySem.Addr
abbrev ZL:=@Option.some.injEq
abbrev ZK:=@if_neg
abbrev ZJ:=@List.length_map
abbrev ZI:=@Bool.false_eq_true
abbrev ZH:=@Bool.and_eq_true
abbrev ZG:=@List.mem_singleton
abbrev ZF:=@Nat.le_trans
abbrev ZE:=@List.mem_append_right
abbrev ZD:=@PyProof.Rows.wpS_bind
abbrev ZC:=@Ne.symm
abbrev ZA:=@decide_eq_false
abbrev Zz:=@Nat.lt_of_lt_of_le
abbrev Zy:=@PyProof.Rows.wpS_pure
abbrev Zx:=@List.drop_eq_getElem_cons
abbrev Zw:=@decide_eq_true
abbrev Zv:=@List.length_append
abbrev Zu:=@beq_iff_eq
abbrev Zt:=@List.not_mem_nil
abbrev Zs:=@Nat.ne_of_lt
abbrev Zr:=@Bool.false_ne_true
abbrev Zo:=@Nat.zero_le
abbrev Zn:=@PySem.Heap.get?_update_other
abbrev Zm:=@List.length_set
abbrev Zl:=@List.mem_append
abbrev Zk:=@PySem.Heap.get?_update_self
abbrev Zj:=@Array.toList_append
abbrev Zi:=@decide_eq_true_eq
abbrev Zh:=@of_decide_eq_true
abbrev Zg:=@List.append_assoc
abbrev Zf:=@List.mem_of_getElem?
abbrev Ze:=@List.map_congr_left
abbrev Zd:=@PySem.Heap.SameBut.update
abbrev Zc:=@Nat.lt_irrefl
abbrev Zb:=@if_false
abbrev Za:=@PySem.wpAny_holding
abbrev Y_:=@decide_eq_true_iff
abbrev Y9:=@PySem.Around
abbrev Y8:=@PySem.Around.under_plainId
abbrev Y7:=@PySem.Obj.data_mapFields
abbrev Y6:=@List.map_nil
abbrev Y5:=@PySem.Program
abbrev Y4:=@List.nodup_cons
abbrev Y3:=@List.append_nil
abbrev Y2:=@PySem.wpAny_call_entry
abbrev Y1:=@if_true
abbrev Y0:=@PySem.wpAny_newObj_type
abbrev YZ:=@List.mem_filter
abbrev YY:=@List.nodup_nil
abbrev YX:=@List.getElem?_eq_getElem
abbrev YW:=@List.map_append
abbrev YV:=@PySem.World
abbrev YU:=@PySem.codeAny_builtin
abbrev YT:=@PySem.wpAny_rule
abbrev YS:=@List.mem_append_left
abbrev YR:=@Array.getElem?_eq_getElem
abbrev YQ:=@List.Perm.refl
abbrev YO:=@Bool.eq_iff_iff
abbrev YN:=@PySem.wpAny_mono
abbrev YM:=@PySem.mem_of_lookup
abbrev YL:=@List.getElem?_eq_none
abbrev YK:=@or_false
abbrev YJ:=@List.idxOf_lt_length_of_mem
abbrev YI:=@PySem.Heap.size_push
abbrev YG:=@List.getD_eq_getElem?_getD
abbrev YF:=@PySem.wpAny_callSpecial?_slot
abbrev YE:=@decide_eq_decide
abbrev YD:=@List.take_of_length_le
abbrev YC:=@PyProof.Rows.wpS_forRange
abbrev YB:=@Array.toList_push
abbrev YA:=@Bool.not_true
abbrev Yz:=@PySem.W.kia_one
abbrev Yy:=@PySem.plainId_quiet
abbrev Yx:=@List.length_eq_zero_iff
abbrev Yw:=@PyProof.Rows.callWith_type1
abbrev Yv:=@List.getElem?_map
abbrev Yu:=@Bool.not_eq_true'
abbrev Yt:=@PySem.Paired.length
abbrev Ys:=@List.getElem?_append_left
abbrev Yr:=@PySem.wpAny_seqItems
abbrev Yp:=@Nat.lt_succ_self
abbrev Yo:=@decide_false
abbrev Yn:=@decide_true
abbrev Ym:=@List.mem_range
abbrev Yl:=@PySem.F.plainAttrs_list
abbrev Yk:=@List.nodup_append
abbrev Yj:=@List.cons.injEq
abbrev Yi:=@PySem.wpAny_setField
abbrev Yh:=@Nat.zero_add
abbrev Yg:=@List.set_set
abbrev Ye:=@PySem.wpAny_updateSeq
abbrev Yd:=@List.pairwise_cons
abbrev Yc:=@List.mem_filterMap
abbrev Yb:=@List.getElem?_append_right
abbrev X_:=@PySem.wpAny_isInstance
abbrev X9:=@PySem.wpAny_setField_rec
abbrev X8:=@PySem.MeetsSeq.plain_remove_loop
abbrev X7:=@List.pairwise_append
abbrev X6:=@List.getElem?_of_mem
abbrev X5:=@Array.toList_reverse
abbrev X4:=@PySem.Obj.isFreed_of_fields
abbrev X3:=@PySem.wpAny_specialOf
abbrev X2:=@List.reverse_append
abbrev X1:=@PySem.wpAny_truthy_bool
abbrev X0:=@PySem.sizeLine_eq
abbrev XZ:=@beq_self_eq_true
abbrev XY:=@List.mem_reverse
abbrev XX:=@List.any_eq_true
abbrev XW:=@Bool.not_false
abbrev XU:=@PyProof.Rows.wpS_modify
abbrev XT:=@PySem.wpAny_attempt
abbrev XS:=@List.map_map
abbrev XR:=@Array.getElem?_eq_none
abbrev XQ:=@PySem.F.plain_extend_loop
abbrev XO:=@PyProof.Rows.wpS_mono
abbrev XN:=@List.take_append_drop
abbrev XM:=@List.length_filter_le
abbrev XJ:=@PySem.wpAny_field
abbrev XI:=@PySem.wpAny_Call_Name_kw
abbrev XH:=@PySem.wpAny_passesOwn
abbrev XG:=@Nat.pow_le_pow_right
abbrev XF:=@Array.toList_extract
abbrev XE:=@Array.getElem?_eq_some_iff
abbrev XD:=@PySem.builtinLookup_eq_fast
abbrev XC:=@List.length_take
abbrev XB:=@List.getElem_mem
abbrev XA:=@PySem.wpAny_setState_of
abbrev Xz:=@Nat.pow_le_pow_left
abbrev Xy:=@Prod.mk.injEq
abbrev Xx:=@PySem.wpAny_askSetting
abbrev Xw:=@PySem.Heap.size_update
abbrev Xv:=@PySem.F.called_set
abbrev Xu:=@decide_eq_false_iff_not
abbrev Xs:=@List.pairwise_mergeSort
abbrev Xr:=@PySem.wpAny_setEntries_of
abbrev Xq:=@not_or
abbrev Xp:=@Option.map_eq_some_iff
abbrev Xo:=@List.pairwise_map
abbrev Xn:=@List.map_inj_left
abbrev Xm:=@List.length_range
abbrev Xl:=@List.ext_getElem?
abbrev Xk:=@List.eraseIdx_eq_take_drop_succ
abbrev Xj:=@List.drop_length
abbrev Xi:=@Bool.true_and
abbrev Xh:=@Bool.and_true
abbrev Xg:=@PySem.wpAny_typeOf
abbrev Xf:=@PySem.wpAny_pyIter_list
abbrev Xe:=@PySem.Obj.cls_mapFields
abbrev Xd:=@Nat.le_succ
abbrev Xc:=@List.reverse_reverse
abbrev Xb:=@PyProof.Rows.listUpdate_at
abbrev Xa:=@PySem.wpAny_forIn_list
abbrev W_:=@PySem.wpAny_typeNameOfWhole_keyiter
abbrev W9:=@PySem.Obj.data_mapDictKeys
abbrev W8:=@List.perm_ext_iff_of_nodup
abbrev W7:=@Array.append_empty
abbrev W6:=@PySem.typeLookup_type
abbrev W5:=@PySem.size_of_entries
abbrev W4:=@List.mem_of_find?_eq_some
abbrev W3:=@PySem.F.slot_dict_keyiterator_next
abbrev W2:=@not_false_eq_true
abbrev W0:=@Option.isSome_map
abbrev WZ:=@List.Pairwise.map
abbrev WY:=@PySem.codeAny_mono
abbrev WX:=@PySem.F.type_list_append
abbrev WW:=@PySem.F.slot_list_append
abbrev WV:=@PySem.F.args_tuple_add_2
abbrev WU:=@List.length_filterMap_le
abbrev WT:=@PySem.wpAny_fieldsOf
abbrev WR:=@PySem.isSubtype_stop
abbrev WQ:=@PySem.F.entry_tuple_add
abbrev WO:=@PySem.W.cellsFrom_some
abbrev WN:=@PySem.F.slot_tuple_add
abbrev WM:=@Nat.le_of_lt
abbrev WL:=@List.drop_eq_nil_of_le
abbrev WK:=@PySem.wpAny_dictEntries
abbrev WJ:=@PyProof.Rows.get?_update_seq
abbrev WI:=@List.of_mem_zip
abbrev WH:=@List.forIn_cons
abbrev WG:=@PySem.F.slot_tuple_hash
abbrev WE:=@PySem.wpAny_typeNameOf_keyiter
abbrev WD:=@PySem.wpAny_newList
abbrev WB:=@PySem.F.slot_dict_get
abbrev WA:=@List.getElem?_zipWith
abbrev Wz:=@PySem.F.slot_list_getattribute
abbrev Wy:=@PySem.AutoSeq1.sub_tuple_tuple
abbrev Wx:=@Array.getElem?_toList
abbrev Ww:=@PySem.F.slot_list_lt
abbrev Wv:=@List.mem_iff_getElem
abbrev Wu:=@Bool.and_false
abbrev Wt:=@PySem.richCompare_meets_room
abbrev Ws:=@PySem.call_meets
abbrev Wr:=@List.mem_map_of_mem
abbrev Wq:=@List.length_pos_iff
abbrev Wp:=@PySem.wpAny_execs_nil
abbrev Wo:=@PySem.F.slot_zip_next
abbrev Wn:=@PyProof.Rows.wpS_get
abbrev Wm:=@PySem.wpAny_notOrdered_dict
abbrev Wl:=@PySem.wpAny_of_eq
abbrev Wk:=@PySem.wpAny_newTuple
abbrev Wj:=@PySem.wpAny_letGo
abbrev Wi:=@PySem.isSubtype_type
abbrev Wh:=@PyProof.Rows.F.plain_set_update_loop
abbrev Wg:=@PyProof.Rows.listItems_at
abbrev U:=@some
abbrev M:=@none
abbrev Y:=false
abbrev L:=true
abbrev PySem.Shared.z(s:PySem.Shared):Nat:=s.heap.objs.size
open PySem PyProof.Rows in
def fN{P:Y5}{w:YV}{A:Y9}{q:Type}{c:Prop}[Decidable c]{t e:Sem q}{Q:q->ZT->Prop}{E:Z3->ZT->Prop}{s:ZT}(h:c)(k:wpAny (model P w) A t Q E s):wpAny (model P w) A (if c then t else e) Q E s:=by rw[ZR h];exact k
open PySem PyProof.Rows in
def dF{P:Y5}{w:YV}{A:Y9}{q:Type}{c:Prop}[Decidable c]{t e:Sem q}{Q:q->ZT->Prop}{E:Z3->ZT->Prop}{s:ZT}(h:¬c)(k:wpAny (model P w) A e Q E s):wpAny (model P w) A (if c then t else e) Q E s:=by rw[ZK h];exact k
open PySem PyProof.Rows in
def aR{P:Y5}{w:YV}{A:Y9}{O q:Type}{c:Prop}[Decidable c]{t e:StateT q Sem O}{Q:O->q->Prop}{E:Z3->ZT->Prop}{s:ZT}{st:q}(h:c)(k:wpS (model P w) A E s t Q st):wpS (model P w) A E s (if c then t else e) Q st:=by rw[ZR h];exact k
open PySem PyProof.Rows in
def aN{P:Y5}{w:YV}{A:Y9}{O q:Type}{c:Prop}[Decidable c]{t e:StateT q Sem O}{Q:O->q->Prop}{E:Z3->ZT->Prop}{s:ZT}{st:q}(h:¬c)(k:wpS (model P w) A E s e Q st):wpS (model P w) A E s (if c then t else e) Q st:=by rw[ZK h];exact k
section
namespace L2
open PySem PySem.Spec PyProof.Rows PySem.W
class Lams where
 tb:Z_ (ZM×Str)
variable[Lams]
noncomputable def defArgs(s:Stmt):Arguments:=match s with
 |.FunctionDef _ a _ _ _ _ _ _ _ _=>a
 |_=>{posonlyargs:=[],args:=[],vararg:=M,kwonlyargs:=[],kw_defaults:=[],kwarg:=M,defaults:=[]}
def defBody(s:Stmt):Z_ Stmt:=match s with
 |.FunctionDef _ _ b _ _ _ _ _ _ _=>b
 |_=>[]
def defScope(s:Stmt):Scope:=match s with
 |.FunctionDef _ _ _ _ _ _ sc _ _ _=>sc
 |_=>{kind:=.function,names:=[],isGenerator:=Y,isCoroutine:=Y}
def zY(h:Heap):Frag:=(List.range h.objs.size).filterMap λa=>(h.get? a).bind λo=>if o.cls != .none||a==mainGlobals then U (a,o) else M
abbrev acy:=Str×Str×Arguments×FuncBody×Scope×ZM×Z_ (Str×ZM)×Z3×ZM
def Dz(fd:FuncData):acy:=(fd.name,fd.qualname,fd.params,fd.body,fd.scope,fd.globals,fd.closure,fd.defaults,fd.builtins)
noncomputable def D9(K:Frag)(x:Str):Z9 acy:=match nsIn K mainGlobals x with
 |some (some (.ref f))=>(match K.lookup f with
  |some ⟨_,_,.func fd,_⟩=>if codeIn K fd.code x then U (Dz fd) else M
  |_=>M)
 |_=>M
def v9(x:Str)(st:Stmt):acy:=(x,x,defArgs st,.stmts (defBody st),defScope st,mainGlobals,[],.none,builtinsNs)
noncomputable def oY(K:Frag)(x:Str):Z9 Z3:=match nsIn K mainGlobals x with
 |some (some (.ref f))=>(match K.lookup f with
  |some ⟨_,_,.func fd,_⟩=>U fd.code
  |_=>M)
 |_=>M
def Gj:Obj:={cls:=.none,data:=.fields #[]}
noncomputable def YfH(defs:Z_ (Str×Stmt))(bl:Z_ Str)(cs:Z_ (Str×ZM))(s:ZT):=
 (λ(h:Heap) (K:Frag)=>(defs.map (λp=>D9 K p.1),bl.map (nsIn K mainGlobals),cs.map (λp=>oY K p.1),Lams.tb.map (λq=>h.get? q.1),(Lams.tb.zip cs).map (λq=>codeHdIn K q.2.2 q.1.1),Lams.tb.map (λq=>K.lookup q.1))) s.heap (zY s.heap)
noncomputable def YaH(defs:Z_ (Str×Stmt))(bl:Z_ Str)(cs:Z_ (Str×ZM))(_:YV):=
 (defs.map (λp=>U (v9 p.1 p.2)),bl.map (λ_=>U (M:Z9 Z3)),cs.map (λp=>U (Value.ref p.2)),Lams.tb.map (λ_=>U Gj),(Lams.tb.zip cs).map (λ_=>L),Lams.tb.map (λ_=>(M:Z9 Obj)))
end L2
namespace K32
open PySem L2
def top(i:Nat):Stmt:=PySem.Challenge.pw_mustrows_k32_broken.main.body.getD i (.Pass ⟨0,0,0,0⟩)
abbrev Gw:=top 1
abbrev Gc:=top 3
abbrev GC:=top 4
abbrev F1:=top 11
abbrev GK:=top 10
abbrev Gi:=top 9
abbrev BH:=top 8
abbrev GB:=top 14
abbrev Gd:=top 12
abbrev Gh:=top 15
abbrev Gs:=top 13
abbrev FM:=top 7
abbrev F9:=top 5
abbrev Fg:=top 6
abbrev GA:=top 21
abbrev FV:=top 18
abbrev Gk:=top 20
abbrev FZ:=top 22
abbrev F0:=top 19
abbrev Fj:=top 17
abbrev GF:=top 24
abbrev Gg:=top 25
abbrev FP:=top 26
abbrev F7:=top 27
abbrev F6:=top 28
abbrev FR:=top 29
abbrev FT:=top 30
abbrev F8:=top 31
abbrev FQ:=top 32
abbrev FY:=top 33
abbrev Gx:=top 34
abbrev FS:=top 35
abbrev Gm:=top 36
abbrev FO:=top 37
abbrev s_law:=top 38
abbrev blK:Z_ Str:=["any","dict","enumerate","isinstance","len","list","range","set","sorted","sum","tuple","zip"]
noncomputable def defsK:Z_ (Str×Stmt):=([("exchanged",Gw),("filled",Gc),("letters_of",GC),("binding_of",F1),("bindings",GK),("is_linked",Gi),("search_order",BH),("places_of",GB),("grouped",Gd),("picked",Gh),("extended",Gs),("joined_from",FM),("joined",F9),("fits_from",Fg),("two_terms",GA),("deciding_letters",FV),("is_unlike",Gk),("two_cells",FZ)]:Z_ (Str×Stmt))++([("broken_cells",F0),("broken",Fj),("_law_mix",GF),("_law_words",Gg),("_law_world",FP),("_law_letters",F7),("_law_cell_by",F6),("_law_row",FR),("_law_stand",FT),("_law_pattern",F8),("_law_joined",FQ),("_law_fits",FY),("_law_cell_of",Gx),("_law_unknowns",FS),("_law_term",Gm),("_law_told",FO),("law",s_law)]:Z_ (Str×Stmt))
end K32
noncomputable def Fw:Z_ Nat:=((PySem.Challenge.pw_mustrows_k32_broken.main.body.zipIdx.filter λp=>match p.1 with|.FunctionDef .. =>true|_=>false).map (·.2))
theorem K32.hl0:PySem.W.LeftO PySem.Challenge.rw_mustrows_k32_broken.row.prog (PySem.W.view PySem.Challenge.pw_mustrows_k32_broken Fw) [] (fun _=>true) (@L2.YfH ⟨[(48,"search_order.<locals>.<lambda>")]⟩ K32.defsK K32.blK [("search_order",50)]) (@L2.YaH ⟨[(48,"search_order.<locals>.<lambda>")]⟩ K32.defsK K32.blK [("search_order",50)]) 2000:=fun w=>by kernel_rfl
theorem K32.hl1:PySem.Challenge.rw_mustrows_k32_broken.wellSaid=true:=by kernel_rfl
theorem K32.hl7:(PySem.W.chainsOk (PySem.W.view PySem.Challenge.pw_mustrows_k32_broken Fw)&&PySem.W.opensWell PySem.Challenge.rw_mustrows_k32_broken.row.prog&&(PySem.W.frees PySem.Challenge.rw_mustrows_k32_broken.row.toRowW&&PySem.Challenge.rw_mustrows_k32_broken.row.within.isEmpty))=true:=by kernel_rfl
namespace L2
theorem aP{q:Type u}{x a:q}{xs:Z_ q}:(x::xs).set 0 a=a::xs:=rfl
theorem aQ{q:Type u}{x a:q}{xs:Z_ q}{i:Nat}:(x::xs).set (i+1) a=x::xs.set i a:=rfl
theorem bG{q:Type u}{a:q}{as:Z_ q}:(a::as).length=as.length+1:=rfl
theorem fU{q:Type u}:([]:Z_ q).length=0:=rfl
def rF{q:Type u}{a:q}{l:Z_ q}{f:q->Bool}:(a::l).all f=(f a&&l.all f):=rfl
open PySem PySem.Spec PyProof.Rows
abbrev Key:=Sum Int Str
inductive D where
 |non|bl (b:Bool)|int (i:Int)|str (x:Str)|tup (ds:List D)|lst (ds:List D)|dK (ks:List Key) (vs:List D)
 |dD (ks vs:List D)
instance:DecidableEq D:=λ_ _=>Classical.propDecidable _
def bH:Nat->D->Bool
 |_,.int _=>L
 |_,.str _=>L
 |n+1,.tup ds=>ds.all (bH n)
 |_,_=>Y
mutual
def fO(w:YV):D->Int
 |.int i=>hashInt i
 |.str x=>hashStr w x
 |.tup ds=>reduceHash (Builtin.Tuple.tupleHashOf (lR w ds))
 |_=>0
def lR(w:YV):Z_ D->Z_ Int
 |[]=>[]
 |d::ds=>fO w d::lR w ds
end
theorem iX(w:YV):∀ds:Z_ D,lR w ds=ds.map (fO w)
 |[]=>by simp[lR]
 |d::ds=>by simp[lR,iX w ds]
def dY(h:bH n (.tup ds)=L):∃k,n=k+1/\ds.all (bH k)=L:=by
 cases n with
 |zero=>simp[bH]at h
 |succ n=>exact⟨n,rfl,by simpa[bH]using h⟩
mutual
def fF:D->Nat
 |.int _=>1
 |.str _=>1
 |.tup ds=>cy ds+1
 |_=>0
def cy:Z_ D->Nat
 |[]=>0
 |d::ds=>fF d+cy ds
end
theorem gI(d:D):∀ds:Z_ D,cy (ds++[d])=cy ds+fF d
 |[]=>by simp[cy]
 |x::ds=>by rw[List.cons_append];simp only[cy];rw[gI d ds];lia
mutual
def RH(h:Heap):D->Z3->Prop
 |.int i,v=>∃t,v=.int i t
 |.str x,v=>∃t,v=.str x t
 |.tup ds,v=>∃a its,v=.ref a/\IsTup h a its.toArray/\RHs h ds its
 |_,_=>False
def RHs(h:Heap):Z_ D->Z_ Z3->Prop
 |[],vs=>vs=[]
 |d::ds,vs=>∃v r,vs=v::r/\RH h d v/\RHs h ds r
end
theorem RHs.length:∀{ds:Z_ D}{vs:Z_ Z3},RHs h ds vs->ds.length=vs.length
 |[],vs,r=>by simp only[RHs]at r;subst r;rfl
 |d::ds,vs,r=>by
  simp only[RHs]at r;obtain⟨v,q,rfl,_,r2⟩:=r;simp[RHs.length r2]
theorem RHs.get:∀{ds:Z_ D}{vs:Z_ Z3}{i:Nat}{d:D},RHs h ds vs->ds[i]?=U d->∃v,vs[i]?=U v/\RH h d v
 |[],vs,i,d,_,e=>by simp at e
 |x::ds,vs,0,d,r,e=>by
  simp only[RHs]at r;obtain⟨v,q,rfl,r1,_⟩:=r;simp at e;subst e;exact⟨v,rfl,r1⟩
 |x::ds,vs,i+1,d,r,e=>by
  simp only[RHs]at r;obtain⟨v,q,rfl,_,r2⟩:=r;obtain⟨u,h1,h2⟩:=RHs.get (i:=i) (d:=d) r2 (by simpa using e);exact⟨u,by simpa using h1,h2⟩
mutual
theorem RH.inj:∀{d e:D}{v:Z3},RH h d v->RH h e v->d=e
 |.int i,e,v,r,q=>by
  simp only[RH]at r;obtain⟨t,rfl⟩:=r;cases e<;>simp only[RH]at q<;>first
   |(obtain⟨t',z⟩:=q;cases z;rfl)
   |(obtain⟨t',z⟩:=q;cases z;done)
   |(obtain⟨a,its,z,_⟩:=q;cases z)
   |cases q
 |.str i,e,v,r,q=>by
  simp only[RH]at r;obtain⟨t,rfl⟩:=r;cases e<;>simp only[RH]at q<;>first
   |(obtain⟨t',z⟩:=q;cases z;rfl)
   |(obtain⟨t',z⟩:=q;cases z;done)
   |(obtain⟨a,its,z,_⟩:=q;cases z)
   |cases q
 |.tup ds,e,v,r,q=>by
  simp only[RH]at r;obtain⟨a,its,rfl,⟨o,g,_,n,hd⟩,rs⟩:=r;cases e with
  |tup es=>
   simp only[RH]at q;obtain⟨b,Sh,z,⟨o',g',_,n',B_⟩,qs⟩:=q;cases z;rw[g]at g';obtain rfl:=Z7 g';rw[hd]at B_;have:its.toArray=Sh.toArray:=by injection B_
   have e2:its=Sh:=by simpa using this
   subst e2;rw[RHs.inj rs qs]
  |int _=>simp only[RH]at q;obtain⟨t',z⟩:=q;trivial
  |str _=>simp only[RH]at q;obtain⟨t',z⟩:=q;trivial
  |_=>simp only[RH]at q
 |.non,e,v,r,q=>by simp only[RH]at r
 |.bl _,e,v,r,q=>by simp only[RH]at r
 |.lst _,e,v,r,q=>by simp only[RH]at r
 |.dK _ _,e,v,r,q=>by simp only[RH]at r
 |.dD _ _,e,v,r,q=>by simp only[RH]at r
theorem RHs.inj:∀{ds es:Z_ D}{vs:Z_ Z3},RHs h ds vs->RHs h es vs->ds=es
 |[],es,vs,r,q=>by
  simp only[RHs]at r;subst r;cases es with
  |nil=>rfl
  |cons e es=>simp only[RHs]at q;obtain⟨v,z,e,_⟩:=q;trivial
 |d::ds,es,vs,r,q=>by
  simp only[RHs]at r;obtain⟨v,z,rfl,r1,r2⟩:=r;cases es with
  |nil=>simp only[RHs]at q;trivial
  |cons e es=>
   simp only[RHs]at q;obtain⟨v',z',e',q1,q2⟩:=q;cases e';rw[RH.inj r1 q1,RHs.inj r2 q2]
end
mutual
theorem RH.to(k:∀a o,h.get? a=U o->o.cls=.type "tuple"->(∃its n,o.data=.seq its n)->h'.get? a=U o):∀{d:D}{v:Z3},RH h d v->RH h' d v
 |.int i,v,r=>by simp only[RH]at r⊢;exact r
 |.str i,v,r=>by simp only[RH]at r⊢;exact r
 |.tup ds,v,r=>by
  simp only[RH]at r⊢;obtain⟨a,its,e,⟨o,g,hc,n,hd⟩,rs⟩:=r;exact⟨a,its,e,⟨o,k a o g hc ⟨_,_,hd⟩,hc,n,hd⟩,RHs.to k rs⟩
 |.non,v,r=>by simp only[RH]at r
 |.bl _,v,r=>by simp only[RH]at r
 |.lst _,v,r=>by simp only[RH]at r
 |.dK _ _,v,r=>by simp only[RH]at r
 |.dD _ _,v,r=>by simp only[RH]at r
theorem RHs.to(k:∀a o,h.get? a=U o->o.cls=.type "tuple"->(∃its n,o.data=.seq its n)->h'.get? a=U o):∀{ds:Z_ D}{vs:Z_ Z3},RHs h ds vs->RHs h' ds vs
 |[],vs,r=>by simp only[RHs]at r⊢;exact r
 |d::ds,vs,r=>by
  simp only[RHs]at r⊢;obtain⟨v,z,e,r1,r2⟩:=r;exact⟨v,z,e,RH.to k r1,RHs.to k r2⟩
end
def Cl:∀(n:Nat)(d:D)(u:Z3)(A:Y9)(s:ZT)(Q:Int->ZT->Prop)(E:Z3->ZT->Prop),bH n d=L->A.units+2*n+2<cLine->RH s.heap d u->
  Q (fO w d) {s with toks:=s.toks+fF d}->wpAny (model P w) A (pyHash u) Q E s:=by
 intro n
 induction n using Nat.strongRecOn with
 |ind n ih=>
 intro d u A s Q E hd hA rd hQ;cases d with
 |int i=>
  simp only[RH]at rd;obtain⟨t,rfl⟩:=rd;simp only[fO,fF]at hQ;exact wpAny_pyHash_int hQ
 |str i=>
  simp only[RH]at rd;obtain⟨t,rfl⟩:=rd;simp only[fO,fF]at hQ;exact wpAny_pyHash_str hQ
 |tup ds=>
  simp only[RH]at rd;obtain⟨a,its,rfl,⟨o,ho,hc,m,v_⟩,hr⟩:=rd;obtain⟨k,rfl,B_⟩:=dY hd;have hT:s.TypeIs (.ref a) "tuple":=⟨o,ho,hc⟩;unfold pyHash;unfold pyHashByItsType;refine Z8 (wpAny_cRoomFor_or (.inr (by lia)) (Z8 (X3 hT WG.lookup ?_)));show wpAny _ _ (if(U (Value.builtin "tuple.__hash__")==U Value.none)=L then _ else _) Q E _;refine dF (by rw[beq_builtin_none];exact Zr) ?_;refine Z8 (X3 hT WG.lookup ?_);show wpAny _ _ (callSpecialIfBoundUnlessNone? (.ref a) "__hash__" _ >>= _) Q E _;refine Z8 (wpAny_callSpecialIfBoundUnlessNone?_slot hT WG (Y2 WG hT F.entry_tuple_hash ?_ (F.args_tuple_hash_1 _)));show wpAny _ _ (Builtin.Tuple.tupleItemsOf (.ref a) >>= _) _ _ _;refine Z8 (wpAny_tupleItemsOf ho v_ (Z8 ?_));rw[<-Array.forIn_toList];refine Xa _
   (λaq (b:Array Int) s'=>∃done left,ds=done++left/\RHs s.heap left aq/\b.toList=done.map (fO w)/\s'={s with toks:=s.toks+cy done})
   _ ?_ ?_ _ _ ⟨[],ds,rfl,by simpa using hr,rfl,rfl⟩
  .intro v aq b s' hz;obtain⟨done,left,rfl,hl,hb,rfl⟩:=hz
   cases left with
   |nil=>simp only[RHs]at hl;trivial
   |cons d' Km=>
    simp only[RHs]at hl;obtain⟨v',r',e',r1,r2⟩:=hl;cases e';have J5:bH k d'=L:=by
     rw[List.all_append,ZH,rF,ZH]at B_;exact B_.2.1
    refine Z8 (ih k (by lia) d' v _ _ _ _ J5 ?_ r1 ?_);show A.units+1+2*k+2<cLine;lia
    .have et:({s with toks:=s.toks+cy done+fF d'}:ZT)={s with toks:=s.toks+cy (done++[d'])}:=by rw[gI,Nat.add_assoc]
     first
      |exact Z4 ⟨done++[d'],Km,by simp,r2,by simp[hb],et⟩
      |exact Z8 (Z4 (Z4 ⟨done++[d'],Km,by simp,r2,by simp[hb],et⟩))
  .intro b s' hz;obtain⟨done,left,rfl,hl,hb,rfl⟩:=hz
   have OL:left=[]:=by
    have:=hl.length;cases left with
    |nil=>rfl
    |cons _ _=>simp at this
   subst OL;rw[Y3]at hQ;simp only[fO,iX,fF]at hQ;show wpAny _ _ (retInt (Builtin.Tuple.tupleHashOf b.toList)) _ _ _;rw[hb];refine wpAny_ret_mkInt ?_;show wpAny _ _ (if(decide (-(2:Int) ^ 63<=Builtin.Tuple.tupleHashOf (done.map (fO w)))&&decide (Builtin.Tuple.tupleHashOf (done.map (fO w))<2 ^ 63))=L then _ else _) Q E _;unfold reduceHash at hQ;by_cases hr:(decide (-(2:Int) ^ 63<=Builtin.Tuple.tupleHashOf (done.map (fO w)))&&decide (Builtin.Tuple.tupleHashOf (done.map (fO w))<2 ^ 63))=L;refine fN hr ?_;rw[ZR hr]at hQ;exact Z4 hQ;refine dF hr ?_;rw[ZK hr]at hQ;exact Z8 (YT (Z4 hQ))
 |_=>simp[bH]at hd
def zU:∀(n:Nat)(d:D)(u:Z3)(A:Y9)(s:ZT)(Q:Bool->ZT->Prop)(E:Z3->ZT->Prop),bH n d=L->RH s.heap d u->Q L s->wpAny (model P w) A (eqIsQuiet n u) Q E s:=by
 intro n
 induction n using Nat.strongRecOn with
 |ind n ih=>
 intro d u A s Q E hd rd hQ;cases d with
 |int i=>simp only[RH]at rd;obtain⟨t,rfl⟩:=rd;unfold eqIsQuiet;exact Z4 hQ
 |str i=>simp only[RH]at rd;obtain⟨t,rfl⟩:=rd;unfold eqIsQuiet;exact Z4 hQ
 |tup ds=>
  simp only[RH]at rd;obtain⟨a,its,rfl,⟨o,ho,hc,m,v_⟩,hr⟩:=rd;obtain⟨k,rfl,B_⟩:=dY hd;have hT:s.TypeIs (.ref a) "tuple":=⟨o,ho,hc⟩;unfold eqIsQuiet;refine Z8 (X3 hT F.slot_tuple_eq.lookup ?_);dsimp only;refine Z8 (X_ hT isSubtype_tuple_tuple ?_);simp only[YA,ZI,Zb];refine Z8 (Yr ho v_ (Z8 ?_));simp only[Option.getD_some];rw[<-Array.forIn_toList];refine Xa _ (λaq b s'=>b.1=M/\s'=s/\∃left,left.all (bH k)=L/\RHs s.heap left aq) _ ?_ ?_ _ _ ⟨rfl,rfl,ds,B_,by simpa using hr⟩;intro v aq b s' hz;obtain⟨hb,rfl,left,JM,hl⟩:=hz;cases left with
  |nil=>simp only[RHs]at hl;trivial
  |cons d' Km=>
   simp only[RHs]at hl;obtain⟨v',r',e',r1,r2⟩:=hl;cases e';rw[rF,ZH]at JM;refine Z8 (ih k (by lia) d' v _ _ _ _ JM.1 r1 ?_);simp only[YA,ZI,Zb];exact Z4 ⟨rfl,rfl,Km,JM.2,r2⟩
  rintro⟨b1,b2⟩ s' ⟨hb,rfl,_⟩
  simp only at hb;subst hb;exact Z4 hQ
 |_=>simp[bH]at hd
def BM:∀(ds es:Z_ D),ds.length=es.length->((List.range ds.length).all λj=>decide (ds[j]?=es[j]?))=decide (ds=es):=by
 intro ds es hl;rw[YO,ZO,Y_];constructor;intro h;refine Xl λj=>?_;by_cases hj:j<ds.length;exact Zh (h j (Ym.mpr hj));rw[YL (by lia),YL (by lia)]
 rintro rfl j _
 exact Zw rfl
def By(ds es:Z_ D):(((List.range (min ds.length es.length)).all λj=>decide (ds[j]?=es[j]?))&&ds.length==es.length)=decide (ds=es):=by
 by_cases hl:ds.length=es.length;rw[hl,Nat.min_self,XZ,Xh,<-hl,BM ds es hl];rw[show(ds.length==es.length)=Y by simpa using hl,Wu,ZA λz=>hl (by rw[z])]
open SeqAt in
def G2:∀(n:Nat)(d e:D)(u w:Z3)(A:Y9),bH n d=L->bH n e=L->A.units+n+1<cLine->RH s.heap d u->RH s.heap e w->EqAt A s u w (decide (d=e)):=by
 intro n
 induction n using Nat.strongRecOn with
 |ind n ih=>
 intro d e u w A hd he hA rd re;have hu:A.units<cLine:=by lia
 cases d with
 |int i=>
  simp only[RH]at rd;obtain⟨t',rfl⟩:=rd;cases e with
  |int j=>
   simp only[RH]at re;obtain⟨t,rfl⟩:=re;rw[show decide (D.int i=D.int j)=(i==j) by rw[YO,Y_,Zu,D.int.injEq]];exact EqAt.int_int i t' j t
  |str j=>simp only[RH]at re;obtain⟨t,rfl⟩:=re;rw[ZA nofun];exact EqAt.int_str i t' j t
  |tup es=>simp only[RH]at re;obtain⟨b,its,rfl,ht,_⟩:=re;rw[ZA nofun];exact EqAt.int_tuple i t' ht hu
  |_=>simp[bH]at he
 |str i=>
  simp only[RH]at rd;obtain⟨t',rfl⟩:=rd;cases e with
  |int j=>simp only[RH]at re;obtain⟨t,rfl⟩:=re;rw[ZA nofun];exact EqAt.str_int i t' j t
  |str j=>
   simp only[RH]at re;obtain⟨t,rfl⟩:=re;rw[show decide (D.str i=D.str j)=(i==j) by rw[YO,Y_,Zu,D.str.injEq]];exact EqAt.str_str i t' j t
  |tup es=>simp only[RH]at re;obtain⟨b,its,rfl,ht,_⟩:=re;rw[ZA nofun];exact EqAt.str_tuple i t' ht hu
  |_=>simp[bH]at he
 |tup ds=>
  have Uh:=rd;simp only[RH]at rd;obtain⟨a,its,rfl,C_,hr⟩:=rd;obtain⟨k,rfl,B_⟩:=dY hd;cases e with
  |int j=>simp only[RH]at re;obtain⟨t,rfl⟩:=re;rw[ZA nofun];exact EqAt.tuple_int j t C_ hu
  |str j=>simp only[RH]at re;obtain⟨t,rfl⟩:=re;rw[ZA nofun];exact EqAt.tuple_str j t C_ hu
  |tup es=>
   have Ug:=re;simp only[RH]at re;obtain⟨b,k_,rfl,z_,J4⟩:=re;obtain⟨k',e',LU⟩:=dY he;cases e';have l1:=hr.length;have l2:=J4.length;by_cases Jw:a=b;subst Jw;rw[Zw (RH.inj Uh Ug)];exact EqAt.same _;have el:∀j (h1:j<its.toArray.size) (h2:j<k_.toArray.size),EqAt A.in1 s its.toArray[j] k_.toArray[j] (decide (ds[j]?=es[j]?)):=λj h1 h2=>by
    simp only[ZW]at h1 h2;obtain⟨d',J5⟩:∃d',ds[j]?=U d':=⟨ds[j]'(by lia),by simp⟩
    obtain⟨e',MD⟩:∃e',es[j]?=U e':=⟨es[j]'(by lia),by simp⟩
    obtain⟨u',Ks,PX⟩:=hr.get J5;obtain⟨w',NV,F_⟩:=J4.get MD;have q:=ih k (Yp k) d' e' u' w' A.in1 ((ZO.mp B_) d' (Zf J5)) ((ZO.mp LU) e' (Zf MD)) (by show A.units+1+k+1<cLine;lia) PX F_;have g1:its.toArray[j]=u':=by simpa using(ZX.mp Ks).2
    have g2:k_.toArray[j]=w':=by simpa using(ZX.mp NV).2
    rw[g1,g2,J5,MD,show decide (U d'=U e')=decide (d'=e') by simp];exact q
   have key:((List.range (min its.toArray.size k_.toArray.size)).all (λj=>decide (ds[j]?=es[j]?))&&its.toArray.size==k_.toArray.size)=decide (D.tup ds=D.tup es):=by
    rw[ZW,ZW,<-l1,<-l2,By];simp only[D.tup.injEq]
   have rc:=RcAt.tuples C_ z_ hu el;rw[key]at rc;exact EqAt.of_refs Jw rc
  |_=>simp[bH]at he
 |_=>simp[bH]at hd
noncomputable def bp(P:Y5)(w:YV):HeapKind P w D where
 is h d a:=bH 8 d=L/\RH h d (.ref a)
 hash:=fO w
 draws:=fF
 room A:=A.units+30<cLine
 inj hx hy:=RH.inj hx.2 hy.2
 keeps:=λ{h h' k a d o es ep} hk ho hd hs=>⟨hk.1,hk.2.to λb u g _ ⟨its,n,q⟩=>((hs.2 b (λe=>by subst e;rw[ho]at g;obtain rfl:=Z7 g;rw[hd]at q;trivial)).trans g)⟩
 pyHash:=λ{A E s k a Q} hr hk h=>Cl 8 k _ A s Q E hk.1 (by lia) hk.2 h
 eqBool:=λ{A E s x y a b Q} hr hx hy h=>G2 8 x y _ _ A hx.1 hy.1 (by lia) hx.2 hy.2 P w E Q h
 quiet:=λ{A E s k a Q} hk h=>zU 8 k _ A s Q E hk.1 hk.2 h
def qH:Key->Z3->Bool
 |.inl k,v=>Value.isInt k v
 |.inr x,v=>Value.isStrOf x v
def HH(w:YV):Key->Int
 |.inl k=>hashInt k
 |.inr x=>hashStr w x
def aO:∀{k:Key}{v:Z3},qH k v=L->(∃i t,k=Sum.inl i/\v=Value.int i t)\/(∃x t,k=Sum.inr x/\v=Value.str x t)
 |.inl i,v,h=>by
  obtain⟨t,e⟩:=Value.isInt_shape (k:=i) (v:=v) h;exact .inl ⟨i,t,rfl,e⟩
 |.inr x,v,h=>by
  obtain⟨t,e⟩:=Value.isStrOf_shape (x:=x) (v:=v) h;exact .inr ⟨x,t,rfl,e⟩
def vD(i:Int)(t:Tok):qH (.inl i) (.int i t)=L:=by simp[qH,Value.isInt]
def vE(x:Str)(t:Tok):qH (.inr x) (.str x t)=L:=by simp[qH,Value.isStrOf]
def CN(a b:Int):decide ((Sum.inl a:Key)=Sum.inl b)=(a==b):=by
 by_cases e:a=b;subst e;simp;have h:¬(Sum.inl a:Key)=Sum.inl b:=λq=>e (Sum.inl.inj q);rw[ZA h];exact(beq_eq_false_iff_ne.mpr e).symm
def D0(a b:Str):decide ((Sum.inr a:Key)=Sum.inr b)=decide (a=b):=by
 by_cases e:a=b;subst e;simp;have h:¬(Sum.inr a:Key)=Sum.inr b:=λq=>e (Sum.inr.inj q);rw[ZA h,ZA e]
def Ds(a:Int)(b:Str):decide ((Sum.inl a:Key)=Sum.inr b)=Y:=ZA (λq=>nomatch q)
def Dx(a:Str)(b:Int):decide ((Sum.inr a:Key)=Sum.inl b)=Y:=ZA (λq=>nomatch q)
noncomputable def bN(prog:Y5)(w:YV):PySem.KeyKind prog w Key where
 is:=qH
 hash:=HH w
 inj:=λv a b ha hb=>by
  rcases aO ha with⟨i,t,rfl,rfl⟩|⟨x,t,rfl,rfl⟩;rcases aO hb with⟨j,u,rfl,e⟩|⟨y,u,rfl,e⟩;injection e with e1 _;rw[e1];exact nomatch e;rcases aO hb with⟨j,u,rfl,e⟩|⟨y,u,rfl,e⟩;exact nomatch e;injection e with e1 _;rw[e1]
 byValue:=λk v h=>by
  rcases aO h with⟨i,t,rfl,rfl⟩|⟨x,t,rfl,rfl⟩<;>rfl
 pyHash:=λhv h=>by
  rcases aO hv with⟨i,t,rfl,rfl⟩|⟨x,t,rfl,rfl⟩;exact wpAny_pyHash_int h;exact wpAny_pyHash_str h
 eqBool:=λhu hv h=>by
  rcases aO hu with⟨i,t,rfl,rfl⟩|⟨x,t,rfl,rfl⟩;rcases aO hv with⟨j,u,rfl,rfl⟩|⟨y,u,rfl,rfl⟩;rw[CN]at h;exact wpAny_eqBool_int h;rw[Ds]at h;exact SeqAt.EqAt.int_str i t y u _ _ _ _ h;rcases aO hv with⟨j,u,rfl,rfl⟩|⟨y,u,rfl,rfl⟩;rw[Dx]at h;exact SeqAt.EqAt.str_int x t j u _ _ _ _ h;rw[D0]at h;exact wpAny_eqBool_str h
 «strs»:=λk x t v h=>by
  rcases aO h with⟨i,u,rfl,e⟩|⟨y,u,rfl,e⟩;exact nomatch e
  .injection e with e1 _
   subst e1;cases v<;>rfl
def nF(prog:Y5)(w:YV)(i:Int)(t:Tok):(bN prog w).is (.inl i) (.int i t)=L:=vD i t
def mY(prog:Y5)(w:YV)(x:Str)(t:Tok):(bN prog w).is (.inr x) (.str x t)=L:=vE x t
inductive V where
 |non|bl (b:Bool)|int (i:Int)|str (x:Str)|byt (b:Array UInt8)|flt (b:UInt64)|ref (a:ZM)|ty (n:String)
 deriving DecidableEq
def RelV:V->Z3->Prop
 |.non,u=>u=Value.none
 |.bl b,u=>u=Value.bool b
 |.int i,u=>∃t,u=Value.int i t
 |.str x,u=>∃t,u=Value.str x t
 |.byt b,u=>∃t,u=Value.bytes b t
 |.flt b,u=>∃t,u=Value.float b t
 |.ref a,u=>u=Value.ref a
 |.ty n,u=>u=Value.type n
abbrev aac:Z_ V->Z_ Z3->Prop:=Paired RelV
theorem aac.length(r:aac xs us):xs.length=us.length:=Yt r
theorem aac.get:∀{xs:Z_ V}{us:Z_ Z3}{i:Nat}{x:V},aac xs us->xs[i]?=U x->∃u,us[i]?=U u/\RelV x u
 |_,_,_,_,.nil,e=>by simp at e
 |_,_,0,_,.cons r _,e=>by simp at e;subst e;exact⟨_,rfl,r⟩
 |_,_,i+1,x,.cons _ t,e=>by
  obtain⟨u,h1,h2⟩:=aac.get (i:=i) (x:=x) t (by simpa using e);exact⟨u,by simpa using h1,h2⟩
theorem aac.set(r:RelV x u):∀{xs:Z_ V}{us:Z_ Z3}(i:Nat),aac xs us->aac (xs.set i x) (us.set i u)
 |_,_,_,.nil=>.nil
 |_,_,0,.cons _ t=>.cons r t
 |_,_,i+1,.cons q t=>.cons q (aac.set r i t)
theorem aac.append:∀{xs ys:Z_ V}{us ws:Z_ Z3},aac xs us->aac ys ws->aac (xs++ys) (us++ws)
 |_,_,_,_,.nil,s=>s
 |_,_,_,_,.cons r t,s=>.cons r (aac.append t s)
theorem aac.take:∀{xs:Z_ V}{us:Z_ Z3}(n:Nat),aac xs us->aac (xs.take n) (us.take n)
 |_,_,0,_=>.nil
 |_,_,_+1,.nil=>.nil
 |_,_,n+1,.cons r t=>.cons r (aac.take n t)
theorem aac.drop:∀{xs:Z_ V}{us:Z_ Z3}(n:Nat),aac xs us->aac (xs.drop n) (us.drop n)
 |_,_,0,r=>r
 |_,_,_+1,.nil=>.nil
 |_,_,n+1,.cons _ t=>aac.drop n t
def aaT:Z9 V->Z9 Z3->Prop
 |some v,some u=>RelV v u
 |none,none=>True
 |_,_=>False
def KV{κ:Type}:Z_ (κ×V)->Z_ (κ×Z3)->Prop:=Paired λ(p:κ×V) (q:κ×Z3)=>p.1=q.1/\RelV p.2 q.2
def kV:Key->V
 |.inl i=>.int i
 |.inr x=>.str x
inductive HO where
 |lst (xs:List V)
 |tup (xs:List V)
 |dK (kvs:List (Key×V))|dD (kvs:List (D×V)) (ep:Nat)
 |own (x:ZM)
 |rng (lo hi:Int)
 |frz (o:Obj) (u:HO)
 |tbl (lq:Str) (ps:Array Z3)
 |ext (φ:Heap->Prop)
abbrev Hp:=ZM->Z9 HO
def upd(H:Hp)(a:ZM)(o:HO):Hp:=λb=>if b=a then U o else H b
def ah:upd H a o a=U o:=by unfold upd;rw[ZR rfl]
def ai(h:b≠a):upd H a o b=H b:=by unfold upd;rw[ZK h]
def tO:upd (upd H a o) a u=upd H a u:=by
 funext b;unfold upd;split<;>rfl
def mU{H:Hp}(h:H a=U o)(h':H b=U u)(d:o≠u):a≠b:=by
 intro e;subst e;rw[h]at h';exact d (Z7 h')
def ay{H:Hp}(h:H a=U o)(h':H b=M):a≠b:=by
 intro e;subst e;rw[h]at h';trivial
mutual
def KR(H:Hp):D->V->Prop
 |.int i,v=>v=.int i
 |.str x,v=>v=.str x
 |.tup ds,v=>∃a xs,v=.ref a/\H a=U (.tup xs)/\KRs H ds xs
 |_,_=>False
def KRs(H:Hp):Z_ D->Z_ V->Prop
 |[],xs=>xs=[]
 |d::ds,xs=>∃x r,xs=x::r/\KR H d x/\KRs H ds r
end
mutual
theorem KR.to(t:∀a xs,H a=U (.tup xs)->H' a=U (.tup xs)):∀{d:D}{v:V},KR H d v->KR H' d v
 |.int i,v,r=>by simp only[KR]at r⊢;exact r
 |.str i,v,r=>by simp only[KR]at r⊢;exact r
 |.tup ds,v,r=>by
  simp only[KR]at r⊢;obtain⟨a,xs,e,g,rs⟩:=r;exact⟨a,xs,e,t a xs g,KRs.to t rs⟩
 |.non,v,r=>by simp only[KR]at r
 |.bl _,v,r=>by simp only[KR]at r
 |.lst _,v,r=>by simp only[KR]at r
 |.dK _ _,v,r=>by simp only[KR]at r
 |.dD _ _,v,r=>by simp only[KR]at r
theorem KRs.to(t:∀a xs,H a=U (.tup xs)->H' a=U (.tup xs)):∀{ds:Z_ D}{xs:Z_ V},KRs H ds xs->KRs H' ds xs
 |[],xs,r=>by simp only[KRs]at r⊢;exact r
 |d::ds,xs,r=>by
  simp only[KRs]at r⊢;obtain⟨x,q,e,r1,r2⟩:=r;exact⟨x,q,e,KR.to t r1,KRs.to t r2⟩
end
def aau(H:Hp):Z_ (D×V)->Z_ (D×ZM×Z3)->Prop:=Paired λp q=>p.1=q.1/\bH 8 p.1=L/\KR H p.1 (.ref q.2.1)/\RelV p.2 q.2.2
section
variable(P:Y5)(w:YV)
def aak(H:Hp)(h:Heap)(a:ZM):HO->Prop
 |.lst xs=>xs.length<=sizeLine/\∃(its:Z_ Z3)(n:Nat),aac xs its/\h.get? a=U {cls:=.type "list",data:=.seq its.toArray n}
 |.tup xs=>xs.length<=sizeLine/\∃its:Z_ Z3,aac xs its/\IsTup h a its.toArray
 |.dK kvs=>kvs.length<=sizeLine/\(a==sysModules)=Y/\∃vs,KV kvs vs/\h.DictOf (bN P w) a vs
 |.dD kvs ep=>kvs.length<=sizeLine/\(a==sysModules)=Y/\∃xs,aau H kvs xs/\
   ∃o es,h.get? a=U o/\o.ExactDict/\o.data=.dict es ep/\es.toList=xs.map (entryOfKey (bp P w))/\(xs.map (·.1)).Nodup
 |.own _=>∃o,h.get? a=U o
 |.rng lo hi=>∃t u v,h.get? a=U {cls:=.type "range",data:=.fields #[.int lo t,.int hi u,.int 1 v]}
 |.frz o u=>h.get? a=U o/\aak H h a u
 |.tbl lq ps=>h.get? a=U {cls:=.none,data:=.fields ps}/\TriplesOk ps.toList/\∀pos cv,codeAmong pos ps.toList=U cv->
   ∃c' oc vs t,cv=.ref c'/\H c'=U (.own a)/\h.get? c'=U oc/\oc.data=.fields vs/\vs[1]?=U (.str lq t)
 |.ext φ=>φ h/\(∃o,h.get? a=U o)/\∀h1 h2:Heap,φ h1->(∀o,h1.get? a=U o->h2.get? a=U o)->φ h2
def HOk(H:Hp)(h:Heap):Prop:=∀a o,H a=U o->aak P w H h a o
end
section
variable{H':Hp}{h':Heap}{a:ZM}{o:HO}
theorem aak.lt(x:aak P w H h a o):a<h.objs.size:=by
 cases o with
 |lst xs=>obtain⟨_,_,_,_,e⟩:=x;exact ZV e
 |tup xs=>obtain⟨_,_,_,p⟩:=x;exact p.lt
 |dK kvs=>obtain⟨_,_,_,_,o,_,_,e,_⟩:=x;exact ZV e
 |dD kvs ep=>obtain⟨_,_,_,_,o,_,e,_⟩:=x;exact ZV e
 |own y=>obtain⟨_,e⟩:=x;exact ZV e
 |rng lo hi=>obtain⟨_,_,_,e⟩:=x;exact ZV e
 |frz ob u=>obtain⟨e,_⟩:=x;exact ZV e
 |tbl lq ps=>exact ZV x.1
 |ext φ=>obtain⟨_,⟨_,e⟩,_⟩:=x;exact ZV e
theorem Paired.abY{q O:Type}{F G:q->O->Prop}:∀{Oy:Z_ q}{Ox:Z_ O},Paired F Oy Ox->(∀a b,F a b->G a b)->Paired G Oy Ox
 |_,_,.nil,_=>.nil
 |_,_,.cons r t,f=>.cons (f _ _ r) (Paired.abY t f)
def aak.abk(x:aak P w H h a o)(k:∀b u,(b=a\/H b=U (.own a))->h.get? b=U u->h'.get? b=U u)(ho:∀b,H b=U (.own a)->H' b=U (.own a))(ht:∀b xs,H b=U (.tup xs)->H' b=U (.tup xs)):aak P w H' h' a o:=by
 induction o with
 |lst xs=>obtain⟨z,its,n,r,e⟩:=x;exact⟨z,its,n,r,k _ _ (.inl rfl) e⟩
 |tup xs=>obtain⟨z,its,r,ob,e,c⟩:=x;exact⟨z,its,r,ob,k _ _ (.inl rfl) e,c⟩
 |dK kvs=>obtain⟨z,y,vs,r,ob,es,ep,e,c⟩:=x;exact⟨z,y,vs,r,ob,es,ep,k _ _ (.inl rfl) e,c⟩
 |dD kvs ep=>
  obtain⟨z,y,xs,r,ob,es,e,c⟩:=x;exact⟨z,y,xs,Paired.abY r λp q z=>⟨z.1,z.2.1,KR.to ht z.2.2.1,z.2.2.2⟩,ob,es,k _ _ (.inl rfl) e,c⟩
 |own y=>obtain⟨ob,e⟩:=x;exact⟨ob,k _ _ (.inl rfl) e⟩
 |rng lo hi=>obtain⟨t,u,v,e⟩:=x;exact⟨t,u,v,k _ _ (.inl rfl) e⟩
 |frz ob u ih=>obtain⟨e,q⟩:=x;exact⟨k _ _ (.inl rfl) e,ih q⟩
 |tbl lq ps=>
  obtain⟨e,tr,r⟩:=x;refine⟨k _ _ (.inl rfl) e,tr,λpos cv q=>?_⟩;obtain⟨c',oc,vs,t,e1,e2,e3,e4⟩:=r pos cv q;exact⟨c',oc,vs,t,e1,ho _ e2,k _ _ (.inr e2) e3,e4⟩
 |ext φ=>obtain⟨p,⟨o,e⟩,st⟩:=x;exact⟨st _ _ p λo q=>k _ _ (.inl rfl) q,⟨o,k _ _ (.inl rfl) e⟩,st⟩
theorem HOk.lt(x:HOk P w H h)(e:H a=U o):a<h.objs.size:=(x a o e).lt
def HOk.fresh(x:HOk P w H h)(e:h.objs.size<=a):H a=M:=by
 cases q:H a with
 |none=>rfl
 |some u=>exact absurd (Zz (x.lt q) e) (Zc _)
def HOk.kept(x:HOk P w H h)(k:∀b u,h.get? b=U u->h'.get? b=U u):HOk P w H h':=λa o e=>
 (x a o e).abk (λb u _ q=>k b u q) (λ_ q=>q) λ_ _ q=>q
def HOk.laid(x:HOk P w H h)(k:∀b u,h.get? b=U u->h'.get? b=U u)(hp:h.objs.size<=a)(new:aak P w (upd H a o) h' a o):HOk P w (upd H a o) h':=λb u e=>by
 have hn:=x.fresh hp;by_cases hb:b=a;subst hb;rw[ah]at e;obtain rfl:=Z7 e;exact new;rw[ai hb]at e;exact(x b u e).abk (λc v _ q=>k c v q) (λc q=>by rw[ai (ay q hn)];exact q) λc xs q=>by rw[ai (ay q hn)];exact q
end
def Rd(H:Hp)(a:ZM)(u:HO):Prop:=H a=U u\/∃o,H a=U (.frz o u)
def Rd.ok(r:Rd H a u)(x:HOk P w H h):aak P w H h a u:=by
 rcases r with r|⟨o,r⟩;exact x a u r;obtain⟨_,q⟩:=x a _ r;exact q
def Mut:Z9 HO->Prop
 |some (.lst _)=>True
 |some (.dK _)=>True
 |some (.dD _ _)=>True
 |some (.ext _)=>True
 |_=>False
section
variable{h':Heap}
def HOk.write(ok:HOk P w H h)(mu:Mut (H x))(he:e=x\/H e=U (.own x))(k:∀b u,b≠e->h.get? b=U u->h'.get? b=U u)(Mg:∃u,h'.get? e=U u)(new:aak P w (upd H x o') h' x o'):HOk P w (upd H x o') h':=λb u q=>by
 have KC:∀c y,H c=U (.own y)->c≠x:=λc y r z=>by subst z;rw[r]at mu;exact mu
 have MM:∀c xs,H c=U (.tup xs)->c≠x:=λc xs r z=>by subst z;rw[r]at mu;exact mu
 by_cases hb:b=x;subst hb;rw[ah]at q;obtain rfl:=Z7 q;exact new;rw[ai hb]at q;by_cases MF:b=e;have q':H b=U (.own x):=by
  rcases he with z|z;exact absurd (MF.trans z) hb;rw[MF];exact z
 rw[q]at q';obtain rfl:=Z7 q';obtain⟨v,hv⟩:=Mg;exact⟨v,by rw[MF];exact hv⟩;refine(ok b u q).abk (λc v hc r=>k c v ?_ r) (λc r=>by rw[ai (KC c b r)];exact r) λc xs r=>by rw[ai (MM c xs r)];exact r
 rcases hc with rfl|hc;exact MF
 rintro rfl
 rcases he with z|z;exact KC c b hc z;rw[hc]at z;cases z;exact hb rfl
end
structure Un (fs ex:List ZM)(H H':Hp)(h h':Heap):Prop where
 keep:∀b o,h.get? b=some o->H b=none->b∉fs->b∉ex->h'.get? b=some o
 slot:∀b o,h.get? b=some o->H b=none->b∈fs->b∉ex->∃sl,h'.get? b=some {o with slots:=sl}
 free:∀b o,h.get? b=some o->H b=none->b∉ex->H' b=none
 there:∀b o,h.get? b=some o->b∉ex->∃o',h'.get? b=some o'
 aaW:∀b xs,H b=some (.tup xs)->H' b=some (.tup xs)
 aaS:∀b o u,H b=some (.frz o u)->H' b=some (.frz o u)
 aa1:∀b lq ps,H b=some (.tbl lq ps)->∃more,H' b=some (.tbl lq (ps++more))
section
variable{H:Hp}{h h':Heap}
def Un.any(u:Un fs ex H H1 h h1)(q:h.get? b=U ob)(n:H b=M)(hx:b∉ex):∃sl,h1.get? b=U {ob with slots:=sl}:=by
 by_cases hb:b∈fs;exact u.slot b ob q n hb hx;exact⟨ob.slots,u.keep b ob q n hb hx⟩
def Un.kept(k:∀b u,h.get? b=U u->h'.get? b=U u):Un fs ex H H h h':=
 ⟨λb ob q _ _ _=>k b ob q,λb ob q _ _ _=>⟨ob.slots,k b ob q⟩,λ_ _ _ n _=>n,λb ob q _=>⟨ob,k b ob q⟩,λ_ _ q=>q,λ_ _ _ q=>q,λ_ lq ps q=>⟨#[],by rw[q];simp⟩⟩
def Un.refl:Un fs ex H H h h:=Un.kept λ_ _ q=>q
def Un.laid(k:∀b u,h.get? b=U u->h'.get? b=U u)(hp:h.objs.size<=a)(hn:H a=M):Un fs ex H (upd H a o) h h' where
 keep:=λb u q _ _ _=>k b u q
 slot:=λb u q _ _ _=>⟨u.slots,k b u q⟩
 free:=λb u q n _=>by rw[ai (Zs (Zz (ZV q) hp))];exact n
 there:=λb u q _=>⟨u,k b u q⟩
 aaW:=λb xs q=>by rw[ai (ay q hn)];exact q
 aaS:=λb u xs q=>by rw[ai (ay q hn)];exact q
 aa1:=λb lq ps q=>⟨#[],by rw[ai (ay q hn),q];simp⟩
def Un.write(mu:Mut (H x))(he:e=x\/H e=U (.own x))(k:∀b u,b≠e->h.get? b=U u->h'.get? b=U u)(Mg:∃u,h'.get? e=U u):Un fs ex H (upd H x o) h h':=by
 have hx:∀b,H b=M->b≠x:=λb n z=>by subst z;rw[n]at mu;exact mu
 have hb:∀b,H b=M->b≠e:=λb n z=>by
  subst z;rcases he with r|r;exact hx b n r;rw[n]at r;trivial
 have hm:∀b u,H b=U u->¬Mut (U u)->b≠x:=λb u q nm z=>by subst z;rw[q]at mu;exact nm mu
 refine⟨λb u q n _ _=>k b u (hb b n) q,λb u q n _ _=>⟨u.slots,k b u (hb b n) q⟩,λb u q n _=>by rw[ai (hx b n)];exact n,λb u q _=>?_,
  λb xs q=>by rw[ai (hm b _ q λz=>z)];exact q,λb u xs q=>by rw[ai (hm b _ q λz=>z)];exact q,λb lq ps q=>⟨#[],by rw[ai (hm b _ q λz=>z),q];simp⟩⟩
 by_cases MF:b=e;subst MF;exact Mg;exact⟨u,k b u MF q⟩
end
def trk(h:Heap)(H:Hp):Z_ ZM:=(List.range h.objs.size).filter λa=>(H a).isSome
def wf(h:Heap)(H:Hp):Heap:=W.hideAll h (trk h H)
def tf(h:Heap)(H:Hp):(wf h H).objs.size=h.objs.size:=W.hideAll_size _ _
def wT(e:h.get? b=U o)(n:H b=M):(wf h H).get? b=U o:=
 W.hideAll_get _ e λhm=>by
  have q:(H b).isSome=L:=(YZ.mp hm).2;rw[n]at q;simp at q
def BB(e:(wf h H).get? b=U o):h.get? b=U o/\H b=M:=by
 have e':h.get? b=U o:=W.of_hideAll (trk h H) e;refine⟨e',?_⟩;cases q:H b with
 |none=>rfl
 |some x=>
  have hm:b∈trk h H:=YZ.mpr ⟨Ym.mpr (ZV e'),by simp[q]⟩;have z:(wf h H).get? b=M:=W.hideAll_none (trk h H) hm;rw[z]at e;trivial
noncomputable def Af(g h:Heap)(Lq:ZM):Z_ (ZM×Obj):=(List.range h.objs.size).filterMap λa=>if a=Lq\/(g.get? a).isSome=L then M else(h.get? a).map λo=>(a,o)
def aq(g h:Heap)(Lq d:ZM):Z_ (ZM×Obj):=(Af g h Lq).filter λp=>decide (p.1≠d)
section
structure Mod (K:Z6)(mg:Str->Z9 Z3)(base:Heap):Prop where
 kin:K.In base
 glob:base.Ns mainGlobals mg
 blt:∃mb,base.Ns builtinsNs mb/\∀x:Str,x≠"__name__"->mb x=bootBuiltins x
 nolimit:base.NoLimit
 bmain:∃bm ob,mg "__builtins__"=some (.ref bm)/\bm≠builtinsNs/\base.get? bm=some ob/\ob.cls=.type "module"/\ob.dict=some builtinsNs/\ob.data=.plain
structure Cx where
 prog:Y5
 w:YV
 K:Z6
 mg:Str->Z9 Z3
 base:Heap
 A:Y9
 N:List Str
 n_:ZT
 KW:Hp
 env:Env
 outer:List Env
 stack:List Env
 ex:List ZM
 fn:Str->Bool
 calm:Bool
 pn:List (ZM×Obj)
 xe:Z3->ZT->Prop
def frs(l:Z_ Env):Z_ ZM:=l.filterMap (·.frame)
abbrev Cx.fs(X:Cx):Z_ ZM:=frs X.outer
def Vis(sc:Scope)(x:Str):Prop:=sc.names.lookup x=U .local\/sc.names.lookup x=U .cell\/sc.names.lookup x=U .free
def Loc(sc:Scope)(x:Str):Prop:=sc.names.lookup x=U .local\/sc.names.lookup x=U .cell
def Il(env:Env)(h:Heap)(m:Str->Z9 Z3)(x:Str)(u:Z3):Prop:=
 (env.kindOf x=U .local/\m x=U u)\/((env.kindOf x=U .cell\/env.kindOf x=U .free)/\∃c,env.cells.lookup x=U c/\h.IsCell c (U u))
variable[Lams]
def abZ(H:Hp):Prop:=∀q∈Lams.tb,∃ps,H q.1=U (.tbl q.2 ps)
def abZ.to(h:abZ H)(tb:∀b lq ps,H b=U (.tbl lq ps)->∃more,H' b=U (.tbl lq (ps++more))):abZ H':=λq hq=>by
 obtain⟨ps,e⟩:=h q hq;obtain⟨m,e'⟩:=tb _ _ _ e;exact⟨_,e'⟩
structure Cx.Ok (X:Cx):Prop where
 mod:Mod X.K X.mg X.base
 kind:X.env.scope.kind=.function
 glob:X.env.globals=mainGlobals
 blt:X.env.builtins=builtinsNs
 above:X.n_.heap.objs.size<=X.env.locals
 inj:∀x y c,X.env.cells.lookup x=some c->X.env.cells.lookup y=some c->x=y
 has:∀x,(X.env.kindOf x=some .cell\/X.env.kindOf x=some .free)->∃c,X.env.cells.lookup x=some c
 cab:∀x c,X.fn x=true->X.env.cells.lookup x=some c->X.n_.heap.objs.size<=c
 hd:X.calm=true->X.A.handled=none
 frames:X.A.frames=some X.stack
 stk:X.stack=X.outer\/(X.stack=X.env::X.outer/\X.env.frame=some X.env.locals)
 exf:∀b∈X.ex,b≠X.env.locals/\∀x c,X.env.cells.lookup x=some c->c≠b
 bs:∀b o,X.base.get? b=some o->X.n_.heap.get? b=some o/\X.KW b=none
 bsz:X.base.objs.size<=X.n_.heap.objs.size
 ab7:∀b o,X.base.get? b=some o->b∉X.ex
 aci:∀b∈X.ex,b∉X.fs
 aa7:X.n_.heap.FunFrames X.base X.outer
 frf:∀b∈X.fs,X.KW b=none
 tabs:abZ X.KW
structure Inv (X:Cx)(a_:List (ZM×Obj))(σ:List (Z9 V))(H:Hp)(s:ZT):Prop where
 ok:X.Ok
 os:s.os=X.n_.os
 bare:AllBare s.gens
 base:Un X.fs X.ex X.KW H X.n_.heap s.heap
 loc:∃m,s.heap.Ns X.env.locals m/\∀(i:Nat)(x:Str)(v:V),X.N[i]?=some x->σ[i]?=some (some v)->Vis X.env.scope x->∃u,RelV v u/\Il X.env s.heap m x u
 cell:∀x c,X.env.cells.lookup x=some c->∃v,s.heap.IsCell c v
 free:H X.env.locals=none
 aaQ:∀x c,X.env.cells.lookup x=some c->H c=none
 pin:∀p∈X.pn++a_,s.heap.get? p.1=some p.2/\H p.1=none/\p.1≠X.env.locals/\p.1∉X.fs/\∀v,p.2.data≠.cell v
 hok:HOk X.prog X.w H s.heap
 len:σ.length=X.N.length
section
variable{X:Cx}{H':Hp}{h':Heap}
def Cx.Ok.acS(ok:X.Ok)(e:X.base.get? b=U o):b∉X.fs:=λhb=>by
 have:=(ok.aa7.mem hb).1;rw[e]at this;trivial
theorem Inv.bs(I:Inv X a_ q H s):∀b o,X.base.get? b=U o->s.heap.get? b=U o/\H b=M:=λb o e=>
 ⟨I.base.keep b o (I.ok.bs b o e).1 (I.ok.bs b o e).2 (I.ok.acS e) (I.ok.ab7 b o e),I.base.free b o (I.ok.bs b o e).1 (I.ok.bs b o e).2 (I.ok.ab7 b o e)⟩
def Inv.bk(I:Inv X a_ q H s):∀b o,X.base.get? b=U o->s.heap.get? b=U o:=λb o e=>(I.bs b o e).1
theorem Inv.mod(I:Inv X a_ q H s):Mod X.K X.mg X.base:=I.ok.mod
def Inv.kIn(I:Inv X a_ q H s):X.K.In s.heap:=I.ok.mod.kin.keeps I.bk
theorem Inv.lt(I:Inv X a_ q H s):X.env.locals<s.z:=let ⟨_,hn,_⟩:=I.loc;hn.lt
def Inv.sz(I:Inv X a_ q H s):X.n_.z<=s.z:=ZF I.ok.above (WM I.lt)
def Inv.acs(I:Inv X a_ q H s)(h:s.z<=a):a∉X.fs:=λhb=>by
 obtain⟨_,o,ho,_⟩:=I.ok.aa7.mem hb;exact absurd (Zz (ZV ho) (ZF I.sz h)) (Zc _)
def Inv.cne(I:Inv X a_ q H s):∀x c,X.env.cells.lookup x=U c->c≠X.env.locals:=λx c e z=>by
 obtain⟨v,o,ho,hd⟩:=I.cell x c e;obtain⟨m,⟨o',es,ep,Mz,B_,_⟩,_⟩:=I.loc;rw[z,Mz]at ho;obtain rfl:=Z7 ho;rw[B_]at hd;trivial
theorem Inv.aa7(I:Inv X a_ q H s):s.heap.FunFrames X.base X.outer:=by
 have all:∀(l:Z_ Env),(∀b∈frs l,b∈X.fs)->X.n_.heap.FunFrames X.base l->s.heap.FunFrames X.base l:=by
  intro l
  induction l with
  |nil=>intro _ _;trivial
  |cons env r ih=>
   intro hs hl;obtain⟨hk,⟨Lq,o,hf,hn,ho,hd⟩,hr⟩:=hl;have hL:Lq∈X.fs:=hs Lq (by unfold frs;rw[List.filterMap_cons,hf];exact ZZ);obtain⟨sl,e⟩:=I.base.slot Lq o ho (I.ok.frf Lq hL) hL λz=>I.ok.aci Lq z hL;exact⟨hk,⟨Lq,_,hf,hn,e,hd⟩,ih (λb hb=>hs b (by unfold frs;rw[List.filterMap_cons,hf];exact Z1 _ hb)) hr⟩
 exact all X.outer (λ_ hb=>hb) I.ok.aa7
theorem Inv.stack(I:Inv X a_ q H s):s.heap.FunFrames X.base X.stack:=by
 rcases I.ok.stk with e|⟨e,hf⟩;rw[e];exact I.aa7;rw[e];obtain⟨m,hn,_⟩:=I.loc;refine .cons (by rw[I.ok.kind];decide) hf hn ?_ I.aa7;exact Heap.get?_none_of_le (ZF I.ok.bsz I.ok.above)
def Inv.abd(I:Inv X a_ q H s):∀b∈frs X.stack,b∈X.env.locals::X.fs:=λb hb=>by
 rcases I.ok.stk with e|⟨e,hf⟩;rw[e]at hb;exact Z1 _ hb;rw[e]at hb;unfold frs at hb;rw[List.filterMap_cons,hf]at hb;exact hb
def Inv.abQ(I:Inv X a_ q H s):∀b∈frs X.stack,H b=M:=λb hb=>by
 rcases Z0.mp (I.abd b hb)with e|hb;rw[e];exact I.free;obtain⟨_,o,ho,_⟩:=I.ok.aa7.mem hb;exact I.base.free b o ho (I.ok.frf b hb) λz=>I.ok.aci b z hb
def Inv.step{g':Array GenState}{t':Nat}{d':Drawn}{ch:Z_ ZM}(I:Inv X a_ O H s)
  (LK:∀b∈ch,(b∈X.ex\/X.n_.z<=b)/\b≠X.env.locals/\(∀x c,X.env.cells.lookup x=U c->c≠b)/\∀p∈X.pn++a_,p.1≠b)
  (keep:∀b o,b≠X.env.locals->b∉X.fs->b∉ch->s.heap.get? b=U o->H b=M->h'.get? b=U o)
  (slot:∀b o,b≠X.env.locals->b∈X.fs->b∉ch->s.heap.get? b=U o->H b=M->∃sl,h'.get? b=U {o with slots:=sl}) (free:∀b o,b∉ch->s.heap.get? b=U o->H b=M->H' b=M)
  (there:∀b o,b∉ch->s.heap.get? b=U o->∃o',h'.get? b=U o')
  (aaW:∀b xs,H b=U (.tup xs)->H' b=U (.tup xs)) (aaS:∀b o u,H b=U (.frz o u)->H' b=U (.frz o u)) (aa1:∀b lq ps,H b=U (.tbl lq ps)->∃more,H' b=U (.tbl lq (ps++more)))
  (ns:∀m,s.heap.Ns X.env.locals m->h'.Ns X.env.locals m)(hok:HOk X.prog X.w H' h')(hg:AllBare g'):
  Inv X a_ O H' {s with heap:=h',gens:=g',drawn:=d',toks:=t'}:=by
 have RW:∀b o,X.n_.heap.get? b=U o->b≠X.env.locals:=λb o e=>Zs (Zz (ZV e) I.ok.above);have O8:∀b o,X.n_.heap.get? b=U o->b∉X.ex->b∉ch:=λb o e hx hb=>by
  rcases(LK b hb).1 with z|z;exact hx z;exact absurd (Zz (ZV e) z) (Zc _)
 have cellK:∀x c,X.env.cells.lookup x=U c->∀v,s.heap.IsCell c v->h'.IsCell c v:=λx c e v hz=>by
  obtain⟨o,ho,hd⟩:=hz;have NS:c∉ch:=λz=>(LK c z).2.2.1 x c e rfl;by_cases hc:c∈X.fs;obtain⟨sl,q⟩:=slot c o (I.cne x c e) hc NS ho (I.aaQ x c e);exact⟨_,q,hd⟩;exact⟨o,keep c o (I.cne x c e) hc NS ho (I.aaQ x c e),hd⟩
 refine⟨I.ok,I.os,hg,⟨λb o e n hb hx=>?_,λb o e n hb hx=>?_,λb o e n hx=>?_,λb o e hx=>?_,λb xs e=>aaW b xs (I.base.aaW b xs e),λb o xs e=>aaS b o xs (I.base.aaS b o xs e),λb lq ps e=>?_⟩,?_,λx c e=>?_,?_,λx c e=>?_,λp hp=>?_,hok,I.len⟩;exact keep b o (RW b o e) hb (O8 b o e hx) (I.base.keep b o e n hb hx) (I.base.free b o e n hx);obtain⟨sl,e1⟩:=I.base.slot b o e n hb hx;obtain⟨T9,e2⟩:=slot b _ (RW b o e) hb (O8 b o e hx) e1 (I.base.free b o e n hx);exact⟨T9,e2⟩;obtain⟨o',e1⟩:=I.base.there b o e hx;exact free b o' (O8 b o e hx) e1 (I.base.free b o e n hx);obtain⟨o',e1⟩:=I.base.there b o e hx;exact there b o' (O8 b o e hx) e1;obtain⟨m1,e1⟩:=I.base.aa1 b lq ps e;obtain⟨m2,e2⟩:=aa1 b lq _ e1;exact⟨m1++m2,by rw[e2,Array.append_assoc]⟩;obtain⟨m,hn,hl⟩:=I.loc;refine⟨m,ns m hn,λi x v e1 e2 e3=>?_⟩;obtain⟨u,r,l⟩:=hl i x v e1 e2 e3;refine⟨u,r,?_⟩;rcases l with l|⟨k,c,e,z⟩;exact .inl l;exact .inr ⟨k,c,e,cellK x c e _ z⟩;obtain⟨v,z⟩:=I.cell x c e;exact⟨v,cellK x c e v z⟩;obtain⟨m,⟨o,_,_,ho,_⟩,_⟩:=I.loc;exact free _ o (λz=>(LK _ z).2.1 rfl) ho I.free;obtain⟨v,o,ho,hd⟩:=I.cell x c e;exact free c o (λz=>(LK c z).2.2.1 x c e rfl) ho (I.aaQ x c e);obtain⟨e,n,ne,nf,d⟩:=I.pin p hp;have NS:p.1∉ch:=λz=>(LK p.1 z).2.2.2 p hp rfl
 exact⟨keep p.1 p.2 ne nf NS e n,free p.1 p.2 NS e n,ne,nf,d⟩
def Inv.un(I:Inv X a_ q H s)(u:Un X.fs [] H H' s.heap h')(hok:HOk X.prog X.w H' h'):Inv X a_ q H' {s with heap:=h',toks:=t'}:=by
 obtain⟨m,⟨o,es,ep,ho,r⟩,_⟩:=id I.loc;obtain⟨sl,hL⟩:=u.any ho I.free (by simp);exact I.step (g':=s.gens) (d':=s.drawn) (ch:=[]) (λ_ z=>nomatch z) (λb o _ hb _ e n=>u.keep b o e n hb (by simp)) (λb o _ hb _ e n=>u.slot b o e n hb (by simp)) (λb o _ e n=>u.free b o e n (by simp)) (λb o _ e=>u.there b o e (by simp)) u.aaW u.aaS u.aa1 (λm' hm=>by
  obtain⟨o',QQ,A_,Mz,r'⟩:=hm;rw[ho]at Mz;obtain rfl:=Z7 Mz;exact⟨_,QQ,A_,hL,r'⟩) hok I.bare
def Inv.call(I:Inv X a_ q H s)(u:Un (frs X.stack) ch H H' s.heap h')(hok:HOk X.prog X.w H' h')(hg:AllBare g')(LK:∀b∈ch,(b∈X.ex\/X.n_.z<=b)/\b≠X.env.locals/\(∀x c,X.env.cells.lookup x=U c->c≠b)/\∀p∈X.pn++a_,p.1≠b):
  Inv X a_ q H' {s with heap:=h',gens:=g',drawn:=d',toks:=t'}:=by
 obtain⟨m,⟨o,es,ep,ho,r⟩,_⟩:=id I.loc;obtain⟨sl,hL⟩:=u.any ho I.free λz=>(LK _ z).2.1 rfl;exact I.step (ch:=ch) LK (λb o hL hb hc e n=>u.keep b o e n (λz=>(Z0.mp (I.abd b z)).elim hL hb) hc) (λb o _ _ hc e n=>u.any e n hc) (λb o hc e n=>u.free b o e n hc) (λb o hc e=>u.there b o e hc) u.aaW u.aaS u.aa1 (λm' hm=>by
  obtain⟨o',QQ,A_,Mz,r'⟩:=hm;rw[ho]at Mz;obtain rfl:=Z7 Mz;exact⟨_,QQ,A_,hL,r'⟩) hok hg
def Inv.turned{t':Nat}{it:ZM}(I:Inv X a_ O H s)(k:∀b o,b≠it->s.heap.get? b=U o->h'.get? b=U o)(hn:H it=M)(hL:it≠X.env.locals)
  (h1:it∈X.ex\/X.n_.z<=it)(h2:∀x c,X.env.cells.lookup x=U c->c≠it)(h3:∀p∈X.pn++a_,p.1≠it):Inv X a_ O H {s with heap:=h',toks:=t'}:=by
 have RU:∀b u,H b=U u->b≠it:=λb u e z=>by rw[z,hn]at e;trivial
 refine I.step (g':=s.gens) (d':=s.drawn) (ch:=[it]) (λb hb=>?_) (λb o _ _ hc e _=>k b o (λz=>hc (by simp[z])) e) (λb o _ _ hc e _=>⟨o.slots,k b o (λz=>hc (by simp[z])) e⟩) (λ_ _ _ _ n=>n)
  (λb o hc e=>⟨o,k b o (λz=>hc (by simp[z])) e⟩) (λ_ _ e=>e) (λ_ _ _ e=>e) (λb lq ps e=>⟨#[],by rw[e];simp⟩) (λm hm=>?_) (λb u e=>?_) I.bare
 have e:b=it:=by simpa using hb
 subst e;exact⟨h1,hL,h2,h3⟩;obtain⟨o,es,ep,ho,r⟩:=hm;exact⟨o,es,ep,k _ o (ZC hL) ho,r⟩;refine(I.hok b u e).abk (λc v hc q=>k c v ?_ q) (λ_ q=>q) λ_ _ q=>q;rcases hc with z|z
 rw[z];exact RU b u e;exact RU c _ z
def Inv.tok(I:Inv X a_ q H s)(t:Nat):Inv X a_ q H {s with toks:=t}:=I.un (h':=s.heap) (t':=t) Un.refl I.hok
theorem Inv.kept(I:Inv X a_ q H s)(k:∀b u,s.heap.get? b=U u->h'.get? b=U u):Inv X a_ q H {s with heap:=h',toks:=t'}:=I.un (Un.kept k) (I.hok.kept k)
theorem Inv.laid(I:Inv X a_ q H s)(k:∀b u,s.heap.get? b=U u->h'.get? b=U u)(hp:s.z<=a)(new:aak X.prog X.w (upd H a o) h' a o):
  Inv X a_ q (upd H a o) {s with heap:=h',toks:=t'}:=I.un (Un.laid k hp (I.hok.fresh hp)) (I.hok.laid k hp new)
theorem Inv.write(I:Inv X a_ q H s)(mu:Mut (H x))(he:e=x\/H e=U (.own x))(k:∀b u,b≠e->s.heap.get? b=U u->h'.get? b=U u)(Mg:∃u,h'.get? e=U u)(new:aak X.prog X.w (upd H x o) h' x o):Inv X a_ q (upd H x o) {s with heap:=h',toks:=t'}:=I.un (Un.write mu he k Mg) (I.hok.write mu he k Mg new)
def Inv.aaL(I:Inv X a_ q H s)(h:∀p∈Ja,s.heap.get? p.1=U p.2/\H p.1=M/\p.1≠X.env.locals/\p.1∉X.fs/\∀v,p.2.data≠.cell v):Inv X Ja q H s:=
 ⟨I.ok,I.os,I.bare,I.base,I.loc,I.cell,I.free,I.aaQ,λp hp=>(Zl.mp hp).elim (λz=>I.pin p (YS _ z)) (h p),I.hok,I.len⟩
def o0{N:Z_ Str}(hN:N.Nodup){i j:Nat}{x:Str}(a:N[i]?=U x)(b:N[j]?=U x):i=j:=by
 obtain⟨h1,e1⟩:=ZX.mp a;obtain⟨h2,e2⟩:=ZX.mp b;exact(List.getElem_inj hN).mp (e1.trans e2.symm)
def jV(I:Inv X a_ O H s)(hN:X.N.Nodup)(hi:X.N[i]?=U x)(hx:Loc X.env.scope x)(r:RelV v u)(h:∀s',Inv X a_ (O.set i (U v)) H s'->(∃a,Heap.SameBut a s.heap s'.heap/\(a=X.env.locals\/X.env.cells.lookup x=U a))->Q () s')(hf:X.fn x=L\/X.env.scope.names.lookup x=U .local:=by first|exact .inl rfl|exact .inr rfl|assumption):wpAny Mq A (storeName X.env x u) Q E s:=by
 obtain⟨m,hn,hl⟩:=id I.loc;have Rn:(X.env.scope.kind==.class||(X.env.scope.kind==.module&&X.env.locals != X.env.globals))=Y:=by rw[I.ok.kind];rfl
 have OF:i<O.length:=by rw[I.len];exact(ZX.mp hi).1
 have cne:=I.cne;have tracked:∀{a:ZM}{h':Heap},(∃o,s.heap.get? a=U o/\H a=M)->Heap.SameBut a s.heap h'->HOk X.prog X.w H h':=λ{a h'} ha hs b ob e=>by
  obtain⟨_,_,Mm⟩:=ha;refine(I.hok b ob e).abk (λc w' hc q=>(hs.2 c ?_).trans q) (λ_ q=>q) λ_ _ q=>q
  rintro rfl
  rcases hc with rfl|hc;rw[Mm]at e;trivial;rw[Mm]at hc;trivial
 rcases hx with hk|hk;refine wpAny_storeName_local hk hn (λh' K5 hs=>?_) Rn;obtain⟨oL,_,_,My,_⟩:=id hn;refine h _ ⟨I.ok,I.os,I.bare,⟨λb o e n hb hx=>?_,λb o e n hb hx=>?_,I.base.free,λb o e hx=>?_,I.base.aaW,I.base.aaS,I.base.aa1⟩,⟨_,K5,λj y v' e1 e2 e3=>?_⟩,λy c e=>?_,I.free,I.aaQ,λp hp=>?_,tracked ⟨oL,My,I.free⟩ hs,by simpa using I.len⟩ ⟨_,hs,.inl rfl⟩;exact(hs.2 b (Zs (Zz (ZV e) I.ok.above))).trans (I.base.keep b o e n hb hx);obtain⟨sl,e1⟩:=I.base.slot b o e n hb hx;exact⟨sl,(hs.2 b (Zs (Zz (ZV e) I.ok.above))).trans e1⟩;obtain⟨o',e1⟩:=I.base.there b o e hx;exact⟨o',(hs.2 b (Zs (Zz (ZV e) I.ok.above))).trans e1⟩;by_cases hj:j=i;subst hj;rw[hi]at e1;obtain rfl:=Z7 e1;rw[ZU OF]at e2;cases e2;exact⟨u,r,.inl ⟨hk,by simp⟩⟩;rw[ZY (ZC hj)]at e2;obtain⟨u',r',q⟩:=hl j y v' e1 e2 e3;refine⟨u',r',?_⟩;rcases q with⟨k,e⟩|⟨k,c,e,z⟩;refine .inl ⟨k,?_⟩;have:y≠x:=λe=>hj (o0 hN e1 (e▸hi))
 simp[this,e];exact .inr ⟨k,c,e,z.sameBut hs (cne y c e)⟩;obtain⟨w',z⟩:=I.cell y c e;exact⟨w',z.sameBut hs (cne y c e)⟩;obtain⟨e,n,ne,nf,d⟩:=I.pin p hp;exact⟨(hs.2 p.1 ne).trans e,n,ne,nf,d⟩;have Qz:X.fn x=L:=by
  rcases hf with z|z;exact z;rw[z]at hk;trivial
 obtain⟨c,hc⟩:=I.ok.has x (.inl hk);obtain⟨w',z⟩:=I.cell x c hc;refine wpAny_storeName_cell I.ok.kind hk hc z (λh' N8 hs=>?_);obtain⟨oc,NZ,Rh⟩:=id z;refine h {s with heap:=h'} ⟨I.ok,I.os,I.bare,⟨λb o e n hb hx=>?_,λb o e n hb hx=>?_,I.base.free,λb o e hx=>?_,I.base.aaW,I.base.aaS,I.base.aa1⟩,⟨m,hn.sameBut hs (ZC (cne x c hc)),λj y v' e1 e2 e3=>?_⟩,λy c' e=>?_,I.free,I.aaQ,λp hp=>?_,tracked ⟨oc,NZ,I.aaQ x c hc⟩ hs,by simpa using I.len⟩ ⟨c,hs,.inr hc⟩;exact(hs.2 b (Zs (Zz (ZV e) (I.ok.cab x c Qz hc)))).trans (I.base.keep b o e n hb hx);obtain⟨sl,e1⟩:=I.base.slot b o e n hb hx;exact⟨sl,(hs.2 b (Zs (Zz (ZV e) (I.ok.cab x c Qz hc)))).trans e1⟩;obtain⟨o',e1⟩:=I.base.there b o e hx;exact⟨o',(hs.2 b (Zs (Zz (ZV e) (I.ok.cab x c Qz hc)))).trans e1⟩;by_cases hj:j=i;subst hj;rw[hi]at e1;obtain rfl:=Z7 e1;rw[ZU OF]at e2;cases e2;exact⟨u,r,.inr ⟨.inl hk,c,hc,N8⟩⟩;rw[ZY (ZC hj)]at e2;obtain⟨u',r',q⟩:=hl j y v' e1 e2 e3;refine⟨u',r',?_⟩;rcases q with q|⟨k,c',e,z'⟩;exact .inl q;refine .inr ⟨k,c',e,z'.sameBut hs ?_⟩
 rintro rfl
 exact hj (o0 hN e1 (I.ok.inj _ _ _ e hc▸hi));by_cases Pw:c'=c;subst Pw;exact⟨_,N8⟩;obtain⟨w2,z2⟩:=I.cell y c' e;exact⟨w2,z2.sameBut hs Pw⟩;obtain⟨e,n,ne,nf,d⟩:=I.pin p hp;refine⟨(hs.2 p.1 ?_).trans e,n,ne,nf,d⟩;intro q;rw[q,NZ]at e;have q':oc=p.2:=Z7 e;exact d w' (by rw[<-q'];exact Rh)
def oH{Mq:Model}{A:Y9}{E:Z3->ZT->Prop}{Q:Unit->ZT->Prop}(I:Inv X a_ q H s)(hN:X.N.Nodup)(hi:X.N[i]?=U x)(hx:Loc X.env.scope x)(r:RelV v u)(h:∀s',Inv X a_ (q.set i (U v)) H s'->Q () s')(hf:X.fn x=L\/X.env.scope.names.lookup x=U .local:=by first|exact .inl rfl|exact .inr rfl|assumption):wpAny Mq A (storeName X.env x u) Q E s:=
 jV I hN hi hx r (λs' I' _=>h s' I') hf
def Inv.acM(I:Inv X a_ q H s)(ho:s'.os=s.os)(u:Un (frs X.stack) ch H H' s.heap s'.heap)(hok:HOk X.prog X.w H' s'.heap)(hg:AllBare s'.gens)(LK:∀b∈ch,(b∈X.ex\/X.n_.z<=b)/\b≠X.env.locals/\(∀x c,X.env.cells.lookup x=U c->c≠b)/\∀p∈X.pn++a_,p.1≠b):Inv X a_ q H' s':=by
 obtain⟨h',g',d',t',o'⟩:=s';have e:o'=s.os:=ho;subst e;exact I.call (g':=g') (t':=t') (d':=d') u hok hg LK
end
abbrev XK:=Z3->Z9 ZM->Hp->Prop
abbrev St:=Z_ (Z9 V)
abbrev VK:=V->Hp->Prop
abbrev TE:=St->Hp->VK->Prop
abbrev TT:=St->Hp->(Bool->Hp->Prop)->Prop
abbrev TA:=St->Hp->(Z_ V->Hp->Prop)->Prop
structure Ends where
 nx:St->Hp->Prop
 rt:VK
 bk:St->Hp->Prop:=λ_ _=>False
 ct:St->Hp->Prop:=λ_ _=>False
abbrev TS:=Ends->St->Hp->Prop
def EP(X:Cx)(a_:Z_ (ZM×Obj))(q:St)(Q:VK)(u:Z3)(s':ZT):Prop:=∃v H',Inv X a_ q H' s'/\RelV v u/\Q v H'
def TP(X:Cx)(a_:Z_ (ZM×Obj))(q:St)(Q:Bool->Hp->Prop)(b:Bool)(s':ZT):Prop:=∃H',Inv X a_ q H' s'/\Q b H'
def AP(X:Cx)(a_:Z_ (ZM×Obj))(q:St)(Q:Z_ V->Hp->Prop)(us:Z_ Z3)(s':ZT):Prop:=∃vs H',Inv X a_ q H' s'/\aac vs us/\Q vs H'
def SP(X:Cx)(a_:Z_ (ZM×Obj))(D:Ends)(f:Flow)(s':ZT):Prop:=
 match f with
 |.next=>∃i_ H',Inv X a_ i_ H' s'/\D.nx i_ H'
 |.brk=>∃i_ H',Inv X a_ i_ H' s'/\D.bk i_ H'
 |.cont=>∃i_ H',Inv X a_ i_ H' s'/\D.ct i_ H'
 |.ret u=>∃v i_ H',Inv X a_ i_ H' s'/\RelV v u/\D.rt v H'
def PE(X:Cx)(e:Expr)(t:TE):Prop:=
 ∀(a_:Z_ (ZM×Obj))(s:ZT)(q:St)(H:Hp)(Q:VK),Inv X a_ q H s->t q H Q->wpAny (model X.prog X.w) X.A (eval e X.env) (EP X a_ q Q) X.xe s
def PT(X:Cx)(e:Expr)(t:TT):Prop:=
 ∀(a_:Z_ (ZM×Obj))(s:ZT)(q:St)(H:Hp)(Q:Bool->Hp->Prop),Inv X a_ q H s->t q H Q->wpAny (model X.prog X.w) X.A (isTrue e X.env (eval e X.env)) (TP X a_ q Q) X.xe s
def PW(X:Cx)(e:Expr)(t:TT):Prop:=
 ∀(whole:Sem Z3)(a_:Z_ (ZM×Obj))(s:ZT)(q:St)(H:Hp)(Q:Bool->Hp->Prop),Inv X a_ q H s->t q H Q->wpAny (model X.prog X.w) X.A (isTrue e X.env whole) (TP X a_ q Q) X.xe s
def PW.pt(h:PW X e t):PT X e t:=h _
def PA(X:Cx)(es:Z_ Expr)(t:TA):Prop:=
 ∀(pos:Pos)(a_:Z_ (ZM×Obj))(s:ZT)(q:St)(H:Hp)(Q:Z_ V->Hp->Prop),Inv X a_ q H s->t q H Q->wpAny (model X.prog X.w) X.A (spliced (backTo pos (starEach es X.env))) (AP X a_ q Q) X.xe s
def PS(X:Cx)(st:Stmt)(t:TS):Prop:=
 ∀(a_:Z_ (ZM×Obj))(s:ZT)(q:St)(H:Hp)(D:Ends),Inv X a_ q H s->t D q H->wpAny (model X.prog X.w) X.A (exec st X.env) (SP X a_ D) X.xe s
def PSs(X:Cx)(st:Z_ Stmt)(t:TS):Prop:=
 ∀(a_:Z_ (ZM×Obj))(s:ZT)(q:St)(H:Hp)(D:Ends),Inv X a_ q H s->t D q H->wpAny (model X.prog X.w) X.A (execs st X.env) (SP X a_ D) X.xe s
def thn{q:Type}{t:Sem q}{Q Q':q->ZT->Prop}{Mq:Model}{A:Y9}{E:Z3->ZT->Prop}{s:ZT}(h:wpAny Mq A t Q E s)(hQ:∀a s,Q a s->Q' a s):wpAny Mq A t Q' E s:=YN h hQ λ_ _ x=>x
end
variable[Lams]
section
variable{X:Cx}
def vO(i:Nat):TE:=λq H Q=>∃v,q[i]?=U (U v)/\Q v H
def tC(v:V):TE:=λ_ H Q=>Q v H
def aZ(hN:X.N[i]?=U x)(hv:Vis X.env.scope x)(hd:(x==("__debug__":Str))=Y:=by decide)(Jg:(x==("__classdict__":Str))=Y:=by decide):PE X (.Name x pos) (vO i):=by
 intro a_ s q H Q I h;obtain⟨v,e,h⟩:=h;obtain⟨m,hn,hl⟩:=I.loc;obtain⟨u,r,l⟩:=hl i x v hN e hv;have fin:EP X a_ q Q u s:=⟨v,H,I,r,h⟩
 rcases l with⟨hk,hm⟩|⟨hk,c,hc,Mn⟩;exact wpAny_Name (wpAny_loadName_local I.ok.kind hk hn hm fin) hd;rcases hk with hk|hk;exact wpAny_Name (wpAny_loadName_cell I.ok.kind hk hc Mn fin) hd;exact wpAny_Name (wpAny_loadName_free I.ok.kind hk hc Mn fin Jg) hd
def vh{i j pos}:PE X (.Constant (.int i) j pos) (tC (.int i)):=λ_ _ _ H _ I h=>wpAny_Constant_int ⟨.int i,H,I.tok _,⟨_,rfl⟩,h⟩
def BV{b j pos}:PE X (.Constant (.bool b) j pos) (tC (.bl b)):=λ_ _ _ H _ I h=>Constant_bool ⟨.bl b,H,I,rfl,h⟩
def t6{j pos}:PE X (.Constant .none j pos) (tC .non):=λ_ _ _ H _ I h=>Constant_none ⟨.non,H,I,rfl,h⟩
def Cd{x j pos}:PE X (.Constant (.str x) j pos) (tC (.str x)):=λ_ _ _ H _ I h=>Calls.Constant_str ⟨.str x,H,I.tok _,⟨_,rfl⟩,h⟩
def Gl(X:Cx)(x:Str):Prop:=X.env.kindOf x=U .globalImplicit
def Aq(I:Inv X a_ q H s)(hg:Gl X x)(hm:X.mg x=U u)(h:Q u s)(hd:(x==("__debug__":Str))=Y:=by decide):wpAny (model X.prog X.w) X.A (eval (.Name x pos) X.env) Q E s:=
 Calls.Name_function_global I.ok.kind hg (Calls.loadGlobal_global (by rw[I.ok.glob];exact I.mod.glob.keeps I.bk) hm h) hd
def dT{E:Z3->ZT->Prop}{pos:Pos}{Q:Z3->ZT->Prop}(I:Inv X a_ q H s)(hg:Gl X x)(hm:X.mg x=M)(hv:bootBuiltins x=U u)(h:Q u s)(hn:x≠"__name__":=by decide)(hd:(x==("__debug__":Str))=Y:=by decide):wpAny (model X.prog X.w) X.A (eval (.Name x pos) X.env) Q E s:=by
 obtain⟨mb,h1,h2⟩:=I.mod.blt;exact Calls.Name_function_global I.ok.kind hg (Calls.loadGlobal_builtin (by rw[I.ok.glob];exact I.mod.glob.keeps I.bk) hm (by rw[I.ok.blt];exact h1.keeps I.bk) ((h2 x hn).trans hv) h) hd
def Al(hg:Gl X x)(hm:X.mg x=M)(hv:bootBuiltins x=U u)(r:RelV v u)(hn:x≠"__name__":=by decide)(hd:(x==("__debug__":Str))=Y:=by decide):PE X (.Name x pos) (tC v):=
 λ_ _ _ H _ I h=>dT I hg hm hv ⟨v,H,I,r,h⟩ hn hd
variable{a b:Expr}{ta tb:TE}{pos:Pos}
def PC(X:Cx)(op:CmpOp)(a b:Expr)(t:TE):Prop:=
 ∀(a_:Z_ (ZM×Obj))(s:ZT)(q:St)(H:Hp)(Q:VK),Inv X a_ q H s->t q H Q->
  wpAny (model X.prog X.w) X.A (eval a X.env) (λv e_=>wpAny (model X.prog X.w) X.A (eval b X.env) (λu b_=>wpAny (model X.prog X.w) X.A (compareOp op v u) (EP X a_ q Q) X.xe b_) X.xe e_) X.xe s
def xL(b:Expr)(h:op≠.In)(h2:op≠.NotIn):behindInMarks op b=Y:=by
 have e1:(op==CmpOp.In)=Y:=by cases op<;>first|rfl|exact absurd rfl h
 have e2:(op==CmpOp.NotIn)=Y:=by cases op<;>first|rfl|exact absurd rfl h2
 cases b<;>simp[behindInMarks,e1,e2]
def tB(t:TE):TT:=λq H Q=>t q H λx H1=>∃c,x=.bl c/\Q c H1
def GG{op:CmpOp}{t:TE}(h:PC X op a b t)(h1:behindInMarks op b=Y:=by first|exact xL _ (by decide) (by decide)|rfl):PT X (.Compare a [op] [b] pos) (tB t):=by
 intro a_ s O H Q I hw;refine wpAny_isTrue_Compare1 (thn (h a_ s O H _ I hw) λv s1 h1=>thn h1 λu s2 h2=>thn h2 λc s3 ⟨x,H1,I1,r1,q1⟩=>?_) h1;obtain⟨d,rfl,q⟩:=q1;cases r1;exact X1 ⟨H1,I1,q⟩
def CB{e:Expr}{t:TE}(h:PE X e t)(he:∀whole,isTrue e X.env whole=(do let v <-whole;standAt e.pos;holding [v] (truthy v)):=by intro _;rfl):PT X e (tB t):=by
 intro a_ s O H Q I hw;refine isTrue_plain (thn (h a_ s O H _ I hw) λv s1 ⟨x,H1,I1,r1,q1⟩=>?_) (he _);obtain⟨d,rfl,q⟩:=q1;cases r1;exact X1 ⟨H1,I1,q⟩
variable{tA OX:TT}{aq:Z_ Expr}
def GZ(t u:TT):TT:=λq H Q=>t q H λc H1=>if c=L then u q H1 Q else Q Y H1
def tOr(t u:TT):TT:=λq H Q=>t q H λc H1=>if c=L then Q L H1 else u q H1 Q
def Hl(t:TT):TT:=λq H Q=>t q H λc H1=>Q (!c) H1
def AM(ha:PT X a tA):PW X (.BoolOp .And [a] pos) tA:=by
 intro wh a_ s q H Q I h;refine isTrue_and (thn (ha a_ s q H Q I h) λc s1 e=>?_);cases c with
 |true=>exact isTrue_and_nil e
 |false=>exact e
def Cr(ha:PT X a tA):PW X (.BoolOp .Or [a] pos) tA:=by
 intro wh a_ s q H Q I h;refine isTrue_or (thn (ha a_ s q H Q I h) λc s1 e=>?_);cases c with
 |false=>exact isTrue_or_nil e
 |true=>exact e
def Co(ha:PT X a tA)(hb:PW X (.BoolOp .And (b::aq) pos) OX):PW X (.BoolOp .And (a::b::aq) pos) (GZ tA OX):=by
 intro wh a_ s q H Q I h;refine isTrue_and (thn (ha a_ s q H _ I h) λc s1 hz=>?_);obtain⟨H1,I1,q1⟩:=hz;cases c with
 |true=>exact hb wh a_ s1 q H1 Q I1 q1
 |false=>exact⟨H1,I1,q1⟩
def EC(ha:PT X a tA)(hb:PW X (.BoolOp .Or (b::aq) pos) OX):PW X (.BoolOp .Or (a::b::aq) pos) (tOr tA OX):=by
 intro wh a_ s q H Q I h;refine isTrue_or (thn (ha a_ s q H _ I h) λc s1 hz=>?_);obtain⟨H1,I1,q1⟩:=hz;cases c with
 |true=>exact⟨H1,I1,q1⟩
 |false=>exact hb wh a_ s1 q H1 Q I1 q1
def BT(ha:PT X a tA):PT X (.UnaryOp .Not a pos) (Hl tA):=by
 intro a_ s q H Q I h;exact isTrue_not (ha a_ s q H (λc H1=>Q (!c) H1) I h)
def Fm(ta tb:TE):TE:=λq H Q=>ta q H λx H1=>∃c,x=.bl c/\if c=L then tb q H1 Q else Q (.bl Y) H1
def D5{op}(h:PE X a t):PE X (.BoolOp op [a] pos) t:=λa_ s q H Q I hw=>BoolOp_one (h a_ s q H Q I hw)
def Ck(ha:PE X a ta)(hb:PE X (.BoolOp .And (b::aq) pos) tb):PE X (.BoolOp .And (a::b::aq) pos) (Fm ta tb):=by
 intro a_ s q H Q I h;refine BoolOp_and (thn (ha a_ s q H _ I h) λv s1 hz=>?_);obtain⟨x,H1,I1,r1,q1⟩:=hz;obtain⟨c,rfl,q1⟩:=q1;cases r1;refine X1 ?_;cases c with
 |true=>exact hb a_ s1 q H1 Q I1 q1
 |false=>exact⟨.bl Y,H1,I1,rfl,q1⟩
def tIf(t:TT)(ta tb:TE):TE:=λq H Q=>t q H λc H1=>if c=L then ta q H1 Q else tb q H1 Q
def wD{c:Expr}(hc:PT X c tA)(ha:PE X a ta)(hb:PE X b tb):PE X (.IfExp c a b pos) (tIf tA ta tb):=by
 intro a_ s q H Q I h;refine wpAny_IfExp (thn (hc a_ s q H _ I h) λd s1 hz=>?_);obtain⟨H1,I1,q1⟩:=hz;cases d with
 |true=>exact ha a_ s1 q H1 Q I1 q1
 |false=>exact hb a_ s1 q H1 Q I1 q1
end
def SqL(K:Z6)(H:Hp)(a:ZM)(xs:Z_ V):Prop:=
 Rd H a (.lst xs)\/
  ∃(o:Obj)(its:Array Z3)(n:Nat),K.lookup a=U o/\o.cls=.type "list"/\o.dict=M/\o.data=.seq its n/\its.size<=sizeLine/\aac xs its.toList
def SqT(K:Z6)(H:Hp)(a:ZM)(xs:Z_ V):Prop:=
 Rd H a (.tup xs)\/
  ∃(o:Obj)(its:Array Z3)(n:Nat),K.lookup a=U o/\o.cls=.type "tuple"/\o.data=.seq its n/\its.size<=sizeLine/\aac xs its.toList
noncomputable def Io:Z3->Z9 V
 |.none=>U .non
 |.bool b=>U (.bl b)
 |.int i _=>U (.int i)
 |.str x _=>U (.str x)
 |.bytes b _=>U (.byt b)
 |.float b _=>U (.flt b)
 |.ref a=>U (.ref a)
 |.type n=>U (.ty n)
 |_=>M
def RelV.abs(r:RelV x u):Io u=U x:=by
 cases x with
 |non=>cases r;rfl
 |bl _=>cases r;rfl
 |int _=>obtain⟨t,rfl⟩:=r;rfl
 |str _=>obtain⟨t,rfl⟩:=r;rfl
 |byt _=>obtain⟨t,rfl⟩:=r;rfl
 |flt _=>obtain⟨t,rfl⟩:=r;rfl
 |ref _=>cases r;rfl
 |ty _=>cases r;rfl
theorem RelV.inj(r:RelV x u)(q:RelV y u):x=y:=Z7 (r.abs.symm.trans q.abs)
theorem aac.inj:∀{xs ys:Z_ V}{us:Z_ Z3},aac xs us->aac ys us->xs=ys
 |_,_,_,.nil,.nil=>rfl
 |_,_,_,.cons r t,.cons r' t'=>by rw[r.inj r',aac.inj t t']
section
variable{H:Hp}
def SqL.of{K:Z6}(h:H a=U (.lst xs)):SqL K H a xs:=.inl (.inl h)
def SqT.of{K:Z6}(h:H a=U (.tup xs)):SqT K H a xs:=.inl (.inl h)
def Inv.list(I:Inv X a_ q H s)(h:SqL X.K H a xs):∃its:Z_ Z3,aac xs its/\PlainL s.heap a its.toArray/\xs.length<=sizeLine:=by
 rcases h with h|⟨o,its,n,hk,hc,hd,hs,hz,r⟩;obtain⟨z,its,n,r,e⟩:=h.ok I.hok;exact⟨its,r,⟨_,n,e,rfl,rfl,rfl⟩,z⟩;refine⟨its.toList,r,⟨o,n,I.kIn a o hk,hc,hd,by simpa using hs⟩,?_⟩;have e:=r.length;simp only[Array.length_toList]at e;lia
def Inv.tuple(I:Inv X a_ q H s)(h:SqT X.K H a xs):∃its:Z_ Z3,aac xs its/\IsTup s.heap a its.toArray/\xs.length<=sizeLine:=by
 rcases h with h|⟨o,its,n,hk,hc,hs,hz,r⟩;obtain⟨z,its,r,p⟩:=h.ok I.hok;exact⟨its,r,p,z⟩;refine⟨its.toList,r,⟨o,I.kIn a o hk,hc,n,by simpa using hs⟩,?_⟩;have e:=r.length;simp only[Array.length_toList]at e;lia
def Inv.aaN(I:Inv X a_ q H s)(h:SqL X.K H a xs)(h':SqL X.K H a ys):xs=ys:=by
 obtain⟨its,r,⟨o,n,e,_,_,d⟩,_⟩:=I.list h;obtain⟨its',r',⟨o',n',e',_,_,d'⟩,_⟩:=I.list h';rw[e]at e';obtain rfl:=Z7 e';rw[d]at d';injection d' with d1 _;have:its=its':=by simpa using congrArg Array.toList d1
 subst this;exact r.inj r'
def Inv.aaU(I:Inv X a_ q H s)(h:SqT X.K H a xs)(h':SqT X.K H a ys):xs=ys:=by
 obtain⟨its,r,⟨o,e,_,n,d⟩,_⟩:=I.tuple h;obtain⟨its',r',⟨o',e',_,n',d'⟩,_⟩:=I.tuple h';rw[e]at e';obtain rfl:=Z7 e';rw[d]at d';injection d' with d1 _;have:its=its':=by simpa using congrArg Array.toList d1
 subst this;exact r.inj r'
end
abbrev Cx.abc(X:Cx)(E:Z3->ZT->Prop):Cx:={X with xe:=E}
abbrev Cx.nox(X:Cx):Cx:=X.abc λ_ _=>False
theorem Cx.Ok.abc{X:Cx}(ok:X.Ok)(E:Z3->ZT->Prop):(X.abc E).Ok:=
 ⟨ok.mod,ok.kind,ok.glob,ok.blt,ok.above,ok.inj,ok.has,ok.cab,ok.hd,ok.frames,ok.stk,ok.exf,ok.bs,ok.bsz,ok.ab7,ok.aci,ok.aa7,ok.frf,ok.tabs⟩
def Cx.Ok.aaP{X:Cx}(ok:(X.abc E).Ok):X.Ok:=
 ⟨ok.mod,ok.kind,ok.glob,ok.blt,ok.above,ok.inj,ok.has,ok.cab,ok.hd,ok.frames,ok.stk,ok.exf,ok.bs,ok.bsz,ok.ab7,ok.aci,ok.aa7,ok.frf,ok.tabs⟩
section
variable{X:Cx}{a_:Z_ (ZM×Obj)}{σ:St}{H:Hp}{s:ZT}
theorem Inv.abc(I:Inv X a_ σ H s)(E:Z3->ZT->Prop):Inv (X.abc E) a_ σ H s:=⟨I.ok.abc E,I.os,I.bare,I.base,I.loc,I.cell,I.free,I.aaQ,I.pin,I.hok,I.len⟩
theorem Inv.aaP(I:Inv (X.abc E) a_ σ H s):Inv X a_ σ H s:=⟨I.ok.aaP,I.os,I.bare,I.base,I.loc,I.cell,I.free,I.aaQ,I.pin,I.hok,I.len⟩
theorem SP.aaP{D:Ends}{f:Flow}{s':ZT}(h:SP (X.abc E) a_ D f s'):SP X a_ D f s':=by
 cases f with
 |next=>obtain⟨i_,H',I,q⟩:=h;exact⟨i_,H',I.aaP,q⟩
 |brk=>obtain⟨i_,H',I,q⟩:=h;exact⟨i_,H',I.aaP,q⟩
 |cont=>obtain⟨i_,H',I,q⟩:=h;exact⟨i_,H',I.aaP,q⟩
 |ret u=>obtain⟨v,i_,H',I,r,q⟩:=h;exact⟨v,i_,H',I.aaP,r,q⟩
theorem PE.nox(h:PE X.nox e t):PE X e t:=λa_ s σ H Q I hw=>
 YN (h a_ s σ H Q (I.abc _) hw) (λ_ _ hz=>by obtain⟨v,H',I',r,q⟩:=hz;exact⟨v,H',I'.aaP,r,q⟩) λ_ _ z=>False.elim z
theorem PSs.nox{st:Z_ Stmt}{t:TS}(h:PSs X.nox st t):PSs X st t:=λa_ s σ H D I hw=>
 YN (h a_ s σ H D (I.abc _) hw) (λ_ _ q=>q.aaP) λ_ _ z=>False.elim z
end
section
variable{X:Cx}{st:Stmt}{aq:Z_ Stmt}{t u:TS}{e:Expr}{te:TE}{pos:Pos}
def acE:TS:=λD q H=>D.nx q H
def Fn(t u:TS):TS:=λD q H=>t {D with nx:=u D} q H
def jf:PSs X [] acE:=λ_ _ q H _ I h=>Wp ⟨q,H,I,h⟩
def aS(h1:PS X st t)(h2:PSs X aq u):PSs X (st::aq) (Fn t u):=by
 intro a_ s O H D I h;refine wpAny_execs_cons (thn (h1 a_ s O H {D with nx:=u D} I h) λf s1 q=>?_);cases f with
 |next=>
  obtain⟨i_,H',I',q⟩:=q;exact h2 a_ s1 i_ H' D I' q
 |ret v=>exact q
 |brk=>exact q
 |cont=>exact q
def dJ(h1:PS X st t):PSs X [st] t:=by
 intro a_ s O H D I h;refine wpAny_execs_cons (thn (h1 a_ s O H D I h) λf s1 q=>?_);cases f with
 |next=>exact Wp q
 |ret v=>exact q
 |brk=>exact q
 |cont=>exact q
def Inv.quiet(I:Inv X a_ q H s):interactive X.env=Y:=by simp[interactive,I.ok.kind]
def C3(te:TE):TS:=λD q H=>te q H λ_ H1=>D.nx q H1
def gy(he:PE X e te)(hs:swapsWith e M pos.line X.env=pure Y:=by rfl):PS X (.Expr e pos) (C3 te):=by
 intro a_ s q H D I h;exact wpAny_Expr_any (thn (he a_ s q H _ I h) λv s1 hz=>by obtain⟨x,H1,I1,r1,q1⟩:=hz;exact⟨q,H1,I1,q1⟩) I.quiet hs
def Hw(te:TE):TS:=λD q H=>te q H D.rt
def iZ(he:PE X e te):PS X (.Return (U e) pos) (Hw te):=by
 intro a_ s q H D I h;exact wpAny_Return_some (thn (he a_ s q H _ I h) λv s1 hz=>by obtain⟨x,H1,I1,r1,q1⟩:=hz;exact⟨x,q,H1,I1,r1,q1⟩)
def Ie(c:TT)(t u:TS):TS:=λD q H=>c q H λb H1=>if b=L then t D q H1 else u D q H1
def vt{c:Expr}{a b:Z_ Stmt}{tc:TT}(hc:PT X c tc)(ha:PSs X a t)(hb:PSs X b u):PS X (.If c a b pos) (Ie tc t u):=by
 intro a_ s q H D I h;refine wpAny_If (thn (hc a_ s q H _ I h) λd s1 hz=>?_);obtain⟨H1,I1,q1⟩:=hz;cases d with
 |true=>exact ha a_ s1 q H1 D I1 q1
 |false=>exact hb a_ s1 q H1 D I1 q1
end
abbrev TG:=V->St->Hp->(St->Hp->Prop)->Prop
abbrev TGs:=Z_ V->St->Hp->(St->Hp->Prop)->Prop
def PG(X:Cx)(target:Expr)(t:TG):Prop:=
 ∀(a_:Z_ (ZM×Obj))(s:ZT)(q:St)(H:Hp)(v:V)(u:Z3)(Q:St->Hp->Prop),Inv X a_ q H s->RelV v u->t v q H Q->
  wpAny (model X.prog X.w) X.A (assign target X.env u) (λ_ s'=>∃i_ H',Inv X a_ i_ H' s'/\Q i_ H') X.xe s
def PGs(X:Cx)(ts:Z_ Expr)(t:TGs):Prop:=
 ∀(a_:Z_ (ZM×Obj))(s:ZT)(q:St)(H:Hp)(vs:Z_ V)(us:Z_ Z3)(Q:St->Hp->Prop),Inv X a_ q H s->aac vs us->t vs q H Q->
  wpAny (model X.prog X.w) X.A (assignInOrder ((assignEach ts X.env).map (·.2)) us) (λ_ s'=>∃i_ H',Inv X a_ i_ H' s'/\Q i_ H') X.xe s
abbrev Go:=V->V->V->Hp->(Hp->Prop)->Prop
def FU(X:Cx)(t:Go):Prop:=
 ∀(a_:Z_ (ZM×Obj))(s:ZT)(q:St)(H:Hp)(o i v:V)(ov iv u:Z3)(Q:Hp->Prop),Inv X a_ q H s->RelV o ov->RelV i iv->RelV v u->t o i v H Q->
  wpAny (model X.prog X.w) X.A (setItem ov iv u) (λ_ s'=>∃H',Inv X a_ q H' s'/\Q H') X.xe s
section
variable{X:Cx}{pos:Pos}
def h9(i:Nat):TG:=λv q H Q=>Q (q.set i (U v)) H
def jy(hN:X.N.Nodup)(hi:X.N[i]?=U x)(hx:Loc X.env.scope x)(hf:X.fn x=L\/X.env.scope.names.lookup x=U .local:=by first|exact .inl rfl|exact .inr rfl|assumption):PG X (.Name x pos) (h9 i):=by
 intro a_ s q H v u Q I r h;exact wpAny_assign_Name (oH I hN hi hx r (λs' I'=>⟨_,H,I',h⟩) hf)
def acT:TGs:=λvs q H Q=>vs=[]/\Q q H
def Ex(t:TG)(u:TGs):TGs:=λvs q H Q=>∃v r,vs=v::r/\t v q H λi_ H'=>u r i_ H' Q
def zH:PGs X [] acT:=by
 intro a_ s q H vs us Q I r h;obtain⟨e,h⟩:=h;subst e;cases r;exact assignInOrder_nil ⟨q,H,I,h⟩
def wU{e:Expr}{es:Z_ Expr}{t:TG}{u:TGs}(h1:PG X e t)(h2:PGs X es u)
  (hs:(assignEach (e::es) X.env).map (·.2)=assign e X.env::(assignEach es X.env).map (·.2):=by rfl):PGs X (e::es) (Ex t u):=by
 intro a_ s q H vs us Q I r h;obtain⟨v,vr,e1,h⟩:=h;subst e1;cases r with
 |cons r rr=>
  rw[hs];refine assignInOrder_cons (thn (h1 a_ s q H _ _ _ I r h) λ_ s1 hz=>?_);obtain⟨LN,H1,I1,q1⟩:=hz;exact h2 a_ s1 LN H1 _ _ Q I1 rr q1
def G0(K:Z6)(n:Nat)(t:TGs):TG:=λv q H Q=>∃a xs,v=.ref a/\SqT K H a xs/\xs.length=n/\t xs q H Q
def CD(hc:X.calm=L)(h:PGs X es t)(hn:(assignEach es X.env).length=n:=by rfl)(JC:(assignEach es X.env).findIdx? (·.1)=M:=by rfl):PG X (.Tuple es k pos) (G0 X.K n t):=by
 intro a_ s q H v u Q I r hw;obtain⟨a,xs,e1,hq,hl,hw⟩:=hw;subst e1;cases r;obtain⟨its,rv,ht,hz⟩:=I.tuple hq;refine assign_Tuple_tuple (I.ok.hd hc) ht (by simp[hn,<-hl,rv.length]) JC λh' hx=>?_;have I1:Inv X a_ q H {s with heap:=h'}:=I.kept (t':=s.toks) λb o e=>hx b o (Zs (ZV e)) e;exact h a_ _ q H xs _ Q I1 (by simpa using rv) hw
def HC(to ti:TE)(t:Go):TG:=λv q H Q=>to q H λo H1=>ti q H1 λi H2=>t o i v H2 λH3=>Q q H3
def CO(ho:PE X o to)(hi:PE X i ti)(hs:FU X t)(ha:∀v,assign (.Subscript o i pos) X.env v=(do
   let ov <-holding [v] (eval o X.env)
   let iv <-holding [v,ov] (eval i X.env)
   standAt pos
   holding [v,ov,iv] (setItem ov iv v)
   release [v,ov,iv] []):=by intro _;rfl):PG X (.Subscript o i pos) (HC to ti t):=by
 intro a_ s q H v u Q I r h;rw[ha];refine Z8 (Za (thn (ho a_ s q H _ I h) λov s1 hz=>?_));obtain⟨x,H1,I1,r1,q1⟩:=hz;refine Z8 (Za (thn (hi a_ s1 q H1 _ I1 q1) λiv s2 hz=>?_));obtain⟨y,H2,I2,r2,q2⟩:=hz;refine Z8 (wpAny_standAt (Z8 (Za (thn (hs a_ s2 q H2 x y v ov iv u _ I2 r1 r2 r q2) λ_ s3 hz=>?_))));obtain⟨H3,I3,q3⟩:=hz;exact wpAny_release ⟨q,H3,I3,q3⟩
def BD(te:TE)(g:TG):TS:=λD q H=>te q H λx H1=>g x q H1 D.nx
def yx{tg e:Expr}{te:TE}{g:TG}(he:PE X e te)(hg:PG X tg g)(hs:swapsWithSole [tg] e pos.line X.env=pure Y:=by rfl)(hw:swappedStores [tg] e X.env=pure M:=by rfl)
  (h1:(assignEach [tg] X.env).map (·.2)=[assign tg X.env]:=by rfl):PS X (.Assign [tg] e pos) (BD te g):=by
 intro a_ s O H D I h;refine wpAny_Assign_stores (thn (he a_ s O H _ I h) λv s1 ⟨x,H1,I1,r1,q1⟩=>?_) hs hw;rw[h1];exact thn (hg a_ s1 O H1 x v _ I1 r1 q1) λ_ s2 q=>q
def gB{i:Nat}{x:Str}{e:Expr}{te:TE}{pos':Pos}(hN:X.N.Nodup)(hi:X.N[i]?=U x)(hx:Loc X.env.scope x)(he:PE X e te)(hs:swapsWith e (U (.Name x pos')) pos.line X.env=pure Y:=by rfl)(hf:X.fn x=L\/X.env.scope.names.lookup x=U .local:=by first|exact .inl rfl|exact .inr rfl|assumption):
  PS X (.Assign [.Name x pos'] e pos) (BD te (h9 i)):=by
 intro a_ s q H D I h;refine wpAny_Assign_Name (thn (he a_ s q H _ I h) λv s1 ⟨y,H1,I1,r1,q1⟩=>?_) hs;exact oH I1 hN hi hx r1 (λs2 I2=>⟨_,H1,I2,q1⟩) hf
end
section
variable{X:Cx}
def C8(c:TT)(tb:TS):TS:=λD q H=>∃W:Nat->St->Hp->Prop,(∃m,W m q H)/\∀m q H,W m q H->
 c q H λb H1=>if b=L then ∃N:St->Hp->Prop,(∀i_ H',N i_ H'->∃m',m'<m/\W m' i_ H')/\tb {D with nx:=N,ct:=N,bk:=D.nx} q H1 else D.nx q H1
def wB{c:Expr}{body:Z_ Stmt}{tc:TT}{tb:TS}(hp:PassesOwn (model X.prog X.w) X.A X.env X.xe)(hc:PT X c tc)(hb:PSs X body tb):PS X (.While c body [] pos) (C8 tc tb):=by
 intro a_ s q H D I h;obtain⟨W,⟨m0,w0⟩,turn⟩:=h;refine wpAny_While (codeAny_whileLoop (λn s'=>∃i_ H',Inv X a_ i_ H' s'/\W n i_ H') ?_ m0 ⟨q,H,I,w0⟩);intro n s1 hz;obtain⟨LN,H1,I1,w1⟩:=hz;refine XH hp (thn (hc a_ s1 LN H1 _ I1 (turn n LN H1 w1)) λb s2 hz=>?_);obtain⟨H2,I2,q2⟩:=hz;cases b with
 |true=>
  obtain⟨N,hN,q2⟩:=q2;rw[ZR rfl];refine XH hp (thn (hb a_ s2 LN H2 _ I2 q2) λf s3 q3=>?_);cases f with
  |next=>
   obtain⟨Jh,H3,I3,n3⟩:=q3;obtain⟨m',hm,w3⟩:=hN Jh H3 n3;exact⟨m',hm,Jh,H3,I3,w3⟩
  |cont=>
   obtain⟨Jh,H3,I3,n3⟩:=q3;obtain⟨m',hm,w3⟩:=hN Jh H3 n3;exact⟨m',hm,Jh,H3,I3,w3⟩
  |brk=>exact q3
  |ret v=>exact q3
 |false=>
  rw[ZK Zr];exact Wp ⟨LN,H2,I2,q2⟩
end
structure It where
 go:Nat->Hp->Prop
 yld:Nat->Hp->V->Hp->Prop
 stop:Nat->Hp->Prop
def fI(X:Cx)(a_:Z_ (ZM×Obj))(H:Hp)(b:ZM):Prop:=
 H b=M/\b≠X.env.locals/\b∉X.fs/\(b∈X.ex\/X.n_.z<=b)/\(∀x c,X.env.cells.lookup x=U c->c≠b)/\∀p∈X.pn++a_,p.1≠b
def Inv.abl(I:Inv X a_ O H s)(hb:s.z<=b)(hn:H' b=M):fI X a_ H' b:=by
 refine⟨hn,Nat.ne_of_gt (Zz I.lt hb),I.acs hb,.inr (ZF I.sz hb),λx c e z=>?_,λp hp z=>?_⟩;obtain⟨v,q⟩:=I.cell x c e;exact absurd (Zz q.lt (by rw[z];exact hb)) (Zc _);exact absurd (Zz (ZV (I.pin p hp).1) (by rw[z];exact hb)) (Zc _)
structure Turn (P:Y5)(w:YV)(K:Z6)(tg:Expr)(J:It)(fp:List ZM)(it:ZM)(tn:Nat->Heap->Prop):Prop where
 mem:it∈fp
 obj:∀i h,tn i h->∀b∈fp,∃o,h.get? b=some o/\∀v,o.data≠.cell v
 keep:∀i h h',tn i h->(∀b∈fp,∀o,h.get? b=some o->h'.get? b=some o)->tn i h'
 item:∀(X:Cx),X.prog=P->X.w=w->X.K=K->X.calm=true->∀(i:Nat)(a_:List (ZM×Obj))(s:ZT)(σ:St)(H:Hp)(E:Z3->ZT->Prop),Inv X a_ σ H s->(∀b∈fp,fI X a_ H b)->tn i s.heap->J.go i H->
  wpAny (model P w) X.A (pyNext (.ref it)) (λr s1=>∃u,r=some u/\
   wpAny (model P w) X.A (letOwnedTupleGo tg (.ref it) u) (λ_ s2=>∃x H',Inv X a_ σ H' s2/\RelV x u/\J.yld i H x H'/\tn (i+1) s2.heap/\∀b∈fp,H' b=none) E s1) E s
 done:∀(X:Cx),X.prog=P->X.w=w->X.K=K->X.calm=true->∀(i:Nat)(a_:List (ZM×Obj))(s:ZT)(σ:St)(H:Hp)(E:Z3->ZT->Prop),Inv X a_ σ H s->(∀b∈fp,fI X a_ H b)->tn i s.heap->J.stop i H->
  wpAny (model P w) X.A (pyNext (.ref it)) (λr s1=>r=none/\Inv X a_ σ H s1) E s
 self:∀(A:Y9)(i:Nat)(s:ZT)(Q:Z3->ZT->Prop)(E:Z3->ZT->Prop),tn i s.heap->Q (.ref it) s->wpAny (model P w) A (pyIter (.ref it)) Q E s
abbrev TI:=St->Hp->(It->Hp->Prop)->Prop
def PIE(X:Cx)(a_:Z_ (ZM×Obj))(q:St)(tg:Expr)(R:It->Hp->Prop)(O9:Z3)(s2:ZT):Prop:=
 ∃(it:ZM)(fp:Z_ ZM)(tn:Nat->Heap->Prop)(J:It)(H':Hp),O9=.ref it/\Inv X a_ q H' s2/\Turn X.prog X.w X.K tg J fp it tn/\tn 0 s2.heap/\(∀b∈fp,fI X a_ H' b)/\R J H'
def PI(X:Cx)(tg iter:Expr)(wi:TI):Prop:=
 ∀(a_:Z_ (ZM×Obj))(s:ZT)(q:St)(H:Hp)(R:It->Hp->Prop),Inv X a_ q H s->wi q H R->
  wpAny (model X.prog X.w) X.A (eval iter X.env) (λv s1=>wpAny (model X.prog X.w) X.A (pyIter v) (PIE X a_ q tg R) X.xe s1) X.xe s
def wu(ho:s.heap.get? it=U o)(hc:o.cls=.type n)(hd:o.data=.fields vs)(hn:["enumerate","zip","dict_itemiterator","dict_reverseitemiterator","odict_iterator","itertools.zip_longest","itertools.pairwise"].contains n=Y)(hQ:Q () s):wpAny Mq A (letOwnedTupleGo tg (.ref it) u) Q E s:=by
 unfold letOwnedTupleGo;cases tg<;>first
  |exact Z4 hQ
  |(cases u<;>first
    |exact Z4 hQ
    |(refine Z8 (wpAny_load ho ?_)
      rw[hc,hd];show wpAny Mq A (if(["enumerate","zip","dict_itemiterator","dict_reverseitemiterator","odict_iterator","itertools.zip_longest","itertools.pairwise"].contains n&&vs[0]?==U (rawInt _))=L then _ else _) Q E s;rw[ZK (by intro h;rw[hn,Bool.false_and]at h;trivial)];exact Z4 hQ))
noncomputable def Itl(K:Z6)(a:ZM):It:=
 ⟨λi H=>∃xs x,SqL K H a xs/\xs[i]?=U x,λi H x H'=>H'=H/\∀xs,SqL K H a xs->xs[i]?=U x,λi H=>∃xs,SqL K H a xs/\xs.length<=i⟩
noncomputable def Itt(K:Z6)(a:ZM):It:=
 ⟨λi H=>∃xs x,SqT K H a xs/\xs[i]?=U x,λi H x H'=>H'=H/\∀xs,SqT K H a xs->xs[i]?=U x,λi H=>∃xs,SqT K H a xs/\xs.length<=i⟩
def Itr(lo:Int)(n:Nat):It:=⟨λi _=>i<n,λi H x H'=>H'=H/\x=.int (lo+i),λi _=>n<=i⟩
def sd{P:Y5}{w:YV}{K:Z6}{tg:Expr}(a it:ZM):Turn P w K tg (Itl K a) [it] it (λi h=>h.IsListIter it a i) where
 mem:=by simp
 obj:=λi h st b hb=>by
  have e:b=it:=by simpa using hb
  subst e;obtain⟨o,e,c,d⟩:=st;exact⟨o,e,λv z=>by rw[d]at z;cases z⟩
 keep:=λi h h' st k=>st.at λo e=>k it (by simp) o e
 item:=by
  intro X hP hw hK hc i a_ s q H E I hf st hg;subst hP hw hK;obtain⟨xs,x,hq,hx⟩:=hg;obtain⟨its,rv,p,hz⟩:=I.list hq;obtain⟨u,hu,ru⟩:=rv.get hx;obtain⟨f0,f1,f2,f3,f4,f5⟩:=hf it (by simp);refine wpAny_pyNext_list_item st p.isList (x:=u) (by simpa using hu) λh' g_ sb=>?_;have I1:Inv X a_ q H {s with heap:=h'}:=I.turned (t':=s.toks) (λb o hb e=>(sb.2 b hb).trans e) f0 f1 f3 f4 f5;obtain⟨o,e,c,d⟩:=id g_;exact⟨u,rfl,wu (s:={s with heap:=h'}) e c d (by decide) ⟨x,H,I1,ru,⟨rfl,λys hy=>by rw[I.aaN hy hq];exact hx⟩,g_,λb hb=>(hf b hb).1⟩⟩
 done:=by
  intro X hP hw hK hc i a_ s q H E I hf st hg;subst hP hw hK;obtain⟨xs,hq,hx⟩:=hg;obtain⟨its,rv,p,hz⟩:=I.list hq;obtain⟨f0,f1,f2,f3,f4,f5⟩:=hf it (by simp);have hl:=rv.length;exact wpAny_pyNext_list_end (I.ok.hd hc) st p.isList (by simp;lia) λh' eb=>⟨rfl,I.turned (t':=s.toks) (λb o hb e=>eb b o hb e) f0 f1 f3 f4 f5⟩
 self:=λ_ _ _ _ _ st h=>wpAny_pyIter_listiter st h
def qI{P:Y5}{w:YV}{K:Z6}{tg:Expr}(a it:ZM):Turn P w K tg (Itt K a) [it] it (λi h=>h.IsTupleIter it a i) where
 mem:=by simp
 obj:=λi h st b hb=>by
  have e:b=it:=by simpa using hb
  subst e;obtain⟨o,e,c,d⟩:=st;exact⟨o,e,λv z=>by rw[d]at z;cases z⟩
 keep:=λi h h' st k=>st.at λo e=>k it (by simp) o e
 item:=by
  intro X hP hw hK hc i a_ s q H E I hf st hg;subst hP hw hK;obtain⟨xs,x,hq,hx⟩:=hg;obtain⟨its,rv,p,hz⟩:=I.tuple hq;obtain⟨u,hu,ru⟩:=rv.get hx;obtain⟨f0,f1,f2,f3,f4,f5⟩:=hf it (by simp);refine wpAny_pyNext_tuple_item st (show s.heap.IsTuple a its.toArray from p) (x:=u) (by simpa using hu) λh' g_ sb=>?_;have I1:Inv X a_ q H {s with heap:=h'}:=I.turned (t':=s.toks) (λb o hb e=>(sb.2 b hb).trans e) f0 f1 f3 f4 f5;obtain⟨o,e,c,d⟩:=id g_;exact⟨u,rfl,wu (s:={s with heap:=h'}) e c d (by decide) ⟨x,H,I1,ru,⟨rfl,λys hy=>by rw[I.aaU hy hq];exact hx⟩,g_,λb hb=>(hf b hb).1⟩⟩
 done:=by
  intro X hP hw hK hc i a_ s q H E I hf st hg;subst hP hw hK;obtain⟨xs,hq,hx⟩:=hg;obtain⟨its,rv,p,hz⟩:=I.tuple hq;obtain⟨f0,f1,f2,f3,f4,f5⟩:=hf it (by simp);have hl:=rv.length;exact wpAny_pyNext_tuple_end (I.ok.hd hc) st (show s.heap.IsTuple a its.toArray from p) (by simp;lia) λh' eb=>⟨rfl,I.turned (t':=s.toks) (λb o hb e=>eb b o hb e) f0 f1 f3 f4 f5⟩
 self:=λ_ _ _ _ _ st h=>wpAny_pyIter_tupleiter st h
def qN{P:Y5}{w:YV}{K:Z6}{tg:Expr}(it:ZM)(lo:Int)(n:Nat):Turn P w K tg (Itr lo n) [it] it (λi h=>IsRangeIter h it (lo+(i:Nat)*1) ((n:Int) - (i:Nat)) 1) where
 mem:=by simp
 obj:=λi h st b hb=>by
  have e:b=it:=by simpa using hb
  subst e;exact⟨_,st,λv z=>by
   have z':Data.fields _=Data.cell v:=z;cases z'⟩
 keep:=λi h h' st k=>k it (by simp) _ st
 item:=by
  intro X hP hw hK hc i a_ s q H E I hf st hg;subst hP hw hK;obtain⟨f0,f1,f2,f3,f4,f5⟩:=hf it (by simp);have W:=Walks.range (prog:=X.prog) (w:=X.w) (I.ok.hd hc) it lo 1 n;refine W.item i s _ _ hg st λv h' tk hv g_ kk=>?_;obtain⟨t,rfl⟩:=hv;have I1:Inv X a_ q H {s with heap:=h',toks:=tk}:=I.turned (λb o hb e=>kk b o (by simpa using hb) e) f0 f1 f3 f4 f5;refine⟨_,rfl,wu (s:={s with heap:=h',toks:=tk}) (n:="range_iterator") g_ rfl rfl (by decide) ⟨.int (lo+i),H,I1,⟨t,?_⟩,⟨rfl,rfl⟩,g_,λb hb=>(hf b hb).1⟩⟩;rw[Int.mul_one]
 done:=by
  intro X hP hw hK hc i a_ s q H E I hf st hg;subst hP hw hK;obtain⟨f0,f1,f2,f3,f4,f5⟩:=hf it (by simp);exact wpAny_pyNext_range_end (I.ok.hd hc) st (by have:n<=i:=hg;lia) λh' eb=>⟨rfl,I.turned (t':=s.toks) (λb o hb e=>eb b o hb e) f0 f1 f3 f4 f5⟩
 self:=λ_ _ _ _ _ st h=>wpAny_pyIter_rangeiter st h
section
variable{X:Cx}
def Dj(K:Z6)(tl:TE):TI:=λq H R=>tl q H λx H1=>∃a,x=.ref a/\(∃xs,SqL K H1 a xs)/\R (Itl K a) H1
def Hz(K:Z6)(tl:TE):TI:=λq H R=>tl q H λx H1=>∃a,x=.ref a/\(∃xs,SqT K H1 a xs)/\R (Itt K a) H1
def nM{l:Expr}{tl:TE}(hl:PE X l tl):PI X tg l (Dj X.K tl):=by
 intro a_ s O H R I h;refine thn (hl a_ s O H _ I h) λv s1 hz=>?_;obtain⟨x,H1,I1,r1,q1⟩:=hz;obtain⟨a,e,⟨xs,hq⟩,q⟩:=q1;subst e;cases r1;obtain⟨its,rv,p,hz⟩:=I1.list hq;refine Xf p.isList ?_;refine⟨s1.z,[s1.z],_,_,H1,rfl,I1.kept (t':=s1.toks) λb o e=>Z5 _ e,sd a _,⟨_,ZN _ rfl,rfl,rfl⟩,λb hb=>?_,q⟩;have e:b=s1.z:=by simpa using hb
 subst e;exact I1.abl (ZP _) (I1.hok.fresh (ZP _))
def C5{l:Expr}{tl:TE}(hl:PE X l tl):PI X tg l (Hz X.K tl):=by
 intro a_ s O H R I h;refine thn (hl a_ s O H _ I h) λv s1 hz=>?_;obtain⟨x,H1,I1,r1,q1⟩:=hz;obtain⟨a,e,⟨xs,hq⟩,q⟩:=q1;subst e;cases r1;obtain⟨its,rv,p,hz⟩:=I1.tuple hq;refine wpAny_pyIter_tuple (show s1.heap.IsTuple a its.toArray from p) ?_;refine⟨s1.z,[s1.z],_,_,H1,rfl,I1.kept (t':=s1.toks) λb o e=>Z5 _ e,qI a _,⟨_,ZN _ rfl,rfl,rfl⟩,λb hb=>?_,q⟩;have e:b=s1.z:=by simpa using hb
 subst e;exact I1.abl (ZP _) (I1.hok.fresh (ZP _))
def xQ{R:It->Hp->Prop}{lo hi:Int}{tk:Nat}(I:Inv X a_ O H s)(h1: -(2 ^ 62)<=lo)(h2:lo<2 ^ 62)(h3: -(2 ^ 62)<=hi)(h4:hi<2 ^ 62)(q:R (Itr lo (hi - lo).toNat) H):wpAny (model X.prog X.w) X.A (pyIter (.ref s.z)) (PIE X a_ O tg R) E {s with heap:=s.heap.push {cls:=.type "range",data:=.fields #[.int lo t,.int hi u,.int 1 v]},toks:=tk}:=by
 refine wpAny_pyIter_range (IsRange.new ..) (small_one h1 h2 h3 h4) ?_;have I1:Inv X a_ O H {s with heap:=s.heap.push {cls:=.type "range",data:=.fields #[.int lo t,.int hi u,.int 1 v]},toks:=tk}:=I.kept λb o e=>Z5 _ e;refine⟨(s.heap.push {cls:=.type "range",data:=.fields #[.int lo t,.int hi u,.int 1 v]}).objs.size,[(s.heap.push {cls:=.type "range",data:=.fields #[.int lo t,.int hi u,.int 1 v]}).objs.size],_,_,H,rfl,
  I1.kept (t':=tk) λb o e=>Z5 _ e,qN _ lo (hi - lo).toNat,?_,λb hb=>?_,q⟩
 .have e1:lo+((0:Nat):Int)*1=lo:=by simp
  have e2:(((hi - lo).toNat:Nat):Int) - ((0:Nat):Int)=Builtin.Range.rangeSize lo hi 1:=by rw[rangeSize_one];split<;>lia
  show IsRangeIter _ _ (lo+((0:Nat):Int)*1) ((((hi - lo).toNat:Nat):Int) - ((0:Nat):Int)) 1;rw[e1,e2];exact ZN _ rfl
 have e:b=(s.heap.push {cls:=.type "range",data:=.fields #[.int lo t,.int hi u,.int 1 v]}).objs.size:=by simpa using hb
 subst e;exact I1.abl (ZP _) (I1.hok.fresh (ZP _))
def Es(ta:TA):TI:=λq H R=>ta q H λvs H1=>∃j:Int,vs=[.int j]/\ -(2 ^ 62)<=j/\j<2 ^ 62/\R (Itr 0 j.toNat) H1
def rX{a:Expr}{ta:TA}{p pos:Pos}(hg:Gl X "range")(hm:X.mg "range"=M)(ha:PA X [a] ta)(hs:starEach [a] X.env=[(Y,eval a X.env)]:=by rfl):PI X tg (.Call (.Name "range" p) [a] [] pos) (Es ta):=by
 intro a_ s O H R I h;refine Call_ (dT I hg hm boot_range (Yw (thn (ha pos a_ s O H _ I h) λus s1 ⟨vs,H1,I1,r1,q1⟩=>?_) hs rfl));obtain⟨j,e,q1,q2,q⟩:=q1;subst e;cases r1 with
 |cons r rr=>
  cases rr;obtain⟨t,rfl⟩:=r;exact call_range_1 (xQ I1 (by lia) (by lia) q1 q2 (by simpa using q))
def GW(wi:TI)(g:TG)(tb:TS):TS:=λD q H=>wi q H λJ H1=>∃W:Nat->Nat->St->Hp->Prop,(∃m,W 0 m q H1)/\∀i m q H,W i m q H->
 (J.stop i H/\D.nx q H)\/(J.go i H/\∃N:St->Hp->Prop,(∀i_ H',N i_ H'->∃m',m'<m/\W (i+1) m' i_ H')/\∀x H',J.yld i H x H'->g x q H' λIK H2=>tb {D with nx:=N,ct:=N,bk:=D.nx} IK H2)
def lC(fp:Z_ ZM)(h:Heap):Z_ (ZM×Obj):=fp.filterMap λb=>(h.get? b).map λo=>(b,o)
def c9(hb:b∈fp)(e:h.get? b=U o):(b,o)∈lC fp h:=Yc.mpr ⟨b,hb,by rw[e];rfl⟩
def uI(hp:p∈lC fp h):p.1∈fp/\h.get? p.1=U p.2:=by
 obtain⟨b,hb,e⟩:=Yc.mp hp;cases q:h.get? b with
 |none=>rw[q]at e;trivial
 |some o=>
  rw[q]at e;have e':(b,o)=p:=Z7 e;subst e';exact⟨hb,q⟩
def Inv.pinned(I:Inv X a_ q H s)(hf:∀b∈fp,fI X a_ H b)(ho:∀b∈fp,∃o,s.heap.get? b=U o/\∀v,o.data≠.cell v):Inv X (a_++lC fp s.heap) q H s:=
 I.aaL λp hp=>(Zl.mp hp).elim (λz=>I.pin p (ZE _ z)) λz=>by
  obtain⟨hb,e⟩:=uI z;obtain⟨f0,f1,f2,_⟩:=hf p.1 hb;obtain⟨o,e',d⟩:=ho p.1 hb;rw[e]at e';obtain rfl:=Z7 e';exact⟨e,f0,f1,f2,d⟩
def Inv.aaR(I:Inv X (a_++pl) q H s):Inv X a_ q H s:=I.aaL λp hp=>I.pin p (ZE _ (YS _ hp))
def oO{iter:Expr}{body:Z_ Stmt}{wi:TI}{g:TG}{tb:TS}{pos:Pos}(hp:PassesOwn (model X.prog X.w) X.A X.env X.xe)(hc:X.calm=L)(hi:PI X tg iter wi)(hg:PG X tg g)(hb:PSs X body tb)
  (hs:∀x,foldedSetIterable iter X.env x=pure x:=by intro _;rfl):PS X (.For tg iter body [] pos) (GW wi g tb):=by
 intro a_ s q H D I h;refine wpAny_For (thn (hi a_ s q H _ I h) λv s1 h1=>thn h1 λO9 s2 h2=>?_) hs;obtain⟨it,fp,tn,J,H2,e,I2,T,NL,f2,W,⟨m0,w0⟩,turn⟩:=h2;subst e;have J7:∀{H':Hp},(∀b∈fp,H' b=M)->∀b∈fp,fI X a_ H' b:=λhn b hb=>⟨hn b hb,(f2 b hb).2⟩
 refine codeAny_forLoop_any (λn s'=>∃i i_ H',Inv X a_ i_ H' s'/\tn i s'.heap/\(∀b∈fp,H' b=M)/\W i n i_ H') ?_ m0 ⟨0,q,H2,I2,NL,λb hb=>(f2 b hb).1,w0⟩;intro n s3 hz;obtain⟨i,Jh,H3,I3,RE,Tb,w3⟩:=hz;rcases turn i n Jh H3 w3 with⟨stop,qn⟩|⟨go,N,hN,step⟩
 .refine XH hp (thn (T.done X rfl rfl rfl hc i a_ s3 Jh H3 X.xe I3 (J7 Tb) RE stop) λr s4 hz=>?_)
  obtain⟨hr,I4⟩:=hz;subst hr;exact Wp ⟨Jh,H3,I4,qn⟩
 .refine XH hp (thn (T.item X rfl rfl rfl hc i a_ s3 Jh H3 X.xe I3 (J7 Tb) RE go) λr s4 hz=>?_)
  obtain⟨u,hr,h4⟩:=hz;subst hr;refine XH hp (thn h4 λ_ s5 hz=>?_);obtain⟨x,H5,I5,r5,y5,PV,V2⟩:=hz;have I5':=I5.pinned (J7 V2) (T.obj _ _ PV);refine XH hp (thn (hg _ s5 Jh H5 x u _ I5' r5 (step x H5 y5)) λ_ s6 hz=>?_);obtain⟨Nf,H6,I6,q6⟩:=hz;refine XH hp (thn (hb _ s6 Nf H6 _ I6 q6) λf s7 q7=>?_);have again:∀{K7:St}{H7:Hp},Inv X (a_++lC fp s5.heap) K7 H7 s7->N K7 H7->∃m,m<n/\∃i i_ H',Inv X a_ i_ H' s7/\tn i s7.heap/\(∀b∈fp,H' b=M)/\W i m i_ H':=λ{K7 H7} I7 n7=>by
   obtain⟨m',hm,w7⟩:=hN K7 H7 n7;refine⟨m',hm,i+1,K7,H7,I7.aaR,T.keep _ _ _ PV λb hb o e=>(I7.pin (b,o) (ZE _ (ZE _ (c9 hb e)))).1,λb hb=>?_,w7⟩;obtain⟨o,e,d⟩:=T.obj _ _ PV b hb;exact(I7.pin (b,o) (ZE _ (ZE _ (c9 hb e)))).2.1
  cases f with
  |next=>obtain⟨K7,H7,I7,n7⟩:=q7;exact again I7 n7
  |cont=>obtain⟨K7,H7,I7,n7⟩:=q7;exact again I7 n7
  |brk=>obtain⟨K7,H7,I7,q7⟩:=q7;exact⟨K7,H7,I7.aaR,q7⟩
  |ret v=>obtain⟨x7,K7,H7,I7,r7,q7⟩:=q7;exact⟨x7,K7,H7,I7.aaR,r7,q7⟩
end
abbrev R2:=V->V->Hp->VK->Prop
def OpR(X:Cx)(f:Z3->Z3->Sem Z3)(r:R2):Prop:=
 ∀(a_:Z_ (ZM×Obj))(s:ZT)(q:St)(H:Hp)(x y:V)(v u:Z3)(Q:VK),Inv X a_ q H s->RelV x v->RelV y u->r x y H Q->
  wpAny (model X.prog X.w) X.A (f v u) (EP X a_ q Q) X.xe s
def fx(X:Cx)(f:Z3)(r:Z_ V->Hp->VK->Prop):Prop:=
 ∀(a_:Z_ (ZM×Obj))(s:ZT)(q:St)(H:Hp)(xs:Z_ V)(us:Z_ Z3)(Q:VK),Inv X a_ q H s->aac xs us->r xs H Q->
  wpAny (model X.prog X.w) X.A (call f us) (EP X a_ q Q) X.xe s
def GP(X:Cx)(r:V->Hp->(Bool->Hp->Prop)->Prop):Prop:=
 ∀(a_:Z_ (ZM×Obj))(s:ZT)(q:St)(H:Hp)(x:V)(v:Z3)(Q:Bool->Hp->Prop),Inv X a_ q H s->RelV x v->r x H Q->
  wpAny (model X.prog X.w) X.A (truthy v) (TP X a_ q Q) X.xe s
def tOp(r:R2)(ta tb:TE):TE:=λq H Q=>ta q H λx H1=>tb q H1 λy H2=>r x y H2 Q
def rI(C:Int->Int->Prop)(g:Int->Int->V):R2:=λx y H Q=>∃i j,x=.int i/\y=.int j/\C i j/\Q (g i j) H
def rI0(g:Int->Int->V):R2:=λx y H Q=>∃i j,x=.int i/\y=.int j/\Q (g i j) H
section
variable{X:Cx}
def E1(ha:PE X a ta)(hb:PE X b tb){a_:Z_ (ZM×Obj)}{s:ZT}{q:St}{H:Hp}{R:V->V->Hp->Prop}(I:Inv X a_ q H s)
  (h:ta q H λx H1=>tb q H1 λy H2=>R x y H2) {Q:Z3->ZT->Prop}{f:Z3->Z3->Sem Z3}
  (hf:∀v u s2 x y H2,Inv X a_ q H2 s2->RelV x v->RelV y u->R x y H2->wpAny (model X.prog X.w) X.A (f v u) Q X.xe s2):
  wpAny (model X.prog X.w) X.A (eval a X.env) (λv e_=>wpAny (model X.prog X.w) X.A (eval b X.env) (λu b_=>wpAny (model X.prog X.w) X.A (f v u) Q X.xe b_) X.xe e_) X.xe s:=by
 refine thn (ha a_ s q H _ I h) λv s1 hz=>?_;obtain⟨x,H1,I1,r1,q1⟩:=hz;refine thn (hb a_ s1 q H1 _ I1 q1) λu s2 hz=>?_;obtain⟨y,H2,I2,r2,q2⟩:=hz;exact hf v u s2 x y H2 I2 r1 r2 q2
def xX(ho:OpR X (binaryOp op) r)(ha:PE X a ta)(hb:PE X b tb):PE X (.BinOp a op b pos) (tOp r ta tb):=by
 intro a_ s O H Q I h;exact wpAny_BinOp (E1 ha hb I h λv u s2 x y H2 I2 rx ry q=>ho a_ s2 O H2 x y v u Q I2 rx ry q)
def opI{f:Z3->Z3->Sem Z3}{C:Int->Int->Prop}{g:Int->Int->Int}(rule:∀(i j:Int)(t u:Tok)(s:ZT)(Q:Z3->ZT->Prop)(E:Z3->ZT->Prop),C i j->Q (.int (g i j) s.toks) {s with toks:=s.toks+1}->wpAny (model X.prog X.w) X.A (f (.int i t) (.int j u)) Q E s):
  OpR X f (rI C λi j=>.int (g i j)):=by
 intro a_ s O H x y v u Q I rx ry h;obtain⟨i,j,rfl,rfl,hc,q⟩:=h;obtain⟨t,rfl⟩:=rx;obtain⟨t',rfl⟩:=ry;exact rule i j t t' s _ _ hc ⟨.int (g i j),H,I.tok _,⟨_,rfl⟩,q⟩
def Gf{f:Z3->Z3->Sem Z3}{g:Int->Int->Int}(rule:∀(i j:Int)(t u:Tok)(s:ZT)(Q:Z3->ZT->Prop)(E:Z3->ZT->Prop),Q (.int (g i j) s.toks) {s with toks:=s.toks+1}->wpAny (model X.prog X.w) X.A (f (.int i t) (.int j u)) Q E s):
  OpR X f (rI0 λi j=>.int (g i j)):=by
 intro a_ s O H x y v u Q I rx ry h;obtain⟨i,j,rfl,rfl,q⟩:=h;obtain⟨t,rfl⟩:=rx;obtain⟨t',rfl⟩:=ry;exact rule i j t t' s _ _ ⟨.int (g i j),H,I.tok _,⟨_,rfl⟩,q⟩
def Ee{f:Z3->Z3->Sem Z3}{g:Int->Int->Bool}(rule:∀(i j:Int)(t u:Tok)(s:ZT)(Q:Z3->ZT->Prop)(E:Z3->ZT->Prop),Q (.bool (g i j)) s->wpAny (model X.prog X.w) X.A (f (.int i t) (.int j u)) Q E s):
  OpR X f (rI0 λi j=>.bl (g i j)):=by
 intro a_ s O H x y v u Q I rx ry h;obtain⟨i,j,rfl,rfl,q⟩:=h;obtain⟨t,rfl⟩:=rx;obtain⟨t',rfl⟩:=ry;exact rule i j t t' s _ _ ⟨.bl (g i j),H,I,rfl,q⟩
def Ho(i j:Int):Prop:=0<j/\j<1073741824
def acz(i j:Int):Prop:=(-(2 ^ 64)<i/\i<2 ^ 64)\/(-(2 ^ 64)<j/\j<2 ^ 64)
def acz.ok(h:acz i j):IntMulOk i j:=by
 rcases h with⟨h1,h2⟩|⟨h1,h2⟩;exact .of_left (intBits_le_64 h1 h2);exact .of_right (intBits_le_64 h1 h2)
def Cv:OpR X (binaryOp .Add) (rI0 λi j=>.int (i+j)):=Gf λ_ _ _ _ _ _ _ q=>add_int q
def CZ:OpR X (binaryOp .Sub) (rI0 λi j=>.int (i - j)):=Gf λ_ _ _ _ _ _ _ q=>sub_int q
def D6:OpR X (binaryOp .Mult) (rI acz λi j=>.int (i*j)):=opI λ_ _ _ _ _ _ _ hc q=>mul_int q hc.ok
def zX:OpR X (binaryOp .FloorDiv) (rI Ho λi j=>.int (i / j)):=opI λi j _ _ _ _ _ hc q=>by
 have h1:(0:Int)<j:=hc.1;have h2:j<1073741824:=hc.2;exact floordiv_int (by lia) (by rw[Int.fdiv_eq_ediv_of_nonneg i (by lia)];exact q) (.inl (PyProof.noPylong_small (by lia)))
def Dg:OpR X (binaryOp .Mod) (rI (λ_ j=>0<j) λi j=>.int (i%j)):=opI λi j _ _ _ _ _ hc q=>by
 have h1:(0:Int)<j:=hc;exact mod_int' (by lia) (by rw[Int.fmod_eq_emod_of_nonneg i (by lia)];exact q)
end
section
variable{b c:Expr}
def Cy(I:Inv X a_ O H s)(q:Q (.bl k) H)(e:k=k'):EP X a_ O Q (.bool k') s:=by
 subst e;exact⟨.bl k,H,I,rfl,q⟩
def EU:OpR X (compareOp .Lt) (rI0 λi j=>.bl (decide (i<j))):=Ee λ_ _ _ _ _ _ _ q=>lt_int q
def Fx:OpR X (compareOp .LtE) (rI0 λi j=>.bl (decide (i<=j))):=Ee λ_ _ _ _ _ _ _ q=>le_int q
def EQ:OpR X (compareOp .Gt) (rI0 λi j=>.bl (decide (j<i))):=Ee λ_ _ _ _ _ _ _ q=>gt_int q
def Fz:OpR X (compareOp .GtE) (rI0 λi j=>.bl (decide (j<=i))):=Ee λ_ _ _ _ _ _ _ q=>ge_int q
def BA:OpR X (compareOp .IsNot) (λx y H Q=>y=.non/\Q (.bl (!decide (x=.non))) H):=by
 intro a_ s O H x y v u Q I rx ry h;obtain⟨rfl,q⟩:=h;cases ry;refine isnot_none_gen (Cy I q ?_);cases x<;>first
  |(cases rx;rfl)
  |(obtain⟨t,rfl⟩:=rx;rfl)
def oW(b:Expr)(h:op≠.In:=by decide)(h2:op≠.NotIn:=by decide):behindInMarks op b=Y:=by
 have e1:(op==CmpOp.In)=Y:=by cases op<;>first|rfl|exact absurd rfl h
 have e2:(op==CmpOp.NotIn)=Y:=by cases op<;>first|rfl|exact absurd rfl h2
 cases b<;>simp[behindInMarks,e1,e2]
def nE(ho:OpR X (compareOp op) r)(ha:PE X a ta)(hb:PE X b tb)(hm:behindInMarks op b=Y):PE X (.Compare a [op] [b] pos) (tOp r ta tb):=by
 intro a_ s O H Q I h;exact wpAny_Compare1 (E1 ha hb I h λv u s2 x y H2 I2 rx ry q=>ho a_ s2 O H2 x y v u Q I2 rx ry q) hm
def E4(t:TE):TT:=λq H Q=>t q H λx H'=>∃k,x=.bl k/\Q k H'
def dM{op:CmpOp}{r:R2}(ho:OpR X (compareOp op) r)(ha:PE X a ta)(hb:PE X b tb)(hm:behindInMarks op b=Y):PT X (.Compare a [op] [b] pos) (E4 (tOp r ta tb)):=by
 intro a_ s q H Q I h;refine wpAny_isTrue_Compare1 (thn (ha a_ s q H _ I h) λv s1 ⟨x,H1,I1,r1,q1⟩=>thn (hb a_ s1 q H1 _ I1 q1) λu s2 ⟨y,H2,I2,r2,q2⟩=>
  thn (ho a_ s2 q H2 x y v u _ I2 r1 r2 q2) λc s3 ⟨z,H3,I3,r3,k,e,q3⟩=>?_) hm
 subst e;cases r3;exact X1 ⟨H3,I3,q3⟩
def Gy(K:Z6)(x:V)(H:Hp)(k:Bool):Prop:=
 match x with
 |.non=>k=Y
 |.bl b=>k=b
 |.int i=>k=(i != 0)
 |.str y=>y.length<=sizeLine/\k=((y.length:Int) != 0)
 |.byt y=>y.size<=sizeLine/\k=((y.size:Int) != 0)
 |.ref p=>(∃xs,SqL K H p xs/\k=!xs.isEmpty)\/(∃xs,SqT K H p xs/\k=!xs.isEmpty)\/∃kvs,H p=U (.dK kvs)/\k=!kvs.isEmpty
 |_=>False
def qU{κ:Type}{kvs:Z_ (κ×V)}{vs:Z_ (κ×Z3)}(r:KV kvs vs):(!vs.isEmpty)=!kvs.isEmpty:=by
 cases r<;>rfl
def io(r:aac xs its):(!its.toArray.isEmpty)=!xs.isEmpty:=by
 cases r<;>simp
def iH:(sizeLine:Nat)<2 ^ 63:=by rw[X0];decide
def CU:GP X (λx H Q=>∃k,Gy X.K x H k/\Q k H):=by
 intro a_ s O H x v Q I rx h;obtain⟨k,e,q⟩:=h;have hl:=iH;have hs:sizeLine=16777216:=X0;cases x with
 |non=>
  cases rx;have e':k=Y:=e;subst e';exact truthy_none ⟨H,I,q⟩
 |bl b=>
  cases rx;have e':k=b:=e;subst e';exact X1 ⟨H,I,q⟩
 |int i=>
  obtain⟨t,rfl⟩:=rx;have e':k=(i != 0):=e;subst e';exact PySem.P.truthy_int ⟨H,I,q⟩
 |str y=>
  obtain⟨t,rfl⟩:=rx;obtain⟨hy,e'⟩:y.length<=sizeLine/\k=((y.length:Int) != 0):=e;subst e';exact PySem.P.truthy_str (by lia) ⟨H,I.tok _,q⟩
 |byt y=>
  obtain⟨t,rfl⟩:=rx;obtain⟨hy,e'⟩:y.size<=sizeLine/\k=((y.size:Int) != 0):=e;subst e';exact W.truthy_bytes (by lia) ⟨H,I.tok _,q⟩
 |ref p=>
  cases rx;have e':(∃xs,SqL X.K H p xs/\k=!xs.isEmpty)\/(∃xs,SqT X.K H p xs/\k=!xs.isEmpty)\/∃kvs,H p=U (.dK kvs)/\k=!kvs.isEmpty:=e;rcases e' with⟨xs,hx,e'⟩|⟨xs,hx,e'⟩|⟨kvs,hx,e'⟩;subst e';obtain⟨its,r,pl,hz⟩:=I.list hx;have hlen:=r.length;exact wpAny_truthy_list pl.isList (by simp only[ZW];lia) ⟨H,I.tok _,by rw[io r];exact q⟩;subst e';obtain⟨its,r,pl,hz⟩:=I.tuple hx;have hlen:=r.length;exact truthy_tuple pl (by simp only[ZW];lia) ⟨H,I.tok _,by rw[io r];exact q⟩;subst e';obtain⟨hz,hS,vs,r,m⟩:kvs.length<=sizeLine/\(p==sysModules)=Y/\∃vs,KV kvs vs/\s.heap.DictOf (bN X.prog X.w) p vs:=I.hok p _ hx;have hlen:kvs.length=vs.length:=Yt r;exact wpAny_truthy_dict hS m (by lia) ⟨H,I.tok _,by rw[qU r];exact q⟩
 |_=>exact(show False from e).elim
def pE(ha:PE X a ta)(he:∀whole,isTrue a X.env whole=(do let v <-whole;standAt a.pos;holding [v] (truthy v))):
  PT X a (λq H Q=>ta q H λx H'=>∃k,Gy X.K x H' k/\Q k H'):=by
 intro a_ s q H Q I h;exact isTrue_plain (thn (ha a_ s q H _ I h) λv s1 hz=>by obtain⟨x,H1,I1,r1,q1⟩:=hz;exact CU a_ s1 q H1 x v Q I1 r1 q1) (he _)
def rq:OpR X (binaryOp .Add) (λx y H Q=>∃i j,x=.str i/\y=.str j/\i.length+j.length<=sizeLine/\Q (.str (i++j)) H):=by
 intro a_ s O H x y v u Q I rx ry h;obtain⟨i,j,rfl,rfl,hz,q⟩:=h;obtain⟨t,rfl⟩:=rx;obtain⟨t',rfl⟩:=ry;exact add_str (λt' tk=>⟨.str (i++j),H,I.tok _,⟨_,rfl⟩,q⟩) hz
def hZ(r:aac [x] us):∃u,us=[u]/\RelV x u:=by
 cases r with
 |cons r1 r2=>cases r2;exact⟨_,rfl,r1⟩
def ER(r:aac [x,y] us):∃u w',us=[u,w']/\RelV x u/\RelV y w':=by
 cases r with
 |cons r1 r2=>
  cases r2 with
  |cons r3 r4=>cases r4;exact⟨_,_,rfl,r1,r3⟩
end
structure acO (h:Heap)(x dx C:ZM)(mA:Str->Z9 Z3):Prop where
 obj:h.get? x=some (W.instObj C dx)
 ns:h.Ns1 dx mA
 ne:dx≠x
def ug{h:Heap}(n:h.Ns1 dx mA):∃od,h.get? dx=U od/\∀name,W.lookIn name od=U (mA name):=by
 obtain⟨o,es,ep,ho,hd,hk,_,hm⟩:=n;refine⟨o,ho,λname=>?_⟩;have e:=hm name;unfold nsFind findBy at e;rw[<-Array.find?_toList]at e;unfold W.lookIn;rw[hd];dsimp only;split;rename_i y q;rw[q]at e;exact congrArg U e;rename_i q;rw[q]at e;have a:es.toList.any (·.refKey)=Y:=by
  rw[List.any_eq_false];intro y hy;obtain⟨z,t,s_⟩:=hk y (Array.mem_toList_iff.mp hy);simp[DictEntry.refKey,s_]
 have a':¬es.toList.any (·.refKey)=L:=by rw[a];exact Zr
 rw[ZK a'];exact congrArg U e
def acO.look(I:acO h x dx C mA):∃od,W.InstAt h x (W.instObj C dx) C (U od)/\∀name,W.lookIn name od=U (mA name):=
 let ⟨od,ho,hl⟩:=ug I.ns
 ⟨od,⟨I.obj,rfl,rfl,ho⟩,hl⟩
section
end
def aaT.some_of(r:aaT (U v) o):∃u,o=U u/\RelV v u:=by
 cases o with
 |none=>exact(show False from r).elim
 |some u=>exact⟨u,rfl,r⟩
def aaT.none_of(r:aaT M o):o=M:=by
 cases o with
 |none=>rfl
 |some u=>exact(show False from r).elim
section
end
structure Cls (K:Z6)(C:ZM):Prop where
 pg:W.plainGet K C Str.empty=true
 hd:W.hasDictIn K C=true
 po:W.plainOver K C=true
 sa:W.findIn K (.ref C) "__setattr__"=some (some (.builtin "object.__setattr__"))
def Cls.get{K:Z6}{C:ZM}(c:Cls K C)(f:Str):W.plainGet K C f=L:=c.pg
section
end
section
end
section
variable{H:Hp}{Q:Z3->ZT->Prop}
inductive abo (K:Z6)(H:Hp):V->Z3->Prop where
 |non:abo K H .non (.type "NoneType")
 |bl (x:Bool):abo K H (.bl x) (.type "bool")
 |int (i:Int):abo K H (.int i) (.type "int")
 |str (x:Str):abo K H (.str x) (.type "str")
 |flt (x:UInt64):abo K H (.flt x) (.type "float")
 |lst {a:ZM}{xs:List V}(e:H a=some (.lst xs)):abo K H (.ref a) (.type "list")
 |frz {a:ZM}{o:Obj}{xs:List V}(e:H a=some (.frz o (.lst xs))):abo K H (.ref a) (.type "list")
 |tup {a:ZM}{xs:List V}(e:H a=some (.tup xs)):abo K H (.ref a) (.type "tuple")
 |dK {a:ZM}{kvs:List (Key×V)}(e:H a=some (.dK kvs)):abo K H (.ref a) (.type "dict")
def eK(I:Inv X a_ O H s)(rx:RelV x u)(ty:abo X.K H x t)(e:W.kitOne X.K t c=U b)(h:∀tk,Q (.bool b) {s with toks:=tk}):
  wpAny (model X.prog X.w) A (call (.builtin "isinstance") [u,c]) Q E s:=by
 cases ty with
 |non=>cases (show u=Value.none from rx);exact Yz W.kitx_none I.kIn True.intro e (λz=>nomatch z) h
 |bl y=>cases (show u=Value.bool y from rx);exact Yz W.kitx_bool I.kIn True.intro e (λz=>nomatch z) h
 |int i=>obtain⟨t,q⟩:=(show ∃t,u=Value.int i t from rx);cases q;exact Yz W.kitx_int I.kIn True.intro e (λz=>nomatch z) h
 |str y=>obtain⟨t,q⟩:=(show ∃t,u=Value.str y t from rx);cases q;exact Yz W.kitx_str I.kIn True.intro e (λz=>nomatch z) h
 |flt y=>obtain⟨t,q⟩:=(show ∃t,u=Value.float y t from rx);cases q;exact Yz W.kitx_float I.kIn True.intro e (λz=>nomatch z) h
 | @lst a xs ea=>
  cases (show u=Value.ref a from rx);obtain⟨_,_,n,_,h1⟩:=(show aak X.prog X.w H s.heap a (.lst xs) from I.hok a _ ea)
  exact Yz W.kitx_list I.kIn ⟨_,h1,rfl⟩ e (λz=>nomatch z) h
 | @frz a ob xs ea=>
  cases (show u=Value.ref a from rx);obtain⟨_,_,_,n,_,h1⟩:=(show aak X.prog X.w H s.heap a (.frz ob (.lst xs)) from I.hok a _ ea)
  exact Yz W.kitx_list I.kIn ⟨_,h1,rfl⟩ e (λz=>nomatch z) h
 | @tup a xs ea=>
  cases (show u=Value.ref a from rx);obtain⟨_,_,_,p⟩:=(show aak X.prog X.w H s.heap a (.tup xs) from I.hok a _ ea)
  obtain⟨o,h1,h2,_⟩:=p;exact Yz W.kitx_tuple I.kIn ⟨o,h1,h2⟩ e (λz=>nomatch z) h
 | @dK a kvs ea=>
  cases (show u=Value.ref a from rx);obtain⟨_,_,vs,_,p⟩:=(show aak X.prog X.w H s.heap a (.dK kvs) from I.hok a _ ea)
  obtain⟨o,es,ep,h1,h2,_⟩:=p;exact Yz W.kitx_dict I.kIn ⟨o,h1,h2.1⟩ e (λz=>nomatch z) h
end
structure aaq (k:Nat)(A:Y9):Prop where
 hd:A.handled=none
 dp:A.depth+3*k+5<recursionLimit
 un:A.units+16*k+200<cLine
def aaq.mono(r:aaq k A)(h:j<=k):aaq j A:=⟨r.hd,by have:=r.dp;lia,by have:=r.un;lia⟩
theorem aaq.deeper(r:aaq (k+1) A)(env:Env):aaq k (A.deeper env):=
 ⟨r.hd,by have:=r.dp;show A.depth+1+3*k+5<_;lia,by have:=r.un;show A.units+3+16*k+200<_;lia⟩
theorem aaq.in1(r:aaq (k+1) A):aaq k A.in1:=
 ⟨r.hd,by have:=r.dp;show A.depth+3*k+5<_;lia,by have:=r.un;show A.units+1+16*k+200<_;lia⟩
theorem aaq.depth(r:aaq k A):A.depth<recursionLimit:=by have:=r.dp;lia
theorem aaq.units(r:aaq k A):A.units+64<cLine:=by have:=r.un;lia
def ab2:TA:=λ_ H Q=>Q [] H
def ql(ta:TE)(tr:TA):TA:=λq H Q=>ta q H λx H1=>tr q H1 λxs H2=>Q (x::xs) H2
section
variable{e:Expr}{t:TA}{pos:Pos}
def aK:PA X [] ab2:=λ_ _ _ _ H Q I h=>Calls.spliced_nil ⟨[],H,I,.nil,h⟩
def aw(ha:PE X e te)(hr:PA X es t)(hs:starEach (e::es) X.env=(Y,eval e X.env)::starEach es X.env:=by rfl):PA X (e::es) (ql te t):=by
 intro pos a_ s q H Q I h;rw[hs];show wpAny _ _ (spliced ((Y,eval e X.env)::backTo pos (starEach es X.env))) _ _ s;refine Calls.spliced_cons (thn (ha a_ s q H _ I h) λu s1 hz=>?_);obtain⟨x,H1,I1,r1,q1⟩:=hz;exact thn (hr pos a_ s1 q H1 _ I1 q1) λus s2 hz=>by obtain⟨xs,H2,I2,r2,q2⟩:=hz;exact⟨x::xs,H2,I2,.cons r1 r2,q2⟩
def HN(t:TA):TE:=λq H Q=>t q H λxs H1=>xs.length<=sizeLine/\∀p,H1 p=M->Q (.ref p) (upd H1 p (.tup xs))
def Iq(t:TA):TE:=λq H Q=>t q H λxs H1=>xs.length<=sizeLine/\∀p,H1 p=M->Q (.ref p) (upd H1 p (.lst xs))
def DR{x1}(h:PA X es t):PE X (.Tuple es x1 pos) (HN t):=by
 intro a_ s O H Q I hq;refine wpAny_Tuple_spliced (thn (h pos a_ s O H _ I hq) λus s1 ⟨xs,H1,I1,r,z,q⟩=>⟨by rw[<-r.length];exact z,?_⟩);have hf:H1 s1.z=M:=I1.hok.fresh (ZP _);refine⟨.ref s1.z,upd H1 s1.z (.tup xs),I1.laid (t':=s1.toks) (λb u e=>Z5 _ e) (ZP _) ?_,rfl,q _ hf⟩;exact⟨z,us,r,⟨_,ZN _ rfl,rfl,_,rfl⟩⟩
def Ch(h:PA X es t):PE X (.List es pos) (Iq t):=by
 intro a_ s O H Q I hq;refine wpAny_List_spliced (thn (h pos a_ s O H _ I hq) λus s1 ⟨xs,H1,I1,r,z,q⟩=>⟨by rw[<-r.length];exact z,?_⟩);have hf:H1 s1.z=M:=I1.hok.fresh (ZP _);refine⟨.ref s1.z,upd H1 s1.z (.lst xs),I1.laid (t':=s1.toks) (λb u e=>Z5 _ e) (ZP _) ?_,rfl,q _ hf⟩;exact⟨z,us,0,r,ZN _ rfl⟩
end
abbrev Sp:=Z_ V->Hp->VK->XK->Prop
abbrev CXT:=Z_ Env->Hp->ZT->XK->Z3->ZT->Prop
structure abr (P:Y5)(w:YV)(K:Z6)(mg:Str->Z9 Z3)(base:Heap)(A:Y9)(outer:List Env)(s:ZT)(H:Hp):Prop where
 frames:A.frames=some outer
 mod:Mod K mg base
 bs:∀b o,base.get? b=some o->s.heap.get? b=some o/\H b=none
 bsz:base.objs.size<=s.heap.objs.size
 aa7:s.heap.FunFrames base outer
 frf:∀b∈frs outer,H b=none
 hok:HOk P w H s.heap
 bare:AllBare s.gens
 tabs:abZ H
def CE(outer:Z_ Env)(P:Y5)(w:YV)(H:Hp)(s:ZT)(Q:VK)(u:Z3)(s':ZT):Prop:=
 ∃v H',s'.os=s.os/\AllBare s'.gens/\Un (frs outer) [] H H' s.heap s'.heap/\HOk P w H' s'.heap/\RelV v u/\Q v H'
def CR(CX:CXT)(outer:Z_ Env)(P:Y5)(w:YV)(H:Hp)(s:ZT)(Q:VK)(E:XK)(r:Result)(s':ZT):Prop:=
 match r with
 |.ok (.ret u)=>CE outer P w H s Q u s'
 |.ok _=>False
 |.error e=>CX outer H s E e s'
structure aa9 (P:Y5)(w:YV)(K:Z6)(mg:Str->Z9 Z3)(base:Heap)(CX:CXT)(k:Nat)(f:ZM)(fd:FuncData)(ps:List Str)(sp:Sp):Prop where
 len:∀vs H Q E,sp vs H Q E->vs.length=ps.length
 run:∀(A:Y9)(outer:List Env)(s:ZT)(H:Hp)(args:Args)(us:List Z3)(vs:List V)(Q:VK)(E:XK),aaq k A->abr P w K mg base A outer s H->BindsTo s fd args (ps.zip us)->aac vs us->sp vs H Q E->
  codeAny (model P w) A (.call (.ref f) args) (CR CX outer P w H s Q E) s
theorem abr.in1{P:Y5}{w:YV}{K:Z6}{mg:Str->Z9 Z3}{base:Heap}{A:Y9}{outer:Z_ Env}{s:ZT}{H:Hp}(e:abr P w K mg base A outer s H):
  abr P w K mg base A.in1 outer s H:=⟨e.frames,e.mod,e.bs,e.bsz,e.aa7,e.frf,e.hok,e.bare,e.tabs⟩
section
def Inv.acL(I:Inv X a_ q H s):abr X.prog X.w X.K X.mg X.base X.A X.stack s H:=
 ⟨I.ok.frames,I.ok.mod,I.bs,ZF I.ok.bsz I.sz,I.stack,I.abQ,I.hok,I.bare,I.ok.tabs.to I.base.aa1⟩
def Inv.after(I:Inv X a_ O H s)(h:CE X.stack X.prog X.w H s Q u s'):EP X a_ O Q u s':=by
 obtain⟨v,H',os,bare,un,hok,r,q⟩:=h;obtain⟨hh,g,d,t,Uu⟩:=s';obtain rfl:Uu=s.os:=os;exact⟨v,H',I.call (h':=hh) (g':=g) (d':=d) (t':=t) (ch:=[]) un hok bare (λb z=>absurd z (by simp)),r,q⟩
end
def Eo(sp:Sp)(dvs:Z_ V)(E:XK)(t:TA):TE:=λq H Q=>t q H λvs H1=>sp (vs++dvs) H1 Q E
def Binds(K:Z6)(fd:FuncData)(ps:Z_ Str)(ds:Z_ Z3):Prop:=
 ∀(s:ZT)(us:Z_ Z3),K.In s.heap->(us++ds).length=ps.length->BindsTo s fd ⟨us,[]⟩ (ps.zip (us++ds))
def Binds.all{K:Z6}{fd:FuncData}{ps:Z_ Str}(h:∀us:Z_ Z3,us.length=ps.length->bindArgs fd ⟨us,[]⟩=pure (ps.zip us)):Binds K fd ps []:=λs us _ hl=>by
 rw[Y3]at hl⊢;exact .of_eq (h us hl)
def u0(CX:CXT)(X:Cx)(E:XK):Prop:=∀(a_:Z_ (ZM×Obj))(q:St)(H:Hp)(s:ZT)(e:Z3)(s':ZT),Inv X a_ q H s->CX X.stack H s E e s'->X.xe e s'
section
variable{X:Cx}{e:Expr}
def C6(F:aa9 X.prog X.w X.K X.mg X.base CX k f fd ps sp)(hr:aaq k X.A)(hb:Binds X.K fd ps ds)(hd:aac dvs ds)(hx:u0 CX X E)(I:Inv X a_ q H s)(r:aac vs us)(h:sp (vs++dvs) H Q E):wpAny (model X.prog X.w) X.A (call (.ref f) us) (EP X a_ q Q) X.xe s:=by
 have r2:aac (vs++dvs) (us++ds):=r.append hd;have hl:(us++ds).length=ps.length:=by rw[<-r2.length];exact F.len _ _ _ _ h
 refine wpAny_call (WY (F.run X.A X.stack s H ⟨us,[]⟩ (us++ds) (vs++dvs) Q E hr I.acL (hb s us I.kIn hl) r2 h) λr s' hq=>?_);cases r with
 |error e=>exact hx a_ q H s e s' I hq
 |ok fl=>
  cases fl with
  |ret u=>exact I.after hq
  |next=>exact False.elim hq
  |brk=>exact False.elim hq
  |cont=>exact False.elim hq
def sQ(F:aa9 X.prog X.w X.K X.mg X.base CX k f fd ps sp)(hr:aaq k X.A)(hg:Gl X x)(hm:X.mg x=U (.ref f))(hk:W.keepIn X.K (.ref f)=L)(hb:Binds X.K fd ps ds)(hd:aac dvs ds)(hx:u0 CX X E)
  (ha:PA X (e::es) t)(Kx:(x==("__debug__":Str))=Y:=by decide)(he:starEach (e::es) X.env=(Y,eval e X.env)::starEach es X.env:=by rfl)(hpl:(backTo pos (starEach es X.env)).any (·.1)=Y:=by rfl):
  PE X (.Call (.Name x p) (e::es) [] pos) (Eo sp dvs E t):=by
 intro a_ s O H Q I h;refine XI (Aq I hg hm ?_ Kx);refine W.callWith_K (h₀:=X.base) I.ok.mod.kin hk (thn (ha pos a_ s O H _ I h) λus s1 ⟨vs,H1,I1,r,q⟩=>⟨I1.kIn,?_⟩) he hpl;exact C6 F hr hb hd hx I1 r q
end
section
end
structure aaw (N P:List Str)(sc:Scope):Prop where
 kind:sc.kind=.function
 co:sc.isCoroutine=false
 gen:sc.isGenerator=false
 nd:N.Nodup
 pre:N.take P.length=P
 par:∀x∈P,sc.names.lookup x=some .local\/sc.names.lookup x=some .cell
 acu:∀y∈sc.names,y.2≠.free
theorem km{kindOf:Str->Z9 NameKind}{x:Str}:∀{binds:Z_ (Str×Z3)}{m:Str->Z9 Z3},(∀v,(x,v)∉binds)->bindL kindOf binds m x=m x
 |[],_,_=>rfl
 |(n,v)::r,m,h=>by
  unfold bindL;rw[km λw hw=>h w (Z1 _ hw)];split;have:x≠n:=by rintro rfl;exact h v ZZ
  simp[this];rfl
theorem kY{kindOf:Str->Z9 NameKind}{x:Str}:∀{binds:Z_ (Str×Z3)}{m:Str->Z9 Z3},(∀v,(x,v)∉binds)->bindC kindOf binds m x=m x
 |[],_,_=>rfl
 |(n,v)::r,m,h=>by
  unfold bindC;rw[kY λw hw=>h w (Z1 _ hw)];split;rfl;have:x≠n:=by rintro rfl;exact h v ZZ
  simp[this]
theorem lN{kindOf:Str->Z9 NameKind}:∀{P:Z_ Str}{vs:Z_ Z3}{i:Nat}{m:Str->Z9 Z3},P.Nodup->P[i]?=U x->vs[i]?=U v->kindOf x=U .local->
  bindL kindOf (P.zip vs) m x=U v
 |[],_,_,_,_,h,_,_=>by simp at h
 |_::_,[],_,_,_,_,h,_=>by simp at h
 |p::P,w::vs,0,m,nd,h1,h2,hk=>by
  simp at h1 h2;subst h1;subst h2;show bindL kindOf ((p,w)::P.zip vs) m p=_;unfold bindL;rw[km λv hv=>(Y4.mp nd).1 (WI hv).1,ZR hk];simp
 |p::P,w::vs,i+1,m,nd,h1,h2,hk=>by
  show bindL kindOf ((p,w)::P.zip vs) m x=_;unfold bindL;exact lN (i:=i) (Y4.mp nd).2 (by simpa using h1) (by simpa using h2) hk
theorem j3{kindOf:Str->Z9 NameKind}:∀{P:Z_ Str}{vs:Z_ Z3}{i:Nat}{m:Str->Z9 Z3},P.Nodup->P[i]?=U x->vs[i]?=U v->kindOf x≠U .local->
  bindC kindOf (P.zip vs) m x=U v
 |[],_,_,_,_,h,_,_=>by simp at h
 |_::_,[],_,_,_,_,h,_=>by simp at h
 |p::P,w::vs,0,m,nd,h1,h2,hk=>by
  simp at h1 h2;subst h1;subst h2;show bindC kindOf ((p,w)::P.zip vs) m p=_;unfold bindC;rw[kY λv hv=>(Y4.mp nd).1 (WI hv).1,ZK hk];simp
 |p::P,w::vs,i+1,m,nd,h1,h2,hk=>by
  show bindC kindOf ((p,w)::P.zip vs) m x=_;unfold bindC;exact j3 (i:=i) (Y4.mp nd).2 (by simpa using h1) (by simpa using h2) hk
def cr(N:Z_ Str)(vs:Z_ V):St:=vs.map U++List.replicate (N.length - vs.length) M
noncomputable def pF(CX:CXT)(P:Y5)(w:YV)(K:Z6)(mg:Str->Z9 Z3)(base:Heap)(N:Z_ Str)(qual:Str)(scope:Scope)(f:ZM)(cd:Z3)(A:Y9)(outer:Z_ Env)(s:ZT)(H:Hp)(E:XK):Cx where
 prog:=P
 w:=w
 K:=K
 mg:=mg
 base:=base
 A:=A.deeper (envOfC qual scope s.z f cd)
 N:=N
 n_:=s
 KW:=H
 env:=envOfC qual scope s.z f cd
 outer:=outer
 stack:=envOfC qual scope s.z f cd::outer
 ex:=[]
 calm:=L
 fn:=λ_=>L
 pn:=[]
 xe:=λe s'=>wpAny (model P w) (A.deeper (envOfC qual scope s.z f cd)) (leaving (envOfC qual scope s.z f cd) e) (λ_ Kq=>CX outer H s E e Kq) (λe' Kq=>CX outer H s E e' Kq) s'
def nZ{sc:Scope}(h:sc.names.lookup x=U .cell):∃c,(cellsFrom n sc.names []).lookup x=U c:=by
 have q:=WO sc.names n [] (.inl h);exact Option.isSome_iff_exists.mp q
def j5{CX:CXT}{P:Y5}{w:YV}{K:Z6}{mg:Str->Z9 Z3}{base:Heap}{N ps:Z_ Str}{qual:Str}{scope:Scope}{f:ZM}{cd:Z3}{A:Y9}{outer:Z_ Env}{s s1:ZT}{H:Hp}{E:XK}{us:Z_ Z3}{vs:Z_ V}
  (S:aaw N ps scope) (hd:A.handled=M) (e0:abr P w K mg base A outer s H) (hl:vs.length=ps.length) (r:aac vs us)
  (x:InCallC s s.z (bindL (envOfC qual scope s.z f cd).kindOf (ps.zip us) λ_=>M) (cellsFrom (s.z+1) scope.names []) (bindC (envOfC qual scope s.z f cd).kindOf (ps.zip us) λ_=>M) s1):
  Inv (pF CX P w K mg base N qual scope f cd A outer s H E) [] (cr N vs) H s1:=by
 have hpl:ps.length<=N.length:=by have:=congrArg List.length S.pre;rw[XC]at this;lia
 obtain⟨h1,tk,rfl,hk⟩:=x.done;have NR:∀b:ZM,b∉(pF CX P w K mg base N qual scope f cd A outer s H E).ex:=λb z=>absurd (show b∈([]:Z_ ZM) from z) (by simp);refine⟨⟨e0.mod,S.kind,rfl,rfl,ZP _,λy z c h1 h2=>?_,λy hy=>?_,λy c _ h=>?_,λ_=>hd,Around.frames_deeper e0.frames,.inr ⟨rfl,rfl⟩,λb z=>absurd z (NR b),e0.bs,e0.bsz,λb _ _=>NR b,λb z=>absurd z (NR b),e0.aa7,e0.frf,e0.tabs⟩,
  rfl,e0.bare,Un.kept hk,⟨_,x.toInCall.ns,λi y v h1 h2 h3=>?_⟩,λy c h=>⟨_,x.cell y c h⟩,e0.hok.fresh (ZP _),λy c h=>?_,λp hp=>absurd (show p∈([]:Z_ (ZM×Obj)) from hp) (by simp),e0.hok.kept hk,?_⟩
 exact name_of_addr x.apart (YM h1) (YM h2);have hy:scope.names.lookup y=U .cell\/scope.names.lookup y=U .free:=hy;rcases hy with hy|hy;exact nZ hy;exact absurd rfl (S.acu _ (YM hy));exact WM (x.above y c (YM h))
 .have hi:i<vs.length:=by
   unfold cr at h2;by_cases hi:i<vs.length;exact hi
   .rw[Yb (by simpa using hi)]at h2
    rw[List.getElem?_replicate]at h2;split at h2<;>cases h2
  have ha:vs[i]?=U v:=by
   unfold cr at h2;rw[Ys (by simpa using hi),Yv]at h2;cases e:vs[i]? with
   |none=>rw[e]at h2;trivial
   |some a=>rw[e]at h2;cases h2;rfl
  obtain⟨u,hu,rv⟩:=r.get ha;have hp:ps[i]?=U y:=by
   rw[<-S.pre,List.getElem?_take_of_lt (by lia)];exact h1
  have RX:ps.Nodup:=by rw[<-S.pre];exact S.nd.sublist (List.take_sublist _ _)
  refine⟨u,rv,?_⟩;rcases S.par y (Zf hp)with k|k;exact .inl ⟨k,lN RX hp hu k⟩;obtain⟨c,e⟩:=nZ (n:=s.z+1) k;refine .inr ⟨.inl k,c,e,?_⟩;have q:=x.cell y c e;rw[j3 RX hp hu (by show scope.names.lookup y≠_;rw[k];decide)]at q;exact q
 exact e0.hok.fresh (WM (x.above y c (YM h)));unfold cr;show _=N.length;rw[Zv,ZJ,List.length_replicate];lia
def Fy{CX:CXT}{P:Y5}{w:YV}{K:Z6}{mg:Str->Z9 Z3}{base:Heap}{k:Nat}{f:ZM}{name qual:Str}{params:Arguments}{body:Z_ Stmt}{scope:Scope}{dV kV doc pm Jl ct oc:Z3}{an od:Z9 ZM}
  {Nq:Array (Z9 Z3)}{N ps:Z_ Str}{sp:Sp}(lk:K.lookup f=U ⟨oc,od,.func (W.fnOf name qual params body scope dV kV doc pm an Jl ct),Nq⟩) (Jg:W.codeIn K Jl qual=L) (S:aaw N ps scope)
  (len:∀vs H Q E,sp vs H Q E->vs.length=ps.length)
  (Jb:∀(A:Y9)(outer:Z_ Env)(s:ZT)(H:Hp)(vs:Z_ V)(Q:VK)(E:XK),aaq k (A.deeper (envOfC qual scope s.z f Jl))->sp vs H Q E->
   ∃t,PSs (pF CX P w K mg base N qual scope f Jl A outer s H E) body t/\t {nx:=λ_ H'=>Q .non H',rt:=Q} (cr N vs) H):
  aa9 P w K mg base CX (k+1) f (W.fnOf name qual params body scope dV kV doc pm an Jl ct) ps sp:=by
 refine⟨len,λA outer s H args us vs Q E hr e0 hb r Md=>?_⟩;have hl:=len _ _ _ _ Md;have KX:K.In s.heap:=e0.mod.kin.keeps λb o e=>(e0.bs b o e).1;have lim:s.heap.NoLimit:=e0.mod.nolimit.keeps λb o e=>(e0.bs b o e).1;have LD:∀y∈ps.zip us,scope.names.lookup y.1=U .local\/(scope.names.lookup y.1=U .cell/\((cellsFrom (s.z+1) scope.names []).lookup y.1).isSome=L):=λ⟨n,v⟩ hy=>by
  rcases S.par n (WI hy).1 with q|q;exact .inl q;exact .inr ⟨q,WO _ _ _ (.inl q)⟩
 refine codeAny_call_function hr.depth (KX _ _ lk) rfl S.co S.gen rfl (W.codeRec_of KX Jg) (hb _ _ _ _ ?_);refine wpAny_newFunctionEnv_cells S.kind LD λenv he s1 x=>?_;subst he;refine⟨lim.keeps x.toInCall.keep,codeAny_func ?_⟩;obtain⟨t,ht,hq⟩:=Jb A outer s H vs Q E (hr.deeper _) Md;have I:Inv (pF CX P w K mg base N qual scope f Jl A outer s H E) [] (cr N vs) H s1:=j5 S hr.hd e0 hl r x;refine YN (ht [] s1 (cr N vs) H _ I hq) (λfl s' hs=>?_) λe s' hs=>hs;have fin:∀{i_:St}{H':Hp}{v:V}{u:Z3},Inv (pF CX P w K mg base N qual scope f Jl A outer s H E) [] i_ H' s'->RelV v u->Q v H'->CE outer P w H s Q u s':=
  λ{i_ H' v u} J rv q=>⟨v,H',J.os,J.bare,J.base,J.hok,rv,q⟩
 cases fl with
 |ret u=>
  obtain⟨v,i_,H',J,rv,q⟩:=hs;exact fin J rv q
 |next=>
  obtain⟨i_,H',J,q⟩:=hs;exact fin (v:=V.non) (u:=Value.none) J rfl q
 |brk=>
  obtain⟨_,_,_,q⟩:=hs;exact False.elim q
 |cont=>
  obtain⟨_,_,_,q⟩:=hs;exact False.elim q
section
variable{X:Cx}{x:Str}{p pos:Pos}{e:Expr}{es:Z_ Expr}{t:TA}{id T:String}{r:Z_ V->Hp->VK->Prop}
def tCB(r:Z_ V->Hp->VK->Prop)(t:TA):TE:=λq H Q=>t q H λvs H1=>r vs H1 Q
def c7(hc:fx X (.builtin id) r)(hg:Gl X x)(hm:X.mg x=M)(hv:bootBuiltins x=U (.builtin id))(ha:PA X (e::es) t)(hn:x≠"__name__":=by decide)(Kx:(x==("__debug__":Str))=Y:=by decide)(he:starEach (e::es) X.env=(Y,eval e X.env)::starEach es X.env:=by rfl)(hpl:(backTo pos (starEach es X.env)).any (·.1)=Y:=by rfl):PE X (.Call (.Name x p) (e::es) [] pos) (tCB r t):=by
 intro a_ s q H Q I h;refine XI (dT I hg hm hv ?_ hn Kx);exact PyProof.Rows.callWith_builtin1 (thn (ha pos a_ s q H _ I h) λus s1 hz=>by obtain⟨vs,H1,I1,r1,q1⟩:=hz;exact hc a_ s1 q H1 vs us Q I1 r1 q1) he hpl
def cV(hc:fx X (.type T) r)(hg:Gl X x)(hm:X.mg x=M)(hv:bootBuiltins x=U (.type T))(ha:PA X (e::es) t)(hn:x≠"__name__":=by decide)(Kx:(x==("__debug__":Str))=Y:=by decide)(he:starEach (e::es) X.env=(Y,eval e X.env)::starEach es X.env:=by rfl)(hpl:(backTo pos (starEach es X.env)).any (·.1)=Y:=by rfl):PE X (.Call (.Name x p) (e::es) [] pos) (tCB r t):=by
 intro a_ s q H Q I h;refine XI (dT I hg hm hv ?_ hn Kx);exact Yw (thn (ha pos a_ s q H _ I h) λus s1 hz=>by obtain⟨vs,H1,I1,r1,q1⟩:=hz;exact hc a_ s1 q H1 vs us Q I1 r1 q1) he hpl
end
section
variable{κ:Type}[DecidableEq κ]
def eR(kvs:Z_ (κ×V))(k:κ):Z9 V:=(kvs.find? λkv=>decide (kv.1=k)).map (·.2)
noncomputable def du(kvs:Z_ (κ×V))(k:κ)(v:V):Z_ (κ×V):=
 if(kvs.any λkv=>decide (kv.1=k))=L then kvs.map (λkv=>if kv.1=k then(kv.1,v) else kv) else kvs++[(k,v)]
def bX{p:κ×V}{r:Z_ (κ×V)}{k:κ}(e:p.1=k):eR (p::r) k=U p.2:=by simp[eR,List.find?_cons,e]
def bY{p:κ×V}{r:Z_ (κ×V)}{k:κ}(e:¬p.1=k):eR (p::r) k=eR r k:=by simp[eR,List.find?_cons,e]
theorem d9(k:κ):∀kvs:Z_ (κ×V),(kvs.any λkv=>decide (kv.1=k))=(eR kvs k).isSome
 |[]=>rfl
 |p::r=>by
  rw[List.any_cons];by_cases e:p.1=k;simp only[bX e,Zw e,Bool.true_or,Option.isSome_some];rw[bY e,ZA e,Bool.false_or];exact d9 k r
def br(kvs:Z_ (κ×V))(k:κ)(v:V):(du kvs k v).length<=kvs.length+1:=by
 unfold du;split;rw[ZJ];lia;rw[Zv,bG,fU];lia
def jo{kvs:Z_ (κ×V)}{k:κ}(v:V)(h:eR kvs k=M):du kvs k v=kvs++[(k,v)]:=by
 unfold du;rw[d9,h];exact ZK (by decide)
def aaT.aaV(r:aaT o u):o.isSome=u.isSome:=by
 cases o with
 |none=>cases u with
  |none=>rfl
  |some _=>exact(show False from r).elim
 |some _=>cases u with
  |none=>exact(show False from r).elim
  |some _=>rfl
theorem aaT.getD(r:aaT o u)(rd:RelV d d'):RelV (o.getD d) (u.getD d'):=by
 cases o with
 |none=>cases u with
  |none=>exact rd
  |some _=>exact(show False from r).elim
 |some _=>cases u with
  |none=>exact(show False from r).elim
  |some _=>exact r
def KV.val(r:KV kvs vs)(k:κ):aaT (eR kvs k) (valueAt vs k):=by
 unfold KV at r
 induction r with
 |nil=>exact True.intro
 | @cons p q ps qs h t ih=>
  obtain⟨h1,h2⟩:=h;by_cases e:p.1=k;have e':q.1=k:=h1.symm.trans e;have b:valueAt (q::qs) k=U q.2:=by simp[valueAt,List.find?_cons,e']
  rw[bX e,b];exact h2;have e':¬q.1=k:=λz=>e (h1.trans z);have b:valueAt (q::qs) k=valueAt qs k:=by simp[valueAt,List.find?_cons,e']
  rw[bY e,b];exact ih
theorem KV.any(r:KV kvs vs)(k:κ):(kvs.any λkv=>decide (kv.1=k))=vs.any λkv=>decide (kv.1=k):=by
 unfold KV at r
 induction r with
 |nil=>rfl
 |cons h t ih=>rw[List.any_cons,List.any_cons,ih,h.1]
def KV.ab5(r:KV kvs vs)(k:κ)(ry:RelV y u):
  KV (kvs.map λkv=>if kv.1=k then(kv.1,y) else kv) (vs.map λkv=>if kv.1=k then(kv.1,u) else kv):=by
 unfold KV at r⊢
 induction r with
 |nil=>exact .nil
 | @cons p q ps qs h t ih=>
  rw[Z2,Z2];refine .cons ?_ ih;obtain⟨h1,h2⟩:=h;by_cases e:p.1=k;rw[ZR e,ZR (h1.symm.trans e)];exact⟨h1,ry⟩;rw[ZK e,ZK (λz=>e (h1.trans z))];exact⟨h1,h2⟩
def KV.put(r:KV kvs vs)(k:κ)(ry:RelV y u):KV (du kvs k y) (stored vs k u):=by
 unfold du stored;rw[r.any k];by_cases e:(vs.any λkv=>decide (kv.1=k))=L;rw[ZR e,ZR e];exact r.ab5 k ry;rw[ZK e,ZK e];exact Paired.snoc r ⟨rfl,ry⟩
theorem KV.length(r:KV kvs vs):kvs.length=vs.length:=Yt r
end
def mt(r:RelV (kV k) u):(bN P w).is k u=L:=by
 cases k with
 |inl i=>obtain⟨t,e⟩:=(show ∃t,u=Value.int i t from r);subst e;exact nF P w i t
 |inr x=>obtain⟨t,e⟩:=(show ∃t,u=Value.str x t from r);subst e;exact mY P w x t
theorem k6:∀{ks:Z_ Key}{us:Z_ Z3},aac (ks.map kV) us->ItemsAre (bN P w) ks us
 |[],_,r=>by rw[Y6]at r;cases r;exact .nil
 |k::ks,_,r=>by
  rw[Z2]at r;cases r with
  |cons h t=>exact .cons (mt h) (k6 t)
abbrev KT(H:Hp):Z_ (Z_ Key×V)->Z_ (Z_ Key×ZM×Z3)->Prop:=Paired λp q=>p.1=q.1/\H q.2.1=U (.tup (p.1.map kV))/\RelV p.2 q.2.2
def KT.val(r:KT H kvs xs)(k:Z_ Key):aaT (eR kvs k) ((atKey xs k).map (·.2)):=by
 induction r with
 |nil=>exact True.intro
 | @cons p q ps qs h t ih=>
  obtain⟨h1,_,h2⟩:=h;by_cases e:p.1=k;have e':q.1=k:=h1.symm.trans e;have b:atKey (q::qs) k=U q.2:=by simp[atKey,List.find?_cons,e']
  rw[bX e,b];exact h2;have e':¬q.1=k:=λz=>e (h1.trans z);have b:atKey (q::qs) k=atKey qs k:=by simp[atKey,List.find?_cons,e']
  rw[bY e,b];exact ih
def KT.ab5(r:KT H kvs xs)(k:Z_ Key)(ry:RelV y u):
  KT H (kvs.map λkv=>if kv.1=k then(kv.1,y) else kv) (xs.map (putAt k u)):=by
 induction r with
 |nil=>exact .nil
 | @cons p q ps qs h t ih=>
  rw[Z2,Z2];refine .cons ?_ ih;obtain⟨h1,h2,h3⟩:=h;unfold putAt;by_cases e:p.1=k;rw[ZR e,ZR (h1.symm.trans e)];exact⟨h1,h2,ry⟩;rw[ZK e,ZK (λz=>e (h1.trans z))];exact⟨h1,h2,h3⟩
def KT.put(r:KT H kvs xs)(k:Z_ Key)(hb:H b=U (.tup (k.map kV)))(ry:RelV y u):
  KT H (du kvs k y) (storedH xs k b u):=by
 have e:(kvs.any λkv=>decide (kv.1=k))=(atKey xs k).isSome:=by
  rw[d9,(r.val k).aaV,W0]
 unfold du storedH;rw[e];by_cases q:(atKey xs k).isSome=L;rw[ZR q,ZR q];exact r.ab5 k ry;rw[ZK q,ZK q];exact Paired.snoc r ⟨rfl,hb,ry⟩
def KT.keeps(r:KT H kvs xs)(ht:∀b ys,H b=U (.tup ys)->H' b=U (.tup ys)):KT H' kvs xs:=
 Paired.abY r λ_ _ z=>⟨z.1,ht _ _ z.2.1,z.2.2⟩
section
def pY(ok:HOk P w H h)(e:Rd H a u):aak P w H h a u:=e.ok ok
def ma(ok:HOk P w H h)(e:Rd H a (.dK kvs)):kvs.length<=sizeLine/\(a==sysModules)=Y/\∃vs,KV kvs vs/\h.DictOf (bN P w) a vs:=
 show aak P w H h a (.dK kvs) from pY ok e
def Cz(ok:HOk P w H h)(e:H a=U (.dK kvs)):kvs.length<=sizeLine/\(a==sysModules)=Y/\∃vs,KV kvs vs/\h.DictOf (bN P w) a vs:=ma ok (.inl e)
def FW(ok:HOk P w H h)(e:H a=U (.tup (ks.map kV))):(tupleKind (bN P w)).is h ks a:=by
 obtain⟨_,its,r,o,h1,h2,n,h3⟩:=(show aak P w H h a (.tup (ks.map kV)) from ok a _ e)
 exact⟨o,its.toArray,n,h1,h2,h3,by simpa using k6 r⟩
end
def Dm(H:Hp)(a:ZM)(y:V)(r:Z9 V):Prop:=
 ∃kvs k,Rd H a (.dK kvs)/\y=kV k/\r=eR kvs k
def GE(H:Hp)(a:ZM)(y v:V)(H':Hp):Prop:=
 ∃kvs k,H a=U (.dK kvs)/\y=kV k/\kvs.length<sizeLine/\H'=upd H a (.dK (du kvs k v))
section
variable{o:Z9 V}{A:Y9}
def Inv.big(I:Inv X a_ q H s):sysModules<s.z:=by
 have h:mainGlobals<s.z:=(I.mod.glob.keeps I.bk).lt;exact Nat.lt_trans (by decide) h
def sj(hu:A.units+1<cLine)(I:Inv X a_ q H s)(g:Dm H a y (U v))(ry:RelV y u)(h:∀w' s',Inv X a_ q H s'->RelV v w'->Q w' s'):
  wpAny (model X.prog X.w) A (getItem (.ref a) u) Q E s:=by
 obtain⟨kvs,k,e,ey,l⟩:=g;subst ey;obtain⟨z,hd,vs,rel,dd⟩:=ma I.hok e;obtain⟨w',hw,F_⟩:=aaT.some_of (v:=v) (o:=valueAt vs k) (by rw[l];exact rel.val k);exact wpAny_getItem_of (mt ry) dd.mapOf hw (h w' _ (I.tok _) F_)
def AV(hu:A.units+1<cLine)(I:Inv X a_ q H s)(g:Dm H a y o)(ry:RelV y u)(h:∀s',Inv X a_ q H s'->Q (.bool (!o.isSome)) s'):
  wpAny (model X.prog X.w) A (compareOp .NotIn u (.ref a)) Q E s:=by
 obtain⟨kvs,k,e,ey,l⟩:=g;subst ey;obtain⟨z,hd,vs,rel,dd⟩:=ma I.hok e;refine wpAny_notIn_of (mt ry) hd dd.mapOf ?_;rw[<-(rel.val k).aaV,<-l];exact h _ (I.tok _)
def gx(I:Inv X a_ O H s)(mu:Mut (H a))(hs:Heap.SameBut a s.heap h')(he:∃q,h'.get? a=U q)(new:aak X.prog X.w (upd H a ob) h' a ob):
  Inv X a_ O (upd H a ob) {s with heap:=h',toks:=t'}:=
 I.write (x:=a) (e:=a) mu (.inl rfl) (λb q hb z=>(hs.2 b hb).trans z) he new
def ye(z:kvs.length<=sizeLine)(hd:(a==sysModules)=Y)(rel:KV kvs vs)(dd:h'.DictOf (bN P w) a vs):
  aak P w H' h' a (.dK kvs):=⟨z,hd,vs,rel,dd⟩
def ue(hu:A.units+1<cLine)(I:Inv X a_ O H s)(g:GE H a y v H')(ry:RelV y u)(rv:RelV v r)(h:∀s',Inv X a_ O H' s'->Q () s'):
  wpAny (model X.prog X.w) A (setItem (.ref a) u r) Q E s:=by
 obtain⟨kvs,k,e,ey,l,eH⟩:=g;subst ey eH;obtain⟨z,hd,vs,rel,dd⟩:=Cz I.hok e;have hz:vs.length<=sizeLine:=by rw[<-rel.length];exact z
 have hl:(du kvs k v).length<=sizeLine:=by have:=br kvs k v;lia
 refine wpAny_setItem_pairs (hsz:=hz) (mt ry) dd λh' Kz hs=>h _ ?_;have he:∃q,h'.get? a=U q:=let ⟨q,_,_,hq,_⟩:=Kz;⟨q,hq⟩
 exact gx I (by rw[e];exact True.intro) hs he (ye hl hd (rel.put k rv) Kz)
end
section
end
def EB(i:Expr):Prop:=∀ov iv,subscripted i Y ov iv=operate [ov,iv] (getItem ov iv)
def Ay{prog:Y5}{w:YV}{A:Y9}{E:Z3->ZT->Prop}{s:ZT}{env:Env}{value slice:Expr}{pos:Pos}{T id:String}{Q:Z3->ZT->Prop}
  (hl:typeLookup (.type T) "__getitem__"=pure (U (.builtin id))) (hs:EB slice)
  (h:wpAny (model prog w) A (eval value env) (λo e_=>wpAny (model prog w) A (eval slice env) (λi b_=>b_.TypeIs o T/\wpAny (model prog w) A (getItem o i) Q E b_) E e_) E s):
  wpAny (model prog w) A (eval (.Subscript value slice pos) env) Q E s:=by
 refine Subscript_ (YN h (λo e_ IS=>YN IS (λi b_ Lh=>?_) λ_ _ x=>x) λ_ _ x=>x);obtain⟨hT,Lh⟩:=Lh;unfold subscriptTail;refine Z8 ?_;rw[getitemInPython_of_ne hT.not_modules];refine Z8 (X3 hT hl ?_);have fin:wpAny (model prog w) A (subscripted slice Y o i) (λr JI=>wpAny (model prog w) A (letTemporaryGo value o r >>= λ_=>pure r) Q E JI) E b_:=by
  rw[hs o i];exact wpAny_operating (YN Lh (λr JI L0=>Z8 (wpAny_letTemporaryGo (Z4 L0))) λ_ _ x=>x)
 first
  |exact Z4 (Z8 fin)
  |exact Z8 (Z4 (Z8 fin))
  |exact Z8 fin
def nR(I:Inv X a_ q H s)(g:Dm H a y o):s.TypeIs (.ref a) "dict":=by
 obtain⟨kvs,k,e,_,_⟩:=g;obtain⟨_,_,vs,_,dd⟩:=ma I.hok e;exact dd.typeIs
section
end
def vX(h:Heap)(hb:sysModules<h.objs.size):aak P w H (h.push {cls:=.type "dict",data:=.dict #[]}) h.objs.size (.dK []):=
 ⟨Zo _,beq_eq_false_iff_ne.mpr (ZC (Zs hb)),[],.nil,Heap.DictOf.new h⟩
def acr:TE:=λ_ H Q=>∀p,H p=M->Q (.ref p) (upd H p (.dK []))
section
def wz:PE X (.Dict [] [] pos) acr:=λa_ s O H Q I h=>
 wpAny_Dict_empty ⟨.ref s.z,_,I.laid (a:=s.z) (o:=.dK []) (t':=s.toks) (λ_ _ q=>Z5 _ q) (ZP _) (vX s.heap I.big),rfl,h _ (I.hok.fresh (ZP _))⟩
end
section
variable{A:Y9}
def CC(hu:A.units+1<cLine)(I:Inv X a_ q H s)(g:Dm H a y o)(ry:RelV y u)(rd:RelV d r)(h:∀w' s',Inv X a_ q H s'->RelV (o.getD d) w'->Q w' s'):
  wpAny (model X.prog X.w) A (call (.builtin "dict.get") [.ref a,u,r]) Q E s:=by
 obtain⟨kvs,k,e,ey,l⟩:=g;subst ey;obtain⟨z,hd,vs,rel,dd⟩:=ma I.hok e;refine call_meetsIn WB dd.typeIs F.entry_dict_get (F.args_dict_get_3 _ _ _) (meets_dict_get_default (bN X.prog X.w) a (mt ry) hd r) ⟨_,dd.mapOf,h _ _ (I.tok _) ?_⟩;rw[l];exact(rel.val k).getD rd
end
section
end
section
end
section
end
end L2
namespace HT
open PySem PyProof.Rows
def ab6(A:Y9)(s:ZT)(a:Int)(t:Tok)(c:Int)(u:Tok)(prog:Y5)(w:YV)(E:Z3->ZT->Prop)(Q:Z3->ZT->Prop)(h:Q (.bool (decide (a<c))) s):
  wpAny (model prog w) A (richCompare .Lt (.int a t) (.int c u)) Q E s:=
 (PyProof.Rows.lt_int h:wpAny (model prog w) A (compareOp .Lt (.int a t) (.int c u)) Q E s)
section
open PySem.SeqAt
open PySem.AutoSeq1 (wpAny_loadPart')
open PySem.MeetsSeq PySem.MeetsSeq2 PySem.MeetsSeq3
end
section
def sIx(n d:Nat):Z9 Int->Nat
 |none=>d
 |some v=>if v<0 then(v+(n:Int)).toNat else min v.toNat n
theorem abC(n d:Nat):sIx n d M=d:=rfl
def abR(n d k:Nat):sIx n d (U (k:Int))=min k n:=by
 show(if(k:Int)<0 then((k:Int)+(n:Int)).toNat else min (k:Int).toNat n)=min k n;rw[ZK (by lia),Int.toNat_natCast]
end
end HT
namespace L2
open PySem PySem.Spec PyProof.Rows
variable[Lams]
abbrev TO:=St->Hp->(Z9 Int->Hp->Prop)->Prop
def PO(X:Cx)(e:Z9 Expr)(t:TO):Prop:=
 ∀(a_:Z_ (ZM×Obj))(s:ZT)(q:St)(H:Hp)(Q:Z9 Int->Hp->Prop),Inv X a_ q H s->t q H Q->
  wpAny (model X.prog X.w) X.A (evalPart e X.env) (λu s'=>∃o H',Inv X a_ q H' s'/\IsPart u o/\Q o H') X.xe s
def acd:TO:=λ_ H Q=>Q M H
def E9(t:TE):TO:=λq H Q=>t q H λx H1=>∃i,x=.int i/\Q (U i) H1
def qm:∀{us:Z_ Z3},aac (ns.map V.int) us->IntsAre us ns:=by
 induction ns with
 |nil=>intro us r;rw[Y6]at r;cases r;exact .nil
 |cons n ns ih=>
  intro us r;rw[Z2]at r;cases r with
  |cons r1 r2=>
   obtain⟨t,e⟩:=r1;subst e;exact .cons n t (ih r2)
section
variable{X:Cx}{te:TE}{lo hi:Z9 Expr}{tl th:TO}
def Bo:PO X M acd:=by
 intro a_ s q H Q I h;rw[evalPart_none];exact Z4 ⟨M,H,I,.none,h⟩
def Bu(h:PE X e te):PO X (U e) (E9 te):=by
 intro a_ s O H Q I hw;rw[evalPart_some];refine thn (h a_ s O H _ I hw) λu s1 hz=>?_;obtain⟨x,H1,I1,r1,q1⟩:=hz;obtain⟨i,rfl,q⟩:=q1;obtain⟨t,rfl⟩:=r1;exact⟨U i,H1,I1,.int i t,q⟩
def SlR(X:Cx)(r:V->Z9 Int->Z9 Int->Hp->VK->Prop):Prop:=
 ∀(a_:Z_ (ZM×Obj))(s:ZT)(q:St)(H:Hp)(x:V)(v vl vu:Z3)(lo hi:Z9 Int)(sl:ZM)(Q:VK),Inv X a_ q H s->RelV x v->s.heap.IsSliceOf sl vl vu .none->IsPart vl lo->IsPart vu hi->r x lo hi H Q->
  ∃T id,typeLookup (.type T) "__getitem__"=pure (U (.builtin id))/\s.TypeIs v T/\wpAny (model X.prog X.w) X.A (getItem v (.ref sl)) (EP X a_ q Q) X.xe s
def tSl(r:V->Z9 Int->Z9 Int->Hp->VK->Prop)(te:TE)(tl th:TO):TE:=λq H Q=>te q H λx H1=>tl q H1 λl H2=>th q H2 λu H3=>r x l u H3 Q
def oI(hr:SlR X r)(he:PE X e te)(hl:PO X lo tl)(hu:PO X hi th):PE X (.Subscript e (.Slice lo hi M p2) pos) (tSl r te tl th):=by
 intro a_ s O H Q I h;refine Subscript_ (thn (he a_ s O H _ I h) λv s1 hz=>?_);obtain⟨x,H1,I1,r1,q1⟩:=hz;refine wpAny_Slice (thn (hl a_ s1 O H1 _ I1 q1) λvl s2 ⟨l,H2,I2,pl,q2⟩=>thn (hu a_ s2 O H2 _ I2 q2) λvu s3 hz=>?_);obtain⟨u,H3,I3,pu,q3⟩:=hz;rw[evalPart_none];refine Z4 ?_;have I4:Inv X a_ O H3 {s3 with heap:=s3.heap.push {cls:=.type "slice",data:=.fields #[vl,vu,.none]}}:=I3.kept (t':=s3.toks) λb ob q=>Z5 _ q;obtain⟨T,id,hT,ht,hg⟩:=hr a_ {s3 with heap:=s3.heap.push {cls:=.type "slice",data:=.fields #[vl,vu,.none]}} O H3 x v vl vu l u s3.z Q I4 r1 (Heap.IsSliceOf.new ..) pl pu q3;show wpAny (model X.prog X.w) X.A (subscriptTail e (.Slice lo hi M p2) v (.ref s3.z)) (EP X a_ O Q) X.xe {s3 with heap:=s3.heap.push {cls:=.type "slice",data:=.fields #[vl,vu,.none]}};exact tail_any (ops:=[.ref s3.z,v]) ht hT hg (by with_unfolding_all rfl)
def AJ(xs:Z_ V)(lo hi:Z9 Int):Z_ V:=(xs.drop (HT.sIx xs.length 0 lo)).take (HT.sIx xs.length xs.length hi - HT.sIx xs.length 0 lo)
def nG(xs:Z_ V)(lo hi:Z9 Int):(AJ xs lo hi).length<=xs.length:=by
 unfold AJ;rw[XC,List.length_drop];lia
end
def ixN(n:Nat)(i:Int):Z9 Nat:=if 0<=i then(if i<n then U i.toNat else M) else if -(n:Int)<=i then U (i+n).toNat else M
def atI{q:Type}(xs:Z_ q)(i:Int):Z9 q:=(ixN xs.length i).bind λj=>xs[j]?
def sg(h:ixN n i=U j):seqIndex? i n=U j/\j<n/\ -(n:Int)<=i/\i<n:=by
 unfold ixN at h;by_cases h0:0<=i;rw[ZR h0]at h;by_cases h1:i<n;rw[ZR h1]at h;have e:i.toNat=j:=Z7 h;exact⟨by rw[seqIndex_of h0 h1,e],by lia,by lia,h1⟩;rw[ZK h1]at h;trivial;rw[ZK h0]at h;by_cases h1: -(n:Int)<=i;rw[ZR h1]at h;have e:(i+n).toNat=j:=Z7 h;exact⟨by rw[seqIndex_neg (by lia) h1,e],by lia,h1,by lia⟩;rw[ZK h1]at h;trivial
def mE{q:Type}{xs:Z_ q}{i:Int}{v:q}(h:atI xs i=U v):∃j,seqIndex? i xs.length=U j/\xs[j]?=U v/\j<xs.length/\ -(xs.length:Int)<=i/\i<xs.length:=by
 unfold atI at h;cases e:ixN xs.length i with
 |none=>rw[e]at h;trivial
 |some j=>
  rw[e]at h;obtain⟨h1,h2,h3,h4⟩:=sg e;exact⟨j,h1,h,h2,h3,h4⟩
def tK{q:Type}{xs:Z_ q}{j:Nat}{v:q}(h:xs[j]?=U v):atI xs (j:Int)=U v:=by
 have hj:j<xs.length:=(ZX.mp h).1;have e:ixN xs.length (j:Int)=U j:=by
  unfold ixN;rw[ZR (by lia),ZR (by lia)];simp
 unfold atI;rw[e];exact h
def f9(b:Expr):Prop:=∀o i,subscripted b Y o i=operate [o,i] (getItem o i)
def IxR(X:Cx)(r:R2):Prop:=
 ∀(value slice:Expr)(a_:Z_ (ZM×Obj))(s:ZT)(q:St)(H:Hp)(x y:V)(v u:Z3)(Q:VK),Inv X a_ q H s->RelV x v->RelV y u->r x y H Q->
  subscripted slice Y v u=operate [v,u] (getItem v u)->wpAny (model X.prog X.w) X.A (subscriptTail value slice v u) (EP X a_ q Q) X.xe s
def MtR(X:Cx)(id:String)(r:V->Z_ V->Hp->VK->Prop):Prop:=
 ∀(a_:Z_ (ZM×Obj))(s:ZT)(q:St)(H:Hp)(x:V)(xs:Z_ V)(v:Z3)(us:Z_ Z3)(Q:VK),Inv X a_ q H s->RelV x v->aac xs us->r x xs H Q->
  wpAny (model X.prog X.w) X.A (call (.builtin id) (v::us)) (EP X a_ q Q) X.xe s
structure Mc (v:Env)(o:Expr)(n:Str)(e:Expr)(es:List Expr)(ap cp:Pos):Prop where
 b:attributeBase o n v (eval o v)=eval o v
 f:((backTo cp (starEach (e::es) v)).all (λx=>!x.1)&&(backToKw cp (keywordEach [] v)).all (λx=>x.1.isSome)&&decide ((e::es).length+([]:List Keyword).length+(if([]:List Keyword).isEmpty then 0 else 1)<30))=true
 l:(ap.endLine==cp.line)=true
 s:starEach (e::es) v=(false,eval e v)::starEach es v
 p:(backTo cp (starEach es v)).any (·.1)=false
section
variable{X:Cx}{a b:Expr}{ta tb:TE}{pos:Pos}
def IxR.or(h:IxR X r)(h':IxR X r'):IxR X (λx y H Q=>r x y H Q\/r' x y H Q):=by
 intro value slice a_ s O H x y v u Q I rx ry q hs;rcases q with q|q;exact h value slice a_ s O H x y v u Q I rx ry q hs;exact h' value slice a_ s O H x y v u Q I rx ry q hs
def xM(hr:IxR X r)(ha:PE X a ta)(hb:PE X b tb)(hs:f9 b):PE X (.Subscript a b pos) (tOp r ta tb):=by
 intro a_ s O H Q I h;exact Subscript_ (E1 ha hb I h λv u s2 x y H2 I2 rx ry q=>hr a b a_ s2 O H2 x y v u Q I2 rx ry q (hs _ _))
def F4(K:Z6):R2:=λx y H Q=>∃p xs i v,x=.ref p/\y=.int i/\SqL K H p xs/\atI xs i=U v/\Q v H
def F3(K:Z6):R2:=λx y H Q=>∃p xs i v,x=.ref p/\y=.int i/\SqT K H p xs/\atI xs i=U v/\Q v H
def acH:R2:=λx y H Q=>∃z i c,x=.str z/\y=.int i/\z.length<=sizeLine/\atI z.cps.toList i=U c/\Q (.str ⟨#[c]⟩) H
def mv:IxR X (F4 X.K):=by
 intro value slice a_ s O H x y v u Q I rx ry h hs;obtain⟨p,xs,i,z,rfl,rfl,hq,he,q⟩:=h;cases rx;obtain⟨t,rfl⟩:=ry;obtain⟨its,r,pl,hz⟩:=I.list hq;obtain⟨j,h1,h2,h3,h4,h5⟩:=mE he;obtain⟨w,ew,F_⟩:=r.get h2;have hl:=r.length;have hn:=iH;have fin:EP X a_ O Q w s:=⟨z,H,I,F_,q⟩
 by_cases h0:0<=i;have hj:i.toNat=j:=by
  rw[seqIndex_of h0 h5]at h1;exact Z7 h1
 exact item_listR pl.isList h0 (by lia) (by rw[hj];simpa using ew) fin hs
 .have hj:(i+(its.toArray.size:Int)).toNat=j:=by
   rw[seqIndex_neg (by lia) h4]at h1;rw[ZW,<-hl];exact Z7 h1
  exact subscriptTail_builtinR (x:=w) pl.isList.typeIs slot_list_getitem.lookup
   (wpAny_getItem_list_neg (Q:=λr s'=>r=w/\EP X a_ O Q r s') pl.isList (by lia) (by rw[ZW]<;>lia) (by lia) (by rw[hj];simpa using ew) ⟨rfl,fin⟩) hs
def B5:IxR X (F3 X.K):=by
 intro value slice a_ s O H x y v u Q I rx ry h hs;obtain⟨p,xs,i,z,rfl,rfl,hq,he,q⟩:=h;cases rx;obtain⟨t,rfl⟩:=ry;obtain⟨its,r,pl,hz⟩:=I.tuple hq;obtain⟨j,h1,h2,h3,h4,h5⟩:=mE he;obtain⟨w,ew,F_⟩:=r.get h2;have hl:=r.length;have hn:=iH;have fin:EP X a_ O Q w s:=⟨z,H,I,F_,q⟩;exact subscriptTail_builtinR (x:=w) pl.typeIs slot_tuple_getitem.lookup
  (getItem_tuple (j:=j) (Q:=λr s'=>r=w/\EP X a_ O Q r s') pl (by lia) (by lia) (by rw[ZW,<-hl];exact h1) (by simpa using ew) ⟨rfl,fin⟩) hs
def yc:IxR X acH:=by
 intro value slice a_ s O H x y v u Q I rx ry h hs;obtain⟨z,i,c,rfl,rfl,hz,he,q⟩:=h;obtain⟨t,rfl⟩:=rx;obtain⟨t',rfl⟩:=ry;obtain⟨j,h1,h2,h3,h4,h5⟩:=mE he;have hl:z.cps.toList.length=z.length:=by simp[Str.length]
 rw[hl]at h1 h4 h5;have hn:=iH;exact tail_any (typeIs_str s z t) slot_str_getitem.lookup (getItem_str (c:=c) (by
  have e1:decide (i< -(2 ^ 63:Int))=Y:=ZA (by lia);have e2:decide (i>=2 ^ 63)=Y:=ZA (by lia);rw[e1,e2,Bool.or_false]) (by rw[h1];simpa using h2) ⟨.str ⟨#[c]⟩,H,I.tok _,⟨_,rfl⟩,q⟩) hs
def rIx(K:Z6):R2:=λx y H Q=>F4 K x y H Q\/F3 K x y H Q\/acH x y H Q
def BQ:IxR X (rIx X.K):=mv.or (B5.or yc)
def q8(its:Z_ Z3)(n j:Nat)(u:Z3):Obj.mapSeq (·.setIfInBounds j u) {cls:=.type "list",data:=.seq its.toArray n}={cls:=.type "list",data:=.seq (its.set j u).toArray n}:=by
 simp[Obj.mapSeq]
theorem Inv.lst{a_:Z_ (ZM×Obj)}{q:St}{H:Hp}{s:ZT}{p:ZM}{xs:Z_ V}(I:Inv X a_ q H s)(h:H p=U (.lst xs)):
  ∃(its:Z_ Z3)(n:Nat),aac xs its/\s.heap.get? p=U {cls:=.type "list",data:=.seq its.toArray n}/\xs.length<=sizeLine:=by
 obtain⟨z,its,n,r,e⟩:=I.hok p _ h;exact⟨its,n,r,e,z⟩
def Inv.acv{a_:Z_ (ZM×Obj)}{O:St}{H:Hp}{s:ZT}{p:ZM}{xs ys:Z_ V}{its its':Z_ Z3}{n n':Nat}{f:Obj->Obj}(I:Inv X a_ O H s)(h:H p=U (.lst xs))
  (ho:s.heap.get? p=U {cls:=.type "list",data:=.seq its.toArray n})(hf:f {cls:=.type "list",data:=.seq its.toArray n}={cls:=.type "list",data:=.seq its'.toArray n'})(r:aac ys its')(hz:ys.length<=sizeLine)(t:Nat):
  Inv X a_ O (upd H p (.lst ys)) {s with heap:=s.heap.update p f,toks:=t}:=by
 have e:(s.heap.update p f).get? p=U {cls:=.type "list",data:=.seq its'.toArray n'}:=by
  rw[Zk f ho (by rw[hf]<;>rfl),hf]
 refine I.write (x:=p) (e:=p) (by rw[h];trivial) (.inl rfl) (λb u hb q=>(Zn _ _ (ZC hb)).trans q) ⟨_,e⟩ ?_;exact⟨hz,its',n',r,e⟩
def acG:V->V->V->Hp->(Hp->Prop)->Prop:=λo i v H Q=>∃p xs k j,o=.ref p/\i=.int k/\H p=U (.lst xs)/\ixN xs.length k=U j/\Q (upd H p (.lst (xs.set j v)))
def xB:FU X acG:=by
 intro a_ s O H o i v ov iv u Q I ro ri rv h;obtain⟨p,xs,k,j,rfl,rfl,hp,hj,q⟩:=h;cases ro;obtain⟨t,rfl⟩:=ri;obtain⟨its,n,r,ho,hz⟩:=I.lst hp;obtain⟨h1,h2,h3,h4⟩:=sg hj;have hl:=r.length;have hn:=iH;have I':Inv X a_ O (upd H p (.lst (xs.set j v))) {s with heap:=s.heap.update p (Obj.mapSeq (·.setIfInBounds j u))}:=
  I.acv hp ho (q8 its n j u) (r.set rv j) (by rw[Zm];exact hz) s.toks
 by_cases h0:0<=k;have hk:k.toNat=j:=by
  rw[seqIndex_of h0 h4]at h1;exact Z7 h1
 exact W.ki_setAt ho h0 (by lia) (by rw[ZW,<-hl];exact h4) (by rw[hk];exact⟨_,I',q⟩);have hk:(k+(its.toArray.size:Int)).toNat=j:=by
  rw[seqIndex_neg (by lia) h3]at h1;rw[ZW,<-hl];exact Z7 h1
 exact W.ki_setBack ho (by lia) (by rw[ZW,<-hl];exact h3) (by lia) (by rw[hk];exact⟨_,I',q⟩)
def jY(lo hi:Z9 Int)(n:Nat):(sliceBounds lo hi M n).1=((HT.sIx n 0 lo:Nat):Int)/\(sliceBounds lo hi M n).2.1=((HT.sIx n n hi:Nat):Int)/\(sliceBounds lo hi M n).2.2=1:=by
 refine⟨?_,?_,rfl⟩
 .cases lo with
  |none=>simp[sliceBounds,HT.sIx]
  |some i=>
   simp only[sliceBounds,HT.sIx,Option.getD_none,show(1:Int)>0 by decide,Y1];by_cases h:i<0
   .simp only[h,Y1]<;>lia
   .simp only[h,Zb]<;>lia
 .cases hi with
  |none=>simp[sliceBounds,HT.sIx]
  |some i=>
   simp only[sliceBounds,HT.sIx,Option.getD_none,show(1:Int)>0 by decide,Y1];by_cases h:i<0
   .simp only[h,Y1]<;>lia
   .simp only[h,Zb]<;>lia
def jI(its:Z_ Z3)(lo hi:Z9 Int):slicePick its.toArray lo hi M=((its.drop (HT.sIx its.length 0 lo)).take (HT.sIx its.length its.length hi - HT.sIx its.length 0 lo)).toArray:=by
 obtain⟨h1,h2,h3⟩:=jY lo hi its.toArray.size;unfold slicePick;rw[h1,h2,h3];simp only[sliceRange_one,pick_run,ZW]<;>rfl
def Ir(K:Z6):V->Z9 Int->Z9 Int->Hp->VK->Prop:=λx lo hi H Q=>∃a xs,x=.ref a/\SqL K H a xs/\∀p,H p=M->Q (.ref p) (upd H p (.lst (AJ xs lo hi)))
def A4:SlR X (Ir X.K):=by
 intro a_ s O H x v vl vu lo hi sl Q I rx hs pl pu h;obtain⟨a,xs,rfl,hx,q⟩:=h;cases rx;obtain⟨its,r,ht,hz⟩:=I.list hx;have hlen:=r.length;refine⟨"list",_,slot_list_getitem.lookup,ht.isList.typeIs,?_⟩;refine wpAny_getItem_list_slice ht.isList hs pl pu .none (by simp) ?_ (by rw[ZW]<;>lia);rw[jI,<-hlen];refine⟨.ref s.z,_,I.laid (t':=s.toks) (o:=.lst (AJ xs lo hi)) (λb ob q=>Z5 _ q) (ZP _) ?_,rfl,q _ (I.hok.fresh (ZP _))⟩;exact⟨ZF (nG xs lo hi) hz,_,0,(r.drop (HT.sIx xs.length 0 lo)).take (HT.sIx xs.length xs.length hi - HT.sIx xs.length 0 lo),ZN _ rfl⟩
def kJ:fx X (.builtin "len") (λxs H Q=>∃p ys,xs=[.ref p]/\(SqL X.K H p ys\/SqT X.K H p ys)/\Q (.int ys.length) H):=by
 intro a_ s O H xs us Q I r h;obtain⟨p,ys,rfl,hq,q⟩:=h;obtain⟨u,rfl,rx⟩:=hZ r;cases rx;have hn:=iH;rcases hq with hq|hq
 .obtain⟨its,r',pl,hz⟩:=I.list hq
  have hlen:=r'.length;exact Calls.call_len_list pl.isList (by simp only[ZW]<;>lia) ⟨.int ys.length,H,I.tok _,⟨s.toks+1,by rw[ZW,hlen]⟩,q⟩
 .obtain⟨its,r',pl,hz⟩:=I.tuple hq
  have hlen:=r'.length;exact len_tuple pl (by simp only[ZW]<;>lia) ⟨.int ys.length,H,I.tok _,⟨s.toks+1,by rw[ZW,hlen]⟩,q⟩
def kC:fx X (.type "list") (λxs H Q=>∃p ys,xs=[.ref p]/\(SqL X.K H p ys\/SqT X.K H p ys)/\∀l,H l=M->Q (.ref l) (upd H l (.lst ys))):=by
 intro a_ s O H xs us Q I r h;obtain⟨p,ys,rfl,hq,q⟩:=h;obtain⟨u,rfl,rx⟩:=hZ r;cases rx;have fin:∀(its:Z_ Z3),aac ys its->ys.length<=sizeLine->∀(h':Heap)(c':Nat),(∀b o',s.heap.get? b=U o'->h'.get? b=U o')->
   h'.get? s.z=U {cls:=.type "list",dict:=M,data:=.seq its.toArray c',slots:=#[]}->EP X a_ O Q (.ref s.z) {s with heap:=h'}:=λits r' hz h' c' kp e=>
  ⟨.ref s.z,_,I.laid (t':=s.toks) kp (ZP _) (show aak X.prog X.w _ h' _ (.lst ys) from⟨hz,its,c',r',e⟩),rfl,q _ (I.hok.fresh (ZP _))⟩
 rcases hq with hq|hq
 .obtain⟨its,r',pl,hz⟩:=I.list hq
  have hlen:=r'.length;obtain⟨o,ho,hc,n,hd⟩:=pl.isList;exact call_list_seq p (.inl rfl) ho hc hd (λh' c' kp e=>fin its r' hz h' c' kp e) (by simp only[ZW]<;>lia)
 .obtain⟨its,r',pl,hz⟩:=I.tuple hq
  have hlen:=r'.length;obtain⟨o,ho,hc,n,hd⟩:=pl;exact call_list_seq p (.inr rfl) ho hc hd (λh' c' kp e=>fin its r' hz h' c' kp e) (by simp only[ZW]<;>lia)
def jG:fx X (.type "tuple") (λxs H Q=>∃p ys,xs=[.ref p]/\((SqL X.K H p ys/\∀l,H l=M->Q (.ref l) (upd H l (.tup ys)))\/(SqT X.K H p ys/\Q (.ref p) H))):=by
 intro a_ s O H xs us Q I r h;obtain⟨p,ys,rfl,h⟩:=h;obtain⟨u,rfl,rx⟩:=hZ r;cases rx;rcases h with⟨hq,q⟩|⟨hq,q⟩
 .obtain⟨its,r',pl,hz⟩:=I.list hq
  have hlen:=r'.length;refine call_tuple_list pl.isList (λh' kp=>?_) (by simp only[ZW]<;>lia);have I1:Inv X a_ O H {s with heap:=h'}:=I.kept (t':=s.toks) kp;have I2:Inv X a_ O (upd H h'.objs.size (.tup ys)) {s with heap:=h'.push {cls:=.type "tuple",data:=.seq its.toArray}}:=
   I1.laid (t':=s.toks) (λb o e=>Z5 _ e) (ZP _) (show aak X.prog X.w _ _ _ (.tup ys) from⟨hz,its,r',IsTup.new _ _⟩)
  exact⟨.ref h'.objs.size,_,I2,rfl,q _ (I1.hok.fresh (ZP _))⟩
 obtain⟨its,r',pl,hz⟩:=I.tuple hq;exact call_tuple_same pl ⟨.ref p,H,I,rfl,q⟩
def tyV(K:Z6)(T:String)(x:V)(H:Hp):Prop:=match x with
 |.str _=>T="str"
 |.int _=>T="int"
 |.ref p=>(T="list"/\∃xs,SqL K H p xs)\/(T="tuple"/\∃o,K.lookup p=U o/\o.cls=.type "tuple"/\o.dict=M)\/
   (T="dict"/\∃kvs,H p=U (.dK kvs))
 |_=>False
def B6(I:Inv X a_ q H s)(r:RelV x v)(ty:tyV X.K T x H):
  s.TypeIs v T/\∀a,v=.ref a->∃ob,s.heap.get? a=U ob/\ob.dict=M:=by
 cases x with
 |str z=>
  obtain⟨t,rfl⟩:=r;cases (show T="str" from ty);exact⟨typeIs_str s z t,λ_ e=>nomatch e⟩
 |int i=>
  obtain⟨t,rfl⟩:=r;cases (show T="int" from ty);exact⟨typeIs_int s i t,λ_ e=>nomatch e⟩
 |ref p=>
  cases r;rcases ty with⟨rfl,xs,hq⟩|⟨rfl,o,hk,hc,hd⟩|⟨rfl,kvs,hk⟩;obtain⟨its,_,pl,_⟩:=I.list hq;refine⟨pl.isList.typeIs,λa e=>?_⟩;cases e;obtain⟨o,n,e,c,hd,_⟩:=pl;exact⟨o,e,hd⟩;refine⟨⟨o,I.kIn p o hk,hc⟩,λa e=>?_⟩;cases e;exact⟨o,I.kIn _ o hk,hd⟩;obtain⟨_,_,_,_,o,_,_,e,ex,_⟩:=I.hok p _ hk;refine⟨⟨o,e,ex.1⟩,λa e2=>?_⟩;cases e2;exact⟨o,e,ex.2.1⟩
 |_=>exact False.elim ty
def tBM(K:Z6)(T:String)(r:V->Z_ V->Hp->VK->Prop)(to:TE)(t:TA):TE:=λq H Q=>to q H λx H1=>tyV K T x H1/\t q H1 λxs H2=>r x xs H2 Q
variable{o e:Expr}{es:Z_ Expr}{to:TE}{t:TA}{name:Str}{apos j_:Pos}{T id:String}{r:V->Z_ V->Hp->VK->Prop}
def lP(pa:PlainAttrs T)(slot:Slot T name id)(Qm:typeOf (.builtin id)=pure (.type "method_descriptor"))(hm:MtR X id r)(ho:PE X o to)(ha:PA X (e::es) t)(mc:Mc X.env o name e es apos j_):
  PE X (.Call (.Attribute o name apos) (e::es) [] j_) (tBM X.K T r to t):=by
 intro a_ s q H Q I h;refine wpAny_Call_method_late mc.b mc.f mc.l rfl (thn (ho a_ s q H _ I h) λv s1 hz=>?_);obtain⟨x,H1,I1,r1,ty,q1⟩:=hz;obtain⟨h1,h2⟩:=B6 I1 r1 ty;refine⟨T,id,pa,slot,Qm,h1,h2,?_⟩;have hA:=ha j_ a_ s1 q H1 _ I1 q1;rw[mc.s]at hA⊢;refine Calls.callWith_builtin (by show(Y||(backTo j_ (starEach es X.env)).any (·.1))=Y;rw[mc.p]<;>rfl) (Calls.evalArgs_plain ?_);exact thn hA λus s2 hz=>by obtain⟨vs,H2,I2,r2,q2⟩:=hz;exact hm a_ s2 q H2 x vs v us Q I2 r1 r2 q2
end
def MtM(X:Cx)(id:String)(r:V->Z_ V->Hp->VK->Prop):Prop:=
 ∀(a_:Z_ (ZM×Obj))(s:ZT)(q:St)(H:Hp)(x:V)(xs:Z_ V)(v:Z3)(us:Z_ Z3)(Q:VK),Inv X a_ q H s->RelV x v->aac xs us->r x xs H Q->
  wpAny (model X.prog X.w) X.A (call (.builtin id) (v::us)) (EP X a_ q Q) X.xe s
def aac.one(h:aac [x] us):∃u,us=[u]/\RelV x u:=hZ h
def aac.two(h:aac [x,y] us):∃u v,us=[u,v]/\RelV x u/\RelV y v:=by
 cases h with
 |cons r t=>
  obtain⟨u,rfl,q⟩:=hZ t;exact⟨_,u,rfl,r,q⟩
section
def Inv.abE{its its':Z_ Z3}{f:Array Z3->Array Z3}{t':Nat}(I:Inv X a_ O H s)(hH:H l=U (.lst xs))(e:s.heap.get? l=U {cls:=.type "list",data:=.seq its.toArray n})(hf:f its.toArray=its'.toArray)(hv:aac ys its')(hz:ys.length<=sizeLine):
  Inv X a_ O (upd H l (.lst ys)) {s with heap:=s.heap.update l (Obj.mapSeq f),toks:=t'}:=by
 have q:=PySem.IsL.update e f;rw[hf]at q;refine I.write (x:=l) (e:=l) (by rw[hH];exact trivial) (.inl rfl) (λb' u hb hu=>(Zn s.heap (Obj.mapSeq f) (ZC hb)).trans hu) ⟨_,q⟩ ?_;exact⟨hz,its',_,hv,q⟩
def Inv.acK(I:Inv X a_ O H s)(hv:aac ys its)(hz:ys.length<=sizeLine):
  Inv X a_ O (upd H s.z (.lst ys)) {s with heap:=s.heap.push {cls:=.type "list",data:=.seq its.toArray},toks:=t'}:=
 I.laid (λ_ _ q=>Z5 _ q) (ZP _) ⟨hz,its,0,hv,ZN _ rfl⟩
theorem Inv.fresh(I:Inv X a_ q H s):H s.z=M:=I.hok.fresh (ZP _)
def Inv.acg(I:Inv X a_ q H s)(hH:H l=U (.lst xs)):xs.length<=sizeLine/\∃(its:Z_ Z3)(n:Nat),aac xs its/\xs.length=its.length/\s.heap.get? l=U {cls:=.type "list",data:=.seq its.toArray n}:=by
 obtain⟨z,its,n,r,e⟩:=I.hok l _ hH;exact⟨z,its,n,r,r.length,e⟩
def wP(h:n<=sizeLine):Builtin.List.listTooLong n=Y:=by
 unfold Builtin.List.listTooLong;exact ZA (by lia)
end
section
def acf:V->Z_ V->Hp->VK->Prop:=λx vs H Q=>∃l xs y,x=.ref l/\vs=[y]/\H l=U (.lst xs)/\xs.length<sizeLine/\Q .non (upd H l (.lst (xs++[y])))
def d6:MtM X "list.append" acf:=by
 intro a_ s O H x vs v us Q I rx rv h;obtain⟨l,xs,y,rfl,rfl,hH,hz,q⟩:=h;cases rx;obtain⟨u,rfl,ru⟩:=rv.one;obtain⟨z,its,n,r,hl,e⟩:=I.acg hH;refine Ws F.slot_list_append ⟨_,e,rfl⟩ F.entry_list_append (F.args_list_append_2 _ _) (PySem.list_append l its.toArray n u (by rw[ZW];lia)) ⟨e,?_⟩;refine⟨.non,_,I.abE (its':=its++[u]) hH e (by simp) (r.append (.cons ru .nil)) ?_,rfl,q⟩;rw[Zv,List.length_singleton];lia
def ace:V->Z_ V->Hp->VK->Prop:=λx vs H Q=>∃l b xs zs,x=.ref l/\vs=[.ref b]/\H l=U (.lst xs)/\H b=U (.lst zs)/\xs.length+zs.length<=sizeLine/\Q .non (upd H l (.lst (xs++zs)))
def uA:MtM X "list.extend" ace:=by
 intro a_ s O H x vs v us Q I rx rv h;obtain⟨l,b,xs,zs,rfl,rfl,hH,hB,hz,q⟩:=h;cases rx;obtain⟨u,rfl,ru⟩:=rv.one;cases ru;obtain⟨z,its,n,r,hl,e⟩:=I.acg hH;obtain⟨z2,k_,n2,r2,Pl,e2⟩:=I.acg hB;have hsz:its.toArray.size+k_.toArray.size<=sizeLine:=by rw[ZW,ZW];lia
 have OK:¬(!its.toArray.isEmpty&&Builtin.List.listTooLong (its.toArray.size+k_.toArray.size))=L:=by
  rw[wP hsz,Wu];exact Zr
 refine Ws F.slot_list_extend ⟨_,e,rfl⟩ F.entry_list_extend (F.args_list_extend_2 _ _)
  (AutoSeq1.list_extend_list_list_0 l its.toArray n b k_.toArray n2 OK (by rw[ZW];lia) (by lia)) ⟨e,e2,?_⟩
 refine⟨.non,_,I.abE (its':=its++k_) hH e (by simp) (r.append r2) ?_,rfl,q⟩;rw[Zv];lia
end
section
end
section
end
end L2
namespace Att
open PySem PySem.W PySem.Calls PyProof.Rows
def gK:∀(ns:Z_ Int)(vs:Z_ Z3),WellAll P h vs (ns.map WData.int)->IntsAre vs ns:=by
 intro ns
 induction ns with
 |nil=>
  intro vs w;rw[Y6]at w;cases w;exact .nil
 |cons n ns ih=>
  intro vs w;rw[Z2]at w;cases w with
  |cons a b=>
   cases a;exact .cons _ _ (ih _ b)
def rU{l:OpenLaw}(hn:l.most=U n)(L3:l.row.toRowW.claim.pre args=L)(Qk:WellAll P h vals args):
  ∃a vs ns,vals=[Value.ref a]/\args=[WData.list (ns.map WData.int)]/\h.get? a=U {cls:=.type "list",data:=.seq vs.toArray}/\IntsAre vs ns/\ns.length<=n:=by
 have Qn:WShape.hasAll [] args [.list .int]=L:=(pre_splitW L3).1;have hc:l.pre.holds [] {args:=args}=L:=(pre_splitW L3).2;obtain⟨d,r,rfl,h1,h2⟩:=hasAllW_cons Qn;obtain rfl:=hasAllW_nil h2;obtain⟨xs,rfl,h3⟩:=hasW_list h1;obtain⟨ns,rfl⟩:=items_int h3;have hlen:ns.length<=n:=by
  unfold OpenLaw.pre at hc;have h4:(WTm.not (.lt (.lit (.int (n:Int))) (.len (.arg 0)))).holds [] {args:=[.list (ns.map .int)]}=L:=by
   have h4:=(holds_andW hc).1;rw[hn]at h4;exact h4
  have h5:=condW_of h4 (w_not (w_lt w_lit (w_len_list (w_arg rfl))));rw[ZJ]at h5;refine Nat.le_of_not_lt λq=>?_;have q':(n:Int)<((ns.length:Nat):Int):=by lia
  first
   |(rw[Zw q']at h5;exact absurd h5 (by decide))
   |(simp at h5;lia)
 cases Qk with
 |cons w1 w2=>
  cases w2;cases w1 with
  |list ho JM=>exact⟨_,_,ns,rfl,rfl,ho,gK ns _ JM,hlen⟩
def u9(l:OpenLaw)(args:Z_ WData):l.row.toRowW.claim.post args (.bool L) args=L:=
 postW_of (r:=l.row.toRowW) (X:=(L==L))
  (show WShape.has [] (.bool L) .bool=L by first|rfl|decide|simp[WShape.has,WShape.arms,WShape.armsAll])
  (show(WTm.eq .res (.lit (.bool L))).value [] {args:=args,res:=U (.bool L),after:=args}=U (.bool (L==L)) from w_eq_bool (w_res rfl) w_lit) rfl
def abG{l:OpenLaw}{YP:YV->Heap->Prop}{d:DefRec}(hn:l.most=U n)(NB:d.params.defaults=[])(call:∀(w:YV)(n_ e_:ZT)(mg mb:Str->Z9 Z3)(fa:ZM)(o:Obj)(pm cd doc:Z3)(a:ZM)(vs:Z_ Z3)(ns:Z_ Int),
   Ground q loose [] XP w n_ mg mb e_.heap->YP w e_.heap->
   e_.heap.get? fa=U o->o.data=.func (docDef d.name d.params d.body d.scope pm cd doc)->e_.heap.CodeRec cd d.name->mg d.name=U (.ref fa)->
   e_.heap.get? a=U {cls:=.type "list",data:=.seq vs.toArray}->IntsAre vs ns->ns.length<=n->e_.gens=#[]->
   codeAny (model l.prog w) callerA (.call (.ref fa) ⟨[.ref a],[]⟩) (λr s'=>r=.ok (.ret (.bool L))/\OldK e_.heap s'.heap/\s'.os=e_.os/\AllBare s'.gens) e_):
  WalkO q loose XP YP l.row.toRowW d [] (λf vs=>PySem.call f vs):=by
 intro w n_ e_ mg mb G Yq fa o pm cd doc dV kV ho hd Jg hD hmg hg args vals as L3 hlay Sq Qk Kf;obtain rfl:dV=.none:=Dflts.none hD NB;obtain rfl:kV=.none:=Dflts.noKw hD;obtain⟨a,vs,ns,rfl,rfl,MV,hints,hlen⟩:=rU hn L3 Qk;refine enter_call (WY (call w n_ e_ mg mb fa o pm cd doc a vs ns G Yq ho (fd_plain hd) Jg hmg MV hints hlen hg) λr s' hq=>?_);obtain⟨rfl,h2,h3,h4⟩:=hq;exact⟨.inl ⟨.bool L,.bool L,[],rfl,λ_=>rfl,.bool L,u9 l _,λ_=>⟨List.Pairwise.nil,λ_ hm=>(nomatch hm)⟩⟩,h2,h3,h4⟩
section
end
end Att
namespace L2
open PySem PySem.Spec PyProof.Rows
variable[Lams]
theorem j9:∀{vs:Z_ Z3}{ns:Z_ Int},IntsAre vs ns->aac (ns.map V.int) vs
 |_,_,.nil=>.nil
 |_,_,.cons n t h=>.cons ⟨t,rfl⟩ (j9 h)
def FI(H:Hp):Prop:=∀b,H b=M\/(∃o xs,H b=U (.frz o (.lst xs)))\/∃lq,H b=U (.tbl lq #[])
def fg:Hp:=λb=>match Lams.tb.find? (λq=>q.1==b)with
 |some q=>U (.tbl q.2 #[])
 |none=>M
def bM(h:fg b=U u):∃q∈Lams.tb,b=q.1/\u=.tbl q.2 #[]:=by
 unfold fg at h;split at h;rename_i q e;obtain rfl:=Z7 h;have h1:=List.find?_some e;exact⟨q,W4 e,(Zu.mp h1).symm,rfl⟩;trivial
def jk(MH:∀q∈Lams.tb,∀r∈Lams.tb,q.1=r.1->q=r)(hq:q∈Lams.tb):fg q.1=U (.tbl q.2 #[]):=by
 unfold fg;cases e:Lams.tb.find? (λr=>r.1==q.1)with
 |none=>exact absurd (List.find?_eq_none.mp e q hq) (by simp)
 |some r=>
  have h1:=Zu.mp (List.find?_some (p:=λr:ZM×Str=>r.1==q.1) e);rw[MH r (W4 e) q hq h1]
def xn{K:Z6}{e_:ZT}{vs:Z_ Z3}(KX:K.In e_.heap)(Pj:e_.heap.Ns mainGlobals mg)(hb:e_.heap.Ns builtinsNs mb)(QH:∀x:Str,x≠"__name__"->mb x=bootBuiltins x)(H_:e_.heap.NoLimit)(hg:e_.gens=#[])(ha:e_.heap.get? a=U {cls:=.type "list",data:=.seq vs.toArray})(hi:IntsAre vs ns)(hl:ns.length<=sizeLine)(hr:aaq k callerA)(F:∀base:Heap,K.In base->base.Ns mainGlobals mg->aa9 P w K mg base CX k fa fd [x] sp)(LG:∀(s:ZT)(u:Z3),BindsTo s fd ⟨[u],[]⟩ [(x,u)])(Md:∀H:Hp,FI H->SqL K H a (ns.map V.int)->sp [.ref a] H (λv _=>v=.bl L) λ_ _ _=>False)(QM:∀H e s',CX [] H e_ (λ_ _ _=>False) e s'->False)(JZ:∃bm ob,mg "__builtins__"=U (.ref bm)/\bm≠builtinsNs/\e_.heap.get? bm=U ob/\ob.cls=.type "module"/\ob.dict=U builtinsNs/\ob.data=.plain)(hT:∀q∈Lams.tb,e_.heap.get? q.1=U {cls:=.none,data:=.fields #[]}/\K.lookup q.1=M/\isCodeTable e_.heap q.1)(MH:∀q∈Lams.tb,∀r∈Lams.tb,q.1=r.1->q=r):
  codeAny (model P w) callerA (.call (.ref fa) ⟨[.ref a],[]⟩) (λr s'=>r=.ok (.ret (.bool L))/\OldK e_.heap s'.heap/\s'.os=e_.os/\AllBare s'.gens) e_:=by
 have rv:=j9 hi;have Q3:=hi.length;have core:∀H:Hp,FI H->SqL K H a (ns.map V.int)->HOk P w H e_.heap->(∀b,H b≠M->(b=a/\K.lookup a=M)\/∃q∈Lams.tb,b=q.1)->abZ H->
   codeAny (model P w) callerA (.call (.ref fa) ⟨[.ref a],[]⟩) (λr s'=>r=.ok (.ret (.bool L))/\OldK e_.heap s'.heap/\s'.os=e_.os/\AllBare s'.gens) e_:=by
  intro H hO hS hok hA VE;have Jy:∀{b:ZM}{o:Obj},e_.heap.get? b=U o->H b=M->(wf e_.heap H).get? b=U o:=λe n=>wT e n;have Oj:∀{b:ZM}{o:Obj},e_.heap.get? b=U o->o≠{cls:=.type "list",data:=.seq vs.toArray}->o≠{cls:=.none,data:=.fields #[]}->H b=M:=λ{b o} e n1 n2=>by
   cases q:H b with
   |none=>rfl
   |some u=>
    rcases hA b (by rw[q];simp)with⟨z,_⟩|⟨r,hr,z⟩;subst z;rw[ha]at e;exact absurd (Z7 e).symm n1;subst z;rw[(hT r hr).1]at e;exact absurd (Z7 e).symm n2
  have NR:∀{b:ZM}{o:Obj}{es:Array DictEntry}{ep:Nat},e_.heap.get? b=U o->o.data=.dict es ep->H b=M:=λ{b o es ep} e d=>
   Oj e (λz=>by subst z;trivial) λz=>by subst z;trivial
  have O7:∀{b:ZM}{m:Str->Z9 Z3},e_.heap.Ns b m->(wf e_.heap H).Ns b m:=λ{b m} ⟨o,es,ep,e,d,r⟩=>⟨o,es,ep,Jy e (NR e d),d,r⟩
  have S7:K.In (wf e_.heap H):=λb o e=>Jy (KX b o e) (by
   cases q:H b with
   |none=>rfl
   |some u=>
    rcases hA b (by rw[q];simp)with⟨z,z2⟩|⟨r,hr,z⟩;subst z;rw[z2]at e;trivial;subst z;rw[(hT r hr).2.1]at e;trivial)
  have hM:Mod K mg (wf e_.heap H):=⟨S7,O7 Pj,⟨mb,O7 hb,QH⟩,let ⟨mc,h1,h2⟩:=H_;⟨mc,O7 h1,h2⟩,by
   obtain⟨bm,ob,b1,b2,b3,b4,b5⟩:=JZ;exact⟨bm,ob,b1,b2,Jy b3 (Oj b3 (λz=>by subst z;cases b5.2) λz=>by subst z;cases b5.2),b4,b5⟩⟩
  have e0:abr P w K mg (wf e_.heap H) callerA [] e_ H:=⟨rfl,hM,λb o e=>BB e,Nat.le_of_eq (tf _ _),trivial,λb hb=>absurd (show b∈([]:Z_ ZM) from hb) (by simp),hok,.of_eq hg,VE⟩
  refine WY ((F _ S7 (O7 Pj)).run callerA [] e_ H ⟨[.ref a],[]⟩ [.ref a] [.ref a] _ _ hr e0 (LG e_ (.ref a)) (.cons rfl .nil) (Md H hO hS)) λr s' h=>?_;cases r with
  |error e=>exact(QM H e s' h).elim
  |ok fl=>
   cases fl with
   |next=>exact False.elim h
   |brk=>exact False.elim h
   |cont=>exact False.elim h
   |ret u=>
    obtain⟨v,H',os,bare,un,OD,r',q⟩:=h;have q':v=.bl L:=q;subst q';obtain rfl:u=Value.bool L:=r';refine⟨rfl,⟨λb o e=>?_,λb o e=>un.there b o e (by simp)⟩,os,bare⟩;cases q:H b with
    |none=>exact .inl (un.keep b o e q (by intro z;exact absurd (show b∈([]:Z_ ZM) from z) (by simp)) (by simp))
    |some u=>
     rcases hO b with z|⟨ob,xs,z⟩|⟨lq,z⟩;rw[q]at z;trivial;have z2:=un.aaS b ob _ z;obtain⟨e1,_⟩:=hok b _ z;obtain⟨e2,_⟩:=OD b _ z2;rw[e]at e1;obtain rfl:=Z7 e1;exact .inl e2;obtain⟨more,z2⟩:=un.aa1 b lq _ z;obtain⟨e1,_⟩:=hok b _ z;obtain⟨e2,_⟩:=OD b _ z2;rw[e]at e1;obtain rfl:=Z7 e1;rcases hA b (by rw[q];simp)with⟨y,_⟩|⟨r,hr,y⟩;subst y;rw[ha]at e;cases e;subst y;exact .inr (.inl ⟨(hT r hr).2.2,rfl,#[],more,rfl,e2⟩)
 have T5:fg a=M:=by
  cases q:fg a with
  |none=>rfl
  |some u=>
   obtain⟨r,hr,e,_⟩:=bM q;have:=(hT r hr).1;rw[<-e,ha]at this;cases this
 have tok:∀(H:Hp) b u,fg b=U u->aak P w H e_.heap b u:=λH b u z=>by
  obtain⟨r,hr,e,rfl⟩:=bM z;subst e;exact⟨(hT r hr).1,trivial,λpos cv e=>by cases e⟩
 cases hk:K.lookup a with
 |some o=>
  have e:=KX a o hk;rw[ha]at e;obtain rfl:=Z7 e;refine core fg (λb=>?_) (.inr ⟨_,vs.toArray,_,hk,rfl,rfl,rfl,by rw[ZW,Q3];exact hl,by simpa using rv⟩) (λb u z=>tok _ b u z) (λb z=>?_) λq hq=>⟨_,jk MH hq⟩
  cases q:fg b with
  |none=>exact .inl rfl
  |some u=>obtain⟨r,hr,e,rfl⟩:=bM q;exact .inr (.inr ⟨_,rfl⟩)
  cases q:fg b with
  |none=>exact absurd q z
  |some u=>obtain⟨r,hr,e,_⟩:=bM q;exact .inr ⟨r,hr,e⟩
 |none=>
  refine core (λb=>if b=a then U (.frz {cls:=.type "list",data:=.seq vs.toArray} (.lst (ns.map V.int))) else fg b) (λb=>?_) (.inl (.inr ⟨{cls:=.type "list",data:=.seq vs.toArray},ZR rfl⟩)) (λb u z=>?_) (λb z=>?_) λq hq=>⟨#[],?_⟩
  by_cases hb:b=a;exact .inr (.inl ⟨_,_,ZR hb⟩);cases q:fg b with
  |none=>exact .inl ((ZK hb).trans q)
  |some u=>obtain⟨r,hr,e,rfl⟩:=bM q;exact .inr (.inr ⟨_,(ZK hb).trans q⟩)
  by_cases hb:b=a;have z':=(ZR hb).symm.trans z;obtain rfl:=Z7 z';subst hb;exact⟨ha,by rw[ZJ];exact hl,vs,_,rv,ha⟩;exact tok _ b u ((ZK hb).symm.trans z);by_cases hb:b=a;exact .inl ⟨hb,hk⟩;cases q:fg b with
  |none=>exact absurd ((ZK hb).trans q) z
  |some u=>obtain⟨r,hr,e,_⟩:=bM q;exact .inr ⟨r,hr,e⟩
  have D_:q.1≠a:=λz=>by rw[<-z,jk MH hq]at T5;trivial
  exact(ZK D_).trans (jk MH hq)
abbrev CX0:CXT:=λ_ _ _ _ _ _=>False
abbrev E0:XK:=λ_ _ _=>False
def CI:u0 CX0 X E0:=λ_ _ _ _ _ _ _ h=>h.elim
structure Fun (K:Z6)(x qual:Str)(st:Stmt)(f:ZM)(fd:FuncData):Prop where
 ex:∃(oc:Z3)(od:Z9 ZM)(kV doc pm:Z3)(an:Z9 ZM)(Jl ct:Z3)(Nq:Array (Z9 Z3)),
  fd=W.fnOf x qual (defArgs st) (defBody st) (defScope st) .none kV doc pm an Jl ct/\K.lookup f=some ⟨oc,od,.func fd,Nq⟩/\W.codeIn K Jl qual=true
 kp:W.keepIn K (.ref f)=true
section
variable{P:Y5}{w:YV}{K:Z6}{mg:Str->Z9 Z3}{base:Heap}
def Fun.ok{x qual:Str}{st:Stmt}{f:ZM}{fd:FuncData}{N ps:Z_ Str}{k:Nat}{sp:Sp}(F:Fun K x qual st f fd)(S:aaw N ps (defScope st))(len:∀vs H Q E,sp vs H Q E->vs.length=ps.length)
  (Jb:∀(A:Y9)(outer:Z_ Env)(s:ZT)(H:Hp)(vs:Z_ V)(Q:VK)(E:XK),aaq k (A.deeper (envOfC qual (defScope st) s.z f fd.code))->sp vs H Q E->
   ∃t,PSs (pF CX0 P w K mg base N qual (defScope st) f fd.code A outer s H E).nox (defBody st) t/\t {nx:=λ_ H'=>Q .non H',rt:=Q} (cr N vs) H):aa9 P w K mg base CX0 (k+1) f fd ps sp:=by
 obtain⟨oc,od,kV,doc,pm,an,Jl,ct,Nq,rfl,lk,Jg⟩:=F.ex;refine Fy lk Jg S len λA outer s H vs Q E hr Md=>?_;obtain⟨t,h,q⟩:=Jb A outer s H vs Q E hr Md;exact⟨t,h.nox,q⟩
def Fun.binds{x qual:Str}{st:Stmt}{f:ZM}{fd:FuncData}{ps:Z_ Str}(F:Fun K x qual st f fd)
  (h:∀(kV doc pm:Z3)(an:Z9 ZM)(Jl ct:Z3)(us:Z_ Z3),us.length=ps.length->bindArgs (W.fnOf x qual (defArgs st) (defBody st) (defScope st) .none kV doc pm an Jl ct) ⟨us,[]⟩=pure (ps.zip us)):Binds K fd ps []:=by
 obtain⟨oc,od,kV,doc,pm,an,Jl,ct,Nq,rfl,lk,Jg⟩:=F.ex;exact .all (h kV doc pm an Jl ct)
end
section
end
def vL{A B:Prop}(h:B):if Y=L then A else B:=by
 rw[ZK Zr];exact h
def wX{A B:Prop}(h:A):if L=L then A else B:=by
 rw[ZR rfl];exact h
def HO.nt:HO->Bool
 |.tbl _ _=>Y
 |_=>L
abbrev HOn:={o:HO // o.nt=L}
def HOn.ok(o:HOn):HO.nt o.1=L:=o.2
structure aaa (H H':Hp):Prop where
 get:∀b o,o.nt=true->H b=some o->H' b=some o
 tbl:∀b lq ps,H b=some (.tbl lq ps)->∃more,H' b=some (.tbl lq (ps++more))
theorem aaa.app{H H':Hp}(s:aaa H H')(b:ZM)(o:HO)(h:H b=U o)(n:o.nt=L:=by first|rfl|assumption|exact HOn.ok _):H' b=U o:=s.get b o n h
instance aaa.fn {H H':Hp}:CoeFun (aaa H H') (λ_=>∀(b:ZM)(o:HO)(h:H b=U o)(n:o.nt=L:=by first|rfl|assumption|exact HOn.ok _),H' b=U o):=⟨@aaa.app _ H H'⟩
def aaa.refl(H:Hp):aaa H H:=⟨λ_ _ _ h=>h,λb lq ps h=>⟨#[],by rw[W7];exact h⟩⟩
def aaa.trans(a:aaa H H1)(b:aaa H1 H2):aaa H H2:=⟨λc o n h=>b.get c o n (a.get c o n h),λc lq ps h=>by
 obtain⟨m1,e1⟩:=a.tbl c lq ps h;obtain⟨m2,e2⟩:=b.tbl c lq _ e1;exact⟨m1++m2,by rw[e2,Array.append_assoc]⟩⟩
def aaa.there(e:aaa H H')(q:H l=U o):∃o',H' l=U o':=by
 cases n:o.nt with
 |true=>exact⟨o,e.get l o n q⟩
 |false=>
  cases o with
  |tbl lq ps=>obtain⟨m,q'⟩:=e.tbl l lq ps q;exact⟨_,q'⟩
  |_=>trivial
def aaa.free(e:aaa H H')(h:H' l=Option.none):H l=Option.none:=by
 cases q:H l with
 |none=>rfl
 |some o=>
  obtain⟨o',q'⟩:=e.there q;rw[q']at h;trivial
def aaa.keep(e:aaa Hk H)(k:∀c o o',Hk c=U o'->H c=U o->H' c=U o):aaa Hk H':=
 ⟨λc o n q=>k c o o q (e.get c o n q),λc lq ps q=>by
  obtain⟨m,q'⟩:=e.tbl c lq ps q;exact⟨m,k c _ _ q q'⟩⟩
def aaa.put(e:aaa Hk H)(h:Hk b=M):aaa Hk (upd H b o):=
 e.keep λc o' o2 q1 q2=>by rw[ai (ay q1 h)];exact q2
def aaa.seq{K:Z6}{H H':Hp}{a:ZM}{xs:Z_ V}(e:aaa H H')(h:SqL K H a xs):SqL K H' a xs:=by
 rcases h with(h|⟨o,h⟩)|h;exact .inl (.inl (e _ _ h));exact .inl (.inr ⟨o,e _ _ h⟩);exact .inr h
section
variable{κ:Type}[DecidableEq κ]
def xq{kvs:Z_ (κ×V)}{k:κ}(h:eR kvs k=M):¬k∈kvs.map (·.1):=by
 intro m;obtain⟨p,hp,e⟩:=ZQ.mp m;have q:(kvs.any λkv=>decide (kv.1=k))=L:=XX.mpr ⟨p,hp,Zw e⟩;rw[d9,h]at q;exact absurd q (by simp)
end
noncomputable abbrev aA(X:Cx)(scope:Scope)(cl:Z_ (Str×ZM))(C:ZM)(b_:ZT)(d_:Hp)(ex:Z_ ZM)(pn:Z_ (ZM×Obj)):Cx:=
 {X with n_:=b_,KW:=d_,env:=compEnvC scope cl C X.env,outer:=X.stack,stack:=X.stack,ex:=ex,fn:=λ_=>Y,pn:=pn,xe:=λ_ _=>False}
def rG(bs:Z_ Bool)(q:St):St:=List.zipWith (λ(b:Bool) o=>if b=L then o else M) bs q
def dL(h:bs.length=q.length):(rG bs q).length=q.length:=by
 unfold rG;rw[List.length_zipWith,h,Nat.min_self]
def xh{bs:Z_ Bool}{q:St}{i:Nat}{v:V}(h:(rG bs q)[i]?=U (U v)):bs[i]?=U L/\q[i]?=U (U v):=by
 unfold rG at h;rw[WA]at h;cases e1:bs[i]? with
 |none=>rw[e1]at h;simp at h
 |some b=>
  cases e2:q[i]? with
  |none=>rw[e1,e2]at h;simp at h
  |some o=>
   rw[e1,e2]at h;simp only[ZL]at h;cases b with
   |false=>simp at h
   |true=>simp at h;exact⟨rfl,by rw[h]⟩
def PTs(X:Cx)(ifs:Z_ Expr)(t:TT):Prop:=
 ∀(a_:Z_ (ZM×Obj))(s:ZT)(q:St)(H:Hp)(Q:Bool->Hp->Prop),Inv X a_ q H s->t q H Q->
  wpAny (model X.prog X.w) X.A (forIn ifs L λc r=>if r=L then do let ok <-isTrue c X.env (eval c X.env);pure (ForInStep.yield ok) else pure (ForInStep.yield r)) (TP X a_ q Q) X.xe s
def acD:TT:=λ_ H Q=>Q L H
def A2:PTs X [] acD:=λa_ s q H Q I h=>wpAny_tests_nil ⟨H,I,h⟩
def AE(h:PT X c t):PTs X [c] t:=λa_ s q H Q I hq=>wpAny_tests_one (h a_ s q H Q I hq)
noncomputable def cK(env:Env):Z_ (Str×NameKind)->Z_ (Str×ZM)->Z_ (Str×ZM)
 |[],acc=>acc
 |(n,k)::r,acc=>if(k==NameKind.free)=L then cK env r ((n,(env.cells.lookup n).getD 0)::acc) else cK env r acc
theorem i6(env:Env):∀(names:Z_ (Str×NameKind))(acc:Z_ (Str×ZM)),(∀y∈names,y.2=.free->∃c,env.cells.lookup y.1=U c)->
  (forIn names acc (λ(x:Str×NameKind) (cs:Z_ (Str×ZM))=>(match x with
   |(name,kind)=>if(kind==.free)=L then(do let c <-cellOf env name;pure (ForInStep.yield ((name,c)::cs))) else pure (ForInStep.yield cs):Sem (ForInStep (Z_ (Str×ZM))))))=pure (cK env names acc)
 |[],acc,_=>rfl
 |(n,k)::r,acc,h=>by
  by_cases hk:k=.free;subst hk;obtain⟨c,e⟩:=h (n,.free) ZZ rfl;have ih:=i6 env r ((n,c)::acc) λy hy=>h y (Z1 _ hy);have ec:cellOf env n=pure c:=by unfold cellOf;rw[e]
  rw[WH];simp only[XZ,Y1,ec,pure_bind];rw[ih];simp only[cK,XZ,Y1,e,Option.getD_some]
  .have hb:(k==NameKind.free)=Y:=by simpa using hk
   have ih:=i6 env r acc λy hy=>h y (Z1 _ hy);rw[WH];simp only[hb,ZI,Zb,pure_bind];rw[ih]
   conv=>rhs;rw[cK.eq_def]
   simp only[hb,ZI,Zb]
theorem c8(env:Env):∀(names:Z_ (Str×NameKind))(acc:Z_ (Str×ZM)),(∀y∈names,y.2=.free->∃c,env.cells.lookup y.1=U c)->
  (∀x c,acc.lookup x=U c->env.cells.lookup x=U c)->∀x c,(cK env names acc).lookup x=U c->env.cells.lookup x=U c
 |[],acc,_,ha=>ha
 |(n,k)::r,acc,h,ha=>by
  have hr:∀y∈r,y.2=.free->∃c,env.cells.lookup y.1=U c:=λy hy=>h y (Z1 _ hy);unfold cK;by_cases hk:(k==NameKind.free)=L;rw[ZR hk];obtain⟨c,e⟩:=h (n,k) ZZ (eq_of_beq hk);refine c8 env r _ hr λx d hx=>?_;rw[List.lookup_cons]at hx;cases q:x==n with
  |true=>
   rw[q,e]at hx;rw[eq_of_beq q,e];simpa using hx
  |false=>rw[q]at hx;exact ha x d hx
  rw[ZK hk];exact c8 env r acc hr ha
theorem d7(env:Env)(x:Str):∀(names:Z_ (Str×NameKind))(acc:Z_ (Str×ZM)),((x,NameKind.free)∈names\/∃c,acc.lookup x=some c)->∃c,(cK env names acc).lookup x=some c
 |[],acc,h=>by
  rcases h with h|h;trivial;exact h
 |(n,k)::r,acc,h=>by
  unfold cK;by_cases hk:(k==NameKind.free)=true;rw[ZR hk];refine d7 env x r _ ?_;by_cases q:(x==n)=true;exact .inr ⟨_,by rw[List.lookup_cons,q]⟩;rcases h with h|⟨c,h⟩;rcases Z0.mp h with h|h;cases h;simp at q;exact .inl h;exact .inr ⟨c,by rw[List.lookup_cons];simp[q,h]⟩;rw[ZK hk];refine d7 env x r _ ?_;rcases h with h|h;rcases Z0.mp h with h|h;cases h;simp at hk;exact .inl h;exact .inr h
def eC(h:∀y∈scope.names,y.2=.free->∃c,env.cells.lookup y.1=U c):closureFor scope env=pure (cK env scope.names []):=by
 have e:=i6 env scope.names [] h;have q:closureFor scope env=((forIn scope.names [] (λ(x:Str×NameKind) (cs:Z_ (Str×ZM))=>(match x with
   |(name,kind)=>if(kind==.free)=L then(do let c <-cellOf env name;pure (ForInStep.yield ((name,c)::cs))) else pure (ForInStep.yield cs):Sem (ForInStep (Z_ (Str×ZM)))))) >>= λcs=>pure cs):=rfl
 rw[q,e,pure_bind]
theorem bx{env:Env}:∀{names:Z_ (Str×NameKind)}{x:Str}{k:NameKind},
  (names.map λ(n,k)=>if(k==NameKind.free&&env.scope.kind==.function&&env.kindOf n==U .cell) then(n,NameKind.cell) else(n,k)).lookup x=U k->
  names.lookup x=U k\/(names.lookup x=U .free/\k=.cell)
 |[],_,_,h=>by simp at h
 |(n,k')::r,x,k,h=>by
  have ih:=@bx env r x k;have h':List.lookup x ((if(k'==NameKind.free&&env.scope.kind==.function&&env.kindOf n==U .cell)=L then(n,NameKind.cell) else(n,k'))::(r.map λ(n,k)=>if(k==NameKind.free&&env.scope.kind==.function&&env.kindOf n==U .cell) then(n,NameKind.cell) else(n,k)))=U k:=h;by_cases hc:(k'==NameKind.free&&env.scope.kind==.function&&env.kindOf n==U .cell)=L;rw[ZR hc]at h';rw[List.lookup_cons]at h'⊢;cases hx:x==n with
  |true=>
   rw[hx]at h';simp at h';have:k'=.free:=by
    have:=hc;simp only[ZH]at this;exact eq_of_beq this.1.1
   exact .inr ⟨by rw[this],h'.symm⟩
  |false=>rw[hx]at h';exact ih h'
  rw[ZK hc]at h';rw[List.lookup_cons]at h'⊢;cases hx:x==n with
  |true=>rw[hx]at h';exact .inl h'
  |false=>rw[hx]at h';exact ih h'
def qh(wi:TI)(bs:Z_ Bool)(g:TG)(tt:TT)(te:TE):TE:=λq H Q=>wi q H λJ H1=>∀acc,H1 acc=M->
 ∃W:Nat->Nat->Z_ V->St->Hp->Prop,(∃m,W 0 m [] (rG bs q) (upd H1 acc (.lst [])))/\∀i m ys q H,W i m ys q H->H acc=U (.lst ys)/\
  ((J.stop i H/\Q (.ref acc) H)\/(J.go i H/\∀x H',J.yld i H x H'->g x q H' λIK H2=>tt IK H2 λok H3=>if ok=L
   then te IK H3 λv H4=>H4 acc=U (.lst ys)/\ys.length<sizeLine/\∃m',m'<m/\W (i+1) m' (ys++[v]) IK (upd H4 acc (.lst (ys++[v])))
   else ∃m',m'<m/\W (i+1) m' ys IK H3))
section
variable{X:Cx}{scope:Scope}{bs:Z_ Bool}
structure aaf (X:Cx)(scope:Scope)(bs:List Bool):Prop where
 kind:scope.kind=.function
 cell:∀y∈scope.names,y.2≠.cell
 loc:∀y∈scope.names,y.2=.local->scope.names.lookup y.1=some .local
 fre:∀y∈scope.names,y.2=.free->scope.names.lookup y.1=some .free/\(X.env.kindOf y.1=some .cell\/X.env.kindOf y.1=some .free)
 len:bs.length=X.N.length
 vis:∀(i:Nat)(x:Str),X.N[i]?=some x->bs[i]?=some true->scope.names.lookup x=some .free
theorem aaf.has(S:aaf X scope bs)(I:Inv X a_ q H s):∀y∈scope.names,y.2=.free->∃c,X.env.cells.lookup y.1=U c:=λy hy e=>I.ok.has y.1 (S.fre y hy e).2
def xd{h':Heap}{m:Str->Z9 Z3}(S:aaf X scope bs)(I:Inv X a_ O H s)(hf:∀b∈fp,fI X a_ H b)(ho:∀b∈fp,∃o,s.heap.get? b=U o)
  (Pj:h'.Ns s.z m)(hk:∀b o,s.heap.get? b=U o->h'.get? b=U o){t':Nat}:
  Inv (aA X scope (cK X.env scope.names []) s.z s H fp (X.pn++a_)) [] (rG bs O) H {s with heap:=h',toks:=t'}:=by
 have hh:=S.has I;have cons:=c8 X.env scope.names [] hh (λx c e=>by simp at e);refine⟨⟨I.ok.mod,S.kind,I.ok.glob,I.ok.blt,ZP _,λx y c h1 h2=>I.ok.inj x y c (cons x c h1) (cons y c h2),λx hx=>?_,(λx c h=>nomatch h),I.ok.hd,I.ok.frames,.inl rfl,λb hb=>⟨?_,λx c e=>(hf b hb).2.2.2.2.1 x c (cons x c e)⟩,
  I.bs,ZF I.ok.bsz I.sz,λb o e hb=>?_,λb hb z=>?_,I.stack,I.abQ,I.ok.tabs.to I.base.aa1⟩,
  rfl,I.bare,Un.kept hk,⟨m,Pj,λi x v e1 e2 e3=>?_⟩,λx c e=>?_,I.hok.fresh (ZP _),λx c e=>I.aaQ x c (cons x c e),λp hp=>?_,I.hok.kept hk,?_⟩
 have Kr:(relabel scope X.env).names.lookup x=U .cell\/(relabel scope X.env).names.lookup x=U .free:=hx;have key:(x,NameKind.free)∈scope.names:=by
  rcases Kr with q|q;rcases bx q with q|⟨q,_⟩;exact absurd rfl (S.cell _ (YM q));exact YM q;rcases bx q with q|⟨_,q⟩;exact YM q;trivial
 exact d7 X.env x scope.names [] (.inl key);obtain⟨o,e⟩:=ho b hb;exact Zs (ZV e);rcases(hf b hb).2.2.2.1 with z|z;exact I.ok.ab7 b o e z;exact absurd (Zz (ZV (I.ok.bs b o e).1) z) (Zc _);rcases Z0.mp (I.abd b z)with q|q;exact(hf b hb).2.1 q;exact(hf b hb).2.2.1 q;obtain⟨hb,hs⟩:=xh e2;have JW:=S.vis i x e1 hb;obtain⟨_,SG⟩:=S.fre _ (YM JW) rfl;obtain⟨m0,Sy,hl⟩:=I.loc;have Q7:Vis X.env.scope x:=SG.elim (λz=>.inr (.inl z)) λz=>.inr (.inr z)
 obtain⟨u,ru,lk⟩:=hl i x v e1 hs Q7;refine⟨u,ru,.inr ⟨?_,?_⟩⟩;rcases e3 with q|q|q;rcases bx (show(relabel scope X.env).names.lookup x=U .local from q)with q|⟨_,q⟩;rw[JW]at q;trivial;trivial;exact .inl q;exact .inr q;rcases lk with⟨kl,_⟩|⟨_,c,ec,ic⟩;rcases SG with z|z;rw[kl]at z;trivial;rw[kl]at z;trivial;obtain⟨c',e'⟩:=d7 X.env x scope.names [] (.inl (YM JW));have Th:=cons x c' e';rw[ec]at Th;obtain rfl:=Z7 Th;obtain⟨o,q1,q2⟩:=ic;exact⟨c,e',o,hk c o q1,q2⟩;obtain⟨v,o,q1,q2⟩:=I.cell x c (cons x c e);exact⟨v,o,hk c o q1,q2⟩;have Jf:p∈X.pn++a_:=by
  have q:p∈(X.pn++a_)++([]:Z_ (ZM×Obj)):=hp;rwa[Y3]at q
 obtain⟨e,n,ne,nf,d⟩:=I.pin p Jf;refine⟨hk _ _ e,n,Zs (ZV e),λz=>?_,d⟩;rcases Z0.mp (I.abd p.1 z)with q|q;exact ne q;exact nf q;rw[dL (by rw[S.len,I.len])];exact I.len
def wg(I:Inv X a_ q H s)(hf:∀b∈fp,fI X a_ H b)(J:Inv (aA X scope cl C s H fp (X.pn++a_)) Ja i_ H' s'):Inv X a_ q H' s':=by
 refine I.acM (ch:=fp) J.os J.base J.hok J.bare λb hb=>?_;obtain⟨f0,f1,f2,f3,f4,f5⟩:=hf b hb;exact⟨f3,f1,f4,f5⟩
end
section
def mM(I:Nat->ZT->Prop)(turn:∀n s,I n s->wpAny (model prog w) A (pyNext it) (λr e_=>match r with
   |none=>R (.ok .next) e_
   |some v=>wpAny (model prog w) A (letOwnedTupleGo target it v) (λ_ e_=>wpAny (model prog w) A (assign target env v) (λ_ b_=>
     wpAny (model prog w) A (forIn ifs L λc r=>if r=L then do let ok <-isTrue c env (eval c env);pure (ForInStep.yield ok) else pure (ForInStep.yield r)) (λok JI=>
      if ok=L then wpAny (model prog w) A (eval elt env) (λx LY=>
       wpAny (model prog w) A (call (.builtin "list.append") [acc,x]) (λ_ Ol=>∃m,m<n/\I m Ol) (λ_ _=>False) LY) (λ_ _=>False) JI
      else ∃m,m<n/\I m JI) (λ_ _=>False) b_) (λ_ _=>False) e_) (λ_ _=>False) e_) (λ_ _=>False) s) (n:Nat) (h:I n s):
  codeAny (model prog w) A (.compLoop (.ListComp elt [⟨target,iter,ifs,0⟩] scope pos) 0 it acc env) R s:=by
 refine codeAny_loop rfl I (λn s hI=>?_) n h;show wpAny _ A ((compTurn (.ListComp elt [⟨target,iter,ifs,0⟩] scope pos) 0 it acc env).onRaise (λx=>do noteFrame x env;theTreesLotGoes x)) _ _ s;refine wpAny_noted ?_;rw[compTurn_list];refine Z8 (wpAny_standAt (Z8 (YN (turn n s hI) (λr e_ IS=>?_) λ_ _ h'=>h'.elim)));cases r with
 |none=>exact Z4 IS
 |some v=>
  refine Z8 (YN IS (λ_ Ts OI=>?_) λ_ _ h'=>h'.elim);refine Z8 (YN OI (λ_ b_ Lh=>Z8 (YN Lh (λok JI L0=>?_) λ_ _ h'=>h'.elim)) λ_ _ h'=>h'.elim);cases ok with
  |false=>exact Z4 ⟨rfl,L0⟩
  |true=>
   exact Z8 (Z8 (YN L0 (λx LY Q6=>Z8 (YN Q6 (λ_ Ol Q5=>Z4 (Z4 ⟨rfl,Q5⟩)) λ_ _ h'=>h'.elim)) λ_ _ h'=>h'.elim))
end
section
variable{X:Cx}
def iu{a_:Z_ (ZM×Obj)}{O:St}{H:Hp}{s:ZT}{it:ZM}{fp:Z_ ZM}{tn:Nat->Heap->Prop}{J:It}{Q:VK}{E:Z3->ZT->Prop}{RR:Z3->ZM->Result->ZT->Prop}
  (hc:X.calm=L) (S:aaf X scope bs)
  (hg:∀cl C b_ d_ ex pn,PG (aA X scope cl C b_ d_ ex pn) tg g) (ht:∀cl C b_ d_ ex pn,PTs (aA X scope cl C b_ d_ ex pn) ifs tt) (he:∀cl C b_ d_ ex pn,PE (aA X scope cl C b_ d_ ex pn) elt te)
  (I:Inv X a_ O H s) (T:Turn X.prog X.w X.K tg J fp it tn) (st:tn 0 s.heap) (hf:∀b∈fp,fI X a_ H b)
  (hq:∀acc,H acc=M->
   ∃W:Nat->Nat->Z_ V->St->Hp->Prop,(∃m,W 0 m [] (rG bs O) (upd H acc (.lst [])))/\∀i m ys O H,W i m ys O H->H acc=U (.lst ys)/\
    ((J.stop i H/\Q (.ref acc) H)\/(J.go i H/\∀x H',J.yld i H x H'->g x O H' λIK H2=>tt IK H2 λok H3=>if ok=L
     then te IK H3 λv H4=>H4 acc=U (.lst ys)/\ys.length<sizeLine/\∃m',m'<m/\W (i+1) m' (ys++[v]) IK (upd H4 acc (.lst (ys++[v])))
     else ∃m',m'<m/\W (i+1) m' ys IK H3)))
  (VH:∀D C s' H' m',Inv X a_ O H' s'->Q (.ref D) H'->s'.heap.Ns C m'->H' C=M->C≠X.env.locals->C∉X.fs->X.n_.heap.objs.size<=C->(∀x c,X.env.cells.lookup x=U c->c≠C)->(∀p∈X.pn++a_,p.1≠C)->
   RR (.ref D) C (.ok .next) s'):
  wpAny (model X.prog X.w) X.A (newList []) (λacc JI=>wpAny (model X.prog X.w) X.A (newFunctionEnv scope X.env.globals (cK X.env scope.names []) [] X.env.qual M .none (U X.env)) (λOG LY=>
   codeAny (model X.prog X.w) X.A (.compStart (.ListComp elt [⟨tg,iter,ifs,0⟩] scope pos) 0 (.ref it) acc {OG with scope:=relabel scope X.env}) (RR acc OG.locals) LY) E JI) E s:=by
 refine Y0 ?_;have JW:H s.heap.objs.size=M:=I.fresh;have I3:Inv X a_ O (upd H s.heap.objs.size (.lst [])) {s with heap:=s.heap.push {cls:=.type "list",dict:=M,data:=.seq ([]:Z_ Z3).toArray}}:=I.acK (its:=[]) (t':=s.toks) .nil (Zo _);have T7:tn 0 (s.heap.push {cls:=.type "list",dict:=M,data:=.seq ([]:Z_ Z3).toArray}):=T.keep _ _ _ st λb _ o e=>Z5 _ e;have ka:∀b∈fp,b<s.heap.objs.size:=λb hb=>by
  obtain⟨o,e,_⟩:=T.obj _ _ st b hb;exact ZV e
 have f3:∀b∈fp,fI X a_ (upd H s.heap.objs.size (.lst [])) b:=λb hb=>⟨by rw[ai (Zs (ka b hb))];exact(hf b hb).1,(hf b hb).2⟩
 obtain⟨W,⟨m0,w0⟩,turn⟩:=hq s.heap.objs.size JW;generalize t_:s.heap.objs.size=acc at*;generalize UR:({s with heap:=s.heap.push {cls:=.type "list",dict:=M,data:=.seq ([]:Z_ Z3).toArray}}:ZT)=s3 at*;have Om:tn 0 s3.heap:=by rw[<-UR];exact T7
 refine wpAny_newFunctionEnv S.cell (λy hy=>by simp at hy) (λIS Na M_=>?_) S.kind;have keep:∀b o,s3.heap.get? b=U o->IS.get? b=U o:=λb o e=>(M_.2 b (Zs (ZV e))).trans (Z5 _ e);have RT:∀b∈fp,∃o,s3.heap.get? b=U o:=λb hb=>by
  obtain⟨o,e,_⟩:=T.obj _ _ Om b hb;exact⟨o,e⟩
 have I4:=xd (t':=s3.toks+([]:Z_ (Str×Z3)).length) S I3 f3 RT Na keep;have RD:tn 0 IS:=T.keep _ _ _ Om λb _ o e=>keep b o e;have J7:∀{H':Hp}{pl:Z_ (ZM×Obj)},(∀b∈fp,H' b=M)->∀b∈fp,fI (aA X scope (cK X.env scope.names []) s3.heap.objs.size s3 (upd H acc (.lst [])) fp (X.pn++a_)) [] H' b:=λ{H' pl} hn b hb=>by
  obtain⟨_,f1,f2,f3',f4,f5⟩:=f3 b hb;obtain⟨o,e⟩:=RT b hb;refine⟨hn b hb,Zs (ZV e),λz=>?_,.inl hb,λx c e=>f4 x c (c8 X.env scope.names [] (S.has I3) (λx c e=>by simp at e) x c e),λp hp=>?_⟩;rcases Z0.mp (I3.abd b z)with q|q;exact f1 q;exact f2 q;have q:p∈(X.pn++a_)++([]:Z_ (ZM×Obj)):=hp;rw[Y3]at q;exact f5 p q
 let X':Cx:=aA X scope (cK X.env scope.names []) s3.heap.objs.size s3 (upd H acc (.lst [])) fp (X.pn++a_)
 have loop:∀s5:ZT,s5={s3 with heap:=IS,toks:=s3.toks+([]:Z_ (Str×Z3)).length}->
   codeAny (model X.prog X.w) X.A (.compLoop (.ListComp elt [⟨tg,iter,ifs,0⟩] scope pos) 0 (.ref it) (.ref acc) (compEnvC scope (cK X.env scope.names []) s3.heap.objs.size X.env)) (RR (.ref acc) s3.heap.objs.size) s5:=by
  rintro s5 rfl
  refine mM (λn s'=>∃i ys i_ H',Inv (aA X scope (cK X.env scope.names []) s3.heap.objs.size s3 (upd H acc (.lst [])) fp (X.pn++a_)) [] i_ H' s'/\tn i s'.heap/\(∀b∈fp,H' b=M)/\W i n ys i_ H') ?_ m0
   ⟨0,[],rG bs O,upd H acc (.lst []),I4,RD,λb hb=>(f3 b hb).1,w0⟩
  intro n s6 hz;obtain⟨i,ys,Nf,H6,I6,RC,Ta,w6⟩:=hz;obtain⟨hac,way⟩:=turn i n ys Nf H6 w6;rcases way with⟨stop,qn⟩|⟨go,step⟩
  .refine thn (T.done X' rfl rfl rfl hc i [] s6 Nf H6 (λ_ _=>False) I6 (J7 (pl:=[]) Ta) RC stop) λr s7 hz=>?_
   obtain⟨hr,I7⟩:=hz;subst hr;obtain⟨m',K5,_⟩:=I7.loc;have IX:=wg (C:=s3.heap.objs.size) I3 f3 I7;refine VH acc s3.heap.objs.size s7 H6 m' IX qn K5 I7.free (Nat.ne_of_gt I3.lt) (I3.acs (ZP _)) I3.sz (λx c e z=>?_) λp hp z=>?_;obtain⟨v,q⟩:=I3.cell x c e;exact absurd q.lt (by rw[z];exact Zc _);exact absurd (ZV (I3.pin p hp).1) (by rw[z];exact Zc _)
  refine thn (T.item X' rfl rfl rfl hc i [] s6 Nf H6 (λ_ _=>False) I6 (J7 (pl:=[]) Ta) RC go) λr s7 hz=>?_;obtain⟨u,hr,h7⟩:=hz;subst hr;refine thn h7 λ_ s8 hz=>?_;obtain⟨x,H8,I8,r8,y8,PU,V1⟩:=hz;have I8':=I8.pinned (J7 (pl:=[]) V1) (T.obj _ _ PU);refine thn (hg _ _ _ _ _ _ _ s8 Nf H8 x u _ I8' r8 (step x H8 y8)) λ_ s9 hz=>?_;obtain⟨NH,H9,I9,q9⟩:=hz;refine thn (ht _ _ _ _ _ _ _ s9 NH H9 _ I9 q9) λok Ua hz=>?_;obtain⟨Tr,QV,O4⟩:=hz;have back:∀{i_:St}{H':Hp}{s':ZT},Inv (aA X scope (cK X.env scope.names []) s3.heap.objs.size s3 (upd H acc (.lst [])) fp (X.pn++a_)) ([]++lC fp s8.heap) i_ H' s'->tn (i+1) s'.heap/\∀b∈fp,H' b=M:=λ{i_ H' s'} K=>by
   refine⟨T.keep _ _ _ PU λb hb o e=>(K.pin (b,o) (ZE _ (ZE _ (c9 hb e)))).1,λb hb=>?_⟩;obtain⟨o,e,d⟩:=T.obj _ _ PU b hb;exact(K.pin (b,o) (ZE _ (ZE _ (c9 hb e)))).2.1
  cases ok with
  |false=>
   rw[ZK Zr]at O4⊢;obtain⟨m',hm,w'⟩:=O4;obtain⟨b1,b2⟩:=back QV;exact⟨m',hm,i+1,ys,NH,Tr,QV.aaR,b1,b2,w'⟩
  |true=>
   rw[ZR rfl]at O4⊢;refine thn (he _ _ _ _ _ _ _ Ua NH Tr _ QV O4) λy T_ hz=>?_;obtain⟨v,Tq,I11,Ui,ON,hz,m',hm,w'⟩:=hz;have ap:=d6 (X:=X') _ T_ NH Tq (.ref acc) [v] (.ref acc) [y] (λ(z:V) (H':Hp)=>H'=upd Tq acc (.lst (ys++[v]))) I11 rfl (.cons Ui .nil) ⟨acc,ys,v,rfl,rfl,ON,hz,rfl⟩;refine thn ap λ_ s12 hz=>?_;obtain⟨_,H12,Tp,_,e12⟩:=hz;subst e12;obtain⟨b1,b2⟩:=back Tp;exact⟨m',hm,i+1,ys++[v],NH,_,Tp.aaR,b1,b2,w'⟩
 exact codeAny_compStart_list (loop _ rfl) (T.self _ 0 _ _ _ RD (loop _ rfl))
def rR(hc:X.calm=L)(hi:PI X tg iter wi)(S:aaf X scope bs)(hg:∀cl C b_ d_ ex pn,PG (aA X scope cl C b_ d_ ex pn) tg g)(ht:∀cl C b_ d_ ex pn,PTs (aA X scope cl C b_ d_ ex pn) ifs tt)(he:∀cl C b_ d_ ex pn,PE (aA X scope cl C b_ d_ ex pn) elt te)(hs:∀x,foldedSetIterable iter X.env x=pure x:=by intro _;rfl):PE X (.ListComp elt [⟨tg,iter,ifs,0⟩] scope pos) (qh wi bs g tt te):=by
 intro a_ s q H Q I h;rw[eval_ListComp];refine wpAny_comprehension_free (use:=M) rfl hs (eC (S.has I)) S.kind S.loc (thn (hi a_ s q H _ I h) λv s1 h1=>thn h1 λO9 s2 h2=>?_);obtain⟨it,fp,tn,J,H2,e,I2,T,NL,f2,hq⟩:=h2;subst e;refine iu (RR:=λacc C=>compPost (model X.prog X.w) X.A X.xe M (EP X a_ q Q) acc C) hc S hg ht he I2 T NL f2 hq ?_;intro D C s' H' m' I' q' hn hC hL hF hz JX hp;refine⟨m',hn,λVW MT=>⟨.ref D,H',?_,rfl,q'⟩⟩;exact I'.turned (t':=s'.toks) (λb o hb e=>(MT.2 b hb).trans e) hC hL (.inr hz) JX hp
def vw(hc:X.calm=L)(hi:PI X tg iter wi)(S:aaf X scope bs)(hg:∀cl C b_ d_ ex pn,PG (aA X scope cl C b_ d_ ex pn) tg g)(ht:∀cl C b_ d_ ex pn,PTs (aA X scope cl C b_ d_ ex pn) ifs tt)(he:∀cl C b_ d_ ex pn,PE (aA X scope cl C b_ d_ ex pn) elt te)(hN:X.N.Nodup)(Qw:X.N[i]?=U y)(hy:X.env.scope.names.lookup y=U .local)(Kt:swapsWith (.ListComp elt [⟨tg,iter,ifs,0⟩] scope pos) (U (.Name y py)) J8.line X.env=pure L:=by rfl)(hs:∀x,foldedSetIterable iter X.env x=pure x:=by intro _;rfl):PS X (.Assign [.Name y py] (.ListComp elt [⟨tg,iter,ifs,0⟩] scope pos) J8) (BD (qh wi bs g tt te) (h9 i)):=by
 intro a_ s O H D I h;rw[exec_Assign_Name_used _ _ _ _ Kt];refine Z8 (wpAny_standAt (Z8 ?_));show wpAny _ X.A (do let _ <-comprehension (.ListComp elt [⟨tg,iter,ifs,0⟩] scope pos) scope X.env _ (newList []) Y (eval iter X.env) (U (assign (.Name y py) X.env))) _ _ s;refine Z8 (YN (wpAny_comprehension_free (use:=U (assign (.Name y py) X.env)) (Q:=λ_ s'=>SP X a_ D .next s') rfl hs (eC (S.has I)) S.kind S.loc
  (thn (hi a_ s O H _ I h) λv s1 h1=>thn h1 λO9 s2 h2=>?_)) (λ_ s' hq=>Z4 (Z4 hq)) λ_ _ e=>e)
 obtain⟨it,fp,tn,J,H2,e,I2,T,NL,f2,hq⟩:=h2;subst e;refine iu (Q:=λx H1=>h9 i x O H1 D.nx) (RR:=λacc C=>compPost (model X.prog X.w) X.A X.xe (U (assign (.Name y py) X.env)) (λ_ s'=>SP X a_ D .next s') acc C) hc S hg ht he I2 T NL f2 hq ?_;intro A C s' H' m' I' q' hn hC hL hF hz JX hp;show wpAny _ X.A (assign (.Name y py) X.env (.ref A)) _ _ _;refine wpAny_assign_Name (jV I' hN Qw (.inl hy) (v:=.ref A) rfl (λs2 I2 Pf=>?_) (.inr hy));obtain⟨a,sb,ha⟩:=Pf;have VQ:C≠a:=by
  rcases ha with z|z;rw[z];exact hL;exact λq=>JX y a z q.symm
 refine⟨m',hn.sameBut sb VQ,λVW MT=>⟨O.set i (U (.ref A)),H',?_,q'⟩⟩;exact I2.turned (t':=s2.toks) (λb o hb e=>(MT.2 b hb).trans e) hC hL (.inr hz) JX hp
end
mutual
def D.flat:D->Bool
 |.non=>L|.bl _=>L|.int _=>L|.str _=>L
 |.tup ds=>D.aaB ds
 |.lst _=>Y|.dK _ _=>Y|.dD _ _=>Y
def D.aaB:Z_ D->Bool
 |[]=>L
 |d::ds=>d.flat&&D.aaB ds
end
theorem D.aaH:∀ds:Z_ D,D.aaB ds=ds.all D.flat
 |[]=>rfl
 |d::ds=>by simp only[D.aaB,rF,D.aaH ds]
def abq(K:Z6)(B:ZM->Prop)(H:Hp)(a:ZM)(xs:Z_ V):Prop:=
 (B a/\H a=U (.lst xs))\/(∃o,H a=U (.frz o (.lst xs)))\/
  ∃(o:Obj)(its:Array Z3)(n:Nat),K.lookup a=U o/\o.cls=.type "list"/\o.dict=M/\o.data=.seq its n/\its.size<=sizeLine/\aac xs its.toList
def abq.sq{K:Z6}{B:ZM->Prop}{H:Hp}{a:ZM}{xs:Z_ V}(h:abq K B H a xs):SqL K H a xs:=by
 rcases h with⟨_,h⟩|⟨o,h⟩|h;exact .inl (.inl h);exact .inl (.inr ⟨o,h⟩);exact .inr h
def abW(B:ZM->Prop)(H:Hp)(a:ZM)(kvs:Z_ (Key×V)):Prop:=(B a/\H a=U (.dK kvs))\/∃o,H a=U (.frz o (.dK kvs))
def abX(B:ZM->Prop)(H:Hp)(a:ZM)(kvs:Z_ (D×V)):Prop:=∃ep,(B a/\H a=U (.dD kvs ep))\/∃o,H a=U (.frz o (.dD kvs ep))
mutual
def Rep(K:Z6)(B:ZM->Prop)(H:Hp):D->V->Prop
 |.non,v=>v=.non
 |.bl b,v=>v=.bl b
 |.int i,v=>v=.int i
 |.str x,v=>v=.str x
 |.tup ds,v=>∃a xs,v=.ref a/\H a=U (.tup xs)/\M1 K B H ds xs
 |.lst ds,v=>∃a xs,v=.ref a/\abq K B H a xs/\M1 K B H ds xs
 |.dK ks ds,v=>∃a kvs,v=.ref a/\abW B H a kvs/\kvs.map (·.1)=ks/\M1 K B H ds (kvs.map (·.2))
 |.dD ks ds,v=>∃a kvs,v=.ref a/\abX B H a kvs/\kvs.map (·.1)=ks/\M1 K B H ds (kvs.map (·.2))
def M1(K:Z6)(B:ZM->Prop)(H:Hp):Z_ D->Z_ V->Prop
 |[],xs=>xs=[]
 |d::ds,xs=>∃x r,xs=x::r/\Rep K B H d x/\M1 K B H ds r
end
structure Ext (B:ZM->Prop)(H H':Hp):Prop where
 aaW:∀a xs,H a=some (.tup xs)->H' a=some (.tup xs)
 aaS:∀a o u,H a=some (.frz o u)->H' a=some (.frz o u)
 abF:∀a,B a->H' a=H a
def Ext.refl:Ext B H H:=⟨λ_ _ h=>h,λ_ _ _ h=>h,λ_ _=>rfl⟩
theorem Ext.trans(a:Ext B H H1)(b:Ext B H1 H2):Ext B H H2:=
 ⟨λx y h=>b.aaW x y (a.aaW x y h),λx y z h=>b.aaS x y z (a.aaS x y z h),λx h=>(b.abF x h).trans (a.abF x h)⟩
section
variable{K:Z6}{B B':ZM->Prop}{H H':Hp}
def abq.ext(h:abq K B H a xs)(e:Ext B H H'):abq K B H' a xs:=by
 rcases h with⟨b,h⟩|⟨o,h⟩|h;exact .inl ⟨b,(e.abF a b).trans h⟩;exact .inr (.inl ⟨o,e.aaS _ _ _ h⟩);exact .inr (.inr h)
def abq.more(h:abq K B H a xs)(e:∀a,B a->B' a):abq K B' H a xs:=by
 rcases h with⟨b,h⟩|h|h;exact .inl ⟨e a b,h⟩;exact .inr (.inl h);exact .inr (.inr h)
def abW.ext(h:abW B H a xs)(e:Ext B H H'):abW B H' a xs:=by
 rcases h with⟨b,h⟩|⟨o,h⟩;exact .inl ⟨b,(e.abF a b).trans h⟩;exact .inr ⟨o,e.aaS _ _ _ h⟩
def abX.ext(h:abX B H a xs)(e:Ext B H H'):abX B H' a xs:=by
 obtain⟨ep,h⟩:=h;rcases h with⟨b,h⟩|⟨o,h⟩;exact⟨ep,.inl ⟨b,(e.abF a b).trans h⟩⟩;exact⟨ep,.inr ⟨o,e.aaS _ _ _ h⟩⟩
mutual
theorem Rep.ext(e:Ext B H H'):∀{d:D}{v:V},Rep K B H d v->Rep K B H' d v
 |.non,v,h=>by simpa only[Rep]using h
 |.bl b,v,h=>by simpa only[Rep]using h
 |.int i,v,h=>by simpa only[Rep]using h
 |.str x,v,h=>by simpa only[Rep]using h
 |.tup ds,v,h=>by
  simp only[Rep]at h⊢;obtain⟨a,xs,hv,hq,hr⟩:=h;exact⟨a,xs,hv,e.aaW _ _ hq,M1.ext e hr⟩
 |.lst ds,v,h=>by
  simp only[Rep]at h⊢;obtain⟨a,xs,hv,hq,hr⟩:=h;exact⟨a,xs,hv,hq.ext e,M1.ext e hr⟩
 |.dK ks ds,v,h=>by
  simp only[Rep]at h⊢;obtain⟨a,xs,hv,hq,hk,hr⟩:=h;exact⟨a,xs,hv,hq.ext e,hk,M1.ext e hr⟩
 |.dD ks ds,v,h=>by
  simp only[Rep]at h⊢;obtain⟨a,xs,hv,hq,hk,hr⟩:=h;exact⟨a,xs,hv,hq.ext e,hk,M1.ext e hr⟩
theorem M1.ext(e:Ext B H H'):∀{ds:Z_ D}{xs:Z_ V},M1 K B H ds xs->M1 K B H' ds xs
 |[],xs,h=>by simpa only[M1]using h
 |d::ds,xs,h=>by
  simp only[M1]at h⊢;obtain⟨x,r,hx,h1,h2⟩:=h;exact⟨x,r,hx,Rep.ext e h1,M1.ext e h2⟩
end
mutual
theorem Rep.more(e:∀a,B a->B' a):∀{d:D}{v:V},Rep K B H d v->Rep K B' H d v
 |.non,v,h=>by simpa only[Rep]using h
 |.bl b,v,h=>by simpa only[Rep]using h
 |.int i,v,h=>by simpa only[Rep]using h
 |.str x,v,h=>by simpa only[Rep]using h
 |.tup ds,v,h=>by
  simp only[Rep]at h⊢;obtain⟨a,xs,hv,hq,hr⟩:=h;exact⟨a,xs,hv,hq,M1.more e hr⟩
 |.lst ds,v,h=>by
  simp only[Rep]at h⊢;obtain⟨a,xs,hv,hq,hr⟩:=h;exact⟨a,xs,hv,hq.more e,M1.more e hr⟩
 |.dK ks ds,v,h=>by
  simp only[Rep]at h⊢;obtain⟨a,xs,hv,hq,hk,hr⟩:=h;exact⟨a,xs,hv,hq.imp (λz=>⟨e a z.1,z.2⟩) λz=>z,hk,M1.more e hr⟩
 |.dD ks ds,v,h=>by
  simp only[Rep]at h⊢;obtain⟨a,xs,hv,⟨ep,hq⟩,hk,hr⟩:=h;exact⟨a,xs,hv,⟨ep,hq.imp (λz=>⟨e a z.1,z.2⟩) λz=>z⟩,hk,M1.more e hr⟩
theorem M1.more(e:∀a,B a->B' a):∀{ds:Z_ D}{xs:Z_ V},M1 K B H ds xs->M1 K B' H ds xs
 |[],xs,h=>by simpa only[M1]using h
 |d::ds,xs,h=>by
  simp only[M1]at h⊢;obtain⟨x,r,hx,h1,h2⟩:=h;exact⟨x,r,hx,Rep.more e h1,M1.more e h2⟩
end
mutual
theorem Rep.flat:∀{d:D}{v:V},d.flat=L->Rep K B H d v->Rep K B' H d v
 |.non,v,_,h=>by simpa only[Rep]using h
 |.bl b,v,_,h=>by simpa only[Rep]using h
 |.int i,v,_,h=>by simpa only[Rep]using h
 |.str x,v,_,h=>by simpa only[Rep]using h
 |.tup ds,v,f,h=>by
  simp only[Rep]at h⊢;simp only[D.flat]at f;obtain⟨a,xs,hv,hq,hr⟩:=h;exact⟨a,xs,hv,hq,M1.flat f hr⟩
 |.lst ds,v,f,_=>by simp[D.flat]at f
 |.dK _ _,v,f,_=>by simp[D.flat]at f
 |.dD _ _,v,f,_=>by simp[D.flat]at f
theorem M1.flat:∀{ds:Z_ D}{xs:Z_ V},D.aaB ds=L->M1 K B H ds xs->M1 K B' H ds xs
 |[],xs,_,h=>by simpa only[M1]using h
 |d::ds,xs,f,h=>by
  simp only[M1]at h⊢;simp only[D.aaB,ZH]at f;obtain⟨x,r,hx,h1,h2⟩:=h;exact⟨x,r,hx,Rep.flat f.1 h1,M1.flat f.2 h2⟩
end
theorem M1.length:∀{ds:Z_ D}{xs:Z_ V},M1 K B H ds xs->ds.length=xs.length
 |[],xs,h=>by simp only[M1]at h;subst h;rfl
 |d::ds,xs,h=>by
  simp only[M1]at h;obtain⟨x,r,hx,h1,h2⟩:=h;subst hx;simp only[bG,M1.length h2]
def M1.nil:M1 K B H [] []:=by simp only[M1]
theorem M1.cons{d:D}{ds:Z_ D}{x:V}{xs:Z_ V}(h:Rep K B H d x)(t:M1 K B H ds xs):M1 K B H (d::ds) (x::xs):=by
 simp only[M1];exact⟨x,xs,rfl,h,t⟩
def M1.abH(h:M1 K B H (d::ds) (x::xs)):Rep K B H d x/\M1 K B H ds xs:=by
 simp only[M1]at h;obtain⟨y,r,e,h1,h2⟩:=h;cases e;exact⟨h1,h2⟩
theorem M1.get:∀{ds:Z_ D}{xs:Z_ V}{i:Nat}{d:D},M1 K B H ds xs->ds[i]?=U d->∃x,xs[i]?=U x/\Rep K B H d x
 |[],_,_,_,_,e=>by simp at e
 |d::ds,xs,0,e,h,he=>by
  simp only[M1]at h;obtain⟨x,r,hx,h1,h2⟩:=h;subst hx;simp at he;subst he;exact⟨x,rfl,h1⟩
 |d::ds,xs,i+1,e,h,he=>by
  simp only[M1]at h;obtain⟨x,r,hx,h1,h2⟩:=h;subst hx;exact M1.get (i:=i) h2 (by simpa using he)
def M1.get':∀{ds:Z_ D}{xs:Z_ V}{i:Nat}{x:V},M1 K B H ds xs->xs[i]?=U x->∃d,ds[i]?=U d/\Rep K B H d x:=λ{ds xs i x} h e=>by
 have hl:=h.length;have hi:i<ds.length:=by rw[hl];exact(ZX.mp e).1
 obtain⟨y,hy,r⟩:=h.get (i:=i) (d:=ds[i]) (by simp[hi]);rw[e]at hy;obtain rfl:=Z7 hy;exact⟨ds[i],by simp[hi],r⟩
theorem M1.append:∀{ds es:Z_ D}{xs ys:Z_ V},M1 K B H ds xs->M1 K B H es ys->M1 K B H (ds++es) (xs++ys)
 |[],es,xs,ys,h,t=>by simp only[M1]at h;subst h;simpa using t
 |d::ds,es,xs,ys,h,t=>by
  simp only[M1]at h;obtain⟨x,r,hx,h1,h2⟩:=h;subst hx;exact M1.cons h1 (M1.append h2 t)
theorem M1.take:∀{ds:Z_ D}{xs:Z_ V}(n:Nat),M1 K B H ds xs->M1 K B H (ds.take n) (xs.take n)
 |_,_,0,_=>by simp only[List.take_zero];exact M1.nil
 |[],xs,n+1,h=>by simp only[M1]at h;subst h;exact M1.nil
 |d::ds,xs,n+1,h=>by
  simp only[M1]at h;obtain⟨x,r,hx,h1,h2⟩:=h;subst hx;exact M1.cons h1 (M1.take n h2)
theorem M1.drop:∀{ds:Z_ D}{xs:Z_ V}(n:Nat),M1 K B H ds xs->M1 K B H (ds.drop n) (xs.drop n)
 |_,_,0,h=>h
 |[],xs,n+1,h=>by simp only[M1]at h;subst h;exact M1.nil
 |d::ds,xs,n+1,h=>by
  simp only[M1]at h;obtain⟨x,r,hx,h1,h2⟩:=h;subst hx;exact M1.drop n h2
end
abbrev Mk:=Z_ (Z9 (D×Bool))
def ObR(K:Z6)(B:ZM->Prop)(H:Hp)(d:D)(a:ZM):Prop:=match d with
 |.lst ds=>∃xs,H a=U (.lst xs)/\M1 K B H ds xs
 |.dK ks ds=>∃kvs,H a=U (.dK kvs)/\kvs.map (·.1)=ks/\M1 K B H ds (kvs.map (·.2))
 |.dD ks ds=>∃kvs,(∃ep,H a=U (.dD kvs ep))/\kvs.map (·.1)=ks/\M1 K B H ds (kvs.map (·.2))
 |_=>False
structure Rel (K:Z6)(B:ZM->Prop)(Hk:Hp)(δ:Mk)(σ:St)(H:Hp):Prop where
 same:aaa Hk H
 bor:∀a,B a->∃o:HOn,Hk a=some o.1
 len:δ.length=σ.length
 var:∀(i:Nat) d,δ[i]?=some (some (d,false))->∃v,σ[i]?=some (some v)/\Rep K B H d v
 own:∀(i:Nat) d,δ[i]?=some (some (d,true))->∃a,σ[i]?=some (some (.ref a))/\Hk a=none/\ObR K B H d a
 dis:∀(i j:Nat) d e a,i≠j->δ[i]?=some (some (d,true))->δ[j]?=some (some (e,true))->σ[i]?=some (some (.ref a))->σ[j]?=some (some (.ref a))->False
def BO(B:ZM->Prop)(q:Mk)(O:St)(a:ZM):Prop:=B a\/∃(i:Nat)(d:D),q[i]?=U (U (d,L))/\O[i]?=U (U (.ref a))
def bh(m:Bool)(B:ZM->Prop)(q:Mk)(O:St):ZM->Prop:=if m=L then BO B q O else B
section
variable{K:Z6}{B B':ZM->Prop}{Hk H H':Hp}{δ:Mk}{σ:St}
def aaa.ext(s:aaa H H')(b:∀a,B a->∃o:HOn,H a=U o.1):Ext B H H':=
 ⟨λa xs h=>s a _ h,λa o u h=>s a _ h,λa h=>by obtain⟨o,e⟩:=b a h;rw[e,s a o e]⟩
theorem ObR.ext(h:ObR K B H d a)(e:Ext B H H')(ha:∀o:HO,H a=U o->o.nt=L->H' a=U o):ObR K B H' d a:=by
 cases d with
 |lst ds=>obtain⟨xs,h1,h2⟩:=h;exact⟨xs,ha _ h1 rfl,h2.ext e⟩
 |dK ks ds=>obtain⟨xs,h1,h0,h2⟩:=h;exact⟨xs,ha _ h1 rfl,h0,h2.ext e⟩
 |dD ks ds=>obtain⟨xs,⟨ep,h1⟩,h0,h2⟩:=h;exact⟨xs,⟨ep,ha _ h1 rfl⟩,h0,h2.ext e⟩
 |_=>exact(show False from h).elim
def ObR.there(h:ObR K B H d a):∃o:HOn,H a=U o.1:=by
 cases d with
 |lst ds=>obtain⟨xs,h1,h2⟩:=h;exact⟨⟨_,rfl⟩,h1⟩
 |dK ks ds=>obtain⟨xs,h1,h0,h2⟩:=h;exact⟨⟨_,rfl⟩,h1⟩
 |dD ks ds=>obtain⟨xs,⟨ep,h1⟩,h0,h2⟩:=h;exact⟨⟨_,rfl⟩,h1⟩
 |_=>exact(show False from h).elim
def Rel.abm(R:Rel K B Hk δ σ H):∀a,B a->∃o:HOn,H a=U o.1:=λa h=>by
 obtain⟨o,e⟩:=R.bor a h;exact⟨o,R.same a o e⟩
def Rel.boH(R:Rel K B Hk δ σ H):∀a,BO B δ σ a->∃o:HOn,H a=U o.1:=λa h=>by
 rcases h with h|⟨i,d,h1,h2⟩;exact R.abm a h;obtain⟨b,e,_,ob⟩:=R.own i d h1;rw[h2]at e;cases e;exact ob.there
def Rel.bsH(R:Rel K B Hk δ σ H)(m:Bool):∀a,bh m B δ σ a->∃o:HOn,H a=U o.1:=by
 unfold bh;cases m with
 |true=>exact R.boH
 |false=>exact R.abm
def Rel.to(R:Rel K B Hk δ σ H)(s:aaa H H'):Rel K B Hk δ σ H':=by
 have e:Ext B H H':=s.ext R.abm;refine⟨R.same.trans s,R.bor,R.len,λi d h=>?_,λi d h=>?_,R.dis⟩;obtain⟨v,h1,h2⟩:=R.var i d h;exact⟨v,h1,h2.ext e⟩;obtain⟨a,h1,h2,h3⟩:=R.own i d h;exact⟨a,h1,h2,h3.ext e λo q n=>s.get a o n q⟩
def Rep.same(r:Rep K (bh m B δ σ) H d v)(R:Rel K B Hk δ σ H)(s:aaa H H'):Rep K (bh m B δ σ) H' d v:=r.ext (s.ext (R.bsH m))
def M1.same(r:M1 K (bh m B δ σ) H d v)(R:Rel K B Hk δ σ H)(s:aaa H H'):M1 K (bh m B δ σ) H' d v:=r.ext (s.ext (R.bsH m))
def jO(m:Bool):∀a,B a->bh m B δ σ a:=λa h=>by
 unfold bh;cases m with
 |true=>exact .inl h
 |false=>exact h
def ObR.rep(h:ObR K B H d a)(hb:B' a)(hs:∀a,B a->B' a):Rep K B' H d (.ref a):=by
 cases d with
 |lst ds=>obtain⟨xs,h1,h2⟩:=h;simp only[Rep];exact⟨a,xs,rfl,.inl ⟨hb,h1⟩,h2.more hs⟩
 |dK ks ds=>obtain⟨xs,h1,h0,h2⟩:=h;simp only[Rep];exact⟨a,xs,rfl,.inl ⟨hb,h1⟩,h0,h2.more hs⟩
 |dD ks ds=>obtain⟨xs,⟨ep,h1⟩,h0,h2⟩:=h;simp only[Rep];exact⟨a,xs,rfl,⟨ep,.inl ⟨hb,h1⟩⟩,h0,h2.more hs⟩
 |_=>exact(show False from h).elim
end
def PE.imp(h:PE X e t)(i:∀O H Q,t' O H Q->t O H Q):PE X e t':=λa_ s O H Q I q=>h a_ s O H Q I (i O H Q q)
def PT.imp(h:PT X e t)(i:∀O H Q,t' O H Q->t O H Q):PT X e t':=λa_ s O H Q I q=>h a_ s O H Q I (i O H Q q)
def PW.imp(h:PW X e t)(i:∀O H Q,t' O H Q->t O H Q):PW X e t':=λwhole a_ s O H Q I q=>h whole a_ s O H Q I (i O H Q q)
def PA.imp(h:PA X e t)(i:∀O H Q,t' O H Q->t O H Q):PA X e t':=λpos a_ s O H Q I q=>h pos a_ s O H Q I (i O H Q q)
def PI.imp(h:PI X tg e t)(i:∀O H Q,t' O H Q->t O H Q):PI X tg e t':=λa_ s O H Q I q=>h a_ s O H Q I (i O H Q q)
def PS.imp(h:PS X e t)(i:∀D O H,t' D O H->t D O H):PS X e t':=λa_ s O H D I q=>h a_ s O H D I (i D O H q)
def PSs.imp(h:PSs X e t)(i:∀D O H,t' D O H->t D O H):PSs X e t':=λa_ s O H D I q=>h a_ s O H D I (i D O H q)
def tM(K:Z6)(m:Bool)(f:Mk->Z9 D):TE:=λO H Q=>∃B Hk q d,Rel K B Hk q O H/\f q=U d/\∀v H',aaa H H'->Rep K (bh m B q O) H' d v->Q v H'
def tF(K:Z6)(f:Mk->Z9 D):TE:=λO H Q=>∃B Hk q d,Rel K B Hk q O H/\f q=U d/\∀a H',aaa H H'->H a=M->ObR K B H' d a->Q (.ref a) H'
def tMT(K:Z6)(f:Mk->Z9 Bool):TT:=λO H Q=>∃B Hk q d,Rel K B Hk q O H/\f q=U d/\∀H',aaa H H'->Q d H'
def tMA(K:Z6)(m:Bool)(f:Mk->Z9 (Z_ D)):TA:=λO H Q=>∃B Hk q ds,Rel K B Hk q O H/\f q=U ds/\∀vs H',aaa H H'->M1 K (bh m B q O) H' ds vs->Q vs H'
abbrev DE(X:Cx)(m:Bool)(e:Expr)(f:Mk->Z9 D):Prop:=PE X e (tM X.K m f)
abbrev DF(X:Cx)(e:Expr)(f:Mk->Z9 D):Prop:=PE X e (tF X.K f)
abbrev DT(X:Cx)(e:Expr)(f:Mk->Z9 Bool):Prop:=PT X e (tMT X.K f)
abbrev DA(X:Cx)(m:Bool)(es:Z_ Expr)(f:Mk->Z9 (Z_ D)):Prop:=PA X es (tMA X.K m f)
section
variable{X:Cx}{m m':Bool}{a b:Expr}{fa fb:Mk->Z9 D}{pos:Pos}
def rd(m:Bool)(i:Nat)(q:Mk):Z9 D:=match q[i]? with|some (some (d,o))=>if(o&&!m)=L then M else U d|_=>M
set_option tactic.hygienic true in
def As(h:rd m i O=U d):∃o,O[i]?=U (U (d,o))/\(o=L->m=L):=by
 unfold rd at h;split at h;rename_i d' o e;by_cases q:(o&&!m)=L;rw[ZR q]at h;trivial;rw[ZK q]at h;obtain rfl:=Z7 h;refine⟨o,e,λz=>?_⟩;subst z;cases m with
 |true=>rfl
 |false=>simp at q
 trivial
theorem Rel.rd{K:Z6}{B:ZM->Prop}{Hk H:Hp}{q:Mk}{O:St}{i:Nat}{d:D}(R:Rel K B Hk q O H)(h:rd m i q=U d):∃v,O[i]?=U (U v)/\Rep K (bh m B q O) H d v:=by
 obtain⟨o,e,ho⟩:=As h;cases o with
 |false=>
  obtain⟨v,h1,h2⟩:=R.var i d e;exact⟨v,h1,h2.more λa h=>jO m a h⟩
 |true=>
  obtain⟨a,h1,h2,h3⟩:=R.own i d e;obtain rfl:=ho rfl;exact⟨_,h1,h3.rep (B':=bh L B q O) (by unfold bh;rw[ZR rfl];exact .inr ⟨i,d,e,h1⟩) λa h=>jO L a h⟩
def BR(hN:X.N[i]?=U x)(hv:Vis X.env.scope x)(hd:(x==("__debug__":Str))=Y:=by decide)(Jg:(x==("__classdict__":Str))=Y:=by decide):DE X m (.Name x pos) (rd m i):=
 (aZ hN hv hd Jg).imp λq H Q hz=>by
  obtain⟨B,Hk,O,d,R,e,k⟩:=hz;obtain⟨v,h1,h2⟩:=R.rd e;exact⟨v,h1,k v H (aaa.refl H) h2⟩
theorem kI{i:Int}{j:Nat}:DE X m (.Constant (.int i) j pos) (λ_=>U (.int i)):=vh.imp λq H Q hz=>by obtain⟨B,Hk,O,d,R,e,k⟩:=hz;obtain rfl:=Z7 e;exact k _ H (aaa.refl H) rfl
theorem yG:DE X m (.Constant (.str x) j pos) (λ_=>U (.str x)):=Cd.imp λq H Q hz=>by obtain⟨B,Hk,O,d,R,e,k⟩:=hz;obtain rfl:=Z7 e;exact k _ H (aaa.refl H) rfl
theorem FF:DE X m (.Constant (.bool x) j pos) (λ_=>U (.bl x)):=BV.imp λq H Q hz=>by obtain⟨B,Hk,O,d,R,e,k⟩:=hz;obtain rfl:=Z7 e;exact k _ H (aaa.refl H) rfl
theorem oF:DE X m (.Constant .none j pos) (λ_=>U .non):=t6.imp λq H Q hz=>by obtain⟨B,Hk,O,d,R,e,k⟩:=hz;obtain rfl:=Z7 e;exact k _ H (aaa.refl H) rfl
def two{K:Z6}{O:St}{H:Hp}{B:ZM->Prop}{Hk:Hp}{q:Mk}{d1 d2:D}{P:V->V->Hp->Prop}(R:Rel K B Hk q O H)(e1:fa q=U d1)(e2:fb q=U d2)
  (k:∀v u H',aaa H H'->Rel K B Hk q O H'->Rep K (bh m B q O) H' d1 v->Rep K (bh m' B q O) H' d2 u->P v u H'):tM K m fa O H λx H1=>tM K m' fb O H1 λy H2=>P x y H2:=
 ⟨B,Hk,q,d1,R,e1,λv H1 s1 r1=>⟨B,Hk,q,d2,R.to s1,e2,λu H2 s2 r2=>k v u H2 (s1.trans s2) (R.to (s1.trans s2)) (r1.same (R.to s1) s2) r2⟩⟩
noncomputable def bI(C:Int->Int->Bool)(g:Int->Int->D)(x y:Z9 D):Z9 D:=match x,y with|some (.int i),some (.int j)=>if C i j=L then U (g i j) else M|_,_=>M
set_option tactic.hygienic true in
def AG(h:bI C g x y=U d):∃i j,x=U (.int i)/\y=U (.int j)/\C i j=L/\d=g i j:=by
 unfold bI at h;split at h;rename_i i j;by_cases q:C i j=L;rw[ZR q]at h;obtain rfl:=Z7 h;exact⟨i,j,rfl,rfl,q,rfl⟩;rw[ZK q]at h;trivial;trivial
def Bt(h:C i j=L):bI C g (U (.int i)) (U (.int j))=U (g i j):=by unfold bI;simp only[ZR h]
def cT:Int->Int->Bool:=λ_ _=>L
def Gu:Int->Int->Bool:=λi j=>decide ((-(2 ^ 64)<i/\i<2 ^ 64)\/(-(2 ^ 64)<j/\j<2 ^ 64))
def GD:Int->Int->Bool:=λ_ j=>decide (0<j/\j<1073741824)
def Ge:Int->Int->Bool:=λ_ j=>decide (0<j)
def ur{C:Int->Int->Bool}{g:Int->Int->Int}(ho:OpR X (binaryOp op) r)(hr:∀i j H Q,C i j=L->Q (V.int (g i j)) H->r (.int i) (.int j) H Q)(ha:DE X m a fa)(hb:DE X m' b fb):
  DE X mm (.BinOp a op b pos) (λq=>bI C (λi j=>.int (g i j)) (fa q) (fb q)):=
 (xX ho ha hb).imp λO H Q hz=>by
  obtain⟨B,Hk,q,d,R,e,k⟩:=hz;obtain⟨i,j,e1,e2,hc,rfl⟩:=AG e;refine two R e1 e2 λv u H' s R' r1 r2=>?_;simp only[Rep]at r1 r2;subst r1 r2;exact hr i j H' Q hc (k _ H' s (by simp only[Rep]))
def ij(x y:Z9 D):Z9 D:=bI cT (λi j=>.int (i+j)) x y
def FK(x y:Z9 D):Z9 D:=bI cT (λi j=>.int (i - j)) x y
def rH(x y:Z9 D):Z9 D:=bI Gu (λi j=>.int (i*j)) x y
def ot(x y:Z9 D):Z9 D:=bI GD (λi j=>.int (i / j)) x y
def cF(x y:Z9 D):Z9 D:=bI Ge (λi j=>.int (i%j)) x y
theorem Dr(ha:DE X m a fa)(hb:DE X m' b fb):DE X mm (.BinOp a .Add b pos) (λO=>ij (fa O) (fb O)):=ur Cv (λi j H Q _ q=>⟨i,j,rfl,rfl,q⟩) ha hb
theorem Dh(ha:DE X m a fa)(hb:DE X m' b fb):DE X mm (.BinOp a .Sub b pos) (λO=>FK (fa O) (fb O)):=ur CZ (λi j H Q _ q=>⟨i,j,rfl,rfl,q⟩) ha hb
theorem CH(ha:DE X m a fa)(hb:DE X m' b fb):DE X mm (.BinOp a .Mult b pos) (λO=>rH (fa O) (fb O)):=ur D6 (λi j H Q c q=>⟨i,j,rfl,rfl,(show(-(2 ^ 64)<i/\i<2 ^ 64)\/(-(2 ^ 64)<j/\j<2 ^ 64) from Zh c),q⟩) ha hb
theorem C7(ha:DE X m a fa)(hb:DE X m' b fb):DE X mm (.BinOp a .FloorDiv b pos) (λO=>ot (fa O) (fb O)):=ur zX (λi j H Q c q=>⟨i,j,rfl,rfl,(show 0<j/\j<1073741824 from Zh c),q⟩) ha hb
theorem BX(ha:DE X m a fa)(hb:DE X m' b fb):DE X mm (.BinOp a .Mod b pos) (λO=>cF (fa O) (fb O)):=ur Dg (λi j H Q c q=>⟨i,j,rfl,rfl,(show 0<j from Zh c),q⟩) ha hb
def tyB(x:Z9 D):Z9 Bool:=match x with|some (.bl b)=>U b|_=>M
def ofB(x:Z9 Bool):Z9 D:=match x with|some b=>U (.bl b)|none=>M
def jg(h:tyB x=U c):x=U (.bl c):=by
 unfold tyB at h;split at h;obtain rfl:=Z7 h;rfl;trivial
theorem ym(ha:DE X m a fa)(he:∀whole,isTrue a X.env whole=(do let v <-whole;standAt a.pos;holding [v] (truthy v)):=by intro _;rfl):DT X a (λq=>tyB (fa q)):=
 (CB ha he).imp λO H Q ⟨B,Hk,q,d,R,e,k⟩=>⟨B,Hk,q,_,R,jg e,λv H' s r=>by
  simp only[Rep]at r;subst r;exact⟨d,rfl,k H' s⟩⟩
variable{fc ga gb:Mk->Z9 Bool}{aq:Z_ Expr}
def tY(x y:Z9 Bool):Z9 Bool:=match x with|some true=>y|some false=>U Y|none=>M
def orO(x y:Z9 Bool):Z9 Bool:=match x with|some true=>U L|some false=>y|none=>M
def eQ(x:Z9 Bool):Z9 Bool:=match x with|some c=>U (!c)|none=>M
abbrev DW(X:Cx)(e:Expr)(f:Mk->Z9 Bool):Prop:=PW X e (tMT X.K f)
theorem A9(ha:DT X a ga):DW X (.BoolOp .And [a] pos) ga:=AM ha
theorem CJ(ha:DT X a ga):DW X (.BoolOp .Or [a] pos) ga:=Cr ha
theorem Db(ha:DT X a ga)(hb:DW X (.BoolOp .And (b::aq) pos) gb):DW X (.BoolOp .And (a::b::aq) pos) (λO=>tY (ga O) (gb O)):=
 (Co ha hb).imp λZ H Q hz=>by
  obtain⟨B,Hk,O,d,R,e,k⟩:=hz;unfold tY at e;dsimp only at e;split at e;rename_i q;exact⟨B,Hk,O,L,R,q,λH1 s1=>wX (⟨B,Hk,O,d,R.to s1,e,λH2 s2=>k H2 (s1.trans s2)⟩)⟩;rename_i q;obtain rfl:=Z7 e;exact⟨B,Hk,O,Y,R,q,λH1 s1=>vL (k H1 s1)⟩;trivial
theorem E7(ha:DT X a ga)(hb:DW X (.BoolOp .Or (b::aq) pos) gb):DW X (.BoolOp .Or (a::b::aq) pos) (λO=>orO (ga O) (gb O)):=
 (EC ha hb).imp λZ H Q hz=>by
  obtain⟨B,Hk,O,d,R,e,k⟩:=hz;unfold orO at e;dsimp only at e;split at e;rename_i q;obtain rfl:=Z7 e;exact⟨B,Hk,O,L,R,q,λH1 s1=>wX (k H1 s1)⟩;rename_i q;exact⟨B,Hk,O,Y,R,q,λH1 s1=>vL (⟨B,Hk,O,d,R.to s1,e,λH2 s2=>k H2 (s1.trans s2)⟩)⟩;trivial
set_option tactic.hygienic true in
theorem DB(ha:DT X a ga):DT X (.UnaryOp .Not a pos) (λO=>eQ (ga O)):=
 (BT ha).imp λZ H Q hz=>by
  obtain⟨B,Hk,O,d,R,e,k⟩:=hz;dsimp only[eQ]at e;split at e;rename_i c q;obtain rfl:=Z7 e;exact⟨B,Hk,O,c,R,q,λH1 s1=>k H1 s1⟩;trivial
def CL(ha:DE X m a fa)(hk:m=mm:=by rfl):DE X mm (.BoolOp op [a] pos) fa:=by subst hk;exact D5 ha
def CP(ha:DE X m a fa)(hb:DE X mm (.BoolOp .And (b::aq) pos) fb):DE X mm (.BoolOp .And (a::b::aq) pos) (λO=>match tyB (fa O)with|some true=>fb O|some false=>U (.bl Y)|none=>M):=
 (Ck ha hb).imp λZ H Q hz=>by
  obtain⟨B,Hk,O,d,R,e,k⟩:=hz;dsimp only at e;split at e;rename_i q;exact⟨B,Hk,O,_,R,jg q,λv H1 s1 r=>by
   simp only[Rep]at r;exact⟨L,r,by rw[ZR rfl];exact⟨B,Hk,O,d,R.to s1,e,λv H2 s2=>k v H2 (s1.trans s2)⟩⟩⟩
  rename_i q;obtain rfl:=Z7 e;exact⟨B,Hk,O,_,R,jg q,λv H1 s1 r=>by
   simp only[Rep]at r;exact⟨Y,r,by rw[ZK Zr];exact k _ H1 s1 (by simp only[Rep])⟩⟩
  trivial
def aa(x:Z9 D)(y:Z9 (Z_ D)):Z9 (Z_ D):=match x,y with|some d,some ds=>U (d::ds)|_,_=>M
set_option tactic.hygienic true in
def qZ(h:aa x y=U l):∃d ds,x=U d/\y=U ds/\l=d::ds:=by
 unfold aa at h;split at h;rename_i d ds;obtain rfl:=Z7 h;exact⟨d,ds,rfl,rfl,rfl⟩;trivial
variable{e:Expr}{es:Z_ Expr}{fe:Mk->Z9 D}{fs:Mk->Z9 (Z_ D)}
theorem gW:DA X m [] (λ_=>U []):=aK.imp λq H Q hz=>by obtain⟨B,Hk,O,d,R,e,k⟩:=hz;obtain rfl:=Z7 e;exact k [] H (aaa.refl H) M1.nil
theorem cz(ha:DE X m e fe)(hr:DA X m es fs)(hs:starEach (e::es) X.env=(Y,eval e X.env)::starEach es X.env:=by rfl):DA X m (e::es) (λq=>aa (fe q) (fs q)):=
 (aw ha hr hs).imp λO H Q hz=>by
  obtain⟨B,Hk,q,l,R,e,k⟩:=hz;obtain⟨d,ds,e1,e2,rfl⟩:=qZ e;exact⟨B,Hk,q,d,R,e1,λv H1 s1 r1=>⟨B,Hk,q,ds,R.to s1,e2,λvs H2 s2 r2=>k (v::vs) H2 (s1.trans s2) (M1.cons (r1.same (R.to s1) s2) r2)⟩⟩
def lim:Nat:=1000000
def aD(h:n<=lim):n<=sizeLine:=ZF h (by decide)
def eY(x:Z9 (Z_ D)):Z9 D:=match x with|some ds=>if ds.length<=lim then U (.tup ds) else M|none=>M
def dg(x:Z9 (Z_ D)):Z9 D:=match x with|some ds=>if ds.length<=lim then U (.lst ds) else M|none=>M
def vq(h:eY x=U d):∃ds,x=U ds/\ds.length<=lim/\d=.tup ds:=by
 unfold eY at h;split at h;rename_i ds;by_cases q:ds.length<=lim;rw[ZR q]at h;obtain rfl:=Z7 h;exact⟨ds,rfl,q,rfl⟩;rw[ZK q]at h;trivial;trivial
def vo(h:dg x=U d):∃ds,x=U ds/\ds.length<=lim/\d=.lst ds:=by
 unfold dg at h;split at h;rename_i ds;by_cases q:ds.length<=lim;rw[ZR q]at h;obtain rfl:=Z7 h;exact⟨ds,rfl,q,rfl⟩;rw[ZK q]at h;trivial;trivial
def ax(h:H p=M):aaa H (upd H p o):=(aaa.refl H).put h
theorem yh{x1:Nat}(h:DA X m es fs):DE X m (.Tuple es x1 pos) (λq=>eY (fs q)):=
 (DR h).imp λO H Q hz=>by
  obtain⟨B,Hk,q,d,R,e,k⟩:=hz;obtain⟨ds,e1,hl,rfl⟩:=vq e;refine⟨B,Hk,q,ds,R,e1,λvs H1 s1 r1=>⟨by rw[<-r1.length];exact aD hl,λp hp=>?_⟩⟩;have s2:=ax (o:=.tup vs) hp;refine k _ _ (s1.trans s2) ?_;simp only[Rep];exact⟨p,vs,rfl,ah,r1.same (R.to s1) s2⟩
theorem yE(h:DA X Y es fs):DF X (.List es pos) (λq=>dg (fs q)):=
 (Ch h).imp λO H Q hz=>by
  obtain⟨B,Hk,q,d,R,e,k⟩:=hz;obtain⟨ds,e1,hl,rfl⟩:=vo e;refine⟨B,Hk,q,ds,R,e1,λvs H1 s1 r1=>⟨by rw[<-r1.length];exact aD hl,λp hp=>?_⟩⟩;have s2:=ax (o:=.lst vs) hp;exact k p _ (s1.trans s2) (s1.free hp) ⟨vs,ah,r1.same (m:=Y) (R.to s1) s2⟩
end
def okD:Nat->D->Bool
 |_,.non=>L
 |_,.int _=>L
 |_,.str _=>L
 |n+1,.tup ds=>ds.all (okD n)
 |n+1,.lst ds=>ds.all (okD n)
 |_,_=>Y
def A8(h:okD n (.tup ds)=L):∃k,n=k+1/\ds.all (okD k)=L:=by
 cases n with
 |zero=>simp[okD]at h
 |succ k=>exact⟨k,rfl,by simpa only[okD]using h⟩
def An(h:okD n (.lst ds)=L):∃k,n=k+1/\ds.all (okD k)=L:=by
 cases n with
 |zero=>simp[okD]at h
 |succ k=>exact⟨k,rfl,by simpa only[okD]using h⟩
section
def dz(I:Inv X a_ q H s)(h:SqL X.K H a xs)(h':SqT X.K H a ys):False:=by
 obtain⟨its,_,⟨o,n,e,hc,_,_⟩,_⟩:=I.list h;obtain⟨its',_,⟨o',e',N8,_⟩,_⟩:=I.tuple h';rw[e]at e';obtain rfl:=Z7 e';rw[hc]at N8;injection N8 with z;exact absurd z (by decide)
def shp{K:Z6}{n:Nat}{d:D}{v:V}(hd:okD n d=L)(r:Rep K B H d v):(d=.non/\v=.non)\/(∃i,d=.int i/\v=.int i)\/(∃i,d=.str i/\v=.str i)\/
  (∃ds a xs k,d=.tup ds/\v=.ref a/\n=k+1/\ds.all (okD k)=L/\SqT K H a xs/\M1 K B H ds xs)\/∃ds a xs k,d=.lst ds/\v=.ref a/\n=k+1/\ds.all (okD k)=L/\SqL K H a xs/\M1 K B H ds xs:=by
 cases d with
 |non=>exact .inl ⟨rfl,r⟩
 |int i=>exact .inr (.inl ⟨_,rfl,r⟩)
 |str i=>exact .inr (.inr (.inl ⟨_,rfl,r⟩))
 |tup ds=>
  simp only[Rep]at r;obtain⟨a,xs,rfl,hq,hr⟩:=r;obtain⟨k,rfl,h⟩:=A8 hd;exact .inr (.inr (.inr (.inl ⟨_,a,xs,k,rfl,rfl,rfl,h,SqT.of hq,hr⟩)))
 |lst ds=>
  simp only[Rep]at r;obtain⟨a,xs,rfl,hq,hr⟩:=r;obtain⟨k,rfl,h⟩:=An hd;exact .inr (.inr (.inr (.inr ⟨_,a,xs,k,rfl,rfl,rfl,h,hq.sq,hr⟩)))
 |_=>simp[okD]at hd
theorem M1.ach{K:Z6}{n n':Nat}(f:∀d e v,okD n d=L->okD n' e=L->Rep K B H d v->Rep K B' H e v->d=e):∀{ds es:Z_ D}{xs:Z_ V},ds.all (okD n)=L->es.all (okD n')=L->M1 K B H ds xs->M1 K B' H es xs->ds=es
 |[],es,xs,hd,he,r,r'=>by
  simp only[M1]at r;subst r;cases es with
  |nil=>rfl
  |cons e es=>simp only[M1]at r';obtain⟨_,_,z,_⟩:=r';trivial
 |d::ds,es,xs,hd,he,r,r'=>by
  simp only[M1]at r;obtain⟨x,t,rfl,r1,r2⟩:=r;cases es with
  |nil=>simp only[M1]at r';trivial
  |cons e es=>
   obtain⟨q1,q2⟩:=r'.abH;rw[rF,ZH]at hd he;rw[f _ _ _ hd.1 he.1 r1 q1,M1.ach f hd.2 he.2 r2 q2]
def Rep.inj(I:Inv X a_ q H s):∀{n n':Nat}{d e:D}{v:V},okD n d=L->okD n' e=L->Rep X.K B H d v->Rep X.K B' H e v->d=e:=by
 intro n
 induction n using Nat.strongRecOn with
 |ind n ih=>
 intro n' d e v hd he r r';rcases shp hd r with⟨rfl,rfl⟩|⟨i,rfl,rfl⟩|⟨i,rfl,rfl⟩|⟨ds,a,xs,k,rfl,rfl,rfl,h1,q1,r1⟩|⟨ds,a,xs,k,rfl,rfl,rfl,h1,q1,r1⟩<;>rcases shp he r' with⟨rfl,z⟩|⟨j,rfl,z⟩|⟨j,rfl,z⟩|⟨es,b,ys,k',rfl,z,_,h2,q2,r2⟩|⟨es,b,ys,k',rfl,z,_,h2,q2,r2⟩<;>cases z<;>try rfl
 obtain rfl:=I.aaU q1 q2;rw[M1.ach (λ_ _ _=>ih k (Yp k)) h1 h2 r1 r2];exact(dz I q2 q1).elim;exact(dz I q1 q2).elim;obtain rfl:=I.aaN q1 q2;rw[M1.ach (λ_ _ _=>ih k (Yp k)) h1 h2 r1 r2]
theorem M1.inj(I:Inv X a_ q H s)(hd:ds.all (okD n)=L)(he:es.all (okD n')=L)(r:M1 X.K B H ds xs)(r':M1 X.K B' H es xs):ds=es:=M1.ach (λ_ _ _=>Rep.inj I) hd he r r'
def fz:∀(ds es:Z_ D),(ds.length=es.length)->((List.range ds.length).all λj=>decide (ds[j]?=es[j]?))=decide (ds=es):=by
 intro ds es hl;rw[YO,ZO,Y_];constructor;intro h;apply Xl;intro j;by_cases hj:j<ds.length;exact Zh (h j (Ym.mpr hj));rw[YL (by lia),YL (by lia)];intro h j _;subst h;exact Zw rfl
def ju:∀(ds es:Z_ D),(((List.range (min ds.length es.length)).all λj=>decide (ds[j]?=es[j]?))&&ds.length==es.length)=decide (ds=es):=by
 intro ds es;by_cases hl:ds.length=es.length;rw[hl,Nat.min_self,XZ,Xh,<-hl,fz ds es hl];have h1:(ds.length==es.length)=Y:=by simpa using hl
 have h2:¬ds=es:=λz=>hl (by rw[z]);rw[h1,Wu,ZA h2]
def Gn(I:Inv X a_ q H s){n:Nat}{d:D}{v:V}{u:Z3}(hd:okD n d=L)(r:Rep X.K B H d v)(ru:RelV v u):(d=.non/\u=.none)\/(∃i t,d=.int i/\u=.int i t)\/(∃i t,d=.str i/\u=.str i t)\/
  (∃ds a xs k its,d=.tup ds/\u=.ref a/\n=k+1/\ds.all (okD k)=L/\SqT X.K H a xs/\M1 X.K B H ds xs/\aac xs its/\s.heap.IsTuple a its.toArray)\/∃ds a xs k its,d=.lst ds/\u=.ref a/\n=k+1/\ds.all (okD k)=L/\SqL X.K H a xs/\M1 X.K B H ds xs/\aac xs its/\s.heap.IsList a its.toArray:=by
 rcases shp hd r with⟨rfl,rfl⟩|⟨i,rfl,rfl⟩|⟨i,rfl,rfl⟩|⟨ds,a,xs,k,rfl,rfl,rfl,h1,q1,r1⟩|⟨ds,a,xs,k,rfl,rfl,rfl,h1,q1,r1⟩;exact .inl ⟨rfl,ru⟩;obtain⟨t,rfl⟩:=ru;exact .inr (.inl ⟨i,t,rfl,rfl⟩);obtain⟨t,rfl⟩:=ru;exact .inr (.inr (.inl ⟨i,t,rfl,rfl⟩));obtain⟨its,rv,h,_⟩:=I.tuple q1;exact .inr (.inr (.inr (.inl ⟨ds,a,xs,k,its,rfl,ru,rfl,h1,q1,r1,rv,h⟩)));obtain⟨its,rv,h,_⟩:=I.list q1;exact .inr (.inr (.inr (.inr ⟨ds,a,xs,k,its,rfl,ru,rfl,h1,q1,r1,rv,h.isList⟩)))
open SeqAt in
def DD(I:Inv X a_ O H s)(ih:∀(d e:D)(x y:V)(u w:Z3),okD k d=L->okD k e=L->Rep X.K B H d x->Rep X.K B' H e y->RelV x u->RelV y w->EqAt A s u w (decide (d=e)))(hd:ds.all (okD k)=L)(he:es.all (okD k)=L)(hr:M1 X.K B H ds xs)(J4:M1 X.K B' H es ys)(rv:aac xs its)(Ma:aac ys k_):∀j (h1:j<its.toArray.size) (h2:j<k_.toArray.size),EqAt A s its.toArray[j] k_.toArray[j] (decide (ds[j]?=es[j]?)):=λj h1 h2=>by
 have l1:=hr.length;have l2:=rv.length;have l3:=J4.length;have l4:=Ma.length;simp only[ZW]at h1 h2;obtain⟨d',J5⟩:∃d',ds[j]?=U d':=⟨ds[j]'(by lia),by simp⟩
 obtain⟨e',MD⟩:∃e',es[j]?=U e':=⟨es[j]'(by lia),by simp⟩
 obtain⟨x',UL,Uc⟩:=hr.get J5;obtain⟨y',UI,Ub⟩:=J4.get MD;obtain⟨u',Ks,PX⟩:=rv.get UL;obtain⟨w',NV,F_⟩:=Ma.get UI;have q:=ih d' e' x' y' u' w' ((ZO.mp hd) d' (Zf J5)) ((ZO.mp he) e' (Zf MD)) Uc Ub PX F_;have g1:its.toArray[j]=u':=by simpa using(ZX.mp Ks).2
 have g2:k_.toArray[j]=w':=by simpa using(ZX.mp NV).2
 rw[g1,g2,J5,MD,show decide (U d'=U e')=decide (d'=e') by simp];exact q
open SeqAt in
def BK(I:Inv X a_ O H s):∀(n:Nat)(d e:D)(x y:V)(u w:Z3)(A:Y9),okD n d=L->okD n e=L->A.units+n+1<cLine->Rep X.K B H d x->Rep X.K B' H e y->RelV x u->RelV y w->
  RcAt A s u w (decide (d=e))/\EqAt A s u w (decide (d=e))/\RcNeAt A s u w (!decide (d=e)):=by
 intro n
 induction n using Nat.strongRecOn with
 |ind n ih=>
 intro d e x y u w A hd he hA rd re rx ry;have hu:A.units<cLine:=by lia
 rcases Gn I hd rd rx with⟨rfl,rfl⟩|⟨i,t',rfl,rfl⟩|⟨i,t',rfl,rfl⟩|⟨ds,a,xs,k,its,rfl,rfl,rfl,B_,hp,hr,rv,C_⟩|⟨ds,a,xs,k,its,rfl,rfl,rfl,B_,hp,hr,rv,C_⟩<;>rcases Gn I he re ry with⟨rfl,rfl⟩|⟨j,t,rfl,rfl⟩|⟨j,t,rfl,rfl⟩|⟨es,b,ys,k',k_,rfl,rfl,z,LU,hq,J4,Ma,z_⟩|⟨es,b,ys,k',k_,rfl,rfl,z,LU,hq,J4,Ma,z_⟩
 all_goals try rw[ZA (by intro zz;trivial)]
 rw[Zw rfl];exact⟨RcAt.none_none,EqAt.same _,RcNeAt.none_none⟩;exact⟨RcAt.none_int j t,EqAt.none_int j t,RcNeAt.none_int j t⟩;exact⟨RcAt.none_str j t,EqAt.none_str j t,RcNeAt.none_str j t⟩;exact⟨RcAt.none_tuple z_ hu,EqAt.none_tuple z_ hu,RcNeAt.none_tuple z_ hu⟩;exact⟨RcAt.none_list z_ hu,EqAt.none_list z_ hu,RcNeAt.none_list z_ hu⟩;exact⟨RcAt.int_none i t',EqAt.int_none i t',RcNeAt.int_none i t'⟩;have q:decide (D.int i=D.int j)=(i==j):=by rw[YO,Y_,Zu,D.int.injEq]
 rw[q];exact⟨RcAt.int_int i t' j t,EqAt.int_int i t' j t,RcNeAt.int_int i t' j t⟩;exact⟨RcAt.int_str i t' j t,EqAt.int_str i t' j t,RcNeAt.int_str i t' j t⟩;exact⟨RcAt.int_tuple i t' z_ hu,EqAt.int_tuple i t' z_ hu,RcNeAt.int_tuple i t' z_ hu⟩;exact⟨RcAt.int_list i t' z_ hu,EqAt.int_list i t' z_ hu,RcNeAt.int_list i t' z_ hu⟩;exact⟨RcAt.str_none i t',EqAt.str_none i t',RcNeAt.str_none i t'⟩;exact⟨RcAt.str_int i t' j t,EqAt.str_int i t' j t,RcNeAt.str_int i t' j t⟩;have q:decide (D.str i=D.str j)=(i==j):=by rw[YO,Y_,Zu,D.str.injEq]
 rw[q];exact⟨RcAt.str_str i t' j t,EqAt.str_str i t' j t,RcNeAt.str_str i t' j t⟩;exact⟨RcAt.str_tuple i t' z_ hu,EqAt.str_tuple i t' z_ hu,RcNeAt.str_tuple i t' z_ hu⟩;exact⟨RcAt.str_list i t' z_ hu,EqAt.str_list i t' z_ hu,RcNeAt.str_list i t' z_ hu⟩;exact⟨RcAt.tuple_none C_ hu,EqAt.tuple_none C_ hu,RcNeAt.tuple_none C_ hu⟩;exact⟨RcAt.tuple_int j t C_ hu,EqAt.tuple_int j t C_ hu,RcNeAt.tuple_int j t C_ hu⟩;exact⟨RcAt.tuple_str j t C_ hu,EqAt.tuple_str j t C_ hu,RcNeAt.tuple_str j t C_ hu⟩;cases z;have el:=DD I (A:=A.in1) (λd e x y u w h1 h2 h3 h4 h5 h6=>(ih k (Yp k) d e x y u w A.in1 h1 h2 (by show A.units+1+k+1<cLine;lia) h3 h4 h5 h6).2.1) B_ LU hr J4 rv Ma;have l1:=hr.length;have l2:=rv.length;have l3:=J4.length;have l4:=Ma.length;have key:((List.range (min its.toArray.size k_.toArray.size)).all (λj=>decide (ds[j]?=es[j]?))&&its.toArray.size==k_.toArray.size)=decide (D.tup ds=D.tup es):=by
  rw[ZW,ZW,<-l2,<-l4,<-l1,<-l3,ju];simp only[D.tup.injEq]
 have rc:=RcAt.tuples C_ z_ hu el;have rn:=RcNeAt.tuples C_ z_ hu el;rw[key]at rc rn;refine⟨rc,?_,rn⟩;by_cases Jw:a=b;subst Jw;obtain rfl:=I.aaU hp hq;have:=M1.inj I B_ LU hr J4;subst this;rw[Zw rfl];exact EqAt.same _;exact EqAt.of_refs Jw rc;exact⟨RcAt.tuple_list C_ z_ hu,EqAt.tuple_list C_ z_ hu,RcNeAt.tuple_list C_ z_ hu⟩;exact⟨RcAt.list_none C_ hu,EqAt.list_none C_ hu,RcNeAt.list_none C_ hu⟩;exact⟨RcAt.list_int j t C_ hu,EqAt.list_int j t C_ hu,RcNeAt.list_int j t C_ hu⟩;exact⟨RcAt.list_str j t C_ hu,EqAt.list_str j t C_ hu,RcNeAt.list_str j t C_ hu⟩;exact⟨RcAt.list_tuple C_ z_ hu,EqAt.list_tuple C_ z_ hu,RcNeAt.list_tuple C_ z_ hu⟩;cases z;have el:=DD I (A:=A.in1) (λd e x y u w h1 h2 h3 h4 h5 h6=>(ih k (Yp k) d e x y u w A.in1 h1 h2 (by show A.units+1+k+1<cLine;lia) h3 h4 h5 h6).2.1) B_ LU hr J4 rv Ma;have l1:=hr.length;have l2:=rv.length;have l3:=J4.length;have l4:=Ma.length;by_cases hsz:its.toArray.size=k_.toArray.size;have key:((List.range its.toArray.size).all (λj=>decide (ds[j]?=es[j]?)))=decide (D.lst ds=D.lst es):=by
  have hl:ds.length=es.length:=by simp only[ZW]at hsz;lia
  rw[ZW,<-l2,<-l1,fz _ _ hl];simp only[D.lst.injEq]
 have rc:=RcAt.lists C_ z_ hsz hu el;have rn:=RcNeAt.lists C_ z_ hsz hu el;rw[key]at rc rn;refine⟨rc,?_,rn⟩;by_cases Jw:a=b;subst Jw;obtain rfl:=I.aaN hp hq;have:=M1.inj I B_ LU hr J4;subst this;rw[Zw rfl];exact EqAt.same _;exact EqAt.of_refs Jw rc;have D_:¬D.lst ds=D.lst es:=λz=>hsz (by
  cases z;simp only[ZW];lia)
 have hb:(its.toArray.size != k_.toArray.size)=L:=by simpa using hsz
 rw[ZA D_];have rc:=RcAt.lists_lengths C_ z_ hb hu;refine⟨rc,?_,RcNeAt.lists_lengths C_ z_ hb hu⟩;have Jw:a≠b:=λz=>by
  subst z;obtain rfl:=I.aaN hp hq;exact hsz (by simp only[ZW];lia)
 exact EqAt.of_refs Jw rc
end
section
variable{X:Cx}{a:Expr}
def ok2(x y:D):Bool:=okD 16 x&&okD 16 y
def eqO(x y:Z9 D):Z9 Bool:=match x,y with|some d,some e=>if ok2 d e=L then U (decide (d=e)) else M|_,_=>M
set_option tactic.hygienic true in
def eh(h:eqO x y=U c):∃d e,x=U d/\y=U e/\okD 16 d=L/\okD 16 e=L/\c=decide (d=e):=by
 unfold eqO at h;split at h;rename_i d e;by_cases q:ok2 d e=L;rw[ZR q]at h;obtain rfl:=Z7 h;unfold ok2 at q;rw[ZH]at q;exact⟨d,e,rfl,rfl,q.1,q.2,rfl⟩;rw[ZK q]at h;trivial;trivial
def neO(x y:Z9 D):Z9 Bool:=eQ (eqO x y)
def rD(K:Z6)(g:D->D->Bool):R2:=λx y H Q=>∃B B' d e,okD 16 d=L/\okD 16 e=L/\Rep K B H d x/\Rep K B' H e y/\Q (.bl (g d e)) H
def yZ(hu:X.A.units+64<cLine):OpR X (compareOp .Eq) (rD X.K λd e=>decide (d=e)):=by
 intro a_ s O H x y v u Q I rx ry h;obtain⟨B,B',d,e,hd,he,r1,r2,q⟩:=h;exact(BK I 16 d e x y v u X.A hd he (by lia) r1 r2 rx ry).1 X.prog X.w X.xe _ ⟨.bl _,H,I,rfl,q⟩
def rM(hu:X.A.units+64<cLine):OpR X (compareOp .NotEq) (rD X.K λd e=>!decide (d=e)):=by
 intro a_ s O H x y v u Q I rx ry h;obtain⟨B,B',d,e,hd,he,r1,r2,q⟩:=h;exact(BK I 16 d e x y v u X.A hd he (by lia) r1 r2 rx ry).2.2 X.prog X.w X.xe _ ⟨.bl _,H,I,rfl,q⟩
theorem EK(hu:X.A.units+64<cLine)(ha:DE X m a fa)(hb:DE X m' b fb):DE X mm (.Compare a [.Eq] [b] pos) (λO=>ofB (eqO (fa O) (fb O))):=
 (nE (yZ hu) ha hb (oW _)).imp λZ H Q hz=>by
  obtain⟨B,Hk,O,d,R,e,k⟩:=hz;cases q:eqO (fa O) (fb O)with
  |none=>simp only[q,ofB]at e;trivial
  |some c=>
   simp only[q,ofB]at e;obtain rfl:=Z7 e;obtain⟨d1,d2,e1,e2,o1,o2,rfl⟩:=eh q;exact two R e1 e2 λv u H' s R' r1 r2=>⟨_,_,d1,d2,o1,o2,r1,r2,k _ H' s (by simp only[Rep])⟩
theorem Fr(hu:X.A.units+64<cLine)(ha:DE X m a fa)(hb:DE X m' b fb):DE X mm (.Compare a [.NotEq] [b] pos) (λO=>ofB (neO (fa O) (fb O))):=
 (nE (rM hu) ha hb (oW _)).imp λZ H Q hz=>by
  obtain⟨B,Hk,O,d,R,e,k⟩:=hz;cases q:eqO (fa O) (fb O)with
  |none=>simp only[q,ofB,neO,eQ]at e;trivial
  |some c=>
   simp only[q,ofB,neO,eQ]at e;obtain rfl:=Z7 e;obtain⟨d1,d2,e1,e2,o1,o2,rfl⟩:=eh q;exact two R e1 e2 λv u H' s R' r1 r2=>⟨_,_,d1,d2,o1,o2,r1,r2,k _ H' s (by simp only[Rep])⟩
theorem EI(hu:X.A.units+64<cLine)(ha:DE X m a fa)(hb:DE X m' b fb):DT X (.Compare a [.Eq] [b] pos) (λO=>eqO (fa O) (fb O)):=
 (dM (yZ hu) ha hb (oW _)).imp λZ H Q hz=>by
  obtain⟨B,Hk,O,d,R,q,k⟩:=hz;obtain⟨d1,d2,e1,e2,o1,o2,rfl⟩:=eh q;exact two R e1 e2 λv u H' s R' r1 r2=>⟨_,_,d1,d2,o1,o2,r1,r2,_,rfl,k H' s⟩
theorem FH(hu:X.A.units+64<cLine)(ha:DE X m a fa)(hb:DE X m' b fb):DT X (.Compare a [.NotEq] [b] pos) (λO=>neO (fa O) (fb O)):=
 (dM (rM hu) ha hb (oW _)).imp λZ H Q hz=>by
  obtain⟨B,Hk,O,d,R,e,k⟩:=hz;cases q:eqO (fa O) (fb O)with
  |none=>simp only[q,neO,eQ]at e;trivial
  |some c=>
   simp only[q,neO,eQ]at e;obtain rfl:=Z7 e;obtain⟨d1,d2,e1,e2,o1,o2,rfl⟩:=eh q;exact two R e1 e2 λv u H' s R' r1 r2=>⟨_,_,d1,d2,o1,o2,r1,r2,_,rfl,k H' s⟩
def aT:D->Z9 (Z_ D)
 |.lst ds=>U ds
 |.tup ds=>U ds
 |_=>M
def inO(x y:Z9 D):Z9 Bool:=match x,y with|some d,some e=>(match aT e with|some es=>if(okD 16 d&&es.all (okD 16))=L then U (decide (d∈es)) else M|none=>M)|_,_=>M
set_option tactic.hygienic true in
def jl(h:inO x y=U c):∃d e es,x=U d/\y=U e/\aT e=U es/\okD 16 d=L/\es.all (okD 16)=L/\c=decide (d∈es):=by
 unfold inO at h;split at h;rename_i d e;split at h;rename_i es he;by_cases q:(okD 16 d&&es.all (okD 16))=L;rw[ZR q]at h;obtain rfl:=Z7 h;rw[ZH]at q;exact⟨d,e,es,rfl,rfl,he,q.1,q.2,rfl⟩;rw[ZK q]at h;trivial;trivial;trivial
def bB(x y:Z9 D):Z9 Bool:=eQ (inO x y)
def Rep.items{K:Z6}{B:ZM->Prop}{H:Hp}{e:D}{es:Z_ D}{y:V}(r:Rep K B H e y)(h:aT e=U es):∃p xs,y=.ref p/\(SqL K H p xs\/SqT K H p xs)/\M1 K B H es xs:=by
 cases e with
 |lst ds=>simp only[aT]at h;obtain rfl:=Z7 h;simp only[Rep]at r;obtain⟨a,xs,e,hq,hr⟩:=r;exact⟨a,xs,e,.inl hq.sq,hr⟩
 |tup ds=>simp only[aT]at h;obtain rfl:=Z7 h;simp only[Rep]at r;obtain⟨a,xs,e,hq,hr⟩:=r;exact⟨a,xs,e,.inr (SqT.of hq),hr⟩
 |_=>simp[aT]at h
open Classical in
def xA(hu:X.A.units+64<cLine)(I:Inv X a_ O H s)(hd:okD 16 d=L)(he:es.all (okD 16)=L)(r1:Rep X.K B H d x)(r2:M1 X.K B' H es xs)(rx:RelV x v)(rv:aac xs its):∃e:Z3->Bool,(∀y,y∈its.toArray->SeqAt.EqAt X.A.in1 s y v (e y))/\its.toArray.any e=decide (d∈es):=by
 have one:∀j u,its[j]?=U u->∃d' x',es[j]?=U d'/\okD 16 d'=L/\Rep X.K B' H d' x'/\RelV x' u:=λj u hj=>by
  have hl:=rv.length;have ka:j<xs.length:=by rw[hl];exact(ZX.mp hj).1
  obtain⟨u',Jj,ru⟩:=rv.get (i:=j) (x:=xs[j]) (by simp[ka]);rw[hj]at Jj;obtain rfl:=Z7 Jj;obtain⟨d',B_,Jq⟩:=r2.get' (i:=j) (x:=xs[j]) (by simp[ka]);exact⟨d',xs[j],B_,(ZO.mp he) d' (Zf B_),Jq,ru⟩
 refine⟨λu=>decide (∃d' x',okD 16 d'=L/\Rep X.K B' H d' x'/\RelV x' u/\d'=d),λu Jj=>?_,?_⟩;obtain⟨j,hj⟩:=X6 (show u∈its by simpa using Jj);obtain⟨d',x',_,o',Jq,ru⟩:=one j u hj;have q:=(BK I 16 d' d x' x u v X.A.in1 o' hd (by show X.A.units+1+16+1<cLine;lia) Jq r1 ru rx).2.1;have key:decide (∃d' x',okD 16 d'=L/\Rep X.K B' H d' x'/\RelV x' u/\d'=d)=decide (d'=d):=by
  rw[YO,Y_,Y_];constructor
  rintro⟨d2,x2,o2,NP,NN,e2⟩
  rw[<-e2];have ex:=ru.inj NN;subst ex;exact Rep.inj I o' o2 Jq NP;intro e2;exact⟨d',x',o',Jq,ru,e2⟩
 show SeqAt.EqAt X.A.in1 s u v (decide (∃d' x',okD 16 d'=L/\Rep X.K B' H d' x'/\RelV x' u/\d'=d));rw[key];exact q;rw[YO,Y_,Array.any_eq_true];constructor
 rintro⟨j,hj,h⟩
 have h':=Zh h;obtain⟨d2,x2,o2,NP,NN,e2⟩:=h';have LR:its[j]?=U its.toArray[j]:=by
  simp only[ZW]at hj;simp[hj]
 obtain⟨d',x',B_,o',Jq,ru⟩:=one j _ LR;have ex:=ru.inj NN;subst ex;have:=Rep.inj I o' o2 Jq NP;subst this;rw[<-e2];exact Zf B_;intro h;obtain⟨j,hj⟩:=X6 h;obtain⟨y,hy,ry⟩:=r2.get hj;obtain⟨u,Jj,ru⟩:=rv.get hy;obtain⟨ka,ge⟩:=ZX.mp Jj;refine⟨j,by simpa using ka,Zw ⟨d,y,hd,ry,?_,rfl⟩⟩;simpa[ge]using ru
def GH(K:Z6)(neg:Bool):R2:=λx y H Q=>∃B B' d e es,aT e=U es/\okD 16 d=L/\es.all (okD 16)=L/\Rep K B H d x/\Rep K B' H e y/\Q (.bl (if neg then !decide (d∈es) else decide (d∈es))) H
def yk(hu:X.A.units+64<cLine):OpR X (compareOp .In) (GH X.K Y):=by
 intro a_ s O H x y v u Q I rx ry h;obtain⟨B,B',d,e,es,hi,hd,he,r1,r2,q⟩:=h;obtain⟨p,xs,rfl,hq,rs⟩:=r2.items hi;cases ry;rcases hq with hq|hq;obtain⟨its,r,pl,hz⟩:=I.list hq;obtain⟨g,g1,g2⟩:=xA hu I hd he r1 rs rx r;exact SeqAt.in_listAt g pl.isList g1 ⟨.bl _,H,I,rfl,by rw[g2];exact q⟩;obtain⟨its,r,pl,hz⟩:=I.tuple hq;obtain⟨g,g1,g2⟩:=xA hu I hd he r1 rs rx r;exact SeqAt.in_tupleAt g pl g1 ⟨.bl _,H,I,rfl,by rw[g2];exact q⟩
def r6(hu:X.A.units+64<cLine):OpR X (compareOp .NotIn) (GH X.K L):=by
 intro a_ s O H x y v u Q I rx ry h;obtain⟨B,B',d,e,es,hi,hd,he,r1,r2,q⟩:=h;obtain⟨p,xs,rfl,hq,rs⟩:=r2.items hi;cases ry;rcases hq with hq|hq;obtain⟨its,r,pl,hz⟩:=I.list hq;obtain⟨g,g1,g2⟩:=xA hu I hd he r1 rs rx r;exact SeqAt.notIn_listAt g pl.isList g1 ⟨.bl _,H,I,rfl,by rw[g2];exact q⟩;obtain⟨its,r,pl,hz⟩:=I.tuple hq;obtain⟨g,g1,g2⟩:=xA hu I hd he r1 rs rx r;exact SeqAt.notIn_tupleAt g pl g1 ⟨.bl _,H,I,rfl,by rw[g2];exact q⟩
theorem EF(hu:X.A.units+64<cLine)(ha:DE X m a fa)(hb:DE X m' b fb)(hm:behindInMarks .In b=Y:=by rfl):DT X (.Compare a [.In] [b] pos) (λO=>inO (fa O) (fb O)):=
 (dM (yk hu) ha hb hm).imp λZ H Q hz=>by
  obtain⟨B,Hk,O,d,R,q,k⟩:=hz;obtain⟨d1,d2,es,e1,e2,hi,o1,o2,rfl⟩:=jl q;exact two R e1 e2 λv u H' s R' r1 r2=>⟨_,_,d1,d2,es,hi,o1,o2,r1,r2,_,rfl,k H' s⟩
theorem wl(hu:X.A.units+64<cLine)(ha:DE X m a fa)(hb:DE X m' b fb)(hm:behindInMarks .NotIn b=Y:=by rfl):DT X (.Compare a [.NotIn] [b] pos) (λO=>bB (fa O) (fb O)):=
 (dM (r6 hu) ha hb hm).imp λZ H Q hz=>by
  obtain⟨B,Hk,O,d,R,e,k⟩:=hz;cases q:inO (fa O) (fb O)with
  |none=>simp only[q,bB,eQ]at e;trivial
  |some c=>
   simp only[q,bB,eQ]at e;obtain rfl:=Z7 e;obtain⟨d1,d2,es,e1,e2,hi,o1,o2,rfl⟩:=jl q;exact two R e1 e2 λv u H' s R' r1 r2=>⟨_,_,d1,d2,es,hi,o1,o2,r1,r2,_,rfl,k H' s⟩
theorem Ff(hu:X.A.units+64<cLine)(ha:DE X m a fa)(hb:DE X m' b fb)(hm:behindInMarks .In b=Y:=by rfl):DE X mm (.Compare a [.In] [b] pos) (λO=>ofB (inO (fa O) (fb O))):=
 (nE (yk hu) ha hb hm).imp λZ H Q hz=>by
  obtain⟨B,Hk,O,d,R,e,k⟩:=hz;cases q:inO (fa O) (fb O)with
  |none=>simp only[q,ofB]at e;trivial
  |some c=>
   simp only[q,ofB]at e;obtain rfl:=Z7 e;obtain⟨d1,d2,es,e1,e2,hi,o1,o2,rfl⟩:=jl q;exact two R e1 e2 λv u H' s R' r1 r2=>⟨_,_,d1,d2,es,hi,o1,o2,r1,r2,k _ H' s (by simp only[Rep];rfl)⟩
end
section
variable{X:Cx}{m m':Bool}{a b:Expr}{fa fb:Mk->Z9 D}{pos:Pos}
noncomputable def ixO(x y:Z9 D):Z9 D:=match x,y with|some d,some (.int i)=>(match aT d with|some ds=>atI ds i|none=>M)|_,_=>M
set_option tactic.hygienic true in
def v6(h:ixO x y=U d):∃e i es,x=U e/\y=U (.int i)/\aT e=U es/\atI es i=U d:=by
 unfold ixO at h;split at h;rename_i e i;split at h;rename_i es he;exact⟨e,i,es,rfl,rfl,he,h⟩;trivial;trivial
theorem M1.atI{K:Z6}{B:ZM->Prop}{H:Hp}{ds:Z_ D}{xs:Z_ V}{i:Int}{d:D}(r:M1 K B H ds xs)(h:atI ds i=U d):∃x,atI xs i=U x/\Rep K B H d x:=by
 unfold L2.atI at h⊢;rw[r.length]at h;cases q:ixN xs.length i with
 |none=>rw[q]at h;trivial
 |some j=>
  rw[q]at h;exact r.get (i:=j) h
def xF{K:Z6}{B:ZM->Prop}{H:Hp}{e:D}{es:Z_ D}{y:V}{i:Int}{d:D}{Q:VK}(r:Rep K B H e y)(h:aT e=U es)(hi:atI es i=U d)(k:∀v,Rep K B H d v->Q v H):rIx K y (.int i) H Q:=by
 obtain⟨p,xs,rfl,hq,rs⟩:=r.items h;obtain⟨x,hx,rx⟩:=rs.atI hi;rcases hq with hq|hq;exact .inl ⟨p,xs,i,x,rfl,rfl,hq,hx,k x rx⟩;exact .inr (.inl ⟨p,xs,i,x,rfl,rfl,hq,hx,k x rx⟩)
theorem v8(ha:DE X m a fa)(hb:DE X m' b fb)(hs:f9 b:=by exact λ_ _=>rfl):DE X m (.Subscript a b pos) (λq=>ixO (fa q) (fb q)):=
 (xM BQ ha hb hs).imp λO H Q hz=>by
  obtain⟨B,Hk,q,d,R,e,k⟩:=hz;obtain⟨d1,i,es,e1,e2,hi,hd⟩:=v6 e;refine two R e1 e2 λv u H' s R' r1 r2=>?_;simp only[Rep]at r2;subst r2;exact xF r1 hi hd λv rv=>k v H' s rv
noncomputable def vP(x y:Z9 D):Z9 D:=match x,y with|some (.str z),some (.int i)=>if z.length<=lim then(match atI z.cps.toList i with|some c=>U (.str ⟨#[c]⟩)|none=>M) else M|_,_=>M
set_option tactic.hygienic true in
def tL(h:vP x y=U d):∃z i c,x=U (.str z)/\y=U (.int i)/\z.length<=lim/\atI z.cps.toList i=U c/\d=.str ⟨#[c]⟩:=by
 unfold vP at h;split at h;rename_i z i;by_cases q:z.length<=lim;rw[ZR q]at h;split at h;rename_i c hc;cases h;exact⟨z,i,c,rfl,rfl,q,hc,rfl⟩;trivial;rw[ZK q]at h;trivial;trivial
theorem B1(ha:DE X m a fa)(hb:DE X m' b fb)(hs:f9 b:=by exact λ_ _=>rfl):DE X mm (.Subscript a b pos) (λq=>vP (fa q) (fb q)):=
 (xM yc ha hb hs).imp λO H Q hz=>by
  obtain⟨B,Hk,q,d,R,e,k⟩:=hz;obtain⟨z,i,c,e1,e2,hl,hc,rfl⟩:=tL e;refine two R e1 e2 λv u H' s R' r1 r2=>?_;simp only[Rep]at r1 r2;subst r1 r2;exact⟨z,i,c,rfl,rfl,aD hl,hc,k _ H' s (by simp only[Rep])⟩
noncomputable def Ec(x:Z9 D):Z9 D:=match x with|some d=>(match aT d with|some ds=>U (.int ds.length)|none=>(match d with|.str z=>if z.length<=lim then U (.int z.length) else M|_=>M))|none=>M
def iG(x:Z9 D):Z9 D:=match x with|some d=>(match aT d with|some ds=>U (.int ds.length)|none=>M)|none=>M
set_option tactic.hygienic true in
def vG(h:iG x=U d):∃e es,x=U e/\aT e=U es/\d=.int es.length:=by
 unfold iG at h;split at h;rename_i e;split at h;rename_i es he;cases h;exact⟨e,es,rfl,he,rfl⟩;trivial;trivial
def qq{K:Z6}{O:St}{H:Hp}{B:ZM->Prop}{Hk:Hp}{q:Mk}{d:D}{P:Z_ V->Hp->Prop}(R:Rel K B Hk q O H)(e:fa q=U d)
  (k:∀v H',aaa H H'->Rel K B Hk q O H'->Rep K (bh m B q O) H' d v->P [v] H'):ql (tM K m fa) ab2 O H P:=
 ⟨B,Hk,q,d,R,e,λv H1 s1 r1=>k v H1 s1 (R.to s1) r1⟩
def Dc(g:Gl X "len")(hm:X.mg "len"=M)(ha:DE X m a fa)(hs:starEach [a] X.env=[(Y,eval a X.env)]:=by rfl)(J5:((Str.ofString "len")==("__debug__":Str))=Y:=by decide):DE X mm (.Call (.Name "len" p) [a] [] pos) (λq=>iG (fa q)):=
 (c7 kJ g hm PySem.boot_len (aw ha aK hs) (he:=hs)).imp λO H Q hz=>by
  obtain⟨B,Hk,q,d,R,e,k⟩:=hz;obtain⟨d1,es,e1,hi,rfl⟩:=vG e;refine qq R e1 λv H' s R' r=>?_;obtain⟨p,xs,rfl,hq,rs⟩:=r.items hi;exact⟨p,xs,rfl,hq,k _ H' s (by simp only[Rep,rs.length])⟩
theorem Inv.frz{a_:Z_ (ZM×Obj)}{O:St}{H:Hp}{s:ZT}{p:ZM}{u:HO}(I:Inv X a_ O H s)(h:H p=U u)(mu:Mut (U u)):∃o,Inv X a_ O (upd H p (.frz o u)) s:=by
 have Nx:=I.hok p u h;have ka:=Nx.lt;have R9:Mut (H p):=by rw[h];exact mu
 have Mg:∃o,s.heap.get? p=U o:=by
  cases u with
  |lst xs=>obtain⟨_,_,_,_,e⟩:=Nx;exact⟨_,e⟩
  |tup xs=>exact mu.elim
  |dK kvs=>obtain⟨_,_,_,_,o,_,_,e,_⟩:=Nx;exact⟨_,e⟩
  |dD kvs ep=>obtain⟨_,_,_,_,o,_,e,_⟩:=Nx;exact⟨_,e⟩
  |own y=>exact mu.elim
  |rng lo hi=>exact mu.elim
  |frz ob u=>exact mu.elim
  |tbl lq ps=>exact mu.elim
  |ext φ=>obtain⟨_,⟨_,e⟩,_⟩:=Nx;exact⟨_,e⟩
 obtain⟨o,ho⟩:=Mg;refine⟨o,?_⟩;have KC:∀c y,H c=U (.own y)->c≠p:=λc y r z=>by subst z;rw[h]at r;cases r;exact mu
 have MM:∀c xs,H c=U (.tup xs)->c≠p:=λc xs r z=>by subst z;rw[h]at r;cases r;exact mu
 have new:aak X.prog X.w (upd H p (.frz o u)) s.heap p (.frz o u):=⟨ho,Nx.abk (λb v _ q=>q) (λb q=>by rw[ai (KC b p q)];exact q) λb xs q=>by rw[ai (MM b xs q)];exact q⟩
 exact I.un (t':=s.toks) (Un.write R9 (.inl rfl) (λb v _ q=>q) ⟨o,ho⟩) (I.hok.write R9 (.inl rfl) (λb v _ q=>q) ⟨o,ho⟩ new)
def ObR.mut{K:Z6}{B:ZM->Prop}{H:Hp}{d:D}{p:ZM}(h:ObR K B H d p):∃u,H p=U u/\Mut (U u):=by
 cases d with
 |lst ds=>obtain⟨xs,h1,h2⟩:=h;exact⟨_,h1,trivial⟩
 |dK ks ds=>obtain⟨xs,h1,h0,h2⟩:=h;exact⟨_,h1,trivial⟩
 |dD ks ds=>obtain⟨xs,⟨ep,h1⟩,h0,h2⟩:=h;exact⟨_,h1,trivial⟩
 |_=>exact(show False from h).elim
def bP(h:H p=U u)(mu:Mut (U u))(hb:¬B p):Ext B H (upd H p o):=
 ⟨λc xs r=>by rw[ai (λz=>by subst z;rw[h]at r;cases r;exact mu)];exact r,λc x y r=>by rw[ai (λz=>by subst z;rw[h]at r;cases r;exact mu)];exact r,
  λc r=>by rw[ai (λz=>by subst z;exact hb r)]⟩
def ObR.frozen{K:Z6}{B B':ZM->Prop}{H:Hp}{d:D}{p:ZM}{u:HO}{o:Obj}(h:ObR K B H d p)(hu:H p=U u)(hb:¬B p)(hs:∀a,B a->B' a):Rep K B' (upd H p (.frz o u)) d (.ref p):=by
 obtain⟨u',e,mu⟩:=h.mut;rw[hu]at e;cases e;have ex:Ext B H (upd H p (.frz o u)):=bP hu mu hb;cases d with
 |lst ds=>
  obtain⟨xs,h1,h2⟩:=h;rw[hu]at h1;cases h1;simp only[Rep];exact⟨p,xs,rfl,.inr (.inl ⟨o,ah⟩),(h2.ext ex).more hs⟩
 |dK ks ds=>
  obtain⟨xs,h1,h0,h2⟩:=h;rw[hu]at h1;cases h1;simp only[Rep];exact⟨p,xs,rfl,.inr ⟨o,ah⟩,h0,(h2.ext ex).more hs⟩
 |dD ks ds=>
  obtain⟨xs,⟨ep,h1⟩,h0,h2⟩:=h;rw[hu]at h1;cases h1;simp only[Rep];exact⟨p,xs,rfl,⟨ep,.inr ⟨o,ah⟩⟩,h0,(h2.ext ex).more hs⟩
 |_=>exact(show False from h).elim
theorem DF.share(h:DF X a fa):DE X m a fa:=by
 intro a_ s q H Q I hq;obtain⟨B,Hk,O,d,R,e,k⟩:=hq;have h1:=h a_ s q H (λv H'=>∃p,v=.ref p/\aaa H H'/\H p=M/\ObR X.K B H' d p) I ⟨B,Hk,O,d,R,e,λp H' s n ob=>⟨p,rfl,s,n,ob⟩⟩;refine thn h1 λu s1 hz=>?_;obtain⟨v,H1,I1,rv,p,ev,sm,hn,ob⟩:=hz;subst ev;obtain⟨u',hu,mu⟩:=ob.mut;obtain⟨o,I2⟩:=I1.frz hu mu;have hb:¬B p:=λz=>by
  obtain⟨o',e'⟩:=R.abm p z;rw[hn]at e';trivial
 refine⟨.ref p,_,I2,rv,k _ _ (sm.put hn) (ob.frozen hu hb λa h=>jO m a h)⟩
end
def abi(K:Z6)(B:ZM->Prop)(Hk H:Hp)(d:D)(v:V):Prop:=match d with
 |.lst es=>∃b xs,v=.ref b/\Hk b=M/\H b=U (.lst xs)/\M1 K B H es xs
 |d=>Rep K B H d v
def aal(K:Z6)(B:ZM->Prop)(Hk H:Hp):Z_ D->Z_ V->Prop
 |[],vs=>vs=[]
 |d::ds,vs=>∃x r,vs=x::r/\abi K B Hk H d x/\aal K B Hk H ds r
def HK(K:Z6)(B:ZM->Prop)(Hk H:Hp)(d:D)(v:V):Prop:=match d with
 |.tup ds=>∃a vs,v=.ref a/\H a=U (.tup vs)/\aal K B Hk H ds vs
 |_=>False
def FN(K:Z6)(B:ZM->Prop)(Hk H:Hp)(d:D)(v:V):Prop:=Rep K B H d v\/∃es b xs,d=.lst es/\v=.ref b/\Hk b=M/\H b=U (.lst xs)/\M1 K B H es xs
def aa6(K:Z6)(B:ZM->Prop)(Hk H:Hp):Z_ D->Z_ V->Prop
 |[],vs=>vs=[]
 |d::ds,vs=>∃x r,vs=x::r/\FN K B Hk H d x/\aa6 K B Hk H ds r
def abi.m{K:Z6}{B:ZM->Prop}{Hk H:Hp}{d:D}{v:V}(h:abi K B Hk H d v):FN K B Hk H d v:=by
 cases d with
 |lst es=>obtain⟨b,xs,h1,h2,h3,h4⟩:=h;exact .inr ⟨es,b,xs,rfl,h1,h2,h3,h4⟩
 |_=>exact .inl h
theorem aal.m{K:Z6}{B:ZM->Prop}{Hk H:Hp}:∀{ds:Z_ D}{vs:Z_ V},aal K B Hk H ds vs->aa6 K B Hk H ds vs
 |[],vs,h=>h
 |d::ds,vs,h=>by obtain⟨x,r,e,h1,h2⟩:=h;exact⟨x,r,e,h1.m,aal.m h2⟩
theorem aal.length{K:Z6}{B:ZM->Prop}{Hk H:Hp}:∀{ds:Z_ D}{vs:Z_ V},aal K B Hk H ds vs->ds.length=vs.length
 |[],vs,h=>by rw[show vs=[] from h];rfl
 |d::ds,vs,h=>by obtain⟨x,r,rfl,h1,h2⟩:=h;rw[bG,bG,aal.length h2]
theorem aa6.aca{K:Z6}{B:ZM->Prop}{Hk H:Hp}{b:ZM}{xs:Z_ V}{o:Obj}(hx:H b=U (.lst xs))(ex:Ext B H (upd H b (.frz o (.lst xs)))):∀{ds:Z_ D}{vs:Z_ V},aa6 K B Hk H ds vs->aa6 K B Hk (upd H b (.frz o (.lst xs))) ds vs
 |[],vs,h=>h
 |d::ds,vs,h=>by
  obtain⟨x,r,e,h1,h2⟩:=h;refine⟨x,r,e,?_,aa6.aca hx ex h2⟩;rcases h1 with h1|⟨es,b',xs',rfl,rfl,n,IU,rs⟩;exact .inl (h1.ext ex);by_cases q:b'=b;subst q;rw[hx]at IU;cases IU;refine .inl ?_;simp only[Rep];exact⟨b',xs,rfl,.inr (.inl ⟨o,ah⟩),rs.ext ex⟩;exact .inr ⟨es,b',xs',rfl,rfl,n,by rw[ai q];exact IU,rs.ext ex⟩
theorem EH(hB:∀a,B a->∃o:HOn,Hk a=U o.1):∀(ds:Z_ D)(vs:Z_ V)(H:Hp),Inv X a_ O H s->aa6 X.K B Hk H ds vs->
  ∃H',Inv X a_ O H' s/\Ext B H H'/\(∀c o o',Hk c=U o'->H c=U o->H' c=U o)/\M1 X.K B H' ds vs
 |[],vs,H,I,h=>⟨H,I,Ext.refl,λ_ _ _ _ q=>q,by rw[show vs=[] from h];exact M1.nil⟩
 |d::ds,vs,H,I,h=>by
  obtain⟨x,r,rfl,h1,h2⟩:=h;rcases h1 with h1|⟨es,b,xs,rfl,rfl,n,hb,rs⟩;obtain⟨H',I',e',k',r'⟩:=EH hB ds r H I h2;exact⟨H',I',e',k',M1.cons (h1.ext e') r'⟩;obtain⟨o,I1⟩:=I.frz hb trivial;have nb:¬B b:=λz=>by obtain⟨o',q⟩:=hB b z;rw[n]at q;trivial
  have ex:Ext B H (upd H b (.frz o (.lst xs))):=bP hb trivial nb;obtain⟨H',I',e',k',r'⟩:=EH hB ds r _ I1 (aa6.aca hb ex h2);refine⟨H',I',ex.trans e',λc o' o2 q1 q2=>k' c o' o2 q1 (by rw[ai (ay q1 n)];exact q2),M1.cons (Rep.ext e' ?_) r'⟩;simp only[Rep];exact⟨b,xs,rfl,.inr (.inl ⟨o,ah⟩),rs.ext ex⟩
def nh(K:Z6)(B:ZM->Prop)(Hk H':Hp)(d:D)(fr:Bool)(v:V):Prop:=if fr=L then(∃a,v=.ref a/\Hk a=M/\ObR K B H' d a)\/HK K B Hk H' d v else Rep K B H' d v
def spM(K:Z6)(f:Z_ D->Z9 (D×Bool)):Sp:=λvs H Q _=>∃B ds r fr,(∀a,B a->∃o:HOn,H a=U o.1)/\M1 K B H ds vs/\f ds=U (r,fr)/\∀v H',aaa H H'->nh K B H H' r fr v->Q v H'
structure FnM (P:Y5)(w:YV)(K:Z6)(mg:Str->Z9 Z3)(base:Heap)(k:Nat)(x:Str)(f:List D->Z9 (D×Bool)):Prop where
 ex:∃(p:ZM)(fd:FuncData)(ps:List Str),aa9 P w K mg base CX0 k p fd ps (spM K f)/\mg x=some (.ref p)/\W.keepIn K (.ref p)=true/\Binds K fd ps []
def af{q O:Type}(x:Z9 q)(f:q->Z9 O):Z9 O:=match x with|some a=>f a|none=>M
def ak{q O:Type}{x:Z9 q}{f:q->Z9 O}{b:O}(h:af x f=U b):∃a,x=U a/\f a=U b:=by
 cases x with
 |none=>trivial
 |some a=>exact⟨a,rfl,h⟩
def shO(x:Z9 (D×Bool)):Z9 D:=match x with|some (d,_)=>U d|none=>M
def frO(x:Z9 (D×Bool)):Z9 D:=match x with|some (.tup _,true)=>M|some (d,true)=>U d|_=>M
def flO(x:Z9 (D×Bool)):Z9 D:=match x with|some (.lst ds,true)=>if D.aaB ds=L then U (.lst ds) else M|_=>M
section
variable{X:Cx}{a:Expr}
def nL(F:FnM X.prog X.w X.K X.mg X.base k x f)(hr:aaq k X.A)(hg:Gl X x)(ha:DA X m (e::es) fs)(Kx:(x==("__debug__":Str))=Y)(he:starEach (e::es) X.env=(Y,eval e X.env)::starEach es X.env)(hpl:(backTo pos (starEach es X.env)).any (·.1)=Y):
  PE X (.Call (.Name x p) (e::es) [] pos) (λZ H Q=>∃B Hk O ds r fr,Rel X.K B Hk O Z H/\fs O=U ds/\f ds=U (r,fr)/\∀v H1 H',aaa H H1->aaa H1 H'->nh X.K (bh m B O Z) H1 H' r fr v->Q v H'):=by
 obtain⟨q,fd,ps,h1,h2,h3,h4⟩:=F.ex;refine(sQ (ds:=[]) (dvs:=[]) h1 hr hg h2 h3 h4 .nil CI ha Kx he hpl).imp λZ H Q hz=>?_;obtain⟨B,Hk,O,ds,r,fr,R,e1,e2,kk⟩:=hz;refine⟨B,Hk,O,ds,R,e1,λvs H1 s1 rs=>?_⟩;show spM X.K f (vs++[]) H1 Q E0;rw[Y3];exact⟨bh m B O Z,ds,r,fr,(R.to s1).bsH m,rs,e2,λv H' s2 rr=>kk v H1 H' s1 s2 rr⟩
def zG(F:FnM X.prog X.w X.K X.mg X.base k x f)(hr:aaq k X.A)(hg:Gl X x)(ha:DA X Y (e::es) fs)(Kx:(x==("__debug__":Str))=Y:=by decide)(he:starEach (e::es) X.env=(Y,eval e X.env)::starEach es X.env:=by rfl)
  (hpl:(backTo pos (starEach es X.env)).any (·.1)=Y:=by rfl):DF X (.Call (.Name x p) (e::es) [] pos) (λO=>frO (af (fs O) f)):=
 (nL F hr hg ha Kx he hpl).imp λZ H Q hz=>by
  obtain⟨B,Hk,O,d,R,e,kk⟩:=hz;cases q:af (fs O) f with
  |none=>simp only[q,frO]at e;trivial
  |some p=>
   obtain⟨d',fr⟩:=p;obtain⟨ds,e1,e2⟩:=ak q;cases fr with
   |false=>cases d'<;>simp only[q,frO]at e<;>trivial
   |true=>
    have hd:d'=d/\∀ts,d≠.tup ts:=by
     cases d' with
     |tup ts=>simp only[q,frO]at e;trivial
     |_=>simp only[q,frO]at e;cases e;exact⟨rfl,λts z=>by cases z⟩
    obtain⟨rfl,nt⟩:=hd;refine⟨B,Hk,O,ds,_,_,R,e1,e2,λv H1 H' s1 s2 rr=>?_⟩;unfold nh at rr;rw[ZR rfl]at rr;rcases rr with⟨a,rfl,n,ob⟩|rt;exact kk a H' (s1.trans s2) (s1.free n) ob;cases d' with
    |tup ts=>exact(nt ts rfl).elim
    |_=>exact(show False from rt).elim
set_option tactic.hygienic true in
def xD(F:FnM X.prog X.w X.K X.mg X.base k x f)(hr:aaq k X.A)(hg:Gl X x)(ha:DA X L (e::es) fs)(Kx:(x==("__debug__":Str))=Y:=by decide)(he:starEach (e::es) X.env=(Y,eval e X.env)::starEach es X.env:=by rfl)
  (hpl:(backTo pos (starEach es X.env)).any (·.1)=Y:=by rfl):DF X (.Call (.Name x p) (e::es) [] pos) (λO=>flO (af (fs O) f)):=
 (nL F hr hg ha Kx he hpl).imp λZ H Q hz=>by
  obtain⟨B,Hk,O,d,R,e,kk⟩:=hz;unfold flO at e;dsimp only at e;split at e;rename_i ls q;by_cases fl:D.aaB ls=L;rw[ZR fl]at e;cases e;obtain⟨ds,e1,e2⟩:=ak q;refine⟨B,Hk,O,ds,_,_,R,e1,e2,λv H1 H' s1 s2 rr=>?_⟩;unfold nh at rr;rw[ZR rfl]at rr;rcases rr with⟨a,rfl,n,xs,hx,rs⟩|rt;exact kk a H' (s1.trans s2) (s1.free n) ⟨xs,hx,M1.flat fl rs⟩;exact(show False from rt).elim;rw[ZK fl]at e;trivial;trivial
set_option tactic.hygienic true in
def Bn(F:FnM X.prog X.w X.K X.mg X.base k x f)(hr:aaq k X.A)(hg:Gl X x)(ha:DA X m (e::es) fs)(Kx:(x==("__debug__":Str))=Y:=by decide)(he:starEach (e::es) X.env=(Y,eval e X.env)::starEach es X.env:=by rfl)
  (hpl:(backTo pos (starEach es X.env)).any (·.1)=Y:=by rfl):DE X m (.Call (.Name x p) (e::es) [] pos) (λO=>shO (af (fs O) f)):=by
 intro a_ s Z H Q I hq;obtain⟨B,Hk,O,d,R,e,kk⟩:=hq;unfold shO at e;dsimp only at e;split at e
 .rename_i d' fr q
  cases e;obtain⟨ds,e1,e2⟩:=ak q;have h1:=nL (p:=p) F hr hg ha Kx he hpl a_ s Z H (λv H'=>∃H1,aaa H H1/\aaa H1 H'/\nh X.K (bh m B O Z) H1 H' d fr v) I ⟨B,Hk,O,ds,d,fr,R,e1,e2,λv H1 H' s1 s2 rr=>⟨H1,s1,s2,rr⟩⟩;refine thn h1 λu s1 hz=>?_;obtain⟨v,H',I1,rv,H1,NM,L_,rr⟩:=hz;cases fr with
  |false=>
   unfold nh at rr;rw[ZK Zr]at rr;exact⟨v,H',I1,rv,kk v H' (NM.trans L_) rr⟩
  |true=>
   unfold nh at rr;rw[ZR rfl]at rr;rcases rr with⟨p,rfl,n,ob⟩|rt
   rotate_left
   cases d with
   |tup ts=>
    obtain⟨a,vs,rfl,MG,rs⟩:=rt;obtain⟨H2,I2,e2,k2,r2⟩:=EH (B:=bh m B O Z) (Hk:=H1) (λc z=>by obtain⟨o',e'⟩:=R.bsH m c z;exact⟨o',NM c o' e'⟩) ts vs H' I1 rs.m;refine⟨.ref a,H2,I2,rv,kk _ _ (NM.trans (L_.keep k2)) ?_⟩;simp only[Rep];exact⟨a,vs,rfl,e2.aaW _ _ MG,r2⟩
   |_=>exact(show False from rt).elim
   obtain⟨u',hu,mu⟩:=ob.mut;obtain⟨o,I2⟩:=I1.frz hu mu;have hb:¬bh m B O Z p:=λz=>by
    obtain⟨o',e'⟩:=R.bsH m p z;have:=NM p o' e';rw[n]at this;trivial
   refine⟨.ref p,_,I2,rv,kk _ _ (NM.trans (L_.put n)) (ob.frozen hu hb λa h=>h)⟩
 trivial
end
inductive Out where
 |next (δ:Mk)|ret (d:D) (fr:Bool)|brk (δ:Mk)|cont (δ:Mk)
def acb(K:Z6)(B:ZM->Prop)(Hk H:Hp)(Dn:Ends):Out->Prop
 |.next q=>∀i_ H',Ext B H H'->Rel K B Hk q i_ H'->Dn.nx i_ H'
 |.brk q=>∀i_ H',Ext B H H'->Rel K B Hk q i_ H'->Dn.bk i_ H'
 |.cont q=>∀i_ H',Ext B H H'->Rel K B Hk q i_ H'->Dn.ct i_ H'
 |.ret d fr=>∀v H',Ext B H H'->aaa Hk H'->nh K B Hk H' d fr v->Dn.rt v H'
def tD(K:Z6)(g:Mk->Z9 Out):TS:=λDn O H=>∃B Hk q o,Rel K B Hk q O H/\g q=U o/\acb K B Hk H Dn o
abbrev DS(X:Cx)(st:Stmt)(g:Mk->Z9 Out):Prop:=PS X st (tD X.K g)
abbrev DSs(X:Cx)(Ms:Z_ Stmt)(g:Mk->Z9 Out):Prop:=PSs X Ms (tD X.K g)
def acb.ext{K:Z6}{B:ZM->Prop}{Hk H H1:Hp}{Dn:Ends}{o:Out}(h:acb K B Hk H Dn o)(e:Ext B H H1):acb K B Hk H1 Dn o:=by
 cases o with
 |next q=>exact λi_ H' x r=>h i_ H' (e.trans x) r
 |brk q=>exact λi_ H' x r=>h i_ H' (e.trans x) r
 |cont q=>exact λi_ H' x r=>h i_ H' (e.trans x) r
 |ret d fr=>exact λv H' x r=>h v H' (e.trans x) r
def aan(q:Mk):Z9 Out:=U (.next q)
def aC(x:Z9 Out)(k:Mk->Z9 Out):Z9 Out:=match x with|some (.next q)=>k q|o=>o
section
variable{X:Cx}{a b e:Expr}{fa:Mk->Z9 D}{pos p:Pos}{st:Stmt}{aq:Z_ Stmt}{g1 g2:Mk->Z9 Out}
theorem A6:DSs X [] aan:=jf.imp λDn q H hz=>by
 obtain⟨B,Hk,O,o,R,e,k⟩:=hz;cases e;exact k q H Ext.refl R
theorem dU(h1:DS X st g1)(h2:DSs X aq g2):DSs X (st::aq) (λO=>aC (g1 O) g2):=
 (aS h1 h2).imp λDn Z H hz=>by
  obtain⟨B,Hk,O,o,R,e,k⟩:=hz;cases q:g1 O with
  |none=>simp only[q,aC]at e;trivial
  |some o1=>
   cases o1 with
   |next q_=>
    simp only[q,aC]at e;exact⟨B,Hk,O,_,R,q,λi_ H' x R'=>⟨B,Hk,q_,o,R',e,k.ext x⟩⟩
   |brk q_=>simp only[q,aC]at e;cases e;exact⟨B,Hk,O,_,R,q,k⟩
   |cont q_=>simp only[q,aC]at e;cases e;exact⟨B,Hk,O,_,R,q,k⟩
   |ret d fr=>simp only[q,aC]at e;cases e;exact⟨B,Hk,O,_,R,q,k⟩
theorem mI(h1:DS X st g1):DSs X [st] g1:=dJ h1
def ifO(c:Z9 Bool)(x y:Z9 Out):Z9 Out:=match c with|some true=>x|some false=>y|none=>M
theorem Rel.ext{K:Z6}{B:ZM->Prop}{Hk H H':Hp}{q:Mk}{O:St}(R:Rel K B Hk q O H)(s:aaa H H'):Ext B H H':=s.ext R.abm
theorem E3(hc:DT X c fc)(ha:DSs X x g1)(hb:DSs X y g2):DS X (.If c x y pos) (λO=>ifO (fc O) (g1 O) (g2 O)):=
 (vt hc ha hb).imp λDn Z H hz=>by
  obtain⟨B,Hk,O,o,R,e,k⟩:=hz;unfold ifO at e;dsimp only at e;split at e;rename_i q;exact⟨B,Hk,O,L,R,q,λH1 s1=>wX ⟨B,Hk,O,o,R.to s1,e,k.ext (R.ext s1)⟩⟩;rename_i q;exact⟨B,Hk,O,Y,R,q,λH1 s1=>vL ⟨B,Hk,O,o,R.to s1,e,k.ext (R.ext s1)⟩⟩;trivial
theorem Rel.set{K:Z6}{B:ZM->Prop}{Hk H:Hp}{O:Mk}{Z:St}{i:Nat}{d:D}{v:V}(R:Rel K B Hk O Z H)(hi:i<Z.length)(r:Rep K B H d v):Rel K B Hk (O.set i (U (d,Y))) (Z.set i (U v)) H:=by
 have o_:i<O.length:=by rw[R.len];exact hi
 refine⟨R.same,R.bor,by simpa using R.len,λj e h=>?_,λj e h=>?_,λj k e f q Kg h1 h2 h3 h4=>?_⟩;by_cases hj:j=i;subst hj;rw[ZU o_]at h;cases h;exact⟨v,by rw[ZU hi],r⟩;rw[ZY (ZC hj)]at h;rw[ZY (ZC hj)];exact R.var j e h;by_cases hj:j=i;subst hj;rw[ZU o_]at h;cases h;rw[ZY (ZC hj)]at h;rw[ZY (ZC hj)];exact R.own j e h;have nj:j≠i:=λz=>by subst z;rw[ZU o_]at h1;cases h1
 have nk:k≠i:=λz=>by subst z;rw[ZU o_]at h2;cases h2
 rw[ZY (ZC nj)]at h1 h3;rw[ZY (ZC nk)]at h2 h4;exact R.dis j k e f q Kg h1 h2 h3 h4
def Rel.abJ{K:Z6}{B:ZM->Prop}{Hk H:Hp}{O:Mk}{Z:St}{i:Nat}{d:D}{a:ZM}(R:Rel K B Hk O Z H)(hi:i<Z.length)(hk:Hk a=M)(ob:ObR K B H d a)
  (ho:∀(j:Nat) e,j≠i->O[j]?=U (U (e,L))->Z[j]?≠U (U (.ref a))):Rel K B Hk (O.set i (U (d,L))) (Z.set i (U (.ref a))) H:=by
 have o_:i<O.length:=by rw[R.len];exact hi
 refine⟨R.same,R.bor,by simpa using R.len,λj e h=>?_,λj e h=>?_,λj k e f q Kg h1 h2 h3 h4=>?_⟩;by_cases hj:j=i;subst hj;rw[ZU o_]at h;cases h;rw[ZY (ZC hj)]at h;rw[ZY (ZC hj)];exact R.var j e h;by_cases hj:j=i;subst hj;rw[ZU o_]at h;cases h;exact⟨a,by rw[ZU hi],hk,ob⟩;rw[ZY (ZC hj)]at h;rw[ZY (ZC hj)];exact R.own j e h;by_cases nj:j=i;subst nj;have nk:k≠j:=λz=>Kg z.symm;rw[ZU hi]at h3;cases h3;rw[ZY (ZC nk)]at h2 h4;exact ho k f nk h2 h4;rw[ZY (ZC nj)]at h1 h3;by_cases nk:k=i;subst nk;rw[ZU hi]at h4;cases h4;exact ho j e nj h1 h3;rw[ZY (ZC nk)]at h2 h4;exact R.dis j k e f q Kg h1 h2 h3 h4
def bC(i:Nat)(x:Z9 D)(q:Mk):Z9 Out:=match x with|some d=>if i<q.length then U (.next (q.set i (U (d,Y)))) else M|none=>M
def dZ(i:Nat)(x:Z9 D)(q:Mk):Z9 Out:=match x with|some d=>if i<q.length then U (.next (q.set i (U (d,L)))) else M|none=>M
def g8(h:bC i x O=U o):∃d,x=U d/\i<O.length/\o=.next (O.set i (U (d,Y))):=by
 unfold bC at h;split at h;rename_i d;by_cases q:i<O.length;rw[ZR q]at h;cases h;exact⟨d,rfl,q,rfl⟩;rw[ZK q]at h;trivial;trivial
def lJ(h:dZ i x O=U o):∃d,x=U d/\i<O.length/\o=.next (O.set i (U (d,L))):=by
 unfold dZ at h;split at h;rename_i d;by_cases q:i<O.length;rw[ZR q]at h;cases h;exact⟨d,rfl,q,rfl⟩;rw[ZK q]at h;trivial;trivial
def AQ{i:Nat}{Dn:Ends}{O:St}{H:Hp}(h:tD X.K (λq=>bC i (fa q) q) Dn O H):BD (tM X.K Y fa) (h9 i) Dn O H:=by
 obtain⟨B,Hk,q,o,R,e,k⟩:=h;obtain⟨d,e1,hi,rfl⟩:=g8 e;exact⟨B,Hk,q,d,R,e1,λv H' s r=>k _ H' (R.ext s) ((R.to s).set (by rw[<-R.len];exact hi) r)⟩
def wq{i:Nat}{Dn:Ends}{O:St}{H:Hp}(h:tD X.K (λq=>dZ i (fa q) q) Dn O H):BD (tF X.K fa) (h9 i) Dn O H:=by
 obtain⟨B,Hk,q,o,R,e,k⟩:=h;obtain⟨d,e1,hi,rfl⟩:=lJ e;refine⟨B,Hk,q,d,R,e1,λa H' s n ob=>k _ H' (R.ext s) ((R.to s).abJ (by rw[<-R.len];exact hi) (R.same.free n) ob λj e hj h1 h2=>?_)⟩;obtain⟨b,h3,_,Mu⟩:=R.own j e h1;rw[h2]at h3;cases h3;obtain⟨o,e'⟩:=Mu.there;rw[n]at e';trivial
def DV(hN:X.N.Nodup)(ha:DE X Y a fa)(hi:X.N[i]?=U x:=by rfl)(hx:Loc X.env.scope x:=by first|exact Or.inl rfl|exact Or.inr rfl)(hs:swapsWith a (U (.Name x pos')) pos.line X.env=pure Y:=by rfl)(hf:X.fn x=L\/X.env.scope.names.lookup x=U .local:=by first|exact .inl rfl|exact .inr rfl):DS X (.Assign [.Name x pos'] a pos) (λq=>bC i (fa q) q):=
 (gB hN hi hx ha hs hf).imp λDn O H h=>AQ h
def Bq(hN:X.N.Nodup)(ha:DF X a fa)(hi:X.N[i]?=U x:=by rfl)(hx:Loc X.env.scope x:=by first|exact Or.inl rfl|exact Or.inr rfl)(hs:swapsWith a (U (.Name x pos')) pos.line X.env=pure Y:=by rfl)(hf:X.fn x=L\/X.env.scope.names.lookup x=U .local:=by first|exact .inl rfl|exact .inr rfl):DS X (.Assign [.Name x pos'] a pos) (λq=>dZ i (fa q) q):=
 (gB hN hi hx ha hs hf).imp λDn O H h=>wq h
def dk(x:Z9 D):Z9 Out:=match x with|some d=>U (.ret d Y)|none=>M
def dH(x:Z9 D):Z9 Out:=match x with|some d=>U (.ret d L)|none=>M
theorem D7(ha:DE X Y a fa):DS X (.Return (U a) pos) (λO=>dk (fa O)):=
 (iZ ha).imp λDn Z H hz=>by
  obtain⟨B,Hk,O,o,R,e,k⟩:=hz;cases q:fa O with
  |none=>simp only[q,dk]at e;trivial
  |some d=>
   simp only[q,dk]at e;cases e;exact⟨B,Hk,O,d,R,q,λv H' s r=>k v H' (R.ext s) (R.same.trans s) (by unfold nh;rw[ZK Zr];exact r)⟩
theorem AB(ha:DF X a fa):DS X (.Return (U a) pos) (λO=>dH (fa O)):=
 (iZ ha).imp λDn Z H hz=>by
  obtain⟨B,Hk,O,o,R,e,k⟩:=hz;cases q:fa O with
  |none=>simp only[q,dH]at e;trivial
  |some d=>
   simp only[q,dH]at e;cases e;exact⟨B,Hk,O,d,R,q,λp H' s n ob=>k (.ref p) H' (R.ext s) (R.same.trans s) (by unfold nh;rw[ZR rfl];exact .inl ⟨p,rfl,R.same.free n,ob⟩)⟩
def bQ(i:Nat)(q:Mk):Z9 D:=match q[i]? with|some (some (d,true))=>U d|_=>M
def bL(h:bQ i q=U d):q[i]?=U (U (d,L)):=by
 unfold bQ at h;split at h;rename_i d' e;cases h;exact e;trivial
def A7(hN:X.N[i]?=U x:=by rfl)(hv:Vis X.env.scope x:=by first|exact Or.inl rfl|exact Or.inr (Or.inl rfl)|exact Or.inr (Or.inr rfl))(hd:(x==("__debug__":Str))=Y:=by decide)(Jg:(x==("__classdict__":Str))=Y:=by decide):
  DS X (.Return (U (.Name x px)) pos) (λO=>dH (bQ i O)):=
 (iZ (aZ hN hv hd Jg)).imp λDn Z H hz=>by
  obtain⟨B,Hk,O,o,R,e,k⟩:=hz;cases q:bQ i O with
  |none=>simp only[q,dH]at e;trivial
  |some d=>
   simp only[q,dH]at e;cases e;obtain⟨p,h1,h2,h3⟩:=R.own i d (bL q);exact⟨.ref p,h1,k (.ref p) H Ext.refl R.same (by unfold nh;rw[ZR rfl];exact .inl ⟨p,rfl,h2,h3⟩)⟩
def Rel.abE{K:Z6}{B:ZM->Prop}{Hk H:Hp}{O:Mk}{Z:St}{i:Nat}{ds ds':Z_ D}{l:ZM}{xs xs':Z_ V}(R:Rel K B Hk O Z H)(h:O[i]?=U (U (.lst ds,L)))(hl:Z[i]?=U (U (.ref l)))(hx:H l=U (.lst xs))(r:M1 K B H ds' xs'):
  Ext B H (upd H l (.lst xs'))/\Rel K B Hk (O.set i (U (.lst ds',L))) Z (upd H l (.lst xs')):=by
 obtain⟨a,e1,e2,ys,e3,_⟩:=R.own i _ h;rw[hl]at e1;cases e1;have hb:¬B l:=λz=>by obtain⟨o,q⟩:=R.bor l z;rw[e2]at q;trivial
 have ex:Ext B H (upd H l (.lst xs')):=bP hx trivial hb;have o_:i<O.length:=(ZX.mp h).1;refine⟨ex,⟨R.same.put e2,R.bor,by simpa using R.len,λj e q=>?_,λj e q=>?_,λj k e f q Kg h1 h2 h3 h4=>?_⟩⟩;by_cases hj:j=i;subst hj;rw[ZU o_]at q;cases q;rw[ZY (ZC hj)]at q;obtain⟨v,q1,q2⟩:=R.var j e q;exact⟨v,q1,q2.ext ex⟩;by_cases hj:j=i;subst hj;rw[ZU o_]at q;cases q;exact⟨l,hl,e2,xs',ah,r.ext ex⟩;rw[ZY (ZC hj)]at q;obtain⟨c,q1,q2,q3⟩:=R.own j e q;have hc:c≠l:=λz=>by subst z;exact R.dis j i e _ c hj q h q1 hl
 exact⟨c,q1,q2,q3.ext ex λo q _=>by rw[ai hc];exact q⟩;have Ld:∃e',O[j]?=U (U (e',L)):=by
  by_cases hj:j=i;subst hj;exact⟨_,h⟩;rw[ZY (ZC hj)]at h1;exact⟨_,h1⟩
 have J6:∃e',O[k]?=U (U (e',L)):=by
  by_cases hj:k=i;subst hj;exact⟨_,h⟩;rw[ZY (ZC hj)]at h2;exact⟨_,h2⟩
 obtain⟨e',Ld⟩:=Ld;obtain⟨f',J6⟩:=J6;exact R.dis j k e' f' q Kg Ld J6 h3 h4
noncomputable def ip(i:Nat)(x:Z9 D)(q:Mk):Z9 Out:=match bQ i q,x with|some (.lst ds),some d=>if ds.length<lim then U (.next (q.set i (U (.lst (ds++[d]),L)))) else M|_,_=>M
set_option tactic.hygienic true in
def sM(h:ip i x O=U o):∃ds d,O[i]?=U (U (.lst ds,L))/\x=U d/\ds.length<lim/\o=.next (O.set i (U (.lst (ds++[d]),L))):=by
 unfold ip at h;split at h;rename_i ds d q;by_cases hl:ds.length<lim;rw[ZR hl]at h;cases h;exact⟨ds,d,bL q,rfl,hl,rfl⟩;rw[ZK hl]at h;trivial;trivial
def uH{i:Nat}{x:Str}{px apos j_:Pos}(ha:DE X Y a fa)(hN:X.N[i]?=U x:=by rfl)(hv:Vis X.env.scope x:=by first|exact Or.inl rfl|exact Or.inr (Or.inl rfl)|exact Or.inr (Or.inr rfl))
  (mc:Mc X.env (.Name x px) "append" a [] apos j_)(hd:(x==("__debug__":Str))=Y:=by decide)(Jg:(x==("__classdict__":Str))=Y:=by decide)
  (Kt:swapsWith (.Call (.Attribute (.Name x px) "append" apos) [a] [] j_) M pos.line X.env=pure Y:=by rfl):DS X (.Expr (.Call (.Attribute (.Name x px) "append" apos) [a] [] j_) pos) (λq=>ip i (fa q) q):=
 (gy (lP Yl WW WX d6 (aZ hN hv hd Jg) (aw ha aK mc.s) mc) Kt).imp λDn O H hz=>by
  obtain⟨B,Hk,q,o,R,e,k⟩:=hz;obtain⟨ds,d,h1,e1,hl,rfl⟩:=sM e;obtain⟨l,h2,h3,xs,h4,h5⟩:=R.own i _ h1;refine⟨.ref l,h2,.inl ⟨rfl,xs,SqL.of h4⟩,qq R e1 λv H' s R' r=>?_⟩;have Ky:=s l _ h4;have ND:M1 X.K B H' ds xs:=h5.ext (R.ext s);obtain⟨x1,x2⟩:=R'.abE (ds':=ds++[d]) (xs':=xs++[v]) h1 h2 Ky (ND.append (M1.cons r M1.nil));exact⟨l,xs,v,rfl,rfl,Ky,by rw[<-h5.length];exact Zz hl (aD (ZP _)),k O _ ((R.ext s).trans x1) x2⟩
def aaK(i:Nat)(q:Mk):Mk:=match q[i]? with|some (some (d,true))=>q.set i (U (d,Y))|_=>q
theorem Rel.aaK(i:Nat)(I:Inv X a_ O H s)(R:Rel X.K B Hk Z O H):∃H',Inv X a_ O H' s/\Ext B H H'/\Rel X.K B Hk (aaK i Z) O H':=by
 unfold L2.aaK;split;rename_i d h;obtain⟨a,e1,e2,ob⟩:=R.own i d h;obtain⟨u,hu,mu⟩:=ob.mut;obtain⟨o,I2⟩:=I.frz hu mu;have hb:¬B a:=λz=>by obtain⟨o,q⟩:=R.bor a z;rw[e2]at q;trivial
 have ex:Ext B H (upd H a (.frz o u)):=bP hu mu hb;have o_:i<Z.length:=(ZX.mp h).1;refine⟨_,I2,ex,⟨R.same.put e2,R.bor,by simpa using R.len,λj e q=>?_,λj e q=>?_,λj k e f q Kg h1 h2 h3 h4=>?_⟩⟩;by_cases hj:j=i;subst hj;rw[ZU o_]at q;cases q;exact⟨_,e1,ob.frozen hu hb λa h=>h⟩;rw[ZY (ZC hj)]at q;obtain⟨v,q1,q2⟩:=R.var j e q;exact⟨v,q1,q2.ext ex⟩;by_cases hj:j=i;subst hj;rw[ZU o_]at q;cases q;rw[ZY (ZC hj)]at q;obtain⟨c,q1,q2,q3⟩:=R.own j e q;have hc:c≠a:=λz=>by subst z;exact R.dis j i e _ c hj q h q1 e1
 exact⟨c,q1,q2,q3.ext ex λo q _=>by rw[ai hc];exact q⟩;have nj:j≠i:=λz=>by subst z;rw[ZU o_]at h1;cases h1
 have nk:k≠i:=λz=>by subst z;rw[ZU o_]at h2;cases h2
 rw[ZY (ZC nj)]at h1;rw[ZY (ZC nk)]at h2;exact R.dis j k e f q Kg h1 h2 h3 h4;exact⟨H,I,Ext.refl,R⟩
def GI(i:Nat)(h:DS X st g):DS X st (λq=>g (aaK i q)):=by
 intro a_ s O H Dn I ⟨B,Hk,q,o,R,e,k⟩;obtain⟨H',I',x,R'⟩:=R.aaK i I;exact h a_ s O H' Dn I' ⟨B,Hk,_,o,R',e,k.ext x⟩
theorem Bz(i:Nat)(h:DSs X Ms g):DSs X Ms (λq=>g (aaK i q)):=by
 intro a_ s O H Dn I ⟨B,Hk,q,o,R,e,k⟩;obtain⟨H',I',x,R'⟩:=R.aaK i I;exact h a_ s O H' Dn I' ⟨B,Hk,_,o,R',e,k.ext x⟩
end
def tG(K:Z6)(O:D->Mk->Z9 Mk):TG:=λv Z H Q=>∃B Hk q d h_,Rel K B Hk q Z H/\Rep K B H d v/\O d q=U h_/\∀i_,Rel K B Hk h_ i_ H->Q i_ H
def tGs(K:Z6)(O:Z_ D->Mk->Z9 Mk):TGs:=λvs Z H Q=>∃B Hk q ds h_,Rel K B Hk q Z H/\M1 K B H ds vs/\O ds q=U h_/\∀i_,Rel K B Hk h_ i_ H->Q i_ H
abbrev DG(X:Cx)(tg:Expr)(q:D->Mk->Z9 Mk):Prop:=PG X tg (tG X.K q)
abbrev DGs(X:Cx)(tg:Z_ Expr)(q:Z_ D->Mk->Z9 Mk):Prop:=PGs X tg (tGs X.K q)
def ae(i:Nat)(d:D)(q:Mk):Z9 Mk:=if i<q.length then U (q.set i (U (d,Y))) else M
def aah(ds:Z_ D)(q:Mk):Z9 Mk:=match ds with|[]=>U q|_=>M
def aj(q:D->Mk->Z9 Mk)(O:Z_ D->Mk->Z9 Mk)(ds:Z_ D)(Z:Mk):Z9 Mk:=match ds with|d::r=>af (q d Z) (O r)|[]=>M
def aL(q:Z_ D->Mk->Z9 Mk)(d:D)(O:Mk):Z9 Mk:=match d with|.tup ds=>q ds O|_=>M
def PG.imp(h:PG X tg t)(i:∀v O H Q,t' v O H Q->t v O H Q):PG X tg t':=λa_ s O H v u Q I r q=>h a_ s O H v u Q I r (i v O H Q q)
def PGs.imp(h:PGs X tg t)(i:∀v O H Q,t' v O H Q->t v O H Q):PGs X tg t':=λa_ s O H v u Q I r q=>h a_ s O H v u Q I r (i v O H Q q)
section
variable{X:Cx}
def BC(hN:X.N.Nodup)(hi:X.N[i]?=U x:=by rfl)(hx:Loc X.env.scope x:=by first|exact Or.inl rfl|exact Or.inr rfl)(hf:X.fn x=L\/X.env.scope.names.lookup x=U .local:=by first|exact .inl rfl|exact .inr rfl):DG X (.Name x pos) (ae i):=
 (jy hN hi hx hf).imp λv Z H Q hz=>by
  obtain⟨B,Hk,O,d,h_,R,r,e,k⟩:=hz;unfold ae at e;by_cases q:i<O.length;rw[ZR q]at e;obtain rfl:=Z7 e;exact k _ (R.set (by rw[<-R.len];exact q) r);rw[ZK q]at e;trivial
theorem z0:DGs X [] aah:=zH.imp λv q H Q hz=>by
 obtain⟨B,Hk,O,ds,h_,R,r,e,k⟩:=hz;cases ds with
 |nil=>simp only[aah]at e;obtain rfl:=Z7 e;simp only[M1]at r;exact⟨r,k q R⟩
 |cons d ds=>simp only[aah]at e;trivial
theorem wH(h1:DG X e q)(h2:DGs X es O)(hs:(assignEach (e::es) X.env).map (·.2)=assign e X.env::(assignEach es X.env).map (·.2):=by rfl):DGs X (e::es) (aj q O):=
 (wU h1 h2 hs).imp λv σ H Q hz=>by
  obtain⟨B,Hk,Z,ds,h_,R,r,e,k⟩:=hz;cases ds with
  |nil=>simp only[aj]at e;trivial
  |cons d ds=>
   simp only[aj]at e;obtain⟨q_,e1,e2⟩:=ak e;simp only[M1]at r;obtain⟨x,xs,rfl,r1,r2⟩:=r;exact⟨x,xs,rfl,B,Hk,Z,d,q_,R,r1,e1,λLN R1=>⟨B,Hk,q_,ds,h_,R1,r2,e2,k⟩⟩
def bK(h:∀ds q h_,O ds q=U h_->ds.length=n)(ds:Z_ D)(q h_:Mk)(e:aj Z O ds q=U h_):ds.length=n+1:=by
 cases ds with
 |nil=>simp only[aj]at e;trivial
 |cons d ds=>
  simp only[aj]at e;obtain⟨q_,_,e2⟩:=ak e;rw[bG,h _ _ _ e2]
def f8(ds:Z_ D)(q h_:Mk)(e:aah ds q=U h_):ds.length=0:=by
 cases ds with
 |nil=>rfl
 |cons d ds=>simp only[aah]at e;trivial
theorem CS(hc:X.calm=L)(h:DGs X es O)(hl:∀ds q h_,O ds q=U h_->ds.length=n)(hn:(assignEach es X.env).length=n:=by rfl)(JC:(assignEach es X.env).findIdx? (·.1)=M:=by rfl):DG X (.Tuple es k pos) (aL O):=
 (CD hc h hn JC).imp λv Z H Q hz=>by
  obtain⟨B,Hk,q,d,h_,R,r,e,k⟩:=hz;cases d with
  |tup ds=>
   simp only[aL]at e;simp only[Rep]at r;obtain⟨a,xs,rfl,hq,rs⟩:=r;exact⟨a,xs,rfl,SqT.of hq,by rw[<-rs.length];exact hl _ _ _ e,B,Hk,q,ds,h_,R,rs,e,k⟩
  |_=>simp only[aL]at e;trivial
end
def be(q:Mk):Prop:=∀(i:Nat) d,q[i]?≠U (U (d,L))
structure aa5 (τ:D->Mk->Z9 Mk):Prop where
 new:∀d d' δ h_,τ d δ=some h_->τ d' h_=τ d' δ
 own:∀d δ h_,τ d δ=some h_->be δ->be h_
def gQ(h:be O):be (O.set i (U (d,Y))):=λj e q=>by
 by_cases hj:i=j;subst hj;rw[List.getElem?_set]at q;simp at q;rw[ZY hj]at q;exact h j e q
def jR(i:Nat):∀d O h_,ae i d O=U h_->be O->be h_:=λd O h_ h n=>by
 unfold ae at h;by_cases q:i<O.length;rw[ZR q]at h;obtain rfl:=Z7 h;exact gQ n;rw[ZK q]at h;trivial
def Av:∀ds q h_,aah ds q=U h_->be q->be h_:=λds q h_ h n=>by
 cases ds with
 |nil=>simp only[aah]at h;obtain rfl:=Z7 h;exact n
 |cons d ds=>simp only[aah]at h;trivial
def pi(h1:∀d q h_,O d q=U h_->be q->be h_)(h2:∀ds q h_,Z ds q=U h_->be q->be h_):∀ds q h_,aj O Z ds q=U h_->be q->be h_:=λds q h_ h n=>by
 cases ds with
 |nil=>simp only[aj]at h;trivial
 |cons d ds=>
  simp only[aj]at h;obtain⟨q_,e1,e2⟩:=ak h;exact h2 _ _ _ e2 (h1 _ _ _ e1 n)
def Ae(h2:∀ds q h_,O ds q=U h_->be q->be h_):∀d q h_,aL O d q=U h_->be q->be h_:=λd q h_ h n=>by
 cases d with
 |tup ds=>exact h2 ds q h_ h n
 |_=>simp only[aL]at h;trivial
def gV(i:Nat):aa5 (ae i):=aa5.mk (own:=jR i)<|λd d' O h_ h=>by
 unfold ae at h⊢;by_cases q:i<O.length;rw[ZR q]at h;obtain rfl:=Z7 h;rw[Zm,ZR q,ZR q,Yg];rw[ZK q]at h;trivial
def sY(i j:Nat)(LJ:i≠j):aa5 (aL (aj (ae i) (aj (ae j) aah))):=aa5.mk (own:=Ae (pi (jR i) (pi (jR j) Av)))<|λd d' q h_ h=>by
 cases d with
 |tup ds=>
  cases ds with
  |nil=>simp only[aL,aj]at h;trivial
  |cons a ds=>
   cases ds with
   |nil=>simp only[aL,aj]at h;obtain⟨_,_,h⟩:=ak h;trivial
   |cons b ds=>
    cases ds with
    |cons c ds=>simp only[aL,aj]at h;obtain⟨_,_,h⟩:=ak h;obtain⟨_,_,h⟩:=ak h;simp only[aah]at h;trivial
    |nil=>
     simp only[aL,aj]at h;obtain⟨q_,h1,h⟩:=ak h;obtain⟨Ng,h2,h⟩:=ak h;simp only[aah]at h;obtain rfl:=Z7 h;unfold ae at h1;by_cases qi:i<q.length;rw[ZR qi]at h1;obtain rfl:=Z7 h1;unfold ae at h2;by_cases qj:j<(q.set i (U (a,Y))).length;rw[ZR qj]at h2;obtain rfl:=Z7 h2;rw[Zm]at qj;cases d' with
     |tup es=>
      cases es with
      |nil=>rfl
      |cons a' es=>
       cases es with
       |nil=>
        simp only[aL,aj,ae,Zm];rw[ZR qi,ZR qi];rfl
       |cons b' es=>
        have e3:(((List.set q i (U (a,Y))).set j (U (b,Y))).set i (U (a',Y))).set j (U (b',Y))=(List.set q i (U (a',Y))).set j (U (b',Y)):=by
         rw[List.set_comm _ _ LJ.symm,Yg,Yg]
        simp only[aL,aj,ae,Zm];rw[ZR qi,ZR qi];simp only[af,aj,ae,Zm];rw[ZR qj,ZR qj,e3]
     |_=>rfl
     rw[ZK qj]at h2;trivial;rw[ZK qi]at h1;trivial
 |_=>simp only[aL]at h;trivial
def ItD(K:Z6)(B:ZM->Prop)(H1:Hp)(J:It)(ds:Z_ D):Prop:=∀H',Ext B H1 H'->J.stop ds.length H'/\∀(i:Nat) d,ds[i]?=U d->J.go i H'/\∀x KA,J.yld i H' x KA->aaa H' KA/\Rep K B KA d x
def tI(K:Z6)(m:Bool)(f:Mk->Z9 (Z_ D)):TI:=λO H R=>∃B Hk q ds,Rel K B Hk q O H/\f q=U ds/\∀J H1,aaa H H1->ItD K (bh m B q O) H1 J ds->R J H1
abbrev DI(X:Cx)(m:Bool)(tg iter:Expr)(f:Mk->Z9 (Z_ D)):Prop:=PI X tg iter (tI X.K m f)
def bZ(x:Z9 D):Z9 (Z_ D):=match x with|some (.lst ds)=>U ds|_=>M
def yW(x:Z9 D):Z9 (Z_ D):=match x with|some (.tup ds)=>U ds|_=>M
def kq(h:bZ x=U ds):x=U (.lst ds):=by
 unfold bZ at h;split at h;obtain rfl:=Z7 h;rfl;trivial
def lG(h:yW x=U ds):x=U (.tup ds):=by
 unfold yW at h;split at h;obtain rfl:=Z7 h;rfl;trivial
def iJ(lo:Int)(n:Nat):Z_ D:=(List.range n).map λ(i:Nat)=>.int (lo+(i:Int))
section
variable{X:Cx}{m:Bool}{a tg:Expr}{fa:Mk->Z9 D}
theorem nN(h:DE X m a fa):DI X m tg a (λq=>bZ (fa q)):=
 (nM h).imp λO H Q hz=>by
  obtain⟨B,Hk,q,ds,R,e,k⟩:=hz;refine⟨B,Hk,q,_,R,kq e,λv H' s r=>?_⟩;simp only[Rep]at r;obtain⟨l,xs,rfl,hq,rs⟩:=r;refine⟨l,rfl,⟨xs,hq.sq⟩,k _ H' s λH2 x=>?_⟩;have LQ:=hq.ext x;have Lb:=rs.ext x;refine⟨⟨xs,LQ.sq,by rw[rs.length];exact ZP _⟩,λi d hd=>?_⟩;obtain⟨y,hy,ry⟩:=Lb.get hd;refine⟨⟨xs,y,LQ.sq,hy⟩,λz H3 ⟨e3,hz⟩=>⟨by rw[e3];exact aaa.refl _,?_⟩⟩;rw[e3];have:=hz xs LQ.sq;rw[hy]at this;obtain rfl:=Z7 this;exact ry
theorem Cq(h:DE X m a fa):DI X m tg a (λq=>yW (fa q)):=
 (C5 h).imp λO H Q hz=>by
  obtain⟨B,Hk,q,ds,R,e,k⟩:=hz;refine⟨B,Hk,q,_,R,lG e,λv H' s r=>?_⟩;simp only[Rep]at r;obtain⟨l,xs,rfl,hq,rs⟩:=r;refine⟨l,rfl,⟨xs,SqT.of hq⟩,k _ H' s λH2 x=>?_⟩;have LQ:SqT X.K H2 l xs:=SqT.of (x.aaW _ _ hq);have Lb:=rs.ext x;refine⟨⟨xs,LQ,by rw[rs.length];exact ZP _⟩,λi d hd=>?_⟩;obtain⟨y,hy,ry⟩:=Lb.get hd;refine⟨⟨xs,y,LQ,hy⟩,λz H3 ⟨e3,hz⟩=>⟨by rw[e3];exact aaa.refl _,?_⟩⟩;rw[e3];have:=hz xs LQ;rw[hy]at this;obtain rfl:=Z7 this;exact ry
def AU{K:Z6}{B:ZM->Prop}{H1:Hp}(lo:Int)(n:Nat):ItD K B H1 (Itr lo n) (iJ lo n):=λH' x=>by
 refine⟨by show n<=(iJ lo n).length;unfold iJ;simp,λi d hd=>?_⟩;unfold iJ at hd;rw[Yv]at hd;cases q:(List.range n)[i]? with
 |none=>rw[q]at hd;trivial
 |some j=>
  rw[q]at hd;obtain⟨hi,ej⟩:=ZX.mp q;rw[List.getElem_range]at ej;subst ej;rw[Xm]at hi;simp only[Option.map_some,ZL]at hd;subst hd;refine⟨hi,λz H3 ⟨e3,hz⟩=>⟨by rw[e3];exact aaa.refl _,?_⟩⟩;simp only[Rep];exact hz
def vN(x:Z9 D):Z9 (Z_ D):=match x with|some (.int j)=>if(decide (-(2 ^ 62)<=j/\j<2 ^ 62))=L then U (iJ 0 j.toNat) else M|_=>M
theorem zR(g:Gl X "range")(hm:X.mg "range"=M)(h:DE X m a fa)(hs:starEach [a] X.env=[(Y,eval a X.env)]:=by rfl):DI X mm tg (.Call (.Name "range" p) [a] [] pos) (λO=>vN (fa O)):=
 (rX g hm (aw h aK hs) hs).imp λZ H Q hz=>by
  obtain⟨B,Hk,O,ds,R,e,k⟩:=hz;unfold vN at e;dsimp only at e;split at e;rename_i j q;by_cases c:(decide (-(2 ^ 62)<=j/\j<2 ^ 62))=L;rw[ZR c]at e;obtain rfl:=Z7 e;have c':=Zh c;refine qq R q λv H' s R' r=>?_;simp only[Rep]at r;subst r;exact⟨j,rfl,c'.1,c'.2,k _ H' s (AU 0 _)⟩;rw[ZK c]at e;trivial;trivial
end
noncomputable def ar(body:D->Mk->Z9 Out):Z_ D->Mk->Z9 Out
 |[],q=>U (.next q)
 |d::ds,q=>match body d q with
  |some (.next h_)=>ar body ds h_
  |some (.cont h_)=>ar body ds h_
  |some (.brk h_)=>U (.next h_)
  |some (.ret e fr)=>U (.ret e fr)
  |none=>M
section
variable{X:Cx}
theorem BU(hp:PassesOwn (model X.prog X.w) X.A X.env X.xe)(hc:X.calm=L)(hi:DI X Y tg iter fi)(hg:DG X tg Z)(hb:DSs X body gb)(hs:∀x,foldedSetIterable iter X.env x=pure x:=by intro _;rfl):
  DS X (.For tg iter body [] pos) (λO=>af (fi O) λds=>ar (λd O=>af (Z d O) gb) ds O):=
 (oO hp hc hi hg hb hs).imp λDn σ H hz=>by
  obtain⟨B,Hk,O,o,R,e,k⟩:=hz;obtain⟨ds,e1,e2⟩:=ak e;refine⟨B,Hk,O,ds,R,e1,λJ H1 s1 it=>?_⟩;have LP:ItD X.K B H1 J ds:=it;refine⟨λi n i_ H'=>n=ds.length - i/\i<=ds.length/\Ext B H1 H'/\∃h_,Rel X.K B Hk h_ i_ H'/\ar (λd O=>af (Z d O) gb) (ds.drop i) h_=U o,
   ⟨ds.length,by simp,Zo _,Ext.refl,O,R.to s1,e2⟩,?_⟩
  intro i n i_ H' hz;obtain⟨rfl,hi,x,h_,R',e'⟩:=hz;obtain⟨JC,MC⟩:=LP H' x;by_cases ka:i<ds.length
  .obtain⟨go,yl⟩:=MC i ds[i] (by simp[ka])
   refine .inr ⟨go,λIK H2=>Ext B H1 H2/\∃Ng,Rel X.K B Hk Ng IK H2/\ar (λd O=>af (Z d O) gb) (ds.drop (i+1)) Ng=U o,λIK H2 z=>⟨_,by lia,rfl,ka,z⟩,λv H2 hy=>?_⟩;obtain⟨sy,rv⟩:=yl v H2 hy;replace x:=x.trans (R'.ext sy);replace R':=R'.to sy;rw[Zx ka]at e';simp only[ar]at e';cases q:af (Z ds[i] h_) gb with
   |none=>rw[q]at e';trivial
   |some o1=>
    rw[q]at e';obtain⟨q_,q1,q2⟩:=ak q;refine⟨B,Hk,h_,ds[i],q_,R',rv,q1,λJh R3=>⟨B,Hk,q_,o1,R3,q2,?_⟩⟩;have kx:=k.ext (R.ext s1);cases o1 with
    |next LO=>exact λMr H4 x4 R4=>⟨x.trans x4,LO,R4,e'⟩
    |cont LO=>exact λMr H4 x4 R4=>⟨x.trans x4,LO,R4,e'⟩
    |brk LO=>simp only at e';obtain rfl:=Z7 e';exact λMr H4 x4 R4=>kx Mr H4 (x.trans x4) R4
    |ret d fr=>simp only at e';obtain rfl:=Z7 e';exact λv4 H4 x4 R4=>kx v4 H4 (x.trans x4) R4
  have o_:i=ds.length:=by lia
  subst o_;rw[Xj]at e';simp only[ar]at e';obtain rfl:=Z7 e';exact .inl ⟨JC,k i_ H' ((R.ext s1).trans x) R'⟩
end
noncomputable def bq(h:D->Z9 (Z9 D)):Z_ D->Z9 (Z_ D)
 |[]=>U []
 |d::ds=>match h d with
  |none=>M
  |some none=>bq h ds
  |some (some y)=>match bq h ds with
   |some l=>U (y::l)
   |none=>M
noncomputable def au(bo:Bool)(bs:Z_ Bool)(q:Mk):Mk:=List.zipWith (λ(b:Bool) (o:Z9 (D×Bool))=>if b=L then(match o with|some (d,ow)=>if(ow&&!bo)=L then M else U (d,Y)|none=>M) else M) bs q
def cQ(h:(au bo bs O)[i]?=U (U (d,ow))):bs[i]?=U L/\ow=Y/\rd bo i O=U d:=by
 unfold au at h;rw[WA]at h;cases e1:bs[i]? with
 |none=>rw[e1]at h;simp at h
 |some b=>
  cases e2:O[i]? with
  |none=>rw[e1,e2]at h;simp at h
  |some o=>
   rw[e1,e2]at h;simp only[ZL]at h;cases b with
   |false=>simp at h
   |true=>
    rw[ZR rfl]at h;cases o with
    |none=>trivial
    |some q=>
     obtain⟨d',Ut⟩:=q;simp only at h;by_cases c:(Ut&&!bo)=L;rw[ZR c]at h;trivial;rw[ZK c]at h;cases h;exact⟨rfl,rfl,by unfold rd;rw[e2];simp only[ZK c]⟩
def lY{K:Z6}{B:ZM->Prop}{Hk H:Hp}{O:Mk}{q:St}{bo:Bool}{bs:Z_ Bool}(R:Rel K B Hk O q H)(hl:bs.length=q.length):Rel K (bh bo B O q) H (au bo bs O) (rG bs q) H:=by
 refine⟨aaa.refl H,R.bsH bo,?_,λi d h=>?_,λi d h=>?_,λi j d e a LJ h=>?_⟩;unfold au;rw[List.length_zipWith,dL hl,R.len,hl,Nat.min_self];obtain⟨h1,_,h3⟩:=cQ h;obtain⟨v,h4,h5⟩:=R.rd h3;refine⟨v,?_,h5⟩;unfold rG;rw[WA,h1,h4];simp;obtain⟨_,h2,_⟩:=cQ h;trivial;obtain⟨_,h2,_⟩:=cQ h;trivial
def av(x:Z9 (Z_ D)):Z9 D:=match x with|some ds=>U (.lst ds)|none=>M
section
variable{X:Cx}{ifs:Z_ Expr}{bo:Bool}{fi:Mk->Z9 (Z_ D)}{τ:D->Mk->Z9 Mk}{ft:Mk->Z9 Bool}{fe:Mk->Z9 D}{bs:Z_ Bool}
abbrev DTs(X:Cx)(ifs:Z_ Expr)(f:Mk->Z9 Bool):Prop:=PTs X ifs (tMT X.K f)
theorem jn{X:Cx}:DTs X [] (λ_=>U L):=λa_ s q H Q I hz=>by obtain⟨B,Hk,O,d,R,e,k⟩:=hz;obtain rfl:=Z7 e;exact A2 a_ s q H Q I (k H (aaa.refl H))
theorem tw{X:Cx}{c:Expr}{f:Mk->Z9 Bool}(h:DT X c f):DTs X [c] f:=AE h
noncomputable def az(τ:D->Mk->Z9 Mk)(ft:Mk->Z9 Bool)(fe:Mk->Z9 D)(q:Mk)(d:D):Z9 (Z9 D):=af (τ d q) λh_=>match ft h_ with|some true=>(match fe h_ with|some y=>U (U y)|none=>M)|some false=>U M|none=>M
noncomputable def bR(bo:Bool)(bs:Z_ Bool)(τ:D->Mk->Z9 Mk)(ft:Mk->Z9 Bool)(fe:Mk->Z9 D)(q:Mk)(ds:Z_ D):Z9 (Z_ D):=if ds.length<=lim then bq (az τ ft fe (au bo bs q)) ds else M
set_option tactic.hygienic true in
def oG{K:Z6}{Z:St}{H:Hp}{Q:VK}{te:TE}{J:Hp->Hp->D->V->Prop}{Js:Hp->ZM->Hp->Z_ D->Z_ V->Prop}(JB:aa5 τ)(hl:bs.length=Z.length){B:ZM->Prop}{Hk:Hp}{O:Mk}{ds ls:Z_ D}(R:Rel K B Hk O Z H)(e1:fi O=U ds)(e2:bR bo bs τ ft fe O ds=U ls)
  (UP:∀H1 q_ Jh H3 y,Rel K (bh bo B O Z) H1 q_ Jh H3->fe q_=U y->∀Q:VK,(∀v H4,aaa H3 H4->J H3 H4 y v->Q v H4)->te Jh H3 Q) (h0:∀H1 acc H',Js H1 acc H' [] [])
  (h1:∀{H1 acc H' H2 l ys},Js H1 acc H' l ys->aaa H' H2->Ext (bh bo B O Z) H' H2->Js H1 acc H2 l ys)
  (h2:∀{H1 acc H3 H4 l ys y v},aaa H1 H3->H3 acc=U (.lst ys)->Js H1 acc H3 l ys->Js H1 acc H4 l ys->J H3 H4 y v->Ext (bh bo B O Z) H4 (upd H4 acc (.lst (ys++[v])))->Js H1 acc (upd H4 acc (.lst (ys++[v]))) (l++[y]) (ys++[v]))
  (k:∀H1 a H',aaa H H1->aaa H1 H'->H1 a=M->(∃xs,H' a=U (.lst xs)/\Js H1 a H' ls xs)->Q (.ref a) H'):qh (tI K bo fi) bs (tG K τ) (tMT K ft) te Z H Q:=by
 unfold bR at e2;by_cases H_:ds.length<=lim;rw[ZR H_]at e2;refine⟨B,Hk,O,ds,R,e1,λJ H1 s1 it acc t_=>?_⟩;have R1:=R.to s1;have nb:¬bh bo B O Z acc:=λz=>by obtain⟨o,q⟩:=R1.bsH bo acc z;rw[t_]at q;trivial
 have R2:Rel K (bh bo B O Z) H1 (au bo bs O) (rG bs Z) (upd H1 acc (.lst [])):=(lY (bo:=bo) (bs:=bs) R1 hl).to (ax t_);have P9:be (au bo bs O):=λj d h=>by obtain⟨_,h2,_⟩:=cQ h;trivial
 have x0:Ext (bh bo B O Z) H1 (upd H1 acc (.lst [])):=(ax t_).ext (R1.bsH bo);refine⟨λi n ys i_ H'=>n=ds.length - i/\i<=ds.length/\ys.length<=i/\H' acc=U (.lst ys)/\Ext (bh bo B O Z) H1 H'/\∃h_ l1 l2,Rel K (bh bo B O Z) H1 h_ i_ H'/\(∀d,τ d h_=τ d (au bo bs O))/\be h_/\ls=l1++l2/\Js H1 acc H' l1 ys/\bq (az τ ft fe (au bo bs O)) (ds.drop i)=U l2,
  ⟨ds.length,by simp,Zo _,ZP _,ah,x0,au bo bs O,[],ls,R2,λ_=>rfl,P9,rfl,h0 ..,e2⟩,?_⟩
 intro i n ys i_ H' hz;obtain⟨rfl,hi,Qj,ha,x,h_,l1,l2,R',B_,Ux,Ny,rs,ec⟩:=hz;refine⟨ha,?_⟩;obtain⟨JC,MC⟩:=it H' x;by_cases ka:i<ds.length;obtain⟨go,yl⟩:=MC i ds[i] (by simp[ka]);refine .inr ⟨go,λv H2 hy=>?_⟩;obtain⟨sy,rv⟩:=yl v H2 hy;have xy:=R'.ext sy;replace ha:=sy acc _ ha;replace rs:=h1 rs sy xy;replace x:=x.trans xy;replace R':=R'.to sy;rw[Zx ka]at ec;simp only[bq]at ec;cases q:az τ ft fe (au bo bs O) ds[i]with
 |none=>rw[q]at ec;trivial
 |some oy=>
  rw[q]at ec;obtain⟨q_,q1,q2⟩:=ak q;have P0:τ ds[i] h_=U q_:=by rw[B_];exact q1
  have J5:∀d,τ d q_=τ d (au bo bs O):=λd=>by rw[JB.new _ d _ _ P0,B_ d]
  have P7:be q_:=JB.own _ _ _ P0 Ux;refine⟨_,H1,h_,ds[i],q_,R',rv,P0,λJh R3=>?_⟩;split at q2;rename_i qt;refine⟨_,H1,q_,L,R3,qt,λH3 s3=>wX ?_⟩;split at q2;rename_i y qe;obtain rfl:=Z7 q2;simp only at ec;cases qc:bq (az τ ft fe (au bo bs O)) (ds.drop (i+1))with
  |none=>rw[qc]at ec;trivial
  |some l3=>
   rw[qc]at ec;obtain rfl:=Z7 ec;refine UP H1 q_ Jh H3 y (R3.to s3) qe _ λv4 H4 s4 r4=>?_;have O1:=s3.trans s4;have S2:H4 acc=U (.lst ys):=O1 acc _ ha;have x4:Ext (bh bo B O Z) H2 H4:=R3.ext O1;have x5:Ext (bh bo B O Z) H4 (upd H4 acc (.lst (ys++[v4]))):=bP S2 trivial nb;have R5:Rel K (bh bo B O Z) H1 q_ Jh (upd H4 acc (.lst (ys++[v4]))):=by
    have R4:=R3.to O1;refine⟨R4.same.put t_,R4.bor,R4.len,λj d h=>?_,λj d h=>(P7 j d h).elim,R4.dis⟩;obtain⟨v,h1,h2⟩:=R4.var j d h;exact⟨v,h1,h2.ext x5⟩
   exact⟨S2,by have:=aD H_;lia,ds.length - (i+1),by lia,rfl,ka,by rw[Zv,List.length_singleton];lia,ah,x.trans (x4.trans x5),q_,l1++[y],l3,R5,J5,P7,by rw[Ny,Zg];rfl,h2 (R3.to s3).same (s3 acc _ ha) (h1 rs s3 (R3.ext s3)) (h1 rs O1 x4) r4 x5,qc⟩
  trivial;rename_i qt;obtain rfl:=Z7 q2;refine⟨_,H1,q_,Y,R3,qt,λH3 s3=>vL ?_⟩;exact⟨ds.length - (i+1),by lia,rfl,ka,by lia,s3 acc _ ha,x.trans (R3.ext s3),q_,l1,l2,R3.to s3,J5,P7,Ny,h1 rs s3 (R3.ext s3),ec⟩;trivial
 have o_:i=ds.length:=by lia
 subst o_;rw[Xj]at ec;simp only[bq]at ec;obtain rfl:=Z7 ec;rw[Y3]at Ny;subst Ny;exact .inl ⟨JC,k H1 acc H' s1 R'.same t_ ⟨ys,ha,rs⟩⟩;rw[ZK H_]at e2;trivial
def lT{K:Z6}{q:St}{H:Hp}{Q:VK}(JB:aa5 τ)(hl:bs.length=q.length){B:ZM->Prop}{Hk:Hp}{O:Mk}{ds ls:Z_ D}(R:Rel K B Hk O q H)(e1:fi O=U ds)(e2:bR bo bs τ ft fe O ds=U ls)
  (k:∀a H',aaa H H'->H a=M->(∃xs,H' a=U (.lst xs)/\M1 K (bh bo B O q) H' ls xs)->Q (.ref a) H'):qh (tI K bo fi) bs (tG K τ) (tMT K ft) (tM K Y fe) q H Q:=
 oG (J:=λ_ H y v=>Rep K (bh bo B O q) H y v) (Js:=λ_ _ H l ys=>M1 K (bh bo B O q) H l ys) JB hl R e1 e2 (λH1 q_ Jh H3 y R3 qe Q kk=>⟨_,H1,q_,y,R3,qe,kk⟩) (λ_ _ _=>M1.nil) (λr _ x=>r.ext x) (λ_ _ _ r r4 x=>(r.ext x).append (M1.cons (r4.ext x) M1.nil)) λH1 a H' s1 s2 n ob=>k a H' (s1.trans s2) (s1.free n) ob
end
section
variable{X:Cx}{elt tg iter:Expr}{ifs:Z_ Expr}{scope:Scope}{pos:Pos}{fi:Mk->Z9 (Z_ D)}{τ:D->Mk->Z9 Mk}{ft:Mk->Z9 Bool}{fe:Mk->Z9 D}{bs:Z_ Bool}
def sP(hc:X.calm=L)(JB:aa5 τ)(hi:DI X bo tg iter fi)(S:aaf X scope bs)(hg:∀cl C b_ d_ ex pn,DG (aA X scope cl C b_ d_ ex pn) tg τ)(ht:∀cl C b_ d_ ex pn,DTs (aA X scope cl C b_ d_ ex pn) ifs ft)(he:∀cl C b_ d_ ex pn,DE (aA X scope cl C b_ d_ ex pn) Y elt fe)(hs:∀x,foldedSetIterable iter X.env x=pure x):PE X (.ListComp elt [⟨tg,iter,ifs,0⟩] scope pos) (λO H Q=>∃B Hk q ds ls,Rel X.K B Hk q O H/\fi q=U ds/\bR bo bs τ ft fe q ds=U ls/\
   ∀a H',aaa H H'->H a=M->(∃xs,H' a=U (.lst xs)/\M1 X.K (bh bo B q O) H' ls xs)->Q (.ref a) H'):=by
 intro a_ s O H Q I ⟨B,Hk,q,ds,ls,R,e1,e2,k⟩;exact rR hc hi S hg ht he hs a_ s O H Q I (lT JB (by rw[S.len,I.len]) R e1 e2 k)
theorem vF(hc:X.calm=L)(JB:aa5 τ)(hi:DI X Y tg iter fi)(S:aaf X scope bs)
  (hg:∀cl C b_ d_ ex pn,DG (aA X scope cl C b_ d_ ex pn) tg τ) (ht:∀cl C b_ d_ ex pn,DTs (aA X scope cl C b_ d_ ex pn) ifs ft) (he:∀cl C b_ d_ ex pn,DE (aA X scope cl C b_ d_ ex pn) Y elt fe)
  (hs:∀x,foldedSetIterable iter X.env x=pure x:=by intro _;rfl):DF X (.ListComp elt [⟨tg,iter,ifs,0⟩] scope pos) (λO=>av (af (fi O) (bR Y bs τ ft fe O))):=
 (sP hc JB hi S hg ht he hs).imp λZ H Q hz=>by
  obtain⟨B,Hk,O,d,R,e,k⟩:=hz;cases q:af (fi O) (bR Y bs τ ft fe O)with
  |none=>simp only[q,av]at e;trivial
  |some ls=>
   simp only[q,av]at e;obtain rfl:=Z7 e;obtain⟨ds,e1,e2⟩:=ak q;exact⟨B,Hk,O,ds,ls,R,e1,e2,λa H' s n ob=>k a H' s n ob⟩
def gP(x:Z9 (Z_ D)):Z9 (Z_ D):=match x with|some ds=>if D.aaB ds=L then U ds else M|none=>M
def nA(h:gP x=U ds):x=U ds/\D.aaB ds=L:=by
 unfold gP at h;cases x with
 |none=>trivial
 |some e=>
  simp only at h;by_cases q:D.aaB e=L;rw[ZR q]at h;obtain rfl:=Z7 h;exact⟨rfl,q⟩;rw[ZK q]at h;trivial
theorem oK(hc:X.calm=L)(JB:aa5 τ)(hi:DI X L tg iter fi)(S:aaf X scope bs)
  (hg:∀cl C b_ d_ ex pn,DG (aA X scope cl C b_ d_ ex pn) tg τ) (ht:∀cl C b_ d_ ex pn,DTs (aA X scope cl C b_ d_ ex pn) ifs ft) (he:∀cl C b_ d_ ex pn,DE (aA X scope cl C b_ d_ ex pn) Y elt fe)
  (hs:∀x,foldedSetIterable iter X.env x=pure x:=by intro _;rfl):DF X (.ListComp elt [⟨tg,iter,ifs,0⟩] scope pos) (λO=>av (gP (af (fi O) (bR L bs τ ft fe O)))):=
 (sP hc JB hi S hg ht he hs).imp λZ H Q hz=>by
  obtain⟨B,Hk,O,d,R,e,k⟩:=hz;cases q:gP (af (fi O) (bR L bs τ ft fe O))with
  |none=>simp only[q,av]at e;trivial
  |some ls=>
   simp only[q,av]at e;obtain rfl:=Z7 e;obtain⟨q1,q2⟩:=nA q;obtain⟨ds,e1,e2⟩:=ak q1;exact⟨B,Hk,O,ds,ls,R,e1,e2,λa H' s n hz=>by obtain⟨xs,h1,h2⟩:=hz;exact k a H' s n ⟨xs,h1,M1.flat q2 h2⟩⟩
def AK(hN:X.N.Nodup)(hc:X.calm=L)(JB:aa5 τ)(hi:DI X Y tg iter fi)(S:aaf X scope bs)(hg:∀cl C b_ d_ ex pn,DG (aA X scope cl C b_ d_ ex pn) tg τ)(ht:∀cl C b_ d_ ex pn,DTs (aA X scope cl C b_ d_ ex pn) ifs ft)(he:∀cl C b_ d_ ex pn,DE (aA X scope cl C b_ d_ ex pn) Y elt fe)(Qw:X.N[i]?=U y:=by rfl)(hy:X.env.scope.names.lookup y=U .local:=by rfl)(Kt:swapsWith (.ListComp elt [⟨tg,iter,ifs,0⟩] scope pos) (U (.Name y py)) J8.line X.env=pure L:=by rfl)(hs:∀x,foldedSetIterable iter X.env x=pure x:=by intro _;rfl):DS X (.Assign [.Name y py] (.ListComp elt [⟨tg,iter,ifs,0⟩] scope pos) J8) (λO=>dZ i (av (af (fi O) (bR Y bs τ ft fe O))) O):=by
 intro a_ s Z H Dn I ⟨B,Hk,O,o,R,e,k⟩;obtain⟨d,ed,ka,rfl⟩:=lJ e;cases q:af (fi O) (bR Y bs τ ft fe O)with
 |none=>simp only[q,av]at ed;trivial
 |some ls=>
  simp only[q,av]at ed;obtain rfl:=Z7 ed;obtain⟨ds,e1,e2⟩:=ak q;refine vw hc hi S hg ht he hN Qw hy Kt hs a_ s Z H Dn I (lT (Q:=λx H1=>h9 i x Z H1 Dn.nx) JB (by rw[S.len,I.len]) R e1 e2 λa H' s n ob=>?_);refine k _ H' (R.ext s) ((R.to s).abJ (by rw[<-R.len];exact ka) (R.same.free n) ob λj e hj h1 h2=>?_);obtain⟨b,h3,_,Mu⟩:=R.own j e h1;rw[h2]at h3;cases h3;obtain⟨o,e'⟩:=Mu.there;rw[n]at e';trivial
end
def cE(n:Nat)(ds:Z_ D):Mk:=ds.map (λd=>U (d,Y))++List.replicate (n - ds.length) M
def qL(x:Z9 Out):Z9 (D×Bool):=match x with|some (.ret d fr)=>U (d,fr)|some (.next _)=>U (.non,Y)|_=>M
def bE(n np:Nat)(g:Mk->Z9 Out)(ds:Z_ D):Z9 (D×Bool):=if ds.length=np then qL (g (cE n ds)) else M
def hJ{K:Z6}{B:ZM->Prop}{H:Hp}{N:Z_ Str}{ds:Z_ D}{vs:Z_ V}(hb:∀a,B a->∃o:HOn,H a=U o.1)(r:M1 K B H ds vs)(hl:ds.length<=N.length):Rel K B H (cE N.length ds) (cr N vs) H:=by
 have el:=r.length;have key:∀(i:Nat) d ow,(cE N.length ds)[i]?=U (U (d,ow))->ow=Y/\ds[i]?=U d:=λi d ow h=>by
  unfold cE at h;by_cases hi:i<ds.length;rw[Ys (by simpa using hi),Yv]at h;cases q:ds[i]? with
  |none=>rw[q]at h;trivial
  |some e=>rw[q]at h;simp only[Option.map_some,ZL,Xy]at h;exact⟨h.2.symm,by rw[h.1]⟩
  .rw[Yb (by simpa using hi),List.getElem?_replicate]at h
   split at h<;>cases h
 refine⟨aaa.refl H,hb,?_,λi d h=>?_,λi d h=>?_,λi j d e a _ h=>?_⟩;unfold cE cr;simp only[Zv,ZJ,List.length_replicate];lia;obtain⟨_,h2⟩:=key i d _ h;obtain⟨v,h3,h4⟩:=r.get h2;refine⟨v,?_,h4⟩;have hi:i<vs.length:=(ZX.mp h3).1;unfold cr;rw[Ys (by simpa using hi),Yv,h3];rfl;have:=(key i d _ h).1;trivial;have:=(key i d _ h).1;trivial
section
variable{P:Y5}{w:YV}{K:Z6}{mg:Str->Z9 Z3}{base:Heap}
def yp{N ps:Z_ Str}{Dn:Ends}(hn:ps.length<=N.length)(h:spM K (bE N.length ps.length g) vs H Q E)(h1:∀v H,Q v H->Dn.rt v H)(h2:∀Z H,Q .non H->Dn.nx Z H):vs.length=ps.length/\tD K g Dn (cr N vs) H:=by
 obtain⟨B,ds,r,fr,hB,r_,hf,kk⟩:=h;unfold bE at hf;by_cases q:ds.length=ps.length
 .rw[ZR q]at hf
  refine⟨by rw[<-r_.length,q],B,H,cE N.length ds,?_⟩;cases qo:g (cE N.length ds)with
  |none=>rw[qo]at hf;trivial
  |some o=>
   rw[qo]at hf;refine⟨o,hJ hB r_ (by lia),rfl,?_⟩;cases o with
   |ret d V3=>
    simp only[qL,ZL,Xy]at hf;obtain⟨rfl,rfl⟩:=hf;exact λv H' x s rr=>h1 _ _ (kk v H' s rr)
   |next O=>
    simp only[qL,ZL,Xy]at hf;obtain⟨rfl,rfl⟩:=hf;exact λi_ H' x R'=>h2 _ _ (kk .non H' R'.same (by unfold nh;rw[ZK Zr];simp only[Rep]))
   |brk O=>simp only[qL]at hf;trivial
   |cont O=>simp only[qL]at hf;trivial
 rw[ZK q]at hf;trivial
def D00:Ends:=⟨λ_ _=>True,λ_ _=>True,λ_ _=>True,λ_ _=>True⟩
def yK{x qual:Str}{st:Stmt}{f:ZM}{fd:FuncData}{N ps:Z_ Str}{k:Nat}{g:Mk->Z9 Out}(F:Fun K x qual st f fd)(S:aaw N ps (defScope st))(hb:Binds K fd ps [])(hm:mg x=U (.ref f))(hn:ps.length<=N.length)
  (body:∀(A:Y9)(outer:Z_ Env)(s:ZT)(H:Hp)(E:XK),aaq k (A.deeper (envOfC qual (defScope st) s.z f fd.code))->DSs (pF CX0 P w K mg base N qual (defScope st) f fd.code A outer s H E).nox (defBody st) g):
  aa9 P w K mg base CX0 (k+1) f fd ps (spM K (bE N.length ps.length g))/\FnM P w K mg base (k+1) x (bE N.length ps.length g):=
 have key:=F.ok S (λvs H Q E h=>(yp (Dn:=D00) hn h (λ_ _ _=>trivial) λ_ _ _=>trivial).1) λA outer s H vs Q E hr h=>⟨_,body A outer s H E hr,(yp hn h (λ_ _ h=>h) λ_ _ h=>h).2⟩
 ⟨key,⟨f,fd,ps,key,hm,F.kp,hb⟩⟩
end
def dN{q:Type}:Z_ q->Z_ Bool->Z_ q
 |x::xs,b::bs=>if b=L then x::dN xs bs else dN xs bs
 |_,_=>[]
def jc{q:Type}(bs:Z_ Bool):dN ([]:Z_ q) bs=[]:=by unfold dN;rfl
def Ag{q:Type}{xs:Z_ q}{bs:Z_ Bool}{i:Nat}(h:i<xs.length)(hb:bs[i]?=U b):dN (xs.drop i) (bs.drop i)=if b=L then xs[i]::dN (xs.drop (i+1)) (bs.drop (i+1)) else dN (xs.drop (i+1)) (bs.drop (i+1)):=by
 obtain⟨h2,e⟩:=ZX.mp hb;rw[Zx h,Zx h2,e];rw[dN]
theorem gn{K:Z6}{B:ZM->Prop}{H:Hp}:∀{ds:Z_ D}{xs:Z_ V}{bs:Z_ Bool},M1 K B H ds xs->M1 K B H (dN ds bs) (dN xs bs)
 |[],xs,bs,h=>by simp only[M1]at h;subst h;rw[jc,jc];exact M1.nil
 |d::ds,xs,bs,h=>by
  simp only[M1]at h;obtain⟨x,r,rfl,h1,h2⟩:=h;cases bs with
  |nil=>unfold dN;exact M1.nil
  |cons b bs=>
   rw[dN,dN];cases b with
   |true=>simp only[Y1];exact M1.cons h1 (gn h2)
   |false=>simp only[ZI,Zb];exact gn h2
def uE{K:Z6}{Z:St}{H:Hp}{Q:VK}{r j:Nat}{bs bl:Z_ Bool}{ft:Mk->Z9 Bool}{B:ZM->Prop}{Hk:Hp}{O:Mk}{ds:Z_ D}(hl:bs.length=Z.length)(R:Rel K B Hk O Z H)(hr:O[r]?=U (U (.lst ds,L)))(hj:j<Z.length)
  (N9:bl.length=ds.length) (H_:ds.length<=lim) (Vp:∀(i:Nat) d b,ds[i]?=U d->bl[i]?=U b->ft ((au L bs O).set j (U (d,Y)))=U b)
  (k:∀l xs a H',Z[r]?=U (U (.ref l))->H l=U (.lst xs)->M1 K B H ds xs->aaa H H'->H a=M->H' a=U (.lst (dN xs bl))->Q (.ref a) H'):
  qh (Dj K (vO r)) bs (h9 j) (tMT K ft) (vO j) Z H Q:=by
 obtain⟨l,h1,h2,xs,h3,h4⟩:=R.own r _ hr;have hlen:=h4.length;refine⟨.ref l,h1,l,rfl,⟨xs,.inl (.inl h3)⟩,λacc t_=>?_⟩;have nb:¬bh L B O Z acc:=λz=>by obtain⟨o,q⟩:=R.bsH L acc z;rw[t_]at q;trivial
 have R2:Rel K (bh L B O Z) H (au L bs O) (rG bs Z) (upd H acc (.lst [])):=(lY (bo:=L) (bs:=bs) R hl).to (ax t_);have P9:be (au L bs O):=λj d h=>by obtain⟨_,h2,_⟩:=cQ h;trivial
 refine⟨λi n ys i_ H'=>n=xs.length - i/\i<=xs.length/\ys.length<=i/\H' acc=U (.lst ys)/\aaa H H'/\dN xs bl=ys++dN (xs.drop i) (bl.drop i)/\i_.length=Z.length/\∃h_,Rel K (bh L B O Z) H h_ i_ H'/\be h_/\h_.set j M=(au L bs O).set j M,
  ⟨xs.length,by simp,Zo _,ZP _,ah,ax t_,by simp,dL hl,au L bs O,R2,P9,rfl⟩,?_⟩
 intro i n ys i_ H' hz;obtain⟨rfl,hi,Qj,ha,sm,hp,Nw,h_,R',nw,hd⟩:=hz;refine⟨ha,?_⟩;have hq:SqL K H' l xs:=.inl (.inl (sm l _ h3));by_cases ka:i<xs.length;refine .inr ⟨⟨xs,xs[i],hq,by simp⟩,λx H2 ⟨e2,hx⟩=>?_⟩;subst e2;obtain rfl:xs[i]=x:=by have:=hx xs hq;simpa[ka]using this
 obtain⟨d,J5,rd⟩:=(h4.ext (sm.ext R.abm)).get' (i:=i) (x:=xs[i]) (by simp[ka]);have Jq:Rep K (bh L B O Z) H2 d xs[i]:=rd.more λa h=>jO L a h;have R3:=R'.set (i:=j) (by lia) Jq;have Rt:∀y,h_.set j y=(au L bs O).set j y:=λy=>by
  have:=congrArg (λz=>z.set j y) hd;simpa only[Yg]using this
 obtain⟨b,hb⟩:∃b,bl[i]?=U b:=⟨bl[i]'(by lia),by simp⟩
 have P6:be (h_.set j (U (d,Y))):=λm e z=>by
  by_cases hm:m=j;subst hm;have LR:m<h_.length:=by rw[R'.len];lia
  rw[ZU LR]at z;cases z;rw[ZY (ZC hm)]at z;exact nw m e z
 have OC:(h_.set j (U (d,Y))).set j M=(au L bs O).set j M:=by rw[Yg];exact hd
 show tMT K ft (i_.set j (U xs[i])) H2 _;refine⟨_,H,_,b,R3,by rw[Rt];exact Vp i d b J5 hb,λH3 s3=>?_⟩;have QJ:=s3 acc _ ha;have pa:=Ag ka hb;rw[pa]at hp;cases b with
 |false=>
  rw[ZK Zr]at hp;exact vL ⟨xs.length - (i+1),by lia,rfl,ka,by lia,QJ,sm.trans s3,hp,by rw[Zm];exact Nw,_,R3.to s3,P6,OC⟩
 |true=>
  rw[ZR rfl]at hp;have R4:=R3.to s3;have x5:Ext (bh L B O Z) H3 (upd H3 acc (.lst (ys++[xs[i]]))):=bP QJ trivial nb;have R5:Rel K (bh L B O Z) H (h_.set j (U (d,Y))) (i_.set j (U xs[i])) (upd H3 acc (.lst (ys++[xs[i]]))):=by
   refine⟨R4.same.put t_,R4.bor,R4.len,λm e h=>?_,λm e h=>(P6 m e h).elim,R4.dis⟩;obtain⟨v,z1,z2⟩:=R4.var m e h;exact⟨v,z1,z2.ext x5⟩
  refine wX ⟨xs[i],ZU (by lia),QJ,by have:=aD H_;lia,xs.length - (i+1),by lia,rfl,ka,by rw[Zv,List.length_singleton];lia,ah,(sm.trans s3).put t_,by rw[hp,Zg];rfl,by rw[Zm];exact Nw,_,R5,P6,OC⟩
 have o_:i=xs.length:=by lia
 subst o_;rw[Xj,jc,Y3]at hp;exact .inl ⟨⟨xs,hq,ZP _⟩,k l xs acc H' h1 h3 h4 sm t_ (by rw[hp];exact ha)⟩
def tV:bootBuiltins "list"=U (.type "list"):=by decide +kernel
def oS:bootBuiltins "tuple"=U (.type "tuple"):=by decide +kernel
def Cb:bootBuiltins "sum"=U (.builtin "sum"):=by decide +kernel
def jz:bootBuiltins "isinstance"=U (.builtin "isinstance"):=by decide +kernel
def Cf:bootBuiltins "int"=U (.type "int"):=by decide +kernel
def DZ:bootBuiltins "str"=U (.type "str"):=by decide +kernel
def Bp:bootBuiltins "bool"=U (.type "bool"):=by decide +kernel
def BP:bootBuiltins "set"=U (.type "set"):=by decide +kernel
def gJ:bootBuiltins "sorted"=U (.builtin "sorted"):=by decide +kernel
noncomputable def vQ(x:Str)(lo hi:Z9 Int):Str:=if((Builtin.Str.strSliceIndices lo hi 1 x.length).length==x.length)=L then x else⟨((Builtin.Str.strSliceIndices lo hi 1 x.length).filterMap (x.cps[·]?)).toArray⟩
def jN(x:Str)(lo hi:Z9 Int):(vQ x lo hi).length<=x.length:=by
 unfold vQ;split;exact ZP _;show((Builtin.Str.strSliceIndices lo hi 1 x.length).filterMap (x.cps[·]?)).toArray.size<=_;rw[ZW];exact ZF (WU _ _) (sliceIndices_le lo hi x.length)
section
def ul(h:IsPart v o):∃l:Z9 (Int×Tok),v=partValue l/\l.map (·.1)=o:=by
 cases h with
 |none=>exact⟨M,rfl,rfl⟩
 |int i t=>exact⟨U (i,t),rfl,rfl⟩
def Dk:SlR X (λx lo hi H Q=>∃z,x=.str z/\z.length<=sizeLine/\Q (.str (vQ z lo hi)) H):=by
 intro a_ s O H x v vl vu lo hi sl Q I rx hs pl pu h;obtain⟨z,rfl,hz,q⟩:=h;obtain⟨t,rfl⟩:=rx;obtain⟨l,rfl,rfl⟩:=ul pl;obtain⟨u,rfl,rfl⟩:=ul pu;refine⟨"str",_,F.slot_str_getitem.lookup,typeIs_str s z t,wpAny_getItem_str_slice (l:=l) (u:=u) (st:=M) hs rfl ?_⟩;have key:(sliceMade z t l u M)=if((Builtin.Str.strSliceIndices (l.map (·.1)) (u.map (·.1)) 1 z.length).length==z.length)=L then Made.val (.str z t) else Made.str ⟨((Builtin.Str.strSliceIndices (l.map (·.1)) (u.map (·.1)) 1 z.length).filterMap (z.cps[·]?)).toArray⟩:=by
  unfold sliceMade slicePicked;simp
 rw[key];refine post_val_or_made (λhc=>?_) λt' k=>⟨.str (vQ z (l.map (·.1)) (u.map (·.1))),H,I.tok k,⟨t',rfl⟩,q⟩
 have hle:=jN z (l.map (·.1)) (u.map (·.1));unfold vQ at hle;rw[ZK hc]at hle;exact ZF hle hz
end
def DO(X:Cx)(e:Z9 Expr)(f:Mk->Z9 (Z9 Int)):Prop:=PO X e (λO H Q=>∃B Hk q o,Rel X.K B Hk q O H/\f q=U o/\∀H',aaa H H'->Q o H')
def PO.imp(h:PO X e t)(i:∀O H Q,t' O H Q->t O H Q):PO X e t':=λa_ s O H Q I q=>h a_ s O H Q I (i O H Q q)
def gO(x:Z9 D):Z9 (Z9 Int):=match x with|some (.int i)=>U (U i)|_=>M
section
variable{X:Cx}{m:Bool}{a b:Expr}{fa:Mk->Z9 D}{pos p:Pos}{lo hi:Z9 Expr}{fl fh:Mk->Z9 (Z9 Int)}
theorem AZ:DO X M (λ_=>U M):=Bo.imp λq H Q hz=>by obtain⟨B,Hk,O,o,R,e,k⟩:=hz;obtain rfl:=Z7 e;exact k H (aaa.refl H)
set_option tactic.hygienic true in
theorem AH(h:DE X m a fa):DO X (U a) (λO=>gO (fa O)):=(Bu h).imp λZ H Q hz=>by
 obtain⟨B,Hk,O,o,R,e,k⟩:=hz;unfold gO at e;dsimp only at e;split at e;rename_i i q;obtain rfl:=Z7 e;refine⟨B,Hk,O,_,R,q,λv H' s r=>?_⟩;simp only[Rep]at r;exact⟨i,r,k H' s⟩;trivial
def CY{K:Z6}{O:St}{H:Hp}{B:ZM->Prop}{Hk:Hp}{q:Mk}{d:D}{l u:Z9 Int}{r:V->Z9 Int->Z9 Int->Hp->VK->Prop}{Q:VK}(R:Rel K B Hk q O H)(e1:fa q=U d)(e2:fl q=U l)(e3:fh q=U u)
  (k:∀v H',aaa H H'->Rel K B Hk q O H'->Rep K (bh m B q O) H' d v->r v l u H' Q):
  tSl r (tM K m fa) (λO H Q=>∃B Hk q o,Rel K B Hk q O H/\fl q=U o/\∀H',aaa H H'->Q o H') (λO H Q=>∃B Hk q o,Rel K B Hk q O H/\fh q=U o/\∀H',aaa H H'->Q o H') O H Q:=
 ⟨B,Hk,q,d,R,e1,λv H1 s1 r1=>⟨B,Hk,q,l,R.to s1,e2,λH2 s2=>⟨B,Hk,q,u,R.to (s1.trans s2),e3,λH3 s3=>k v H3 (s1.trans (s2.trans s3)) (R.to (s1.trans (s2.trans s3))) (r1.same (R.to s1) (s2.trans s3))⟩⟩⟩
noncomputable def mw(x:Z9 D)(l u:Z9 (Z9 Int)):Z9 D:=match x,l,u with|some (.str z),some l,some u=>if z.length<=lim then U (.str (vQ z l u)) else M|_,_,_=>M
set_option tactic.hygienic true in
theorem Ax(ha:DE X m a fa)(hl:DO X lo fl)(hh:DO X hi fh):DE X mm (.Subscript a (.Slice lo hi M p2) pos) (λq=>mw (fa q) (fl q) (fh q)):=
 (oI Dk ha hl hh).imp λO H Q hz=>by
  obtain⟨B,Hk,q,d,R,e,k⟩:=hz;unfold mw at e;dsimp only at e;split at e;rename_i z l u q1 q2 q3;by_cases hz:z.length<=lim;rw[ZR hz]at e;obtain rfl:=Z7 e;refine CY R q1 q2 q3 λv H' s R' r=>?_;simp only[Rep]at r;exact⟨z,r,aD hz,k _ H' s (by simp only[Rep])⟩;rw[ZK hz]at e;trivial;trivial
def mj(ds:Z_ D)(lo hi:Z9 Int):Z_ D:=(ds.drop (HT.sIx ds.length 0 lo)).take (HT.sIx ds.length ds.length hi - HT.sIx ds.length 0 lo)
def M1.cut{K:Z6}{B:ZM->Prop}{H:Hp}{ds:Z_ D}{xs:Z_ V}(r:M1 K B H ds xs)(lo hi:Z9 Int):M1 K B H (mj ds lo hi) (AJ xs lo hi):=by
 unfold mj AJ;rw[r.length];exact(r.drop _).take _
noncomputable def mG(x:Z9 D)(l u:Z9 (Z9 Int)):Z9 D:=match x,l,u with|some (.lst ds),some l,some u=>U (.lst (mj ds l u))|_,_,_=>M
set_option tactic.hygienic true in
theorem Bx(ha:DE X Y a fa)(hl:DO X lo fl)(hh:DO X hi fh):DF X (.Subscript a (.Slice lo hi M p2) pos) (λq=>mG (fa q) (fl q) (fh q)):=
 (oI A4 ha hl hh).imp λO H Q hz=>by
  obtain⟨B,Hk,q,d,R,e,k⟩:=hz;unfold mG at e;dsimp only at e;split at e;rename_i ds l u q1 q2 q3;obtain rfl:=Z7 e;refine CY R q1 q2 q3 λv H' s R' r=>?_;simp only[Rep]at r;obtain⟨c,xs,rfl,hq,rs⟩:=r;refine⟨c,xs,rfl,hq.sq,λp hp=>?_⟩;have s2:=ax (o:=.lst (AJ xs l u)) hp;exact k p _ (s.trans s2) (s.free hp) ⟨_,ah,(rs.cut l u).same (m:=Y) R' s2⟩;trivial
noncomputable def AY(x y:Z9 D):Z9 D:=match x,y with|some (.str i),some (.str j)=>if i.length+j.length<=lim then U (.str (i++j)) else M|_,_=>M
set_option tactic.hygienic true in
theorem Bh(ha:DE X m a fa)(hb:DE X m' b fb):DE X mm (.BinOp a .Add b pos) (λq=>AY (fa q) (fb q)):=
 (xX rq ha hb).imp λO H Q hz=>by
  obtain⟨B,Hk,q,d,R,e,k⟩:=hz;unfold AY at e;dsimp only at e;split at e;rename_i i j q1 q2;by_cases hz:i.length+j.length<=lim;rw[ZR hz]at e;obtain rfl:=Z7 e;refine two R q1 q2 λv u H' s R' r1 r2=>?_;simp only[Rep]at r1 r2;subst r1 r2;exact⟨i,j,rfl,rfl,aD hz,k _ H' s (by simp only[Rep])⟩;rw[ZK hz]at e;trivial;trivial
def hV(x:Z9 D):Z9 D:=match x with|some d=>(match aT d with|some ds=>U (.lst ds)|none=>M)|none=>M
set_option tactic.hygienic true in
def zC{g:Z_ D->D}(h:(match x with|some d=>(match aT d with|some ds=>U (g ds)|none=>M)|none=>M)=U d):∃e es,x=U e/\aT e=U es/\d=g es:=by
 split at h;rename_i e;split at h;rename_i es he;obtain rfl:=Z7 h;exact⟨e,es,rfl,he,rfl⟩;trivial;trivial
theorem uq(g:Gl X "list")(hm:X.mg "list"=M)(ha:DE X Y a fa)(hs:starEach [a] X.env=[(Y,eval a X.env)]:=by rfl):DF X (.Call (.Name "list" p) [a] [] pos) (λq=>hV (fa q)):=
 (cV kC g hm tV (aw ha aK hs) (he:=hs)).imp λO H Q hz=>by
  obtain⟨B,Hk,q,d,R,e,k⟩:=hz;obtain⟨d1,es,e1,hi,rfl⟩:=zC (g:=D.lst) e;refine qq R e1 λv H' s R' r=>?_;obtain⟨p,xs,rfl,hq,rs⟩:=r.items hi;refine⟨p,xs,rfl,hq,λl hl=>?_⟩;have s2:=ax (o:=.lst xs) hl;exact k l _ (s.trans s2) (s.free hl) ⟨_,ah,rs.same (m:=Y) R' s2⟩
def dw(x:Z9 D):Z9 D:=match x with|some d=>(match aT d with|some ds=>U (.tup ds)|none=>M)|none=>M
theorem wN(g:Gl X "tuple")(hm:X.mg "tuple"=M)(ha:DE X m a fa)(hs:starEach [a] X.env=[(Y,eval a X.env)]:=by rfl):DE X m (.Call (.Name "tuple" p) [a] [] pos) (λq=>dw (fa q)):=
 (cV jG g hm oS (aw ha aK hs) (he:=hs)).imp λO H Q hz=>by
  obtain⟨B,Hk,q,d,R,e,k⟩:=hz;obtain⟨d1,es,e1,hi,rfl⟩:=zC (g:=D.tup) e;refine qq R e1 λv H' s R' r=>?_;cases d1 with
  |lst ds=>
   simp only[aT]at hi;obtain rfl:=Z7 hi;simp only[Rep]at r;obtain⟨c,xs,rfl,hq,rs⟩:=r;refine⟨c,xs,rfl,.inl ⟨hq.sq,λl hl=>?_⟩⟩;have s2:=ax (o:=.tup xs) hl;refine k _ _ (s.trans s2) ?_;simp only[Rep];exact⟨l,xs,rfl,ah,rs.same R' s2⟩
  |tup ds=>
   simp only[aT]at hi;obtain rfl:=Z7 hi;have r':=r;simp only[Rep]at r;obtain⟨c,xs,rfl,hq,rs⟩:=r;exact⟨c,xs,rfl,.inr ⟨SqT.of hq,k _ H' s r'⟩⟩
  |_=>simp[aT]at hi
def dG:Z_ D->Z9 (Z_ Int)
 |[]=>U []
 |.int i::ds=>(match dG ds with|some l=>U (i::l)|none=>M)
 |_=>M
theorem iB:∀{ds:Z_ D}{ns:Z_ Int},dG ds=U ns->ds=ns.map D.int
 |[],ns,h=>by simp only[dG,ZL]at h;subst h;rfl
 |.int i::ds,ns,h=>by
  simp only[dG]at h;cases q:dG ds with
  |none=>rw[q]at h;trivial
  |some l=>
   rw[q]at h;simp only[ZL]at h;subst h;rw[Z2,iB q]
 |.non::ds,ns,h=>by simp[dG]at h
 |.bl _::ds,ns,h=>by simp[dG]at h
 |.str _::ds,ns,h=>by simp[dG]at h
 |.tup _::ds,ns,h=>by simp[dG]at h
 |.lst _::ds,ns,h=>by simp[dG]at h
 |.dK _ _::ds,ns,h=>by simp[dG]at h
 |.dD _ _::ds,ns,h=>by simp[dG]at h
theorem M1.ints{K:Z6}{B:ZM->Prop}{H:Hp}:∀{ns:Z_ Int}{xs:Z_ V},M1 K B H (ns.map D.int) xs->xs=ns.map V.int
 |[],xs,h=>by simpa only[Y6,M1]using h
 |n::ns,xs,h=>by
  simp only[Z2,M1]at h;obtain⟨x,r,rfl,h1,h2⟩:=h;simp only[Rep]at h1;rw[Z2,h1,M1.ints h2]
def xE(hc:X.calm=L):fx X (.builtin "sum") (λxs H Q=>∃(p:ZM)(ns:Z_ Int),xs=[.ref p]/\SqL X.K H p (ns.map V.int)/\Q (.int ns.sum) H):=by
 intro a_ s O H xs us Q I r h;obtain⟨p,ns,rfl,hq,q⟩:=h;obtain⟨u,rfl,rx⟩:=hZ r;cases rx;obtain⟨its,rv,pl,hz⟩:=I.list hq;have hi:=qm rv;obtain⟨xs,Si⟩:=hi.allInts.items;have hl:=pl.isList;rw[Si]at hl;refine PySem.sum_intListG (I.ok.hd hc) hl λh' tk t' hk=>?_;have e1:preSum (numAt xs) xs.size=ns.sum:=by
  rw[preSum_eq,YD (by simp)];have:=hi.numsOf;rw[show its=its.toArray.toList from rfl,Si,nums_intItems]at this;rw[this]
 rw[e1];exact⟨.int ns.sum,H,I.kept hk,⟨t',rfl⟩,q⟩
noncomputable def CF(x:Z9 D):Z9 D:=match x with|some (.lst ds)=>(match dG ds with|some ns=>U (.int ns.sum)|none=>M)|_=>M
set_option tactic.hygienic true in
theorem DH(hc:X.calm=L)(g:Gl X "sum")(hm:X.mg "sum"=M)(ha:DE X m a fa)(hs:starEach [a] X.env=[(Y,eval a X.env)]:=by rfl):DE X mm (.Call (.Name "sum" p) [a] [] pos) (λO=>CF (fa O)):=
 (c7 (xE hc) g hm Cb (aw ha aK hs) (he:=hs)).imp λZ H Q hz=>by
  obtain⟨B,Hk,O,d,R,e,k⟩:=hz;unfold CF at e;dsimp only at e;split at e;rename_i ds q;split at e;rename_i ns qn;obtain rfl:=Z7 e;obtain rfl:=iB qn;refine qq R q λv H' s R' r=>?_;simp only[Rep]at r;obtain⟨c,xs,rfl,hq,rs⟩:=r;obtain rfl:=rs.ints;exact⟨c,ns,rfl,hq.sq,k _ H' s (by simp only[Rep])⟩;trivial;trivial
def tyD:D->Z9 String
 |.non=>U "NoneType"|.bl _=>U "bool"|.int _=>U "int"|.str _=>U "str"|.tup _=>U "tuple"|.lst _=>U "list"|_=>M
def Ed(t c:String):Bool:=t==c||(t=="bool"&&c=="int")
def vR(c:String)(x:Z9 D):Z9 D:=match x with|some d=>(match tyD d with|some t=>U (.bl (Ed t c))|none=>M)|none=>M
def v0(hc:c="int"\/c="bool"\/c="str"\/c="list"\/c="tuple"):fx X (.builtin "isinstance") (λxs H Q=>∃B d x t,xs=[x,.ty c]/\Rep X.K B H d x/\tyD d=U t/\Q (.bl (Ed t c)) H):=by
 intro a_ s O H xs us Q I r h;obtain⟨B,d,x,t,rfl,rx,ht,q⟩:=h;obtain⟨u,w',rfl,ru,F_⟩:=ER r;cases F_;have fin:∀b,b=Ed t c->∀tk,EP X a_ O Q (.bool b) {s with toks:=tk}:=λb e tk=>⟨.bl b,H,I.tok tk,rfl,by rw[e];exact q⟩
 have Nt:∀(T:String),(T="NoneType"\/T="bool"\/T="int"\/T="str"\/T="list"\/T="tuple")->W.kitOne X.K (.type T) (.type c)=U (Ed T c):=λT hT=>by
  rcases hc with rfl|rfl|rfl|rfl|rfl<;>rcases hT with rfl|rfl|rfl|rfl|rfl|rfl<;>rfl
 cases d with
 |non=>simp only[tyD,ZL]at ht;subst ht;simp only[Rep]at rx;subst rx;exact eK I ru (.non) (Nt _ (by simp)) (fin _ rfl)
 |bl b=>simp only[tyD,ZL]at ht;subst ht;simp only[Rep]at rx;subst rx;exact eK I ru (.bl b) (Nt _ (by simp)) (fin _ rfl)
 |int b=>simp only[tyD,ZL]at ht;subst ht;simp only[Rep]at rx;subst rx;exact eK I ru (.int b) (Nt _ (by simp)) (fin _ rfl)
 |str b=>simp only[tyD,ZL]at ht;subst ht;simp only[Rep]at rx;subst rx;exact eK I ru (.str b) (Nt _ (by simp)) (fin _ rfl)
 |tup ds=>
  simp only[tyD,ZL]at ht;subst ht;simp only[Rep]at rx;obtain⟨a,xs,rfl,hq,_⟩:=rx;cases ru;obtain⟨its,_,⟨o,h1,h2,_⟩,_⟩:=I.tuple (SqT.of hq);exact Yz W.kitx_tuple I.kIn ⟨o,h1,h2⟩ (Nt _ (by simp)) (λz=>nomatch z) (fin _ rfl)
 |lst ds=>
  simp only[tyD,ZL]at ht;subst ht;simp only[Rep]at rx;obtain⟨a,xs,rfl,hq,_⟩:=rx;cases ru;obtain⟨its,_,⟨o,n,h1,h2,_⟩,_⟩:=I.list hq.sq;exact Yz W.kitx_list I.kIn ⟨o,h1,h2⟩ (Nt _ (by simp)) (λz=>nomatch z) (fin _ rfl)
 |dK _ _=>simp[tyD]at ht
 |dD _ _=>simp[tyD]at ht
set_option tactic.hygienic true in
theorem BW(hc:cs="int"\/cs="bool"\/cs="str"\/cs="list"\/cs="tuple")(g:Gl X "isinstance")(hm:X.mg "isinstance"=M)(gc:Gl X c)(U8:X.mg c=M)(hv:bootBuiltins c=U (.type cs))(ha:DE X m a fa)(hs:starEach [a,.Name c pc] X.env=[(Y,eval a X.env),(Y,eval (.Name c pc) X.env)]:=by rfl)(IW:starEach [.Name c pc] X.env=[(Y,eval (.Name c pc) X.env)]:=by rfl)(hn:c≠"__name__":=by decide)(hd:(c==("__debug__":Str))=Y:=by decide)(hpl:(backTo pos (starEach [.Name c pc] X.env)).any (·.1)=Y:=by rfl):
  DE X mm (.Call (.Name "isinstance" p) [a,.Name c pc] [] pos) (λO=>vR cs (fa O)):=
 (c7 (v0 hc) g hm jz (aw ha (aw (Al (v:=.ty cs) gc U8 hv rfl hn hd) aK IW) (by rw[hs,IW])) (he:=by rw[hs,IW]) (hpl:=hpl)).imp λZ H Q hz=>by
  obtain⟨B,Hk,O,d,R,e,k⟩:=hz;unfold vR at e;dsimp only at e;split at e;rename_i d1 q;split at e;rename_i t qt;obtain rfl:=Z7 e;exact⟨B,Hk,O,d1,R,q,λv H' s r=>⟨_,d1,v,t,rfl,r,qt,k _ H' s (by simp only[Rep])⟩⟩;trivial;trivial
end
end L2
namespace SM
open PySem PyProof.Rows
structure aaI (LT:Keyed->Keyed->Bool):Prop where
 aa8:∀x y,LT x y=true->LT y x=false
 tr:∀x y z,LT y x=false->LT z y=false->LT z x=false
def aaI.irr{LT:Keyed->Keyed->Bool}(O:aaI LT)(x:Keyed):LT x x=Y:=by
 cases h:LT x x with
 |false=>rfl
 |true=>exact h.symm.trans (O.aa8 x x h)
def Ans(prog:Y5)(w:YV)(A:Y9)(s:ZT)(κ:SortKind)(LT:Keyed->Keyed->Bool)(T:Array Keyed):Prop:=
 ∀x∈T,∀y∈T,∀C:Bool->ZT->Prop,C (LT x y) s->wpAny (model prog w) A (keyLt' κ x.1 y.1) C (λ_ _=>False) s
abbrev nK:Keyed:=(Value.none,Value.none)
def K(a:Array Keyed)(i:Nat):Keyed:=(a[i]?).getD nK
def Fo{a:Array Keyed}{i:Nat}(h:i<a.size):a[i]?=U (K a i):=by unfold K;rw[getElem?_pos a i h];rfl
def Aj{a:Array Keyed}{i:Nat}(h:i<a.size):K a i∈a:=by unfold K;rw[getElem?_pos a i h];exact Array.getElem_mem h
def BI{a b:Array Keyed}{i j:Nat}(h:a[i]?=b[j]?):K a i=K b j:=by unfold K;rw[h]
def jJ{a:Array Keyed}{i j:Nat}(hj:j<=a.size)(k:Nat):K (mirror a i j ((j - i) / 2)) k=if i<=k/\k<j then K a (i+j - 1 - k) else K a k:=by
 have e:=getElem?_mirror_all (i:=i) hj k;by_cases h:i<=k/\k<j;rw[ZR h]at e⊢;exact BI e;rw[ZK h]at e⊢;exact BI e
def Be{a:Array Keyed}{src d:Nat}(hs:src<a.size)(hd:d<=src)(k:Nat):K (bubble a src d) k=if k=src - d then K a src else if src - d<k/\k<=src then K a (k - 1) else K a k:=by
 have e:=getElem?_bubble hs d hd k;by_cases h:k=src - d;rw[ZR h]at e⊢;exact BI e;rw[ZK h]at e⊢;by_cases h2:src - d<k/\k<=src;rw[ZR h2]at e⊢;exact BI e;rw[ZK h2]at e⊢;exact BI e
section
variable{LT:Keyed->Keyed->Bool}{T:Array Keyed}{st:SortSt}
def Up(LT:Keyed->Keyed->Bool)(a:Array Keyed)(i j:Nat):Prop:=∀p q,i<=p->p<=q->q<j->LT (K a q) (K a p)=Y
def Dn(LT:Keyed->Keyed->Bool)(a:Array Keyed)(i j:Nat):Prop:=∀p q,i<=p->p<=q->q<j->LT (K a p) (K a q)=Y
def Up.one(O:aaI LT){a:Array Keyed}{i:Nat}:Up LT a i (i+1):=λp q h1 h2 h3=>by
 have e:p=q:=by lia
 rw[e];exact O.irr _
def Dn.one(O:aaI LT){a:Array Keyed}{i:Nat}:Dn LT a i (i+1):=λp q h1 h2 h3=>by
 have e:p=q:=by lia
 rw[e];exact O.irr _
def Up.snoc(O:aaI LT){a:Array Keyed}{i j:Nat}(h:Up LT a i j)(LJ:i<j)(hl:LT (K a j) (K a (j - 1))=Y):Up LT a i (j+1):=λp q h1 h2 h3=>by
 by_cases e:q=j;subst e;by_cases e':p=q;rw[e'];exact O.irr _;exact O.tr _ _ _ (h p (q - 1) h1 (by lia) (by lia)) hl;exact h p q h1 h2 (by lia)
def Dn.snoc(O:aaI LT){a:Array Keyed}{i j:Nat}(h:Dn LT a i j)(LJ:i<j)(hl:LT (K a (j - 1)) (K a j)=Y):Dn LT a i (j+1):=λp q h1 h2 h3=>by
 by_cases e:q=j;subst e;by_cases e':p=q;rw[e'];exact O.irr _;exact O.tr _ _ _ hl (h p (q - 1) h1 (by lia) (by lia));exact h p q h1 h2 (by lia)
def rQ(H:Ans prog w A s κ LT T)(hk:kindOf st=κ){x y:Keyed}{Q:Z9 Bool->SortSt->Prop}(hx:x∈T)(hy:y∈T)(h:Q (U (LT x y)) st):wpS (model prog w) A E s (lt' x y) Q st:=by
 rw[lt'_eq];refine ZD (Wn ?_);rw[hk];refine ZD (wpS_lift (XT (YN (H x hx y hy (λb s'=>s'=s/\wpS (model prog w) A E s (pure (U b)) Q st) ⟨rfl,Zy h⟩) (λ_ _ h=>h) λ_ _ h=>h.elim)))
def aF{a:Array Keyed}{i:Nat}{Q:Keyed->SortSt->Prop}(hi:i<a.size)(h:Q (K a i) st):wpS (model prog w) A E s (elem' a i) Q st:=by
 rw[elem'_eq,Fo hi];exact Zy h
def gF(H:Ans prog w A s κ LT T)(hk:kindOf st=κ)(hp:(arrOf st).Perm T){i j:Nat}{Q:Z9 Bool->SortSt->Prop}(hi:i<T.size)(hj:j<T.size)(h:Q (U (LT (K (arrOf st) i) (K (arrOf st) j))) st):
  wpS (model prog w) A E s (ltAt' i j) Q st:=by
 have hz:=hp.size_eq;rw[ltAt'_eq];refine ZD (Wn ?_);exact ZD (aF (by lia) (ZD (aF (by lia) (rQ H hk (hp.mem_iff.mp (Aj (by lia))) (hp.mem_iff.mp (Aj (by lia))) h))))
structure Chg (T a:Array Keyed)(lo:Nat)(a':Array Keyed):Prop where
 perm:a'.Perm T
 keep:∀k,k<lo->K a' k=K a k
def Chg.rev{a a':Array Keyed}{lo i j:Nat}(h:Chg T a lo a')(hi:lo<=i)(hj:j<=T.size):Chg T a lo (mirror a' i j ((j - i) / 2)):=by
 have hz:=h.perm.size_eq;refine⟨(mirror_perm a' i j _).trans h.perm,λk hk=>?_⟩;rw[jJ (by lia),ZK (by lia)];exact h.keep k hk
def Chg.bub{a a':Array Keyed}{lo src d:Nat}(h:Chg T a lo a')(hs:src<T.size)(hd:lo+d<=src):Chg T a lo (bubble a' src d):=by
 have hz:=h.perm.size_eq;refine⟨(bubble_perm a' src d).trans h.perm,λk hk=>?_⟩;rw[Be (by lia) (by lia),ZK (by lia),ZK (by lia)];exact h.keep k hk
def vZ{a:Array Keyed}{i j:Nat}(hj:j<=a.size)(h:Dn LT a i j):Up LT (mirror a i j ((j - i) / 2)) i j:=λp q h1 h2 h3=>by
 rw[jJ hj,jJ hj,ZR ⟨by lia,h3⟩,ZR ⟨h1,by lia⟩];exact h _ _ (by lia) (by lia) (by lia)
def uV{a:Array Keyed}{lo i j:Nat}(hj:j<=a.size)(hi:lo<=i)(h:Dn LT a lo j)(e:∀p q,i<=p->i<=q->p<j->q<j->LT (K a p) (K a q)=Y):Dn LT (mirror a i j ((j - i) / 2)) lo j:=λp q h1 h2 h3=>by
 rw[jJ hj,jJ hj];by_cases c1:i<=p/\p<j;rw[ZR c1];by_cases c2:i<=q/\q<j;rw[ZR c2];exact e _ _ (by lia) (by lia) (by lia) (by lia);lia;rw[ZK c1];by_cases c2:i<=q/\q<j;rw[ZR c2];exact h _ _ h1 (by lia) (by lia);rw[ZK c2];exact h _ _ h1 h2 h3
def yQ(O:aaI LT)(H:Ans prog w A s κ LT T)(hk:kindOf st=κ){a:Array Keyed}(hc:(arrOf st).Perm T){lo n m_:Nat}(hz:lo+m_<=T.size)(hn:1<=n)(Pk:n<=m_)(hu:Up LT (arrOf st) lo (lo+n))
  {q:Type}{Q:q->SortSt->Prop}{f:Z9 (Z9 Nat)×Nat->StateT SortSt Sem q}(h:∀m,n<=m->m<=m_->Up LT (arrOf st) lo (lo+m)->(m<m_->LT (K (arrOf st) (lo+m)) (K (arrOf st) (lo+m - 1))=L)->wpS (model prog w) A E s (f (M,m)) Q st):
  wpS (model prog w) A E s (forIn [n:m_] ((M,n):Z9 (Z9 Nat)×Nat) (λ_ r=>do
   let x <-ltAt' (lo+r.2) (lo+r.2 - 1)
   match x with
   |some y_=>if y_=L then pure (ForInStep.done (M,r.2)) else pure (ForInStep.yield (M,r.2+1))
   |_=>pure (ForInStep.done (U M,r.2))) >>= f) Q st:=by
 refine ZD (XO (YC (I:=λx c g_=>c=(M,x)/\g_=st/\n<=x/\Up LT (arrOf st) lo (lo+x)) (Q:=λc g_=>∃m,c=(M,m)/\g_=st/\n<=m/\m<=m_/\Up LT (arrOf st) lo (lo+m)/\(m<m_->LT (K (arrOf st) (lo+m)) (K (arrOf st) (lo+m - 1))=L)) ?_ ?_ ⟨rfl,rfl,ZP _,hu⟩) ?_);intro x c g_ h1 h2 hz;obtain⟨rfl,rfl,h3,h4⟩:=hz;dsimp only;refine ZD (gF H hk hc (by lia) (by lia) ?_);dsimp only;cases hl:LT (K (arrOf g_) (lo+x)) (K (arrOf g_) (lo+x - 1))with
 |true=>exact Zy ⟨x,rfl,rfl,h3,by lia,h4,λ_=>hl⟩
 |false=>exact Zy ⟨rfl,rfl,by lia,h4.snoc O (by lia) hl⟩
 intro c g_ hz;obtain⟨rfl,rfl,h3,h4⟩:=hz;have e:max n m_=m_:=by lia
 rw[e]at h4⊢;exact⟨m_,rfl,rfl,Pk,ZP _,h4,λh=>absurd h (Zc _)⟩;intro c g_ hz;obtain⟨m,rfl,rfl,h1,h2,h3,h4⟩:=hz;exact h m h1 h2 h3 h4
end
section
variable{LT:Keyed->Keyed->Bool}{st:SortSt}
def Fv(LT:Keyed->Keyed->Bool)(a:Array Keyed)(i j:Nat):Prop:=∀p q,i<=p->i<=q->p<j->q<j->LT (K a p) (K a q)=Y
def rP(O:aaI LT)(H:Ans prog w A s κ LT T)(hk:kindOf st=κ){lo n m_:Nat}(hC:Chg T a lo a')(hz:lo+m_<=T.size)(hn:1<=n)(Pk:n<=m_)(hd:Dn LT a' lo (lo+n))(h:∀m MK,1<=m->m<=m_->Chg T a lo MK->Up LT MK lo (lo+m)->Q (U m) (setArr st MK)):
  wpS (model prog w) A E s (do
   let mut n:=n
   reverseSlice' lo (lo+n)
   for _ in [n:m_] do
    let some y_ <-ltAt' (lo+n) (lo+n - 1)|return M
    if y_ then break
    n:=n+1
   return U n) Q (setArr st a'):=by
 have e:=hC.perm.size_eq;dsimp only;rw[reverseSlice'_eq];refine ZD (XU ?_);have C':=hC.rev (i:=lo) (j:=lo+n) (ZP _) (by lia);have Uq:=vZ (LT:=LT) (a:=a') (i:=lo) (j:=lo+n) (by lia) hd;exact yQ (st:=setArr st (mirror a' lo (lo+n) ((lo+n - lo) / 2))) (a:=a) O H hk C'.perm hz hn Pk Uq λm h1 h2 h3 _=>Zy (h m _ (by lia) h2 C' h3)
def sV(O:aaI LT)(H:Ans prog w A s κ LT T)(hk:kindOf st=κ){lo n m_:Nat}(hC:Chg T a lo a')(hz:lo+m_<=T.size)(hn:1<=n)(Pk:n<m_)(hd:Dn LT a' lo (lo+n))(hl:LT (K a' (lo+n)) (K a' (lo+n - 1))=L)(h:∀m MK,1<=m->m<=m_->Chg T a lo MK->Up LT MK lo (lo+m)->Q (U m) (setArr st MK)):
  wpS (model prog w) A E s (do
   let mut n:=n
   rule "list.sort.descending-run"
   n:=n+1
   let mut Mv:=0
   for _ in [n:m_] do
    let some y_ <-ltAt' (lo+n) (lo+n - 1)|return M
    if y_ then
     if Mv>0 then reverseSlice' (lo+n - (Mv+1)) (lo+n)
     Mv:=0
    else
     let some M9 <-ltAt' (lo+n - 1) (lo+n)|return M
     if M9 then break
     Mv:=Mv+1
    n:=n+1
   if Mv>0 then reverseSlice' (lo+n - (Mv+1)) (lo+n)
   reverseSlice' lo (lo+n)
   for _ in [n:m_] do
    let some y_ <-ltAt' (lo+n) (lo+n - 1)|return M
    if y_ then break
    n:=n+1
   return U n) Q (setArr st a'):=by
 refine ZD (wpS_lift (YT ⟨rfl,?_⟩));have d1:=hd.snoc O (by lia) (O.aa8 _ _ hl);refine ZD (XO (YC (I:=λx c g_=>∃q a1,c=(M,x,q)/\g_=setArr st a1/\Chg T a lo a1/\n+1<=x/\q+1<=x/\Dn LT a1 lo (lo+x)/\Fv LT a1 (lo+x - (q+1)) (lo+x))
  (Q:=λc g_=>∃x q a1,c=(M,x,q)/\g_=setArr st a1/\Chg T a lo a1/\x<=m_/\n+1<=x/\q+1<=x/\Dn LT a1 lo (lo+x)/\Fv LT a1 (lo+x - (q+1)) (lo+x)) ?_ ?_ ⟨0,a',rfl,rfl,hC,ZP _,by lia,d1,λp q h1 h2 h3 h4=>by rw[show p=q by lia];exact O.irr _⟩) ?_)
 intro x c g_ h1 h2 hz;obtain⟨q,a1,rfl,rfl,C1,h3,h4,D1,L1⟩:=hz;have e:=C1.perm.size_eq;dsimp only;refine ZD (gF (st:=setArr st a1) H hk C1.perm (by lia) (by lia) ?_);dsimp only;cases hl:LT (K a1 (lo+x)) (K a1 (lo+x - 1))with
 |true=>
  have D2:=D1.snoc O (by lia) (O.aa8 _ _ hl);simp only[Y1];by_cases hq:q>0;rw[ZR hq,reverseSlice'_eq];refine ZD (XU (Zy ⟨0,_,rfl,rfl,C1.rev (by lia) (by lia),by lia,by lia,?_,λp q h1 h2 h3 h4=>by rw[show p=q by lia];exact O.irr _⟩));have D3:=uV (LT:=LT) (a:=a1) (lo:=lo) (i:=lo+x - (q+1)) (j:=lo+x) (by lia) (by lia) D1 L1;refine D3.snoc O (by lia) ?_;rw[jJ (by lia),jJ (by lia),ZR (by lia),ZK (by lia)];exact D2 _ _ (by lia) (by lia) (by lia);refine aN hq ?_;exact Zy ⟨0,a1,rfl,rfl,C1,by lia,by lia,D2,λp q h1 h2 h3 h4=>by rw[show p=q by lia];exact O.irr _⟩
 |false=>
  simp only[ZI,Zb];refine ZD (gF (st:=setArr st a1) H hk C1.perm (by lia) (by lia) ?_);dsimp only;cases hg:LT (K a1 (lo+x - 1)) (K a1 (lo+x))with
  |true=>exact Zy ⟨x,q,a1,rfl,rfl,C1,by lia,h3,h4,D1,L1⟩
  |false=>
   refine Zy ⟨q+1,a1,rfl,rfl,C1,by lia,by lia,D1.snoc O (by lia) hg,λp p' h1 h2 h5 h6=>?_⟩;have key:∀p,lo+(x+1) - (q+1+1)<=p->p<lo+(x+1)->LT (K a1 p) (K a1 (lo+x - 1))=Y/\LT (K a1 (lo+x - 1)) (K a1 p)=Y:=λp h1 h2=>by
    by_cases e:p=lo+x;rw[e];exact⟨hl,hg⟩;exact⟨L1 _ _ (by lia) (by lia) (by lia) (by lia),L1 _ _ (by lia) (by lia) (by lia) (by lia)⟩
   exact O.tr _ _ _ (key p' h2 h6).2 (key p h1 h5).1
 intro c g_ hz;obtain⟨q,a1,rfl,rfl,C1,h3,h4,D1,L1⟩:=hz;rw[show max (n+1) m_=m_ by lia]at*;exact⟨m_,q,a1,rfl,rfl,C1,ZP _,h3,h4,D1,L1⟩;intro c g_ hz;obtain⟨x,q,a1,rfl,rfl,C1,h1,h3,h4,D1,L1⟩:=hz;have e:=C1.perm.size_eq;dsimp only;by_cases hq:q>0;refine aR hq ?_;refine ZD ?_;rw[reverseSlice'_eq];refine XU ?_;exact rP O H hk (C1.rev (by lia) (by lia)) hz (by lia) h1 (uV (LT:=LT) (a:=a1) (lo:=lo) (i:=lo+x - (q+1)) (j:=lo+x) (by lia) (by lia) D1 L1) h;refine aN hq ?_;exact rP O H hk C1 hz (by lia) h1 D1 h
def mB(O:aaI LT)(H:Ans prog w A s κ LT T)(hk:kindOf st=κ){lo m_:Nat}(hp:(arrOf st).Perm T)(hz:lo+m_<=T.size)(hn:1<=m_)(h:∀m a',1<=m->m<=m_->Chg T (arrOf st) lo a'->Up LT a' lo (lo+m)->Q (U m) (setArr st a')):wpS (model prog w) A E s (countRun' lo m_) Q st:=by
 have e:=hp.size_eq;have C0:Chg T (arrOf st) lo (arrOf st):=⟨hp,λ_ _=>rfl⟩
 rw[countRun'_eq];refine yQ (a:=arrOf st) O H hk hp hz (ZP 1) hn (Up.one O) λm h1 h2 h3 h4=>?_;dsimp only;by_cases hm:m=m_;refine aR (Zu.mpr hm) ?_;exact Zy (h m (arrOf st) h1 h2 C0 h3);refine aN (λq=>hm (Zu.mp q)) ?_;have hl:=h4 (by lia);by_cases h5:m>1;refine aR h5 ?_;refine ZD (gF H hk hp (by lia) (by lia) ?_);dsimp only;cases hr:LT (K (arrOf st) lo) (K (arrOf st) (lo+m - 1))with
 |true=>
  simp only[Y1];exact Zy (h m (arrOf st) h1 h2 C0 h3)
 |false=>
  simp only[ZI,Zb];rw[reverseSlice'_eq];refine ZD (XU ?_);have al:Fv LT (arrOf st) lo (lo+m):=λp q h1 h2 h5 h6=>O.tr _ _ _ (h3 q (lo+m - 1) h2 (by lia) (by lia)) (O.tr _ _ _ hr (h3 lo p (ZP _) h1 (by lia)));have D1:Dn LT (arrOf st) lo (lo+m):=λp q h1 h2 h5=>al p q h1 (by lia) (by lia) h5;refine sV O H hk (C0.rev (ZP _) (by lia)) hz h1 (by lia) (uV (LT:=LT) (a:=arrOf st) (lo:=lo) (i:=lo) (j:=lo+m) (by lia) (ZP _) D1 al) ?_ h;rw[jJ (by lia),jJ (by lia),ZK (by lia),ZR (by lia)];cases hc:LT (K (arrOf st) (lo+m)) (K (arrOf st) (lo+(lo+m) - 1 - (lo+m - 1)))with
  |true=>rfl
  |false=>exact absurd (O.tr _ _ _ (al (lo+(lo+m) - 1 - (lo+m - 1)) (lo+m - 1) (by lia) (by lia) (by lia) (by lia)) hc) (by rw[hl];exact λq=>nomatch q)
 refine aN h5 ?_;have Qt:m=1:=by lia
 exact sV O H hk C0 hz h1 (by lia) (by subst Qt;exact Dn.one O) hl h
end
section
variable{LT:Keyed->Keyed->Bool}{st:SortSt}
def BZ(O:aaI LT){lo k l:Nat}(hs:lo+k<a.size)(hl:l<=k)(hu:Up LT a lo (lo+k))(h1:∀p,p<l->LT (K a (lo+k)) (K a (lo+p))=Y)(h2:∀p,l<=p->p<k->LT (K a (lo+k)) (K a (lo+p))=L):
  Up LT (bubble a (lo+k) (lo+k - (lo+l))) lo (lo+(k+1)):=λp q g1 g2 g3=>by
 have J6:∀p,lo+l<=p->p<lo+k->LT (K a p) (K a (lo+k))=Y:=λp a1 a2=>by
  have:=h2 (p - lo) (by lia) (by lia);rw[show lo+(p - lo)=p by lia]at this;exact O.aa8 _ _ this
 have Ld:∀p,lo<=p->p<lo+l->LT (K a (lo+k)) (K a p)=Y:=λp a1 a2=>by
  have:=h1 (p - lo) (by lia);rwa[show lo+(p - lo)=p by lia]at this
 have e:lo+k - (lo+k - (lo+l))=lo+l:=by lia
 rw[Be hs (by lia),Be hs (by lia),e]
 repeat' split
 all_goals first
  |exact O.irr _
  |(exfalso;lia)
  |exact J6 _ (by lia) (by lia)
  |exact Ld _ (by lia) (by lia)
  |exact hu _ _ (by lia) (by lia) (by lia)
def jK(O:aaI LT)(H:Ans prog w A s κ LT T)(hk:kindOf st=κ){lo n ok:Nat}(hp:(arrOf st).Perm T)(hz:lo+n<=T.size)(hok:ok<=n)(hn:1<=n)(hu:Up LT (arrOf st) lo (lo+ok))(h:∀a',Chg T (arrOf st) lo a'->Up LT a' lo (lo+n)->Q L (setArr st a')):wpS (model prog w) A E s (binarySort' lo n ok) Q st:=by
 have e:=hp.size_eq;have C0:Chg T (arrOf st) lo (arrOf st):=⟨hp,λ_ _=>rfl⟩
 have Ks:Up LT (arrOf st) lo (lo+max ok 1):=by
  by_cases c:ok=0;subst c;exact Up.one O;rw[show max ok 1=ok by lia];exact hu
 rw[binarySort'_eq];refine ZD (XO (YC (I:=λx c g_=>c=(M,())/\∃a1,g_=setArr st a1/\Chg T (arrOf st) lo a1/\Up LT a1 lo (lo+x))
  (Q:=λc g_=>c=(M,())/\∃a1,g_=setArr st a1/\Chg T (arrOf st) lo a1/\Up LT a1 lo (lo+n)) ?_ ?_ ⟨rfl,arrOf st,rfl,C0,Ks⟩) ?_)
 intro k c g_ h1 h2 hz;obtain⟨rfl,a1,rfl,C1,U1⟩:=hz;have e1:=C1.perm.size_eq;dsimp only;refine ZD (XO (YC (I:=λx c g_=>∃l r,c=(M,l,r)/\g_=setArr st a1/\l<=r/\r<=k/\r - l+x<=k/\(∀p,p<l->LT (K a1 (lo+k)) (K a1 (lo+p))=Y)/\∀p,r<=p->p<k->LT (K a1 (lo+k)) (K a1 (lo+p))=L)
  (Q:=λc g_=>∃l r,c=(M,l,r)/\g_=setArr st a1/\l<=k/\(∀p,p<l->LT (K a1 (lo+k)) (K a1 (lo+p))=Y)/\∀p,l<=p->p<k->LT (K a1 (lo+k)) (K a1 (lo+p))=L) ?_ ?_ ⟨0,k,rfl,rfl,Zo _,ZP _,by lia,λp hp=>absurd hp (Nat.not_lt_zero _),λp q1 q2=>absurd q2 (by lia)⟩) ?_)
 intro x c g_ g1 g2 hz;obtain⟨l,r,rfl,rfl,g3,g4,g5,g6,g7⟩:=hz;dsimp only;by_cases N2:l>=r;refine aR N2 ?_;have:l=r:=by lia
 exact Zy ⟨l,r,rfl,rfl,by lia,g6,by rw[this];exact g7⟩;refine aN N2 ?_;refine ZD (gF (st:=setArr st a1) H hk C1.perm (by lia) (by lia) ?_);dsimp only;cases hl:LT (K a1 (lo+k)) (K a1 (lo+(l+r) / 2))with
 |true=>
  refine Zy ⟨l,(l+r) / 2,rfl,rfl,by lia,by lia,by lia,g6,λp q1 q2=>?_⟩;cases hc:LT (K a1 (lo+k)) (K a1 (lo+p))with
  |true=>rfl
  |false=>exact absurd (O.tr _ _ _ (U1 (lo+(l+r) / 2) (lo+p) (by lia) (by lia) (by lia)) hc) (by rw[hl];exact λq=>nomatch q)
 |false=>
  refine Zy ⟨(l+r) / 2+1,r,rfl,rfl,by lia,g4,by lia,λp q1=>?_,g7⟩;exact O.tr _ _ _ (U1 (lo+p) (lo+(l+r) / 2) (by lia) (by lia) (by lia)) hl
 intro c g_ hz;obtain⟨l,r,rfl,rfl,g3,g4,g5,g6,g7⟩:=hz;have:l=r:=by lia
 exact⟨l,r,rfl,rfl,by lia,g6,by rw[this];exact g7⟩;intro c g_ hz;obtain⟨l,r,rfl,rfl,g1,g2,g3⟩:=hz;dsimp only;rw[moveDown'_eq];exact ZD (XU (Zy ⟨rfl,_,rfl,C1.bub (by lia) (by lia),BZ O (show lo+k<a1.size by lia) g1 U1 g2 g3⟩));intro c g_ hz;obtain⟨rfl,a1,rfl,C1,U1⟩:=hz;rw[show max (max ok 1) n=n by lia]at U1;exact⟨rfl,a1,rfl,C1,U1⟩;intro c g_ hz;obtain⟨rfl,a1,rfl,C1,U1⟩:=hz;exact Zy (h a1 C1 U1)
def cS:Bool->Keyed->Array Keyed->Nat->Nat->Nat->StateT SortSt Sem (Z9 Nat):=sortPriv%PySem.Builtin.gallop
noncomputable def bey(left:Bool)(key:Keyed)(arr:Array Keyed)(base i:Nat):StateT SortSt Sem (Z9 Bool):=do
 let x <-elem' arr (base+i)
 if left then lt' x key else return (<-lt' key x).map (!·)
theorem q5(left:Bool)(key:Keyed)(arr:Array Keyed)(base n hint:Nat):cS left key arr base n hint=(do
 let mut IV:=0
 let mut K2:=1
 let mut lo:=0
 let mut hi:=0
 let some right <-bey left key arr base hint|return M
 if right then
  let Jd:=n - hint
  for _ in [0:n] do
   if K2>=Jd then break
   let some more <-bey left key arr base (hint+K2)|return M
   if !more then break
   IV:=K2
   K2:=2*K2+1
  lo:=hint+IV+1
  hi:=hint+min K2 Jd
 else
  let Jd:=hint+1
  for _ in [0:n] do
   if K2>=Jd then break
   let some found <-bey left key arr base (hint - K2)|return M
   if found then break
   IV:=K2
   K2:=2*K2+1
  lo:=hint+1 - min K2 Jd
  hi:=hint - IV
 for _ in [0:n] do
  if lo>=hi then break
  let m:=lo+(hi - lo) / 2
  let some more <-bey left key arr base m|return M
  if more then lo:=m+1 else hi:=m
 return U hi):=rfl
noncomputable def fB(LT:Keyed->Keyed->Bool)(left:Bool)(key:Keyed)(arr:Array Keyed)(base i:Nat):Bool:=if left then LT (K arr (base+i)) key else !LT key (K arr (base+i))
def pL(H:Ans prog w A s κ LT T)(hk:kindOf st=κ)(s_:key∈T)(hi:base+i<arr.size)(hx:K arr (base+i)∈T)(h:Q (U (fB LT left key arr base i)) st):wpS (model prog w) A E s (bey left key arr base i) Q st:=by
 unfold bey;refine ZD (aF hi ?_);unfold fB at h;cases left with
 |true=>exact rQ H hk hx s_ h
 |false=>
  simp only[ZI,Zb]at h⊢;exact ZD (rQ H hk s_ hx (Zy h))
def jr(O:aaI LT)(hu:Up LT arr base (base+n))(LJ:i<=j)(hj:j<n)(h:fB LT left key arr base j=L):fB LT left key arr base i=L:=by
 have u:=hu (base+i) (base+j) (by lia) (by lia) (by lia);unfold fB at h⊢;cases left with
 |true=>
  simp only[Y1]at h⊢;cases hc:LT (K arr (base+i)) key with
  |true=>rfl
  |false=>exact absurd (O.tr _ _ _ hc u) (by rw[h];exact λq=>nomatch q)
 |false=>
  simp only[ZI,Zb,Yu]at h⊢;exact O.tr _ _ _ u h
def yF(O:aaI LT)(H:Ans prog w A s κ LT T)(hk:kindOf st=κ)(s_:key∈T)(hb:base+n<=arr.size)(hx:∀i,i<n->K arr (base+i)∈T)(hu:Up LT arr base (base+n)){lo hi:Nat}(h1:lo<=hi)(h2:hi<=n)(h3:∀i,i<lo->fB LT left key arr base i=L)(h4:hi<n->fB LT left key arr base hi=Y)(h:∀k,k<=n->(∀i,i<k->fB LT left key arr base i=L)->(∀i,k<=i->i<n->fB LT left key arr base i=Y)->Q (U k) st):
  wpS (model prog w) A E s (do
   let mut lo:=lo
   let mut hi:=hi
   for _ in [0:n] do
    if lo>=hi then break
    let m:=lo+(hi - lo) / 2
    let some more <-bey left key arr base m|return M
    if more then lo:=m+1 else hi:=m
   return U hi) Q st:=by
 have fin:∀k,k<=n->(∀i,i<k->fB LT left key arr base i=L)->(k<n->fB LT left key arr base k=Y)->Q (U k) st:=λk a1 a2 a3=>h k a1 a2 λi b1 b2=>by
  cases hc:fB LT left key arr base i with
  |false=>rfl
  |true=>exact absurd (jr O hu b1 b2 hc) (by rw[a3 (by lia)];exact λq=>nomatch q)
 refine ZD (XO (YC (I:=λx c g_=>∃lo hi,c=(M,lo,hi)/\g_=st/\lo<=hi/\hi<=n/\hi - lo+x<=n/\(∀i,i<lo->fB LT left key arr base i=L)/\(hi<n->fB LT left key arr base hi=Y))
  (Q:=λc g_=>∃hi,c=(M,hi,hi)/\g_=st/\hi<=n/\(∀i,i<hi->fB LT left key arr base i=L)/\(hi<n->fB LT left key arr base hi=Y)) ?_ ?_ ⟨lo,hi,rfl,rfl,h1,h2,by lia,h3,h4⟩) ?_)
 intro x c g_ g1 g2 hz;obtain⟨lo,hi,rfl,rfl,g3,g4,g5,g6,g7⟩:=hz;dsimp only;by_cases N2:lo>=hi;refine aR N2 ?_;obtain rfl:lo=hi:=by lia
 exact Zy ⟨lo,rfl,rfl,g4,g6,g7⟩;refine aN N2 ?_;refine ZD (pL H hk s_ (by lia) (hx _ (by lia)) ?_);dsimp only;cases hl:fB LT left key arr base (lo+(hi - lo) / 2)with
 |true=>exact Zy ⟨lo+(hi - lo) / 2+1,hi,rfl,rfl,by lia,g4,by lia,λi o_=>jr O hu (show i<=lo+(hi - lo) / 2 by lia) (by lia) hl,g7⟩
 |false=>exact Zy ⟨lo,lo+(hi - lo) / 2,rfl,rfl,by lia,by lia,by lia,g6,λ_=>hl⟩
 intro c g_ hz;obtain⟨lo,hi,rfl,rfl,g3,g4,g5,g6,g7⟩:=hz;obtain rfl:lo=hi:=by lia
 exact⟨lo,rfl,rfl,g4,g6,g7⟩;intro c g_ hz;obtain⟨hi,rfl,rfl,g4,g6,g7⟩:=hz;exact Zy (fin hi g4 g6 g7)
def cj(O:aaI LT)(H:Ans prog w A s κ LT T)(hk:kindOf st=κ)(s_:key∈T)(hb:base+n<=arr.size)(hh:hint<n)(hx:∀i,i<n->K arr (base+i)∈T)(hu:Up LT arr base (base+n))(h:∀k,k<=n->(∀i,i<k->fB LT left key arr base i=L)->(∀i,k<=i->i<n->fB LT left key arr base i=Y)->Q (U k) st):wpS (model prog w) A E s (cS left key arr base n hint) Q st:=by
 rw[q5];dsimp only;refine ZD (pL H hk s_ (by lia) (hx _ hh) ?_);dsimp only;cases hr:fB LT left key arr base hint with
 |true=>
  simp only[Y1];refine ZD (XO (YC (I:=λx c g_=>∃la of,c=(M,la,of)/\g_=st/\x+1<=of/\la+1<=of/\la<n - hint/\fB LT left key arr base (hint+la)=L)
   (Q:=λc g_=>∃la of,c=(M,la,of)/\g_=st/\la+1<=of/\la<n - hint/\fB LT left key arr base (hint+la)=L/\(of<n - hint->fB LT left key arr base (hint+of)=Y)) ?_ ?_ ⟨0,1,rfl,rfl,by lia,by lia,by lia,hr⟩) ?_)
  intro x c g_ g1 g2 hz;obtain⟨la,of,rfl,rfl,g3,g4,g5,g6⟩:=hz;dsimp only;by_cases ho:of>=n - hint;refine aR ho ?_;exact Zy ⟨la,of,rfl,rfl,g4,g5,g6,λq=>absurd q (by lia)⟩;refine aN ho ?_;refine ZD (pL H hk s_ (by lia) (hx _ (by lia)) ?_);dsimp only;cases hm:fB LT left key arr base (hint+of)with
  |false=>exact Zy ⟨la,of,rfl,rfl,g4,g5,g6,λ_=>hm⟩
  |true=>exact Zy ⟨of,2*of+1,rfl,rfl,by lia,by lia,by lia,hm⟩
  intro c g_ hz;obtain⟨la,of,rfl,rfl,g3,g4,g5,g6⟩:=hz;exact⟨la,of,rfl,rfl,g4,g5,g6,λq=>absurd q (by lia)⟩;intro c g_ hz;obtain⟨la,of,rfl,rfl,g4,g5,g6,g7⟩:=hz;dsimp only;refine yF O H hk s_ hb hx hu (by lia) (by lia) (λi hi=>jr O hu (show i<=hint+la by lia) (by lia) g6) (λka=>?_) h;by_cases c:of<n - hint;rw[show min of (n - hint)=of by lia];exact g7 c;lia
 |false=>
  simp only[ZI,Zb];refine ZD (XO (YC (I:=λx c g_=>∃la of,c=(M,la,of)/\g_=st/\x+1<=of/\la+1<=of/\la<=hint/\fB LT left key arr base (hint - la)=Y)
   (Q:=λc g_=>∃la of,c=(M,la,of)/\g_=st/\la+1<=of/\la<=hint/\fB LT left key arr base (hint - la)=Y/\(of<hint+1->fB LT left key arr base (hint - of)=L)) ?_ ?_ ⟨0,1,rfl,rfl,by lia,by lia,by lia,hr⟩) ?_)
  intro x c g_ g1 g2 hz;obtain⟨la,of,rfl,rfl,g3,g4,g5,g6⟩:=hz;dsimp only;by_cases ho:of>=hint+1;refine aR ho ?_;exact Zy ⟨la,of,rfl,rfl,g4,g5,g6,λq=>absurd q (by lia)⟩;refine aN ho ?_;refine ZD (pL H hk s_ (by lia) (hx _ (by lia)) ?_);dsimp only;cases hm:fB LT left key arr base (hint - of)with
  |true=>exact Zy ⟨la,of,rfl,rfl,g4,g5,g6,λ_=>hm⟩
  |false=>exact Zy ⟨of,2*of+1,rfl,rfl,by lia,by lia,by lia,hm⟩
  intro c g_ hz;obtain⟨la,of,rfl,rfl,g3,g4,g5,g6⟩:=hz;exact⟨la,of,rfl,rfl,g4,g5,g6,λq=>absurd q (by lia)⟩;intro c g_ hz;obtain⟨la,of,rfl,rfl,g4,g5,g6,g7⟩:=hz;dsimp only;refine yF O H hk s_ hb hx hu (by lia) (by lia) (λi hi=>?_) (λ_=>g6) h;by_cases c:of<hint+1;exact jr O hu (show i<=hint - of by lia) (by lia) (g7 c);lia
end
def bi:Nat->StateT SortSt Sem Unit:=sortPriv%PySem.Builtin.setMinGallop
abbrev ao(st:SortSt)(g:Nat):SortSt:=SortSt.mk' (kindOf st) (arrOf st) (pendingOf st) g (failedOf st)
theorem ba(g:Nat):bi g=modify λs=>ao s g:=rfl
def jh:Array Keyed->Array Keyed->StateT SortSt Sem (Array Keyed):=sortPriv%PySem.Builtin.mergeLo
def jL:Array Keyed->Array Keyed->StateT SortSt Sem (Array Keyed):=sortPriv%PySem.Builtin.mergeHi
section
variable{LT:Keyed->Keyed->Bool}
def fA(a:Array Keyed)(i:Nat):K a i=(a.toList[i]?).getD nK:=by unfold K;rw[Wx]
def fQ{a:Array Keyed}{i:Nat}(h:i<a.size):a.toList.drop i=[K a i]++a.toList.drop (i+1):=by
 rw[Zx (by simpa using h),fA];simp[h]
def b8(a:Array Keyed)(i k:Nat):a.toList.drop i=(a.extract i (i+k)).toList++a.toList.drop (i+k):=by
 rw[XF,List.extract_eq_take_drop,show i+k - i=k by lia,<-List.drop_drop,XN]
def eZ(a:Array Keyed)(i:Nat):(a.extract i a.size).toList=a.toList.drop i:=by
 rw[XF,List.extract_eq_take_drop];exact YD (by simp)
def db{a:Array Keyed}{i:Nat}(h:a.size<=i):a.toList.drop i=[]:=List.drop_of_length_le (by simpa using h)
def cL{a:Array Keyed}(h:x∈a.toList.drop i):∃j,i<=j/\j<a.size/\x=K a j:=by
 obtain⟨k,hk,e⟩:=List.mem_drop_iff_getElem.mp h;simp at hk;exact⟨i+k,by lia,by lia,by rw[fA];simp[show i+k<a.size by lia,<-e]⟩
def cR{a:Array Keyed}(h:x∈a.toList.take i):∃j,j<i/\j<a.size/\x=K a j:=by
 obtain⟨k,hk,e⟩:=List.mem_take_iff_getElem.mp h;simp at hk;exact⟨k,by lia,by lia,by rw[fA];simp[show k<a.size by lia,<-e]⟩
def bd{a:Array Keyed}(h:x∈(a.extract i j).toList):∃k,i<=k/\k<j/\k<a.size/\x=K a k:=by
 rw[XF,List.extract_eq_take_drop]at h;obtain⟨k,hk,e⟩:=List.mem_take_iff_getElem.mp h;simp at hk;exact⟨i+k,by lia,by lia,by lia,by rw[fA];simp[show i+k<a.size by lia,<-e]⟩
def fP{a:Array Keyed}{i:Nat}(h:i<a.size):(a.toList.take (i+1)).reverse=[K a i]++(a.toList.take i).reverse:=by
 rw[List.take_succ_eq_append_getElem (by simpa using h),X2,fA];simp[h]
def kE(a:Array Keyed){i k:Nat}(h:i<=k):(a.toList.take k).reverse=(a.extract i k).reverse.toList++(a.toList.take i).reverse:=by
 rw[X5,<-X2,XF,List.extract_eq_take_drop];congr 1;rw[<-XN i (a.toList.take k),List.take_take,Nat.min_eq_left h,List.drop_take]
def cY(a:Array Keyed)(i:Nat):(a.extract 0 i).toList=a.toList.take i:=by
 rw[XF,List.extract_eq_take_drop];simp
def R(LT:Keyed->Keyed->Bool)(x y:Keyed):Prop:=LT y x=Y
structure J (LT:Keyed->Keyed->Bool)(T out ra rb:List Keyed):Prop where
 pm:(out++ra++rb).Perm T
 sa:(out++ra).Pairwise (R LT)
 sb:(out++rb).Pairwise (R LT)
structure Good (LT:Keyed->Keyed->Bool)(T l:List Keyed):Prop where
 pm:l.Perm T
 so:l.Pairwise (R LT)
def J.swap(h:J LT T out ra rb):J LT T out rb ra:=⟨by
 have:=h.pm;rw[Zg]at this⊢;exact((List.Perm.append_left out List.perm_append_comm).trans this),h.sb,h.sa⟩
def J.push(h:J LT T out (c++ra) rb)(q:∀x∈c,∀y∈rb,LT y x=Y):J LT T (out++c) ra rb:=by
 obtain⟨h1,h2,h3⟩:=h;refine⟨by rw[<-Zg]at h1;exact h1,by rw[<-Zg]at h2;exact h2,?_⟩;rw[<-Zg]at h2;rw[X7]at h3⊢;refine⟨(X7.mp h2).1,h3.2.1,λx hx y hy=>?_⟩;rcases Zl.mp hx with hx|hx;exact h3.2.2 x hx y hy;exact q x hx y hy
def J.done(h:J LT T out ra []):Good LT T (out++ra):=⟨by simpa using h.pm,h.sa⟩
def J.last(h:J LT T out [z] rb)(q:∀y∈rb,LT z y=Y):Good LT T (out++rb++[z]):=by
 refine⟨h.swap.pm,?_⟩;rw[X7];refine⟨h.sb,List.pairwise_singleton _ _,λx hx y hy=>?_⟩;rw[ZG]at hy;subst hy;rcases Zl.mp hx with hx|hx;exact(X7.mp h.sa).2.2 x hx y (.head _);exact q x hx
end
abbrev LS:=Z9 (Array Keyed)×Array Keyed×Nat×Nat×Nat×Nat×Nat
abbrev dn'(a b out:Array Keyed)(ia ib:Nat):Array Keyed:=out++a.extract ia a.size++b.extract ib b.size
abbrev la'(a b out:Array Keyed)(ia ib:Nat):Array Keyed:=out++b.extract ib b.size++a.extract ia a.size
noncomputable def loC(a b out:Array Keyed)(ia ib mg ac bc:Nat):StateT SortSt Sem (ForInStep LS):=do
 let x <-elem' a ia
 if ia+1+1==a.size then pure (.done (U (la' a b (out.push x) (ia+1) ib),out.push x,ia+1,ib,mg,ac,bc))
 else if ac<7&&bc<7 then pure (.done (M,out.push x,ia+1,ib,mg,ac,bc)) else pure (.yield (M,out.push x,ia+1,ib,mg,ac,bc))
noncomputable def loB(a b out:Array Keyed)(ia ib mg ac bc:Nat):StateT SortSt Sem (ForInStep LS):=do
 let x <-elem' b ib
 if ib+1==b.size then pure (.done (U (dn' a b (out.push x) ia (ib+1)),out.push x,ia,ib+1,mg,ac,bc))
 else do
  let y <-elem' a ia
  match <-cS L y b (ib+1) (b.size - (ib+1)) 0 with
  |some k=>
   if k>0 then
    if ib+1+k==b.size then pure (.done (U (dn' a b (out.push x++b.extract (ib+1) (ib+1+k)) ia (ib+1+k)),out.push x++b.extract (ib+1) (ib+1+k),ia,ib+1+k,mg,ac,k))
    else loC a b (out.push x++b.extract (ib+1) (ib+1+k)) ia (ib+1+k) mg ac k
   else loC a b (out.push x) ia (ib+1) mg ac k
  |_=>pure (.done (U (dn' a b (out.push x) ia (ib+1)),out.push x,ia,ib+1,mg,ac,bc))
noncomputable def loA(a b out:Array Keyed)(ia ib mg ac bc:Nat):StateT SortSt Sem (ForInStep LS):=do
 bi mg
 let y <-elem' b ib
 match <-cS Y y a ia (a.size - ia) 0 with
 |some k=>
  if k>0 then
   if ia+k+1==a.size then pure (.done (U (la' a b (out++a.extract ia (ia+k)) (ia+k) ib),out++a.extract ia (ia+k),ia+k,ib,mg,k,bc))
   else if ia+k==a.size then pure (.done (U (dn' a b (out++a.extract ia (ia+k)) (ia+k) ib),out++a.extract ia (ia+k),ia+k,ib,mg,k,bc))
   else loB a b (out++a.extract ia (ia+k)) (ia+k) ib mg k bc
  else loB a b out ia ib mg k bc
 |_=>pure (.done (U (dn' a b out ia ib),out,ia,ib,mg,ac,bc))
abbrev WS:=Z9 (Array Keyed)×Array Keyed×Nat×Nat×Nat×Nat
abbrev OS:=Z9 (Array Keyed)×Array Keyed×Nat×Nat×Nat
noncomputable def Sb(a b out:Array Keyed)(ia ib mg ac bc:Nat):StateT SortSt Sem (ForInStep WS):=do
 let x <-elem' b ib
 let y <-elem' a ia
 match <-lt' x y with
 |some t=>
  if t then do
   let x <-elem' b ib
   if ib+1==b.size then pure (.done (U (dn' a b (out.push x) ia (ib+1)),out.push x,ia,ib+1,0,bc+1))
   else if bc+1>=mg then pure (.done (M,out.push x,ia,ib+1,0,bc+1)) else pure (.yield (M,out.push x,ia,ib+1,0,bc+1))
  else do
   let x <-elem' a ia
   if ia+1+1==a.size then pure (.done (U (la' a b (out.push x) (ia+1) ib),out.push x,ia+1,ib,ac+1,0))
   else if ac+1>=mg then pure (.done (M,out.push x,ia+1,ib,ac+1,0)) else pure (.yield (M,out.push x,ia+1,ib,ac+1,0))
 |_=>pure (.done (U (dn' a b out ia ib),out,ia,ib,ac,bc))
noncomputable def Qc(a b out:Array Keyed)(ia ib mg ac bc:Nat):StateT SortSt Sem (ForInStep LS):=if mg>1 then loA a b out ia ib (mg - 1) ac bc else loA a b out ia ib mg ac bc
noncomputable def Sd(a b out:Array Keyed)(ia ib mg:Nat):StateT SortSt Sem (ForInStep OS):=do
 let d <-forIn [:a.size+b.size] ((M,out,ia,ib,0,0):WS) λ_ c=>Sb a b c.2.1 c.2.2.1 c.2.2.2.1 mg c.2.2.2.2.1 c.2.2.2.2.2
 Break.runK.match_1 (λ_=>StateT SortSt Sem (ForInStep OS)) d.1 (λr=>pure (.done (U r,d.2.1,d.2.2.1,d.2.2.2.1,mg))) λ_=>do
  rule "list.sort.gallop"
  let c <-forIn [:a.size+b.size] ((M,d.2.1,d.2.2.1,d.2.2.2.1,mg+1,d.2.2.2.2.1,d.2.2.2.2.2):LS) λ_ c=>Qc a b c.2.1 c.2.2.1 c.2.2.2.1 c.2.2.2.2.1 c.2.2.2.2.2.1 c.2.2.2.2.2.2
  Break.runK.match_1 (λ_=>StateT SortSt Sem (ForInStep OS)) c.1 (λr=>pure (.done (U r,c.2.1,c.2.2.1,c.2.2.2.1,c.2.2.2.2.1))) λ_=>do
   bi (c.2.2.2.2.1+1)
   pure (.yield (M,c.2.1,c.2.2.1,c.2.2.2.1,c.2.2.2.2.1+1))
def Eu(a b:Array Keyed):jh a b=(do
 rule "list.sort.merge-lo"
 let x <-elem' b 0
 if 1==b.size then pure (dn' a b #[x] 0 1)
 else if 0+1==a.size then pure (la' a b #[x] 0 1)
 else do
  let s <-get
  let c <-forIn [:a.size+b.size] ((M,#[x],0,1,gallopOf s):OS) λ_ c=>Sd a b c.2.1 c.2.2.1 c.2.2.2.1 c.2.2.2.2
  Break.runK.match_1 (λ_=>StateT SortSt Sem (Array Keyed)) c.1 pure λ_=>unsupported "internal:list.sort.merge-bound"):=rfl
section
variable{LT:Keyed->Keyed->Bool}{T:Array Keyed}{st:SortSt}{a b:Array Keyed}
structure Two (LT:Keyed->Keyed->Bool)(T a b:Array Keyed):Prop where
 ha:∀i,i<a.size->K a i∈T
 hb:∀i,i<b.size->K b i∈T
 ua:Up LT a 0 a.size
 ub:Up LT b 0 b.size
 za:0<a.size
 zb:0<b.size
 h0:∀j,j<a.size->LT (K a j) (K b 0)=false
 hl:∀j,j<b.size->LT (K a (a.size - 1)) (K b j)=false
abbrev JL(LT:Keyed->Keyed->Bool)(a b out:Array Keyed)(ia ib:Nat):Prop:=J LT (a.toList++b.toList) out.toList (a.toList.drop ia) (b.toList.drop ib)
variable{out:Array Keyed}{ia ib:Nat}
def JL.dB(j:JL LT a b out ia ib)(e:ib=b.size):Good LT (a.toList++b.toList) (dn' a b out ia ib).toList:=by
 rw[Zj,Zj,eZ,eZ];rw[JL,db (a:=b) (by lia)]at j;rw[db (a:=b) (by lia),Y3];exact j.done
def JL.dA(j:JL LT a b out ia ib)(e:ia=a.size):Good LT (a.toList++b.toList) (dn' a b out ia ib).toList:=by
 rw[Zj,Zj,eZ,eZ];rw[JL,db (a:=a) (by lia)]at j;rw[db (a:=a) (by lia),Y3];exact j.swap.done
def JL.lA(W:Two LT T a b)(j:JL LT a b out ia ib)(e:ia+1=a.size):Good LT (a.toList++b.toList) (la' a b out ia ib).toList:=by
 rw[Zj,Zj,eZ,eZ];rw[JL,fQ (show ia<a.size by lia),db (a:=a) (show a.size<=ia+1 by lia),Y3]at j;rw[fQ (show ia<a.size by lia),db (a:=a) (show a.size<=ia+1 by lia),Y3];refine j.last λy hy=>?_;obtain⟨k,_,hk,rfl⟩:=cL hy;rw[show ia=a.size - 1 by lia];exact W.hl k hk
def JL.pB(j:JL LT a b out ia ib)(e:ib<b.size)(q:∀k,ia<=k->k<a.size->LT (K a k) (K b ib)=Y):JL LT a b (out.push (K b ib)) ia (ib+1):=by
 rw[JL,YB];rw[JL,fQ e]at j;refine(j.swap.push λx hx y hy=>?_).swap;obtain rfl:=ZG.mp hx;obtain⟨k,h1,h2,rfl⟩:=cL hy;exact q k h1 h2
def JL.pA(j:JL LT a b out ia ib)(e:ia<a.size)(q:∀k,ib<=k->k<b.size->LT (K b k) (K a ia)=Y):JL LT a b (out.push (K a ia)) (ia+1) ib:=by
 rw[JL,YB];rw[JL,fQ e]at j;refine j.push λx hx y hy=>?_;obtain rfl:=ZG.mp hx;obtain⟨k,h1,h2,rfl⟩:=cL hy;exact q k h1 h2
def JL.cA(k:Nat)(j:JL LT a b out ia ib)(q:∀i,i<k->ia+i<a.size->∀j,ib<=j->j<b.size->LT (K b j) (K a (ia+i))=Y):JL LT a b (out++a.extract ia (ia+k)) (ia+k) ib:=by
 rw[JL,Zj];rw[JL,b8 a ia k]at j;refine j.push λx hx y hy=>?_;obtain⟨i,h1,h2,h3,rfl⟩:=bd hx;obtain⟨k,h4,h5,rfl⟩:=cL hy;have:=q (i - ia) (by lia) (by lia) k h4 h5;rwa[show ia+(i - ia)=i by lia]at this
def JL.cB(k:Nat)(j:JL LT a b out ia ib)(q:∀i,i<k->ib+i<b.size->∀j,ia<=j->j<a.size->LT (K a j) (K b (ib+i))=Y):JL LT a b (out++b.extract ib (ib+k)) ia (ib+k):=by
 rw[JL,Zj];rw[JL,b8 b ib k]at j;refine(j.swap.push λx hx y hy=>?_).swap;obtain⟨i,h1,h2,h3,rfl⟩:=bd hx;obtain⟨k,h4,h5,rfl⟩:=cL hy;have:=q (i - ib) (by lia) (by lia) k h4 h5;rwa[show ib+(i - ib)=i by lia]at this
def abD(u:Up LT c 0 c.size):c.toList.Pairwise (R LT):=List.pairwise_iff_getElem.mpr λi j hi hj LJ=>by
 simp at hi hj;have:=u i j (Zo _) (by lia) hj;unfold R;unfold K at this;simpa[hi,hj]using this
def Two.j0(W:Two LT T a b):JL LT a b #[K b 0] 0 1:=by
 have j:JL LT a b #[] 0 0:=⟨YQ _,abD W.ua,abD W.ub⟩;exact j.pB W.zb λk _ hk=>W.h0 k hk
abbrev IL(LT:Keyed->Keyed->Bool)(a b:Array Keyed)(n:Nat)(out:Array Keyed)(ia ib:Nat):Prop:=JL LT a b out ia ib/\ia+1<a.size/\ib<b.size/\n<=ia+ib
structure acm (LT:Keyed->Keyed->Bool)(a b:Array Keyed)(st:SortSt)(n0:Nat)(P:ForInStep LS->SortSt->Prop):Prop where
 good:∀m r g,Good LT (a.toList++b.toList) m.toList->P (.done (some m,r)) (ao st g)
 next:∀out ia ib mg ac bc g,IL LT a b (n0+1) out ia ib->P (.done (none,out,ia,ib,mg,ac,bc)) (ao st g)/\P (.yield (none,out,ia,ib,mg,ac,bc)) (ao st g)
variable{n0 mg ac bc:Nat}
def yd(W:Two LT T a b)(j:IL LT a b n0 out ia ib)(Z:acm LT a b st n0 P)(q:∀k,ib<=k->k<b.size->LT (K b k) (K a ia)=Y):
  wpS (model prog w) A E s (loC a b out ia ib mg ac bc) P (ao st g):=by
 obtain⟨j,h1,h2,h3⟩:=j;refine ZD (aF (by lia) ?_);have j1:=j.pA (by lia) q;by_cases e:ia+1+1=a.size;refine aR (Zu.mpr e) ?_;exact Zy (Z.good _ _ _ (j1.lA W e))
 .refine aN (λq=>e (Zu.mp q)) ?_
  have z:=λac bc=>Z.next _ _ _ mg ac bc g ⟨j1,by lia,h2,by lia⟩;by_cases c:(decide (ac<7)&&decide (bc<7))=L;refine aR c ?_;exact Zy (z ac bc).1;refine aN c ?_;exact Zy (z ac bc).2
variable(O:aaI LT)(H:Ans prog w A s κ LT T)(hk:kindOf st=κ)(W:Two LT T a b)
include O H hk W
section
variable(j:IL LT a b n0 out ia ib)
include j
def zr(Z:acm LT a b st n0 P)(q:∀k,ia<=k->k<a.size->LT (K a k) (K b ib)=Y):
  wpS (model prog w) A E s (loB a b out ia ib mg ac bc) P (ao st g):=by
 obtain⟨j,h1,h2,h3⟩:=j;refine ZD (aF h2 ?_);have j1:=j.pB h2 q;by_cases e:ib+1=b.size;refine aR (Zu.mpr e) ?_;exact Zy (Z.good _ _ _ (j1.dB e));refine aN (λq=>e (Zu.mp q)) ?_;refine ZD (aF (by lia) ?_);refine ZD (cj (st:=ao st g) O H hk (W.ha _ (by lia)) (by lia) (by lia) (λi hi=>W.hb _ (by lia)) (λp q a1 a2 a3=>W.ub p q (Zo _) a2 (by lia)) λk k1 k2 k3=>?_);have q2:∀m,ib+1+k<=m->m<b.size->LT (K b m) (K a ia)=Y:=λm m1 m2=>by
  have:=k3 (m - (ib+1)) (by lia) (by lia);unfold fB at this;simpa only[Y1,show ib+1+(m - (ib+1))=m by lia]using this
 dsimp only;by_cases c:k>0;refine aR c ?_;have j2:=j1.cB k λi i1 i2 m m1 m2=>O.tr _ _ _ (O.aa8 _ _ (by simpa only[fB,Y1]using k2 i i1)) (W.ua ia m (Zo _) m1 m2);by_cases e2:ib+1+k=b.size;refine aR (Zu.mpr e2) ?_;exact Zy (Z.good _ _ _ (j2.dB e2));refine aN (λq=>e2 (Zu.mp q)) ?_;exact yd W ⟨j2,h1,by lia,by lia⟩ Z q2;refine aN c ?_;exact yd W ⟨j1,h1,by lia,by lia⟩ Z (by rw[show k=0 by lia]at q2;exact q2)
def Dy(Z:acm LT a b st n0 P):wpS (model prog w) A E s (loA a b out ia ib mg ac bc) P (ao st g):=by
 obtain⟨j,h1,h2,h3⟩:=j;unfold loA;rw[ba];refine ZD (XU ?_);refine ZD (aF h2 ?_);refine ZD (cj (st:=ao st mg) O H hk (W.hb _ h2) (by lia) (by lia) (λi hi=>W.ha _ (by lia)) (λp q a1 a2 a3=>W.ua p q (Zo _) a2 (by lia)) λk k1 k2 k3=>?_);have q2:∀m,ia+k<=m->m<a.size->LT (K a m) (K b ib)=Y:=λm m1 m2=>by
  have:=k3 (m - ia) (by lia) (by lia);unfold fB at this;simp only[ZI,Zb,Bool.not_eq_false',show ia+(m - ia)=m by lia]at this;exact O.aa8 _ _ this
 dsimp only;by_cases c:k>0;refine aR c ?_;have j2:=j.cA k λi i1 i2 m m1 m2=>O.tr _ _ _ (by simpa only[fB,ZI,Zb,Yu]using k2 i i1) (W.ub ib m (Zo _) m1 m2);by_cases e1:ia+k+1=a.size;refine aR (Zu.mpr e1) ?_;exact Zy (Z.good _ _ _ (j2.lA W e1));refine aN (λq=>e1 (Zu.mp q)) ?_;by_cases e2:ia+k=a.size;refine aR (Zu.mpr e2) ?_;exact Zy (Z.good _ _ _ (j2.dA e2));refine aN (λq=>e2 (Zu.mp q)) ?_;exact zr O H hk W ⟨j2,by lia,h2,by lia⟩ Z q2;refine aN c ?_;exact zr O H hk W ⟨j,h1,h2,h3⟩ Z (by rw[show k=0 by lia]at q2;exact q2)
def Ci{P:ForInStep WS->SortSt->Prop}(z1:∀m r,Good LT (a.toList++b.toList) m.toList->P (.done (U m,r)) (ao st g))(z2:∀out ia ib ac bc,IL LT a b n0 out ia ib->P (.done (M,out,ia,ib,ac,bc)) (ao st g)/\P (.yield (M,out,ia,ib,ac,bc)) (ao st g)):
  wpS (model prog w) A E s (Sb a b out ia ib mg ac bc) P (ao st g):=by
 obtain⟨j,i1,i2,i3⟩:=j;refine ZD (aF i2 (ZD (aF (by lia) (ZD (rQ (st:=ao st g) H hk (W.hb _ i2) (W.ha _ (by lia)) ?_)))));dsimp only;cases hw:LT (K b ib) (K a ia)with
 |true=>
  simp only[Y1];refine ZD (aF i2 ?_);have j1:=j.pB i2 λk k1 k2=>O.tr _ _ _ (O.aa8 _ _ hw) (W.ua ia k (Zo _) k1 k2);by_cases e:ib+1=b.size;refine aR (Zu.mpr e) ?_;exact Zy (z1 _ _ (j1.dB e));refine aN (λq=>e (Zu.mp q)) ?_;have z:=λac bc=>z2 _ _ _ ac bc ⟨j1,i1,by lia,by lia⟩;by_cases c:bc+1>=mg;refine aR c ?_;exact Zy (z _ _).1;refine aN c ?_;exact Zy (z _ _).2
 |false=>
  simp only[ZI,Zb];refine ZD (aF (by lia) ?_);have j1:=j.pA (by lia) λk k1 k2=>O.tr _ _ _ hw (W.ub ib k (Zo _) k1 k2);by_cases e:ia+1+1=a.size;refine aR (Zu.mpr e) ?_;exact Zy (z1 _ _ (j1.lA W e));refine aN (λq=>e (Zu.mp q)) ?_;have z:=λac bc=>z2 _ _ _ ac bc ⟨j1,by lia,i2,by lia⟩;by_cases c:ac+1>=mg;refine aR c ?_;exact Zy (z _ _).1;refine aN c ?_;exact Zy (z _ _).2
def Ca(Z:acm LT a b st n0 P):wpS (model prog w) A E s (Qc a b out ia ib mg ac bc) P (ao st g):=by
 unfold Qc;split<;>exact Dy O H hk W j Z
def Cc{P:ForInStep OS->SortSt->Prop}(z1:∀m r g,Good LT (a.toList++b.toList) m.toList->P (.done (U m,r)) (ao st g))(z2:∀out ia ib mg g,IL LT a b (n0+1) out ia ib->P (.yield (M,out,ia,ib,mg)) (ao st g)):
  wpS (model prog w) A E s (Sd a b out ia ib mg) P (ao st g):=by
 have za:=W.za;refine ZD (XO (YC (I:=λy c g_=>∃out ia ib ac bc,c=(M,out,ia,ib,ac,bc)/\g_=ao st g/\IL LT a b n0 out ia ib)
  (Q:=λc g_=>g_=ao st g/\((∃m r,c=(U m,r)/\Good LT (a.toList++b.toList) m.toList)\/∃out ia ib ac bc,c=(M,out,ia,ib,ac,bc)/\IL LT a b n0 out ia ib)) ?_ ?_ ⟨out,ia,ib,0,0,rfl,rfl,j⟩) ?_)
 intro y c g_ _ _ hz;obtain⟨out,ia,ib,ac,bc,rfl,rfl,j⟩:=hz;exact Ci O H hk W j (λm r hm=>⟨rfl,.inl ⟨m,r,rfl,hm⟩⟩) λout ia ib ac bc j=>⟨⟨rfl,.inr ⟨_,_,_,_,_,rfl,j⟩⟩,⟨_,_,_,_,_,rfl,rfl,j⟩⟩
 intro c g_ hz;obtain⟨out,ia,ib,ac,bc,rfl,rfl,j⟩:=hz;exact⟨rfl,.inr ⟨_,_,_,_,_,rfl,j⟩⟩;intro c g_ hz;obtain⟨rfl,hz⟩:=hz;rcases hz with hz|hz;obtain⟨m,r,rfl,hm⟩:=hz;exact Zy (z1 m _ g hm);obtain⟨out,ia,ib,ac,bc,rfl,j⟩:=hz;refine ZD (wpS_lift (YT ⟨rfl,?_⟩));refine ZD (XO (YC (I:=λy c g_=>∃out ia ib mg ac bc g,c=(M,out,ia,ib,mg,ac,bc)/\g_=ao st g/\IL LT a b n0 out ia ib/\(1<=y->n0<ia+ib))
  (Q:=λc g_=>∃g,g_=ao st g/\((∃m r,c=(U m,r)/\Good LT (a.toList++b.toList) m.toList)\/∃out ia ib mg ac bc,c=(M,out,ia,ib,mg,ac,bc)/\IL LT a b (n0+1) out ia ib)) ?_ ?_ ⟨out,ia,ib,_,ac,bc,g,rfl,rfl,j,λq=>absurd q (by lia)⟩) ?_)
 intro y c g_ _ _ hz;obtain⟨out,ia,ib,mg,ac,bc,g,rfl,rfl,j,_⟩:=hz;exact Ca O H hk W j ⟨λm r g hm=>⟨g,rfl,.inl ⟨m,r,rfl,hm⟩⟩,λout ia ib mg ac bc g j=>⟨⟨g,rfl,.inr ⟨_,_,_,_,_,_,rfl,j⟩⟩,⟨_,_,_,_,_,_,g,rfl,rfl,⟨j.1,j.2.1,j.2.2.1,by lia⟩,λ_=>j.2.2.2⟩⟩⟩;intro c g_ hz;obtain⟨out,ia,ib,mg,ac,bc,g,rfl,rfl,⟨j,i1,i2,i3⟩,i4⟩:=hz;exact⟨g,rfl,.inr ⟨_,_,_,_,_,_,rfl,j,i1,i2,i4 (by lia)⟩⟩;intro c g_ hz;obtain⟨g,rfl,hz⟩:=hz;rcases hz with hz|hz;obtain⟨m,r,rfl,hm⟩:=hz;exact Zy (z1 m _ g hm);obtain⟨out,ia,ib,mg,ac,bc,rfl,j⟩:=hz;dsimp only;rw[ba];exact ZD (XU (Zy (z2 _ _ _ _ _ j)))
end
def qW(h:∀m g,Good LT (a.toList++b.toList) m.toList->Q m (ao st g)):wpS (model prog w) A E s (jh a b) Q st:=by
 rw[Eu];refine ZD (wpS_lift (YT ⟨rfl,?_⟩));refine ZD (aF W.zb ?_);by_cases e1:1=b.size;refine aR (Zu.mpr e1) ?_;exact Zy (h _ (gallopOf st) (W.j0.dB e1));refine aN (λq=>e1 (Zu.mp q)) ?_;by_cases e2:0+1=a.size;refine aR (Zu.mpr e2) ?_;exact Zy (h _ (gallopOf st) (W.j0.lA W e2));refine aN (λq=>e2 (Zu.mp q)) ?_;have za:=W.za;have zb:=W.zb;refine ZD (Wn ?_);refine ZD (XO (YC (I:=λx c g_=>∃out ia ib mg g,c=(M,out,ia,ib,mg)/\g_=ao st g/\IL LT a b (x+1) out ia ib)
  (Q:=λc g_=>∃m g r,c=(U m,r)/\g_=ao st g/\Good LT (a.toList++b.toList) m.toList) ?_ ?_ ⟨_,_,_,_,gallopOf st,rfl,rfl,W.j0,by lia,by lia,by lia⟩) ?_)
 intro x c g_ g1 g2 hz;obtain⟨out,ia,ib,mg,g,rfl,rfl,j⟩:=hz;exact Cc O H hk W j (λm r g hm=>⟨m,g,_,rfl,rfl,hm⟩) λout ia ib mg g j=>⟨_,_,_,_,_,rfl,rfl,j⟩
 intro c g_ hz;obtain⟨out,ia,ib,mg,g,rfl,rfl,j,i1,i2,i3⟩:=hz;exfalso;lia;intro c g_ hz;obtain⟨m,g,r,rfl,rfl,hm⟩:=hz;exact Zy (h m g hm)
end
abbrev HS:=Z9 (Array Keyed)×Nat×Nat×Array Keyed×Nat×Nat×Nat
abbrev dh'(a b out:Array Keyed)(na nb:Nat):Array Keyed:=a.extract 0 na++b.extract 0 nb++out.reverse
abbrev fh'(a b out:Array Keyed)(na nb:Nat):Array Keyed:=b.extract 0 nb++a.extract 0 na++out.reverse
noncomputable def hiC(a b out:Array Keyed)(na nb mg ac bc:Nat):StateT SortSt Sem (ForInStep HS):=do
 let x <-elem' a (na - 1)
 if na - 1==0 then pure (.done (U (dh' a b (out.push x) (na - 1) nb),na - 1,nb,out.push x,mg,ac,bc))
 else if ac<7&&bc<7 then pure (.done (M,na - 1,nb,out.push x,mg,ac,bc)) else pure (.yield (M,na - 1,nb,out.push x,mg,ac,bc))
noncomputable def hiB(a b out:Array Keyed)(na nb mg ac bc:Nat):StateT SortSt Sem (ForInStep HS):=do
 let x <-elem' b (nb - 1)
 if nb - 1==1 then pure (.done (U (fh' a b (out.push x) na (nb - 1)),na,nb - 1,out.push x,mg,ac,bc))
 else do
  let y <-elem' a (na - 1)
  match <-cS L y b 0 (nb - 1) (nb - 1 - 1)with
  |some t=>
   if nb - 1 - t>0 then
    if t==1 then pure (.done (U (fh' a b (out.push x++(b.extract t (nb - 1)).reverse) na t),na,t,out.push x++(b.extract t (nb - 1)).reverse,mg,ac,nb - 1 - t))
    else if t==0 then pure (.done (U (dh' a b (out.push x++(b.extract t (nb - 1)).reverse) na t),na,t,out.push x++(b.extract t (nb - 1)).reverse,mg,ac,nb - 1 - t))
    else hiC a b (out.push x++(b.extract t (nb - 1)).reverse) na t mg ac (nb - 1 - t)
   else hiC a b (out.push x) na (nb - 1) mg ac (nb - 1 - t)
  |_=>pure (.done (U (dh' a b (out.push x) na (nb - 1)),na,nb - 1,out.push x,mg,ac,bc))
noncomputable def hiA(a b out:Array Keyed)(na nb mg ac bc:Nat):StateT SortSt Sem (ForInStep HS):=do
 bi mg
 let y <-elem' b (nb - 1)
 match <-cS Y y a 0 na (na - 1)with
 |some t=>
  if na - t>0 then
   if t==0 then pure (.done (U (dh' a b (out++(a.extract t na).reverse) t nb),t,nb,out++(a.extract t na).reverse,mg,na - t,bc))
   else hiB a b (out++(a.extract t na).reverse) t nb mg (na - t) bc
  else hiB a b out na nb mg (na - t) bc
 |_=>pure (.done (U (dh' a b out na nb),na,nb,out,mg,ac,bc))
abbrev VS:=Z9 (Array Keyed)×Nat×Nat×Array Keyed×Nat×Nat
abbrev PS:=Z9 (Array Keyed)×Nat×Nat×Array Keyed×Nat
noncomputable def SQ(a b out:Array Keyed)(na nb mg ac bc:Nat):StateT SortSt Sem (ForInStep VS):=do
 let x <-elem' b (nb - 1)
 let y <-elem' a (na - 1)
 match <-lt' x y with
 |some t=>
  if t then do
   let x <-elem' a (na - 1)
   if na - 1==0 then pure (.done (U (dh' a b (out.push x) (na - 1) nb),na - 1,nb,out.push x,ac+1,0))
   else if ac+1>=mg then pure (.done (M,na - 1,nb,out.push x,ac+1,0)) else pure (.yield (M,na - 1,nb,out.push x,ac+1,0))
  else do
   let x <-elem' b (nb - 1)
   if nb - 1==1 then pure (.done (U (fh' a b (out.push x) na (nb - 1)),na,nb - 1,out.push x,0,bc+1))
   else if bc+1>=mg then pure (.done (M,na,nb - 1,out.push x,0,bc+1)) else pure (.yield (M,na,nb - 1,out.push x,0,bc+1))
 |_=>pure (.done (U (dh' a b out na nb),na,nb,out,ac,bc))
noncomputable def Qx(a b out:Array Keyed)(na nb mg ac bc:Nat):StateT SortSt Sem (ForInStep HS):=if mg>1 then hiA a b out na nb (mg - 1) ac bc else hiA a b out na nb mg ac bc
noncomputable def SR(a b out:Array Keyed)(na nb mg:Nat):StateT SortSt Sem (ForInStep PS):=do
 let d <-forIn [:a.size+b.size] ((M,na,nb,out,0,0):VS) λ_ c=>SQ a b c.2.2.2.1 c.2.1 c.2.2.1 mg c.2.2.2.2.1 c.2.2.2.2.2
 Break.runK.match_1 (λ_=>StateT SortSt Sem (ForInStep PS)) d.1 (λr=>pure (.done (U r,d.2.1,d.2.2.1,d.2.2.2.1,mg))) λ_=>do
  rule "list.sort.gallop"
  let c <-forIn [:a.size+b.size] ((M,d.2.1,d.2.2.1,d.2.2.2.1,mg+1,d.2.2.2.2.1,d.2.2.2.2.2):HS) λ_ c=>Qx a b c.2.2.2.1 c.2.1 c.2.2.1 c.2.2.2.2.1 c.2.2.2.2.2.1 c.2.2.2.2.2.2
  Break.runK.match_1 (λ_=>StateT SortSt Sem (ForInStep PS)) c.1 (λr=>pure (.done (U r,c.2.1,c.2.2.1,c.2.2.2.1,c.2.2.2.2.1))) λ_=>do
   bi (c.2.2.2.2.1+1)
   pure (.yield (M,c.2.1,c.2.2.1,c.2.2.2.1,c.2.2.2.2.1+1))
theorem Et(a b:Array Keyed):jL a b=(do
 rule "list.sort.merge-hi"
 let x <-elem' a (a.size - 1)
 if a.size - 1==0 then pure (dh' a b #[x] (a.size - 1) b.size)
 else if b.size==1 then pure (fh' a b #[x] (a.size - 1) b.size)
 else do
  let s <-get
  let c <-forIn [:a.size+b.size] ((M,a.size - 1,b.size,#[x],gallopOf s):PS) λ_ c=>SR a b c.2.2.2.1 c.2.1 c.2.2.1 c.2.2.2.2
  Break.runK.match_1 (λ_=>StateT SortSt Sem (Array Keyed)) c.1 pure λ_=>unsupported "internal:list.sort.merge-bound"):=rfl
def fl(LT:Keyed->Keyed->Bool)(x y:Keyed):Bool:=LT y x
section
variable{LT:Keyed->Keyed->Bool}{st:SortSt}{a b:Array Keyed}
abbrev JH(LT:Keyed->Keyed->Bool)(a b out:Array Keyed)(na nb:Nat):Prop:=J (fl LT) (a.toList++b.toList) out.toList (a.toList.take na).reverse (b.toList.take nb).reverse
def Good.rev{T l:Z_ Keyed}(h:Good (fl LT) T l):Good LT T l.reverse:=⟨(List.reverse_perm l).trans h.pm,List.pairwise_reverse.mpr h.so⟩
variable{out:Array Keyed}{na nb:Nat}
def JH.dA(j:JH LT a b out na nb)(e:na=0):Good LT (a.toList++b.toList) (dh' a b out na nb).toList:=by
 subst e;rw[JH,List.take_zero,List.reverse_nil]at j;have:=j.swap.done.rev;rw[X2,Xc]at this;rwa[Zj,Zj,cY,cY,X5,List.take_zero,List.nil_append]
def JH.dB(j:JH LT a b out na nb)(e:nb=0):Good LT (a.toList++b.toList) (dh' a b out na nb).toList:=by
 subst e;rw[JH,List.take_zero,List.reverse_nil]at j;have:=j.done.rev;rw[X2,Xc]at this;rwa[Zj,Zj,cY,cY,X5,List.take_zero,Y3]
def JH.fB(W:Two LT T a b)(j:JH LT a b out na nb)(e:nb=1):Good LT (a.toList++b.toList) (fh' a b out na nb).toList:=by
 subst e;rw[JH,fP (a:=b) (i:=0) W.zb,List.take_zero,List.reverse_nil,Y3]at j;have:=(j.swap.last λy hy=>?_).rev;rw[X2,X2,Xc]at this;have e:=fP (a:=b) (i:=0) W.zb;rw[List.take_zero,List.reverse_nil,Y3]at e;have e':=congrArg List.reverse e;rw[Xc]at e';rw[Zj,Zj,cY,cY,X5,e',Zg];exact this;obtain⟨k,_,hk,rfl⟩:=cR (XY.mp hy);exact W.h0 k hk
def JH.pA(j:JH LT a b out (na+1) nb)(e:na<a.size)(q:∀k,k<nb->k<b.size->LT (K a na) (K b k)=Y):JH LT a b (out.push (K a na)) na nb:=by
 rw[JH,YB];rw[JH,fP e]at j;refine j.push λx hx y hy=>?_;obtain rfl:=ZG.mp hx;obtain⟨k,h1,h2,rfl⟩:=cR (XY.mp hy);exact q k h1 h2
def JH.pB(j:JH LT a b out na (nb+1))(e:nb<b.size)(q:∀k,k<na->k<a.size->LT (K b nb) (K a k)=Y):JH LT a b (out.push (K b nb)) na nb:=by
 rw[JH,YB];rw[JH,fP e]at j;refine(j.swap.push λx hx y hy=>?_).swap;obtain rfl:=ZG.mp hx;obtain⟨k,h1,h2,rfl⟩:=cR (XY.mp hy);exact q k h1 h2
def JH.cA(ht:t<=na)(j:JH LT a b out na nb)(q:∀i,t<=i->i<na->i<a.size->∀j,j<nb->j<b.size->LT (K a i) (K b j)=Y):JH LT a b (out++(a.extract t na).reverse) t nb:=by
 rw[JH,Zj];rw[JH,kE a ht]at j;refine j.push λx hx y hy=>?_;rw[X5,XY]at hx;obtain⟨i,h1,h2,h3,rfl⟩:=bd hx;obtain⟨k,h4,h5,rfl⟩:=cR (XY.mp hy);exact q i h1 h2 h3 k h4 h5
def JH.cB(ht:t<=nb)(j:JH LT a b out na nb)(q:∀i,t<=i->i<nb->i<b.size->∀j,j<na->j<a.size->LT (K b i) (K a j)=Y):JH LT a b (out++(b.extract t nb).reverse) na t:=by
 rw[JH,Zj];rw[JH,kE b ht]at j;refine(j.swap.push λx hx y hy=>?_).swap;rw[X5,XY]at hx;obtain⟨i,h1,h2,h3,rfl⟩:=bd hx;obtain⟨k,h4,h5,rfl⟩:=cR (XY.mp hy);exact q i h1 h2 h3 k h4 h5
def Two.k0(W:Two LT T a b):JH LT a b #[K a (a.size - 1)] (a.size - 1) b.size:=by
 have rv:∀{c:Array Keyed},Up LT c 0 c.size->(c.toList.take c.size).reverse.Pairwise (R (fl LT)):=λ{c} u=>by
  rw[YD (by simp)];exact List.pairwise_reverse.mpr (abD u)
 have j:JH LT a b #[] a.size b.size:=⟨by
  rw[YD (by simp),YD (by simp)];exact((List.reverse_perm _).append (List.reverse_perm _)),rv W.ua,rv W.ub⟩
 have za:=W.za;rw[show a.size=a.size - 1+1 by lia]at j;exact j.pA (by lia) λk k1 k2=>W.hl k k2
abbrev IH(LT:Keyed->Keyed->Bool)(a b:Array Keyed)(n:Nat)(out:Array Keyed)(na nb:Nat):Prop:=JH LT a b out na nb/\1<=na/\na<=a.size/\2<=nb/\nb<=b.size/\na+nb+n<=a.size+b.size
structure acn (LT:Keyed->Keyed->Bool)(a b:Array Keyed)(st:SortSt)(n0:Nat)(P:ForInStep HS->SortSt->Prop):Prop where
 good:∀m r g,Good LT (a.toList++b.toList) m.toList->P (.done (some m,r)) (ao st g)
 next:∀out na nb mg ac bc g,IH LT a b (n0+1) out na nb->P (.done (none,na,nb,out,mg,ac,bc)) (ao st g)/\P (.yield (none,na,nb,out,mg,ac,bc)) (ao st g)
variable{n0 mg ac bc:Nat}
def yP(W:Two LT T a b)(j:IH LT a b n0 out na nb)(Z:acn LT a b st n0 P)(q:∀k,k<nb->k<b.size->LT (K a (na - 1)) (K b k)=Y):
  wpS (model prog w) A E s (hiC a b out na nb mg ac bc) P (ao st g):=by
 obtain⟨j,h1,Ld,h2,J6,h3⟩:=j;refine ZD (aF (by lia) ?_);have j1:=JH.pA (na:=na - 1) (by rw[show na - 1+1=na by lia];exact j) (by lia) q;by_cases e:na - 1=0;refine aR (Zu.mpr e) ?_;exact Zy (Z.good _ _ _ (j1.dA e))
 .refine aN (λq=>e (Zu.mp q)) ?_
  have z:=λac bc=>Z.next _ _ _ mg ac bc g ⟨j1,by lia,by lia,h2,J6,by lia⟩;by_cases c:(decide (ac<7)&&decide (bc<7))=L;refine aR c ?_;exact Zy (z ac bc).1;refine aN c ?_;exact Zy (z ac bc).2
variable(O:aaI LT)(H:Ans prog w A s κ LT T)(hk:kindOf st=κ)(W:Two LT T a b)
include O H hk W
section
variable(j:IH LT a b n0 out na nb)
include j
def yo(Z:acn LT a b st n0 P)(q:∀k,k<na->k<a.size->LT (K b (nb - 1)) (K a k)=Y):
  wpS (model prog w) A E s (hiB a b out na nb mg ac bc) P (ao st g):=by
 obtain⟨j,h1,Ld,h2,J6,h3⟩:=j;refine ZD (aF (by lia) ?_);have j1:=JH.pB (nb:=nb - 1) (by rw[show nb - 1+1=nb by lia];exact j) (by lia) q;by_cases e:nb - 1=1;refine aR (Zu.mpr e) ?_;exact Zy (Z.good _ _ _ (j1.fB W e));refine aN (λq=>e (Zu.mp q)) ?_;refine ZD (aF (by lia) ?_);refine ZD (cj (st:=ao st g) O H hk (W.ha _ (by lia)) (by lia) (by lia) (λi hi=>W.hb _ (by lia)) (λp q a1 a2 a3=>W.ub p q (Zo _) a2 (by lia)) λt k1 k2 k3=>?_);have q2:∀m,m<t->m<b.size->LT (K a (na - 1)) (K b m)=Y:=λm m1 m2=>by
  have:=k2 m m1;unfold fB at this;simp only[Y1,Yh]at this;exact O.aa8 _ _ this
 dsimp only;by_cases c:nb - 1 - t>0;refine aR c ?_;have j2:=j1.cB (t:=t) (by lia) λi i1 i2 i3 m m1 m2=>O.tr _ _ _ (W.ua m (na - 1) (Zo _) (by lia) (by lia)) (by simpa only[fB,Y1,Yh]using k3 i i1 i2);by_cases e2:t=1;refine aR (Zu.mpr e2) ?_;exact Zy (Z.good _ _ _ (j2.fB W e2));refine aN (λq=>e2 (Zu.mp q)) ?_;by_cases e3:t=0;refine aR (Zu.mpr e3) ?_;exact Zy (Z.good _ _ _ (j2.dB e3));refine aN (λq=>e3 (Zu.mp q)) ?_;exact yP W ⟨j2,h1,Ld,by lia,by lia,by lia⟩ Z q2;refine aN c ?_;exact yP W ⟨j1,h1,Ld,by lia,by lia,by lia⟩ Z (by rw[show t=nb - 1 by lia]at q2;exact q2)
def CV(Z:acn LT a b st n0 P):
  wpS (model prog w) A E s (hiA a b out na nb mg ac bc) P (ao st g):=by
 obtain⟨j,h1,Ld,h2,J6,h3⟩:=j;unfold hiA;rw[ba];refine ZD (XU ?_);refine ZD (aF (by lia) ?_);refine ZD (cj (st:=ao st mg) O H hk (W.hb _ (by lia)) (by lia) (by lia) (λi hi=>W.ha _ (by lia)) (λp q a1 a2 a3=>W.ua p q (Zo _) a2 (by lia)) λt k1 k2 k3=>?_);have q2:∀m,m<t->m<a.size->LT (K b (nb - 1)) (K a m)=Y:=λm m1 m2=>by
  have:=k2 m m1;unfold fB at this;simpa only[ZI,Zb,Yu,Yh]using this
 dsimp only;by_cases c:na - t>0;refine aR c ?_;have j2:=j.cA (t:=t) (by lia) λi i1 i2 i3 m m1 m2=>O.tr _ _ _ (W.ub m (nb - 1) (Zo _) (by lia) (by lia)) (O.aa8 _ _ (by simpa only[fB,ZI,Zb,Bool.not_eq_false',Yh]using k3 i i1 i2));by_cases e1:t=0;refine aR (Zu.mpr e1) ?_;exact Zy (Z.good _ _ _ (j2.dA e1));refine aN (λq=>e1 (Zu.mp q)) ?_;exact yo O H hk W ⟨j2,by lia,by lia,h2,J6,by lia⟩ Z q2;refine aN c ?_;exact yo O H hk W ⟨j,h1,Ld,h2,J6,h3⟩ Z (by rw[show t=na by lia]at q2;exact q2)
def C9{P:ForInStep VS->SortSt->Prop}(z1:∀m r,Good LT (a.toList++b.toList) m.toList->P (.done (U m,r)) (ao st g))(z2:∀out na nb ac bc,IH LT a b n0 out na nb->P (.done (M,na,nb,out,ac,bc)) (ao st g)/\P (.yield (M,na,nb,out,ac,bc)) (ao st g)):
  wpS (model prog w) A E s (SQ a b out na nb mg ac bc) P (ao st g):=by
 obtain⟨j,i1,Pa,i2,O_,i3⟩:=j;refine ZD (aF (by lia) (ZD (aF (by lia) (ZD (rQ (st:=ao st g) H hk (W.hb _ (by lia)) (W.ha _ (by lia)) ?_)))));dsimp only;cases hw:LT (K b (nb - 1)) (K a (na - 1))with
 |true=>
  simp only[Y1];refine ZD (aF (by lia) ?_);have j1:=JH.pA (na:=na - 1) (by rw[show na - 1+1=na by lia];exact j) (by lia) λk k1 k2=>O.tr _ _ _ (W.ub k (nb - 1) (Zo _) (by lia) (by lia)) (O.aa8 _ _ hw);by_cases e:na - 1=0;refine aR (Zu.mpr e) ?_;exact Zy (z1 _ _ (j1.dA e));refine aN (λq=>e (Zu.mp q)) ?_;have z:=λac bc=>z2 _ _ _ ac bc ⟨j1,by lia,by lia,i2,O_,by lia⟩;by_cases c:ac+1>=mg;refine aR c ?_;exact Zy (z _ _).1;refine aN c ?_;exact Zy (z _ _).2
 |false=>
  simp only[ZI,Zb];refine ZD (aF (by lia) ?_);have j1:=JH.pB (nb:=nb - 1) (by rw[show nb - 1+1=nb by lia];exact j) (by lia) λk k1 k2=>O.tr _ _ _ (W.ua k (na - 1) (Zo _) (by lia) (by lia)) hw;by_cases e:nb - 1=1;refine aR (Zu.mpr e) ?_;exact Zy (z1 _ _ (j1.fB W e));refine aN (λq=>e (Zu.mp q)) ?_;have z:=λac bc=>z2 _ _ _ ac bc ⟨j1,i1,Pa,by lia,by lia,by lia⟩;by_cases c:bc+1>=mg;refine aR c ?_;exact Zy (z _ _).1;refine aN c ?_;exact Zy (z _ _).2
def Cn(Z:acn LT a b st n0 P):wpS (model prog w) A E s (Qx a b out na nb mg ac bc) P (ao st g):=by
 unfold Qx;split<;>exact CV O H hk W j Z
def Dd{P:ForInStep PS->SortSt->Prop}(z1:∀m r g,Good LT (a.toList++b.toList) m.toList->P (.done (U m,r)) (ao st g))(z2:∀out na nb mg g,IH LT a b (n0+1) out na nb->P (.yield (M,na,nb,out,mg)) (ao st g)):
  wpS (model prog w) A E s (SR a b out na nb mg) P (ao st g):=by
 have za:=W.za;refine ZD (XO (YC (I:=λy c g_=>∃na nb out ac bc,c=(M,na,nb,out,ac,bc)/\g_=ao st g/\IH LT a b n0 out na nb)
  (Q:=λc g_=>g_=ao st g/\((∃m r,c=(U m,r)/\Good LT (a.toList++b.toList) m.toList)\/∃na nb out ac bc,c=(M,na,nb,out,ac,bc)/\IH LT a b n0 out na nb)) ?_ ?_ ⟨na,nb,out,0,0,rfl,rfl,j⟩) ?_)
 intro y c g_ _ _ hz;obtain⟨na,nb,out,ac,bc,rfl,rfl,j⟩:=hz;exact C9 O H hk W j (λm r hm=>⟨rfl,.inl ⟨m,r,rfl,hm⟩⟩) λout na nb ac bc j=>⟨⟨rfl,.inr ⟨_,_,_,_,_,rfl,j⟩⟩,⟨_,_,_,_,_,rfl,rfl,j⟩⟩
 intro c g_ hz;obtain⟨na,nb,out,ac,bc,rfl,rfl,j⟩:=hz;exact⟨rfl,.inr ⟨_,_,_,_,_,rfl,j⟩⟩;intro c g_ hz;obtain⟨rfl,hz⟩:=hz;rcases hz with hz|hz;obtain⟨m,r,rfl,hm⟩:=hz;exact Zy (z1 m _ g hm);obtain⟨na,nb,out,ac,bc,rfl,j⟩:=hz;refine ZD (wpS_lift (YT ⟨rfl,?_⟩));refine ZD (XO (YC (I:=λy c g_=>∃na nb out mg ac bc g,c=(M,na,nb,out,mg,ac,bc)/\g_=ao st g/\IH LT a b n0 out na nb/\(1<=y->na+nb+n0<a.size+b.size))
  (Q:=λc g_=>∃g,g_=ao st g/\((∃m r,c=(U m,r)/\Good LT (a.toList++b.toList) m.toList)\/∃na nb out mg ac bc,c=(M,na,nb,out,mg,ac,bc)/\IH LT a b (n0+1) out na nb)) ?_ ?_ ⟨na,nb,out,_,ac,bc,g,rfl,rfl,j,λq=>absurd q (by lia)⟩) ?_)
 intro y c g_ _ _ hz;obtain⟨na,nb,out,mg,ac,bc,g,rfl,rfl,j,_⟩:=hz;exact Cn O H hk W j ⟨λm r g hm=>⟨g,rfl,.inl ⟨m,r,rfl,hm⟩⟩,λout na nb mg ac bc g j=>⟨⟨g,rfl,.inr ⟨_,_,_,_,_,_,rfl,j⟩⟩,⟨_,_,_,_,_,_,g,rfl,rfl,⟨j.1,j.2.1,j.2.2.1,j.2.2.2.1,j.2.2.2.2.1,by lia⟩,λ_=>by lia⟩⟩⟩;intro c g_ hz;obtain⟨na,nb,out,mg,ac,bc,g,rfl,rfl,⟨j,i1,Pa,i2,O_,i3⟩,i4⟩:=hz;exact⟨g,rfl,.inr ⟨_,_,_,_,_,_,rfl,j,i1,Pa,i2,O_,i4 (by lia)⟩⟩;intro c g_ hz;obtain⟨g,rfl,hz⟩:=hz;rcases hz with hz|hz;obtain⟨m,r,rfl,hm⟩:=hz;exact Zy (z1 m _ g hm);obtain⟨na,nb,out,mg,ac,bc,rfl,j⟩:=hz;dsimp only;rw[ba];exact ZD (XU (Zy (z2 _ _ _ _ _ j)))
end
def qv(h:∀m g,Good LT (a.toList++b.toList) m.toList->Q m (ao st g)):wpS (model prog w) A E s (jL a b) Q st:=by
 have za:=W.za;have zb:=W.zb;rw[Et];refine ZD (wpS_lift (YT ⟨rfl,?_⟩));refine ZD (aF (by lia) ?_);by_cases e1:a.size - 1=0;refine aR (Zu.mpr e1) ?_;exact Zy (h _ (gallopOf st) (W.k0.dA e1));refine aN (λq=>e1 (Zu.mp q)) ?_;by_cases e2:b.size=1;refine aR (Zu.mpr e2) ?_;exact Zy (h _ (gallopOf st) (W.k0.fB W e2));refine aN (λq=>e2 (Zu.mp q)) ?_;refine ZD (Wn ?_);refine ZD (XO (YC (I:=λx c g_=>∃na nb out mg g,c=(M,na,nb,out,mg)/\g_=ao st g/\IH LT a b (x+1) out na nb)
  (Q:=λc g_=>∃m g r,c=(U m,r)/\g_=ao st g/\Good LT (a.toList++b.toList) m.toList) ?_ ?_ ⟨_,_,_,_,gallopOf st,rfl,rfl,W.k0,by lia,by lia,by lia,by lia,by lia⟩) ?_)
 intro x c g_ g1 g2 hz;obtain⟨na,nb,out,mg,g,rfl,rfl,j⟩:=hz;exact Dd O H hk W j (λm r g hm=>⟨m,g,_,rfl,rfl,hm⟩) λout na nb mg g j=>⟨_,_,_,_,_,rfl,rfl,j⟩
 intro c g_ hz;obtain⟨na,nb,out,mg,g,rfl,rfl,j,i1,Pa,i2,O_,i3⟩:=hz;exfalso;lia;intro c g_ hz;obtain⟨m,g,r,rfl,rfl,hm⟩:=hz;exact Zy (h m g hm)
end
theorem nU(i:Nat):mergeAt' i=(do
 let s <-get
 let (some (sa,na,power),some (sb,nb,_)):=((pendingOf s)[i]?,(pendingOf s)[i+1]?)|unsupported "internal:list.sort.pending"
 set (setPending s (((pendingOf s).setIfInBounds i (sa,na+nb,power)).eraseIdxIfInBounds (i+1)))
 let some k <-cS false (<-elem' (arrOf s) sb) (arrOf s) sa na 0|return false
 let (sa,na):=(sa+k,na - k)
 if na==0 then return true
 let some nb <-cS true (<-elem' (arrOf s) (sa+na - 1)) (arrOf s) sb nb (nb - 1)|return false
 if nb==0 then return true
 let x:=(arrOf s).extract sa sb
 let y:=(arrOf s).extract sb (sb+nb)
 let merged <-if na<=nb then jh x y else jL x y
 modify λs=>setArr s (merged.toList.zipIdx.foldl (λa (p,j)=>a.setIfInBounds (sa+j) p) (arrOf s))
 return (failedOf (<-get)).isNone):=rfl
def fM(h:s+i<e):K (a.extract s e) i=K a (s+i):=by
 apply BI;rw[Array.getElem?_extract];split;rfl;rw[XR];lia
def Bm{P Lq L' S:Z_ Keyed}{q:Nat}(e:Lq.length=L'.length)(h:q<P.length\/P.length+Lq.length<=q):(P++Lq++S)[q]?=(P++L'++S)[q]?:=by
 rcases h with h|h;rw[Zg,Zg,Ys h,Ys h];rw[Yb (by rw[Zv];exact h),Yb (by rw[Zv,<-e];exact h),Zv,Zv,e]
def xK(m:Z_ Keyed):∀(mid pre post:Z_ Keyed)(a:Array Keyed)(o st:Nat),a.toList=pre++mid++post->pre.length=o+st->m.length=mid.length->
  ((m.zipIdx st).foldl (λa (p:Keyed×Nat)=>a.setIfInBounds (o+p.2) p.1) a).toList=pre++m++post:=by
 induction m with
 |nil=>intro mid pre post a o st h _ h3;rw[List.eq_nil_of_length_eq_zero h3.symm]at h;exact h
 |cons x m ih=>
  intro mid pre post a o st h h2 h3;cases mid with
  |nil=>cases h3
  |cons c mid=>
   rw[List.zipIdx_cons,List.foldl_cons];have:=ih mid (pre++[x]) post (a.setIfInBounds (o+st) x) o (st+1) (by
    rw[Array.toList_setIfInBounds,h,<-h2,Zg,List.set_append_right _ _ (ZP _),Nat.sub_self];simp) (by simp;lia) (Nat.succ.inj h3)
   rw[this];simp
section
variable{prog:Y5}{w:YV}{A:Y9}{E:Z3->ZT->Prop}{s:ZT}{LT:Keyed->Keyed->Bool}{T:Array Keyed}{κ:SortKind}{a:Array Keyed}
def pb(u:Up LT a i j):(a.extract i j).toList.Pairwise (R LT):=by
 apply abD;intro p q _ h1 h2;rw[Array.size_extract]at h2;rw[fM (by lia),fM (by lia)];exact u _ _ (by lia) (by lia) (by lia)
def xY(O:aaI LT)(h:a.toList=P++Lq++S)(hl:Lq.Pairwise (R LT)):Up LT a P.length (P.length+Lq.length):=λp q h1 h2 h3=>by
 have e:∀i (hi:i<Lq.length),K a (P.length+i)=Lq[i]:=λi hi=>by
  rw[fA,h,Zg,Yb (by lia),show P.length+i - P.length=i by lia,Ys hi];simp[hi]
 obtain⟨p,rfl⟩:∃p',p=P.length+p':=⟨p - P.length,by lia⟩
 obtain⟨q,rfl⟩:∃p',q=P.length+p':=⟨q - P.length,by lia⟩
 rw[e p (by lia),e q (by lia)];by_cases c:p=q;subst c;exact O.irr _;exact List.pairwise_iff_getElem.mp hl p q (by lia) (by lia) (by lia)
def qx(O:aaI LT)(H:Ans prog w A s κ LT T)(hT:a.Perm T)(hp:p.toList=l1++(sa,na,pw)::(sa+na,nb,P4)::l2)(hi:i=l1.length)(h1:1<=na)(h2:1<=nb)(hz:sa+na+nb<=T.size)(u1:Up LT a sa (sa+na))(u2:Up LT a (sa+na) (sa+na+nb))(h:∀a' p' g,a'.Perm T->(∀k,k<sa\/sa+na+nb<=k->K a' k=K a k)->Up LT a' sa (sa+(na+nb))->p'.toList=l1++(sa,na+nb,pw)::l2->Q L (SortSt.mk' κ a' p' g M)):
  wpS (model prog w) A E s (mergeAt' i) Q (SortSt.mk' κ a p g M):=by
 have ez:=hT.size_eq;have mT:∀k,k<T.size->K a k∈T:=λk hk=>hT.mem_iff.mp (Aj (by lia));subst hi;have g1:p[l1.length]?=U (sa,na,pw):=by rw[<-Wx,hp];simp
 have g2:p[l1.length+1]?=U (sa+na,nb,P4):=by rw[<-Wx,hp];simp
 rw[nU];refine ZD (Wn ?_);have ea:∀p g,arrOf (SortSt.mk' κ a p g M)=a:=λ_ _=>rfl;simp only[ea];rw[g1,g2];dsimp only;have Jf:((p.setIfInBounds l1.length (sa,na+nb,pw)).eraseIdxIfInBounds (l1.length+1)).toList=l1++(sa,na+nb,pw)::l2:=by
  rw[Array.toList_eraseIdxIfInBounds,Array.toList_setIfInBounds,hp];simp[List.eraseIdx_append_of_length_le]
 generalize ((p.setIfInBounds l1.length (sa,na+nb,pw)).eraseIdxIfInBounds (l1.length+1))=p' at Jf⊢;refine ZD (?_:wpS (model prog w) A E s (set _:StateT SortSt Sem PUnit) _ _);unfold wpS;rw[StateT.run_set];refine Z4 ⟨rfl,?_⟩;refine ZD (aF (by lia) ?_);refine ZD (cj (st:=SortSt.mk' κ a p' g M) O H rfl (mT _ (by lia)) (by lia) (by lia) (λj hj=>mT _ (by lia)) u1 λk k1 k2 k3=>?_);dsimp only;have whole:∀(e:∀q,q<na->LT (K a (sa+na)) (K a (sa+q))=Y),Up LT a sa (sa+(na+nb)):=λe x y a1 a2 a3=>by
  by_cases c1:y<sa+na;exact u1 x y a1 a2 c1;by_cases c2:x<sa+na;have:=e (x - sa) (by lia);rw[show sa+(x - sa)=x by lia]at this;exact O.tr _ _ _ this (u2 (sa+na) y (ZP _) (by lia) (by lia));exact u2 x y (by lia) a2 (by lia)
 by_cases c:na - k=0;refine aR (Zu.mpr c) ?_;exact Zy (h a p' g hT (λ_ _=>rfl) (whole λq hq=>by simpa only[fB,ZI,Zb,Yu]using k2 q (by lia)) Jf);refine aN (λq=>c (Zu.mp q)) ?_;have el:sa+k+(na - k) - 1=sa+na - 1:=by lia
 rw[el];refine ZD (aF (by lia) ?_);refine ZD (cj (st:=SortSt.mk' κ a p' g M) O H rfl (mT _ (by lia)) (by lia) (by lia) (λj hj=>mT _ (by lia)) u2 λJu n1 n2 n3=>?_);dsimp only;by_cases c':Ju=0;refine aR (Zu.mpr c') ?_;refine Zy (h a p' g hT (λ_ _=>rfl) (whole λq hq=>?_) Jf);have:=n3 0 (by lia) (by lia);simp only[fB,Y1,Nat.add_zero]at this;exact O.tr _ _ _ (u1 (sa+q) (sa+na - 1) (by lia) (by lia) (by lia)) this;refine aN (λq=>c' (Zu.mp q)) ?_;have W:Two LT T (a.extract (sa+k) (sa+na)) (a.extract (sa+na) (sa+na+Ju)):=by
  have zx:(a.extract (sa+k) (sa+na)).size=na - k:=by rw[Array.size_extract];lia
  have zy:(a.extract (sa+na) (sa+na+Ju)).size=Ju:=by rw[Array.size_extract];lia
  refine⟨λi hi=>?_,λi hi=>?_,λx y a1 a2 a3=>?_,λx y a1 a2 a3=>?_,by lia,by lia,λj hj=>?_,λj hj=>?_⟩;rw[fM (by lia)];exact mT _ (by lia);rw[fM (by lia)];exact mT _ (by lia);rw[fM (by lia),fM (by lia)];exact u1 _ _ (by lia) (by lia) (by lia);rw[fM (by lia),fM (by lia)];exact u2 _ _ (by lia) (by lia) (by lia);rw[fM (by lia),fM (by lia)];have:=k3 (k+j) (by lia) (by lia);simp only[fB,ZI,Zb,Bool.not_eq_false']at this;rw[show sa+k+j=sa+(k+j) by lia];exact O.aa8 _ _ this;rw[zx,fM (by lia),fM (by lia),show sa+k+(na - k - 1)=sa+na - 1 by lia];have:=n2 j (by lia);simp only[fB,Y1]at this;exact O.aa8 _ _ this
 have fin:∀(m:Array Keyed)(g':Nat),Good LT ((a.extract (sa+k) (sa+na)).toList++(a.extract (sa+na) (sa+na+Ju)).toList) m.toList->
   wpS (model prog w) A E s (do
    modify λs=>setArr s (m.toList.zipIdx.foldl (λa (p:Keyed×Nat)=>a.setIfInBounds (sa+k+p.2) p.1) (arrOf s))
    return (failedOf (<-get)).isNone) Q (SortSt.mk' κ a p' g' M):=λm g' hm=>by
  refine ZD (XU (ZD (Wn (Zy ?_))));have dec:a.toList=a.toList.take sa++((a.extract sa (sa+k)).toList++((a.extract (sa+k) (sa+na)).toList++(a.extract (sa+na) (sa+na+Ju)).toList)++(a.extract (sa+na+Ju) (sa+na+nb)).toList)++a.toList.drop (sa+na+nb):=by
   have d1:=b8 a sa k;have d2:=b8 a (sa+k) (na - k);have d3:=b8 a (sa+na) Ju;have d4:=b8 a (sa+na+Ju) (nb - Ju);rw[show sa+k+(na - k)=sa+na by lia]at d2;rw[show sa+na+Ju+(nb - Ju)=sa+na+nb by lia]at d4;rw[d2,d3,d4]at d1;have:=(XN sa a.toList).symm;rw[d1]at this
   conv=>lhs;rw[this]
   simp only[Zg]
  have ml:m.toList.length=((a.extract (sa+k) (sa+na)).toList++(a.extract (sa+na) (sa+na+Ju)).toList).length:=hm.pm.length_eq;have Rw:a.toList=a.toList.take sa++(a.extract sa (sa+k)).toList++((a.extract (sa+k) (sa+na)).toList++(a.extract (sa+na) (sa+na+Ju)).toList)++((a.extract (sa+na+Ju) (sa+na+nb)).toList++a.toList.drop (sa+na+nb)):=by
   conv=>lhs;rw[dec]
   simp only[Zg]
  have res:=xK m.toList _ _ _ a (sa+k) 0 Rw (by simp;lia) ml;have ML:(m.toList.zipIdx.foldl (λa (p:Keyed×Nat)=>a.setIfInBounds (sa+k+p.2) p.1) a).toList=a.toList.take sa++((a.extract sa (sa+k)).toList++m.toList++(a.extract (sa+na+Ju) (sa+na+nb)).toList)++a.toList.drop (sa+na+nb):=by
   rw[res];simp only[Zg]
  have pl:(a.toList.take sa).length=sa:=by simp;lia
  have len:((a.extract sa (sa+k)).toList++m.toList++(a.extract (sa+na+Ju) (sa+na+nb)).toList).length=na+nb:=by
   rw[Zv,Zv,ml];simp;lia
  refine h _ p' g' ?_ (λq hq=>?_) ?_ Jf
  .refine Array.Perm.trans (Array.perm_iff_toList_perm.mpr ?_) hT
   rw[ML]
   conv=>rhs;rw[dec]
   exact((((YQ _).append hm.pm).append (YQ _)).append_left _).append_right _
  .rw[fA,fA,ML]
   conv=>rhs;rw[dec]
   congr 1;exact Bm (by simp only[Zv]at ml⊢;lia) (by rw[pl,len];lia)
  have:=xY O ML ?_;rw[pl,len]at this;exact this;have ux:∀v∈(a.extract (sa+k) (sa+na)).toList,LT (K a (sa+na - 1)) v=Y:=λv hv=>by
   obtain⟨i,i1,i2,_,rfl⟩:=bd hv;exact u1 i (sa+na - 1) (by lia) (by lia) (by lia)
  have uc:∀v∈(a.extract sa (sa+k)).toList,LT (K a (sa+na - 1)) v=Y:=λv hv=>by
   obtain⟨i,i1,i2,_,rfl⟩:=bd hv;exact u1 i (sa+na - 1) (by lia) (by lia) (by lia)
  have uz:∀z∈(a.extract (sa+na+Ju) (sa+na+nb)).toList,LT z (K a (sa+na - 1))=Y:=λz hz=>by
   obtain⟨i,i1,i2,_,rfl⟩:=bd hz;have:=n3 (i - (sa+na)) (by lia) (by lia);simpa only[fB,Y1,show sa+na+(i - (sa+na))=i by lia]using this
  rw[X7,X7];refine⟨⟨pb λx y a1 a2 a3=>u1 x y a1 a2 (by lia),hm.so,λu hu v hv=>?_⟩,pb λx y a1 a2 a3=>u2 x y (by lia) a2 a3,λv hv z hz=>?_⟩;obtain⟨i,i1,i2,_,rfl⟩:=bd hu;rcases Zl.mp (hm.pm.mem_iff.mp hv)with hv|hv;obtain⟨j,j1,j2,_,rfl⟩:=bd hv;exact u1 i j (by lia) (by lia) (by lia);obtain⟨j,j1,j2,_,rfl⟩:=bd hv;have:=k2 (i - sa) (by lia);simp only[fB,ZI,Zb,Yu,show sa+(i - sa)=i by lia]at this;exact O.tr _ _ _ this (u2 (sa+na) j (ZP _) (by lia) (by lia));rcases Zl.mp hv with hv|hv;exact O.tr _ _ _ (uc v hv) (uz z hz);rcases Zl.mp (hm.pm.mem_iff.mp hv)with hv|hv;exact O.tr _ _ _ (ux v hv) (uz z hz);obtain⟨j,j1,j2,_,rfl⟩:=bd hv;obtain⟨i,i1,i2,_,rfl⟩:=bd hz;exact u2 j i (by lia) (by lia) (by lia)
 by_cases c3:na - k<=Ju;refine aR c3 ?_;exact ZD (qW (st:=SortSt.mk' κ a p' g M) O H rfl W λm g' hm=>fin m g' hm);refine aN c3 ?_;exact ZD (qv (st:=SortSt.mk' κ a p' g M) O H rfl W λm g' hm=>fin m g' hm)
end
abbrev P3:=Nat×Nat×Nat
def aaM:Z_ P3->Nat->Nat->Prop
 |[],s,e=>s=e
 |q::r,s,e=>q.1=s/\1<=q.2.1/\aaM r (s+q.2.1) e
theorem aaM.le:∀{l:Z_ P3}{s e:Nat},aaM l s e->s+l.length<=e
 |[],_,_,h=>by simp only[aaM]at h;simp;lia
 |q::r,s,e,h=>by have:=h.2.2.le;have:=h.2.1;simp;lia
theorem aaM.app:∀{l m:Z_ P3}{s e:Nat},aaM (l++m) s e->∃t,aaM l s t/\aaM m t e
 |[],m,s,e,h=>⟨s,rfl,h⟩
 |q::r,m,s,e,h=>by
  obtain⟨t,a,b⟩:=h.2.2.app;exact⟨t,⟨h.1,h.2.1,a⟩,b⟩
theorem aaM.join:∀{l m:Z_ P3}{s t e:Nat},aaM l s t->aaM m t e->aaM (l++m) s e
 |[],m,s,t,e,h,h'=>by simp only[aaM]at h;subst h;exact h'
 |q::r,m,s,t,e,h,h'=>⟨h.1,h.2.1,h.2.2.join h'⟩
theorem aaM.bound:∀{l:Z_ P3}{s e:Nat},aaM l s e->∀q∈l,s<=q.1/\q.1+q.2.1<=e
 |p::r,s,e,h,q,hq=>by
  have:=h.2.2.le;rcases Z0.mp hq with rfl|hq;have:=h.1;lia;have:=h.2.2.bound q hq;lia
section
variable{LT:Keyed->Keyed->Bool}{T:Array Keyed}{a:Array Keyed}
structure Wait (LT:Keyed->Keyed->Bool)(T a:Array Keyed)(p:Array P3)(lo:Nat):Prop where
 pm:a.Perm T
 ti:aaM p.toList 0 lo
 up:∀q∈p.toList,Up LT a q.1 (q.1+q.2.1)
def Wait.merge(O:aaI LT)(H:Ans prog w A s κ LT T){lo g i:Nat}(hz:lo<=T.size)(h:Wait LT T a p lo)(hi:i+1<p.size)(hQ:∀a' p' g,Wait LT T a' p' lo->p'.size+1=p.size->(∀k,lo<=k->K a' k=K a k)->Q L (SortSt.mk' κ a' p' g M)):wpS (model prog w) A E s (mergeAt' i) Q (SortSt.mk' κ a p g M):=by
 obtain⟨l1,l2,x,y,e,hl⟩:∃l1 l2 x y,p.toList=l1++x::y::l2/\l1.length=i:=by
  have o_:i+1<p.toList.length:=by simpa using hi
  refine⟨p.toList.take i,p.toList.drop (i+2),p.toList[i],p.toList[i+1],?_,by simp;lia⟩;rw[<-Zx o_,<-Zx (by lia),XN]
 obtain⟨sa,na,pw⟩:=x;obtain⟨sb,nb,P4⟩:=y;have ti:=h.ti;rw[e]at ti;obtain⟨t,t1,t2⟩:=ti.app;obtain⟨r1,r2,r3,r4,r5⟩:=t2;dsimp only at r1 r2 r3 r4 r5;subst r1 r3;have b1:=r5.le;have u1:=h.up (sa,na,pw) (by rw[e];simp);have u2:=h.up (sa+na,nb,P4) (by rw[e];simp);refine qx O H h.pm e hl.symm r2 r4 (by lia) u1 u2 λa' p' g hp hk hu he=>hQ a' p' g ⟨hp,?_,λq hq=>?_⟩ ?_ λk Kw=>hk k (by lia);rw[he];exact t1.join ⟨rfl,by dsimp only;lia,by dsimp only;rw[<-Nat.add_assoc];exact r5⟩;rw[he]at hq;have cg:∀q∈p.toList,q.1+q.2.1<=sa\/sa+na+nb<=q.1->Up LT a' q.1 (q.1+q.2.1):=λq hq hd x y a1 a2 a3=>by
  rw[hk x (by lia),hk y (by lia)];exact h.up q hq x y a1 a2 a3
 rcases Zl.mp hq with hq|hq;exact cg q (by rw[e];exact YS _ hq) (.inl (t1.bound q hq).2);rcases Z0.mp hq with rfl|hq;exact hu;exact cg q (by rw[e];exact ZE _ (.tail _ (.tail _ hq))) (.inr (r5.bound q hq).1);have l1:=congrArg List.length he;have l2:=congrArg List.length e;simp at l1 l2;lia
theorem Wait.push{lo n z:Nat}(h:Wait LT T a p lo)(hn:1<=n)(hu:Up LT a lo (lo+n)):Wait LT T a (p.push (lo,n,z)) (lo+n):=by
 refine⟨h.pm,by rw[YB];exact h.ti.join ⟨rfl,hn,rfl⟩,λq hq=>?_⟩;rw[YB]at hq;rcases Zl.mp hq with hq|hq;exact h.up q hq;obtain rfl:=ZG.mp hq;exact hu
theorem o7(hf:∀q,(f q).1=q.1/\(f q).2.1=q.2.1):∀{l:Z_ P3}{i s e:Nat},aaM l s e->aaM (l.modify i f) s e
 |[],i,s,e,h=>by simpa using h
 |q::r,0,s,e,h=>by
  simp only[List.modify_zero_cons,aaM,(hf q).1,(hf q).2];exact h
 |q::r,i+1,s,e,h=>by
  simp only[List.modify_succ_cons];exact⟨h.1,h.2.1,o7 hf h.2.2⟩
theorem iN:∀{l:Z_ P3}{i:Nat}{q:P3},q∈l.modify i f->q∈l\/∃r∈l,q=f r
 |[],i,q,h=>by simp at h
 |p::r,0,q,h=>by
  simp only[List.modify_zero_cons]at h;rcases Z0.mp h with rfl|h;exact .inr ⟨p,.head _,rfl⟩;exact .inl (.tail _ h)
 |p::r,i+1,q,h=>by
  simp only[List.modify_succ_cons]at h;rcases Z0.mp h with rfl|h;exact .inl (.head _);rcases iN h with h|⟨x,h,e⟩;exact .inl (.tail _ h);exact .inr ⟨x,.tail _ h,e⟩
def Wait.mod{lo i z:Nat}(h:Wait LT T a p lo):Wait LT T a (p.modify i λ(st,len,_)=>(st,len,z)) lo:=by
 refine⟨h.pm,by rw[Array.toList_modify];exact o7 (f:=λ(st,len,_)=>(st,len,z)) (λq=>⟨rfl,rfl⟩) h.ti,λq hq=>?_⟩;rw[Array.toList_modify]at hq;rcases iN hq with hq|⟨r,hr,rfl⟩;exact h.up q hq;exact h.up r hr
def abz(O:aaI LT)(H:Ans prog w A s κ LT T)(h2:2<=T.size)(hQ:∀a p g,a.Perm T->Up LT a 0 T.size->Q () (SortSt.mk' κ a p g M)):wpS (model prog w) A E s sortRuns' Q (SortSt.mk' κ T #[] g M):=by
 rw[sortRuns'_eq];refine ZD (Wn ?_);have ea:∀a p g,arrOf (SortSt.mk' κ a p g M)=a:=λ_ _ _=>rfl;have ep:∀a p g,pendingOf (SortSt.mk' κ a p g M)=p:=λ_ _ _=>rfl;simp only[ea];generalize minRun' T.size T.size 0=mr;refine ZD (XO (YC (I:=λx c g_=>∃a p g lo,c=(M,lo)/\g_=SortSt.mk' κ a p g M/\Wait LT T a p lo/\lo<=T.size/\x<=lo)
  (Q:=λc g_=>∃a p g,c=(M,T.size)/\g_=SortSt.mk' κ a p g M/\Wait LT T a p T.size) ?_ ?_ ⟨T,#[],g,0,rfl,rfl,⟨Array.Perm.refl _,rfl,λq hq=>nomatch hq⟩,Zo _,ZP _⟩) ?_)
 .intro x c g_ _ hx hz;obtain⟨a,p,g,lo,rfl,rfl,hw,Kf,Pb⟩:=hz
  dsimp only;by_cases c1:lo>=T.size;rw[ZR c1];have:lo=T.size:=by lia
  exact Zy ⟨a,p,g,by rw[this],rfl,by rw[<-this];exact hw⟩;rw[ZK c1];refine ZD (mB (st:=SortSt.mk' κ a p g M) O H rfl hw.pm (by lia) (by lia) λm a1 m1 m2 C1 U1=>?_);have wt:∀a2,Chg T a lo a2->Wait LT T a2 p lo:=λa2 C=>⟨C.perm,hw.ti,λq hq x y h1 h2 h3=>by
   have:=(hw.ti.bound q hq).2;rw[C.keep x (by lia),C.keep y (by lia)];exact hw.up q hq x y h1 h2 h3⟩
  dsimp only;by_cases c2:m<mr
  all_goals first
   |rw[ZK c2]
   |(rw[ZR c2]
     refine ZD (wpS_lift (YT ⟨rfl,?_⟩));have C0:=C1;have n0:1<=min (T.size - lo) mr/\min (T.size - lo) mr<=T.size - lo:=by lia
     refine ZD (jK (st:=SortSt.mk' κ a1 p g M) O H rfl C1.perm (by lia) (by lia) (by lia) U1 λa1 C2 U1=>?_);have C1:Chg T a lo a1:=⟨C2.perm,λk hk=>(C2.keep k hk).trans (C0.keep k hk)⟩
     simp only[YA,ZI,Zb];obtain⟨m1,m2⟩:=n0;generalize min (T.size - lo) mr=m at U1 m1 m2⊢)
  all_goals
   have W1:=wt a1 C1;clear wt C1;refine ZD (Wn ?_);have e0:pendingOf (setArr (SortSt.mk' κ a p g M) a1)=p:=rfl;cases hb:(pendingOf (SortSt.mk' κ a1 p g M)).back? with
   |none=>
    have IU:p.back?=M:=hb;simp only[ep,IU];exact ZD (XU (Zy ⟨_,_,_,_,rfl,rfl,W1.push m1 U1,by lia,by lia⟩))
   |some q=>
    obtain⟨s1,n1,z⟩:=q;have IU:p.back?=U (s1,n1,z):=hb;simp only[ep,IU];generalize power' T.size (2*s1+n1) (2*s1+n1+n1+m) T.size=pw;refine ZD (XO (YC (I:=λ_ c g_=>c=(M,())/\∃a' p' g',g_=SortSt.mk' κ a' p' g' M/\Wait LT T a' p' lo/\∀k,lo<=k->K a' k=K a1 k)
     (Q:=λc g_=>c=(M,())/\∃a' p' g',g_=SortSt.mk' κ a' p' g' M/\Wait LT T a' p' lo/\∀k,lo<=k->K a' k=K a1 k) ?_ (λ_ _ h=>h) ⟨rfl,a1,p,g,rfl,W1,λ_ _=>rfl⟩) ?_)
    intro x c g_ _ _ hz;obtain⟨rfl,a',p',g',rfl,NW,Kw⟩:=hz;refine ZD (Wn ?_);simp only[ep];by_cases c:p'.size>1;rw[ZR c,getElem?_pos p' (p'.size - 2) (by lia)];generalize p'[p'.size - 2]=q;obtain⟨u1,u2,old⟩:=q;dsimp only;by_cases c2:old<=pw;rw[ZR c2];exact Zy ⟨rfl,a',p',g',rfl,NW,Kw⟩;rw[ZK c2];refine ZD (NW.merge O H (by lia) (by lia) λa2 p2 g2 NU _ N6=>?_);exact Zy ⟨rfl,a2,p2,g2,rfl,NU,λk hk=>(N6 k hk).trans (Kw k hk)⟩;rw[ZK c];exact Zy ⟨rfl,a',p',g',rfl,NW,Kw⟩;intro c g_ hz;obtain⟨rfl,a',p',g',rfl,NW,Kw⟩:=hz;have Jj:Up LT a' lo (lo+m):=λx y h1 h2 h3=>by rw[Kw x h1,Kw y (by lia)];exact U1 x y h1 h2 h3
    exact ZD (XU (ZD (XU (Zy ⟨_,_,_,_,rfl,rfl,NW.mod.push m1 Jj,by lia,by lia⟩))))
 intro c g_ hz;obtain⟨a,p,g,lo,rfl,rfl,hw,Kf,Pb⟩:=hz;have:lo=T.size:=by lia
 exact⟨a,p,g,by rw[this],rfl,by rw[<-this];exact hw⟩
 .intro c g_ hz;obtain⟨a,p,g,rfl,rfl,hw⟩:=hz
  dsimp only;have hl:=hw.ti.le;refine ZD (XO (YC (I:=λx c g_=>c=(M,())/\∃a p g,g_=SortSt.mk' κ a p g M/\Wait LT T a p T.size/\p.size+x<=T.size)
   (Q:=λc g_=>c=(M,())/\∃a p g,g_=SortSt.mk' κ a p g M/\Wait LT T a p T.size/\p.size<=1) ?_ ?_ ⟨rfl,a,p,g,rfl,hw,by simp at hl;lia⟩) ?_)
  .intro x c g_ _ _ hz;obtain⟨rfl,a,p,g,rfl,hw,hx⟩:=hz
   refine ZD (Wn ?_);simp only[ep];by_cases c:p.size<=1;rw[ZR c];exact Zy ⟨rfl,a,p,g,rfl,hw,c⟩
   .rw[ZK c]
    refine ZD (hw.merge O H (ZP _) ?_ λa2 p2 g2 NU hs _=>?_)
    .have:∀b:Bool,(if b=L then p.size - 2 - 1 else p.size - 2)+1<p.size:=λb=>by cases b<;>simp<;>lia
     exact this _
    exact Zy ⟨rfl,a2,p2,g2,rfl,NU,by lia⟩
  intro c g_ hz;obtain⟨rfl,a,p,g,rfl,hw,hx⟩:=hz;exact⟨rfl,a,p,g,rfl,hw,by lia⟩;intro c g_ hz;obtain⟨rfl,a,p,g,rfl,hw,hx⟩:=hz;refine Zy (hQ a p g hw.pm ?_);have ti:=hw.ti;have up:=hw.up;have Kr:p.toList.length<=1:=by simpa using hx
  rcases hp:p.toList with _|⟨q,_|⟨r,l⟩⟩;rw[hp]at ti;simp only[aaM]at ti;lia;rw[hp]at ti up;obtain⟨t1,t2,t3⟩:=ti;simp only[aaM]at t3;have:=up q (.head _);rw[t1,t3]at this;exact this;rw[hp]at Kr;simp at Kr
end
end SM
namespace L2
open PySem PySem.Spec PyProof.Rows PySem.W
variable[Lams]
section
variable{vs:Z_ Z3}
def xG{n:Nat}{P:PySem.Fin->ZT->Prop}{κ:SortKind}{LT:Z3->Z3->Bool}(ho:s.heap.get? a=U (seqObj "list" vs.toArray n))(hz:vs.length<=sizeLine)(O:SM.aaI λx y=>LT x.1 y.1)
  (hk:2<=vs.length->∀h',(∀b o,b≠a->s.heap.get? b=U o->h'.get? b=U o)->∀Q:SortKind->ZT->Prop,Q κ {s with heap:=h'}->wpAny (model prog w) A (keyKind' vs.toArray) Q (λ_ _=>False) {s with heap:=h'})
  (ka:2<=vs.length->∀h',(∀b o,b≠a->s.heap.get? b=U o->h'.get? b=U o)->∀(u v:Z3)(C:Bool->ZT->Prop),u∈vs->v∈vs->C (LT u v) {s with heap:=h'}->wpAny (model prog w) A (keyLt' κ u v) C (λ_ _=>False) {s with heap:=h'})
  (h:∀us:Z_ Z3,us.Perm vs->us.Pairwise (λu v=>LT v u=Y)->∀h' c,(∀b o,b≠a->s.heap.get? b=U o->h'.get? b=U o)->h'.get? a=U (seqObj "list" us.toArray c)->P (.done (.ret .none)) {s with heap:=h'}):
  wpAny (model prog w) A (Builtin.«list.sort» ⟨[.ref a],[]⟩) P E s:=by
 have ha:a<s.z:=ZV ho;rw[list_sort_plain];refine Z8 (Wg ho rfl (Z8 (Xb ho rfl ?_ (by rw[ZW];exact hz) (Zo _))));obtain⟨e1,g1⟩:∃e1,(s.heap.update a (Obj.mapSeq λ_=>(#[]:Array Z3))).get? a=U (seqObj "list" #[] e1):=⟨_,WJ ho λ_=>#[]⟩
 refine Z8 (seqEpoch_at g1 rfl (Z8 (Wk ?_ hz)));refine Z8 (WD ?_ (Zo _));refine Za ?_;have keep:∀b o,b≠a->s.heap.get? b=U o->(((s.heap.update a (Obj.mapSeq λ_=>(#[]:Array Z3))).push (seqObj "tuple" vs.toArray 0)).push (seqObj "list" #[] 0)).get? b=U o:=λb o hb e=>
  Z5 _ (Z5 _ ((Zn s.heap _ (ZC hb)).trans e))
 have g3:(((s.heap.update a (Obj.mapSeq λ_=>(#[]:Array Z3))).push (seqObj "tuple" vs.toArray 0)).push (seqObj "list" #[] 0)).get? a=U (seqObj "list" #[] e1):=Z5 _ (Z5 _ g1);show wpAny (model prog w) A _ P E {s with heap:=((s.heap.update a (Obj.mapSeq λ_=>(#[]:Array Z3))).push (seqObj "tuple" vs.toArray 0)).push (seqObj "list" #[] 0)};generalize hH:(((s.heap.update a (Obj.mapSeq λ_=>(#[]:Array Z3))).push (seqObj "tuple" vs.toArray 0)).push (seqObj "list" #[] 0))=H1 at*;dsimp only;have fin:∀st:SortSt,((arrOf st).map (·.2)).toList.Perm vs->((arrOf st).map (·.2)).toList.Pairwise (λu v=>LT v u=Y)->failedOf st=M->
   wpAny (model prog w) A (do
    let touched:=(<-seqEpoch a) != e1
    Builtin.List.listUpdate (.ref a) λ_=>(arrOf st).map (·.2)
    if let some e:=failedOf st then rule "list.sort.comparison-raised";throw e
    if touched then rule "list.sort.modified";raiseError "ValueError" "list modified during sort"
    ret .none) P E {s with heap:=H1}:=λst hp hs hf=>by
  rw[hf];refine Z8 (seqEpoch_at g3 rfl (Z8 (Xb g3 rfl ?_ (Zo _) ?_)));simp only[bne_self_eq_false,ZI,Zb];obtain⟨c,g4⟩:∃c,(H1.update a (Obj.mapSeq λ_=>(arrOf st).map (·.2))).get? a=U (seqObj "list" ((arrOf st).map (·.2)) c):=⟨_,WJ g3 λ_=>(arrOf st).map (·.2)⟩
  exact Z4 (h _ hp hs _ c (λb o hb e=>(Zn H1 _ (ZC hb)).trans (keep b o hb e)) (by rw[Array.toArray_toList];exact g4));have:=hp.length_eq;rw[Array.length_toList]at this;lia
 have zs:∀l:Z_ Z3,(l.toArray.zip l.toArray).map (·.2)=l.toArray:=λl=>by
  rw[show l.toArray.zip l.toArray=(l.zip l).toArray by simp];simp[List.map_snd_zip]
 by_cases h2:vs.toArray.size<2;rw[ZR h2,ZR h2];refine Z8 (Z4 ?_);rw[StateT.run_pure];refine Z8 (Z4 ?_);rw[ZW]at h2;have e0:(arrOf (SortSt.mk' general' (vs.toArray.zip vs.toArray) #[] 7 M)).map (·.2)=vs.toArray:=zs vs;refine fin (SortSt.mk' general' (vs.toArray.zip vs.toArray) #[] 7 M) (by rw[e0]) ?_ rfl;rw[e0];show vs.Pairwise _;clear fin ka hk h ho keep hH g3 g1 e0;rcases vs with _|⟨v,_|⟨v',r⟩⟩;exact .nil;exact List.pairwise_singleton _ _;exact absurd h2 (by simp);rw[ZK h2,ZK h2];rw[ZW]at h2;refine Z8 (YN (hk (by lia) H1 keep _ ?_) (λ_ _ q=>q) λ_ _ x=>x.elim);have mz:∀x∈vs.toArray.zip vs.toArray,x.1=x.2/\x.1∈vs:=λx hx=>mem_zip_self (by simpa using hx)
 have sz:(vs.toArray.zip vs.toArray).size=vs.length:=by simp
 have run:=SM.abz (prog:=prog) (w:=w) (A:=A) (E:=E) (s:={s with heap:=H1}) (κ:=κ) (T:=vs.toArray.zip vs.toArray) (g:=7) (LT:=λx y=>LT x.1 y.1) O
  (λx hx y hy C hC=>ka (by lia) H1 keep x.1 y.1 C (mz x hx).2 (mz y hy).2 hC) (by lia)
  (Q:=λ_ st=>((arrOf st).map (·.2)).toList.Perm vs/\((arrOf st).map (·.2)).toList.Pairwise (λu v=>LT v u=Y)/\failedOf st=M) (λb p g hp hu=>by
   have he:∀x∈b,x.1=x.2:=λx hx=>(mz x (hp.mem_iff.mp hx)).1;refine⟨?_,?_,rfl⟩;show(b.map (·.2)).toList.Perm vs;have:=(Array.perm_iff_toList_perm.mp hp).map (·.2);rw[<-Array.toList_map,<-Array.toList_map,zs]at this;exact this;show(b.map (·.2)).toList.Pairwise _;rw[Array.toList_map,Xo];have bz:b.size=vs.length:=by rw[hp.size_eq,sz]
   rw[sz,<-bz]at hu;refine(SM.abD hu).imp_of_mem λ{x y} hx hy q=>?_;rw[<-he x (by simpa using hx),<-he y (by simpa using hy)];exact q)
 refine Z8 (YN run ?_ λ_ _ e=>e)
 rintro⟨⟨⟩,g_⟩ s' ⟨rfl,hp,hs,hf⟩
 exact fin g_ hp hs hf
end
noncomputable def bJ(lt:D->D->Z9 Bool):Z_ D->Z_ D->Z9 Bool
 |[],[]=>U Y
 |[],_::_=>U L
 |_::_,[]=>U Y
 |x::xs,y::ys=>if x=y then bJ lt xs ys else lt x y
noncomputable def ltD:Nat->D->D->Z9 Bool
 |_,.int i,.int j=>U (decide (i<j))
 |_,.str x,.str y=>U (decide (x.cps.toList<y.cps.toList))
 |n+1,.tup xs,.tup ys=>bJ (ltD n) xs ys
 |n+1,.lst xs,.lst ys=>bJ (ltD n) xs ys
 |_,_,_=>M
def sC{x y:Str}(h:x.cps.toList=y.cps.toList):x=y:=by
 obtain⟨a⟩:=x;obtain⟨b⟩:=y;simp only at h;rw[Array.toList_inj.mp h]
section
variable{lt:D->D->Z9 Bool}
theorem l9(h:∀x y z,lt x y=U L->lt y z=U L->lt x z=U L)(hi:∀x y,lt x y=U L->lt y x≠U L):∀xs ys zs,bJ lt xs ys=U L->bJ lt ys zs=U L->bJ lt xs zs=U L
 |[],[],_,a,_=>by simp[bJ]at a
 |[],_::_,[],_,b=>by simp[bJ]at b
 |[],_::_,_::_,_,_=>by simp[bJ]
 |_::_,[],_,a,_=>by simp[bJ]at a
 |_::_,_::_,[],_,b=>by simp[bJ]at b
 |x::xs,y::ys,z::zs,a,b=>by
  simp only[bJ]at a b⊢;by_cases e1:x=y;subst e1;rw[ZR rfl]at a;by_cases e2:x=z;subst e2;rw[ZR rfl]at b⊢;exact l9 h hi xs ys zs a b;rw[ZK e2]at b⊢;exact b;rw[ZK e1]at a;by_cases e2:y=z;subst e2;rw[ZK e1];exact a;rw[ZK e2]at b;by_cases e3:x=z;subst e3;exact absurd b (hi _ _ a);rw[ZK e3];exact h _ _ _ a b
theorem nB(hi:∀x y,lt x y=U L->lt y x≠U L):∀xs ys,bJ lt xs ys=U L->bJ lt ys xs≠U L
 |[],[],a=>by simp[bJ]at a
 |[],_::_,_=>by simp[bJ]
 |_::_,[],a=>by simp[bJ]at a
 |x::xs,y::ys,a=>by
  simp only[bJ]at a⊢;by_cases e1:x=y;subst e1;rw[ZR rfl]at a⊢;exact nB hi xs ys a;rw[ZK e1]at a;rw[ZK (ZC e1)];exact hi _ _ a
theorem je(h:∀x y,lt x y=U Y->x=y\/lt y x=U L):∀xs ys,bJ lt xs ys=U Y->xs=ys\/bJ lt ys xs=U L
 |[],[],_=>.inl rfl
 |[],_::_,a=>by simp[bJ]at a
 |_::_,[],_=>.inr (by simp[bJ])
 |x::xs,y::ys,a=>by
  simp only[bJ]at a⊢;by_cases e1:x=y;subst e1;rw[ZR rfl]at a⊢;rcases je h xs ys a with q|q;exact .inl (by rw[q]);exact .inr q;rw[ZK e1]at a;rcases h x y a with q|q;exact absurd q e1;rw[ZK (ZC e1)];exact .inr q
end
def lw:∀(n:Nat)(x y:D),ltD n x y=U L->ltD n y x≠U L:=by
 intro n
 induction n with
 |zero=>
  intro x y h;cases x<;>cases y<;>simp only[ltD,ZL,Zi,reduceCtorEq]at h<;>simp only[ltD,ne_eq,ZL,Zi];lia;exact List.lt_asymm h
 |succ n ih=>
  intro x y h;cases x<;>cases y<;>simp only[ltD,ZL,Zi,reduceCtorEq]at h<;>simp only[ltD,ne_eq,ZL,Zi];lia;exact List.lt_asymm h;exact nB ih _ _ h;exact nB ih _ _ h
def Di:∀(n:Nat)(x y z:D),ltD n x y=U L->ltD n y z=U L->ltD n x z=U L:=by
 intro n
 induction n with
 |zero=>
  intro x y z h h';cases x<;>cases y<;>simp only[ltD,ZL,Zi,reduceCtorEq]at h<;>cases z<;>simp only[ltD,ZL,Zi,reduceCtorEq]at h'<;>simp only[ltD,ZL,Zi];lia;exact List.lt_trans h h'
 |succ n ih=>
  intro x y z h h';cases x<;>cases y<;>simp only[ltD,ZL,Zi,reduceCtorEq]at h<;>cases z<;>simp only[ltD,ZL,Zi,reduceCtorEq]at h'<;>simp only[ltD,ZL,Zi];lia;exact List.lt_trans h h';exact l9 ih (lw n) _ _ _ h h';exact l9 ih (lw n) _ _ _ h h'
set_option tactic.hygienic true in
def my:∀(n:Nat)(x y:D),ltD n x y=U Y->x=y\/ltD n y x=U L:=by
 intro n
 induction n with
 |zero=>
  intro x y h;cases x<;>cases y<;>simp only[ltD,ZL,Xu,reduceCtorEq]at h<;>simp only[ltD,ZL,Zi,D.int.injEq,D.str.injEq];lia;rename_i x y;by_cases q:y.cps.toList<x.cps.toList;exact .inr q;exact .inl (sC (List.le_antisymm (List.not_lt.mp q) (List.not_lt.mp h)))
 |succ n ih=>
  intro x y h;cases x<;>cases y<;>simp only[ltD,ZL,Xu,reduceCtorEq]at h<;>simp only[ltD,ZL,Zi,D.int.injEq,D.str.injEq,D.tup.injEq,D.lst.injEq];lia;rename_i x y;by_cases q:y.cps.toList<x.cps.toList;exact .inr q;exact .inl (sC (List.le_antisymm (List.not_lt.mp q) (List.not_lt.mp h)));exact je ih _ _ h;exact je ih _ _ h
def abp(A:Y9)(s:ZT)(y x:Z3)(b:Bool):Prop:=
 ∀(prog:Y5)(w:YV)(E:Z3->ZT->Prop)(Q:Z3->ZT->Prop),Q (.bool b) s->wpAny (model prog w) A (richCompare .Lt y x) Q E s
inductive aaJ (A:Y9)(s:ZT):List Z3->List Z3->Bool->Prop
 |none:aaJ A s [] [] false
 |less {w:Z3}{ws:List Z3}:aaJ A s [] (w::ws) true
 |more {v:Z3}{vs:List Z3}:aaJ A s (v::vs) [] false
 |eq {v w:Z3}{vs ws:List Z3}{b:Bool}:SeqAt.EqAt A s v w true->aaJ A s vs ws b->aaJ A s (v::vs) (w::ws) b
 |ne {v w:Z3}{vs ws:List Z3}{b:Bool}:SeqAt.EqAt A s v w false->abp A s v w b->aaJ A s (v::vs) (w::ws) b
section
open PySem.SeqAt
open PySem.AutoSeq1 (wpAny_loadPart')
open PySem.MeetsSeq PySem.MeetsSeq2 PySem.MeetsSeq3
def uW(l b:ZM)(items f_:Array Z3)(n n2:Nat)(dd Jr:Z9 ZM)(sl Jp:Array (Z9 Z3))(r:Bool):
  Meets (Builtin.«tuple.__lt__» ⟨[.ref l,.ref b],[]⟩)
   (λA R s=>s.heap.get? l=U {cls:=.type "tuple",dict:=dd,data:=.seq items n,slots:=sl}/\s.heap.get? b=U {cls:=.type "tuple",dict:=Jr,data:=.seq f_ n2,slots:=Jp}/\
    aaJ A.in1 s items.toList f_.toList r/\R (.ok (.ret (.bool r))) s):=
 .of_wp λprog w A R s h=>by
  obtain⟨hp,g,d,tk,os⟩:=s;obtain⟨hl,hb,hx,h⟩:=h;have f2:=Wy
  wp_walk using wpAny_loadPart' hl,wpAny_loadPart' hb,Xa _ (λaq b s'=>b.1=M/\s'=⟨hp,g,d,tk,os⟩/\∃(vs ws:Z_ Z3),aq=vs.zip ws/\
   aaJ A.in1 ⟨hp,g,d,tk,os⟩ vs ws r/\vs.length+f_.size=ws.length+items.size) _
  case turn=>
   rintro⟨y,x⟩ aq b s' ⟨IU,rfl,vs,ws,hz,MW,hlen⟩
   cases MW with
   |none=>rw[List.zip_nil_left]at hz;trivial
   |less=>rw[List.zip_nil_left]at hz;trivial
   |more=>rw[List.zip_nil_right]at hz;trivial
   |eq he ht=>
    rw[List.zip_cons_cons]at hz;injection hz with NT E_;injection NT with hy Kr;subst hy Kr;simp only[bG]at hlen;refine Z8 (he prog w _ _ ?_)
    wp_walk
    exact⟨rfl,rfl,_,_,E_,ht,by lia⟩
   |ne he ka=>
    rw[List.zip_cons_cons]at hz;injection hz with NT E_;injection NT with hy Kr;subst hy Kr;refine Z8 (he prog w _ _ ?_);have Qp:=ka prog w
    wp_walk using Qp
    exact⟨_,rfl,by simpa using h⟩
  case fin=>
   rintro⟨b1,b2⟩ s' ⟨IU,rfl,vs,ws,hz,MW,hlen⟩
   simp only at IU;subst IU;have hv:r=decide (items.size<f_.size):=by
    cases MW with
    |none=>simp only[fU]at hlen;exact(ZA (by lia)).symm
    |less=>simp only[fU,bG]at hlen;exact(Zw (by lia)).symm
    |more=>simp only[fU,bG]at hlen;exact(ZA (by lia)).symm
    |eq _ _=>rw[List.zip_cons_cons]at hz;trivial
    |ne _ _=>rw[List.zip_cons_cons]at hz;trivial
   rw[hv]at h
   wp_walk
   exact⟨_,rfl,by simpa[Builtin.Tuple.tupleCompareSizes]using h⟩
  case h=>exact⟨rfl,rfl,items.toList,f_.toList,rfl,hx,by simp only[Array.length_toList];lia⟩
end
def abp.tuples(hl:s.heap.IsTuple l items)(hb:s.heap.IsTuple b f_)(hu:A.units<cLine)(hx:aaJ A.in1 s items.toList f_.toList r):abp A s (.ref l) (.ref b) r:=λprog w E Q h=>by
 obtain⟨⟨cls,dd,data,sl⟩,ho,hc,n,hd⟩:=id hl;obtain⟨⟨L8,Jr,data2,Jp⟩,JE,JY,n2,hd2⟩:=id hb;simp only at hc hd JY hd2;subst hc hd JY hd2;exact Wt (op:=.Lt) ⟨_,ho,rfl⟩ ⟨_,JE,rfl⟩ F.slot_tuple_lt F.entry_tuple_lt (F.args_tuple_lt_2 _ _) (uW l b items f_ n n2 dd Jr sl Jp r)
  ⟨ho,JE,hx,show Value.bool r≠Value.notImplemented/\Q (.bool r) s from⟨(λx=>nomatch x),h⟩⟩ hu
section
open PySem.SeqAt
open PySem.AutoSeq1 (wpAny_loadPart')
open PySem.MeetsSeq PySem.MeetsSeq2 PySem.MeetsSeq3
def rO(l b:ZM)(items f_:Array Z3)(n n2:Nat)(dd Jr:Z9 ZM)(sl Jp:Array (Z9 Z3))(r:Bool)(k:Nat):
  ∀i:Nat,i<=items.size->i<=f_.size->items.size - i=k->Meets (Builtin.«list.__eq__.loop» ⟨[.ref l,.ref b,rawInt i,rawInt 0],[]⟩)
   (λA R s=>s.heap.get? l=U {cls:=.type "list",dict:=dd,data:=.seq items n,slots:=sl}/\s.heap.get? b=U {cls:=.type "list",dict:=Jr,data:=.seq f_ n2,slots:=Jp}/\
    aaJ A.in1 s (items.toList.drop i) (f_.toList.drop i) r/\R (.ok (.ret (.bool r))) s):=by
 induction k with
 |zero=>
  intro i hi hj hk prog w A R s h;obtain⟨hp,g,d,tk,os⟩:=s;obtain⟨hl,hb,hx,h⟩:=h
  wp_walk using wpAny_loadPart' hl,wpAny_loadPart' hb
  have MB:items[((i:Nat):Int).toNat]?=M:=by simp;lia
  have e1:items.toList.drop i=[]:=WL (by rw[Array.length_toList];lia);rw[e1]at hx;have hr:r=decide (items.size<f_.size):=by
   generalize e2:f_.toList.drop i=ws at hx;have hz:=congrArg List.length e2;rw[List.length_drop,Array.length_toList]at hz;cases hx with
   |none=>simp at hz;exact(ZA (by lia)).symm
   |less=>simp at hz;exact(Zw (by lia)).symm
  rw[MB]
  wp_walk using wpAny_loadPart' hl,wpAny_loadPart' hb
  show R (.ok (.ret (.bool (decide (items.size<f_.size))))) _;rw[<-hr];exact h
 |succ k ih=>
  intro i hi hj hk prog w A R s h;obtain⟨hp,g,d,tk,os⟩:=s;obtain⟨hl,hb,hx,h⟩:=h
  wp_walk using wpAny_loadPart' hl,wpAny_loadPart' hb
  have ka:i<items.size:=by lia
  have MB:items[((i:Nat):Int).toNat]?=U items[i]:=by simp[ka]
  have d1:items.toList.drop i=items[i]::items.toList.drop (i+1):=by rw[Zx (by simpa using ka)];simp
  have hc:((i:Int)+1)=((i+1:Nat):Int):=by push_cast;rfl
  rw[d1]at hx;by_cases OE:i<f_.size
  .have Mf:f_[((i:Nat):Int).toNat]?=U f_[i]:=by simp[OE]
   have d2:f_.toList.drop i=f_[i]::f_.toList.drop (i+1):=by rw[Zx (by simpa using OE)];simp
   rw[d2]at hx;rw[MB,Mf];cases hx with
   |eq he ht=>
    refine Z8 (he prog w _ _ ?_)
    wp_walk
    rw[hc];exact⟨Yy plain_eq_loop _,YU entry_eq_loop (by
     rw[Y8 plain_eq_loop _];exact ih (i+1) (by lia) (by lia) (by lia) prog w A R _ ⟨hl,hb,ht,h⟩)⟩
   |ne he ht=>
    refine Z8 (he prog w _ _ ?_);have Qp:=ht prog w
    wp_walk using wpAny_loadPart' hl,wpAny_loadPart' hb
    rw[MB,Mf]
    wp_walk using Qp
    exact h
  .have Mf:f_[((i:Nat):Int).toNat]?=M:=by simp;lia
   have e2:f_.toList.drop i=[]:=WL (by rw[Array.length_toList];lia);rw[e2]at hx;cases hx;rw[MB,Mf]
   wp_walk using wpAny_loadPart' hl,wpAny_loadPart' hb
   show R (.ok (.ret (.bool (decide (items.size<f_.size))))) _;rw[ZA (by lia)];exact h
def n9(l b:ZM)(items f_:Array Z3)(n n2:Nat)(dd Jr:Z9 ZM)(sl Jp:Array (Z9 Z3))(r:Bool):
  Meets (Builtin.«list.__lt__» ⟨[.ref l,.ref b],[]⟩)
   (λA R s=>s.heap.get? l=U {cls:=.type "list",dict:=dd,data:=.seq items n,slots:=sl}/\s.heap.get? b=U {cls:=.type "list",dict:=Jr,data:=.seq f_ n2,slots:=Jp}/\
    aaJ A.in1 s items.toList f_.toList r/\R (.ok (.ret (.bool r))) s):=by
 intro prog w A R s h;obtain⟨hp,g,d,tk,os⟩:=s;obtain⟨hl,hb,hx,h⟩:=h;have f3:=AutoSeq1.sub_list_list
 wp_walk using wpAny_loadPart' hl,wpAny_loadPart' hb
 exact⟨Yy plain_eq_loop _,YU entry_eq_loop (by
  rw[Y8 plain_eq_loop _];exact rO l b items f_ n n2 dd Jr sl Jp r _ 0 (Zo _) (Zo _) rfl prog w A R _ ⟨hl,hb,hx,h⟩)⟩
end
def abp.lists(hl:s.heap.IsList l items)(hb:s.heap.IsList b f_)(hu:A.units<cLine)(hx:aaJ A.in1 s items.toList f_.toList r):abp A s (.ref l) (.ref b) r:=λprog w E Q h=>by
 obtain⟨⟨cls,dd,data,sl⟩,ho,hc,n,hd⟩:=id hl;obtain⟨⟨L8,Jr,data2,Jp⟩,JE,JY,n2,hd2⟩:=id hb;simp only at hc hd JY hd2;subst hc hd JY hd2;exact Wt (op:=.Lt) ⟨_,ho,rfl⟩ ⟨_,JE,rfl⟩ Ww F.entry_list_lt (F.args_list_lt_2 _ _) (n9 l b items f_ n n2 dd Jr sl Jp r)
  ⟨ho,JE,hx,show Value.bool r≠Value.notImplemented/\Q (.bool r) s from⟨(λx=>nomatch x),h⟩⟩ hu
def rA(hl:s.heap.IsList l items)(hb:s.heap.IsList b f_)(hu:A.units<cLine)(hx:aaJ A.in1 s items.toList f_.toList r)(h:Q r s):
  wpAny (model prog w) A (oneLt' L (.ref l) (.ref b)) Q E s:=by
 obtain⟨⟨cls,dd,data,sl⟩,ho,hc,n,hd⟩:=id hl;obtain⟨⟨L8,Jr,data2,Jp⟩,JE,JY,n2,hd2⟩:=id hb;simp only at hc hd JY hd2;subst hc hd JY hd2;rw[oneLt'_eq];simp only[Y1];refine Z8 (wpAny_cRoomFor hu ?_);refine Z8 (wpAny_callSpecialIfBound?_slot ⟨_,ho,rfl⟩ Ww (Ws Ww ⟨_,ho,rfl⟩ F.entry_list_lt (F.args_list_lt_2 _ _) (n9 l b items f_ n n2 dd Jr sl Jp r) ⟨ho,JE,hx,?_⟩));exact X1 h
section
theorem pX(I:Inv X a_ O H s)(hA:A.units+n+1<cLine)(ih:∀(d e:D)(x y:V)(u w:Z3)(r:Bool),okD n d=L->okD n e=L->Rep X.K B H d x->Rep X.K B' H e y->RelV x u->RelV y w->ltD n d e=U r->abp A s u w r):
  ∀(ds es:Z_ D)(xs ys:Z_ V)(us ws:Z_ Z3)(r:Bool),ds.all (okD n)=L->es.all (okD n)=L->M1 X.K B H ds xs->M1 X.K B' H es ys->aac xs us->aac ys ws->bJ (ltD n) ds es=U r->aaJ A s us ws r
 |[],[],xs,ys,us,ws,r,hd,he,r1,r2,v1,v2,h=>by
  simp only[M1]at r1 r2;subst r1 r2;cases v1;cases v2;simp only[bJ,ZL]at h;subst h;exact .none
 |[],e::es,xs,ys,us,ws,r,hd,he,r1,r2,v1,v2,h=>by
  simp only[M1]at r1 r2;subst r1;obtain⟨y,t,rfl,_,_⟩:=r2;cases v1;cases v2;simp only[bJ,ZL]at h;subst h;exact .less
 |d::ds,[],xs,ys,us,ws,r,hd,he,r1,r2,v1,v2,h=>by
  simp only[M1]at r1 r2;subst r2;obtain⟨y,t,rfl,_,_⟩:=r1;cases v1;cases v2;simp only[bJ,ZL]at h;subst h;exact .more
 |d::ds,e::es,xs,ys,us,ws,r,hd,he,r1,r2,v1,v2,h=>by
  simp only[M1]at r1 r2;obtain⟨x,xt,rfl,NQ,PZ⟩:=r1;obtain⟨y,yt,rfl,NO,PY⟩:=r2;cases v1 with
  |cons va vb=>
   cases v2 with
   |cons wa wb=>
    rw[rF,ZH]at hd he;have q:=(BK I n d e x y _ _ A hd.1 he.1 hA NQ NO va wa).2.1;simp only[bJ]at h;by_cases c:d=e;rw[ZR c]at h;rw[Zw c]at q;exact .eq q (pX I hA ih ds es xt yt _ _ r hd.2 he.2 PZ PY vb wb h);rw[ZK c]at h;rw[ZA c]at q;exact .ne q (ih d e x y _ _ r hd.1 he.1 NQ NO va wa h)
def EL(I:Inv X a_ q H s):∀(n:Nat)(d e:D)(x y:V)(u w:Z3)(r:Bool)(A:Y9),okD n d=L->okD n e=L->A.units+n+1<cLine->Rep X.K B H d x->Rep X.K B' H e y->RelV x u->RelV y w->ltD n d e=U r->abp A s u w r:=by
 intro n;have flat:∀(d e:D)(x y:V)(u w:Z3)(r:Bool)(A:Y9),Rep X.K B H d x->Rep X.K B' H e y->RelV x u->RelV y w->ltD 0 d e=U r->abp A s u w r:=λd e x y u w r A rd re rx ry h=>by
  cases d with
  |int i=>
   cases e with
   |int j=>
    simp only[Rep]at rd re;subst rd re;obtain⟨t,rfl⟩:=rx;obtain⟨t',rfl⟩:=ry;simp only[ltD,ZL]at h;subst h;exact λprog w E Q hq=>HT.ab6 A s i t j t' prog w E Q hq
   |_=>simp[ltD]at h
  |str i=>
   cases e with
   |str j=>
    simp only[Rep]at rd re;subst rd re;obtain⟨t,rfl⟩:=rx;obtain⟨t',rfl⟩:=ry;simp only[ltD,ZL]at h;subst h;exact λprog w E Q hq=>(lt_str hq:wpAny (model prog w) A (compareOp .Lt (.str i t) (.str j t')) Q E s)
   |_=>simp[ltD]at h
  |_=>simp[ltD]at h
 induction n with
 |zero=>exact λd e x y u w r A _ _ _ rd re rx ry h=>flat d e x y u w r A rd re rx ry h
 |succ n ih=>
  intro d e x y u w r A hd he hA rd re rx ry h;cases d with
  |tup ds=>
   cases e with
   |tup es=>
    simp only[Rep]at rd re;obtain⟨a,xs,rfl,hq,r1⟩:=rd;obtain⟨b,ys,rfl,Ku,r2⟩:=re;cases rx;cases ry;obtain⟨its,v1,t1,_⟩:=I.tuple (SqT.of hq);obtain⟨k_,v2,t2,_⟩:=I.tuple (SqT.of Ku);simp only[okD]at hd he;simp only[ltD]at h;have Kh:A.in1.units+n+1<cLine:=by show A.units+1+n+1<cLine;lia
    exact abp.tuples t1 t2 (by lia) (by simpa using pX I Kh (λd e x y u w r o1 o2 r1 r2 v1 v2 hl=>ih d e x y u w r A.in1 o1 o2 Kh r1 r2 v1 v2 hl) ds es xs ys its k_ r hd he r1 r2 v1 v2 h)
   |_=>simp[ltD]at h
  |lst ds=>
   cases e with
   |lst es=>
    simp only[Rep]at rd re;obtain⟨a,xs,rfl,hq,r1⟩:=rd;obtain⟨b,ys,rfl,Ku,r2⟩:=re;cases rx;cases ry;obtain⟨its,v1,t1,_⟩:=I.list hq.sq;obtain⟨k_,v2,t2,_⟩:=I.list Ku.sq;simp only[okD]at hd he;simp only[ltD]at h;have Kh:A.in1.units+n+1<cLine:=by show A.units+1+n+1<cLine;lia
    exact abp.lists t1.isList t2.isList (by lia) (by simpa using pX I Kh (λd e x y u w r o1 o2 r1 r2 v1 v2 hl=>ih d e x y u w r A.in1 o1 o2 Kh r1 r2 v1 v2 hl) ds es xs ys its k_ r hd he r1 r2 v1 v2 h)
   |_=>simp[ltD]at h
  |int i=>cases e<;>first|(simp[ltD]at h;done)|exact flat _ _ x y u w r A rd re rx ry (by simpa only[ltD]using h)
  |str i=>cases e<;>first|(simp[ltD]at h;done)|exact flat _ _ x y u w r A rd re rx ry (by simpa only[ltD]using h)
  |_=>simp[ltD]at h
end
def leD(x y:D):Prop:=ltD 15 y x≠U L
def m8(x:D):Z_ D->Z_ D
 |[]=>[x]
 |y::ys=>if ltD 15 y x=U L then y::m8 x ys else x::y::ys
def cH(ds:Z_ D):Z_ D:=ds.foldr m8 []
def fJ(ds:Z_ D):Bool:=ds.all λx=>okD 15 x&&ds.all λy=>(ltD 15 x y).isSome
def jC(h:fJ ds=L)(hx:x∈ds)(hy:y∈ds):∃b,ltD 15 x y=U b:=by
 unfold fJ at h;have h1:=ZO.mp h x hx;rw[ZH]at h1;exact Option.isSome_iff_exists.mp (ZO.mp h1.2 y hy)
def jH(h:fJ ds=L)(hx:x∈ds):okD 15 x=L:=by
 unfold fJ at h;have h1:=ZO.mp h x hx;rw[ZH]at h1;exact h1.1
theorem gf(x:D):∀l:Z_ D,(m8 x l).Perm (x::l)
 |[]=>YQ _
 |y::ys=>by
  unfold m8;split
  .exact((gf x ys).cons y).trans (List.Perm.swap x y ys)
  exact YQ _
theorem aY:∀ds:Z_ D,(cH ds).Perm ds
 |[]=>YQ _
 |d::ds=>by
  show(m8 d (cH ds)).Perm (d::ds);exact(gf d _).trans ((aY ds).cons d)
def yy(h:fJ ds=L)(hx:x∈ds)(hy:y∈ds)(hz:z∈ds)(a:leD x y)(b:leD y z):leD x z:=by
 unfold leD at*;intro c;obtain⟨r1,e1⟩:=jC h hy hx;obtain⟨r2,e2⟩:=jC h hz hy;cases r1 with
 |true=>exact a e1
 |false=>
  cases r2 with
  |true=>exact b e2
  |false=>
   rcases my 15 _ _ e1 with q1|q1;subst q1;exact b c;rcases my 15 _ _ e2 with q2|q2;subst q2;exact a c;exact lw 15 _ _ (Di 15 _ _ _ q1 q2) c
def CA(h:fJ ds=L)(hx:x∈ds)(hy:y∈ds)(a:leD x y)(b:leD y x):x=y:=by
 unfold leD at*;obtain⟨r1,e1⟩:=jC h hx hy;cases r1 with
 |true=>exact absurd e1 b
 |false=>
  rcases my 15 _ _ e1 with q|q;exact q;exact absurd q a
theorem gj(h:fJ ds=L)(hx:x∈ds):∀l:Z_ D,(∀y∈l,y∈ds)->l.Pairwise leD->(m8 x l).Pairwise leD
 |[],_,_=>by simp[m8]
 |y::ys,hm,hp=>by
  unfold m8;obtain⟨h1,h2⟩:=Yd.mp hp;have hy:=hm y ZZ;split;rename_i c;refine Yd.mpr ⟨λz hz=>?_,gj h hx ys (λz hz=>hm z (Z1 _ hz)) h2⟩;rcases Z0.mp ((gf x ys).mem_iff.mp hz)with q|q;subst q;exact lw 15 _ _ c;exact h1 z q;rename_i c;refine Yd.mpr ⟨λz hz=>?_,hp⟩;rcases Z0.mp hz with q|q;subst q;exact c;exact yy h hx hy (hm z hz) c (h1 z q)
def bU(h:fJ ds=L):(cH ds).Pairwise leD:=by
 have key:∀l:Z_ D,(∀y∈l,y∈ds)->(cH l).Pairwise leD:=by
  intro l
  induction l with
  |nil=>intro _;exact List.Pairwise.nil
  |cons y l ih=>
   intro hm;exact gj h (hm y ZZ) _ (λz hz=>hm z (Z1 _ ((aY l).mem_iff.mp hz))) (ih λz hz=>hm z (Z1 _ hz))
 exact key ds λ_ h=>h
theorem de(h:fJ ds=L):∀(l1 l2:Z_ D),(∀y∈l1,y∈ds)->l1.Perm l2->l1.Pairwise leD->l2.Pairwise leD->l1=l2
 |[],l2,_,hp,_,_=>(List.nil_perm.mp hp).symm
 |a::l1,[],_,hp,_,_=>(List.perm_nil.mp hp)
 |a::l1,b::l2,hm,hp,h1,h2=>by
  obtain⟨p1,q1⟩:=Yd.mp h1;obtain⟨p2,q2⟩:=Yd.mp h2;have N1:∀y∈b::l2,y∈ds:=λy hy=>hm y (hp.mem_iff.mpr hy);have ab:a=b:=by
   have ha:a∈b::l2:=hp.mem_iff.mp ZZ;have hb:b∈a::l1:=hp.mem_iff.mpr ZZ;rcases Z0.mp ha with z|z;exact z;rcases Z0.mp hb with y|y;exact y.symm;exact CA h (hm a ZZ) (N1 b ZZ) (p1 b y) (p2 a z)
  subst ab;rw[de h l1 l2 (λy hy=>hm y (Z1 _ hy)) (List.perm_cons a |>.mp hp) q1 q2]
inductive KD|st|it|ts|tt|ls
def eO:KD->D->Bool
 |.st,.str _=>L
 |.it,.int _=>L
 |.ts,.tup (.str _::_)=>L
 |.tt,.tup (.tup _::_)=>L
 |.ls,.lst _=>L
 |_,_=>Y
def mL(h:eO .ts d=L):∃x ds,d=.tup (.str x::ds):=by
 unfold eO at h;split at h;trivial;trivial;exact⟨_,_,rfl⟩;trivial;trivial;trivial
def mf(h:eO .tt d=L):∃x ds,d=.tup (.tup x::ds):=by
 unfold eO at h;split at h;trivial;trivial;trivial;exact⟨_,_,rfl⟩;trivial;trivial
def Ba:KD->SortKind
 |.st=>oneType'
 |.it=>oneType'
 |.ts=>tuples' L
 |.tt=>tuples' Y
 |.ls=>oneType'
section
def il:∀{vs ws:Z_ Z3}{i:Nat},aaJ A s vs ws r->(b=Y\/1<=i)->(fin=decide (vs.length<ws.length))->Q r s->KatLex prog w A b fin Q (vs.zip ws) i s:=by
 intro vs ws i h
 induction h generalizing i with
 |none=>
  intro hb hf q;subst hf;exact kat_nil (by simpa using q)
 |less=>
  intro hb hf q;rw[List.zip_nil_left];subst hf;exact kat_nil (by simpa using q)
 |more=>
  intro hb hf q;rw[List.zip_nil_right];subst hf;exact kat_nil (by simpa using q)
 |eq he ht ih=>
  intro hb hf q;rw[List.zip_cons_cons];refine kat_cons (he prog w _ _ (kat_yes ?_));exact ih (.inr (by lia)) (by rw[hf];simp) q
 |ne he hl=>
  intro hb hf q;rw[List.zip_cons_cons];refine kat_cons (he prog w _ _ (kat_no ?_));have hz:(b&&i==0)=Y:=by
   rcases hb with z|z;rw[z,Bool.false_and];have:(i==0)=Y:=by simp;lia
   rw[this,Wu]
  rw[hz];exact kat_one _ _ (hl prog w _ _ q)
end
section
def Dt(I:Inv X a_ O H s)(hA:A.units+20<cLine)(hd:okD 15 d=L)(he:okD 15 e=L)(kd:eO c d=L)(ke:eO c e=L)(rd:Rep X.K B H d x)(re:Rep X.K B' H e y)(rx:RelV x u)(ry:RelV y w')(h:ltD 15 d e=U r)(q:C r s):wpAny (model X.prog X.w) A (keyLt' (Ba c) u w') C (λ_ _=>False) s:=by
 cases c with
 |st=>
  cases d<;>simp only[eO,ZI]at kd;cases e<;>simp only[eO,ZI]at ke;simp only[Rep]at rd re;subst rd re;obtain⟨t,rfl⟩:=rx;obtain⟨t',rfl⟩:=ry;simp only[ltD,ZL]at h;subst h;show wpAny _ _ (keyLt' oneType' _ _) _ _ _;rw[keyLt'_oneType];exact oneLt_str q
 |it=>
  cases d<;>simp only[eO,ZI]at kd;cases e<;>simp only[eO,ZI]at ke;simp only[Rep]at rd re;subst rd re;obtain⟨t,rfl⟩:=rx;obtain⟨t',rfl⟩:=ry;simp only[ltD,ZL]at h;subst h;show wpAny _ _ (keyLt' oneType' _ _) _ _ _;rw[keyLt'_oneType];exact oneLt_int q
 |ts=>
  obtain⟨i,ds,rfl⟩:=mL kd;obtain⟨j,es,rfl⟩:=mL ke;simp only[Rep]at rd re;obtain⟨a,xs,rfl,hq,r1⟩:=rd;obtain⟨b,ys,rfl,Ku,r2⟩:=re;cases rx;cases ry;obtain⟨its,v1,⟨o1,g1,c1,n1,d1⟩,_⟩:=I.tuple (SqT.of hq);obtain⟨k_,v2,⟨o2,g2,c2,n2,d2⟩,_⟩:=I.tuple (SqT.of Ku);refine kat_lt g1 d1 g2 d2 ?_;simp only[M1]at r1 r2;obtain⟨x,xt,rfl,NQ,PZ⟩:=r1;obtain⟨y,yt,rfl,NO,PY⟩:=r2;simp only[Rep]at NQ NO;subst NQ NO;simp only[okD,rF,ZH]at hd he;simp only[ltD,bJ,D.str.injEq]at h;cases v1 with
  |cons va vb=>
   cases v2 with
   |cons wa wb=>
    obtain⟨t,rfl⟩:=va;obtain⟨t',rfl⟩:=wa;show KatLex _ _ _ _ _ _ ((Value.str i t::_).zip (Value.str j t'::_)) 0 s;rw[List.zip_cons_cons];by_cases QT:i=j;subst QT;rw[ZR rfl]at h;have q1:=SeqAt.EqAt.str_str (A:=A) (s:=s) i t i t';rw[XZ]at q1;refine kat_cons (q1 _ _ _ _ (kat_yes ?_));have lx:=pX (B:=B) (B':=B') I (n:=14) (A:=A) (by lia) (λd e x y u w r o1 o2 r1 r2 v1 v2 hl=>EL I 14 d e x y u w r A o1 o2 (by lia) r1 r2 v1 v2 hl) ds es xt yt _ _ r
     hd.2 he.2 PZ PY vb wb h
    exact il lx (.inr (ZP _)) (by simp) q;rw[ZK QT]at h;have q1:=SeqAt.EqAt.str_str (A:=A) (s:=s) i t j t';have eb:(i==j)=Y:=by simpa using QT
    rw[eb]at q1;refine kat_cons (q1 _ _ _ _ (kat_no ?_));simp only[ZL]at h;subst h;exact oneLt_str q
 |tt=>
  obtain⟨i,ds,rfl⟩:=mf kd;obtain⟨j,es,rfl⟩:=mf ke;have Jq:=rd;have re':=re;simp only[Rep]at rd re;obtain⟨a,xs,rfl,hq,r1⟩:=rd;obtain⟨b,ys,rfl,Ku,r2⟩:=re;cases rx;cases ry;obtain⟨its,v1,⟨o1,g1,c1,n1,d1⟩,_⟩:=I.tuple (SqT.of hq);obtain⟨k_,v2,⟨o2,g2,c2,n2,d2⟩,_⟩:=I.tuple (SqT.of Ku);refine kat_lt g1 d1 g2 d2 ?_;have B_:(D.tup i::ds).all (okD 14)=L:=by simpa only[okD]using hd
  have LU:(D.tup j::es).all (okD 14)=L:=by simpa only[okD]using he
  simp only[ltD]at h;have lx:=pX (B:=B) (B':=B') I (n:=14) (A:=A) (by lia) (λd e x y u w r o1 o2 r1 r2 v1 v2 hl=>EL I 14 d e x y u w r A o1 o2 (by lia) r1 r2 v1 v2 hl) _ _ xs ys _ _ r B_ LU (by simpa only[M1]using r1) (by simpa only[M1]using r2) v1 v2 h;exact il lx (.inl rfl) (by simp) q
 |ls=>
  cases d<;>simp only[eO,ZI]at kd;cases e<;>simp only[eO,ZI]at ke;simp only[Rep]at rd re;obtain⟨a,xs,rfl,hq,r1⟩:=rd;obtain⟨b,ys,rfl,Ku,r2⟩:=re;cases rx;cases ry;obtain⟨its,v1,t1,_⟩:=I.list hq.sq;obtain⟨k_,v2,t2,_⟩:=I.list Ku.sq;simp only[okD]at hd he;simp only[ltD]at h;have Kh:A.in1.units+14+1<cLine:=by show A.units+1+14+1<cLine;lia
  show wpAny _ _ (keyLt' oneType' _ _) _ _ _;rw[keyLt'_oneType];exact rA t1.isList t2.isList (by lia) (by simpa using pX I Kh (λd e x y u w r o1 o2 r1 r2 v1 v2 hl=>EL I 14 d e x y u w r A.in1 o1 o2 Kh r1 r2 v1 v2 hl) _ _ xs ys its k_ r hd he r1 r2 v1 v2 h) q
def vT(I:Inv X a_ O H s)(h2:2<=us.length)(hk:ds.all (eO c)=L)(r:M1 X.K B H ds xs)(v:aac xs us)(q:Q (Ba c) s):
  wpAny (model X.prog X.w) A (keyKind' us.toArray) Q (λ_ _=>False) s:=by
 have each:∀u∈us,∃d x,eO c d=L/\Rep X.K B H d x/\RelV x u:=λu hu=>by
  obtain⟨j,hj⟩:=X6 hu;have hl:=v.length;have ka:j<xs.length:=by rw[hl];exact(ZX.mp hj).1
  obtain⟨u',Jj,ru⟩:=v.get (i:=j) (x:=xs[j]) (by simp[ka]);rw[hj]at Jj;obtain rfl:=Z7 Jj;obtain⟨d,hd,rd⟩:=r.get' (i:=j) (x:=xs[j]) (by simp[ka]);exact⟨d,xs[j],ZO.mp hk d (Zf hd),rd,ru⟩
 cases c with
 |st=>
  refine kas_kind (T:=.type "str") h2 (λu hu=>?_) (by decide) (by decide) q;obtain⟨d,x,k1,rd,ru⟩:=each u hu;cases d<;>simp only[eO,ZI]at k1;simp only[Rep]at rd;subst rd;obtain⟨t,rfl⟩:=ru;exact .now
 |it=>
  refine kas_kind (T:=.type "int") h2 (λu hu=>?_) (by decide) (by decide) q;obtain⟨d,x,k1,rd,ru⟩:=each u hu;cases d<;>simp only[eO,ZI]at k1;simp only[Rep]at rd;subst rd;obtain⟨t,rfl⟩:=ru;exact .now
 |ls=>
  refine kas_kind (T:=.type "list") h2 (λu hu=>?_) (by decide) (by decide) q;obtain⟨d,x,k1,rd,ru⟩:=each u hu;cases d<;>simp only[eO,ZI]at k1;simp only[Rep]at rd;obtain⟨a,xs,rfl,hq,r1⟩:=rd;cases ru;obtain⟨its,v1,t1,_⟩:=I.list hq.sq;obtain⟨o,ho,hc,_⟩:=t1.isList;have:=(show Looks (model X.prog X.w) s.heap (typeOf (.ref a)) o.cls from(Looks.ld ho).andThen .now)
  rw[hc]at this;exact this
 |ts=>
  have mk:∀(ds:Z_ D)(xs:Z_ V)(us:Z_ Z3),ds.all (eO .ts)=L->M1 X.K B H ds xs->aac xs us->∃fs,KatTups s.heap us fs/\fs.length=us.length/\∀f∈fs,∃z t,f=.str z t:=by
   intro ds
   induction ds with
   |nil=>intro xs us _ r v;simp only[M1]at r;subst r;cases v;exact⟨[],.nil,rfl,λ_ h=>by cases h⟩
   |cons d ds ih=>
    intro xs us hk r v;simp only[M1]at r;obtain⟨x,xt,rfl,ra,rb⟩:=r;cases v with
    |cons va vb=>
     rw[rF,ZH]at hk;obtain⟨fs,f1,f2,f3⟩:=ih xt _ hk.2 rb vb;obtain⟨z,es,rfl⟩:=mL hk.1;simp only[Rep]at ra;obtain⟨a,ys,rfl,hq,rs⟩:=ra;cases va;obtain⟨its,v1,⟨o1,g1,c1,n1,d1⟩,_⟩:=I.tuple (SqT.of hq);simp only[M1]at rs;obtain⟨y,yt,rfl,ry,_⟩:=rs;simp only[Rep]at ry;subst ry;cases v1 with
     |cons w1 w2=>
      obtain⟨t,rfl⟩:=w1;exact⟨.str z t::fs,.cons g1 c1 d1 (by simp) f1,by simp[f2],λf hf=>by
       rcases Z0.mp hf with q|q;exact⟨z,t,q⟩;exact f3 f q⟩
  obtain⟨fs,f1,f2,f3⟩:=mk ds xs us hk r v;refine kat_kind (T:=.type "str") f1 (by lia) (λf hf=>?_) (by decide) q;obtain⟨z,t,rfl⟩:=f3 f hf;exact .now
 |tt=>
  have mk:∀(ds:Z_ D)(xs:Z_ V)(us:Z_ Z3),ds.all (eO .tt)=L->M1 X.K B H ds xs->aac xs us->∃fs,KatTups s.heap us fs/\fs.length=us.length/\∀f∈fs,∃b o,f=.ref b/\s.heap.get? b=U o/\o.cls=.type "tuple":=by
   intro ds
   induction ds with
   |nil=>intro xs us _ r v;simp only[M1]at r;subst r;cases v;exact⟨[],.nil,rfl,λ_ h=>by cases h⟩
   |cons d ds ih=>
    intro xs us hk r v;simp only[M1]at r;obtain⟨x,xt,rfl,ra,rb⟩:=r;cases v with
    |cons va vb=>
     rw[rF,ZH]at hk;obtain⟨fs,f1,f2,f3⟩:=ih xt _ hk.2 rb vb;obtain⟨z,es,rfl⟩:=mf hk.1;simp only[Rep]at ra;obtain⟨a,ys,rfl,hq,rs⟩:=ra;cases va;obtain⟨its,v1,⟨o1,g1,c1,n1,d1⟩,_⟩:=I.tuple (SqT.of hq);simp only[M1]at rs;obtain⟨y,yt,rfl,ry,_⟩:=rs;simp only[Rep]at ry;obtain⟨b,zs,rfl,UU,_⟩:=ry;cases v1 with
     |cons w1 w2=>
      cases w1;obtain⟨_,_,⟨o2,g2,c2,_⟩,_⟩:=I.tuple (SqT.of UU);exact⟨.ref b::fs,.cons g1 c1 d1 (by simp) f1,by simp[f2],λf hf=>by
       rcases Z0.mp hf with q|q;exact⟨b,o2,q,g2,c2⟩;exact f3 f q⟩
  obtain⟨fs,f1,f2,f3⟩:=mk ds xs us hk r v;refine kat_kind (T:=.type "tuple") f1 (by lia) (λf hf=>?_) (by decide) q;obtain⟨b,o,rfl,g,hc⟩:=f3 f hf;rw[<-hc];exact(Looks.ld g).andThen .now
end
def Fp(h:fJ ds=L){f:Z3->D}(hf:ds≠[]->∀u,f u∈ds)(h0:ds=[]->∀u,f u=.non):SM.aaI λx y=>decide (ltD 15 (f x.1) (f y.1)=U L):=by
 by_cases hn:ds=[];have e:=h0 hn;exact⟨λi j q=>by simp only[e,ltD]at q;simp at q,λi j k _ _=>by simp[e,ltD]⟩;exact⟨λi j q=>ZA (lw 15 _ _ (Zh q)),λi j k a b=>ZA (yy h (hf hn _) (hf hn _) (hf hn _) (of_decide_eq_false a) (of_decide_eq_false b))⟩
section
variable{X:Cx}
def Cw(I:Inv X a_ q H s)(r:M1 X.K B H ds ys)(v:aac ys us)(hc:fJ ds=L):
  ∃f:Z3->D,(ds≠[]->∀u,f u∈ds)/\(ds=[]->∀u,f u=.non)/\us.map f=ds/\∀u∈us,∃y,Rep X.K B H (f u) y/\RelV y u:=by
 refine⟨λu=>open Classical in if h:∃d,d∈ds/\∃y,Rep X.K B H d y/\RelV y u then h.choose else ds.headD .non,λhn u=>?_,λhn u=>?_,?_⟩;dsimp only;split;rename_i h;exact h.choose_spec.1;cases ds with
 |nil=>exact absurd rfl hn
 |cons d ds=>exact .head _
 subst hn;dsimp only;split;rename_i h;exact nomatch h.choose_spec.1;rfl;have key:∀i,i<us.length->∃d y u,ds[i]?=U d/\us[i]?=U u/\Rep X.K B H d y/\RelV y u:=λi hi=>by
  have l1:=r.length;have l2:=v.length;have o_:i<ds.length:=by lia
  obtain⟨x,hx,rx⟩:=r.get (i:=i) (d:=ds[i]) (by simp[o_]);obtain⟨u,hu,ru⟩:=v.get hx;exact⟨ds[i],x,u,by simp[o_],hu,rx,ru⟩
 have val:∀d y u,d∈ds->Rep X.K B H d y->RelV y u->(open Classical in if h:∃d,d∈ds/\∃y,Rep X.K B H d y/\RelV y u then h.choose else ds.headD .non)=d:=λd y u hd hr hv=>by
  rw[dif_pos ⟨d,hd,y,hr,hv⟩];have h:∃d,d∈ds/\∃y,Rep X.K B H d y/\RelV y u:=⟨d,hd,y,hr,hv⟩;obtain⟨h1,y',h2,h3⟩:=h.choose_spec;cases RelV.inj h3 hv;exact Rep.inj I (jH hc h1) (jH hc hd) h2 hr
 constructor;refine Xl λi=>?_;rw[Yv];by_cases hi:i<us.length;obtain⟨d,y,u,h1,h2,h3,h4⟩:=key i hi;rw[h1,h2,Option.map_some,val d y u (Zf h1) h3 h4];have l1:=r.length;have l2:=v.length;rw[YL (by lia),YL (by lia)];rfl;intro u hu;obtain⟨i,hi⟩:=X6 hu;obtain⟨d,y,u',h1,h2,h3,h4⟩:=key i (ZX.mp hi).1;cases hi.symm.trans h2;exact⟨y,by dsimp only;rw[val d y u (Zf h1) h3 h4];exact h3,h4⟩
theorem sH:∀{us:Z_ Z3},(∀u∈us,∃y,Rep X.K B H (f u) y/\RelV y u)->∃zs,M1 X.K B H (us.map f) zs/\aac zs us
 |[],_=>⟨[],M1.nil,.nil⟩
 |u::us,h=>by
  obtain⟨y,r,v⟩:=h u (.head _);obtain⟨zs,rs,vs⟩:=sH (us:=us) λu hu=>h u (.tail _ hu);exact⟨y::zs,M1.cons r rs,.cons v vs⟩
end
section
variable{X:Cx}{m:Bool}{a b:Expr}
def mQ(hu:X.A.units+64<cLine)(I:Inv X a_ O H s)(k1:∀b o,s.heap.get? b=U o->h1.get? b=U o)(hsz:s.z<=h1.objs.size)(r:M1 X.K B H ds ys)(v:aac ys us)(hz:us.length<=sizeLine)(hc:fJ ds=L)(hk:(decide (ds.length<2)||ds.all (eO c))=L)(q:∀l zs,H l=M->M1 X.K B H (cH ds) zs->Q (.ref l) (upd H l (.lst zs))):
  wpAny (model X.prog X.w) X.A.in1 (do
   let l <-newList us
   let _ <-holding [l] (call (.builtin "list.sort") [l] [])
   ret l) (λfin s'=>∃w,fin=.done (.ret w)/\EP X a_ O Q w s') X.xe {s with heap:=h1,toks:=t1}:=by
 obtain⟨f,f1,f0,f2,f3⟩:=Cw I r v hc;have Kw:2<=us.length->ds.all (eO c)=L:=λh=>by
  rw[Bool.or_eq_true]at hk;rcases hk with hk|hk;have:=Zh hk;have l1:=r.length;have l2:=v.length;lia;exact hk
 refine Z8 (WD ?_ hz);have g0:(h1.push (seqObj "list" us.toArray 0)).get? h1.objs.size=U (seqObj "list" us.toArray 0):=ZN _ rfl;have k2:∀b o,s.heap.get? b=U o->b≠h1.objs.size/\(h1.push (seqObj "list" us.toArray 0)).get? b=U o:=λb o e=>⟨Zs (ZV (k1 b o e)),Z5 _ (k1 b o e)⟩
 refine Z8 (Za (Y2 slot_list_sort ⟨_,g0,rfl⟩ entry_list_sort ?_ (args_list_sort _)));have hA:X.A.in1.in1.units+20<cLine:=by show X.A.units+1+1+20<cLine;lia
 refine xG (s:={s with heap:=h1.push (seqObj "list" us.toArray 0),toks:=t1}) (vs:=us) (κ:=Ba c) (LT:=λu v=>decide (ltD 15 (f u) (f v)=U L)) g0 hz (Fp hc f1 f0) (λh2 h' kp Q' q'=>?_) (λh2 h' kp u u' C hu Jj hC=>?_) (λPH hp hs h' cc kp g=>?_);have I1:Inv X a_ O H {s with heap:=h',toks:=t1}:=I.kept λb o e=>kp b o (k2 b o e).1 (k2 b o e).2;exact vT I1 h2 (Kw h2) r v q';have I1:Inv X a_ O H {s with heap:=h',toks:=t1}:=I.kept λb o e=>kp b o (k2 b o e).1 (k2 b o e).2;obtain⟨x,rx,vx⟩:=f3 u hu;obtain⟨y,ry,vy⟩:=f3 u' Jj;have m1:f u∈ds:=by rw[<-f2];exact Wr hu
 have m2:f u'∈ds:=by rw[<-f2];exact Wr Jj
 obtain⟨rr,er⟩:=jC hc m1 m2;refine Dt I1 hA (jH hc m1) (jH hc m2) (ZO.mp (Kw h2) _ m1) (ZO.mp (Kw h2) _ m2) rx ry vx vy er ?_;simp only[er]at hC;cases rr with
 |true=>simpa using hC
 |false=>simpa using hC
 have es:PH.map f=cH ds:=by
  have perm:(PH.map f).Perm ds:=by rw[<-f2];exact hp.map f
  refine de hc _ _ (λy hy=>perm.mem_iff.mp hy) (perm.trans (aY ds).symm) ?_ (bU hc);rw[Xo];exact hs.imp λq=>of_decide_eq_false q
 obtain⟨zs,rz,vz⟩:=sH (us:=PH) λu hu=>f3 u (hp.mem_iff.mp hu);rw[es]at rz;have hlen:zs.length<=sizeLine:=by rw[vz.length,hp.length_eq];exact hz
 have JW:H h1.objs.size=M:=I.hok.fresh hsz;refine⟨_,rfl,Z4 ⟨_,rfl,.ref h1.objs.size,_,I.laid (a:=h1.objs.size) (o:=.lst zs) (h':=h') (t':=t1) (λb o e=>kp b o (k2 b o e).1 (k2 b o e).2) hsz ?_,rfl,q _ _ JW rz⟩⟩;exact⟨hlen,_,cc,vz,g⟩
def mC(hu:X.A.units+64<cLine):fx X (.builtin "sorted") (λxs H Q=>∃B p ds ys,xs=[.ref p]/\SqL X.K H p ys/\M1 X.K B H ds ys/\fJ ds=L/\(decide (ds.length<2)||ds.all (eO c))=L/\
  ∀l zs,H l=M->M1 X.K B H (cH ds) zs->Q (.ref l) (upd H l (.lst zs))):=by
 intro a_ s O H xs us Q I r h;obtain⟨B,p,ds,ys,rfl,hq,rs,hc,hk,q⟩:=h;obtain⟨u,rfl,rx⟩:=hZ r;cases rx;obtain⟨its,rv,pl,hz⟩:=I.list hq;have l1:=rs.length;have l2:=rv.length;refine Calls.call_function_entry kind_sorted plain_sorted entry_sorted (args_sorted1 _) ?_;unfold Builtin.«sorted»;refine Z8 (m:=checkCount "sorted" 1 1 _) (Z4 (Z8 (collect_list pl.isList ?_ (by lia))));have hsz:((s.heap.push (seqObj "list" #[] 0)).update s.z (Obj.mapSeq (· ++its.toArray))).objs.size=s.z+1:=by
  rw[Xw,size_push']
 refine mQ (t1:=s.toks) hu I (λb o e=>?_) (by rw[hsz];lia) rs rv (by lia) hc hk q;exact(Zn _ _ (Nat.ne_of_gt (ZV e))).trans (Z5 _ e)
def dh(c:KD)(x:Z9 D):Z9 D:=match x with|some (.lst ds)=>if(fJ ds&&(decide (ds.length<2)||ds.all (eO c)))=L then U (.lst (cH ds)) else M|_=>M
def fW(h2:fJ ds=L)(h3:ds.length<2\/ds.all (eO c)=L):dh c (U (.lst ds))=U (.lst (cH ds)):=by
 unfold dh;have:(fJ ds&&(decide (ds.length<2)||ds.all (eO c)))=L:=by rcases h3 with h3|h3<;>simp[h2,h3]
 simp only[this,Y1]
theorem vg(hu:X.A.units+64<cLine)(g:Gl X "sorted")(hm:X.mg "sorted"=M)(ha:DE X Y a fa)(hs:starEach [a] X.env=[(Y,eval a X.env)]:=by rfl):DF X (.Call (.Name "sorted" p) [a] [] pos) (λq=>dh c (fa q)):=
 (c7 (mC (c:=c) hu) g hm gJ (aw ha aK hs) (he:=hs)).imp λO H Q hz=>by
  obtain⟨B,Hk,q,d,R,e,k⟩:=hz;unfold dh at e;dsimp only at e;split at e;rename_i ds qd;by_cases cc:(fJ ds&&(decide (ds.length<2)||ds.all (eO c)))=L;rw[ZR cc]at e;obtain rfl:=Z7 e;rw[ZH]at cc;obtain⟨c2,c3⟩:=cc;refine qq R qd λv H' s R' r=>?_;simp only[Rep]at r;obtain⟨l,xs,rfl,hq,rs⟩:=r;refine⟨_,l,ds,xs,rfl,hq.sq,rs,c2,c3,λl' zs hl rz=>?_⟩;have s2:=ax (o:=.lst zs) hl;exact k l' _ (s.trans s2) (s.free hl) ⟨_,ah,rz.same (m:=Y) R' s2⟩;rw[ZK cc]at e;trivial;trivial
end
def dy:entryFor table "dict.update.loop"=U Builtin.«dict.update.loop»:=entryFor_of_tree (by kernel_rfl)
def bv:plainId "dict.update.loop"=L:=by decide +kernel
def sE:typeLookup (.type "list") "keys"=pure M:=by rw[W6,XD];kernel_rfl
def zJ(hx:s.heap.get? a=U o)(hc:o.cls=.type "list")(v_:o.data=.seq xs k)(hd:o.dict=M)(hA:A.handled=M)(h:∀h' tk,(∀b o,s.heap.get? b=U o->h'.get? b=U o)->Q M {s with heap:=h',toks:=tk}):wpAny (model prog w) A (getAttr? (.ref a) "keys") Q E s:=by
 obtain⟨c,dct,dat,sl⟩:=o;simp only at hc v_ hd;subst hc v_ hd;obtain⟨hp,g,d,tk,os⟩:=s;have hT:∀Nl,(⟨hp,g,d,Nl,os⟩:ZT).TypeIs (.ref a) "list":=λ_=>⟨_,hx,rfl⟩
 have f1:=sub_AttributeError;have f3:=Wz.lookup;have f4:=Wz.bind (.ref a);have f5:=am_list_getattr_none;unfold getAttr? getAttrBy? getAttrBy
 repeat (any_goals (first|assumption|exact hT _|((with_reducible show wpAny _ _ (call (Value.builtin "list.__getattribute__") _ _) _ _ _);refine Ws Wz (hT _) am_entry_list_getattribute (F.args_list_getattribute_2 _ _) (meets_getattribute_miss_list a xs k sl _ _ sE (by decide) (by decide)) ⟨hx,hA,λh' Nl e Kr=>?_⟩)|wp_step))
 obtain⟨t',u',he⟩:=Kr.there;show wpAny _ _ (getattributeRaised _ _ _ _ _ _ _) _ _ _;unfold getattributeRaised
 repeat (any_goals (first|assumption|wp_step))
 exact h _ _ Kr.keeps
section
end
section
end
def iR:D->Z9 Key
 |.int i=>U (.inl i)
 |.str x=>U (.inr x)
 |_=>M
section
end
def dj:Z_ D->Z9 (Z_ Str)
 |[]=>U []
 |.str i::ds=>(match dj ds with|some l=>U (i::l)|none=>M)
 |_=>M
def kO(ns:Z_ Str):dj (ns.map D.str)=U ns:=by
 induction ns with
 |nil=>rfl
 |cons n ns ih=>simp only[Z2,dj,ih]
theorem eV:∀{ds:Z_ D}{ns:Z_ Str},dj ds=U ns->ds=ns.map D.str
 |[],ns,h=>by simp only[dj,ZL]at h;subst h;rfl
 |.str i::ds,ns,h=>by
  simp only[dj]at h;cases q:dj ds with
  |none=>rw[q]at h;trivial
  |some l=>
   rw[q]at h;simp only[ZL]at h;subst h;rw[Z2,eV q]
 |.non::ds,ns,h=>by simp[dj]at h
 |.bl _::ds,ns,h=>by simp[dj]at h
 |.int _::ds,ns,h=>by simp[dj]at h
 |.tup _::ds,ns,h=>by simp[dj]at h
 |.lst _::ds,ns,h=>by simp[dj]at h
 |.dK _ _::ds,ns,h=>by simp[dj]at h
 |.dD _ _::ds,ns,h=>by simp[dj]at h
theorem M1.strs{K:Z6}{B:ZM->Prop}{H:Hp}:∀{ns:Z_ Str}{xs:Z_ V},M1 K B H (ns.map D.str) xs->xs=ns.map V.str
 |[],xs,h=>by simpa only[Y6,M1]using h
 |n::ns,xs,h=>by
  simp only[Z2,M1]at h;obtain⟨x,r,rfl,h1,h2⟩:=h;simp only[Rep]at h1;rw[Z2,h1,M1.strs h2]
def qC:∀{us:Z_ Z3},aac (ns.map V.str) us->StrsAre us ns:=by
 induction ns with
 |nil=>intro us r;rw[Y6]at r;cases r;exact .nil
 |cons n ns ih=>
  intro us r;rw[Z2]at r;cases r with
  |cons r1 r2=>
   obtain⟨t,e⟩:=r1;subst e;exact .cons n t (ih r2)
section
variable{X:Cx}{m:Bool}{a b:Expr}{fa fb:Mk->Z9 D}{pos p:Pos}
def zQ:MtM X "str.join" (λx vs H Q=>∃(z:Str)(p:ZM)(ys:Z_ Str),x=.str z/\vs=[.ref p]/\SqL X.K H p (ys.map V.str)/\(ys.map (·.length)).sum+ys.length*z.length<=16777216/\Q (.str (Txt.join z ys)) H):=by
 intro a_ s O H x vs v us Q I rx rv h;obtain⟨z,p,ys,rfl,rfl,hq,hl,q⟩:=h;obtain⟨t,rfl⟩:=rx;obtain⟨u,rfl,ru⟩:=rv.one;cases ru;obtain⟨its,r,pl,hz⟩:=I.list hq;exact join_list pl.isList (by simpa using qC r) hl λt' k=>⟨.str _,H,I.tok k,⟨t',rfl⟩,q⟩
noncomputable def uN(x y:Z9 D):Z9 D:=match x,y with|some (.str z),some (.lst ds)=>(match dj ds with|some ys=>if(ys.map (·.length)).sum+ys.length*z.length<=16777216 then U (.str (Txt.join z ys)) else M|none=>M)|_,_=>M
set_option tactic.hygienic true in
theorem A5(ha:DE X m a fa)(hb:DE X m' b fb)(mc:Mc X.env a "join" b [] apos j_):DE X mm (.Call (.Attribute a "join" apos) [b] [] j_) (λq=>uN (fa q) (fb q)):=
 (lP F.plainAttrs_str F.slot_str_join F.type_str_join zQ ha (aw hb aK mc.s) mc).imp λO H Q hz=>by
  obtain⟨B,Hk,q,d,R,e,k⟩:=hz;unfold uN at e;dsimp only at e;split at e;rename_i z ds q1 q2;split at e;rename_i ys qs;obtain rfl:=eV qs;by_cases c:(ys.map (·.length)).sum+ys.length*z.length<=16777216;rw[ZR c]at e;obtain rfl:=Z7 e;refine⟨B,Hk,q,_,R,q1,λv H1 s1 r1=>?_⟩;simp only[Rep]at r1;subst r1;refine⟨rfl,qq (R.to s1) q2 λw H2 s2 R2 r2=>?_⟩;simp only[Rep]at r2;obtain⟨l,xs,rfl,hq,rs⟩:=r2;obtain rfl:=rs.strs;exact⟨z,l,ys,rfl,rfl,hq.sq,c,k _ H2 (s1.trans s2) (by simp only[Rep])⟩;rw[ZK c]at e;trivial;trivial;trivial
def zL:MtM X "str.find" (λx vs H Q=>∃(z y:Str),x=.str z/\vs=[.str y]/\Q (.int (Txt.find z y)) H):=by
 intro a_ s O H x vs v us Q I rx rv h;obtain⟨z,y,rfl,rfl,q⟩:=h;obtain⟨t,rfl⟩:=rx;obtain⟨u,rfl,ru⟩:=rv.one;obtain⟨t',rfl⟩:=ru;exact SC.find ⟨.int _,H,I.tok _,⟨_,rfl⟩,q⟩
def ya(x y:Z9 D):Z9 D:=match x,y with|some (.str z),some (.str w)=>U (.int (Txt.find z w))|_,_=>M
set_option tactic.hygienic true in
theorem Ah(ha:DE X m a fa)(hb:DE X m' b fb)(mc:Mc X.env a "find" b [] apos j_):DE X mm (.Call (.Attribute a "find" apos) [b] [] j_) (λq=>ya (fa q) (fb q)):=
 (lP F.plainAttrs_str F.slot_str_find F.type_str_find zL ha (aw hb aK mc.s) mc).imp λO H Q hz=>by
  obtain⟨B,Hk,q,d,R,e,k⟩:=hz;unfold ya at e;dsimp only at e;split at e;rename_i z y q1 q2;obtain rfl:=Z7 e;refine⟨B,Hk,q,_,R,q1,λv H1 s1 r1=>?_⟩;simp only[Rep]at r1;subst r1;refine⟨rfl,qq (R.to s1) q2 λw H2 s2 R2 r2=>?_⟩;simp only[Rep]at r2;subst r2;exact⟨z,y,rfl,rfl,k _ H2 (s1.trans s2) (by simp only[Rep])⟩;trivial
def u7(l:ZM)(items:Array Z3)(n:Nat)(b:ZM)(f_:Array Z3)(n2:Nat)(s1 s2:Array (Z9 Z3))(QG:items.size+f_.size<=sizeLine):
  Meets (Builtin.«list.__add__» ⟨[.ref l,.ref b],[]⟩) (λ_ R s=>s.heap.get? l=U ⟨.type "list",M,.seq items n,s1⟩/\s.heap.get? b=U ⟨.type "list",M,.seq f_ n2,s2⟩/\R (.ok (.ret (Value.ref s.z))) {s with heap:=s.heap.push {cls:=Value.type "list",data:=Data.seq (items++f_)}}):=
 .of_wp λprog w A R s h=>by
  obtain⟨hp,g,d,tk,os⟩:=s;obtain⟨hl,hb,h⟩:=h;have f1:=AutoSeq1.idx_int;have f2:=Wy;have f3:=AutoSeq1.sub_list_list;have f4:=AutoSeq1.sub_tuple_list;have f5:=AutoSeq1.sub_list_tuple
  wp_walk using AutoSeq1.wpAny_loadPart' hl,AutoSeq1.wpAny_loadPart' hb
  exact⟨_,rfl,h⟩
def tP{l b:ZM}(hl:PlainL s.heap l its)(hb:PlainL s.heap b k_)(h:Q (.ref s.z) {s with heap:=s.heap.push {cls:=.type "list",data:=.seq (its++k_)}})(hsz:its.size+k_.size<=sizeLine):wpAny (model P w) A (binaryOp .Add (.ref l) (.ref b)) Q E s:=by
 obtain⟨⟨c1,d1,a1,s1⟩,n1,e1,rfl,rfl,rfl⟩:=hl;obtain⟨⟨c2,d2,a2,s2⟩,n2,e2,rfl,rfl,rfl⟩:=hb;exact concat_meets ⟨_,e1,rfl⟩ ⟨_,e2,rfl⟩ noFill_list_add seq_list_add F.slot_list_add F.entry_list_add (F.args_list_add_2 _ _) (u7 l its n1 b k_ n2 s1 s2 hsz) ⟨e1,e2,h⟩
def AD:OpR X (binaryOp .Add) (λx y H Q=>∃l b xs zs,x=.ref l/\y=.ref b/\SqL X.K H l xs/\SqL X.K H b zs/\xs.length+zs.length<=sizeLine/\∀p,H p=M->Q (.ref p) (upd H p (.lst (xs++zs)))):=by
 intro a_ s O H x y v u Q I rx ry h;obtain⟨l,b,xs,zs,rfl,rfl,hH,hB,hz,q⟩:=h;cases rx;cases ry;obtain⟨its,r,pl,_⟩:=I.list hH;obtain⟨k_,r2,Np,_⟩:=I.list hB;have hl:=r.length;have Pl:=r2.length;refine tP pl Np ?_ (by rw[ZW,ZW];lia);have ea:its.toArray++k_.toArray=(its++k_).toArray:=by simp
 rw[ea];exact⟨.ref _,_,I.acK (t':=s.toks) (r.append r2) (by rw[Zv];lia),rfl,q _ I.fresh⟩
noncomputable def w8(x y:Z9 D):Z9 D:=match x,y with|some (.lst i),some (.lst j)=>if i.length+j.length<=lim then U (.lst (i++j)) else M|_,_=>M
set_option tactic.hygienic true in
theorem yR(ha:DE X Y a fa)(hb:DE X Y b fb):DF X (.BinOp a .Add b pos) (λq=>w8 (fa q) (fb q)):=
 (xX AD ha hb).imp λO H Q hz=>by
  obtain⟨B,Hk,q,d,R,e,k⟩:=hz;unfold w8 at e;dsimp only at e;split at e;rename_i i j q1 q2;by_cases hz:i.length+j.length<=lim;rw[ZR hz]at e;obtain rfl:=Z7 e;refine two R q1 q2 λv u H' s R' r1 r2=>?_;simp only[Rep]at r1 r2;obtain⟨c,xs,rfl,hq,rs⟩:=r1;obtain⟨c2,NI,rfl,LQ,Lb⟩:=r2;refine⟨c,c2,xs,NI,rfl,rfl,hq.sq,LQ.sq,by rw[<-rs.length,<-Lb.length];exact aD hz,λp hp=>?_⟩;have s2:=ax (o:=.lst (xs++NI)) hp;exact k p _ (s.trans s2) (s.free hp) ⟨_,ah,(rs.append Lb).same (m:=Y) R' s2⟩;rw[ZK hz]at e;trivial;trivial
noncomputable def yu(i:Nat)(x:Z9 D)(q:Mk):Z9 Out:=match bQ i q,x with|some (.lst ds),some (.lst es)=>if ds.length+es.length<=lim then U (.next (q.set i (U (.lst (ds++es),L)))) else M|_,_=>M
set_option tactic.hygienic true in
def tJ(h:yu i x O=U o):∃ds es,O[i]?=U (U (.lst ds,L))/\x=U (.lst es)/\ds.length+es.length<=lim/\o=.next (O.set i (U (.lst (ds++es),L))):=by
 unfold yu at h;split at h;rename_i ds d q;by_cases hl:ds.length+d.length<=lim;rw[ZR hl]at h;obtain rfl:=Z7 h;exact⟨ds,d,bL q,rfl,hl,rfl⟩;rw[ZK hl]at h;trivial;trivial
def sX(ha:DF X a fa)(hN:X.N[i]?=U x:=by rfl)(hv:Vis X.env.scope x:=by first|exact Or.inl rfl|exact Or.inr (Or.inl rfl)|exact Or.inr (Or.inr rfl))(mc:Mc X.env (.Name x px) "extend" a [] apos j_)(hd:(x==("__debug__":Str))=Y:=by decide)(Jg:(x==("__classdict__":Str))=Y:=by decide)(Kt:swapsWith (.Call (.Attribute (.Name x px) "extend" apos) [a] [] j_) M pos.line X.env=pure Y:=by rfl):DS X (.Expr (.Call (.Attribute (.Name x px) "extend" apos) [a] [] j_) pos) (λq=>yu i (fa q) q):=
 (gy (lP Yl F.slot_list_extend F.type_list_extend uA (aZ hN hv hd Jg) (aw ha aK mc.s) mc) Kt).imp λDn O H hz=>by
  obtain⟨B,Hk,q,o,R,e,k⟩:=hz;obtain⟨ds,es,h1,e1,hl,rfl⟩:=tJ e;obtain⟨l,h2,h3,xs,h4,h5⟩:=R.own i _ h1;refine⟨.ref l,h2,.inl ⟨rfl,xs,SqL.of h4⟩,B,Hk,q,_,R,e1,λp H' s hp ob=>?_⟩;have R':=R.to s;have Ky:=s l _ h4;have ND:M1 X.K B H' ds xs:=h5.ext (R.ext s);obtain⟨zs,h6,h7⟩:=ob;obtain⟨x1,x2⟩:=R'.abE (ds':=ds++es) (xs':=xs++zs) h1 h2 Ky (ND.append h7);exact⟨l,p,xs,zs,rfl,rfl,Ky,h6,by rw[<-h5.length,<-h7.length];exact aD hl,k O _ ((R.ext s).trans x1) x2⟩
end
noncomputable def nI(O6:Scope)(scope:Scope)(N:Z_ Str)(bs:Z_ Bool):Bool:=
 decide (scope.kind=.function)&&scope.names.all (λy=>!decide (y.2=.cell))&&scope.names.all (λy=>!decide (y.2=.local)||decide (scope.names.lookup y.1=U .local))&&
 scope.names.all (λy=>!decide (y.2=.free)||(decide (scope.names.lookup y.1=U .free)&&(decide (O6.names.lookup y.1=U .cell)||decide (O6.names.lookup y.1=U .free))))&&
 decide (bs.length=N.length)&&(N.zip bs).all (λp=>!p.2||decide (scope.names.lookup p.1=U .free))
def j6(h1:X.env.scope=O6)(h2:X.N=N)(h:nI O6 scope N bs=L):aaf X scope bs:=by
 unfold nI at h;simp only[ZH,Zi]at h;obtain⟨⟨⟨⟨⟨a,b⟩,c⟩,d⟩,e⟩,f⟩:=h;refine⟨a,λy hy z=>?_,λy hy z=>?_,λy hy z=>?_,by rw[h2];exact e,λi x hx hb=>?_⟩;have:=ZO.mp b y hy;rw[Zw z]at this;trivial;have:=ZO.mp c y hy;rw[Zw z]at this;simpa using this;have:=ZO.mp d y hy;rw[Zw z]at this;simp only[YA,Bool.false_or,ZH,Bool.or_eq_true,Zi]at this;refine⟨this.1,?_⟩;unfold Env.kindOf;rw[h1];exact this.2;rw[h2]at hx;have hz:(N.zip bs)[i]?=U (x,L):=by rw[List.getElem?_zip_eq_some];exact⟨hx,hb⟩
 have:=ZO.mp f _ (Zf hz);simpa using this
structure Nm (X:Cx)(i:Nat)(x:Str):Prop where
 at':X.N[i]?=some x
 vis:Vis X.env.scope x
 d1:(x==("__debug__":Str))=false
 d2:(x==("__classdict__":Str))=false
structure Lc (X:Cx)(i:Nat)(x:Str):Prop where
 at':X.N[i]?=some x
 loc:Loc X.env.scope x
 fnl:X.fn x=true\/X.env.scope.names.lookup x=some .local
structure Gb (X:Cx)(x:Str):Prop where
 gl:Gl X x
 d1:(x==("__debug__":Str))=false
def ES:Z9 NameKind->Bool
 |some .local=>L|some .cell=>L|some .free=>L|_=>Y
def EN:Z9 NameKind->Bool
 |some .local=>L|some .cell=>L|_=>Y
noncomputable def nmB(N:Z_ Str)(sc:Scope)(i:Nat)(x:Str):Bool:=decide (N[i]?=U x)&&ES (sc.names.lookup x)&&!(x==("__debug__":Str))&&!(x==("__classdict__":Str))
def lcB(N:Z_ Str)(sc:Scope)(i:Nat)(x:Str):Bool:=decide (N[i]?=U x)&&EN (sc.names.lookup x)
def FL(N:Z_ Str)(sc:Scope)(i:Nat)(x:Str):Bool:=decide (N[i]?=U x)&&decide (sc.names.lookup x=U .local)
def gbB(sc:Scope)(x:Str):Bool:=decide (sc.names.lookup x=U .globalImplicit)&&!(x==("__debug__":Str))
def we(h:ES (sc.names.lookup x)=L):Vis sc x:=by
 unfold ES at h;split at h;rename_i e;exact .inl e;rename_i e;exact .inr (.inl e);rename_i e;exact .inr (.inr e);trivial
def v5(h:EN (sc.names.lookup x)=L):Loc sc x:=by
 unfold EN at h;split at h;rename_i e;exact .inl e;rename_i e;exact .inr e;trivial
structure Has (X:Cx)(N:List Str)(sc:Scope):Prop where
 n:X.N=N
 sc:X.env.scope=sc
 calm:X.calm=true
 nd:X.N.Nodup
def Has.nm{X:Cx}{N:Z_ Str}{sc:Scope}{i:Nat}{x:Str}(h:Has X N sc)(b:nmB N sc i x=L):Nm X i x:=by
 unfold nmB at b;simp only[ZH,Zi,Yu]at b;exact⟨by rw[h.n];exact b.1.1.1,by rw[h.sc];exact we b.1.1.2,b.1.2,b.2⟩
def Has.lc{X:Cx}{N:Z_ Str}{sc:Scope}{i:Nat}{x:Str}(h:Has X N sc)(hf:∀x,X.fn x=L)(b:lcB N sc i x=L):Lc X i x:=by
 unfold lcB at b;simp only[ZH,Zi]at b;exact⟨by rw[h.n];exact b.1,by rw[h.sc];exact v5 b.2,.inl (hf x)⟩
def Has.lcl{X:Cx}{N:Z_ Str}{sc:Scope}{i:Nat}{x:Str}(h:Has X N sc)(b:FL N sc i x=L):Lc X i x:=by
 unfold FL at b;simp only[ZH,Zi]at b;exact⟨by rw[h.n];exact b.1,by rw[h.sc];exact .inl b.2,.inr (by rw[h.sc];exact b.2)⟩
def Has.gb{X:Cx}{N:Z_ Str}{sc:Scope}{x:Str}(h:Has X N sc)(b:gbB sc x=L):Gb X x:=by
 unfold gbB at b;simp only[ZH,Zi,Yu]at b;refine⟨?_,b.2⟩;unfold Gl Env.kindOf;rw[h.sc];exact b.1
noncomputable def FX(scope sc:Scope):Scope:=
 {scope with names:=scope.names.map λ(n,k)=>if(k==.free&&sc.kind==.function&&sc.names.lookup n==U .cell) then(n,.cell) else(n,k)}
def Bd(h:env.scope=sc):relabel scope env=FX scope sc:=by subst h;rfl
def Has.comp{X:Cx}{N:Z_ Str}{sc:Scope}(h:Has X N sc)(scope:Scope)(cl:Z_ (Str×ZM))(C:ZM)(b_:ZT)(d_:Hp)(ex:Z_ ZM)(pn:Z_ (ZM×Obj)):Has (aA X scope cl C b_ d_ ex pn) N (FX scope sc):=
 ⟨h.n,Bd h.sc,h.calm,h.nd⟩
def aaf.of'(h:Has X N sc)(b:nI sc scope N bs=L):aaf X scope bs:=j6 h.sc h.n b
section
variable{X:Cx}{m mm:Bool}{a e:Expr}{es:Z_ Expr}{fa:Mk->Z9 D}{fs:Mk->Z9 (Z_ D)}{pos p:Pos}{k:Nat}{x:Str}{f:Z_ D->Z9 (D×Bool)}{i:Nat}
theorem nv(m:Bool)(n:Nm X i x):DE X m (.Name x pos) (rd m i):=BR n.at' n.vis n.d1 n.d2
theorem vj{pos':Pos}(n:X.N.Nodup)(l:Lc X i x)(ha:DE X Y a fa)(hs:swapsWith a (U (.Name x pos')) pos.line X.env=pure Y:=by rfl):DS X (.Assign [.Name x pos'] a pos) (λq=>bC i (fa q) q):=DV (i:=i) (x:=x) (pos:=pos) (pos':=pos') n ha l.at' l.loc hs l.fnl
theorem i8{pos':Pos}(n:X.N.Nodup)(l:Lc X i x)(ha:DF X a fa)(hs:swapsWith a (U (.Name x pos')) pos.line X.env=pure Y:=by rfl):DS X (.Assign [.Name x pos'] a pos) (λq=>dZ i (fa q) q):=Bq (i:=i) (x:=x) (pos:=pos) (pos':=pos') n ha l.at' l.loc hs l.fnl
theorem jj(n:X.N.Nodup)(l:Lc X i x):DG X (.Name x pos) (ae i):=BC n l.at' l.loc l.fnl
theorem oN{px:Pos}(n:Nm X i x):DS X (.Return (U (.Name x px)) pos) (λq=>dH (bQ i q)):=A7 (i:=i) (x:=x) (px:=px) (pos:=pos) n.at' n.vis n.d1 n.d2
theorem pq(F:FnM X.prog X.w X.K X.mg X.base k x f)(hr:aaq k X.A)(g:Gb X x)(ha:DA X m (e::es) fs)(he:starEach (e::es) X.env=(Y,eval e X.env)::starEach es X.env:=by rfl)
  (hpl:(backTo pos (starEach es X.env)).any (·.1)=Y:=by rfl):DE X m (.Call (.Name x p) (e::es) [] pos) (λq=>shO (af (fs q) f)):=Bn F hr g.gl ha g.d1 he hpl
theorem o6(F:FnM X.prog X.w X.K X.mg X.base k x f)(hr:aaq k X.A)(g:Gb X x)(ha:DA X Y (e::es) fs)(he:starEach (e::es) X.env=(Y,eval e X.env)::starEach es X.env:=by rfl)
  (hpl:(backTo pos (starEach es X.env)).any (·.1)=Y:=by rfl):DF X (.Call (.Name x p) (e::es) [] pos) (λq=>frO (af (fs q) f)):=zG (p:=p) F hr g.gl ha g.d1 he hpl
theorem lI(F:FnM X.prog X.w X.K X.mg X.base k x f)(hr:aaq k X.A)(g:Gb X x)(ha:DA X L (e::es) fs)(he:starEach (e::es) X.env=(Y,eval e X.env)::starEach es X.env:=by rfl)
  (hpl:(backTo pos (starEach es X.env)).any (·.1)=Y:=by rfl):DF X (.Call (.Name x p) (e::es) [] pos) (λq=>flO (af (fs q) f)):=xD (p:=p) F hr g.gl ha g.d1 he hpl
theorem uv{p:Pos}(g:Gb X "len")(hm:X.mg "len"=M)(ha:DE X m a fa)(hs:starEach [a] X.env=[(Y,eval a X.env)]:=by rfl):DE X mm (.Call (.Name "len" p) [a] [] pos) (λq=>iG (fa q)):=Dc g.gl hm ha hs g.d1
variable{apos j_ px:Pos}
theorem iS(n:Nm X i x)(ha:DE X Y a fa)
  (mc:Mc X.env (.Name x px) "append" a [] apos j_)
  (Kt:swapsWith (.Call (.Attribute (.Name x px) "append" apos) [a] [] j_) M pos.line X.env=pure Y:=by rfl):DS X (.Expr (.Call (.Attribute (.Name x px) "append" apos) [a] [] j_) pos) (λq=>ip i (fa q) q):=
 uH ha n.at' n.vis mc n.d1 n.d2 Kt
theorem rC(n:Nm X i x)(ha:DF X a fa)(mc:Mc X.env (.Name x px) "extend" a [] apos j_)(Kt:swapsWith (.Call (.Attribute (.Name x px) "extend" apos) [a] [] j_) M pos.line X.env=pure Y:=by rfl):DS X (.Expr (.Call (.Attribute (.Name x px) "extend" apos) [a] [] j_) pos) (λq=>yu i (fa q) q):=
 sX ha n.at' n.vis mc n.d1 n.d2 Kt
noncomputable def swB(sc scope:Scope)(t:Str)(l1 l2:Nat):Bool:=
 ((if sc.kind.isAnnotationScope then ScopeKind.function else sc.kind)==.function)&&sc.names.lookup t==U .local&&l1==l2&&!(scope.names.any λ(n,k)=>n==t&&(k==.local||k==.cell))
def fj(h:Has X N sc)(q:swB sc scope x pos'.line pos.line=c):
  swapsWith (.ListComp elt gens scope pos) (U (.Name x pos')) l X.env=pure c:=by
 subst q;unfold swB;rw[<-h.sc];rfl
def j7(h:Has X N sc)(b:decide (sc.names.lookup y=U .local)=L):X.env.scope.names.lookup y=U .local:=by rw[h.sc];exact Zh b
theorem vW(h:Has X N sc)(l:Lc X i y)(JB:aa5 O)(hi:DI X Y tg iter fi)(S:aaf X scope bs)(hg:∀cl C b_ d_ ex pn,DG (aA X scope cl C b_ d_ ex pn) tg O)(ht:∀cl C b_ d_ ex pn,DTs (aA X scope cl C b_ d_ ex pn) ifs ft)(he:∀cl C b_ d_ ex pn,DE (aA X scope cl C b_ d_ ex pn) Y elt fe)(b1:decide (sc.names.lookup y=U .local)=L)(b2:swB sc scope y py.line pos.line=L)(hs:∀x,foldedSetIterable iter X.env x=pure x:=by intro _;rfl):DS X (.Assign [.Name y py] (.ListComp elt [⟨tg,iter,ifs,0⟩] scope pos) J8) (λq=>dZ i (av (af (fi q) (bR Y bs O ft fe q))) q):=
 AK h.nd h.calm JB hi S hg ht he l.at' (j7 h b1) (fj h b2) hs
end
def C4{P:Y5}{w:YV}{K:Z6}{mg:Str->Z9 Z3}{base:Heap}{f:ZM}{Jl:Z3}{A:Y9}{outer:Z_ Env}{s:ZT}{H:Hp}{E:XK}{N:Z_ Str}{q:Str}{sc:Scope}(nd:N.Nodup):
  Has (pF CX0 P w K mg base N q sc f Jl A outer s H E).nox N sc:=⟨rfl,rfl,rfl,nd⟩
def spM_law{K:Z6}{H:Hp}{a:ZM}{ns:Z_ Int}{f:Z_ D->Z9 (D×Bool)}(hS:SqL K H a (ns.map V.int))(h:f [.lst (ns.map D.int)]=U (.bl L,Y)):
  spM K f [.ref a] H (λv _=>v=.bl L) λ_ _ _=>False:=by
 have hr:M1 K (λb=>∃o:HOn,H b=U o.1) H (ns.map D.int) (ns.map V.int):=by
  clear hS h
  induction ns with
  |nil=>exact M1.nil
  |cons n ns ih=>exact M1.cons (by simp only[Rep]) ih
 refine⟨λb=>∃o:HOn,H b=U o.1,[.lst (ns.map D.int)],.bl L,Y,λ_ h=>h,M1.cons ?_ M1.nil,h,λv H' _ r=>?_⟩;simp only[Rep];refine⟨a,_,rfl,?_,hr⟩;rcases hS with(h1|⟨o,h1⟩)|h1;exact .inl ⟨⟨⟨_,rfl⟩,h1⟩,h1⟩;exact .inr (.inl ⟨o,h1⟩);exact .inr (.inr h1);unfold nh at r;rw[ZK Zr]at r;simpa only[Rep]using r
def rl{pos pos':Pos}(l:Z_ Z3)(ht:TriplesOk l)(h:codeAmong pos' (l++[rawInt pos.line,rawInt pos.col,c])=U cv):codeAmong pos' l=U cv\/cv=c:=by
 fun_induction TriplesOk l with
 |case1=>
  simp only[List.nil_append,rawInt,codeAmong]at h;split at h;obtain rfl:=Z7 h;exact .inr rfl;trivial
 |case2 a t b u x aq ih=>
  simp only[List.cons_append,codeAmong]at h⊢;split at h;rename_i hc;rw[ZR hc];exact .inl h;rename_i hc;rw[ZK hc];exact ih ht h
 |case3 l h1 h2=>exact ht.elim
section
def Inv.grow{pos:Pos}{t':Nat}(I:Inv X a_ O H s)(hP:H P=U (.tbl lq ps))(hx:Heap.ExtBut P s.heap h')(N7:s.z<=c')(ka:c'<h'.objs.size)(MU:h'.CodeRec (.ref c') lq)(z_:h'.get? P=U (W.tabObj (ps++#[rawInt pos.line,rawInt pos.col,.ref c']))):
  Inv X a_ O (upd (upd H P (.tbl lq (ps++#[rawInt pos.line,rawInt pos.col,.ref c']))) c' (.own P)) {s with heap:=h',toks:=t'}/\
  aaa H (upd (upd H P (.tbl lq (ps++#[rawInt pos.line,rawInt pos.col,.ref c']))) c' (.own P)):=by
 have hc:H c'=M:=I.hok.fresh N7;have QF:P≠c':=λz=>by rw[z,hc]at hP;trivial
 have up:∀b,b≠P->b≠c'->(upd (upd H P (.tbl lq (ps++#[rawInt pos.line,rawInt pos.col,.ref c']))) c' (.own P)) b=H b:=λb h1 h2=>by rw[ai h2,ai h1]
 have PJ:(upd (upd H P (.tbl lq (ps++#[rawInt pos.line,rawInt pos.col,.ref c']))) c' (.own P)) P=U (.tbl lq (ps++#[rawInt pos.line,rawInt pos.col,.ref c'])):=by rw[ai QF,ah]
 have nP:∀{b u},H b=U u->(∀l p,u≠.tbl l p)->b≠P:=λ{b u} e n z=>by rw[z,hP]at e;obtain rfl:=Z7 e;exact n _ _ rfl
 have nc:∀{b u},H b=U u->b≠c':=λ{b u} e z=>by rw[z,hc]at e;trivial
 have n0:∀{b},H b=M->b≠P:=λ{b} e z=>by rw[z,hP]at e;trivial
 obtain⟨L7,oc,vs,t,e2,NZ,hd,hv⟩:=MU;cases e2;refine⟨I.un ⟨λb o e n _ _=>hx b o (n0 n) e,λb o e n _ _=>⟨o.slots,hx b o (n0 n) e⟩,λb o e n _=>?_,λb o e _=>?_,λb xs e=>?_,λb o u e=>?_,λb l p e=>?_⟩ λb u q=>?_,λb o n e=>?_,λb l p e=>?_⟩;rw[up b (n0 n) (Zs (Zz (ZV e) N7))];exact n;by_cases hb:b=P;subst hb;exact⟨_,z_⟩;exact⟨o,hx b o hb e⟩;rw[up b (nP e λl p z=>by trivial) (nc e)];exact e;rw[up b (nP e λl p z=>by trivial) (nc e)];exact e;by_cases hb:b=P;subst hb;rw[hP]at e;cases e;exact⟨_,PJ⟩;exact⟨#[],by rw[up b hb (nc e),W7];exact e⟩;by_cases SU:b=c';subst SU;rw[ah]at q;obtain rfl:=Z7 q;exact⟨oc,NZ⟩;by_cases hb:b=P;subst hb;rw[PJ]at q;obtain rfl:=Z7 q;obtain⟨e1,tr,rc⟩:=I.hok b _ hP;refine⟨z_,by rw[Zj];exact TriplesOk_snoc _ _ _ _ tr,λpos' cv e=>?_⟩;rw[Zj]at e;rcases rl _ tr e with e|e;obtain⟨c2,o2,v2,t2,z1,z2,z3,z4⟩:=rc pos' cv e;have m1:=nP z2 λl p z=>by trivial
 exact⟨c2,o2,v2,t2,z1,by rw[up c2 m1 (nc z2)];exact z2,hx _ _ m1 z3,z4⟩;subst e;exact⟨c',oc,vs,t,rfl,ah,NZ,hd,hv⟩;rw[up b hb SU]at q;refine(I.hok b u q).abk (λd v hd r=>hx d v ?_ r) (λd r=>by rw[up d (nP r λl p z=>by trivial) (nc r)];exact r) λd xs r=>by rw[up d (nP r λl p z=>by trivial) (nc r)];exact r
 rcases hd with z|z;rw[z];exact hb;exact nP z λl p z=>by trivial
 rw[up b (nP e λl p z=>by subst z;trivial) (nc e)];exact e;by_cases hb:b=P;subst hb;rw[hP]at e;cases e;exact⟨_,PJ⟩;exact⟨#[],by rw[up b hb (nc e),W7];exact e⟩
def xa(I:Inv X a_ q H s)(hP:(P,lq)∈Lams.tb)(hq:X.env.qual++"<lambda>"=lq)(hC:W.CodeHd X.base c P)(Jg:X.env.code=.ref c)(JX:closureFor scope X.env=pure [])(MX:defaultsOf params X.env=([],[]))(h:∀f c' pm Kj h' tk H' ps,Inv X ((f,W.kla_obj "<lambda>" lq params body scope [] pm c' Kj)::a_) q H' {s with heap:=h',toks:=tk}->aaa H H'->H' P=U (.tbl lq ps)->codeAmong pos ps.toList=U (.ref c')->
   Q (.ref f) {s with heap:=h',toks:=tk}):wpAny (model X.prog X.w) X.A (eval (.Lambda params body scope pos) X.env) Q E s:=by
 refine W.kla_eval MX ?_;rw[hq];obtain⟨ps,JV⟩:=(I.ok.tabs.to I.base.aa1) (P,lq) hP;obtain⟨e1,tr,rc⟩:=I.hok P _ JV;have hg:s.heap.Ns mainGlobals X.mg:=I.mod.glob.keeps I.bk;have Vn:mainGlobals≠P:=λz=>by
  obtain⟨o,es,ep,e,d,_⟩:=hg;rw[z,e1]at e;obtain rfl:=Z7 e;trivial
 obtain⟨bm,ob,b1,b2,b3,b4,b5,b6⟩:=I.mod.bmain;have NG:=I.bk _ _ b3;have SV:bm≠P:=λz=>by rw[z,e1]at NG;obtain rfl:=Z7 NG;trivial
 have SX:bm≠mainGlobals:=λz=>by
  obtain⟨o,es,ep,e,d,_⟩:=hg;rw[z,e]at NG;obtain rfl:=Z7 NG;rw[d]at b6;trivial
 have fin:∀{H':Hp}{h1:Heap}{tk:Nat}{o:Obj},Inv X a_ q H' {s with heap:=h1,toks:=tk}->(∀v,o.data≠.cell v)->o.isFreed=Y->Inv X ((h1.objs.size,o)::a_) q H' {s with heap:=h1.push o,toks:=tk}:=λ{H' h1 tk o} I1 U4 U2=>by
  have I2:Inv X a_ q H' {s with heap:=h1.push o,toks:=tk}:=I1.kept (h':=h1.push o) λb u e=>Z5 _ e;refine I2.aaL λp hp=>?_;rcases Z0.mp hp with rfl|hp
  exact⟨ZN _ U2,I1.hok.fresh (ZP _),Nat.ne_of_gt I1.lt,I1.acs (ZP _),U4⟩;exact I2.pin p (ZE _ hp)
 cases hf:codeAmong pos ps.toList with
 |none=>
  refine W.kla_makeFunction (mg:=X.mg) JX I.ok.glob hg Jg (hC.keeps I.bk) e1 tr hf Vn ⟨bm,ob,b1,b2,SX,SV,NG,b4,b5,b6⟩ λc' Kj h' tk hx N7 ka MU z_=>?_;obtain⟨I1,s1⟩:=I.grow (t':=tk) JV hx N7 ka MU z_;have hc:H c'=M:=I.hok.fresh N7;have QF:P≠c':=λz=>by rw[z,hc]at JV;trivial
  exact h _ c' _ Kj _ tk _ _ (fin I1 (λv z=>by trivial) rfl) s1 (by rw[ai QF,ah]) (by rw[Zj];exact codeAmong_snoc _ tr hf)
 |some cv=>
  obtain⟨c',oc,vs,t,rfl,o1,o2,o3,o4⟩:=rc pos cv hf;refine W.kla_makeFunctionHit (mg:=X.mg) JX I.ok.glob hg Jg (hC.keeps I.bk) e1 tr hf ⟨bm,ob,b1,b2,SX,SV,NG,b4,b5,b6⟩ λKj h' tk hk hsz=>?_;exact h _ c' _ Kj _ tk _ _ (fin (I.kept (h':=h') (t':=tk) hk) (λv z=>by trivial) rfl) (aaa.refl H) JV hf
end
def Bf{CX:CXT}{P:Y5}{w:YV}{K:Z6}{mg:Str->Z9 Z3}{base:Heap}{k:Nat}{f c':ZM}{name qual:Str}{params:Arguments}{body:Expr}{scope:Scope}{pm Kj:Z3}{N ps:Z_ Str}{A:Y9}{outer:Z_ Env}{s:ZT}{H:Hp}
  {args:Args}{us:Z_ Z3}{vs:Z_ V}{Q:VK}{E:XK}(hr:aaq (k+1) A) (e0:abr P w K mg base A outer s H) (hf:s.heap.get? f=U (W.kla_obj name qual params body scope [] pm c' Kj)) (hc:s.heap.CodeRec (.ref c') qual) (S:aaw N ps scope)
  (hb:BindsTo s (W.kla_fn name qual params body scope [] pm (.ref c') Kj) args (ps.zip us)) (r:aac vs us) (hl:vs.length=ps.length)
  (Jb:aaq k (A.deeper (envOfC qual scope s.z f (.ref c')))->∃t,PE (pF CX P w K mg base N qual scope f (.ref c') A outer s H E) body t/\t (cr N vs) H Q):
  codeAny (model P w) A (.call (.ref f) args) (CR CX outer P w H s Q E) s:=by
 have lim:s.heap.NoLimit:=e0.mod.nolimit.keeps λb o e=>(e0.bs b o e).1;have LD:∀y∈ps.zip us,scope.names.lookup y.1=U .local\/(scope.names.lookup y.1=U .cell/\((cellsFrom (s.z+1) scope.names []).lookup y.1).isSome=L):=λ⟨n,v⟩ hy=>by
  rcases S.par n (WI hy).1 with q|q;exact .inl q;exact .inr ⟨q,WO _ _ _ (.inl q)⟩
 refine W.kla_callFunE hr.depth hf rfl S.co S.gen rfl hc (hb _ _ _ _ ?_);refine wpAny_newFunctionEnv_cells S.kind LD λenv he s1 x=>?_;subst he;refine⟨lim.keeps x.toInCall.keep,W.kla_codeExpr ?_⟩;obtain⟨t,ht,hq⟩:=Jb (hr.deeper _);have I:Inv (pF CX P w K mg base N qual scope f (.ref c') A outer s H E) [] (cr N vs) H s1:=j5 S hr.hd e0 hl r x;exact YN (ht [] s1 (cr N vs) H _ I hq) (λu s' hz=>by obtain⟨v,H',J,rv,q⟩:=hz;exact⟨v,H',J.os,J.bare,J.base,J.hok,rv,q⟩) λe s' hs=>hs
section
def xI{k:Nat}{f c' P:ZM}{lq:Str}{PN:Array Z3}{params:Arguments}{body:Expr}{scope:Scope}{pos:Pos}{pm Kj:Z3}{N ps:Z_ Str}{us:Z_ Z3}{vs:Z_ V}{Q:VK}{A:Y9}{E:Z3->ZT->Prop}
  (I:Inv X a_ q H s) (hA:aaq (k+1) A) (hE:abr X.prog X.w X.K X.mg X.base X.A X.stack s H->abr X.prog X.w X.K X.mg X.base A X.stack s H) (hf:(f,W.kla_obj "<lambda>" lq params body scope [] pm c' Kj)∈a_) (hP:H P=U (.tbl lq PN)) (QE:codeAmong pos PN.toList=U (.ref c')) (S:aaw N ps scope)
  (hb:BindsTo s (W.kla_fn "<lambda>" lq params body scope [] pm (.ref c') Kj) ⟨us,[]⟩ (ps.zip us)) (r:aac vs us) (hl:vs.length=ps.length)
  (Jb:aaq k (A.deeper (envOfC lq scope s.z f (.ref c')))->∃t,PE (pF CX0 X.prog X.w X.K X.mg X.base N lq scope f (.ref c') A X.stack s H (λ_ _ _=>False)) body t/\t (cr N vs) H Q):
  wpAny (model X.prog X.w) A (call (.ref f) us) (EP X a_ q Q) E s:=by
 obtain⟨e1,tr,rc⟩:=I.hok P _ hP;obtain⟨c2,oc,TZ,t2,z1,z2,z3,z4,z5⟩:=rc pos _ QE;cases z1;refine wpAny_call (WY (Bf (CX:=CX0) hA (hE I.acL) (I.pin _ (ZE _ hf)).1 ⟨c',oc,TZ,t2,rfl,z3,z4,z5⟩ S hb r hl Jb) λr s' hq=>?_);cases r with
 |error e=>exact False.elim hq
 |ok fl=>
  cases fl with
  |ret u=>exact I.after hq
  |next=>exact False.elim hq
  |brk=>exact False.elim hq
  |cont=>exact False.elim hq
end
section
def Inv.ab1(I:Inv X a_ O H s)(f:fI X a_ H a)(hs:X.n_.z<=a)(new:aak X.prog X.w (upd H a o) s.heap a o):Inv X a_ O (upd H a o) s:=by
 have hn:=f.1;refine⟨I.ok,I.os,I.bare,⟨I.base.keep,I.base.slot,λb ob e n hx=>?_,I.base.there,λb xs e=>?_,λb ob u e=>?_,λb lq ps e=>?_⟩,I.loc,I.cell,?_,λx c e=>?_,λp hp=>?_,λb u q=>?_,I.len⟩;rw[ai (Zs (Zz (ZV e) hs))];exact I.base.free b ob e n hx;have z:=I.base.aaW b xs e;rw[ai (ay z hn)];exact z;have z:=I.base.aaS b ob u e;rw[ai (ay z hn)];exact z;obtain⟨m,z⟩:=I.base.aa1 b lq ps e;exact⟨m,by rw[ai (ay z hn)];exact z⟩;rw[ai (ZC f.2.1)];exact I.free;rw[ai (f.2.2.2.2.1 x c e)];exact I.aaQ x c e;obtain⟨p1,p2,p3⟩:=I.pin p hp;exact⟨p1,by rw[ai (f.2.2.2.2.2 p hp)];exact p2,p3⟩;by_cases hb:b=a;subst hb;rw[ah]at q;obtain rfl:=Z7 q;exact new;rw[ai hb]at q;exact(I.hok b u q).abk (λ_ _ _ r=>r) (λd r=>by rw[ai (ay r hn)];exact r) λd xs r=>by rw[ai (ay r hn)];exact r
def AT(kA vs:Array Z3)(h:kA.size=vs.size):(kA.zip vs).map (·.2)=vs:=by
 apply Array.ext;simp[h];intro i h1 h2;simp
noncomputable def gH(h:Heap)(vs:Z_ Z3):Heap:=Heap.push (Heap.update (h.push (seqObj "list" #[] 0)) h.objs.size (Obj.mapSeq (· ++vs.toArray))) (seqObj "list" vs.toArray 0)
def t4(h:Heap)(vs:Z_ Z3):(Heap.update (h.push (seqObj "list" #[] 0)) h.objs.size (Obj.mapSeq (· ++vs.toArray))).objs.size=h.objs.size+1/\(gH h vs).objs.size=h.objs.size+2/\
  (gH h vs).get? (h.objs.size+1)=U (seqObj "list" vs.toArray 0)/\∀b o,h.get? b=U o->(gH h vs).get? b=U o:=by
 have e:(Heap.update (h.push (seqObj "list" #[] 0)) h.objs.size (Obj.mapSeq (· ++vs.toArray))).objs.size=h.objs.size+1:=by
  rw[Xw,size_push']
 refine⟨e,by unfold gH;rw[size_push',e],?_,λb o q=>?_⟩;unfold gH;rw[<-e];exact ZN _ rfl;exact Z5 _ ((Heap.get?_update_ne _ _ _ _ (Zs (ZV q))).trans (Z5 _ q))
end
end L2
namespace L2
open PySem PySem.Spec PyProof.Rows PySem.W
def BG{q:Type}(lt:Nat->Nat->Bool):KasT q->q
 |.ret a=>a
 |.ask i j k=>BG lt (k (lt i j))
def Bl(n:Nat):KasT (Array Nat)->Bool
 |.ret a=>a.toList.isPerm (List.range n)
 |.ask i j k=>decide (i<n)&&decide (j<n)&&(Bl n (k L)&&Bl n (k Y))
theorem gG(lt:Nat->Nat->Bool):∀t:KasT (Array Nat),Bl n t=L->(BG lt t).toList.Perm (List.range n)
 |.ret a,h=>List.isPerm_iff.mp h
 |.ask i j k,h=>by
  simp only[Bl,ZH]at h;unfold BG;cases lt i j with
  |true=>exact gG lt _ h.2.1
  |false=>exact gG lt _ h.2.2
theorem yn(hc:∀i j C,i<n->j<n->C (lt i j) s->cmp i j C s):∀t:KasT (Array Nat),Bl n t=L->Q (BG lt t) s->t.kasWp cmp Q s
 |.ret a,_,h=>h
 |.ask i j k,h,h'=>by
  simp only[Bl,ZH,Zi]at h;refine hc i j _ h.1.1 h.1.2 (yn hc (k (lt i j)) ?_ h');cases lt i j with
  |true=>exact h.2.1
  |false=>exact h.2.2
def oh:∀{n:Nat},n<5->Bl n (kas_sort n)=L
 |0,_=>by kernel_rfl
 |1,_=>by kernel_rfl
 |2,_=>by kernel_rfl
 |3,_=>by kernel_rfl
 |4,_=>by kernel_rfl
 |n+5,h=>absurd h (by lia)
variable[Lams]
def ltK(ks:Z_ Int)(i j:Nat):Bool:=decide (ks.getD i 0<ks.getD j 0)
def jM(ks:Z_ Int):Z_ Nat:=if ks.length<2 then List.range ks.length else(BG (ltK ks) (kas_sort ks.length)).toList
def gh(h:ks.length<5):(jM ks).Perm (List.range ks.length):=by
 unfold jM;split;exact YQ _;exact gG _ _ (oh h)
def bt(vs:Z_ Z3)(p:Z_ Nat):Z_ Z3:=p.map λi=>vs.getD i Value.none
section
theorem cm(m:Z_ Z3):∀(l:Z_ Z3),codeAmong pos l=U c->codeAmong pos (l++m)=U c
 |.int line t::.int col u::x::aq,h=>by
  simp only[List.cons_append,codeAmong]at h⊢;split at h;rename_i q;rw[ZR q];exact h;rename_i q;rw[ZK q];exact cm m aq h
 |[],h=>by simp[codeAmong]at h
 |[_],h=>by simp[codeAmong]at h
 |[_,_],h=>by simp[codeAmong]at h
 |a::b::x::aq,h=>by
  unfold codeAmong at h;split at h;rename_i q;cases q;show codeAmong pos (_::_::_::(aq++m))=_;unfold codeAmong;split at h;rename_i q;rw[ZR q];exact h;rename_i q;rw[ZK q];exact cm m aq h;trivial
theorem cP:∀{us:Z_ Z3}{ks:Z_ Int}{i:Nat},IntsAre us ks->i<us.length->∃t,us.getD i Value.none=.int (ks.getD i 0) t
 |_,_,i,.nil,h=>by simp at h
 |_,_,0,.cons n t h,_=>⟨t,rfl⟩
 |_,_,i+1,.cons n t h,hi=>by simpa using cP (i:=i) h (by simpa using hi)
def uZ{A:Y9}{E:Z3->ZT->Prop}{kS D:ZM}{kA:Array Z3}{e e1:Nat}{vs:Z_ Z3}{ks:Z_ Int}{P:PySem.Fin->ZT->Prop}(J:Inv X ((kS,seqObj "list" kA e)::(D,seqObj "list" #[] e1)::a_) O H s)
  (fk:fI X a_ H kS) (fD:fI X a_ H D) (sk:X.n_.z<=kS) (sD:X.n_.z<=D) (Pn:kS≠D) (hk:IntsAre kA.toList ks) (hl:vs.length=ks.length) (LL:vs.length<5) {ys:Z_ V}(rv:aac ys (bt vs (jM ks)))
  (h:∀h' tk,Inv X a_ O (upd H D (.lst ys)) {s with heap:=h',toks:=tk}->P (.done (.ret .none)) {s with heap:=h',toks:=tk}):
  wpAny (model X.prog X.w) A (ksk_end D Y vs.toArray e1 (.ref kS) kA) P E s:=by
 have nk:=J.pin (kS,seqObj "list" kA e) (ZE _ (.head _));have nD:=J.pin (D,seqObj "list" #[] e1) (ZE _ (.tail _ (.head _)));have hz:(64:Nat)<=sizeLine:=by rw[X0];lia
 have Me:kA.size=vs.length:=by have:=hk.length;rw[Array.length_toList]at this;lia
 have I0:Inv X a_ O H s:=J.aaL λp hp=>J.pin p (ZE _ (.tail _ (.tail _ hp)));have s1:=Zd s.heap kS (Obj.mapSeq λ_=>(#[]:Array Z3));have Qb:(s.heap.update kS (Obj.mapSeq λ_=>(#[]:Array Z3))).get? D=U (seqObj "list" #[] e1):=(s1.2 D (ZC Pn)).trans nD.1;have Ec:(bt vs (jM ks)).length=vs.length:=by unfold bt;rw[ZJ,(gh (ks:=ks) (by lia)).length_eq,Xm];lia
 have tail:∀st:SortSt,(arrOf st).map (·.2)=(bt vs (jM ks)).toArray->failedOf st=M->wpAny (model X.prog X.w) A (ksk_tail D Y e1 (.ref kS) st) P E s:=by
  intro st es hf;unfold ksk_tail
  try dsimp only
  refine Z8 (Xb nk.1 rfl ?_ (by rw[Me];lia) (Zo _));refine Z8 (Wj ?_);refine Z8 (seqEpoch_at Qb rfl ?_);rw[es,hf];refine Z8 (Xb Qb rfl ?_ (Zo _) (by simp only[ZI,Zb];rw[ZW,Ec];lia));simp only[bne_self_eq_false,ZI,Zb];refine Z4 (h _ s.toks ?_);have I1:Inv X a_ O H {s with heap:=s.heap.update kS (Obj.mapSeq λ_=>(#[]:Array Z3)),toks:=s.toks}:=I0.turned (it:=kS) (λb o hb q=>(s1.2 b hb).trans q) fk.1 fk.2.1 (.inr sk) fk.2.2.2.2.1 fk.2.2.2.2.2;have s2:=Zd (s.heap.update kS (Obj.mapSeq λ_=>(#[]:Array Z3))) D (Obj.mapSeq λ_=>(bt vs (jM ks)).toArray);have I2:Inv X a_ O H {s with heap:=(s.heap.update kS (Obj.mapSeq λ_=>(#[]:Array Z3))).update D (Obj.mapSeq λ_=>(bt vs (jM ks)).toArray),toks:=s.toks}:=Inv.turned (s:={s with heap:=s.heap.update kS (Obj.mapSeq λ_=>(#[]:Array Z3)),toks:=s.toks}) (it:=D) I1 (λb o hb q=>(s2.2 b hb).trans q) fD.1 fD.2.1 (.inr sD) fD.2.2.2.2.1 fD.2.2.2.2.2;exact I2.ab1 fD sD ⟨by rw[rv.length,Ec];lia,_,_,rv,WJ Qb λ_=>(bt vs (jM ks)).toArray⟩
 unfold ksk_end
 try dsimp only
 simp only[ZI,Zb];by_cases h2:vs.toArray.size<2
 .rw[ZR h2,ZR h2]
  refine Z8 (Z4 ?_);rw[StateT.run_pure];refine Z8 (Z4 ?_)
  try dsimp only
  refine tail _ ?_ rfl;rw[ZW]at h2;have e0:(arrOf (SortSt.mk' general' (kA.zip vs.toArray) #[] 7 M)).map (·.2)=vs.toArray:=AT kA vs.toArray (by rw[Me,ZW]);rw[e0];unfold jM;rw[ZR (by lia),<-hl];clear tail h rv Ec e0 J
  match vs,h2 with
  |[],_=>simp[bt]
  |[v],_=>simp[bt,List.range_succ]
 rw[ZK h2,ZK h2];rw[ZW]at h2;have J6:2<=vs.length:=by lia
 have N4:keyKind' kA=pure oneType':=by
  have e0:kA=kA.toList.toArray:=by simp
  rw[e0];have lk:2<=kA.toList.length:=by rw[Array.length_toList];lia
  generalize kA.toList=us at hk lk
  match us,hk,lk with
  |v1::v2::r,hk,_=>exact keyKind_ints hk
 rw[N4];refine Z8 (Z4 ?_);have T8:=oh LL;have SF:kA.toList.length=vs.length:=by rw[Array.length_toList];exact Me
 have run:=kat_run (prog:=X.prog) (w:=X.w) (A:=A) (E:=E) (s:=s) (κ:=oneType') (vs:=vs) (ks:=kA.toList) (Q:=λg_ s'=>s'=s/\(arrOf g_).map (·.2)=(bt vs (jM ks)).toArray/\failedOf g_=M)
  (G:=λp s'=>s'=s/\p=BG (ltK ks) (kas_sort vs.length)) SF J6 (by lia) (λp g_ s' hp QI hf ⟨e1,e2⟩=>⟨e1,by
   rw[kat_snds SF QI,e2];unfold jM bt;rw[ZK (by lia),<-hl],hf⟩)
  (yn (λi j C hi hj hC=>by
   obtain⟨t1,q1⟩:=cP hk (i:=i) (by lia);obtain⟨t2,q2⟩:=cP hk (i:=j) (by lia);unfold kas_ask;rw[q1,q2,keyLt'_oneType];exact oneLt_int hC) _ T8 ⟨rfl,rfl⟩)
 have ez:kA.toList.toArray.zip vs.toArray=kA.zip vs.toArray:=by simp
 rw[ez]at run;refine Z8 (YN run ?_ λ_ _ e=>e)
 rintro⟨⟨⟩,g_⟩ s' ⟨rfl,QI,hf⟩
 exact tail g_ QI hf
def m5{A:Y9}{E:Z3->ZT->Prop}{l f:ZM}{vs:Z_ Z3}{xs ys:Z_ V}{ks:Z_ Int}{Q:Z3->ZT->Prop}{T:Hp->Prop}(I:Inv X a_ O H s)(hl:s.heap.IsList l vs.toArray)(rv:aac xs vs)(LL:vs.length<5)(Me:vs.length=ks.length)(t0:T H)
  (turn:∀(Ja:Z_ (ZM×Obj))(s':ZT)(H':Hp)(i:Nat)(u:Z3)(v:V)(k:Int),vs[i]?=U u->xs[i]?=U v->ks[i]?=U k->(∀p∈a_,p∈Ja)->T H'->Inv X Ja O H' s'->wpAny (model X.prog X.w) A.in1.in1 (call (.ref f) [u]) (EP X Ja O λy KA=>y=V.int k/\T KA) (λ_ _=>False) s')
  (Qj:aac ys (bt vs (jM ks)))
  (h:∀D H' s',Inv X a_ O (upd H' D (.lst ys)) s'->T H'->H' D=M->Q (.ref D) s'):
  wpAny (model X.prog X.w) A (call (.builtin "sorted") [.ref l] [(Str.ofString "key",.ref f)]) Q E s:=by
 have hz:(64:Nat)<=sizeLine:=by rw[X0];lia
 refine call_function_entry_kw kind_sorted plain_sorted entry_sorted (ksk_s1 _ _) ?_;unfold Builtin.«sorted»;refine Z8 (m:=checkCount "sorted" 1 1 _) (Z4 ?_);refine Z8 (collect_list hl ?_ (by lia));refine Z8 (WD ?_ (by lia));obtain⟨n1,n2,n3,n4⟩:=t4 s.heap vs;rw[n1];show wpAny _ _ _ _ _ {s with heap:=gH s.heap vs};generalize gH s.heap vs=g at n2 n3 n4⊢;have My:=n3;have keep:=n4;have Vm:g.objs.size=s.z+2:=n2;generalize hD:s.z+1=D at My⊢;have Py:s.z<=D:=by lia
 refine Z8 (Za (wpAny_call_entry_kw slot_list_sort ⟨_,My,rfl⟩ entry_list_sort ?body (ksk_l1 _ _)));show wpAny (model X.prog X.w) A.in1.in1 (Builtin.«list.sort» ⟨[.ref D],[(Str.ofString "key",.ref f)]⟩) _ _ _;rw[ksk_t1];have s1:=Zd g D (Obj.mapSeq λ_=>(#[]:Array Z3));obtain⟨e1,N0⟩:∃e1,(g.update D (Obj.mapSeq λ_=>(#[]:Array Z3))).get? D=U (seqObj "list" #[] e1):=⟨_,WJ My λ_=>#[]⟩
 unfold ksk_tree;refine Z8 (Wg My rfl ?_);refine Z8 (Xb My rfl ?_ (by rw[ZW];lia) (Zo _));refine Z8 (seqEpoch_at N0 rfl ?_);refine Z8 (Wk ?_ (by show vs.length<=_;lia));refine Z8 (WD ?_ (Zo _));refine Za ?_;have Vo:(g.update D (Obj.mapSeq λ_=>(#[]:Array Z3))).objs.size=s.z+2:=by rw[Xw,Vm]
 have Vg:((g.update D (Obj.mapSeq λ_=>(#[]:Array Z3))).push (seqObj "tuple" vs.toArray 0)).objs.size=s.z+3:=by rw[size_push',Vo]
 generalize Vf:((g.update D (Obj.mapSeq λ_=>(#[]:Array Z3))).push (seqObj "tuple" vs.toArray 0)).objs.size=kS at Vg;have gk:(((g.update D (Obj.mapSeq λ_=>(#[]:Array Z3))).push (seqObj "tuple" vs.toArray 0)).push (seqObj "list" #[] 0)).get? kS=U (seqObj "list" #[] 0):=by rw[<-Vf];exact ZN _ rfl
 have gD:(((g.update D (Obj.mapSeq λ_=>(#[]:Array Z3))).push (seqObj "tuple" vs.toArray 0)).push (seqObj "list" #[] 0)).get? D=U (seqObj "list" #[] e1):=Z5 _ (Z5 _ N0);have Ko:∀b o,s.heap.get? b=U o->(((g.update D (Obj.mapSeq λ_=>(#[]:Array Z3))).push (seqObj "tuple" vs.toArray 0)).push (seqObj "list" #[] 0)).get? b=U o:=λb o q=>
  Z5 _ (Z5 _ ((s1.2 b (Zs (Zz (ZV q) Py))).trans (keep b o q)))
 generalize hg2:((g.update D (Obj.mapSeq λ_=>(#[]:Array Z3))).push (seqObj "tuple" vs.toArray 0)).push (seqObj "list" #[] 0)=g2 at gk gD Ko;have fk:fI X a_ H kS:=I.abl (by lia) (I.hok.fresh (by lia));have fD:fI X a_ H D:=I.abl Py (I.hok.fresh Py);have sk:X.n_.z<=kS:=ZF I.sz (by lia);have sD:X.n_.z<=D:=ZF I.sz Py;have Pn:kS≠D:=by lia
 have I1:Inv X a_ O H {s with heap:=g2,toks:=s.toks}:=I.kept (h':=g2) Ko;have I2:Inv X ((kS,seqObj "list" #[] 0)::(D,seqObj "list" #[] e1)::a_) O H {s with heap:=g2,toks:=s.toks}:=I1.aaL λp hp=>by
  rcases Z0.mp hp with rfl|hp;exact⟨gk,fk.1,fk.2.1,fk.2.2.1,λv z=>by cases z⟩;rcases Z0.mp hp with rfl|hp;exact⟨gD,fD.1,fD.2.1,fD.2.2.1,λv z=>by cases z⟩;exact I1.pin p (ZE _ hp)
 show wpAny (model X.prog X.w) A.in1.in1 (ksk_rest D (.ref f) Y vs.toArray e1 _) _ _ {s with heap:=_,toks:=s.toks};unfold ksk_rest;refine Z8 (YT ?_);rw[List.forIn_toArray];have hP:∀h' tk H',Inv X a_ O (upd H' D (.lst ys)) {s with heap:=h',toks:=tk}->True:=λ_ _ _ _=>trivial;refine Z8 (Xa _
  (λaq _ s'=>∃(i:Nat)(kA:Array Z3)(c:Nat)(H':Hp),aq=vs.drop i/\i<=vs.length/\IntsAre kA.toList (ks.take i)/\T H'/\fI X a_ H' kS/\fI X a_ H' D/\Inv X ((kS,seqObj "list" kA c)::(D,seqObj "list" #[] e1)::a_) O H' s') _ ?step ?fin _ _ ⟨0,#[],0,H,by simp,Zo _,by simpa using IntsAre.nil,t0,fk,fD,I2⟩)
 case step=>
  rintro u aq b s' ⟨i,kA,c,H',hr,hi,N5,tH,Tf,QO,J⟩
  have ka:i<vs.length:=by
   rcases Nat.lt_or_ge i vs.length with q|q;exact q;rw[WL q]at hr;trivial
  rw[Zx ka]at hr;obtain⟨rfl,rfl⟩:=List.cons.inj hr;have hu:vs[i]?=U vs[i]:=by simp[ka]
  obtain⟨v,hv⟩:∃v,xs[i]?=U v:=⟨xs[i]'(by rw[rv.length];exact ka),by simp[rv.length,ka]⟩
  have SE:i<ks.length:=by lia
  refine Z8 (XT (YN (turn _ s' H' i vs[i] v ks[i] hu hv (by simp[SE]) (λp hp=>.tail _ (.tail _ hp)) tH J) (λy Kq he=>?_) λ_ _ hF=>hF.elim));obtain⟨yv,KA,J',ry,rfl,T6⟩:=he;obtain⟨t,rfl⟩:=ry;have nk:=J'.pin (kS,seqObj "list" kA c) (ZE _ (.head _));have nD:=J'.pin (D,seqObj "list" #[] e1) (ZE _ (.tail _ (.head _)));have JN:fI X a_ KA kS:=⟨nk.2.1,fk.2⟩;have L6:fI X a_ KA D:=⟨nD.2.1,fD.2⟩;have J0:Inv X a_ O KA Kq:=J'.aaL λp hp=>J'.pin p (ZE _ (.tail _ (.tail _ hp)));have s3:=Zd Kq.heap kS (Obj.mapSeq (·.push (.int ks[i] t)));obtain⟨c2,JY⟩:∃c2,(Kq.heap.update kS (Obj.mapSeq (·.push (.int ks[i] t)))).get? kS=U (seqObj "list" (kA.push (.int ks[i] t)) c2):=⟨_,WJ nk.1 (·.push (.int ks[i] t))⟩
  have J1:Inv X a_ O KA {Kq with heap:=Kq.heap.update kS (Obj.mapSeq (·.push (.int ks[i] t))),toks:=Kq.toks}:=J0.turned (it:=kS) (λb o hb q=>(s3.2 b hb).trans q) JN.1 JN.2.1 (.inr sk) JN.2.2.2.2.1 JN.2.2.2.2.2;have J2:Inv X ((kS,seqObj "list" (kA.push (.int ks[i] t)) c2)::(D,seqObj "list" #[] e1)::a_) O KA {Kq with heap:=Kq.heap.update kS (Obj.mapSeq (·.push (.int ks[i] t))),toks:=Kq.toks}:=J1.aaL λp hp=>by
   rcases Z0.mp hp with rfl|hp;exact⟨JY,JN.1,JN.2.1,JN.2.2.1,λv z=>by cases z⟩;rcases Z0.mp hp with rfl|hp;exact⟨(s3.2 D (ZC Pn)).trans nD.1,L6.1,L6.2.1,L6.2.2.1,λv z=>by cases z⟩;exact J1.pin p (ZE _ hp)
  have hsz:kA.size=i:=by have:=N5.length;rw[Array.length_toList,XC]at this;lia
  refine Z8 (Xb nk.1 rfl ?_ (by rw[hsz];lia) (by show(kA.push _).size<=_;rw[Array.size_push,hsz];lia));refine Z4 ⟨i+1,kA.push (.int ks[i] t),c2,KA,rfl,ka,?_,T6,JN,L6,J2⟩;rw[YB,List.take_succ_eq_append_getElem SE];exact N5.append (.cons _ _ .nil)
 case fin=>
  rintro b s' ⟨i,kA,c,H',hr,hi,N5,tH,Tf,QO,J⟩
  have Jv:i=vs.length:=by
   rcases Nat.lt_or_ge i vs.length with q|q;rw[Zx q]at hr;trivial;lia
  subst Jv;have nk:=J.pin (kS,seqObj "list" kA c) (ZE _ (.head _));refine Z8 (Wg nk.1 rfl ?_);rw[Me,List.take_length]at N5;exact uZ J Tf QO sk sD Pn N5 Me LL Qj λh' tk J3=>⟨_,rfl,Z4 ⟨_,rfl,h D H' _ J3 tH QO.1⟩⟩
end
noncomputable def ii(fk:D->Z9 D):Z_ D->Z9 (Z_ Int)
 |[]=>U []
 |d::ds=>match fk d,ii fk ds with|some (.int i),some l=>U (i::l)|_,_=>M
set_option tactic.hygienic true in
theorem l8:∀{ds:Z_ D}{ks:Z_ Int},ii fk ds=U ks->ds.length=ks.length
 |[],ks,h=>by simp only[ii,ZL]at h;subst h;rfl
 |d::ds,ks,h=>by
  simp only[ii]at h;split at h;rename_i i l q1 q2;obtain rfl:=Z7 h;simp[l8 q2];trivial
set_option tactic.hygienic true in
theorem lO:∀{ds:Z_ D}{ks:Z_ Int}{i:Nat}{d:D}{k:Int},ii fk ds=U ks->ds[i]?=U d->ks[i]?=U k->fk d=U (.int k)
 |[],ks,i,d,k,h,hd,hk=>by simp at hd
 |d'::ds,ks,i,d,k,h,hd,hk=>by
  simp only[ii]at h;split at h;rename_i i' l q1 q2;obtain rfl:=Z7 h;cases i with
  |zero=>simp at hd hk;subst hd;subst hk;exact q1
  |succ i=>simp at hd hk;exact lO q2 hd hk
  trivial
def pU(ds:Z_ D)(ks:Z_ Int):Z_ D:=(jM ks).map λi=>ds.getD i .non
noncomputable def iP(x:Z9 D)(fk:D->Z9 D):Z9 D:=match x with
 |some (.lst ds)=>if ds.length<5 then(match ii fk ds with|some ks=>U (.lst (pU ds ks))|none=>M) else M
 |_=>M
set_option tactic.hygienic true in
def mF(h:iP x fk=U d):∃ds ks,x=U (.lst ds)/\ds.length<5/\ii fk ds=U ks/\d=.lst (pU ds ks):=by
 unfold iP at h;split at h;rename_i ds;split at h;rename_i hl;split at h;rename_i ks q;obtain rfl:=Z7 h;exact⟨ds,ks,rfl,hl,q,rfl⟩;trivial;trivial;trivial
theorem M1.order{K:Z6}{B:ZM->Prop}{H:Hp}{ds:Z_ D}{xs:Z_ V}(r:M1 K B H ds xs):∀(p:Z_ Nat),(∀i∈p,i<ds.length)->M1 K B H (p.map λi=>ds.getD i .non) (p.map λi=>xs.getD i .non)
 |[],_=>M1.nil
 |i::p,h=>by
  have hi:=h i (ZZ ..);have hd:ds[i]?=U ds[i]:=by simp[hi]
  obtain⟨x,hx,rx⟩:=r.get hd;refine M1.cons ?_ (M1.order r p λj hj=>h j (Z1 _ hj));dsimp only;rw[YG,YG,hd,hx];exact rx
theorem aac.order(r:aac xs us):∀(p:Z_ Nat),(∀i∈p,i<xs.length)->aac (p.map λi=>xs.getD i .non) (bt us p)
 |[],_=>.nil
 |i::p,h=>by
  have hi:=h i (ZZ ..);have hx:xs[i]?=U xs[i]:=by simp[hi]
  obtain⟨u,hu,ru⟩:=r.get hx;refine .cons ?_ (aac.order r p λj hj=>h j (Z1 _ hj));dsimp only;rw[YG,YG,hx,hu];exact ru
section
variable{X:Cx}{a Kn:Expr}{fa fb:Mk->Z9 D}{params:Arguments}{IF:Scope}{Oz kp pos p:Pos}{c P:ZM}{lq x:Str}{k:Nat}
theorem nW(hr:aaq (k+3) X.A)(g:Gl X "sorted")(hm:X.mg "sorted"=M)(hP:(P,lq)∈Lams.tb)(hq:X.env.qual++"<lambda>"=lq)(hC:W.CodeHd X.base c P)(Jg:X.env.code=.ref c)(JX:closureFor IF X.env=pure [])(MX:defaultsOf params X.env=([],[]))
  (S:aaw [x] [x] IF) (LG:∀(s:ZT)(u pm Kj:Z3)(c':ZM),BindsTo s (W.kla_fn "<lambda>" lq params Kn IF [] pm (.ref c') Kj) ⟨[u],[]⟩ [(x,u)])
  (hb:∀(f c':ZM)(A:Y9)(s:ZT)(H:Hp),aaq k (A.deeper (envOfC lq IF s.z f (.ref c')))->DE (pF CX0 X.prog X.w X.K X.mg X.base [x] lq IF f (.ref c') A X.stack s H (λ_ _ _=>False)).nox Y Kn fb)
  (ha:DE X Y a fa)(hs:starEach [a] X.env=(Y,eval a X.env)::starEach [] X.env:=by rfl):
  DF X (.Call (.Name "sorted" p) [a] [⟨U "key",.Lambda params Kn IF Oz,kp⟩] pos) (λq=>iP (fa q) λd=>fb [U (d,Y)]):=by
 intro a_ s O H Q I UW;obtain⟨B,Hk,q,d,R,e,kk⟩:=UW;obtain⟨ds,ks,Pq,hlen,s_,rfl⟩:=mF e;refine XI (dT I g hm gJ ?_ (by decide) (by decide));refine callWith_kw (thn ((aw ha aK hs) pos a_ s O H (λvs H1=>∃v,vs=[v]/\aaa H H1/\Rep X.K B H1 (.lst ds) v) I ⟨B,Hk,q,_,R,Pq,λv H1 s1 r1=>⟨v,rfl,s1,r1⟩⟩) λus s1 ⟨vs,H1,I1,r1,v,hv,sm,rp⟩=>?_) ?_ ?_ rfl rfl;subst hv;obtain⟨u,rfl,ru⟩:=hZ r1;show wpAny _ _ (evalAll [do let v <-eval (.Lambda params Kn IF Oz) X.env;standAt pos;pure v]) _ _ _;unfold evalAll;refine Z8 (Z8 (xa I1 hP hq hC Jg JX MX λf c' pm Kj h' tk H2 PN I2 L_ VP QE=>Z8 (wpAny_standAt (Z4 ?_))));unfold evalAll;refine Z8 (Za (Z4 (Z4 ?_)));have R1:Rel X.K B Hk q O H1:=R.to sm;have Nn:Rep X.K B H2 (.lst ds) v:=rp.ext (L_.ext R1.abm);simp only[Rep]at Nn;obtain⟨l,xs,rfl,Ny,rs⟩:=Nn;cases ru;obtain⟨its,hv,hp,hz⟩:=I2.list Ny.sq;have l1:=rs.length;have l2:=hv.length;have l3:=l8 s_;have hpl:∀i∈jM ks,i<ds.length:=λi hi=>by
  have:=(gh (ks:=ks) (by lia)).mem_iff.mp hi;rw[Ym]at this;lia
 show wpAny (model X.prog X.w) X.A (call (.builtin "sorted") [.ref l] [(Str.ofString "key",.ref f)]) _ _ _;have R2:Rel X.K B Hk q O H2:=R1.to L_;refine m5 (ks:=ks) (T:=λH'=>aaa H2 H') I2 (let ⟨o,n,ho,hc,_,hd⟩:=hp;⟨o,ho,hc,n,hd⟩) hv (by lia) (by lia) (aaa.refl H2) (λJa s' H' i u' v' k' e1 e2 e3 sub tH I'=>?_) (hv.order (jM ks) λi hi=>by have:=hpl i hi;lia) λD H' s' J tH hD=>?_;have hi:i<ds.length:=by have:=(ZX.mp e2).1;lia
 have hd:ds[i]?=U ds[i]:=by simp[hi]
 obtain⟨y,hy,ry⟩:=rs.get hd;rw[e2]at hy;obtain rfl:=Z7 hy;obtain⟨w',hw,F_⟩:=hv.get e2;rw[e1]at hw;obtain rfl:=Z7 hw;have o_:=lO s_ hd e3;have bo:∀a,B a->∃o:HOn,H' a=U o.1:=(R2.to tH).abm;obtain⟨more,VO⟩:=tH.tbl _ _ _ VP;refine xI I' hr.in1.in1 (λe=>e.in1.in1) (sub _ (.head _)) VO (by rw[Zj];exact cm _ _ QE) S (LG _ _ _ _ _) (.cons F_ .nil) rfl λhR=>⟨_,(hb f c' _ _ _ hR).nox,B,H',[U (ds[i],Y)],.int k',hJ (N:=[x]) (ds:=[ds[i]]) bo (M1.cons (ry.ext (R2.ext tH)) M1.nil) (ZP _),o_,λv KA s r=>⟨?_,tH.trans s⟩⟩
 simp only[Rep]at r;exact r;have tD:H D=M:=(sm.trans (L_.trans tH)).free hD;refine⟨.ref D,_,J.aaL λp hp=>J.pin p (ZE _ (.tail _ hp)),rfl,kk D _ ((sm.trans (L_.trans tH)).trans (ax hD)) tD ⟨_,ah,(rs.order (jM ks) hpl).ext ((R2.ext tH).trans ((R2.to tH).ext (ax hD)))⟩⟩;rw[hs];rfl;rw[hs];rfl
end
section
open PySem.SeqAt
open PySem.AutoSeq1 (wpAny_loadPart')
open PySem.MeetsSeq PySem.MeetsSeq2 PySem.MeetsSeq3
def uK(l b:ZM)(v w:Z3)(vs ws:Z_ Z3)(n n2:Nat)(dd Jr:Z9 ZM)(sl Jp:Array (Z9 Z3)):
  Meets (Builtin.«tuple.__eq__» ⟨[.ref l,.ref b],[]⟩)
   (λA R s=>s.heap.get? l=U {cls:=.type "tuple",dict:=dd,data:=.seq (v::vs).toArray n,slots:=sl}/\s.heap.get? b=U {cls:=.type "tuple",dict:=Jr,data:=.seq (w::ws).toArray n2,slots:=Jp}/\
    EqAt A.in1 s v w Y/\R (.ok (.ret (.bool Y))) s):=
 .of_wp λprog w' A R s h=>by
  obtain⟨hp,g,d,tk,os⟩:=s;obtain⟨hl,hb,he,h⟩:=h;have f2:=Wy
  wp_walk using wpAny_loadPart' hl,wpAny_loadPart' hb,Xa _ (λaq b s'=>b.1=M/\s'=⟨hp,g,d,tk,os⟩/\aq=(v::vs).zip (w::ws)) _
  case turn=>
   rintro⟨y,x⟩ aq b s' ⟨IU,rfl,hz⟩
   rw[List.zip_cons_cons]at hz;injection hz with NT E_;injection NT with hy Kr;subst hy Kr;refine Z8 (he prog w' _ _ ?_)
   wp_walk
   exact⟨_,rfl,by simpa using h⟩
  case fin=>
   rintro⟨b1,b2⟩ s' ⟨IU,rfl,hz⟩
   rw[List.zip_cons_cons]at hz;trivial
  case h=>exact⟨rfl,rfl,rfl⟩
end
def EqAt.acw(D_:l≠b)(hl:s.heap.IsTuple l (v::vs).toArray)(hb:s.heap.IsTuple b (w::ws).toArray)(hu:A.units<cLine)(he:SeqAt.EqAt A.in1 s v w Y):SeqAt.EqAt A s (.ref l) (.ref b) Y:=by
 refine SeqAt.EqAt.of_refs D_ λprog w' E Q h=>?_;obtain⟨⟨cls,dd,data,sl⟩,ho,hc,n,hd⟩:=id hl;obtain⟨⟨L8,Jr,data2,Jp⟩,JE,JY,n2,hd2⟩:=id hb;simp only at hc hd JY hd2;subst hc hd JY hd2;exact Wt (op:=.Eq) ⟨_,ho,rfl⟩ ⟨_,JE,rfl⟩ F.slot_tuple_eq F.entry_tuple_eq (F.args_tuple_eq_2 _ _) (uK l b v w vs ws n n2 dd Jr sl Jp)
  ⟨ho,JE,he,show Value.bool Y≠Value.notImplemented/\Q (.bool Y) s from⟨(λx=>nomatch x),h⟩⟩ hu
section
variable{A:Y9}
def nC(hj:j<items.size)(hz:items.size<=sizeLine)(hl:s.heap.get? l=U (seqObj "list" items n))(hit:SeqAt.EqAt A.in1 s items[j] x L)(h:R (.ok (.ret .none)) {s with heap:=s.heap.update l (Obj.mapSeq λxs=>xs.eraseIdxIfInBounds j)}):∀(k i:Nat),j - i=k->i<=j->(∀m (hm:m<items.size),i<=m->m<j->SeqAt.EqAt A.in1 s items[m] x Y)->
  codeAny (model prog w) A (.builtin "list.remove.loop" ⟨[.ref l,x,rawInt i],[]⟩) R s:=by
 intro k
 induction k with
 |zero=>
  intro i hk hi K4;have e:i=j:=by lia
  subst e;refine YU PySem.MeetsSeq.entry_remove_loop ?_;rw[Y8 X8 _];show wpAny _ A.in1 (Builtin.List.listItems (.ref l) >>= _) _ _ s;refine Z8 (Wg hl rfl ?_);simp only[Int.toNat_natCast];rw[YR hj];refine Z8 (hit prog w _ _ ?_);simp only[Y1];refine Z8 (Xb hl rfl (Z4 h) hz (by show(items.eraseIdxIfInBounds i).size<=_;exact ZF (by unfold Array.eraseIdxIfInBounds;split<;>simp[Array.size_eraseIdx]) (Nat.le_succ_of_le hz)))
 |succ k ih=>
  intro i hk hi K4;refine YU PySem.MeetsSeq.entry_remove_loop ?_;rw[Y8 X8 _];show wpAny _ A.in1 (Builtin.List.listItems (.ref l) >>= _) _ _ s;refine Z8 (Wg hl rfl ?_);simp only[Int.toNat_natCast];have o_:i<items.size:=by lia
  rw[YR o_];refine Z8 (K4 i o_ (ZP _) (by lia) prog w _ _ ?_);simp only[ZI,Zb];exact Z4 ⟨Yy X8 _,ih (i+1) (by lia) (by lia) λm hm h1 h2=>K4 m hm (by lia) h2⟩
def mZ(hj:j<items.size)(hz:items.size<=sizeLine)(hl:s.heap.get? l=U (seqObj "list" items n))(hit:SeqAt.EqAt A.in1 s items[j] x L)(K4:∀m (hm:m<items.size),m<j->SeqAt.EqAt A.in1 s items[m] x Y)(h:Q .none {s with heap:=s.heap.update l (Obj.mapSeq λxs=>xs.eraseIdxIfInBounds j)}):wpAny (model prog w) A (call (.builtin "list.remove") [.ref l,x]) Q E s:=by
 refine Ws (S:=λA' R s'=>s'=s/\A'=A/\R (.ok (.ret .none)) {s with heap:=s.heap.update l (Obj.mapSeq λxs=>xs.eraseIdxIfInBounds j)}) F.slot_list_remove (show s.TypeIs (.ref l) "list" from⟨_,hl,rfl⟩) F.entry_list_remove (F.args_list_remove_2 _ _) ?_ ⟨rfl,rfl,h⟩
 rintro prog w A' R s' ⟨rfl,rfl,hR⟩
 show wpAny _ _ (pure _) _ _ _;exact Z4 ⟨Yy X8 _,nC hj hz hl hit hR _ 0 rfl (Zo _) λm hm _ h2=>K4 m hm h2⟩
end
noncomputable def cJ(f:D->Z9 Bool):Z_ D->Z9 (Z_ Bool)
 |[]=>U []
 |d::ds=>match f d,cJ f ds with|some b,some bl=>U (b::bl)|_,_=>M
set_option tactic.hygienic true in
theorem iD:∀{ds:Z_ D}{bl:Z_ Bool},cJ f ds=U bl->bl.length=ds.length
 |[],bl,h=>by simp only[cJ,ZL]at h;subst h;rfl
 |d::ds,bl,h=>by
  simp only[cJ]at h;split at h;rename_i b l q1 q2;obtain rfl:=Z7 h;simp[iD q2];trivial
set_option tactic.hygienic true in
theorem iM:∀{ds:Z_ D}{bl:Z_ Bool}{i:Nat}{d:D}{b:Bool},cJ f ds=U bl->ds[i]?=U d->bl[i]?=U b->f d=U b
 |[],bl,i,d,b,h,hd,hb=>by simp at hd
 |d'::ds,bl,i,d,b,h,hd,hb=>by
  simp only[cJ]at h;split at h;rename_i b' l q1 q2;obtain rfl:=Z7 h;cases i with
  |zero=>simp at hd hb;subst hd;subst hb;exact q1
  |succ i=>simp at hd hb;exact iM q2 hd hb
  trivial
def aH(bl:Z_ Bool):Nat:=if L∈bl then bl.idxOf L else 0
def eU(d e:D):Bool:=match d,e with|.tup (a::_),.tup (b::_)=>okD 15 a&&okD 15 b&&decide (a≠b)|_,_=>Y
def uC:D->Bool
 |.tup _=>L
 |_=>Y
noncomputable def vC(r iL iT j:Nat)(bs:Z_ Bool)(ft:Mk->Z9 Bool)(q:Mk)(gr:Mk->Z9 Out):Z9 Out:=match q[r]? with
 |some (some (.lst ds,true))=>(match cJ (λd=>ft ((au L bs q).set j (U (d,Y)))) ds,ds[0]? with
  |some bl,some _=>if(iL<q.length/\iT<q.length/\j<q.length/\ds.length<=lim)/\(ds.all uC&&(ds.take (aH bl)).all λd=>eU d (ds.getD (aH bl) .non))=L then
    gr (((q.set iL (U (.lst (dN ds bl),L))).set iT (U (ds.getD (aH bl) .non,Y))).set r (U (.lst (ds.eraseIdx (aH bl)),L))) else M
  |_,_=>M)
 |_=>M
set_option tactic.hygienic true in
def qX(h:vC r iL iT j bs ft q gr=U o):∃ds bl,q[r]?=U (U (.lst ds,L))/\cJ (λd=>ft ((au L bs q).set j (U (d,Y)))) ds=U bl/\0<ds.length/\(iL<q.length/\iT<q.length/\j<q.length/\ds.length<=lim)/\
  ds.all uC=L/\((ds.take (aH bl)).all λd=>eU d (ds.getD (aH bl) .non))=L/\
  gr (((q.set iL (U (.lst (dN ds bl),L))).set iT (U (ds.getD (aH bl) .non,Y))).set r (U (.lst (ds.eraseIdx (aH bl)),L)))=U o:=by
 unfold vC at h;split at h;rename_i ds e;split at h;rename_i bl x eb ex;split at h;rename_i c;rw[ZH]at c;exact⟨ds,bl,e,eb,(ZX.mp ex).1,c.1,c.2.1,c.2.2,h⟩;trivial;trivial;trivial
theorem M1.erase{K:Z6}{B:ZM->Prop}{H:Hp}:∀{ds:Z_ D}{xs:Z_ V}(i:Nat),M1 K B H ds xs->M1 K B H (ds.eraseIdx i) (xs.eraseIdx i)
 |[],xs,i,r=>by simp only[M1]at r;subst r;exact M1.nil
 |d::ds,xs,0,r=>by simp only[M1]at r;obtain⟨x,q,rfl,r1,r2⟩:=r;exact r2
 |d::ds,xs,i+1,r=>by simp only[M1]at r;obtain⟨x,q,rfl,r1,r2⟩:=r;exact M1.cons r1 (M1.erase i r2)
theorem aac.erase:∀{xs:Z_ V}{us:Z_ Z3}(i:Nat),aac xs us->aac (xs.eraseIdx i) (us.eraseIdx i)
 |_,_,i,.nil=>by simpa using Paired.nil
 |_,_,0,.cons a b=>b
 |_,_,i+1,.cons a b=>.cons a (aac.erase i b)
theorem lL{q:Type}:∀{xs:Z_ q}{bl:Z_ Bool},bl.length=xs.length->(L∈bl->(dN xs bl)[0]?=xs[aH bl]?)/\(L∉bl->dN xs bl=[])
 |[],bl,h=>by cases bl with
  |nil=>exact⟨λh=>(by trivial),λ_=>rfl⟩
  |cons _ _=>simp at h
 |x::xs,bl,h=>by
  cases bl with
  |nil=>simp at h
  |cons b bl=>
   have ih:=lL (xs:=xs) (bl:=bl) (by simpa using h);cases b with
   |true=>exact⟨λ_=>by unfold dN aH;simp,λn=>absurd (ZZ ..) n⟩
   |false=>
    refine⟨λm=>?_,λn=>?_⟩;have m':L∈bl:=by simpa using m
    have:=ih.1 m';unfold dN;simp only[ZI,Zb];rw[this];unfold aH;rw[ZR m',ZR m,List.idxOf_cons];simp;unfold dN;simp only[ZI,Zb];exact ih.2 (λz=>n (Z1 _ z))
def om{q:Type}{xs:Z_ q}{x:q}(h:xs[0]?=U x):atI xs 0=U x:=by
 have hl:=(ZX.mp h).1;have:=(ZX.mp h).2;simpa[atI,ixN,hl]using this
section
variable{X:Cx}
set_option tactic.hygienic true in
def rh(hu:X.A.units+64<cLine):MtR X "list.remove" (λx vs H Q=>∃B l p ds xs j,x=.ref l/\vs=[.ref p]/\H l=U (.lst xs)/\M1 X.K B H ds xs/\xs[j]?=U (.ref p)/\ds.all uC=L/\((ds.take j).all λd=>eU d (ds.getD j .non))=L/\Q .non (upd H l (.lst (xs.eraseIdx j)))):=by
 intro a_ s O H x vs v us Q I rx rv h;obtain⟨B,l,p,ds,xs,j,rfl,rfl,hH,rs,hj,hT,Ql,q⟩:=h;cases rx;obtain⟨u,rfl,ru⟩:=rv.one;cases ru;obtain⟨z,its,n,r,hl,e⟩:=I.acg hH;have l1:=r.length;have l2:=rs.length;have hjx:j<xs.length:=(ZX.mp hj).1;have SH:j<its.length:=by lia
 have SI:j<ds.length:=by lia
 obtain⟨w,hw,F_⟩:=r.get hj;cases F_;have ej:its[j]=Value.ref p:=by have:=ZX.mp hw;exact this.2
 refine mZ (j:=j) (items:=its.toArray) (n:=n) (by simpa using SH) (by rw[ZW];lia) e ?_ (λm hm U7=>?_) ?_;rw[List.getElem_toArray,ej];exact SeqAt.EqAt.same _;rw[List.getElem_toArray];have hmi:m<its.length:=by simpa using hm
 have Sz:m<ds.length:=by lia
 have Ks:=(ZO.mp Ql) ds[m] (by
  rw[List.mem_iff_getElem?];exact⟨m,by rw[List.getElem?_take,ZR U7];simp[Sz]⟩)
 have Pp:ds.getD j .non=ds[j]:=by rw[YG];simp[SI]
 rw[Pp]at Ks;obtain⟨xm,UK,rm⟩:=rs.get (i:=m) (d:=ds[m]) (by simp[Sz]);obtain⟨xj,Sj,rj⟩:=rs.get (i:=j) (d:=ds[j]) (by simp[SI]);rw[hj]at Sj;obtain rfl:=Z7 Sj;unfold eU at Ks;split at Ks;rename_i d1 d2 a as b bs e1 e2;rw[ZH,ZH]at Ks;obtain⟨⟨oa,ob⟩,ne⟩:=Ks;rw[e1]at rm;rw[e2]at rj;simp only[Rep]at rm rj;obtain⟨t1,y1,rfl,g1,q1⟩:=rm;obtain⟨t2,y2,z2,g2,q2⟩:=rj;cases z2;obtain⟨um,UO,Ue⟩:=r.get UK;cases Ue;have em:its[m]=Value.ref t1:=by have:=ZX.mp UO;exact this.2
 rw[em];simp only[M1]at q1 q2;obtain⟨v1,r1,rfl,ra,_⟩:=q1;obtain⟨v2,r2,rfl,rb,_⟩:=q2;obtain⟨i1,w1,T3,_⟩:=I.tuple (SqT.of g1);obtain⟨i2,w2,T2,_⟩:=I.tuple (SqT.of g2);cases w1 with
 |cons a1 a2=>cases w2 with
  |cons b1 b2=>
   have D_:t1≠p:=λz=>by
    subst z;rw[g1]at g2;cases g2;exact(Zh ne) (Rep.inj I oa ob ra rb)
   have q:=(BK I 15 a b v1 v2 _ _ (X.A.in1.in1) oa ob (by show X.A.units+1+1+15+1<cLine;lia) ra rb a1 b1).2.1;rw[ZA (Zh ne)]at q;exact EqAt.acw D_ T3 T2 (by show X.A.units+1<cLine;lia) q
 trivial;refine⟨.non,_,I.abE (its':=its.eraseIdx j) (ys:=xs.eraseIdx j) hH e ?_ (aac.erase j r) ?_,rfl,q⟩;simp[Array.eraseIdxIfInBounds,SH];have:=List.length_eraseIdx_le xs j;lia
variable{r j iL iT:Nat}{xr xl xt xp:Str}{bs:Z_ Bool}{ifs:Z_ Expr}{scope:Scope}{ft:Mk->Z9 Bool}{aq:Z_ Stmt}{gr:Mk->Z9 Out}{pe pp pr Mp py J8 RK IM O5 Np RM P2 P1 RN RL apos j_ pt Oq pf P5:Pos}{k1 k2:Nat}
theorem uB(hu:X.A.units+64<cLine)(hN:X.N.Nodup)(hc:X.calm=L)(nr:Nm X r xr)(nl:Nm X iL xl)(nt:Nm X iT xt)(lt:Lc X iT xt)(hy:X.env.scope.names.lookup xl=U .local)(Qo:r≠iL)(So:r≠iT)(ka:iL≠iT)(S:aaf X scope bs)
  (hg:∀cl C b_ d_ ex pn,PG (aA X scope cl C b_ d_ ex pn) (.Name xp pp) (h9 j)) (ht:∀cl C b_ d_ ex pn,DTs (aA X scope cl C b_ d_ ex pn) ifs ft) (he:∀cl C b_ d_ ex pn,PE (aA X scope cl C b_ d_ ex pn) (.Name xp pe) (vO j))
  (E_:DSs X aq gr)
  (Kt:swapsWith (.ListComp (.Name xp pe) [⟨.Name xp pp,.Name xr pr,ifs,0⟩] scope Mp) (U (.Name xl py)) J8.line X.env=pure L)
  (hs:∀x,foldedSetIterable (.Name xr pr) X.env x=pure x)
  (MS:swapsWith (.IfExp (.Name xl O5) (.Subscript (.Name xl Np) (.Constant (.int 0) k1 P2) RN) (.Subscript (.Name xr RM) (.Constant (.int 0) k2 P1) RL) pf) (U (.Name xt RK)) IM.line X.env=pure Y)
  (Q8:∀whole,isTrue (.Name xl O5) X.env whole=(do let v <-whole;standAt (Expr.pos (.Name xl O5));holding [v] (truthy v)))
  (MB:f9 (.Constant (.int 0) k1 P2)) (Mf:f9 (.Constant (.int 0) k2 P1))
  (mc:Mc X.env (.Name xr P5) "remove" (.Name xt pt) [] apos j_)
  (MR:swapsWith (.Call (.Attribute (.Name xr P5) "remove" apos) [.Name xt pt] [] j_) M Oq.line X.env=pure Y):
  DSs X (.Assign [.Name xl py] (.ListComp (.Name xp pe) [⟨.Name xp pp,.Name xr pr,ifs,0⟩] scope Mp) J8::
   .Assign [.Name xt RK] (.IfExp (.Name xl O5) (.Subscript (.Name xl Np) (.Constant (.int 0) k1 P2) RN) (.Subscript (.Name xr RM) (.Constant (.int 0) k2 P1) RL) pf) IM::
   .Expr (.Call (.Attribute (.Name xr P5) "remove" apos) [.Name xt pt] [] j_) Oq::aq) (λZ=>vC r iL iT j bs ft Z gr):=by
 intro a_ s O H Dn I hq;obtain⟨B,Hk,Z,o,R,e,kk⟩:=hq;obtain⟨ds,bl,hr,hb,h0,⟨q1,q2,q3,q4⟩,hT,Ql,e'⟩:=qX e;have Qi:=R.len;have Sf:=iD hb;refine aS (vw (tt:=tMT X.K ft) hc (nM (aZ nr.at' nr.vis nr.d1 nr.d2)) S hg ht he hN nl.at' hy Kt hs)
  (aS (gB hN lt.at' lt.loc (wD (pE (aZ nl.at' nl.vis nl.d1 nl.d2) Q8) (xM mv (aZ nl.at' nl.vis nl.d1 nl.d2) vh MB) (xM mv (aZ nr.at' nr.vis nr.d1 nr.d2) vh Mf)) MS lt.fnl)
   (aS (gy (lP Yl F.slot_list_remove F.type_list_remove (rh hu) (aZ nr.at' nr.vis nr.d1 nr.d2) (aw (aZ nt.at' nt.vis nt.d1 nt.d2) aK mc.s) mc) MR) E_)) a_ s O H Dn I ?_
 unfold Fn BD;refine uE (bl:=bl) (by rw[S.len,<-I.len]) R hr (by lia) Sf q4 (λi d c h1 h2=>iM hb h1 h2) λl xs a H' h1 h3 h4 sm Sx ha=>?_;have lx:=h4.length;have Nb:aH bl<ds.length:=by
  unfold aH;split;rename_i m;rw[<-Sf];exact YJ m;exact h0
 have IQ:H' l=U (.lst xs):=sm l _ h3;have R0:=R.to sm;have Ky:M1 X.K B H' ds xs:=h4.ext (R.ext sm);have NB:ds[aH bl]?=U (ds.getD (aH bl) .non):=by rw[YG];simp[Nb]
 obtain⟨w,hw,Oo⟩:=Ky.get NB;obtain⟨ts,V6⟩:∃ts,ds.getD (aH bl) .non=.tup ts:=by
  have:=(ZO.mp hT) _ (Zf NB);cases q:ds.getD (aH bl) .non with
  |tup ts=>exact⟨ts,rfl⟩
  |_=>rw[q]at this;simp[uC]at this
 have Nn:=Oo;rw[V6]at Nn;simp only[Rep]at Nn;obtain⟨p,ws,rfl,hp,rws⟩:=Nn;have PF:(O.set iL (U (.ref a)))[iL]?=U (U (.ref a)):=ZU (by lia);have Ry:(O.set iL (U (.ref a)))[r]?=U (U (.ref l)):=by rw[ZY (ZC Qo)];exact h1
 have Ve:Hk a=M:=R.same.free Sx;have R1:Rel X.K B Hk (Z.set iL (U (.lst (dN ds bl),L))) (O.set iL (U (.ref a))) H':=R0.abJ (by lia) Ve ⟨_,ha,gn Ky⟩ (λm f hm z1 z2=>by
  obtain⟨c,y1,_,y3⟩:=R.own m f z1;rw[z2]at y1;cases y1;obtain⟨u,hu⟩:=y3.there;rw[Sx]at hu;trivial)
 have R2:=R1.set (i:=iT) (by rw[Zm];lia) Oo;have J4:((Z.set iL (U (.lst (dN ds bl),L))).set iT (U (ds.getD (aH bl) .non,Y)))[r]?=U (U (.lst ds,L)):=by
  rw[ZY (ZC So),ZY (ZC Qo)];exact hr
 have Of:((O.set iL (U (.ref a))).set iT (U (.ref p)))[r]?=U (U (.ref l)):=by rw[ZY (ZC So)];exact Ry
 have QW:((O.set iL (U (.ref a))).set iT (U (.ref p)))[iT]?=U (U (.ref p)):=ZU (by rw[Zm];lia);obtain⟨x5,R3⟩:=R2.abE (ds':=ds.eraseIdx (aH bl)) (xs':=xs.eraseIdx (aH bl)) J4 Of IQ (Ky.erase _);have fin:C3 (tBM X.K "list" (λx vs H Q=>∃B l p ds xs j,x=.ref l/\vs=[.ref p]/\H l=U (.lst xs)/\M1 X.K B H ds xs/\xs[j]?=U (.ref p)/\ds.all uC=L/\((ds.take j).all λd=>eU d (ds.getD j .non))=L/\Q .non (upd H l (.lst (xs.eraseIdx j)))) (vO r) (ql (vO iT) ab2)) {Dn with nx:=tD X.K gr Dn} ((O.set iL (U (.ref a))).set iT (U (.ref p))) H':=
  ⟨.ref l,Of,.inl ⟨rfl,_,SqL.of IQ⟩,.ref p,QW,B,l,p,ds,xs,aH bl,rfl,rfl,IQ,Ky,hw,hT,Ql,B,Hk,_,o,R3,e',kk.ext ((R.ext sm).trans x5)⟩
 have ph:=lL (xs:=xs) (bl:=bl) (by lia);by_cases m:L∈bl;have D_:(dN xs bl)[0]?=U (.ref p):=(ph.1 m).trans hw;refine⟨.ref a,PF,L,.inl ⟨_,SqL.of ha,?_⟩,?_⟩;cases q:dN xs bl with
 |nil=>rw[q]at D_;trivial
 |cons _ _=>simp
 exact wX ⟨.ref a,PF,a,_,0,.ref p,rfl,rfl,SqL.of ha,om D_,fin⟩;have Ri:=ph.2 m;have f0:aH bl=0:=by unfold aH;rw[ZK m]
 refine⟨.ref a,PF,Y,.inl ⟨_,SqL.of ha,by rw[Ri];rfl⟩,?_⟩;rw[f0]at hw;exact vL ⟨.ref l,Ry,l,xs,0,.ref p,rfl,rfl,SqL.of IQ,om hw,fin⟩
end
section
end
section
end
inductive acW where
 |o (x:Out)|rai
section
end
section
end
end L2
namespace L2
open PySem
def abj(t:Bool)(h:Heap)(c q:ZM)(n:Nat):Prop:=if t=L then h.IsTupleIter c q n else h.IsListIter c q n
def aay(t:Bool)(h:Heap)(q:ZM)(vs:Array Z3):Prop:=if t=L then h.IsTuple q vs else h.IsList q vs
def abj.obj(x:abj t h c q n):∃o,h.get? c=U o/\o.cls=.type (if t=L then "tuple_iterator" else "list_iterator")/\o.data=.fields #[.ref q,.int n 0]:=by
 cases t<;>exact x
def abj.to(x:abj t h c q n)(k:∀o,h.get? c=U o->h'.get? c=U o):abj t h' c q n:=by
 cases t<;>(obtain⟨o,e,r⟩:=x;exact⟨o,k o e,r⟩)
def aay.to(x:aay t h q vs)(k:∀o,h.get? q=U o->h'.get? q=U o):aay t h' q vs:=by
 cases t<;>(obtain⟨o,e,r⟩:=x;exact⟨o,k o e,r⟩)
section
variable{A:Y9}{E:Z3->ZT->Prop}
def xS(hh:A.handled=M)(hc:s.heap.IsTupleIter c q n)(hq:s.heap.IsTuple q vs)(Kk:∀v,vs[n]?=U v->∀h',h'.IsTupleIter c q (n+1)->Heap.SameBut c s.heap h'->Q v {s with heap:=h'})(Kl:vs[n]?=M->∀h' e,Heap.ExtBut c s.heap h'->(∃o,h'.get? e=U o/\o.cls=.type "StopIteration")->E (.ref e) {s with heap:=h'}):
  wpAny (model prog w) A (Builtin.SmallTypes.nextOf (.ref c)) Q E s:=by
 have ty:=hc.typeIs;obtain⟨oc,gc,kc,dc⟩:=hc;obtain⟨oq,gq,_,m,dq⟩:=hq;unfold Builtin.SmallTypes.nextOf;refine Z8 (YF (name:=Str.ofString "__next__") ty F.slot_tuple_iterator_next (Y2 F.slot_tuple_iterator_next ty F.entry_tuple_iterator_next ?body (F.args_tuple_iterator_next_1 _)));change wpAny _ _ (field (.ref c) 0 >>= _) _ E s;refine Z8 (XJ gc dc (x:=.ref q) rfl ?_);change wpAny _ _ (if(Value.ref q==Value.none)=L then _ else _) _ E s;refine dF (by exact Zr) ?_;change wpAny _ _ (field (.ref c) 1 >>= _) _ E s;refine Z8 (XJ gc dc (x:=.int n 0) rfl (Z8 (Yr gq dq ?_)));simp only[Int.toNat_natCast];rcases hv:vs[n]? with _|v
 .simp only[newExc,newTuple,raiseNew]
  refine Z8 (YT (Z8 (Yi gc dc (by simp) (Z8 (Z8 (Y0 ?_ (by size_fits)))))));refine Z8 (m:=firstArgMember _ _) (Wl (a:=Value.none) (by first|rfl|(simp only[firstArgMember];rfl)) (Y0 ?_ (by size_fits)));refine Z8 (wpAny_handled ?_);rw[show A.in1.handled=M from hh];exact Z8 (Z4 (wpAny_throw (Kl hv _ _ (((Zd ..).extBut.push _).push _) ⟨_,ZN _ rfl,rfl⟩)))
 refine Z8 (Yi gc dc (by simp) (Z4 ⟨v,rfl,Z4 (Kk v hv _ ⟨_,Zk _ gc (X4 (Y7 dc _)),?_,?_⟩ (Zd ..))⟩));rw[Xe];exact kc;rw[Y7 dc];simp[rawInt]
def Ea(hh:A.handled=M)(hc:abj t s.heap c q n)(hq:aay t s.heap q vs)(Kk:∀v,vs[n]?=U v->∀h',abj t h' c q (n+1)->Heap.SameBut c s.heap h'->Q v {s with heap:=h'})(Kl:vs[n]?=M->∀h' e,Heap.ExtBut c s.heap h'->(∃o,h'.get? e=U o/\o.cls=.type "StopIteration")->E (.ref e) {s with heap:=h'}):
  wpAny (model prog w) A (Builtin.SmallTypes.nextOf (.ref c)) Q E s:=by
 cases t with
 |true=>exact xS hh hc hq Kk Kl
 |false=>
  rcases hv:vs[n]? with _|v;exact wpAny_nextOf_list_end hh hc hq hv (Kl hv);exact wpAny_nextOf_list_item hc hq hv (Kk v hv)
end
structure Zp (t u:Bool)(h:Heap)(z P O c d p q:ZM)(n:Nat)(f:Z3):Prop where
 zz:IsZip h z P O f
 pp:IsPair h P (.ref c) (.ref d)
 oo:∃a b,IsPair h O a b
 cc:abj t h c p n
 dd:abj u h d q n
structure Ap (z P O c d p q:ZM):Prop where
 nd:[z,P,O,c,d].Nodup
 p:p∉[z,P,O,c,d]
 q:q∉[z,P,O,c,d]
def ag(k:Heap.SameBut a h h')(n:b≠a)(e:h.get? b=U o):h'.get? b=U o:=(k.2 b n).trans e
section
variable{prog:Y5}{w:YV}{A:Y9}{E:Z3->ZT->Prop}{s:ZT}
def wI{Q:Z3->ZT->Prop}(hh:A.handled=M)(ap:Ap z P O c d p q)(Z:Zp t u s.heap z P O c d p q n .none)(hp:aay t s.heap p xs)(hq:aay u s.heap q ys)(item:∀x y,xs[n]?=U x->ys[n]?=U y->∀h',Zp t u h' z P O c d p q (n+1) (rawInt s.z)->IsPair h' s.z x y->h'.objs.size=s.z+1->
   (∀b o,b∉[z,P,O,c,d]->s.heap.get? b=U o->h'.get? b=U o)->Q (.ref s.z) {s with heap:=h'}) (stop:(xs[n]?=M\/ys[n]?=M)->∀h' e,(∀b o,b∉[z,P,O,c,d]->s.heap.get? b=U o->h'.get? b=U o)->(∃o,h'.get? e=U o/\o.cls=.type "StopIteration")->E (.ref e) {s with heap:=h'}):
  wpAny (model prog w) A (Builtin.«zip.__next__» ⟨[.ref z],[]⟩) (λr s'=>∃v,r=.done (.ret v)/\Q v s') E s:=by
 obtain⟨zz,pp,⟨a,b,oo⟩,cc,dd⟩:=Z;have nd:=ap.nd;have np:=ap.p;have nq:=ap.q;simp only[Y4,Z0,Zt,YK,Xq,YY,and_true,W2]at nd np nq;obtain⟨⟨zP,zO,zc,zd⟩,⟨PO,Pc,Pd⟩,⟨Oc,Od⟩,cd⟩:=nd;obtain⟨pz,pP,pO,pc,pd⟩:=np;obtain⟨qz,qP,qO,qc,qd⟩:=nq;change wpAny _ _ (field (.ref z) 2 >>= _) _ E s;refine Z8 (XJ zz rfl (x:=.bool Y) rfl ?_);change wpAny _ _ (field (.ref z) 3 >>= _) _ E s;refine Z8 (XJ zz rfl (x:=.ref P) rfl (Z8 (Yr pp rfl ?_)));change wpAny _ _ (Builtin.SmallTypes.ownedTupleIsFree (.ref z) >>= _) _ E s;unfold Builtin.SmallTypes.ownedTupleIsFree;refine Z8 (Z8 (XJ zz rfl (x:=.none) rfl (Z4 ?_)));simp only[Y1];refine Z8 (YT (Z8 (XJ zz rfl (x:=.ref O) rfl (Z8 (X9 zz (by simp) λJK M0 x_=>Z8 ?_)))));have Le:IsZip JK z P O .ellipsis:=M0;simp only[List.zipIdx_cons,List.zipIdx_nil,WH,List.forIn_nil];refine Z8 (Z8 (wpAny_onRaise ?_));change wpAny _ _ (Builtin.SmallTypes.nextOf (.ref c) >>= _) _ _ _;refine Z8 (Ea (t:=t) hh (cc.to λo e=>ag x_ (ZC zc) e) (hp.to λo e=>ag x_ pz e) (λx hx KH L7 w_=>Z4 ?_) λhx KH e w_ he=>?_);have Ov:IsPair KH O a b:=ag w_ Oc (ag x_ (ZC zO) oo);refine Z8 (Yr Ov rfl (Z8 (wpAny_updateSeq_pair Ov λMP Rr IZ=>Z8 (Wj (Z4 ?_)))));have Q0:IsPair MP O x b:=Rr;refine Z8 (Z8 (wpAny_onRaise ?_));change wpAny _ _ (Builtin.SmallTypes.nextOf (.ref d) >>= _) _ _ _;refine Z8 (Ea (t:=u) hh (dd.to λo e=>ag IZ (ZC Od) (ag w_ (ZC cd) (ag x_ (ZC zd) e))) (hq.to λo e=>ag IZ qO (ag w_ qc (ag x_ qz e))) (λy hy G_ M3 IE=>Z4 ?_) λhy G_ e IE he=>?_);have Ou:IsPair G_ O x b:=ag IE Od Q0;refine Z8 (Yr Ou rfl (Z8 (wpAny_updateSeq_pair Ou λIJ Rq JJ=>Z8 (Wj (Z4 (Z4 ?_))))));have Ot:IsPair IJ O x y:=Rq;have old:∀f o,f≠z->f≠O->f≠c->f≠d->s.heap.get? f=U o->IJ.get? f=U o:=λf o n1 n2 n3 n4 e=>ag JJ n2 (ag IE n4 (ag IZ n2 (ag w_ n3 (ag x_ n1 e))));have sz:IJ.objs.size=s.z:=by rw[JJ.1,IE.1,IZ.1,w_.1,x_.1]
 have Oh:IsZip IJ z P O .ellipsis:=ag JJ zO (ag IE zd (ag IZ zO (ag w_ zc Le)));refine Z8 (Yr Ot rfl (Z8 (Wk ?_)));have QY:IsZip (IJ.push {cls:=.type "tuple",data:=.seq #[x,y]}) z P O .ellipsis:=Z5 _ Oh;change wpAny _ _ (Builtin.SmallTypes.ownedTupleHandOut (.ref z) (.ref IJ.objs.size) >>= _) _ E _;unfold Builtin.SmallTypes.ownedTupleHandOut;refine Z8 (Z8 (X9 QY (by simp) λQ4 Rp MO=>?_));have QX:IsZip Q4 z P O (rawInt IJ.objs.size):=Rp;refine X9 QX (by simp) λLg Ro MN=>Z4 ⟨_,rfl,?_⟩;have Og:IsZip Lg z P O (rawInt IJ.objs.size):=Ro;have up:∀f o,f≠z->IJ.get? f=U o->Lg.get? f=U o:=λf o n1 e=>ag MN n1 (ag MO n1 (Z5 _ e));have lz:=ZV Oh;have new:IsPair Lg IJ.objs.size x y:=ag MN (Nat.ne_of_gt lz) (ag MO (Nat.ne_of_gt lz) (ZN _ rfl));have NK:Lg.objs.size=IJ.objs.size+1:=by rw[MN.1,MO.1,YI]
 change Q (.ref IJ.objs.size) _;rw[sz]at Og new NK⊢;refine item x y hx hy Lg ⟨Og,up _ _ (ZC zP) (old _ _ (ZC zP) PO Pc Pd pp),⟨x,y,up _ _ (ZC zO) Ot⟩,?_,?_⟩ new NK λf o hf e=>?_;exact L7.to λo e=>up _ o (ZC zc) (ag JJ (ZC Oc) (ag IE cd (ag IZ (ZC Oc) e)));exact M3.to λo e=>up _ o (ZC zd) (ag JJ (ZC Od) e);simp only[Z0,Zt,YK,Xq]at hf;exact up f o hf.1 (old f o hf.1 hf.2.2.1 hf.2.2.2.1 hf.2.2.2.2 e);obtain⟨oe,ge,ke⟩:=he;have LX:IsZip G_ z P O .ellipsis:=IE _ _ zd (ag IZ zO (ag w_ zc Le));have ez:e≠z:=λr=>by rw[r]at ge;rw[LX]at ge;obtain rfl:=Z7 ge;simp at ke
 refine X9 LX (by simp) λIJ _ JJ=>stop (.inr hy) IJ e (λf o hf g=>?_) ⟨oe,ag JJ ez ge,ke⟩;simp only[Z0,Zt,YK,Xq]at hf;obtain⟨n1,_,n2,n3,n4⟩:=hf;exact ag JJ n1 (IE _ _ n4 (ag IZ n2 (ag w_ n3 (ag x_ n1 g))));obtain⟨oe,ge,ke⟩:=he;have Oi:IsZip KH z P O .ellipsis:=w_ _ _ zc Le;have ez:e≠z:=λr=>by rw[r]at ge;rw[Oi]at ge;obtain rfl:=Z7 ge;simp at ke
 refine X9 Oi (by simp) λMP _ IZ=>stop (.inl hx) MP e (λf o hf g=>?_) ⟨oe,ag IZ ez ge,ke⟩;simp only[Z0,Zt,YK,Xq]at hf;exact ag IZ hf.1 (w_ _ _ hf.2.2.2.1 (ag x_ hf.1 g))
end
variable[Lams]
section
variable{h':Heap}
def Inv.abP{t':Nat}{fp:Z_ ZM}{T:ZM}{o:HO}(I:Inv X a_ O H s)(k:∀b u,b∉fp->s.heap.get? b=U u->h'.get? b=U u)(hf:∀b∈fp,fI X a_ H b)
  (hT:s.z<=T)(new:aak X.prog X.w (upd H T o) h' T o):Inv X a_ O (upd H T o) {s with heap:=h',toks:=t'}:=by
 have hn:H T=M:=I.hok.fresh hT;have JG:∀b u,H b=U u->b∉fp:=λb u e z=>by rw[(hf b z).1]at e;trivial
 have lo:∀b u,s.heap.get? b=U u->b≠T:=λb u e=>Zs (Zz (ZV e) hT);refine I.step (g':=s.gens) (d':=s.drawn) (ch:=fp) (λb hb=>?_) (λb u _ _ hc e _=>k b u hc e) (λb u _ _ hc e _=>⟨u.slots,k b u hc e⟩) (λb u _ e n=>by rw[ai (lo b u e)];exact n)
  (λb u hc e=>⟨u,k b u hc e⟩) (λb xs e=>by rw[ai (ay e hn)];exact e) (λb u v e=>by rw[ai (ay e hn)];exact e) (λb lq ps e=>⟨#[],by rw[ai (ay e hn),e];simp⟩) (λm hm=>?_) (λb u e=>?_) I.bare
 obtain⟨_,f1,_,f3,f4,f5⟩:=hf b hb;exact⟨f3,f1,f4,f5⟩;obtain⟨ob,es,ep,ho,r⟩:=hm;exact⟨ob,es,ep,k _ ob (λz=>(hf _ z).2.1 rfl) ho,r⟩;by_cases hb:b=T;subst hb;rw[ah]at e;obtain rfl:=Z7 e;exact new;rw[ai hb]at e;refine(I.hok b u e).abk (λc v hc q=>k c v ?_ q) (λc q=>by rw[ai (ay q hn)];exact q) λc xs q=>by rw[ai (ay q hn)];exact q
 rcases hc with z|z;rw[z];exact JG b u e;exact JG c _ z
def Inv.turns{t':Nat}{fp:Z_ ZM}(I:Inv X a_ O H s)(k:∀b u,b∉fp->s.heap.get? b=U u->h'.get? b=U u)(hf:∀b∈fp,fI X a_ H b):Inv X a_ O H {s with heap:=h',toks:=t'}:=by
 have JG:∀b u,H b=U u->b∉fp:=λb u e z=>by rw[(hf b z).1]at e;trivial
 refine I.step (g':=s.gens) (d':=s.drawn) (ch:=fp) (λb hb=>?_) (λb u _ _ hc e _=>k b u hc e) (λb u _ _ hc e _=>⟨u.slots,k b u hc e⟩) (λb u _ e n=>n)
  (λb u hc e=>⟨u,k b u hc e⟩) (λb xs e=>e) (λb u v e=>e) (λb lq ps e=>⟨#[],by rw[e];simp⟩) (λm hm=>?_) (λb u e=>?_) I.bare
 obtain⟨_,f1,_,f3,f4,f5⟩:=hf b hb;exact⟨f3,f1,f4,f5⟩;obtain⟨ob,es,ep,ho,r⟩:=hm;exact⟨ob,es,ep,k _ ob (λz=>(hf _ z).2.1 rfl) ho,r⟩;refine(I.hok b u e).abk (λc v hc q=>k c v ?_ q) (λ_ q=>q) λ_ _ q=>q;rcases hc with z|z
 rw[z];exact JG b u e;exact JG c _ z
end
def SqV(t:Bool)(K:Z6)(H:Hp)(a:ZM)(xs:Z_ V):Prop:=if t=L then SqT K H a xs else SqL K H a xs
section
variable{A:Y9}
def jv(hh:A.handled=M)(ap:Ap z P O c d p q)(Z:Zp t u s.heap z P O c d p q n .none)(hp:aay t s.heap p xs)(hq:aay u s.heap q ys)(item:∀x y,xs[n]?=U x->ys[n]?=U y->∀h',Zp t u h' z P O c d p q (n+1) (rawInt s.z)->IsPair h' s.z x y->h'.objs.size=s.z+1->
   (∀b o,b∉[z,P,O,c,d]->s.heap.get? b=U o->h'.get? b=U o)->Q (U (.ref s.z)) {s with heap:=h'}) (stop:(xs[n]?=M\/ys[n]?=M)->∀h',(∀b o,b∉[z,P,O,c,d]->s.heap.get? b=U o->h'.get? b=U o)->Q M {s with heap:=h'}):
  wpAny (model prog w) A (pyNext (.ref z)) Q E s:=by
 have ty:s.TypeIs (.ref z) "zip":=⟨_,Z.zz,rfl⟩;unfold pyNext;refine Z8 (XT (YF (name:=Str.ofString "__next__") ty Wo (Y2 Wo ty F.entry_zip_next (wI hh ap Z hp hq (λx y hx hy h' b1 b2 b3 b4=>Z4 (item x y hx hy h' b1 b2 b3 b4)) λhn h' e k he=>?_) (F.args_zip_next_1 _))));obtain⟨o,ho,hc⟩:=he;exact Z8 (X_ (T:="StopIteration") (b:=L) ⟨o,ho,hc⟩ WR (Z4 (stop hn h' k)))
end
section
def Inv.abB(I:Inv X a_ q H s)(h:SqV t X.K H a xs):∃its,aac xs its/\aay t s.heap a its.toArray:=by
 cases t with
 |true=>obtain⟨its,rv,p,_⟩:=I.tuple h;exact⟨its,rv,p⟩
 |false=>obtain⟨its,rv,p,_⟩:=I.list h;exact⟨its,rv,p.isList⟩
def Inv.abA(I:Inv X a_ q H s)(h:SqV t X.K H a xs)(h':SqV t X.K H a ys):xs=ys:=by
 cases t with
 |true=>exact I.aaU h h'
 |false=>exact I.aaN h h'
end
noncomputable def Itz(t u:Bool)(K:Z6)(p q:ZM):It:=
 ⟨λi H=>∃xs ys x y,SqV t K H p xs/\SqV u K H q ys/\xs[i]?=U x/\ys[i]?=U y,
  λi H v H'=>∃T x y,H T=M/\v=.ref T/\H'=upd H T (.tup [x,y])/\(∀xs,SqV t K H p xs->xs[i]?=U x)/\∀ys,SqV u K H q ys->ys[i]?=U y,
  λi H=>∃xs ys,SqV t K H p xs/\SqV u K H q ys/\(xs.length<=i\/ys.length<=i)⟩
def xU{x1}(ap:Ap z Pr O c d p q):
  Turn P w K (.Tuple elts x1 pos) (Itz t u K p q) [z,Pr,O,c,d] z (λn h=>Zp t u h z Pr O c d p q n .none) where
 mem:=by simp
 obj:=λi h st b hb=>by
  obtain⟨zz,pp,⟨a,a',oo⟩,cc,dd⟩:=st;simp only[Z0,Zt,YK]at hb;rcases hb with rfl|rfl|rfl|rfl|rfl;exact⟨_,zz,λv e=>by cases e⟩;exact⟨_,pp,λv e=>by cases e⟩;exact⟨_,oo,λv e=>by cases e⟩;obtain⟨o,e,_,hd⟩:=cc.obj;exact⟨o,e,λv e'=>by rw[hd]at e';cases e'⟩;obtain⟨o,e,_,hd⟩:=dd.obj;exact⟨o,e,λv e'=>by rw[hd]at e';cases e'⟩
 keep:=λi h h' st k=>by
  obtain⟨zz,pp,⟨a,a',oo⟩,cc,dd⟩:=st;exact⟨k z (by simp) _ zz,k Pr (by simp) _ pp,⟨a,a',k O (by simp) _ oo⟩,cc.to λo e=>k c (by simp) o e,dd.to λo e=>k d (by simp) o e⟩
 item:=by
  intro X hP hw hK hc i a_ s Z H E I hf st hg;subst hP hw hK;obtain⟨xs,ys,x,y,h1,h2,hx,hy⟩:=hg;obtain⟨is,ri,sp⟩:=I.abB h1;obtain⟨js,rj,sq⟩:=I.abB h2;obtain⟨ux,e1,r1⟩:=ri.get hx;obtain⟨uy,e2,r2⟩:=rj.get hy;refine jv (I.ok.hd hc) ap st sp sq (λvx vy Nv Nu h' Z' new sz k=>?_) λhn=>?_;have ex:vx=ux:=by simp at Nv;rw[e1]at Nv;exact(Z7 Nv).symm
  have ey:vy=uy:=by simp at Nu;rw[e2]at Nu;exact(Z7 Nu).symm
  subst ex ey;refine⟨_,rfl,?_⟩;have hT:H s.z=M:=I.hok.fresh (ZP _);have nT:∀b∈[z,Pr,O,c,d],b≠s.z:=λb hb e=>by
   obtain⟨o,g,_⟩:=(show ∀b∈[z,Pr,O,c,d],∃o,s.heap.get? b=U o/\∀v,o.data≠.cell v from λb hb=>by
    obtain⟨zz,pp,⟨a,a',oo⟩,cc,dd⟩:=st;simp only[Z0,Zt,YK]at hb;rcases hb with rfl|rfl|rfl|rfl|rfl;exact⟨_,zz,λv e=>by cases e⟩;exact⟨_,pp,λv e=>by cases e⟩;exact⟨_,oo,λv e=>by cases e⟩;obtain⟨o,e,_,hd⟩:=cc.obj;exact⟨o,e,λv e'=>by rw[hd]at e';cases e'⟩;obtain⟨o,e,_,hd⟩:=dd.obj;exact⟨o,e,λv e'=>by rw[hd]at e';cases e'⟩) b hb
   rw[e]at g;exact absurd (ZV g) (Zc _)
  have I1:Inv X a_ Z (upd H s.z (.tup [x,y])) {s with heap:=h'}:=I.abP (t':=s.toks) k hf (ZP _) ⟨by show 2<=sizeLine;decide,[vx,vy],.cons r1 (.cons r2 .nil),⟨_,new,rfl,_,rfl⟩⟩;obtain⟨zz,pp,oo,cc,dd⟩:=Z';have nd:=ap.nd;simp only[Y4,Z0,Zt,YK,Xq,YY,and_true,W2]at nd;refine wpAny_letOwnedTupleGo_zip zz λg2 z2 m2=>?_;have hz:=hf z (by simp);refine⟨.ref s.z,upd H s.z (.tup [x,y]),I1.turned (t':=s.toks) (λb o hb e=>ag m2 hb e) (by rw[ai (nT z (by simp))];exact hz.1) hz.2.1 hz.2.2.2.1 hz.2.2.2.2.1 hz.2.2.2.2.2,rfl,
   ⟨s.z,x,y,hT,rfl,rfl,λxs' h=>by rw[I.abA h h1];exact hx,λTX h=>by rw[I.abA h h2];exact hy⟩,?_,λb hb=>by rw[ai (nT b hb)];exact(hf b hb).1⟩
  obtain⟨a,a',oo⟩:=oo;exact⟨z2,ag m2 (ZC nd.1.1) pp,⟨a,a',ag m2 (ZC nd.1.2.1) oo⟩,cc.to λo e=>ag m2 (ZC nd.1.2.2.1) e,dd.to λo e=>ag m2 (ZC nd.1.2.2.2) e⟩;exfalso;rcases hn with hn|hn;simp at hn;have:=(ZX.mp e1).1;lia;simp at hn;have:=(ZX.mp e2).1;lia
 done:=by
  intro X hP hw hK hc i a_ s Z H E I hf st hg;subst hP hw hK;obtain⟨xs,ys,h1,h2,hl⟩:=hg;obtain⟨is,ri,sp⟩:=I.abB h1;obtain⟨js,rj,sq⟩:=I.abB h2;have l1:=ri.length;have l2:=rj.length;refine jv (I.ok.hd hc) ap st sp sq (λvx vy Nv Nu h' Z' new sz k=>?_) λhn h' k=>⟨rfl,I.turns (t':=s.toks) k hf⟩
  exfalso;simp at Nv Nu;have a1:=(ZX.mp Nv).1;have a2:=(ZX.mp Nu).1;lia
 self:=λ_ _ _ _ _ st h=>wpAny_pyIter_zip st.zz h
open PySem.Spec PyProof.Rows
def itO(t:Bool)(p:ZM):Obj:={cls:=.type (if t=L then "tuple_iterator" else "list_iterator"),data:=.fields #[.ref p,.int 0 0]}
def dX(hp:aay t s.heap p xs)(h:Q (.ref s.z) {s with heap:=s.heap.push (itO t p)}):wpAny (model prog w) A (pyIter (.ref p)) Q E s:=by
 cases t with
 |true=>exact wpAny_pyIter_tuple hp h
 |false=>exact Xf hp h
def zO(a b:Z3):Obj:={cls:=.type "tuple",data:=.seq #[a,b]}
noncomputable def xz(t u:Bool)(h:Heap)(p q:ZM):Heap:=
 ((((h.push (itO t p)).push (itO u q)).push (zO (.ref h.objs.size) (.ref (h.push (itO t p)).objs.size))).push (zO .none .none)).push
  {cls:=.type "zip",data:=.fields #[.none,.bool Y,.bool Y,.ref ((h.push (itO t p)).push (itO u q)).objs.size,.ref (((h.push (itO t p)).push (itO u q)).push (zO (.ref h.objs.size) (.ref (h.push (itO t p)).objs.size))).objs.size]}
def Ai(t u:Bool)(p q:ZM)(xs ys:Array Z3):
  Meets (Builtin.«zip.__new__» ⟨[.type "zip",.ref p,.ref q],[]⟩) (λ_ R s=>aay t s.heap p xs/\aay u s.heap q ys/\
   R (.ok (.ret (.ref (((((s.heap.push (itO t p)).push (itO u q)).push (zO (.ref s.z) (.ref (s.heap.push (itO t p)).objs.size))).push (zO .none .none)).objs.size)))) {s with heap:=xz t u s.heap p q}):=
 .of_wp λprog w A R s h=>by
  obtain⟨hp,g,d,tk,os⟩:=s;obtain⟨h1,h2,h⟩:=h;have Li:=sub_zip;have k1:aay t (Shared.heap ⟨hp,g,d,tk,os⟩) p xs:=h1;have k2:aay u (Shared.heap ⟨hp.push (itO t p),g,d,tk,os⟩) q ys:=h2.to λo e=>Z5 _ e
  wp_walk using dX k1,dX k2
  exact⟨_,rfl,h⟩
def oz(hp:aay t s.heap p xs)(hq:aay u s.heap q ys)(h:∀z P O c d h',Ap z P O c d p q->Zp t u h' z P O c d p q 0 .none->(∀b∈[z,P,O,c,d],s.z<=b)->(∀b o,s.heap.get? b=U o->h'.get? b=U o)->Q (.ref z) {s with heap:=h'}):
  wpAny (model prog w) A (call (.type "zip") [.ref p,.ref q]) Q E s:=by
 refine callType_new F.called_zip (by decide) (F.typeCall_zip_2 _ _) (F.newCall_zip_2 _ _) (λobj=>F.args_object_init_3 obj _ _) F.entry_zip_new (Ai t u p q xs ys) ⟨hp,hq,?_⟩;have lp:p<s.z:=by cases t<;>(obtain⟨o,e,_⟩:=hp;exact ZV e)
 have lq:q<s.z:=by cases u<;>(obtain⟨o,e,_⟩:=hq;exact ZV e)
 generalize e1:s.heap.push (itO t p)=k1;generalize e2:k1.push (itO u q)=k2;generalize e3:k2.push (zO (.ref s.z) (.ref k1.objs.size))=k3;generalize e4:k3.push (zO .none .none)=k4;have hL:xz t u s.heap p q=k4.push {cls:=.type "zip",data:=.fields #[.none,.bool Y,.bool Y,.ref k2.objs.size,.ref k3.objs.size]}:=by unfold xz;rw[e1,e2,e3,e4]
 have s1:k1.objs.size=s.z+1:=by rw[<-e1];exact YI ..
 have s2:k2.objs.size=s.z+2:=by rw[<-e2,YI,s1]
 have s3:k3.objs.size=s.z+3:=by rw[<-e3,YI,s2]
 have s4:k4.objs.size=s.z+4:=by rw[<-e4,YI,s3]
 have u1:∀{b o},s.heap.get? b=U o->k1.get? b=U o:=λe=>by rw[<-e1];exact Z5 _ e
 have u2:∀{b o},k1.get? b=U o->k2.get? b=U o:=λe=>by rw[<-e2];exact Z5 _ e
 have u3:∀{b o},k2.get? b=U o->k3.get? b=U o:=λe=>by rw[<-e3];exact Z5 _ e
 have u4:∀{b o},k3.get? b=U o->k4.get? b=U o:=λe=>by rw[<-e4];exact Z5 _ e
 have u5:∀{b o},k4.get? b=U o->(xz t u s.heap p q).get? b=U o:=λe=>by rw[hL];exact Z5 _ e
 have z5:IsZip (xz t u s.heap p q) k4.objs.size k2.objs.size k3.objs.size .none:=by rw[hL];exact ZN _ rfl
 have o5:IsPair (xz t u s.heap p q) k3.objs.size .none .none:=u5 (by rw[<-e4];exact ZN _ rfl);have p5:IsPair (xz t u s.heap p q) k2.objs.size (.ref s.z) (.ref k1.objs.size):=u5 (u4 (by rw[<-e3];exact ZN _ rfl));have d5:(xz t u s.heap p q).get? k1.objs.size=U (itO u q):=u5 (u4 (u3 (by rw[<-e2];exact ZN _ rfl)));have c5:(xz t u s.heap p q).get? s.z=U (itO t p):=u5 (u4 (u3 (u2 (by rw[<-e1];exact ZN _ rfl))));refine⟨⟨_,z5,rfl⟩,h k4.objs.size k2.objs.size k3.objs.size s.z k1.objs.size _ ⟨?_,?_,?_⟩ ⟨z5,p5,⟨_,_,o5⟩,?_,?_⟩ ?_ λb o e=>u5 (u4 (u3 (u2 (u1 e))))⟩
 .rw[s1,s2,s3,s4]
  simp only[Y4,Z0,Zt,YK,Xq,YY,and_true,W2];refine⟨⟨?_,?_,?_,?_⟩,⟨?_,?_,?_⟩,⟨?_,?_⟩,?_⟩<;>(intro e;have e':(_:Nat)=_:=e;lia)
 rw[s1,s2,s3,s4];simp only[Z0,Zt,YK,Xq];have JG:∀k:Nat,p≠s.z+k:=λk=>Zs (Zz lp (Nat.le_add_right _ k));exact⟨JG 4,JG 2,JG 3,JG 0,JG 1⟩;rw[s1,s2,s3,s4];simp only[Z0,Zt,YK,Xq];have JG:∀k:Nat,q≠s.z+k:=λk=>Zs (Zz lq (Nat.le_add_right _ k));exact⟨JG 4,JG 2,JG 3,JG 0,JG 1⟩
 .cases t<;>exact⟨_,c5,rfl,rfl⟩
 .cases u<;>exact⟨_,d5,rfl,rfl⟩
 .rw[s1,s2,s3,s4]
  intro b hb;simp only[Z0,Zt,YK]at hb;have:(s.z:Nat)<=(b:Nat):=by rcases hb with rfl|rfl|rfl|rfl|rfl<;>lia
  exact this
section
def IB(t u:Bool)(K:Z6)(ta:TA):TI:=λO H R=>ta O H λvs H1=>∃p q,vs=[.ref p,.ref q]/\(∃xs,SqV t K H1 p xs)/\(∃ys,SqV u K H1 q ys)/\R (Itz t u K p q) H1
def B9(hg:Gl X "zip")(hm:X.mg "zip"=M)(ha:PA X [a,b] ta)(hs:starEach [a,b] X.env=[(Y,eval a X.env),(Y,eval b X.env)]:=by rfl)(IW:starEach [b] X.env=[(Y,eval b X.env)]:=by rfl):
  PI X (.Tuple elts x1 tp) (.Call (.Name "zip" p) [a,b] [] pos) (IB t u X.K ta):=by
 intro a_ s σ H R I h;refine Call_ (dT I hg hm boot_zip (Yw (thn (ha pos a_ s σ H _ I h) λus s1 ⟨vs,H1,I1,r1,q1⟩=>?_) (by rw[hs,IW]) (by rw[IW];rfl)));obtain⟨l1,l2,e,⟨xs,h1⟩,⟨ys,h2⟩,q⟩:=q1;subst e;cases r1 with
 |cons r rr=>
  cases rr with
  |cons r' rr=>
   cases rr;cases r;cases r';obtain⟨is,ri,sp⟩:=I1.abB h1;obtain⟨js,rj,sq⟩:=I1.abB h2;refine oz sp sq λz P O c d h' ap Z hi k=>?_;have I2:Inv X a_ σ H1 {s1 with heap:=h'}:=I1.kept (t':=s1.toks) k;refine wpAny_pyIter_zip (s:={s1 with heap:=h'}) Z.zz ⟨z,[z,P,O,c,d],_,_,H1,rfl,I2,xU ap,Z,λb hb=>?_,q⟩;have hn:H1 b=M:=I1.hok.fresh (hi b hb);obtain⟨f0,f1,f2,f3,f4,f5⟩:=I1.abl (hi b hb) hn;exact⟨f0,f1,f2,f3,f4,f5⟩
def cC:Z_ D->Z_ D->Z_ D
 |d::ds,e::es=>.tup [d,e]::cC ds es
 |_,_=>[]
theorem kZ:∀(ds es:Z_ D)(i:Nat)(x:D),(cC ds es)[i]?=U x->∃d e,ds[i]?=U d/\es[i]?=U e/\x=.tup [d,e]
 |[],_,i,x,h=>by simp[cC]at h
 |d::ds,[],i,x,h=>by simp[cC]at h
 |d::ds,e::es,0,x,h=>by simp[cC]at h;exact⟨d,e,rfl,rfl,h.symm⟩
 |d::ds,e::es,i+1,x,h=>by simp[cC]at h;simpa using kZ ds es i x h
theorem gE:∀ds es:Z_ D,(cC ds es).length=min ds.length es.length
 |[],_=>by simp[cC]
 |d::ds,[]=>by simp[cC]
 |d::ds,e::es=>by simp[cC,gE ds es]
def DN(t:Bool)(x:Z9 D):Z9 (Z_ D):=if t=L then yW x else bZ x
def zZ(t u:Bool)(x y:Z9 D):Z9 (Z_ D):=af (DN t x) λds=>af (DN u y) λes=>U (cC ds es)
def fR{K:Z6}{B:ZM->Prop}{H:Hp}{t:Bool}{x:Z9 D}{ds:Z_ D}{v:V}{d:D}(h:DN t x=U ds)(e:x=U d)(r:Rep K B H d v):∃l xs,v=.ref l/\M1 K B H ds xs/\∀H',Ext B H H'->SqV t K H' l xs:=by
 cases t with
 |true=>
  have:=lG h;rw[e]at this;obtain rfl:=Z7 this;simp only[Rep]at r;obtain⟨l,xs,rfl,hq,rs⟩:=r;exact⟨l,xs,rfl,rs,λH' x=>SqT.of (x.aaW _ _ hq)⟩
 |false=>
  have:=kq h;rw[e]at this;obtain rfl:=Z7 this;simp only[Rep]at r;obtain⟨l,xs,rfl,hq,rs⟩:=r;exact⟨l,xs,rfl,rs,λH' x=>(hq.ext x).sq⟩
theorem D4{t u m:Bool}{a b:Expr}{fa fb:Mk->Z9 D}{p pos:Pos}(g:Gl X "zip")(hm:X.mg "zip"=M)(h:DE X m a fa)(h':DE X m b fb)(hs:starEach [a,b] X.env=[(Y,eval a X.env),(Y,eval b X.env)]:=by rfl)(IW:starEach [b] X.env=[(Y,eval b X.env)]:=by rfl):
  DI X m (.Tuple elts x1 tp) (.Call (.Name "zip" p) [a,b] [] pos) (λO=>zZ t u (fa O) (fb O)):=
 (B9 (t:=t) (u:=u) g hm (aw h (aw h' aK IW) (by rw[hs,IW])) hs IW).imp λZ H Q hz=>by
  obtain⟨B,Hk,O,ds,R,e,k⟩:=hz;obtain⟨as,q1,e⟩:=ak e;obtain⟨bs,q2,e⟩:=ak e;obtain rfl:=Z7 e;obtain⟨d1,e1⟩:∃d,fa O=U d:=by
   cases q:fa O with
   |none=>rw[q]at q1;cases t<;>trivial
   |some d=>exact⟨d,rfl⟩
  obtain⟨d2,e2⟩:∃d,fb O=U d:=by
   cases q:fb O with
   |none=>rw[q]at q2;cases u<;>trivial
   |some d=>exact⟨d,rfl⟩
  refine two R e1 e2 λv w H' s R' r1 r2=>?_;obtain⟨l1,xs,rfl,O3,O0⟩:=fR q1 e1 r1;obtain⟨l2,ys,rfl,Lb,OZ⟩:=fR q2 e2 r2;refine⟨l1,l2,rfl,⟨xs,O0 _ Ext.refl⟩,⟨ys,OZ _ Ext.refl⟩,k _ H' s λH2 x=>?_⟩;have hx:=O0 H2 x;have hy:=OZ H2 x;have rx:=O3.ext x;have ry:=Lb.ext x;refine⟨⟨xs,ys,hx,hy,?_⟩,λi d hd=>?_⟩;rw[gE,<-rx.length,<-ry.length];lia;obtain⟨d1,d2,g1,g2,rfl⟩:=kZ _ _ _ _ hd;obtain⟨y1,w1,z1⟩:=rx.get g1;obtain⟨y2,w2,z2⟩:=ry.get g2;refine⟨⟨xs,ys,y1,y2,hx,hy,w1,w2⟩,λv H3 ⟨T,v1,v2,hT,ev,e3,n1,n2⟩=>?_⟩;have:=n1 xs hx;rw[w1]at this;obtain rfl:=Z7 this;have:=n2 ys hy;rw[w2]at this;obtain rfl:=Z7 this;have sm:aaa H2 (upd H2 T (.tup [y1,y2])):=ax hT;have bo:∀a,bh m B O Z a->∃o:HOn,H2 a=U o.1:=λa ha=>by
   obtain⟨o,ho⟩:=R'.bsH m a ha;exact⟨o,(x.abF a ha).trans ho⟩
  have ex:=sm.ext bo;rw[e3,ev];refine⟨sm,?_⟩;simp only[Rep];exact⟨T,[y1,y2],rfl,ah,M1.cons (z1.ext ex) (M1.cons (z2.ext ex) M1.nil)⟩
end
end L2
namespace L2
open PySem PySem.Spec PyProof.Rows
def c4{O Z:Type}(f:O->Z):∀{l1 l2:Z_ Z},l1.Perm l2->∀l:Z_ O,l2=l.map f->∃l':Z_ O,l'.Perm l/\l1=l'.map f:=by
 intro l1 l2 p
 induction p with
 |nil=>intro l h;exact⟨l,YQ _,h⟩
 |cons x p ih=>
  intro l h;cases l with
  |nil=>trivial
  |cons a l=>
   simp only[Z2,Yj]at h;obtain⟨l',p',e'⟩:=ih l h.2;exact⟨a::l',List.Perm.cons a p',by rw[Z2,h.1,e']⟩
 |swap x y l0=>
  intro l h;cases l with
  |nil=>trivial
  |cons a l=>
   cases l with
   |nil=>cases h
   |cons b l=>
    simp only[Z2,Yj]at h;exact⟨b::a::l,List.Perm.swap a b l,by rw[Z2,Z2,h.1,h.2.1,h.2.2]⟩
 |trans p q Qh Qg=>
  intro l h;obtain⟨l2,p2,e2⟩:=Qg l h;obtain⟨l1,p1,e1⟩:=Qh l2 e2;exact⟨l1,p1.trans p2,e1⟩
def uS:Z_ Str->Z_ Str
 |[]=>[]
 |x::l=>if x∈l then uS l else x::uS l
theorem iW(x:Str):∀l:Z_ Str,x∈uS l↔x∈l
 |[]=>Iff.rfl
 |d::l=>by
  unfold uS;split;rename_i h;rw[iW x l,Z0];exact⟨.inr,λz=>z.elim (λe=>e▸h) id⟩;rw[Z0,Z0,iW x l]
theorem eD:∀l:Z_ Str,(uS l).Nodup
 |[]=>YY
 |d::l=>by
  unfold uS;split;exact eD l;rename_i h;exact Y4.mpr ⟨λz=>h ((iW d l).mp z),eD l⟩
theorem uU:∀l:Z_ Str,(uS l).length<=l.length
 |[]=>ZP _
 |d::l=>by
  have:=uU l;unfold uS;split<;>simp<;>lia
abbrev dv(w:YV):Bool:=!w.params.followText "set-order"
def aB:Slot "set_iterator" "__next__" "set_iterator.__next__":=
 .of (owner:="set_iterator") (n:="__next__") (by rw[W6,XD];kernel_rfl) (by decide +kernel) (by decide +kernel) (by decide +kernel)
  (by first|exact .inl (by decide +kernel)|exact .inr (by decide +kernel)) (by rw[Wi];kernel_rfl)
def bF:entryFor table "set_iterator.__next__"=U Builtin.«set_iterator.__next__»:=entryFor_of_tree (by kernel_rfl)
def fG:Slot "set_iterator" "__iter__" "set_iterator.__iter__":=
 .of (owner:="set_iterator") (n:="__iter__") (by rw[W6,XD];kernel_rfl) (by decide +kernel) (by decide +kernel) (by decide +kernel)
  (by first|exact .inl (by decide +kernel)|exact .inr (by decide +kernel)) (by rw[Wi];kernel_rfl)
def jw:entryFor table "set_iterator.__iter__"=U Builtin.«dict_keyiterator.__iter__»:=
 entryFor_alias (id':="dict_keyiterator.__iter__") (by kernel_rfl) rfl (by decide +kernel) (by kernel_rfl)
def gg:entryFor table "set.__iter__"=U Builtin.«frozenset.__iter__»:=
 entryFor_alias (id':="frozenset.__iter__") (by kernel_rfl) rfl (by decide +kernel) (by kernel_rfl)
def bV(a:Z3):argsOk "set_iterator.__next__" ⟨[a],[]⟩:=by
 unfold argsOk;kernel_rfl
def kT(a:Z3):argsOk "set_iterator.__iter__" ⟨[a],[]⟩:=by
 unfold argsOk;kernel_rfl
def cb{q:Type}{l:Z_ q}{i:Nat}(h:i<l.length):(l[i]::l.eraseIdx i).Perm l:=by
 rw[Xk];refine List.perm_middle.symm.trans ?_;rw[<-Zx h,XN]
theorem iq{q:Type}:∀(n:Nat)(xs:Z_ q)(s:ZT)(Q:Z_ q->ZT->Prop),xs.length=n->
  (∀ys d,ys.Perm xs->Q ys {s with drawn:=d})->wpAny (model prog w) A (drawOrder n xs) Q E s
 |0,xs,s,Q,hl,hQ=>by
  have:xs=[]:=Yx.mp hl;subst this;unfold drawOrder;exact Z4 (hQ [] s.drawn (YQ _))
 |n+1,[],s,Q,hl,hQ=>by trivial
 |n+1,x::xs,s,Q,hl,hQ=>by
  unfold drawOrder;refine Z8 (Q:=Q) ?_;intro Γ p hΓ;refine⟨by simp,?_⟩;generalize hd:s.drawn.bump .order=d1;generalize hi:(model prog w).w.draws .order (s.drawn.get .order)%(x::xs).length=i;have ka:i<(x::xs).length:=by rw[<-hi];exact Nat.mod_lt _ (by simp)
  have key:wpAny (model prog w) A (match(x::xs)[i]? with|some y=>(do return y::(<-drawOrder n ((x::xs).eraseIdx i)))|none=>unsupported "internal:drawOrder") Q E {s with drawn:=d1}:=by
   rw[YX ka];dsimp only;refine Z8 (iq n ((x::xs).eraseIdx i) _ _ (by rw[List.length_eraseIdx_of_lt ka,hl];rfl) λys d hp=>?_);refine Z4 (hQ _ d ?_);exact(List.Perm.cons _ hp).trans (cb ka)
  exact key
theorem sI{q:Type}(f:Nat->Nat):∀(fuel k:Nat)(left:Z_ q)(out:Array q),fuel=left.length->(pickOrder.go f fuel k left out).toList.Perm (out.toList++left)
 |0,k,left,out,h=>by
  have:left=[]:=Yx.mp h.symm;subst this;unfold pickOrder.go;simp
 |fuel+1,k,left,out,h=>by
  unfold pickOrder.go;have ka:f k%left.length<left.length:=Nat.mod_lt _ (by lia);rw[YX ka];dsimp only;refine(sI f fuel (k+1) _ _ (by rw[List.length_eraseIdx_of_lt ka];lia)).trans ?_;rw[YB,Zg];exact List.Perm.append_left _ (cb ka)
def ud{q:Type}(f:Nat->Nat)(xs:Array q):(pickOrder f xs).toList.Perm xs.toList:=by
 unfold pickOrder;simpa using sI f xs.size 0 xs.toList #[] (by simp)
def wQ{es:Z_ (Int×Z3)}{order:Z_ Nat}(h:order.Perm (List.range es.length)):(order.filterMap (es[·]?)).Perm es:=by
 have h1:=h.filterMap (es[·]?);rwa[List.filterMap_getElem?_range_length]at h1
structure aaC (h:Heap)(S:ZM)(es:List (Int×Z3))(ep:Nat)(t:SetTable):Prop where
 ob:∃o,h.get? S=some o/\o.ExactSet/\o.data=.set es.toArray ep t
 fits:t.fits es.toArray.size=true
def aaC.at{h h':Heap}(x:aaC h S es ep t)(k:∀o,h.get? S=U o->h'.get? S=U o):aaC h' S es ep t:=by
 obtain⟨⟨o,ho,r⟩,a⟩:=x;exact⟨⟨o,k o ho,r⟩,a⟩
def aaD(h:Heap)(I:ZM)(first:Z3)(i:Nat)(S:ZM)(n ep:Nat):Prop:=∃o,h.get? I=U o/\o.cls=.type "set_iterator"/\o.data=.fields #[first,rawInt i,.ref S,rawInt n,rawInt ep]
def aaD.typeIs{s:ZT}(x:aaD s.heap I first i S n ep):s.TypeIs (.ref I) "set_iterator":=by
 obtain⟨o,ho,hc,_⟩:=x;exact⟨o,ho,hc⟩
def aaD.at{h h':Heap}(x:aaD h I first i S n ep)(k:∀o,h.get? I=U o->h'.get? I=U o):aaD h' I first i S n ep:=by
 obtain⟨o,ho,r⟩:=x;exact⟨o,k o ho,r⟩
section
variable{A:Y9}{s:ZT}{es:Z_ (Int×Z3)}
def kR{sl nx:Nat}{v:Z3}{Q:Z9 Z3->ZT->Prop}(D_:S≠I)(it:aaD s.heap I (rawInt sl) i S es.length ep)(st:aaC s.heap S es ep t)
  (hn:∀(s:ZT)(R:Z9 (Z3×Nat)->ZT->Prop)(E:Z3->ZT->Prop),aaC s.heap S es ep t->R (U (v,nx)) s->wpAny (model prog w) A.in1 (setNext S sl i ep) R E s)
  (hQ:∀h',aaD h' I (rawInt nx) (i+1) S es.length ep->(∀b o,b≠I->s.heap.get? b=U o->h'.get? b=U o)->Q (U v) {s with heap:=h'}):wpAny (model prog w) A (pyNext (.ref I)) Q E s:=by
 have hT:=it.typeIs;obtain⟨o,ho,hc,hd⟩:=it;unfold pyNext;refine Z8 (XT (YF (name:=Str.ofString "__next__") hT aB (Y2 aB hT bF ?_ (bV _))));unfold Builtin.«set_iterator.__next__»;refine Z8 (m:=slotArgs "__next__" 0 _) (Z4 ?_);dsimp only;refine Z8 (WT ho hd ?_);dsimp only[rawInt];obtain⟨os,IY,hex,Jk⟩:=st.ob;refine Z8 (Xr IY Jk st.fits ?_);refine dF (by simp) ?_;simp only[Int.toNat_natCast];refine Z8 (hn s _ _ st ?_);dsimp only;refine Z8 (Yi ho hd (by simp) ?_);have g1:=Zk (Obj.mapFields (·.setIfInBounds 0 (rawInt nx))) ho (X4 (Y7 hd _));refine Z8 (Yi g1 (Y7 hd _) (by simp) ?_);have g2:=Zk (Obj.mapFields (·.setIfInBounds 1 (rawInt ((i:Int)+1)))) g1 (X4 (Y7 (Y7 hd _) _));refine Z4 ⟨_,rfl,Z4 (hQ _ ?_ ?_)⟩;exact⟨_,g2,(Xe ..).trans ((Xe ..).trans hc),by rw[Y7 (Y7 hd _)];simp[rawInt]⟩;intro b o' hb e;exact(Zn _ _ (ZC hb)).trans ((Zn _ _ (ZC hb)).trans e)
def jA{ps:Z_ Nat}{Q:Z9 Z3->ZT->Prop}(D_:S≠I)(it:aaD s.heap I (.ref T) i S es.length ep)(st:aaC s.heap S es ep t)(ht:∃o n,s.heap.get? T=U o/\o.data=.seq (ps.map λ(k:Nat)=>rawInt k).toArray n)(hp:ps[i]?=U p)(he:es[p]?=U e)(hQ:∀h',aaD h' I (.ref T) (i+1) S es.length ep->(∀b o,b≠I->s.heap.get? b=U o->h'.get? b=U o)->Q (U e.2) {s with heap:=h'}):wpAny (model prog w) A (pyNext (.ref I)) Q E s:=by
 have hT:=it.typeIs;obtain⟨o,ho,hc,hd⟩:=it;unfold pyNext;refine Z8 (XT (YF (name:=Str.ofString "__next__") hT aB (Y2 aB hT bF ?_ (bV _))));unfold Builtin.«set_iterator.__next__»;refine Z8 (m:=slotArgs "__next__" 0 _) (Z4 ?_);dsimp only;refine Z8 (WT ho hd ?_);dsimp only[rawInt];obtain⟨os,IY,hex,Jk⟩:=st.ob;refine Z8 (Xr IY Jk st.fits ?_);refine dF (by simp) ?_;simp only[Int.toNat_natCast];obtain⟨oT,nT,Qs,QC⟩:=ht;refine Z8 (Yr Qs QC ?_);dsimp only;have e1:(ps.map λ(k:Nat)=>rawInt k).toArray[i]?=U (rawInt p):=by simp[hp]
 rw[e1];dsimp only[rawInt];simp only[Int.toNat_natCast];refine Z8 ?_;unfold setNextDrawn;refine Z8 (XA IY Jk st.fits ?_);dsimp only;refine dF (by simp) ?_;have e2:es.toArray[p]?=U e:=by simp[he]
 rw[e2];dsimp only;refine Z4 ?_;refine Z8 (Yi ho hd (by simp) ?_);have g2:=Zk (Obj.mapFields (·.setIfInBounds 1 (rawInt ((i:Int)+1)))) ho (X4 (Y7 hd _));refine Z4 ⟨_,rfl,Z4 (hQ _ ?_ ?_)⟩;exact⟨_,g2,(Xe ..).trans hc,by rw[Y7 hd];simp[rawInt]⟩;intro b o' hb e;exact(Zn _ _ (ZC hb)).trans e
def mh{sl:Nat}{Q:Z9 Z3->ZT->Prop}(hh:A.handled=M)(it:aaD s.heap I (rawInt sl) i S es.length ep)(st:aaC s.heap S es ep t)
  (hn:∀(s:ZT)(R:Z9 (Z3×Nat)->ZT->Prop)(E:Z3->ZT->Prop),aaC s.heap S es ep t->R M s->wpAny (model prog w) A.in1 (setNext S sl i ep) R E s)
  (hQ:∀h',(∀b o,b≠I->s.heap.get? b=U o->h'.get? b=U o)->Q M {s with heap:=h'}):wpAny (model prog w) A (pyNext (.ref I)) Q E s:=by
 have hT:=it.typeIs;obtain⟨o,ho,hc,hd⟩:=it;unfold pyNext;refine Z8 (XT (YF (name:=Str.ofString "__next__") hT aB (Y2 aB hT bF ?_ (bV _))));unfold Builtin.«set_iterator.__next__»;refine Z8 (m:=slotArgs "__next__" 0 _) (Z4 ?_);dsimp only;refine Z8 (WT ho hd ?_);dsimp only[rawInt];obtain⟨os,IY,hex,Jk⟩:=st.ob;refine Z8 (Xr IY Jk st.fits ?_);refine dF (by simp) ?_;simp only[Int.toNat_natCast];refine Z8 (hn s _ _ st ?_);dsimp only;refine Z8 (Yi ho hd (by simp) ?_);refine Z8 ?_;simp only[newExc,newTuple];refine Z8 (Y0 ?_ (by size_fits));refine Z8 (m:=firstArgMember _ _) (Wl (a:=Value.none) (by first|rfl|(simp only[firstArgMember];rfl)) ?_);refine Y0 ?_ (by size_fits);simp only[raiseNew];refine Z8 (wpAny_handled ?_);rw[show A.in1.handled=M from hh];refine Z8 (Z4 (wpAny_throw ?_));refine Z8 (X_ (T:="StopIteration") (b:=L) ⟨_,ZN _ rfl,rfl⟩ WR ?_);exact Z4 (hQ _ λb o' hb e=>Z5 _ (Z5 _ ((Zn _ _ (ZC hb)).trans e)))
def kP{ps:Z_ Nat}{Q:Z9 Z3->ZT->Prop}(hh:A.handled=M)(it:aaD s.heap I (.ref T) i S es.length ep)(st:aaC s.heap S es ep t)(ht:∃o n,s.heap.get? T=U o/\o.data=.seq (ps.map λ(k:Nat)=>rawInt k).toArray n)(hp:ps[i]?=M)(hQ:∀h',(∀b o,b≠I->s.heap.get? b=U o->h'.get? b=U o)->Q M {s with heap:=h'}):wpAny (model prog w) A (pyNext (.ref I)) Q E s:=by
 have hT:=it.typeIs;obtain⟨o,ho,hc,hd⟩:=it;unfold pyNext;refine Z8 (XT (YF (name:=Str.ofString "__next__") hT aB (Y2 aB hT bF ?_ (bV _))));unfold Builtin.«set_iterator.__next__»;refine Z8 (m:=slotArgs "__next__" 0 _) (Z4 ?_);dsimp only;refine Z8 (WT ho hd ?_);dsimp only[rawInt];obtain⟨os,IY,hex,Jk⟩:=st.ob;refine Z8 (Xr IY Jk st.fits ?_);refine dF (by simp) ?_;simp only[Int.toNat_natCast];obtain⟨oT,nT,Qs,QC⟩:=ht;refine Z8 (Yr Qs QC ?_);dsimp only;have e1:(ps.map λ(k:Nat)=>rawInt k).toArray[i]?=M:=by simpa using hp
 rw[e1];dsimp only;refine Z8 (Yi ho hd (by simp) ?_);have g1:=Zk (Obj.mapFields (·.setIfInBounds 0 (rawInt 0))) ho (X4 (Y7 hd _));refine Z8 (Yi g1 (Y7 hd _) (by simp) ?_);refine Z8 ?_;simp only[newExc,newTuple];refine Z8 (Y0 ?_ (by size_fits));refine Z8 (m:=firstArgMember _ _) (Wl (a:=Value.none) (by first|rfl|(simp only[firstArgMember];rfl)) ?_);refine Y0 ?_ (by size_fits);simp only[raiseNew];refine Z8 (wpAny_handled ?_);rw[show A.in1.handled=M from hh];refine Z8 (Z4 (wpAny_throw ?_));refine Z8 (X_ (T:="StopIteration") (b:=L) ⟨_,ZN _ rfl,rfl⟩ WR ?_);exact Z4 (hQ _ λb o' hb e=>Z5 _ (Z5 _ ((Zn _ _ (ZC hb)).trans ((Zn _ _ (ZC hb)).trans e))))
def vH{Q:Z3->ZT->Prop}(it:aaD s.heap I first i S n ep)(hQ:Q (.ref I) s):wpAny (model prog w) A (pyIter (.ref I)) Q E s:=by
 refine wpAny_pyIter_slot it.typeIs fG (Y2 fG it.typeIs jw ?_ (kT _));show wpAny _ _ (ret (.ref I)) _ _ s;exact Z4 ⟨_,rfl,"set_iterator",_,it.typeIs,aB.lookup,hQ⟩
end
section
variable{w:YV}{s:ZT}
theorem iw(a:ZM)(slot given Jt:Nat):setNext a slot given Jt=(do
  let (es,OQ,t) <-setState a
  if <-setsByText then
   if OQ != Jt then unsupported "set_iterator.__next__:elements-changed"
   return ((<-setWalk a)[given]?).map λe=>(e.2,slot)
  if !t.plain&&es.size>1 then unsupported "set_iterator.__next__:the-table-is-plain-no-more"
  (if(!t.led&&!es.isEmpty)=L then unsupported "set:maker-not-led" else pure ():Sem Unit)
  let i:=SetTable.below t.place slot
  return match es[i]?,t.place[i]? with
   |some (_,x),some j=>U (x,j+1)
   |_,_=>M):=rfl
def k7(hb:w.params.followText "set-order"=L)(st:aaC s.heap S es ep t)(h:R (((pickOrder (w.params.setOrder S ep) es.toArray)[i]?).map λe=>(e.2,sl)) s):wpAny (model prog w) A (setNext S sl i ep) R E s:=by
 obtain⟨os,IY,hex,Jk⟩:=st.ob;rw[iw];refine Z8 (XA IY Jk st.fits ?_);dsimp only;unfold setsByText;refine Z8 (Z8 (Xx (Z4 ?_)));show wpAny _ _ (if w.params.followText "set-order"=L then _ else _) _ _ _;rw[ZR hb,ZK (by simp)];refine Z8 ?_;unfold setWalk setsByText;refine Z8 (XA IY Jk st.fits ?_);dsimp only;refine Z8 (Z8 (Xx (Z4 ?_)));show wpAny _ _ (if w.params.followText "set-order"=L then _ else _) _ _ _;refine fN hb ?_;refine Z8 (Xx (Z4 ?_));exact Z4 h
def kF(hb:w.params.followText "set-order"=Y)(st:aaC s.heap S es ep t)(Jo:t.led=L)(hpl:(!t.plain&&decide (es.toArray.size>1))=Y)(h:R (match es.toArray[SetTable.below t.place sl]?,t.place[SetTable.below t.place sl]? with|some (_,x),some j=>U (x,j+1)|_,_=>M) s):wpAny (model prog w) A (setNext S sl i ep) R E s:=by
 obtain⟨os,IY,hex,Jk⟩:=st.ob;rw[iw];refine Z8 (XA IY Jk st.fits ?_);dsimp only;unfold setsByText;refine Z8 (Z8 (Xx (Z4 ?_)));show wpAny _ _ (if w.params.followText "set-order"=L then _ else _) _ _ _;rw[ZK (by rw[hb];exact Zr),ZK (by rw[hpl];exact Zr),ZK (by rw[Jo];simp)];refine Z8 (Z4 ?_);exact Z4 h
end
def ko(t:SetTable)(i:Nat):Nat:=match i with|0=>0|k+1=>t.place.getD k 0+1
def fH(h1:t.place.size<=1)(hi:i<=t.place.size):SetTable.below t.place (ko t i)=i:=by
 obtain⟨m,⟨l⟩,d,f,le,mo,pl⟩:=t
 match l,h1 with
 |[],_=>cases Nat.le_zero.mp hi;rfl
 |[p],_=>
  match i,hi with
  |0,_=>simp[SetTable.below,SetTable.below.go,ko]
  |1,_=>simp[SetTable.below,SetTable.below.go,ko]
section
variable{A:Y9}{E:Z3->ZT->Prop}{s:ZT}{es:Z_ (Int×Z3)}
def lD{vs:Z_ Z3}{nx:Nat->Nat}(hl:vs.length=es.length)(U0:∀i (hi:i<vs.length) (s:ZT) (R:Z9 (Z3×Nat)->ZT->Prop) (E:Z3->ZT->Prop),aaC s.heap S es ep t->R (U (vs[i],nx (i+1))) s->wpAny (model prog w) A.in1 (setNext S (nx i) i ep) R E s)(Rm:∀(s:ZT)(R:Z9 (Z3×Nat)->ZT->Prop)(E:Z3->ZT->Prop),aaC s.heap S es ep t->R M s->wpAny (model prog w) A.in1 (setNext S (nx es.length) es.length ep) R E s)(hh:A.handled=M)(D_:S≠I):
  Walks prog w A I [I,S] [I] es.length (λi v=>vs[i]?=U v) (λi h=>aaD h I (rawInt (nx i)) i S es.length ep/\aaC h S es ep t) where
 sub:=λb hb=>by simp at hb;simp[hb]
 frame:=λ_ _ _ st hk=>⟨st.1.at λo e=>hk I (by simp) o e,st.2.at λo e=>hk S (by simp) o e⟩
 item:=λi s Q E hi st hQ=>kR D_ st.1 st.2 (U0 i (by lia)) λh' LP k=>
  hQ _ h' s.toks (YX _) ⟨LP,st.2.at λo e=>k S o D_ e⟩ λb o hb e=>k b o (λz=>hb (by simp[z])) e
 done:=λs Q E st hQ=>mh hh st.1 st.2 Rm λh' k=>hQ h' s.toks λb o hb e=>k b o (λz=>hb (by simp[z])) e
 self:=λ_ _ _ _ st hQ=>vH st.1 hQ
def me{ps:Z_ Nat}(hp:ps.Perm (List.range es.length))(hh:A.handled=M)(D_:S≠I)(VF:T≠I):Walks prog w A I [I,S,T] [I] es.length (λi v=>((ps.filterMap (es[·]?)).map (·.2))[i]?=U v)
  (λi h=>aaD h I (.ref T) i S es.length ep/\aaC h S es ep t/\∃o n,h.get? T=U o/\o.data=.seq (ps.map λ(k:Nat)=>rawInt k).toArray n) where
 sub:=λb hb=>by simp at hb;simp[hb]
 frame:=λ_ _ _ st hk=>⟨st.1.at λo e=>hk I (by simp) o e,st.2.1.at λo e=>hk S (by simp) o e,by obtain⟨o,n,e,r⟩:=st.2.2;exact⟨o,n,hk T (by simp) o e,r⟩⟩
 item:=λi s Q E hi st hQ=>by
  have hpl:=hp.length_eq;rw[Xm]at hpl;have LI:i<ps.length:=by lia
  have Qq:ps[i]<es.length:=Ym.mp (hp.mem_iff.mp (XB LI));refine jA (ps:=ps) (p:=ps[i]) (e:=es[ps[i]]) D_ st.1 st.2.1 st.2.2 (by simp[LI]) (by simp[Qq]) λh' LP k=>?_;refine hQ _ h' s.toks ?_ ⟨LP,st.2.1.at λo e=>k S o D_ e,by obtain⟨o,n,e,r⟩:=st.2.2;exact⟨o,n,k T o VF e,r⟩⟩ λb o hb e=>k b o (λz=>hb (by simp[z])) e;have e1:ps.filterMap (es[·]?)=ps.map λk=>es.getD k (0,.none):=by
   have JM:∀k∈ps,k<es.length:=λk hk=>Ym.mp (hp.mem_iff.mp hk);clear hpl LI Qq hp hi hQ st
   induction ps with
   |nil=>rfl
   |cons k ps ih=>
    have hk:=JM k (ZZ ..);rw[List.filterMap_cons,YX hk,Z2,ih λz hz=>JM z (Z1 _ hz)];simp[hk]
  rw[e1];simp[LI,Qq]
 done:=λs Q E st hQ=>by
  have hpl:=hp.length_eq;rw[Xm]at hpl;exact kP hh st.1 st.2.1 st.2.2 (by rw[YL (by lia)]) λh' k=>hQ h' s.toks λb o hb e=>k b o (λz=>hb (by simp[z])) e
 self:=λ_ _ _ _ st hQ=>vH st.1 hQ
end
theorem nH(a:ZM):setDrawn a=(do
  let (es,_,t) <-setState a
  let Nc <-setsByText
  return !Nc&&(!t.plain&&es.size>1)):=rfl
def r9:typeLookup (.type "set") "__len__"=pure (U (.builtin "set.__len__")):=F.slot_set_len.lookup
section
variable{A:Y9}
def xZ(st:aaC s.heap S es ep t)(Jo:t.led=dv w)(hpl:es.length<=1\/t.plain=Y)(hn:es.length<=1000){Q:Z3->ZT->Prop}(hQ:∀(I:ZM)(vs:Z_ Z3)(fp:Z_ ZM)(St:Nat->Heap->Prop)(h':Heap)(d:Drawn),vs.Perm (es.map (·.2))->(∀A':Y9,A'.handled=M->Walks prog w A' I fp [I] es.length (λi v=>vs[i]?=U v) St)->St 0 h'->
   (∀b o,s.heap.get? b=U o->h'.get? b=U o)->s.heap.objs.size<=I->I∈fp->(∀b∈fp,b=S\/s.heap.objs.size<=b)->Q (.ref I) {s with heap:=h',drawn:=d}):wpAny (model prog w) A (pyIter (.ref S)) Q E s:=by
 obtain⟨os,IY,hex,Jk⟩:=id st.ob;have hT:s.TypeIs (.ref S) "set":=⟨os,IY,hex.1⟩;have KL:S<s.heap.objs.size:=ZV IY;refine wpAny_pyIter_slot hT F.slot_set_iter (Y2 F.slot_set_iter hT gg ?_ (F.args_set_iter_1 _));unfold Builtin.«frozenset.__iter__» Builtin.Frozenset.slot0 slotArgs;simp only[List.isEmpty_nil,YA,ZI,↓reduceIte,bind_assoc,fU,bne_self_eq_false];unfold Builtin.Frozenset.addrOf Builtin.Frozenset.sizeOf;refine Z8 (Z4 ?_)
 try dsimp only
 refine Z8 (Z4 ?_);refine Z8 (Z8 (Xr IY Jk st.fits (Z4 ?_)));refine Z8 ?_;rw[nH];refine Z8 (XA IY Jk st.fits ?_);dsimp only;refine Z8 ?_;unfold setsByText;refine Z8 (Xx (Z4 ?_));refine Z4 ?_;have hsz:es.toArray.size=es.length:=by simp
 show wpAny _ _ (if(!w.params.followText "set-order"&&(!t.plain&&decide (es.toArray.size>1)))=L then _ else _) _ _ _;by_cases ME:(!w.params.followText "set-order"&&(!t.plain&&decide (es.toArray.size>1)))=L;refine fN ME ?_;refine Z8 (iq es.toArray.size (List.range es.toArray.size) s _ (by simp) λps d hp=>?_);rw[hsz]at hp⊢;have hpl:=hp.length_eq;rw[Xm]at hpl;unfold newTuple;refine Z8 (Y0 ?_ (by show(ps.map λ(i:Nat)=>rawInt i).toArray.size<=sizeLine;rw[X0];simp;lia));have g1:(s.heap.push {cls:=.type "tuple",data:=.seq (ps.map λ(i:Nat)=>rawInt i).toArray}).get? S=U os:=Z5 _ IY;refine Z8 (wpAny_setEpoch_of (s:={s with heap:=s.heap.push {cls:=.type "tuple",data:=.seq (ps.map λ(i:Nat)=>rawInt i).toArray},drawn:=d}) g1 Jk st.fits ?_);unfold newFields;refine Z8 (Y0 ?_ (by size_fits));refine Z4 ⟨_,rfl,"set_iterator",_,⟨_,ZN _ rfl,rfl⟩,aB.lookup,?_⟩;have OY:(s.heap.push {cls:=.type "tuple",data:=.seq (ps.map λ(i:Nat)=>rawInt i).toArray}).objs.size=s.heap.objs.size+1:=YI ..;refine hQ (s.heap.push {cls:=.type "tuple",data:=.seq (ps.map λ(i:Nat)=>rawInt i).toArray}).objs.size ((ps.filterMap (es[·]?)).map (·.2)) [(s.heap.push {cls:=.type "tuple",data:=.seq (ps.map λ(i:Nat)=>rawInt i).toArray}).objs.size,S,s.heap.objs.size] _ _ d ((wQ hp).map _)
  (λA' Kh=>me (T:=s.heap.objs.size) (ps:=ps) (es:=es) (S:=S) (ep:=ep) (t:=t) hp Kh ?_ ?_) ?_ (λb o e=>Z5 _ (Z5 _ e)) ?_ (by simp) ?_
 rw[OY];exact Zs (Nat.lt_succ_of_lt KL);rw[OY];exact Zs (Yp _);exact⟨⟨_,ZN _ rfl,rfl,rfl⟩,st.at λo e=>Z5 _ (Z5 _ e),_,_,Z5 _ (ZN _ rfl),rfl⟩;rw[OY];exact Xd _;intro b hb;simp only[Z0,Zt,YK]at hb;rcases hb with rfl|rfl|rfl
 right;rw[OY];exact Xd _
 left;rfl
 right;exact ZP _
 refine dF ME ?_;refine Z8 (Z4 ?_);refine Z8 (wpAny_setEpoch_of IY Jk st.fits ?_);unfold newFields;refine Z8 (Y0 ?_ (by size_fits));refine Z4 ⟨_,rfl,"set_iterator",_,⟨_,ZN _ rfl,rfl⟩,aB.lookup,?_⟩;rw[hsz];have fin:∀(vs:Z_ Z3)(St:Nat->Heap->Prop),vs.Perm (es.map (·.2))->(∀A':Y9,A'.handled=M->Walks prog w A' s.heap.objs.size [s.heap.objs.size,S] [s.heap.objs.size] es.length (λi v=>vs[i]?=U v) St)->
   St 0 (s.heap.push {cls:=.type "set_iterator",data:=.fields [rawInt 0,rawInt 0,.ref S,rawInt es.length,rawInt ep].toArray})->
   Q (.ref s.heap.objs.size) {s with heap:=s.heap.push {cls:=.type "set_iterator",data:=.fields [rawInt 0,rawInt 0,.ref S,rawInt es.length,rawInt ep].toArray}}:=λvs St hp W h0=>by
  refine hQ s.heap.objs.size vs [s.heap.objs.size,S] St _ s.drawn hp W h0 (λb o e=>Z5 _ e) (ZP _) (by simp) λb hb=>?_;simp only[Z0,Zt,YK]at hb;rcases hb with rfl|rfl
  exact .inr (ZP _);exact .inl rfl
 cases NC:w.params.followText "set-order" with
 |true=>
  have pp:=(ud (w.params.setOrder S ep) es.toArray).map (·.2);have pl:=pp.length_eq;simp only[ZJ,Array.length_toList]at pl;refine fin _ _ (by simpa using pp) (λA' Kh=>lD (S:=S) (ep:=ep) (t:=t) (nx:=λ_=>0) (by simpa using pl) (λi hi s R E g_ hR=>k7 NC g_ ?_) (λs R E g_ hR=>k7 NC g_ ?_) Kh (Zs KL)) ⟨⟨_,ZN _ rfl,rfl,rfl⟩,st.at λo e=>Z5 _ e⟩;rw[YR (by simpa using hi)];simpa using hR;rw[XR (by simp[pl])];exact hR
 |false=>
  have K3:(!t.plain&&decide (es.toArray.size>1))=Y:=by
   rw[NC]at ME;simpa using ME
  have h1:es.length<=1:=by
   rcases hpl with h|h;exact h;rw[h]at K3;simpa using K3
  have hl:t.place.size=es.length:=by
   have:=st.fits;unfold SetTable.fits at this;rw[ZH,Zu,hsz]at this;exact this.1
  have hle:t.led=L:=by rw[Jo,dv,NC];rfl
  refine fin _ _ (YQ _) (λA' Kh=>lD (S:=S) (ep:=ep) (t:=t) (nx:=ko t) (by simp) (λi hi s R E g_ hR=>kF NC g_ hle K3 ?_) (λs R E g_ hR=>kF NC g_ hle K3 ?_) Kh (Zs KL)) ⟨⟨_,ZN _ rfl,rfl,rfl⟩,st.at λo e=>Z5 _ e⟩;have o_:i<es.length:=by simpa using hi
  have LI:i<t.place.size:=by lia
  rw[fH (by lia) (by lia),show es.toArray[i]?=U es[i] by simp[o_],YR LI];dsimp only;have:ko t (i+1)=t.place[i]+1:=by show t.place.getD i 0+1=_;simp[Array.getD,LI]
  rw[this]at hR;simpa using hR;rw[fH (by lia) (by lia),show es.toArray[es.length]?=M by simp];exact hR
def nV(hh:A.handled=M)(st:aaC s.heap S es ep t)(Jo:t.led=dv w)(hpl:es.length<=1\/t.plain=Y)(hn:es.length<=1000)(hQ:∀(vs:Z_ Z3)(h':Heap)(d:Drawn)(tk:Nat),vs.Perm (es.map (·.2))->(∀b o,s.heap.get? b=U o->h'.get? b=U o)->s.heap.objs.size<=h'.objs.size->Q vs {s with heap:=h',drawn:=d,toks:=tk}):wpAny (model prog w) A (collect (.ref S)) Q E s:=by
 obtain⟨os,IY,hex,Jk⟩:=id st.ob;have KL:S<s.heap.objs.size:=ZV IY;unfold collect;refine Z8 (wpAny_runValue (YU F.entry_proto_collect ?_));rw[Y8 F.plain_proto_collect _];show wpAny _ A.in1 (newList [] >>= λl=>again (.builtin "list.__iadd__" ⟨[l,.ref S],[]⟩)) _ _ s;refine Z8 (Y0 ?_);refine Z4 ⟨Yy F.plain_list_iadd _,YU F.entry_list_iadd ?_⟩;rw[Y8 F.plain_list_iadd _];generalize hL:s.heap.objs.size=Lq;have Rb:aaC (s.heap.push {cls:=.type "list",data:=.seq ([]:Z_ Z3).toArray}) S es ep t:=st.at λo e=>Z5 _ e;have g0:(s.heap.push {cls:=.type "list",data:=.seq ([]:Z_ Z3).toArray}).get? Lq=U {cls:=.type "list",data:=.seq ([]:Z_ Z3).toArray}:=by rw[<-hL];exact ZN _ rfl
 have N_:(s.heap.push {cls:=.type "list",data:=.seq ([]:Z_ Z3).toArray}).get? S=U os:=Z5 _ IY;have VG:Shared.TypeIs {s with heap:=s.heap.push {cls:=.type "list",data:=.seq ([]:Z_ Z3).toArray}} (.ref S) "set":=⟨os,N_,hex.1⟩
 show wpAny _ A.in1 (Builtin.List.listExtendWith (.ref Lq) (.ref S) (.ref Lq)) _ _ _;unfold Builtin.List.listExtendWith;refine Z8 (Xg VG ?_);have h1:Builtin.List.listSameRef (.ref Lq) (.ref S)=Y:=by simp[Builtin.List.listSameRef];rw[<-hL];exact Nat.ne_of_gt KL
 have h2:(Value.type "set"==Value.type "list")=Y:=by decide
 have h3:(Value.type "set"==Value.type "tuple")=Y:=by decide
 simp only[h1,h2,h3,Bool.or_false,ZI,Zb];refine Z8 (xZ (s:={s with heap:=s.heap.push {cls:=.type "list",data:=.seq ([]:Z_ Z3).toArray}}) Rb Jo hpl hn λI vs fp St h' d hp W QL hk hI hIf Vr=>?_);have QK:Shared.TypeIs {s with heap:=h',drawn:=d} (.ref S) "set":=⟨os,hk S os N_,hex.1⟩
 have gL:h'.get? Lq=U {cls:=.type "list",data:=.seq ([]:Z_ Z3).toArray}:=hk Lq _ g0;refine Z8 (Za ?_);unfold Builtin.List.listLengthHint;refine Z8 (X3 QK r9 ?_);generalize SO:("set.__len__":String)=UH
 wp_delta
 rw[show splitId UH=U ("set","__len__") from by subst SO;decide +kernel];subst SO;dsimp only;refine Z8 (X_ (b:=L) QK (by rw[Wi];kernel_rfl) ?_);refine dF (by decide) ?_;refine fN (by decide +kernel) ?_;refine Z8 (Xg QK ?_);dsimp only;refine Z4 ?_;refine fN (by decide +kernel) ?_;refine Z8 (YT ?_);refine Z8 ?_;show wpAny _ A.in1 (updateSeq Lq (·.push .none) >>= λ_=>updateSeq Lq (·.pop)) _ _ _;refine Z8 (Ye gL rfl ?_);have S_:=Zk (Obj.mapSeq (·.push Value.none)) gL rfl;refine Ye S_ rfl ?_;have V0:=Zk (Obj.mapSeq (·.pop)) S_ rfl;have JA:∀b o,b≠Lq->h'.get? b=U o->((h'.update Lq (Obj.mapSeq (·.push Value.none))).update Lq (Obj.mapSeq (·.pop))).get? b=U o:=
  λb o hb e=>(Zn _ _ (ZC hb)).trans ((Zn _ _ (ZC hb)).trans e)
 have WS:=(W A.in1 (by simp[hh])).toS;have VN:Lq≠S:=by rw[<-hL];exact Nat.ne_of_gt KL
 have S5:Lq∉fp:=λhm=>by
  rcases Vr Lq hm with e|e;exact VN e;have e2:s.heap.objs.size+1<=Lq:=by have:=e;rwa[YI]at this
  rw[hL]at e2;exact Zc _ e2
 refine Z4 ⟨Yy XQ _,codeAny_extend_loopS WS (by rw[X0];lia) Lq S5 _ es.length 0 _ _ _ rfl (Zo _)
  (WS.frame 0 ({s with heap:=h',drawn:=d}:ZT) _ s.toks QL (ZP _) λb hb o e=>JA b o (λh=>S5 (h▸hb)) e) V0 (ItemsOf.nil _) λs' l_ c' hm LW t_=>?_⟩
 show wpAny _ A (load Lq >>= _) _ _ s';refine Z8 (wpAny_load LW ?_);have e1:s'.gens=s.gens:=hm.gens;have e2:s'.drawn=d:=hm.drawn;have e3:s'.os=s.os:=hm.os;obtain⟨Vl,gg',Kz,T4,oo'⟩:=s';simp only at e1 e2 e3;subst e1;subst e2;subst e3;refine Z4 (hQ l_.toList Vl Kz T4 ?_ (λb o e=>?_) (by rw[hL];exact WM (ZV LW)));have:l_.toList=vs:=by
  have Sm:=hp.length_eq;rw[ZJ]at Sm;apply Xl;intro j;by_cases hj:j<l_.size;have:=t_.2 j l_[j] (by simp[hj]);rw[this];simp[hj];rw[YL (by simpa using hj),YL (by rw[Sm,<-t_.1];lia)]
 rw[this];exact hp;have SW:b≠Lq:=by rw[<-hL];exact Zs (ZV e)
 have Vz:b≠I:=λz=>by
  have h5:s.heap.objs.size+1<=I:=by have:=hI;rwa[YI]at this
  have:=ZV e;rw[z]at this;exact absurd (Zz (Nat.lt_succ_of_lt this) h5) (Zc _)
 refine hm.heap b o (by simp only[Z0,Zt,YK,Xq];exact⟨SW,Vz⟩) (JA b o SW (hk b o (Z5 _ e)))
end
def zW(t:SetTable)(es:Array (Int×Z3))(h:Int)(x:Z3):(layNew t es h x).2.1.led=t.led:=by
 unfold layNew;split
 .dsimp only
  unfold SetTable.orStandIn;split<;>rfl
 rfl
set_option tactic.hygienic true in
def vp(t:SetTable)(es:Array (Int×Z3))(n:Nat):(relayAll t es n).2.1.led=t.led/\(t.plain=Y->(relayAll t es n).2.1.plain=Y):=by
 unfold relayAll;split;rename_i t' order e;have:t'.led=t.led/\t'.plain=t.plain:=by
  unfold SetTable.relaid SetTable.laid at e;cases q:SetTable.layClean (SetTable.sizeAbove n - 1) (es.map (·.1))with
  |none=>rw[q]at e;trivial
  |some o=>rw[q]at e;cases e;exact⟨rfl,rfl⟩
 dsimp only;split;exact⟨this.1,λh=>this.2.trans h⟩;exact⟨rfl,λ_=>rfl⟩;exact⟨rfl,λ_=>rfl⟩
abbrev tE(w:YV)(p:Str×Tok):Int×Z3:=(hashStr w p.1,.str p.1 p.2)
def abh(w:YV)(h:Heap)(a:ZM)(ts:Z_ (Str×Tok)):Prop:=
 ∃o ep t,h.get? a=U o/\o.ExactSet/\o.data=.set (ts.map (tE w)).toArray ep t/\t.fits ts.length=L/\t.led=dv w/\(ts=[]\/t.plain=Y)
def abh.same(S:abh w h a ts)(k:∀o,h.get? a=U o->h'.get? a=U o):abh w h' a ts:=by
 obtain⟨o,ep,t,ho,r⟩:=S;exact⟨o,ep,t,k o ho,r⟩
section
def li{h:Heap}{t t':SetTable}{ts:Z_ (Str×Tok)}(ho:h.get? a=U o)(hex:o.ExactSet)(hd:o.data=.set es ep t)(hf:t'.fits ts.length=L)(hl:t'.led=dv w)(hp:t'.plain=Y):
  (h.update a (Obj.putSet (ts.map (tE w)).toArray t')).get? a=U {o with data:=.set (ts.map (tE w)).toArray (ep+1) t'}/\abh w (h.update a (Obj.putSet (ts.map (tE w)).toArray t')) a ts:=by
 have hg:=Zk (Obj.putSet (ts.map (tE w)).toArray t') ho (by rw[putSet_of _ t' hd];rfl);rw[putSet_of _ t' hd]at hg;exact⟨hg,_,ep+1,t',hg,hex,rfl,hf,hl,.inr hp⟩
def oQ{t t2:SetTable}{IT:Z_ (Str×Tok)}{R:Z9 Bool->ZT->Prop}(ho:s.heap.get? a=U o)(hex:o.ExactSet)(hd:o.data=.set es ep t)(e1:LM=(IT.map (tE w)).toArray)(hf:t2.fits LM.size=L)(hl:t2.led=dv w)(hp:t2.plain=Y)(hb:IT.length<4000)(h:∀h' Jz,Heap.SameBut a s.heap h'->Jz.Perm IT->abh w h' a Jz->R (U L) {s with heap:=h'}):
  wpAny (model prog w) A (do
    storeSet a LM t2
    if(!wd&&t2.tooFull)=L then do
      (match(relayAll t2 LM (SetTable.grown LM.size)).2.2 with|true=>rule "set.scan.the-table-gave-way"|false=>pure ())
      storeSet a (relayAll t2 LM (SetTable.grown LM.size)).1 (relayAll t2 LM (SetTable.grown LM.size)).2.1
      pure (U L)
     else pure (U L)) R E s:=by
 subst e1;have hsz:(IT.map (tE w)).toArray.size=IT.length:=by simp
 refine Z8 (wpAny_storeSet_of ho hd ?_ (by rw[hsz,X0];lia));obtain⟨g1,S1⟩:=li (w:=w) (ts:=IT) ho hex hd (hsz▸hf) hl hp;have sb:=Zd s.heap a (Obj.putSet (IT.map (tE w)).toArray t2);split
 .have Qr:=relayAll_perm t2 (IT.map (tE w)).toArray (SetTable.grown (IT.map (tE w)).toArray.size)
  have JW:=relayAll_fits t2 (IT.map (tE w)).toArray (SetTable.grown (IT.map (tE w)).toArray.size);obtain⟨l1,l2⟩:=vp t2 (IT.map (tE w)).toArray (SetTable.grown (IT.map (tE w)).toArray.size);generalize relayAll t2 (IT.map (tE w)).toArray (SetTable.grown (IT.map (tE w)).toArray.size)=Rl at Qr JW l1 l2⊢;obtain⟨V8,t3,gv⟩:=Rl;dsimp only at Qr JW l1 l2⊢;obtain⟨NJ,p2,e2⟩:=c4 (tE w) Qr IT rfl;obtain rfl:V8=(NJ.map (tE w)).toArray:=by rw[<-e2]
  have Pl:=p2.length_eq;have Qy:∀(b:Bool){e_:ZT}{Q':Unit->ZT->Prop},Q' () e_->wpAny (model prog w) A (match b with|true=>rule "set.scan.the-table-gave-way"|false=>pure ()) Q' E e_:=
   λb e_ Q' hq=>by cases b<;>first|exact Z4 hq|exact YT hq
  refine Z8 (Qy _ ?_);refine Z8 (wpAny_storeSet_of (s:={s with heap:=s.heap.update a (Obj.putSet (IT.map (tE w)).toArray t2)}) g1 rfl ?_ (by rw[X0];simp;lia));exact Z4 (h _ NJ (sb.trans (Zd _ a _)) p2 (li (w:=w) (ts:=NJ) g1 hex rfl (by simpa using JW) (l1.trans hl) (l2 hp)).2)
 exact Z4 (h _ IT sb (YQ _) S1)
def EY(S:abh w s.heap a ts)(hb:ts.length<100)(h:∀h' Jz b,Heap.SameBut a s.heap h'->abh w h' a Jz->(Jz=ts/\x∈ts.map (·.1)\/Jz.Perm ((x,tk)::ts)/\x∉ts.map (·.1))->Q b {s with heap:=h'}):wpAny (model prog w) A (setAddHashed a (.str x tk) (hashStr w x)) Q E s:=by
 have S0:=S;obtain⟨o,ep,t,ho,hex,hd,hf,Jo,hpl⟩:=S;have hsz:(ts.map (tE w)).toArray.size=ts.length:=by simp
 rw[<-hsz]at hf;have key:(PySem.strKind prog w).is x (.str x tk)=L:=by show(x==x)=L;simp
 have Pt:ElemsOf (PySem.strKind prog w) (ts.map (tE w)).toArray.toList:=λe he=>by
  obtain⟨p,_,rfl⟩:=ZQ.mp he;exact⟨⟨p.1,by show(p.1==p.1)=L;simp,rfl⟩,rfl⟩
 unfold setAddHashed setAddHashedIn;refine Za (Z8 (XA ho hd hf ?_));dsimp only;rw[byScan_of rfl (by unfold scanBound;lia) Pt];simp only[↓reduceIte];unfold setAddByScan;refine Z8 ?_;refine Z8 (YT ?_);refine Z8 (wpAny_setScan_of (knd:=PySem.strKind prog w) key ho hd hf Pt ?_);cases hr:List.findIdx? (λe=>(PySem.strKind prog w).is x e.2) (ts.map (tE w)).toArray.toList with
 |some j=>
  dsimp only;obtain⟨hj,UX,_⟩:=List.findIdx?_eq_some_iff_getElem.mp hr;have LR:j<ts.length:=by simpa using hj
  have e:ts[j].1=x:=by
   have h0:(PySem.strKind prog w).is x (Value.str ts[j].1 ts[j].2)=L:=by simpa using UX
   exact Zu.mp (show(ts[j].1==x)=L from h0)
  exact Z4 (Z4 (h s.heap ts Y (Heap.SameBut.refl a s.heap) S0 (.inl ⟨rfl,ZQ.mpr ⟨ts[j],XB LR,e⟩⟩)))
 |none=>
  dsimp only;have K4:x∉ts.map (·.1):=λhm=>by
   obtain⟨p,hp,e⟩:=ZQ.mp hm;have:=List.findIdx?_eq_none_iff.mp hr (tE w p) (ZQ.mpr ⟨p,hp,rfl⟩);have:(p.1==x)=Y:=this;rw[e]at this;simp at this
  have LC:=layNew_perm t (ts.map (tE w)).toArray (hashStr w x) (.str x tk);have Kp:=layNew_fits t (ts.map (tE w)).toArray (hashStr w x) (.str x tk);have Kv:=zW t (ts.map (tE w)).toArray (hashStr w x) (.str x tk);show wpAny _ _ (match layNew t (ts.map (tE w)).toArray (hashStr w x) (.str x tk)with|(es,t,wd,gv)=>_) _ _ _;generalize layNew t (ts.map (tE w)).toArray (hashStr w x) (.str x tk)=Lq at LC Kp Kv⊢;obtain⟨LM,t1,wd,gv⟩:=Lq;dsimp only at LC Kp Kv⊢;obtain⟨IT,p1,e1⟩:=c4 (tE w) LC (ts++[(x,tk)]) (by simp);have e1:LM=(IT.map (tE w)).toArray:=by rw[<-e1]
  have Qy:∀(b:Bool){e_:ZT}{Q':Unit->ZT->Prop},Q' () e_->wpAny (model prog w) A (match b with|true=>rule "set.scan.the-table-gave-way"|false=>pure ()) Q' E e_:=
   λb e_ Q' hq=>by cases b<;>first|exact Z4 hq|exact YT hq
  refine Z8 (Qy _ ?_);have hlen:=p1.length_eq;simp only[Zv,bG,fU]at hlen;have fin:∀h' Jz,Heap.SameBut a s.heap h'->Jz.Perm IT->abh w h' a Jz->wpAny (model prog w) A (pure L) Q E {s with heap:=h'}:=λh' Jz sb pp ST=>
   Z4 (h h' Jz L sb ST (.inr ⟨pp.trans (p1.trans (List.perm_append_singleton _ _)),K4⟩))
  split;refine Z8 ?_;rw[hashByValue_scannable 8 rfl];refine Z4 ?_;exact oQ ho hex hd e1 (SetTable.fits_plain_off Kp) (Kv.trans Jo) rfl (by lia) fin;rename_i hq;refine Z8 (Z4 ?_);simp only[↓reduceIte];exact oQ ho hex hd e1 Kp (Kv.trans Jo) (by simpa using hq) (by lia) fin
end
structure ab0 (w:YV)(h:Heap)(a:ZM)(done:List Str)(ts:List (Str×Tok)):Prop where
 at':abh w h a ts
 nd:(ts.map (·.1)).Nodup
 mem:∀x,x∈ts.map (·.1)↔x∈done
 len:ts.length<=done.length
section
variable{prog:Y5}{w:YV}{s:ZT}{A:Y9}{R:Result->ZT->Prop}{It:ZM}{fp wr:Z_ ZM}{G:Array GenState->Array GenState->Prop}{n:Nat}{P:Nat->Z3->Prop}{St:Nat->ZT->Prop}
def wx(W:WalksS prog w A.in1 It fp wr G n P St)(hG:∀a b,G a b->b=a)(S:ZM)(Px:S∉fp)(QL:s.heap.get? S=M)(UM:∀b∈wr,s.heap.get? b=M)(ss:Z_ Str)(hn:ss.length=n)(LL:n<64)(OA:∀(i:Nat) v x,P i v->ss[i]?=U x->∃tk,v=.str x tk):
  ∀(k i:Nat)(h:Heap)(tk:Nat)(ts:Z_ (Str×Tok)),n - i=k->i<=n->St i {s with heap:=h,toks:=tk}->(∀b o,s.heap.get? b=U o->h.get? b=U o)->ab0 w h S (ss.take i) ts->
   (∀h' Nl Jz,(∀b o,s.heap.get? b=U o->h'.get? b=U o)->ab0 w h' S ss Jz->R (.ok (.ret .none)) {s with heap:=h',toks:=Nl})->
   codeAny (model prog w) A (.builtin "set.update.loop" ⟨[.ref S,.ref It],[]⟩) R {s with heap:=h,toks:=tk}:=by
 have S4:S∉wr:=λh=>Px (W.sub _ h);have back:∀{h:Heap}{tk:Nat}{s':ZT},(∀b o,s.heap.get? b=U o->h.get? b=U o)->Moved wr G {s with heap:=h,toks:=tk} s'->s'={s with heap:=s'.heap,toks:=s'.toks}/\∀b o,s.heap.get? b=U o->s'.heap.get? b=U o:=λ{h tk s'} hk hm=>by
  have e1:s'.gens=s.gens:=hG _ _ hm.gens;have e2:s'.drawn=s.drawn:=hm.drawn;have e3:s'.os=s.os:=hm.os;refine⟨?_,λb o e=>?_⟩;obtain⟨h',g',d',t',o'⟩:=s';simp only at e1 e2 e3;subst e1;subst e2;subst e3;rfl;refine hm.heap b o (λhb=>?_) (hk b o e);rw[UM b hb]at e;trivial
 intro k
 induction k with
 |zero=>
  intro i h tk ts hk hi JC JT hF hR;have Jv:i=n:=by lia
  subst Jv;refine YU F.entry_set_update_loop ?_;rw[Y8 Wh _];show wpAny _ A.in1 (pyNext (.ref It) >>= _) _ _ _;refine Z8 (W.done _ _ _ JC λs' hm=>?_);obtain⟨es,Ke⟩:=back JT hm;show wpAny _ A.in1 (ret Value.none) _ _ s';rw[es];have e:=List.take_length (l:=ss);rw[hn]at e;rw[e]at hF;exact Z4 (hR s'.heap s'.toks ts Ke ⟨hF.at'.same λo e=>hm.heap S o S4 e,hF.nd,hF.mem,hF.len⟩)
 |succ k ih=>
  intro i h tk ts hk hi JC JT hF hR;have ka:i<n:=by lia
  refine YU F.entry_set_update_loop ?_;rw[Y8 Wh _];show wpAny _ A.in1 (pyNext (.ref It) >>= _) _ _ _;refine Z8 (W.item i _ _ _ ka JC λv s' hP OB hm=>?_);obtain⟨es,Ke⟩:=back JT hm;have SN:i<ss.length:=by lia
  obtain⟨tx,rfl⟩:=OA i v ss[i] hP (by simp[SN]);have K6:abh w s'.heap S ts:=hF.at'.same λo e=>hm.heap S o S4 e;have NA:=hF.len;rw[XC]at NA;have OJ:ss.take (i+1)=ss.take i++[ss[i]]:=by rw[List.take_succ];simp[SN]
  show wpAny _ A.in1 (holding [Value.str ss[i] tx] (setAdd S (.str ss[i] tx)) >>= _) _ _ s';refine Z8 (Za ?_);rw[es]at OB⊢;unfold setAdd;refine Za (Z8 (wpAny_pyHash_str ?_));refine EY (s:={s with heap:=s'.heap,toks:=s'.toks+1}) K6 (by lia) λh' Jz b Pf LW UZ=>?_;have Ko:∀b o,s.heap.get? b=U o->h'.get? b=U o:=λb o e=>by
   rw[Pf.2 b (λz=>by rw[z,QL]at e;trivial)];exact Ke b o e
  have F':ab0 w h' S (ss.take (i+1)) Jz:=by
   rw[OJ];rcases UZ with⟨rfl,MA⟩|⟨hp,MA⟩;refine⟨LW,hF.nd,λd=>?_,by simp;lia⟩;rw[hF.mem d,Zl,ZG];exact⟨.inl,λz=>z.elim id λe=>e▸(hF.mem _).mp MA⟩;have K3:=hp.map (·.1);have UY:=hp.length_eq;rw[bG]at UY;rw[Z2]at K3;refine⟨LW,?_,λd=>?_,by simp;lia⟩;rw[K3.nodup_iff,Y4];exact⟨MA,hF.nd⟩;rw[K3.mem_iff,Z0,hF.mem d,Zl,ZG];exact Or.comm
  refine Z4 ⟨Yy Wh _,ih (i+1) h' (s'.toks+1) Jz (by lia) ka ?_ Ko F' hR⟩;exact W.frame _ {s with heap:=s'.heap,toks:=s'.toks} _ _ OB (Xd _) λb hb o e=>by
   rw[Pf.2 b (λh:b=S=>Px (by rw[<-h];exact hb))];exact e
end
abbrev dC(led:Bool):Obj:={cls:=.type "set",dict:=M,data:=.set #[] 0 (.fresh 0 0 led)}
section
def lh(a:Z3)(h:Q₁ (.ref s.z) {s with heap:=s.heap.push (dC (dv w))}):
  codeAny (model prog w) A (.call (.builtin "set.__new__") ⟨[.type "set",a],[]⟩) (wants Q₁ E) s:=by
 refine codeAny_of_tree ?_;show wpAny _ A.in1 (do checkBuiltinCall "set.__new__" ⟨[.type "set",a],[]⟩;again (.builtin "set.__new__" ⟨[.type "set",a],[]⟩)) _ _ s;refine Z8 (Wl (F.newCall_set_1 a) (Z4 ⟨Yy F.plain_set_new _,YU F.entry_set_new ?_⟩));rw[Y8 F.plain_set_new _];unfold Builtin.«set.__new__» Builtin.Frozenset.newClass;have Li:=sub_set_self;obtain⟨hp,g,d,tk,os⟩:=s;dsimp only
 wp_walk
 refine Xx (Z4 ?_);dsimp only;simp only[newObj];refine Z8 (wpAny_alloc (Z4 ?_));exact Z4 h
end
section
variable{A:Y9}
def xO(e:h.get? a=U (dC (dv w))):ab0 w h a [] []:=
 ⟨⟨_,0,_,e,⟨rfl,rfl,rfl⟩,rfl,rfl,rfl,.inl rfl⟩,YY,λd=>Iff.rfl,ZP _⟩
def qJ(hh:A.handled=M)(hl:s.heap.IsList l items)(ss:Z_ Str)(hlen:ss.length=items.size)(LL:items.size<64)(Pt:∀(i:Nat) v x,items[i]?=U v->ss[i]?=U x->∃tk,v=.str x tk)(h:∀(h':Heap)(tk:Nat) ts,(∀b o,s.heap.get? b=U o->h'.get? b=U o)->ab0 w h' s.z ss ts->Q (.ref s.z) {s with heap:=h',toks:=tk}):
  wpAny (model prog w) A (call (.type "set") [.ref l]) Q E s:=by
 obtain⟨c,tl,hmro⟩:=Xv.mro;have Tv:=Xv.made;have Li:=Xv.sub;refine wpAny_call (codeAny_of_tree ?_);show wpAny _ _ (callAny (.type "set") _) _ _ _;refine Z4 ⟨Code.quiet_builtin _ (by decide +kernel),YU F.entry_type_call ?_⟩;rw[Around.under_plain (weight_type_call_type "set" [.ref l] []) rfl];have h1:=Xv.notType;have h2:=Xv.canCreate;have hct:=F.typeCall_set_1 (.ref l)
 repeat (any_goals (first|assumption|wp_step))
 refine WY (lh (.ref l) (E:=E) (Q₁:=λobj e_=>obj=.ref s.z/\e_={s with heap:=s.heap.push (dC (dv w))}) ⟨rfl,rfl⟩) λr e_ hr=>?_;cases r with
 |error e=>exact hr
 |ok fl=>
  cases fl with
  |ret obj=>
   obtain⟨rfl,rfl⟩:=hr;have hS:(s.heap.push (dC (dv w))).get? s.z=U (dC (dv w)):=ZN _ rfl;have hT:Shared.TypeIs {s with heap:=s.heap.push (dC (dv w))} (.ref s.z) "set":=⟨_,hS,rfl⟩
   have hli:=Xv.init.lookup;have hbi:=Xv.init.bind (.ref s.z)
   repeat (any_goals (first|assumption|wp_step))
   refine WY (codeAny_call_builtin (R:=wants (λr b_=>r=.none/\∃h' tk ts,b_={s with heap:=h',toks:=tk}/\ab0 w h' s.z ss ts/\
     (∀b o,s.heap.get? b=U o->h'.get? b=U o)) E) Xv.init.plain F.entry_set_init (check_set_init_1 hT ?_)) λQZ b_ LB=>?_
   .obtain⟨ol,Mx,JX,nl,Pu⟩:=hl
    obtain⟨ocls,OH,Tt,M8⟩:=ol;simp only at JX Pu;subst JX;subst Pu;have Rg:(s.heap.push (dC (dv w))).get? l=U {cls:=.type "list",dict:=OH,data:=.seq items nl,slots:=M8}:=Z5 _ Mx;have hsls:=F.sub_list_set;have hslf:=F.sub_list_frozenset;have D_:(Value.type "list"==Value.type "dict")=Y:=by decide
    have Kv:(s.heap.push (dC (dv w))).IsList l items:=⟨_,Rg,rfl,nl,rfl⟩;unfold Builtin.«set.__init__» noKeywords Builtin.Frozenset.updateFrom;generalize VJ:pyIter=PI
    wp_walk
    subst VJ;refine Xf Kv ?_;refine Z8 (wpAny_runValue ?_);have SD:l<s.z:=ZV Mx;have Vk:A.in1.in1.in1.handled=M:=by simp[hh]
    have Rj:l≠(s.heap.push (dC (dv w))).objs.size:=by
     rw[YI];exact Zs (Nat.lt_succ_of_lt SD)
    have Px:s.z∉[(s.heap.push (dC (dv w))).objs.size,l]:=by
     rw[YI];simp only[Z0,ZG,Zt,YK,Xq];exact⟨Zs (Yp _),Nat.ne_of_gt SD⟩
    have Ml:∀b,s.z<=b->s.heap.get? b=M:=λb hb=>by
     cases q:s.heap.get? b with
     |none=>rfl
     |some o=>exact absurd (ZV q) (Nat.not_lt.mpr hb)
    refine wx (s:=s) (w:=w) ((Walks.list Vk _ l Rj items).toS) ?_ s.z
     Px (Ml _ (ZP _)) ?_ ss hlen LL Pt (items.size - 0) 0 _ s.toks [] (by lia) (Zo _)
     ⟨⟨_,ZN _ rfl,rfl,rfl⟩,(Kv.push _)⟩ (λb o e=>Z5 _ (Z5 _ e)) ?_ ?_
    intro a b e;exact e;intro b hb;simp only[ZG]at hb;rw[hb,YI];exact Ml _ (Xd _);exact xO (Z5 _ hS);intro h' Nl ts hk hF;show wpAny _ _ _ _ _ _;refine Z4 ?_;show wpAny _ _ (ret Value.none) _ _ _;exact Z4 ⟨rfl,h',Nl,ts,rfl,hF,hk⟩
   .cases QZ with
    |error e=>exact LB
    |ok OP=>
     cases OP with
     |ret r=>
      obtain⟨rfl,h',tk,ts,rfl,hF,hk⟩:=LB
      repeat (any_goals (first|assumption|wp_step))
      exact h _ _ _ hk hF
     |_=>exact LB.elim
  |_=>exact hr.elim
end
variable[Lams]
theorem Inv.drawn(I:Inv X a_ q H s)(d:Drawn):Inv X a_ q H {s with drawn:=d}:=
 ⟨I.ok,I.os,I.bare,I.base,I.loc,I.cell,I.free,I.aaQ,I.pin,I.hok,I.len⟩
def wv(w:YV)(S:ZM)(us:Z_ Str):HO:=.ext λh=>∃ts:Z_ (Str×Tok),(ts.map (·.1)).Perm us/\abh w h S ts
def uk(hc:X.calm=L):fx X (.type "set") (λxs H Q=>∃(l:ZM)(ss:Z_ Str),xs=[.ref l]/\SqL X.K H l (ss.map V.str)/\ss.length<64/\
  ∀(S:ZM)(us:Z_ Str),H S=M->us.Nodup->(∀x,x∈us↔x∈ss)->us.length<=ss.length->Q (.ref S) (upd H S (wv X.w S us))):=by
 intro a_ s O H xs us Q I r h;obtain⟨l,ss,rfl,hq,LL,q⟩:=h;obtain⟨u,rfl,rx⟩:=hZ r;cases rx;obtain⟨its,rv,pl,hz⟩:=I.list hq;have l2:=rv.length;rw[ZJ]at l2;refine qJ (I.ok.hd hc) pl.isList ss (by simp;lia) (by simp;lia) (λi v x hv hd=>?_) λh' tk ts hk hF=>?_;obtain⟨u,Jj,ru⟩:=rv.get (show(ss.map V.str)[i]?=U (.str x) by simp[hd]);have:u=v:=by
  have:its[i]?=U v:=by simpa using hv
  rw[Jj]at this;exact Z7 this
 subst this;exact ru;refine⟨.ref s.z,_,I.laid (a:=s.z) (o:=wv X.w s.z (ts.map (·.1))) (h':=h') (t':=tk) hk (ZP _) ?_,rfl,q _ _ I.fresh hF.nd hF.mem (by simpa using hF.len)⟩;have S:=hF.at';obtain⟨o,ep,t,ho,r⟩:=hF.at';exact⟨⟨ts,YQ _,S⟩,⟨o,ho⟩,λh1 h2 ⟨Jz,p,a⟩ k=>⟨Jz,p,a.same k⟩⟩
@[simp] theorem aam:lim=1000000:=by decide
@[simp] theorem PK {q O:Type}(a:q)(f:q->Z9 O):af (U a) f=f a:=(rfl)
@[simp] theorem aar (d:D)(b:Bool):shO (U (d,b))=U d:=(rfl)
@[simp] theorem aat (ds:Z_ D):frO (U (.lst ds,L))=U (.lst ds):=(rfl)
@[simp] theorem VV (a:D)(l:Z_ D):aa (U a) (U l)=U (a::l):=(rfl)
@[simp] theorem VW (q:Mk)(k:Mk->Z9 Out):aC (U (.next q)) k=k q:=(rfl)
@[simp] theorem abK (d:D)(b:Bool)(k:Mk->Z9 Out):aC (U (.ret d b)) k=U (.ret d b):=(rfl)
@[simp] theorem aaE (x y:Z9 Out):ifO (U L) x y=x:=(rfl)
@[simp] theorem aaO (x y:Z9 Out):ifO (U Y) x y=y:=(rfl)
@[simp] theorem abe (d:D):dk (U d)=U (.ret d Y):=(rfl)
@[simp] theorem ab4 (d:D):dH (U d)=U (.ret d L):=(rfl)
@[simp] theorem abL (d:D)(b:Bool):qL (U (.ret d b))=U (d,b):=(rfl)
@[simp] theorem aav (q:Mk):aan q=U (.next q):=(rfl)
@[simp] theorem aag (i:Nat)(d:D)(q:Mk)(h:i<q.length):bC i (U d) q=U (.next (q.set i (U (d,Y)))):=by unfold bC;simp only[ZR h]
@[simp] theorem aaA (i:Nat)(d:D)(q:Mk)(h:i<q.length):dZ i (U d) q=U (.next (q.set i (U (d,L)))):=by unfold dZ;simp only[ZR h]
@[simp] theorem aae (i:Nat)(d:D)(q:Mk)(h:i<q.length):ae i d q=U (q.set i (U (d,Y))):=by unfold ae;simp only[ZR h]
@[simp] theorem aaF (q:Z_ D->Mk->Z9 Mk)(ds:Z_ D)(O:Mk):aL q (.tup ds) O=q ds O:=(rfl)
@[simp] theorem aaz (q:D->Mk->Z9 Mk)(O:Z_ D->Mk->Z9 Mk)(d:D)(ds:Z_ D)(Z:Mk):aj q O (d::ds) Z=af (q d Z) (O ds):=(rfl)
@[simp] theorem aaG (q:Mk):aah [] q=U q:=(rfl)
@[simp] theorem aa3 (i j:Int):ij (U (.int i)) (U (.int j))=U (.int (i+j)):=(rfl)
@[simp] theorem acR (i j:Int):FK (U (.int i)) (U (.int j))=U (.int (i - j)):=(rfl)
@[simp] theorem aaX (i j:Int)(h:(-(2 ^ 64)<i/\i<2 ^ 64)\/(-(2 ^ 64)<j/\j<2 ^ 64)):rH (U (.int i)) (U (.int j))=U (.int (i*j)):=Bt (by unfold Gu;exact Zw h)
@[simp] theorem aao (i j:Int)(h:0<j):cF (U (.int i)) (U (.int j))=U (.int (i%j)):=Bt (by unfold Ge;exact Zw h)
@[simp] theorem aa2 (i j:Int)(h:0<j/\j<1073741824):ot (U (.int i)) (U (.int j))=U (.int (i / j)):=Bt (by unfold GD;exact Zw h)
@[simp] theorem aax (ds:Z_ D)(h:ds.length<=lim):eY (U ds)=U (.tup ds):=by unfold eY;simp only[ZR h]
@[simp] theorem aas (ds:Z_ D)(h:ds.length<=lim):dg (U ds)=U (.lst ds):=by unfold dg;simp only[ZR h]
@[simp] theorem aai (ds:Z_ D):av (U ds)=U (.lst ds):=(rfl)
@[simp] theorem aaj (ds:Z_ D):bZ (U (.lst ds))=U ds:=(rfl)
@[simp] theorem abI (ds:Z_ D):yW (U (.tup ds))=U ds:=(rfl)
@[simp] theorem aby (ds:Z_ D):dw (U (.lst ds))=U (.tup ds):=(rfl)
@[simp] theorem aba (ds:Z_ D):hV (U (.lst ds))=U (.lst ds):=(rfl)
@[simp] theorem ab9 (ds:Z_ D):iG (U (.lst ds))=U (.int ds.length):=(rfl)
@[simp] theorem abM (ds:Z_ D):iG (U (.tup ds))=U (.int ds.length):=(rfl)
@[simp] theorem abg (ds:Z_ D)(i:Int):ixO (U (.lst ds)) (U (.int i))=atI ds i:=(rfl)
@[simp] theorem ab_ (ds:Z_ D)(i:Int):ixO (U (.tup ds)) (U (.int i))=atI ds i:=(rfl)
@[simp] theorem aa_ (i:Int):gO (U (.int i))=U (U i):=(rfl)
@[simp] theorem abb (ds:Z_ D)(l u:Z9 Int):mG (U (.lst ds)) (U l) (U u)=U (.lst (mj ds l u)):=(rfl)
@[simp] theorem abv (z:Str)(l u:Z9 Int)(h:z.length<=lim):mw (U (.str z)) (U l) (U u)=U (.str (vQ z l u)):=by unfold mw;simp only[ZR h]
@[simp] theorem abO (x y:Str)(h:x.length+y.length<=lim):AY (U (.str x)) (U (.str y))=U (.str (x++y)):=by unfold AY;simp only[ZR h]
@[simp] theorem acP (x y:Str):ya (U (.str x)) (U (.str y))=U (.int (Txt.find x y)):=(rfl)
@[simp] theorem abw (x y:Z_ D)(h:x.length+y.length<=lim):w8 (U (.lst x)) (U (.lst y))=U (.lst (x++y)):=by unfold w8;simp only[ZR h]
@[simp] theorem abf (b:Bool):eQ (U b)=U (!b):=(rfl)
@[simp] theorem acp (b:Bool):tyB (U (.bl b))=U b:=(rfl)
@[simp] theorem acV (b:Bool):ofB (U b)=U (.bl b):=(rfl)
@[simp] theorem acJ (y:Z9 Bool):orO (U L) y=U L:=(rfl)
@[simp] theorem abV (y:Z9 Bool):orO (U Y) y=y:=(rfl)
@[simp] theorem abN (y:Z9 Bool):tY (U L) y=y:=(rfl)
@[simp] theorem acx (y:Z9 Bool):tY (U Y) y=U Y:=(rfl)
def lf(x y:D)(h:ok2 x y=L):eqO (U x) (U y)=U (decide (x=y)):=by unfold eqO;simp only[ZR h]
@[simp] theorem aa0 (i j:Int):eqO (U (.int i)) (U (.int j))=U (decide (i=j)):=by
 rw[lf _ _ (by rfl)];simp only[D.int.injEq]
def Bv(x y:D)(h:ok2 x y=L):neO (U x) (U y)=U (!decide (x=y)):=by unfold neO;rw[lf _ _ h];rfl
def iI(j:Int)(h: -(2 ^ 62)<=j/\j<2 ^ 62):vN (U (.int j))=U (iJ 0 j.toNat):=by unfold vN;simp only[Zw h,Y1]
def B0(ns:Z_ Int):CF (U (.lst (ns.map D.int)))=U (.int ns.sum):=by
 have:dG (ns.map D.int)=U ns:=by
  induction ns with
  |nil=>rfl
  |cons n ns ih=>simp only[Z2,dG,ih]
 unfold CF;simp only[this]
def gC(d:D)(h:q[i]?=U (U (.lst ds,L)))(hl:ds.length<lim):ip i (U d) q=U (.next (q.set i (U (.lst (ds++[d]),L)))):=by
 unfold ip bQ;simp only[h,ZR hl]
@[simp] theorem aab (m:Bool)(d:D)(q:Mk):rd m 0 (U (d,Y)::q)=U d:=(rfl)
@[simp] theorem abt (d:D)(q:Mk):rd L 0 (U (d,L)::q)=U d:=(rfl)
@[simp] theorem aad (m:Bool)(i:Nat)(x:Z9 (D×Bool))(q:Mk):rd m (i+1) (x::q)=rd m i q:=(rfl)
@[simp] theorem abT (d:D)(q:Mk):bQ 0 (U (d,L)::q)=U d:=(rfl)
@[simp] theorem abS (i:Nat)(x:Z9 (D×Bool))(q:Mk):bQ (i+1) (x::q)=bQ i q:=(rfl)
@[simp] theorem aaZ (d:D)(b:Bool)(q:Mk):aaK 0 (U (d,b)::q)=U (d,Y)::q:=by cases b<;>rfl
@[simp] theorem aaY (i:Nat)(x:Z9 (D×Bool))(q:Mk):aaK (i+1) (x::q)=x::aaK i q:=by
 unfold aaK;rw[List.getElem?_cons_succ];split<;>simp_all
set_option tactic.hygienic true in
def B8(i:Nat)(d:D)(q:Mk):ip i (U d) q=(match bQ i q with|some (.lst ds)=>if ds.length<lim then U (.next (q.set i (U (.lst (ds++[d]),L)))) else M|_=>M):=by
 unfold ip;split;rename_i e1 e2;obtain rfl:=Z7 e2;rw[e1];rename_i h;split;rename_i ds e;exact absurd rfl (h ds d e);rfl
set_option tactic.hygienic true in
def yz(i:Nat)(es:Z_ D)(q:Mk):yu i (U (.lst es)) q=(match bQ i q with|some (.lst ds)=>if ds.length+es.length<=lim then U (.next (q.set i (U (.lst (ds++es),L)))) else M|_=>M):=by
 unfold yu;split;rename_i e1 e2;cases e2;rw[e1];rename_i h;split;rename_i ds e;exact absurd rfl (h ds es e);rfl
def B7(h:ds.length=np):bE n np g ds=qL (g (cE n ds)):=by unfold bE;rw[ZR h]
def am(hf:f=bE n np g)(hl:ds.length=np)(hs:cE n ds=d):f ds=qL (g d):=by subst hf hs;exact B7 hl
def kW{q:Type}{xs:Z_ q}{i:Int}(h0:0<=i)(h1:i<xs.length):∃v,v∈xs/\xs[i.toNat]?=U v/\atI xs i=U v:=by
 have hi:i.toNat<xs.length:=by lia
 refine⟨xs[i.toNat],XB hi,by simp[hi],?_⟩;have:=tK (xs:=xs) (j:=i.toNat) (v:=xs[i.toNat]) (by simp[hi]);rwa[Int.toNat_of_nonneg h0]at this
def zg{q:Type}{xs:Z_ q}{i:Int}{v:q}(h0:0<=i)(h:xs[i.toNat]?=U v):atI xs i=U v:=by
 have:=tK h;rwa[Int.toNat_of_nonneg h0]at this
theorem gU:∀{ds:Z_ D},(∀d∈ds,h d=U (U (g d)))->bq h ds=U (ds.map g)
 |[],_=>rfl
 |d::ds,e=>by
  unfold bq;rw[e d (ZZ ..),gU λx hx=>e x (Z1 _ hx)];rfl
theorem cZ{h:D->Z9 (Z9 D)}{P:D->D->Prop}:∀{ds:Z_ D},(∀d∈ds,∃y,h d=U (U y)/\P d y)->∃g:Z_ D,bq h ds=U g/\g.length=ds.length/\∀(i:Nat) d,ds[i]?=U d->∃y,g[i]?=U y/\P d y
 |[],_=>⟨[],rfl,rfl,λi d h=>by simp at h⟩
 |d::ds,e=>by
  obtain⟨y,e1,p⟩:=e d (ZZ ..);obtain⟨g,e2,hl,hp⟩:=cZ λx hx=>e x (Z1 _ hx);refine⟨y::g,?_,by simp[hl],λi z hz=>?_⟩;unfold bq;rw[e1,e2];cases i with
  |zero=>simp at hz;subst hz;exact⟨y,rfl,p⟩
  |succ i=>simpa using hp i z (by simpa using hz)
def aJ(h:ds.length<=lim):bR bo bs q ft fe O ds=bq (az q ft fe (au bo bs O)) ds:=by unfold bR;rw[ZR h]
theorem f7(I:Z_ D->Mk->Prop):∀(post pre:Z_ D)(O:Mk),I pre O->(∀p d q O,p++d::q=pre++post->I p O->∃h_,(body d O=U (.next h_)\/body d O=U (.cont h_))/\I (p++[d]) h_)->
  ∃h_,ar body post O=U (.next h_)/\I (pre++post) h_
 |[],pre,O,h,_=>⟨O,rfl,by simpa using h⟩
 |d::post,pre,O,h,st=>by
  obtain⟨q_,e1,i1⟩:=st pre d post O rfl h;obtain⟨h_,e',i'⟩:=f7 I post (pre++[d]) q_ i1 λp d' q O e i=>st p d' q O (by simpa using e) i;refine⟨h_,?_,by simpa using i'⟩;unfold ar;rcases e1 with e1|e1<;>rw[e1]<;>exact e'
def ei{lo:Int}(h:d∈iJ lo n):∃i:Nat,i<n/\d=.int (lo+i):=by
 unfold iJ at h;obtain⟨i,hi,e⟩:=ZQ.mp h;exact⟨i,Ym.mp hi,e.symm⟩
def bb(lo:Int)(n:Nat):(iJ lo n).length=n:=by unfold iJ;simp
def xw{lo:Int}(h:i<n):(iJ lo n)[i]?=U (.int (lo+i)):=by unfold iJ;simp[h]
def vi:∀(ts:Z_ Str),(Txt.join "" ts).length=(ts.map (·.length)).sum:=by
 intro ts;show(Builtin.Str.glued "" ts).length=_;rw[StrLaws.glued_eq_join]
 induction ts with
 |nil=>rfl
 |cons x r ih=>
  cases r with
  |nil=>show x.length=_;simp
  |cons y r=>
   show(x++("":Str)++Str.join "" (y::r)).length=_;rw[Str.length_append,Str.length_append,ih];have:Str.length ""=0:=by decide +kernel
   simp only[Z2,List.sum_cons];lia
def ui{P:D->D->Prop}{ds g:Z_ D}{Q:Str->Prop}(hl:g.length=ds.length)(h:∀(i:Nat) d,ds[i]?=U d->∃y,g[i]?=U y/\P d y)(hP:∀d y,P d y->∃x,y=.str x/\Q x):∃ss:Z_ Str,g=ss.map D.str/\∀x∈ss,Q x:=by
 have hy:∀y∈g,∃x,y=.str x/\Q x:=λy hy=>by
  obtain⟨i,hi,e⟩:=Wv.mp hy;obtain⟨z,ez,p⟩:=h i (ds[i]'(by lia)) (by simp[show i<ds.length by lia]);rw[YX hi]at ez;obtain rfl:=Z7 ez;rw[<-e];exact hP _ _ p
 clear h hl
 induction g with
 |nil=>exact⟨[],rfl,by simp⟩
 |cons y g ih=>
  obtain⟨x,e,q⟩:=hy y (ZZ ..);obtain⟨ss,e2,q2⟩:=ih λz hz=>hy z (Z1 _ hz);refine⟨x::ss,by rw[e,e2];rfl,λz hz=>?_⟩;rcases Z0.mp hz with hz|hz
  rw[hz];exact q;exact q2 z hz
def BE(z:Str)(ys:Z_ Str)(h:(ys.map (·.length)).sum+ys.length*z.length<=16777216):uN (U (.str z)) (U (.lst (ys.map D.str)))=U (.str (Txt.join z ys)):=by
 unfold uN;simp only[kO,ZR h]
def oV{ss:Z_ Str}(h:∀x∈ss,x.length=1):(ss.map (·.length)).sum=ss.length:=by
 induction ss with
 |nil=>rfl
 |cons x r ih=>
  have h1:=h x (ZZ ..);have h2:=ih λy hy=>h y (Z1 _ hy);simp only[Z2,List.sum_cons,bG,h1,h2];lia
def gZ(z:Str)(i:Int)(hz:z.length<=lim)(h0:0<=i)(h1:i<z.length):∃x:Str,x.length=1/\vP (U (.str z)) (U (.int i))=U (.str x):=by
 obtain⟨c,_,_,e⟩:=kW (xs:=z.cps.toList) (i:=i) h0 (by simpa[Str.length]using h1);refine⟨⟨#[c]⟩,rfl,?_⟩;unfold vP;simp only[ZR hz,e]
def vK(x:Z9 D)(q:D->Mk->Z9 Mk)(O:Mk):Z9 Out:=match x with|some d=>(match q d O with|some h_=>U (.next h_)|none=>M)|none=>M
theorem uw(ha:DE X Y a fa)(hg:DG X tg O)(hs:swapsWithSole [tg] a pos.line X.env=pure Y:=by rfl)(hw:swappedStores [tg] a X.env=pure M:=by rfl)(h1:(assignEach [tg] X.env).map (·.2)=[assign tg X.env]:=by rfl):
  DS X (.Assign [tg] a pos) (λq=>vK (fa q) O q):=
 (yx ha hg hs hw h1).imp λDn Z H hz=>by
  obtain⟨B,Hk,q,o,R,e,k⟩:=hz;unfold vK at e;dsimp only at e;split at e;rename_i d qd;split at e;rename_i h_ Uj;obtain rfl:=Z7 e;refine⟨B,Hk,q,d,R,qd,λv H1 s1 r1=>?_⟩;exact⟨B,Hk,q,d,h_,R.to s1,r1,Uj,λi_ R'=>k i_ H1 (s1.ext R.abm) R'⟩;trivial;trivial
@[simp] theorem acQ (d:D)(q:D->Mk->Z9 Mk)(O:Mk):vK (U d) q O=af (q d O) λh_=>U (.next h_):=by
 unfold vK af;dsimp only;cases q d O<;>rfl
noncomputable def dE(t:Mk->Z9 Bool)(b:Mk->Z9 Out):Nat->Mk->Z9 Out
 |0,_=>M
 |n+1,q=>match t q with
  |none=>M
  |some false=>U (.next q)
  |some true=>match b q with
   |some (.next h_)=>dE t b n h_
   |some (.cont h_)=>dE t b n h_
   |some (.brk h_)=>U (.next h_)
   |some (.ret e fr)=>U (.ret e fr)
   |none=>M
section
variable{X:Cx}{c a b:Expr}{body:Z_ Stmt}{ft:Mk->Z9 Bool}{gb:Mk->Z9 Out}{pos:Pos}{fa fb:Mk->Z9 D}{m:Bool}
theorem pK(n:Nat)(hp:PassesOwn (model X.prog X.w) X.A X.env X.xe)(hc:DT X c ft)(hb:DSs X body gb):DS X (.While c body [] pos) (λO=>dE ft gb n O):=
 (wB hp hc hb).imp λDn Z H hz=>by
  obtain⟨B,Hk,O,o,R,e,k⟩:=hz;refine⟨λj i_ H'=>∃h_,Ext B H H'/\Rel X.K B Hk h_ i_ H'/\dE ft gb j h_=U o,⟨n,O,Ext.refl,R,e⟩,?_⟩
  rintro j LN H1 ⟨q_,x1,R1,e1⟩
  cases j with
  |zero=>trivial
  |succ j=>
   unfold dE at e1;cases q:ft q_ with
   |none=>rw[q]at e1;trivial
   |some t=>
    refine⟨B,Hk,q_,t,R1,q,λH2 s2=>?_⟩;rw[q]at e1;have x2:=x1.trans (R1.ext s2);have R2:=R1.to s2;cases t with
    |false=>
     obtain rfl:=Z7 e1;rw[ZK Zr];exact k LN H2 x2 R2
    |true=>
     rw[ZR rfl];simp only at e1;cases q2:gb q_ with
     |none=>rw[q2]at e1;trivial
     |some o1=>
      rw[q2]at e1;refine⟨λi_ H'=>∃h_,Ext B H H'/\Rel X.K B Hk h_ i_ H'/\dE ft gb j h_=U o,λi_ H' z=>⟨j,Yp j,z⟩,B,Hk,q_,o1,R2,q2,?_⟩;cases o1 with
      |next LO=>exact λMr H4 x4 R4=>⟨LO,x2.trans x4,R4,e1⟩
      |cont LO=>exact λMr H4 x4 R4=>⟨LO,x2.trans x4,R4,e1⟩
      |brk LO=>simp only at e1;obtain rfl:=Z7 e1;exact λMr H4 x4 R4=>k Mr H4 (x2.trans x4) R4
      |ret d fr=>simp only at e1;obtain rfl:=Z7 e1;exact λv4 H4 x4 R4=>k v4 H4 (x2.trans x4) R4
noncomputable def vM(x:Z9 D):Z9 Bool:=match x with
 |some .non=>U Y
 |some (.bl b)=>U b
 |some (.int i)=>U (i != 0)
 |some (.str y)=>if y.length<=lim then U ((y.length:Int) != 0) else M
 |some (.lst ds)=>U (!ds.isEmpty)
 |some (.tup ds)=>U (!ds.isEmpty)
 |_=>M
def M1.empty{K:Z6}{B:ZM->Prop}{H:Hp}{ds:Z_ D}{xs:Z_ V}(r:M1 K B H ds xs):ds.isEmpty=xs.isEmpty:=by
 have:=r.length;cases ds<;>cases xs<;>simp at this<;>rfl
theorem zl(ha:DE X m a fa)(he:∀whole,isTrue a X.env whole=(do let v <-whole;standAt a.pos;holding [v] (truthy v)):=by intro _;rfl):DT X a (λO=>vM (fa O)):=
 (pE ha he).imp λZ H Q hz=>by
  obtain⟨B,Hk,O,d,R,e,k⟩:=hz;dsimp only at e;cases q:fa O with
  |none=>rw[q]at e;trivial
  |some z=>
   rw[q]at e;refine⟨B,Hk,O,z,R,q,λv H' s r=>⟨d,?_,k H' s⟩⟩;cases z with
   |non=>simp only[Rep]at r;subst r;simp only[vM]at e;obtain rfl:=Z7 e;rfl
   |bl b=>simp only[Rep]at r;subst r;simp only[vM]at e;obtain rfl:=Z7 e;rfl
   |int i=>simp only[Rep]at r;subst r;simp only[vM]at e;obtain rfl:=Z7 e;rfl
   |str y=>
    simp only[Rep]at r;subst r;simp only[vM]at e;by_cases hl:y.length<=lim;rw[ZR hl]at e;obtain rfl:=Z7 e;exact⟨aD hl,rfl⟩;rw[ZK hl]at e;trivial
   |lst ds=>
    simp only[Rep]at r;obtain⟨p,xs,rfl,hq,rs⟩:=r;simp only[vM]at e;obtain rfl:=Z7 e;exact .inl ⟨xs,hq.sq,by rw[rs.empty]⟩
   |tup ds=>
    simp only[Rep]at r;obtain⟨p,xs,rfl,hq,rs⟩:=r;simp only[vM]at e;obtain rfl:=Z7 e;exact .inr (.inl ⟨xs,SqT.of hq,by rw[rs.empty]⟩)
   |dK ks vs=>simp only[vM]at e;trivial
   |dD ks vs=>simp only[vM]at e;trivial
def t7(x:Z9 D):Z9 Bool:=match x with|some d=>U (decide (d=.non))|none=>M
theorem Rep.non{K:Z6}{B:ZM->Prop}{H:Hp}{d:D}{v:V}(r:Rep K B H d v):(v=.non)=(d=.non):=by
 cases d
 all_goals simp only[Rep]at r
 case non=>simp[r]
 all_goals first
  |(subst r;simp)
  |(obtain⟨p,xs,rfl,_⟩:=r;simp)
def Az{K:Z6}{B:ZM->Prop}{H:Hp}{d:D}{v:V}(r:Rep K B H d v):decide (v=.non)=decide (d=.non):=by
 by_cases h:d=.non;rw[Zw h,Zw (by rw[r.non];exact h)];rw[ZA h,ZA (by rw[r.non];exact h)]
def su{c:Bool}(h:t7 x=U c):∃d,x=U d/\c=decide (d=.non):=by
 unfold t7 at h;split at h;obtain rfl:=Z7 h;exact⟨_,rfl,rfl⟩;trivial
theorem zK{tk:Nat}{p:Pos}(ha:DE X m a fa)(hm:behindInMarks .IsNot (.Constant .none tk p)=Y:=by rfl):DT X (.Compare a [.IsNot] [.Constant .none tk p] pos) (λO=>eQ (t7 (fa O))):=
 (dM BA ha (oF (m:=Y)) hm).imp λZ H Q hz=>by
  obtain⟨B,Hk,O,d,R,e,k⟩:=hz;cases h:t7 (fa O)with
  |none=>simp only[h,eQ]at e;trivial
  |some c=>
   simp only[h,eQ]at e;obtain rfl:=Z7 e;obtain⟨z,q,rfl⟩:=su h;refine two (fb:=λ_=>U .non) R q rfl λv u H' s R' r1 r2=>?_;simp only[Rep]at r2;exact⟨r2,_,rfl,by rw[Az r1];exact k H' s⟩
end
noncomputable def Ite(K:Z6)(p:ZM):It:=
 ⟨λi H=>∃xs x,SqL K H p xs/\xs[i]?=U x,
  λi H v H'=>∃T x,H T=M/\v=.ref T/\H'=upd H T (.tup [.int i,x])/\∀xs,SqL K H p xs->xs[i]?=U x,
  λi H=>∃xs,SqL K H p xs/\xs.length<=i⟩
structure En (h:Heap)(e c p:ZM)(n:Nat):Prop where
 ee:∃old,IsEnum h e c n old
 cc:h.IsListIter c p n
def Bc{x1}(he:IsEnumOut s.heap e c i x T)(hQ:∀h',IsEnum h' e c i x->Heap.SameBut e s.heap h'->Q () {s with heap:=h'}):wpAny (model prog w) A (letOwnedTupleGo (.Tuple elts x1 pos) (.ref e) (.ref T)) Q E s:=by
 unfold letOwnedTupleGo;refine Z8 (wpAny_load he ?_);change wpAny _ _ (if(["enumerate","zip","dict_itemiterator","dict_reverseitemiterator","odict_iterator","itertools.zip_longest","itertools.pairwise"].contains "enumerate"&&(#[rawInt T,.bool Y,.ref c,rawInt i,.none,x]:Array Z3)[0]?==U (rawInt T))=L then _ else _) Q E s;refine fN (by simp) ?_;refine Z8 (YT (X9 he (by simp) λh' g' m'=>hQ h' g' m'))
def sZ{P:Y5}{w:YV}{K:Z6}{elts:Z_ Expr}{x1}{pos:Pos}{e c p:ZM}(ne:e≠c):
  Turn P w K (.Tuple elts x1 pos) (Ite K p) [e,c] e (λn h=>En h e c p n) where
 mem:=by simp
 obj:=λi h st b hb=>by
  obtain⟨⟨old,ee⟩,cc⟩:=st;simp only[Z0,Zt,YK]at hb;rcases hb with rfl|rfl;exact⟨_,ee,λv e=>by cases e⟩;obtain⟨o,g,_,hd⟩:=cc;exact⟨o,g,λv e'=>by rw[hd]at e';cases e'⟩
 keep:=λi h h' st k=>by
  obtain⟨⟨old,ee⟩,cc⟩:=st;exact⟨⟨old,k e (by simp) _ ee⟩,cc.at λo g=>k c (by simp) o g⟩
 item:=by
  intro X hP hw hK hc i a_ s O H E I hf st hg;subst hP hw hK;obtain⟨xs,x,h1,hx⟩:=hg;obtain⟨is,ri,sp,_⟩:=I.list h1;obtain⟨ux,e1,r1⟩:=ri.get hx;obtain⟨⟨old,ee⟩,cc⟩:=st;refine wpAny_pyNext_enum_item ee cc sp.isList (x:=ux) (by simpa using e1) ne λh' out cc' new sz k=>⟨_,rfl,?_⟩
  have hT:H s.z=M:=I.hok.fresh (ZP _);have nT:∀b∈[e,c],b≠s.z:=λb hb q=>by
   simp only[Z0,Zt,YK]at hb;rcases hb with rfl|rfl;rw[q]at ee;exact absurd (ZV ee) (Zc _);obtain⟨o,g,_⟩:=cc;rw[q]at g;exact absurd (ZV g) (Zc _)
  have I1:Inv X a_ O (upd H s.z (.tup [.int i,x])) {s with heap:=h',toks:=s.toks+1}:=I.abP (fp:=[e,c]) (λb o hb q=>k b o (λz=>hb (by simp[z])) (λz=>hb (by simp[z])) q) hf (ZP _)
   ⟨by show 2<=sizeLine;decide,[.int i s.toks,ux],.cons ⟨_,rfl⟩ (.cons r1 .nil),⟨_,new,rfl,_,rfl⟩⟩
  refine Bc (s:={s with heap:=h',toks:=s.toks+1}) out λg2 e2 m2=>?_;have hz:=hf e (by simp);refine⟨.ref s.z,upd H s.z (.tup [.int i,x]),I1.turned (t':=s.toks+1) (λb o hb q=>ag m2 hb q) (by rw[ai (nT e (by simp))];exact hz.1) hz.2.1 hz.2.2.2.1 hz.2.2.2.2.1 hz.2.2.2.2.2,rfl,
   ⟨s.z,x,hT,rfl,rfl,λxs' h=>by rw[I.aaN h h1];exact hx⟩,⟨⟨_,e2⟩,cc'.at λo g=>ag m2 (ZC ne) g⟩,λb hb=>by rw[ai (nT b hb)];exact(hf b hb).1⟩
 done:=by
  intro X hP hw hK hc i a_ s O H E I hf st hg;subst hP hw hK;obtain⟨xs,h1,hl⟩:=hg;obtain⟨is,ri,sp,_⟩:=I.list h1;have l1:=ri.length;obtain⟨⟨old,ee⟩,cc⟩:=st;exact wpAny_pyNext_enum_end (I.ok.hd hc) ee cc sp.isList (by simp;lia) λh' k=>⟨rfl,I.turns (t':=s.toks) (fp:=[e,c]) (λb o hb q=>k b o (λz=>hb (by simp[z])) q) hf⟩
 self:=λ_ _ _ _ _ st h=>by obtain⟨⟨old,ee⟩,cc⟩:=st;exact wpAny_pyIter_enum ee h
noncomputable def enL(h:Heap)(p:ZM):Heap:=(h.push (itO Y p)).push {cls:=.type "enumerate",data:=.fields #[.none,.bool Y,.ref h.objs.size,rawInt 0,.none,.none]}
set_option tactic.hygienic true in
def xR(p:ZM)(xs:Array Z3):Meets (Builtin.«enumerate.__new__» ⟨[.type "enumerate",.ref p],[]⟩) (λ_ R s=>aay Y s.heap p xs/\R (.ok (.ret (.ref (s.heap.push (itO Y p)).objs.size))) {s with heap:=enL s.heap p}):=
 .of_wp λprog w A R s h=>by
  obtain⟨hp,g,d,tk,os⟩:=s;obtain⟨h1,h⟩:=h;have Li:=sub_enumerate;have k1:aay Y (Shared.heap ⟨hp,g,d,tk,os⟩) p xs:=h1
  wp_walk using dX k1
  refine wpAny_stack_any λst=>Z4 ?_;split
  .rename_i c0 _ _ _ _ _
   cases (c0==Value.type "enumerate")<;>(wp_walk using dX k1;exact⟨_,rfl,h⟩)
  .wp_walk using dX k1
   exact⟨_,rfl,h⟩
def sB(hp:aay Y s.heap p xs)(h:∀h',IsEnum h' (s.z+1) s.z 0 .none->h'.IsListIter s.z p 0->(∀b o,s.heap.get? b=U o->h'.get? b=U o)->Q (.ref (s.z+1)) {s with heap:=h'}):
  wpAny (model prog w) A (call (.type "enumerate") [.ref p]) Q E s:=by
 refine callType_new F.called_enumerate (by decide) (F.typeCall_enumerate_1 _) (F.newCall_enumerate_1 _) (λobj=>F.args_object_init_2 obj _) F.entry_enumerate_new (xR p xs) ⟨hp,?_⟩;have s1:(s.heap.push (itO Y p)).objs.size=s.z+1:=YI ..;have e5:(enL s.heap p).get? (s.heap.push (itO Y p)).objs.size=U {cls:=.type "enumerate",data:=.fields #[.none,.bool Y,.ref s.z,rawInt 0,.none,.none]}:=ZN _ rfl;have c5:(enL s.heap p).get? s.z=U (itO Y p):=Z5 _ (ZN _ rfl);rw[s1]at e5;refine⟨⟨_,by rw[s1];exact e5,rfl⟩,?_⟩;rw[s1];exact h _ e5 ⟨_,c5,rfl,rfl⟩ λb o e=>Z5 _ (Z5 _ e)
section
variable{p:Pos}
def Er(K:Z6)(ta:TA):TI:=λq H R=>ta q H λvs H1=>∃p,vs=[.ref p]/\(∃xs,SqL K H1 p xs)/\R (Ite K p) H1
def zN{ta:TA}(hg:Gl X "enumerate")(hm:X.mg "enumerate"=M)(ha:PA X [a] ta)(hs:starEach [a] X.env=[(Y,eval a X.env)]:=by rfl):
  PI X (.Tuple elts x1 tp) (.Call (.Name "enumerate" p) [a] [] pos) (Er X.K ta):=by
 intro a_ s O H R I h;refine Call_ (dT I hg hm boot_enumerate (Yw (thn (ha pos a_ s O H _ I h) λus s1 ⟨vs,H1,I1,r1,q1⟩=>?_) hs rfl));obtain⟨l1,e,⟨xs,h1⟩,q⟩:=q1;subst e;cases r1 with
 |cons r rr=>
  cases rr;cases r;obtain⟨is,ri,sp,_⟩:=I1.list h1;refine sB (p:=l1) sp.isList λh' ee cc k=>?_;have I2:Inv X a_ O H1 {s1 with heap:=h'}:=I1.kept (t':=s1.toks) k;refine wpAny_pyIter_enum (s:={s1 with heap:=h'}) ee ⟨s1.z+1,[s1.z+1,s1.z],_,_,H1,rfl,I2,sZ (Nat.ne_of_gt (Yp _)),⟨⟨_,ee⟩,cc⟩,λb hb=>?_,q⟩;have IU:s1.z<=b:=by
   simp only[Z0,Zt,YK]at hb;rcases hb with rfl|rfl;exact Xd _;exact ZP _
  obtain⟨f0,f1,f2,f3,f4,f5⟩:=I1.abl IU (I1.hok.fresh IU);exact⟨f0,f1,f2,f3,f4,f5⟩
def ie(i:Nat):Z_ D->Z_ D
 |[]=>[]
 |d::ds=>.tup [.int i,d]::ie (i+1) ds
theorem ky:∀(ds:Z_ D)(j i:Nat)(x:D),(ie j ds)[i]?=U x->∃d,ds[i]?=U d/\x=.tup [.int ((j+i:Nat):Int),d]
 |[],j,i,x,h=>by simp[ie]at h
 |d::ds,j,0,x,h=>by simp[ie]at h;exact⟨d,rfl,by rw[<-h];simp⟩
 |d::ds,j,i+1,x,h=>by
  simp[ie]at h;obtain⟨e,h1,h2⟩:=ky ds (j+1) i x h;exact⟨e,by simpa using h1,by rw[h2,show j+1+i=j+(i+1) by lia]⟩
theorem lj:∀(j:Nat)(ds:Z_ D),(ie j ds).length=ds.length
 |_,[]=>rfl
 |j,d::ds=>by simp[ie,lj (j+1) ds]
def wY(x:Z9 D):Z9 (Z_ D):=match x with|some (.lst ds)=>U (ie 0 ds)|_=>M
theorem AN(g:Gl X "enumerate")(hm:X.mg "enumerate"=M)(h:DE X m a fa)(hs:starEach [a] X.env=[(Y,eval a X.env)]:=by rfl):
  DI X m (.Tuple elts x1 tp) (.Call (.Name "enumerate" p) [a] [] pos) (λq=>wY (fa q)):=
 (zN g hm (aw h aK hs) hs).imp λO H Q hz=>by
  obtain⟨B,Hk,q,ds,R,e,k⟩:=hz;dsimp only at e;unfold wY at e;split at e;rename_i as q1;obtain rfl:=Z7 e;refine qq R q1 λv H' s R' r1=>?_;simp only[Rep]at r1;obtain⟨l1,xs,rfl,hq,rs⟩:=r1;refine⟨l1,rfl,⟨xs,hq.sq⟩,k _ H' s λH2 x=>?_⟩;have hx:=(hq.ext x).sq;have rx:=rs.ext x;refine⟨⟨xs,hx,by rw[lj,rx.length];exact ZP _⟩,λi d hd=>?_⟩;obtain⟨d1,g1,rfl⟩:=ky _ _ _ _ hd;obtain⟨y1,w1,z1⟩:=rx.get g1;refine⟨⟨xs,y1,hx,w1⟩,λv H3 ⟨T,v1,hT,ev,e3,n1⟩=>?_⟩;have:=n1 xs hx;rw[w1]at this;obtain rfl:=Z7 this;have sm:aaa H2 (upd H2 T (.tup [.int i,y1])):=ax hT;have bo:∀a,bh m B q O a->∃o:HOn,H2 a=U o.1:=λa ha=>by
   obtain⟨o,ho⟩:=R'.bsH m a ha;exact⟨o,(x.abF a ha).trans ho⟩
  have ex:=sm.ext bo;rw[e3,ev];refine⟨sm,?_⟩;simp only[Rep];refine⟨T,[.int i,y1],rfl,ah,M1.cons ?_ (M1.cons (z1.ext ex) M1.nil)⟩;simp only[Rep,Yh];trivial
end
mutual
theorem KR.raw(ok:HOk P w H h):∀{d:D}{v:V}{u:Z3},KR H d v->RelV v u->RH h d u
 |.int i,v,u,r,q=>by simp only[KR]at r;subst r;obtain⟨t,rfl⟩:=q;simp only[RH];exact⟨t,rfl⟩
 |.str i,v,u,r,q=>by simp only[KR]at r;subst r;obtain⟨t,rfl⟩:=q;simp only[RH];exact⟨t,rfl⟩
 |.tup ds,v,u,r,q=>by
  simp only[KR]at r;obtain⟨a,xs,rfl,g,rs⟩:=r;cases q;obtain⟨_,its,rv,ht⟩:=(show aak P w H h a (.tup xs) from ok a _ g)
  simp only[RH];exact⟨a,its,rfl,ht,KRs.raw ok rs rv⟩
 |.non,v,u,r,_=>by simp only[KR]at r
 |.bl _,v,u,r,_=>by simp only[KR]at r
 |.lst _,v,u,r,_=>by simp only[KR]at r
 |.dK _ _,v,u,r,_=>by simp only[KR]at r
 |.dD _ _,v,u,r,_=>by simp only[KR]at r
theorem KRs.raw(ok:HOk P w H h):∀{ds:Z_ D}{xs:Z_ V}{us:Z_ Z3},KRs H ds xs->aac xs us->RHs h ds us
 |[],xs,us,r,q=>by simp only[KRs]at r;subst r;cases q;simp only[RHs]
 |d::ds,xs,us,r,q=>by
  simp only[KRs]at r;obtain⟨x,t,rfl,r1,r2⟩:=r;cases q with
  |cons q1 q2=>simp only[RHs];exact⟨_,_,rfl,KR.raw ok r1 q1,KRs.raw ok r2 q2⟩
end
mutual
theorem Rep.key{K:Z6}{B:ZM->Prop}{H:Hp}:∀{n:Nat}{d:D}{v:V},bH n d=L->Rep K B H d v->KR H d v
 |n,.int i,v,_,r=>by simp only[Rep]at r;simp only[KR];exact r
 |n,.str i,v,_,r=>by simp only[Rep]at r;simp only[KR];exact r
 |n,.tup ds,v,h,r=>by
  simp only[Rep]at r;obtain⟨a,xs,rfl,g,rs⟩:=r;obtain⟨k,_,hd⟩:=dY h;simp only[KR];exact⟨a,xs,rfl,g,M1.key hd rs⟩
 |n,.non,v,h,_=>by cases n<;>simp[bH]at h
 |n,.bl _,v,h,_=>by cases n<;>simp[bH]at h
 |n,.lst _,v,h,_=>by cases n<;>simp[bH]at h
 |n,.dK _ _,v,h,_=>by cases n<;>simp[bH]at h
 |n,.dD _ _,v,h,_=>by cases n<;>simp[bH]at h
theorem M1.key{K:Z6}{B:ZM->Prop}{H:Hp}:∀{n:Nat}{ds:Z_ D}{xs:Z_ V},ds.all (bH n)=L->M1 K B H ds xs->KRs H ds xs
 |n,[],xs,_,r=>by simp only[M1]at r;simp only[KRs];exact r
 |n,d::ds,xs,h,r=>by
  rw[rF,ZH]at h;simp only[M1]at r;obtain⟨x,t,rfl,r1,r2⟩:=r;simp only[KRs];exact⟨x,t,rfl,Rep.key h.1 r1,M1.key h.2 r2⟩
end
mutual
theorem KR.rep{K:Z6}{B:ZM->Prop}{H:Hp}:∀{d:D}{v:V},KR H d v->Rep K B H d v
 |.int i,v,r=>by simp only[KR]at r;simp only[Rep];exact r
 |.str i,v,r=>by simp only[KR]at r;simp only[Rep];exact r
 |.tup ds,v,r=>by
  simp only[KR]at r;obtain⟨a,xs,rfl,g,rs⟩:=r;simp only[Rep];exact⟨a,xs,rfl,g,KRs.rep rs⟩
 |.non,v,r=>by simp only[KR]at r
 |.bl _,v,r=>by simp only[KR]at r
 |.lst _,v,r=>by simp only[KR]at r
 |.dK _ _,v,r=>by simp only[KR]at r
 |.dD _ _,v,r=>by simp only[KR]at r
theorem KRs.rep{K:Z6}{B:ZM->Prop}{H:Hp}:∀{ds:Z_ D}{xs:Z_ V},KRs H ds xs->M1 K B H ds xs
 |[],xs,r=>by simp only[KRs]at r;simp only[M1];exact r
 |d::ds,xs,r=>by
  simp only[KRs]at r;obtain⟨x,t,rfl,r1,r2⟩:=r;simp only[M1];exact⟨x,t,rfl,KR.rep r1,KRs.rep r2⟩
end
def aau.val(r:aau H kvs xs)(k:D):aaT (eR kvs k) ((atKey xs k).map (·.2)):=by
 induction r with
 |nil=>exact True.intro
 | @cons p q ps qs h t ih=>
  by_cases e:p.1=k;rw[bX e,show atKey (q::qs) k=U q.2 by simp[atKey,List.find?_cons,h.1.symm.trans e]];exact h.2.2.2;have e':¬q.1=k:=λz=>e (h.1.trans z);rw[bY e,show atKey (q::qs) k=atKey qs k by simp[atKey,List.find?_cons,e']];exact ih
def aau.ab5(r:aau H kvs xs)(k:D)(ry:RelV y u):aau H (kvs.map λkv=>if kv.1=k then(kv.1,y) else kv) (xs.map (putAt k u)):=by
 induction r with
 |nil=>exact .nil
 | @cons p q ps qs h t ih=>
  refine .cons ?_ ih;dsimp only;by_cases e:p.1=k;rw[ZR e,putAt,ZR (h.1.symm.trans e)];exact⟨h.1,h.2.1,h.2.2.1,ry⟩;rw[ZK e,putAt,ZK λz=>e (h.1.trans z)];exact h
def aau.put(r:aau H kvs xs)(k:D)(hk:bH 8 k=L)(hb:KR H k (.ref b))(ry:RelV y u):aau H (du kvs k y) (storedH xs k b u):=by
 have e:(kvs.any λkv=>decide (kv.1=k))=(atKey xs k).isSome:=by rw[d9,(r.val k).aaV,W0]
 unfold du storedH;rw[e];by_cases q:(atKey xs k).isSome=L;rw[ZR q,ZR q];exact r.ab5 k ry;rw[ZK q,ZK q];exact Paired.snoc r ⟨rfl,hk,hb,ry⟩
section
variable{h:Heap}
def jD(ok:HOk P w H h)(e:Rd H a (.dD kvs ep)):kvs.length<=sizeLine/\(a==sysModules)=Y/\∃xs,aau H kvs xs/\h.DictOfH (bp P w) a xs:=by
 obtain⟨z,y,xs,r,o,es,h1,h2,h3,h4,h5⟩:=(show aak P w H h a (.dD kvs ep) from pY ok e)
 refine⟨z,y,xs,r,o,es,ep,h1,h2,h3,h4,?_,h5⟩;have all:∀{l:Z_ (D×V)}{m:Z_ (D×ZM×Z3)},aau H l m->∀x∈m,(bp P w).is h x.1 x.2.1:=by
  intro l m q
  induction q with
  |nil=>intro x hx;exact nomatch hx
  | @cons p q ps qs hq t ih=>
   intro x hx;rcases Z0.mp hx with rfl|hx;exact⟨by rw[<-hq.1];exact hq.2.1,by rw[<-hq.1];exact KR.raw ok hq.2.2.1 rfl⟩;exact ih x hx
 exact all r
def o9(hb:sysModules<h.objs.size):aak P w H (h.push {cls:=.type "dict",data:=.dict #[]}) h.objs.size (.dD [] 0):=
 ⟨Zo _,by simpa using Nat.ne_of_gt hb,[],.nil,_,#[],ZN _ rfl,⟨rfl,rfl,rfl⟩,rfl,rfl,YY⟩
end
section
variable{A:Y9}
def cn(I:Inv X a_ q H s)(hk:bH 8 k=L)(kb:KR H k (.ref b)):(bp X.prog X.w).is s.heap k b:=⟨hk,KR.raw I.hok kb rfl⟩
def qf(hu:A.units+40<cLine)(I:Inv X a_ q H s)(e:Rd H a (.dD kvs ep))(hk:bH 8 k=L)(kb:KR H k (.ref b))(l:eR kvs k=U v)(h:∀w' s',Inv X a_ q H s'->RelV v w'->Q w' s'):
  wpAny (model X.prog X.w) A (getItem (.ref a) (.ref b)) Q E s:=by
 obtain⟨z,hd,xs,rel,dd⟩:=jD I.hok e;obtain⟨w',hw,F_⟩:=aaT.some_of (v:=v) (o:=(atKey xs k).map (·.2)) (by rw[<-l];exact rel.val k);obtain⟨p,hp,K3⟩:=Xp.mp hw;refine wpAny_getItem_heap (knd:=bp X.prog X.w) (by show A.units+1+30<cLine;lia) (cn I hk kb) dd hp ?_;rw[K3];exact h w' _ (I.tok _) F_
def xi(hu:A.units+40<cLine)(I:Inv X a_ O H s)(e:Rd H a (.dD kvs ep))(hk:bH 8 k=L)(kb:KR H k (.ref b))(h:∀s',Inv X a_ O H s'->Q (.bool (!(eR kvs k).isSome)) s'):
  wpAny (model X.prog X.w) A (compareOp .NotIn (.ref b) (.ref a)) Q E s:=by
 obtain⟨z,hd,xs,rel,dd⟩:=jD I.hok e;refine wpAny_notIn_heap (knd:=bp X.prog X.w) (by show A.units+1+30<cLine;lia) (cn I hk kb) hd dd ?_;have q:=(rel.val k).aaV;rw[W0]at q;rw[<-q];exact h _ (I.tok _)
def qB(hu:A.units+40<cLine)(I:Inv X a_ O H s)(e:H a=U (.dD kvs ep))(hk:bH 8 k=L)(kb:KR H k (.ref b))(l:kvs.length<sizeLine)(rv:RelV v r)(h:∀A_ s',Inv X a_ O (upd H a (.dD (du kvs k v) A_)) s'->Q () s'):
  wpAny (model X.prog X.w) A (setItem (.ref a) (.ref b) r) Q E s:=by
 obtain⟨z,hd,xs,rel,dd⟩:=jD I.hok (.inl e);have hl:(du kvs k v).length<=sizeLine:=by have:=br kvs k v;lia
 refine wpAny_setItem_heap (knd:=bp X.prog X.w) (hsz:=by rw[<-Yt rel];exact z) (by show A.units+1+30<cLine;lia) (cn I hk kb) dd λh' Kz hs=>?_;obtain⟨q,es,A_,hq,h2,h3,h4,_,h5⟩:=Kz;refine h A_ _ (gx I (by rw[e];exact True.intro) hs ⟨q,hq⟩ ⟨hl,hd,_,Paired.abY (rel.put k hk kb rv) λp q z=>⟨z.1,z.2.1,KR.to (λc ys ec=>?_) z.2.2.1,z.2.2.2⟩,q,es,hq,h2,h3,h4,h5⟩);rw[ai (mU ec e (λz=>nomatch z))];exact ec
end
def Rel.oset{K:Z6}{B:ZM->Prop}{Hk H:Hp}{O:Mk}{Z:St}{i:Nat}{d d':D}{l:ZM}{o:HO}(R:Rel K B Hk O Z H)(h:O[i]?=U (U (d,L)))(hl:Z[i]?=U (U (.ref l)))(new:Ext B H (upd H l o)->ObR K B (upd H l o) d' l):
  Ext B H (upd H l o)/\Rel K B Hk (O.set i (U (d',L))) Z (upd H l o):=by
 obtain⟨a,e1,e2,ob⟩:=R.own i _ h;rw[hl]at e1;cases e1;obtain⟨u,hx,mu⟩:=ob.mut;have hb:¬B l:=λz=>by obtain⟨o,q⟩:=R.bor l z;rw[e2]at q;trivial
 have ex:Ext B H (upd H l o):=bP hx mu hb;have o_:i<O.length:=(ZX.mp h).1;have RB:∀j e,(O.set i (U (d',L)))[j]?=U (U (e,L))->∃e',O[j]?=U (U (e',L)):=λj e q=>by
  by_cases hj:j=i;subst hj;exact⟨_,h⟩;rw[ZY (ZC hj)]at q;exact⟨_,q⟩
 refine⟨ex,⟨R.same.put e2,R.bor,by simpa using R.len,λj e q=>?_,λj e q=>?_,λj k e f q Kg h1 h2 h3 h4=>?_⟩⟩;by_cases hj:j=i;subst hj;rw[ZU o_]at q;cases q;rw[ZY (ZC hj)]at q;obtain⟨v,q1,q2⟩:=R.var j e q;exact⟨v,q1,q2.ext ex⟩;by_cases hj:j=i;subst hj;rw[ZU o_]at q;cases q;exact⟨l,hl,e2,new ex⟩;rw[ZY (ZC hj)]at q;obtain⟨c,q1,q2,q3⟩:=R.own j e q;have hc:c≠l:=λz=>by subst z;exact R.dis j i e _ c hj q h q1 hl
 exact⟨c,q1,q2,q3.ext ex λo q _=>by rw[ai hc];exact q⟩;obtain⟨e',z1⟩:=RB j e h1;obtain⟨f',z2⟩:=RB k f h2;exact R.dis j k e' f' q Kg z1 z2 h3 h4
def m4:D->Bool
 |.tup _=>L
 |_=>Y
def b9{κ:Type}[DecidableEq κ](k:κ):Z_ κ->Z_ D->Z9 D
 |x::ks,d::ds=>if x=k then U d else b9 k ks ds
 |_,_=>M
def qK{κ:Type}[DecidableEq κ](k:κ)(v:D):Z_ κ->Z_ D->Z_ D
 |x::ks,d::ds=>(if x=k then v else d)::qK k v ks ds
 |_,_=>[]
def yj{κ:Type}[DecidableEq κ](k:κ)(v:D)(ks:Z_ κ)(ds:Z_ D):Z_ D:=if k∈ks then qK k v ks ds else ds++[v]
def ji{κ:Type}[DecidableEq κ](k:κ)(ks:Z_ κ):Z_ κ:=if k∈ks then ks else ks++[k]
section
variable{K:Z6}{B:ZM->Prop}{H:Hp}{κ:Type}[DecidableEq κ]
theorem cW(k:κ):∀{kvs:Z_ (κ×V)}{ds:Z_ D},M1 K B H ds (kvs.map (·.2))->(b9 k (kvs.map (·.1)) ds=M->eR kvs k=M)/\∀d,b9 k (kvs.map (·.1)) ds=U d->∃v,eR kvs k=U v/\Rep K B H d v
 |[],ds,r=>⟨λ_=>rfl,λd h=>by cases ds<;>simp[b9]at h⟩
 |p::kvs,ds,r=>by
  cases ds with
  |nil=>simp only[Z2,M1]at r;trivial
  |cons d ds=>
   rw[Z2]at r;obtain⟨r1,r2⟩:=r.abH;rw[Z2];unfold b9;by_cases e:p.1=k;rw[ZR e];exact⟨λz=>(by trivial),λd2 z=>(by obtain rfl:=Z7 z;exact⟨p.2,bX e,r1⟩)⟩;rw[ZK e,bY e];exact cW k r2
def rV(k:κ)(kvs:Z_ (κ×V)):(kvs.any λkv=>decide (kv.1=k))=decide (k∈kvs.map (·.1)):=by
 rw[YO,XX,Y_,ZQ];constructor
 rintro⟨x,h1,h2⟩;exact⟨x,h1,Zh h2⟩
 rintro⟨x,h1,h2⟩;exact⟨x,h1,Zw h2⟩
def dQ(k:κ)(v:V)(kvs:Z_ (κ×V)):(du kvs k v).map (·.1)=ji k (kvs.map (·.1)):=by
 unfold du ji;rw[rV];by_cases hk:k∈kvs.map (·.1)
 .rw[Zw hk,ZR rfl,ZR hk,XS]
  refine Ze λx _=>?_;simp only[Function.comp];split<;>rfl
 rw[ZA hk,ZK Zr,ZK hk];simp
theorem kL(r:Rep K B H d v)(k:κ):∀{kvs:Z_ (κ×V)}{ds:Z_ D},M1 K B H ds (kvs.map (·.2))->M1 K B H (qK k d (kvs.map (·.1)) ds) ((kvs.map λkv=>if kv.1=k then(kv.1,v) else kv).map (·.2))
 |[],ds,q=>by
  cases ds with
  |nil=>exact M1.nil
  |cons _ _=>simp only[Y6,M1]at q;obtain⟨_,_,z,_⟩:=q;trivial
 |p::kvs,ds,q=>by
  cases ds with
  |nil=>simp only[Z2,M1]at q;trivial
  |cons d0 ds=>
   rw[Z2]at q;obtain⟨r1,r2⟩:=q.abH;have ih:=kL r k r2;rw[Z2,Z2,Z2];unfold qK;by_cases e:p.1=k;rw[ZR e,ZR e];exact M1.cons r ih;rw[ZK e,ZK e];exact M1.cons r1 ih
def i7(r:Rep K B H d v)(k:κ)(q:M1 K B H ds (kvs.map (·.2))):M1 K B H (yj k d (kvs.map (·.1)) ds) ((du kvs k v).map (·.2)):=by
 unfold du yj;rw[rV];by_cases hk:k∈kvs.map (·.1);rw[Zw hk,ZR rfl,ZR hk];exact kL r k q;rw[ZA hk,ZK Zr,ZK hk,YW];exact q.append (M1.cons r M1.nil)
end
def DGA(H:Hp)(a:ZM)(y:V)(r:Z9 V):Prop:=Dm H a y r\/∃kvs ep k b,Rd H a (.dD kvs ep)/\y=.ref b/\bH 8 k=L/\KR H k (.ref b)/\r=eR kvs k
def DPA(H:Hp)(a:ZM)(y v:V)(N:Hp->Prop):Prop:=(∃H',GE H a y v H'/\N H')\/∃kvs ep k b,H a=U (.dD kvs ep)/\y=.ref b/\bH 8 k=L/\KR H k (.ref b)/\kvs.length<sizeLine/\∀A_,N (upd H a (.dD (du kvs k v) A_))
section
variable{A:Y9}
def qM(hu:A.units+40<cLine)(I:Inv X a_ q H s)(g:DGA H a y (U v))(ry:RelV y u)(h:∀w' s',Inv X a_ q H s'->RelV v w'->Q w' s'):wpAny (model X.prog X.w) A (getItem (.ref a) u) Q E s:=by
 rcases g with g|⟨kvs,ep,k,b,e,rfl,hk,kb,l⟩;exact sj (by lia) I g ry h;cases (show u=Value.ref b from ry);exact qf hu I e hk kb l.symm h
def wp(hu:A.units+40<cLine)(I:Inv X a_ q H s)(g:DGA H a y o)(ry:RelV y u)(h:∀s',Inv X a_ q H s'->Q (.bool (!o.isSome)) s'):wpAny (model X.prog X.w) A (compareOp .NotIn u (.ref a)) Q E s:=by
 rcases g with g|⟨kvs,ep,k,b,e,rfl,hk,kb,rfl⟩;exact AV (by lia) I g ry h;cases (show u=Value.ref b from ry);exact xi hu I e hk kb h
def qF(hu:A.units+40<cLine)(I:Inv X a_ q H s)(g:DPA H a y v N)(ry:RelV y u)(rv:RelV v r)(h:∀H' s',Inv X a_ q H' s'->N H'->Q () s'):wpAny (model X.prog X.w) A (setItem (.ref a) u r) Q E s:=by
 rcases g with⟨H',g,n⟩|⟨kvs,ep,k,b,e,rfl,hk,kb,l,n⟩;exact ue (by lia) I g ry rv λs' I'=>h H' s' I' n
 cases (show u=Value.ref b from ry);exact qB hu I e hk kb l rv λA_ s' I'=>h _ s' I' (n A_)
def lH(I:Inv X a_ q H s)(g:DGA H a y o):s.TypeIs (.ref a) "dict":=by
 rcases g with g|⟨kvs,ep,k,b,e,_⟩;exact nR I g;obtain⟨_,_,xs,_,dd⟩:=jD I.hok e;exact dd.typeIs
end
def tGA(td ty:TE):TE:=λq H Q=>td q H λx H1=>ty q H1 λy H2=>∃a v,x=.ref a/\DGA H2 a y (U v)/\Q v H2
def rIA(neg:Bool):R2:=λy x H Q=>∃a o,x=.ref a/\DGA H a y o/\Q (.bl (if neg then !o.isSome else o.isSome)) H
def sPA(td ty tv:TE):TS:=λD q H=>tv q H λv H1=>td q H1 λx H2=>ty q H2 λy H3=>∃a,x=.ref a/\DPA H3 a y v λH4=>D.nx q H4
section
variable{X:Cx}{o:Expr}{pos:Pos}
def xP(hu:X.A.units+64<cLine)(ho:PE X o td)(hi:PE X i ty)(hs:EB i):PE X (.Subscript o i pos) (tGA td ty):=by
 intro a_ s q H Q I h;refine Ay F.slot_dict_getitem.lookup hs (thn (ho a_ s q H _ I h) λu s1 ⟨x,H1,I1,rx,q1⟩=>thn (hi a_ s1 q H1 _ I1 q1) λiv s2 hz=>?_);obtain⟨y,H2,I2,ry,a,v,ex,g,q2⟩:=hz;subst ex;obtain rfl:u=Value.ref a:=rx;exact⟨lH I2 g,qM (by lia) I2 g ry λw' s3 I3 F_=>⟨v,H2,I3,F_,q2⟩⟩
def t8(hu:X.A.units+64<cLine):OpR X (compareOp .NotIn) (rIA L):=by
 intro a_ s O H y x v u Q I ry rx ⟨a,o,ex,g,q⟩;subst ex;obtain rfl:u=Value.ref a:=rx;exact wp (by lia) I g ry λs3 I3=>⟨.bl (!o.isSome),H,I3,rfl,q⟩
def oZ(hu:X.A.units+64<cLine)(ho:PE X o td)(hi:PE X i ty)(hv:PE X value tv)(hs:swapsWith value (U (.Subscript o i pos')) pos.line X.env=pure Y):PS X (.Assign [.Subscript o i pos'] value pos) (sPA td ty tv):=by
 intro a_ s q H D I h;refine wpAny_Assign_Subscript (thn (hv a_ s q H _ I h) λr s1 ⟨v,H1,I1,rv,q1⟩=>thn (ho a_ s1 q H1 _ I1 q1) λu s2 ⟨x,H2,I2,rx,q2⟩=>thn (hi a_ s2 q H2 _ I2 q2) λiv s3 ⟨y,H3,I3,ry,a,ex,g⟩=>?_) hs;subst ex;obtain rfl:u=Value.ref a:=rx;exact qF (by lia) I3 g ry rv λH4 s4 I4 q3=>⟨q,H4,I4,q3⟩
end
noncomputable def bT(x k:Z9 D):Z9 (Z9 D):=match x,k with
 |some (.dK ks vs),some d=>(match iR d with|some kk=>U (b9 kk ks vs)|none=>M)
 |some (.dD ks vs),some d=>if(bH 8 d&&m4 d)=L then U (b9 d ks vs) else M
 |_,_=>M
def eX{K:Z6}{B:ZM->Prop}{H:Hp}{d:D}{k:Key}{v:V}(h:iR d=U k)(r:Rep K B H d v):v=kV k:=by
 cases d<;>simp only[iR]at h<;>first
  |(cases h;simp only[Rep]at r;exact r)
  |trivial
def da{K:Z6}{B:ZM->Prop}{H:Hp}{d:D}{v:V}(h:m4 d=L)(r:Rep K B H d v):∃b,v=.ref b:=by
 cases d<;>simp only[m4]at h<;>first
  |(simp only[Rep]at r;obtain⟨a,xs,e,_⟩:=r;exact⟨a,e⟩)
  |trivial
set_option tactic.hygienic true in
def cO{K:Z6}{B B':ZM->Prop}{H:Hp}{x k:Z9 D}{o:Z9 D}(h:bT x k=U o):∃d e,x=U d/\k=U e/\∀{v u:V},Rep K B H d v->Rep K B' H e u->∃a r,v=.ref a/\DGA H a u r/\r.isSome=o.isSome/\∀z,o=U z->∃w,r=U w/\Rep K B H z w:=by
 unfold bT at h;split at h;rename_i ks vs d;split at h;rename_i kk hk;obtain rfl:=Z7 h;refine⟨_,_,rfl,rfl,λ{v u} r1 r2=>?_⟩;simp only[Rep]at r1;obtain⟨a,kvs,rfl,hq,rfl,rs⟩:=r1;have hu:=eX hk r2;obtain⟨n1,n2⟩:=cW kk rs;refine⟨a,eR kvs kk,rfl,.inl ⟨kvs,kk,hq.imp And.right id,hu,rfl⟩,?_,λz hz=>n2 z hz⟩;cases q:b9 kk (kvs.map (·.1)) vs with
 |none=>rw[n1 q];rfl
 |some z=>obtain⟨w,e,_⟩:=n2 z q;rw[e];rfl
 trivial;rename_i ks vs d;split at h;rename_i hk;obtain rfl:=Z7 h;rw[ZH]at hk;refine⟨_,_,rfl,rfl,λ{v u} r1 r2=>?_⟩;simp only[Rep]at r1;obtain⟨a,kvs,rfl,⟨ep,hq⟩,rfl,rs⟩:=r1;obtain⟨b,rfl⟩:=da hk.2 r2;obtain⟨n1,n2⟩:=cW d rs;refine⟨a,eR kvs d,rfl,.inr ⟨kvs,ep,d,b,hq.imp And.right id,rfl,hk.1,r2.key hk.1,rfl⟩,?_,λz hz=>n2 z hz⟩;cases q:b9 d (kvs.map (·.1)) vs with
 |none=>rw[n1 q];rfl
 |some z=>obtain⟨w,e,_⟩:=n2 z q;rw[e];rfl
 trivial;trivial
def BL(x k:Z9 D):Z9 D:=match bT x k with|some (some d)=>U d|_=>M
def AR(k x:Z9 D):Z9 Bool:=match bT x k with|some o=>U o.isSome|none=>M
section
variable{X:Cx}{a b:Expr}{fa fb:Mk->Z9 D}{m m' mm:Bool}{pos:Pos}
theorem B2(hu:X.A.units+64<cLine)(ha:DE X m a fa)(hb:DE X m' b fb)(hs:EB b:=by intro _ _;rfl):DE X m (.Subscript a b pos) (λO=>BL (fa O) (fb O)):=
 (xP hu ha hb hs).imp λZ H Q hz=>by
  obtain⟨B,Hk,O,d,R,e,k⟩:=hz;dsimp only at e;unfold BL at e;cases q:bT (fa O) (fb O)with
  |none=>rw[q]at e;trivial
  |some o=>
   rw[q]at e;cases o with
   |none=>trivial
   |some z=>
    obtain rfl:=Z7 e;obtain⟨d1,d2,e1,e2,_⟩:=cO (K:=X.K) (B:=bh m B O Z) (B':=bh m' B O Z) (H:=H) q;refine two R e1 e2 λv u H' s R' r1 r2=>?_;obtain⟨Tj,Ti,Mi,Mh,go⟩:=cO (K:=X.K) (B:=bh m B O Z) (B':=bh m' B O Z) (H:=H') q;rw[e1]at Mi;obtain rfl:=Z7 Mi;rw[e2]at Mh;obtain rfl:=Z7 Mh;obtain⟨c,r,ev,g,_,hz⟩:=go r1 r2;obtain⟨w,rfl,F_⟩:=hz _ rfl;exact⟨c,w,ev,g,k w H' s F_⟩
def sO{K:Z6}{B B':ZM->Prop}{H:Hp}{x y:Z9 D}{c:Bool}(h:AR y x=U c):∃d e,x=U d/\y=U e/\∀{v u:V},Rep K B H d v->Rep K B' H e u->∃a r,v=.ref a/\DGA H a u r/\r.isSome=c:=by
 unfold AR at h;cases q:bT x y with
 |none=>rw[q]at h;trivial
 |some o=>
  rw[q]at h;obtain rfl:=Z7 h;obtain⟨d,e,e1,e2,go⟩:=cO (K:=K) (B:=B) (B':=B') (H:=H) q;exact⟨d,e,e1,e2,λr1 r2=>by obtain⟨a,r,ev,g,hs,_⟩:=go r1 r2;exact⟨a,r,ev,g,hs⟩⟩
theorem vm(hu:X.A.units+64<cLine)(ha:DE X m a fa)(hb:DE X m' b fb)(hm:behindInMarks .NotIn b=Y:=by rfl):DT X (.Compare a [.NotIn] [b] pos) (λO=>eQ (AR (fa O) (fb O))):=
 (dM (t8 hu) ha hb hm).imp λZ H Q hz=>by
  obtain⟨B,Hk,O,d,R,e,k⟩:=hz;cases q:AR (fa O) (fb O)with
  |none=>simp only[q,eQ]at e;trivial
  |some c=>
   simp only[q,eQ]at e;obtain rfl:=Z7 e;obtain⟨d1,d2,e1,e2,_⟩:=sO (K:=X.K) (B:=bh m' B O Z) (B':=bh m B O Z) (H:=H) q;refine two R e2 e1 λv u H' s R' r1 r2=>?_;obtain⟨Tj,Ti,Mi,Mh,go⟩:=sO (K:=X.K) (B:=bh m' B O Z) (B':=bh m B O Z) (H:=H') q;rw[e1]at Mi;obtain rfl:=Z7 Mi;rw[e2]at Mh;obtain rfl:=Z7 Mh;obtain⟨p,r,ev,g,rfl⟩:=go r2 r1;exact⟨p,r,ev,g,_,rfl,k H' s⟩
end
section
def pG{κ:Type}[DecidableEq κ]{knd:PySem.KeyKind prog w κ}{d:ZM}{kvs:Z_ (κ×Z3)}{k:κ}{key dflt:Z3}{Q:Z3->ZT->Prop}(s_:knd.is k key=true)(hm:s.heap.DictOf knd d kvs)(hsz:kvs.length<=sizeLine)
  (old:∀v,valueAt kvs k=some v->Q v {s with toks:=s.toks+1})(new:valueAt kvs k=none->∀h',h'.DictOf knd d (stored kvs k dflt)->Heap.SameBut d s.heap h'->Q dflt {s with heap:=h',toks:=s.toks+1}):
  wpAny (model prog w) A (dictSetDefault d key dflt) Q E s:=by
 obtain⟨o,es,ep,ho,hc,hd,hk,hp,hn⟩:=hm;have Vw:es.size<=sizeLine:=by
  have e1:=hp.length;rw[Array.length_toList]at e1;lia
 have Vj:(es.findIdx? λe=>knd.is k e.key)=kvs.findIdx? λkv=>decide (kv.1=k):=by rw[<-hp.findIdx k];obtain⟨l⟩:=es;simp
 have OA:=hp.find k;unfold dictSetDefault
 try with_reducible refine Za ?_
 refine Z8 (knd.pyHash s_ (Z8 (wpAny_dictFind_of (s:={s with toks:=s.toks+1}) s_ ho hd hk ?_)));rcases hi:(es.findIdx? λe=>knd.is k e.key)with _|i<;>rw[hi];have L4:k∉kvs.map (·.1):=not_mem_of_findIdx_none (Vj▸hi);have MZ:¬(kvs.any λkv=>decide (kv.1=k))=true:=by
  rw[XX]
  rintro⟨kv,Vb,he⟩
  exact L4 (ZQ.mpr ⟨kv,Vb,Zh he⟩)
 have hv:valueAt kvs k=none:=by
  unfold valueAt;rw[Option.map_eq_none_iff,List.find?_eq_none];exact λx hx he=>MZ (XX.mpr ⟨x,hx,he⟩)
 refine Z8 (YT (Z8 (wpAny_updateDictKeys (hz:=Vw) (s:={s with toks:=s.toks+1}) ho hd (Z4 (new hv _ ⟨_,_,ep+1,Zk _ ho (Obj.isFreed_of_dict (W9 hd _)),hc.mapDictKeys _,W9 hd _,hk.push s_ _,?_,?_⟩ (Zd ..))))));rw[stored,ZK MZ];have q:=hp.append s_ (knd.hash k) dflt;obtain⟨l⟩:=es;simpa using q;rw[stored,ZK MZ,YW,Yk];refine⟨hn,by simp,λa ha b hb=>?_⟩;have IU:b=k:=by simpa using hb
 exact λe=>L4 (by rw[<-IU,<-e];exact ha);obtain⟨ka,_⟩:=Array.findIdx?_eq_some_iff_findIdx_eq.mp hi;have hv:valueAt kvs k=some es[i].val:=by
  have q:=hp.find k;rw[<-q];have hf:(es.toList.findIdx? λe=>knd.is k e.key)=some i:=by rw[<-hi];obtain⟨l⟩:=es;simp
  obtain⟨h1,h2,h3⟩:=List.findIdx?_eq_some_iff_getElem.mp hf;have:es.toList.find? (λe=>knd.is k e.key)=some es.toList[i]:=by
   rw[List.find?_eq_some_iff_getElem];exact⟨h2,i,h1,rfl,λj hj=>by simpa using h3 j hj⟩
  rw[this];simp
 refine Z8 (WK (s:={s with toks:=s.toks+1}) ho hd ?_);rw[YR ka];exact Z8 (YT (Z4 (old _ hv)))
def vc{κ:Type}[DecidableEq κ]{knd:HeapKind prog w κ}{d a:ZM}{xs:Z_ (κ×ZM×Z3)}{k:κ}{dflt:Z3}{Q:Z3->ZT->Prop}(hu:knd.room A)(s_:knd.is s.heap k a)(hm:s.heap.DictOfH knd d xs)(hsz:xs.length<=sizeLine)
  (old:∀p,atKey xs k=U p->Q p.2 {s with toks:=s.toks+knd.draws k})(new:atKey xs k=M->∀h',h'.DictOfH knd d (storedH xs k a dflt)->Heap.SameBut d s.heap h'->Q dflt {s with heap:=h',toks:=s.toks+knd.draws k}):
  wpAny (model prog w) A (dictSetDefault d (.ref a) dflt) Q E s:=by
 obtain⟨o,es,ep,ho,hc,hd,he,SK,hn⟩:=hm;unfold dictSetDefault
 try with_reducible refine Za ?_
 refine Z8 (knd.pyHash hu s_ (Z8 (wpAny_dictFind_heap (s:={s with toks:=s.toks+knd.draws k}) hu s_ ho hd he SK hn (λK4=>?_) λj p hj=>?_)));have K6:=atKey_none_of_get K4;have L4:=not_mem_keys_of_get K4;refine Z8 (YT (Z8 (wpAny_updateDictKeys (hz:=by have e:=W5 he;lia) (s:={s with toks:=s.toks+knd.draws k}) ho hd (Z4 (new K6 _ ⟨_,_,ep+1,Zk _ ho (Obj.isFreed_of_dict (W9 hd _)),hc.mapDictKeys _,W9 hd _,?_,?_,?_⟩ (Zd ..))))));rw[storedH_new K6];simp[he,entryOfKey];rw[storedH_new K6];intro x hx;rcases Zl.mp hx with hx|hx;exact knd.keeps (SK x hx) ho hd (Zd ..);rw[ZG.mp hx];exact knd.keeps s_ ho hd (Zd ..);rw[storedH_new K6,YW,Yk];refine⟨hn,by simp,λx hx y hy=>?_⟩;have UJ:y=k:=by simpa using hy
 exact λe=>L4 (by rw[<-UJ,<-e];exact hx);have K6:=atKey_of_get hn hj;refine Z8 (WK (s:={s with toks:=s.toks+knd.draws k}) ho hd ?_);rw[entry_at he j,hj];exact Z8 (YT (Z4 (old p K6)))
end
section
variable{s:ZT}{v:V}{A:Y9}
def jQ{Q:Z3->ZT->Prop}{P:Y5}{w:YV}{d:ZM}{key dflt:Z3}(ty:s.TypeIs (.ref d) "dict")(hd:(d==sysModules)=Y)(h:wpAny (model P w) A.in1 (dictSetDefault d key dflt) Q E s):
  wpAny (model P w) A (call (.builtin "dict.setdefault") [.ref d,key,dflt]) Q E s:=by
 refine Y2 F.slot_dict_setdefault ty F.entry_dict_setdefault ?_ (F.args_dict_setdefault_3 _ _ _);unfold Builtin.«dict.setdefault»;refine Z8 ?_;unfold Builtin.Dict.keyAndDefault;refine Z8 (Wm ty (Z4 ?_));change wpAny _ _ (if(d==sysModules)=L then _ else(dictSetDefault d key dflt >>= _)) _ _ s;refine dF (by rw[hd];exact Zr) ?_;refine Z8 (YN h (λv s' q=>Z4 ⟨v,rfl,q⟩) λ_ _ q=>q)
end
def DSd(H:Hp)(a:ZM)(y z v:V)(N:Hp->Prop):Prop:=(DGA H a y (U v)/\N H/\((∃kvs,H a=U (.dK kvs))\/∃kvs ep,H a=U (.dD kvs ep)))\/(DGA H a y M/\v=z/\DPA H a y z N)
section
variable{A:Y9}
def vJ{Q:Z3->ZT->Prop}(hu:A.units+40<cLine)(I:Inv X a_ O H s)(g:DSd H a y z v N)(ry:RelV y u)(rz:RelV z r)(h:∀w' H' s',Inv X a_ O H' s'->N H'->RelV v w'->Q w' s'):
  wpAny (model X.prog X.w) A (call (.builtin "dict.setdefault") [.ref a,u,r]) Q E s:=by
 have ty:s.TypeIs (.ref a) "dict":=by rcases g with⟨g,_⟩|⟨g,_⟩<;>exact lH I g
 rcases g with⟨g,nn,own⟩|⟨g,rfl,p⟩;rcases g with⟨kvs,k,e,ey,l⟩|⟨kvs,ep,k,b,e,ey,hk,kb,l⟩;subst ey;obtain⟨z1,hd,vs,rel,dd⟩:=ma I.hok e;obtain⟨w',hw,F_⟩:=aaT.some_of (v:=v) (o:=valueAt vs k) (by rw[l];exact rel.val k);refine jQ ty hd (pG (mt ry) dd (by rw[<-rel.length];exact z1) (λv' Ji=>?_) λhn=>?_);rw[hw]at Ji;obtain rfl:=Z7 Ji;exact h w' _ _ (I.tok _) nn F_;rw[hw]at hn;trivial;subst ey;cases (show u=Value.ref b from ry);obtain⟨z1,hd,xs,rel,dd⟩:=jD I.hok e;obtain⟨w',hw,F_⟩:=aaT.some_of (v:=v) (o:=(atKey xs k).map (·.2)) (by rw[l];exact rel.val k);obtain⟨p,hp,K3⟩:=Xp.mp hw;refine jQ ty hd (vc (knd:=bp X.prog X.w) (by show A.units+1+30<cLine;lia) (cn I hk kb) dd (by rw[<-Yt rel];exact z1) (λp' Jf=>?_) λhn=>?_);rw[hp]at Jf;obtain rfl:=Z7 Jf;rw[K3];exact h w' _ _ (I.tok _) nn F_;rw[hp]at hn;trivial
 .rcases p with⟨H',⟨kvs,k,e,ey,l,eH⟩,nn⟩|⟨kvs,ep,k,b,e,ey,hk,kb,l,nn⟩
  .subst ey eH
   obtain⟨z1,hd,vs,rel,dd⟩:=Cz I.hok e;have hn:valueAt vs k=M:=by
    rcases g with⟨MQ,k',e',NF,l'⟩|⟨MQ,A_,k',b',e',NF,_,_,l'⟩
    .have N4:k'=k:=by cases k<;>cases k'<;>simp[kV]at NF<;>rw[NF]
     subst N4;rcases e' with e'|⟨o,e'⟩;rw[e]at e';cases e';exact aaT.none_of (by rw[l'];exact rel.val k');rw[e]at e';cases e'
    .rcases e' with e'|⟨o,e'⟩<;>(rw[e]at e';cases e')
   refine jQ ty hd (pG (mt ry) dd (by rw[<-rel.length];exact z1) (λv' Ji=>?_) λ_ h' Kz hs=>?_);rw[hn]at Ji;trivial;have hl:(du kvs k v).length<=sizeLine:=by have:=br kvs k v;lia
   have he:∃q,h'.get? a=U q:=let ⟨q,_,_,hq,_⟩:=Kz;⟨q,hq⟩
   exact h r _ _ (gx I (by rw[e];exact True.intro) hs he (ye hl hd (rel.put k rz) Kz)) nn rz
  .subst ey
   cases (show u=Value.ref b from ry);obtain⟨z1,hd,xs,rel,dd⟩:=jD I.hok (.inl e);have hn:(atKey xs k).map (·.2)=M:=by
    rcases g with⟨MQ,k',e',NF,l'⟩|⟨MQ,A_,k',b',e',NF,Kw,UG,l'⟩
    .rcases e' with e'|⟨o,e'⟩<;>(rw[e]at e';cases e')
    cases NF;have N4:k'=k:=RH.inj (cn I Kw UG).2 (cn I hk kb).2;subst N4;rcases e' with e'|⟨o,e'⟩;rw[e]at e';cases e';exact aaT.none_of (by rw[l'];exact rel.val k');rw[e]at e';cases e'
   refine jQ ty hd (vc (knd:=bp X.prog X.w) (by show A.units+1+30<cLine;lia) (cn I hk kb) dd (by rw[<-Yt rel];exact z1) (λp' Jf=>?_) λ_ h' Kz hs=>?_);rw[Jf]at hn;trivial;have hl:(du kvs k v).length<=sizeLine:=by have:=br kvs k v;lia
   obtain⟨q,es,A_,hq,h2,h3,h4,_,h5⟩:=Kz;refine h r (upd H a (.dD (du kvs k v) A_)) _ (gx I (by rw[e];exact True.intro) hs ⟨q,hq⟩ ⟨hl,hd,_,Paired.abY (rel.put k hk kb rz) λp q z=>⟨z.1,z.2.1,KR.to (λc ys ec=>?_) z.2.2.1,z.2.2.2⟩,q,es,hq,h2,h3,h4,h5⟩) (nn A_) rz;rw[ai (mU ec e (λz=>nomatch z))];exact ec
end
def ab3:TE:=λ_ H Q=>∀p,H p=M->Q (.ref p) (upd H p (.dD [] 0))
section
variable{X:Cx}{pos:Pos}{a b:Expr}{i:Nat}{x:Str}
def jt:PE X (.Dict [] [] pos) ab3:=λa_ s O H Q I h=>
 wpAny_Dict_empty ⟨.ref s.z,_,I.laid (a:=s.z) (o:=.dD [] 0) (t':=s.toks) (λ_ _ q=>Z5 _ q) (ZP _) (o9 I.big),rfl,h _ (I.hok.fresh (ZP _))⟩
theorem wJ:DF X (.Dict [] [] pos) (λ_=>U (.dK [] [])):=wz.imp λq H Q hz=>by
 obtain⟨B,Hk,O,d,R,e,k⟩:=hz;obtain rfl:=Z7 e;intro p hp;exact k p _ (ax hp) hp ⟨[],ah,rfl,M1.nil⟩
theorem wy:DF X (.Dict [] [] pos) (λ_=>U (.dD [] [])):=jt.imp λq H Q hz=>by
 obtain⟨B,Hk,O,d,R,e,k⟩:=hz;obtain rfl:=Z7 e;intro p hp;exact k p _ (ax hp) hp ⟨[],⟨0,ah⟩,rfl,M1.nil⟩
noncomputable def jZ(x:D)(k v:D):Z9 D:=match x with
 |.dK ks vs=>(match iR k with|some kk=>if ks.length<lim then U (.dK (ji kk ks) (yj kk v ks vs)) else M|none=>M)
 |.dD ks vs=>if(bH 8 k&&m4 k&&decide (ks.length<lim))=L then U (.dD (ji k ks) (yj k v ks vs)) else M
 |_=>M
noncomputable def xv(i:Nat)(k v:Z9 D)(q:Mk):Z9 Out:=match bQ i q,k,v with
 |some x,some k,some v=>(match jZ x k v with|some y=>U (.next (q.set i (U (y,L))))|none=>M)
 |_,_,_=>M
set_option tactic.hygienic true in
def pJ{K:Z6}{B B':ZM->Prop}{H:Hp}{x k v y:D}{l:ZM}{u z:V}(h:jZ x k v=U y)(ob:ObR K B H x l)(rk:Rep K B' H k u)(rz:Rep K B H v z):
  ∀{N:Hp->Prop},(∀o,(Ext B H (upd H l o)->ObR K B (upd H l o) y l)->N (upd H l o))->DPA H l u z N:=by
 intro N go;unfold jZ at h;split at h;rename_i ks vs;obtain⟨kvs,e,rfl,rs⟩:=ob;split at h;rename_i kk hk;split at h;rename_i hl;obtain rfl:=Z7 h;rw[ZJ]at hl;exact .inl ⟨_,⟨kvs,kk,e,eX hk rk,Zz hl (aD (ZP _)),rfl⟩,go _ λex=>⟨_,ah,dQ kk z kvs,(i7 rz kk rs).ext ex⟩⟩;trivial;trivial;rename_i ks vs;obtain⟨kvs,⟨ep,e⟩,rfl,rs⟩:=ob;split at h;rename_i hc;obtain rfl:=Z7 h;rw[ZH,ZH,Y_,ZJ]at hc;obtain⟨⟨h1,h2⟩,h3⟩:=hc;obtain⟨b,rfl⟩:=da h2 rk;exact .inr ⟨kvs,ep,k,b,e,rfl,h1,rk.key h1,Zz h3 (aD (ZP _)),λA_=>go _ λex=>⟨_,⟨A_,ah⟩,dQ k z kvs,(i7 rz k rs).ext ex⟩⟩;trivial;trivial
set_option tactic.hygienic true in
theorem A0(hu:X.A.units+64<cLine)(n:Nm X i x)(hb:DE X m b fb)(hv:DE X Y c fc)(hs:swapsWith c (U (.Subscript (.Name x px) b pos')) pos.line X.env=pure Y:=by rfl):
  DS X (.Assign [.Subscript (.Name x px) b pos'] c pos) (λO=>xv i (fb O) (fc O) O):=
 (oZ hu (aZ n.at' n.vis n.d1 n.d2) hb hv hs).imp λDn Z H hz=>by
  obtain⟨B,Hk,O,o,R,e,k⟩:=hz;dsimp only at e;unfold xv at e;split at e;rename_i d0 kd vd q0 q1 q2;split at e;rename_i y qy;obtain rfl:=Z7 e;have h1:=bL q0;refine⟨B,Hk,O,vd,R,q2,λz H1 s1 rz=>?_⟩;have R1:=R.to s1;obtain⟨l,h2,h3,ob⟩:=R1.own i _ h1;refine⟨.ref l,h2,B,Hk,O,kd,R1,q1,λu H2 s2 rk=>?_⟩;have R2:=R1.to s2;have Uw:=ob.ext (R1.ext s2) λo q n=>s2.get l o n q;refine⟨l,rfl,pJ qy Uw rk (rz.ext (R1.ext s2)) λho new=>?_⟩;obtain⟨x1,x2⟩:=R2.oset h1 h2 new;exact k Z _ ((R.ext (s1.trans s2)).trans x1) x2;trivial;trivial
end
def pM(x:V)(H:Hp):Prop:=∃a,x=.ref a/\((∃kvs,Rd H a (.dK kvs))\/∃kvs ep,Rd H a (.dD kvs ep))
section
variable{X:Cx}{pos j_ apos px:Pos}{m m' mm:Bool}{o a b c e:Expr}{es:Z_ Expr}{fa fb fc:Mk->Z9 D}{i:Nat}{x:Str}{to:TE}{t:TA}{name:Str}{id:String}{r:V->Z_ V->Hp->VK->Prop}
def rZ(I:Inv X a_ O H s)(rv:RelV v u)(d:pM v H):s.TypeIs u "dict"/\∀a,u=.ref a->∃ob,s.heap.get? a=U ob/\ob.dict=M:=by
 obtain⟨a,rfl,d⟩:=d;obtain rfl:u=Value.ref a:=rv;rcases d with⟨kvs,e⟩|⟨kvs,ep,e⟩;obtain⟨_,_,vs,_,dd⟩:=ma I.hok e;refine⟨dd.typeIs,λb q=>?_⟩;cases q;obtain⟨ob,_,_,h1,h2,_⟩:=dd;exact⟨ob,h1,h2.2.1⟩;obtain⟨_,_,xs,_,dd⟩:=jD I.hok e;refine⟨dd.typeIs,λb q=>?_⟩;cases q;obtain⟨ob,_,_,h1,h2,_⟩:=dd;exact⟨ob,h1,h2.2.1⟩
def Gq(r:V->Z_ V->Hp->VK->Prop)(to:TE)(t:TA):TE:=λq H Q=>to q H λx H1=>pM x H1/\t q H1 λxs H2=>r x xs H2 Q
def t5(slot:Slot "dict" name id)(Qm:typeOf (.builtin id)=pure (.type "method_descriptor"))(hm:MtM X id r)(ho:PE X o to)(ha:PA X (e::es) t)(base:attributeBase o name X.env (eval o X.env)=eval o X.env:=by rfl)(few:((backTo j_ (starEach (e::es) X.env)).all (λx=>!x.1)&&(backToKw j_ (keywordEach [] X.env)).all (λx=>x.1.isSome)&&decide ((e::es).length+([]:Z_ Keyword).length+(if([]:Z_ Keyword).isEmpty then 0 else 1)<30))=L:=by rfl)(line:(apos.endLine==j_.line)=L:=by rfl)(ID:starEach (e::es) X.env=(Y,eval e X.env)::starEach es X.env:=by rfl)(plain:(backTo j_ (starEach es X.env)).any (·.1)=Y:=by rfl):
  PE X (.Call (.Attribute o name apos) (e::es) [] j_) (Gq r to t):=by
 intro a_ s q H Q I h;refine wpAny_Call_method_late base few line rfl (thn (ho a_ s q H _ I h) λv s1 hz=>?_);obtain⟨x,H1,I1,r1,d1,q1⟩:=hz;obtain⟨h1,h2⟩:=rZ I1 r1 d1;have hA:=ha j_ a_ s1 q H1 _ I1 q1;refine⟨"dict",id,F.plainAttrs_dict,slot,Qm,h1,h2,?_⟩;rw[ID]at hA⊢;exact Calls.callWith_builtin (by show(Y||(backTo j_ (starEach es X.env)).any (·.1))=Y;rw[plain]<;>rfl) (Calls.evalArgs_plain (thn hA λus s2 hz=>by obtain⟨vs,H2,I2,r2,q2⟩:=hz;exact hm a_ s2 q H2 x vs v us Q I2 r1 r2 q2))
def abU:V->Z_ V->Hp->VK->Prop:=λx vs H Q=>∃l y z v,x=.ref l/\vs=[y,z]/\DSd H l y z v λH'=>Q v H'
def lm(hu:X.A.units+64<cLine):MtM X "dict.setdefault" abU:=by
 intro a_ s O H x vs v us Q I rx rv h;obtain⟨l,y,z,w,rfl,rfl,g⟩:=h;cases rx;obtain⟨u1,u2,rfl,r1,r2⟩:=rv.two;exact vJ (by lia) I g r1 r2 λw' H' s' I' q F_=>⟨w,H',I',F_,q⟩
def tMX(K:Z6)(g:Mk->Z9 (D×Mk)):TE:=λq H Q=>∃B Hk O d h_,Rel K B Hk O q H/\g O=U (d,h_)/\∀v H',Ext B H H'->Rel K B Hk h_ q H'->Rep K B H' d v->Q v H'
def Ig(K:Z6)(g:Mk->Z9 (Bool×Mk)):TT:=λq H Q=>∃B Hk O b h_,Rel K B Hk O q H/\g O=U (b,h_)/\∀H',Ext B H H'->Rel K B Hk h_ q H'->Q b H'
abbrev DX(X:Cx)(e:Expr)(g:Mk->Z9 (D×Mk)):Prop:=PE X e (tMX X.K g)
abbrev DTX(X:Cx)(e:Expr)(g:Mk->Z9 (Bool×Mk)):Prop:=PT X e (Ig X.K g)
noncomputable def sdO(i:Nat)(k v:Z9 D)(q:Mk):Z9 (D×Mk):=match bQ i q,k,v with
 |some x,some kd,some vd=>(match bT (U x) (U kd)with
  |some (some d)=>U (d,q)
  |some none=>(match jZ x kd vd with|some y=>U (vd,q.set i (U (y,L)))|none=>M)
  |none=>M)
 |_,_,_=>M
def ObR.dictAt{K:Z6}{B:ZM->Prop}{H:Hp}{x k v y:D}{l:ZM}{o:Z9 D}(ob:ObR K B H x l)(h:bT (U x) (U k)=U o):pM (.ref l) H/\((∃kvs,H l=U (.dK kvs))\/∃kvs ep,H l=U (.dD kvs ep)):=by
 cases x with
 |dK ks vs=>obtain⟨kvs,e,_⟩:=ob;exact⟨⟨l,rfl,.inl ⟨kvs,.inl e⟩⟩,.inl ⟨kvs,e⟩⟩
 |dD ks vs=>obtain⟨kvs,⟨ep,e⟩,_⟩:=ob;exact⟨⟨l,rfl,.inr ⟨kvs,ep,.inl e⟩⟩,.inr ⟨kvs,ep,e⟩⟩
 |_=>simp only[bT]at h;trivial
def ObR.get{K:Z6}{B B':ZM->Prop}{H:Hp}{x k:D}{l:ZM}{o:Z9 D}{u:V}(ob:ObR K B H x l)(h:bT (U x) (U k)=U o)(rk:Rep K B' H k u):
  ∃r,DGA H l u r/\r.isSome=o.isSome/\∀z,o=U z->∃w,r=U w/\Rep K B H z w:=by
 cases x with
 |dK ks vs=>
  obtain⟨kvs,e,rfl,rs⟩:=ob;simp only[bT]at h;split at h;rename_i kk hk;obtain⟨n1,n2⟩:=cW kk rs;have h':b9 kk (kvs.map (·.1)) vs=o:=Z7 h;refine⟨eR kvs kk,.inl ⟨kvs,kk,.inl e,eX hk rk,rfl⟩,?_,λz hz=>n2 z (h'.trans hz)⟩;rw[<-h'];cases q:b9 kk (kvs.map (·.1)) vs with
  |none=>rw[n1 q];rfl
  |some z=>obtain⟨w,e,_⟩:=n2 z q;rw[e];rfl
  trivial
 |dD ks vs=>
  obtain⟨kvs,⟨ep,e⟩,rfl,rs⟩:=ob;simp only[bT]at h;split at h;rename_i hk;rw[ZH]at hk;obtain⟨b,rfl⟩:=da hk.2 rk;obtain⟨n1,n2⟩:=cW k rs;have h':b9 k (kvs.map (·.1)) vs=o:=Z7 h;refine⟨eR kvs k,.inr ⟨kvs,ep,k,b,.inl e,rfl,hk.1,rk.key hk.1,rfl⟩,?_,λz hz=>n2 z (h'.trans hz)⟩;rw[<-h'];cases q:b9 k (kvs.map (·.1)) vs with
  |none=>rw[n1 q];rfl
  |some z=>obtain⟨w,e,_⟩:=n2 z q;rw[e];rfl
  trivial
 |_=>simp only[bT]at h;trivial
set_option tactic.hygienic true in
theorem vv(hu:X.A.units+64<cLine)(n:Nm X i x)(hb:DE X Y b fb)(hc:DE X Y c fc)(base:attributeBase (.Name x px) "setdefault" X.env (eval (.Name x px) X.env)=eval (.Name x px) X.env:=by rfl)(few:((backTo j_ (starEach [b,c] X.env)).all (λx=>!x.1)&&(backToKw j_ (keywordEach [] X.env)).all (λx=>x.1.isSome)&&decide (([b,c]).length+([]:Z_ Keyword).length+(if([]:Z_ Keyword).isEmpty then 0 else 1)<30))=L:=by rfl)(line:(apos.endLine==j_.line)=L:=by rfl)(ID:starEach [b,c] X.env=(Y,eval b X.env)::starEach [c] X.env:=by rfl)(Jc:starEach [c] X.env=[(Y,eval c X.env)]:=by rfl)(plain:(backTo j_ (starEach [c] X.env)).any (·.1)=Y:=by rfl):
  DX X (.Call (.Attribute (.Name x px) "setdefault" apos) [b,c] [] j_) (λO=>sdO i (fb O) (fc O) O):=
 (t5 F.slot_dict_setdefault F.type_dict_setdefault (lm hu) (aZ n.at' n.vis n.d1 n.d2) (aw hb (aw hc aK Jc) ID) base few line ID plain).imp λZ H Q hz=>by
  obtain⟨B,Hk,O,d,h_,R,e,k⟩:=hz;dsimp only at e;unfold sdO at e;split at e;rename_i d0 kd vd q0 q1 q2;have h1:=bL q0;obtain⟨l,h2,h3,ob⟩:=R.own i _ h1;obtain⟨og,Ph⟩:∃o,bT (U d0) (U kd)=U o:=by
   cases q:bT (U d0) (U kd)with
   |none=>rw[q]at e;trivial
   |some o=>exact⟨o,rfl⟩
  refine⟨.ref l,h2,(ob.dictAt (v:=vd) (y:=d0) Ph).1,two (m:=Y) (m':=Y) R q1 q2 λu z H' s R' r1 r2=>?_⟩;have Mu:=ob.ext (R.ext s) λo q n=>s.get l o n q;have ow:=(Mu.dictAt (v:=vd) (y:=d0) Ph).2;obtain⟨rr,g,gs,gz⟩:=Mu.get Ph r1;rw[Ph]at e;cases og with
  |some dd=>
   simp only at e;cases e;obtain⟨w,rfl,F_⟩:=gz _ rfl;exact⟨l,u,z,w,rfl,rfl,.inl ⟨g,k w H' (R.ext s) R' F_,ow⟩⟩
  |none=>
   simp only at e;split at e;rename_i y qy;cases e;have hr:rr=M:=by cases rr with
    |none=>rfl
    |some _=>simp at gs
   subst hr;refine⟨l,u,z,z,rfl,rfl,.inr ⟨g,rfl,pJ qy Mu r1 r2 λho new=>?_⟩⟩;obtain⟨x1,x2⟩:=R'.oset h1 h2 new;exact k z _ ((R.ext s).trans x1) x2 (r2.ext x1);trivial
  trivial
def B3(hu:X.A.units+64<cLine)(ha:DX X a ga)(hb:DE X Y b fb)(hm:behindInMarks .NotEq b=Y:=by rfl):
  DTX X (.Compare a [.NotEq] [b] pos) (λO=>af (ga O) λp=>match neO (U p.1) (fb p.2)with|some c=>U (c,p.2)|none=>M):=
 (dM (rM hu) ha hb hm).imp λZ H Q hz=>by
  obtain⟨B,Hk,O,t,h_,R,e,k⟩:=hz;obtain⟨⟨d1,q_⟩,e1,e2⟩:=ak e;simp only at e2;split at e2;rename_i cc qc;cases e2;refine⟨B,Hk,O,d1,_,R,e1,λv H1 x1 R1 r1=>?_⟩;unfold neO eQ at qc;cases q:eqO (U d1) (fb h_)with
  |none=>rw[q]at qc;trivial
  |some c0=>
   rw[q]at qc;obtain rfl:=Z7 qc;obtain⟨d,d2,z1,z2,h1,h2,rfl⟩:=eh q;obtain rfl:=Z7 z1;refine⟨B,Hk,h_,d2,R1,z2,λu H2 s2 r2=>⟨B,_,d1,d2,h1,h2,r1.ext (R1.ext s2),r2,_,rfl,k H2 (x1.trans (R1.ext s2)) (R1.to s2)⟩⟩
  trivial
noncomputable def ifX(t:Z9 (Bool×Mk))(g1 g2:Mk->Z9 Out):Z9 Out:=match t with
 |some (true,q)=>g1 q
 |some (false,q)=>g2 q
 |none=>M
set_option tactic.hygienic true in
theorem Dq{x y:Z_ Stmt}(hc:DTX X c gt)(ha:DSs X x g1)(hb:DSs X y g2):DS X (.If c x y pos) (λO=>ifX (gt O) g1 g2):=
 (vt hc ha hb).imp λDn Z H hz=>by
  obtain⟨B,Hk,O,o,R,e,k⟩:=hz;dsimp only at e;unfold ifX at e;split at e;rename_i h_ q;exact⟨B,Hk,O,L,h_,R,q,λH1 x1 R1=>wX ⟨B,Hk,h_,o,R1,e,k.ext x1⟩⟩;rename_i h_ q;exact⟨B,Hk,O,Y,h_,R,q,λH1 x1 R1=>vL ⟨B,Hk,h_,o,R1,e,k.ext x1⟩⟩;trivial
end
section
variable{A:Y9}
def kH(hd:(d==sysModules)=Y)(ho:s.heap.get? d=U o)(hc:o.ExactDict)(v_:o.data=.dict es ep)(hQ:Q (.ref s.z) {s with heap:=s.heap.push {cls:=.type "dict_keyiterator",data:=.fields #[.ref d,.int 0 0,.int es.size 0,.int ep 0]}}):wpAny (model prog w) A (pyIter (.ref d)) Q E s:=by
 have ty:s.TypeIs (.ref d) "dict":=⟨o,ho,hc.1⟩;refine wpAny_pyIter_slot ty F.slot_dict_iter (Y2 F.slot_dict_iter ty F.entry_dict_iter ?_ (F.args_dict_iter_1 _));unfold Builtin.«dict.__iter__»;refine Z8 ?_;unfold Builtin.Dict.dictSlotNone;refine Z8 (Wm ty (Z4 ?_));change wpAny _ _ (Builtin.Dict.showsAll d >>= _) _ E s;unfold Builtin.Dict.showsAll;rw[ZK (by rw[hd];exact Zr)];refine Z8 (Z4 (Z8 (WK ho v_ (Z8 (wpAny_dictEpoch ho v_ (Z8 (Y0 (Z4 ⟨_,rfl,"dict_keyiterator",_,⟨_,ZN _ rfl,rfl⟩,W3.lookup,?_⟩))))))));simpa[rawInt]using hQ
def eN(hh:A.handled=M)(hit:s.heap.IsKeyIter it d i es.size ep)(ho:s.heap.get? d=U o)(v_:o.data=.dict es ep)(item:∀e,es[i]?=U e->∀h',h'.IsKeyIter it d (i+1) es.size ep->Heap.SameBut it s.heap h'->Q (U e.key) {s with heap:=h'})(stop:es[i]?=M->∀h',Heap.ExtBut it s.heap h'->Q M {s with heap:=h'}):wpAny (model prog w) A (pyNext (.ref it)) Q E s:=by
 obtain⟨oi,gi,ci,di⟩:=id hit;unfold pyNext;refine Z8 (XT (YF (name:=Str.ofString "__next__") hit.typeIs W3 (Y2 W3 hit.typeIs F.entry_dict_keyiterator_next ?_ (F.args_dict_keyiterator_next_1 _))));refine Z8 (Z4 (Z8 (Z8 ?_)))
 first|refine Z8 (W_ hit.typeIs (Z4 ?_))|refine Z8 (WE hit.typeIs (Z4 ?_))
 refine Z8 (WT gi di ?_);simp only[show Builtin.Dict_items.ownsTuple "dict_keyiterator"=Y by decide,ZI,Zb];change wpAny _ _ (if(Value.ref d==Value.none)=L then _ else _) _ _ s;refine dF (by exact Zr) ?_;refine Z8 (Z4 (Z8 (WK ho v_ ?_)));refine dF (by simp) ?_;refine Z8 (Z4 (Z8 (wpAny_dictEpoch ho v_ ?_)));refine dF (by simp) ?_;refine Z4 ?_;by_cases ka:i<es.size
 .have hx:=YR ka
  simp only[show ¬((i:Int)<0) from by lia,Zb,Int.toNat_natCast,hx];refine Z8 ?_
  first|refine Z8 (W_ hit.typeIs (Z4 ?_))|refine Z8 (WE hit.typeIs (Z4 ?_))
  refine Z8 (wpAny_isOneOf_keyiter hit.typeIs ?_);change wpAny _ _ (setField (.ref it) 1 (rawInt ((i:Int)+1)) >>= _) _ _ s;have nx:(s.heap.update it (Obj.mapFields (·.setIfInBounds 1 (rawInt ((i:Int)+1))))).IsKeyIter it d (i+1) es.size ep:=⟨_,Zk _ gi (X4 (Y7 di _)),(Xe ..).trans ci,by rw[Y7 di];simp[rawInt]⟩
  refine Z8 (Yi gi di (by simp) (Z8 (Za (Z8 (wpAny_isOneOf_keyiter (s:={s with heap:=s.heap.update it (Obj.mapFields (·.setIfInBounds 1 (rawInt ((i:Int)+1))))}) nx.typeIs ?_)))));change wpAny _ _ (pure es[i].key) _ _ _;exact Z4 (Z4 ⟨_,rfl,Z4 (item _ hx _ nx (Zd ..))⟩)
 .have hx:es[i]?=M:=XR (by lia)
  simp only[show ¬((i:Int)<0) from by lia,Zb,Int.toNat_natCast,hx];refine Z8 ?_
  first|refine Z8 (W_ hit.typeIs (Z4 ?_))|refine Z8 (WE hit.typeIs (Z4 ?_))
  change wpAny _ _ (setField (.ref it) 0 .none >>= _) _ _ s;refine Z8 (Yi gi di (by simp) ?_);change wpAny _ _ (newExc (.type "StopIteration") [] >>= _) _ _ _;simp only[newExc,newTuple,raiseNew];refine Z8 (Z8 (Y0 ?_ (by size_fits)));refine Z8 (m:=firstArgMember _ _) (Wl (a:=Value.none) (by first|rfl|(simp only[firstArgMember];rfl)) (Y0 ?_ (by size_fits)));refine Z8 (wpAny_handled ?_);rw[show A.in1.handled=M from hh];refine Z8 (Z4 (wpAny_throw ?_));refine Z8 (X_ (T:="StopIteration") (b:=L) ⟨_,ZN _ rfl,rfl⟩ WR ?_);exact Z4 (stop hx _ (((Zd ..).extBut.push _).push _))
end
noncomputable def Itk(a:ZM)(kvs:Z_ (D×V))(ep:Nat):It:=
 ⟨λi H=>Rd H a (.dD kvs ep)/\i<kvs.length,λi H v H'=>H'=H/\∃p,kvs[i]?=U p/\KR H p.1 v,λi H=>Rd H a (.dD kvs ep)/\kvs.length<=i⟩
theorem aau.get:∀{kvs:Z_ (D×V)}{xs:Z_ (D×ZM×Z3)}{i:Nat}{p:D×V},aau H kvs xs->kvs[i]?=U p->∃q,xs[i]?=U q/\KR H p.1 (.ref q.2.1)
 |_,_,_,_,.nil,h=>by simp at h
 |_,_,0,_,.cons r _,h=>by simp at h;subst h;exact⟨_,rfl,r.2.2.1⟩
 |_,_,i+1,p,.cons _ t,h=>by
  obtain⟨q,h1,h2⟩:=aau.get (i:=i) (p:=p) t (by simpa using h);exact⟨q,by simpa using h1,h2⟩
def t9{P:Y5}{w:YV}{K:Z6}{tg:Expr}{a it:ZM}{kvs:Z_ (D×V)}{ep:Nat}:Turn P w K tg (Itk a kvs ep) [it] it (λi h=>h.IsKeyIter it a i kvs.length ep) where
 mem:=by simp
 obj:=λi h st b hb=>by
  have e:b=it:=by simpa using hb
  subst e;obtain⟨o,e,c,d⟩:=st;exact⟨o,e,λv z=>by rw[d]at z;cases z⟩
 keep:=λi h h' st k=>st.at λo e=>k it (by simp) o e
 item:=by
  intro X hP hw hK hc i a_ s O H E I hf st hg;subst hP hw hK;obtain⟨rd,hi⟩:=hg;obtain⟨z,y,xs,r,o,es,h1,h2,h3,h4,h5⟩:=(show aak X.prog X.w H s.heap a (.dD kvs ep) from pY I.hok rd)
  have hsz:es.size=kvs.length:=by rw[W5 h4,<-Yt r]
  have hp:kvs[i]?=U kvs[i]:=by simp[hi]
  obtain⟨q,hq,kr⟩:=r.get hp;obtain⟨f0,f1,f2,f3,f4,f5⟩:=hf it (by simp);rw[<-hsz]at st;refine eN (I.ok.hd hc) st h1 h3 (λe he h' g_ sb=>?_) λhn=>?_;have ek:e.key=.ref q.2.1:=by
   rw[entry_at h4 i,hq]at he;have:=Z7 he;rw[<-this];rfl
  have I1:Inv X a_ O H {s with heap:=h'}:=I.turned (t':=s.toks) (λb o hb e=>(sb.2 b hb).trans e) f0 f1 f3 f4 f5;rw[hsz]at g_;obtain⟨o',e',c',d'⟩:=id g_;rw[ek];exact⟨_,rfl,wu (s:={s with heap:=h'}) e' c' d' (by decide) ⟨.ref q.2.1,H,I1,rfl,⟨rfl,kvs[i],hp,kr⟩,g_,λb hb=>(hf b hb).1⟩⟩;exfalso;rw[YR (by lia)]at hn;trivial
 done:=by
  intro X hP hw hK hc i a_ s O H E I hf st hg;subst hP hw hK;obtain⟨rd,hi⟩:=hg;obtain⟨z,y,xs,r,o,es,h1,h2,h3,h4,h5⟩:=(show aak X.prog X.w H s.heap a (.dD kvs ep) from pY I.hok rd)
  have hsz:es.size=kvs.length:=by rw[W5 h4,<-Yt r]
  obtain⟨f0,f1,f2,f3,f4,f5⟩:=hf it (by simp);rw[<-hsz]at st;refine eN (I.ok.hd hc) st h1 h3 (λe he h' g_ sb=>?_) λhn h' eb=>⟨rfl,I.turned (t':=s.toks) (λb o hb e=>eb b o hb e) f0 f1 f3 f4 f5⟩
  exfalso;rw[XR (by lia)]at he;trivial
 self:=λ_ _ _ _ _ st h=>wpAny_pyIter_keyiter st h
section
variable{a:Expr}
def Ev(te:TE):TI:=λq H R=>te q H λx H1=>∃a kvs ep,x=.ref a/\Rd H1 a (.dD kvs ep)/\R (Itk a kvs ep) H1
def Bg{te:TE}(h:PE X a te):PI X tg a (Ev te):=by
 intro a_ s O H R I hq;refine thn (h a_ s O H _ I hq) λv s1 hz=>?_;obtain⟨x,H1,I1,r1,l,kvs,ep,e,rd,q⟩:=hz;subst e;cases r1;obtain⟨z,y,xs,r,o,es,h1,h2,h3,h4,h5⟩:=(show aak X.prog X.w H1 s1.heap l (.dD kvs ep) from pY I1.hok rd)
 have hsz:es.size=kvs.length:=by rw[W5 h4,<-Yt r]
 refine kH y h1 h2 h3 ?_;rw[hsz];refine⟨s1.z,[s1.z],_,_,H1,rfl,I1.kept (t':=s1.toks) λb o e=>Z5 _ e,t9,⟨_,ZN _ rfl,rfl,rfl⟩,λb hb=>?_,q⟩;have e:b=s1.z:=by simpa using hb
 subst e;exact I1.abl (ZP _) (I1.hok.fresh (ZP _))
def xW(x:Z9 D):Z9 (Z_ D):=match x with|some (.dD ks vs)=>U ks|_=>M
set_option tactic.hygienic true in
theorem AA(h:DE X m a fa):DI X m tg a (λq=>xW (fa q)):=
 (Bg h).imp λO H Q hz=>by
  obtain⟨B,Hk,q,ds,R,e,k⟩:=hz;dsimp only at e;unfold xW at e;split at e;rename_i ks vs q1;obtain rfl:=Z7 e;refine⟨B,Hk,q,_,R,q1,λv H' s r=>?_⟩;simp only[Rep]at r;obtain⟨l,kvs,rfl,⟨ep,hq⟩,rfl,rs⟩:=r;have rd:∀{H2:Hp},Ext (bh m B q O) H' H2->Rd H2 l (.dD kvs ep):=λ{H2} x=>by
   rcases hq with⟨b,hq⟩|⟨o,hq⟩;exact .inl ((x.abF l b).trans hq);exact .inr ⟨o,x.aaS _ _ _ hq⟩
  refine⟨l,kvs,ep,rfl,rd Ext.refl,k _ H' s λH2 x=>?_⟩;refine⟨⟨rd x,by simp⟩,λi d hd=>?_⟩;rw[Yv]at hd;cases hp:kvs[i]? with
  |none=>rw[hp]at hd;trivial
  |some p=>
   rw[hp]at hd;have B_:p.1=d:=Z7 hd;refine⟨⟨rd x,(ZX.mp hp).1⟩,λz H3 ⟨e3,p',Jf,kr⟩=>?_⟩;rw[hp]at Jf;obtain rfl:=Z7 Jf;rw[e3];exact⟨aaa.refl _,by rw[<-B_];exact kr.rep⟩
  trivial
end
section
variable{X:Cx}{apos p:Pos}{m':Bool}{a b c:Expr}
def Da(K:Z6):R2:=λx y H Q=>∃a b xs ys,x=.ref a/\y=.ref b/\SqT K H a xs/\SqT K H b ys/\xs.length+ys.length<=sizeLine/\(xs=[]->Q (.ref b) H)/\(ys=[]->Q (.ref a) H)/\∀p,H p=M->Q (.ref p) (upd H p (.tup (xs++ys)))
def xo:OpR X (binaryOp .Add) (Da X.K):=by
 intro a_ s q H x y v u Q I rx ry h;obtain⟨t,b,xs,ys,rfl,rfl,ht,hb,hz,q0,q1,q2⟩:=h;cases rx;cases ry;obtain⟨vs,r1,p1,_⟩:=I.tuple ht;obtain⟨ws,r2,p2,_⟩:=I.tuple hb;have l1:=r1.length;have l2:=r2.length;obtain⟨⟨cls,dd,data,sl⟩,ho,hc,n,hd⟩:=id p1;obtain⟨⟨L8,Jr,data2,Jp⟩,JE,JY,n2,hd2⟩:=id p2;simp only at hc hd JY hd2;subst hc hd JY hd2;by_cases hv:vs=[];have hx:xs=[]:=by cases xs with
  |nil=>rfl
  |cons _ _=>rw[hv]at l1;simp at l1
 exact concat_meets ⟨_,ho,rfl⟩ ⟨_,JE,rfl⟩ noFill_tuple_add seq_tuple_add WN WQ (WV _ _) (tuple_addW0 t b vs.toArray ws.toArray n n2 dd Jr sl Jp (by simp[hv])) ⟨ho,JE,.ref b,H,I,rfl,q0 hx⟩;by_cases hw:ws=[];have hy:ys=[]:=by cases ys with
  |nil=>rfl
  |cons _ _=>rw[hw]at l2;simp at l2
 exact concat_meets ⟨_,ho,rfl⟩ ⟨_,JE,rfl⟩ noFill_tuple_add seq_tuple_add WN WQ (WV _ _) (tuple_addW1 t b vs.toArray ws.toArray n n2 dd Jr sl Jp (by simpa using hv) (by simp[hw])) ⟨ho,JE,.ref t,H,I,rfl,q1 hy⟩;refine concat_meets ⟨_,ho,rfl⟩ ⟨_,JE,rfl⟩ noFill_tuple_add seq_tuple_add WN WQ (WV _ _) (tuple_addW2 t b vs.toArray ws.toArray n n2 dd Jr sl Jp (by simpa using hv) (by simpa using hw) (by rw[ZW,ZW];lia)) ⟨ho,JE,.ref s.z,_,?_,rfl,q2 _ (I.hok.fresh (ZP _))⟩;refine I.laid (t':=s.toks) (λb u e=>Z5 _ e) (ZP _) ⟨by rw[Zv];exact hz,vs++ws,r1.append r2,⟨_,ZN _ rfl,rfl,0,?_⟩⟩;simp
noncomputable def sf(x y:Z9 D):Z9 D:=match x,y with|some (.tup xs),some (.tup ys)=>if xs.length+ys.length<=lim then U (.tup (xs++ys)) else M|_,_=>M
set_option tactic.hygienic true in
theorem wF(ha:DE X m a fa)(hb:DE X m b fb):DE X m (.BinOp a .Add b pos) (λq=>sf (fa q) (fb q)):=
 (xX xo ha hb).imp λO H Q hz=>by
  obtain⟨B,Hk,q,d,R,e,k⟩:=hz;dsimp only at e;unfold sf at e;split at e;rename_i ds es q1 q2;split at e;rename_i hl;obtain rfl:=Z7 e;refine two R q1 q2 λv u H' s R' r1 r2=>?_;simp only[Rep]at r1 r2;obtain⟨t,xs,rfl,ht,rx⟩:=r1;obtain⟨b,ys,rfl,hb,ry⟩:=r2;have l1:=rx.length;have l2:=ry.length;refine⟨t,b,xs,ys,rfl,rfl,SqT.of ht,SqT.of hb,by rw[<-l1,<-l2];exact aD hl,λhx=>?_,λhy=>?_,λp hp=>?_⟩;have:ds=[]:=by cases ds with
   |nil=>rfl
   |cons _ _=>rw[hx]at l1;simp at l1
  subst this;exact k _ H' s (by simp only[Rep,List.nil_append];exact⟨b,ys,rfl,hb,ry⟩);have:es=[]:=by cases es with
   |nil=>rfl
   |cons _ _=>rw[hy]at l2;simp at l2
  subst this;exact k _ H' s (by simp only[Rep,Y3];exact⟨t,xs,rfl,ht,rx⟩);have s2:=ax (o:=.tup (xs++ys)) hp;exact k _ _ (s.trans s2) (by simp only[Rep];exact⟨p,xs++ys,rfl,ah,(rx.append ry).same R' s2⟩);trivial;trivial
def ff:Z_ D->Z9 (Z_ Bool)
 |[]=>U []
 |.bl b::ds=>(match ff ds with|some bs=>U (b::bs)|none=>M)
 |_=>M
theorem iA:∀{ds:Z_ D}{bs:Z_ Bool},ff ds=U bs->ds=bs.map D.bl
 |[],bs,h=>by obtain rfl:=Z7 h;rfl
 |.bl b::ds,bs,h=>by
  simp only[ff]at h;split at h;rename_i bs' q;obtain rfl:=Z7 h;rw[iA q];rfl;trivial
 |.non::ds,bs,h=>by simp[ff]at h
 |.int _::ds,bs,h=>by simp[ff]at h
 |.str _::ds,bs,h=>by simp[ff]at h
 |.tup _::ds,bs,h=>by simp[ff]at h
 |.lst _::ds,bs,h=>by simp[ff]at h
 |.dK _ _::ds,bs,h=>by simp[ff]at h
 |.dD _ _::ds,bs,h=>by simp[ff]at h
def rK(hc:X.calm=L):fx X (.builtin "any") (λxs H Q=>∃(q:ZM)(bs:Z_ Bool),xs=[.ref q]/\SqL X.K H q (bs.map V.bl)/\Q (.bl (bs.any id)) H):=by
 intro a_ s O H xs us Q I rv h;obtain⟨q,bs,rfl,hq,k⟩:=h;obtain⟨u,rfl,ru⟩:=rv.one;cases ru;obtain⟨its,r,pl,hz⟩:=I.list hq;have hl:=r.length;rw[ZJ]at hl;have D_:q≠s.z:=Zs (by obtain⟨o,e,_⟩:=pl.isList;exact ZV e);refine call_any_walk (Xf pl.isList ⟨s.z,_,_,its.toArray.size,_,_,λi=>bs.getD i Y,rfl,Walks.list (A:=X.A.in1) (show X.A.in1.handled=M from I.ok.hd hc) s.z q D_ its.toArray,⟨⟨_,ZN _ rfl,rfl,rfl⟩,pl.isList.push _⟩,λi v s' Q' E' hv VI=>?_,λh' tk hk=>?_⟩);have Ji:its[i]?=U v:=by simpa using hv
 have hi:i<bs.length:=by have:=(ZX.mp Ji).1;lia
 obtain⟨v',e1,e2⟩:=r.get (i:=i) (x:=.bl bs[i]) (by simp[hi]);rw[Ji]at e1;obtain rfl:=Z7 e1;cases e2;refine X1 ?_;rw[show bs[i]=bs.getD i Y by simp[hi]];exact VI;have e:(List.range its.toArray.size).any (λi=>bs.getD i Y)=bs.any id:=by
  rw[ZW,<-hl,YO,XX,XX];constructor
  rintro⟨i,hi,h1⟩
  have o_:=Ym.mp hi;exact⟨bs[i],XB o_,by simpa[o_]using h1⟩
  rintro⟨x,hx,h1⟩
  obtain⟨i,hi,rfl⟩:=Wv.mp hx;exact⟨i,Ym.mpr hi,by simpa[hi]using h1⟩
 rw[e];refine⟨.bl (bs.any id),H,?_,rfl,k⟩;exact(I.kept (t':=tk) λb o eb=>hk b o (λz=>by
  have:b=s.z:=by simpa using z
  rw[this]at eb;exact absurd (ZV eb) (Zc _)) (Z5 _ eb))
def Em(x:Z9 D):Z9 D:=match x with|some (.lst ds)=>(match ff ds with|some bs=>U (.bl (bs.any id))|none=>M)|_=>M
theorem M1.acN{K:Z6}{B:ZM->Prop}{H:Hp}:∀{bs:Z_ Bool}{xs:Z_ V},M1 K B H (bs.map D.bl) xs->xs=bs.map V.bl
 |[],xs,r=>r
 |b::bs,xs,r=>by
  rw[Z2]at r;simp only[M1]at r;obtain⟨x,t,rfl,r1,r2⟩:=r;simp only[Rep]at r1;rw[r1,M1.acN r2];rfl
theorem DJ(hc:X.calm=L)(g:Gl X "any")(hm:X.mg "any"=M)(ha:DE X m a fa)(hs:starEach [a] X.env=[(Y,eval a X.env)]:=by rfl):DE X mm (.Call (.Name "any" p) [a] [] pos) (λO=>Em (fa O)):=
 (c7 (rK hc) g hm boot_any (aw ha aK hs) (he:=hs)).imp λZ H Q hz=>by
  obtain⟨B,Hk,O,d,R,e,k⟩:=hz;unfold Em at e;dsimp only at e;split at e;rename_i ds q;split at e;rename_i bs qn;obtain rfl:=Z7 e;obtain rfl:=iA qn;refine qq R q λv H' s R' r=>?_;simp only[Rep]at r;obtain⟨c,xs,rfl,hq,rs⟩:=r;obtain rfl:=rs.acN;exact⟨c,bs,rfl,hq.sq,k _ H' s (by simp only[Rep])⟩;trivial;trivial
def acI:V->Z_ V->Hp->VK->Prop:=λx vs H Q=>∃l y z o,x=.ref l/\vs=[y,z]/\DGA H l y o/\Q (o.getD z) H
def Bk(hu:X.A.units+64<cLine):MtM X "dict.get" acI:=by
 intro a_ s O H x vs v us Q I rx rv h;obtain⟨l,y,z,o,rfl,rfl,g,q⟩:=h;cases rx;obtain⟨u1,u2,rfl,r1,r2⟩:=rv.two;rcases g with g|⟨kvs,ep,k,b,e,rfl,hk,kb,rfl⟩;exact CC (by lia) I g r1 r2 λw' s' I' F_=>⟨_,H,I',F_,q⟩
 cases (show u1=Value.ref b from r1);obtain⟨z1,hd,xs,rel,dd⟩:=jD I.hok e;refine call_meetsIn WB dd.typeIs F.entry_dict_get (F.args_dict_get_3 _ _ _) (meetsH_dict_get_default (bp X.prog X.w) l b hd u2) ⟨by show X.A.units+1+30<cLine;lia,k,xs,cn I hk kb,dd,⟨_,H,I.tok _,?_,q⟩⟩;exact(rel.val k).getD r2
def ce(x k y:Z9 D):Z9 D:=match bT x k,y with|some o,some z=>U (o.getD z)|_,_=>M
set_option tactic.hygienic true in
theorem zI(hu:X.A.units+64<cLine)(ha:DE X m a fa)(hb:DE X m b fb)(hc:DE X m c fc)(base:attributeBase a "get" X.env (eval a X.env)=eval a X.env:=by rfl)(few:((backTo j_ (starEach [b,c] X.env)).all (λx=>!x.1)&&(backToKw j_ (keywordEach [] X.env)).all (λx=>x.1.isSome)&&decide (([b,c]).length+([]:Z_ Keyword).length+(if([]:Z_ Keyword).isEmpty then 0 else 1)<30))=L:=by rfl)(line:(apos.endLine==j_.line)=L:=by rfl)(ID:starEach [b,c] X.env=(Y,eval b X.env)::starEach [c] X.env:=by rfl)(Jc:starEach [c] X.env=[(Y,eval c X.env)]:=by rfl)(plain:(backTo j_ (starEach [c] X.env)).any (·.1)=Y:=by rfl):
  DE X m (.Call (.Attribute a "get" apos) [b,c] [] j_) (λq=>ce (fa q) (fb q) (fc q)):=
 (t5 WB F.type_dict_get (Bk hu) ha (aw hb (aw hc aK Jc) ID) base few line ID plain).imp λO H Q hz=>by
  obtain⟨B,Hk,q,d,R,e,k⟩:=hz;dsimp only at e;unfold ce at e;split at e;rename_i o z q1 q2;obtain rfl:=Z7 e;obtain⟨d1,d2,e1,e2,_⟩:=cO (K:=X.K) (B:=bh m B q O) (B':=bh m B q O) (H:=H) q1;refine⟨B,Hk,q,d1,R,e1,λv H1 s1 r1=>?_⟩;have R1:=R.to s1;have Vx:pM v H1:=by
   unfold bT at q1;rw[e1,e2]at q1;cases d1 with
   |dK ks vs=>simp only[Rep]at r1;obtain⟨a,kvs,rfl,hq,_⟩:=r1;exact⟨a,rfl,.inl ⟨kvs,hq.imp And.right id⟩⟩
   |dD ks vs=>simp only[Rep]at r1;obtain⟨a,kvs,rfl,⟨ep,hq⟩,_⟩:=r1;exact⟨a,rfl,.inr ⟨kvs,ep,hq.imp And.right id⟩⟩
   |_=>simp at q1
  refine⟨Vx,two (m:=m) (m':=m) R1 e2 q2 λu w H' s R' r2 r3=>?_⟩;obtain⟨Tj,Ti,Mi,Mh,go⟩:=cO (K:=X.K) (B:=bh m B q O) (B':=bh m B q O) (H:=H') q1;rw[e1]at Mi;obtain rfl:=Z7 Mi;rw[e2]at Mh;obtain rfl:=Z7 Mh;obtain⟨c',r,ev,g,gs,gz⟩:=go (r1.same R1 s) r2;refine⟨c',u,w,r,ev,rfl,g,?_⟩;cases o with
  |none=>
   cases r with
   |none=>exact k w H' (s1.trans s) r3
   |some _=>simp at gs
  |some dd=>
   obtain⟨w',rfl,F_⟩:=gz _ rfl;exact k w' H' (s1.trans s) F_
  trivial
end
section
variable{A:Y9}{E:Z3->ZT->Prop}{s:ZT}
def qV(hh:A.handled=M)(I d:ZM)(D_:d≠I)(v_:o.data=.dict es ep):
  Walks prog w A I [I,d] [I] es.size (λi v=>∃e,es[i]?=U e/\v=e.key) (λi h=>h.IsKeyIter I d i es.size ep/\h.get? d=U o) where
 sub:=λb hb=>by simp at hb;simp[hb]
 frame:=λ_ _ _ st hk=>⟨st.1.at λo e=>hk I (by simp) o e,hk d (by simp) _ st.2⟩
 item:=λi s Q E hi st hQ=>eN hh st.1 st.2 v_ (λe he h' LP sb=>hQ _ h' s.toks ⟨e,he,rfl⟩ ⟨LP,(sb.2 d D_).trans st.2⟩ λb o hb e=>(sb.2 b (λz=>hb (by simp[z]))).trans e) λhn=>by
  rw[YR hi]at hn;trivial
 done:=λs Q E st hQ=>eN hh st.1 st.2 v_ (λe he=>by rw[XR (ZP _)]at he;trivial) λ_ h' eb=>hQ h' s.toks λb o hb e=>eb b o (λz=>hb (by simp[z])) e
 self:=λ_ _ _ _ st hQ=>wpAny_pyIter_keyiter st.1 hQ
def mi(hh:A.handled=M)(hd:(d==sysModules)=Y)(ho:s.heap.get? d=U o)(hc:o.ExactDict)(v_:o.data=.dict es ep)(hn:es.size<=sizeLine)(res:Z3)(hS:s.heap.get? S=U {cls:=.type "list",data:=.seq #[] M4})(hR:∀h' tk l_ c',(∀b o,b≠S->s.heap.get? b=U o->h'.get? b=U o)->h'.get? S=U {cls:=.type "list",dict:=M,data:=.seq l_ c',slots:=#[]}->ItemsOf (λi v=>∃e,es[i]?=U e/\v=e.key) l_ es.size->R (.ok (.ret res)) {s with heap:=h',toks:=tk}):
  wpAny (model prog w) A.in1 (Builtin.List.listExtendWith (.ref S) (.ref d) res)
   (λfin s'=>match fin with|.done f=>R (.ok f) s'|.again c'=>c'.quiet=L/\codeAny (model prog w) A c' R s') (λe s'=>R (.error e) s') s:=by
 have ty:s.TypeIs (.ref d) "dict":=⟨o,ho,hc.1⟩;have Qa:S≠d:=λe=>by rw[e,ho]at hS;have:=Z7 hS;rw[this]at v_;trivial
 have RZ:S≠s.z:=Zs (ZV hS);have Uz:d≠s.z:=Zs (ZV ho);have UB:S∉[s.z,d]:=λhm=>by
  rcases Z0.mp hm with e|hm;exact RZ e;exact Qa (ZG.mp hm)
 unfold Builtin.List.listExtendWith;refine Z8 (Xg ty ?_);simp only[show Builtin.List.listSameRef (.ref S) (.ref d)=Y by simp[Builtin.List.listSameRef,Qa],show(Value.type "dict"==Value.type "list")=Y by decide,show(Value.type "dict"==Value.type "tuple")=Y by decide,Bool.or_false,ZI,Zb];refine Z8 (kH hd ho hc v_ (Z8 (Za ?_)));have N0:(s.heap.push {cls:=.type "dict_keyiterator",data:=.fields #[.ref d,.int 0 0,.int es.size 0,.int ep 0]}).get? d=U o:=Z5 _ ho;have PL:Shared.TypeIs {s with heap:=s.heap.push {cls:=.type "dict_keyiterator",data:=.fields #[.ref d,.int 0 0,.int es.size 0,.int ep 0]}} (.ref d) "dict":=⟨o,N0,hc.1⟩
 unfold Builtin.List.listLengthHint;refine Z8 (X3 PL F.slot_dict_len.lookup ?_)
 wp_delta
 refine Z8 (X_ PL (b:=L) (by rw[Wi];kernel_rfl) ?_);change wpAny _ _ (typeOf (Value.ref d) >>= _) _ _ _;refine Z8 (Xg PL (Z4 ?_));refine fN (by decide) ?_;have N_:(s.heap.push {cls:=.type "dict_keyiterator",data:=.fields #[.ref d,.int 0 0,.int es.size 0,.int ep 0]}).get? S=U {cls:=.type "list",data:=.seq #[] M4}:=Z5 _ hS;refine Z8 (YT (Z8 ?_));change wpAny _ A.in1 (updateSeq S (·.push .none) >>= λ_=>updateSeq S (·.pop)) _ _ _;have LV:=Zk (Obj.mapSeq (·.push Value.none)) N_ rfl;refine Z8 (Ye N_ rfl (Ye (hz:=by seq_fits) LV rfl ?_));have MI:=Zk (Obj.mapSeq (·.pop)) LV rfl;have JA:∀b o,b≠S->(s.heap.push {cls:=.type "dict_keyiterator",data:=.fields #[.ref d,.int 0 0,.int es.size 0,.int ep 0]}).get? b=U o->(((s.heap.push {cls:=.type "dict_keyiterator",data:=.fields #[.ref d,.int 0 0,.int es.size 0,.int ep 0]}).update S (Obj.mapSeq (·.push Value.none))).update S (Obj.mapSeq (·.pop))).get? b=U o:=
  λb o hb e=>(Zn _ _ (ZC hb)).trans ((Zn _ _ (ZC hb)).trans e)
 refine Z4 ⟨Yy XQ _,codeAny_extend_loopS (qV (A:=A.in1) (show A.in1.handled=M from hh) s.z d Uz v_).toS hn _ UB _ es.size 0 _ _ _ rfl (Zo _) ⟨⟨_,JA _ _ (ZC RZ) (ZN _ rfl),rfl,rfl⟩,JA _ _ (ZC Qa) N0⟩ MI (ItemsOf.nil _) λs' l_ c' hm LW t_=>?_⟩;rw[Moved.eq_with hm];refine hR s'.heap s'.toks l_ c' (λb ob hb e=>hm.heap b ob (λLj=>?_) (JA b ob hb (Z5 _ e))) LW t_;rcases Z0.mp Lj with e'|Lj;exact hb e';rw[ZG.mp Lj]at e;exact absurd (ZV e) (Zc _)
def hY(hh:A.handled=M)(hd:(d==sysModules)=Y)(ho:s.heap.get? d=U o)(hc:o.ExactDict)(v_:o.data=.dict es ep)(hn:es.size<=sizeLine)(hQ:∀h' tk l_ c',(∀b o,s.heap.get? b=U o->h'.get? b=U o)->h'.get? s.z=U {cls:=.type "list",dict:=M,data:=.seq l_ c',slots:=#[]}->ItemsOf (λi v=>∃e,es[i]?=U e/\v=e.key) l_ es.size->Q (.ref s.z) {s with heap:=h',toks:=tk}):
  wpAny (model prog w) A (call (.type "list") [.ref d]) Q E s:=by
 refine callType_codes (Q₁:=λobj e_=>obj=.ref s.z/\e_={s with heap:=s.heap.push {cls:=.type "list",data:=.seq #[]}}) F.called_list (F.typeCall_list_1 _) F.entry_list_init (code_list_new _ ⟨rfl,rfl⟩) λobj e_ IS=>?_;obtain⟨rfl,rfl⟩:=IS;have hS:(s.heap.push {cls:=.type "list",data:=.seq #[]}).get? s.z=U {cls:=.type "list",data:=.seq #[]}:=ZN _ rfl;refine⟨⟨_,hS,rfl⟩,F.args_list_init_2 _ _,?_⟩;change wpAny _ _ (do let old <-Builtin.List.listItems (.ref s.z);Builtin.List.listUpdate (.ref s.z) (λ_=>#[]);letGo old.toList.reverse;Builtin.List.listExtendWith (.ref s.z) (.ref d) .none) _ _ _;refine Z8 ?_;unfold Builtin.List.listItems;refine Z8 (Yr hS rfl (Z4 ?_));change wpAny _ _ (updateSeq s.z (λ_=>#[]) >>= λ_=>letGo (#[]:Array Z3).toList.reverse >>= λ_=>Builtin.List.listExtendWith (.ref s.z) (.ref d) .none) _ _ _;have LV:=Zk (Obj.mapSeq (λ_=>(#[]:Array Z3))) hS rfl;have up:∀b ob,s.heap.get? b=U ob->((s.heap.push {cls:=.type "list",data:=.seq #[]}).update s.z (Obj.mapSeq (λ_=>(#[]:Array Z3)))).get? b=U ob:=λb ob e=>(Zn _ _ (ZC (Zs (ZV e)))).trans (Z5 _ e);refine Z8 (Ye hS rfl (Z8 (Wj ?_)));exact mi (A:=A.in1) hh hd (up d o ho) hc v_ hn .none LV λh' tk l_ c' hk LW t_=>⟨rfl,hQ h' tk l_ c' (λb ob e=>hk b ob (Zs (ZV e)) (up b ob e)) LW t_⟩
end
section
variable{X:Cx}{m:Bool}
theorem aau.keys:∀{kvs:Z_ (D×V)}{xs:Z_ (D×ZM×Z3)},aau H kvs xs->KRs H (kvs.map (·.1)) (xs.map λq=>V.ref q.2.1)
 |_,_,.nil=>by simp only[Y6,KRs]
 |_,_,.cons r t=>by
  simp only[Z2,KRs];exact⟨_,_,rfl,r.2.2.1,aau.keys t⟩
def qg(hc:X.calm=L):fx X (.type "list") (λxs H Q=>∃d kvs ep,xs=[.ref d]/\Rd H d (.dD kvs ep)/\∀ks p,KRs H (kvs.map (·.1)) ks->H p=M->Q (.ref p) (upd H p (.lst ks))):=by
 intro a_ s O H xs us Q I rv h;obtain⟨d,kvs,ep,rfl,rd,k⟩:=h;obtain⟨u,rfl,ru⟩:=rv.one;cases ru;obtain⟨z,y,xs,r,o,es,h1,h2,h3,h4,h5⟩:=(show aak X.prog X.w H s.heap d (.dD kvs ep) from pY I.hok rd)
 have hsz:es.size=kvs.length:=by rw[W5 h4,<-Yt r]
 refine hY (I.ok.hd hc) y h1 h2 h3 (by rw[hsz];exact z) λh' tk acc c' hk hS t_=>?_;have hf:H s.z=M:=I.hok.fresh (ZP _);have Pb:xs.length=kvs.length:=(Yt r).symm;have hv:aac (xs.map λq=>V.ref q.2.1) acc.toList:=by
  have hlen:acc.toList.length=xs.length:=by rw[Array.length_toList,t_.1,hsz,Pb]
  have key:∀(l:Z_ (D×ZM×Z3))(m:Z_ Z3),m.length=l.length->(∀(i:Nat) q v,l[i]?=U q->m[i]?=U v->v=.ref q.2.1)->aac (l.map λq=>V.ref q.2.1) m:=by
   intro l
   induction l with
   |nil=>intro m hm _;cases m with
    |nil=>exact .nil
    |cons _ _=>simp at hm
   |cons q l ih=>intro m hm hp;cases m with
    |nil=>simp at hm
    |cons v m=>exact .cons (hp 0 q v rfl rfl) (ih m (by simpa using hm) λi q' v' a1 a2=>hp (i+1) q' v' (by simpa using a1) (by simpa using a2))
  refine key xs acc.toList hlen λi q v a1 a2=>?_;obtain⟨e,he,rfl⟩:=t_.2 i v (by simpa using a2);rw[entry_at h4 i,a1]at he;rw[<-Z7 he];rfl
 refine⟨.ref s.z,_,I.laid (t':=tk) (o:=.lst (xs.map λq=>V.ref q.2.1)) hk (ZP _) ⟨by rw[ZJ,Pb];exact z,acc.toList,c',hv,by rw[hS]⟩,rfl,k _ _ r.keys hf⟩
def ox(x:Z9 D):Z9 D:=match x with|some (.dD ks vs)=>U (.lst ks)|_=>M
def pj:bootBuiltins "list"=U (.type "list"):=by decide +kernel
set_option tactic.hygienic true in
theorem vU(hc:X.calm=L)(g:Gl X "list")(hm:X.mg "list"=M)(ha:DE X Y a fa)(hs:starEach [a] X.env=[(Y,eval a X.env)]:=by rfl):DF X (.Call (.Name "list" p) [a] [] pos) (λO=>ox (fa O)):=
 (cV (qg hc) g hm pj (aw ha aK hs) (he:=hs)).imp λZ H Q hz=>by
  obtain⟨B,Hk,O,d,R,e,k⟩:=hz;dsimp only at e;unfold ox at e;split at e;rename_i ks vs q;obtain rfl:=Z7 e;refine qq R q λv H' s R' r=>?_;simp only[Rep]at r;obtain⟨c,kvs,rfl,⟨ep,hq⟩,rfl,rs⟩:=r;refine⟨c,kvs,ep,rfl,hq.imp And.right id,λks p kr hp=>?_⟩;have s2:=ax (o:=.lst ks) hp;exact k p _ (s.trans s2) (s.free hp) ⟨_,ah,(KRs.rep kr).same (m:=Y) R' s2⟩;trivial
end
open PySem.W
section
variable{X:Cx}{a_:Z_ (ZM×Obj)}{σ:St}{H:Hp}{s:ZT}{A:Y9}{E:Z3->ZT->Prop}
def rf(hu:A.units+30<cLine)(I:Inv X a_ σ H s)(e:H d=U (.dD kvs ep))(hk:bH 8 k=L)(kb:KR H k (.ref b))(l:kvs.length<sizeLine)(rv:RelV v r)(h:∀A_ h' tk,Heap.SameBut d s.heap h'->Inv X a_ σ (upd H d (.dD (du kvs k v) A_)) {s with heap:=h',toks:=tk}->Q () {s with heap:=h',toks:=tk}):wpAny (model X.prog X.w) A (dictSet d (.ref b) r) Q E s:=by
 obtain⟨z,hd,xs,rel,dd⟩:=jD I.hok (.inl e);have hl:(du kvs k v).length<=sizeLine:=by have:=br kvs k v;lia
 refine wpAny_dictSet_heap (knd:=bp X.prog X.w) (hsz:=by rw[<-Yt rel];exact z) (show A.units+30<cLine from hu) (cn I hk kb) dd λh' Kz hs=>?_;obtain⟨q,es,A_,hq,h2,h3,h4,_,h5⟩:=Kz;refine h A_ h' _ hs (gx I (by rw[e];exact True.intro) hs ⟨q,hq⟩ ⟨hl,hd,_,Paired.abY (rel.put k hk kb rv) λp q z=>⟨z.1,z.2.1,KR.to (λc ys ec=>?_) z.2.2.1,z.2.2.2⟩,q,es,hq,h2,h3,h4,h5⟩);rw[ai (mU ec e (λz=>nomatch z))];exact ec
def abu(H:Hp)(y:V)(p:D×V):Prop:=∃b kb,y=.ref b/\H b=U (.tup [.ref kb,p.2])/\bH 8 p.1=L/\KR H p.1 (.ref kb)
theorem abu.upd(h:abu H y p)(e:H d=U (.dD kvs ep)):abu (L2.upd H d o) y p:=by
 obtain⟨b,kb,h1,h2,h3,h4⟩:=h;exact⟨b,kb,h1,by rw[ai (mU h2 e (λz=>nomatch z))];exact h2,h3,h4.to λc ys ec=>by rw[ai (mU ec e (λz=>nomatch z))];exact ec⟩
def g9(kvs:Z_ (D×V))(ps:Z_ (D×V)):Z_ (D×V):=ps.foldl (λm p=>du m p.1 p.2) kvs
def SqL.acC{K:Z6}{l d:ZM}{ys:Z_ V}{kvs:Z_ (D×V)}{ep:Nat}{o:HO}(h:SqL K H l ys)(e:H d=U (.dD kvs ep)):SqL K (upd H d o) l ys:=by
 rcases h with(h|⟨ob,h⟩)|h;exact .inl (.inl (by rw[ai (mU h e (λz=>nomatch z))];exact h));exact .inl (.inr ⟨ob,by rw[ai (mU h e (λz=>nomatch z))];exact h⟩);exact .inr h
def pZ(hu:A.units+40<cLine)(hh:A.handled=M)(ps:Z_ (D×V))(ys:Z_ V)(hlen:ys.length=ps.length):
  ∀(n i:Nat)(t:Tok)(H:Hp)(s:ZT)(kvs:Z_ (D×V))(ep:Nat),i+n=ps.length->Inv X a_ σ H s->H d=U (.dD kvs ep)->kvs.length+n<lim->SqL X.K H l ys->(∀(j:Nat) y p,ys[j]?=U y->ps[j]?=U p->abu H y p)->s.heap.IsListIter it l i->fI X a_ H it->it≠d->
   (∀H' s',Inv X a_ σ H' s'->(∃A_,H'=upd H d (.dD (g9 kvs (ps.drop i)) A_))->R (.ok (.ret .none)) s')->
   codeAny (model X.prog X.w) A (.builtin "dict.update.loop" ⟨[.ref d,.ref it,.int i t,.none],[]⟩) R s:=by
 intro n
 induction n with
 |zero=>
  intro i t H s kvs ep hi I e hl hq hp st hf D_ hR;refine YU dy ?_;rw[Y8 bv _];obtain⟨its,rv,pl,hz⟩:=I.list hq;have U_:=rv.length;show wpAny _ A.in1 (pyNext (.ref it) >>= _) _ _ s;obtain⟨f0,f1,f2,f3,f4,f5⟩:=hf;refine Z8 (wpAny_pyNext_list_end hh st pl.isList (by simp;lia) λh' eb=>?_);show wpAny _ A.in1 (Builtin.Dict.addKeywords d [] >>= λ_=>ret .none) _ _ _;refine Z8 (Z4 (Z4 (hR H _ (I.turned (t':=s.toks) (λb o hb e=>eb b o hb e) f0 f1 f3 f4 f5) ⟨ep,?_⟩)));rw[List.drop_of_length_le (by lia)];show H=upd H d (.dD kvs ep)
  funext b
  by_cases hb:b=d;subst hb;rw[ah];exact e;rw[ai hb]
 |succ n ih=>
  intro i t H s kvs ep hi I e hl hq hp st hf D_ hR;refine YU dy ?_;rw[Y8 bv _];obtain⟨its,rv,pl,hz⟩:=I.list hq;have LI:i<ps.length:=by lia
  have SJ:i<ys.length:=by lia
  obtain⟨b,kb,ey,hb,Po,Vd⟩:=hp i ys[i] ps[i] (by simp[SJ]) (by simp[LI]);obtain⟨u,Ks,ru⟩:=rv.get (i:=i) (x:=ys[i]) (by simp[SJ]);rw[ey]at ru;cases ru;show wpAny _ A.in1 (pyNext (.ref it) >>= _) _ _ s;obtain⟨f0,f1,f2,f3,f4,f5⟩:=id hf;refine Z8 (wpAny_pyNext_list_item st pl.isList (x:=.ref b) (by simpa using Ks) λh' g_ sb=>?_);have I1:Inv X a_ σ H {s with heap:=h'}:=I.turned (t':=s.toks) (λb o hb e=>(sb.2 b hb).trans e) f0 f1 f3 f4 f5;obtain⟨tz,tis,tv,⟨to,tg,tc,tn,td⟩⟩:=(show aak X.prog X.w H h' b (.tup [.ref kb,ps[i].2]) from I1.hok b _ hb)
  obtain⟨ku,vu,rfl,rk,Ud⟩:=aac.two tv;cases rk;refine Z8 (Za (Z8 (wpAny_tryCatch ?_)));unfold Builtin.Dict.pairItems;refine Z8 (Xg (show Shared.TypeIs {s with heap:=h'} (.ref b) "tuple" from⟨_,tg,tc⟩) ?_);refine fN (by decide) ?_;unfold seqItems?;refine Z8 (Z8 (wpAny_load tg ?_));rw[td];refine Z4 (Z4 ?_);show wpAny _ A.in1 (holding [Value.ref kb,vu] (dictSet d (.ref kb) vu)) _ _ _;refine Za (rf (by show A.units+1+30<cLine;lia) I1 e Po Vd (by have:=aD (ZP lim);lia) Ud λA_ h2 PR IW I2=>?_);refine Z4 ⟨Yy bv _,?_⟩;have Tw:=br kvs ps[i].1 ps[i].2;refine ih (i+1) 0 (upd H d (.dD (du kvs ps[i].1 ps[i].2) A_)) _ (du kvs ps[i].1 ps[i].2) A_ (by lia) I2 ah (by lia) (hq.acC e) (λj y p h1 h2=>(hp j y p h1 h2).upd e) ?_ ?_ D_ ?_;obtain⟨o,ho,hc,B_⟩:=g_;exact⟨o,(IW.2 it D_).trans ho,hc,B_⟩;exact⟨by rw[ai D_];exact f0,f1,f2,f3,f4,f5⟩
  rintro H' s' I' ⟨Ki,eH⟩
  refine hR H' s' I' ⟨Ki,?_⟩;rw[eH,tO,Zx LI];rfl
def rg(hc:X.calm=L)(hu:X.A.units+64<cLine):fx X (.type "dict") (λxs H Q=>∃(l:ZM)(ys:Z_ V)(ps:Z_ (D×V)),xs=[.ref l]/\SqL X.K H l ys/\ys.length=ps.length/\ps.length<lim/\
  (∀(j:Nat) y p,ys[j]?=U y->ps[j]?=U p->abu H y p)/\∀d ep,H d=M->Q (.ref d) (upd H d (.dD (g9 [] ps) ep))):=by
 intro a_ s σ H xs us Q I r h;obtain⟨l,ys,ps,rfl,hq,hl,H_,hp,q⟩:=h;obtain⟨u,rfl,rx⟩:=r.one;cases rx;have hh:X.A.handled=M:=I.ok.hd hc;refine callType_codes (Q₁:=λobj e_=>obj=.ref s.z/\e_={s with heap:=s.heap.push {cls:=.type "dict",data:=.dict #[]}}) F.kt_called_dict (F.kt_typeCall_dict_1 _) F.entry_dict_init (kt_code_dict_new _ ⟨rfl,rfl⟩) ?_
 rintro obj e_ ⟨rfl,rfl⟩
 have JW:H s.z=M:=I.fresh;have I1:Inv X a_ σ (upd H s.z (.dD [] 0)) {s with heap:=s.heap.push {cls:=.type "dict",data:=.dict #[]}}:=
  I.laid (t':=s.toks) (λ_ _ q=>Z5 _ q) (ZP _) (o9 I.big)
 have hT:Shared.TypeIs {s with heap:=s.heap.push {cls:=.type "dict",data:=.dict #[]}} (.ref s.z) "dict":=⟨_,ZN _ rfl,rfl⟩
 have sm:aaa H (upd H s.z (.dD [] 0)):=ax JW;have Su:SqL X.K (upd H s.z (.dD [] 0)) l ys:=sm.seq hq;obtain⟨its,rv,⟨ol,nl,Mx,JX,Pu,Nw⟩,hz⟩:=I1.list Su;refine⟨hT,F.args_dict_init_2 _ _,?_⟩;unfold Builtin.«dict.__init__»;refine Z8 ?_;unfold Builtin.Dict.selfAndRest;refine Z8 (Wm hT ?_);show wpAny _ _ (pure (s.z,[Value.ref l])) _ _ _;refine Z4 ?_;show wpAny _ _ (Builtin.Dict.updateFrom "dict.__init__" s.z (.ref l) [] .none) _ _ _;unfold Builtin.Dict.updateFrom;refine Z8 (Xg (show Shared.TypeIs {s with heap:=s.heap.push {cls:=.type "dict",data:=.dict #[]}} (.ref l) "list" from⟨_,Mx,JX⟩) ?_);refine fN (by decide) ?_;refine Z8 (zJ Mx JX Nw Pu (by simp[hh]) λh2 PR Qe=>?_);have I2:Inv X a_ σ (upd H s.z (.dD [] 0)) {s with heap:=h2,toks:=PR}:=I1.kept Qe;refine fN (by decide) ?_;refine Z8 (YT ?_);have Np:h2.IsList l its.toArray:=⟨ol,Qe _ _ Mx,JX,nl,Nw⟩;refine Z8 (Xf Np ?_);refine Z4 ⟨Yy bv _,?_⟩;have I3:Inv X a_ σ (upd H s.z (.dD [] 0)) {s with heap:=h2.push {cls:=.type "list_iterator",data:=.fields #[.ref l,.int 0 0]},toks:=PR}:=I2.kept λb o e=>Z5 _ e;have ka:s.z<h2.objs.size:=ZV (Qe _ _ (ZN (h:=s.heap) (o:={cls:=.type "dict",data:=.dict #[]}) rfl));have fp:fI X a_ (upd H s.z (.dD [] 0)) h2.objs.size:=I2.abl (ZP _) (I2.hok.fresh (ZP _));refine pZ (X:=X) (A:=X.A.in1) (by show X.A.units+1+40<cLine;lia) (by simp[hh]) ps ys hl ps.length 0 0 (upd H s.z (.dD [] 0)) _ [] 0 (by lia) I3 ah (by simpa using H_) Su (λj y p h1 J6=>?_) ⟨_,ZN _ rfl,rfl,rfl⟩ fp (Nat.ne_of_gt ka) ?_;obtain⟨b,kb,e1,e2,e3,e4⟩:=hp j y p h1 J6;exact⟨b,kb,e1,sm _ _ e2,e3,e4.to λc ys ec=>sm _ _ ec⟩
 rintro H' s' I' ⟨ep,eH⟩
 rw[tO,List.drop_zero]at eH;subst eH;exact⟨rfl,⟨.ref s.z,_,I',rfl,q _ ep JW⟩⟩
end
def tT:D->Z9 (D×D)
 |.tup [k,v]=>if(bH 8 k&&m4 k)=L then U (k,v) else M
 |_=>M
def fq:Z_ D->Z9 (Z_ (D×D))
 |[]=>U []
 |d::ds=>match tT d,fq ds with|some p,some ps=>U (p::ps)|_,_=>M
def jp:Z_ D->Z_ D->Z_ (D×D)->Z_ D×Z_ D
 |ks,vs,[]=>(ks,vs)
 |ks,vs,p::ps=>jp (ji p.1 ks) (yj p.1 p.2 ks vs) ps
noncomputable def ix(x:Z9 D):Z9 D:=match x with|some (.lst ds)=>(match fq ds with|some ps=>if ds.length<lim then U (.dD (jp [] [] ps).1 (jp [] [] ps).2) else M|none=>M)|_=>M
section
variable{K:Z6}{B:ZM->Prop}{H:Hp}
def PQ(K:Z6)(B:ZM->Prop)(H:Hp):Z_ (D×D)->Z_ (D×V)->Prop:=Paired λp q=>p.1=q.1/\Rep K B H p.2 q.2
theorem jT:∀{ps:Z_ (D×D)}{qs:Z_ (D×V)}{kvs:Z_ (D×V)}{vs:Z_ D},PQ K B H ps qs->M1 K B H vs (kvs.map (·.2))->(g9 kvs qs).map (·.1)=(jp (kvs.map (·.1)) vs ps).1/\M1 K B H (jp (kvs.map (·.1)) vs ps).2 ((g9 kvs qs).map (·.2))
 |_,_,kvs,vs,.nil,r=>⟨rfl,r⟩
 |_,_,kvs,vs,@Paired.cons _ _ _ p q ps qs h t,r=>by
  have h1:=dQ q.1 q.2 kvs;have h2:=i7 h.2 q.1 r;have ih:=jT (kvs:=du kvs q.1 q.2) t h2;rw[h1]at ih;unfold jp;rw[h.1];exact ih
set_option tactic.hygienic true in
theorem gm:∀{ds:Z_ D}{ps:Z_ (D×D)}{ys:Z_ V},fq ds=U ps->M1 K B H ds ys->∃qs,PQ K B H ps qs/\ys.length=qs.length/\∀(j:Nat) y q,ys[j]?=U y->qs[j]?=U q->abu H y q
 |[],ps,ys,h,r=>by
  obtain rfl:=Z7 h;have:ys=[]:=r;subst this;exact⟨[],.nil,rfl,λj y q h=>by simp at h⟩
 |d::ds,ps,ys,h,r=>by
  simp only[fq]at h;split at h;rename_i p ps' q1 q2;obtain rfl:=Z7 h;obtain⟨y,TX,rfl,r1,r2⟩:=r;obtain⟨qs,h1,h2,h3⟩:=gm q2 r2;unfold tT at q1;split at q1;rename_i k v;split at q1;rename_i hc;obtain rfl:=Z7 q1;rw[ZH]at hc;simp only[Rep]at r1;obtain⟨b,xs,rfl,hb,rr⟩:=r1;obtain⟨ku,r3,rfl,rk,RJ⟩:=rr;simp only[M1]at RJ;obtain⟨vu,r4,rfl,rv,rfl⟩:=RJ;obtain⟨kb,rfl⟩:=da hc.2 rk;refine⟨(k,vu)::qs,.cons ⟨rfl,rv⟩ h1,by simp[h2],λj y q e1 e2=>?_⟩;cases j with
  |zero=>
   simp at e1 e2;subst e1 e2;exact⟨b,kb,rfl,hb,hc.1,rk.key hc.1⟩
  |succ j=>exact h3 j y q (by simpa using e1) (by simpa using e2)
  trivial;trivial;trivial
end
section
variable{X:Cx}
def wW:bootBuiltins "dict"=U (.type "dict"):=by decide +kernel
theorem wj(hc:X.calm=L)(hu:X.A.units+64<cLine)(g:Gl X "dict")(hm:X.mg "dict"=M)(ha:DE X Y a fa)(hs:starEach [a] X.env=[(Y,eval a X.env)]:=by rfl):DF X (.Call (.Name "dict" p) [a] [] pos) (λO=>ix (fa O)):=
 (cV (rg hc hu) g hm wW (aw ha aK hs) (he:=hs)).imp λZ H Q hz=>by
  obtain⟨B,Hk,O,d,R,e,k⟩:=hz;dsimp only at e;unfold ix at e;split at e;rename_i ds q;split at e;rename_i ps qp;split at e;rename_i hl;obtain rfl:=Z7 e;refine qq R q λv H' s R' r=>?_;simp only[Rep]at r;obtain⟨l,ys,rfl,hq,rs⟩:=r;obtain⟨qs,h1,h2,h3⟩:=gm qp rs;have hlen:qs.length=ds.length:=by rw[<-h2,rs.length]
  refine⟨l,ys,qs,rfl,hq.sq,h2,by rw[hlen];exact hl,h3,λd ep hd=>?_⟩;have s2:=ax (o:=.dD (g9 [] qs) ep) hd;obtain⟨g1,g2⟩:=jT (kvs:=[]) (vs:=[]) h1 M1.nil;exact k d _ (s.trans s2) (s.free hd) ⟨_,⟨ep,ah⟩,g1,M1.same (m:=Y) g2 R' s2⟩;trivial;trivial;trivial
end
section
variable{K:Z6}{B:ZM->Prop}{Hk H H' H1:Hp}
theorem abi.ext(h:abi K B Hk H d v)(s:aaa H H')(x:Ext B H H'):abi K B Hk H' d v:=by
 cases d with
 |lst es=>obtain⟨b,xs,h1,h2,h3,h4⟩:=h;exact⟨b,xs,h1,h2,s _ _ h3,h4.ext x⟩
 |_=>exact Rep.ext x h
theorem aal.ext(s:aaa H H')(x:Ext B H H'):∀{ds:Z_ D}{vs:Z_ V},aal K B Hk H ds vs->aal K B Hk H' ds vs
 |[],vs,h=>h
 |d::ds,vs,h=>by obtain⟨y,r,e,h1,h2⟩:=h;exact⟨y,r,e,h1.ext s x,aal.ext s x h2⟩
theorem ObR.more(h:ObR K B H d a)(e:∀a,B a->B' a):ObR K B' H d a:=by
 cases d with
 |lst ds=>obtain⟨xs,h1,h2⟩:=h;exact⟨xs,h1,M1.more e h2⟩
 |dK ks ds=>obtain⟨xs,h1,h0,h2⟩:=h;exact⟨xs,h1,h0,M1.more e h2⟩
 |dD ks ds=>obtain⟨xs,h1,h0,h2⟩:=h;exact⟨xs,h1,h0,M1.more e h2⟩
 |_=>exact(show False from h).elim
def BN(B:ZM->Prop)(H1 H:Hp)(b:ZM):Prop:=B b\/(H1 b=M/\∃xs,H b=U (.lst xs))
def abi.view(h:abi K B H1 H d v):Rep K (BN B H1 H) H d v:=by
 cases d with
 |lst es=>
  obtain⟨b,xs,h1,h2,h3,h4⟩:=h;simp only[Rep];exact⟨b,xs,h1,.inl ⟨.inr ⟨h2,xs,h3⟩,h3⟩,M1.more (λ_ z=>.inl z) h4⟩
 |_=>exact Rep.more (λ_ z=>.inl z) h
theorem aal.view:∀{ds:Z_ D}{vs:Z_ V},aal K B H1 H ds vs->M1 K (BN B H1 H) H ds vs
 |[],vs,h=>by rw[show vs=[] from h];exact M1.nil
 |d::ds,vs,h=>by obtain⟨y,r,rfl,h1,h2⟩:=h;exact M1.cons h1.view (aal.view h2)
def Rel.unset(R:Rel K B Hk O Z H)(hi:i<Z.length):Rel K B Hk (O.set i M) (Z.set i (U v)) H:=by
 have o_:i<O.length:=by rw[R.len];exact hi
 have key:∀(j:Nat) p,(O.set i M)[j]?=U (U p)->j≠i/\O[j]?=U (U p)/\(Z.set i (U v))[j]?=Z[j]?:=λj p q=>by
  by_cases hj:j=i;subst hj;rw[ZU o_]at q;cases q;rw[ZY (ZC hj)]at q;exact⟨hj,q,by rw[ZY (ZC hj)]⟩
 refine⟨R.same,R.bor,by simpa using R.len,λj e q=>?_,λj e q=>?_,λj k e f q Kg h1 h2 h3 h4=>?_⟩;obtain⟨_,q1,q2⟩:=key j _ q;obtain⟨u,q3,q4⟩:=R.var j e q1;exact⟨u,by rw[q2];exact q3,q4⟩;obtain⟨_,q1,q2⟩:=key j _ q;obtain⟨a,q3,q4⟩:=R.own j e q1;exact⟨a,by rw[q2];exact q3,q4⟩;obtain⟨_,q1,q2⟩:=key j _ h1;obtain⟨_,q3,q4⟩:=key k _ h2;rw[q2]at h3;rw[q4]at h4;exact R.dis j k e f q Kg q1 q3 h3 h4
def cx{q:Mk}(h:q[i]?=U M):q.set i M=q:=by
 apply Xl;intro j;by_cases hj:j=i;subst hj;rw[ZU (ZX.mp h).1,h];rw[ZY (ZC hj)]
def Rel.acB(R:Rel K B Hk O Z H)(s1:aaa Hk H1)(h1:H1 b=M)(hb:H b=U (.lst xs))(h3:∀(k:Nat) e a,O[k]?=U (U (e,L))->Z[k]?=U (U (.ref a))->∃o:HOn,H1 a=U o.1):
  Ext B H (upd H b (.lst ys))/\Rel K B Hk O Z (upd H b (.lst ys)):=by
 have hk:Hk b=M:=s1.free h1;have nb:¬B b:=λz=>by obtain⟨o,q⟩:=R.bor b z;rw[hk]at q;trivial
 have ex:Ext B H (upd H b (.lst ys)):=bP hb trivial nb;refine⟨ex,R.same.put hk,R.bor,R.len,λj e q=>?_,λj e q=>?_,R.dis⟩;obtain⟨v,q1,q2⟩:=R.var j e q;exact⟨v,q1,q2.ext ex⟩;obtain⟨a,q1,q2,q3⟩:=R.own j e q;obtain⟨o,ho⟩:=h3 j e a q q1;have na:a≠b:=λz=>by subst z;rw[h1]at ho;trivial
 exact⟨a,q1,q2,q3.ext ex λo' z _=>by rw[ai na];exact z⟩
end
def tpO(x:Z9 (D×Bool)):Z9 D:=match x with|some (.tup ds,true)=>U (.tup ds)|_=>M
def jB(x:Z9 Out):Z9 Out:=match x with|some (.ret d fr)=>U (.ret d fr)|_=>M
def jW(h:jB x=U o):x=U o:=by
 unfold jB at h;split at h;exact h;trivial
section
end
section
end
section
variable{X:Cx}
open Classical in
def DK(hu:X.A.units+64<cLine)(I:Inv X a_ O H s)(hd:okD 16 d=L)(he:es.all (okD 16)=L)(r1:Rep X.K B H d x)(r2:M1 X.K B' H es xs)(rx:RelV x v)(rv:aac xs its):∃e:Z3->Bool,(∀y,y∈its.toArray->SeqAt.EqAt X.A.in1 s y v (e y))/\∀(j:Nat) u d',its[j]?=U u->es[j]?=U d'->e u=decide (d'=d):=by
 have one:∀j u,its[j]?=U u->∃d' x',es[j]?=U d'/\okD 16 d'=L/\Rep X.K B' H d' x'/\RelV x' u:=λj u hj=>by
  have hl:=rv.length;have ka:j<xs.length:=by rw[hl];exact(ZX.mp hj).1
  obtain⟨u',Jj,ru⟩:=rv.get (i:=j) (x:=xs[j]) (by simp[ka]);rw[hj]at Jj;obtain rfl:=Z7 Jj;obtain⟨d',B_,Jq⟩:=r2.get' (i:=j) (x:=xs[j]) (by simp[ka]);exact⟨d',xs[j],B_,(ZO.mp he) d' (Zf B_),Jq,ru⟩
 have key:∀u d' x',okD 16 d'=L->Rep X.K B' H d' x'->RelV x' u->decide (∃d' x',okD 16 d'=L/\Rep X.K B' H d' x'/\RelV x' u/\d'=d)=decide (d'=d):=λu d' x' o' Jq ru=>by
  rw[YO,Y_,Y_];constructor
  rintro⟨d2,x2,o2,NP,NN,e2⟩
  rw[<-e2];have ex:=ru.inj NN;subst ex;exact Rep.inj I o' o2 Jq NP;intro e2;exact⟨d',x',o',Jq,ru,e2⟩
 refine⟨λu=>decide (∃d' x',okD 16 d'=L/\Rep X.K B' H d' x'/\RelV x' u/\d'=d),λu Jj=>?_,λj u d' hj B_=>?_⟩;obtain⟨j,hj⟩:=X6 (show u∈its by simpa using Jj);obtain⟨d',x',_,o',Jq,ru⟩:=one j u hj;have q:=(BK I 16 d' d x' x u v X.A.in1 o' hd (by show X.A.units+1+16+1<cLine;lia) Jq r1 ru rx).2.1;show SeqAt.EqAt X.A.in1 s u v (decide (∃d' x',okD 16 d'=L/\Rep X.K B' H d' x'/\RelV x' u/\d'=d));rw[key u d' x' o' Jq ru];exact q;obtain⟨d2,x',e2,o',Jq,ru⟩:=one j u hj;rw[B_]at e2;obtain rfl:=Z7 e2;exact(key u d' x' o' Jq ru).trans (by congr)
def BJ(x y:Z9 D):Z9 D:=match x,y with
 |some (.lst ds),some d=>if okD 16 d=L/\ds.all (okD 16)=L/\ds.idxOf d<ds.length/\ds.length<=lim then U (.int (ds.idxOf d)) else M
 |_,_=>M
def wC(hu:X.A.units+64<cLine):MtR X "list.index" (λx vs H Q=>∃B B' l y ds d,x=.ref l/\vs=[y]/\Rep X.K B H (.lst ds) x/\Rep X.K B' H d y/\okD 16 d=L/\ds.all (okD 16)=L/\ds.idxOf d<ds.length/\ds.length<=lim/\Q (.int (ds.idxOf d)) H):=by
 intro a_ s O H x vs v us Q I rx rv h;obtain⟨B,B',l,y,ds,d,rfl,rfl,r1,r2,o1,o2,hj,hz,q⟩:=h;cases rx;obtain⟨u,rfl,ru⟩:=rv.one;simp only[Rep]at r1;obtain⟨l',xs,e,hq,rs⟩:=r1;cases e;obtain⟨its,r,pl,_⟩:=I.list hq.sq;obtain⟨e,g1,g2⟩:=DK hu I o1 o2 r2 rs ru r;obtain⟨⟨cl,dd,dt,sl⟩,n,e1,e2,e3,e4⟩:=pl;simp only at e2 e3 e4;subst e2;subst e3;subst e4;have Kv:=r.length;have Pl:=rs.length;have hsz:ds.idxOf d<its.toArray.size:=by rw[ZW];lia
 have at1:∀(i:Nat)(hi:i<its.length),e its[i]=decide (ds[i]'(by lia)=d):=λi hi=>g2 i its[i] (ds[i]'(by lia)) (by simp) (by simp);refine Ws F.slot_list_index ⟨_,e1,rfl⟩ F.entry_list_index (F.args_list_index_2 _ _) (SeqAt.list_indexAt l its.toArray n M sl u e (ds.idxOf d) hsz ?_ ?_ ?_) ⟨e1,g1,?_⟩;have:lim<2 ^ 63 - 1:=by decide +kernel
 lia;rw[List.getElem_toArray,at1];simp;intro i hi ka;rw[List.getElem_toArray,at1 i (by simpa using hi)];have:=List.not_of_lt_findIdx (p:=λz=>z==d) (xs:=ds) (i:=i) ka;simpa using this;exact⟨.int _,H,I.tok _,⟨_,rfl⟩,q⟩
set_option tactic.hygienic true in
def sx(h:BJ x y=U z):∃ds d,x=U (.lst ds)/\y=U d/\okD 16 d=L/\ds.all (okD 16)=L/\ds.idxOf d<ds.length/\ds.length<=lim/\z=.int (ds.idxOf d):=by
 unfold BJ at h;split at h;rename_i ds d;split at h;rename_i c;obtain rfl:=Z7 h;exact⟨ds,d,rfl,rfl,c.1,c.2.1,c.2.2.1,c.2.2.2,rfl⟩;trivial;trivial
theorem wL(hu:X.A.units+64<cLine)(ha:DE X m a fa)(hb:DE X m' b fb)(mc:Mc X.env a "index" b [] apos j_):DE X mm (.Call (.Attribute a "index" apos) [b] [] j_) (λq=>BJ (fa q) (fb q)):=
 (lP Yl F.slot_list_index F.type_list_index (wC hu) ha (aw hb aK mc.s) mc).imp λO H Q hz=>by
  obtain⟨B,Hk,q,d,R,e,k⟩:=hz;obtain⟨ds,d0,e1,e2,o1,o2,h1,h2,rfl⟩:=sx e;refine⟨B,Hk,q,_,R,e1,λv H1 s1 r1=>?_⟩;have R1:=R.to s1;obtain⟨l,xs,ev,hq,rs⟩:∃l xs,v=.ref l/\abq X.K (bh m B q O) H1 l xs/\M1 X.K (bh m B q O) H1 ds xs:=by simpa only[Rep]using r1
  subst ev;refine⟨.inl ⟨rfl,xs,hq.sq⟩,B,Hk,q,_,R1,e2,λy H2 s2 r2=>?_⟩;exact⟨_,_,l,y,ds,d0,rfl,rfl,r1.same R1 s2,r2,o1,o2,h1,h2,k _ H2 (s1.trans s2) (by simp only[Rep])⟩
end
end L2
namespace L2
open PySem
def bg:Z_ (D×Z_ D)->D->D->Z_ (D×Z_ D)
 |[],k,e=>[(k,[e])]
 |p::r,k,e=>if p.1=k then(p.1,if e∈p.2 then p.2 else p.2++[e])::r else p::bg r k e
def oB(g:Z_ (D×Z_ D)):D:=.dD (g.map (·.1)) (g.map λp=>.dD p.2 (p.2.map λ_=>.bl L))
open PySem.Spec PyProof.Rows
variable[Lams]
def abx(Hk H:Hp)(l:ZM)(v:V)(es:Z_ D):Prop:=∃a ks ep,v=.ref a/\a≠l/\Hk a=M/\H a=U (.dD ks ep)/\ks.map (·.1)=es/\∀x∈ks,x.2=.bl L
def GL(Hk H:Hp)(l:ZM):Z_ (D×V)->Z_ (D×Z_ D)->Prop
 |[],g=>g=[]
 |p::r,g=>∃q g',g=q::g'/\p.1=q.1/\abx Hk H l p.2 q.2/\GL Hk H l r g'
def abx.to(h:abx Hk H l v es)(k:∀a ks ep,v=.ref a->H a=U (.dD ks ep)->H' a=U (.dD ks ep)):abx Hk H' l v es:=by
 obtain⟨a,ks,ep,h1,h2,h3,h4,h5⟩:=h;exact⟨a,ks,ep,h1,h2,h3,k a ks ep h1 h4,h5⟩
theorem GL.to:∀{kvs:Z_ (D×V)}{g:Z_ (D×Z_ D)},GL Hk H l kvs g->(∀p∈kvs,∀a ks ep,p.2=.ref a->H a=U (.dD ks ep)->H' a=U (.dD ks ep))->GL Hk H' l kvs g
 |[],g,h,k=>h
 |p::r,g,h,k=>by
  obtain⟨q,g',h1,h2,h3,h4⟩:=h;exact⟨q,g',h1,h2,h3.to (k p (ZZ ..)),GL.to h4 λp' hp=>k p' (Z1 _ hp)⟩
theorem GL.length:∀{kvs:Z_ (D×V)}{g:Z_ (D×Z_ D)},GL Hk H l kvs g->kvs.length=g.length
 |[],g,h=>by rw[show g=[] from h];rfl
 |p::r,g,h=>by obtain⟨q,g',rfl,_,_,h4⟩:=h;simp[GL.length h4]
theorem GL.mem:∀{kvs:Z_ (D×V)}{g:Z_ (D×Z_ D)}{p:D×V},GL Hk H l kvs g->p∈kvs->∃es,abx Hk H l p.2 es/\∃q∈g,q.2=es
 |[],g,p,h,hp=>by trivial
 |p'::r,g,p,h,hp=>by
  obtain⟨q,g',rfl,h2,h3,h4⟩:=h;rcases Z0.mp hp with rfl|hp;exact⟨q.2,h3,q,ZZ ..,rfl⟩;obtain⟨es,h5,q',h6,h7⟩:=GL.mem h4 hp;exact⟨es,h5,q',Z1 _ h6,h7⟩
def jd{kvs:Z_ (D×V)}{k:D}{v:V}(h:eR kvs k=U v):∃p∈kvs,p.2=v/\p.1=k:=by
 unfold eR at h;obtain⟨p,h1,h2⟩:=Xp.mp h;exact⟨p,W4 h1,h2,by simpa using List.find?_some h1⟩
theorem GL.add{Hk H:Hp}{l a:ZM}{ks:Z_ (D×V)}{k e:D}{ep:Nat}:∀{kvs:Z_ (D×V)}{g:Z_ (D×Z_ D)},GL Hk H l kvs g->(kvs.map (·.2)).Nodup->eR kvs k=U (.ref a)->H a=U (.dD ks ep)->∀A_,GL Hk (upd H a (.dD (du ks e (.bl L)) A_)) l kvs (bg g k e)
 |[],g,h,nd,hv,ha=>by trivial
 |p::r,g,h,nd,hv,ha=>by
  intro A_;obtain⟨q,g',rfl,h2,h3,h4⟩:=h;rw[Z2,Y4]at nd;unfold bg;by_cases c:p.1=k;rw[bX c]at hv;rw[ZR (by rw[<-h2];exact c)];refine⟨_,_,rfl,h2,?_,h4.to λp' Jf a' Sg Ki e1 e2=>?_⟩;obtain⟨a',Sg,Ki,e1,e2,e3,e4,e5,e6⟩:=h3;have Ji:p.2=.ref a:=Z7 hv;rw[e1]at Ji;cases Ji;rw[ha]at e4;cases e4;refine⟨a,_,A_,e1,e2,e3,ah,?_,λx hx=>?_⟩;rw[dQ];unfold ji;rw[e5];unfold du at hx;split at hx;obtain⟨y,hy,rfl⟩:=ZQ.mp hx;split;rfl;exact e6 y hy;rcases Zl.mp hx with hx|hx;exact e6 x hx;rw[ZG.mp hx];have:a'≠a:=λz=>by
   subst z;exact nd.1 (ZQ.mpr ⟨p',Jf,by rw[e1];exact(Z7 hv).symm⟩)
  rw[ai this];exact e2;rw[bY c]at hv;rw[ZK (by rw[<-h2];exact c)];refine⟨_,_,rfl,h2,h3.to λa' Sg Ki e1 e2=>?_,GL.add h4 nd.2 hv ha A_⟩;obtain⟨p',Jf,e3,_⟩:=jd hv;have:a'≠a:=λz=>by
   subst z;exact nd.1 (ZQ.mpr ⟨p',Jf,by rw[e3,e1]⟩)
  rw[ai this];exact e2
theorem GL.keys:∀{kvs:Z_ (D×V)}{g:Z_ (D×Z_ D)},GL Hk H l kvs g->kvs.map (·.1)=g.map (·.1)
 |[],g,h=>by rw[show g=[] from h];rfl
 |p::r,g,h=>by obtain⟨q,g',rfl,h2,_,h4⟩:=h;simp[GL.keys h4,h2]
theorem GL.snoc:∀{kvs:Z_ (D×V)}{g:Z_ (D×Z_ D)},GL Hk H l kvs g->abx Hk H l (.ref a) es->GL Hk H l (kvs++[(k,.ref a)]) (g++[(k,es)])
 |[],g,h,i=>by rw[show g=[] from h];exact⟨_,_,rfl,rfl,i,rfl⟩
 |p::r,g,h,i=>by obtain⟨q,g',rfl,h2,h3,h4⟩:=h;exact⟨_,_,rfl,h2,h3,GL.snoc h4 i⟩
theorem GL.ab8{n:Nat}{Hk H:Hp}{l:ZM}:∀{g:Z_ (D×Z_ D)},(∀q∈g,q.2.length<=n)->∀q∈bg g k e,q.2.length<=n+1
 |[],h,q,hq=>by unfold bg at hq;rw[ZG.mp hq];simp
 |p::r,h,q,hq=>by
  unfold bg at hq;split at hq;rcases Z0.mp hq with rfl|hq;have:=h p (ZZ ..);dsimp only;split;lia;rw[Zv,List.length_singleton];lia;have:=h q (Z1 _ hq);lia;rcases Z0.mp hq with rfl|hq;have:=h q (ZZ ..);lia;exact GL.ab8 (Hk:=Hk) (H:=H) (l:=l) (λq' Ku=>h q' (Z1 _ Ku)) q hq
theorem iV:∀(g:Z_ (D×Z_ D))(k e:D),(bg g k e).length<=g.length+1
 |[],k,e=>by simp[bg]
 |p::r,k,e=>by
  unfold bg;split;simp;have:=iV r k e;simp only[bG];lia
def InM(K:Z6)(B:ZM->Prop)(Hk H:Hp)(l:ZM)(v:V)(es:Z_ D):Prop:=Rep K B H (.dD es (es.map λ_=>.bl L)) v\/abx Hk H l v es
def GM(K:Z6)(B:ZM->Prop)(Hk H:Hp)(l:ZM):Z_ (D×V)->Z_ (D×Z_ D)->Prop
 |[],g=>g=[]
 |p::r,g=>∃q g',g=q::g'/\p.1=q.1/\InM K B Hk H l p.2 q.2/\GM K B Hk H l r g'
theorem GL.m{K:Z6}{B:ZM->Prop}{Hk H:Hp}{l:ZM}:∀{kvs:Z_ (D×V)}{g:Z_ (D×Z_ D)},GL Hk H l kvs g->GM K B Hk H l kvs g
 |[],g,h=>h
 |p::r,g,h=>by obtain⟨q,g',h1,h2,h3,h4⟩:=h;exact⟨q,g',h1,h2,.inr h3,GL.m h4⟩
theorem CT{K:Z6}{B:ZM->Prop}{H:Hp}:∀{ks:Z_ (D×V)},(∀x∈ks,x.2=.bl L)->M1 K B H ((ks.map (·.1)).map λ_=>.bl L) (ks.map (·.2))
 |[],h=>M1.nil
 |p::r,h=>M1.cons (by simp only[Rep];exact h p (ZZ ..)) (CT λx hx=>h x (Z1 _ hx))
def abx.obR{K:Z6}{B:ZM->Prop}{Hk H:Hp}{l:ZM}{v:V}{es:Z_ D}(h:abx Hk H l v es):∃a,v=.ref a/\a≠l/\Hk a=M/\ObR K B H (.dD es (es.map λ_=>.bl L)) a:=by
 obtain⟨a,ks,ep,h1,h2,h3,h4,rfl,h6⟩:=h;exact⟨a,h1,h2,h3,ks,⟨ep,h4⟩,rfl,CT h6⟩
theorem GM.aca{K:Z6}{B:ZM->Prop}{Hk H:Hp}{l b:ZM}{u:HO}{o:Obj}(hx:H b=U u)(mu:Mut (U u))(nb:¬B b):∀{kvs:Z_ (D×V)}{g:Z_ (D×Z_ D)},GM K B Hk H l kvs g->GM K B Hk (upd H b (.frz o u)) l kvs g
 |[],g,h=>h
 |p::r,g,h=>by
  obtain⟨q,g',h1,h2,h3,h4⟩:=h;refine⟨q,g',h1,h2,?_,GM.aca hx mu nb h4⟩;rcases h3 with h3|h3;exact .inl (h3.ext (bP hx mu nb));by_cases c:p.2=.ref b;obtain⟨a,e1,e2,e3,ob⟩:=h3.obR (K:=K) (B:=B);rw[c]at e1;cases e1;rw[c];exact .inl (ob.frozen hx nb λ_ z=>z);exact .inr (h3.to λa ks ep e1 e2=>by rw[ai (λz=>c (by rw[e1,z]))];exact e2)
theorem ED{X:Cx}{a_:Z_ (ZM×Obj)}{O:St}{s:ZT}{B:ZM->Prop}{Hk:Hp}{l:ZM}{ol:HO}(hB:∀a,B a->∃o:HOn,Hk a=U o.1):∀(kvs:Z_ (D×V))(g:Z_ (D×Z_ D))(H:Hp),Inv X a_ O H s->GM X.K B Hk H l kvs g->H l=U ol->
  ∃H',Inv X a_ O H' s/\Ext B H H'/\(∀c o o',Hk c=U o'->H c=U o->H' c=U o)/\H' l=U ol/\M1 X.K B H' (g.map λp=>.dD p.2 (p.2.map λ_=>.bl L)) (kvs.map (·.2))
 |[],g,H,I,h,hl=>⟨H,I,Ext.refl,λ_ _ _ _ q=>q,hl,by rw[show g=[] from h];exact M1.nil⟩
 |p::r,g,H,I,h,hl=>by
  obtain⟨q,g',rfl,h2,h3,h4⟩:=h;rcases h3 with h3|h3;obtain⟨H',I',e',k',l',r'⟩:=ED hB r g' H I h4 hl;exact⟨H',I',e',k',l',M1.cons (h3.ext e') r'⟩;obtain⟨a,e1,e2,e3,ob⟩:=h3.obR (K:=X.K) (B:=B);obtain⟨u,hu,mu⟩:=ob.mut;obtain⟨o,I1⟩:=I.frz hu mu;have nb:¬B a:=λz=>by obtain⟨o',w⟩:=hB a z;rw[e3]at w;trivial
  have ex:Ext B H (upd H a (.frz o u)):=bP hu mu nb;obtain⟨H',I',e',k',l',r'⟩:=ED hB r g' _ I1 (GM.aca hu mu nb h4) (by rw[ai (ZC e2)];exact hl);refine⟨H',I',ex.trans e',λc o' o2 q1 q2=>k' c o' o2 q1 (by rw[ai (ay q1 e3)];exact q2),l',M1.cons ?_ r'⟩;dsimp only;rw[e1];exact(ob.frozen hu nb λ_ z=>z).ext e'
def yH(q:Mk):Bool:=q.all λo=>match o with|some (_,true)=>Y|_=>L
def ut(h:yH q=L):be q:=λi d e=>by
 have:=(ZO.mp h) _ (Zf e);simp at this
def eT(h:be O):be (O.set i M):=λj e q=>by
 by_cases hj:i=j
 .subst hj
  rw[List.getElem?_set]at q;split at q
  .split at q<;>cases q
  exact h i e q
 rw[ZY hj]at q;exact h j e q
def Rel.acA{K:Z6}{B:ZM->Prop}{Hk H:Hp}{O:Mk}{Z:St}{l:ZM}{u o:HO}(R:Rel K B Hk O Z H)(no:be O)(hk:Hk l=M)(hl:H l=U u)(mu:Mut (U u)):Ext B H (upd H l o)/\Rel K B Hk O Z (upd H l o):=by
 have nb:¬B l:=λz=>by obtain⟨o,q⟩:=R.bor l z;rw[hk]at q;trivial
 have ex:Ext B H (upd H l o):=bP hl mu nb;refine⟨ex,R.same.put hk,R.bor,R.len,λj e q=>?_,λj e q=>(no j e q).elim,R.dis⟩;obtain⟨v,q1,q2⟩:=R.var j e q;exact⟨v,q1,q2.ext ex⟩
noncomputable def cu(ib ik ir:Nat)(fk fe:Mk->Z9 D):Z_ D->Mk->Z_ (D×Z_ D)->Z9 (Z_ (D×Z_ D))
 |[],_,g=>U g
 |d::ds,q,g=>match fk (q.set ib (U (d,Y)))with
  |some k=>(match fe (((q.set ib (U (d,Y))).set ik (U (k,Y))).set ir M)with
   |some e=>if(bH 8 k&&m4 k&&(bH 8 e&&m4 e))=L then cu ib ik ir fk fe ds (((q.set ib (U (d,Y))).set ik (U (k,Y))).set ir M) (bg g k e) else M
   |none=>M)
  |none=>M
noncomputable def Cg(ig ib ik ir:Nat)(fi:Mk->Z9 (Z_ D))(fk fe:Mk->Z9 D)(q:Mk):Z9 Out:=
 if yH q=L/\ig<q.length/\ib<q.length/\ik<q.length/\ir<q.length then
  (match fi (q.set ig M)with
  |some ds=>if ds.length<lim then(match cu ib ik ir fk fe ds (q.set ig M) []with|some g=>U (.ret (oB g) L)|none=>M) else M
  |none=>M) else M
def uD(h:Cg ig ib ik ir fi fk fe q=U o):be q/\(ig<q.length/\ib<q.length/\ik<q.length/\ir<q.length)/\∃ds g,fi (q.set ig M)=U ds/\ds.length<lim/\cu ib ik ir fk fe ds (q.set ig M) []=U g/\o=.ret (oB g) L:=by
 unfold Cg at h;split at h;rename_i c;split at h;rename_i ds q1;split at h;rename_i hl;split at h;rename_i g q2;cases h;exact⟨ut c.1,c.2,ds,g,q1,hl,q2,rfl⟩;trivial;trivial;trivial;trivial
theorem gd:∀{g:Z_ (D×Z_ D)}{k e:D},¬k∈g.map (·.1)->bg (g++[(k,[])]) k e=bg g k e
 |[],k,e,_=>by simp[bg]
 |p::r,k,e,h=>by
  simp only[Z2,Z0,Xq]at h;show bg (p::(r++[(k,[])])) k e=_;unfold bg;rw[ZK (λz=>h.1 z.symm),ZK (λz=>h.1 z.symm),gd h.2]
def wR{kvs:Z_ (D×V)}{k:D}{v:V}(h:eR kvs k=M):eR (kvs++[(k,v)]) k=U v:=by
 induction kvs with
 |nil=>exact bX rfl
 |cons p r ih=>
  by_cases c:p.1=k;rw[bX c]at h;trivial;rw[bY c]at h;rw[List.cons_append,bY c];exact ih h
structure ack (K:Z6)(B:ZM->Prop)(Hk:Hp)(ig l n:Nat)(δ:Mk)(σ:St)(H:Hp)(g:List (D×List D)):Prop where
 rel:Rel K B Hk δ σ H
 no:be δ
 at':σ[ig]?=some (some (.ref l))
 new:Hk l=none
 dict:∃kvs ep,H l=some (.dD kvs ep)/\GL Hk H l kvs g/\(kvs.map (·.2)).Nodup
 len:g.length<=n
 ab8:∀q∈g,q.2.length<=n
section
variable{X:Cx}{ig ib ik ir:Nat}{fk fe:Mk->Z9 D}{p3 RP RO:Pos}
def tGR(K:Z6)(ig:Nat):TS:=λDn q H=>∃B Hk l kvs ep g,(∀a,B a->∃o:HOn,Hk a=U o.1)/\q[ig]?=U (U (.ref l))/\H l=U (.dD kvs ep)/\GL Hk H l kvs g/\
 ∀H',Ext B H H'->(∀c o o',Hk c=U o'->H c=U o->H' c=U o)->ObR K B H' (oB g) l->Dn.rt (.ref l) H'
def Ab(ng:Nm X ig xg):PS X (.Return (U (.Name xg Um)) Ul) (tGR X.K ig):=by
 intro a_ s q H Dn I ⟨B,Hk,l,kvs,ep,g,hB,Qi,hl,gl,k⟩;obtain⟨H',I',e',k',l',r'⟩:=ED hB kvs g H I gl.m hl;exact iZ (aZ ng.at' ng.vis ng.d1 ng.d2) a_ s q H' Dn I' ⟨.ref l,Qi,k H' e' k' ⟨kvs,⟨ep,l'⟩,gl.keys,r'⟩⟩
def xu{K:Z6}{B:ZM->Prop}{Hk:Hp}{l n:Nat}{Z:Mk}{O:St}{H H3 H4:Hp}{g:Z_ (D×Z_ D)}{d k e:D}{v vk:V}{N:St->Hp->Prop}{Dn:Ends}
  (ka:ig<O.length/\ib<O.length/\ik<O.length/\ir<O.length) (h1:ig≠ib) (h2:ig≠ik) (h3:ig≠ir) (h5:ik≠ir) (hn:n<lim)
  (G:ack K B Hk ig l n Z O H g) (sy:aaa H H3) (rv:Rep K B H3 d v) (qk:fk (Z.set ib (U (d,Y)))=U k) (s4:aaa H3 H4) (rk:Rep K B H4 k vk)
  (qe:fe (((Z.set ib (U (d,Y))).set ik (U (k,Y))).set ir M)=U e) (Po:(bH 8 k&&m4 k&&(bH 8 e&&m4 e))=L)
  (fin:∀i_ H',Ext B H H'->ack K B Hk ig l (n+1) (((Z.set ib (U (d,Y))).set ik (U (k,Y))).set ir M) i_ H' (bg g k e)->N i_ H'):
  Fn (BD (Gq abU (vO ig) (ql (vO ik) (ql ab3 ab2))) (h9 ir)) (sPA (vO ir) (tM K Y fe) (tC (.bl L))) {Dn with nx:=N} ((O.set ib (U v)).set ik (U vk)) H4:=by
 simp only[ZH]at Po;obtain⟨⟨k8,kt⟩,e8,et⟩:=Po;obtain⟨lg,lb,lk,lr⟩:=ka;have R3:=(G.rel.to sy).set (i:=ib) lb rv;have R4:=(R3.to s4).set (i:=ik) (by rw[Zm];exact lk) rk;have P8:be ((Z.set ib (U (d,Y))).set ik (U (k,Y))):=gQ (gQ G.no);obtain⟨kvs,ep,hl,gl,nd⟩:=G.dict;have O2:=sy.trans s4;have Qu:H4 l=U (.dD kvs ep):=O2 l _ hl;have S9:GL Hk H4 l kvs g:=gl.to λp hp a ks Ki e1 e2=>O2 a _ e2;obtain⟨b,rfl⟩:=da kt rk;have kr:KR H4 k (.ref b):=rk.key k8;have Rz:((O.set ib (U v)).set ik (U (.ref b)))[ig]?=U (U (.ref l)):=by
  rw[ZY (ZC h2),ZY (ZC h1)];exact G.at'
 have Tx:((O.set ib (U v)).set ik (U (.ref b)))[ik]?=U (U (.ref b)):=ZU (by rw[Zm];exact lk);refine⟨.ref l,Rz,⟨l,rfl,.inr ⟨kvs,ep,.inl Qu⟩⟩,.ref b,Tx,λc hc=>?_⟩;have cl:c≠l:=λz=>by subst z;rw[Qu]at hc;trivial
 have sc:=ax (o:=.dD [] 0) hc;have Nz:upd H4 c (.dD [] 0) l=U (.dD kvs ep):=sc l _ Qu;have Pz:GL Hk (upd H4 c (.dD [] 0)) l kvs g:=S9.to λp hp a ks Ki e1 e2=>sc a _ e2;have Qd:KR (upd H4 c (.dD [] 0)) k (.ref b):=(rk.ext (R4.ext sc)).key k8;have Rc:=R4.to sc;have xc:Ext B H (upd H4 c (.dD [] 0)):=G.rel.ext (O2.trans sc);have aq:∀(H5:Hp)(a:ZM)(J9:Z_ (D×V))(Oe:Nat)(g1:Z_ (D×Z_ D)),Ext B H H5->Rel K B Hk ((Z.set ib (U (d,Y))).set ik (U (k,Y))) ((O.set ib (U v)).set ik (U (.ref b))) H5->H5 l=U (.dD J9 Oe)->GL Hk H5 l J9 g1->(J9.map (·.2)).Nodup->
   eR J9 k=U (.ref a)->bg g1 k e=bg g k e->(∀q∈g1,q.2.length<=n)->
   sPA (vO ir) (tM K Y fe) (tC (.bl L)) {Dn with nx:=N} (((O.set ib (U v)).set ik (U (.ref b))).set ir (U (.ref a))) H5:=by
  intro H5 a J9 Oe g1 x5 R5 Va S8 RY Sn Tg Se;have R6:=R5.unset (i:=ir) (v:=.ref a) (by rw[Zm,Zm];exact lr);refine⟨.ref a,ZU (by rw[Zm,Zm];exact lr),B,Hk,_,e,R6,qe,λy H6 s6 ry=>?_⟩;obtain⟨b2,rfl⟩:=da et ry;obtain⟨p,hp,e1,e2⟩:=jd Sn;obtain⟨es,⟨a',ks,Ki,f1,f2,f3,f4,f5,f6⟩,q,hq,Ss⟩:=S8.mem hp;rw[e1]at f1;cases f1;have QP:H6 a=U (.dD ks Ki):=s6 a _ f4;have Me:ks.length<=n:=by
   have:=Se q hq;rw[Ss,<-f5,ZJ]at this;exact this
  refine⟨a,rfl,.inr ⟨ks,Ki,e,b2,QP,rfl,e8,ry.key e8,?_,λA_=>?_⟩⟩;exact Zz (Nat.lt_of_le_of_lt Me hn) (aD (ZP _));have R7:=R6.to s6;have VZ:GL Hk H6 l J9 g1:=S8.to λp hp a ks Ki e1 e2=>s6 a _ e2;obtain⟨x8,R8⟩:=R7.acA (o:=.dD (du ks e (.bl L)) A_) (eT P8) f3 QP trivial;refine fin _ _ ((x5.trans (R5.ext s6)).trans x8) ⟨R8,eT P8,?_,G.new,⟨J9,Oe,?_,?_,RY⟩,?_,?_⟩;rw[ZY (ZC h3)];exact Rz;rw[ai (ZC f2)];exact s6 l _ Va;rw[<-Tg];exact VZ.add RY Sn QP A_;have:=iV g k e;have:=G.len;lia;rw[<-Tg];exact GL.ab8 (Hk:=Hk) (H:=H) (l:=l) Se
 cases hv:eR kvs k with
 |some w=>
  obtain⟨p,hp,e1,e2⟩:=jd hv;obtain⟨es,⟨a,ks,Ki,f1,f2,f3,f4,f5,f6⟩,q,hq,Ss⟩:=Pz.mem hp;have ew:w=.ref a:=by rw[<-e1,f1]
  subst ew;refine⟨l,.ref b,.ref c,.ref a,rfl,rfl,.inl ⟨.inr ⟨kvs,ep,k,b,.inl Nz,rfl,k8,Qd,hv.symm⟩,?_,.inr ⟨kvs,ep,Nz⟩⟩⟩;exact aq _ a kvs ep g xc Rc Nz Pz nd hv rfl G.ab8
 |none=>
  refine⟨l,.ref b,.ref c,.ref c,rfl,rfl,.inr ⟨.inr ⟨kvs,ep,k,b,.inl Nz,rfl,k8,Qd,hv.symm⟩,rfl,.inr ⟨kvs,ep,k,b,Nz,rfl,k8,Qd,?_,λA_=>?_⟩⟩⟩;rw[gl.length];exact Zz (Nat.lt_of_le_of_lt G.len hn) (aD (ZP _));have Vc:Hk c=M:=G.rel.same.free ((O2.free hc));obtain⟨x5,R5⟩:=Rc.acA (o:=.dD (du kvs k (.ref c)) A_) P8 G.new Nz trivial;have ek:¬k∈g.map (·.1):=by rw[<-gl.keys];exact xq hv
  refine aq _ c (du kvs k (.ref c)) A_ (g++[(k,[])]) (xc.trans x5) R5 ah ?_ ?_ ?_ (gd ek) ?_;rw[jo _ hv];refine GL.snoc (Pz.to λp hp a ks Ki e1 e2=>?_) ⟨c,[],0,rfl,cl,Vc,?_,rfl,λx hx=>by cases hx⟩;have:a≠l:=λz=>by
   obtain⟨es,⟨a2,UE,Wb,z1,z2,_⟩,_⟩:=Pz.mem hp;rw[e1]at z1;cases z1;exact z2 z
  rw[ai this];exact e2;rw[ai cl];exact ah;rw[jo _ hv,YW];refine Yk.mpr ⟨nd,by simp,λx hx y hy z=>?_⟩;obtain rfl:y=.ref c:=by simpa using hy
  subst z;obtain⟨p,hp,e1⟩:=ZQ.mp hx;obtain⟨es,⟨a2,UE,Wb,z1,z2,z3,z4,_⟩,_⟩:=S9.mem hp;rw[e1]at z1;cases z1;rw[hc]at z4;trivial;rw[jo _ hv];exact wR hv;intro q hq;rcases Zl.mp hq with hq|hq;exact G.ab8 q hq;rw[ZG.mp hq];exact Zo _
set_option tactic.hygienic true in
theorem uR(hp:PassesOwn (model X.prog X.w) X.A X.env X.xe)(hc:X.calm=L)(hu:X.A.units+64<cLine)(hN:X.N.Nodup)(ng:Nm X ig xg)(lg:Lc X ig xg)(lb:Lc X ib xb)(nk:Nm X ik xk)(lk:Lc X ik xk)(nr:Nm X ir xr)(lr:Lc X ir xr)
  (h1:ig≠ib) (h2:ig≠ik) (h3:ig≠ir) (h5:ik≠ir) (hi:DI X Y (.Name xb p4) iter fi) (hk:DE X Y ke fk) (he:DE X Y ve fe)
  (hs:∀x,foldedSetIterable iter X.env x=pure x)
  (Ra:swapsWith (.Dict [] [] p2) (U (.Name xg p1)) p3.line X.env=pure Y)
  (MS:swapsWith ke (U (.Name xk p5)) p6.line X.env=pure Y)
  (MR:swapsWith (.Call (.Attribute (.Name xg p8) "setdefault" ap) [.Name xk p9,.Dict [] [] Mb] [] cp) (U (.Name xr p7)) RP.line X.env=pure Y)
  (Q_:swapsWith (.Constant (.bool L) kk Uo) (U (.Subscript (.Name xr Us) ve Ur)) RO.line X.env=pure Y)
  (base:attributeBase (.Name xg p8) "setdefault" X.env (eval (.Name xg p8) X.env)=eval (.Name xg p8) X.env)
  (few:((backTo cp (starEach [.Name xk p9,.Dict [] [] Mb] X.env)).all (λx=>!x.1)&&(backToKw cp (keywordEach [] X.env)).all (λx=>x.1.isSome)&&decide (([Expr.Name xk p9,.Dict [] [] Mb]).length+([]:Z_ Keyword).length+(if([]:Z_ Keyword).isEmpty then 0 else 1)<30))=L)
  (line:(ap.endLine==cp.line)=L)(ID:starEach [.Name xk p9,.Dict [] [] Mb] X.env=(Y,eval (.Name xk p9) X.env)::starEach [.Dict [] [] Mb] X.env)(Jc:starEach [.Dict [] [] Mb] X.env=[(Y,eval (.Dict [] [] Mb) X.env)])(plain:(backTo cp (starEach [.Dict [] [] Mb] X.env)).any (·.1)=Y):
  DSs X (.Assign [.Name xg p1] (.Dict [] [] p2) p3::
   .For (.Name xb p4) iter (.Assign [.Name xk p5] ke p6::
    .Assign [.Name xr p7] (.Call (.Attribute (.Name xg p8) "setdefault" ap) [.Name xk p9,.Dict [] [] Mb] [] cp) RP::
    .Assign [.Subscript (.Name xr Us) ve Ur] (.Constant (.bool L) kk Uo) RO::[]) [] p16::
   .Return (U (.Name xg Um)) Ul::[]) (Cg ig ib ik ir fi fk fe):=by
 intro a_ s O H Dn I hq;obtain⟨B,Hk,Z,o,R,e,Qf⟩:=hq;obtain⟨no,⟨q1,q2,q3,q4⟩,ds,g,Jk,hl,hg,rfl⟩:=uD e;have Qi:=R.len;refine aS (gB hN lg.at' lg.loc jt Ra lg.fnl)
  (aS (oO hp hc hi (jy hN lb.at' lb.loc lb.fnl)
   (aS (gB hN lk.at' lk.loc hk MS lk.fnl)
    (aS (gB hN lr.at' lr.loc (t5 F.slot_dict_setdefault F.type_dict_setdefault (lm hu) (aZ ng.at' ng.vis ng.d1 ng.d2) (aw (aZ nk.at' nk.vis nk.d1 nk.d2) (aw jt aK Jc) ID) base few line ID plain) MR lr.fnl)
     (dJ (oZ hu (aZ nr.at' nr.vis nr.d1 nr.d2) he BV Q_)))) hs)
   (dJ (Ab ng))) a_ s O H Dn I ?_
 intro p Sw;have s1:=ax (o:=.dD [] 0) Sw;have R1:=(R.to s1).unset (i:=ig) (v:=.ref p) (by lia);have Pm:Hk p=M:=R.same.free Sw;refine⟨B,Hk,_,ds,R1,Jk,λJ H2 s2 it=>?_⟩;have LP:ItD X.K B H2 J ds:=it;refine⟨λi n i_ H'=>n=ds.length - i/\i<=ds.length/\Ext B H2 H'/\∃h_ g',ack X.K B Hk ig p i h_ i_ H' g'/\i_.length=O.length/\cu ib ik ir fk fe (ds.drop i) h_ g'=U g,
  ⟨ds.length,by simp,Zo _,Ext.refl,_,[],⟨R1.to s2,eT no,ZU (by lia),Pm,⟨[],0,s2 p _ ah,rfl,YY⟩,Zo _,λq hq=>by cases hq⟩,by rw[Zm],by simpa using hg⟩,?_⟩
 intro i n i_ H' hz;obtain⟨rfl,o_,x,h_,g',G,hlen,e'⟩:=hz;obtain⟨JC,MC⟩:=LP H' x;by_cases ka:i<ds.length;obtain⟨go,yl⟩:=MC i ds[i] (by simp[ka]);refine .inr ⟨go,λIK H3=>Ext B H2 H3/\∃h_ g',ack X.K B Hk ig p (i+1) h_ IK H3 g'/\IK.length=O.length/\cu ib ik ir fk fe (ds.drop (i+1)) h_ g'=U g,λIK H3 z=>⟨_,by lia,rfl,ka,z⟩,λv H3 hy=>?_⟩;obtain⟨sy,rv⟩:=yl v H3 hy;rw[Zx ka]at e';simp only[cu]at e';split at e';rename_i k qk;split at e';rename_i e2 qe;split at e';rename_i h8;refine⟨B,Hk,_,k,(G.rel.to sy).set (i:=ib) (by lia) rv,qk,λvk H4 s4 rk=>?_⟩;refine xu (Dn:=Dn) ⟨by lia,by lia,by lia,by lia⟩ h1 h2 h3 h5 (by lia) G sy rv qk s4 rk qe h8 λIK H5 x5 G5=>⟨x.trans x5,_,_,G5,?_,e'⟩
 have r1:=G5.rel.len;have r2:=G.rel.len;simp only[Zm]at r1;lia;trivial;trivial;trivial;have Mf:i=ds.length:=by lia
 subst Mf;rw[Xj]at e';simp only[cu]at e';cases e';obtain⟨kvs,ep,Kv,gl,nd⟩:=G.dict;refine .inl ⟨JC,B,Hk,p,kvs,ep,g,R.bor,G.at',Kv,gl,λH' x' k' ob=>?_⟩;have same:aaa Hk H':=G.rel.same.keep k';exact Qf (.ref p) H' (((R.ext s1).trans (R1.ext s2)).trans (x.trans x')) same (by unfold nh;rw[ZR rfl];exact .inl ⟨p,rfl,Pm,ob⟩)
end
abbrev IsZ(h:Heap)(z P O:ZM)(f:Z3)(b:Bool):Prop:=
 h.get? z=U {cls:=.type "zip",dict:=M,data:=.fields #[f,.bool b,.bool Y,.ref P,.ref O],slots:=#[]}
structure Zq (t u:Bool)(h:Heap)(z P O c d p q:ZM)(n:Nat)(T:ZM)(b:Bool):Prop where
 zz:IsZ h z P O (rawInt T) b
 al:∃o,h.get? T=some o
 pp:IsPair h P (.ref c) (.ref d)
 oo:∃a b,IsPair h O a b
 cc:abj t h c p n
 dd:abj u h d q n
section
variable{A:Y9}{E:Z3->ZT->Prop}{s:ZT}
def fv(h:Q (s.heap.get? a) s):wpAny Mq A (loadIfAlive a) Q E s:=λΓ p _=>by
 unfold loadIfAlive;rw[Sem.wp_loadIfAlive];exact(Sem.wp_pure ..).mpr h
def v7{bo:Bool}{z P O T:ZM}{oT:Obj}{Q:Bool->ZT->Prop}(zz:IsZ s.heap z P O (rawInt T) bo)(al:s.heap.get? T=U oT)(h:∀JK,IsZ JK z P O (rawInt T) L->Heap.SameBut z s.heap JK->Q Y {s with heap:=JK}):
  wpAny (model prog w) A (Builtin.SmallTypes.ownedTupleIsFree (.ref z)) Q E s:=by
 unfold Builtin.SmallTypes.ownedTupleIsFree;have VA:s.heap.get? (Int.toNat (T:Int))=U oT:=by rw[Int.toNat_natCast];exact al
 refine Z8 (XJ zz rfl (x:=rawInt T) rfl ?_);unfold rawInt;dsimp only;refine Z8 (fv ?_);rw[VA];simp only[Option.isNone_some,ZI,Zb];refine Z8 (XJ zz rfl (x:=.bool bo) rfl ?_);cases bo with
 |true=>
  refine dF (by decide) ?_;exact Z4 (h _ zz ⟨rfl,λ_ _=>rfl⟩)
 |false=>
  refine fN (by decide) ?_;exact Z8 (X9 zz (by simp) λJK M0 x_=>Z4 (h JK M0 x_))
def rN{t u bo:Bool}{z P O c d p q T:ZM}{n:Nat}{xs ys:Array Z3}{Q:Z3->ZT->Prop}(hh:A.handled=M)(ap:Ap z P O c d p q)(hT:T∉[z,P,O,c,d])(Z:Zq t u s.heap z P O c d p q n T bo)
  (hp:aay t s.heap p xs) (hq:aay u s.heap q ys)
  (item:∀x y,xs[n]?=U x->ys[n]?=U y->∀h',Zq t u h' z P O c d p q (n+1) T L->IsPair h' s.z x y->h'.objs.size=s.z+1->
   (∀b o,b∉[z,P,O,c,d]->s.heap.get? b=U o->h'.get? b=U o)->Q (.ref s.z) {s with heap:=h'})
  (stop:(xs[n]?=M\/ys[n]?=M)->∀h' e,(∀b o,b∉[z,P,O,c,d]->s.heap.get? b=U o->h'.get? b=U o)->(∃o,h'.get? e=U o/\o.cls=.type "StopIteration")->E (.ref e) {s with heap:=h'}):
  wpAny (model prog w) A (Builtin.«zip.__next__» ⟨[.ref z],[]⟩) (λr s'=>∃v,r=.done (.ret v)/\Q v s') E s:=by
 obtain⟨zz,⟨oT,al⟩,pp,⟨a,b,oo⟩,cc,dd⟩:=Z;have nd:=ap.nd;have np:=ap.p;have nq:=ap.q;simp only[Y4,Z0,Zt,YK,Xq,YY,and_true,W2]at nd np nq hT;obtain⟨⟨zP,zO,zc,zd⟩,⟨PO,Pc,Pd⟩,⟨Oc,Od⟩,cd⟩:=nd;obtain⟨pz,pP,pO,pc,pd⟩:=np;obtain⟨qz,qP,qO,qc,qd⟩:=nq;obtain⟨Tz,TP,TO,Tc,Td⟩:=hT;change wpAny _ _ (field (.ref z) 2 >>= _) _ E s;refine Z8 (XJ zz rfl (x:=.bool Y) rfl ?_);change wpAny _ _ (field (.ref z) 3 >>= _) _ E s;refine Z8 (XJ zz rfl (x:=.ref P) rfl (Z8 (Yr pp rfl ?_)));change wpAny _ _ (Builtin.SmallTypes.ownedTupleIsFree (.ref z) >>= _) _ E s;refine Z8 (v7 zz al λJK Le x_=>?_);simp only[ZI,Zb];rw[<-Array.forIn_toList];simp only[WH,List.forIn_nil];refine Z8 (Z8 (Z8 (Za ?_)));change wpAny _ _ (Builtin.SmallTypes.nextOf (.ref c) >>= _) _ _ _;refine Z8 (Ea (t:=t) hh (cc.to λo e=>ag x_ (ZC zc) e) (hp.to λo e=>ag x_ pz e) (λx hx KH L7 w_=>Z4 ?_) λhx KH e w_ he=>?_);dsimp only;refine Z4 ?_;dsimp only;refine Z8 (Z8 (Za ?_));change wpAny _ _ (Builtin.SmallTypes.nextOf (.ref d) >>= _) _ _ _;refine Z8 (Ea (t:=u) hh (dd.to λo e=>ag w_ (ZC cd) (ag x_ (ZC zd) e)) (hq.to λo e=>ag w_ qc (ag x_ qz e)) (λy hy G_ M3 IE=>Z4 ?_) λhy G_ e IE he=>?_);dsimp only;refine Z4 (Z4 ?_);dsimp only;refine Z8 (Wk (Z4 ⟨_,rfl,?_⟩) (by show 2<=sizeLine;rw[X0];lia));have sz:G_.objs.size=s.z:=by rw[IE.1,w_.1,x_.1]
 have old:∀f o,f≠z->f≠c->f≠d->s.heap.get? f=U o->G_.get? f=U o:=λf o n1 n3 n4 e=>ag IE n4 (ag w_ n3 (ag x_ n1 e));have LX:IsZ G_ z P O (rawInt T) L:=ag IE zd (ag w_ zc Le);have up:∀f o,G_.get? f=U o->(G_.push {cls:=.type "tuple",data:=.seq #[x,y]}).get? f=U o:=λf o e=>Z5 _ e;have new:IsPair (G_.push {cls:=.type "tuple",data:=.seq #[x,y]}) G_.objs.size x y:=ZN _ rfl;have NK:(G_.push {cls:=.type "tuple",data:=.seq #[x,y]}).objs.size=G_.objs.size+1:=YI ..;show Q (.ref G_.objs.size) _;rw[sz]at new NK⊢;refine item x y hx hy _ ⟨up _ _ LX,⟨oT,up _ _ (old _ _ Tz Tc Td al)⟩,up _ _ (old _ _ (ZC zP) Pc Pd pp),⟨a,b,up _ _ (old _ _ (ZC zO) Oc Od oo)⟩,?_,?_⟩ new NK λf o hf e=>?_;exact L7.to λo e=>up _ o (ag IE cd e);exact M3.to λo e=>up _ o e;simp only[Z0,Zt,YK,Xq]at hf;exact up f o (old f o hf.1 hf.2.2.2.1 hf.2.2.2.2 e);refine stop (.inr hy) G_ e (λf o hf g=>?_) he;simp only[Z0,Zt,YK,Xq]at hf;obtain⟨n1,_,n2,n3,n4⟩:=hf;exact IE _ _ n4 (ag w_ n3 (ag x_ n1 g));refine stop (.inl hx) KH e (λf o hf g=>?_) he;simp only[Z0,Zt,YK,Xq]at hf;exact w_ _ _ hf.2.2.2.1 (ag x_ hf.1 g)
def ZS(t u:Bool)(h:Heap)(z P O c d p q:ZM)(n:Nat):Prop:=Zp t u h z P O c d p q n .none\/∃T b,T∉[z,P,O,c,d]/\Zq t u h z P O c d p q n T b
theorem ZS.to(Z:ZS t u h z P O c d p q n)(k:∀b o,b≠S->h.get? b=U o->h'.get? b=U o)(hS:S∉[z,P,O,c,d])(he:∃o,h'.get? S=U o):ZS t u h' z P O c d p q n:=by
 have ne:∀b∈[z,P,O,c,d],b≠S:=λb hb e=>hS (by rw[<-e];exact hb);rcases Z with⟨zz,pp,⟨a,b,oo⟩,cc,dd⟩|⟨T,bo,nT,⟨zz,⟨o,al⟩,pp,⟨a,b,oo⟩,cc,dd⟩⟩
 exact .inl ⟨k _ _ (ne z (by simp)) zz,k _ _ (ne P (by simp)) pp,⟨a,b,k _ _ (ne O (by simp)) oo⟩,cc.to λo e=>k _ o (ne c (by simp)) e,dd.to λo e=>k _ o (ne d (by simp)) e⟩;refine .inr ⟨T,bo,nT,k _ _ (ne z (by simp)) zz,?_,k _ _ (ne P (by simp)) pp,⟨a,b,k _ _ (ne O (by simp)) oo⟩,cc.to λo e=>k _ o (ne c (by simp)) e,dd.to λo e=>k _ o (ne d (by simp)) e⟩;by_cases e:T=S;rw[e];exact he;exact⟨o,k _ _ e al⟩
def kU(hh:A.handled=M)(ap:Ap z P O c d p q)(Z:ZS t u s.heap z P O c d p q n)(hp:aay t s.heap p xs)(hq:aay u s.heap q ys)(item:∀x y,xs[n]?=U x->ys[n]?=U y->∀h',ZS t u h' z P O c d p q (n+1)->IsPair h' s.z x y->h'.objs.size=s.z+1->
   (∀b o,b∉[z,P,O,c,d]->s.heap.get? b=U o->h'.get? b=U o)->Q (U (.ref s.z)) {s with heap:=h'}) (stop:(xs[n]?=M\/ys[n]?=M)->∀h',(∀b o,b∉[z,P,O,c,d]->s.heap.get? b=U o->h'.get? b=U o)->Q M {s with heap:=h'}):
  wpAny (model prog w) A (pyNext (.ref z)) Q E s:=by
 have lts:∀b∈[z,P,O,c,d],b<s.z:=λb hb=>by
  rcases Z with⟨zz,pp,⟨a,b',oo⟩,cc,dd⟩|⟨T,bo,nT,⟨zz,⟨o,al⟩,pp,⟨a,b',oo⟩,cc,dd⟩⟩<;>
   (simp only[Z0,Zt,YK]at hb
    rcases hb with rfl|rfl|rfl|rfl|rfl;exact ZV zz;exact ZV pp;exact ZV oo;obtain⟨o,e,_⟩:=cc.obj;exact ZV e;obtain⟨o,e,_⟩:=dd.obj;exact ZV e)
 rcases Z with Z|⟨T,bo,nT,Z⟩;refine jv hh ap Z hp hq (λx y hx hy h' Z' new sz k=>item x y hx hy h' (.inr ⟨s.z,Y,λhm=>Zc _ (lts _ hm),?_⟩) new sz k) stop;obtain⟨zz,pp,oo,cc,dd⟩:=Z';exact⟨zz,⟨_,new⟩,pp,oo,cc,dd⟩;have ty:s.TypeIs (.ref z) "zip":=⟨_,Z.zz,rfl⟩
 unfold pyNext;refine Z8 (XT (YF (name:=Str.ofString "__next__") ty Wo (Y2 Wo ty F.entry_zip_next (rN hh ap nT Z hp hq (λx y hx hy h' b1 b2 b3 b4=>Z4 (item x y hx hy h' (.inr ⟨T,L,nT,b1⟩) b2 b3 b4)) λhn h' e k he=>?_) (F.args_zip_next_1 _))));obtain⟨o,ho,hc⟩:=he;exact Z8 (X_ (T:="StopIteration") (b:=L) ⟨o,ho,hc⟩ WR (Z4 (stop hn h' k)))
def Made(h:Heap)(lo:ZM)(xs ys:Array Z3):Nat->Z_ Z3->Prop
 |_,[]=>True
 |i,v::r=>∃T x y,v=.ref T/\lo<=T/\xs[i]?=U x/\ys[i]?=U y/\IsPair h T x y/\(∀v'∈r,v'≠v)/\Made h lo xs ys (i+1) r
theorem Made.to{h h':Heap}{lo:ZM}{xs ys:Array Z3}:∀{i:Nat}{l:Z_ Z3},Made h lo xs ys i l->(∀T,.ref T∈l->∀o,h.get? T=U o->h'.get? T=U o)->Made h' lo xs ys i l
 |_,[],_,_=>trivial
 |i,v::r,hz,k=>by obtain⟨T,x,y,h1,h2,h3,h4,h5,h6,h7⟩:=hz;exact⟨T,x,y,h1,h2,h3,h4,k T (by rw[h1];simp) _ h5,h6,h7.to λT' hT=>k T' (Z1 _ hT)⟩
theorem Made.snoc{h:Heap}{lo T:ZM}{xs ys:Array Z3}{x y:Z3}:∀{i:Nat}{l:Z_ Z3},Made h lo xs ys i l->lo<=T->xs[i+l.length]?=U x->ys[i+l.length]?=U y->IsPair h T x y->(∀v∈l,v≠.ref T)->Made h lo xs ys i (l++[.ref T])
 |i,[],_,a1,a2,a3,a4,_=>⟨T,x,y,rfl,a1,a2,a3,a4,λv hv=>(by trivial),trivial⟩
 |i,v::r,hz,a1,a2,a3,a4,a5=>by
  obtain⟨T',x',y',h1,h2,h3,h4,h5,h6,h7⟩:=hz;refine⟨T',x',y',h1,h2,h3,h4,h5,λv' Ji=>?_,h7.snoc a1 (by rw[bG]at a2;rw[show i+1+r.length=i+(r.length+1) by lia];exact a2) (by rw[bG]at a3;rw[show i+1+r.length=i+(r.length+1) by lia];exact a3) a4 λv' Ji=>a5 v' (Z1 _ Ji)⟩;rcases Zl.mp Ji with Ji|Ji;exact h6 v' Ji;rw[ZG.mp Ji];exact ZC (a5 v (ZZ ..))
theorem Made.lt{h:Heap}{lo:ZM}{xs ys:Array Z3}:∀{i:Nat}{l:Z_ Z3},Made h lo xs ys i l->∀v∈l,∃T,v=.ref T/\T<h.objs.size/\lo<=T
 |_,[],_,v,hv=>by trivial
 |i,v::r,hz,v',hv=>by
  obtain⟨T,x,y,h1,h2,h3,h4,h5,h6,h7⟩:=hz;rcases Z0.mp hv with rfl|hv;exact⟨T,h1,ZV h5,h2⟩;exact h7.lt v' hv
def m7{R:Result->ZT->Prop}{t u:Bool}{z P O c d p q S lo:ZM}{xs ys:Array Z3}{res:Z3}{n:Nat}(hh:A.handled=M)(ap:Ap z P O c d p q)(hS:S∉[z,P,O,c,d])(pS:p≠S)(qS:q≠S)(hmin:n=min xs.size ys.size)(hn:n<=sizeLine)(bl:∀b∈[z,P,O,c,d],lo<=b)(bS:lo<=S):
  ∀(k i:Nat)(s:ZT)(acc:Array Z3)(e:Nat),n - i=k->i<=n->ZS t u s.heap z P O c d p q i->aay t s.heap p xs->aay u s.heap q ys->s.heap.get? S=U {cls:=.type "list",dict:=M,data:=.seq acc e,slots:=#[]}->acc.size=i->Made s.heap lo xs ys 0 acc.toList->lo<=s.z->(∀T,.ref T∈acc.toList->T∉S::[z,P,O,c,d])->
  (∀s' l_ e',(∀b o,b∉S::[z,P,O,c,d]->s.heap.get? b=U o->s'.heap.get? b=U o)->s'.heap.get? S=U {cls:=.type "list",dict:=M,data:=.seq l_ e',slots:=#[]}->l_.size=n->Made s'.heap lo xs ys 0 l_.toList->(∃h' tk,s'={s with heap:=h',toks:=tk})->R (.ok (.ret res)) s')->
  codeAny (model prog w) A (.builtin "list.extend.loop" ⟨[.ref S,.ref z,res],[]⟩) R s:=by
 intro k
 induction k with
 |zero=>
  intro i s acc e hk hi Z hp hq hL ha hm Kf hT hR;have Jv:i=n:=by lia
  subst Jv;refine YU F.entry_extend_loop ?_;rw[Y8 XQ _];show wpAny _ A.in1 (pyNext (.ref z) >>= _) _ _ s;refine Z8 (kU (show A.in1.handled=M from hh) ap Z hp hq (λx y hx hy=>?_) λ_ h' kp=>?_);exfalso;have a1:=(XE.mp hx).1;have a2:=(XE.mp hy).1;lia;refine Z4 (hR _ acc e (λb o hb g=>kp b o (λz=>hb (Z1 _ z)) g) (kp S _ hS hL) ha (hm.to λT JF o g=>kp T o (λz=>hT T JF (Z1 _ z)) g) ⟨h',s.toks,rfl⟩)
 |succ k ih=>
  intro i s acc e hk hi Z hp hq hL ha hm Kf hT hR;have ka:i<n:=by lia
  refine YU F.entry_extend_loop ?_;rw[Y8 XQ _];show wpAny _ A.in1 (pyNext (.ref z) >>= _) _ _ s;refine Z8 (kU (show A.in1.handled=M from hh) ap Z hp hq (λx y hx hy h' Z' new sz kp=>?_) λK5 h' kp=>?_)
  .have S6:=kp S _ hS hL
   have RA:∀b∈S::[z,P,O,c,d],b≠s.z:=λb hb e'=>by
    rcases Z0.mp hb with rfl|hb;exact absurd (ZV hL) (by rw[e'];exact Zc _)
    .have:b<s.z:=by
      rcases Z with⟨zz,pp,⟨a,b',oo⟩,cc,dd⟩|⟨T,bo,nT,⟨zz,⟨o,al⟩,pp,⟨a,b',oo⟩,cc,dd⟩⟩<;>
       (simp only[Z0,Zt,YK]at hb
        rcases hb with rfl|rfl|rfl|rfl|rfl;exact ZV zz;exact ZV pp;exact ZV oo;obtain⟨o,e,_⟩:=cc.obj;exact ZV e;obtain⟨o,e,_⟩:=dd.obj;exact ZV e)
     rw[e']at this;exact Zc _ this
   show wpAny _ A.in1 (updateSeq S (·.push (.ref s.z)) >>= _) _ _ _;refine Z8 (Ye S6 rfl (Z4 ⟨Yy XQ _,?_⟩) (by rw[ha];lia) (by show(acc.push _).size<=sizeLine+1;rw[Array.size_push,ha];lia));have sb:=Zd h' S (Obj.mapSeq (·.push (.ref s.z)));have JA:∀b o,b≠S->h'.get? b=U o->(h'.update S (Obj.mapSeq (·.push (.ref s.z)))).get? b=U o:=λb o hb g=>(sb.2 b hb).trans g;have gS:=Zk (Obj.mapSeq (·.push (Value.ref s.z))) S6 rfl;refine ih (i+1) _ (acc.push (.ref s.z)) _ (by lia) ka (Z'.to JA hS ⟨_,gS⟩) (hp.to λo g=>JA _ o pS (kp _ o ap.p g)) (hq.to λo g=>JA _ o qS (kp _ o ap.q g)) gS (by rw[Array.size_push,ha]) ?_ ?_ ?_ λs' l_ e' k1 k2 k3 k4 k5=>?_;rw[YB];refine(hm.to λT JF o g=>JA _ o (λz=>hT T JF (by rw[z];exact ZZ ..)) (kp T o (λz=>hT T JF (Z1 _ z)) g)).snoc Kf ?_ ?_ (JA _ _ (ZC (RA S (ZZ ..))) new) λv hv z=>?_;rw[Array.length_toList,ha,Yh];exact hx;rw[Array.length_toList,ha,Yh];exact hy;obtain⟨T,rfl,lt,_⟩:=hm.lt v hv;cases z;exact Zc _ lt;show lo<=(Heap.update h' S _).objs.size;rw[sb.1,sz];exact ZF Kf (Xd _);intro T JF;rw[YB]at JF;rcases Zl.mp JF with JF|JF
   exact hT T JF;have:T=s.z:=by simpa using JF
   intro MA;exact RA T MA this;refine hR s' l_ e' (λb o hb g=>k1 b o hb (JA b o (λz=>hb (by rw[z];exact ZZ ..)) (kp b o (λz=>hb (Z1 _ z)) g))) k2 k3 k4 ?_;obtain⟨h2,tk,e2⟩:=k5;exact⟨h2,tk,e2⟩
  exfalso;rcases K5 with K5|K5;rw[Array.getElem?_eq_none_iff]at K5;lia;rw[Array.getElem?_eq_none_iff]at K5;lia
def lW:typeLookup (.type "zip") "__len__"=pure M:=by rw[W6,XD];kernel_rfl
def jq:typeLookup (.type "zip") "__length_hint__"=pure M:=by rw[W6,XD];kernel_rfl
def qw{R:Result->ZT->Prop}(hh:A.handled=M){t u:Bool}{z P O c d p q S lo:ZM}{xs ys:Array Z3}{M4:Nat}(ap:Ap z P O c d p q)(hS:S∉[z,P,O,c,d])(pS:p≠S)(qS:q≠S)(hn:min xs.size ys.size<=sizeLine)(bl:∀b∈[z,P,O,c,d],lo<=b)(bS:lo<=S)(res:Z3)
  (Z:Zp t u s.heap z P O c d p q 0 .none) (hp:aay t s.heap p xs) (hq:aay u s.heap q ys) (Kf:lo<=s.z)
  (hL:s.heap.get? S=U {cls:=.type "list",data:=.seq #[] M4})
  (hR:∀s' l_ e',(∀b o,b∉S::[z,P,O,c,d]->s.heap.get? b=U o->s'.heap.get? b=U o)->s'.heap.get? S=U {cls:=.type "list",dict:=M,data:=.seq l_ e',slots:=#[]}->l_.size=min xs.size ys.size->Made s'.heap lo xs ys 0 l_.toList->(∃h' tk,s'={s with heap:=h',toks:=tk})->R (.ok (.ret res)) s'):
  wpAny (model prog w) A.in1 (Builtin.List.listExtendWith (.ref S) (.ref z) res)
   (λfin s'=>match fin with|.done f=>R (.ok f) s'|.again c'=>c'.quiet=L/\codeAny (model prog w) A c' R s') (λe s'=>R (.error e) s') s:=by
 have ty:s.TypeIs (.ref z) "zip":=⟨_,Z.zz,rfl⟩;have UA:S≠z:=λe=>hS (by rw[e];simp);unfold Builtin.List.listExtendWith;refine Z8 (Xg ty ?_);simp only[show Builtin.List.listSameRef (.ref S) (.ref z)=Y by simp[Builtin.List.listSameRef,UA],show(Value.type "zip"==Value.type "list")=Y by decide,show(Value.type "zip"==Value.type "tuple")=Y by decide,Bool.or_false,ZI,Zb];refine Z8 (wpAny_pyIter_zip Z.zz (Z8 (Za ?_)));unfold Builtin.List.listLengthHint;refine Z8 (X3 ty lW ?_);dsimp only;change wpAny _ _ (specialOf (.ref z) "__length_hint__" >>= _) _ _ _;refine Z8 (X3 ty jq (Z4 ?_));refine fN (by simp) ?_;refine Z8 (YT (Z8 ?_));change wpAny _ A.in1 (updateSeq S (·.push .none) >>= λ_=>updateSeq S (·.pop)) _ _ _;have LV:=Zk (Obj.mapSeq (·.push Value.none)) hL rfl;refine Z8 (Ye hL rfl (Ye (hz:=by seq_fits) LV rfl ?_));have MI:=Zk (Obj.mapSeq (·.pop)) LV rfl;have JA:∀b o,b≠S->s.heap.get? b=U o->((s.heap.update S (Obj.mapSeq (·.push Value.none))).update S (Obj.mapSeq (·.pop))).get? b=U o:=
  λb o hb e=>(Zn _ _ (ZC hb)).trans ((Zn _ _ (ZC hb)).trans e)
 refine Z4 ⟨Yy XQ _,m7 hh ap hS pS qS rfl hn bl bS _ 0 _ _ _ rfl (Zo _) ((show ZS t u s.heap z P O c d p q 0 from .inl Z).to JA hS ⟨_,MI⟩) (hp.to λo e=>JA _ o pS e) (hq.to λo e=>JA _ o qS e) MI (by simp) (by simp[Made]) ?_ (by simp) λs' l_ e' k1 k2 k3 k4 k5=>?_⟩;show lo<=(Heap.update (Heap.update s.heap S _) S _).objs.size;rw[Xw,Xw];exact Kf;obtain⟨h',tk,e2⟩:=k5;exact hR s' l_ e' (λb o hb e=>k1 b o hb (JA b o (λz=>hb (by rw[z];exact ZZ ..)) e)) k2 k3 k4 ⟨h',tk,e2⟩
def jP{Q:Z3->ZT->Prop}(hh:A.handled=M){t u:Bool}{z P O c d p q:ZM}{xs ys:Array Z3}(ap:Ap z P O c d p q)(hn:min xs.size ys.size<=sizeLine){lo:ZM}(bl:∀b∈[z,P,O,c,d],lo<=b)(Kf:lo<=s.z)
  (Z:Zp t u s.heap z P O c d p q 0 .none) (hp:aay t s.heap p xs) (hq:aay u s.heap q ys)
  (hQ:∀h' tk l_ e',(∀b o,b∉[z,P,O,c,d]->s.heap.get? b=U o->h'.get? b=U o)->h'.get? s.z=U {cls:=.type "list",dict:=M,data:=.seq l_ e',slots:=#[]}->l_.size=min xs.size ys.size->Made h' lo xs ys 0 l_.toList->Q (.ref s.z) {s with heap:=h',toks:=tk}):
  wpAny (model prog w) A (call (.type "list") [.ref z]) Q E s:=by
 refine callType_codes (Q₁:=λobj e_=>obj=.ref s.z/\e_={s with heap:=s.heap.push {cls:=.type "list",data:=.seq #[]}}) F.called_list (F.typeCall_list_1 _) F.entry_list_init (code_list_new _ ⟨rfl,rfl⟩) λobj e_ IS=>?_;obtain⟨rfl,rfl⟩:=IS;have hS:(s.heap.push {cls:=.type "list",data:=.seq #[]}).get? s.z=U {cls:=.type "list",data:=.seq #[]}:=ZN _ rfl;refine⟨⟨_,hS,rfl⟩,F.args_list_init_2 _ _,?_⟩;change wpAny _ _ (do let old <-Builtin.List.listItems (.ref s.z);Builtin.List.listUpdate (.ref s.z) (λ_=>#[]);letGo old.toList.reverse;Builtin.List.listExtendWith (.ref s.z) (.ref z) .none) _ _ _;refine Z8 ?_;unfold Builtin.List.listItems;refine Z8 (Yr hS rfl (Z4 ?_));change wpAny _ _ (updateSeq s.z (λ_=>#[]) >>= λ_=>letGo (#[]:Array Z3).toList.reverse >>= λ_=>Builtin.List.listExtendWith (.ref s.z) (.ref z) .none) _ _ _;have LV:=Zk (Obj.mapSeq (λ_=>(#[]:Array Z3))) hS rfl;have up:∀b ob,s.heap.get? b=U ob->((s.heap.push {cls:=.type "list",data:=.seq #[]}).update s.z (Obj.mapSeq (λ_=>(#[]:Array Z3)))).get? b=U ob:=λb ob e=>(Zn _ _ (ZC (Zs (ZV e)))).trans (Z5 _ e);have lts:∀b∈[z,P,O,c,d],b<s.z:=λb hb=>by
  obtain⟨zz,pp,⟨a,b',oo⟩,cc,dd⟩:=Z;simp only[Z0,Zt,YK]at hb;rcases hb with rfl|rfl|rfl|rfl|rfl;exact ZV zz;exact ZV pp;exact ZV oo;obtain⟨o,e,_⟩:=cc.obj;exact ZV e;obtain⟨o,e,_⟩:=dd.obj;exact ZV e
 have lp:p<s.z:=by cases t<;>(obtain⟨o,e,_⟩:=hp;exact ZV e)
 have lq:q<s.z:=by cases u<;>(obtain⟨o,e,_⟩:=hq;exact ZV e)
 refine Z8 (Ye hS rfl (Z8 (Wj ?_)));obtain⟨zz,pp,⟨a,b',oo⟩,cc,dd⟩:=Z;refine qw (A:=A.in1) hh ap (λhm=>Zc _ (lts _ hm)) (Zs lp) (Zs lq) hn bl Kf .none ⟨up _ _ zz,up _ _ pp,⟨a,b',up _ _ oo⟩,cc.to λo e=>up _ o e,dd.to λo e=>up _ o e⟩ (hp.to λo e=>up _ o e) (hq.to λo e=>up _ o e) ?_ LV λs' l_ e' k1 k2 k3 k4 k5=>?_;show lo<=(Heap.update (Heap.push s.heap _) _ _).objs.size;rw[Xw,YI];exact ZF Kf (Xd _);obtain⟨h',tk,rfl⟩:=k5;exact⟨rfl,hQ h' tk l_ e' (λb ob hb e=>k1 b ob (λhm=>(Z0.mp hm).elim (λz=>Zs (ZV e) z) hb) (up b ob e)) k2 k3 k4⟩
end
def abn(H:Hp):Z_ V->Z_ V->Z_ V->Prop
 |x::xs,y::ys,vs=>∃T r,vs=.ref T::r/\H T=U (.tup [x,y])/\abn H xs ys r
 |_,_,vs=>vs=[]
section
variable{X:Cx}{a_:Z_ (ZM×Obj)}{σ:St}{s:ZT}
theorem iK{lo:ZM}{is js:Z_ Z3}(Kf:X.n_.z<=lo):∀(l:Z_ Z3)(i:Nat)(H:Hp)(xs ys:Z_ V),Inv X a_ σ H s->Made s.heap lo is.toArray js.toArray i l->(∀T,.ref T∈l->fI X a_ H T)->aac xs (is.drop i)->aac ys (js.drop i)->l.length=min xs.length ys.length->
  ∃H' vs,Inv X a_ σ H' s/\aaa H H'/\(∀c,.ref c∉l->H' c=H c)/\abn H' xs ys vs/\aac vs l
 |[],i,H,xs,ys,I,m,f,vx,vy,hl=>by
  refine⟨H,[],I,aaa.refl H,λ_ _=>rfl,?_,.nil⟩;cases xs with
  |nil=>exact rfl
  |cons x xs=>cases ys with
   |nil=>exact rfl
   |cons y ys=>simp at hl
 |v::r,i,H,xs,ys,I,hz,f,vx,vy,hl=>by
  obtain⟨T,x,y,e1,e2,e3,e4,e5,e6,e7⟩:=hz;subst e1;cases xs with
  |nil=>simp at hl
  |cons x' xs=>cases ys with
   |nil=>simp at hl
   |cons y' ys=>
    have hi:i<is.length:=by simpa using(XE.mp e3).1
    have hj:i<js.length:=by simpa using(XE.mp e4).1
    rw[Zx hi]at vx;rw[Zx hj]at vy;cases vx with
    |cons a1 a2=>cases vy with
     |cons b1 b2=>
      have ex:is[i]=x:=by simpa[hi]using e3
      have ey:js[i]=y:=by simpa[hj]using e4
      rw[ex]at a1;rw[ey]at b1;have fT:=f T (ZZ ..);have I1:=I.ab1 (o:=.tup [x',y']) fT (ZF Kf e2) ⟨by show 2<=sizeLine;rw[X0];lia,[x,y],.cons a1 (.cons b1 .nil),⟨_,e5,rfl,_,rfl⟩⟩;have ne:∀T',Value.ref T'∈r->T'≠T:=λT' JF z=>e6 _ JF (by rw[z]);obtain⟨H',vs,i1,i2,i3,i4,i5⟩:=iK Kf r (i+1) (upd H T (.tup [x',y'])) xs ys I1 e7 (λT' JF=>⟨by rw[ai (ne T' JF)];exact(f T' (Z1 _ JF)).1,(f T' (Z1 _ JF)).2⟩) a2 b2 (by simp at hl;lia);have sT:=ax (o:=.tup [x',y']) fT.1;refine⟨H',.ref T::vs,i1,sT.trans i2,λc hc=>?_,⟨T,vs,rfl,i2 T _ ah,i4⟩,.cons rfl i5⟩;rw[i3 c (λz=>hc (Z1 _ z)),ai (λz=>hc (by rw[z];exact ZZ ..))]
variable{t u:Bool}{ta:TA}{p:Pos}
def tLZ(t u:Bool)(K:Z6)(ta:TA):TE:=λσ H Q=>ta σ H λvs H1=>∃p q xs ys,vs=[.ref p,.ref q]/\SqV t K H1 p xs/\SqV u K H1 q ys/\min xs.length ys.length<=sizeLine/\∀S H2,aaa H1 H2->H1 S=M->(∃vs,H2 S=U (.lst vs)/\abn H2 xs ys vs)->Q (.ref S) H2
theorem abn.to(s:∀T xs,H T=U (.tup xs)->H' T=U (.tup xs)):∀{xs ys vs:Z_ V},abn H xs ys vs->abn H' xs ys vs
 |[],ys,vs,h=>by cases ys<;>exact h
 |x::xs,[],vs,h=>h
 |x::xs,y::ys,vs,hz=>by obtain⟨T,r,h1,h2,h3⟩:=hz;exact⟨T,r,h1,s _ _ h2,h3.to s⟩
def qA(hc:X.calm=L)(gl:Gl X "list")(hl:X.mg "list"=M)(gz:Gl X "zip")(hz:X.mg "zip"=M)(ha:PA X [a,b] ta)(hs:starEach [a,b] X.env=[(Y,eval a X.env),(Y,eval b X.env)]:=by rfl)(IW:starEach [b] X.env=[(Y,eval b X.env)]:=by rfl)
  (NY:starEach [.Call (.Name "zip" p2) [a,b] [] IM] X.env=[(Y,eval (.Call (.Name "zip" p2) [a,b] [] IM) X.env)]:=by rfl):
  PE X (.Call (.Name "list" p) [.Call (.Name "zip" p2) [a,b] [] IM] [] pos) (tLZ t u X.K ta):=by
 intro a_ s σ H Q I h;refine XI (dT I gl hl pj (Yw ?_ NY (by rfl)) (by decide) (by decide));rw[NY];show wpAny _ _ (spliced ((Y,eval (.Call (.Name "zip" p2) [a,b] [] IM) X.env)::backTo pos (starEach [] X.env))) _ _ s;refine Calls.spliced_cons (XI (dT I gz hz boot_zip (Yw (thn (ha IM a_ s σ H _ I h) λus s1 ⟨vs,H1,I1,r1,q1⟩=>?_) (by rw[hs,IW]) (by rw[IW];rfl)) (by decide) (by decide)));obtain⟨l1,l2,xs,ys,e,h1,h2,hm,q⟩:=q1;subst e;cases r1 with
 |cons r rr=>
  cases rr with
  |cons r' rr=>
   cases rr;cases r;cases r';obtain⟨is,ri,sp⟩:=I1.abB h1;obtain⟨js,rj,sq⟩:=I1.abB h2;refine oz sp sq λz P O c d h' ap Z hi k=>Calls.spliced_nil ?_;have up1:aay t h' l1 is.toArray:=sp.to λo e=>k _ o e;have T1:aay u h' l2 js.toArray:=sq.to λo e=>k _ o e;have hsz:s1.z<=h'.objs.size:=ZF (hi z (by simp)) (WM (ZV Z.zz));refine jP (s:={s1 with heap:=h'}) (I1.ok.hd hc) ap (by rw[ZW,ZW,<-ri.length,<-rj.length];exact hm) (lo:=s1.z) hi hsz Z up1 T1 λh2 tk acc e' k1 k2 k3 k4=>?_;have kk:∀b o,s1.heap.get? b=U o->h2.get? b=U o:=λb o e=>k1 b o (λhm=>absurd (Zz (ZV e) (hi b hm)) (Zc _)) (k b o e);have I2:Inv X a_ σ H1 {s1 with heap:=h2,toks:=tk}:=I1.kept kk;have nw:∀T,s1.z<=T->fI X a_ H1 T:=λT hT=>I1.abl hT (I1.hok.fresh hT);obtain⟨H3,vs,i1,i2,i3,i4,i5⟩:=iK (lo:=s1.z) (is:=is) (js:=js) (X:=X) I1.sz acc.toList 0 H1 xs ys I2 k4 (λT hT=>by
    obtain⟨T',e,_,lo⟩:=k4.lt _ hT;cases e;exact nw T lo) (by simpa using ri) (by simpa using rj) (by rw[Array.length_toList,k3,ZW,ZW,<-ri.length,<-rj.length])
   have fS:=nw h'.objs.size hsz;have nS:Value.ref h'.objs.size∉acc.toList:=λhm=>by
    have key:∀(l:Z_ Z3)(i:Nat),Made h2 s1.z is.toArray js.toArray i l->∀T,.ref T∈l->∃x y,IsPair h2 T x y:=by
     intro l
     induction l with
     |nil=>intro i _ T hT;trivial
     |cons v l ih=>
      rintro i ⟨T',x,y,e1,e2,e3,e4,e5,e6,e7⟩ T hT
      rcases Z0.mp hT with e|hT;rw[e1]at e;cases e;exact⟨x,y,e5⟩;exact ih _ e7 T hT
    obtain⟨x,y,g⟩:=key _ _ k4 _ hm;have g':=Eq.trans (Eq.symm (show h2.get? h'.objs.size=_ from k2)) g;have g2:=congrArg (λo:Z9 Obj=>o.map (·.cls)) g';simp at g2
   have MI:H3 h'.objs.size=M:=by rw[i3 _ nS];exact fS.1
   have lv:=i5.length;have I4:=i1.ab1 (a:=h'.objs.size) (o:=.lst vs) ⟨MI,fS.2⟩ (ZF I1.sz hsz) ⟨by rw[lv,Array.length_toList,k3,ZW,ZW,<-ri.length,<-rj.length];exact hm,acc.toList,e',i5,by simpa using k2⟩;have s4:=ax (o:=.lst vs) MI;exact⟨.ref h'.objs.size,_,I4,rfl,q _ _ (i2.trans s4) fS.1 ⟨vs,ah,i4.to λT xs e=>s4 T _ e⟩⟩
end
section
variable{X:Cx}{t u:Bool}
def l6(t u:Bool)(x y:Z9 D):Z9 D:=match zZ t u x y with|some ds=>if ds.length<=lim then U (.lst ds) else M|none=>M
theorem abn.acF{K:Z6}{B:ZM->Prop}{H:Hp}:∀{ds es:Z_ D}{xs ys vs:Z_ V},M1 K B H ds xs->M1 K B H es ys->abn H xs ys vs->M1 K B H (cC ds es) vs
 |[],es,xs,ys,vs,r1,r2,h=>by
  simp only[M1]at r1;subst r1;cases ys<;>(rw[show vs=[] from h];exact M1.nil)
 |d::ds,[],xs,ys,vs,r1,r2,h=>by
  simp only[M1]at r1 r2;obtain⟨x,r,rfl,_⟩:=r1;subst r2;rw[show vs=[] from h];exact M1.nil
 |d::ds,e::es,xs,ys,vs,r1,r2,h=>by
  simp only[M1]at r1 r2;obtain⟨x,r,rfl,q1,q2⟩:=r1;obtain⟨y,r',rfl,q3,q4⟩:=r2;obtain⟨T,w,rfl,hT,z⟩:=h;exact M1.cons (by simp only[Rep];exact⟨T,[x,y],rfl,hT,M1.cons q1 (M1.cons q3 M1.nil)⟩) (abn.acF q2 q4 z)
theorem qD(t u:Bool)(hc:X.calm=L)(gl:Gl X "list")(hl:X.mg "list"=M)(gz:Gl X "zip")(hz:X.mg "zip"=M)(h:DE X Y a fa)(h':DE X Y b fb)(hs:starEach [a,b] X.env=[(Y,eval a X.env),(Y,eval b X.env)]:=by rfl)(IW:starEach [b] X.env=[(Y,eval b X.env)]:=by rfl)(NY:starEach [.Call (.Name "zip" p2) [a,b] [] IM] X.env=[(Y,eval (.Call (.Name "zip" p2) [a,b] [] IM) X.env)]:=by rfl):
  DF X (.Call (.Name "list" p) [.Call (.Name "zip" p2) [a,b] [] IM] [] pos) (λO=>l6 t u (fa O) (fb O)):=
 (qA (t:=t) (u:=u) hc gl hl gz hz (aw h (aw h' aK IW) (by rw[hs,IW])) hs IW NY).imp λZ H Q hz=>by
  obtain⟨B,Hk,O,d,R,e,k⟩:=hz;dsimp only at e;unfold l6 at e;split at e
  .rename_i ds e0
   split at e
   .rename_i H_
    obtain rfl:=Z7 e;obtain⟨as,q1,e⟩:=ak e0;obtain⟨bs,q2,e⟩:=ak e;obtain rfl:=Z7 e;obtain⟨d1,e1⟩:∃d,fa O=U d:=by
     cases q:fa O with
     |none=>rw[q]at q1;cases t<;>trivial
     |some d=>exact⟨d,rfl⟩
    obtain⟨d2,e2⟩:∃d,fb O=U d:=by
     cases q:fb O with
     |none=>rw[q]at q2;cases u<;>trivial
     |some d=>exact⟨d,rfl⟩
    refine two R e1 e2 λv w H' s R' r1 r2=>?_;obtain⟨l1,xs,rfl,O3,O0⟩:=fR q1 e1 r1;obtain⟨l2,ys,rfl,Lb,OZ⟩:=fR q2 e2 r2;refine⟨l1,l2,xs,ys,rfl,O0 _ Ext.refl,OZ _ Ext.refl,?_,λS H2 s2 hS ⟨vs,UN,zv⟩=>?_⟩;rw[gE,O3.length,Lb.length]at H_;exact aD H_;exact k S H2 (s.trans s2) (s.free hS) ⟨vs,UN,abn.acF (O3.same (m:=Y) R' s2) (Lb.same (m:=Y) R' s2) zv⟩
   trivial
  trivial
end
def kG:Expr->Z9 D
 |.Constant (.int i) _ _=>U (.int i)
 |.Constant (.str x) _ _=>U (.str x)
 |.Constant .none _ _=>U .non
 |_=>M
section
def wV(h:kG e=U d):DE X m e (λ_=>U d):=by
 unfold kG at h;split at h;obtain rfl:=Z7 h;exact kI;obtain rfl:=Z7 h;exact yG;obtain rfl:=Z7 h;exact oF;trivial
def qE(h:kG e=U d):starEach (e::es) env=(Y,eval e env)::starEach es env:=by
 unfold kG at h;split at h;rfl;rfl;rfl;trivial
theorem lE:∀{es:Z_ Expr}{ds:Z_ D},es.map kG=ds.map U->DA X m es (λ_=>U ds)
 |[],[],_=>gW
 |[],_::_,h=>by simp at h
 |_::_,[],h=>by simp at h
 |e::es,d::ds,h=>by
  rw[Z2,Z2,Yj]at h;exact cz (wV h.1) (lE h.2) (qE h.1)
end
def leT(a b:Str):Bool:=!decide (b.cps.toList<a.cps.toList)
def cN(a b c:Str)(h1:leT a b=L)(h2:leT b c=L):leT a c=L:=by
 unfold leT at*;simp only[Yu,Xu]at*;exact List.le_trans h1 h2
def d8(a b:Str):(leT a b||leT b a)=L:=by
 unfold leT;by_cases h:b.cps.toList<a.cps.toList;have:¬a.cps.toList<b.cps.toList:=λh'=>absurd (List.lt_trans h h') (List.lt_irrefl _);simp[this];simp[h]
def o8(a b:Str)(h1:leT a b=L)(h2:leT b a=L):a=b:=by
 unfold leT at*;simp only[Yu,Xu]at*;exact Str.ext' (Array.toList_inj.mp (List.le_antisymm h1 h2))
def fw(ss:Z_ Str):Z_ Str:=ss.mergeSort leT
def bu(ss:Z_ Str):(fw ss).Perm ss:=List.mergeSort_perm ss leT
theorem gu:∀(l:Z_ Str)(p:Str),risingS p l=L->(p::l).Pairwise (λa b=>leT a b=L)
 |[],p,_=>by simp
 |x::r,p,h=>by
  have h':(!ltCps x.cps.toList p.cps.toList&&risingS x r)=L:=h;rw[ZH,ltCps_eq]at h';have ih:=gu r x h'.2;refine Yd.mpr ⟨λy hy=>?_,ih⟩;rcases Z0.mp hy with rfl|hy;exact h'.1;exact cN _ _ _ h'.1 ((Yd.mp ih).1 y hy)
def nu:∀(l:Z_ Str),sortedS l=L->l.Pairwise (λa b=>leT a b=L)
 |[],_=>.nil
 |x::r,h=>gu r x h
def uu(hp:Mt.Perm ss)(hs:sortedS Mt=L):Mt=fw ss:=
 List.Perm.eq_of_pairwise (le:=λa b=>leT a b=L) (λa b _ _ h1 h2=>o8 a b h1 h2) (nu _ hs) (Xs cN d8 ss) (hp.trans (bu ss).symm)
def iU(hp:Mt.Perm ss):fw Mt=fw ss:=
 List.Perm.eq_of_pairwise (le:=λa b=>leT a b=L) (λa b _ _ h1 h2=>o8 a b h1 h2) (Xs cN d8 Mt) (Xs cN d8 ss) ((bu Mt).trans (hp.trans (bu ss).symm))
theorem eI:∀{ss:Z_ Str}{us:Z_ Z3},StrsAre us ss->aac (ss.map V.str) us
 |_,_,.nil=>.nil
 |_,_,.cons x t h=>.cons ⟨t,rfl⟩ (eI h)
theorem kN{K:Z6}{B:ZM->Prop}{H:Hp}:∀ss:Z_ Str,M1 K B H (ss.map D.str) (ss.map V.str)
 |[]=>M1.nil
 |x::ss=>M1.cons (by simp only[Rep]) (kN ss)
section
variable{X:Cx}
def kj(I:Inv X a_ O H s)(k1:∀b o,s.heap.get? b=U o->h1.get? b=U o)(hsz:s.z<=h1.objs.size)(v:StrsAre us ss)(LL:us.length<64)(q:∀l,H l=M->Q (.ref l) (upd H l (.lst ((fw ss).map V.str)))):
  wpAny (model X.prog X.w) X.A.in1 (do
   let l <-newList us
   let _ <-holding [l] (call (.builtin "list.sort") [l] [])
   ret l) (λfin s'=>∃w,fin=.done (.ret w)/\EP X a_ O Q w s') X.xe {s with heap:=h1,toks:=t1}:=by
 have hz:us.length<=sizeLine:=by rw[X0];lia
 refine Z8 (WD ?_ hz);have g0:(h1.push (seqObj "list" us.toArray 0)).get? h1.objs.size=U (seqObj "list" us.toArray 0):=ZN _ rfl;have k2:∀b o,s.heap.get? b=U o->b≠h1.objs.size/\b<(h1.push (seqObj "list" us.toArray 0)).objs.size/\(h1.push (seqObj "list" us.toArray 0)).get? b=U o:=λb o e=>
  ⟨Zs (ZV (k1 b o e)),ZV (Z5 _ (k1 b o e)),Z5 _ (k1 b o e)⟩
 refine Z8 (Za (Y2 slot_list_sort ⟨_,g0,rfl⟩ entry_list_sort ?_ (args_list_sort _)));refine list_sort_treeK (s:={s with heap:=h1.push (seqObj "list" us.toArray 0),toks:=t1}) strKind_oneLt g0 v.keysOf (λv₁ v₂ aq e=>keyKind_strs (by rw[<-e];exact v)) LL λg_ hp hs=>?_;obtain⟨Mt,a1,a2,a3⟩:=sorted_out_str v hp hs;have e:=uu a2 a3;subst e;obtain⟨c,hc⟩:=sortedHeap_at (vs:=us) (out:=(arrOf g_).map (·.2)) g0;have JW:H h1.objs.size=M:=I.hok.fresh hsz;have hl:((fw ss).map V.str).length<=sizeLine:=by
  have h1:=eI a1;have h2:=a2.length_eq;have h3:=(eI v).length;rw[ZJ]at h3⊢;lia
 refine⟨_,rfl,Z4 ⟨_,rfl,.ref h1.objs.size,_,I.laid (a:=h1.objs.size) (o:=.lst ((fw ss).map V.str)) (h':=sortedHeap (h1.push (seqObj "list" us.toArray 0)) h1.objs.size us ((arrOf g_).map (·.2))) (t':=t1) (λb o e=>(sortedHeap_old (k2 b o e).1 (k2 b o e).2.1).trans (k2 b o e).2.2) hsz ?_,rfl,q _ JW⟩⟩;exact⟨hl,_,c,eI a1,by rw[Array.toArray_toList];exact hc⟩
theorem DQ:∀ts:Z_ (Str×Tok),StrsAre (ts.map λp=>.str p.1 p.2) (ts.map (·.1))
 |[]=>.nil
 |p::ts=>.cons p.1 p.2 (DQ ts)
def j4(hc:X.calm=L):fx X (.builtin "sorted") (λxs H Q=>∃S us,xs=[.ref S]/\H S=U (wv X.w S us)/\us.length<64/\∀l,H l=M->Q (.ref l) (upd H l (.lst ((fw us).map V.str)))):=by
 intro a_ s O H xs us Q I r h;obtain⟨S,ss,rfl,hS,LL,q⟩:=h;obtain⟨u,rfl,rx⟩:=hZ r;cases rx;obtain⟨⟨IT,p1,o,ep,t,ho,hex,hd,hf,Jo,hpl⟩,_,_⟩:=I.hok S _ hS;have Kv:=p1.length_eq;rw[ZJ]at Kv;have st:aaC s.heap S (IT.map (tE X.w)) ep t:=⟨⟨o,ho,hex,hd⟩,by simpa using hf⟩
 refine Calls.call_function_entry kind_sorted plain_sorted entry_sorted (args_sorted1 _) ?_;unfold Builtin.«sorted»;refine Z8 (m:=checkCount "sorted" 1 1 _) (Z4 (Z8 (nV (by simp[I.ok.hd hc]) st Jo (hpl.imp (λh=>by simp[h]) id) (by rw[ZJ];lia) λvs h' d tk hp JT hsz=>?_)));rw[XS]at hp;obtain⟨NJ,p2,rfl⟩:=c4 (λp:Str×Tok=>Value.str p.1 p.2) hp IT rfl;have Pl:=p2.length_eq;refine kj (s:={s with drawn:=d}) (t1:=tk) (I.drawn d) JT hsz (DQ NJ) (by rw[ZJ];lia) λl IQ=>?_;rw[iU ((p2.map (·.1)).trans p1)];exact q l IQ
noncomputable def cX(x:Z9 D):Z9 D:=match x with
 |some (.lst ds)=>(match dj ds with|some ss=>if ss.length<64 then U (.lst ((fw (uS ss)).map D.str)) else M|none=>M)
 |_=>M
theorem fY{K:Z6}{B:ZM->Prop}{H:Hp}:∀{ss:Z_ Str}{ys:Z_ V},M1 K B H (ss.map D.str) ys->ys=ss.map V.str
 |[],ys,r=>r
 |x::ss,ys,r=>by
  obtain⟨y,rr,rfl,r1,r2⟩:=r;simp only[Rep]at r1;rw[r1,fY r2];rfl
set_option tactic.hygienic true in
theorem jm(hc:X.calm=L)(g:Gl X "sorted")(hm:X.mg "sorted"=M)(g2:Gl X "set")(N1:X.mg "set"=M)(ha:DE X Y a fa)(hs:starEach [a] X.env=[(Y,eval a X.env)]:=by rfl)
  (IW:starEach [.Call (.Name "set" p2) [a] [] IM] X.env=[(Y,eval (.Call (.Name "set" p2) [a] [] IM) X.env)]:=by rfl):
  DF X (.Call (.Name "sorted" p) [.Call (.Name "set" p2) [a] [] IM] [] pos) (λq=>cX (fa q)):=
 (c7 (j4 hc) g hm gJ (aw (cV (uk hc) g2 N1 BP (aw ha aK hs) (he:=hs)) aK IW) (he:=IW)).imp λO H Q hz=>by
  obtain⟨B,Hk,q,d,R,e,k⟩:=hz;unfold cX at e;dsimp only at e;split at e;rename_i ds qd;split at e;rename_i us qu;cases eV qu;by_cases cc:us.length<64;rw[ZR cc]at e;obtain rfl:=Z7 e;simp only[tCB,ql,ab2];refine⟨B,Hk,q,_,R,qd,λv H' s r=>?_⟩;have R':=R.to s;simp only[Rep]at r;obtain⟨l,xs,rfl,hq,rs⟩:=r;cases fY rs;refine⟨l,us,rfl,hq.sq,cc,λS ss hS U3 Lj hlen=>?_⟩;have s2:=ax (o:=wv X.w S ss) hS;refine⟨S,ss,rfl,ah,by lia,λl' IQ=>?_⟩;rw[iU ((W8 U3 (eD us)).mpr λx=>(Lj x).trans (iW x us).symm)];have s3:=ax (o:=.lst ((fw (uS us)).map V.str)) IQ;exact k l' _ (s.trans (s2.trans s3)) (s.free (s2.free IQ)) ⟨_,ah,kN _⟩;rw[ZK cc]at e;trivial;trivial;trivial
end
open PySem.StrLaws
def sU(ss:Z_ Str):Z_ D:=(fw (uS ss)).map D.str
def lU(hu:ss.length<64):cX (U (.lst (ss.map D.str)))=U (.lst (sU ss)):=by
 unfold cX sU;simp only[kO,ZR hu]
def aM(x y:Str):eqO (U (.str x)) (U (.str y))=U (decide (x=y)):=by
 rw[lf _ _ rfl];congr 1;simp
def ifV{q:Type}(c:Z9 Bool)(x y:Z9 q):Z9 q:=match c with|some true=>x|some false=>y|none=>M
def F5(x y:Z9 D):Z9 D:=match tyB x with|some true=>y|some false=>U (.bl Y)|none=>M
def neX(x:Z9 (D×Mk))(fb:Mk->Z9 D):Z9 (Bool×Mk):=af x λp=>match neO (U p.1) (fb p.2)with|some c=>U (c,p.2)|none=>M
section
variable{X:Cx}{m mm:Bool}{a b c:Expr}{aq:Z_ Expr}{fa fb:Mk->Z9 D}{fc:Mk->Z9 Bool}{pos:Pos}
theorem AF(ha:DE X m a fa)(hb:DE X mm (.BoolOp .And (b::aq) pos) fb):DE X mm (.BoolOp .And (a::b::aq) pos) (λq=>F5 (fa q) (fb q)):=CP ha hb
theorem Ac(hu:X.A.units+64<cLine)(ha:DX X a ga)(hb:DE X Y b fb)(hm:behindInMarks .NotEq b=Y:=by rfl):DTX X (.Compare a [.NotEq] [b] pos) (λq=>neX (ga q) fb):=B3 hu ha hb hm
end
theorem AW(ha:DE X mm a fa):DE X mm (.BoolOp op [a] pos) fa:=CL ha rfl
noncomputable def fK(O:D->Mk->Z9 Mk)(fc:Mk->Z9 Bool):Z_ D->Mk->Z9 Out
 |[],q=>U (.next q)
 |d::ds,q=>af (O d q) λq_=>match fc q_ with|some true=>U (.ret .non Y)|some false=>fK O fc ds q_|none=>M
noncomputable def gR(q:D->Mk->Z9 Mk)(fc:Mk->Z9 Bool)(x:Z9 (Z_ D))(O:Mk):Z9 Out:=match x with|some ds=>if D.aaB ds=L then fK q fc ds O else M|none=>M
def tu{ds:Z_ D}{i:Nat}{d:D}(h:D.aaB ds=L)(e:ds[i]?=U d):d.flat=L:=by
 rw[D.aaH]at h;exact ZO.mp h d (Zf e)
section
variable{X:Cx}
theorem sG(hp:PassesOwn (model X.prog X.w) X.A X.env X.xe)(hc:X.calm=L)(hi:DI X L tg iter fi)(hg:DG X tg O)(ht:DT X c fc)(hs:∀x,foldedSetIterable iter X.env x=pure x:=by intro _;rfl):
  DS X (.For tg iter [.If c [.Return (U (.Constant .none j p3)) p2] [] p1] [] pos) (λq=>gR O fc (fi q) q):=
 (oO hp hc hi hg (dJ (vt ht (dJ (iZ (oF (m:=Y) (j:=j) (pos:=p3)))) jf)) hs).imp λDn Z H hz=>by
  obtain⟨B,Hk,q,o,R,e,k⟩:=hz;unfold gR at e;dsimp only at e;split at e;rename_i ds e1;by_cases hf:D.aaB ds=L;rw[ZR hf]at e;refine⟨B,Hk,q,ds,R,e1,λJ H1 s1 it=>?_⟩;have R1:=R.to s1;refine⟨λi n i_ H'=>n=ds.length - i/\i<=ds.length/\aaa H1 H'/\∃h_,Rel X.K B Hk h_ i_ H'/\fK O fc (ds.drop i) h_=U o,⟨ds.length,by simp,Zo _,aaa.refl _,q,R1,e⟩,?_⟩
  rintro i n i_ H' ⟨rfl,hi,x,h_,R',e'⟩
  obtain⟨JC,MC⟩:=it H' (x.ext (R1.bsH L));have xx:Ext B H H':=(R.ext s1).trans (R1.ext x);by_cases ka:i<ds.length;obtain⟨go,yl⟩:=MC i ds[i] (by simp[ka]);refine .inr ⟨go,λIK H2=>aaa H1 H2/\∃Ng,Rel X.K B Hk Ng IK H2/\fK O fc (ds.drop (i+1)) Ng=U o,λIK H2 z=>⟨_,by lia,rfl,ka,z⟩,λv H2 hy=>?_⟩;obtain⟨sy,rv⟩:=yl v H2 hy;have R2:=R'.to sy;rw[Zx ka]at e';simp only[fK]at e';obtain⟨q_,q1,q2⟩:=ak e';refine⟨B,Hk,h_,ds[i],q_,R2,rv.flat (tu (i:=i) hf (by simp[ka])),q1,λJh R3=>?_⟩;split at q2;rename_i qc;obtain rfl:=Z7 q2;refine⟨B,Hk,q_,L,R3,qc,λH3 s3=>wX ⟨B,Hk,q_,.non,R3.to s3,rfl,λv4 H4 s4 r4=>?_⟩⟩;have x4:=(xx.trans (R'.ext sy)).trans (R3.ext (s3.trans s4));exact k v4 H4 x4 ((R3.to (s3.trans s4)).same) (by unfold nh;rw[ZK Zr];exact r4);rename_i qc;exact⟨B,Hk,q_,Y,R3,qc,λH3 s3=>vL ⟨x.trans (sy.trans s3),q_,R3.to s3,q2⟩⟩;trivial;have o_:i=ds.length:=by lia
  subst o_;rw[Xj]at e';simp only[fK]at e';obtain rfl:=Z7 e';exact .inl ⟨JC,k i_ H' xx R'⟩;rw[ZK hf]at e;trivial;trivial
end
section
variable{K:Z6}{B:ZM->Prop}{Hk H H' H1:Hp}
def aa4(K:Z6)(B:ZM->Prop)(Hk H:Hp)(ds:Z_ D)(v:V):Prop:=∃a xs,v=.ref a/\Hk a=M/\H a=U (.lst xs)/\aal K B Hk H ds xs/\(V.ref a::xs).Nodup
def abi.old(s:aaa Hk H1)(h:abi K B H1 H d v):abi K B Hk H d v:=by
 cases d with
 |lst es=>obtain⟨b,xs,h1,h2,h3,h4⟩:=h;exact⟨b,xs,h1,s.free h2,h3,h4⟩
 |_=>exact h
theorem aal.old(s:aaa Hk H1):∀{ds:Z_ D}{vs:Z_ V},aal K B H1 H ds vs->aal K B Hk H ds vs
 |[],vs,h=>h
 |d::ds,vs,h=>by obtain⟨y,r,e,h1,h2⟩:=h;exact⟨y,r,e,h1.old s,aal.old s h2⟩
theorem aa4.old(s:aaa Hk H1)(h:aa4 K B H1 H ds v):aa4 K B Hk H ds v:=by
 obtain⟨a,xs,h1,h2,h3,h4,h5⟩:=h;exact⟨a,xs,h1,s.free h2,h3,h4.old s,h5⟩
theorem aa4.ext(h:aa4 K B Hk H ds v)(s:aaa H H')(x:Ext B H H'):aa4 K B Hk H' ds v:=by
 obtain⟨a,xs,h1,h2,h3,h4,h5⟩:=h;exact⟨a,xs,h1,h2,s _ _ h3,h4.ext s x,h5⟩
theorem aa4.view(h:aa4 K B H1 H ds v):Rep K (BN B H1 H) H (.lst ds) v:=by
 obtain⟨a,xs,h1,h2,h3,h4,h5⟩:=h;simp only[Rep];exact⟨a,xs,h1,.inl ⟨.inr ⟨h2,xs,h3⟩,h3⟩,h4.view⟩
theorem aal.upd(x:Ext B H (upd H p o)):∀{ds:Z_ D}{vs:Z_ V},aal K B Hk H ds vs->V.ref p∉vs->aal K B Hk (upd H p o) ds vs
 |[],vs,h,_=>h
 |d::ds,vs,h,n=>by
  obtain⟨y,r,rfl,h1,h2⟩:=h;refine⟨y,r,rfl,?_,aal.upd x h2 λz=>n (.tail _ z)⟩;cases d with
  |lst es=>
   obtain⟨b,xs,rfl,n1,n2,n3⟩:=h1;exact⟨b,xs,rfl,n1,by rw[ai (λz=>n (by subst z;exact .head _))];exact n2,n3.ext x⟩
  |_=>exact Rep.ext x h1
theorem aal.app:∀{ds es:Z_ D}{vs us:Z_ V},aal K B Hk H ds vs->aal K B Hk H es us->aal K B Hk H (ds++es) (vs++us)
 |[],es,vs,us,h,h'=>by rw[show vs=[] from h];exact h'
 |d::ds,es,vs,us,h,h'=>by obtain⟨y,r,rfl,h1,h2⟩:=h;exact⟨y,r++us,rfl,h1,aal.app h2 h'⟩
end
def spN(K:Z6)(f:Z_ D->Z9 (D×Bool)):Sp:=λvs H Q _=>∃B ds r fr,(∀a,B a->∃o:HOn,H a=U o.1)/\M1 K B H ds vs/\f ds=U (.lst r,fr)/\∀v H',aaa H H'->aa4 K B H H' r v->Q v H'
structure FnN (P:Y5)(w:YV)(K:Z6)(mg:Str->Z9 Z3)(base:Heap)(k:Nat)(x:Str)(f:List D->Z9 (D×Bool)):Prop where
 ex:∃(p:ZM)(fd:FuncData)(ps:List Str),aa9 P w K mg base CX0 k p fd ps (spN K f)/\mg x=some (.ref p)/\W.keepIn K (.ref p)=true/\Binds K fd ps []
def tU(K:Z6)(f:Mk->Z9 D):TE:=λO H Q=>∃B Hk q r,Rel K B Hk q O H/\f q=U (.lst r)/\∀v H1 H',aaa H H1->aaa H1 H'->aa4 K B H1 H' r v->Q v H'
abbrev DU(X:Cx)(e:Expr)(f:Mk->Z9 D):Prop:=PE X e (tU X.K f)
def tUs(K:Z6)(g:Mk->Z9 Out):TS:=λDn O H=>∃B Hk q r fr,Rel K B Hk q O H/\g q=U (.ret (.lst r) fr)/\∀v H',Ext B H H'->aaa Hk H'->aa4 K B Hk H' r v->Dn.rt v H'
abbrev DUs(X:Cx)(Ms:Z_ Stmt)(g:Mk->Z9 Out):Prop:=PSs X Ms (tUs X.K g)
section
variable{X:Cx}{e:Expr}{es:Z_ Expr}{st:Stmt}{aq:Z_ Stmt}{g1 g2:Mk->Z9 Out}{pos p j_:Pos}{k:Nat}{y:Str}{f:Z_ D->Z9 (D×Bool)}{fs:Mk->Z9 (Z_ D)}{fe:Mk->Z9 D}
theorem Dl(h:DU X e fe):DUs X [.Return (U e) pos] (λO=>dH (fe O)):=
 (dJ (iZ h)).imp λDn Z H hz=>by
  obtain⟨B,Hk,O,r,fr,R,e,kk⟩:=hz;cases q:fe O with
  |none=>simp only[q,dH]at e;trivial
  |some d=>
   simp only[q,dH,ZL,Out.ret.injEq]at e;obtain⟨rfl,rfl⟩:=e;exact⟨B,Hk,O,r,R,q,λv H1 H' s1 s2 rr=>kk v H' (R.ext (s1.trans s2)) (R.same.trans (s1.trans s2)) (rr.old (R.same.trans s1))⟩
theorem zS(h1:DS X st g1)(h2:DUs X aq g2)(hn:∀O o,g1 O=U o->∃h_,o=.next h_):DUs X (st::aq) (λO=>aC (g1 O) g2):=
 (aS h1 h2).imp λDn Z H hz=>by
  obtain⟨B,Hk,O,r,fr,R,e,kk⟩:=hz;cases q:g1 O with
  |none=>simp only[q,aC]at e;trivial
  |some o1=>
   obtain⟨q_,rfl⟩:=hn O o1 q;simp only[q,aC]at e;exact⟨B,Hk,O,_,R,q,λi_ H' x R'=>⟨B,Hk,q_,r,fr,R',e,λv H2 x2 s2 rr=>kk v H2 (x.trans x2) s2 rr⟩⟩
theorem zV(F:FnN X.prog X.w X.K X.mg X.base k y f)(hr:aaq k X.A)(g:Gb X y)(ha:DA X Y (e::es) fs)(he:starEach (e::es) X.env=(Y,eval e X.env)::starEach es X.env:=by rfl)(hpl:(backTo pos (starEach es X.env)).any (·.1)=Y:=by rfl):
  DU X (.Call (.Name y p) (e::es) [] pos) (λO=>frO (af (fs O) f)):=by
 obtain⟨q,fd,ps,h1,h2,h3,h4⟩:=F.ex;refine(sQ (ds:=[]) (dvs:=[]) h1 hr g.gl h2 h3 h4 .nil CI ha g.d1 he hpl).imp λZ H Q hz=>?_;obtain⟨B,Hk,O,r,R,e,kk⟩:=hz;cases q:af (fs O) f with
 |none=>simp only[q,frO]at e;trivial
 |some p=>
  obtain⟨d',fr⟩:=p;obtain⟨ds,e1,e2⟩:=ak q;have hd:d'=.lst r:=by
   cases fr with
   |false=>cases d'<;>simp only[q,frO]at e<;>trivial
   |true=>cases d'<;>simp only[q,frO]at e<;>first|trivial|exact Z7 e
  subst hd;refine⟨B,Hk,O,ds,R,e1,λvs H1 s1 rs=>?_⟩;show spN X.K f (vs++[]) H1 Q E0;rw[Y3];exact⟨B,ds,r,fr,(R.to s1).abm,rs,e2,λv H' s2 rr=>kk v H1 H' s1 s2 rr⟩
end
section
variable{P:Y5}{w:YV}{K:Z6}{mg:Str->Z9 Z3}{base:Heap}
def Du{x qual:Str}{st:Stmt}{f:ZM}{fd:FuncData}{N ps:Z_ Str}{k:Nat}{g:Mk->Z9 Out}(F:Fun K x qual st f fd)(S:aaw N ps (defScope st))(hb:Binds K fd ps [])(hm:mg x=U (.ref f))(hn:ps.length<=N.length)
  (body:∀(A:Y9)(outer:Z_ Env)(s:ZT)(H:Hp)(E:XK),aaq k (A.deeper (envOfC qual (defScope st) s.z f fd.code))->DUs (pF CX0 P w K mg base N qual (defScope st) f fd.code A outer s H E).nox (defBody st) g):
  FnN P w K mg base (k+1) x (bE N.length ps.length g):=by
 refine⟨f,fd,ps,?_,hm,F.kp,hb⟩;refine F.ok S (λvs H Q E h=>?_) (λA outer s H vs Q E hr h=>?_);obtain⟨B,ds,r,fr,_,hr,hf,_⟩:=h;unfold bE at hf;by_cases q:ds.length=ps.length;rw[<-hr.length,q];rw[ZK q]at hf;trivial
 .obtain⟨B,ds,r,fr,hB,r_,hf,kk⟩:=h
  refine⟨_,body A outer s H E hr,?_⟩;unfold bE at hf;by_cases q:ds.length=ps.length
  .rw[ZR q]at hf
   have R:Rel K B H (cE N.length ds) (cr N vs) H:=hJ hB r_ (by lia);refine⟨B,H,cE N.length ds,r,fr,R,?_,λv H' x s rr=>kk v H' s rr⟩;cases qo:g (cE N.length ds)with
   |none=>rw[qo]at hf;trivial
   |some o=>
    rw[qo]at hf;cases o with
    |ret d V3=>
     simp only[qL,ZL,Xy]at hf;obtain⟨rfl,rfl⟩:=hf;rfl
    |next O=>simp only[qL,ZL,Xy]at hf;cases hf.1
    |brk O=>simp only[qL]at hf;trivial
    |cont O=>simp only[qL]at hf;trivial
  rw[ZK q]at hf;trivial
end
def yr(h:H b≠M):upd H p o b≠M:=by
 by_cases q:b=p;subst q;rw[ah];exact nofun;rw[ai q];exact h
section
variable{X:Cx}{elt tg iter:Expr}{scope:Scope}{pos:Pos}{fi:Mk->Z9 (Z_ D)}{τ:D->Mk->Z9 Mk}{fe:Mk->Z9 D}{bs:Z_ Bool}
def rE{K:Z6}{Z:St}{H:Hp}{Q:VK}(JB:aa5 τ)(hl:bs.length=Z.length)(QA:∀O d,fe O=U d->∃es,d=.lst es){B:ZM->Prop}{Hk:Hp}{O:Mk}{ds ls:Z_ D}(R:Rel K B Hk O Z H)(e1:fi O=U ds)(e2:bR Y bs τ (λ_=>U L) fe O ds=U ls)
  (k:∀v H1 H',aaa H H1->aaa H1 H'->aa4 K B H1 H' ls v->Q v H'):qh (tI K Y fi) bs (tG K τ) (tMT K λ_=>U L) (tF K fe) Z H Q:=by
 refine oG (J:=λH3 H4 y v=>∃a,v=.ref a/\H3 a=M/\ObR K B H4 y a/\∃es,y=.lst es) (Js:=λH1 acc H l ys=>aal K B H1 H l ys/\(V.ref acc::ys).Nodup/\∀v∈ys,∃b,v=V.ref b/\H b≠M) JB hl R e1 e2 (λH1 q_ Jh H3 y R3 qe Q kk=>⟨_,H1,q_,y,R3,qe,λa H4 s4 n4 ob=>kk _ H4 s4 ⟨a,rfl,n4,ob,QA _ _ qe⟩⟩) (λ_ _ _=>⟨rfl,by simp,λv z=>absurd z Zt⟩) (λr s x=>⟨r.1.ext s x,r.2.1,λv z=>by obtain⟨b,e,q⟩:=r.2.2 v z;exact⟨b,e,λw=>q (s.free w)⟩⟩) (λ{H1 acc H3 H4 l ys y v} s ha r3 r r4 x=>?_)
  λH1 a H' s1 s2 n hz=>by obtain⟨xs,h1,h2,h3,_⟩:=hz;exact k _ H1 H' s1 s2 ⟨a,xs,rfl,n,h1,h2,h3⟩
 obtain⟨a4,rfl,n4,ob,es,rfl⟩:=r4;obtain⟨zs,z1,z2⟩:=ob;have Nr:(V.ref acc::(ys++[.ref a4])).Nodup:=by
  rw[<-List.cons_append,Yk];refine⟨r.2.1,by simp,λu hu v hv e=>?_⟩;rw[ZG.mp hv]at e;subst e;rcases Z0.mp hu with z|z;cases z;rw[ha]at n4;trivial;obtain⟨b,e,q⟩:=r3.2.2 _ z;cases e;exact q n4
 exact⟨aal.upd x (r.1.app ⟨_,[],rfl,⟨a4,zs,rfl,s.free n4,z1,z2⟩,rfl⟩) (Y4.mp Nr).1,Nr,λv z=>(Zl.mp z).elim (λz=>by obtain⟨b,e,q⟩:=r.2.2 v z;exact⟨b,e,yr q⟩) λz=>⟨a4,ZG.mp z,yr (by rw[z1];exact nofun)⟩⟩
theorem AO(hc:X.calm=L)(JB:aa5 τ)(hi:DI X Y tg iter fi)(S:aaf X scope bs)(hg:∀cl C b_ d_ ex pn,DG (aA X scope cl C b_ d_ ex pn) tg τ)(he:∀cl C b_ d_ ex pn,DF (aA X scope cl C b_ d_ ex pn) elt fe)(QA:∀O d,fe O=U d->∃es,d=.lst es)(hs:∀x,foldedSetIterable iter X.env x=pure x:=by intro _;rfl):DU X (.ListComp elt [⟨tg,iter,[],0⟩] scope pos) (λO=>av (af (fi O) (bR Y bs τ (λ_=>U L) fe O))):=by
 intro a_ s Z H Q I ⟨B,Hk,O,r,R,e,k⟩;cases q:af (fi O) (bR Y bs τ (λ_=>U L) fe O)with
 |none=>simp only[q,av]at e;trivial
 |some ls=>
  simp only[q,av]at e;obtain rfl:=D.lst.inj (Z7 e);obtain⟨ds,e1,e2⟩:=ak q;exact rR hc hi S hg (λ_ _ _ _ _ _=>jn) he hs a_ s Z H Q I (rE JB (by rw[S.len,I.len]) QA R e1 e2 k)
end
section
variable{K:Z6}{B:ZM->Prop}{Hk H H' H1:Hp}
def acj(K:Z6)(B:ZM->Prop)(Hk:Hp)(q:Mk)(O:St)(H:Hp)(ds:Z_ D)(v:V):Prop:=
 ∃H1,aaa Hk H1/\aa4 K B H1 H ds v/\∀(k:Nat) e a,q[k]?=U (U (e,L))->O[k]?=U (U (.ref a))->∃o:HOn,H1 a=U o.1
def acj.same(h:acj K B Hk q O H ds v)(R:Rel K B Hk q O H)(s:aaa H H'):acj K B Hk q O H' ds v:=by
 obtain⟨H1,h1,h2,h3⟩:=h;exact⟨H1,h1,h2.ext s (R.ext s),h3⟩
open Classical in
def Rel.aco(R:Rel K B Hk Z O H)(hv:O[i]?=U (U v))(h2:Rep K (BN B H1 H) H d v)(h3:∀(k:Nat) e a,Z[k]?=U (U (e,L))->O[k]?=U (U (.ref a))->∃o:HOn,H1 a=U o.1):∃B' Mj,Rel K B' Mj (Z.set i (U (d,Y))) O H:=by
 have hi:i<O.length:=(ZX.mp hv).1;have o_:i<Z.length:=by rw[R.len];exact hi
 have nk:∀a o,H1 a=U o->∀z:H1 a=M/\∃xs,H a=U (.lst xs),False:=λa o q z=>by rw[q]at z;cases z.1
 refine⟨BN B H1 H,λa=>if H1 a=M/\∃xs,H a=U (.lst xs) then H a else Hk a,⟨⟨λa o nt q=>?_,λa lq ps q=>?_⟩,λa q=>?_,by simpa using R.len,λj e q=>?_,λj e q=>?_,λj k e f q Kg h1 h2 h3 h4=>?_⟩⟩;split at q;exact q;exact R.same.get a o nt q;split at q;exact⟨#[],by rw[W7];exact q⟩;exact R.same.tbl a lq ps q;by_cases z:H1 a=M/\∃xs,H a=U (.lst xs);obtain⟨_,xs,hx⟩:=id z;exact⟨⟨_,rfl⟩,by rw[ZR z];exact hx⟩;rcases q with q|q;obtain⟨o,q⟩:=R.bor a q;exact⟨o,by rw[ZK z];exact q⟩;exact(z q).elim;by_cases hj:j=i;subst hj;rw[ZU o_]at q;cases q;exact⟨v,hv,h2⟩;rw[ZY (ZC hj)]at q;obtain⟨u,q1,q2⟩:=R.var j e q;exact⟨u,q1,Rep.more (λ_ z=>.inl z) q2⟩;by_cases hj:j=i;subst hj;rw[ZU o_]at q;cases q;rw[ZY (ZC hj)]at q;obtain⟨a,q1,q2,q3⟩:=R.own j e q;obtain⟨o,ho⟩:=h3 j e a q q1;refine⟨a,q1,by rw[ZK (nk a o ho)];exact q2,ObR.more (show ObR K B H e a from q3) λ_ z=>.inl z⟩;have hj:¬j=i:=λz=>by subst z;rw[ZU o_]at h1;cases h1
 have hk:¬k=i:=λz=>by subst z;rw[ZU o_]at h2;cases h2
 rw[ZY (ZC hj)]at h1;rw[ZY (ZC hk)]at h2;exact R.dis j k e f q Kg h1 h2 h3 h4
end
def tQ(K:Z6)(i:Nat)(g:Mk->Z9 Out):TS:=λDn O H=>∃B Hk q ds v o,Rel K B Hk q O H/\q[i]?=U M/\O[i]?=U (U v)/\acj K B Hk q O H ds v/\g (q.set i (U (.lst ds,Y)))=U o/\acb K B Hk H Dn o
abbrev DQs(X:Cx)(i:Nat)(Ms:Z_ Stmt)(g:Mk->Z9 Out):Prop:=PSs X Ms (tQ X.K i g)
def lsO(x:Z9 D):Z9 D:=match x with|some (.lst r)=>U (.lst r)|_=>M
def ifQ(i:Nat)(gb:Mk->Z9 Out)(x:Z9 Bool)(y:Z9 Out)(q:Mk):Z9 Out:=ifO x (jB (gb (q.set i M))) y
def wZ(h:lsO x=U d):∃r,x=U (.lst r)/\d=.lst r:=by
 unfold lsO at h;split at h;obtain rfl:=Z7 h;exact⟨_,rfl,rfl⟩;trivial
def GY(n:Nat)(d:D):Bool:=match d with|.lst es=>decide (es.length+n<lim)|_=>Y
noncomputable def pQ(i j:Nat)(ft:Mk->Z9 Bool)(_ k:Mk->Z9 Out)(q:Mk):Z9 Out:=match q[i]? with
 |some (some (.lst ds,false))=>if(decide (j<q.length)&&(decide (ds.length<lim)&&ds.all λd=>GY 0 d&&decide (ft ((q.set i M).set j (U (d,Y)))=U Y)))=L then k ((q.set i M).set j M) else M
 |_=>M
section
variable{X:Cx}{i j:Nat}{x y:Str}{aq:Z_ Stmt}{gr gb:Mk->Z9 Out}{pos pos':Pos}{e a:Expr}{fe:Mk->Z9 D}{ft:Mk->Z9 Bool}
theorem Cs(hN:X.N.Nodup)(l:Lc X i x)(he:DU X e fe)(E_:DQs X i aq gr)(hs:swapsWith e (U (.Name x pos')) pos.line X.env=pure Y:=by rfl):
  DSs X (.Assign [.Name x pos'] e pos::aq) (λO=>aC (bC i (lsO (fe O)) O) gr):=
 (aS (gB hN l.at' l.loc he hs l.fnl) E_).imp λDn Z H hz=>by
  obtain⟨B,Hk,O,o,R,e,kk⟩:=hz;cases q:bC i (lsO (fe O)) O with
  |none=>simp only[q,aC]at e;trivial
  |some o1=>
   obtain⟨d,e1,hi,rfl⟩:=g8 q;simp only[q,aC]at e;obtain⟨r,e2,rfl⟩:=wZ e1;have o_:i<Z.length:=by rw[<-R.len];exact hi
   refine⟨B,Hk,O,r,R,e2,λv H1 H' s1 s2 rr=>?_⟩;have s:=s1.trans s2;refine⟨B,Hk,O.set i M,r,v,o,(R.to s).unset o_,ZU hi,ZU o_,⟨H1,R.same.trans s1,rr,λj c a h1 h2=>?_⟩,by rw[Yg];exact e,kk.ext (R.ext s)⟩;have hj:j≠i:=λz=>by subst z;rw[ZU hi]at h1;cases h1
   rw[ZY (ZC hj)]at h1 h2;obtain⟨a',q1,_,q3⟩:=R.own j c h1;rw[h2]at q1;cases q1;obtain⟨o',ho⟩:=q3.there;exact⟨o',s1 _ _ ho⟩
theorem Ey(hc:DT X e ft)(hb:DSs X body gb)(E_:DQs X i aq gr):DQs X i (.If e body [] pos::aq) (λO=>ifQ i gb (ft O) (gr O) O):=by
 refine(aS (vt hc hb jf) E_).imp λDn Z H hz=>?_;obtain⟨B,Hk,O,d,v,o,R,hd,hv,n,e,kk⟩:=hz;obtain⟨B',Mj,R'⟩:∃B' Mj,Rel X.K B' Mj (O.set i (U (.lst d,Y))) Z H:=by obtain⟨H1,_,h2,h3⟩:=n;exact R.aco hv h2.view h3
 unfold ifQ ifO at e;dsimp only at e;split at e;rename_i q;refine⟨B',Mj,_,L,R',q,λH1 s1=>wX ?_⟩;have e':=jW e;rw[Yg,cx hd]at e';refine⟨B,Hk,O,o,R.to s1,e',?_⟩;have Qf:=kk.ext (R.ext s1);unfold jB at e;split at e;obtain rfl:=Z7 e;exact Qf;trivial;rename_i q;refine⟨B',Mj,_,Y,R',q,λH1 s1=>vL ?_⟩;exact⟨B,Hk,O,d,v,o,R.to s1,hd,hv,n.same R s1,e,kk.ext (R.ext s1)⟩;trivial
end
def Rel.drop{K:Z6}{B:ZM->Prop}{Hk H:Hp}{O:Mk}{Z:St}{j:Nat}(R:Rel K B Hk O Z H):Rel K B Hk (O.set j M) Z H:=by
 have key:∀(k:Nat) p,(O.set j M)[k]?=U (U p)->O[k]?=U (U p):=λk p q=>by
  rw[List.getElem?_set]at q;split at q
  .split at q<;>cases q
  exact q
 exact⟨R.same,R.bor,by simpa using R.len,λk e q=>R.var k e (key k _ q),λk e q=>R.own k e (key k _ q),λk l e f a h h1 h2=>R.dis k l e f a h (key k _ h1) (key l _ h2)⟩
section
variable{X:Cx}{i j:Nat}{x y:Str}{aq:Z_ Stmt}{gr:Mk->Z9 Out}{pos p1 p2 p3 p4 a1 c1 p5 p6 a2 c2 p7 p0:Pos}{n1 n2:Nat}
theorem vV(hp:PassesOwn (model X.prog X.w) X.A X.env X.xe)(hc:X.calm=L)(hN:X.N.Nodup)(nx:Nm X i x)(ny:Nm X j y)(ly:Lc X j y)(LJ:j≠i)(Pw:DT X c ft)(QH:DSs X body gb)(E_:DSs X aq gr)(hs:∀z,foldedSetIterable (.Name x p1) X.env z=pure z:=by intro _;rfl)(Sa:Mc X.env (.Name y p3) "append" (.Constant .none n1 p4) [] a1 c1)(NV:swapsWith (.Call (.Attribute (.Name y p3) "append" a1) [.Constant .none n1 p4] [] c1) M p2.line X.env=pure Y:=by rfl)(R_:Mc X.env (.Name x p6) "append" (.Constant .none n2 p7) [] a2 c2)(NU:swapsWith (.Call (.Attribute (.Name x p6) "append" a2) [.Constant .none n2 p7] [] c2) M p5.line X.env=pure Y:=by rfl):
  DQs X i (.For (.Name y pos) (.Name x p1) [.If c body [] p8,.Expr (.Call (.Attribute (.Name y p3) "append" a1) [.Constant .none n1 p4] [] c1) p2] [] p0::.Expr (.Call (.Attribute (.Name x p6) "append" a2) [.Constant .none n2 p7] [] c2) p5::aq) (pQ i j ft gb gr):=
 (aS (oO hp hc (nM (aZ nx.at' nx.vis nx.d1 nx.d2)) (jy hN ly.at' ly.loc ly.fnl) (aS (vt Pw QH jf) (dJ (gy (lP Yl WW WX d6 (aZ ny.at' ny.vis ny.d1 ny.d2) (aw t6 aK Sa.s) Sa) NV))) hs)
  (aS (gy (lP Yl WW WX d6 (aZ nx.at' nx.vis nx.d1 nx.d2) (aw t6 aK R_.s) R_) NU) E_)).imp
 λDn O H hz=>by
  obtain⟨B,Hk,q,ds,v,o,R,hd,hv,⟨H1,s1,⟨a,xs,rfl,S3,ha,rs,Nr⟩,own⟩,e,kk⟩:=hz;have hi:i<q.length:=(ZX.mp hd).1;unfold pQ at e;rw[ZU hi]at e;dsimp only at e;split at e;rename_i c;rw[Yg,cx hd]at e;rw[ZH,ZH,Zi,Zi,Zm,Yg,cx hd]at c;obtain⟨hj,c1,c2⟩:=c;have hlen:=rs.length;obtain⟨Nr,nd⟩:=Y4.mp Nr;have Q1:∀(k:Nat) e b,(q.set j M)[k]?=U (U (e,L))->O[k]?=U (U (.ref b))->∃o:HOn,H1 b=U o.1:=λk e b h1 h2=>by
   have hk:k≠j:=λz=>by subst z;rw[ZU hj]at h1;cases h1
   rw[ZY (ZC hk)]at h1;exact own k e b h1 h2
  refine⟨.ref a,hv,a,rfl,⟨xs,.inl (.inl ha)⟩,λt n i_ H'=>n=xs.length - t/\t<=xs.length/\Ext B H H'/\Rel X.K B Hk (q.set j M) i_ H'/\H' a=U (.lst xs)/\i_[i]?=U (U (.ref a))/\(∀(k:Nat) e b,(q.set j M)[k]?=U (U (e,L))->i_[k]?=U (U (.ref b))->∃o:HOn,H1 b=U o.1)/\aal X.K B H1 H' (ds.drop t) (xs.drop t),
   ⟨xs.length,by simp,Zo _,Ext.refl,R.drop,ha,hv,Q1,rs⟩,?_⟩
  rintro t n i_ H' ⟨rfl,ht,x,R',MG,Ji,Ow,RI⟩
  have hq:SqL X.K H' a xs:=.inl (.inl MG);by_cases ka:t<xs.length;refine .inr ⟨⟨xs,xs[t],hq,by simp⟩,λIK H2=>Ext B H H2/\Rel X.K B Hk (q.set j M) IK H2/\H2 a=U (.lst xs)/\IK[i]?=U (U (.ref a))/\(∀(k:Nat) e b,(q.set j M)[k]?=U (U (e,L))->IK[k]?=U (U (.ref b))->∃o:HOn,H1 b=U o.1)/\aal X.K B H1 H2 (ds.drop (t+1)) (xs.drop (t+1)),λIK H2 z=>⟨_,by lia,rfl,ka,z⟩,λv H2 ⟨e2,hx⟩=>?_⟩;subst e2;obtain rfl:xs[t]=v:=by have:=hx xs hq;simpa[ka]using this
  have Rk:t<ds.length:=by lia
  rw[Zx ka,Zx Rk]at RI;obtain⟨_,_,e0,hy,hr⟩:=RI;cases e0;obtain⟨cl,cf⟩:=(ZH ..).mp (ZO.mp c2 ds[t] (XB _));replace cf:=Zh cf;generalize hdt:ds[t]=dt at hy cl cf;cases dt with
  |lst es=>
   obtain⟨b,ys,eb,nb,hb,RG⟩:=hy;have lb:es.length+0<lim:=Zh cl;rw[RG.length]at lb;have LR:j<i_.length:=by rw[<-R'.len,Zm];exact hj
   have R2:=R'.unset (v:=xs[t]) LR;rw[Yg]at R2;have LZ:∀(k:Nat) e b,(q.set j M)[k]?=U (U (e,L))->(i_.set j (U xs[t]))[k]?=U (U (.ref b))->∃o:HOn,H1 b=U o.1:=λk e b h1 h2=>by
    have hk:k≠j:=λz=>by subst z;rw[ZU hj]at h1;cases h1
    rw[ZY (ZC hk)]at h2;exact Ow k e b h1 h2
   obtain⟨B',Mj,RV⟩:=R2.aco (d:=.lst es) (ZU LR) (by
    simp only[Rep];exact⟨b,ys,eb,.inl ⟨.inr ⟨nb,ys,hb⟩,hb⟩,M1.more (λ_ z=>.inl z) RG⟩) LZ
   rw[Yg]at RV;refine⟨B',Mj,_,Y,RV,cf,λH2 s2=>vL ?_⟩;have NI:=R2.ext s2;have VC:=s2 a _ MG;replace hb:=s2 b _ hb;replace hr:=hr.ext s2 NI;replace R2:=R2.to s2;obtain⟨x1,x2⟩:=R2.acB (ys:=ys++[.non]) s1 nb hb LZ;refine⟨xs[t],ZU LR,?_⟩;have U5:V.ref b∉xs.drop (t+1):=by
    have:=nd.sublist (List.drop_sublist t xs);rw[Zx ka,Y4,eb]at this;exact this.1
   have Vy:a≠b:=λz=>Nr (by subst z;rw[<-eb];exact XB _);rw[eb]at x2 LZ⊢;exact⟨.inl ⟨rfl,ys,SqL.of hb⟩,b,ys,.non,rfl,rfl,hb,by have:=aD (ZP lim);lia,x.trans (NI.trans x1),x2,by rw[ai Vy];exact VC,by rw[ZY LJ];exact Ji,LZ,hr.upd x1 U5⟩
  |_=>exact(nomatch cl)
  obtain⟨x1,x2⟩:=R'.acB (ys:=xs++[.non]) s1 S3 MG Ow;refine .inl ⟨⟨xs,hq,by lia⟩,.ref a,Ji,.inl ⟨rfl,xs,SqL.of MG⟩,a,xs,.non,rfl,rfl,MG,?_,B,Hk,_,o,x2,e,kk.ext (x.trans x1)⟩;exact Zz (by rw[<-hlen];exact c1) (aD (ZP _));trivial
end
def vY{fa fb:Mk->Z9 D}:∀q d,l6 t u (fa q) (fb q)=U d->∃es,d=.lst es:=λq d h=>by
 unfold l6 at h;split at h;split at h;obtain rfl:=Z7 h;exact⟨_,rfl⟩;trivial;trivial
def Ak{fa:Mk->Z9 D}:∀q o,bC i (fa q) q=U o->∃h_,o=.next h_:=λq o h=>by
 obtain⟨_,_,_,rfl⟩:=g8 h;exact⟨_,rfl⟩
theorem M1.set{K:Z6}{B:ZM->Prop}{H:Hp}{d:D}{v:V}(r:Rep K B H d v):∀{ds:Z_ D}{xs:Z_ V}{j:Nat},M1 K B H ds xs->M1 K B H (ds.set j d) (xs.set j v)
 |[],xs,j,h=>by simp only[M1]at h;subst h;exact M1.nil
 |e::ds,xs,j,h=>by
  simp only[M1]at h;obtain⟨x,t,rfl,h1,h2⟩:=h;cases j with
  |zero=>exact M1.cons r h2
  |succ j=>exact M1.cons h1 (M1.set r h2)
noncomputable def kg(i:Nat)(x y:Z9 D)(q:Mk):Z9 Out:=match bQ i q,x,y with
 |some (.lst ds),some (.int k),some d=>af (ixN ds.length k) λj=>U (.next (q.set i (U (.lst (ds.set j d),L))))
 |_,_,_=>M
set_option tactic.hygienic true in
def qa{i:Nat}{x y:Z9 D}{O:Mk}{o:Out}(h:kg i x y O=U o):∃ds k d j,O[i]?=U (U (.lst ds,L))/\x=U (.int k)/\y=U d/\ixN ds.length k=U j/\o=.next (O.set i (U (.lst (ds.set j d),L))):=by
 unfold kg at h;split at h;rename_i ds k d q;obtain⟨j,e,h⟩:=ak h;obtain rfl:=Z7 h;exact⟨ds,k,d,j,bL q,rfl,rfl,e,rfl⟩;trivial
theorem AC(n:Nm X i x)(hb:DE X m b fb)(hv:DE X Y c fc)(hs:swapsWithSole [.Subscript (.Name x px) b pos'] c pos.line X.env=pure Y:=by rfl)(hw:swappedStores [.Subscript (.Name x px) b pos'] c X.env=pure M:=by rfl)(h1:(assignEach [.Subscript (.Name x px) b pos'] X.env).map (·.2)=[assign (.Subscript (.Name x px) b pos') X.env]:=by rfl)(ha:∀v,assign (.Subscript (.Name x px) b pos') X.env v=(do
   let ov <-holding [v] (eval (.Name x px) X.env)
   let iv <-holding [v,ov] (eval b X.env)
   standAt pos'
   holding [v,ov,iv] (setItem ov iv v)
   release [v,ov,iv] []):=by intro _;rfl):
  DS X (.Assign [.Subscript (.Name x px) b pos'] c pos) (λq=>kg i (fb q) (fc q) q):=
 (yx hv (CO (aZ n.at' n.vis n.d1 n.d2) hb xB ha) hs hw h1).imp λDn O H hz=>by
  obtain⟨B,Hk,q,o,R,e,k⟩:=hz;obtain⟨ds,kk,d,j,h1,e1,e2,hj,rfl⟩:=qa e;refine⟨B,Hk,q,d,R,e2,λv H1 s1 r=>?_⟩;have R1:=R.to s1;obtain⟨l,h2,h3,xs,h4,h5⟩:=R1.own i _ h1;refine⟨.ref l,h2,B,Hk,q,_,R1,e1,λu H2 s2 ru=>?_⟩;simp only[Rep]at ru;subst ru;have R2:=R1.to s2;have Ky:=s2 l _ h4;have ND:M1 X.K B H2 ds xs:=h5.ext (R1.ext s2);obtain⟨x1,x2⟩:=R2.abE h1 h2 Ky (M1.set (j:=j) (r.ext (R1.ext s2)) ND);exact⟨l,xs,kk,j,rfl,rfl,Ky,by rw[<-ND.length];exact hj,k O _ ((R.ext (s1.trans s2)).trans x1) x2⟩
end L2
namespace JP
open PySem L2
inductive Ce where|nm (w:Str)|bk (n:Int)
deriving DecidableEq,Inhabited
inductive Te where|any (l:Str)|nm (w:Str)
deriving DecidableEq
def ceD:Ce->D|.nm w=>.tup [.str "name",.str w]|.bk n=>.tup [.str "blank",.int n]
def teD:Te->D|.any l=>.tup [.str "any",.str l]|.nm w=>.tup [.str "name",.str w]
def eW(h:ceD a=ceD b):a=b:=by
 cases a<;>cases b<;>simp[ceD]at h;rw[h];rw[h]
abbrev Row:=Str×Z_ Ce
abbrev Pat:=Str×Z_ Te
def aE(r:Row):D:=.tup [.str r.1,.tup (r.2.map ceD)]
def WC(p:Pat):D:=.tup [.str p.1,.tup (p.2.map teD)]
abbrev Fit:=Str->Ce
def ev(φ:Fit):Te->Ce|.any l=>φ l|.nm w=>.nm w
def hU(rows:Z_ Row)(φ:Fit)(p:Pat):Prop:=∃r∈rows,r.1=p.1/\r.2=p.2.map (ev φ)
def ans:Z_ Te->Z_ Str
 |[]=>[]
 |.any l::ts=>l::ans ts
 |.nm _::ts=>ans ts
theorem dS:∀{ts:Z_ Te},(∀l∈ans ts,φ l=ψ l)->ts.map (ev φ)=ts.map (ev ψ)
 |[],_=>rfl
 |.any l::ts,h=>by
  rw[Z2,Z2,dS (ts:=ts) λl' hl=>h l' (Z1 _ hl)];simp only[ev];rw[h l (ZZ ..)]
 |.nm w::ts,h=>by rw[Z2,Z2,dS (ts:=ts) h];rfl
def iO(h:∀l∈ans p.2,φ l=ψ l)(i:hU rows φ p):hU rows ψ p:=by
 obtain⟨r,h1,h2,h3⟩:=i;exact⟨r,h1,h2,by rw[h3,dS h]⟩
abbrev Bi:=Z_ (Str×Ce)
def gt(b:Bi)(l:Str):Z9 Ce:=(b.find? λq=>decide (q.1=l)).map (·.2)
def cw(b:Bi)(k:Str)(c:Ce)(l:Str):gt ((k,c)::b) l=if k=l then U c else gt b l:=by
 unfold gt;rw[List.find?_cons];by_cases h:k=l<;>simp[h]
theorem kB(l:Str):∀(b b':Bi),gt (b++b') l=(gt b l).or (gt b' l)
 |[],b'=>by simp[gt]
 |(k,c)::b,b'=>by
  rw[List.cons_append,cw,cw,kB l b b'];split<;>simp
noncomputable def bnd:Z_ Te->Z_ Ce->Bi->Z9 Bi
 |.any l::ts,c::cs,b=>(match gt b l with|some c'=>if c'=c then bnd ts cs b else M|none=>bnd ts cs (b++[(l,c)]))
 |.nm w::ts,c::cs,b=>if Ce.nm w=c then bnd ts cs b else M
 |_,_,b=>U b
set_option tactic.hygienic true in
theorem bO:∀{ts:Z_ Te}{cs:Z_ Ce}{b b':Bi},ts.length=cs.length->bnd ts cs b=U b'->(∀l c,gt b l=U c->gt b' l=U c)/\(∀l∈ans ts,∃c,gt b' l=U c)/\∀φ:Fit,(∀l∈ans ts,gt b' l=U (φ l))->cs=ts.map (ev φ)
 |[],[],b,b',_,h=>by simp only[bnd,ZL]at h;subst h;exact⟨λ_ _ h=>h,λ_ h=>by simp[ans]at h,λ_ _=>rfl⟩
 |.any l::ts,c::cs,b,b',hl,h=>by
  simp only[bnd]at h;have IQ:ts.length=cs.length:=by simpa using hl
  split at h;rename_i c' e;split at h;rename_i ec;subst ec;obtain⟨h1,h2,h3⟩:=bO IQ h;refine⟨h1,λl' IQ=>?_,λφ IP=>?_⟩;rcases Z0.mp IQ with rfl|hm;exact⟨_,h1 _ _ e⟩;exact h2 l' hm;have:=IP l (ZZ ..);rw[h1 _ _ e]at this;rw[Z2,<-h3 φ λl' hm=>IP l' (Z1 _ hm)];simp only[ev];rw[Z7 this];trivial;rename_i e;obtain⟨h1,h2,h3⟩:=bO IQ h;have hg:gt b' l=U c:=h1 l c (by rw[kB,e];simp[gt]);refine⟨λl' c' e'=>h1 l' c' (by rw[kB,e'];rfl),λl' IQ=>?_,λφ IP=>?_⟩;rcases Z0.mp IQ with rfl|hm;exact⟨_,hg⟩;exact h2 l' hm;have:=IP l (ZZ ..);rw[hg]at this;rw[Z2,<-h3 φ λl' hm=>IP l' (Z1 _ hm)];simp only[ev];rw[Z7 this]
 |.nm w::ts,c::cs,b,b',hl,h=>by
  simp only[bnd]at h;split at h;rename_i ec;subst ec;obtain⟨h1,h2,h3⟩:=bO (by simpa using hl) h;exact⟨h1,h2,λφ IP=>by rw[Z2,<-h3 φ IP];rfl⟩;trivial
theorem dO:∀(ts:Z_ Te)(b:Bi),(∀l c,gt b l=U c->φ l=c)->∃b',bnd ts (ts.map (ev φ)) b=U b'/\∀l c,gt b' l=U c->φ l=c
 |[],b,h=>⟨b,rfl,h⟩
 |.any l::ts,b,h=>by
  simp only[Z2,ev,bnd];cases e:gt b l with
  |some c=>
   simp only;rw[ZR (h l c e).symm];exact dO ts b h
  |none=>
   refine dO ts _ λl' c hc=>?_;rw[kB]at hc;cases e':gt b l' with
   |some c'=>rw[e']at hc;simp at hc;subst hc;exact h _ _ e'
   |none=>
    rw[e']at hc;simp only[Option.none_or]at hc;rw[cw]at hc;split at hc;rename_i q;subst q;exact Z7 hc;simp[gt]at hc
 |.nm w::ts,b,h=>by
  simp only[Z2,ev,bnd,Y1];exact dO ts b h
def gY(p:Pat)(r:Row):Z9 Bi:=if r.1=p.1/\r.2.length=p.2.length then bnd p.2 r.2 [] else M
def binds(rows:Z_ Row)(p:Pat):Z_ Bi:=rows.filterMap (gY p)
def dI(h:b∈binds rows p):(∀l∈ans p.2,∃c,gt b l=U c)/\∀φ:Fit,(∀l∈ans p.2,gt b l=U (φ l))->hU rows φ p:=by
 obtain⟨r,hr,e⟩:=Yc.mp h;unfold gY at e;split at e;rename_i c;obtain⟨_,h2,h3⟩:=bO c.2.symm e;exact⟨h2,λφ IP=>⟨r,hr,c.1,h3 φ IP⟩⟩;trivial
def qR(h:hU rows φ p):∃b∈binds rows p,∀l∈ans p.2,gt b l=U (φ l):=by
 obtain⟨r,hr,h1,h2⟩:=h;obtain⟨b,e,hb⟩:=dO (φ:=φ) p.2 [] (λl c e=>by simp[gt]at e);have hm:gY p r=U b:=by unfold gY;rw[ZR ⟨h1,by rw[h2];simp⟩,h2];exact e
 have Jv:b∈binds rows p:=Yc.mpr ⟨r,hr,hm⟩;refine⟨b,Jv,λl hl=>?_⟩;obtain⟨c,hc⟩:=(dI Jv).1 l hl;rw[hc,hb l c hc]
def vl(b:Bi)(ls:Z_ Str):Z_ Ce:=ls.map λl=>(gt b l).getD default
abbrev Gr:=Z_ (Z_ Ce×Z_ (Z_ Ce))
def mD:Gr->Z_ Ce->Z_ Ce->Gr
 |[],k,e=>[(k,[e])]
 |p::r,k,e=>if p.1=k then(p.1,if e∈p.2 then p.2 else p.2++[e])::r else p::mD r k e
def cI(g:Gr)(k:Z_ Ce):Z_ (Z_ Ce):=((g.find? λq=>decide (q.1=k)).map (·.2)).getD []
def aX(g:Gr)(q:Z_ Ce×Z_ (Z_ Ce))(k:Z_ Ce):cI (q::g) k=if q.1=k then q.2 else cI g k:=by
 unfold cI;rw[List.find?_cons];by_cases h:q.1=k<;>simp[h]
theorem pT:∀(g:Gr)(k e k' x:Z_ Ce),x∈cI (mD g k e) k'↔x∈cI g k'\/(k'=k/\x=e)
 |[],k,e,k',x=>by
  unfold mD;rw[aX];by_cases h:k=k';simp[h,cI];simp[h,cI];intro z;exact absurd z.symm h
 |p::r,k,e,k',x=>by
  unfold mD;by_cases h:p.1=k;rw[ZR h,aX,aX];dsimp only;by_cases h':p.1=k';rw[ZR h',ZR h'];have hk:k'=k:=h'.symm.trans h;split;rename_i m;constructor;exact .inl
  rintro(q|⟨_,rfl⟩)
  exact q;exact m;simp[hk];rw[ZK h',ZK h'];constructor;exact .inl
  rintro(q|⟨rfl,_⟩)
  exact q;exact absurd h h';rw[ZK h,aX,aX];by_cases h':p.1=k';rw[ZR h',ZR h'];constructor;exact .inl
  rintro(q|⟨rfl,_⟩)
  exact q;exact absurd h' h;rw[ZK h',ZK h'];exact pT r k e k' x
def grp(bs:Z_ Bi)(sh ad:Z_ Str):Gr:=bs.foldl (λg b=>mD g (vl b sh) (vl b ad)) []
def mx(bs:Z_ Bi)(sh ad:Z_ Str)(k x:Z_ Ce):x∈cI (grp bs sh ad) k↔∃b∈bs,vl b sh=k/\vl b ad=x:=by
 have key:∀(bs:Z_ Bi)(g:Gr),x∈cI (bs.foldl (λg b=>mD g (vl b sh) (vl b ad)) g) k↔x∈cI g k\/∃b∈bs,vl b sh=k/\vl b ad=x:=by
  intro bs
  induction bs with
  |nil=>intro g;simp
  |cons b bs ih=>
   intro g;rw[List.foldl_cons,ih,pT];constructor
   rintro((q|⟨q1,q2⟩)|⟨b',m,q⟩)
   exact .inl q;exact .inr ⟨b,ZZ ..,q1.symm,q2.symm⟩;exact .inr ⟨b',Z1 _ m,q⟩
   rintro(q|⟨b',m,q1,q2⟩)
   exact .inl (.inl q);rcases Z0.mp m with rfl|m;exact .inl (.inr ⟨q1.symm,q2.symm⟩);exact .inr ⟨b',m,q1,q2⟩
 rw[grp,key];simp[cI]
def aV(ls known:Z_ Str):Z_ Nat:=ls.map λl=>known.idxOf l
def pk(c:Z_ Ce)(ps:Z_ Nat):Z_ Ce:=ps.map λi=>c.getD i default
def bj(h:∀l∈ls,l∈known):pk (known.map φ) (aV ls known)=ls.map φ:=by
 unfold pk aV;rw[XS];refine Ze λl hl=>?_;have hi:=YJ (h l hl);simp[hi]
def ins(x:Z_ Ce)(l:Z_ (Z_ Ce)):Z_ (Z_ Ce):=if x∈l then l else l++[x]
def mO:y∈ins x l↔y∈l\/y=x:=by
 unfold ins;split
 .constructor
  exact .inl
  .rintro(h|rfl)<;>assumption
 simp
def zp(h:l.Nodup):(ins x l).Nodup:=by
 unfold ins;split;exact h;rename_i n;rw[Yk];exact⟨h,by simp,λa ha b hb e=>n (by simp at hb;rw[<-hb,<-e];exact ha)⟩
def qb(g:Gr)(sp kp:Z_ Nat)(l:Z_ (Z_ Ce))(c:Z_ Ce):Z_ (Z_ Ce):=(cI g (pk c sp)).foldl (λl a=>ins (pk c kp++a) l) l
def ext(found:Z_ (Z_ Ce))(sp kp:Z_ Nat)(g:Gr):Z_ (Z_ Ce):=found.foldl (qb g sp kp) []
def A3(g:Gr)(sp kp:Z_ Nat)(c:Z_ Ce)(l:Z_ (Z_ Ce))(h:l.Nodup):(qb g sp kp l c).Nodup/\∀x,x∈qb g sp kp l c↔x∈l\/∃a∈cI g (pk c sp),x=pk c kp++a:=by
 unfold qb;generalize cI g (pk c sp)=as
 induction as generalizing l with
 |nil=>exact⟨h,λx=>by simp⟩
 |cons a as ih=>
  rw[List.foldl_cons];obtain⟨h1,h2⟩:=ih _ (zp h);refine⟨h1,λx=>?_⟩;rw[h2,mO];simp only[Z0,exists_eq_or_imp];constructor
  rintro((q|q)|q)
  exact .inl q;exact .inr (.inl q);exact .inr (.inr q)
  rintro(q|q|q)
  exact .inl (.inl q);exact .inl (.inr q);exact .inr q
def CW(found:Z_ (Z_ Ce))(sp kp:Z_ Nat)(g:Gr):(ext found sp kp g).Nodup/\∀x,x∈ext found sp kp g↔∃c∈found,∃a∈cI g (pk c sp),x=pk c kp++a:=by
 have key:∀(found l:Z_ (Z_ Ce)),l.Nodup->(found.foldl (qb g sp kp) l).Nodup/\∀x,x∈found.foldl (qb g sp kp) l↔x∈l\/∃c∈found,∃a∈cI g (pk c sp),x=pk c kp++a:=by
  intro found
  induction found with
  |nil=>intro l h;exact⟨h,λx=>by simp⟩
  |cons c found ih=>
   intro l h;obtain⟨e1,e2⟩:=A3 g sp kp c l h;obtain⟨h1,h2⟩:=ih _ e1;rw[List.foldl_cons];refine⟨h1,λx=>?_⟩;rw[h2,e2];simp only[Z0,exists_eq_or_imp];constructor
   rintro((q|q)|q)
   exact .inl q;exact .inr (.inl q);exact .inr (.inr q)
   rintro(q|q|q)
   exact .inl (.inl q);exact .inl (.inr q);exact .inr q
 obtain⟨h1,h2⟩:=key found [] YY;exact⟨h1,λx=>by rw[ext,h2];simp⟩
theorem yM:∀{kn:Z_ Str}{x:Z_ Ce},kn.Nodup->x.length=kn.length->∃φ:Fit,x=kn.map φ
 |[],[],_,_=>⟨λ_=>default,rfl⟩
 |[],_::_,_,h=>by simp at h
 |_::_,[],_,h=>by simp at h
 |l::ks,c::x,nd,h=>by
  obtain⟨h1,h2⟩:=Y4.mp nd;obtain⟨φ,e⟩:=yM h2 (by simpa using h);refine⟨λk=>if k=l then c else φ k,?_⟩;rw[Z2,ZR rfl,e];congr 1;exact Ze λk hk=>(ZK λz:k=l=>h1 (z▸hk)).symm
structure Jn (rows:List Row)(kn:List Str)(fd:List (List Ce))(wanted:List Str)(done aq:List Pat)(known:List Str)(found:List (List Ce)):Prop where
 nk:known.Nodup
 nf:found.Nodup
 mem:∀x,x∈found↔∃φ:Fit,x=known.map φ/\kn.map φ∈fd/\∀p∈done,hU rows φ p
 has:∀l,(l∈kn\/∃p∈done,l∈ans p.2)->(l∈wanted\/∃p∈aq,l∈ans p.2)->l∈known
 few:∀l∈known,l∈wanted\/∃p∈aq,l∈ans p.2
def w9(rows:Z_ Row){aq:Z_ Pat}(h1:kn.Nodup)(h2:fd.Nodup)(h3:∀x∈fd,x.length=kn.length)(h4:∀l∈kn,l∈wanted\/∃p∈aq,l∈ans p.2):Jn rows kn fd wanted [] aq kn fd:=
 ⟨h1,h2,λx=>⟨λh=>by obtain⟨φ,rfl⟩:=yM h1 (h3 x h);exact⟨φ,rfl,h,λp hp=>(by trivial)⟩,λhz=>by obtain⟨φ,rfl,h,_⟩:=hz;exact h⟩,λl hz _=>by rcases hz with h|⟨p,hp,_⟩;exact h;trivial,h4⟩
def AL{rows:Z_ Row}{kn:Z_ Str}{fd:Z_ (Z_ Ce)}{wanted:Z_ Str}{done aq:Z_ Pat}{p:Pat}{known own later:Z_ Str}{found:Z_ (Z_ Ce)}(J:Jn rows kn fd wanted done (p::aq) known found)
  (KI:∀l,l∈own↔l∈ans p.2)(K4:own.Nodup)(KJ:∀l,l∈later↔l∈wanted\/∃q∈aq,l∈ans q.2):
  Jn rows kn fd wanted (done++[p]) aq (known.filter (λl=>decide (l∈later))++own.filter λl=>decide (l∈later)&&!decide (l∈known))
   (ext found (aV (own.filter λl=>decide (l∈known)) known) (aV (known.filter λl=>decide (l∈later)) known)
    (grp (binds rows p) (own.filter λl=>decide (l∈known)) (own.filter λl=>decide (l∈later)&&!decide (l∈known)))):=by
 obtain⟨e1,e2⟩:=CW found (aV (own.filter λl=>decide (l∈known)) known) (aV (known.filter λl=>decide (l∈later)) known) (grp (binds rows p) (own.filter λl=>decide (l∈known)) (own.filter λl=>decide (l∈later)&&!decide (l∈known)));have Lf:∀l∈own.filter (λl=>decide (l∈known)),l∈known:=λl hl=>by simp at hl;exact hl.2
 have KG:∀l∈known.filter (λl=>decide (l∈later)),l∈known:=λl hl=>by simp at hl;exact hl.1
 refine⟨?_,e1,λx=>?_,λl hd hw=>?_,λl hl=>?_⟩;rw[Yk];refine⟨J.nk.filter _,K4.filter _,λa ha b hb e=>?_⟩;subst e;simp at ha hb;exact hb.2.2 ha.1
 .rw[e2]
  constructor
  .rintro⟨c,hc,a,ha,rfl⟩
   obtain⟨φ,rfl,hf,IP⟩:=(J.mem c).mp hc;rw[bj Lf,mx]at ha;obtain⟨b,hb,h1,h2⟩:=ha;obtain⟨bs1,bs2⟩:=dI hb;have hv:∀l∈own,∃c,gt b l=U c:=λl hl=>bs1 l ((KI l).mp hl);have Tn:∀l∈known,(if l∈own then(gt b l).getD default else φ l)=φ l:=λl hk=>by
    split;rename_i ho;have hs:l∈own.filter (λl=>decide (l∈known)):=by simp;exact⟨ho,hk⟩
    unfold vl at h1;exact(Xn.mp h1) l hs;rfl
   have To:∀l,(l∈kn\/∃q∈done,l∈ans q.2)->(if l∈own then(gt b l).getD default else φ l)=φ l:=λl hl=>by
    by_cases ho:l∈own;exact Tn l (J.has l hl (.inr ⟨p,ZZ ..,(KI l).mp ho⟩));rw[ZK ho]
   refine⟨λl=>if l∈own then(gt b l).getD default else φ l,?_,?_,λq hq=>?_⟩;rw[bj KG,YW];congr 1;exact Ze λl hl=>(Tn l (KG l hl)).symm;rw[<-h2];unfold vl;refine Ze λl hl=>?_;simp at hl;rw[ZR hl.1];rw[Ze λl hl=>To l (.inl hl)];exact hf;rcases Zl.mp hq with hq|hq
   exact iO (λl hl=>(To l (.inr ⟨q,hq,hl⟩)).symm) (IP q hq);rw[ZG.mp hq];refine bs2 _ λl hl=>?_;have ho:=(KI l).mpr hl;obtain⟨c,hc⟩:=hv l ho;rw[ZR ho,hc];rfl
  rintro⟨φ,rfl,hf,IP⟩
  obtain⟨b,hb,N9⟩:=qR (IP p (ZE _ (ZG.mpr rfl)));refine⟨known.map φ,(J.mem _).mpr ⟨φ,rfl,hf,λq hq=>IP q (YS _ hq)⟩,(own.filter λl=>decide (l∈later)&&!decide (l∈known)).map φ,?_,?_⟩;rw[bj Lf,mx];refine⟨b,hb,?_,?_⟩;unfold vl;refine Ze λl hl=>?_;rw[N9 l ((KI l).mp (YZ.mp hl).1)];rfl;unfold vl;refine Ze λl hl=>?_;rw[N9 l ((KI l).mp (YZ.mp hl).1)];rfl;rw[bj KG,YW]
 have SA:l∈later:=(KJ l).mpr hw;by_cases hk:l∈known;exact YS _ (YZ.mpr ⟨hk,by simpa using SA⟩);have ho:l∈own:=Classical.byContradiction λho=>hk (J.has l (hd.imp id λ⟨q,hq,hl⟩=>⟨q,(Zl.mp hq).elim id λz=>absurd ((KI l).mpr (by rw[<-ZG.mp z];exact hl)) ho,hl⟩) (hw.imp id λ⟨q',Ku,IQ⟩=>⟨q',Z1 _ Ku,IQ⟩));exact ZE _ (YZ.mpr ⟨ho,by simp[SA,hk]⟩);rcases Zl.mp hl with hl|hl
 exact(KJ l).mp (by simpa using(YZ.mp hl).2);have:=(YZ.mp hl).2;simp at this;exact(KJ l).mp this.1
def Dv(J:Jn rows kn fd wanted done [] known found)(hw:∀l∈wanted,l∈kn\/∃p∈done,l∈ans p.2):
  (found.map λc=>pk c (aV wanted known)).Nodup/\∀x,x∈found.map (λc=>pk c (aV wanted known))↔∃φ:Fit,x=wanted.map φ/\kn.map φ∈fd/\∀p∈done,hU rows φ p:=by
 have wk:∀l∈wanted,l∈known:=λl hl=>J.has l (hw l hl) (.inl hl);have kw:∀l∈known,l∈wanted:=λl hl=>(J.few l hl).elim id λhz=>by obtain⟨p,hp,_⟩:=hz;trivial
 constructor;rw[List.nodup_iff_pairwise_ne,Xo];refine J.nf.imp_of_mem λ{c d} hc hd D_ e=>D_ ?_;obtain⟨φ,rfl,_⟩:=(J.mem c).mp hc;obtain⟨ψ,rfl,_⟩:=(J.mem d).mp hd;rw[bj wk,bj wk]at e;exact Ze λl hl=>(Xn.mp e) l (kw l hl);intro x;rw[ZQ];constructor
 rintro⟨c,hc,rfl⟩
 obtain⟨φ,rfl,IP⟩:=(J.mem c).mp hc;exact⟨φ,bj wk,IP⟩
 rintro⟨φ,rfl,IP⟩
 exact⟨known.map φ,(J.mem _).mpr ⟨φ,rfl,IP⟩,bj wk⟩
end JP
namespace L2
open PySem PySem.Spec PyProof.Rows PySem.W
section
theorem iF:∀{l:Frag},l.lookup a=U o->(a,o)∈l
 |[],h=>nomatch h
 |(b,p)::l,h=>by
  rw[List.lookup_cons]at h;cases e:a==b with
  |true=>rw[e]at h;cases h;rw[Zu.mp e];exact .head _
  |false=>rw[e]at h;exact .tail _ (iF h)
def wA(h:Heap):(zY h).In h:=λa o e=>by
 obtain⟨b,_,hb⟩:=Yc.mp (iF e);obtain⟨p,h1,h2⟩:=Option.bind_eq_some_iff.mp hb;split at h2;cases h2;exact h1;cases h2
structure Seen (defs:List (Str×Stmt))(bl:List Str)(cs:List (Str×ZM))(K:Frag):Prop where
 fn:defs.map (λp=>D9 K p.1)=defs.map λp=>some (v9 p.1 p.2)
 bl:bl.map (nsIn K mainGlobals)=bl.map λ_=>some none
 cd:cs.map (λp=>oY K p.1)=cs.map λp=>some (.ref p.2)
theorem pC{q O:Type}{f g:q->O}:∀{l:Z_ q}{i:Nat}{x:q},l.map f=l.map g->l[i]?=U x->f x=g x
 |[],_,_,_,h=>by simp at h
 |y::l,0,x,e,h=>by cases h;exact(List.cons.inj e).1
 |y::l,i+1,x,e,h=>pC (List.cons.inj e).2 h
def map_mem{q O:Type}{f g:q->O}{l:Z_ q}{x:q}(e:l.map f=l.map g)(h:x∈l):f x=g x:=by
 obtain⟨i,hi⟩:=X6 h;exact pC e hi
section
variable{defs:Z_ (Str×Stmt)}{bl:Z_ Str}{cs:Z_ (Str×ZM)}{K:Frag}{h:Heap}{mg:Str->Z9 Z3}
set_option tactic.hygienic true in
def Seen.df0(S:Seen defs bl cs K)(X:K.In h)(G:h.Ns mainGlobals mg)(i:Nat){x:Str}{st:Stmt}(e:defs[i]?=U (x,st)):∃f fd,Fun K x x st f fd/\mg x=U (.ref f)/\oY K x=U fd.code:=by
 have q:D9 K x=U (v9 x st):=pC S.fn e;unfold D9 at q;unfold oY;split at q;rename_i f hf;split at q;rename_i oc od fd sl hl;split at q;rename_i hc;refine⟨f,fd,⟨⟨oc,od,fd.kwdefaults,fd.doc,fd.pyModule,fd.annotations,fd.code,fd.closureTuple,sl,?_,hl,hc⟩,?_⟩,mg_of X G hf,rfl⟩;have q':=Z7 q;obtain⟨a1,a2,a3,a4,a5,a6,a7,a8,a9,a10,a11,a12,a13,a14,PD⟩:=fd;simp only[Dz,v9,Xy]at q';obtain⟨rfl,rfl,rfl,rfl,rfl,rfl,rfl,rfl,rfl⟩:=q';rfl;unfold keepIn;dsimp only;rw[hl];cases q;cases q;cases q
def Seen.df(S:Seen defs bl cs K)(X:K.In h)(G:h.Ns mainGlobals mg)(i:Nat){x:Str}{st:Stmt}(e:defs[i]?=U (x,st)):∃f fd,Fun K x x st f fd/\mg x=U (.ref f):=by
 obtain⟨f,fd,F,hm,_⟩:=S.df0 X G i e;exact⟨f,fd,F,hm⟩
def Seen.dfC(S:Seen defs bl cs K)(X:K.In h)(G:h.Ns mainGlobals mg)(i j:Nat){x:Str}{st:Stmt}{c:ZM}(e:defs[i]?=U (x,st))(e':cs[j]?=U (x,c)):∃f fd,Fun K x x st f fd/\mg x=U (.ref f)/\fd.code=.ref c:=by
 obtain⟨f,fd,F,hm,hc⟩:=S.df0 X G i e;exact⟨f,fd,F,hm,Z7 (hc.symm.trans (pC S.cd e'))⟩
def Seen.txt(S:Seen defs bl cs K)(X:K.In h)(G:h.Ns mainGlobals mg):∀x∈bl,mg x=M:=λx hx=>mg_none_of X G (map_mem S.bl hx)
end
variable[Lams]
def GJ(cs:Z_ (Str×ZM))(K:Frag):Prop:=(Lams.tb.zip cs).map (λq=>codeHdIn K q.2.2 q.1.1)=(Lams.tb.zip cs).map (λ_=>L)/\Lams.tb.map (λq=>K.lookup q.1)=Lams.tb.map (λ_=>M)
def YH(defs:Z_ (Str×Stmt))(bl:Z_ Str)(cs:Z_ (Str×ZM))(_:YV)(h:Heap):Prop:=∃K:Frag,K.In h/\Seen defs bl cs K/\Lams.tb.map (λq=>h.get? q.1)=Lams.tb.map (λ_=>U Gj)/\GJ cs K
def yh_of(w:YV)(s:ZT)(e:YfH defs bl cs s=YaH defs bl cs w):YH defs bl cs w s.heap:=by
 unfold YfH YaH at e;simp only[Xy]at e;exact⟨zY s.heap,wA _,⟨e.1,e.2.1,e.2.2.1⟩,e.2.2.2.1,e.2.2.2.2.1,e.2.2.2.2.2⟩
def yh_keeps(w:YV)(h h':Heap)(y:YH defs bl cs w h)(k:∀b o,h.get? b=U o->h'.get? b=U o):YH defs bl cs w h':=by
 obtain⟨K,hK,hS,ht,hc⟩:=y;refine⟨K,hK.keeps k,hS,?_,hc⟩;exact Ze λq hq=>k _ _ (map_mem ht hq)
theorem rT{q O:Type}:∀{l:Z_ q}{m:Z_ O}{x:q},l.length=m.length->x∈l->∃y,(x,y)∈l.zip m
 |a::l,b::m,x,e,h=>by
  rcases Z0.mp h with rfl|h;exact⟨b,.head _⟩;obtain⟨y,hy⟩:=rT (Nat.succ.inj e) h;exact⟨y,.tail _ hy⟩
def walk_H{l:OpenLaw}{d:DefRec}{cs:Z_ (Str×ZM)}{sp:Frag->Sp}(hn:l.most=U n)(U6:n<=sizeLine)(NB:d.params.defaults=[])(hr:aaq k callerA)(QD:Lams.tb.length=cs.length)(F:∀(w:YV)(mg:Str->Z9 Z3)(fa:ZM)(h:Heap)(K:Frag),Seen defs bl cs K->GJ cs K->K.In h->h.Ns mainGlobals mg->mg d.name=U (.ref fa)->
   ∃fd:FuncData,(∀(s:ZT)(u:Z3),BindsTo s fd ⟨[u],[]⟩ [(x,u)])/\
    ∀base:Heap,K.In base->base.Ns mainGlobals mg->aa9 l.prog w K mg base CX k fa fd [x] (sp K)) (Md:∀(K:Frag)(H:Hp)(a:ZM)(ns:Z_ Int),ns.length<=n->FI H->SqL K H a (ns.map V.int)->sp K [.ref a] H (λv _=>v=.bl L) λ_ _ _=>False) (QM:∀(H:Hp)(s:ZT)(e:Z3)(s':ZT),CX [] H s (λ_ _ _=>False) e s'->False) (MH:∀q∈Lams.tb,∀r∈Lams.tb,q.1=r.1->q=r):
  WalkO q loose XP (YH defs bl cs) l.row.toRowW d [] (λf vs=>PySem.call f vs):=by
 refine Att.abG hn NB λw n_ e_ mg mb fa o pm cd doc a vs ns G Yq ho hd Jg hmg MV hints hlen hg=>?_;obtain⟨K,KX,S,ht,hL⟩:=Yq;obtain⟨fd,hb,hF⟩:=F w mg fa _ K S hL KX G.T.g hmg;exact xn KX G.T.g G.T.b G.T.builtins G.T.nolimit hg MV hints (ZF hlen U6) hr hF hb (λH hO hS=>Md K H a ns hlen hO hS) (λH e s'=>QM H e_ e s') G.T.bmain (λq hq=>⟨map_mem ht hq,map_mem hL.2 hq,by
  obtain⟨c,hz⟩:=rT QD hq;obtain⟨o,vs,_,_,_,_,_,_,_,e1,e2,e3,e4,_⟩:=codeHd_of_K KX (map_mem hL.1 hz);exact⟨c.2,o,vs,e1,e2,e3,e4⟩⟩) MH
end
def Txb(bl:Z_ Str)(mg:Str->Z9 Z3):Prop:=∀x∈bl,mg x=M
def Txb.get{bl:Z_ Str}{mg:Str->Z9 Z3}{x:Str}(T:Txb bl mg)(h:decide (x∈bl)=L):mg x=M:=T x (Zh h)
def us0{P:Z_ Z3->Prop}(h:P []):∀us:Z_ Z3,us.length=0->P us
 |[],_=>h
def usS{n:Nat}{P:Z_ Z3->Prop}(h:∀a us,us.length=n->P (a::us)):∀us:Z_ Z3,us.length=n+1->P us
 |a::us,e=>h a us (Nat.succ.inj e)
def Df(K:Z6)(mg:Str->Z9 Z3)(x:Str)(st:Stmt):Prop:=∃f fd,Fun K x x st f fd/\mg x=U (.ref f)
def DfC(K:Z6)(mg:Str->Z9 Z3)(x:Str)(st:Stmt)(c:ZM):Prop:=∃f fd,Fun K x x st f fd/\mg x=U (.ref f)/\fd.code=.ref c
section
variable[Lams]{P:Y5}{w:YV}{K:Z6}{mg:Str->Z9 Z3}{base:Heap}{x:Str}{st:Stmt}{f:ZM}
abbrev HB(x:Str)(st:Stmt)(N:Z_ Str)(n:Nat):Prop:=∀(kV doc pm:Z3)(an:Z9 ZM)(Jl ct:Z3)(us:Z_ Z3),us.length=(N.take n).length->bindArgs (W.fnOf x x (defArgs st) (defBody st) (defScope st) .none kV doc pm an Jl ct) ⟨us,[]⟩=pure ((N.take n).zip us)
abbrev HY(P:Y5)(w:YV)(K:Z6)(mg:Str->Z9 Z3)(base:Heap)(N:Z_ Str)(st:Stmt)(k:Nat)(J:Cx->Prop):Prop:=∀X:Cx,X.prog=P->X.w=w->X.K=K->X.mg=mg->X.base=base->Has X N (defScope st)->(∀x,X.fn x=L)->PassesOwn (model X.prog X.w) X.A X.env X.xe->aaq k X.A->J X
def mkF{fd:FuncData}{k:Nat}(n:Nat)(N:Z_ Str)(g:Mk->Z9 Out)(F:Fun K x x st f fd)(hm:mg x=U (.ref f))(S:aaw N (N.take n) (defScope st))
  (hb:HB x st N n)
  (body:HY P w K mg base N st k λX=>DSs X (defBody st) g):
  aa9 P w K mg base CX0 (k+1) f fd (N.take n) (spM K (bE N.length (N.take n).length g))/\FnM P w K mg base (k+1) x (bE N.length (N.take n).length g):=
 yK (P:=P) (w:=w) (base:=base) (g:=g) F S (F.binds hb) hm (by rw[XC];exact Nat.min_le_right ..) λA outer s H E hr=>body _ rfl rfl rfl rfl rfl (C4 S.nd) (λ_=>rfl) PassesOwn.never hr
theorem mk{k:Nat}(n:Nat)(N:Z_ Str)(g:Mk->Z9 Out)(D:Df K mg x st)(S:aaw N (N.take n) (defScope st):=by walk_at "sc")
  (hb:HB x st N n:=by walk_at "bi")
  (body:HY P w K mg base N st k (λX=>DSs X (defBody st) g):=by walk_at "mk"):FnM P w K mg base (k+1) x (bE N.length (N.take n).length g):=by
 obtain⟨f,fd,F,hm⟩:=D;exact(mkF n N g F hm S hb body).2
def mkN{k:Nat}(n:Nat)(N:Z_ Str)(g:Mk->Z9 Out)(D:Df K mg x st)(S:aaw N (N.take n) (defScope st):=by walk_at "sc")
  (hb:HB x st N n:=by walk_at "bi")
  (body:HY P w K mg base N st k (λX=>DUs X (defBody st) g):=by walk_at "mk"):FnN P w K mg base (k+1) x (bE N.length (N.take n).length g):=by
 obtain⟨f,fd,F,hm⟩:=D;exact Du (P:=P) (w:=w) (base:=base) (g:=g) F S (F.binds hb) hm (by rw[XC];exact Nat.min_le_right ..) λA outer s H E hr=>body _ rfl rfl rfl rfl rfl (C4 S.nd) (λ_=>rfl) PassesOwn.never hr
end
end L2
namespace K32
open PySem L2
local macro_rules| `(tactic|walk_at "z")=> `(tactic|first
 |fail_if_success refine(?_:(_:Prop))
 |rfl
 |assumption
 |(((with_reducible first|refine' @nv .. |refine' @kI .. |refine' @yG .. |refine' @v8 .. |refine' @pq .. |refine' @Ax .. |refine' @Dh .. |refine' @B1 .. |refine' @DH .. |refine' @wF .. |refine' @zI .. |refine' @wL .. |refine' @BX .. |refine' @DJ .. |refine' @AF .. |refine' @Dr .. |refine' @B2 .. |refine' @BW .. |refine' @A5 .. |refine' @uv .. |refine' @CH .. |refine' @wN .. |refine' @EK .. |refine' @yh .. |refine' @Ff .. |refine' @Fr .. |refine' @C7 .. |refine' @FF .. |refine' @oF .. |refine' @Ah .. |refine' @Bh .. |refine' @vU .. |refine' @lI .. |refine' @jm .. |refine' @oK .. |refine' @o6 .. |refine' @wj .. |refine' @uq .. |refine' @qD .. |refine' @Bx .. |refine' @vg .. |refine' @yE .. |refine' @yR .. |refine' @wJ .. |refine' @vF .. |refine' @wy .. |refine' @zK .. |refine' @DB .. |refine' @EF .. |refine' @wl .. |refine' @EI .. |refine' @FH .. |refine' @vm .. |refine' @zl .. |refine' @sG .. |refine' @vj .. |refine' @oN .. |refine' @A0 .. |refine' @vW .. |refine' @i8 .. |refine' @rC .. |refine' @AC .. |refine' @iS .. |refine' @AB .. |refine' @BU .. |refine' @E3 .. |refine' @uw .. |refine' @Dq .. |refine' @pK .. |refine' @gW .. |refine' @cz .. |refine' @lE .. |refine' @AA .. |refine' @nN .. |refine' @Cq .. |refine' @AN .. |refine' @zR .. |refine' @D4 .. |refine' @CS .. |refine' @jj .. |refine' @wH .. |refine' @z0 .. |refine' @AH .. |refine' @AZ .. |refine' @jn .. |refine' @tw .. |refine' @vv .. |refine' @Ac .. |refine' @A9 .. |refine' @CJ .. |refine' @E7 .. |refine' @Db .. |refine' @AW .. |refine' @A6 .. |refine' @Cs .. |refine' @Ey .. |refine' @vV .. |refine' @Dl .. |refine' @zS .. |refine' @AO .. |refine' @zV .. |refine' @Bz .. |refine' @uR .. |refine' @dU .. |refine' @mI .. |refine' @DF.share .. |refine' @ym .. |refine' @D7 .. |refine' PW.pt ..)<;>walk_at "z");all_goals exact false)
 |(have h:=(by assumption:Has _ _ _);first|exact Has.nm h (by decide +kernel)|exact Has.nm (Has.comp h ..) (by decide +kernel)|exact Has.nm (Has.comp (Has.comp h ..) ..) (by decide +kernel))
 |(have h:=(by assumption:Has _ _ _);first|exact Has.lc h (by assumption) (by decide +kernel)|exact Has.lcl (Has.comp h ..) (by decide +kernel)|exact Has.lcl (Has.comp (Has.comp h ..) ..) (by decide +kernel))
 |(refine Gb.gl ?_;walk_at "z")
 |(have h:=(by assumption:Has _ _ _);first|exact Has.gb h (by decide +kernel)|exact Has.gb (Has.comp h ..) (by decide +kernel)|exact Has.gb (Has.comp (Has.comp h ..) ..) (by decide +kernel))
 |(have h:=(by assumption:Txb _ _);exact Txb.get h (by decide +kernel))
 |(have h:=(by assumption:aaq _ _);exact aaq.mono h (by decide))
 |(have h:=(by assumption:Has _ _ _);first|exact Has.calm h|exact Has.calm (Has.comp h ..)|exact Has.calm (Has.comp (Has.comp h ..) ..))
 |(have h:=(by assumption:Has _ _ _);first|exact Has.nd h|exact Has.nd (Has.comp h ..)|exact Has.nd (Has.comp (Has.comp h ..) ..))
 |(have h:=(by assumption:Has _ _ _);first|exact aaf.of' h (by decide +kernel)|exact aaf.of' (Has.comp h ..) (by decide +kernel))
 |exact gV _
 |exact sY _ _ (by decide)
 |exact EU
 |exact Fx
 |exact EQ
 |exact Fz
 |exact Cf
 |exact Bp
 |exact DZ
 |exact tV
 |exact oS
 |exact bK (bK f8)
 |exact bK f8
 |exact bK (bK (bK f8))
 |exact⟨rfl,rfl,rfl,rfl,rfl⟩|(have h:=(by assumption:Has _ _ _);exact fj h (by decide +kernel))
 |exact vY
 |exact Ak
 |decide +kernel
 |decide
 |(simp;done)
 |(intros;rfl)
 |(intro _;walk_at "z"))
local macro_rules| `(tactic|walk_at "sc")=> `(tactic|first
 |exact⟨rfl,rfl,rfl,by decide +kernel,rfl,by decide +kernel,by decide +kernel⟩)
local macro_rules| `(tactic|walk_at "bi")=> `(tactic|first
 |exact λ_ _ _ _ _ _=>usS λ_=>us0 rfl
 |exact λ_ _ _ _ _ _=>usS λ_=>usS λ_=>us0 rfl
 |exact λ_ _ _ _ _ _=>usS λ_=>usS λ_=>usS λ_=>us0 rfl
 |exact λ_ _ _ _ _ _=>usS λ_=>usS λ_=>usS λ_=>usS λ_=>us0 rfl
 |exact λ_ _ _ _ _ _=>usS λ_=>usS λ_=>usS λ_=>usS λ_=>usS λ_=>us0 rfl)
local macro_rules| `(tactic|walk_at "mk")=> `(tactic|first
 |(intro X e1 e2 e3 e4 e5 h f p r;subst e1 e2 e3 e4 e5;have u:=r.units;(conv in defBody _=>whnf);walk_at "z"))
abbrev rY:=rd Y
variable[Lams]
abbrev Txt:(Str->Z9 Z3)->Prop:=Txb blK
abbrev HA:Z_ Str:=["row","cell_for","cell"]
abbrev tW(q:Mk):Z9 D:=ce (rY 1 q) (rY 2 q) (rY 2 q)
abbrev EM(q:Mk):Z9 Out:=dk (eY (aa (ixO (rY 0 q) (U (.int 0))) (aa (dw (av (af (yW (ixO (rY 0 q) (U (.int 1)))) (bR Y [Y,L,Y] (ae 2) (λq=>U L) tW q)))) (U []))))
def LA:Z_ D->Z9 (D×Bool):=bE 3 2 EM
abbrev Is:Z_ Str:=["patterns","fit","cell_for","pattern","cell","letter"]
abbrev yN(q:Mk):Z9 D:=eY (aa (eY (aa (U (.str "any")) (aa (rY 5 q) (U [])))) (aa (rY 4 q) (U [])))
abbrev zq(q:Mk):Z9 D:=shO (af (aa (rY 3 q) (aa (rY 2 q) (U []))) LA)
abbrev E8(q:Mk):Z9 Out:=aC (bC 2 (ix (av (af (bZ (rY 1 q)) (bR Y [Y,Y,Y,Y,Y,Y] (aL (aj (ae 5) (aj (ae 4) (aah)))) (λq=>U L) yN q)))) q) (λq=>dH (av (af (bZ (rY 0 q)) (bR Y [Y,Y,L,Y,Y,Y] (ae 3) (λq=>U L) zq q))))
def Lz:Z_ D->Z9 (D×Bool):=bE 6 2 E8
abbrev GX:Z_ Str:=["patterns","letters","table","terms","term"]
abbrev pD(q:Mk):Z9 D:=ixO (rY 4 q) (U (.int 1))
abbrev tR(q:Mk):Z9 Out:=yu 1 (av (af (yW (rY 3 q)) (bR Y [Y,Y,Y,Y,Y] (ae 4) (λq=>eqO (ixO (rY 4 q) (U (.int 0))) (U (.str "any"))) pD q))) q
abbrev yV(q:Mk):Z9 Out:=dH (cX (rY 1 q))
abbrev EW(q:Mk):Z9 Out:=aC (dZ 1 (dg (U [])) q) (λq=>aC (af (bZ (rY 0 q)) λds=>ar (λd q=>af ((aL (aj (ae 2) (aj (ae 3) (aah)))) d q) tR) ds q) (λq=>yV (aaK 1 q)))
def u_:Z_ D->Z9 (D×Bool):=bE 5 1 EW
abbrev GO:Z_ Str:=["terms","cells","binding","term","cell"]
abbrev y0(q:Mk):Z9 (Bool×Mk):=neX (sdO 2 (ixO (rY 3 q) (U (.int 1))) (rY 4 q) q) (λq=>rY 4 q)
abbrev ki(q:Mk):Z9 Out:=ifO (eqO (ixO (rY 3 q) (U (.int 0))) (U (.str "any"))) (ifX (y0 q) (λq=>dk (U .non)) (λq=>aan q)) (ifO (neO (rY 3 q) (rY 4 q)) (dk (U .non)) (aan q))
abbrev FG(q:Mk):Z9 Out:=aC (dZ 2 (U (.dK [] [])) q) (λq=>aC (af (zZ L L (rY 0 q) (rY 1 q)) λds=>ar (λd q=>af ((aL (aj (ae 3) (aj (ae 4) (aah)))) d q) ki) ds q) (λq=>dH (bQ 2 q)))
def Lx:Z_ D->Z9 (D×Bool):=bE 5 2 FG
abbrev Hy:Z_ Str:=["rows","pattern","found","table","cells","binding"]
abbrev iy(q:Mk):Z9 Out:=ifO (tY (eqO (rY 3 q) (ixO (rY 1 q) (U (.int 0)))) (eqO (iG (rY 4 q)) (iG (ixO (rY 1 q) (U (.int 1)))))) (aC (bC 5 (shO (af (aa (ixO (rY 1 q) (U (.int 1))) (aa (rY 4 q) (U []))) Lx)) q) (λq=>ifO (eQ (t7 (rY 5 q))) (ip 2 (rY 5 q) q) (aan q))) (aan q)
abbrev Ez(q:Mk):Z9 Out:=aC (dZ 2 (dg (U [])) q) (λq=>aC (af (bZ (rY 0 q)) λds=>ar (λd q=>af ((aL (aj (ae 3) (aj (ae 4) (aah)))) d q) iy) ds q) (λq=>dH (bQ 2 q)))
def KS:Z_ D->Z9 (D×Bool):=bE 6 2 Ez
abbrev Hh:Z_ Str:=["pattern","known","letter"]
abbrev sv(q:Mk):Z9 D:=ofB (inO (rY 2 q) (rY 1 q))
abbrev EG(q:Mk):Z9 Out:=dk (Em (av (af (bZ (frO (af (aa (dg (aa (rY 0 q) (U []))) (U [])) u_))) (bR Y [Y,L,Y] (ae 2) (λq=>U L) sv q))))
def Kc:Z_ D->Z9 (D×Bool):=bE 3 2 EG
abbrev FE:Z_ Str:=["rows","body","known","rest","placed","bound","linked","taken","pattern","pair"]
abbrev ll(q:Mk):Z9 D:=eY (aa (rY 8 q) (aa (frO (af (aa (rY 0 q) (aa (rY 8 q) (U []))) KS)) (U [])))
abbrev i0(q:Mk):Z9 D:=iG (ixO (rY 0 q) (U (.int 1)))
abbrev pv(q:Mk):Z9 D:=ixO (rY 9 q) (U (.int 0))
abbrev n8(q:Mk):Z9 Bool:=tyB (shO (af (aa (ixO (rY 9 q) (U (.int 0))) (aa (rY 5 q) (U []))) Kc))
abbrev tq(q:Mk):Z9 Out:=ip 4 (rY 7 q) q
abbrev kM(q:Mk):Z9 Bool:=vM (rd L 3 q)
abbrev lB(q:Mk):Z9 Out:=aC (bC 5 (w8 (hV (rY 2 q)) (flO (af (aa (av (gP (af (bZ (rd L 4 q)) (bR L [Y,Y,Y,Y,Y,Y,Y,Y,Y,Y] (ae 9) (λq=>U L) pv q)))) (U [])) u_))) q) (λq=>vC 3 6 7 9 [Y,Y,Y,Y,Y,L,Y,Y,Y,Y] n8 q tq)
abbrev L5(q:Mk):Z9 Out:=aC (dZ 3 (iP (av (af (bZ (rY 1 q)) (bR Y [L,Y,Y,Y,Y,Y,Y,Y,Y,Y] (ae 8) (λq=>U L) ll q))) (λd=>i0 [U (d,Y)])) q) (λq=>aC (dZ 4 (dg (U [])) q) (λq=>aC (dE kM lB 1000 q) (λq=>dH (bQ 4 q))))
def Ly:Z_ D->Z9 (D×Bool):=bE 10 3 L5
abbrev HV:Z_ Str:=["letters","known","letter"]
abbrev u8(q:Mk):Z9 D:=BJ (rY 1 q) (rY 2 q)
abbrev Ft(q:Mk):Z9 Out:=dH (av (af (bZ (rY 0 q)) (bR Y [Y,L,Y] (ae 2) (λq=>U L) u8 q)))
def Kb:Z_ D->Z9 (D×Bool):=bE 3 2 Ft
abbrev Ha:Z_ Str:=["found","shared","added","groups","binding","key","group","letter"]
abbrev Je(q:Mk):Z9 D:=BL (rY 4 q) (rY 7 q)
abbrev zm(q:Mk):Z9 D:=BL (rY 4 q) (rY 7 q)
abbrev zf(q:Mk):Z9 (Z_ D):=bZ (rY 0 q)
abbrev pN(q:Mk):Z9 D:=dw (av (af (bZ (rY 1 q)) (bR Y [Y,Y,Y,Y,L,Y,Y,Y] (ae 7) (λq=>U L) Je q)))
abbrev n5(q:Mk):Z9 D:=dw (av (af (bZ (rY 2 q)) (bR Y [Y,Y,Y,Y,L,Y,Y,Y] (ae 7) (λq=>U L) zm q)))
abbrev Fi(q:Mk):Z9 Out:=Cg 3 4 5 6 zf pN n5 q
def Lw:Z_ D->Z9 (D×Bool):=bE 8 3 Fi
abbrev HP:Z_ Str:=["cells","places","place"]
abbrev sR(q:Mk):Z9 D:=ixO (rY 0 q) (rY 2 q)
abbrev E5(q:Mk):Z9 Out:=dk (dw (av (af (bZ (rY 1 q)) (bR Y [L,Y,Y] (ae 2) (λq=>U L) sR q))))
def JR:Z_ D->Z9 (D×Bool):=bE 3 2 E5
abbrev Ii:Z_ Str:=["found","shared_places","kept_places","groups","longer","cells","kept","added"]
abbrev vB(q:Mk):Z9 Out:=xv 4 (sf (rY 6 q) (rY 7 q)) (U (.bl L)) q
abbrev uY(q:Mk):Z9 Out:=aC (bC 6 (shO (af (aa (rY 5 q) (aa (rY 2 q) (U []))) JR)) q) (λq=>af (xW (ce (rY 3 q) (shO (af (aa (rY 5 q) (aa (rY 1 q) (U []))) JR)) (U (.dD [] [])))) λds=>ar (λd q=>af ((ae 7) d q) vB) ds q)
abbrev zk(q:Mk):Z9 Out:=dH (ox (rY 4 q))
abbrev EX(q:Mk):Z9 Out:=aC (dZ 4 (U (.dD [] [])) q) (λq=>aC (af (bZ (rY 0 q)) λds=>ar (λd q=>af ((ae 5) d q) uY) ds q) (λq=>zk (aaK 4 q)))
def Lv:Z_ D->Z9 (D×Bool):=bE 8 4 EX
noncomputable abbrev Iu:Z_ Str:=["rows","body","wanted","known","found","pairs","place","pair","later","own","shared","added","kept","groups","wanted_places","letter","cells","behind"]
abbrev rJ(q:Mk):Z9 D:=ixO (rY 17 q) (U (.int 0))
abbrev yB(q:Mk):Z9 D:=rY 15 q
abbrev zu(q:Mk):Z9 D:=rY 15 q
abbrev zD(q:Mk):Z9 D:=rY 15 q
abbrev zw(q:Mk):Z9 Out:=aC (bC 13 (frO (af (aa (ixO (rY 7 q) (U (.int 1))) (aa (rY 10 q) (aa (rY 11 q) (U [])))) Lw)) q) (λq=>aC (bC 4 (frO (af (aa (rY 4 q) (aa (frO (af (aa (rY 10 q) (aa (rY 3 q) (U []))) Kb)) (aa (frO (af (aa (rY 12 q) (aa (rY 3 q) (U []))) Kb)) (aa (rY 13 q) (U []))))) Lv)) q) (λq=>bC 3 (w8 (rY 12 q) (rY 11 q)) q))
abbrev yJ(q:Mk):Z9 Out:=aC (dZ 12 (av (af (bZ (rY 3 q)) (bR Y [Y,Y,Y,Y,Y,Y,Y,Y,L,Y,Y,Y,Y,Y,Y,Y,Y,Y] (ae 15) (λq=>inO (rY 15 q) (rY 8 q)) zD q))) q) (λq=>zw (aaK 12 q))
abbrev yS(q:Mk):Z9 Out:=aC (dZ 11 (av (af (bZ (rY 9 q)) (bR Y [Y,Y,Y,L,Y,Y,Y,Y,L,Y,Y,Y,Y,Y,Y,Y,Y,Y] (ae 15) (λq=>tY (inO (rY 15 q) (rY 8 q)) (bB (rY 15 q) (rY 3 q))) zu q))) q) (λq=>yJ (aaK 11 q))
abbrev j8(q:Mk):Z9 Out:=aC (bC 8 (w8 (hV (rY 2 q)) (frO (af (aa (av (af (bZ (mG (rY 5 q) (gO (ij (rY 6 q) (U (.int 1)))) (U M))) (bR Y [Y,Y,Y,Y,Y,Y,Y,Y,Y,Y,Y,Y,Y,Y,Y,Y,Y,Y] (ae 17) (λq=>U L) rJ q))) (U [])) u_))) q) (λq=>aC (bC 9 (frO (af (aa (dg (aa (ixO (rY 7 q) (U (.int 0))) (U []))) (U [])) u_)) q) (λq=>aC (dZ 10 (av (af (bZ (rY 9 q)) (bR Y [Y,Y,Y,L,Y,Y,Y,Y,Y,Y,Y,Y,Y,Y,Y,Y,Y,Y] (ae 15) (λq=>inO (rY 15 q) (rY 3 q)) yB q))) q) (λq=>yS (aaK 10 q))))
abbrev yI(q:Mk):Z9 D:=shO (af (aa (rY 16 q) (aa (rY 14 q) (U []))) JR)
abbrev Fe(q:Mk):Z9 Out:=aC (bC 5 (frO (af (aa (rY 0 q) (aa (rY 1 q) (aa (rY 3 q) (U [])))) Ly)) q) (λq=>aC (af (wY (rY 5 q)) λds=>ar (λd q=>af ((aL (aj (ae 6) (aj (ae 7) (aah)))) d q) j8) ds q) (λq=>aC (bC 14 (frO (af (aa (rY 2 q) (aa (rY 3 q) (U []))) Kb)) q) (λq=>dH (dh .tt (av (af (bZ (rY 4 q)) (bR Y [Y,Y,Y,Y,Y,Y,Y,Y,Y,Y,Y,Y,Y,Y,L,Y,Y,Y] (ae 16) (λq=>U L) yI q)))))))
def JS:Z_ D->Z9 (D×Bool):=bE 18 5 Fe
abbrev HE:Z_ Str:=["rows","body","wanted"]
abbrev E6(q:Mk):Z9 Out:=dH (frO (af (aa (rY 0 q) (aa (rY 1 q) (aa (rY 2 q) (aa (dg (U [])) (aa (dg (aa (eY (U [])) (U []))) (U [])))))) JS))
def KU:Z_ D->Z9 (D×Bool):=bE 3 3 E6
abbrev Ga:Z_ Str:=["rows","body","known","found","letters","cells"]
abbrev zi(q:Mk):Z9 D:=l6 Y L (rY 4 q) (rY 5 q)
abbrev El(q:Mk):Z9 Out:=aC (bC 4 (frO (af (aa (rY 1 q) (U [])) u_)) q) (λq=>dH (av (af (bZ (frO (af (aa (rY 0 q) (aa (rY 1 q) (aa (rY 4 q) (aa (rY 2 q) (aa (rY 3 q) (U [])))))) JS))) (bR Y [Y,Y,Y,Y,L,Y] (ae 5) (λq=>U L) zi q))))
def Kd:Z_ D->Z9 (D×Bool):=bE 6 4 El
abbrev Hb:Z_ Str:=["rule"]
noncomputable abbrev FA(q:Mk):Z9 Out:=dk (eY (aa (U (.str "same")) (aa (eY (aa (ixO (rY 0 q) (U (.int 2))) (aa (ixO (rY 0 q) (U (.int 3))) (U [])))) (U []))))
def Ka:Z_ D->Z9 (D×Bool):=bE 1 1 FA
abbrev Hd:Z_ Str:=["rule","known","letter"]
abbrev ze(q:Mk):Z9 D:=rY 2 q
abbrev Ek(q:Mk):Z9 Out:=aC (ifO (eqO (ixO (rY 0 q) (U (.int 0))) (U (.str "same"))) (dH (frO (af (aa (dg (aa (shO (af (aa (rY 0 q) (U [])) Ka)) (U []))) (U [])) u_))) (aan q)) (λq=>aC (bC 1 (frO (af (aa (ixO (rY 0 q) (U (.int 1))) (U [])) u_)) q) (λq=>dH (av (af (bZ (frO (af (aa (ixO (rY 0 q) (U (.int 2))) (U [])) u_))) (bR Y [Y,L,Y] (ae 2) (λq=>inO (rY 2 q) (rY 1 q)) ze q)))))
def I_:Z_ D->Z9 (D×Bool):=bE 3 1 Ek
abbrev G1:Z_ Str:=["cells"]
abbrev FD(q:Mk):Z9 Out:=dk (ofB (neO (ixO (rY 0 q) (U (.int 0))) (ixO (rY 0 q) (U (.int 1)))))
def Lu:Z_ D->Z9 (D×Bool):=bE 1 1 FD
abbrev Ij:Z_ Str:=["rule","fit"]
abbrev Ep(q:Mk):Z9 Out:=dk (ixO (ixO (frO (af (aa (dg (aa (shO (af (aa (rY 0 q) (U [])) Ka)) (U []))) (aa (rY 1 q) (U []))) Lz)) (U (.int 0))) (U (.int 1)))
def Ls:Z_ D->Z9 (D×Bool):=bE 2 2 Ep
abbrev Iy:Z_ Str:=["rows","rule","letters","found","kept","cells"]
abbrev yg(q:Mk):Z9 D:=rY 5 q
abbrev yb(q:Mk):Z9 D:=eY (aa (rY 5 q) (aa (U (.bl L)) (U [])))
abbrev yU(q:Mk):Z9 D:=rY 5 q
abbrev Ef(q:Mk):Z9 Out:=aC (bC 2 (frO (af (aa (rY 1 q) (U [])) I_)) q) (λq=>aC (bC 3 (frO (af (aa (rY 0 q) (aa (ixO (rY 1 q) (U (.int 1))) (aa (rY 2 q) (U [])))) KU)) q) (λq=>aC (ifO (eqO (ixO (rY 1 q) (U (.int 0))) (U (.str "same"))) (dH (av (af (bZ (rY 3 q)) (bR Y [Y,L,L,Y,Y,Y] (ae 5) (λq=>tyB (shO (af (aa (shO (af (aa (rY 1 q) (aa (l6 Y L (rY 2 q) (rY 5 q)) (U []))) Ls)) (U [])) Lu))) yg q)))) (aan q)) (λq=>aC (bC 4 (ix (av (af (bZ (frO (af (aa (rY 0 q) (aa (ixO (rY 1 q) (U (.int 2))) (aa (rY 2 q) (U [])))) KU))) (bR Y [Y,Y,Y,Y,Y,Y] (ae 5) (λq=>U L) yb q)))) q) (λq=>dH (av (af (bZ (rY 3 q)) (bR Y [Y,Y,Y,Y,L,Y] (ae 5) (λq=>eQ (AR (rY 5 q) (rY 4 q))) yU q)))))))
def Jx:Z_ D->Z9 (D×Bool):=bE 6 2 Ef
abbrev GN:Z_ Str:=["rows","rule"]
abbrev Eb(q:Mk):Z9 Out:=dH (frO (af (aa (rY 0 q) (aa (ixO (rY 1 q) (U (.int 1))) (aa (frO (af (aa (rY 1 q) (U [])) I_)) (aa (frO (af (aa (rY 0 q) (aa (rY 1 q) (U []))) Jx)) (U []))))) Kd))
def JQ:Z_ D->Z9 (D×Bool):=bE 2 2 Eb
abbrev HI:Z_ Str:=["_law_cell","_law_j","_law_number"]
noncomputable abbrev Fb(q:Mk):Z9 Out:=aC (bC 2 (cF (ij (rH (rY 0 q) (ij (rH (U (.int 2)) (rY 1 q)) (U (.int 3)))) (rY 1 q)) (U (.int 2147483629))) q) (λq=>dk (cF (rH (ij (rH (rY 2 q) (rY 2 q)) (U (.int 1))) (U (.int 48271))) (U (.int 2147483629))))
def p_:Z_ D->Z9 (D×Bool):=bE 3 2 Fb
abbrev Hi:Z_ Str:=["_law_cell","_law_letters_here","_law_size","_law_stem","_law_at","_law_found","_law_k","_law_sign"]
abbrev tm(q:Mk):Z9 D:=vP (rY 1 q) (cF (shO (af (aa (rY 0 q) (aa (ij (U (.int 2)) (rY 6 q)) (U []))) p_)) (U (.int 26)))
noncomputable abbrev uh(q:Mk):Z9 Out:=aC (bC 7 (vP (rY 1 q) (cF (ij (ya (rY 1 q) (vP (rY 3 q) (rY 4 q))) (rH (U (.int 7)) (rY 6 q))) (U (.int 26)))) q) (λq=>ip 5 (AY (AY (mw (rY 3 q) (U M) (gO (rY 4 q))) (rY 7 q)) (mw (rY 3 q) (gO (ij (rY 4 q) (U (.int 1)))) (U M))) q)
noncomputable abbrev yT(q:Mk):Z9 Out:=dH (w8 (rY 5 q) (dg (aa (AY (rY 3 q) (vP (rY 1 q) (cF (shO (af (aa (rY 0 q) (aa (U (.int 10)) (U []))) p_)) (U (.int 26))))) (aa (mw (rY 3 q) (U M) (gO (FK (rY 2 q) (U (.int 1))))) (U [])))))
noncomputable abbrev EE(q:Mk):Z9 Out:=aC (bC 1 (U (.str "abcdefghijklmnopqrstuvwxyz")) q) (λq=>aC (bC 2 (ij (U (.int 2)) (cF (shO (af (aa (rY 0 q) (aa (U (.int 1)) (U []))) p_)) (U (.int 6)))) q) (λq=>aC (bC 3 (uN (U (.str "")) (av (af (vN (rY 2 q)) (bR Y [L,L,Y,Y,Y,Y,Y,Y] (ae 6) (λq=>U L) tm q)))) q) (λq=>aC (bC 4 (cF (shO (af (aa (rY 0 q) (aa (U (.int 9)) (U []))) p_)) (rY 2 q)) q) (λq=>aC (dZ 5 (dg (U [])) q) (λq=>aC (af (vN (U (.int 4))) λds=>ar (λd q=>af ((ae 6) d q) uh) ds q) (λq=>yT (aaK 5 q)))))))
def Lr:Z_ D->Z9 (D×Bool):=bE 8 1 EE
abbrev HF:Z_ Str:=["_law_cell"]
noncomputable abbrev Fu(q:Mk):Z9 Out:=dk (eY (aa (frO (af (aa (rY 0 q) (U [])) Lr)) (aa (cF (shO (af (aa (rY 0 q) (aa (U (.int 11)) (U []))) p_)) (U (.int 400000))) (aa (ij (U (.int 1)) (cF (shO (af (aa (rY 0 q) (aa (U (.int 12)) (U []))) p_)) (U (.int 50000)))) (U [])))))
def Lp:Z_ D->Z9 (D×Bool):=bE 1 1 Fu
abbrev He:Z_ Str:=["_law_cell","_law_letters_here","_law_start","_law_step","_law_k"]
abbrev rL(q:Mk):Z9 D:=vP (rY 1 q) (cF (ij (rY 2 q) (rH (rY 3 q) (rY 4 q))) (U (.int 26)))
noncomputable abbrev Fl(q:Mk):Z9 Out:=aC (bC 1 (U (.str "ABCDEFGHIJKLMNOPQRSTUVWXYZ")) q) (λq=>aC (bC 2 (cF (shO (af (aa (rY 0 q) (aa (U (.int 13)) (U []))) p_)) (U (.int 26))) q) (λq=>aC (bC 3 (ixO (dg (U [(.int 1),(.int 3),(.int 5),(.int 7),(.int 9),(.int 11)])) (cF (shO (af (aa (rY 0 q) (aa (U (.int 14)) (U []))) p_)) (U (.int 6)))) q) (λq=>dH (av (af (vN (U (.int 4))) (bR Y [Y,L,L,L,Y] (ae 4) (λq=>U L) rL q))))))
def Lo:Z_ D->Z9 (D×Bool):=bE 5 1 Fl
abbrev HR:Z_ Str:=["_law_world_here","_law_number","_law_words_here","_law_start","_law_step"]
abbrev Eh(q:Mk):Z9 Out:=aC (vK (rY 0 q) (aL (aj (ae 2) (aj (ae 3) (aj (ae 4) (aah))))) q) (λq=>aC (ifO (eqO (cF (rY 1 q) (U (.int 2))) (U (.int 0))) (dk (eY (aa (U (.str "blank")) (aa (ij (rY 3 q) (rH (rY 4 q) (ot (cF (ot (rY 1 q) (U (.int 2))) (U (.int 12))) (ij (U (.int 1)) (cF (ot (rY 1 q) (U (.int 24))) (U (.int 6))))))) (U []))))) (aan q)) (λq=>dk (eY (aa (U (.str "name")) (aa (ixO (rY 2 q) (ot (cF (ot (rY 1 q) (U (.int 2))) (U (.int 6))) (ij (U (.int 1)) (cF (ot (rY 1 q) (U (.int 12))) (U (.int 4)))))) (U []))))))
def KQ:Z_ D->Z9 (D×Bool):=bE 5 2 Eh
abbrev GT:Z_ Str:=["_law_world_here","_law_cell","_law_size","_law_cells","_law_k"]
abbrev rS(q:Mk):Z9 D:=shO (af (aa (rY 0 q) (aa (shO (af (aa (rY 1 q) (aa (ij (U (.int 3)) (rY 4 q)) (U []))) p_)) (U []))) KQ)
noncomputable abbrev zj(q:Mk):Z9 Out:=dk (eY (aa (ixO (ixO (rY 0 q) (U (.int 0))) (cF (shO (af (aa (rY 1 q) (aa (U (.int 2)) (U []))) p_)) (U (.int 2)))) (aa (dw (rY 3 q)) (U []))))
abbrev EZ(q:Mk):Z9 Out:=aC (bC 2 (ixO (dg (aa (U (.int 1)) (aa (U (.int 2)) (aa (U (.int 2)) (aa (U (.int 3)) (U [])))))) (cF (shO (af (aa (rY 1 q) (aa (U (.int 1)) (U []))) p_)) (U (.int 4)))) q) (λq=>aC (dZ 3 (av (af (vN (rY 2 q)) (bR Y [L,L,Y,Y,Y] (ae 4) (λq=>U L) rS q))) q) (λq=>zj (aaK 3 q)))
def J_:Z_ D->Z9 (D×Bool):=bE 5 2 EZ
abbrev Hj:Z_ Str:=["_law_rows","_law_found","_law_row_here"]
abbrev nY(q:Mk):Z9 Out:=ifO (bB (rY 2 q) (rd L 1 q)) (ip 1 (rY 2 q) q) (aan q)
abbrev Fk(q:Mk):Z9 Out:=aC (dZ 1 (dg (U [])) q) (λq=>aC (af (bZ (dh .ts (rY 0 q))) λds=>ar (λd q=>af ((ae 2) d q) nY) ds q) (λq=>dH (bQ 1 q)))
def Ln:Z_ D->Z9 (D×Bool):=bE 3 1 Fk
abbrev Hc:Z_ Str:=["_law_world_here","_law_letters_here","_law_rows","_law_cell","_law_table","_law_cells","_law_terms","_law_k","_law_drawn"]
abbrev pV(q:Mk):Z9 Out:=aC (bC 8 (shO (af (aa (rY 3 q) (aa (ij (U (.int 17)) (rY 7 q)) (U []))) p_)) q) (λq=>aC (ifO (orO (eqO (ixO (ixO (rY 5 q) (rY 7 q)) (U (.int 0))) (U (.str "blank"))) (eqO (cF (rY 8 q) (U (.int 2))) (U (.int 1)))) (ip 6 (eY (aa (U (.str "any")) (aa (ixO (rY 1 q) (cF (ot (rY 8 q) (U (.int 2))) (U (.int 4)))) (U [])))) q) (ip 6 (ixO (rY 5 q) (rY 7 q)) q)) (λq=>ifO (eqO (cF (rY 8 q) (U (.int 13))) (U (.int 1))) (kg 6 (rY 7 q) (eY (aa (U (.str "name")) (aa (ixO (ixO (rY 0 q) (U (.int 0))) (cF (ot (rY 8 q) (U (.int 13))) (U (.int 6)))) (U [])))) q) (aan q)))
abbrev zh(q:Mk):Z9 Out:=dk (eY (aa (rY 4 q) (aa (dw (rY 6 q)) (U []))))
abbrev FJ(q:Mk):Z9 Out:=aC (vK (shO (af (aa (rY 0 q) (aa (rY 3 q) (U []))) J_)) (aL (aj (ae 4) (aj (ae 5) (aah)))) q) (λq=>aC (ifO (neO (rY 2 q) (dg (U []))) (vK (ixO (rY 2 q) (cF (shO (af (aa (rY 3 q) (aa (U (.int 16)) (U []))) p_)) (iG (rY 2 q)))) (aL (aj (ae 4) (aj (ae 5) (aah)))) q) (aan q)) (λq=>aC (dZ 6 (dg (U [])) q) (λq=>aC (af (vN (iG (rY 5 q))) λds=>ar (λd q=>af ((ae 7) d q) pV) ds q) (λq=>zh (aaK 6 q)))))
def Lm:Z_ D->Z9 (D×Bool):=bE 9 4 FJ
abbrev HG:Z_ Str:=["_law_fit","_law_terms","_law_cells","_law_found","_law_term_here","_law_cell","_law_letter","_law_known"]
abbrev fE(q:Mk):Z9 Bool:=tY (eqO (rY 6 q) (ixO (rY 4 q) (U (.int 1)))) (neO (rY 7 q) (rY 5 q))
abbrev lF(q:Mk):Z9 Out:=aC (ifO (tY (eqO (ixO (rY 4 q) (U (.int 0))) (U (.str "name"))) (neO (rY 4 q) (rY 5 q))) (dk (U .non)) (aan q)) (λq=>ifO (eqO (ixO (rY 4 q) (U (.int 0))) (U (.str "any"))) (aC (gR (aL (aj (ae 6) (aj (ae 7) (aah)))) fE (bZ (rd L 3 q)) q) (λq=>ifO (bB (eY (aa (ixO (rY 4 q) (U (.int 1))) (aa (rY 5 q) (U [])))) (rd L 3 q)) (ip 3 (eY (aa (ixO (rY 4 q) (U (.int 1))) (aa (rY 5 q) (U [])))) q) (aan q))) (aan q))
abbrev E2(q:Mk):Z9 Out:=aC (ifO (neO (iG (rY 1 q)) (iG (rY 2 q))) (dk (U .non)) (aan q)) (λq=>aC (dZ 3 (hV (rY 0 q)) q) (λq=>aC (af (zZ L L (rY 1 q) (rY 2 q)) λds=>ar (λd q=>af ((aL (aj (ae 4) (aj (ae 5) (aah)))) d q) lF) ds q) (λq=>dH (bQ 3 q))))
def Ll:Z_ D->Z9 (D×Bool):=bE 8 3 E2
abbrev G4:Z_ Str:=["_law_rows","_law_body","_law_begun","_law_found","_law_pattern_here","_law_more","_law_row_here","_law_fit"]
abbrev sn(q:Mk):Z9 Out:=ifO (eqO (ixO (rY 6 q) (U (.int 0))) (ixO (rY 4 q) (U (.int 0)))) (ip 5 (shO (af (aa (rY 7 q) (aa (ixO (rY 4 q) (U (.int 1))) (aa (ixO (rY 6 q) (U (.int 1))) (U [])))) Ll)) q) (aan q)
abbrev u6(q:Mk):Z9 Out:=af (bZ (rY 3 q)) λds=>ar (λd q=>af ((ae 7) d q) sn) ds q
abbrev zF(q:Mk):Z9 D:=rY 7 q
abbrev yf(q:Mk):Z9 Out:=aan q
abbrev zt(q:Mk):Z9 Out:=aC (dZ 3 (av (af (bZ (rY 5 q)) (bR Y [Y,Y,Y,Y,Y,Y,Y,Y] (ae 7) (λq=>eQ (t7 (rY 7 q))) zF q))) q) (λq=>yf (aaK 3 q))
abbrev oA(q:Mk):Z9 Out:=aC (dZ 5 (dg (U [])) q) (λq=>aC (af (bZ (rY 0 q)) λds=>ar (λd q=>af ((ae 6) d q) u6) ds q) (λq=>zt (aaK 5 q)))
abbrev FB(q:Mk):Z9 Out:=aC (bC 3 (dg (aa (rY 2 q) (U []))) q) (λq=>aC (af (bZ (rY 1 q)) λds=>ar (λd q=>af ((ae 4) d q) oA) ds q) (λq=>dk (rY 3 q)))
def KP:Z_ D->Z9 (D×Bool):=bE 8 3 FB
abbrev Id:Z_ Str:=["_law_term_here","_law_fit","_law_letter","_law_cell"]
abbrev sF(q:Mk):Z9 Out:=ifO (eqO (rY 0 q) (eY (aa (U (.str "any")) (aa (rY 2 q) (U []))))) (dk (rY 3 q)) (aan q)
abbrev ET(q:Mk):Z9 Out:=aC (af (bZ (rY 1 q)) λds=>ar (λd q=>af ((aL (aj (ae 2) (aj (ae 3) (aah)))) d q) sF) ds q) (λq=>dk (rY 0 q))
def KO:Z_ D->Z9 (D×Bool):=bE 4 2 ET
abbrev Iz:Z_ Str:=["_law_body","_law_found","_law_table","_law_terms","_law_term_here"]
abbrev ou(q:Mk):Z9 D:=rY 4 q
abbrev sr(q:Mk):Z9 Out:=yu 1 (av (af (yW (rY 3 q)) (bR Y [Y,Y,Y,Y,Y] (ae 4) (λq=>eqO (ixO (rY 4 q) (U (.int 0))) (U (.str "any"))) ou q))) q
abbrev Fa(q:Mk):Z9 Out:=aC (dZ 1 (dg (U [])) q) (λq=>aC (af (bZ (rY 0 q)) λds=>ar (λd q=>af ((aL (aj (ae 2) (aj (ae 3) (aah)))) d q) sr) ds q) (λq=>dH (bQ 1 q)))
def Lk:Z_ D->Z9 (D×Bool):=bE 5 1 Fa
abbrev GV:Z_ Str:=["_law_world_here","_law_body","_law_number","_law_some"]
abbrev Fc(q:Mk):Z9 Out:=aC (bC 3 (frO (af (aa (rY 1 q) (U [])) Lk)) q) (λq=>aC (ifO (orO (eqO (rY 3 q) (dg (U []))) (eqO (cF (rY 2 q) (U (.int 4))) (U (.int 0)))) (dk (eY (aa (U (.str "name")) (aa (ixO (ixO (rY 0 q) (U (.int 0))) (cF (ot (rY 2 q) (U (.int 4))) (U (.int 6)))) (U []))))) (aan q)) (λq=>dk (ixO (rY 3 q) (cF (ot (rY 2 q) (U (.int 4))) (iG (rY 3 q))))))
def JO:Z_ D->Z9 (D×Bool):=bE 4 3 Fc
abbrev Iv:Z_ Str:=["_law_rows","_law_rule","_law_due","_law_kept","_law_found","_law_fit","_law_pair"]
abbrev tZ(q:Mk):Z9 D:=rY 6 q
abbrev EA(q:Mk):Z9 Out:=aC (bC 3 (hV (rY 0 q)) q) (λq=>aC (bC 4 (lsO (frO (af (aa (rY 0 q) (aa (rY 1 q) (U []))) JQ))) q) (λq=>ifQ 4 (λq=>dk (U (.bl Y))) (orO (eQ (tyB (vR "list" (rY 4 q)))) (orO (neO (rY 4 q) (dh .ls (rY 2 q))) (neO (rY 0 q) (rY 3 q)))) (pQ 4 5 (λq=>orO (eQ (tyB (vR "list" (rY 5 q)))) (neO (av (af (bZ (rY 5 q)) (bR Y [Y,Y,Y,Y,Y,Y,Y] (ae 6) (λq=>eQ (tyB (vR "tuple" (rY 6 q)))) tZ q))) (dg (U [])))) (λq=>dk (U (.bl Y))) (λq=>dk (F5 (ofB (eqO (rY 0 q) (rY 3 q))) (ofB (eqO (frO (af (aa (rY 0 q) (aa (rY 1 q) (U []))) JQ)) (dh .ls (rY 2 q)))))) q) q))
def KN:Z_ D->Z9 (D×Bool):=bE 7 3 EA
noncomputable abbrev acq:Z_ Str:=["_law_script","_law_cells","_law_total","_law_world_here","_law_letters_here","_law_rows","_law_drawn","_law_body","_law_head","_law_kept","_law_due","_law_same","_law_one","_law_other","_law_fit","_law_k","_law_cell"]
abbrev mW(q:Mk):Z9 D:=shO (af (aa (rY 3 q) (aa (rY 16 q) (U []))) J_)
abbrev mH(q:Mk):Z9 D:=shO (af (aa (rY 3 q) (aa (rY 4 q) (aa (rY 5 q) (aa (ij (ij (rH (rY 2 q) (U (.int 5))) (rH (rY 15 q) (rY 15 q))) (rH (U (.int 3)) (rY 15 q))) (U []))))) Lm)
abbrev mV(q:Mk):Z9 Out:=aC (ifO (tY (eqO (shO (af (aa (rY 5 q) (aa (rY 8 q) (aa (rY 14 q) (U [])))) KP)) (dg (U []))) (bB (dh .ts (rY 14 q)) (rd L 10 q))) (ip 10 (dh .ts (rY 14 q)) q) (aan q)) (λq=>ifO (tY (neO (shO (af (aa (rY 12 q) (aa (rY 14 q) (U []))) KO)) (shO (af (aa (rY 13 q) (aa (rY 14 q) (U []))) KO))) (bB (dh .ts (rY 14 q)) (rd L 11 q))) (ip 11 (dh .ts (rY 14 q)) q) (aan q))
abbrev rW(q:Mk):Z9 Out:=aC (bC 7 (mG (rY 6 q) (U M) (gO (ij (U (.int 1)) (cF (shO (af (aa (rY 2 q) (aa (U (.int 30)) (U []))) p_)) (U (.int 2)))))) q) (λq=>aC (bC 8 (mG (rY 6 q) (gO (U (.int 2))) (gO (ij (U (.int 3)) (cF (shO (af (aa (rY 2 q) (aa (U (.int 31)) (U []))) p_)) (U (.int 2)))))) q) (λq=>aC (bC 9 (dg (aa (hV (rY 7 q)) (aa (hV (rY 8 q)) (U [])))) q) (λq=>aC (dZ 10 (dg (U [])) q) (λq=>aC (dZ 11 (dg (U [])) q) (λq=>aC (bC 12 (shO (af (aa (rY 3 q) (aa (rY 7 q) (aa (shO (af (aa (rY 2 q) (aa (U (.int 32)) (U []))) p_)) (U [])))) JO)) q) (λq=>aC (bC 13 (shO (af (aa (rY 3 q) (aa (rY 7 q) (aa (shO (af (aa (rY 2 q) (aa (U (.int 33)) (U []))) p_)) (U [])))) JO)) q) (λq=>aC (af (bZ (shO (af (aa (rY 5 q) (aa (rY 7 q) (aa (dg (U [])) (U [])))) KP))) λds=>ar (λd q=>af ((ae 14) d q) mV) ds q) (λq=>aC (ifO (orO (eQ (tyB (shO (af (aa (rd L 5 q) (aa (eY (aa (U (.str "must")) (aa (rd L 7 q) (aa (rd L 8 q) (U []))))) (aa (rd L 10 q) (U [])))) KN)))) (eQ (tyB (shO (af (aa (rd L 5 q) (aa (eY (aa (U (.str "same")) (aa (rd L 7 q) (aa (rd L 12 q) (aa (rd L 13 q) (U [])))))) (aa (rd L 11 q) (U [])))) KN))))) (dk (U (.bl Y))) (aan q)) (λq=>dk (ofB (eqO (dg (aa (rY 7 q) (aa (rY 8 q) (U [])))) (rY 9 q))))))))))))
abbrev zM(q:Mk):Z9 Out:=aC (bC 1 (mG (rY 0 q) (U M) (gO (U (.int 10)))) q) (λq=>aC (bC 2 (cF (CF (rY 1 q)) (U (.int 1000003))) q) (λq=>aC (bC 3 (shO (af (aa (rY 2 q) (U [])) Lp)) q) (λq=>aC (bC 4 (frO (af (aa (rY 2 q) (U [])) Lo)) q) (λq=>aC (bC 5 (frO (af (aa (av (af (bZ (rY 1 q)) (bR Y [Y,Y,Y,L,Y,Y,Y,Y,Y,Y,Y,Y,Y,Y,Y,Y,Y] (ae 16) (λq=>U L) mW q))) (U [])) Ln)) q) (λq=>aC (dZ 6 (av (af (vN (U (.int 4))) (bR Y [Y,Y,L,L,L,L,Y,Y,Y,Y,Y,Y,Y,Y,Y,Y,Y] (ae 15) (λq=>U L) mH q))) q) (λq=>rW (aaK 6 q)))))))
def f_law:Z_ D->Z9 (D×Bool):=bE 17 1 zM
section
variable{P:Y5}{w:YV}{K:Z6}{m:Str->Z9 Z3}{b:Heap}(T:Txt m)
include T
theorem Hq(D:Df K m "exchanged" Gw):FnM P w K m b 1 "exchanged" LA:=
 mk 2 HA EM D
theorem Im(D:Df K m "filled" Gc)(_:FnM P w K m b 1 "exchanged" LA):FnM P w K m b 2 "filled" Lz:=
 mk 2 Is E8 D
theorem Iw(D:Df K m "letters_of" GC):FnM P w K m b 1 "letters_of" u_:=
 mk 1 GX EW D
theorem Ip(D:Df K m "binding_of" F1):FnM P w K m b 1 "binding_of" Lx:=
 mk 2 GO FG D
theorem Ih(D:Df K m "bindings" GK)(_:FnM P w K m b 1 "binding_of" Lx):FnM P w K m b 2 "bindings" KS:=
 mk 2 Hy Ez D
theorem G8(D:Df K m "is_linked" Gi)(_:FnM P w K m b 1 "letters_of" u_):FnM P w K m b 2 "is_linked" Kc:=
 mk 2 Hh EG D
omit T in
def Dp:aaw FE (["rows","body","known"]:Z_ Str) (defScope BH):=⟨rfl,rfl,rfl,by decide +kernel,rfl,by decide +kernel,by decide +kernel⟩
omit T in
theorem Ic{X:Cx}(hX:Has X FE (defScope BH))(hf:∀x,X.fn x=L)(hp:PassesOwn (model X.prog X.w) X.A X.env X.xe)(hr:aaq 3 X.A)(T:Txt X.mg)(P_ c_:ZM)(Oa:((P_,("search_order.<locals>.<lambda>":Str)):ZM×Str)∈Lams.tb)(VL:X.env.qual++"<lambda>"=("search_order.<locals>.<lambda>":Str))(Ob:W.CodeHd X.base c_ P_)(VM:X.env.code=.ref c_)(M7:FnM X.prog X.w X.K X.mg X.base 1 "letters_of" u_)(M5:FnM X.prog X.w X.K X.mg X.base 2 "bindings" KS)(M6:FnM X.prog X.w X.K X.mg X.base 2 "is_linked" Kc):
  DSs X (defBody BH) L5:=by
 have hu:=hr.units;have n1:Nm X 1 "body":=hX.nm (by decide +kernel);have n2:Nm X 2 "known":=hX.nm (by decide +kernel);have n3:Nm X 3 "rest":=hX.nm (by decide +kernel);have l3:Lc X 3 "rest":=hX.lc hf (by decide +kernel);have n4:Nm X 4 "placed":=hX.nm (by decide +kernel);have l4:Lc X 4 "placed":=hX.lc hf (by decide +kernel);have l5:Lc X 5 "bound":=hX.lc hf (by decide +kernel);have n6:Nm X 6 "linked":=hX.nm (by decide +kernel);have n7:Nm X 7 "taken":=hX.nm (by decide +kernel);have l7:Lc X 7 "taken":=hX.lc hf (by decide +kernel);have OO:Gb X "letters_of":=hX.gb (by decide +kernel);have L9:Gb X "list":=hX.gb (by decide +kernel);have KY:Gb X "sorted":=hX.gb (by decide +kernel);refine' @dU _ _ _ _ _ _ ?z1 ?_
 case z1=>
  refine' @i8 _ _ _ _ _ _ _ _ hX.nd l3 ?z2 (by rfl)
  case z2=>
   refine' @nW _ _ _ _ _ i0 _ _ _ _ _ _ _ _ _ "pair" 0 (hr.mono (by decide)) KY.gl (Txb.get (x:="sorted") T (by decide +kernel)) Oa VL Ob VM rfl rfl ⟨rfl,rfl,rfl,by decide +kernel,rfl,by decide +kernel,by decide +kernel⟩ (λ_ _ _ _ _=>.of_eq rfl) ?z3 ?z4 (by rfl)
   case z3=>
    intro _ _ _ _ _ _;exact @uv _ _ Y Y _ _ _ _ ((C4 (N:=["pair"]) (by decide +kernel)).gb (x:="len") (by decide +kernel)) (Txb.get (x:="len") T (by decide +kernel)) (@v8 _ _ Y Y _ _ _ _ _ (@nv _ _ _ _ _ Y ((C4 (N:=["pair"]) (by decide +kernel)).nm (i:=0) (by decide +kernel))) (@kI _ _ Y _ _ _) (by exact λ_ _=>rfl)) (by rfl)
   case z4=>
    refine' @DF.share _ _ Y _ _ ?z5
    case z5=>
     refine' @vF _ _ _ _ _ _ _ _ _ _ _ _ _ hX.calm (gV 8) (@nN _ _ Y _ _ _ (@nv _ _ _ _ _ Y n1)) (aaf.of' hX (by decide +kernel)) (λcl C b_ d_ ex pn=>@jj _ _ _ _ _ (hX.comp _ cl C b_ d_ ex pn).nd ((hX.comp _ cl C b_ d_ ex pn).lcl (i:=8) (by decide +kernel))) (λcl C b_ d_ ex pn=>@jn _ _) ?z6 (by intro _;rfl)
     case z6=>
      intro cl C b_ d_ ex pn;refine' @yh _ _ Y _ _ _ _ ?z7
      case z7=>
       refine' @cz _ _ Y _ _ _ _ (@nv _ _ _ _ _ Y ((hX.comp _ cl C b_ d_ ex pn).nm (i:=8) (by decide +kernel))) ?z8 (by rfl)
       case z8=>
        refine' @cz _ _ Y _ _ _ _ ?z9 (@gW _ _ _) (by rfl)
        case z9=>
         refine' @DF.share _ _ Y _ _ ?OV
         case OV=>
          refine' @o6 _ _ _ _ _ _ _ _ _ _ M5 (hr.mono (by decide)) ((hX.comp _ cl C b_ d_ ex pn).gb (x:="bindings") (by decide +kernel)) ?OU (by rfl) (by rfl)
          case OU=>
           exact @cz _ _ Y _ _ _ _ (@nv _ _ _ _ _ Y ((hX.comp _ cl C b_ d_ ex pn).nm (i:=0) (by decide +kernel))) (@cz _ _ Y _ _ _ _ (@nv _ _ _ _ _ Y ((hX.comp _ cl C b_ d_ ex pn).nm (i:=8) (by decide +kernel))) (@gW _ _ _) (by rfl)) (by rfl)
 refine' @dU _ _ _ _ _ _ ?OT ?_
 case OT=>
  exact @i8 _ _ _ _ _ _ _ _ hX.nd l4 (@yE _ _ _ _ _ (@gW _ _ _)) (by rfl)
 refine @dU _ _ _ _ _ _ (@pK _ _ _ _ kM lB _ 1000 hp (@zl _ _ _ _ _ (@nv _ _ _ _ _ L n3) (by intro _;rfl)) ?_) ?_
 .refine' @dU _ _ _ _ _ _ ?OR ?_
  case OR=>
   refine' @vj _ _ _ _ _ _ _ _ hX.nd l5 ?TV (by rfl)
   case TV=>
    refine' @DF.share _ _ Y _ _ ?TU
    case TU=>
     refine' @yR _ _ _ _ _ _ _ ?TR ?TQ
     case TR=>
      exact @DF.share _ _ Y _ _ (@uq _ _ _ _ _ _ L9.gl (Txb.get (x:="list") T (by decide +kernel)) (@nv _ _ _ _ _ Y n2) (by rfl))
     case TQ=>
      refine' @DF.share _ _ Y _ _ ?TN
      case TN=>
       refine' @lI _ _ _ _ _ _ _ _ _ _ M7 (hr.mono (by decide)) OO ?TM (by rfl) (by rfl)
       case TM=>
        refine' @cz _ _ _ _ _ _ _ ?TL (@gW _ _ _) (by rfl)
        case TL=>
         refine' @DF.share _ _ L _ _ ?TK
         case TK=>
          refine' @oK _ _ _ _ _ _ _ _ _ _ _ _ _ hX.calm (gV 9) (@nN _ _ _ _ _ _ (@nv _ _ _ _ _ L n4)) (aaf.of' hX (by decide +kernel)) (λcl C b_ d_ ex pn=>@jj _ _ _ _ _ (hX.comp _ cl C b_ d_ ex pn).nd ((hX.comp _ cl C b_ d_ ex pn).lcl (i:=9) (by decide +kernel))) (λcl C b_ d_ ex pn=>@jn _ _) ?TJ (by intro _;rfl)
          case TJ=>
           intro cl C b_ d_ ex pn;exact @v8 _ _ Y Y _ _ _ _ _ (@nv _ _ _ _ _ Y ((hX.comp _ cl C b_ d_ ex pn).nm (i:=9) (by decide +kernel))) (@kI _ _ Y _ _ _) (by exact λ_ _=>rfl)
  refine' @uB _ _ 3 9 6 7 _ _ _ _ ([Y,Y,Y,Y,Y,L,Y,Y,Y,Y]) _ _ n8 _ tq _ _ _ _ _ _ _ _ _ _ _ _ _ _ _ _ _ _ _ _ _ _ _ hu hX.nd hX.calm n3 n6 n7 l7 (j7 hX (by decide +kernel)) (by decide) (by decide) (by decide) (aaf.of' hX (by decide +kernel)) (λcl C b_ d_ ex pn=>jy (hX.comp _ cl C b_ d_ ex pn).nd ((hX.comp _ cl C b_ d_ ex pn).lcl (i:=9) (x:="pair") (by decide +kernel)).at' ((hX.comp _ cl C b_ d_ ex pn).lcl (i:=9) (x:="pair") (by decide +kernel)).loc ((hX.comp _ cl C b_ d_ ex pn).lcl (i:=9) (x:="pair") (by decide +kernel)).fnl) ?TH (λcl C b_ d_ ex pn=>aZ ((hX.comp _ cl C b_ d_ ex pn).nm (i:=9) (x:="pair") (by decide +kernel)).at' ((hX.comp _ cl C b_ d_ ex pn).nm (i:=9) (x:="pair") (by decide +kernel)).vis (by decide) (by decide)) ?_ (fj hX (by decide +kernel)) (by intro _;rfl) (by rfl) (by intro _;rfl) (λ_ _=>rfl) (λ_ _=>rfl) ⟨by rfl,by rfl,by rfl,by rfl,by rfl⟩ (by rfl)
  case TH=>
   intro cl C b_ d_ ex pn;refine' @tw _ _ _ _ ?TF
   case TF=>
    refine' @ym _ _ Y _ _ ?TC (by intro _;rfl)
    case TC=>
     refine' @pq _ _ Y _ _ _ _ _ _ _ _ M6 (hr.mono (by decide)) ((hX.comp _ cl C b_ d_ ex pn).gb (x:="is_linked") (by decide +kernel)) ?TB (by rfl) (by rfl)
     case TB=>
      exact @cz _ _ Y _ _ _ _ (@v8 _ _ Y Y _ _ _ _ _ (@nv _ _ _ _ _ Y ((hX.comp _ cl C b_ d_ ex pn).nm (i:=9) (by decide +kernel))) (@kI _ _ Y _ _ _) (by exact λ_ _=>rfl)) (@cz _ _ Y _ _ _ _ (@nv _ _ _ _ _ Y ((hX.comp _ cl C b_ d_ ex pn).nm (i:=5) (by decide +kernel))) (@gW _ _ _) (by rfl)) (by rfl)
  refine @mI _ _ _ _ (@iS _ _ _ _ _ _ _ _ _ _ n4 (@nv _ _ _ _ _ Y n7) ⟨by rfl,by rfl,by rfl,by rfl,by rfl⟩ (by rfl))
 refine @mI _ _ _ _ (@oN _ _ _ _ _ _ n4)
theorem HJ{c_ P_:ZM}(D:DfC K m "search_order" BH c_)(Oa:((P_,("search_order.<locals>.<lambda>":Str)):ZM×Str)∈Lams.tb)(Ob:W.CodeHd b c_ P_)(M7:FnM P w K m b 1 "letters_of" u_)(M5:FnM P w K m b 2 "bindings" KS)(M6:FnM P w K m b 2 "is_linked" Kc):
  FnM P w K m b 4 "search_order" Ly:=by
 obtain⟨f,fd,F,hm,OM⟩:=D;have hb:=F.binds (ps:=["rows","body","known"]) (by walk_at "bi");have h:=yK (P:=P) (w:=w) (base:=b) (k:=3) (g:=L5) F Dp hb hm (by decide) λA outer s H E hr=>by
  exact @Ic _ ((pF CX0 P w K m b FE "search_order" (defScope BH) f fd.code A outer s H E).nox) (C4 Dp.nd) (λ_=>rfl) PassesOwn.never hr T P_ c_ Oa rfl Ob OM M7 M5 M6
 exact h.2
theorem Hs(D:Df K m "places_of" GB):FnM P w K m b 1 "places_of" Kb:=
 mk 2 HV Ft D
theorem H0(D:Df K m "grouped" Gd):FnM P w K m b 1 "grouped" Lw:=
 mk 3 Ha Fi D
theorem G9(D:Df K m "picked" Gh):FnM P w K m b 1 "picked" JR:=
 mk 2 HP E5 D
theorem G6(D:Df K m "extended" Gs)(_:FnM P w K m b 1 "picked" JR):FnM P w K m b 2 "extended" Lv:=
 mk 4 Ii EX D
theorem Ib(D:Df K m "joined_from" FM)(_:FnM P w K m b 1 "letters_of" u_)(_:FnM P w K m b 4 "search_order" Ly)(_:FnM P w K m b 1 "places_of" Kb)(_:FnM P w K m b 1 "grouped" Lw)(_:FnM P w K m b 1 "picked" JR)(_:FnM P w K m b 2 "extended" Lv):FnM P w K m b 5 "joined_from" JS:=
 mk 5 Iu Fe D
theorem HD(D:Df K m "joined" F9)(_:FnM P w K m b 5 "joined_from" JS):FnM P w K m b 6 "joined" KU:=
 mk 3 HE E6 D
theorem Hg(D:Df K m "fits_from" Fg)(_:FnM P w K m b 1 "letters_of" u_)(_:FnM P w K m b 5 "joined_from" JS):FnM P w K m b 6 "fits_from" Kd:=
 mk 4 Ga El D
def nz(D:Df K m "fits_from" Fg)(_:FnM P w K m b 1 "letters_of" u_)(_:FnM P w K m b 5 "joined_from" JS):FnN P w K m b 6 "fits_from" Kd:=
 mkN 4 Ga El D
theorem HZ(D:Df K m "two_terms" GA):FnM P w K m b 1 "two_terms" Ka:=
 mk 1 Hb FA D
theorem HU(D:Df K m "deciding_letters" FV)(_:FnM P w K m b 1 "letters_of" u_)(_:FnM P w K m b 1 "two_terms" Ka):FnM P w K m b 2 "deciding_letters" I_:=
 mk 1 Hd Ek D
theorem Hx(D:Df K m "is_unlike" Gk):FnM P w K m b 1 "is_unlike" Lu:=
 mk 1 G1 FD D
theorem Hr(D:Df K m "two_cells" FZ)(_:FnM P w K m b 2 "filled" Lz)(_:FnM P w K m b 1 "two_terms" Ka):FnM P w K m b 3 "two_cells" Ls:=
 mk 2 Ij Ep D
theorem GS(D:Df K m "broken_cells" F0)(_:FnM P w K m b 6 "joined" KU)(_:FnM P w K m b 2 "deciding_letters" I_)(_:FnM P w K m b 1 "is_unlike" Lu)(_:FnM P w K m b 3 "two_cells" Ls):FnM P w K m b 7 "broken_cells" Jx:=
 mk 2 Iy Ef D
theorem G3(D:Df K m "broken" Fj)(_:FnM P w K m b 6 "fits_from" Kd)(_:FnM P w K m b 2 "deciding_letters" I_)(_:FnM P w K m b 7 "broken_cells" Jx):FnM P w K m b 8 "broken" JQ:=
 mk 2 GN Eb D
def wn(D:Df K m "broken" Fj)(_:FnN P w K m b 6 "fits_from" Kd)(_:FnM P w K m b 2 "deciding_letters" I_)(_:FnM P w K m b 7 "broken_cells" Jx):FnN P w K m b 8 "broken" JQ:=
 mkN 2 GN Eb D
theorem Ix(D:Df K m "_law_mix" GF):FnM P w K m b 1 "_law_mix" p_:=
 mk 2 HI Fb D
theorem HM(D:Df K m "_law_words" Gg)(_:FnM P w K m b 1 "_law_mix" p_):FnM P w K m b 2 "_law_words" Lr:=
 mk 1 Hi EE D
theorem HL(D:Df K m "_law_world" FP)(_:FnM P w K m b 1 "_law_mix" p_)(_:FnM P w K m b 2 "_law_words" Lr):FnM P w K m b 3 "_law_world" Lp:=
 mk 1 HF Fu D
theorem HQ(D:Df K m "_law_letters" F7)(_:FnM P w K m b 1 "_law_mix" p_):FnM P w K m b 2 "_law_letters" Lo:=
 mk 1 He Fl D
theorem Ik(D:Df K m "_law_cell_by" F6):FnM P w K m b 1 "_law_cell_by" KQ:=
 mk 2 HR Eh D
theorem Hv(D:Df K m "_law_row" FR)(_:FnM P w K m b 1 "_law_mix" p_)(_:FnM P w K m b 1 "_law_cell_by" KQ):FnM P w K m b 2 "_law_row" J_:=
 mk 2 GT EZ D
theorem Ht(D:Df K m "_law_stand" FT):FnM P w K m b 1 "_law_stand" Ln:=
 mk 1 Hj Fk D
theorem HX(D:Df K m "_law_pattern" F8)(_:FnM P w K m b 1 "_law_mix" p_)(_:FnM P w K m b 2 "_law_row" J_):FnM P w K m b 3 "_law_pattern" Lm:=
 mk 4 Hc FJ D
theorem Hn(D:Df K m "_law_joined" FQ):FnM P w K m b 1 "_law_joined" Ll:=
 mk 3 HG E2 D
theorem IA(D:Df K m "_law_fits" FY)(_:FnM P w K m b 1 "_law_joined" Ll):FnM P w K m b 2 "_law_fits" KP:=
 mk 3 G4 FB D
theorem GR(D:Df K m "_law_cell_of" Gx):FnM P w K m b 1 "_law_cell_of" KO:=
 mk 2 Id ET D
theorem GU(D:Df K m "_law_unknowns" FS):FnM P w K m b 1 "_law_unknowns" Lk:=
 mk 1 Iz Fa D
theorem Hu(D:Df K m "_law_term" Gm)(_:FnM P w K m b 1 "_law_unknowns" Lk):FnM P w K m b 2 "_law_term" JO:=
 mk 3 GV Fc D
theorem HW(D:Df K m "_law_told" FO)(_:FnM P w K m b 8 "broken" JQ)(_:FnN P w K m b 8 "broken" JQ):FnM P w K m b 9 "_law_told" KN:=
 mk 3 Iv EA D
def FC(F:Fun K "law" "law" s_law f fd)(hm:m "law"=U (.ref f))(_:FnM P w K m b 1 "_law_mix" p_)(_:FnM P w K m b 3 "_law_world" Lp)(_:FnM P w K m b 2 "_law_letters" Lo)(_:FnM P w K m b 2 "_law_row" J_)(_:FnM P w K m b 1 "_law_stand" Ln)(_:FnM P w K m b 3 "_law_pattern" Lm)(_:FnM P w K m b 2 "_law_fits" KP)(_:FnM P w K m b 1 "_law_cell_of" KO)(_:FnM P w K m b 2 "_law_term" JO)(_:FnM P w K m b 9 "_law_told" KN):aa9 P w K m b CX0 10 f fd (acq.take 1) (spM K f_law):=
 (mkF 1 acq zM F hm (by walk_at "sc") (by walk_at "bi") (by walk_at "mk")).1
end
end K32
namespace K32
open PySem L2
variable[Lams]
def all_mk{l:W.OpenLaw}(S:Seen defsK blK [("search_order",c_)] K)(X:K.In h)(G:h.Ns mainGlobals mg)(Pq:mg "law"=U (.ref fa))(Oa:((P_,("search_order.<locals>.<lambda>":Str)):ZM×Str)∈Lams.tb)(Ob:W.codeHdIn K c_ P_=L):
  ∃fd:FuncData,(∀(s:ZT)(v:Z3),BindsTo s fd ⟨[v],[]⟩ [("_law_script",v)])/\∀base:Heap,K.In base->base.Ns mainGlobals mg->aa9 l.prog w K mg base CX0 10 fa fd ["_law_script"] (spM K f_law):=by
 have T:Txt mg:=S.txt X G;obtain⟨f,fd,F,hm⟩:=S.df X G 34 rfl;cases Pq.symm.trans hm;have F':=F;obtain⟨oc,od,kV,doc,pm,an,Jl,ct,Nq,rfl,_,_⟩:=F'.ex;refine⟨W.fnOf "law" "law" (defArgs s_law) (defBody s_law) (defScope s_law) .none kV doc pm an Jl ct,λs v=>.of_eq rfl,λbase KB _=>?_⟩;have M_exchanged:=@Hq _ l.prog w K mg base T (S.df X G 0 rfl);have M_filled:=@Im _ l.prog w K mg base T (S.df X G 1 rfl) M_exchanged;have M_letters_of:=@Iw _ l.prog w K mg base T (S.df X G 2 rfl);have M_binding_of:=@Ip _ l.prog w K mg base T (S.df X G 3 rfl);have M_bindings:=@Ih _ l.prog w K mg base T (S.df X G 4 rfl) M_binding_of;have M_is_linked:=@G8 _ l.prog w K mg base T (S.df X G 5 rfl) M_letters_of;have M_search_order:=@HJ _ l.prog w K mg base T c_ P_ (S.dfC X G 6 0 rfl rfl) Oa (W.codeHd_of_K KB Ob) M_letters_of M_bindings M_is_linked;have M_places_of:=@Hs _ l.prog w K mg base T (S.df X G 7 rfl);have M_grouped:=@H0 _ l.prog w K mg base T (S.df X G 8 rfl);have M_picked:=@G9 _ l.prog w K mg base T (S.df X G 9 rfl);have M_extended:=@G6 _ l.prog w K mg base T (S.df X G 10 rfl) M_picked;have M_joined_from:=@Ib _ l.prog w K mg base T (S.df X G 11 rfl) M_letters_of M_search_order M_places_of M_grouped M_picked M_extended;have M_joined:=@HD _ l.prog w K mg base T (S.df X G 12 rfl) M_joined_from;have M_fits_from:=@Hg _ l.prog w K mg base T (S.df X G 13 rfl) M_letters_of M_joined_from;have M_two_terms:=@HZ _ l.prog w K mg base T (S.df X G 14 rfl);have M_deciding_letters:=@HU _ l.prog w K mg base T (S.df X G 15 rfl) M_letters_of M_two_terms;have M_is_unlike:=@Hx _ l.prog w K mg base T (S.df X G 16 rfl);have M_two_cells:=@Hr _ l.prog w K mg base T (S.df X G 17 rfl) M_filled M_two_terms;have M_broken_cells:=@GS _ l.prog w K mg base T (S.df X G 18 rfl) M_joined M_deciding_letters M_is_unlike M_two_cells;have M_broken:=@G3 _ l.prog w K mg base T (S.df X G 19 rfl) M_fits_from M_deciding_letters M_broken_cells;have LH:=wn (P:=l.prog) (w:=w) (b:=base) T (S.df X G 19 rfl) (nz T (S.df X G 13 rfl) M_letters_of M_joined_from) M_deciding_letters M_broken_cells;have M__law_mix:=@Ix _ l.prog w K mg base T (S.df X G 20 rfl);have M__law_words:=@HM _ l.prog w K mg base T (S.df X G 21 rfl) M__law_mix;have M__law_world:=@HL _ l.prog w K mg base T (S.df X G 22 rfl) M__law_mix M__law_words;have M__law_letters:=@HQ _ l.prog w K mg base T (S.df X G 23 rfl) M__law_mix;have M__law_cell_by:=@Ik _ l.prog w K mg base T (S.df X G 24 rfl);have M__law_row:=@Hv _ l.prog w K mg base T (S.df X G 25 rfl) M__law_mix M__law_cell_by;have M__law_stand:=@Ht _ l.prog w K mg base T (S.df X G 26 rfl);have M__law_pattern:=@HX _ l.prog w K mg base T (S.df X G 27 rfl) M__law_mix M__law_row;have M__law_joined:=@Hn _ l.prog w K mg base T (S.df X G 28 rfl);have M__law_fits:=@IA _ l.prog w K mg base T (S.df X G 29 rfl) M__law_joined;have M__law_cell_of:=@GR _ l.prog w K mg base T (S.df X G 30 rfl);have M__law_unknowns:=@GU _ l.prog w K mg base T (S.df X G 31 rfl);have M__law_term:=@Hu _ l.prog w K mg base T (S.df X G 32 rfl) M__law_unknowns;have M__law_told:=@HW _ l.prog w K mg base T (S.df X G 33 rfl) M_broken LH;exact FC T F Pq M__law_mix M__law_world M__law_letters M__law_row M__law_stand M__law_pattern M__law_fits M__law_cell_of M__law_term M__law_told
open JP
def na:(("name":Str)="any")=False:=by simp;decide +kernel
theorem at0(a b:D):atI [a,b] 0=U a:=rfl
theorem at1(a b:D):atI [a,b] 1=U b:=rfl
def IC(a:D)(r:Z_ D):atI (a::r) 0=U a:=by unfold atI ixN;simp
theorem gw:∀ts:Z_ Te,(ans ts).length<=ts.length
 |[]=>ZP _
 |.any m::ts=>by have:=gw ts;simp[ans];lia
 |.nm w::ts=>by have:=gw ts;simp[ans];lia
def aW(ps:Z_ Pat):Z_ Str:=(ps.map λp=>ans p.2).flatten
def bW:l∈aW ps↔∃p∈ps,l∈ans p.2:=by
 unfold aW;rw[List.mem_flatten];constructor
 rintro⟨x,hx,hl⟩
 obtain⟨p,hp,rfl⟩:=ZQ.mp hx;exact⟨p,hp,hl⟩
 rintro⟨p,hp,hl⟩
 exact⟨_,ZQ.mpr ⟨p,hp,rfl⟩,hl⟩
theorem aU:∀{ps:Z_ Pat},(∀p∈ps,p.2.length<=4)->(aW ps).length<=4*ps.length
 |[],_=>ZP _
 |p::ps,h=>by
  have h1:=aU λq hq=>h q (Z1 _ hq);have h2:=gw p.2;have h3:=h p (ZZ ..);have:aW (p::ps)=ans p.2++aW ps:=by simp[aW]
  rw[this,Zv,bG];lia
def xV(ts:Z_ Te):bq (az (ae 4) (λq=>eqO (ixO (rd Y 4 q) (U (.int 0))) (U (.str "any"))) pD [M,M,M,M,M]) (ts.map teD)=U ((ans ts).map D.str):=by
 induction ts with
 |nil=>rfl
 |cons c ts ih=>
  rw[Z2];unfold bq;rw[ih];cases c with
  |any n=>simp[az,teD,pD,at0,at1,aM,ans]
  |nm w=>simp[az,teD,pD,at0,at1,aM,na,ans]
theorem lM:∀(rs:Z_ Pat)(acc:Z_ Str)(a0 x2 x3 x4:Z9 (D×Bool)),(∀r∈rs,r.2.length<=4)->acc.length+4*rs.length<=1000->∃y2 y3,
  ar (λd O=>af ((aL (aj (ae 2) (aj (ae 3) (aah)))) d O) tR) (rs.map WC) [a0,U (.lst (acc.map D.str),L),x2,x3,x4]=U (.next [a0,U (.lst ((acc++aW rs).map D.str),L),y2,y3,x4])
 |[],acc,a0,x2,x3,x4,_,_=>⟨x2,x3,by simp[ar,aW]⟩
 |r::rs,acc,a0,x2,x3,x4,h4,hl=>by
  have hr:=h4 r (ZZ ..);have hb:=gw r.2;rw[bG]at hl;obtain⟨y2,y3,e⟩:=lM rs (acc++ans r.2) a0 (U (.str r.1,Y)) (U (.tup (r.2.map teD),Y)) x4 (λq hq=>h4 q (Z1 _ hq)) (by simp;lia);refine⟨y2,y3,?_⟩;have en:acc++aW (r::rs)=acc++ans r.2++aW rs:=by simp[aW]
  rw[en,<-e,Z2]
  conv=>lhs;unfold ar
  simp[WC,tR];rw[aJ (by simp;lia)];simp[au];have:=xV r.2;rw[this];simp[yz];rw[ZR (by lia)]
def aI(hl:ps.length<=4)(h4:∀p∈ps,p.2.length<=4):u_ [.lst (ps.map WC)]=U (.lst (sU (aW ps)),L):=by
 obtain⟨y2,y3,e⟩:=lM ps [] (U (.lst (ps.map WC),Y)) M M M h4 (by simp;lia);have:=aU h4;rw[am (f:=u_) (d:=[U (.lst (ps.map WC),Y),M,M,M,M]) rfl rfl rfl];rw[Y6]at e;simp[EW];rw[e];simp[yV];rw[lU (by lia)];simp
def jx(ss:Z_ Str):∃us:Z_ Str,sU ss=us.map D.str/\us.Nodup/\(∀x,x∈us↔x∈ss)/\us.length<=ss.length:=by
 have hp:=bu (uS ss);exact⟨fw (uS ss),rfl,hp.nodup_iff.mpr (eD ss),λx=>hp.mem_iff.trans (iW x ss),hp.length_eq▸uU ss⟩
def bD(b:Bi):D:=.dK (b.map λq=>.inr q.1) (b.map λq=>ceD q.2)
theorem uP(l:Str):∀b:Bi,b9 (.inr l:Key) (b.map λq=>(.inr q.1:Key)) (b.map λq=>ceD q.2)=(gt b l).map ceD
 |[]=>rfl
 |(k,c)::b=>by
  rw[Z2,Z2,b9,cw,uP l b];by_cases h:k=l;subst h;simp;rw[ZK (λz=>h (by cases z;rfl)),ZK h]
def uT(b:Bi)(l:Str):bT (U (bD b)) (U (.str l))=U ((gt b l).map ceD):=by
 unfold bD bT;simp only[iR,uP]
def vn(h:gt b l=M):l∉b.map (·.1):=by
 induction b with
 |nil=>simp
 |cons q b ih=>
  obtain⟨k,c⟩:=q;rw[cw]at h;split at h;trivial;rename_i n;simp only[Z2,Z0,Xq];exact⟨λz=>n z.symm,ih h⟩
def Bs(h:gt b l=M)(hl:b.length<1000000):jZ (bD b) (.str l) (ceD c)=U (bD (b++[(l,c)])):=by
 unfold bD jZ;have hm:(.inr l:Key)∉b.map λq=>(.inr q.1:Key):=λz=>by
  obtain⟨q,hq,e⟩:=ZQ.mp z;exact vn h (ZQ.mpr ⟨q,hq,by cases e;rfl⟩)
 simp only[iR,ZJ];rw[ZR (by rw[aam];exact hl)];unfold ji yj;rw[ZK hm,ZK hm];simp
def wo(c:Ce):okD 16 (ceD c)=L:=by cases c<;>rfl
def DY(t:Te):okD 16 (teD t)=L:=by cases t<;>rfl
def iY(a b:Ce):neO (U (ceD a)) (U (ceD b))=U (!decide (a=b)):=by
 rw[Bv _ _ (by unfold ok2;rw[wo,wo];rfl)];congr 2;exact YE.mpr ⟨eW,λh=>by rw[h]⟩
def Gv(a b:Ce):eqO (U (ceD a)) (U (ceD b))=U (decide (a=b)):=by
 rw[lf _ _ (by unfold ok2;rw[wo,wo];rfl)];congr 1;exact YE.mpr ⟨eW,λh=>by rw[h]⟩
def zn(w:Str)(c:Ce):neO (U (teD (.nm w))) (U (ceD c))=U (!decide (Ce.nm w=c)):=iY (.nm w) c
theorem gT:∀(ts:Z_ Te)(cs:Z_ Ce),cC (ts.map teD) (cs.map ceD)=(ts.zip cs).map λq=>.tup [teD q.1,ceD q.2]
 |[],cs=>by simp[cC]
 |t::ts,[]=>by simp[cC]
 |t::ts,c::cs=>by simp[cC,gT ts cs]
theorem fX:∀(ts:Z_ Te)(cs:Z_ Ce)(b:Bi)(a0 a1 x3 x4:Z9 (D×Bool)),b.length+ts.length<1000->
  (match bnd ts cs b with
  |some b'=>∃y3 y4,ar (λd O=>af ((aL (aj (ae 3) (aj (ae 4) (aah)))) d O) ki) ((ts.zip cs).map λq=>.tup [teD q.1,ceD q.2]) [a0,a1,U (bD b,L),x3,x4]=U (.next [a0,a1,U (bD b',L),y3,y4])
  |none=>ar (λd O=>af ((aL (aj (ae 3) (aj (ae 4) (aah)))) d O) ki) ((ts.zip cs).map λq=>.tup [teD q.1,ceD q.2]) [a0,a1,U (bD b,L),x3,x4]=U (.ret .non Y))
 |[],cs,b,a0,a1,x3,x4,_=>⟨x3,x4,by simp[ar]⟩
 |.any l::ts,[],b,a0,a1,x3,x4,_=>⟨x3,x4,by simp[ar]⟩
 |.nm l::ts,[],b,a0,a1,x3,x4,_=>⟨x3,x4,by simp[ar]⟩
 |.any l::ts,c::cs,b,a0,a1,x3,x4,hl=>by
  have ih:=λb hb=>fX ts cs b a0 a1 (U (teD (.any l),Y)) (U (ceD c,Y)) hb;rw[bG]at hl;rw[List.zip_cons_cons,Z2];unfold ar;have e0:eqO (ixO (rd Y 3 [a0,a1,U (bD b,L),U (teD (.any l),Y),U (ceD c,Y)]) (U (.int 0))) (U (.str "any"))=U L:=by simp[teD,at0,aM]
  have e1:ixO (rd Y 3 [a0,a1,U (bD b,L),U (teD (.any l),Y),U (ceD c,Y)]) (U (.int 1))=U (.str l):=by simp[teD,at1]
  have e2:rd Y 4 [a0,a1,U (bD b,L),U (teD (.any l),Y),U (ceD c,Y)]=U (ceD c):=by simp
  simp only[aaF,aaz,aaG,aae,Zm,bG,fU,PK,aQ,aP,Nat.reduceAdd,Nat.reduceLT];simp only[ki,e0,aaE,y0,e1,e2,sdO,abS,abT,uT,bnd];cases eg:gt b l with
  |some c'=>
   simp only[Option.map_some,neX,PK,e2,iY];by_cases hc:c'=c;simp only[hc,Yn,YA,ifX,aav,Y1];have:=ih b (by lia);cases eb:bnd ts cs b with
   |some b'=>rw[eb]at this;exact this
   |none=>rw[eb]at this;exact this
   simp only[hc,Yo,XW,ifX,abe,Zb]
  |none=>
   simp only[Option.map_none,Bs eg (show b.length<1000000 by lia)];simp only[neX,PK,aQ,aP];have e3:rd Y 4 [a0,a1,U (bD (b++[(l,c)]),L),U (teD (.any l),Y),U (ceD c,Y)]=U (ceD c):=by simp
   simp only[e3,iY,Yn,YA,ifX,aav];have:=ih (b++[(l,c)]) (by simp;lia);cases eb:bnd ts cs (b++[(l,c)])with
   |some b'=>rw[eb]at this;exact this
   |none=>rw[eb]at this;exact this
 |.nm w::ts,c::cs,b,a0,a1,x3,x4,hl=>by
  have ih:=fX ts cs b a0 a1 (U (teD (.nm w),Y)) (U (ceD c,Y)) (by simp at hl;lia);rw[List.zip_cons_cons,Z2];unfold ar;have e0:eqO (ixO (rd Y 3 [a0,a1,U (bD b,L),U (teD (.nm w),Y),U (ceD c,Y)]) (U (.int 0))) (U (.str "any"))=U Y:=by simp[teD,at0,aM,na]
  have e1:rd Y 3 [a0,a1,U (bD b,L),U (teD (.nm w),Y),U (ceD c,Y)]=U (teD (.nm w)):=by simp
  have e2:rd Y 4 [a0,a1,U (bD b,L),U (teD (.nm w),Y),U (ceD c,Y)]=U (ceD c):=by simp
  simp only[aaF,aaz,aaG,aae,Zm,bG,fU,PK,aQ,aP,Nat.reduceAdd,Nat.reduceLT];have e00:eqO (ixO (U (teD (.nm w))) (U (.int 0))) (U (.str "any"))=U Y:=by simp[teD,at0,aM,na]
  simp only[ki,e0,e00,aaO,e1,e2,zn,bnd];by_cases hc:Ce.nm w=c;simp only[hc,Yn,YA,aaO,aav,Y1];exact ih;rw[ZK hc];simp only[hc,Yo,XW,aaE,abe]
def ja(ts:Z_ Te)(cs:Z_ Ce)(hl:ts.length<=4):Lx [.tup (ts.map teD),.tup (cs.map ceD)]=U (match bnd ts cs []with|some b=>(bD b,L)|none=>(.non,Y)):=by
 rw[am (f:=Lx) (d:=[U (.tup (ts.map teD),Y),U (.tup (cs.map ceD),Y),M,M,M]) rfl rfl rfl];have:=fX ts cs [] (U (.tup (ts.map teD),Y)) (U (.tup (cs.map ceD),Y)) M M (by simp;lia);have e0:(.dK [] []:D)=bD []:=rfl;simp only[FG,aaA,bG,fU,Nat.reduceAdd,Nat.reduceLT,aQ,aP,VW,aab,aad,zZ,DN,Y1,abI,PK,gT,e0];cases eb:bnd ts cs []with
 |some b=>
  rw[eb]at this;obtain⟨y3,y4,e⟩:=this;rw[e];simp
 |none=>
  rw[eb]at this;rw[this];simp
def Cu(b:Bi):t7 (U (bD b))=U Y:=by simp[t7,bD]
theorem im(h4:p.2.length<=4):∀(rs:Z_ Row)(acc:Z_ Bi)(a0 x3 x4 x5:Z9 (D×Bool)),acc.length+rs.length<=100000->∃y3 y4 y5,
  ar (λd q=>af ((aL (aj (ae 3) (aj (ae 4) (aah)))) d q) iy) (rs.map aE) [a0,U (WC p,Y),U (.lst (acc.map bD),L),x3,x4,x5]=U (.next [a0,U (WC p,Y),U (.lst ((acc++binds rs p).map bD),L),y3,y4,y5])
 |[],acc,a0,x3,x4,x5,_=>⟨x3,x4,x5,by simp[ar,binds]⟩
 |r::rs,acc,a0,x3,x4,x5,hl=>by
  rw[bG]at hl;rw[Z2];have e1:eqO (U (.str r.1)) (ixO (U (WC p)) (U (.int 0)))=U (decide (r.1=p.1)):=by simp[WC,at0,aM]
  have e2:eqO (iG (U (.tup (r.2.map ceD)))) (iG (ixO (U (WC p)) (U (.int 1))))=U (decide (r.2.length=p.2.length)):=by
   simp only[WC,ab_,at1,abM,ZJ,aa0];congr 1;exact YE.mpr (by lia)
  have e3:ixO (U (WC p)) (U (.int 1))=U (.tup (p.2.map teD)):=by simp[WC,at1]
  have body:∃y5,iy [a0,U (WC p,Y),U (.lst (acc.map bD),L),U (.str r.1,Y),U (.tup (r.2.map ceD),Y),x5]=U (.next [a0,U (WC p,Y),U (.lst ((acc++(gY p r).toList).map bD),L),U (.str r.1,Y),U (.tup (r.2.map ceD),Y),y5]):=by
   simp only[iy,aab,aad,e1,e2];unfold gY;by_cases c1:r.1=p.1;by_cases c2:r.2.length=p.2.length;rw[ZR ⟨c1,c2⟩];simp only[c1,c2,Yn,abN,aaE,e3,VV,PK,ja p.2 r.2 h4];cases eb:bnd p.2 r.2 []with
   |some b=>
    refine⟨U (bD b,Y),?_⟩;simp[Cu];rw[gC (ds:=acc.map bD) (bD b) rfl (by simp;lia)];simp
   |none=>
    refine⟨U (.non,Y),?_⟩;simp[t7]
   rw[ZK (λz=>c2 z.2)];exact⟨x5,by simp[c1,c2]⟩;rw[ZK (λz=>c1 z.1)];exact⟨x5,by simp[c1]⟩
  obtain⟨TY,eb⟩:=body;have hle:(gY p r).toList.length<=1:=by cases gY p r<;>simp
  obtain⟨y3,y4,y5,e⟩:=im h4 rs (acc++(gY p r).toList) a0 (U (.str r.1,Y)) (U (.tup (r.2.map ceD),Y)) TY (by simp;lia);refine⟨y3,y4,y5,?_⟩;have en:acc++binds (r::rs) p=acc++(gY p r).toList++binds rs p:=by
   unfold binds;rw[List.filterMap_cons];cases gY p r<;>simp
  rw[en,<-e]
  conv=>lhs;unfold ar
  have et:af ((aL (aj (ae 3) (aj (ae 4) (aah)))) (aE r) [a0,U (WC p,Y),U (.lst (acc.map bD),L),x3,x4,x5]) iy=iy [a0,U (WC p,Y),U (.lst (acc.map bD),L),U (.str r.1,Y),U (.tup (r.2.map ceD),Y),x5]:=by
   simp[aE]
  rw[et,eb]
def mN(h4:p.2.length<=4)(hl:rs.length<=1000):KS [.lst (rs.map aE),WC p]=U (.lst ((binds rs p).map bD),L):=by
 rw[am (f:=KS) (d:=[U (.lst (rs.map aE),Y),U (WC p,Y),M,M,M,M]) rfl rfl rfl];obtain⟨y3,y4,y5,e⟩:=im h4 rs [] (U (.lst (rs.map aE),Y)) M M M (by simp;lia);simp[Ez];rw[Y6]at e;rw[e];simp
def jU(rs:Z_ Row)(p:Pat):(binds rs p).length<=rs.length:=WU ..
def prD(rs:Z_ Row)(p:Pat):D:=.tup [WC p,.lst ((binds rs p).map bD)]
def fu(l:Str)(ss:Z_ Str):inO (U (.str l)) (U (.lst (ss.map D.str)))=U (decide (l∈ss)):=by
 unfold inO;simp only[aT];rw[ZR];congr 1;apply YE.mpr;simp;rw[ZH,ZO];refine⟨rfl,λx hx=>?_⟩;obtain⟨c,_,rfl⟩:=ZQ.mp hx;rfl
def xH(bs:Z_ Bool):ff (bs.map D.bl)=U bs:=by
 induction bs with
 |nil=>rfl
 |cons b bs ih=>simp[ff,ih]
def lk(ks:Z_ Str)(p:Pat):Bool:=(ans p.2).any λl=>decide (l∈ks)
def sK(p:Pat)(h4:p.2.length<=4)(ks:Z_ Str):Kc [WC p,.lst (ks.map D.str)]=U (.bl (lk ks p),Y):=by
 rw[am (f:=Kc) (d:=[U (WC p,Y),U (.lst (ks.map D.str),Y),M]) rfl rfl rfl];have el:=aI (ps:=[p]) (by simp) (by simpa using h4);obtain⟨us,e1,_,e3,e4⟩:=jx (aW [p]);rw[e1]at el;have hul:us.length<=1000:=by
  have:=aU (ps:=[p]) (by simpa using h4);simp at this;lia
 simp only[EG,aab,aad,VV,PK];rw[aas _ (by simp)];simp only[Z2,Y6]at el;simp only[VV,PK,el,aat,aaj];rw[aJ (by simp;lia)];have hc:bq (az (ae 2) (λq=>U L) sv (au Y [Y,L,Y] [U (WC p,Y),U (.lst (ks.map D.str),Y),M])) (us.map D.str)=U ((us.map λl=>decide (l∈ks)).map D.bl):=by
  rw[gU (g:=λd=>match d with|.str l=>.bl (decide (l∈ks))|d=>d)];simp;intro d hd;obtain⟨l,_,rfl⟩:=ZQ.mp hd;simp[az,au,sv,fu]
 rw[hc];simp only[aai,Em,xH,abe,abL];congr 3;rw[YO];unfold lk;simp only[XX,ZQ,id_eq];constructor
 rintro⟨_,⟨l,hl,rfl⟩,h⟩
 have:=(e3 l).mp hl;simp[aW]at this;exact⟨l,this,h⟩
 rintro⟨l,hl,h⟩
 exact⟨_,⟨l,(e3 l).mpr (by simp[aW];exact hl),rfl⟩,h⟩
def gM(h:teD a=teD b):a=b:=by
 cases a<;>cases b<;>simp[teD]at h;rw[h];exact absurd h.1 (by decide +kernel);exact absurd h.1 (by decide +kernel);rw[h]
theorem nQ{q:Type}{f:q->D}(hf:∀a b,f a=f b->a=b):∀{l m:Z_ q},l.map f=m.map f->l=m
 |[],[],_=>rfl
 |[],_::_,h=>by simp at h
 |_::_,[],h=>by simp at h
 |a::l,b::m,h=>by
  simp only[Z2,Yj]at h;rw[hf _ _ h.1,nQ hf h.2]
def wM(h:WC p=WC q):p=q:=by
 simp[WC]at h;exact Prod.ext h.1 (nQ (λ_ _=>gM) h.2)
def Bj(t:Te):D.flat (teD t)=L:=by cases t<;>rfl
def xf(p:Pat):D.flat (WC p)=L:=by
 have:D.aaB (p.2.map teD)=L:=by rw[D.aaH,ZO];intro x hx;obtain⟨t,_,rfl⟩:=ZQ.mp hx;exact Bj t
 simp[WC,D.flat,D.aaB,this]
def Cp(p:Pat):okD 15 (WC p)=L:=by
 simp only[WC,okD,rF,List.all_nil,Xh,Xi,ZO];intro x hx;obtain⟨t,_,rfl⟩:=ZQ.mp hx;cases t<;>rfl
def rB(ss:Z_ Str):D.aaB (ss.map D.str)=L:=by
 rw[D.aaH,ZO];intro x hx;obtain⟨t,_,rfl⟩:=ZQ.mp hx;rfl
theorem jX:∀{ps:Z_ Pat},(∀p∈ps,f (h p)=U (g p))->cJ f (ps.map h)=U (ps.map g)
 |[],_=>rfl
 |p::ps,e=>by simp only[Z2,cJ,e p (ZZ ..),jX λq hq=>e q (Z1 _ hq)]
def uG(h:bl≠[]):aH bl<bl.length:=by
 unfold aH;split;rename_i m;exact YJ m;exact Wq.mpr h
def sJ(h:i<aH bl):bl[i]?=U Y/\bl[aH bl]?=U L:=by
 unfold aH at h⊢;split at h;rename_i m;rw[ZR m];have hl:=YJ m;have h1:=List.not_of_lt_findIdx (p:=λz=>z==L) (xs:=bl) (i:=i) h;have hi:i<bl.length:=by lia
 refine⟨?_,?_⟩;rw[YX hi];simp at h1;rw[h1];rw[YX hl];simp;lia
def Ad(rs:Z_ Row)(ks:Z_ Str)(hk:ks.length<=1000){aq placed:Z_ Pat}(h4:∀p∈aq++placed,p.2.length<=4)(D_:aq≠[])(hl:aq.length+placed.length<=4)(a0 a1 x5 x6 x7 x8 x9:Z9 (D×Bool)):
  ∃j y5 y6 y7,j<aq.length/\lB [a0,a1,U (.lst (ks.map D.str),Y),U (.lst (aq.map (prD rs)),L),U (.lst (placed.map (prD rs)),L),x5,x6,x7,x8,x9]=
   U (.next [a0,a1,U (.lst (ks.map D.str),Y),U (.lst ((aq.eraseIdx j).map (prD rs)),L),U (.lst ((placed++(aq[j]?).toList).map (prD rs)),L),y5,y6,y7,x8,x9]):=by
 have hpl:placed.length<=4:=by lia
 have el:=aI (ps:=placed) hpl (λp hp=>h4 p (ZE _ hp));obtain⟨us,e1,_,e3,e4⟩:=jx (aW placed);have e5:=aU (ps:=placed) (λp hp=>h4 p (ZE _ hp));rw[e1]at el;have hc:bq (az (ae 9) (λq=>U L) pv (au L [Y,Y,Y,Y,Y,Y,Y,Y,Y,Y] [a0,a1,U (.lst (ks.map D.str),Y),U (.lst (aq.map (prD rs)),L),U (.lst (placed.map (prD rs)),L),x5,x6,x7,x8,x9])) (placed.map (prD rs))=U (placed.map WC):=by
  have:(placed.map WC)=(placed.map (prD rs)).map λd=>match d with|.tup (x::_)=>x|d=>d:=by rw[XS];rfl
  rw[this,gU];intro d hd;obtain⟨p,_,rfl⟩:=ZQ.mp hd;simp[az,au,pv,prD,at0]
 have NA:D.aaB (placed.map WC)=L:=by rw[D.aaH,ZO];intro x hx;obtain⟨t,_,rfl⟩:=ZQ.mp hx;exact xf t
 have hb:w8 (hV (U (.lst (ks.map D.str)))) (flO (af (aa (av (gP (af (bZ (U (.lst (placed.map (prD rs))))) (bR L [Y,Y,Y,Y,Y,Y,Y,Y,Y,Y] (ae 9) (λq=>U L) pv [a0,a1,U (.lst (ks.map D.str),Y),U (.lst (aq.map (prD rs)),L),U (.lst (placed.map (prD rs)),L),x5,x6,x7,x8,x9])))) (U [])) u_))=U (.lst ((ks++us).map D.str)):=by
  simp only[aaj,PK];rw[aJ (by simp;lia),hc];simp only[gP,NA,Y1,aai,VV,PK,el,flO,rB,aba];rw[abw _ _ (by simp;lia)];simp
 have hf:cJ (λd=>n8 ((au L [Y,Y,Y,Y,Y,L,Y,Y,Y,Y] [a0,a1,U (.lst (ks.map D.str),Y),U (.lst (aq.map (prD rs)),L),U (.lst (placed.map (prD rs)),L),U (.lst ((ks++us).map D.str),Y),x6,x7,x8,x9]).set 9 (U (d,Y)))) (aq.map (prD rs))=U (aq.map (lk (ks++us))):=by
  refine jX λp hp=>?_;have:=sK p (h4 p (YS _ hp)) (ks++us);simp only[n8,au,List.zipWith,aQ,aP,aad,aab];have e9:∀(x:Z9 D),x=U (.lst ((ks++us).map D.str))->tyB (shO (af (aa (ixO (U (prD rs p)) (U (.int 0))) (aa x (U []))) Kc))=U (lk (ks++us) p):=λx hx=>by rw[hx];simp only[prD,ab_,at0,VV,PK,this,aar,acp]
  exact e9 _ rfl
 have N9:aq.map (lk (ks++us))≠[]:=by simpa using D_
 have hj:aH (aq.map (lk (ks++us)))<aq.length:=by have:=uG N9;simpa using this
 generalize Qv:aH (aq.map (lk (ks++us)))=j at hj;have Pp:(aq.map (prD rs)).getD j .non=prD rs aq[j]:=by rw[YG];simp[hj]
 refine⟨j,U (.lst ((ks++us).map D.str),Y),U (.lst (dN (aq.map (prD rs)) (aq.map (lk (ks++us)))),L),U (prD rs aq[j],Y),hj,?_⟩;have Sq:rd L 4 [a0,a1,U (.lst (ks.map D.str),Y),U (.lst (aq.map (prD rs)),L),U (.lst (placed.map (prD rs)),L),x5,x6,x7,x8,x9]=U (.lst (placed.map (prD rs))):=rfl;simp only[lB,Sq,aad,aab,hb];rw[aag _ _ _ (by simp)];simp only[VW,aQ,aP];unfold vC;simp only[List.getElem?_cons_succ,List.getElem?_cons_zero,hf];have h0:(aq.map (prD rs))[0]?=U (prD rs (aq[0]'(by lia))):=by simp[show 0<aq.length by lia]
 simp only[h0,Qv];rw[ZR];simp only[tq,aQ,aP,aad,aab,Pp];rw[gC (ds:=placed.map (prD rs)) _ rfl (by simp;lia)];have em:(aq.map (prD rs)).eraseIdx j=(aq.eraseIdx j).map (prD rs):=by rw[Xk,Xk,YW,List.map_take,List.map_drop]
 simp[em,hj];refine⟨⟨by simp,by simp,by simp,by simp;lia⟩,?_⟩;rw[ZH,ZO,ZO];refine⟨λd hd=>?_,λd hd=>?_⟩;obtain⟨p,_,rfl⟩:=ZQ.mp hd;rfl;obtain⟨i,hi⟩:=List.mem_iff_getElem?.mp hd;rw[List.getElem?_take]at hi;split at hi;rename_i LJ;rw[Yv]at hi;obtain⟨p,hp,rfl⟩:=Xp.mp hi;rw[Pp];obtain⟨f1,f2⟩:=sJ (bl:=aq.map (lk (ks++us))) (i:=i) (by rw[Qv];exact LJ);rw[Qv]at f2;rw[Yv,hp]at f1;rw[Yv,YX hj]at f2;simp only[Option.map_some,ZL]at f1 f2;simp only[eU,prD,Cp,Xh,Xi,Zi];intro e;rw[wM e,f2]at f1;cases f1;cases hi
theorem cb{q:Type}:∀{l:Z_ q}{j:Nat}{x:q},l[j]?=U x->(x::l.eraseIdx j).Perm l
 |[],j,x,h=>by simp at h
 |a::l,0,x,h=>by simp at h;subst h;exact YQ _
 |a::l,j+1,x,h=>by
  rw[List.eraseIdx_cons_succ];exact(List.Perm.swap a x _).trans ((cb (by simpa using h)).cons a)
theorem iQ(rs:Z_ Row)(ks:Z_ Str)(hk:ks.length<=1000):∀(n:Nat)(aq placed:Z_ Pat)(a0 a1 x5 x6 x7 x8 x9:Z9 (D×Bool))(fuel:Nat),aq.length=n->n<fuel->(∀p∈aq++placed,p.2.length<=4)->aq.length+placed.length<=4->∃o y5 y6 y7,o.Perm aq/\
  dE kM lB fuel [a0,a1,U (.lst (ks.map D.str),Y),U (.lst (aq.map (prD rs)),L),U (.lst (placed.map (prD rs)),L),x5,x6,x7,x8,x9]=
   U (.next [a0,a1,U (.lst (ks.map D.str),Y),U (.lst [],L),U (.lst ((placed++o).map (prD rs)),L),y5,y6,y7,x8,x9])
 |0,aq,placed,a0,a1,x5,x6,x7,x8,x9,fuel,hn,hf,h4,hl=>by
  have:aq=[]:=Yx.mp hn;subst this;obtain⟨f,rfl⟩:∃f,fuel=f+1:=⟨fuel - 1,by lia⟩
  refine⟨[],x5,x6,x7,YQ _,?_⟩;unfold dE;have:kM [a0,a1,U (.lst (ks.map D.str),Y),U (.lst (([]:Z_ Pat).map (prD rs)),L),U (.lst (placed.map (prD rs)),L),x5,x6,x7,x8,x9]=U Y:=rfl;rw[this];simp
 |n+1,aq,placed,a0,a1,x5,x6,x7,x8,x9,fuel,hn,hf,h4,hl=>by
  obtain⟨f,rfl⟩:∃f,fuel=f+1:=⟨fuel - 1,by lia⟩
  have D_:aq≠[]:=λz=>by rw[z]at hn;simp at hn
  obtain⟨j,y5,y6,y7,hj,e⟩:=Ad rs ks hk h4 D_ hl a0 a1 x5 x6 x7 x8 x9;have Pg:aq[j]?=U aq[j]:=by simp[hj]
  have hp:=cb Pg;have hlen:(aq.eraseIdx j).length=n:=by have:=hp.length_eq;simp at this;lia
  have hm:∀p∈aq.eraseIdx j++(placed++aq[j]?.toList),p.2.length<=4:=λp Jf=>by
   refine h4 p ?_;rw[Pg]at Jf;simp only[Option.toList_some,Zl,ZG]at Jf⊢;rcases Jf with q|q|q;exact .inl (hp.mem_iff.mp (Z1 _ q));exact .inr q;exact .inl (hp.mem_iff.mp (by rw[q];exact ZZ ..))
  obtain⟨o,z5,z6,z7,po,e'⟩:=iQ rs ks hk n (aq.eraseIdx j) (placed++aq[j]?.toList) a0 a1 y5 y6 y7 x8 x9 f hlen (by lia) hm (by rw[Pg];simp;lia);refine⟨aq[j]::o,z5,z6,z7,(po.cons _).trans hp,?_⟩;have ht:kM [a0,a1,U (.lst (ks.map D.str),Y),U (.lst (aq.map (prD rs)),L),U (.lst (placed.map (prD rs)),L),x5,x6,x7,x8,x9]=U L:=by
   cases aq with
   |nil=>exact absurd rfl D_
   |cons a b=>rfl
  unfold dE;rw[ht];simp only[e];rw[e',Pg];simp
theorem pW(rs:Z_ Row):∀ps:Z_ Pat,ii (λd=>i0 [U (d,Y)]) (ps.map (prD rs))=U (ps.map λp=>((binds rs p).length:Int))
 |[]=>rfl
 |p::ps=>by
  simp only[Z2,ii,pW rs ps];have:i0 [U (prD rs p,Y)]=U (.int (binds rs p).length):=by simp[i0,prD,at1]
  rw[this]
def ni(ps:Z_ Pat)(ks:Z_ Int)(h:ks.length=ps.length)(h5:ks.length<5):∃o:Z_ Pat,o.Perm ps/\pU (ps.map f) ks=o.map f:=by
 have hp:=gh h5;rw[h]at hp;refine⟨(jM ks).filterMap λi=>ps[i]?,?_,?_⟩;have e:(List.range ps.length).filterMap (λi=>ps[i]?)=ps:=by
  clear hp h;have key:∀(l pre:Z_ Pat),((List.range' pre.length l.length).filterMap λi=>(pre++l)[i]?)=l:=by
   intro l
   induction l with
   |nil=>intro pre;rfl
   |cons a l ih=>
    intro pre;rw[bG,List.range'_succ,List.filterMap_cons];have:(pre++a::l)[pre.length]?=U a:=by simp
    rw[this];have:=ih (pre++[a]);simp only[Zv,List.length_singleton,Zg,List.singleton_append]at this;rw[this]
  have:=key ps [];simpa[List.range_eq_range']using this
 have:=hp.filterMap λi=>ps[i]?;rw[e]at this;exact this;unfold pU;rw[List.map_filterMap];have hm:∀i∈jM ks,i<ps.length:=λi hi=>Ym.mp (hp.mem_iff.mp hi);generalize jM ks=kp at hm
 induction kp with
 |nil=>rfl
 |cons i l ih=>
  have hi:=hm i (ZZ ..);rw[Z2,List.filterMap_cons,ih λj hj=>hm j (Z1 _ hj)];have:ps[i]?=U ps[i]:=by simp[hi]
  rw[this];simp[hi]
def gA(rs:Z_ Row)(r_:rs.length<=1000)(ks:Z_ Str)(hk:ks.length<=1000)(h4:∀p∈ps,p.2.length<=4)(hl:ps.length<=4):∃o:Z_ Pat,o.Perm ps/\
  Ly [.lst (rs.map aE),.lst (ps.map WC),.lst (ks.map D.str)]=U (.lst (o.map (prD rs)),L):=by
 obtain⟨o1,p1,e1⟩:=ni (f:=prD rs) ps (ps.map λp=>((binds rs p).length:Int)) (by simp) (by simp;lia);have VT:∀p∈o1++[],p.2.length<=4:=λp hp=>h4 p (p1.mem_iff.mp (by simpa using hp));have Kv:o1.length=ps.length:=p1.length_eq;obtain⟨o,y5,y6,y7,po,e⟩:=iQ rs ks hk o1.length o1 [] (U (.lst (rs.map aE),Y)) (U (.lst (ps.map WC),Y)) M M M M M 1000 rfl (by lia) VT (by simp;lia);refine⟨o,po.trans p1,?_⟩;rw[am (f:=Ly) (d:=[U (.lst (rs.map aE),Y),U (.lst (ps.map WC),Y),U (.lst (ks.map D.str),Y),M,M,M,M,M,M,M]) rfl rfl rfl];have hc:bq (az (ae 8) (λO=>U L) ll (au Y [L,Y,Y,Y,Y,Y,Y,Y,Y,Y] [U (.lst (rs.map aE),Y),U (.lst (ps.map WC),Y),U (.lst (ks.map D.str),Y),M,M,M,M,M,M,M])) (ps.map WC)=U (ps.map (prD rs)):=by
  have key:∀qs:Z_ Pat,(∀p∈qs,p.2.length<=4)->bq (az (ae 8) (λO=>U L) ll (au Y [L,Y,Y,Y,Y,Y,Y,Y,Y,Y] [U (.lst (rs.map aE),Y),U (.lst (ps.map WC),Y),U (.lst (ks.map D.str),Y),M,M,M,M,M,M,M])) (qs.map WC)=U (qs.map (prD rs)):=by
   intro qs
   induction qs with
   |nil=>intro _;rfl
   |cons q qs ih=>
    intro h;rw[Z2];unfold bq;have:az (ae 8) (λO=>U L) ll (au Y [L,Y,Y,Y,Y,Y,Y,Y,Y,Y] [U (.lst (rs.map aE),Y),U (.lst (ps.map WC),Y),U (.lst (ks.map D.str),Y),M,M,M,M,M,M,M]) (WC q)=U (U (prD rs q)):=by
     simp[az,au,ll,mN (h q (ZZ ..)) r_,prD]
    rw[this,ih λp hp=>h p (Z1 _ hp)];rfl
  exact key ps h4
 simp only[L5,aad,aab,aaj,PK];rw[aJ (by simp;lia),hc];have hs:iP (av (U (ps.map (prD rs)))) (λd=>i0 [U (d,Y)])=U (.lst (o1.map (prD rs))):=by
  unfold iP;simp only[aai,pW,e1];rw[ZR (by simp;lia)]
 rw[hs,aaA _ _ _ (by simp)];simp only[VW,aQ,aP];rw[aas _ (by simp),aaA _ _ _ (by simp)];simp only[VW,aQ,aP];rw[Y6]at e;rw[e];simp
theorem ck{q:Type}{f:q->D}{h:q->D}{p:q->Bool}{F:D->Z9 (Z9 D)}:∀{xs:Z_ q},(∀x∈xs,F (f x)=U (if p x=L then U (h x) else M))->bq F (xs.map f)=U ((xs.filter p).map h)
 |[],_=>rfl
 |x::xs,H=>by
  rw[Z2];unfold bq;rw[H x (ZZ ..),ck λy hy=>H y (Z1 _ hy),List.filter_cons];cases p x<;>rfl
def bw{q:Type}{f:q->D}{h:q->D}{F:D->Z9 (Z9 D)}{xs:Z_ q}(H:∀x∈xs,F (f x)=U (U (h x))):bq F (xs.map f)=U (xs.map h):=by
 have:=ck (f:=f) (h:=h) (p:=λ_=>L) (F:=F) (xs:=xs) λx hx=>by rw[H x hx];rfl
 rwa[List.filter_eq_self.mpr λ_ _=>rfl]at this
def jF(ns:Z_ Nat):D:=.lst (ns.map λn:Nat=>D.int n)
def cD(c:Z_ Ce):D:=.tup (c.map ceD)
def iz{a b:Z_ Ce}(h:cD a=cD b):a=b:=by
 unfold cD at h;injection h with h
 induction a generalizing b with
 |nil=>cases b with
  |nil=>rfl
  |cons=>simp at h
 |cons x a ih=>cases b with
  |nil=>simp at h
  |cons y b=>simp only[Z2,Yj]at h;rw[eW h.1,ih h.2]
def kK(c:Z_ Ce):bH 8 (cD c)=L:=by
 unfold cD;simp only[bH];rw[ZO];intro d hd;obtain⟨x,_,rfl⟩:=ZQ.mp hd;cases x<;>rfl
theorem lV(c:Z_ Ce):m4 (cD c)=L:=rfl
def F2(c:Z_ Ce):okD 15 (cD c)=L:=by
 unfold cD;simp only[okD];rw[ZO];intro d hd;obtain⟨x,_,rfl⟩:=ZQ.mp hd;cases x<;>rfl
theorem sA(l:Str):∀known:Z_ Str,(known.map D.str).idxOf (.str l)=known.idxOf l
 |[]=>rfl
 |k::known=>by
  rw[Z2,List.idxOf_cons,List.idxOf_cons,sA l known];have:((D.str k==D.str l):Bool)=(k==l):=by
   by_cases h:k=l;subst h;rw[XZ,XZ];have h':¬D.str k=D.str l:=λz=>h (by injection z);rw[beq_false_of_ne h,beq_false_of_ne h']
  rw[this]
def wS{l:Str}{known:Z_ Str}(h:l∈known)(hk:known.length<=1000):BJ (U (.lst (known.map D.str))) (U (.str l))=U (.int (known.idxOf l)):=by
 unfold BJ;simp only[sA];rw[ZR];refine⟨rfl,?_,by rw[ZJ];exact YJ h,by simp;lia⟩;rw[ZO];intro d hd;obtain⟨x,_,rfl⟩:=ZQ.mp hd;rfl
def cM{ls known:Z_ Str}(h:∀l∈ls,l∈known)(hl:ls.length<=1000)(hk:known.length<=1000):Kb [.lst (ls.map D.str),.lst (known.map D.str)]=U (jF (aV ls known),L):=by
 rw[am (f:=Kb) (d:=[U (.lst (ls.map D.str),Y),U (.lst (known.map D.str),Y),M]) rfl rfl rfl];simp only[Ft,aab,aaj,PK];rw[aJ (by simp;lia)];have:=bw (f:=D.str) (h:=λl=>D.int (known.idxOf l)) (xs:=ls) (F:=az (ae 2) (λq=>U L) u8 (au Y [Y,L,Y] [U (.lst (ls.map D.str),Y),U (.lst (known.map D.str),Y),M])) λl hm=>by
  simp[az,au,u8,wS (h l hm) hk]
 rw[this];simp[jF,aV]
def gN{c:Z_ Ce}{ps:Z_ Nat}(h:∀i∈ps,i<c.length)(hl:ps.length<=1000):JR [cD c,jF ps]=U (cD (pk c ps),Y):=by
 rw[am (f:=JR) (d:=[U (cD c,Y),U (jF ps,Y),M]) rfl rfl rfl];simp only[E5,aab,aad,jF,aaj,PK];rw[aJ (by simp;lia)];have:=bw (f:=λn:Nat=>D.int n) (h:=λn=>ceD (c.getD n default)) (xs:=ps) (F:=az (ae 2) (λq=>U L) sR (au Y [L,Y,Y] [U (cD c,Y),U (.lst (ps.map λn:Nat=>D.int n),Y),M])) λn hm=>by
  have hn:=h n hm;have:atI (c.map ceD) (n:Int)=U (ceD (c.getD n default)):=zg (by lia) (by simp[hn]);simp[az,au,sR,cD,this]
 rw[this];simp[cD,pk]
def gD(g:Gr):Z_ (D×Z_ D):=g.map λq=>(cD q.1,q.2.map cD)
theorem yC(k e:Z_ Ce):∀g:Gr,bg (gD g) (cD k) (cD e)=gD (mD g k e)
 |[]=>rfl
 |q::g=>by
  have ih:=yC k e g;unfold gD at ih⊢;rw[Z2];unfold bg mD;have h1:(cD q.1=cD k)=(q.1=k):=propext ⟨iz,λh=>by rw[h]⟩;have h2:(cD e∈q.2.map cD)=(e∈q.2):=propext ⟨λh=>by
   obtain⟨x,hx,he⟩:=ZQ.mp h;rwa[<-iz he],λh=>ZQ.mpr ⟨e,h,rfl⟩⟩
  simp only[h1,h2,ih];split
  .split<;>simp
  simp
def DP{b:Bi}{l:Str}{c:Ce}(h:gt b l=U c):BL (U (bD b)) (U (.str l))=U (ceD c):=by
 unfold BL;rw[uT,h];rfl
def si{b:Bi}{sh:Z_ Str}(h:∀l∈sh,∃c,gt b l=U c)(q:Mk)(hm:q=[M,M,M,M,U (bD b,Y),M,M,M]):
  bq (az (ae 7) (λO=>U L) Je q) (sh.map D.str)=U ((vl b sh).map ceD):=by
 subst hm;have:=bw (f:=D.str) (h:=λl=>ceD ((gt b l).getD default)) (xs:=sh) (F:=az (ae 7) (λO=>U L) Je [M,M,M,M,U (bD b,Y),M,M,M]) λl hm=>by
  obtain⟨c,hc⟩:=h l hm;simp[az,Je,DP hc,hc]
 rw[this];simp[vl]
theorem oj{sh ad:Z_ Str}(h1:sh.length<=1000)(h2:ad.length<=1000)(a0:D):∀(bs:Z_ Bi)(g:Gr)(a4 a5:Z9 (D×Bool)),(∀b∈bs,∀l∈sh++ad,∃c,gt b l=U c)->
  cu 4 5 6 pN n5 (bs.map bD) [U (a0,Y),U (.lst (sh.map D.str),Y),U (.lst (ad.map D.str),Y),M,a4,a5,M,M] (gD g)=U (gD (bs.foldl (λg b=>mD g (vl b sh) (vl b ad)) g))
 |[],g,a4,a5,_=>rfl
 |b::bs,g,a4,a5,h=>by
  have hb:=h b (ZZ ..);have ih:=oj h1 h2 a0 bs (mD g (vl b sh) (vl b ad)) (U (bD b,Y)) (U (cD (vl b sh),Y)) λb' IU=>h b' (Z1 _ IU);rw[Z2,List.foldl_cons,<-ih]
  conv=>lhs;unfold cu
  have e1:pN [U (a0,Y),U (.lst (sh.map D.str),Y),U (.lst (ad.map D.str),Y),M,U (bD b,Y),a5,M,M]=U (cD (vl b sh)):=by
   simp only[pN,aad,aab,aaj,PK];rw[aJ (by simp;lia)];exact congrArg (λz=>dw (av z)) (si (λl hl=>hb l (YS _ hl)) _ rfl)
  have e2:n5 [U (a0,Y),U (.lst (sh.map D.str),Y),U (.lst (ad.map D.str),Y),M,U (bD b,Y),U (cD (vl b sh),Y),M,M]=U (cD (vl b ad)):=by
   simp only[n5,aad,aab,aaj,PK];rw[aJ (by simp;lia)];have:=si (λl hl=>hb l (ZE _ hl)) _ rfl;have hh:(zm:Mk->Z9 D)=Je:=rfl;rw[hh];exact congrArg (λz=>dw (av z)) this
  simp only[aQ,aP,e1,e2,kK,lV,Bool.and_self,Y1,yC]
def qY{bs:Z_ Bi}{sh ad:Z_ Str}(h1:sh.length<=1000)(h2:ad.length<=1000)(hl:bs.length<=1000)(h:∀b∈bs,∀l∈sh++ad,∃c,gt b l=U c):
  Lw [.lst (bs.map bD),.lst (sh.map D.str),.lst (ad.map D.str)]=U (oB (gD (grp bs sh ad)),L):=by
 rw[am (f:=Lw) (d:=[U (.lst (bs.map bD),Y),U (.lst (sh.map D.str),Y),U (.lst (ad.map D.str),Y),M,M,M,M,M]) rfl rfl rfl];unfold Fi Cg;rw[ZR ⟨rfl,by simp,by simp,by simp,by simp⟩];have e0:zf ([U (.lst (bs.map bD),Y),U (.lst (sh.map D.str),Y),U (.lst (ad.map D.str),Y),M,M,M,M,M].set 3 M)=U (bs.map bD):=rfl;simp only[e0];rw[ZR (by simp;lia)];have:=oj h1 h2 (.lst (bs.map bD)) bs [] M M h;simp only[aQ,aP];have hg:gD []=[]:=rfl;rw[hg]at this;rw[this];rfl
theorem yL(k:Z_ Ce):∀g:Gr,(b9 (cD k) ((gD g).map (·.1)) ((gD g).map λp=>(.dD p.2 (p.2.map λ_=>.bl L):D))).getD (.dD [] [])=.dD ((cI g k).map cD) ((cI g k).map λ_=>.bl L)
 |[]=>rfl
 |q::g=>by
  have ih:=yL k g;rw[aX];show(b9 (cD k) (cD q.1::(gD g).map (·.1)) ((.dD (q.2.map cD) ((q.2.map cD).map λ_=>.bl L):D)::_)).getD _=_;unfold b9;by_cases h:q.1=k;rw[ZR (by rw[h]),ZR h];simp;rw[ZK λz=>h (iz z),ZK h];exact ih
def Fq(g:Gr)(k:Z_ Ce):ce (U (oB (gD g))) (U (cD k)) (U (.dD [] []))=U (.dD ((cI g k).map cD) ((cI g k).map λ_=>.bl L)):=by
 unfold ce bT oB;simp only[kK,lV,Bool.and_self,Y1,yL]
def wc(l:Z_ (Z_ Ce)):D:=.dD (l.map cD) (l.map λ_=>.bl L)
def qG{ks:Z_ D}(k:D):∀{n:Z_ (Z_ Ce)},ks.length=n.length->qK k (.bl L) ks (n.map λ_=>(.bl L:D))=n.map λ_=>.bl L:=by
 induction ks with
 |nil=>intro n h;cases n with
  |nil=>rfl
  |cons=>simp at h
 |cons a ks ih=>intro n h;cases n with
  |nil=>simp at h
  |cons b n=>simp only[Z2,qK,ite_self,ih (by simpa using h)]
def BF(x:Z_ Ce)(l:Z_ (Z_ Ce))(hl:l.length<100000):jZ (wc l) (cD x) (.bl L)=U (wc (ins x l)):=by
 unfold wc jZ;have hm:(cD x∈l.map cD)=(x∈l):=propext ⟨λh=>by
   obtain⟨y,hy,he⟩:=ZQ.mp h;rwa[<-iz he],λh=>ZQ.mpr ⟨x,h,rfl⟩⟩
 simp only[kK,lV,Bool.and_self,Xi];rw[ZR (by simp;lia)];unfold ji yj ins;simp only[hm];split;rw[qG _ (by simp)];simp
def i9(x:Z_ Ce)(l:Z_ (Z_ Ce)):(ins x l).length<=l.length+1:=by unfold ins;split<;>simp
theorem yi(kc:Z_ Ce)(hk:kc.length<=1000)(a0 a1 a2 a3 a5:Z9 (D×Bool)):∀(as:Z_ (Z_ Ce))(l:Z_ (Z_ Ce))(a7:Z9 (D×Bool)),(∀a∈as,a.length<=1000)->l.length+as.length<=50000->∃y7,
  ar (λd q=>af ((ae 7) d q) vB) (as.map cD) [a0,a1,a2,a3,U (wc l,L),a5,U (cD kc,Y),a7]=U (.next [a0,a1,a2,a3,U (wc (as.foldl (λl a=>ins (kc++a) l) l),L),a5,U (cD kc,Y),y7])
 |[],l,a7,_,_=>⟨a7,rfl⟩
 |a::as,l,a7,ha,hl=>by
  rw[bG]at hl;have hi:=i9 (kc++a) l;obtain⟨y7,e⟩:=yi kc hk a0 a1 a2 a3 a5 as (ins (kc++a) l) (U (cD a,Y)) (λx hx=>ha x (Z1 _ hx)) (by lia);refine⟨y7,?_⟩;rw[List.foldl_cons,<-e,Z2]
  conv=>lhs;unfold ar
  have hc:sf (U (cD kc)) (U (cD a))=U (cD (kc++a)):=by
   unfold sf cD;have:=ha a (ZZ ..);simp only[ZJ,aam];rw[ZR (by lia),YW]
  simp[vB,xv,hc,BF _ _ (show l.length<100000 by lia)]
theorem oE{sp kp:Z_ Nat}{g:Gr}(h1:sp.length<=1000)(h2:kp.length<=1000)(hg:∀k,((cI g k).length<=20)/\∀a∈cI g k,a.length<=1000)(a0:Z9 (D×Bool)):∀(found l:Z_ (Z_ Ce))(a5 a6 a7:Z9 (D×Bool)),(∀c∈found,∀i∈sp++kp,i<c.length)->l.length+20*found.length<=50000->∃y5 y6 y7,
  ar (λd q=>af ((ae 5) d q) uY) (found.map cD) [a0,U (jF sp,Y),U (jF kp,Y),U (oB (gD g),Y),U (wc l,L),a5,a6,a7]=U (.next [a0,U (jF sp,Y),U (jF kp,Y),U (oB (gD g),Y),U (wc (found.foldl (qb g sp kp) l),L),y5,y6,y7])
 |[],l,a5,a6,a7,_,_=>⟨a5,a6,a7,rfl⟩
 |c::found,l,a5,a6,a7,hc,hl=>by
  rw[bG]at hl;have QG:=hc c (ZZ ..);have g1:=(hg (pk c sp)).1;obtain⟨z7,e1⟩:=yi (pk c kp) (by unfold pk;simpa using h2) a0 (U (jF sp,Y)) (U (jF kp,Y)) (U (oB (gD g),Y)) (U (cD c,Y)) (cI g (pk c sp)) l a7 (hg _).2 (by lia);have hx:(qb g sp kp l c).length<=l.length+20:=by
   unfold qb;have key:∀(as l:Z_ (Z_ Ce)),(as.foldl (λl a=>ins (pk c kp++a) l) l).length<=l.length+as.length:=by
    intro as
    induction as with
    |nil=>intro l;simp
    |cons a as ih=>intro l;rw[List.foldl_cons];have:=ih (ins (pk c kp++a) l);have:=i9 (pk c kp++a) l;simp;lia
   have:=key (cI g (pk c sp)) l;lia
  obtain⟨y5,y6,y7,e⟩:=oE h1 h2 hg a0 found (qb g sp kp l c) (U (cD c,Y)) (U (cD (pk c kp),Y)) z7 (λx hx=>hc x (Z1 _ hx)) (by lia);refine⟨y5,y6,y7,?_⟩;rw[List.foldl_cons,<-e,Z2]
  conv=>lhs;unfold ar
  simp only[aae,bG,fU,Nat.reduceAdd,Nat.reduceLT,PK,aQ,aP];simp only[uY,aad,aab,VV,PK,gN (λi hi=>QG i (ZE _ hi)) h2,aar,aag,bG,fU,Nat.reduceAdd,Nat.reduceLT,VW,aQ,aP,gN (λi hi=>QG i (YS _ hi)) h1,Fq,xW];rw[e1];rfl
def mJ{found:Z_ (Z_ Ce)}{sp kp:Z_ Nat}{g:Gr}(h1:sp.length<=1000)(h2:kp.length<=1000)(hg:∀k,((cI g k).length<=20)/\∀a∈cI g k,a.length<=1000)(hf:found.length<=2500)(h:∀c∈found,∀i∈sp++kp,i<c.length):
  Lv [.lst (found.map cD),jF sp,jF kp,oB (gD g)]=U (.lst ((ext found sp kp g).map cD),L):=by
 rw[am (f:=Lv) (d:=[U (.lst (found.map cD),Y),U (jF sp,Y),U (jF kp,Y),U (oB (gD g),Y),M,M,M,M]) rfl rfl rfl];obtain⟨y5,y6,y7,e⟩:=oE h1 h2 hg (U (.lst (found.map cD),Y)) found [] M M M h (by simp;lia);have e0:wc []=.dD [] []:=rfl;rw[e0]at e;simp only[EX,aaA,bG,fU,Nat.reduceAdd,Nat.reduceLT,VW,aQ,aP,aab,aaj,PK];rw[e];simp[zk,wc,ox,ext]
def ww(g:Gr)(k e k':Z_ Ce):(cI (mD g k e) k').length<=(cI g k').length+1:=by
 induction g with
 |nil=>
  unfold mD;rw[aX];split<;>simp[cI]
 |cons q g ih=>
  unfold mD;by_cases h:q.1=k
  .rw[ZR h,aX,aX]
   dsimp only;by_cases h':q.1=k'
   .rw[ZR h',ZR h'];split<;>simp
   rw[ZK h',ZK h'];lia
  rw[ZK h,aX,aX];by_cases h':q.1=k';rw[ZR h',ZR h'];lia;rw[ZK h',ZK h'];exact ih
def A1(sh ad:Z_ Str)(k:Z_ Ce)(bs:Z_ Bi):(cI (grp bs sh ad) k).length<=bs.length:=by
 have key:∀(bs:Z_ Bi)(g:Gr),(cI (bs.foldl (λg b=>mD g (vl b sh) (vl b ad)) g) k).length<=(cI g k).length+bs.length:=by
  intro bs
  induction bs with
  |nil=>intro g;simp
  |cons b bs ih=>intro g;rw[List.foldl_cons];have:=ih (mD g (vl b sh) (vl b ad));have:=ww g (vl b sh) (vl b ad) k;simp;lia
 have:=key bs [];simpa[cI,grp]using this
def Aw(h:∀k,(cI g k).length<=n):(ext found sp kp g).length<=found.length*n:=by
 have kin:∀(c:Z_ Ce)(as l:Z_ (Z_ Ce)),(as.foldl (λl a=>ins (pk c kp++a) l) l).length<=l.length+as.length:=by
  intro c as
  induction as with
  |nil=>intro l;simp
  |cons a as ih=>intro l;rw[List.foldl_cons];have:=ih (ins (pk c kp++a) l);have:=i9 (pk c kp++a) l;simp;lia
 have key:∀(found l:Z_ (Z_ Ce)),(found.foldl (qb g sp kp) l).length<=l.length+found.length*n:=by
  intro found
  induction found with
  |nil=>intro l;simp
  |cons c found ih=>
   intro l;rw[List.foldl_cons];have h1:=ih (qb g sp kp l c);have h2:=kin c (cI g (pk c sp)) l;have h3:=h (pk c sp);unfold qb at h1⊢;rw[bG,Nat.add_mul];lia
 have:=key found [];simpa[ext]using this
def qr{q:Type}(f:q->D)(a:Z_ q)(x:q)(b:Z_ q):mj ((a++x::b).map f) (U ((a.length:Int)+1)) M=b.map f:=by
 unfold mj;have e:((a.length:Int)+1)=((a.length+1:Nat):Int):=by lia
 rw[e,HT.abR,HT.abC];simp only[ZJ,Zv,bG];rw[Nat.min_eq_left (by lia)];rw[YD (by simp)];rw[<-List.map_drop];congr 1;rw[List.drop_append];simp
def EO(l:Str)(ss:Z_ Str):bB (U (.str l)) (U (.lst (ss.map D.str)))=U (!decide (l∈ss)):=by
 unfold bB;rw[fu];rfl
def fV{own:Z_ Str}{P:Str->Bool}{F:D->Z9 (Z9 D)}(h:∀l∈own,F (.str l)=U (if P l=L then U (.str l) else M)):bq F (own.map D.str)=U ((own.filter P).map D.str):=ck h
def mP{q:Type}(P:q->Bool)(l:Z_ q):(l.filter P).length<=l.length:=XM ..
noncomputable abbrev eJ(a0 a1:Z9 (D×Bool))(rs:Z_ Row)(wanted known:Z_ Str)(found:Z_ (Z_ Ce))(ps:Z_ Pat)(x6 x7 x8 x9 La K_ K9 K8 JD K1 K0 KZ:Z9 (D×Bool)):Mk:=[a0,a1,U (.lst (wanted.map D.str),Y),U (.lst (known.map D.str),Y),U (.lst (found.map cD),Y),U (.lst (ps.map (prD rs)),Y),x6,x7,x8,x9,La,K_,K9,K8,JD,K1,K0,KZ]
def Aa{rs:Z_ Row}(r_:rs.length<=20){wanted:Z_ Str}(hw:wanted.length<=100){done aq:Z_ Pat}{p:Pat}{kn:Z_ Str}{fd:Z_ (Z_ Ce)}{known:Z_ Str}{found:Z_ (Z_ Ce)}(J:Jn rs kn fd wanted done (p::aq) known found)(hk:known.length<=100)(hf:found.length<=2500)
  (h4:∀q∈p::aq,q.2.length<=4) (hl:(p::aq).length<=4) (a0 a1 x8 x9 La K_ K9 K8 JD K1 K0 KZ:Z9 (D×Bool)):∃IG II y8 y9 Nk Nj Ni Nh,Jn rs kn fd wanted (done++[p]) aq IG II/\IG.length<=known.length+4/\II.length<=found.length*rs.length/\
  j8 (eJ a0 a1 rs wanted known found (done++p::aq) (U (.int done.length,Y)) (U (prD rs p,Y)) x8 x9 La K_ K9 K8 JD K1 K0 KZ)=
   U (.next (eJ a0 a1 rs wanted IG II (done++p::aq) (U (.int done.length,Y)) (U (prD rs p,Y)) y8 y9 Nk Nj Ni Nh JD K1 K0 KZ)):=by
 obtain⟨ls,Wc,_,UD,lls⟩:=jx (aW aq);obtain⟨own,Ru,KC,Q2,lown⟩:=jx (aW [p]);have Sv:=h4 p (ZZ ..);have Sr:∀q∈aq,q.2.length<=4:=λq hq=>h4 q (Z1 _ hq);have Qo:aq.length<=3:=by simp at hl;lia
 have lr:=aU Sr;have lp:(aW [p]).length<=4:=by
  have:=aU (ps:=[p]) λq hq=>by rw[ZG.mp hq];exact Sv
  simpa using this
 have mo:∀l,l∈own↔l∈ans p.2:=λl=>by rw[Q2,bW];simp
 have ml:∀l,l∈wanted++ls↔l∈wanted\/∃q∈aq,l∈ans q.2:=λl=>by rw[Zl,UD,bW]
 have Mx:own.length<=4:=by lia
 generalize KJ:wanted++ls=later at ml;have U_:later.length<=200:=by rw[<-KJ,Zv];lia
 have J':=AL J mo KC ml;have f1:=mP (λl=>decide (l∈known)) own;have f2:=mP (λl=>decide (l∈later)&&!decide (l∈known)) own;have f3:=mP (λl=>decide (l∈later)) known;have Lf:∀l∈own.filter (λl=>decide (l∈known)),l∈known:=λl hl=>by simp at hl;exact hl.2
 have KG:∀l∈known.filter (λl=>decide (l∈later)),l∈known:=λl hl=>by simp at hl;exact hl.1
 have Jv:∀b∈binds rs p,∀l∈own,∃c,gt b l=U c:=λb hb l hl=>(dI hb).1 l ((mo l).mp hl);have Li:∀l∈own.filter (λl=>decide (l∈known))++own.filter (λl=>decide (l∈later)&&!decide (l∈known)),l∈own:=λl hl=>(Zl.mp hl).elim (λh=>(YZ.mp h).1) λh=>(YZ.mp h).1;have eg:=qY (bs:=binds rs p) (sh:=own.filter (λl=>decide (l∈known))) (ad:=own.filter (λl=>decide (l∈later)&&!decide (l∈known))) (by lia) (by lia) (by have:=jU rs p;lia) λb hb l hl=>Jv b hb l (Li l hl);generalize Qn:own.filter (λl=>decide (l∈known))=sh at*;generalize VB:own.filter (λl=>decide (l∈later)&&!decide (l∈known))=ad at*;generalize Pm:known.filter (λl=>decide (l∈later))=kept at*;have SS:∀k,(cI (grp (binds rs p) sh ad) k).length<=rs.length:=λk=>ZF (A1 sh ad k _) (jU rs p);have ee:=mJ (found:=found) (sp:=aV sh known) (kp:=aV kept known) (g:=grp (binds rs p) sh ad) (by unfold aV;simp;lia) (by unfold aV;simp;lia) (λk=>⟨by have:=SS k;lia,λa ha=>by
   obtain⟨b,_,_,e⟩:=(mx _ _ _ _ _).mp ha;rw[<-e];unfold vl;simp;lia⟩) hf λc hc i hi=>by
  obtain⟨φ,rfl,_⟩:=(J.mem c).mp hc;rw[ZJ];have:∃l∈sh++kept,i=known.idxOf l:=by
   unfold aV at hi;rw[<-YW]at hi;obtain⟨l,h1,h2⟩:=ZQ.mp hi;exact⟨l,h1,h2.symm⟩
  obtain⟨l,h1,rfl⟩:=this;exact YJ ((Zl.mp h1).elim (Lf l) (KG l))
 have Oe:=cM Lf (by lia) (by lia);have Ki:=cM KG (by lia) (by lia);refine⟨_,_,U (.lst (later.map D.str),Y),U (.lst (own.map D.str),Y),U (.lst (sh.map D.str),Y),U (.lst (ad.map D.str),Y),U (.lst (kept.map D.str),Y),U (oB (gD (grp (binds rs p) sh ad)),Y),J',by rw[Zv];lia,Aw SS,?_⟩;have c1:bq (az (ae 17) (λO=>U L) rJ (au Y [Y,Y,Y,Y,Y,Y,Y,Y,Y,Y,Y,Y,Y,Y,Y,Y,Y,Y] (eJ a0 a1 rs wanted known found (done++p::aq) (U (.int done.length,Y)) (U (prD rs p,Y)) x8 x9 La K_ K9 K8 JD K1 K0 KZ))) (aq.map (prD rs))=U (aq.map WC):=bw λq hq=>by
  simp[az,au,rJ,prD,at0]
 have l1:=aI (ps:=aq) (by lia) Sr;have l2:=aI (ps:=[p]) (by simp) λq hq=>by rw[ZG.mp hq];exact Sv
 have e0:ixO (U (prD rs p)) (U (.int 0))=U (WC p):=by simp[prD,at0]
 have e1:ixO (U (prD rs p)) (U (.int 1))=U (.lst ((binds rs p).map bD)):=by simp[prD,at1]
 rw[Wc]at l1;rw[Ru,Z2,Y6]at l2;simp only[j8,aad,aab,aba,aa3,aa_,abb,qr,aaj,PK];rw[aJ (by simp;lia),c1];simp only[aai,VV,PK,l1,aat];rw[abw _ _ (by simp;lia),<-YW,KJ,aag _ _ _ (by simp)];simp only[VW,aQ,aP,aad,aab,e0,VV];rw[aas _ (by simp)];simp only[VV,PK,l2,aat];rw[aag _ _ _ (by simp)];simp only[VW,aQ,aP,aad,aab,aaj,PK];rw[aJ (by simp;lia),fV (P:=λl=>decide (l∈known)) λl hl=>by
  by_cases hm:l∈known<;>simp[az,au,yB,fu,hm]]
 rw[Qn,aai,aaA _ _ _ (by simp)];simp only[VW,aQ,aP,aaY,aaZ,yS,aad,aab,aaj,PK];rw[aJ (by simp;lia),fV (P:=λl=>decide (l∈later)&&!decide (l∈known)) λl hl=>by
  by_cases hm:l∈later<;>by_cases hn:l∈known<;>simp[az,au,zu,fu,EO,hm,hn]]
 rw[VB,aai,aaA _ _ _ (by simp)];simp only[VW,aQ,aP,aaY,aaZ,yJ,aad,aab,aaj,PK];rw[aJ (by simp;lia),fV (P:=λl=>decide (l∈later)) λl hl=>by
  by_cases hm:l∈later<;>simp[az,au,zD,fu,hm]]
 rw[Pm,aai,aaA _ _ _ (by simp)];simp only[VW,aQ,aP,aaY,aaZ,zw,aad,aab,e1,VV,PK,eg];have Wf:frO (U (oB (gD (grp (binds rs p) sh ad)),L))=U (oB (gD (grp (binds rs p) sh ad))):=rfl;rw[Wf,aag _ _ _ (by simp)];have QS:∀ns,frO (U (jF ns,L))=U (jF ns):=λ_=>rfl;simp only[VW,aQ,aP,aad,aab,VV,PK,Oe,Ki,QS,ee,aat];rw[aag _ _ _ (by simp)];simp only[VW,aQ,aP,aad,aab];rw[abw _ _ (by simp;lia),aag _ _ _ (by simp),<-YW];rfl
theorem dR:∀{xs ys:Z_ D},(∀x∈xs,∀y∈ys,(lt x y).isSome=L)->(bJ lt xs ys).isSome=L
 |[],[],_=>rfl
 |[],_::_,_=>rfl
 |_::_,[],_=>rfl
 |x::xs,y::ys,h=>by
  unfold bJ;split;exact dR λa ha b hb=>h a (Z1 _ ha) b (Z1 _ hb);exact h x (ZZ ..) y (ZZ ..)
def bn:¬(Str.ofString "blank")=(Str.ofString "name"):=by decide +kernel
def nb:¬(Str.ofString "name")=(Str.ofString "blank"):=by decide +kernel
def wE(n:Nat)(c e:Ce):(ltD (n+1) (ceD c) (ceD e)).isSome=L:=by
 cases c<;>cases e<;>simp[ceD,ltD,bJ,bn,nb]<;>split<;>rfl
def De(fs:Z_ (Z_ Ce)):fJ (fs.map cD)=L:=by
 unfold fJ;rw[ZO];intro x hx;obtain⟨r,_,rfl⟩:=ZQ.mp hx;rw[ZH];refine⟨F2 r,?_⟩;rw[ZO];intro y hy;obtain⟨q,_,rfl⟩:=ZQ.mp hy;show(bJ (ltD 14) (r.map ceD) (q.map ceD)).isSome=L;refine dR λx hx y hy=>?_;obtain⟨c,_,rfl⟩:=ZQ.mp hx;obtain⟨e,_,rfl⟩:=ZQ.mp hy;exact wE 13 c e
def c4{q:Type}{f:q->D}:∀{l:Z_ D}{fs:Z_ q},l.Perm (fs.map f)->∃gs:Z_ q,gs.Perm fs/\l=gs.map f:=by
 intro l fs h;generalize hm:fs.map f=m at h
 induction h generalizing fs with
 |nil=>exact⟨[],by simp at hm;rw[hm],rfl⟩
 |cons x h ih=>
  cases fs with
  |nil=>simp at hm
  |cons a fs=>
   simp only[Z2,Yj]at hm;obtain⟨gs,p,e⟩:=ih hm.2;exact⟨a::gs,p.cons a,by rw[e,<-hm.1];rfl⟩
 |swap x y l=>
  cases fs with
  |nil=>simp at hm
  |cons a fs=>
   cases fs with
   |nil=>simp at hm
   |cons b fs=>
    simp only[Z2,Yj]at hm;exact⟨b::a::fs,List.Perm.swap ..,by rw[<-hm.1,<-hm.2.1,<-hm.2.2];rfl⟩
 |trans h1 h2 Qh Qg=>
  obtain⟨gs,p,e⟩:=Qg hm;obtain⟨VX,p',e'⟩:=Qh e.symm;exact⟨VX,p'.trans p,e'⟩
def GQ{fs:Z_ (Z_ Ce)}(nd:fs.Nodup){n:Nat}(hn:∀c∈fs,c.length=n):fs.length<2\/(fs.map cD).all (eO .tt)=L:=by
 by_cases h1:fs.length<2;exact .inl h1
 .have Sy:n≠0:=λz=>by
   subst z
   match fs,nd,hn,h1 with
   |[],_,_,h=>simp at h
   |[_],_,_,h=>simp at h
   |a::b::r,nd,hn,_=>
    have ha:=Yx.mp (hn a (by simp));have hb:=Yx.mp (hn b (by simp));simp[ha,hb]at nd
  refine .inr (ZO.mpr λd hd=>?_);obtain⟨c,hc,rfl⟩:=ZQ.mp hd;have:=hn c hc;cases c with
  |nil=>exact absurd this.symm Sy
  |cons x c=>cases x<;>rfl
def Cj{fs:Z_ (Z_ Ce)}(nd:fs.Nodup){n:Nat}(hn:∀c∈fs,c.length=n):dh .tt (U (.lst (fs.map cD)))=U (.lst (cH (fs.map cD))):=
 fW (De fs) (by simpa using GQ nd hn)
theorem lK{rs:Z_ Row}(r_:rs.length<=20){wanted:Z_ Str}(hw:wanted.length<=100)(a0 a1 JD K1 K0 KZ:Z9 (D×Bool)){n:Nat}{kn:Z_ Str}{fd:Z_ (Z_ Ce)}(N3:kn.length<=16)(hN:∀k,k<n->fd.length*rs.length ^ k<=2500):∀(aq done:Z_ Pat)(known:Z_ Str)(found:Z_ (Z_ Ce))(x6 x7 x8 x9 La K_ K9 K8:Z9 (D×Bool)),
  done.length+aq.length=n->n<=4->(∀q∈aq,q.2.length<=4)->Jn rs kn fd wanted done aq known found->known.length<=kn.length+4*done.length->found.length<=fd.length*rs.length ^ done.length->∃IG II y6 y7 y8 y9 Nk Nj Ni Nh,Jn rs kn fd wanted (done++aq) [] IG II/\IG.length<=32/\II.length<=fd.length*rs.length ^ n/\
  ar (λd O=>af ((aL (aj (ae 6) (aj (ae 7) (aah)))) d O) j8) (ie done.length (aq.map (prD rs))) (eJ a0 a1 rs wanted known found (done++aq) x6 x7 x8 x9 La K_ K9 K8 JD K1 K0 KZ)=
   U (.next (eJ a0 a1 rs wanted IG II (done++aq) y6 y7 y8 y9 Nk Nj Ni Nh JD K1 K0 KZ))
 |[],done,known,found,x6,x7,x8,x9,La,K_,K9,K8,h1,h2,h3,J,hk,hf=>by
  simp at h1;exact⟨known,found,x6,x7,x8,x9,La,K_,K9,K8,by simpa using J,by lia,by rw[<-h1];exact hf,rfl⟩
 |p::aq,done,known,found,x6,x7,x8,x9,La,K_,K9,K8,h1,h2,h3,J,hk,hf=>by
  have hd:done.length<n:=by simp at h1;lia
  have Vu:found.length<=2500:=ZF hf (hN _ hd);obtain⟨k1,f1,z8,z9,OV,OU,OT,OR,J1,hk1,Vt,e⟩:=Aa r_ hw J (by lia) Vu h3 (by simp at h1⊢;lia) a0 a1 x8 x9 La K_ K9 K8 JD K1 K0 KZ;obtain⟨k2,f2,y6,y7,y8,y9,Nk,Nj,Ni,Nh,J2,N6,Vs,e2⟩:=lK r_ hw a0 a1 JD K1 K0 KZ N3 hN aq (done++[p]) k1 f1 (U (.int done.length,Y)) (U (prD rs p,Y)) z8 z9 OV OU OT OR (by simp at h1⊢;lia) h2 (λq hq=>h3 q (Z1 _ hq)) J1 (by simp;lia)
   (by rw[Zv,List.length_singleton,Nat.pow_succ,<-Nat.mul_assoc];exact ZF Vt (Nat.mul_le_mul_right _ hf))
  refine⟨k2,f2,y6,y7,y8,y9,Nk,Nj,Ni,Nh,by simpa using J2,N6,Vs,?_⟩;rw[Zg,List.singleton_append]at e2;rw[Z2];simp only[ie];unfold ar;have et:(af ((aL (aj (ae 6) (aj (ae 7) (aah)))) (.tup [.int (done.length:Int),prD rs p]) (eJ a0 a1 rs wanted known found (done++p::aq) x6 x7 x8 x9 La K_ K9 K8 JD K1 K0 KZ)) j8)=U (.next (eJ a0 a1 rs wanted k1 f1 (done++p::aq) (U (.int (done.length:Int),Y)) (U (prD rs p,Y)) z8 z9 OV OU OT OR JD K1 K0 KZ)):=by
   rw[<-e];simp only[aaF,aaz,aaG,aae,Zm,bG,fU,PK,aQ,aP,Nat.reduceAdd,Nat.reduceLT]
  rw[et];rw[Zv,List.length_singleton]at e2;exact e2
def kD{rs:Z_ Row}(r_:rs.length<=20){ps:Z_ Pat}(JV:ps.length<=4)(h4:∀p∈ps,p.2.length<=4){kn:Z_ Str}{fd:Z_ (Z_ Ce)}(N3:kn.length<=16)(k1:kn.Nodup)(k2:fd.Nodup)(k3:∀x∈fd,x.length=kn.length)(k4:∀l∈kn,l∈aW ps)(hf0:fd.length<=2500)(hN:∀k,k<ps.length->fd.length*rs.length ^ k<=2500){wanted:Z_ Str}(hw:wanted.length<=100)(Pe:∀l∈wanted,l∈aW ps):∃fs:Z_ (Z_ Ce),fs.Nodup/\(∀x,x∈fs↔∃φ:Fit,x=wanted.map φ/\kn.map φ∈fd/\∀p∈ps,hU rs φ p)/\
  JS [.lst (rs.map aE),.lst (ps.map WC),.lst (wanted.map D.str),.lst (kn.map D.str),.lst (fd.map cD)]=U (.lst (cH (fs.map cD)),L)/\fs.length<=50000:=by
 obtain⟨o,po,eo⟩:=gA rs (by lia) kn (by lia) h4 JV;have ol:=po.length_eq;have ho:∀q∈o,q.2.length<=4:=λq hq=>h4 q (po.mem_iff.mp hq);have inO:∀l,l∈aW ps->∃p∈o,l∈ans p.2:=λl hl=>by
  obtain⟨p,hp,h⟩:=bW.mp hl;exact⟨p,po.mem_iff.mpr hp,h⟩
 obtain⟨known,found,y6,y7,y8,y9,Nk,Nj,Ni,Nh,J,hk,hf,e⟩:=lK r_ hw (U (.lst (rs.map aE),Y)) (U (.lst (ps.map WC),Y)) M M M M (n:=ps.length) N3 hN o [] kn fd M M M M M M M M (by simpa using ol) JV ho (w9 rs k1 k2 k3 λl hl=>.inr (inO l (k4 l hl))) (by simp) (by simp);simp only[List.nil_append]at J e;have Sk:∀l∈wanted,l∈kn\/∃p∈o,l∈ans p.2:=λl hl=>.inr (inO l (Pe l hl));have Sl:∀l∈wanted,l∈known:=λl hl=>J.has l (Sk l hl) (.inl hl);obtain⟨nd,mem⟩:=Dv J Sk;have es:=Cj nd (n:=wanted.length) (λc hc=>by
  obtain⟨d,_,rfl⟩:=ZQ.mp hc;unfold pk aV;simp)
 have Vv:found.length<=50000:=by
  refine ZF hf ?_;rcases Nat.eq_zero_or_pos ps.length with z|z;rw[z];simp;lia;obtain⟨m,hm⟩:∃m,ps.length=m+1:=⟨ps.length - 1,by lia⟩
  rw[hm,Nat.pow_succ,<-Nat.mul_assoc];exact ZF (Nat.mul_le_mul (hN m (by lia)) r_) (by decide)
 refine⟨found.map λc=>pk c (aV wanted known),nd,λx=>?_,?_⟩;rw[mem];constructor
 rintro⟨φ,h1,h0,h2⟩;exact⟨φ,h1,h0,λp hp=>h2 p (po.mem_iff.mpr hp)⟩
 rintro⟨φ,h1,h0,h2⟩;exact⟨φ,h1,h0,λp hp=>h2 p (po.mem_iff.mp hp)⟩
 refine⟨?_,by simpa using Vv⟩;rw[am (f:=JS) (d:=[U (.lst (rs.map aE),Y),U (.lst (ps.map WC),Y),U (.lst (wanted.map D.str),Y),U (.lst (kn.map D.str),Y),U (.lst (fd.map cD),Y),M,M,M,M,M,M,M,M,M,M,M,M,M]) rfl rfl rfl];simp only[Fe,aad,aab,VV,PK,eo,aat];rw[aag _ _ _ (by simp)];simp only[VW,aQ,aP,aad,aab,wY,PK];simp only[fU]at e;rw[e];simp only[VW,aad,aab,VV,PK];rw[cM Sl (by lia) (by lia)];have QS:∀ns,frO (U (jF ns,L))=U (jF ns):=λ_=>rfl;rw[QS,aag _ _ _ (by simp)];simp only[VW,aQ,aP,aad,aab,aaj,PK];rw[aJ (by simp;lia),bw (f:=cD) (h:=λc=>cD (pk c (aV wanted known))) λc hc=>by
  obtain⟨φ,rfl,_⟩:=(J.mem c).mp hc;have:=gN (c:=known.map φ) (ps:=aV wanted known) (λi hi=>by
   unfold aV at hi;obtain⟨l,h1,rfl⟩:=ZQ.mp hi;rw[ZJ];exact YJ (Sl l h1)) (by unfold aV;simp;lia)
  simp[az,au,yI,this]]
 have em:found.map (λc=>cD (pk c (aV wanted known)))=(found.map λc=>pk c (aV wanted known)).map cD:=by simp
 rw[aai,em,es];rfl
def nk(b:Bi):Prop:=(b.map (·.1)).Nodup
def zB(h:nk b)(hg:gt b l=M):nk (b++[(l,c)]):=by
 unfold nk at*;rw[YW,Yk];refine⟨h,by simp,λa ha d hd e=>?_⟩;simp at hd;subst hd;exact vn hg (by rw[<-e];exact ha)
theorem c6:∀{ts:Z_ Te}{cs:Z_ Ce}{b b':Bi},bnd ts cs b=U b'->nk b->nk b'/\b'.length<=b.length+ts.length/\∀l c,gt b' l=U c->gt b l=U c\/l∈ans ts
 |[],cs,b,b',h,hn=>by
  have:b=b':=by cases cs<;>(simp only[bnd,ZL]at h;exact h)
  subst this;exact⟨hn,by simp,λl c e=>.inl e⟩
 |.any l::ts,[],b,b',h,hn=>by simp only[bnd,ZL]at h;subst h;exact⟨hn,by simp,λl c e=>.inl e⟩
 |.nm l::ts,[],b,b',h,hn=>by simp only[bnd,ZL]at h;subst h;exact⟨hn,by simp,λl c e=>.inl e⟩
 |.any l::ts,c::cs,b,b',h,hn=>by
  simp only[bnd]at h;split at h;split at h;obtain⟨h1,h2,h3⟩:=c6 h hn;refine⟨h1,by simp;lia,λl' c' e=>?_⟩;rcases h3 l' c' e with q|q;exact .inl q;exact .inr (Z1 _ q);trivial;rename_i eg;obtain⟨h1,h2,h3⟩:=c6 h (zB hn eg);refine⟨h1,by simp at h2⊢;lia,λl' c' e=>?_⟩;rcases h3 l' c' e with q|q;rw[kB]at q;cases e':gt b l' with
  |some c''=>rw[e']at q;simp at q;exact .inl (by rw[q])
  |none=>
   rw[e',Option.none_or,cw]at q;split at q;rename_i hh;subst hh;exact .inr (ZZ ..);simp[gt]at q
  exact .inr (Z1 _ q)
 |.nm w::ts,c::cs,b,b',h,hn=>by
  simp only[bnd]at h;split at h;obtain⟨h1,h2,h3⟩:=c6 h hn;exact⟨h1,by simp;lia,h3⟩;trivial
def an:(("any":Str)="name")=False:=by simp;decide +kernel
def aap(q:Str×Ce):D:=.tup [.str q.1,ceD q.2]
def b7(b:Bi):D:=.lst (b.map aap)
def jE(h:aap a=aap b):a=b:=by
 obtain⟨x,c⟩:=a;obtain⟨y,d⟩:=b;simp only[aap,D.tup.injEq,Yj,D.str.injEq,and_true]at h;rw[h.1,eW h.2]
def iC(hn:nk b):(l,c)∈b↔gt b l=U c:=by
 induction b with
 |nil=>simp[gt]
 |cons q b ih=>
  obtain⟨k,e⟩:=q;have K5:k∉b.map (·.1)/\nk b:=by unfold nk at*;rw[Z2,Y4]at hn;exact hn
  rw[cw,Z0];by_cases h:k=l;subst h;rw[ZR rfl];constructor
  rintro(q|q)
  cases q;rfl;exact absurd (Wr (f:=(·.1)) q) K5.1;intro q;cases q;exact .inl rfl;rw[ZK h,<-ih K5.2];constructor
  rintro(q|q)
  cases q;exact absurd rfl h;exact q;exact .inr
def CK(q:Str×Ce):okD 16 (aap q)=L:=by obtain⟨l,c⟩:=q;cases c<;>rfl
def Bb(b:Bi):D.aaB (b.map aap)=L:=by
 rw[D.aaH,ZO];intro d hd;obtain⟨q,_,rfl⟩:=ZQ.mp hd;obtain⟨l,c⟩:=q;cases c<;>rfl
def EV(l:Str)(c:Ce)(b:Bi):bB (U (.tup [.str l,ceD c])) (U (.lst (b.map aap)))=U (!decide ((l,c)∈b)):=by
 unfold bB inO;simp only[aT];rw[ZR];have:decide ((D.tup [.str l,ceD c])∈b.map aap)=decide ((l,c)∈b):=YE.mpr ⟨λh=>by
  obtain⟨v,hv,e⟩:=ZQ.mp h;rw[jE (a:=v) (b:=(l,c)) e]at hv;exact hv,λh=>ZQ.mpr ⟨_,h,rfl⟩⟩
 rw[this];rfl;rw[ZH,ZO];refine⟨CK (l,c),λx hx=>?_⟩;obtain⟨v,_,rfl⟩:=ZQ.mp hx;exact CK v
abbrev Nd:D->Mk->Z9 Mk:=aL (aj (ae 6) (aj (ae 7) (aah)))
theorem vI(l:Str)(c:Ce)(a0 a1 a2 a3:Z9 (D×Bool)):∀(b:Bi)(x6 x7:Z9 (D×Bool)),
  (if ∃q∈b,q.1=l/\q.2≠c then fK Nd fE (b.map aap) [a0,a1,a2,a3,U (teD (.any l),Y),U (ceD c,Y),x6,x7]=U (.ret .non Y)
  else ∃y6 y7,fK Nd fE (b.map aap) [a0,a1,a2,a3,U (teD (.any l),Y),U (ceD c,Y),x6,x7]=U (.next [a0,a1,a2,a3,U (teD (.any l),Y),U (ceD c,Y),y6,y7]))
 |[],x6,x7=>by rw[ZK (by simp)];exact⟨x6,x7,rfl⟩
 |q::b,x6,x7=>by
  have ih:=vI l c a0 a1 a2 a3 b (U (.str q.1,Y)) (U (ceD q.2,Y));have e1:ixO (U (teD (.any l))) (U (.int 1))=U (.str l):=by simp[teD,at1]
  have es:fK Nd fE ((q::b).map aap) [a0,a1,a2,a3,U (teD (.any l),Y),U (ceD c,Y),x6,x7]=
    if q.1=l/\q.2≠c then U (.ret .non Y) else fK Nd fE (b.map aap) [a0,a1,a2,a3,U (teD (.any l),Y),U (ceD c,Y),U (.str q.1,Y),U (ceD q.2,Y)]:=by
   rw[Z2];simp only[fK,aap,aaF,aaz,aaG,aae,Zm,bG,fU,PK,aQ,aP,Nat.reduceAdd,Nat.reduceLT];simp only[fE,aad,aab,e1,aM,iY];by_cases h1:q.1=l;by_cases h2:q.2=c;simp[h1,h2];simp[h1,h2];simp[h1]
  rw[es];by_cases h:q.1=l/\q.2≠c;rw[ZR h,ZR ⟨q,.head _,h⟩];rw[ZK h];by_cases h':∃q∈b,q.1=l/\q.2≠c;rw[ZR h']at ih;obtain⟨r,hr,e⟩:=h';rw[ZR ⟨r,.tail _ hr,e⟩];exact ih;rw[ZK h']at ih;rw[ZK λz=>by
   obtain⟨r,hr,e⟩:=z;rcases Z0.mp hr with rfl|hr;exact h e;exact h' ⟨r,hr,e⟩]
  exact ih
theorem mn:∀(ts:Z_ Te)(cs:Z_ Ce)(b:Bi)(a0 a1 a2 x4 x5 x6 x7:Z9 (D×Bool)),nk b->b.length+ts.length<1000->
  (match bnd ts cs b with
  |some b'=>∃y4 y5 y6 y7,ar (λd O=>af ((aL (aj (ae 4) (aj (ae 5) (aah)))) d O) lF) ((ts.zip cs).map λq=>.tup [teD q.1,ceD q.2]) [a0,a1,a2,U (b7 b,L),x4,x5,x6,x7]=U (.next [a0,a1,a2,U (b7 b',L),y4,y5,y6,y7])
  |none=>ar (λd O=>af ((aL (aj (ae 4) (aj (ae 5) (aah)))) d O) lF) ((ts.zip cs).map λq=>.tup [teD q.1,ceD q.2]) [a0,a1,a2,U (b7 b,L),x4,x5,x6,x7]=U (.ret .non Y))
 |[],cs,b,a0,a1,a2,x4,x5,x6,x7,_,_=>⟨x4,x5,x6,x7,by simp[ar]⟩
 |.any l::ts,[],b,a0,a1,a2,x4,x5,x6,x7,_,_=>⟨x4,x5,x6,x7,by simp[ar]⟩
 |.nm l::ts,[],b,a0,a1,a2,x4,x5,x6,x7,_,_=>⟨x4,x5,x6,x7,by simp[ar]⟩
 |.any l::ts,c::cs,b,a0,a1,a2,x4,x5,x6,x7,hn,hl=>by
  have ih:=λb y6 y7 hn hb=>mn ts cs b a0 a1 a2 (U (teD (.any l),Y)) (U (ceD c,Y)) y6 y7 hn hb;rw[bG]at hl;have hs:=vI l c a0 a1 a2 (U (b7 b,L)) b x6 x7;have e0:ixO (U (teD (.any l))) (U (.int 0))=U (.str "any"):=by simp[teD,at0]
  have e1:ixO (U (teD (.any l))) (U (.int 1))=U (.str l):=by simp[teD,at1]
  have se:∀O,gR Nd fE (bZ (U (b7 b))) O=fK Nd fE (b.map aap) O:=λO=>by
   unfold b7;rw[aaj];unfold gR;dsimp only;rw[ZR (Bb b)]
  have ec:∀y:Bi,(if ∃q∈b,q.1=l/\q.2≠c then False else True)↔∀c',gt b l=U c'->c'=c:=λ_=>by
   split;rename_i h;obtain⟨⟨k,e⟩,h1,rfl,h3⟩:=h;simp only[false_iff];exact λz=>h3 (z e ((iC hn).mp h1));rename_i h;simp only[true_iff];intro c' hc;exact Decidable.byContradiction λz=>h ⟨(l,c'),(iC hn).mpr hc,rfl,z⟩
  rw[List.zip_cons_cons,Z2];unfold ar;simp only[aaF,aaz,aaG,aae,Zm,bG,fU,PK,aQ,aP,Nat.reduceAdd,Nat.reduceLT];simp only[lF,aad,aab,abt,e0,aM,an,Yo,Yn,acx,aaO,aaE,aav,VW,se,bnd];by_cases h:∃q∈b,q.1=l/\q.2≠c;rw[ZR h]at hs;obtain⟨⟨k,e⟩,h1,rfl,h3⟩:=h;rw[hs,(iC hn).mp h1];simp only[abK];rw[ZK h3];trivial;rw[ZK h]at hs;obtain⟨y6,y7,hs⟩:=hs;have hc:=(ec b).mp (by rw[ZK h];trivial);rw[hs];simp only[VW,aad,aab,abt,e1,VV];rw[aax _ (by simp)];have Rv:b7 b=.lst (b.map aap):=rfl;rw[Rv,EV];cases eg:gt b l with
  |some c'=>
   obtain rfl:=hc c' eg;simp only[(iC hn).mpr eg,Yn,YA,aaO,Y1];have:=ih b y6 y7 hn (by lia);cases eb:bnd ts cs b with
   |some b'=>rw[eb]at this;exact this
   |none=>rw[eb]at this;exact this
  |none=>
   have nm:(l,c)∉b:=λz=>by rw[(iC hn).mp z]at eg;cases eg
   simp only[nm,Yo,XW,aaE];rw[gC (ds:=b.map aap) _ rfl (by simp;lia)];have ea:(D.lst (b.map aap++[.tup [.str l,ceD c]]))=b7 (b++[(l,c)]):=by unfold b7;rw[YW];rfl
   simp only[aQ,aP,ea];have:=ih (b++[(l,c)]) y6 y7 (zB hn eg) (by simp;lia);cases eb:bnd ts cs (b++[(l,c)])with
   |some b'=>rw[eb]at this;exact this
   |none=>rw[eb]at this;exact this
 |.nm w::ts,c::cs,b,a0,a1,a2,x4,x5,x6,x7,hn,hl=>by
  have ih:=mn ts cs b a0 a1 a2 (U (teD (.nm w),Y)) (U (ceD c,Y)) x6 x7 hn (by simp at hl;lia);rw[List.zip_cons_cons,Z2];unfold ar;have e0:ixO (U (teD (.nm w))) (U (.int 0))=U (.str "name"):=by simp[teD,at0]
  simp only[aaF,aaz,aaG,aae,Zm,bG,fU,PK,aQ,aP,Nat.reduceAdd,Nat.reduceLT];simp only[lF,aad,aab,e0,aM,na,Yo,Yn,abN,zn,bnd];by_cases hc:Ce.nm w=c;simp only[hc,Yn,YA,aaO,aav,VW,aad,aab,e0,aM,na,Yo,Y1];exact ih;rw[ZK hc];simp only[hc,Yo,XW,aaE,abe,abK]
def jnB(b:Bi)(ts:Z_ Te)(cs:Z_ Ce):Z9 Bi:=if ts.length=cs.length then bnd ts cs b else M
def DC:Z9 Bi->D×Bool|some b=>(b7 b,L)|none=>(.non,Y)
def jb(hn:nk b)(hb:b.length<=100)(ts:Z_ Te)(cs:Z_ Ce)(h4:ts.length<=4):Ll [b7 b,.tup (ts.map teD),.tup (cs.map ceD)]=U (DC (jnB b ts cs)):=by
 rw[am (f:=Ll) (d:=[U (b7 b,Y),U (.tup (ts.map teD),Y),U (.tup (cs.map ceD),Y),M,M,M,M,M]) rfl rfl rfl];have n2:neO (iG (U (.tup (ts.map teD)))) (iG (U (.tup (cs.map ceD))))=U (!decide (ts.length=cs.length)):=by
  simp only[abM,ZJ];unfold neO;rw[aa0];show U (!decide ((ts.length:Int)=cs.length))=_;congr 2;exact YE.mpr (by lia)
 simp only[E2,aad,aab,n2];unfold jnB;by_cases c2:ts.length=cs.length;rw[ZR c2];have el:hV (U (b7 b))=U (b7 b):=rfl;simp only[c2,Yn,YA,aaO,aav,VW,aab,el];rw[aaA _ _ _ (by simp)];have:=mn ts cs b (U (b7 b,Y)) (U (.tup (ts.map teD),Y)) (U (.tup (cs.map ceD),Y)) M M M M hn (by lia);simp only[VW,aQ,aP,aad,aab,zZ,DN,Y1,abI,PK,gT];cases eb:bnd ts cs b with
 |some b'=>
  rw[eb]at this;obtain⟨y4,y5,y6,y7,e⟩:=this;rw[e];rfl
 |none=>
  rw[eb]at this;simp only at this;rw[this];rfl
 rw[ZK c2];simp only[c2,Yo,XW,aaE,abe,abK];rfl
def dm(o:Z9 Bi):D:=(DC o).1
def cG(found:Z_ Bi)(p:Pat)(r:Row):Z_ (Z9 Bi):=if r.1=p.1 then found.map λb=>jnB b p.2 r.2 else[]
def cU(rs:Z_ Row)(found:Z_ Bi)(p:Pat):Z_ Bi:=rs.flatMap λr=>if r.1=p.1 then found.filterMap λb=>jnB b p.2 r.2 else[]
def LF(rs:Z_ Row)(ps:Z_ Pat)(b0:Bi):Z_ Bi:=ps.foldl (cU rs) [b0]
def lS(found:Z_ Bi)(p:Pat)(r:Row):(cG found p r).length<=found.length:=by unfold cG;split<;>simp
theorem uj(h4:p.2.length<=4)(r:Row)(a0 a1 ab a2:Z9 (D×Bool)):∀(found:Z_ Bi)(more:Z_ (Z9 Bi))(x6:Z9 (D×Bool)),(∀b∈found,nk b/\b.length<=100)->more.length+found.length<=200000->∃y6,
  ar (λd q=>af ((ae 7) d q) sn) (found.map b7) [a0,a1,ab,a2,U (WC p,Y),U (.lst (more.map dm),L),U (aE r,Y),x6]=U (.next [a0,a1,ab,a2,U (WC p,Y),U (.lst ((more++cG found p r).map dm),L),U (aE r,Y),y6])
 |[],more,x6,_,_=>⟨x6,by unfold cG;split<;>simp[ar]⟩
 |b::found,more,x6,hb,hl=>by
  have p0:ixO (U (WC p)) (U (.int 0))=U (.str p.1):=by simp[WC,at0]
  have p1:ixO (U (WC p)) (U (.int 1))=U (.tup (p.2.map teD)):=by simp[WC,at1]
  have r0:ixO (U (aE r)) (U (.int 0))=U (.str r.1):=by simp[aE,at0]
  have r1:ixO (U (aE r)) (U (.int 1))=U (.tup (r.2.map ceD)):=by simp[aE,at1]
  have SY:=hb b (.head _);simp at hl;rw[Z2];unfold ar;rw[aae _ _ _ (by simp)];simp only[PK,aQ,aP,sn,aad,aab,p0,p1,r0,r1,aM];by_cases c:r.1=p.1;obtain⟨y6,e⟩:=uj h4 r a0 a1 ab a2 found (more++[jnB b p.2 r.2]) (U (b7 b,Y)) (λb' h'=>hb b' (.tail _ h')) (by simp;lia);refine⟨y6,?_⟩;simp only[c,Yn,aaE,VV,PK,jb SY.1 SY.2 p.2 r.2 h4];have es:shO (U (DC (jnB b p.2 r.2)))=U (dm (jnB b p.2 r.2)):=rfl;rw[es,gC (ds:=more.map dm) _ rfl (by simp;lia)];simp only[aQ,aP];have em:more.map dm++[dm (jnB b p.2 r.2)]=(more++[jnB b p.2 r.2]).map dm:=by simp
  rw[em,e];have er:more++[jnB b p.2 r.2]++cG found p r=more++cG (b::found) p r:=by unfold cG;rw[ZR c,ZR c];simp
  rw[er];obtain⟨y6,e⟩:=uj h4 r a0 a1 ab a2 found more (U (b7 b,Y)) (λb' h'=>hb b' (.tail _ h')) (by lia);refine⟨y6,?_⟩;simp only[c,Yo,aaO,aav];rw[e];have er:cG found p r=cG (b::found) p r:=by unfold cG;rw[ZK c,ZK c]
  rw[er]
theorem oX(h4:p.2.length<=4)(a0 a1 ab:Z9 (D×Bool))(hb:∀b∈found,nk b/\b.length<=100):∀(rs:Z_ Row)(more:Z_ (Z9 Bi))(x5 x6:Z9 (D×Bool)),more.length+rs.length*found.length<=100000->found.length<=100000->∃y5 y6,
  ar (λd q=>af ((ae 6) d q) u6) (rs.map aE) [a0,a1,ab,U (.lst (found.map b7),Y),U (WC p,Y),U (.lst (more.map dm),L),x5,x6]=U (.next [a0,a1,ab,U (.lst (found.map b7),Y),U (WC p,Y),U (.lst ((more++rs.flatMap (cG found p)).map dm),L),y5,y6])
 |[],more,x5,x6,_,_=>⟨x5,x6,by simp[ar]⟩
 |r::rs,more,x5,x6,hl,hf=>by
  have hm:=lS found p r;simp only[bG,Nat.succ_mul]at hl;obtain⟨z6,e⟩:=uj h4 r a0 a1 ab (U (.lst (found.map b7),Y)) found more x6 hb (by lia);obtain⟨y5,y6,e2⟩:=oX h4 a0 a1 ab hb rs (more++cG found p r) (U (aE r,Y)) z6 (by simp;lia) hf;refine⟨y5,y6,?_⟩;rw[Z2];unfold ar;rw[aae _ _ _ (by simp)];simp only[PK,aQ,aP,u6,aad,aab,aaj];rw[e];simp only;rw[e2];simp
def sL(rs:Z_ Row)(found:Z_ Bi)(p:Pat):(rs.flatMap (cG found p)).filterMap id=cU rs found p:=by
 unfold cU;rw[List.filterMap_flatMap];congr 1
 funext r
 unfold cG;split;rw[List.filterMap_map];rfl;rfl
def lZ(rs:Z_ Row)(found:Z_ Bi)(p:Pat):(cU rs found p).length<=rs.length*found.length:=by
 unfold cU
 induction rs with
 |nil=>simp
 |cons r rs ih=>
  rw[List.flatMap_cons,Zv,bG,Nat.succ_mul];have:(if r.1=p.1 then found.filterMap λb=>jnB b p.2 r.2 else[]).length<=found.length:=by
   split;exact WU ..;simp
  lia
def Dw(o:Z9 Bi):t7 (U (dm o))=U (!o.isSome):=by cases o<;>simp[t7,dm,DC,b7]
theorem mq:∀l:Z_ (Z9 Bi),(l.filter (·.isSome)).map dm=(l.filterMap id).map b7
 |[]=>rfl
 |none::l=>by simpa using mq l
 |some b::l=>by simpa[dm,DC]using mq l
def tj(h4:p.2.length<=4)(r_:rs.length<=20)(hb:∀b∈found,nk b/\b.length<=100)(hf:found.length<=2500)(a1 ab x3 x4 x5 x6:Z9 (D×Bool)):∃y4 y5 y6,
  af ((ae 4) (WC p) [U (.lst (rs.map aE),Y),a1,ab,U (.lst (found.map b7),Y),x3,x4,x5,x6]) oA=U (.next [U (.lst (rs.map aE),Y),a1,ab,U (.lst ((cU rs found p).map b7),Y),U (WC p,Y),y4,y5,y6]):=by
 have hm:rs.length*found.length<=20*2500:=Nat.mul_le_mul r_ hf;obtain⟨y5,y6,e⟩:=oX h4 (U (.lst (rs.map aE),Y)) a1 ab hb rs [] x5 x6 (by simp;lia) (by lia);have ml:(rs.flatMap (cG found p)).length<=50000:=by
  have:∀rs:Z_ Row,(rs.flatMap (cG found p)).length<=rs.length*found.length:=λrs=>by
   induction rs with
   |nil=>simp
   |cons r rs ih=>rw[List.flatMap_cons,Zv,bG,Nat.succ_mul];have:=lS found p r;lia
  exact ZF (this rs) (by lia)
 refine⟨U (.lst ((rs.flatMap (cG found p)).map dm),Y),y5,y6,?_⟩;rw[aae _ _ _ (by simp)];simp only[PK,aQ,aP,oA];rw[aas [] (by simp),aaA _ _ _ (by simp)];simp only[VW,aQ,aP,aad,aab,aaj,PK];simp only[Y6,List.nil_append]at e;rw[e];simp only[VW,aaY,aaZ,zt,aad,aab,aaj,PK];rw[aJ (by rw[ZJ,aam];lia),ck (f:=dm) (h:=dm) (p:=λo=>o.isSome) λo _=>by
  unfold az;have em:(au Y [Y,Y,Y,Y,Y,Y,Y,Y] [U (.lst (rs.map aE),Y),a1,ab,U (.lst (found.map b7),Y),U (WC p,Y),U (.lst ((rs.flatMap (cG found p)).map dm),Y),y5,y6])=[M,M,M,M,M,M,M,M]:=by simp[au]
  rw[em,aae _ _ _ (by simp)];simp only[PK,aQ,aP,aad,aab,Dw,abf,Bool.not_not,zF];cases o<;>rfl]
 rw[mq,sL,aai,aaA _ _ _ (by simp)];simp only[VW,aQ,aP,yf,aaY,aaZ,aav]
def oP(h:jnB b ts cs=U b')(hn:nk b):nk b'/\b'.length<=b.length+ts.length/\∀l c,gt b' l=U c->gt b l=U c\/l∈ans ts:=by
 unfold jnB at h;split at h;exact c6 h hn;cases h
def dW:b'∈cU rs found p↔∃r∈rs,r.1=p.1/\∃b∈found,jnB b p.2 r.2=U b':=by
 unfold cU;rw[List.mem_flatMap];constructor
 rintro⟨r,hr,h⟩
 split at h;rename_i c;obtain⟨b,hb,e⟩:=Yc.mp h;exact⟨r,hr,c,b,hb,e⟩;cases h
 rintro⟨r,hr,c,b,hb,e⟩
 exact⟨r,hr,by rw[ZR c];exact Yc.mpr ⟨b,hb,e⟩⟩
theorem kh(r_:rs.length<=20)(hN:∀k,k<n->rs.length ^ k<=2500)(a1 ab:Z9 (D×Bool)):∀(ps:Z_ Pat)(k:Nat)(found:Z_ Bi)(x3 x4 x5 x6:Z9 (D×Bool)),k+ps.length=n->n<=4->(∀p∈ps,p.2.length<=4)->(∀b∈found,nk b/\b.length<=16+4*k)->found.length<=rs.length ^ k->∃y3 y4 y5 y6,
  ar (λd O=>af ((ae 4) d O) oA) (ps.map WC) [U (.lst (rs.map aE),Y),a1,ab,U (.lst (found.map b7),Y),x3,x4,x5,x6]=U (.next [U (.lst (rs.map aE),Y),a1,ab,U (.lst ((ps.foldl (cU rs) found).map b7),Y),y3,y4,y5,y6])
 |[],k,found,x3,x4,x5,x6,_,_,_,_,_=>⟨x3,x4,x5,x6,by simp[ar]⟩
 |p::ps,k,found,x3,x4,x5,x6,h1,h2,h4,hb,hf=>by
  simp at h1;have hp:=h4 p (.head _);obtain⟨z4,z5,z6,e⟩:=tj hp r_ (λb h=>⟨(hb b h).1,by have:=(hb b h).2;lia⟩) (ZF hf (hN k (by lia))) a1 ab x3 x4 x5 x6;obtain⟨y3,y4,y5,y6,e2⟩:=kh r_ hN a1 ab ps (k+1) (cU rs found p) (U (WC p,Y)) z4 z5 z6 (by lia) h2 (λq hq=>h4 q (.tail _ hq)) (λb' h'=>by
   obtain⟨r,_,_,b,JZ,hj⟩:=dW.mp h';obtain⟨q1,q2,_⟩:=oP hj (hb b JZ).1;have:=(hb b JZ).2;exact⟨q1,by lia⟩) (ZF (lZ rs found p) (by rw[Nat.pow_succ,Nat.mul_comm];exact Nat.mul_le_mul_right _ hf))
  refine⟨y3,y4,y5,y6,?_⟩;rw[Z2];unfold ar;rw[e];simp only[List.foldl_cons];exact e2
def fZ(r_:rs.length<=20)(JV:ps.length<=2)(h4:∀p∈ps,p.2.length<=4)(hn:nk b0)(hb:b0.length<=16):KP [.lst (rs.map aE),.lst (ps.map WC),b7 b0]=U (.lst ((LF rs ps b0).map b7),Y):=by
 obtain⟨y3,y4,y5,y6,e⟩:=kh r_ (n:=ps.length) (λk hk=>by
  have:k<=1:=by lia
  exact ZF (Xz r_ k) (ZF (XG (by decide) this) (by decide))) (U (.lst (ps.map WC),Y)) (U (b7 b0,Y)) ps 0 [b0] M M M M (by simp) (by lia) h4 (λb IU=>by rw[ZG.mp IU];exact⟨hn,by lia⟩) (by simp)
 rw[am (f:=KP) (d:=[U (.lst (rs.map aE),Y),U (.lst (ps.map WC),Y),U (b7 b0,Y),M,M,M,M,M]) rfl rfl rfl];simp only[FB,aad,aab,VV];rw[aas _ (by simp),aag _ _ _ (by simp)];simp only[VW,aQ,aP,aad,aab,aaj,PK];simp only[Z2,Y6]at e;rw[e];rfl
structure Fd (rs:List Row)(b0:Bi)(done:List Pat)(found:List Bi):Prop where
 nd:∀b∈found,nk b
 has:∀b∈found,∀l∈aW done,∃c,gt b l=some c
 lts:∀b∈found,∀l c,gt b l=some c->gt b0 l=some c\/l∈aW done
 sub:∀b∈found,∀l c,gt b0 l=some c->gt b l=some c
 snd:∀b∈found,∀φ:Fit,(∀l∈aW done,gt b l=some (φ l))->∀p∈done,hU rs φ p
 cpl:∀φ:Fit,(∀l c,gt b0 l=some c->φ l=c)->(∀p∈done,hU rs φ p)->∃b∈found,∀l c,gt b l=some c->φ l=c
def eG(ps:Z_ Pat)(p:Pat)(l:Str):l∈aW (ps++[p])↔l∈aW ps\/l∈ans p.2:=by simp[aW]
def AX(F:Fd rs b0 done found)(p:Pat):Fd rs b0 (done++[p]) (cU rs found p):=by
 have key:∀b'∈cU rs found p,∃r∈rs,r.1=p.1/\∃b∈found,p.2.length=r.2.length/\bnd p.2 r.2 b=U b':=λb' h=>by
  obtain⟨r,hr,c,b,hb,e⟩:=dW.mp h;unfold jnB at e;split at e;rename_i hl;exact⟨r,hr,c,b,hb,hl,e⟩;cases e
 refine⟨λb' h=>?_,λb' h l hl=>?_,λb' h l c hc=>?_,λb' h l c hc=>?_,λb' h φ IP q hq=>?_,λφ h0 IP=>?_⟩;obtain⟨r,_,_,b,hb,_,e⟩:=key b' h;exact(c6 e (F.nd b hb)).1
 .obtain⟨r,_,_,b,hb,IQ,e⟩:=key b' h
  obtain⟨s1,s2,_⟩:=bO IQ e;rcases(eG done p l).mp hl with q|q;obtain⟨c,hc⟩:=F.has b hb l q;exact⟨c,s1 l c hc⟩;exact s2 l q
 .obtain⟨r,_,_,b,hb,_,e⟩:=key b' h
  rcases(c6 e (F.nd b hb)).2.2 l c hc with z|z
  .exact(F.lts b hb l c z).imp id λz=>(eG done p l).mpr (.inl z)
  .exact .inr ((eG done p l).mpr (.inr z))
 obtain⟨r,_,_,b,hb,IQ,e⟩:=key b' h;exact(bO IQ e).1 l c (F.sub b hb l c hc)
 .obtain⟨r,hr,c,b,hb,IQ,e⟩:=key b' h
  obtain⟨s1,_,s3⟩:=bO IQ e;rcases Zl.mp hq with hq|hq
  .refine F.snd b hb φ (λl hl=>?_) q hq
   obtain⟨d,hd⟩:=F.has b hb l hl;have:=IP l ((eG done p l).mpr (.inl hl));rw[s1 l d hd]at this;rw[hd];exact this
  .rw[ZG.mp hq]
   exact⟨r,hr,c,s3 φ λl hl=>IP l ((eG done p l).mpr (.inr hl))⟩
 obtain⟨b,hb,hg⟩:=F.cpl φ h0 λq hq=>IP q (YS _ hq);obtain⟨r,hr,h1,h2⟩:=IP p (ZE _ (.head _));obtain⟨b',e,IU⟩:=dO (φ:=φ) p.2 b λl c h=>hg l c h;refine⟨b',dW.mpr ⟨r,hr,h1,b,hb,?_⟩,IU⟩;unfold jnB;rw[ZR (by rw[h2];simp),h2];exact e
theorem zE(rs:Z_ Row):∀(ps done:Z_ Pat)(found:Z_ Bi),Fd rs b0 done found->Fd rs b0 (done++ps) (ps.foldl (cU rs) found)
 |[],done,found,F=>by simpa using F
 |p::ps,done,found,F=>by
  have:=zE rs ps (done++[p]) (cU rs found p) (AX F p);rwa[Zg]at this
def mS(rs:Z_ Row)(ps:Z_ Pat)(hn:nk b0):Fd rs b0 ps (LF rs ps b0):=
 zE rs ps [] [b0] ⟨λb hb=>by rw[ZG.mp hb];exact hn,λb _ l hl=>by simp[aW]at hl,λb hb l c h=>by rw[ZG.mp hb]at h;exact .inl h,λb hb l c h=>by rw[ZG.mp hb];exact h,λ_ _ _ _ p hp=>(nomatch hp),λφ h _=>⟨b0,.head _,h⟩⟩
def yq(rs:Z_ Row)(ps:Z_ Pat)(hn:nk b0):LF rs ps b0=[]↔¬∃ψ:Fit,(∀l c,gt b0 l=U c->ψ l=c)/\∀p∈ps,hU rs ψ p:=by
 have F:=mS rs ps hn;constructor
 rintro h ⟨ψ,h1,h2⟩
 obtain⟨b,hb,_⟩:=F.cpl ψ h1 h2;rw[h]at hb;cases hb;intro h;cases e:LF rs ps b0 with
 |nil=>rfl
 |cons b r=>
  have hb:b∈LF rs ps b0:=by rw[e];exact .head _
  refine(h ⟨λl=>(gt b l).getD default,λl c hc=>by show(gt b l).getD default=c;rw[F.sub b hb l c hc];rfl,F.snd b hb _ λl hl=>?_⟩).elim;obtain⟨c,hc⟩:=F.has b hb l hl;rw[hc];rfl
def nk0:nk []:=YY
def fn(b:Bi):Fit:=λl=>(gt b l).getD default
def wG(hb:b∈LF rs ps [])(l:Str)(hl:l∈aW ps):gt b l=U (fn b l):=by
 obtain⟨c,hc⟩:=(mS rs ps nk0).has b hb l hl;unfold fn;rw[hc];rfl
def yY(hb:b∈LF rs ps []):∀p∈ps,hU rs (fn b) p:=(mS rs ps nk0).snd b hb _ λl hl=>wG hb l hl
def sS(h:∀p∈ps,hU rs φ p):∃b∈LF rs ps [],∀l∈aW ps,fn b l=φ l:=by
 obtain⟨b,hb,hg⟩:=(mS rs ps nk0).cpl φ (λl c h=>by simp[gt]at h) h;exact⟨b,hb,λl hl=>(hg l _ (wG hb l hl)).symm⟩
def oM(hb:b∈LF rs ps [])(l:Str):l∈aW ps↔∃c,gt b l=U c:=
 ⟨λhl=>⟨_,wG hb l hl⟩,λ⟨c,hc⟩=>((mS rs ps nk0).lts b hb l c hc).elim (λz=>by simp[gt]at z) id⟩
def yA(b:Bi)(ls:Z_ Str):(vl b ls).length=ls.length:=by unfold vl;simp
def uL(ps:Z_ Pat):Z_ Str:=fw (uS (aW ps))
def wK(ps:Z_ Pat):(uL ps).Nodup:=(bu _).nodup_iff.mpr (eD _)
def ca(ps:Z_ Pat)(x:Str):x∈uL ps↔x∈aW ps:=(bu _).mem_iff.trans (iW x _)
def gX(ps:Z_ Pat):(uL ps).length<=(aW ps).length:=(bu (uS (aW ps))).length_eq▸uU _
def Ct(ps:Z_ Pat):(uL ps).Pairwise λa b=>leT a b=L:=Xs cN d8 _
def fL(us:Z_ Str)(c:Z_ Ce):D:=.lst ((us.zip c).map aap)
def Bw(x y:Ce):ltD 13 (ceD x) (ceD y)=ltD 14 (ceD x) (ceD y):=by
 cases x<;>cases y<;>simp[ceD,ltD,bJ,bn,nb]
theorem vA:∀(us:Z_ Str)(c d:Z_ Ce),c.length=us.length->d.length=us.length->bJ (ltD 14) ((us.zip c).map aap) ((us.zip d).map aap)=bJ (ltD 14) (c.map ceD) (d.map ceD)
 |[],c,d,h1,h2=>by rw[Yx.mp h1,Yx.mp h2];rfl
 |u::us,[],d,h1,h2=>by simp at h1
 |u::us,x::c,[],h1,h2=>by simp at h2
 |u::us,x::c,y::d,h1,h2=>by
  simp only[List.zip_cons_cons,Z2,bJ];by_cases e:x=y;subst e;rw[ZR rfl,ZR rfl];exact vA us c d (by simpa using h1) (by simpa using h2);rw[ZK λz=>e (congrArg Prod.snd (jE z)),ZK λz=>e (eW z)];show bJ (ltD 13) [.str u,ceD x] [.str u,ceD y]=_;simp only[bJ];rw[ZR trivial,ZK λz=>e (eW z)];exact Bw x y
def BY(h1:c.length=us.length)(h2:d.length=us.length):leD (fL us c) (fL us d)↔leD (cD c) (cD d):=by
 have e:ltD 15 (fL us d) (fL us c)=ltD 15 (cD d) (cD c):=vA us d c h2 h1;unfold leD;rw[e]
def uQ(q:Str×Ce)(n:Nat):okD (n+3) (aap q)=L:=by obtain⟨l,c⟩:=q;cases c<;>simp[aap,ceD,okD]
def D8(us:Z_ Str)(c:Z_ Ce)(n:Nat):okD (n+4) (fL us c)=L:=by
 simp only[fL,okD,List.all_map,ZO];exact λq _=>uQ q n
def At{us:Z_ Str}{xs:Z_ (Z_ Ce)}(h:∀c∈xs,c.length=us.length):fJ (xs.map (fL us))=L:=by
 unfold fJ;rw[ZO];intro x hx;obtain⟨c,hc,rfl⟩:=ZQ.mp hx;rw[ZH];refine⟨D8 us c 11,?_⟩;rw[ZO];intro y hy;obtain⟨d,hd,rfl⟩:=ZQ.mp hy;have e:ltD 15 (fL us c) (fL us d)=ltD 15 (cD c) (cD d):=vA us c d (h c hc) (h d hd);rw[e];show(bJ (ltD 14) (c.map ceD) (d.map ceD)).isSome=L;refine dR λx hx y hy=>?_;obtain⟨c,_,rfl⟩:=ZQ.mp hx;obtain⟨e,_,rfl⟩:=ZQ.mp hy;exact wE 13 c e
def DL(h1:c.length=us.length)(h2:d.length=us.length)(h:fL us c=fL us d):c=d:=by
 have e:=nQ (f:=aap) (λ_ _=>jE) (D.lst.inj h);have:=congrArg (List.map Prod.snd) e;rwa[List.map_snd_zip (by lia),List.map_snd_zip (by lia)]at this
theorem mR:∀us:Z_ Str,us.zip (us.map f)=us.map λl=>(l,f l)
 |[]=>rfl
 |u::us=>by rw[Z2,List.zip_cons_cons,mR us];rfl
def uX(b:Bi):fJ (b.map aap)=L:=by
 unfold fJ;rw[ZO];intro x hx;obtain⟨⟨l,c⟩,_,rfl⟩:=ZQ.mp hx;rw[ZH];refine⟨uQ (l,c) 12,?_⟩;rw[ZO];intro y hy;obtain⟨⟨k,d⟩,_,rfl⟩:=ZQ.mp hy;show(bJ (ltD 14) [.str l,ceD c] [.str k,ceD d]).isSome=L;simp only[bJ];split;split;rfl;exact wE 13 c d;rfl
def CG{us:Z_ Str}(hn:nk b)(hu:us.Nodup)(hs:us.Pairwise λa b=>leT a b=L)(hm:∀l,l∈us↔∃c,gt b l=U c):cH (b.map aap)=(us.zip (vl b us)).map aap:=by
 have ez:us.zip (vl b us)=us.map λl=>(l,(gt b l).getD default):=mR us;have p:(us.zip (vl b us)).Perm b:=by
  rw[ez];refine(W8 ?_ ?_).mpr λq=>?_;refine WZ _ (λa c h z=>h (congrArg Prod.fst z)) hu;exact List.Pairwise.of_map (·.1) (λa c h z=>h (congrArg Prod.fst z)) hn;obtain⟨l,c⟩:=q;rw[iC hn,ZQ];constructor
  rintro⟨k,hk,e⟩
  cases e;obtain⟨c,hc⟩:=(hm l).mp hk;rw[hc];rfl;intro h;exact⟨l,(hm l).mpr ⟨c,h⟩,by rw[h];rfl⟩
 refine de (uX b) _ _ (λy hy=>(aY _).mem_iff.mp hy) ((aY _).trans (p.map aap).symm) (bU (uX b)) ?_;rw[ez,XS];refine WZ _ (R:=λa c=>leT a c=L/\a≠c) (λa c h=>?_) (List.Pairwise.and hs hu);show bJ (ltD 14) [.str c,_] [.str a,_]≠U L;simp only[bJ];rw[ZK λz=>h.2 (D.str.inj z).symm];have:=h.1;unfold leT at this;simp only[ltD];intro z;rw[Z7 z]at this;trivial
def Br{rs:Z_ Row}{ps:Z_ Pat}:∀{found:Z_ Bi}{k:Nat},(∀p∈ps,p.2.length<=4)->(∀b∈found,nk b/\b.length<=4*k)->(∀b∈ps.foldl (cU rs) found,nk b/\b.length<=4*(k+ps.length))/\(ps.foldl (cU rs) found).length<=rs.length ^ ps.length*found.length:=by
 induction ps with
 |nil=>intro found k _ h;simpa using h
 |cons p ps ih=>
  intro found k h4 hb;have hp:=h4 p (.head _);obtain⟨q1,q2⟩:=ih (found:=cU rs found p) (k:=k+1) (λq hq=>h4 q (.tail _ hq)) λb' h'=>by
   obtain⟨r,_,_,b,JZ,hj⟩:=dW.mp h';obtain⟨q1,q2,_⟩:=oP hj (hb b JZ).1;have:=(hb b JZ).2;exact⟨q1,by lia⟩
  refine⟨λb h=>⟨(q1 b h).1,by have:=(q1 b h).2;simp;lia⟩,?_⟩;rw[List.foldl_cons,bG,Nat.pow_succ,Nat.mul_assoc];exact ZF q2 (Nat.mul_le_mul_left _ (lZ rs found p))
def lX(r:Row)(n:Nat):okD (n+3) (aE r)=L:=by
 simp only[aE,okD,rF,List.all_nil,Xh,Xi,List.all_map,ZO];intro c _;cases c<;>simp[ceD,okD]
def uF(rs:Z_ Row):okD 16 (.lst (rs.map aE))=L:=by
 simp only[okD,List.all_map,ZO];intro r _;exact lX r 12
open Classical in
def dn(c j:Int):Int:=((c*(2*j+3)+j)%2147483629*((c*(2*j+3)+j)%2147483629)+1)*48271%2147483629
def bf(c j:Int):0<=dn c j:=by unfold dn;lia
def Fh(c j:Int):dn c j<2147483629:=by unfold dn;lia
def bA(c j:Int)(h0: -1000<=j)(h1:j<=1000):p_ [.int c,.int j]=U (.int (dn c j),Y):=by
 rw[am (f:=p_) (d:=[U (.int c,Y),U (.int j,Y),M]) rfl rfl rfl];have e1:(0:Int)<=(c*(2*j+3)+j)%2147483629:=by lia
 have e2:(c*(2*j+3)+j)%2147483629<2147483629:=by lia
 simp[Fb,aaX c (2*j+3) (by lia),aaX ((c*(2*j+3)+j)%2147483629) ((c*(2*j+3)+j)%2147483629) (by lia),dn]
def fo:Str.length "abcdefghijklmnopqrstuvwxyz"=26:=by decide +kernel
def xC(c:Int):∃ws:Z_ Str,ws.length=6/\Lr [.int c]=U (.lst (ws.map .str),L):=by
 have m1:=bf c 1;generalize hsz:2+dn c 1%6=sz;have IW:2<=sz:=by lia
 have hs7:sz<=7:=by lia
 obtain⟨g,eg,gl,gp⟩:=cZ (ds:=iJ 0 sz.toNat) (P:=λ_ y=>∃x:Str,x.length=1/\y=.str x)
  (h:=az (ae 6) (λO=>U L) tm [U (.int c,Y),U (.str "abcdefghijklmnopqrstuvwxyz",Y),M,M,M,M,M,M]) λd hd=>by
   obtain⟨i,hi,rfl⟩:=ei hd;have h0:=bf c (2+(0+(i:Int)));obtain⟨x,hx,ex⟩:=gZ "abcdefghijklmnopqrstuvwxyz" (dn c (2+(0+(i:Int)))%26) (by rw[fo];decide) (by lia) (by rw[fo];lia);refine⟨.str x,?_,x,hx,rfl⟩;simp[az,tm];rw[bA c _ (by lia) (by lia),aar,aao _ _ (by decide)];have e0:(0:Int)+(i:Int)=i:=by lia
   rw[e0]at ex;rw[ex]
 obtain⟨ss,rfl,NX⟩:=ui (Q:=λx=>x.length=1) gl gp λd y hz=>by obtain⟨x,hx,e⟩:=hz;exact⟨x,e,hx⟩
 rw[bb,ZJ]at gl;have hj:=BE "" ss (by rw[oV NX,show Str.length ""=0 by decide +kernel];lia);have Vh:(Txt.join "" ss).length=ss.length:=by rw[vi,oV NX]
 generalize Txt.join "" ss=Jm at hj Vh;have m9:=bf c 9;generalize K6:dn c 9%sz=at';have VD:0<=at':=by rw[<-K6];exact Int.emod_nonneg _ (by lia)
 have S3:at'<sz:=by rw[<-K6];exact Int.emod_lt_of_pos _ (by lia)
 have Tu:Jm.length<=7:=by lia
 obtain⟨h_,el,fs,NA,x6,x7,rfl⟩:=f7 (body:=λd O=>af ((ae 6) d O) uh) (λpre O=>∃fs:Z_ Str,fs.length=pre.length/\∃x6 x7,
   O=[U (.int c,Y),U (.str "abcdefghijklmnopqrstuvwxyz",Y),U (.int sz,Y),U (.str Jm,Y),U (.int at',Y),U (.lst (fs.map D.str),L),x6,x7]) (iJ 0 4) []
  [U (.int c,Y),U (.str "abcdefghijklmnopqrstuvwxyz",Y),U (.int sz,Y),U (.str Jm,Y),U (.int at',Y),U (.lst [],L),M,M] ⟨[],rfl,M,M,rfl⟩
  λp d q O Mw hz=>by
   obtain⟨fs,Vq,x6,x7,e⟩:=hz;have hd:d∈iJ 0 4:=by
    rw[List.nil_append]at Mw;rw[<-Mw];simp
   have hp:p.length<4:=by
    have:=congrArg List.length Mw;rw[List.nil_append,bb]at this;simp at this;lia
   obtain⟨i,hi,rfl⟩:=ei hd;subst e;obtain⟨y,hy,ey⟩:=gZ Jm at' (by have:lim=1000000:=rfl;lia) VD (by lia);obtain⟨z,hz,ez⟩:=gZ "abcdefghijklmnopqrstuvwxyz" ((Txt.find "abcdefghijklmnopqrstuvwxyz" y+7*(0+(i:Int)))%26) (by rw[fo];decide) (by lia) (by rw[fo];lia);have c1:=jN Jm M (U at');have c2:=jN Jm (U (at'+1)) M;have H_:lim=1000000:=rfl;refine⟨_,.inl ?_,fs++[vQ Jm M (U at')++z++vQ Jm (U (at'+1)) M],by simp[Vq],U (.int (0+(i:Int)),Y),U (.str z,Y),rfl⟩;have e0:(0:Int)+(i:Int)=i:=by lia
   rw[e0]at ez⊢;simp[uh,ey,ez];rw[abv _ _ _ (by lia),abv _ _ _ (by lia),abO _ _ (by lia),abO _ _ (by rw[Str.length_append];lia)];rw[gC (ds:=fs.map D.str) _ (by rfl) (by rw[ZJ];lia)];simp
 rw[List.nil_append,bb]at NA;have m10:=bf c 10;obtain⟨z,hz,ez⟩:=gZ "abcdefghijklmnopqrstuvwxyz" (dn c 10%26) (by rw[fo];decide) (by lia) (by rw[fo];lia);refine⟨fs++[Jm++z,vQ Jm M (U (sz - 1))],by simp[NA],?_⟩;rw[am (f:=Lr) (d:=[U (.int c,Y),M,M,M,M,M,M,M]) rfl rfl rfl];simp[EE];rw[bA c 1 (by lia) (by lia),aar,aao _ _ (by decide),aa3,hsz];simp;rw[iI sz (by lia),PK,aJ (by rw[bb,aam];lia)];simp[au];rw[eg,aai,hj];simp;rw[bA c 9 (by lia) (by lia),aar,aao _ _ (by lia),K6];simp;rw[iI 4 (by lia),PK];rw[show(4:Int).toNat=4 from rfl];rw[el];simp[yT];have H_:lim=1000000:=rfl;rw[bA c 10 (by lia) (by lia),aar,aao _ _ (by decide),ez,abO _ _ (by lia),abv _ _ _ (by lia)];simp;rw[abw _ _ (by simp;lia)];simp
def sN:Str.length "ABCDEFGHIJKLMNOPQRSTUVWXYZ"=26:=by decide +kernel
def qQ(c:Int):∃ws:Z_ Str,ws.length=4/\Lo [.int c]=U (.lst (ws.map .str),L):=by
 have m1:=bf c 13;have m2:=bf c 14;obtain⟨st,JC,_,V7⟩:=kW (xs:=[D.int 1,.int 3,.int 5,.int 7,.int 9,.int 11]) (i:=dn c 14%6) (by lia) (by simp;lia);obtain⟨sp,NY,hs1,rfl⟩:∃sp:Int,0<=sp/\sp<=11/\st=.int sp:=by
  simp at JC;rcases JC with rfl|rfl|rfl|rfl|rfl|rfl<;>exact⟨_,by lia,by lia,rfl⟩
 obtain⟨g,eg,gl,gp⟩:=cZ (ds:=iJ 0 4) (P:=λ_ y=>∃x:Str,x.length=1/\y=.str x)
  (h:=az (ae 4) (λq=>U L) rL [M,U (.str "ABCDEFGHIJKLMNOPQRSTUVWXYZ",Y),U (.int (dn c 13%26),Y),U (.int sp,Y),M]) λd hd=>by
   obtain⟨i,hi,rfl⟩:=ei hd;obtain⟨x,hx,ex⟩:=gZ "ABCDEFGHIJKLMNOPQRSTUVWXYZ" ((dn c 13%26+sp*(0+(i:Int)))%26) (by rw[sN];decide) (by lia) (by rw[sN];lia);refine⟨.str x,?_,x,hx,rfl⟩;have e0:(0:Int)+(i:Int)=i:=by lia
   rw[e0]at ex;simp[az,rL];rw[aaX _ _ (by lia),aa3,aao _ _ (by decide),ex]
 obtain⟨ss,rfl,NX⟩:=ui (Q:=λx=>x.length=1) gl gp λd y hz=>by obtain⟨x,hx,e⟩:=hz;exact⟨x,e,hx⟩
 rw[bb,ZJ]at gl;refine⟨ss,by lia,?_⟩;rw[am (f:=Lo) (d:=[U (.int c,Y),M,M,M,M]) rfl rfl rfl];have H_:lim=1000000:=rfl;simp[Fl,H_];rw[bA c 13 (by lia) (by lia),aar,aao _ _ (by decide)];simp;rw[bA c 14 (by lia) (by lia),aar,aao _ _ (by decide)];simp;rw[V7];simp;rw[iI 4 (by lia),PK,aJ (by rw[bb];decide)];simp[au];rw[eg];simp
theorem oC(x:D):∀l:Z_ D,(m8 x l).length=l.length+1
 |[]=>rfl
 |y::ys=>by
  unfold m8;split;simp[oC x ys];simp
theorem oJ:∀{l:Z_ D},z∈m8 x l->z=x\/z∈l
 |[],h=>by simpa[m8]using h
 |y::ys,h=>by
  unfold m8 at h;split at h;rcases Z0.mp h with h|h;exact .inr (Z0.mpr (.inl h));rcases oJ h with h|h;exact .inl h;exact .inr (Z1 _ h);rcases Z0.mp h with h|h;exact .inl h;exact .inr h
theorem ln:∀l:Z_ D,(cH l).length=l.length
 |[]=>rfl
 |x::l=>by show(m8 x (cH l)).length=_;rw[oC,ln l];rfl
theorem lQ:∀{l:Z_ D},z∈cH l->z∈l
 |[],h=>h
 |x::l,h=>by
  rcases oJ (show z∈m8 x (cH l) from h)with h|h;exact Z0.mpr (.inl h);exact Z1 _ (lQ h)
def lu{ws:Z_ Str}{i:Int}(h0:0<=i)(h1:i<ws.length):∃w,atI (ws.map D.str) i=U (.str w):=by
 obtain⟨v,hv,_,e⟩:=kW (xs:=ws.map D.str) h0 (by simpa using h1);obtain⟨w,_,rfl⟩:=ZQ.mp hv;exact⟨w,e⟩
def m6{O:Type}{F:O->D}{P:D->D->Prop}{ds g:Z_ D}{Q:O->Prop}(hl:g.length=ds.length)(h:∀(i:Nat) d,ds[i]?=U d->∃y,g[i]?=U y/\P d y)(hP:∀d y,P d y->∃x,y=F x/\Q x):∃ss:Z_ O,g=ss.map F/\∀x∈ss,Q x:=by
 have hy:∀y∈g,∃x,y=F x/\Q x:=λy hy=>by
  obtain⟨i,hi,e⟩:=Wv.mp hy;obtain⟨z,ez,p⟩:=h i (ds[i]'(by lia)) (by simp[show i<ds.length by lia]);rw[YX hi]at ez;obtain rfl:=Z7 ez;rw[<-e];exact hP _ _ p
 clear h hl
 induction g with
 |nil=>exact⟨[],rfl,by simp⟩
 |cons y g ih=>
  obtain⟨x,e,q⟩:=hy y (ZZ ..);obtain⟨ss,e2,q2⟩:=ih λz hz=>hy z (Z1 _ hz);refine⟨x::ss,by rw[e,e2];rfl,λz hz=>?_⟩;rcases Z0.mp hz with hz|hz
  rw[hz];exact q;exact q2 z hz
def Ej(ns:Z_ Int)(l u:Z9 Int):∃cs:Z_ Int,mj (ns.map D.int) l u=cs.map D.int/\cs.length<=ns.length:=by
 unfold mj;refine⟨_,by rw[<-List.map_drop,<-List.map_take],?_⟩;simp;lia
def CM(n:Nat)(r q:Row):(ltD (n+3) (aE r) (aE q)).isSome=L:=by
 show(bJ (ltD (n+2)) [.str r.1,.tup (r.2.map ceD)] [.str q.1,.tup (q.2.map ceD)]).isSome=L;unfold bJ;split;unfold bJ;split;rfl;show(bJ (ltD (n+1)) (r.2.map ceD) (q.2.map ceD)).isSome=L;refine dR λx hx y hy=>?_;obtain⟨c,_,rfl⟩:=ZQ.mp hx;obtain⟨e,_,rfl⟩:=ZQ.mp hy;exact wE n c e;rfl
def xT(rs:Z_ Row):fJ (rs.map aE)=L:=by
 unfold fJ;rw[ZO];intro x hx;obtain⟨r,_,rfl⟩:=ZQ.mp hx;rw[ZH];refine⟨lX r 12,?_⟩;rw[ZO];intro y hy;obtain⟨q,_,rfl⟩:=ZQ.mp hy;exact CM 12 r q
def zT(rs:Z_ Row):(rs.map aE).all (eO .ts)=L:=by
 rw[ZO];intro x hx;obtain⟨r,_,rfl⟩:=ZQ.mp hx;rfl
def vS{q:Type}{F:q->D}{P:q->Prop}(h:∀x∈l,∃a,P a/\x=F a):∃as:Z_ q,l=as.map F/\∀a∈as,P a:=by
 induction l with
 |nil=>exact⟨[],rfl,by simp⟩
 |cons x l ih=>
  obtain⟨a,pa,e⟩:=h x (ZZ ..);obtain⟨as,e2,Uk⟩:=ih λy hy=>h y (Z1 _ hy);refine⟨a::as,by rw[e,e2];rfl,λb hb=>?_⟩;rcases Z0.mp hb with rfl|hb
  exact pa;exact Uk b hb
def wm(rs:Z_ Row)(h:rs.length<64):∃fs:Z_ Row,(∀r∈fs,r∈rs)/\fs.length<=rs.length/\Ln [.lst (rs.map aE)]=U (.lst (fs.map aE),L):=by
 obtain⟨ss,es,NX⟩:=vS (F:=aE) (l:=cH (rs.map aE)) (P:=λr=>r∈rs) λx hx=>by
  obtain⟨r,hr,e⟩:=ZQ.mp (lQ hx);exact⟨r,hr,e.symm⟩
 have Nw:ss.length=rs.length:=by have:=congrArg List.length es;rw[ln]at this;simpa using this.symm
 have loop:∀(qs fs:Z_ Row)(x2:Z9 (D×Bool)),fs.length+qs.length<64->∃(MJ:Z_ Row)(y2:Z9 (D×Bool)),(∀r∈MJ,r∈fs\/r∈qs)/\MJ.length<=fs.length+qs.length/\
   ar (λd O=>af ((ae 2) d O) nY) (qs.map aE) [U (.lst (rs.map aE),Y),U (.lst (fs.map aE),L),x2]=U (.next [U (.lst (rs.map aE),Y),U (.lst (MJ.map aE),L),y2]):=by
  intro qs
  induction qs with
  |nil=>intro fs x2 _;exact⟨fs,x2,λr hr=>.inl hr,by simp,rfl⟩
  |cons q qs ih=>
   intro fs x2 hl;rw[bG]at hl;have Jv:inO (U (aE q)) (U (.lst (fs.map aE)))=U (decide (aE q∈fs.map aE)):=by
    unfold inO;simp only[aT];rw[ZR];rw[lX q 13,Xi,ZO];intro x hx;obtain⟨r,_,rfl⟩:=ZQ.mp hx;exact lX r 13
   by_cases hm:aE q∈fs.map aE
   .obtain⟨MJ,y2,h1,h2,h3⟩:=ih fs (U (aE q,Y)) (by lia)
    refine⟨MJ,y2,λr hr=>(h1 r hr).imp id λz=>Z1 _ z,by rw[bG];lia,?_⟩;rw[Z2,<-h3]
    conv=>lhs;unfold ar
    simp[nY,bB,Jv,hm]
   .obtain⟨MJ,y2,h1,h2,h3⟩:=ih (fs++[q]) (U (aE q,Y)) (by simp;lia)
    refine⟨MJ,y2,λr hr=>?_,by simp at h2⊢;lia,?_⟩;rcases h1 r hr with z|z;rcases Zl.mp z with z|z;exact .inl z;rw[ZG.mp z];exact .inr (ZZ ..);exact .inr (Z1 _ z)
    .rw[Z2,<-h3]
     conv=>lhs;unfold ar
     have MA:decide (aE q∈fs.map aE)=Y:=ZA hm;simp only[nY,bB,aae,aad,aab,abt,bG,fU,aQ,aP,PK,Yh,Nat.reduceAdd,Nat.reduceLT,Jv,MA,abf,XW,aaE,B8,abT,abS];rw[ZR (by rw[ZJ,aam];lia)];simp
 obtain⟨fs,y2,h1,h2,h3⟩:=loop ss [] M (by simp;lia);refine⟨fs,λr hr=>?_,by simp at h2;lia,?_⟩;rcases h1 r hr with z|z;simp at z;exact NX r z;rw[am (f:=Ln) (d:=[U (.lst (rs.map aE),Y),M,M]) rfl rfl rfl];have UQ:dh .ts (U (.lst (rs.map aE)))=U (.lst (ss.map aE)):=by
  rw[fW (xT rs) (.inr (zT rs)),es]
 rw[Y6]at h3;simp[Fk,UQ];rw[h3];simp
def aG(ws:Z_ Str)(st sp:Int):D:=.tup [.lst (ws.map .str),.int st,.int sp]
def xJ(c:Int):∃ws st sp,ws.length=6/\0<=st/\st<400000/\0<=sp/\sp<=50000/\Lp [.int c]=U (aG ws st sp,Y):=by
 obtain⟨ws,hw,ew⟩:=xC c;have m1:=bf c 11;have m2:=bf c 12;refine⟨ws,dn c 11%400000,1+dn c 12%50000,hw,by lia,by lia,by lia,by lia,?_⟩;rw[am (f:=Lp) (d:=[U (.int c,Y)]) rfl rfl rfl];simp[Fu,ew];rw[bA c 11 (by lia) (by lia),bA c 12 (by lia) (by lia)];simp[aG]
def yw{a b m:Int}(h0:0<=a)(h1:a<m)(hb:1<=b):0<=a / b/\a / b<m:=⟨Int.ediv_nonneg h0 (by lia),Int.lt_of_le_of_lt (Int.ediv_le_self b h0) h1⟩
def Au{ws:Z_ Str}{st sp:Int}(hw:ws.length=6)(h0:0<=st)(h1:st<400000)(h2:0<=sp)(h3:sp<=50000)(c:Int)(hc:0<=c):∃e:Ce,KQ [aG ws st sp,.int c]=U (ceD e,Y):=by
 have d1:=yw (a:=c / 2%6) (b:=1+c / 12%4) (m:=6) (by lia) (by lia) (by lia);have d2:=yw (a:=c / 2%12) (b:=1+c / 24%6) (m:=12) (by lia) (by lia) (by lia);obtain⟨w,ew⟩:=lu (ws:=ws) (i:=c / 2%6 / (1+c / 12%4)) d1.1 (by have:=d1.2;lia);by_cases hm:c%2=0;refine⟨.bk (st+sp*(c / 2%12 / (1+c / 24%6))),?_⟩;rw[am (f:=KQ) (d:=[U (aG ws st sp,Y),U (.int c,Y),M,M,M]) rfl rfl rfl];simp[Eh,aG,hm];rw[aa2 _ _ (by lia),aaX sp _ (by lia)];simp[ceD];refine⟨.nm w,?_⟩;rw[am (f:=KQ) (d:=[U (aG ws st sp,Y),U (.int c,Y),M,M,M]) rfl rfl rfl];simp[Eh,aG,hm];rw[aa2 _ _ (by lia),abg,ew];simp[ceD]
def Hm(h0:0<=m)(h1:m<4):∃k:Int,1<=k/\k<=3/\atI [D.int 1,.int 2,.int 2,.int 3] m=U (.int k):=by
 obtain rfl|rfl|rfl|rfl:m=0\/m=1\/m=2\/m=3:=by lia
 exact⟨1,by decide,by decide,rfl⟩;exact⟨2,by decide,by decide,rfl⟩;exact⟨2,by decide,by decide,rfl⟩;exact⟨3,by decide,by decide,rfl⟩
def zo{ws:Z_ Str}{st sp:Int}(hw:ws.length=6)(h0:0<=st)(h1:st<400000)(h2:0<=sp)(h3:sp<=50000)(c:Int):∃r:Row,r.2.length<=3/\J_ [aG ws st sp,.int c]=U (aE r,Y):=by
 have m1:=bf c 1;have m2:=bf c 2;obtain⟨sz,z1,z2,hsz⟩:=Hm (m:=dn c 1%4) (by lia) (by lia);obtain⟨t,et⟩:=lu (ws:=ws) (i:=dn c 2%2) (by lia) (by lia);have V4:atI [D.lst (ws.map .str),.int st,.int sp] 0=U (.lst (ws.map .str)):=rfl;obtain⟨g,eg,gl,gp⟩:=cZ (ds:=iJ 0 sz.toNat) (P:=λ_ y=>∃e:Ce,True/\y=ceD e)
  (h:=az (ae 4) (λq=>U L) rS [U (aG ws st sp,Y),U (.int c,Y),M,M,M]) λd hd=>by
   obtain⟨i,hi,rfl⟩:=ei hd;obtain⟨e,ee⟩:=Au hw h0 h1 h2 h3 (dn c (3+(0+(i:Int)))) (bf _ _);refine⟨ceD e,?_,e,trivial,rfl⟩;have e0:(0:Int)+(i:Int)=i:=by lia
   rw[e0]at ee⊢;simp[az,rS];rw[bA c _ (by lia) (by lia)];simp[ee]
 obtain⟨cs,rfl,QD⟩:=m6 (F:=ceD) (Q:=λ_=>True) gl gp λd y hz=>by obtain⟨e,a,b⟩:=hz;exact⟨e,b,a⟩
 rw[bb,ZJ]at gl;refine⟨(t,cs),by simp only;lia,?_⟩;rw[am (f:=J_) (d:=[U (aG ws st sp,Y),U (.int c,Y),M,M,M]) rfl rfl rfl];simp[EZ];rw[bA c 1 (by lia) (by lia),aar,aao _ _ (by decide)];simp[hsz];rw[iI sz (by lia),PK,aJ (by rw[bb,aam];lia)];simp[au];rw[eg];simp[zj,aG,V4];rw[bA c 2 (by lia) (by lia),aar,aao _ _ (by decide),abg,et];simp[aE]
def Gp(a b:D)(i j:Nat)(q:Mk)(hi:i<q.length)(hj:j<q.length):vK (U (.tup [a,b])) (aL (aj (ae i) (aj (ae j) (aah)))) q=U (.next ((q.set i (U (a,Y))).set j (U (b,Y)))):=by
 unfold vK;simp only[aaF,aaz,aaG,aae i a q hi,PK];rw[aae j b _ (by simpa using hj)];rfl
def Gz:¬(Str.ofString "blank")=(Str.ofString "any"):=by decide +kernel
def Eg(c:Ce)(d:Int)(l:Str):Te:=match c with|.bk _=>.any l|.nm w=>if d%2=1 then .any l else .nm w
def Wd(w:D):Prop:=∃ws st sp,ws.length=6/\0<=st/\st<400000/\0<=sp/\sp<=50000/\w=aG ws st sp
def AS(h:bQ i q=U (.lst ds))(hk:ixN ds.length k=U j):kg i (U (.int k)) (U d) q=U (.next (q.set i (U (.lst (ds.set j d),L)))):=by
 unfold kg;rw[h];dsimp only;rw[hk];rfl
noncomputable abbrev eP(ws:Z_ Str)(st sp:Int)(ls:Z_ Str)(a2:Z9 (D×Bool))(c:Int)(a4:Z9 (D×Bool))(cs:Z_ Ce)(x:Z_ D)(x7 x8:Z9 (D×Bool)):Mk:=[U (aG ws st sp,Y),U (.lst (ls.map .str),Y),a2,U (.int c,Y),a4,U (.tup (cs.map ceD),Y),U (.lst x,L),x7,x8]
def v3{ws:Z_ Str}{st sp:Int}(hw:ws.length=6){ls:Z_ Str}(hl:ls.length=4)(c:Int)(a2 a4:Z9 (D×Bool))(cs:Z_ Ce)(QD:cs.length<=4):∃ts:Z_ Te,ts.length=cs.length/\∃x7 x8,
  ar (λd O=>af ((ae 7) d O) pV) (iJ 0 cs.length) (eP ws st sp ls a2 c a4 cs [] M M)=
   U (.next (eP ws st sp ls a2 c a4 cs (ts.map teD) x7 x8)):=by
 obtain⟨h_,el,ts,hpl,x7,x8,rfl⟩:=f7 (body:=λd O=>af ((ae 7) d O) pV) (λpre O=>∃ts:Z_ Te,ts.length=pre.length/\∃x7 x8,
   O=(eP ws st sp ls a2 c a4 cs (ts.map teD) x7 x8)) (iJ 0 cs.length) []
  (eP ws st sp ls a2 c a4 cs [] M M) ⟨[],rfl,M,M,rfl⟩
  λp d q O Mw hz=>by
   obtain⟨ts,JV,x7,x8,e⟩:=hz;rw[List.nil_append]at Mw;have hp:p.length<cs.length:=by
    have:=congrArg List.length Mw;rw[bb]at this;simp at this;lia
   have QB:=xw (lo:=0) hp;rw[<-Mw]at QB;simp at QB;subst QB;generalize o_:p.length=i at JV hp⊢;subst e;have h0:=bf c (17+(i:Int));obtain⟨l,el⟩:=lu (ws:=ls) (i:=dn c (17+(i:Int)) / 2%4) (by lia) (by lia);obtain⟨u,eu⟩:=lu (ws:=ws) (i:=dn c (17+(i:Int)) / 13%6) (by lia) (by lia);have hc:atI (cs.map ceD) (i:Int)=U (ceD cs[i]):=zg (by lia) (by simp[hp]);have hm:=bA c (17+(i:Int)) (by lia) (by lia);have w0:ixO (U (aG ws st sp)) (U (.int 0))=U (.lst (ws.map .str)):=rfl;have ap:∀(t:Te)(x7 x8:Z9 (D×Bool)),ip 6 (U (teD t)) (eP ws st sp ls a2 c a4 cs (ts.map teD) x7 x8)=U (.next (eP ws st sp ls a2 c a4 cs ((ts++[t]).map teD) x7 x8)):=λt x7 x8=>by
    rw[gC (ds:=ts.map teD) _ (by rfl) (by rw[ZJ,aam];lia)];simp
   have fin:∀(t:Te)(b:Bool)(x7 x8:Z9 (D×Bool)),ifO (U b) (kg 6 (U (.int (i:Int))) (U (teD (.nm u))) (eP ws st sp ls a2 c a4 cs ((ts++[t]).map teD) x7 x8)) (aan (eP ws st sp ls a2 c a4 cs ((ts++[t]).map teD) x7 x8))=
     U (.next (eP ws st sp ls a2 c a4 cs ((ts++[if b=L then .nm u else t]).map teD) x7 x8)):=λt b x7 x8=>by
    cases b with
    |false=>rfl
    |true=>
     rw[aaE,AS (ds:=(ts++[t]).map teD) (j:=i) rfl (by unfold ixN;rw[ZR (by lia),ZR (by simp;lia)];simp)];simp[<-JV]
   refine⟨_,.inl ?_,ts++[if decide (dn c (17+(i:Int))%13=1)=L then .nm u else Eg cs[i] (dn c (17+(i:Int))) l],by simp[JV,o_],U (.int i,Y),U (.int (dn c (17+(i:Int))),Y),rfl⟩;simp only[aae,bG,fU,Nat.reduceAdd,Nat.reduceLT,PK,aQ,aP,pV,aad,aab,aa3,VV,hm,aar,aag,VW,ab_,hc,abg,aao _ _ (show(0:Int)<2 by lia),aao _ _ (show(0:Int)<4 by lia),aa2 _ _ (show(0:Int)<2/\(2:Int)<1073741824 by lia),el];rw[aax _ (by simp)];have ta:(.tup [.str "any",.str l]:D)=teD (.any l):=rfl;have tl:∀t:Te,aC (U (Out.next (eP ws st sp ls a2 c a4 cs ((ts++[t]).map teD) (U (.int i,Y)) (U (.int (dn c (17+(i:Int))),Y))))) (λO=>ifO (eqO (cF (rd Y 8 O) (U (.int 13))) (U (.int 1))) (kg 6 (rd Y 7 O) (eY (aa (U (.str "name")) (aa (ixO (ixO (rd Y 0 O) (U (.int 0))) (cF (ot (rd Y 8 O) (U (.int 13))) (U (.int 6)))) (U [])))) O) (aan O))=
     U (.next (eP ws st sp ls a2 c a4 cs ((ts++[if decide (dn c (17+(i:Int))%13=1)=L then .nm u else t]).map teD) (U (.int i,Y)) (U (.int (dn c (17+(i:Int))),Y)))):=λt=>by
    simp only[VW,aad,aab,w0,aao _ _ (show(0:Int)<13 by lia),aao _ _ (show(0:Int)<6 by lia),aa2 _ _ (show(0:Int)<13/\(13:Int)<1073741824 by lia),abg,eu,VV,aa0];rw[aax _ (by simp)];exact fin t _ _ _
   rw[ta,ap];cases hci:cs[i]with
   |bk n=>
    have:eqO (ixO (U (ceD (.bk n))) (U (.int 0))) (U (.str "blank"))=U L:=by simp[ceD,at0,aM]
    rw[this];simp only[acJ,aaE,Eg];exact tl _
   |nm w=>
    have:eqO (ixO (U (ceD (.nm w))) (U (.int 0))) (U (.str "blank"))=U Y:=by simp[ceD,at0,aM,nb]
    rw[this];have tn:ceD (.nm w)=teD (.nm w):=rfl;rw[tn,ap,aa0];by_cases hm:dn c (17+(i:Int))%2=1;simp only[hm,Yn,abV,aaE,Eg,Y1];exact tl _;simp only[hm,Yo,abV,aaO,Eg,Zb];exact tl _
 rw[List.nil_append,bb]at hpl;exact⟨ts,hpl,x7,x8,el⟩
def qT(hw:Wd w){ls:Z_ Str}(hl:ls.length=4){rs:Z_ Row}(r_:rs.length<=63)(h4:∀r∈rs,r.2.length<=3)(c:Int):∃p:Pat,p.2.length<=4/\Lm [w,.lst (ls.map .str),.lst (rs.map aE),.int c]=U (WC p,Y):=by
 obtain⟨ws,st,sp,w1,w2,w3,w4,w5,rfl⟩:=hw;obtain⟨r0,US,Wa⟩:=zo w1 w2 w3 w4 w5 c;have m16:=bf c 16;have dN:∃r:Row,r.2.length<=3/\ifO (neO (U (.lst (rs.map aE))) (dg (U []))) (vK (ixO (U (.lst (rs.map aE))) (cF (shO (af (aa (U (.int c)) (aa (U (.int 16)) (U []))) p_)) (iG (U (.lst (rs.map aE)))))) (aL (aj (ae 4) (aj (ae 5) (aah)))) [U (aG ws st sp,Y),U (.lst (ls.map .str),Y),U (.lst (rs.map aE),Y),U (.int c,Y),U (.str r0.1,Y),U (.tup (r0.2.map ceD),Y),M,M,M]) (aan [U (aG ws st sp,Y),U (.lst (ls.map .str),Y),U (.lst (rs.map aE),Y),U (.int c,Y),U (.str r0.1,Y),U (.tup (r0.2.map ceD),Y),M,M,M])=
   U (.next [U (aG ws st sp,Y),U (.lst (ls.map .str),Y),U (.lst (rs.map aE),Y),U (.int c,Y),U (.str r.1,Y),U (.tup (r.2.map ceD),Y),M,M,M]):=by
  have en:neO (U (.lst (rs.map aE))) (dg (U []))=U (!decide (rs=[])):=by
   rw[aas _ (by simp),Bv _ _ (by unfold ok2;rw[uF];rfl)];congr 2;exact YE.mpr (by simp)
  rw[en];by_cases hn:rs=[];refine⟨r0,US,?_⟩;rw[Zw hn];rfl;have Rf:0<rs.length:=Wq.mpr hn;have a0:(0:Int)<=dn c 16%(rs.length:Int):=Int.emod_nonneg _ (by lia);have a1:dn c 16%(rs.length:Int)<rs.length:=Int.emod_lt_of_pos _ (by lia);obtain⟨v,hv,_,ev⟩:=kW (xs:=rs.map aE) a0 (by simpa using a1);obtain⟨r,hr,rfl⟩:=ZQ.mp hv;refine⟨r,h4 r hr,?_⟩;simp only[ZA hn,XW,aaE,VV,PK,bA c 16 (by lia) (by lia),aar,ab9,ZJ,aao _ _ (show(0:Int)<rs.length by lia),abg,ev];unfold aE;rw[Gp _ _ _ _ _ (by simp) (by simp)];rfl
 obtain⟨r,hr,er⟩:=dN;obtain⟨ts,ht,x7,x8,el⟩:=v3 (st:=st) (sp:=sp) w1 hl c (U (.lst (rs.map aE),Y)) (U (.str r.1,Y)) r.2 (by lia);refine⟨(r.1,ts),by simp only;lia,?_⟩;rw[am (f:=Lm) (d:=[U (aG ws st sp,Y),U (.lst (ls.map .str),Y),U (.lst (rs.map aE),Y),U (.int c,Y),M,M,M,M,M]) rfl rfl rfl];simp only[FJ,aad,aab,VV,PK,Wa,aar];have V_:aE r0=.tup [.str r0.1,.tup (r0.2.map ceD)]:=rfl;rw[V_,Gp _ _ _ _ _ (by simp) (by simp)];simp only[VW,aQ,aP,aad,aab];simp only[VV,PK]at er;simp only[VV,PK];rw[er];simp only[VW];rw[aas _ (by simp),aaA _ _ _ (by simp)];simp only[VW,aQ,aP,aad,aab,abM,ZJ];rw[iI _ (by lia),PK,Int.toNat_natCast,el];simp only[VW,aaY,aaZ,zh,aad,aab,aby,VV];rw[aax _ (by simp)];rfl
def wO(xs:Z_ Int)(k:Nat):mj (xs.map D.int) M (U (k:Int))=(xs.take k).map D.int:=by
 unfold mj;rw[HT.abR,HT.abC,List.drop_zero,Nat.sub_zero,<-List.map_take,ZJ];congr 1;by_cases h:xs.length<=k;rw[Nat.min_eq_right h,YD h,YD (ZP _)];rw[Nat.min_eq_left (by lia)]
def dP(h:∀d∈ds,okD n d=L):okD (n+1) (.lst ds)=L:=by simp only[okD];exact ZO.mpr h
def EJ(n:Nat)(ss:Z_ Str):okD (n+1) (.lst (ss.map D.str))=L:=dP λd hd=>by obtain⟨s,_,rfl⟩:=ZQ.mp hd;cases n<;>rfl
def yO(t:Te)(n:Nat):okD (n+1) (teD t)=L:=by cases t<;>simp[teD,okD]
def sW(n:Nat)(ps:Z_ Pat):okD (n+4) (.lst (ps.map WC))=L:=dP λd hd=>by
 obtain⟨p,_,rfl⟩:=ZQ.mp hd;simp only[WC,okD,rF,List.all_nil,Xh,Xi];exact ZO.mpr λx hx=>by obtain⟨t,_,rfl⟩:=ZQ.mp hx;exact yO t n
def Ei(n:Nat)(rs:Z_ Row):okD (n+4) (.lst (rs.map aE))=L:=dP λd hd=>by obtain⟨r,_,rfl⟩:=ZQ.mp hd;exact lX r n
def G7(fs:Z_ (Z_ Ce)):okD 16 (.lst (fs.map cD))=L:=dP λd hd=>by obtain⟨c,_,rfl⟩:=ZQ.mp hd;exact F2 c
def m3(h:okD 16 d=L):eqO (U d) (U d)=U L:=by rw[lf _ _ (by unfold ok2;rw[h];rfl)];simp
def nJ(h:okD 16 d=L):neO (U d) (U d)=U Y:=by rw[Bv _ _ (by unfold ok2;rw[h];rfl)];simp
theorem uo:∀(ps:Z_ (D×D))(ks vs:Z_ D),(ks++ps.map (·.1)).Nodup->jp ks vs ps=(ks++ps.map (·.1),vs++ps.map (·.2))
 |[],ks,vs,_=>by simp[jp]
 |p::ps,ks,vs,h=>by
  have hn:p.1∉ks:=λz=>by
   rw[Z2,Yk]at h;exact h.2.2 p.1 z p.1 (by simp) rfl
  have h':(ks++[p.1]++ps.map (·.1)).Nodup:=by simpa using h
  unfold jp ji yj;rw[ZK hn,ZK hn,uo ps _ _ h'];simp
theorem kQ{O:Type}{kf vf:O->D}(hk:∀q,(bH 8 (kf q)&&m4 (kf q))=L):∀qs:Z_ O,fq (qs.map λq=>.tup [kf q,vf q])=U (qs.map λq=>(kf q,vf q))
 |[]=>rfl
 |q::qs=>by
  rw[Z2];unfold fq tT;rw[kQ hk qs];simp only[hk q,Y1];rfl
def nX{O:Type}{kf vf:O->D}(qs:Z_ O)(hk:∀q,(bH 8 (kf q)&&m4 (kf q))=L)(nd:(qs.map kf).Nodup)(hl:qs.length<1000):ix (U (.lst (qs.map λq=>.tup [kf q,vf q])))=U (.dD (qs.map kf) (qs.map vf)):=by
 unfold ix;simp only[kQ hk];rw[ZR (by rw[ZJ,aam];lia),uo _ [] [] (by simpa[Function.comp_def]using nd)];simp[Function.comp_def]
theorem jS{O:Type}{kf vf:O->D}(k:D):∀qs:Z_ O,b9 k (qs.map kf) (qs.map vf)=(qs.find? λq=>decide (kf q=k)).map vf
 |[]=>rfl
 |q::qs=>by
  rw[Z2,Z2,List.find?_cons];unfold b9;by_cases h:kf q=k;rw[ZR h,Zw h];rfl;rw[ZK h,ZA h];exact jS k qs
def Am{O:Type}{kf vf:O->D}(qs:Z_ O){k:D}(hk:(bH 8 k&&m4 k)=L):ce (U (.dD (qs.map kf) (qs.map vf))) (U k) (U k)=U (((qs.find? λq=>decide (kf q=k)).map vf).getD k):=by
 unfold ce bT;simp only[hk,Y1];rw[jS]
def k9(h:∀x∈xs,ce (U (.dD ks vs)) (U x) (U x)=U (g x))(hl:xs.length<=1000):LA [.tup [t,.tup xs],.dD ks vs]=U (.tup [t,.tup (xs.map g)],Y):=by
 rw[am (f:=LA) (d:=[U (.tup [t,.tup xs],Y),U (.dD ks vs,Y),M]) rfl rfl rfl];have e0:ixO (U (.tup [t,.tup xs])) (U (.int 0))=U t:=by simp[at0]
 have e1:ixO (U (.tup [t,.tup xs])) (U (.int 1))=U (.tup xs):=by simp[at1]
 simp only[EM,aad,aab,e0,e1,abI,PK];have em:au Y [Y,L,Y] [U (.tup [t,.tup xs],Y),U (.dD ks vs,Y),M]=[M,U (.dD ks vs,Y),M]:=by simp[au]
 have ec:bq (az (ae 2) (λq=>U L) tW [M,U (.dD ks vs,Y),M]) (xs.map id)=U (xs.map g):=bw λx hx=>by
  unfold az;rw[aae _ _ _ (by simp)];simp only[PK,aQ,aP,aad,aab,tW,id,h x hx]
 rw[List.map_id]at ec;rw[aJ (by rw[aam];lia),em,ec,aai];simp only[aby,VV];rw[aax _ (by simp)];rfl
def B4(t:Te):(bH 8 (teD t)&&m4 (teD t))=L:=by cases t<;>rfl
theorem oR{φ:Fit}{l:Str}:∀{us:Z_ Str},l∈us->((us.zip (us.map φ)).find? λq=>decide (teD (.any q.1)=teD (.any l)))=U (l,φ l)
 |u::us,h=>by
  rw[Z2,List.zip_cons_cons,List.find?_cons];by_cases e:u=l;subst e;rw[Zw rfl];rw[ZA λz=>e (by have:=gM z;cases this;rfl)];rcases Z0.mp h with z|z;exact absurd z.symm e;exact oR z
def yX{us:Z_ Str}{φ:Fit}{t:Te}(h:∀l,t=.any l->l∈us):ce (U (.dD ((us.zip (us.map φ)).map λq=>teD (.any q.1)) ((us.zip (us.map φ)).map λq=>ceD q.2))) (U (teD t)) (U (teD t))=U (ceD (ev φ t)):=by
 rw[Am (kf:=λq:Str×Ce=>teD (.any q.1)) (vf:=λq=>ceD q.2) _ (B4 t)];cases t with
 |any l=>rw[oR (h l rfl)];rfl
 |nm w=>
  rw[List.find?_eq_none.mpr λq _=>by
   have:¬teD (.any q.1)=teD (.nm w):=λz=>by cases gM z
   simpa using this]
  rfl
def uf{us:Z_ Str}(nd:us.Nodup)(hu:us.length<=100)(φ:Fit){ps:Z_ Pat}(JV:ps.length<=4)(h4:∀p∈ps,p.2.length<=4)(hl:∀l∈aW ps,l∈us):
  Lz [.lst (ps.map WC),fL us (us.map φ)]=U (.lst (ps.map λp=>aE (p.1,p.2.map (ev φ))),L):=by
 have ef:fL us (us.map φ)=.lst ((us.zip (us.map φ)).map aap):=rfl;have hz:(us.zip (us.map φ)).length<=100:=by rw[List.length_zip];lia
 rw[am (f:=Lz) (d:=[U (.lst (ps.map WC),Y),U (fL us (us.map φ),Y),M,M,M,M]) rfl rfl rfl];rw[ef];simp only[E8,aad,aab,aaj,PK];have em:∀a b c d e f:Z9 (D×Bool),au Y [Y,Y,Y,Y,Y,Y] [a,b,c,d,e,f]=[M,M,M,M,M,M]:=λ_ _ _ _ _ _=>by simp[au]
 rw[aJ (by rw[ZJ,aam];lia),em,bw (f:=aap) (h:=λq=>.tup [teD (.any q.1),ceD q.2]) λq _=>by
  unfold az;simp only[aap,aaF,aaz,aaG,aae,Zm,bG,fU,PK,aQ,aP,Nat.reduceAdd,Nat.reduceLT,yN,aad,aab,VV];rw[aax _ (by simp)];simp only[VV];rw[aax _ (by simp)];rfl]
 have Uy:((us.zip (us.map φ)).map λq=>teD (.any q.1)).Nodup:=by
  have e:((us.zip (us.map φ)).map λq=>teD (.any q.1))=us.map λl=>teD (.any l):=by
   rw[mR,XS];rfl
  rw[e];exact WZ _ (λa b Jw z=>Jw (by have:=gM z;cases this;rfl)) nd
 rw[aai,nX (kf:=λq:Str×Ce=>teD (.any q.1)) (vf:=λq=>ceD q.2) _ (λq=>B4 _) Uy (by lia),aag _ _ _ (by simp)];simp only[VW,aQ,aP,aad,aab,aaj,PK];have QR:∀(a b d e f:Z9 (D×Bool))(x:D),au Y [Y,Y,L,Y,Y,Y] [a,b,U (x,Y),d,e,f]=[M,M,U (x,Y),M,M,M]:=λ_ _ _ _ _ _=>by simp[au]
 rw[aJ (by rw[ZJ,aam];lia),QR,bw (f:=WC) (h:=λp=>aE (p.1,p.2.map (ev φ))) λp hp=>by
  unfold az;rw[aae _ _ _ (by simp)];have Jv:∀t∈p.2,∀l,t=.any l->l∈us:=λt ht l e=>hl l (bW.mpr ⟨p,hp,by
   have key:∀ts:Z_ Te,Te.any l∈ts->l∈ans ts:=λts=>by
    induction ts with
    |nil=>intro h;cases h
    |cons a ts ih=>
     intro h;rcases Z0.mp h with z|z;subst z;exact ZZ ..;cases a with
     |any k=>exact Z1 _ (ih z)
     |nm w=>exact ih z
   exact key p.2 (e▸ht)⟩)
  have ex:=k9 (t:=.str p.1) (xs:=p.2.map teD) (ks:=(us.zip (us.map φ)).map λq=>teD (.any q.1)) (vs:=(us.zip (us.map φ)).map λq=>ceD q.2) (g:=λd=>(ce (U (.dD ((us.zip (us.map φ)).map λq=>teD (.any q.1)) ((us.zip (us.map φ)).map λq=>ceD q.2))) (U d) (U d)).getD .non) (λx hx=>by
   obtain⟨t,ht,rfl⟩:=ZQ.mp hx;rw[yX (Jv t ht)];rfl) (by rw[ZJ];have:=h4 p hp;lia)
  have eg:(p.2.map teD).map (λd=>(ce (U (.dD ((us.zip (us.map φ)).map λq=>teD (.any q.1)) ((us.zip (us.map φ)).map λq=>ceD q.2))) (U d) (U d)).getD .non)=(p.2.map (ev φ)).map ceD:=by
   rw[XS,XS];refine Ze λt ht=>?_;show(ce _ (U (teD t)) (U (teD t))).getD .non=_;rw[yX (Jv t ht)];rfl
  rw[eg]at ex;have er:WC p=.tup [.str p.1,.tup (p.2.map teD)]:=rfl;simp only[PK,aQ,aP,aad,aab,zq,VV,er,ex,aar];rfl]
 rw[aai];rfl
theorem yD:∀(us:Z_ Str)(c:Z_ Ce),cC (us.map D.str) (c.map ceD)=(us.zip c).map aap
 |[],c=>by cases c<;>rfl
 |u::us,[]=>rfl
 |u::us,x::c=>by rw[Z2,Z2,cC,yD us c];rfl
def uJ(h:us.length<=1000)(c:Z_ Ce):l6 Y L (U (.lst (us.map D.str))) (U (cD c))=U (fL us c):=by
 have e:zZ Y L (U (.lst (us.map D.str))) (U (cD c))=U ((us.zip c).map aap):=by
  show U (cC (us.map D.str) (c.map ceD))=_;rw[yD]
 unfold l6;rw[e];dsimp only;rw[ZR (by simp;lia)];rfl
def Ew(us:Z_ Str)(ss:Z_ (Z_ Ce))(n:Nat):okD (n+5) (.lst (ss.map (fL us)))=L:=dP λd hd=>by obtain⟨c,_,rfl⟩:=ZQ.mp hd;exact D8 us c n
structure Fs (P:Fit->Prop)(us:List Str)(ss:List (List Ce)):Prop where
 nd:ss.Nodup
 mem:∀x,x∈ss↔∃φ:Fit,x=us.map φ/\P φ
def Fs.len(F:Fs P us ss):∀c∈ss,c.length=us.length:=λc hc=>by
 obtain⟨φ,rfl,_⟩:=(F.mem c).mp hc;simp
def Fs.one(F:Fs P us ss)(G:Fs P us tt)(s:(ss.map (fL us)).Pairwise leD):cH (tt.map (fL us))=ss.map (fL us):=
 de (At G.len) _ _ (λy hy=>(aY _).mem_iff.mp hy) ((aY _).trans (((W8 G.nd F.nd).mpr λx=>by rw[F.mem,G.mem]).map _)) (bU (At G.len)) s
def kX{rs:Z_ Row}(r_:rs.length<=10){ps:Z_ Pat}(JV:ps.length<=2)(h4:∀p∈ps,p.2.length<=4){kn:Z_ Str}{fd:Z_ (Z_ Ce)}(N3:kn.length<=16)(k1:kn.Nodup)(k2:fd.Nodup)(k3:∀x∈fd,x.length=kn.length)(k4:∀l∈kn,l∈aW ps)(hf:fd.length<=100):
  ∃ss,Fs (λφ=>kn.map φ∈fd/\∀p∈ps,hU rs φ p) (uL ps) ss/\(ss.map (fL (uL ps))).Pairwise leD/\ss.length<=50000/\Kd [.lst (rs.map aE),.lst (ps.map WC),.lst (kn.map D.str),.lst (fd.map cD)]=U (.lst (ss.map (fL (uL ps))),L):=by
 have hu:(uL ps).length<=16:=ZF (gX ps) (ZF (aU h4) (by lia));obtain⟨fs,n1,m1,ej,hl⟩:=kD (rs:=rs) (by lia) (by lia) h4 N3 k1 k2 k3 k4 (by lia) (λk hk=>by
  have:k<=1:=by lia
  have VU:rs.length ^ k<=10:=ZF (Xz r_ k) (ZF (XG (by decide) this) (by decide));exact ZF (Nat.mul_le_mul hf VU) (by decide)) (wanted:=uL ps) (by lia) λl hl=>(ca ps l).mp hl
 obtain⟨gs,pg,eg⟩:=c4 (aY (fs.map cD));have hg:∀c∈gs,c.length=(uL ps).length:=λc hc=>by
  obtain⟨φ,rfl,_⟩:=(m1 c).mp (pg.mem_iff.mp hc);simp
 have RF:=bU (De fs);rw[eg]at RF ej;refine⟨gs,⟨pg.nodup_iff.mpr n1,λx=>by rw[pg.mem_iff];exact m1 x⟩,?_,by rw[pg.length_eq];exact hl,?_⟩;refine Xo.mpr ((Xo.mp RF).imp_of_mem λ{a b} ha hb h=>(BY (hg a ha) (hg b hb)).mpr h);rw[am (f:=Kd) (d:=[U (.lst (rs.map aE),Y),U (.lst (ps.map WC),Y),U (.lst (kn.map D.str),Y),U (.lst (fd.map cD),Y),M,M]) rfl rfl rfl];have el:u_ [.lst (ps.map WC)]=U (.lst ((uL ps).map D.str),L):=aI (by lia) h4;simp only[El,aad,aab,VV,PK,el,aat];rw[aag _ _ _ (by simp)];simp only[VW,aQ,aP,aad,aab,VV,PK,ej,aat,aaj];rw[aJ (by rw[ZJ,aam,pg.length_eq];lia),bw (f:=cD) (h:=fL (uL ps)) λc hc=>by
  unfold az;have em:au Y [Y,Y,Y,Y,L,Y] [U (.lst (rs.map aE),Y),U (.lst (ps.map WC),Y),U (.lst (kn.map D.str),Y),U (.lst (fd.map cD),Y),U (.lst ((uL ps).map D.str),Y),M]=[M,M,M,M,U (.lst ((uL ps).map D.str),Y),M]:=by simp[au]
  rw[em,aae _ _ _ (by simp)];simp only[PK,aQ,aP,aad,aab,zi,uJ (show(uL ps).length<=1000 by lia)]]
 rw[aai];rfl
def fm{rs:Z_ Row}(r_:rs.length<=10){ps:Z_ Pat}(JV:ps.length<=2)(h4:∀p∈ps,p.2.length<=4){wanted:Z_ Str}(hw:wanted.length<=100)(Pe:∀l∈wanted,l∈aW ps):∃gs:Z_ (Z_ Ce),gs.Nodup/\(∀x,x∈gs↔∃φ:Fit,x=wanted.map φ/\∀p∈ps,hU rs φ p)/\KU [.lst (rs.map aE),.lst (ps.map WC),.lst (wanted.map D.str)]=U (.lst (gs.map cD),L)/\gs.length<=100:=by
 obtain⟨fs,n1,m1,ej,_⟩:=kD (rs:=rs) (by lia) (ps:=ps) (by lia) h4 (kn:=[]) (fd:=[[]]) (by simp) YY (by simp) (by simp) (by simp) (by simp) (λk hk=>by
  have:k<=1:=by lia
  simp only[bG,fU,Yh,Nat.one_mul];exact ZF (Xz r_ k) (ZF (XG (by decide) this) (by decide))) hw Pe
 obtain⟨gs,pg,eg⟩:=c4 (aY (fs.map cD));have mg:∀x,x∈gs↔∃φ:Fit,x=wanted.map φ/\∀p∈ps,hU rs φ p:=λx=>by rw[pg.mem_iff,m1];simp
 have ng:=pg.nodup_iff.mpr n1;refine⟨gs,ng,mg,?_,?_⟩;rw[am (f:=KU) (d:=[U (.lst (rs.map aE),Y),U (.lst (ps.map WC),Y),U (.lst (wanted.map D.str),Y)]) rfl rfl rfl];simp only[E6,aad,aab];rw[aas [] (by simp),aax [] (by simp)];simp only[VV];rw[aas _ (by simp)];have ec:cD []=.tup []:=rfl;simp only[Z2,Y6,ec]at ej;simp only[VV,PK,ej,aat,ab4,abL,eg];obtain⟨_,o2⟩:=Br (rs:=rs) (ps:=ps) (found:=[[]]) (k:=0) h4 λb hb=>by rw[ZG.mp hb];exact⟨YY,by simp⟩
 have hle:gs.length<=((LF rs ps []).map λb=>wanted.map (fn b)).length:=by
  refine List.Nodup.length_le_of_subset ng λx hx=>?_;obtain⟨φ,rfl,IP⟩:=(mg x).mp hx;obtain⟨b,hb,hg⟩:=sS IP;exact ZQ.mpr ⟨b,hb,Ze λl hl=>hg l (Pe l hl)⟩
 rw[ZJ]at hle;refine ZF hle (ZF o2 ?_);simp only[bG,fU,Yh,Nat.mul_one];exact ZF (Xz r_ _) (ZF (XG (by decide) JV) (by decide))
abbrev kz(ps qs:Z_ Pat):D:=.tup [.str "must",.lst (ps.map WC),.lst (qs.map WC)]
abbrev fy(ps:Z_ Pat)(a b:Te):D:=.tup [.str "same",.lst (ps.map WC),teD a,teD b]
abbrev smP(a b:Te):Pat:=("same",[a,b])
def ms:¬(Str.ofString "must")=(Str.ofString "same"):=by decide +kernel
section
variable(ps qs:Z_ Pat)(a b:Te)
theorem m0:ixO (U (kz ps qs)) (U (.int 0))=U (.str "must"):=rfl
theorem m1:ixO (U (kz ps qs)) (U (.int 1))=U (.lst (ps.map WC)):=rfl
theorem m2:ixO (U (kz ps qs)) (U (.int 2))=U (.lst (qs.map WC)):=rfl
theorem s0:ixO (U (fy ps a b)) (U (.int 0))=U (.str "same"):=rfl
theorem s1:ixO (U (fy ps a b)) (U (.int 1))=U (.lst (ps.map WC)):=rfl
theorem s2:ixO (U (fy ps a b)) (U (.int 2))=U (teD a):=rfl
theorem s3:ixO (U (fy ps a b)) (U (.int 3))=U (teD b):=rfl
def fC:Ka [fy ps a b]=U (WC (smP a b),Y):=by
 rw[am (f:=Ka) (d:=[U (fy ps a b,Y)]) rfl rfl rfl];simp only[FA,aab,s2,s3,VV];rw[aax _ (by simp)];simp only[VV];rw[aax _ (by simp)];rfl
end
def dlM(ps qs:Z_ Pat):Z_ Str:=(uL qs).filter λl=>decide (l∈uL ps)
def pI(h1:ps.length<=2)(h2:qs.length<=2)(h4:∀p∈ps,p.2.length<=4)(h5:∀p∈qs,p.2.length<=4):I_ [kz ps qs]=U (.lst ((dlM ps qs).map D.str),L):=by
 rw[am (f:=I_) (d:=[U (kz ps qs,Y),M,M]) rfl rfl rfl];have e1:u_ [.lst (ps.map WC)]=U (.lst ((uL ps).map D.str),L):=aI (by lia) h4;have e2:u_ [.lst (qs.map WC)]=U (.lst ((uL qs).map D.str),L):=aI (by lia) h5;have hu:(uL qs).length<=16:=ZF (gX qs) (ZF (aU h5) (by lia));simp only[Ek,aab,m0,m1,m2,aM,ms,Yo,aaO,aav,VW,VV,PK,e1,aat];rw[aag _ _ _ (by simp)];simp only[VW,aQ,aP,aad,aab,m2,VV,PK,e2,aat,aaj];rw[aJ (by rw[ZJ,aam];lia),fV (P:=λl=>decide (l∈uL ps)) λl hl=>by
  by_cases hm:l∈uL ps<;>simp[az,au,ze,fu,hm]]
 rfl
def pH(ps:Z_ Pat)(a b:Te):I_ [fy ps a b]=U (.lst ((uL [smP a b]).map D.str),L):=by
 rw[am (f:=I_) (d:=[U (fy ps a b,Y),M,M]) rfl rfl rfl];have e1:u_ [.lst [WC (smP a b)]]=U (.lst ((uL [smP a b]).map D.str),L):=aI (ps:=[smP a b]) (by simp) (λp hp=>by rw[ZG.mp hp];simp);simp only[Ek,aab,s0,aM,Yn,aaE,VV,PK,fC,aar];rw[aas _ (by simp)];simp only[VV,PK,e1,aat];rfl
def Cm(c:Z_ Ce)(hs:Z_ (Z_ Ce)):AR (U (cD c)) (U (.dD (hs.map cD) (hs.map λ_=>.bl L)))=U (decide (c∈hs)):=by
 unfold AR bT;have hk:(bH 8 (cD c)&&m4 (cD c))=L:=by rw[kK,lV];rfl
 simp only[hk,Y1,jS (kf:=cD) (vf:=λ_=>.bl L) (cD c) hs,W0,ZL];rw[YO,List.find?_isSome,Y_];constructor
 rintro⟨x,hx,e⟩;rw[<-iz (Zh e)];exact hx
 exact λh=>⟨c,h,Zw rfl⟩
def AI(r_:rs.length<=10)(h1:ps.length<=2)(h2:qs.length<=2)(h4:∀p∈ps,p.2.length<=4)(h5:∀p∈qs,p.2.length<=4):
  ∃fd:Z_ (Z_ Ce),fd.Nodup/\fd.length<=100/\(∀x,x∈fd↔(∃φ:Fit,x=(dlM ps qs).map φ/\∀p∈ps,hU rs φ p)/\¬∃φ:Fit,x=(dlM ps qs).map φ/\∀p∈qs,hU rs φ p)/\Jx [.lst (rs.map aE),kz ps qs]=U (.lst (fd.map cD),L):=by
 have hu:(uL qs).length<=16:=ZF (gX qs) (ZF (aU h5) (by lia));have hd:(dlM ps qs).length<=16:=ZF (XM ..) hu;obtain⟨gs,n1,g1,e1,l1⟩:=fm r_ h1 h4 (wanted:=dlM ps qs) (by lia) λl hl=>(ca ps l).mp (Zh (YZ.mp hl).2);obtain⟨hs,n2,g2,e2,l2⟩:=fm r_ h2 h5 (wanted:=dlM ps qs) (by lia) λl hl=>(ca qs l).mp (YZ.mp hl).1;refine⟨gs.filter λc=>!decide (c∈hs),n1.filter _,ZF (XM ..) l1,λx=>?_,?_⟩;rw[YZ,g1,<-g2];simp;rw[am (f:=Jx) (d:=[U (.lst (rs.map aE),Y),U (kz ps qs,Y),M,M,M,M]) rfl rfl rfl];simp only[Ef,aad,aab,VV,PK,pI h1 h2 h4 h5,aat];rw[aag _ _ _ (by simp)];simp only[VW,aQ,aP,aad,aab,m1,VV,PK,e1,aat];rw[aag _ _ _ (by simp)];simp only[VW,aQ,aP,aad,aab,m0,aM,ms,Yo,aaO,aav,m2,VV,PK,e2,aat,aaj];have em:∀a b c d e f:Z9 (D×Bool),au Y [Y,Y,Y,Y,Y,Y] [a,b,c,d,e,f]=[M,M,M,M,M,M]:=λ_ _ _ _ _ _=>by simp[au]
 rw[aJ (by rw[ZJ,aam];lia),em,bw (f:=cD) (h:=λc=>.tup [cD c,.bl L]) λc _=>by
  unfold az;rw[aae _ _ _ (by simp)];simp only[PK,aQ,aP,aad,aab,yb,VV];rw[aax _ (by simp)]]
 rw[aai,nX (kf:=cD) (vf:=λ_=>.bl L) hs (λc=>by rw[kK,lV];rfl) (WZ _ (λa b Jw z=>Jw (iz z)) n2) (by lia),aag _ _ _ (by simp)];simp only[VW,aQ,aP,aad,aab,aaj,PK];have QR:∀(a b c d f:Z9 (D×Bool))(x:D),au Y [Y,Y,Y,Y,L,Y] [a,b,c,d,U (x,Y),f]=[M,M,M,M,U (x,Y),M]:=λ_ _ _ _ _ _=>by simp[au]
 rw[aJ (by rw[ZJ,aam];lia),QR,ck (f:=cD) (h:=cD) (p:=λc=>!decide (c∈hs)) λc _=>by
  unfold az;rw[aae _ _ _ (by simp)];simp only[PK,aQ,aP,aad,aab,Cm,abf,yU];cases decide (c∈hs)<;>rfl]
 rfl
set_option tactic.hygienic true in
def CQ{a b:Te}{l:Str}(h:l∈aW [smP a b]):a=.any l\/b=.any l:=by
 rw[bW]at h;obtain⟨p,hp,hl⟩:=h;rw[ZG.mp hp]at hl;cases a<;>cases b<;>simp[ans]at hl<;>simp[hl];rename_i x y;rcases hl with rfl|rfl;exact .inl rfl;exact .inr rfl
def Ar(r_:rs.length<=10)(h1:ps.length<=2)(h4:∀p∈ps,p.2.length<=4)(Jw:∀l,l∈aW [smP a b]->l∈aW ps):
  ∃fd:Z_ (Z_ Ce),fd.Nodup/\fd.length<=100/\(∀x,x∈fd↔∃φ:Fit,x=(uL [smP a b]).map φ/\(∀p∈ps,hU rs φ p)/\ev φ a≠ev φ b)/\Jx [.lst (rs.map aE),fy ps a b]=U (.lst (fd.map cD),L):=by
 have h2:∀p∈[smP a b],p.2.length<=4:=λp hp=>by rw[ZG.mp hp];simp
 have hd:(uL [smP a b]).length<=16:=ZF (gX _) (ZF (aU h2) (by simp));obtain⟨gs,n1,g1,e1,l1⟩:=fm r_ h1 h4 (wanted:=uL [smP a b]) (by lia) λl hl=>Jw l ((ca _ l).mp hl);have PB:∀{φ ψ:Fit},(uL [smP a b]).map φ=(uL [smP a b]).map ψ->ev φ a=ev ψ a/\ev φ b=ev ψ b:=λ{φ ψ} e=>by
  have q:=Xn.mp e;have:=dS (ts:=[a,b]) (φ:=φ) (ψ:=ψ) λl hl=>q l ((ca _ l).mpr (bW.mpr ⟨_,ZG.mpr rfl,hl⟩));simpa using this
 obtain⟨bad,MY⟩:∃bad:Z_ Ce->Bool,∀φ:Fit,bad ((uL [smP a b]).map φ)=!decide (ev φ a=ev φ b):=by
  refine⟨λc=>!decide (ev (λl=>c.getD ((uL [smP a b]).idxOf l) default) a=ev (λl=>c.getD ((uL [smP a b]).idxOf l) default) b),λφ=>?_⟩;have pp:=bj (φ:=φ) (ls:=uL [smP a b]) (known:=uL [smP a b]) λl hl=>hl;unfold pk aV at pp;rw[XS]at pp;obtain⟨q1,q2⟩:=PB (φ:=λl=>((uL [smP a b]).map φ).getD ((uL [smP a b]).idxOf l) default) pp;dsimp only;rw[q1,q2]
 refine⟨gs.filter bad,n1.filter _,ZF (XM ..) l1,λx=>?_,?_⟩;rw[YZ,g1];constructor
 rintro⟨⟨φ,rfl,h⟩,hb⟩
 rw[MY]at hb;exact⟨φ,rfl,h,by simpa using hb⟩
 rintro⟨φ,rfl,h,hb⟩
 exact⟨⟨φ,rfl,h⟩,by rw[MY];simpa using hb⟩;rw[am (f:=Jx) (d:=[U (.lst (rs.map aE),Y),U (fy ps a b,Y),M,M,M,M]) rfl rfl rfl];simp only[Ef,aad,aab,VV,PK,pH,aat];rw[aag _ _ _ (by simp)];simp only[VW,aQ,aP,aad,aab,s1,VV,PK,e1,aat];rw[aag _ _ _ (by simp)];simp only[VW,aQ,aP,aad,aab,s0,aM,Yn,aaE,aaj,PK];have em:∀(a d e f:Z9 (D×Bool))(x y:D),au Y [Y,L,L,Y,Y,Y] [a,U (x,Y),U (y,Y),d,e,f]=[M,U (x,Y),U (y,Y),M,M,M]:=λ_ _ _ _ _ _=>by simp[au]
 rw[aJ (by rw[ZJ,aam];lia),em,ck (f:=cD) (h:=cD) (p:=bad) λc hc=>by
  obtain⟨φ,rfl,_⟩:=(g1 c).mp hc;have ef:=uf (wK [smP a b]) (by lia) φ (ps:=[smP a b]) (by simp) h2 λl hl=>(ca _ l).mpr hl;simp only[Z2,Y6]at ef;have et:Ls [fy ps a b,fL (uL [smP a b]) ((uL [smP a b]).map φ)]=U (.tup [ceD (ev φ a),ceD (ev φ b)],Y):=by
   rw[am (f:=Ls) (d:=[U (fy ps a b,Y),U (fL (uL [smP a b]) ((uL [smP a b]).map φ),Y)]) rfl rfl rfl];simp only[Ep,aad,aab,VV,PK,fC,aar];rw[aas _ (by simp)];simp only[VV,PK,ef,aat];rfl
  have eu:Lu [.tup [ceD (ev φ a),ceD (ev φ b)]]=U (.bl (!decide (ev φ a=ev φ b)),Y):=by
   rw[am (f:=Lu) (d:=[U (.tup [ceD (ev φ a),ceD (ev φ b)],Y)]) rfl rfl rfl];have t0:ixO (U (.tup [ceD (ev φ a),ceD (ev φ b)])) (U (.int 0))=U (ceD (ev φ a)):=rfl;have t1:ixO (U (.tup [ceD (ev φ a),ceD (ev φ b)])) (U (.int 1))=U (ceD (ev φ b)):=rfl;simp only[FD,aab,t0,t1,iY];rfl
  unfold az;rw[aae _ _ _ (by simp)];simp only[PK,aQ,aP,aad,aab,uJ (show(uL [smP a b]).length<=1000 by lia),VV,et,aar,eu,yg,MY];cases decide (ev φ a=ev φ b)<;>rfl]
 rfl
def PM(rs:Z_ Row)(ps qs:Z_ Pat)(φ:Fit):Prop:=(∀p∈ps,hU rs φ p)/\¬∃ψ:Fit,(∀l∈aW ps,ψ l=φ l)/\∀q∈qs,hU rs ψ q
def PS(rs:Z_ Row)(ps:Z_ Pat)(a b:Te)(φ:Fit):Prop:=(∀p∈ps,hU rs φ p)/\ev φ a≠ev φ b
def Fs.acU(h:∀φ,P φ↔Q φ)(F:Fs P us ss):Fs Q us ss:=
 ⟨F.nd,λx=>(F.mem x).trans ⟨λ⟨φ,e,q⟩=>⟨φ,e,(h φ).mp q⟩,λ⟨φ,e,q⟩=>⟨φ,e,(h φ).mpr q⟩⟩⟩
def Bro(rs:Z_ Row)(ps:Z_ Pat)(R:D)(P:Fit->Prop):Prop:=∃ss,Fs P (uL ps) ss/\(ss.map (fL (uL ps))).Pairwise leD/\ss.length<=50000/\JQ [.lst (rs.map aE),R]=U (.lst (ss.map (fL (uL ps))),L)
def zA{rs:Z_ Row}(r_:rs.length<=10){ps:Z_ Pat}(h1:ps.length<=2)(h4:∀p∈ps,p.2.length<=4){dl:Z_ Str}{fd:Z_ (Z_ Ce)}(hR:ixO (U R) (U (.int 1))=U (.lst (ps.map WC)))(d1:dl.length<=16)(d2:dl.Nodup)(d3:∀l∈dl,l∈aW ps)(ed:I_ [R]=U (.lst (dl.map D.str),L))(f1:fd.Nodup)(f2:fd.length<=100)(f3:∀x∈fd,∃φ:Fit,x=dl.map φ)(ef:Jx [.lst (rs.map aE),R]=U (.lst (fd.map cD),L))(hP:∀φ:Fit,(dl.map φ∈fd/\∀p∈ps,hU rs φ p)↔P φ):Bro rs ps R P:=by
 obtain⟨ss,F,s,l,e⟩:=kX r_ h1 h4 (kn:=dl) (fd:=fd) d1 d2 f1 (λx hx=>by obtain⟨φ,rfl⟩:=f3 x hx;simp) d3 f2;refine⟨ss,F.acU hP,s,l,?_⟩;rw[am (f:=JQ) (d:=[U (.lst (rs.map aE),Y),U (R,Y)]) rfl rfl rfl];simp only[Eb,aad,aab,hR,VV,PK,ed,ef,aat,e,ab4,abL]
def mK{rs:Z_ Row}(r_:rs.length<=10){ps qs:Z_ Pat}(h1:ps.length<=2)(h2:qs.length<=2)(h4:∀p∈ps,p.2.length<=4)(h5:∀p∈qs,p.2.length<=4):Bro rs ps (kz ps qs) (PM rs ps qs):=by
 have hu:(uL qs).length<=16:=ZF (gX qs) (ZF (aU h5) (by lia));have md:∀l,l∈dlM ps qs↔l∈aW qs/\l∈aW ps:=λl=>by
  unfold dlM;rw[YZ,ca,Y_,ca]
 obtain⟨fd,f1,f2,f3,f4⟩:=AI r_ h1 h2 h4 h5;refine zA r_ h1 h4 (m1 ps qs) (ZF (XM ..) hu) ((wK qs).filter _) (λl hl=>((md l).mp hl).2) (pI h1 h2 h4 h5) f1 f2 (λx hx=>by obtain⟨⟨φ,e,_⟩,_⟩:=(f3 x).mp hx;exact⟨φ,e⟩) f4 λφ=>?_;rw[f3];constructor
 rintro⟨⟨_,hn⟩,hp⟩
 refine⟨hp,λ⟨ψ,a1,a2⟩=>hn ⟨ψ,Ze λl hl=>(a1 l ((md l).mp hl).2).symm,a2⟩⟩
 rintro⟨hp,hn⟩
 refine⟨⟨⟨φ,rfl,hp⟩,λ⟨ψ,a1,a2⟩=>hn ⟨λl=>if l∈aW ps then φ l else ψ l,λl hl=>ZR hl,λq hq=>iO (λl hl=>?_) (a2 q hq)⟩⟩,hp⟩;split;rename_i U9;exact(Xn.mp a1 l ((md l).mpr ⟨bW.mpr ⟨q,hq,hl⟩,U9⟩)).symm;rfl
def mX{rs:Z_ Row}(r_:rs.length<=10){ps:Z_ Pat}(h1:ps.length<=2)(h4:∀p∈ps,p.2.length<=4)(Jw:∀l,l∈aW [smP a b]->l∈aW ps):Bro rs ps (fy ps a b) (PS rs ps a b):=by
 have h2:∀p∈[smP a b],p.2.length<=4:=λp hp=>by rw[ZG.mp hp];simp
 have hd:(uL [smP a b]).length<=16:=ZF (gX _) (ZF (aU h2) (by simp));obtain⟨fd,f1,f2,f3,f4⟩:=Ar r_ h1 h4 Jw;refine zA r_ h1 h4 (s1 ps a b) hd (wK _) (λl hl=>Jw l ((ca _ l).mp hl)) (pH ps a b) f1 f2 (λx hx=>by obtain⟨φ,e,_⟩:=(f3 x).mp hx;exact⟨φ,e⟩) f4 λφ=>?_;rw[f3];constructor
 rintro⟨⟨ψ,e,_,hn⟩,hp⟩
 refine⟨hp,?_⟩;have q:=Xn.mp e;have:=dS (ts:=[a,b]) (φ:=φ) (ψ:=ψ) λl hl=>q l ((ca _ l).mpr (bW.mpr ⟨_,ZG.mpr rfl,hl⟩));simp only[Z2,Y6,Yj,and_true]at this;rw[this.1,this.2];exact hn
 rintro⟨hp,hn⟩
 exact⟨⟨φ,rfl,hp,hn⟩,hp⟩
def tX(us:Z_ Str)(c:Z_ Ce):bq (az (ae 6) (λO=>eQ (tyB (vR "tuple" (rd Y 6 O)))) tZ [M,M,M,M,M,M,M]) ((us.zip c).map aap)=U []:=by
 have:=ck (f:=aap) (h:=aap) (p:=λ_=>Y) (F:=az (ae 6) (λO=>eQ (tyB (vR "tuple" (rd Y 6 O)))) tZ [M,M,M,M,M,M,M]) (xs:=us.zip c) λq _=>by
  unfold az;rw[aae _ _ _ (by simp)];have i1:vR "tuple" (U (aap q))=U (.bl L):=rfl;simp only[PK,aQ,aP,aad,aab,i1];rfl
 rw[List.filter_eq_nil_iff.mpr λ_ _=>Zr]at this;exact this
def tS(hB:Bro rs ps R P)(hu:(uL ps).length<=16)(G:Fs P (uL ps) tt):KN [.lst (rs.map aE),R,.lst (tt.map (fL (uL ps)))]=U (.bl L,Y):=by
 obtain⟨ss,F,s,l,e⟩:=hB;have es:dh .ls (U (.lst (tt.map (fL (uL ps)))))=U (.lst (ss.map (fL (uL ps)))):=by
  rw[fW (At G.len) (.inr (ZO.mpr λx hx=>by obtain⟨q,_,rfl⟩:=ZQ.mp hx;rfl)),F.one G s]
 have RS:okD 16 (.lst (ss.map (fL (uL ps))))=L:=Ew (uL ps) ss 11;have RQ:okD 16 (.lst (rs.map aE))=L:=uF rs;have i1:vR "list" (U (.lst (ss.map (fL (uL ps)))))=U (.bl L):=rfl;rw[am (f:=KN) (d:=[U (.lst (rs.map aE),Y),U (R,Y),U (.lst (tt.map (fL (uL ps))),Y),M,M,M,M]) rfl rfl rfl];simp only[EA,aad,aab,aba];rw[aag _ _ _ (by simp)];simp only[VW,aQ,aP,aad,aab,VV,PK,e,aat];have el:lsO (U (.lst (ss.map (fL (uL ps)))))=U (.lst (ss.map (fL (uL ps)))):=rfl;rw[el,aag _ _ _ (by simp)];simp only[VW,aQ,aP,aad,aab,i1,es,nJ RS,nJ RQ];unfold ifQ;rw[show tyB (U (.bl L))=U L from rfl];simp only[abf,YA,abV,aaO];unfold pQ;simp only[List.getElem?_cons_succ,List.getElem?_cons_zero];rw[ZR];simp only[aQ,aP,aad,aab,m3 RQ,VV,PK,e,aat,es,m3 RS];rfl;rw[ZH,ZH];refine⟨rfl,Zw (by rw[ZJ,aam];lia),ZO.mpr λd hd=>?_⟩;obtain⟨c,_,rfl⟩:=ZQ.mp hd;rw[ZH];refine⟨Zw (by rw[ZJ,List.length_zip,aam];lia),Zw ?_⟩;have i2:vR "list" (U (fL (uL ps) c))=U (.bl L):=rfl;have l2:bZ (U (fL (uL ps) c))=U (((uL ps).zip c).map aap):=rfl;have em:∀a b c d e f g:Z9 (D×Bool),au Y [Y,Y,Y,Y,Y,Y,Y] [a,b,c,d,e,f,g]=[M,M,M,M,M,M,M]:=λ_ _ _ _ _ _ _=>by simp[au]
 simp only[aQ,aP,aad,aab,i2,l2,PK];rw[aJ (by rw[ZJ,List.length_zip,aam];lia),em,tX,aai,aas _ (by simp),nJ rfl];rfl
abbrev anD(l:Str):D:=teD (.any l)
def xN(ts:Z_ Te):bq (az (ae 4) (λq=>eqO (ixO (rd Y 4 q) (U (.int 0))) (U (.str "any"))) ou [M,M,M,M,M]) (ts.map teD)=U ((ans ts).map anD):=by
 induction ts with
 |nil=>rfl
 |cons c ts ih=>
  rw[Z2];unfold bq;rw[ih];cases c with
  |any n=>simp[az,teD,ou,at0,aM,ans]
  |nm w=>simp[az,teD,ou,at0,aM,na,ans]
theorem oU:∀(rs:Z_ Pat)(acc:Z_ Str)(a0 x2 x3 x4:Z9 (D×Bool)),(∀r∈rs,r.2.length<=4)->acc.length+4*rs.length<=1000->∃y2 y3,
  ar (λd O=>af ((aL (aj (ae 2) (aj (ae 3) (aah)))) d O) sr) (rs.map WC) [a0,U (.lst (acc.map anD),L),x2,x3,x4]=U (.next [a0,U (.lst ((acc++aW rs).map anD),L),y2,y3,x4])
 |[],acc,a0,x2,x3,x4,_,_=>⟨x2,x3,by simp[ar,aW]⟩
 |r::rs,acc,a0,x2,x3,x4,h4,hl=>by
  have hr:=h4 r (ZZ ..);have hb:=gw r.2;rw[bG]at hl;obtain⟨y2,y3,e⟩:=oU rs (acc++ans r.2) a0 (U (.str r.1,Y)) (U (.tup (r.2.map teD),Y)) x4 (λq hq=>h4 q (Z1 _ hq)) (by simp;lia);refine⟨y2,y3,?_⟩;have en:acc++aW (r::rs)=acc++ans r.2++aW rs:=by simp[aW]
  rw[en,<-e,Z2]
  conv=>lhs;unfold ar
  simp[WC,sr];rw[aJ (by simp;lia)];simp[au];have:=xN r.2;rw[this];simp[yz];rw[ZR (by lia)]
def nO(hl:ps.length<=2)(h4:∀p∈ps,p.2.length<=4):Lk [.lst (ps.map WC)]=U (.lst ((aW ps).map anD),L):=by
 obtain⟨y2,y3,e⟩:=oU ps [] (U (.lst (ps.map WC),Y)) M M M h4 (by simp;lia);rw[am (f:=Lk) (d:=[U (.lst (ps.map WC),Y),M,M,M,M]) rfl rfl rfl];rw[Y6]at e;simp[Fa];rw[e];simp
def uM(hw:Wd w)(hl:ps.length<=2)(h4:∀p∈ps,p.2.length<=4)(n:Int)(hn:0<=n):∃t:Te,(∀l,t=.any l->l∈aW ps)/\JO [w,.lst (ps.map WC),.int n]=U (teD t,Y):=by
 obtain⟨ws,st,sp,w1,w2,w3,w4,w5,rfl⟩:=hw;obtain⟨u,eu⟩:=lu (ws:=ws) (i:=n / 4%6) (by lia) (by lia);have hlen:=aU h4;have w0:ixO (U (aG ws st sp)) (U (.int 0))=U (.lst (ws.map .str)):=rfl;have en:eqO (U (.lst ((aW ps).map anD))) (U (.lst []))=U (decide (aW ps=[])):=by
  rw[lf _ _ (by
   unfold ok2;rw[dP (n:=15) λd hd=>by obtain⟨l,_,rfl⟩:=ZQ.mp hd;exact yO _ 14];rfl)]
  congr 1;exact YE.mpr (by simp)
 have key:∀c:Bool,(c=Y->aW ps≠[])->orO (eqO (U (.lst ((aW ps).map anD))) (U (.lst []))) (eqO (cF (U (.int n)) (U (.int 4))) (U (.int 0)))=U c->∃t:Te,(∀l,t=.any l->l∈aW ps)/\JO [aG ws st sp,.lst (ps.map WC),.int n]=U (teD t,Y):=λc hc ec=>by
  have cr:JO [aG ws st sp,.lst (ps.map WC),.int n]=qL (aC (ifO (U c) (dk (U (teD (.nm u)))) (aan [U (aG ws st sp,Y),U (.lst (ps.map WC),Y),U (.int n,Y),U (.lst ((aW ps).map anD),Y)])) (λq=>dk (ixO (rd Y 3 q) (cF (ot (rd Y 2 q) (U (.int 4))) (iG (rd Y 3 q)))))):=by
   rw[am (f:=JO) (d:=[U (aG ws st sp,Y),U (.lst (ps.map WC),Y),U (.int n,Y),M]) rfl rfl rfl];simp only[Fc,aad,aab,VV,PK,nO hl h4,aat];rw[aag _ _ _ (by simp)];simp only[VW,aQ,aP,aad,aab];rw[aas _ (by simp),ec];simp only[w0,aao _ _ (show(0:Int)<6 by lia),aa2 _ _ (show(0:Int)<4/\(4:Int)<1073741824 by lia),abg,eu,VV];rw[aax _ (by simp)];rfl
  rw[cr];cases c with
  |true=>exact⟨.nm u,λl h=>(by cases h),rfl⟩
  |false=>
   have Rf:0<(aW ps).length:=Wq.mpr (hc rfl);have a0:(0:Int)<=n / 4%((aW ps).length:Int):=Int.emod_nonneg _ (by lia);have a1:n / 4%((aW ps).length:Int)<(aW ps).length:=Int.emod_lt_of_pos _ (by lia);obtain⟨v,hv,_,V5⟩:=kW (xs:=(aW ps).map anD) a0 (by simpa using a1);obtain⟨l,IQ,rfl⟩:=ZQ.mp hv;refine⟨.any l,λk h=>by cases h;exact IQ,?_⟩;simp only[aaO,aav,VW,aad,aab,ab9,ZJ,aa2 _ _ (show(0:Int)<4/\(4:Int)<1073741824 by lia),aao _ _ (show(0:Int)<(aW ps).length by lia),abg,V5];rfl
 rw[en,aao _ _ (by decide),aa0]at key;by_cases h0:aW ps=[];exact key L (λh=>by cases h) (by rw[Zw h0];rfl);exact key (decide (n%4=0)) (λ_=>h0) (by rw[ZA h0];rfl)
def Do(a b:Te):eqO (U (teD a)) (U (teD b))=U (decide (a=b)):=by
 rw[lf _ _ (by unfold ok2;rw[DY,DY];rfl)];congr 1;exact YE.mpr ⟨gM,λh=>by rw[h]⟩
abbrev Rx:D->Mk->Z9 Mk:=aL (aj (ae 2) (aj (ae 3) (aah)))
theorem sw(t:Te)(a1:Z9 (D×Bool)):∀(b:Bi)(x2 x3:Z9 (D×Bool)),(∀l,t=.any l->∃c,gt b l=U c)->
  aC (ar (λd q=>af (Rx d q) sF) (b.map aap) [U (teD t,Y),a1,x2,x3]) (λq=>dk (rd Y 0 q))=U (.ret (ceD (ev (fn b) t)) Y)
 |[],x2,x3,h=>by
  cases t with
  |any l=>obtain⟨c,hc⟩:=h l rfl;simp[gt]at hc
  |nm w=>rfl
 |(k,c)::b,x2,x3,h=>by
  rw[Z2];unfold ar;have ta:(.tup [.str "any",.str k]:D)=teD (.any k):=rfl;simp only[aap,Rx,aaF,aaz,aaG,aae,Zm,bG,fU,PK,aQ,aP,Nat.reduceAdd,Nat.reduceLT,sF,aad,aab,VV];rw[aax _ (by simp),ta,Do];by_cases e:t=.any k;subst e;rw[Zw rfl];have:ev (fn ((k,c)::b)) (.any k)=c:=by show fn _ k=c;unfold fn;rw[cw,ZR rfl];rfl
  rw[this];rfl;rw[ZA e];have ht:∀l,t=.any l->gt ((k,c)::b) l=gt b l:=λl hl=>by rw[cw,ZK λz=>e (by rw[hl,z])]
  have he:ev (fn ((k,c)::b)) t=ev (fn b) t:=by
   cases t with
   |any l=>show fn _ l=fn _ l;unfold fn;rw[ht l rfl]
   |nm w=>rfl
  rw[he];exact sw t a1 b _ _ λl hl=>by obtain⟨d,hd⟩:=h l hl;exact⟨d,by rw[<-ht l hl];exact hd⟩
def iE(h:∀l,t=.any l->∃c,gt b l=U c):KO [teD t,b7 b]=U (ceD (ev (fn b) t),Y):=by
 rw[am (f:=KO) (d:=[U (teD t,Y),U (b7 b,Y),M,M]) rfl rfl rfl];have l2:bZ (U (b7 b))=U (b.map aap):=rfl;simp only[ET,aad,aab,l2,PK];rw[sw t _ b M M h];rfl
def Hf{us:Z_ Str}{c:Z_ Ce}{acc:Z_ (Z_ Ce)}(hc:c.length=us.length)(ha:∀x∈acc,x.length=us.length):bB (U (fL us c)) (U (.lst (acc.map (fL us))))=U (!decide (c∈acc)):=by
 unfold bB inO;simp only[aT];rw[ZR];have:decide (fL us c∈acc.map (fL us))=decide (c∈acc):=YE.mpr ⟨λh=>by
  obtain⟨v,hv,e⟩:=ZQ.mp h;rw[<-DL (ha v hv) hc e];exact hv,λh=>ZQ.mpr ⟨_,h,rfl⟩⟩
 rw[this];rfl;rw[ZH,ZO];refine⟨D8 us c 12,λx hx=>?_⟩;obtain⟨v,_,rfl⟩:=ZQ.mp hx;exact D8 us v 12
def duS(us:Z_ Str)(C:Bi->Bool)(acc:Z_ (Z_ Ce))(b:Bi):Z_ (Z_ Ce):=if C b=L then ins (vl b us) acc else acc
theorem tN(us:Z_ Str)(C:Bi->Bool):∀(fs:Z_ Bi)(acc:Z_ (Z_ Ce)),acc.Nodup->(fs.foldl (duS us C) acc).Nodup/\∀x,x∈fs.foldl (duS us C) acc↔x∈acc\/∃b∈fs,C b=L/\x=vl b us
 |[],acc,h=>⟨h,λx=>by simp⟩
 |b::fs,acc,h=>by
  rw[List.foldl_cons];have h1:(duS us C acc b).Nodup:=by unfold duS;split;exact zp h;exact h
  obtain⟨q1,q2⟩:=tN us C fs _ h1;refine⟨q1,λx=>?_⟩;rw[q2];unfold duS;simp only[Z0,exists_eq_or_imp];split;rename_i c;rw[mO,or_assoc];exact or_congr_right (or_congr_left ⟨λz=>⟨c,z⟩,λz=>z.2⟩);rename_i c;exact or_congr_right ⟨.inr,λz=>z.elim (λz=>absurd z.1 c) id⟩
def pR{us:Z_ Str}{b:Bi}{acc:Z_ (Z_ Ce)}(ha:∀x∈acc,x.length=us.length)(hl:acc.length<=1000){i:Nat}{q:Mk}(hi:q[i]?=U (U (.lst (acc.map (fL us)),L)))(c:Bool)(C:Bi->Bool)(hC:C b=c):
  ifO (tY (U c) (bB (U (fL us (vl b us))) (U (.lst (acc.map (fL us)))))) (ip i (U (fL us (vl b us))) q) (aan q)=U (.next (q.set i (U (.lst ((duS us C acc b).map (fL us)),L)))):=by
 have hs:q.set i (U (.lst (acc.map (fL us)),L))=q:=by
  obtain⟨h1,h2⟩:=ZX.mp hi;rw[<-h2];exact List.set_getElem_self h1
 unfold duS;rw[hC];cases c with
 |false=>rw[ZK Zr,hs];rfl
 |true=>
  rw[ZR rfl,abN,Hf (yA b us) ha];unfold ins;by_cases hm:vl b us∈acc;rw[Zw hm,ZR hm,hs];rfl;rw[ZA hm,ZK hm,XW,aaE,gC _ hi (by rw[ZJ,aam];lia),YW];rfl
def uO(h:∀x∈acc,x.length=us.length):(∀x∈duS us C acc b,x.length=us.length)/\(duS us C acc b).length<=acc.length+1:=by
 unfold duS;split;refine⟨λx hx=>?_,i9 _ _⟩;rcases mO.mp hx with z|z;exact h x z;rw[z,yA];exact⟨h,by lia⟩
def C1(rs:Z_ Row)(qs:Z_ Pat)(b:Bi):Bool:=decide (LF rs qs b=[])
def C2(ta tb:Te)(b:Bi):Bool:=!decide (ev (fn b) ta=ev (fn b) tb)
def BS(b:Bi)(n:Nat):okD (n+4) (b7 b)=L:=dP λd hd=>by obtain⟨q,_,rfl⟩:=ZQ.mp hd;exact uQ q n
section
variable{rs:Z_ Row}(r_:rs.length<=10){ps qs:Z_ Pat}(h1:ps.length<=2)(h2:qs.length<=2)(h4:∀p∈ps,p.2.length<=4)(h5:∀p∈qs,p.2.length<=4){ta tb:Te}(ha:∀l,ta=.any l->l∈aW ps)(hb:∀l,tb=.any l->l∈aW ps)
include r_ h1 h2 h4 h5 ha hb
theorem oD(a0 a1 a2 a3 a4 a6 a7 a9 PD QU:Z9 (D×Bool)):∀(fs:Z_ Bi)(c1 c2:Z_ (Z_ Ce))(JD:Z9 (D×Bool)),(∀b∈fs,b∈LF rs ps [])->(∀x∈c1,x.length=(uL ps).length)->(∀x∈c2,x.length=(uL ps).length)->c1.length+fs.length<=500->c2.length+fs.length<=500->∃OW,
  ar (λd O=>af ((ae 14) d O) mV) (fs.map b7) [a0,a1,a2,a3,a4,U (.lst (rs.map aE),Y),a6,a7,U (.lst (qs.map WC),Y),a9,U (.lst (c1.map (fL (uL ps))),L),U (.lst (c2.map (fL (uL ps))),L),U (teD ta,Y),U (teD tb,Y),JD,PD,QU]=
   U (.next [a0,a1,a2,a3,a4,U (.lst (rs.map aE),Y),a6,a7,U (.lst (qs.map WC),Y),a9,U (.lst ((fs.foldl (duS (uL ps) (C1 rs qs)) c1).map (fL (uL ps))),L),U (.lst ((fs.foldl (duS (uL ps) (C2 ta tb)) c2).map (fL (uL ps))),L),U (teD ta,Y),U (teD tb,Y),OW,PD,QU])
 |[],c1,c2,JD,_,_,_,_,_=>⟨JD,rfl⟩
 |b::fs,c1,c2,JD,hf,l1,l2,n1,n2=>by
  have JZ:=hf b (.head _);obtain⟨o1,_⟩:=Br (rs:=rs) (ps:=ps) (found:=[[]]) (k:=0) h4 λb hb=>by rw[ZG.mp hb];exact⟨YY,by simp⟩
  obtain⟨nb,lb⟩:=o1 b JZ;have eF:=fZ (rs:=rs) (by lia) h2 h5 nb (by lia);have eA:=iE (b:=b) (t:=ta) λl hl=>(oM JZ l).mp (ha l hl);have eB:=iE (b:=b) (t:=tb) λl hl=>(oM JZ l).mp (hb l hl);have eE:eqO (U (.lst ((LF rs qs b).map b7))) (U (.lst []))=U (C1 rs qs b):=by
   rw[lf _ _ (by unfold ok2;rw[dP (n:=15) λd hd=>by obtain⟨q,_,rfl⟩:=ZQ.mp hd;exact BS q 11];rfl)];congr 1;exact YE.mpr (by simp)
  have es:dh .ts (U (b7 b))=U (fL (uL ps) (vl b (uL ps))):=by
   unfold b7 fL;rw[fW (uX b) (.inr (ZO.mpr λx hx=>by obtain⟨q,_,rfl⟩:=ZQ.mp hx;rfl)),CG nb (wK ps) (Ct ps) λl=>by rw[ca];exact oM JZ l]
  obtain⟨q1,q2⟩:=uO (C:=C1 rs qs) (b:=b) l1;obtain⟨q3,q4⟩:=uO (C:=C2 ta tb) (b:=b) l2;simp only[bG]at n1 n2;obtain⟨OW,e⟩:=oD a0 a1 a2 a3 a4 a6 a7 a9 PD QU fs (duS (uL ps) (C1 rs qs) c1 b) (duS (uL ps) (C2 ta tb) c2 b) (U (b7 b,Y)) (λb' h'=>hf b' (.tail _ h')) q1 q3 (by lia) (by lia);refine⟨OW,?_⟩;rw[Z2];unfold ar;rw[aae _ _ _ (by simp)];simp only[PK,aQ,aP,mV,aad,aab,abt,VV,eF,aar,es];rw[aas _ (by simp),eE,pR l1 (by lia) rfl _ (C1 rs qs) rfl];simp only[VW,aQ,aP,aad,aab,abt,VV,PK,eA,eB,aar,iY,es];rw[pR l2 (by lia) rfl (!decide (ev (fn b) ta=ev (fn b) tb)) (C2 ta tb) rfl];simp only[aQ,aP];exact e
omit r_ h1 h2 h4 h5 ha hb in
def DM(rs:Z_ Row)(ps qs:Z_ Pat):Fs (PM rs ps qs) (uL ps) ((LF rs ps []).foldl (duS (uL ps) (C1 rs qs)) []):=by
 obtain⟨d1,d2⟩:=tN (uL ps) (C1 rs qs) (LF rs ps []) [] YY;refine⟨d1,λx=>?_⟩;rw[d2];simp only[Zt,false_or];constructor
 rintro⟨b,hb,hc,rfl⟩
 refine⟨fn b,rfl,yY hb,λ⟨ψ,a1,a2⟩=>(yq rs qs ((mS rs ps nk0).nd b hb)).mp (Zh hc) ⟨ψ,λl c h=>?_,a2⟩⟩;rw[a1 l ((oM hb l).mpr ⟨c,h⟩)];unfold fn;rw[h];rfl
 rintro⟨φ,rfl,hp,hn⟩
 obtain⟨b,hb,hg⟩:=sS hp;refine⟨b,hb,Zw ((yq rs qs ((mS rs ps nk0).nd b hb)).mpr λ⟨ψ,a1,a2⟩=>hn ⟨ψ,λl hl=>(a1 l _ (wG hb l hl)).trans (hg l hl),a2⟩),?_⟩;exact Ze λl hl=>(hg l ((ca ps l).mp hl)).symm
omit r_ h1 h2 h4 h5 in
def Ao(rs:Z_ Row):Fs (PS rs ps ta tb) (uL ps) ((LF rs ps []).foldl (duS (uL ps) (C2 ta tb)) []):=by
 obtain⟨d1,d2⟩:=tN (uL ps) (C2 ta tb) (LF rs ps []) [] YY;have PB:∀{φ ψ:Fit},(∀l∈aW ps,φ l=ψ l)->ev φ ta=ev ψ ta/\ev φ tb=ev ψ tb:=λ{φ ψ} h=>by
  constructor;cases ta with
  |any l=>exact h l (ha l rfl)
  |nm w=>rfl
  cases tb with
  |any l=>exact h l (hb l rfl)
  |nm w=>rfl
 refine⟨d1,λx=>?_⟩;rw[d2];simp only[Zt,false_or];constructor
 rintro⟨b,JZ,hc,rfl⟩
 exact⟨fn b,rfl,yY JZ,by unfold C2 at hc;simpa using hc⟩
 rintro⟨φ,rfl,hp,hn⟩
 obtain⟨b,JZ,hg⟩:=sS hp;refine⟨b,JZ,?_,Ze λl hl=>(hg l ((ca ps l).mp hl)).symm⟩;unfold C2;rw[(PB hg).1,(PB hg).2];simpa using hn
end
def two{m:Int}:∃k:Nat,k<=1/\m%2=(k:Int):=⟨(m%2).toNat,by lia,by lia⟩
def Ia(p0 p1 p2 p3:Pat){k j:Nat}(hk:k<=1)(hj:j<=1):∃ps qs:Z_ Pat,ps.length<=2/\qs.length<=2/\(∀p∈ps++qs,p∈[p0,p1,p2,p3])/\mj ([p0,p1,p2,p3].map WC) M (U (1+(k:Int)))=ps.map WC/\mj ([p0,p1,p2,p3].map WC) (U 2) (U (3+(j:Int)))=qs.map WC:=by
 have N6:k=0\/k=1:=by lia
 have Vi:j=0\/j=1:=by lia
 obtain⟨ps,a1,a2,a3⟩:∃ps:Z_ Pat,ps.length<=2/\(∀p∈ps,p∈[p0,p1,p2,p3])/\mj ([p0,p1,p2,p3].map WC) M (U (1+(k:Int)))=ps.map WC:=by
  rcases N6 with rfl|rfl;exact⟨[p0],by simp,by simp,rfl⟩;exact⟨[p0,p1],by simp,by simp,rfl⟩
 obtain⟨qs,b1,b2,b3⟩:∃qs:Z_ Pat,qs.length<=2/\(∀p∈qs,p∈[p0,p1,p2,p3])/\mj ([p0,p1,p2,p3].map WC) (U 2) (U (3+(j:Int)))=qs.map WC:=by
  rcases Vi with rfl|rfl;exact⟨[p2],by simp,by simp,rfl⟩;exact⟨[p2,p3],by simp,by simp,rfl⟩
 exact⟨ps,qs,a1,b1,λp hp=>(Zl.mp hp).elim (a2 p) (b2 p),a3,b3⟩
def pure(ns:Z_ Int)(hn:ns.length<=63):f_law [.lst (ns.map D.int)]=U (.bl L,Y):=by
 have ec:mj (ns.map D.int) M (U 10)=(ns.take 10).map D.int:=wO ns 10;have hk:(ns.take 10).length<=10:=by simp;lia
 generalize ns.take 10=cs at ec hk;generalize Q9:cs.sum%1000003=JU;obtain⟨ws,st,sp,w1,w2,w3,w4,w5,ew⟩:=xJ JU;obtain⟨ls,hl,el⟩:=qQ JU;obtain⟨g,eg,gl,gp⟩:=cZ (ds:=cs.map D.int) (P:=λ_ y=>∃r:Row,r.2.length<=3/\y=aE r)
  (h:=az (ae 16) (λq=>U L) mW [M,M,M,U (aG ws st sp,Y),M,M,M,M,M,M,M,M,M,M,M,M,M]) λd hd=>by
   obtain⟨c,_,rfl⟩:=ZQ.mp hd;obtain⟨r,hr,er⟩:=zo w1 w2 w3 w4 w5 c;exact⟨aE r,by simp[az,mW,er],r,hr,rfl⟩
 obtain⟨us,rfl,UT⟩:=m6 (F:=aE) (Q:=λr=>r.2.length<=3) gl gp λd y hz=>by obtain⟨e,a,b⟩:=hz;exact⟨e,b,a⟩
 rw[ZJ,ZJ]at gl;obtain⟨rs,UC,lrs,V9⟩:=wm us (by lia);have r_:rs.length<=10:=by lia
 have VR:∀r∈rs,r.2.length<=3:=λr hr=>UT r (UC r hr);have hW:Wd (aG ws st sp):=⟨ws,st,sp,w1,w2,w3,w4,w5,rfl⟩;obtain⟨g2,We,QN,VY⟩:=cZ (ds:=iJ 0 4) (P:=λ_ y=>∃p:Pat,p.2.length<=4/\y=WC p)
  (h:=az (ae 15) (λq=>U L) mH [M,M,U (.int JU,Y),U (aG ws st sp,Y),U (.lst (ls.map .str),Y),U (.lst (rs.map aE),Y),M,M,M,M,M,M,M,M,M,M,M]) λd hd=>by
   obtain⟨i,hi,rfl⟩:=ei hd;obtain⟨u,hu,eu⟩:=qT hW hl (by lia) VR (JU*5+(0+(i:Int))*(0+(i:Int))+3*(0+(i:Int)));refine⟨WC u,?_,u,hu,rfl⟩;have e0:(0:Int)+(i:Int)=i:=by lia
   rw[e0]at eu⊢;simp[az,mH,aaX (JU) 5 (by lia),aaX (i:Int) (i:Int) (by lia),aaX 3 (i:Int) (by lia),eu]
 obtain⟨dr,rfl,ME⟩:=m6 (F:=WC) (Q:=λp=>p.2.length<=4) QN VY λd y hz=>by obtain⟨e,a,b⟩:=hz;exact⟨e,b,a⟩
 rw[bb,ZJ]at QN;obtain⟨p0,p1,p2,p3,rfl⟩:∃p0 p1 p2 p3,dr=[p0,p1,p2,p3]:=by
  match dr,QN with
  |[a,b,c,d],_=>exact⟨a,b,c,d,rfl⟩
 obtain⟨k,k1,ek⟩:=two (m:=dn JU 30);obtain⟨j,j1,ej⟩:=two (m:=dn JU 31);obtain⟨ps,qs,h1,h2,Jv,cp,cq⟩:=Ia p0 p1 p2 p3 k1 j1;have h4:∀p∈ps,p.2.length<=4:=λp hp=>ME p (Jv p (YS _ hp));have h5:∀p∈qs,p.2.length<=4:=λp hp=>ME p (Jv p (ZE _ hp));obtain⟨ta,ha,ea⟩:=uM hW h1 h4 (dn JU 32) (bf _ _);obtain⟨tb,hb,eb⟩:=uM hW h1 h4 (dn JU 33) (bf _ _);have hu:(uL ps).length<=16:=ZF (gX ps) (ZF (aU h4) (by lia));have eL:=fZ (rs:=rs) (by lia) h1 h4 nk0 (by simp);have e0:b7 []=.lst []:=rfl;rw[e0]at eL;obtain⟨_,o2⟩:=Br (rs:=rs) (ps:=ps) (found:=[[]]) (k:=0) h4 λb hb=>by rw[ZG.mp hb];exact⟨YY,by simp⟩
 have hLF:(LF rs ps []).length<=100:=by
  refine ZF o2 ?_;simp only[bG,fU,Yh,Nat.mul_one];exact ZF (Xz r_ _) (ZF (XG (by decide) h1) (by decide))
 have eM:=tS (mK r_ h1 h2 h4 h5) hu (DM rs ps qs);have eS:=tS (mX r_ h1 h4 (a:=ta) (b:=tb) λl h=>(CQ h).elim (ha l) (hb l)) hu (Ao ha hb rs);have Uv:okD 16 (.lst [.lst (ps.map WC),.lst (qs.map WC)])=L:=dP λd hd=>by
  simp only[Z0,Zt,YK]at hd;rcases hd with rfl|rfl;exact sW 11 ps;exact sW 11 qs
 rw[am (f:=f_law) (d:=[U (.lst (ns.map D.int),Y),M,M,M,M,M,M,M,M,M,M,M,M,M,M,M,M]) rfl rfl rfl];simp only[zM,aab,aa_,abb,ec];rw[aag _ _ _ (by simp)];simp only[VW,aQ,aP,aad,aab,B0,aao _ _ (show(0:Int)<1000003 by lia),Q9];rw[aag _ _ _ (by simp)];simp only[VW,aQ,aP,aad,aab,VV,PK,ew,aar];rw[aag _ _ _ (by simp)];simp only[VW,aQ,aP,aad,aab,VV,PK,el,aat];rw[aag _ _ _ (by simp)];simp only[VW,aQ,aP,aad,aab,aaj,PK];rw[aJ (by simp;lia)];have Qt:∀(x y z u:Z9 (D×Bool)),au Y [Y,Y,Y,L,Y,Y,Y,Y,Y,Y,Y,Y,Y,Y,Y,Y,Y] [x,y,z,U (aG ws st sp,Y),u,M,M,M,M,M,M,M,M,M,M,M,M]=[M,M,M,U (aG ws st sp,Y),M,M,M,M,M,M,M,M,M,M,M,M,M]:=λ_ _ _ _=>by simp[au]
 rw[Qt,eg,aai];simp only[VV,PK,V9,aat];rw[aag _ _ _ (by simp)];simp only[VW,aQ,aP,aad,aab];rw[iI _ (by lia),PK,aJ (by rw[bb,aam];decide)];have N1:∀(x y:Z9 (D×Bool)),au Y [Y,Y,L,L,L,L,Y,Y,Y,Y,Y,Y,Y,Y,Y,Y,Y] [x,y,U (.int JU,Y),U (aG ws st sp,Y),U (.lst (ls.map .str),Y),U (.lst (rs.map aE),Y),M,M,M,M,M,M,M,M,M,M,M]=[M,M,U (.int JU,Y),U (aG ws st sp,Y),U (.lst (ls.map .str),Y),U (.lst (rs.map aE),Y),M,M,M,M,M,M,M,M,M,M,M]:=λ_ _=>by simp[au]
 have e4:(4:Int).toNat=4:=rfl;rw[N1,e4,We,aai,aaA _ _ _ (by simp)];simp only[VW,aQ,aP,aaY,aaZ,rW,aad,aab,VV,PK,bA JU 30 (by lia) (by lia),aar,aao _ _ (show(0:Int)<2 by lia),ek,aa3,aa_,abb,cp];rw[aag _ _ _ (by simp)];simp only[VW,aQ,aP,aad,aab,VV,PK,bA JU 31 (by lia) (by lia),aar,aao _ _ (show(0:Int)<2 by lia),ej,aa3,aa_,abb,cq];rw[aag _ _ _ (by simp)];simp only[VW,aQ,aP,aad,aab,aba,VV];rw[aas _ (by simp),aag _ _ _ (by simp),aas _ (by simp)];simp only[VW,aQ,aP];rw[aaA _ _ _ (by simp)];simp only[VW,aQ,aP];rw[aaA _ _ _ (by simp)];simp only[VW,aQ,aP,aad,aab,VV,PK,bA JU 32 (by lia) (by lia),aar,ea];rw[aag _ _ _ (by simp)];simp only[VW,aQ,aP,aad,aab,VV,PK,bA JU 33 (by lia) (by lia),aar,eb];rw[aag _ _ _ (by simp)];simp only[VW,aQ,aP,aad,aab,VV,PK,eL,aar,aaj];obtain⟨OW,Mo⟩:=oD r_ h1 h2 h4 h5 ha hb (U (.lst (ns.map D.int),Y)) (U (.lst (cs.map D.int),Y)) (U (.int JU,Y)) (U (aG ws st sp,Y)) (U (.lst (ls.map .str),Y)) (U (.lst ([p0,p1,p2,p3].map WC),Y)) (U (.lst (ps.map WC),Y)) (U (.lst [.lst (ps.map WC),.lst (qs.map WC)],Y)) M M (LF rs ps []) [] [] M (λb h=>h) (by simp) (by simp) (by simp;lia) (by simp;lia);simp only[Y6]at Mo;rw[Mo];simp only[VW,aad,aab,abt,VV];rw[aax _ (by simp),aax _ (by simp)];simp only[VV,PK,eM,eS,aar,acp,abf,YA,abV,aaO,aav,VW,aad,aab];rw[aas _ (by simp),m3 Uv];rfl
end K32
theorem PySem.Challenge.cw_mustrows_k32_broken_holds : PySem.Challenge.rw_mustrows_k32_broken.Holds := by
 letI:L2.Lams:=⟨[(48,"search_order.<locals>.<lambda>")]⟩
 refine PySem.W.holds_law K32.hl1 fun said=>?_
 refine PySem.W.holds_open (d:=PySem.DefRec.mk "law" (L2.defArgs K32.s_law) (L2.defBody K32.s_law) (L2.defScope K32.s_law) K32.s_law.pos) (kwd:=[]) (q:=PySem.W.view PySem.Challenge.pw_mustrows_k32_broken Fw) (loose:=[]) (Xt:=fun _=>true) (XP:=fun _ _=>True) (Yf:=L2.YfH K32.defsK K32.blK [("search_order",50)]) (Ya:=L2.YaH K32.defsK K32.blK [("search_order",50)]) (YP:=L2.YH K32.defsK K32.blK [("search_order",50)]) (N:=2000) ?hl L2.yh_of L2.yh_keeps (fun _ _=>trivial) (fun _ _ _ _ _=>trivial) (by kernel_rfl) (by kernel_rfl) (by kernel_rfl) (fun s _=>PySem.W.recFacts_of (by kernel_rfl)) (by kernel_rfl) said K32.hl7 ⟨rfl,rfl,rfl,rfl,rfl,by decide +kernel⟩ ?hw ?hc
 case hl=>exact K32.hl0
 case hw=>w_witness2
 case hc=>
  refine L2.walk_H (l:=PySem.Challenge.rw_mustrows_k32_broken) (n:=63) (k:=10) (x:="_law_script") (CX:=L2.CX0) (sp:=fun K=>L2.spM K K32.f_law) rfl (by decide) rfl ⟨rfl,by decide,by decide⟩ rfl (fun w mg fa h K S L X G hmg=>K32.all_mk S X G hmg (.head _) (L2.map_mem L.1 (.head _))) (fun K H a ns hl hO hS=>L2.spM_law hS (K32.pure ns hl)) (fun _ _ _ _ h=>h) (fun q hq r hr _=>by rw[List.mem_singleton.mp hq,List.mem_singleton.mp hr])
