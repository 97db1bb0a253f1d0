import PyProof.Rows.All
import PyProof.ZipIter
import Wide.All
import OpenK.AllK
import Wide.FinOn
import Lean
import PyProof.EqAt
import PyProof.EqKinds
import PyProof.TupleCall
import PyProof.NeKinds
import PyProof.Conv_int_bool
import PyProof.DictRoadsH
import PyProof.EnumStmt
import PyProof.DictIter
import PyProof.DictWalks
import PyProof.ConsumeWalk
import PyProof.ListStr
import KE.KIntText
import KE.IntTextLaws
import PySem.Challenge.RW_mustrows_k71_rows_as_texts
set_option Elab.async false
set_option linter.all false
set_option maxRecDepth 100000

namespace L2
open PySem PySem.Spec PyProof.Rows

abbrev Key := Sum Int Str

inductive D where
  | non | bl (b : Bool) | int (i : Int) | str (x : Str) | tup (ds : List D) | lst (ds : List D) | dT (ks : List (List Key)) (vs : List D) | dK (ks : List Key) (vs : List D)
  | dD (ks vs : List D)
  
  | sp (k : Bool) (x : Str)
mutual
def D.beq : D → D → Bool
  | .non, .non => true
  | .bl a, .bl b => a == b
  | .int a, .int b => a == b
  | .str a, .str b => decide (a = b)
  | .tup a, .tup b => D.beqs a b
  | .lst a, .lst b => D.beqs a b
  | .dT ka a, .dT kb b => decide (ka = kb) && D.beqs a b
  | .dK ka a, .dK kb b => decide (ka = kb) && D.beqs a b
  | .dD ka a, .dD kb b => D.beqs ka kb && D.beqs a b
  | .sp a x, .sp b y => a == b && decide (x = y)
  | _, _ => false
def D.beqs : List D → List D → Bool
  | [], [] => true
  | a :: as, b :: bs => D.beq a b && D.beqs as bs
  | _, _ => false
end
mutual
theorem D.beq_iff : ∀ (a b : D), D.beq a b = true ↔ a = b
  | .non, b => by cases b <;> simp [D.beq]
  | .bl a, b => by cases b <;> simp [D.beq]
  | .int a, b => by cases b <;> simp [D.beq]
  | .str a, b => by cases b <;> simp [D.beq]
  | .tup a, b => by
    cases b with
    | tup b => simp only [D.beq, D.tup.injEq]; exact D.beqs_iff a b
    | _ => simp [D.beq]
  | .lst a, b => by
    cases b with
    | lst b => simp only [D.beq, D.lst.injEq]; exact D.beqs_iff a b
    | _ => simp [D.beq]
  | .dT ka a, b => by
    cases b with
    | dT kb b => simp only [D.beq, D.dT.injEq, Bool.and_eq_true, decide_eq_true_eq]; rw [D.beqs_iff a b]
    | _ => simp [D.beq]
  | .dK ka a, b => by
    cases b with
    | dK kb b => simp only [D.beq, D.dK.injEq, Bool.and_eq_true, decide_eq_true_eq]; rw [D.beqs_iff a b]
    | _ => simp [D.beq]
  | .dD ka a, b => by
    cases b with
    | dD kb b => simp only [D.beq, D.dD.injEq, Bool.and_eq_true]; rw [D.beqs_iff ka kb, D.beqs_iff a b]
    | _ => simp [D.beq]
  | .sp a x, b => by cases b <;> simp [D.beq]
theorem D.beqs_iff : ∀ (a b : List D), D.beqs a b = true ↔ a = b
  | [], b => by cases b <;> simp [D.beqs]
  | a :: as, b => by
    cases b with
    | nil => simp [D.beqs]
    | cons b bs => simp only [D.beqs, Bool.and_eq_true, List.cons.injEq]; rw [D.beq_iff a b, D.beqs_iff as bs]
end
instance : DecidableEq D := fun a b => if h : D.beq a b = true then isTrue ((D.beq_iff a b).mp h) else isFalse fun e => h ((D.beq_iff a b).mpr e)

def hasH : Nat → D → Bool
  | _, .int _ => true
  | _, .str _ => true
  | n + 1, .tup ds => ds.all (hasH n)
  | _, _ => false
mutual
def hashD (w : World) : D → Int
  | .int i => hashInt i
  | .str x => hashStr w x
  | .tup ds => reduceHash (Builtin.Tuple.tupleHashOf (hashDs w ds))
  | _ => 0
def hashDs (w : World) : List D → List Int
  | [] => []
  | d :: ds => hashD w d :: hashDs w ds
end
theorem hashDs_map (w : World) : ∀ ds : List D, hashDs w ds = ds.map (hashD w)
  | [] => by simp [hashDs]
  | d :: ds => by simp [hashDs, hashDs_map w ds]
theorem hasH_tup {n : Nat} {ds : List D} (h : hasH n (.tup ds) = true) : ∃ k, n = k + 1 ∧ ds.all (hasH k) = true := by
  cases n with
  | zero => simp [hasH] at h
  | succ n => exact ⟨n, rfl, by simpa [hasH] using h⟩

mutual
def drawsD : D → Nat
  | .int _ => 1
  | .str _ => 1
  | .tup ds => drawsDs ds + 1
  | _ => 0
def drawsDs : List D → Nat
  | [] => 0
  | d :: ds => drawsD d + drawsDs ds
end
theorem drawsDs_app (d : D) : ∀ ds : List D, drawsDs (ds ++ [d]) = drawsDs ds + drawsD d
  | [] => by simp [drawsDs]
  | x :: ds => by rw [List.cons_append]; simp only [drawsDs]; rw [drawsDs_app d ds]; omega
mutual
def RH (h : Heap) : D → Value → Prop
  | .int i, v => ∃ t, v = .int i t
  | .str x, v => ∃ t, v = .str x t
  | .tup ds, v => ∃ a its, v = .ref a ∧ IsTup h a its.toArray ∧ RHs h ds its
  | _, _ => False
def RHs (h : Heap) : List D → List Value → Prop
  | [], vs => vs = []
  | d :: ds, vs => ∃ v r, vs = v :: r ∧ RH h d v ∧ RHs h ds r
end
theorem RHs.length {h : Heap} : ∀ {ds : List D} {vs : List Value}, RHs h ds vs → ds.length = vs.length
  | [], vs, r => by simp only [RHs] at r; subst r; rfl
  | d :: ds, vs, r => by
    simp only [RHs] at r
    obtain ⟨v, q, rfl, _, r2⟩ := r
    simp [RHs.length r2]
theorem RHs.get {h : Heap} : ∀ {ds : List D} {vs : List Value} {i : Nat} {d : D}, RHs h ds vs → ds[i]? = some d → ∃ v, vs[i]? = some v ∧ RH h d v
  | [], vs, i, d, _, e => by simp at e
  | x :: ds, vs, 0, d, r, e => by
    simp only [RHs] at r
    obtain ⟨v, q, rfl, r1, _⟩ := r
    simp at e; subst e; exact ⟨v, rfl, r1⟩
  | x :: ds, vs, i + 1, d, r, e => by
    simp only [RHs] at r
    obtain ⟨v, q, rfl, _, r2⟩ := r
    obtain ⟨u, h1, h2⟩ := RHs.get (i := i) (d := d) r2 (by simpa using e)
    exact ⟨u, by simpa using h1, h2⟩
mutual
theorem RH.inj {h : Heap} : ∀ {d e : D} {v : Value}, RH h d v → RH h e v → d = e
  | .int i, e, v, r, q => by
    simp only [RH] at r; obtain ⟨t, rfl⟩ := r
    cases e <;> simp only [RH] at q <;> first
      | (obtain ⟨t', z⟩ := q; cases z; rfl)
      | (obtain ⟨t', z⟩ := q; cases z; done)
      | (obtain ⟨a, its, z, _⟩ := q; cases z)
      | cases q
  | .str i, e, v, r, q => by
    simp only [RH] at r; obtain ⟨t, rfl⟩ := r
    cases e <;> simp only [RH] at q <;> first
      | (obtain ⟨t', z⟩ := q; cases z; rfl)
      | (obtain ⟨t', z⟩ := q; cases z; done)
      | (obtain ⟨a, its, z, _⟩ := q; cases z)
      | cases q
  | .tup ds, e, v, r, q => by
    simp only [RH] at r; obtain ⟨a, its, rfl, ⟨o, g, _, n, hd⟩, rs⟩ := r
    cases e with
    | tup es =>
      simp only [RH] at q; obtain ⟨b, jts, z, ⟨o', g', _, n', hd'⟩, qs⟩ := q
      cases z
      rw [g] at g'; cases g'
      rw [hd] at hd'
      have : its.toArray = jts.toArray := by injection hd'
      have e2 : its = jts := by simpa using this
      subst e2
      rw [RHs.inj rs qs]
    | int _ => simp only [RH] at q; obtain ⟨t', z⟩ := q; cases z
    | str _ => simp only [RH] at q; obtain ⟨t', z⟩ := q; cases z
    | _ => simp only [RH] at q
  | .non, e, v, r, q => by simp only [RH] at r
  | .bl _, e, v, r, q => by simp only [RH] at r
  | .lst _, e, v, r, q => by simp only [RH] at r
  | .dT _ _, e, v, r, q => by simp only [RH] at r
  | .dK _ _, e, v, r, q => by simp only [RH] at r
  | .dD _ _, e, v, r, q => by simp only [RH] at r
  | .sp _ _, e, v, r, q => by simp only [RH] at r
theorem RHs.inj {h : Heap} : ∀ {ds es : List D} {vs : List Value}, RHs h ds vs → RHs h es vs → ds = es
  | [], es, vs, r, q => by
    simp only [RHs] at r; subst r
    cases es with
    | nil => rfl
    | cons e es => simp only [RHs] at q; obtain ⟨v, z, e, _⟩ := q; cases e
  | d :: ds, es, vs, r, q => by
    simp only [RHs] at r; obtain ⟨v, z, rfl, r1, r2⟩ := r
    cases es with
    | nil => simp only [RHs] at q; cases q
    | cons e es =>
      simp only [RHs] at q; obtain ⟨v', z', e', q1, q2⟩ := q
      cases e'
      rw [RH.inj r1 q1, RHs.inj r2 q2]
end
mutual
theorem RH.to {h h' : Heap} (k : ∀ a o, h.get? a = some o → o.cls = .type "tuple" → (∃ its n, o.data = .seq its n) → h'.get? a = some o) : ∀ {d : D} {v : Value}, RH h d v → RH h' d v
  | .int i, v, r => by simp only [RH] at r ⊢; exact r
  | .str i, v, r => by simp only [RH] at r ⊢; exact r
  | .tup ds, v, r => by
    simp only [RH] at r ⊢
    obtain ⟨a, its, e, ⟨o, g, hc, n, hd⟩, rs⟩ := r
    exact ⟨a, its, e, ⟨o, k a o g hc ⟨_, _, hd⟩, hc, n, hd⟩, RHs.to k rs⟩
  | .non, v, r => by simp only [RH] at r
  | .bl _, v, r => by simp only [RH] at r
  | .lst _, v, r => by simp only [RH] at r
  | .dT _ _, v, r => by simp only [RH] at r
  | .dK _ _, v, r => by simp only [RH] at r
  | .dD _ _, v, r => by simp only [RH] at r
  | .sp _ _, v, r => by simp only [RH] at r
theorem RHs.to {h h' : Heap} (k : ∀ a o, h.get? a = some o → o.cls = .type "tuple" → (∃ its n, o.data = .seq its n) → h'.get? a = some o) : ∀ {ds : List D} {vs : List Value}, RHs h ds vs → RHs h' ds vs
  | [], vs, r => by simp only [RHs] at r ⊢; exact r
  | d :: ds, vs, r => by
    simp only [RHs] at r ⊢
    obtain ⟨v, z, e, r1, r2⟩ := r
    exact ⟨v, z, e, RH.to k r1, RHs.to k r2⟩
end
theorem hash_R {P : Program} {w : World} : ∀ (n : Nat) (d : D) (u : Value) (A : Around) (s : Shared) (Q : Int → Shared → Prop) (E : Value → Shared → Prop), hasH n d = true → A.units + 2 * n + 2 < cLine → RH s.heap d u →
    Q (hashD w d) { s with toks := s.toks + drawsD d } → wpAny (model P w) A (pyHash u) Q E s := by
  intro n
  induction n using Nat.strongRecOn with
  | ind n ih =>
  intro d u A s Q E hd hA rd hQ
  cases d with
  | int i =>
    simp only [RH] at rd; obtain ⟨t, rfl⟩ := rd
    simp only [hashD, drawsD] at hQ
    exact wpAny_pyHash_int hQ
  | str i =>
    simp only [RH] at rd; obtain ⟨t, rfl⟩ := rd
    simp only [hashD, drawsD] at hQ
    exact wpAny_pyHash_str hQ
  | tup ds =>
    simp only [RH] at rd; obtain ⟨a, its, rfl, ⟨o, ho, hc, m, hdat⟩, hr⟩ := rd
    obtain ⟨k, rfl, hd'⟩ := hasH_tup hd
    have hT : s.TypeIs (.ref a) "tuple" := ⟨o, ho, hc⟩
    unfold pyHash
    unfold pyHashByItsType
    refine wpAny_bind (wpAny_cRoomFor_or (.inr (by omega)) (wpAny_bind (wpAny_specialOf hT F.slot_tuple_hash.lookup ?_)))
    show wpAny _ _ (if (some (Value.builtin "tuple.__hash__") == some Value.none) = true then _ else _) Q E _
    rw [if_neg (by rw [beq_builtin_none]; exact Bool.false_ne_true)]
    refine wpAny_bind (wpAny_specialOf hT F.slot_tuple_hash.lookup ?_)
    show wpAny _ _ (callSpecialIfBoundUnlessNone? (.ref a) "__hash__" _ >>= _) Q E _
    refine wpAny_bind (wpAny_callSpecialIfBoundUnlessNone?_slot hT F.slot_tuple_hash (wpAny_call_entry F.slot_tuple_hash hT F.entry_tuple_hash ?_ (F.args_tuple_hash_1 _)))
    show wpAny _ _ (Builtin.Tuple.tupleItemsOf (.ref a) >>= _) _ _ _
    refine wpAny_bind (wpAny_tupleItemsOf ho hdat (wpAny_bind ?_))
    rw [← Array.forIn_toList]
    refine wpAny_forIn_list _
      (fun rest (b : Array Int) s' => ∃ done left, ds = done ++ left ∧ RHs s.heap left rest ∧ b.toList = done.map (hashD w) ∧ s' = { s with toks := s.toks + drawsDs done })
      _ ?_ ?_ _ _ ⟨[], ds, rfl, by simpa using hr, rfl, rfl⟩
    · rintro v rest b s' ⟨done, left, rfl, hl, hb, rfl⟩
      cases left with
      | nil => simp only [RHs] at hl; cases hl
      | cons d' left' =>
        simp only [RHs] at hl
        obtain ⟨v', r', e', r1, r2⟩ := hl
        cases e'
        have hd1 : hasH k d' = true := by
          rw [List.all_append, Bool.and_eq_true, List.all_cons, Bool.and_eq_true] at hd'; exact hd'.2.1
        refine wpAny_bind (ih k (by omega) d' v _ _ _ _ hd1 ?_ r1 ?_)
        · show A.units + 1 + 2 * k + 2 < cLine; omega
        · have et : ({ s with toks := s.toks + drawsDs done + drawsD d' } : Shared) = { s with toks := s.toks + drawsDs (done ++ [d']) } := by rw [drawsDs_app, Nat.add_assoc]
          first
            | exact wpAny_pure ⟨done ++ [d'], left', by simp, r2, by simp [hb], et⟩
            | exact wpAny_bind (wpAny_pure (wpAny_pure ⟨done ++ [d'], left', by simp, r2, by simp [hb], et⟩))
    · rintro b s' ⟨done, left, rfl, hl, hb, rfl⟩
      have hleft : left = [] := by
        have := hl.length
        cases left with
        | nil => rfl
        | cons _ _ => simp at this
      subst hleft
      rw [List.append_nil] at hQ
      simp only [hashD, hashDs_map, drawsD] at hQ
      show wpAny _ _ (retInt (Builtin.Tuple.tupleHashOf b.toList)) _ _ _
      rw [hb]
      refine wpAny_ret_mkInt ?_
      show wpAny _ _ (if (decide (-(2 : Int) ^ 63 ≤ Builtin.Tuple.tupleHashOf (done.map (hashD w))) && decide (Builtin.Tuple.tupleHashOf (done.map (hashD w)) < 2 ^ 63)) = true then _ else _) Q E _
      unfold reduceHash at hQ
      by_cases hr : (decide (-(2 : Int) ^ 63 ≤ Builtin.Tuple.tupleHashOf (done.map (hashD w))) && decide (Builtin.Tuple.tupleHashOf (done.map (hashD w)) < 2 ^ 63)) = true
      · rw [if_pos hr]
        rw [if_pos hr] at hQ
        exact wpAny_pure hQ
      · rw [if_neg hr]
        rw [if_neg hr] at hQ
        exact wpAny_bind (wpAny_rule (wpAny_pure hQ))
  | _ => simp [hasH] at hd
theorem quiet_R {P : Program} {w : World} : ∀ (n : Nat) (d : D) (u : Value) (A : Around) (s : Shared) (Q : Bool → Shared → Prop) (E : Value → Shared → Prop), hasH n d = true → RH s.heap d u → Q true s → wpAny (model P w) A (eqIsQuiet n u) Q E s := by
  intro n
  induction n using Nat.strongRecOn with
  | ind n ih =>
  intro d u A s Q E hd rd hQ
  cases d with
  | int i => simp only [RH] at rd; obtain ⟨t, rfl⟩ := rd; unfold eqIsQuiet; exact wpAny_pure hQ
  | str i => simp only [RH] at rd; obtain ⟨t, rfl⟩ := rd; unfold eqIsQuiet; exact wpAny_pure hQ
  | tup ds =>
    simp only [RH] at rd; obtain ⟨a, its, rfl, ⟨o, ho, hc, m, hdat⟩, hr⟩ := rd
    obtain ⟨k, rfl, hd'⟩ := hasH_tup hd
    have hT : s.TypeIs (.ref a) "tuple" := ⟨o, ho, hc⟩
    unfold eqIsQuiet
    refine wpAny_bind (wpAny_specialOf hT F.slot_tuple_eq.lookup ?_)
    dsimp only
    refine wpAny_bind (wpAny_isInstance hT isSubtype_tuple_tuple ?_)
    simp only [Bool.not_true, Bool.false_eq_true, if_false]
    refine wpAny_bind (wpAny_seqItems ho hdat (wpAny_bind ?_))
    simp only [Option.getD_some]
    rw [← Array.forIn_toList]
    refine wpAny_forIn_list _ (fun rest b s' => b.1 = none ∧ s' = s ∧ ∃ left, left.all (hasH k) = true ∧ RHs s.heap left rest) _ ?_ ?_ _ _ ⟨rfl, rfl, ds, hd', by simpa using hr⟩
    · rintro v rest b s' ⟨hb, rfl, left, hall, hl⟩
      cases left with
      | nil => simp only [RHs] at hl; cases hl
      | cons d' left' =>
        simp only [RHs] at hl
        obtain ⟨v', r', e', r1, r2⟩ := hl
        cases e'
        rw [List.all_cons, Bool.and_eq_true] at hall
        refine wpAny_bind (ih k (by omega) d' v _ _ _ _ hall.1 r1 ?_)
        simp only [Bool.not_true, Bool.false_eq_true, if_false]
        exact wpAny_pure ⟨rfl, rfl, left', hall.2, r2⟩
    · rintro ⟨b1, b2⟩ s' ⟨hb, rfl, _⟩
      simp only at hb; subst hb
      exact wpAny_pure hQ
  | _ => simp [hasH] at hd
theorem rng_eq : ∀ (ds es : List D), ds.length = es.length → ((List.range ds.length).all fun j => decide (ds[j]? = es[j]?)) = decide (ds = es) := by
  intro ds es hl
  rw [Bool.eq_iff_iff, List.all_eq_true, decide_eq_true_iff]
  constructor
  · intro h
    refine List.ext_getElem? fun j => ?_
    by_cases hj : j < ds.length
    · exact of_decide_eq_true (h j (List.mem_range.mpr hj))
    · rw [List.getElem?_eq_none (by omega), List.getElem?_eq_none (by omega)]
  · rintro rfl j _
    exact decide_eq_true rfl
theorem rng_tup (ds es : List D) : (((List.range (min ds.length es.length)).all fun j => decide (ds[j]? = es[j]?)) && ds.length == es.length) = decide (ds = es) := by
  by_cases hl : ds.length = es.length
  · rw [hl, Nat.min_self, beq_self_eq_true, Bool.and_true, ← hl, rng_eq ds es hl]
  · rw [show (ds.length == es.length) = false by simpa using hl, Bool.and_false, decide_eq_false fun z => hl (by rw [z])]
open SeqAt in
theorem eq_R {s : Shared} : ∀ (n : Nat) (d e : D) (u w : Value) (A : Around), hasH n d = true → hasH n e = true → A.units + n + 1 < cLine → RH s.heap d u → RH s.heap e w → EqAt A s u w (decide (d = e)) := by
  intro n
  induction n using Nat.strongRecOn with
  | ind n ih =>
  intro d e u w A hd he hA rd re
  have hu : A.units < cLine := by omega
  cases d with
  | int i =>
    simp only [RH] at rd; obtain ⟨t', rfl⟩ := rd
    cases e with
    | int j =>
      simp only [RH] at re; obtain ⟨t, rfl⟩ := re
      rw [show decide (D.int i = D.int j) = (i == j) by rw [Bool.eq_iff_iff, decide_eq_true_iff, beq_iff_eq, D.int.injEq]]
      exact EqAt.int_int i t' j t
    | str j => simp only [RH] at re; obtain ⟨t, rfl⟩ := re; rw [decide_eq_false (by intro z; cases z)]; exact EqAt.int_str i t' j t
    | tup es => simp only [RH] at re; obtain ⟨b, its, rfl, ht, _⟩ := re; rw [decide_eq_false (by intro z; cases z)]; exact EqAt.int_tuple i t' ht hu
    | _ => simp [hasH] at he
  | str i =>
    simp only [RH] at rd; obtain ⟨t', rfl⟩ := rd
    cases e with
    | int j => simp only [RH] at re; obtain ⟨t, rfl⟩ := re; rw [decide_eq_false (by intro z; cases z)]; exact EqAt.str_int i t' j t
    | str j =>
      simp only [RH] at re; obtain ⟨t, rfl⟩ := re
      rw [show decide (D.str i = D.str j) = (i == j) by rw [Bool.eq_iff_iff, decide_eq_true_iff, beq_iff_eq, D.str.injEq]]
      exact EqAt.str_str i t' j t
    | tup es => simp only [RH] at re; obtain ⟨b, its, rfl, ht, _⟩ := re; rw [decide_eq_false (by intro z; cases z)]; exact EqAt.str_tuple i t' ht hu
    | _ => simp [hasH] at he
  | tup ds =>
    have rd0 := rd
    simp only [RH] at rd; obtain ⟨a, its, rfl, hta, hr⟩ := rd
    obtain ⟨k, rfl, hd'⟩ := hasH_tup hd
    cases e with
    | int j => simp only [RH] at re; obtain ⟨t, rfl⟩ := re; rw [decide_eq_false (by intro z; cases z)]; exact EqAt.tuple_int j t hta hu
    | str j => simp only [RH] at re; obtain ⟨t, rfl⟩ := re; rw [decide_eq_false (by intro z; cases z)]; exact EqAt.tuple_str j t hta hu
    | tup es =>
      have re0 := re
      simp only [RH] at re; obtain ⟨b, its2, rfl, htb, hr2⟩ := re
      obtain ⟨k', e', he'⟩ := hasH_tup he
      cases e'
      have l1 := hr.length
      have l2 := hr2.length
      by_cases hab : a = b
      · subst hab
        rw [decide_eq_true (RH.inj rd0 re0)]
        exact EqAt.same _
      · have el : ∀ j (h1 : j < its.toArray.size) (h2 : j < its2.toArray.size), EqAt A.in1 s its.toArray[j] its2.toArray[j] (decide (ds[j]? = es[j]?)) := fun j h1 h2 => by
          simp only [List.size_toArray] at h1 h2
          obtain ⟨d', hd1⟩ : ∃ d', ds[j]? = some d' := ⟨ds[j]'(by omega), by simp⟩
          obtain ⟨e', he1⟩ : ∃ e', es[j]? = some e' := ⟨es[j]'(by omega), by simp⟩
          obtain ⟨u', hu1, ru'⟩ := hr.get hd1
          obtain ⟨w', hw1, rw'⟩ := hr2.get he1
          have q := ih k (Nat.lt_succ_self k) d' e' u' w' A.in1 ((List.all_eq_true.mp hd') d' (List.mem_of_getElem? hd1)) ((List.all_eq_true.mp he') e' (List.mem_of_getElem? he1)) (by show A.units + 1 + k + 1 < cLine; omega) ru' rw'
          have g1 : its.toArray[j] = u' := by simpa using (List.getElem?_eq_some_iff.mp hu1).2
          have g2 : its2.toArray[j] = w' := by simpa using (List.getElem?_eq_some_iff.mp hw1).2
          rw [g1, g2, hd1, he1, show decide (some d' = some e') = decide (d' = e') by simp]
          exact q
        have key : ((List.range (min its.toArray.size its2.toArray.size)).all (fun j => decide (ds[j]? = es[j]?)) && its.toArray.size == its2.toArray.size) = decide (D.tup ds = D.tup es) := by
          rw [List.size_toArray, List.size_toArray, ← l1, ← l2, rng_tup]
          simp only [D.tup.injEq]
        have rc := RcAt.tuples hta htb hu el
        rw [key] at rc
        exact EqAt.of_refs hab rc
    | _ => simp [hasH] at he
  | _ => simp [hasH] at hd
def deepKind (P : Program) (w : World) : HeapKind P w D where
  is h d a := hasH 8 d = true ∧ RH h d (.ref a)
  hash := hashD w
  draws := drawsD
  room A := A.units + 30 < cLine
  inj hx hy := RH.inj hx.2 hy.2
  keeps := fun {h h' k a d o es ep} hk ho hd hs => ⟨hk.1, hk.2.to fun b u g _ ⟨its, n, q⟩ => ((hs.2 b (fun e => by subst e; rw [ho] at g; cases g; rw [hd] at q; cases q)).trans g)⟩
  pyHash := fun {A E s k a Q} hr hk h => hash_R 8 k _ A s Q E hk.1 (by omega) hk.2 h
  eqBool := fun {A E s x y a b Q} hr hx hy h => eq_R 8 x y _ _ A hx.1 hy.1 (by omega) hx.2 hy.2 P w E Q h
  quiet := fun {A E s k a Q} hk h => quiet_R 8 k _ A s Q E hk.1 hk.2 h

def keyIs : Key → Value → Bool
  | .inl k, v => Value.isInt k v
  | .inr x, v => Value.isStrOf x v
def keyH (w : World) : Key → Int
  | .inl k => hashInt k
  | .inr x => hashStr w x
theorem keyIs_shape : ∀ {k : Key} {v : Value}, keyIs k v = true → (∃ i t, k = Sum.inl i ∧ v = Value.int i t) ∨ (∃ x t, k = Sum.inr x ∧ v = Value.str x t)
  | .inl i, v, h => by
    obtain ⟨t, e⟩ := Value.isInt_shape (k := i) (v := v) h
    exact .inl ⟨i, t, rfl, e⟩
  | .inr x, v, h => by
    obtain ⟨t, e⟩ := Value.isStrOf_shape (x := x) (v := v) h
    exact .inr ⟨x, t, rfl, e⟩
theorem key_ll (a b : Int) : decide ((Sum.inl a : Key) = Sum.inl b) = (a == b) := by
  by_cases e : a = b
  · subst e; simp
  · have h : ¬ (Sum.inl a : Key) = Sum.inl b := fun q => e (Sum.inl.inj q)
    rw [decide_eq_false h]
    exact (beq_eq_false_iff_ne.mpr e).symm
theorem key_rr (a b : Str) : decide ((Sum.inr a : Key) = Sum.inr b) = decide (a = b) := by
  by_cases e : a = b
  · subst e; simp
  · have h : ¬ (Sum.inr a : Key) = Sum.inr b := fun q => e (Sum.inr.inj q)
    rw [decide_eq_false h, decide_eq_false e]
theorem key_lr (a : Int) (b : Str) : decide ((Sum.inl a : Key) = Sum.inr b) = false := decide_eq_false (fun q => nomatch q)
theorem key_rl (a : Str) (b : Int) : decide ((Sum.inr a : Key) = Sum.inl b) = false := decide_eq_false (fun q => nomatch q)

def mixKind (prog : Program) (w : World) : PySem.KeyKind prog w Key where
  is := keyIs
  hash := keyH w
  inj := fun v a b ha hb => by
    rcases keyIs_shape ha with ⟨i, t, rfl, rfl⟩ | ⟨x, t, rfl, rfl⟩
    · rcases keyIs_shape hb with ⟨j, u, rfl, e⟩ | ⟨y, u, rfl, e⟩
      · injection e with e1 _; rw [e1]
      · exact nomatch e
    · rcases keyIs_shape hb with ⟨j, u, rfl, e⟩ | ⟨y, u, rfl, e⟩
      · exact nomatch e
      · injection e with e1 _; rw [e1]
  byValue := fun k v h => by
    rcases keyIs_shape h with ⟨i, t, rfl, rfl⟩ | ⟨x, t, rfl, rfl⟩ <;> rfl
  pyHash := fun hv h => by
    rcases keyIs_shape hv with ⟨i, t, rfl, rfl⟩ | ⟨x, t, rfl, rfl⟩
    · exact wpAny_pyHash_int h
    · exact wpAny_pyHash_str h
  eqBool := fun hu hv h => by
    rcases keyIs_shape hu with ⟨i, t, rfl, rfl⟩ | ⟨x, t, rfl, rfl⟩
    · rcases keyIs_shape hv with ⟨j, u, rfl, rfl⟩ | ⟨y, u, rfl, rfl⟩
      · rw [key_ll] at h; exact wpAny_eqBool_int h
      · rw [key_lr] at h; exact SeqAt.EqAt.int_str i t y u _ _ _ _ h
    · rcases keyIs_shape hv with ⟨j, u, rfl, rfl⟩ | ⟨y, u, rfl, rfl⟩
      · rw [key_rl] at h; exact SeqAt.EqAt.str_int x t j u _ _ _ _ h
      · rw [key_rr] at h; exact wpAny_eqBool_str h
  «strs» := fun k x t v h => by
    rcases keyIs_shape h with ⟨i, u, rfl, e⟩ | ⟨y, u, rfl, e⟩
    · exact nomatch e
    · injection e with e1 _
      subst e1
      cases v <;> rfl

end L2

namespace L2
open PySem PySem.Spec PyProof.Rows

inductive V where
  | non | bl (b : Bool) | int (i : Int) | str (x : Str) | byt (b : Array UInt8) | flt (b : UInt64) | ref (a : Addr) | ty (n : String)
  deriving DecidableEq

def RelV : V → Value → Prop
  | .non, u => u = Value.none
  | .bl b, u => u = Value.bool b
  | .int i, u => ∃ t, u = Value.int i t
  | .str x, u => ∃ t, u = Value.str x t
  | .byt b, u => ∃ t, u = Value.bytes b t
  | .flt b, u => ∃ t, u = Value.float b t
  | .ref a, u => u = Value.ref a
  | .ty n, u => u = Value.type n

abbrev Vals : List V → List Value → Prop := Paired RelV
theorem Vals.length {xs : List V} {us : List Value} (r : Vals xs us) : xs.length = us.length := Paired.length r
theorem Vals.get : ∀ {xs : List V} {us : List Value} {i : Nat} {x : V}, Vals xs us → xs[i]? = some x → ∃ u, us[i]? = some u ∧ RelV x u
  | _, _, _, _, .nil, e => by simp at e
  | _, _, 0, _, .cons r _, e => by simp at e; subst e; exact ⟨_, rfl, r⟩
  | _, _, i + 1, x, .cons _ t, e => by
    obtain ⟨u, h1, h2⟩ := Vals.get (i := i) (x := x) t (by simpa using e)
    exact ⟨u, by simpa using h1, h2⟩
theorem Vals.append : ∀ {xs ys : List V} {us ws : List Value}, Vals xs us → Vals ys ws → Vals (xs ++ ys) (us ++ ws)
  | _, _, _, _, .nil, s => s
  | _, _, _, _, .cons r t, s => .cons r (Vals.append t s)
theorem Vals.take : ∀ {xs : List V} {us : List Value} (n : Nat), Vals xs us → Vals (xs.take n) (us.take n)
  | _, _, 0, _ => .nil
  | _, _, _ + 1, .nil => .nil
  | _, _, n + 1, .cons r t => .cons r (Vals.take n t)
theorem Vals.drop : ∀ {xs : List V} {us : List Value} (n : Nat), Vals xs us → Vals (xs.drop n) (us.drop n)
  | _, _, 0, r => r
  | _, _, _ + 1, .nil => .nil
  | _, _, n + 1, .cons _ t => Vals.drop n t
def RelO : Option V → Option Value → Prop
  | some v, some u => RelV v u
  | none, none => True
  | _, _ => False
def KV {κ : Type} : List (κ × V) → List (κ × Value) → Prop := Paired fun (p : κ × V) (q : κ × Value) => p.1 = q.1 ∧ RelV p.2 q.2

def kV : Key → V
  | .inl i => .int i
  | .inr x => .str x

inductive HO where
  
  | lst (xs : List V)
  
  | tup (xs : List V)
  
  | dK (kvs : List (Key × V)) | dT (kvs : List (List Key × V)) | dD (kvs : List (D × V)) (ep : Nat)
  
  | set (S : Int → Bool) (n : Nat)
  
  | ins (C dx : Addr) (fs : List (Str × V))
  
  | own (x : Addr)
  
  | xd (fs : List (Str × V))
  
  | met (f x : Addr)
  
  | rng (lo hi : Int)
  
  | frz (o : Obj) (u : HO)
  
  | tbl (ps : Array Value)
  
  | ext (φ : Heap → Prop)

abbrev Hp := Addr → Option HO
def upd (H : Hp) (a : Addr) (o : HO) : Hp := fun b => if b = a then some o else H b
theorem upd_same {H : Hp} {a : Addr} {o : HO} : upd H a o a = some o := by unfold upd; rw [if_pos rfl]
theorem upd_ne {H : Hp} {a b : Addr} {o : HO} (h : b ≠ a) : upd H a o b = H b := by unfold upd; rw [if_neg h]
theorem ne_of_none {H : Hp} {a b : Addr} {o : HO} (h : H a = some o) (h' : H b = none) : a ≠ b := by
  intro e; subst e; rw [h] at h'; cases h'

mutual

def KR (H : Hp) : D → V → Prop
  | .int i, v => v = .int i
  | .str x, v => v = .str x
  | .tup ds, v => ∃ a xs, v = .ref a ∧ H a = some (.tup xs) ∧ KRs H ds xs
  | _, _ => False
def KRs (H : Hp) : List D → List V → Prop
  | [], xs => xs = []
  | d :: ds, xs => ∃ x r, xs = x :: r ∧ KR H d x ∧ KRs H ds r
end
mutual
theorem KR.to {H H' : Hp} (t : ∀ a xs, H a = some (.tup xs) → H' a = some (.tup xs)) : ∀ {d : D} {v : V}, KR H d v → KR H' d v
  | .int i, v, r => by simp only [KR] at r ⊢; exact r
  | .str i, v, r => by simp only [KR] at r ⊢; exact r
  | .tup ds, v, r => by
    simp only [KR] at r ⊢
    obtain ⟨a, xs, e, g, rs⟩ := r
    exact ⟨a, xs, e, t a xs g, KRs.to t rs⟩
  | .non, v, r => by simp only [KR] at r
  | .bl _, v, r => by simp only [KR] at r
  | .lst _, v, r => by simp only [KR] at r
  | .dT _ _, v, r => by simp only [KR] at r
  | .dK _ _, v, r => by simp only [KR] at r
  | .dD _ _, v, r => by simp only [KR] at r
  | .sp _ _, v, r => by simp only [KR] at r
theorem KRs.to {H H' : Hp} (t : ∀ a xs, H a = some (.tup xs) → H' a = some (.tup xs)) : ∀ {ds : List D} {xs : List V}, KRs H ds xs → KRs H' ds xs
  | [], xs, r => by simp only [KRs] at r ⊢; exact r
  | d :: ds, xs, r => by
    simp only [KRs] at r ⊢
    obtain ⟨x, q, e, r1, r2⟩ := r
    exact ⟨x, q, e, KR.to t r1, KRs.to t r2⟩
end

def DPairs (H : Hp) : List (D × V) → List (D × Addr × Value) → Prop := Paired fun p q => p.1 = q.1 ∧ hasH 8 p.1 = true ∧ KR H p.1 (.ref q.2.1) ∧ RelV p.2 q.2.2

section
variable (P : Program) (w : World)
def ObjOk (H : Hp) (h : Heap) (a : Addr) : HO → Prop
  | .lst xs => xs.length ≤ sizeLine ∧ ∃ (its : List Value) (n : Nat), Vals xs its ∧ h.get? a = some { cls := .type "list", data := .seq its.toArray n }
  | .tup xs => xs.length ≤ sizeLine ∧ ∃ its : List Value, Vals xs its ∧ IsTup h a its.toArray
  | .dK kvs => kvs.length ≤ sizeLine ∧ (a == sysModules) = false ∧ ∃ vs, KV kvs vs ∧ h.DictOf (mixKind P w) a vs
  | .dT kvs => kvs.length ≤ sizeLine ∧ (a == sysModules) = false ∧ ∃ xs : List (List Key × Addr × Value),
      Paired (fun (p : List Key × V) (q : List Key × Addr × Value) => p.1 = q.1 ∧ H q.2.1 = some (.tup (p.1.map kV)) ∧ RelV p.2 q.2.2) kvs xs ∧
      ∃ o es ep, h.get? a = some o ∧ o.ExactDict ∧ o.data = .dict es ep ∧ es.toList = xs.map (entryOfKey (tupleKind (mixKind P w))) ∧ (xs.map (·.1)).Nodup
  | .dD kvs ep => kvs.length ≤ sizeLine ∧ (a == sysModules) = false ∧ ∃ xs, DPairs H kvs xs ∧
      ∃ o es, h.get? a = some o ∧ o.ExactDict ∧ o.data = .dict es ep ∧ es.toList = xs.map (entryOfKey (deepKind P w)) ∧ (xs.map (·.1)).Nodup
  | .set S n => h.SetOf (intKind P w) a S n
  | .ins C dx fs => H dx = some (.own a) ∧ fs.length ≤ 1000 ∧ dx ≠ a ∧ h.get? a = some (PySem.W.instObj C dx) ∧
      ∃ mA, h.Ns1 dx mA ∧ (∀ f, RelO (fs.lookup f) (mA f)) ∧ PySem.Within mA (fs.map (·.1))
  | .own _ => ∃ o, h.get? a = some o
  | .xd fs => ∃ mA, h.Ns1 a mA ∧ ∀ f, RelO (fs.lookup f) (mA f)
  | .rng lo hi => ∃ t u v, h.get? a = some { cls := .type "range", data := .fields #[.int lo t, .int hi u, .int 1 v] }
  | .frz o u => h.get? a = some o ∧ ObjOk H h a u
  | .tbl ps => h.get? a = some { cls := .none, data := .fields ps }
  | .met f x => h.get? a = some (PySem.W.methodObj (.ref f) (.ref x))
  | .ext φ => φ h ∧ (∃ o, h.get? a = some o) ∧ ∀ h1 h2 : Heap, φ h1 → (∀ o, h1.get? a = some o → h2.get? a = some o) → φ h2

def HOk (H : Hp) (h : Heap) : Prop := ∀ a o, H a = some o → ObjOk P w H h a o
end

section
variable {P : Program} {w : World} {H H' : Hp} {h h' : Heap} {a : Addr} {o : HO}
theorem ObjOk.lt (x : ObjOk P w H h a o) : a < h.objs.size := by
  cases o with
  | lst xs => obtain ⟨_, _, _, _, e⟩ := x; exact Heap.lt_size e
  | tup xs => obtain ⟨_, _, _, p⟩ := x; exact p.lt
  | dK kvs => obtain ⟨_, _, _, _, o, _, _, e, _⟩ := x; exact Heap.lt_size e
  | dT kvs => obtain ⟨_, _, _, _, o, _, _, e, _⟩ := x; exact Heap.lt_size e
  | dD kvs ep => obtain ⟨_, _, _, _, o, _, e, _⟩ := x; exact Heap.lt_size e
  | set S n => obtain ⟨o, _, _, _, e, _⟩ := x; exact Heap.lt_size e
  | ins C dx fs => obtain ⟨_, _, _, e, _⟩ := x; exact Heap.lt_size e
  | own y => obtain ⟨_, e⟩ := x; exact Heap.lt_size e
  | xd fs => obtain ⟨_, ⟨_, _, _, e, _⟩, _⟩ := x; exact Heap.lt_size e
  | rng lo hi => obtain ⟨_, _, _, e⟩ := x; exact Heap.lt_size e
  | frz ob u => obtain ⟨e, _⟩ := x; exact Heap.lt_size e
  | tbl ps => exact Heap.lt_size (show h.get? a = some _ from x)
  | met f y => exact Heap.lt_size (show h.get? a = some _ from x)
  | ext φ => obtain ⟨_, ⟨_, e⟩, _⟩ := x; exact Heap.lt_size e
theorem Paired.mapP {α β : Type} {F G : α → β → Prop} : ∀ {l₁ : List α} {l₂ : List β}, Paired F l₁ l₂ → (∀ a b, F a b → G a b) → Paired G l₁ l₂
  | _, _, .nil, _ => .nil
  | _, _, .cons r t, f => .cons (f _ _ r) (Paired.mapP t f)
theorem ObjOk.stay (x : ObjOk P w H h a o) (k : ∀ b u, (b = a ∨ H b = some (.own a)) → h.get? b = some u → h'.get? b = some u)
    (ho : ∀ b, H b = some (.own a) → H' b = some (.own a)) (ht : ∀ b xs, H b = some (.tup xs) → H' b = some (.tup xs)) : ObjOk P w H' h' a o := by
  induction o with
  | lst xs => obtain ⟨z, its, n, r, e⟩ := x; exact ⟨z, its, n, r, k _ _ (.inl rfl) e⟩
  | tup xs => obtain ⟨z, its, r, ob, e, c⟩ := x; exact ⟨z, its, r, ob, k _ _ (.inl rfl) e, c⟩
  | dK kvs => obtain ⟨z, y, vs, r, ob, es, ep, e, c⟩ := x; exact ⟨z, y, vs, r, ob, es, ep, k _ _ (.inl rfl) e, c⟩
  | dT kvs =>
    obtain ⟨z, y, xs, r, ob, es, ep, e, c⟩ := x
    exact ⟨z, y, xs, Paired.mapP r fun p q z => ⟨z.1, ht _ _ z.2.1, z.2.2⟩, ob, es, ep, k _ _ (.inl rfl) e, c⟩
  | dD kvs ep =>
    obtain ⟨z, y, xs, r, ob, es, e, c⟩ := x
    exact ⟨z, y, xs, Paired.mapP r fun p q z => ⟨z.1, z.2.1, KR.to ht z.2.2.1, z.2.2.2⟩, ob, es, k _ _ (.inl rfl) e, c⟩
  | set S n => obtain ⟨ob, es, ep, t, e, c⟩ := x; exact ⟨ob, es, ep, t, k _ _ (.inl rfl) e, c⟩
  | ins C dx fs =>
    obtain ⟨d, z, ne, e, mA, ⟨od, es, ep, e2, c⟩, r⟩ := x
    exact ⟨ho _ d, z, ne, k _ _ (.inl rfl) e, mA, ⟨od, es, ep, k _ _ (.inr d) e2, c⟩, r⟩
  | own y => obtain ⟨ob, e⟩ := x; exact ⟨ob, k _ _ (.inl rfl) e⟩
  | xd fs => obtain ⟨mA, ⟨od, es, ep, e, c⟩, r⟩ := x; exact ⟨mA, ⟨od, es, ep, k _ _ (.inl rfl) e, c⟩, r⟩
  | rng lo hi => obtain ⟨t, u, v, e⟩ := x; exact ⟨t, u, v, k _ _ (.inl rfl) e⟩
  | frz ob u ih => obtain ⟨e, q⟩ := x; exact ⟨k _ _ (.inl rfl) e, ih q⟩
  | tbl ps =>
    have e : h.get? a = some { cls := .none, data := .fields ps } := x
    show h'.get? a = some { cls := .none, data := .fields ps }
    exact k a _ (.inl rfl) e
  | met f y =>
    have e : h.get? a = some (PySem.W.methodObj (.ref f) (.ref y)) := x
    show h'.get? a = some (PySem.W.methodObj (.ref f) (.ref y))
    exact k a _ (.inl rfl) e
  | ext φ => obtain ⟨p, ⟨o, e⟩, st⟩ := x; exact ⟨st _ _ p fun o q => k _ _ (.inl rfl) q, ⟨o, k _ _ (.inl rfl) e⟩, st⟩
theorem HOk.lt (x : HOk P w H h) (e : H a = some o) : a < h.objs.size := (x a o e).lt
theorem HOk.fresh (x : HOk P w H h) (e : h.objs.size ≤ a) : H a = none := by
  cases q : H a with
  | none => rfl
  | some u => exact absurd (Nat.lt_of_lt_of_le (x.lt q) e) (Nat.lt_irrefl _)

theorem HOk.kept (x : HOk P w H h) (k : ∀ b u, h.get? b = some u → h'.get? b = some u) : HOk P w H h' := fun a o e =>
  (x a o e).stay (fun b u _ q => k b u q) (fun _ q => q) fun _ _ q => q

theorem HOk.laid (x : HOk P w H h) (k : ∀ b u, h.get? b = some u → h'.get? b = some u) (hp : h.objs.size ≤ a) (new : ObjOk P w (upd H a o) h' a o) : HOk P w (upd H a o) h' := fun b u e => by
  have hn := x.fresh hp
  by_cases hb : b = a
  · subst hb; rw [upd_same] at e; cases e; exact new
  · rw [upd_ne hb] at e
    exact (x b u e).stay (fun c v _ q => k c v q) (fun c q => by rw [upd_ne (ne_of_none q hn)]; exact q) fun c xs q => by rw [upd_ne (ne_of_none q hn)]; exact q
end

def Rd (H : Hp) (a : Addr) (u : HO) : Prop := H a = some u ∨ ∃ o, H a = some (.frz o u)
theorem Rd.ok {P : Program} {w : World} {H : Hp} {h : Heap} {a : Addr} {u : HO} (r : Rd H a u) (x : HOk P w H h) : ObjOk P w H h a u := by
  rcases r with r | ⟨o, r⟩
  · exact x a u r
  · obtain ⟨_, q⟩ := x a _ r
    exact q

def Mut : Option HO → Prop
  | some (.lst _) => True
  | some (.dK _) => True
  | some (.dT _) => True
  | some (.dD _ _) => True
  | some (.set _ _) => True
  | some (.ins _ _ _) => True
  | some (.ext _) => True
  | _ => False
section
variable {P : Program} {w : World} {H : Hp} {h h' : Heap} {x e : Addr} {o' : HO}

theorem HOk.write (ok : HOk P w H h) (mu : Mut (H x)) (he : e = x ∨ H e = some (.own x)) (k : ∀ b u, b ≠ e → h.get? b = some u → h'.get? b = some u) (heo : ∃ u, h'.get? e = some u)
    (new : ObjOk P w (upd H x o') h' x o') : HOk P w (upd H x o') h' := fun b u q => by
  have nown : ∀ c y, H c = some (.own y) → c ≠ x := fun c y r z => by subst z; rw [r] at mu; exact mu
  have ntup : ∀ c xs, H c = some (.tup xs) → c ≠ x := fun c xs r z => by subst z; rw [r] at mu; exact mu
  by_cases hb : b = x
  · subst hb; rw [upd_same] at q; cases q; exact new
  · rw [upd_ne hb] at q
    by_cases hbe : b = e
    · have q' : H b = some (.own x) := by
        rcases he with z | z
        · exact absurd (hbe.trans z) hb
        · rw [hbe]; exact z
      rw [q] at q'; cases q'
      obtain ⟨v, hv⟩ := heo
      exact ⟨v, by rw [hbe]; exact hv⟩
    · refine (ok b u q).stay (fun c v hc r => k c v ?_ r) (fun c r => by rw [upd_ne (nown c b r)]; exact r) fun c xs r => by rw [upd_ne (ntup c xs r)]; exact r
      rcases hc with rfl | hc
      · exact hbe
      · rintro rfl
        rcases he with z | z
        · exact nown c b hc z
        · rw [hc] at z; cases z; exact hb rfl
end

structure Un (fs ex : List Addr) (H H' : Hp) (h h' : Heap) : Prop where
  keep : ∀ b o, h.get? b = some o → H b = none → b ∉ fs → b ∉ ex → h'.get? b = some o
  slot : ∀ b o, h.get? b = some o → H b = none → b ∈ fs → b ∉ ex → ∃ sl, h'.get? b = some { o with slots := sl }
  free : ∀ b o, h.get? b = some o → H b = none → b ∉ ex → H' b = none
  there : ∀ b o, h.get? b = some o → b ∉ ex → ∃ o', h'.get? b = some o'
  tups : ∀ b xs, H b = some (.tup xs) → H' b = some (.tup xs)
  frzs : ∀ b o u, H b = some (.frz o u) → H' b = some (.frz o u)
  tbls : ∀ b ps, H b = some (.tbl ps) → ∃ more, H' b = some (.tbl (ps ++ more))
section
variable {fs fs' ex ex' : List Addr} {H H1 H2 : Hp} {h h1 h2 h' : Heap} {a x e : Addr} {o : HO}
theorem Un.any (u : Un fs ex H H1 h h1) {b : Addr} {ob : Obj} (q : h.get? b = some ob) (n : H b = none) (hx : b ∉ ex) : ∃ sl, h1.get? b = some { ob with slots := sl } := by
  by_cases hb : b ∈ fs
  · exact u.slot b ob q n hb hx
  · exact ⟨ob.slots, u.keep b ob q n hb hx⟩
theorem Un.kept (k : ∀ b u, h.get? b = some u → h'.get? b = some u) : Un fs ex H H h h' :=
  ⟨fun b ob q _ _ _ => k b ob q, fun b ob q _ _ _ => ⟨ob.slots, k b ob q⟩, fun _ _ _ n _ => n, fun b ob q _ => ⟨ob, k b ob q⟩, fun _ _ q => q, fun _ _ _ q => q, fun _ ps q => ⟨#[], by rw [q]; simp⟩⟩
theorem Un.refl : Un fs ex H H h h := Un.kept fun _ _ q => q
theorem Un.laid (k : ∀ b u, h.get? b = some u → h'.get? b = some u) (hp : h.objs.size ≤ a) (hn : H a = none) : Un fs ex H (upd H a o) h h' where
  keep := fun b u q _ _ _ => k b u q
  slot := fun b u q _ _ _ => ⟨u.slots, k b u q⟩
  free := fun b u q n _ => by rw [upd_ne (Nat.ne_of_lt (Nat.lt_of_lt_of_le (Heap.lt_size q) hp))]; exact n
  there := fun b u q _ => ⟨u, k b u q⟩
  tups := fun b xs q => by rw [upd_ne (ne_of_none q hn)]; exact q
  frzs := fun b u xs q => by rw [upd_ne (ne_of_none q hn)]; exact q
  tbls := fun b ps q => ⟨#[], by rw [upd_ne (ne_of_none q hn), q]; simp⟩
theorem Un.write (mu : Mut (H x)) (he : e = x ∨ H e = some (.own x)) (k : ∀ b u, b ≠ e → h.get? b = some u → h'.get? b = some u) (heo : ∃ u, h'.get? e = some u) : Un fs ex H (upd H x o) h h' := by
  have hx : ∀ b, H b = none → b ≠ x := fun b n z => by subst z; rw [n] at mu; exact mu
  have hb : ∀ b, H b = none → b ≠ e := fun b n z => by
    subst z
    rcases he with r | r
    · exact hx b n r
    · rw [n] at r; cases r
  have hm : ∀ b u, H b = some u → ¬ Mut (some u) → b ≠ x := fun b u q nm z => by subst z; rw [q] at mu; exact nm mu
  refine ⟨fun b u q n _ _ => k b u (hb b n) q, fun b u q n _ _ => ⟨u.slots, k b u (hb b n) q⟩, fun b u q n _ => by rw [upd_ne (hx b n)]; exact n, fun b u q _ => ?_,
    fun b xs q => by rw [upd_ne (hm b _ q fun z => z)]; exact q, fun b u xs q => by rw [upd_ne (hm b _ q fun z => z)]; exact q, fun b ps q => ⟨#[], by rw [upd_ne (hm b _ q fun z => z), q]; simp⟩⟩
  by_cases hbe : b = e
  · subst hbe; exact heo
  · exact ⟨u, k b u hbe q⟩
end

def trk (h : Heap) (H : Hp) : List Addr := (List.range h.objs.size).filter fun a => (H a).isSome
def hidT (h : Heap) (H : Hp) : Heap := PySem.W.hideAll h (trk h H)
theorem hidT_size (h : Heap) (H : Hp) : (hidT h H).objs.size = h.objs.size := PySem.W.hideAll_size _ _
theorem hidT_get {h : Heap} {H : Hp} {b : Addr} {o : Obj} (e : h.get? b = some o) (n : H b = none) : (hidT h H).get? b = some o :=
  PySem.W.hideAll_get _ e fun hm => by
    have q : (H b).isSome = true := (List.mem_filter.mp hm).2
    rw [n] at q; simp at q
theorem of_hidT {h : Heap} {H : Hp} {b : Addr} {o : Obj} (e : (hidT h H).get? b = some o) : h.get? b = some o ∧ H b = none := by
  have e' : h.get? b = some o := PySem.W.of_hideAll (trk h H) e
  refine ⟨e', ?_⟩
  cases q : H b with
  | none => rfl
  | some x =>
    have hm : b ∈ trk h H := List.mem_filter.mpr ⟨List.mem_range.mpr (Heap.lt_size e'), by simp [q]⟩
    have z : (hidT h H).get? b = none := PySem.W.hideAll_none (trk h H) hm
    rw [z] at e; cases e

def allNews (g h : Heap) (L : Addr) : List (Addr × Obj) := (List.range h.objs.size).filterMap fun a => if a = L ∨ (g.get? a).isSome = true then none else (h.get? a).map fun o => (a, o)
def rest (g h : Heap) (L d : Addr) : List (Addr × Obj) := (allNews g h L).filter fun p => decide (p.1 ≠ d)
end L2

namespace L2
open PySem PySem.Spec PyProof.Rows

structure Mod (K : PySem.W.Frag) (mg : Str → Option Value) (base : Heap) : Prop where
  kin : K.In base
  glob : base.Ns mainGlobals mg
  blt : ∃ mb, base.Ns builtinsNs mb ∧ ∀ x : Str, x ≠ "__name__" → mb x = bootBuiltins x
  nolimit : base.NoLimit

structure Cx where
  prog : Program
  w : World
  K : PySem.W.Frag
  mg : Str → Option Value
  base : Heap
  A : Around
  N : List Str
  s₀ : Shared
  H₀ : Hp
  env : Env
  outer : List Env
  stack : List Env
  ex : List Addr
  fn : Str → Bool
  calm : Bool
  pn : List (Addr × Obj)
  xe : Value → Shared → Prop

def frs (l : List Env) : List Addr := l.filterMap (·.frame)
abbrev Cx.fs (X : Cx) : List Addr := frs X.outer

def Vis (sc : Scope) (x : Str) : Prop := sc.names.lookup x = some .local ∨ sc.names.lookup x = some .cell ∨ sc.names.lookup x = some .free
def Loc (sc : Scope) (x : Str) : Prop := sc.names.lookup x = some .local ∨ sc.names.lookup x = some .cell
def Look (env : Env) (h : Heap) (m : Str → Option Value) (x : Str) (u : Value) : Prop :=
  (env.kindOf x = some .local ∧ m x = some u) ∨ ((env.kindOf x = some .cell ∨ env.kindOf x = some .free) ∧ ∃ c, env.cells.lookup x = some c ∧ h.IsCell c (some u))

structure Cx.Ok (X : Cx) : Prop where
  mod : Mod X.K X.mg X.base
  kind : X.env.scope.kind = .function
  glob : X.env.globals = mainGlobals
  blt : X.env.builtins = builtinsNs
  above : X.s₀.heap.objs.size ≤ X.env.locals
  inj : ∀ x y c, X.env.cells.lookup x = some c → X.env.cells.lookup y = some c → x = y
  has : ∀ x, (X.env.kindOf x = some .cell ∨ X.env.kindOf x = some .free) → ∃ c, X.env.cells.lookup x = some c
  cab : ∀ x c, X.fn x = true → X.env.cells.lookup x = some c → X.s₀.heap.objs.size ≤ c
  hd : X.calm = true → X.A.handled = none
  frames : X.A.frames = some X.stack
  stk : X.stack = X.outer ∨ (X.stack = X.env :: X.outer ∧ X.env.frame = some X.env.locals)
  exf : ∀ b ∈ X.ex, b ≠ X.env.locals ∧ ∀ x c, X.env.cells.lookup x = some c → c ≠ b
  bs : ∀ b o, X.base.get? b = some o → X.s₀.heap.get? b = some o ∧ X.H₀ b = none
  bsz : X.base.objs.size ≤ X.s₀.heap.objs.size
  noex : ∀ b o, X.base.get? b = some o → b ∉ X.ex
  exfs : ∀ b ∈ X.ex, b ∉ X.fs
  funs : X.s₀.heap.FunFrames X.base X.outer
  frf : ∀ b ∈ X.fs, X.H₀ b = none

structure Inv (X : Cx) (pins : List (Addr × Obj)) (σ : List (Option V)) (H : Hp) (s : Shared) : Prop where
  ok : X.Ok
  os : s.os = X.s₀.os
  bare : AllBare s.gens
  base : Un X.fs X.ex X.H₀ H X.s₀.heap s.heap
  loc : ∃ m, s.heap.Ns X.env.locals m ∧ ∀ (i : Nat) (x : Str) (v : V), X.N[i]? = some x → σ[i]? = some (some v) → Vis X.env.scope x → ∃ u, RelV v u ∧ Look X.env s.heap m x u
  cell : ∀ x c, X.env.cells.lookup x = some c → ∃ v, s.heap.IsCell c v
  free : H X.env.locals = none
  freeC : ∀ x c, X.env.cells.lookup x = some c → H c = none
  pin : ∀ p ∈ X.pn ++ pins, s.heap.get? p.1 = some p.2 ∧ H p.1 = none ∧ p.1 ≠ X.env.locals ∧ p.1 ∉ X.fs ∧ ∀ v, p.2.data ≠ .cell v
  hok : HOk X.prog X.w H s.heap
  len : σ.length = X.N.length

section
variable {X : Cx} {pins : List (Addr × Obj)} {σ : List (Option V)} {H H' : Hp} {s : Shared} {h' : Heap}

theorem Cx.Ok.nofr (ok : X.Ok) {b : Addr} {o : Obj} (e : X.base.get? b = some o) : b ∉ X.fs := fun hb => by
  have := (ok.funs.mem hb).1
  rw [e] at this; cases this
theorem Inv.bs (I : Inv X pins σ H s) : ∀ b o, X.base.get? b = some o → s.heap.get? b = some o ∧ H b = none := fun b o e =>
  ⟨I.base.keep b o (I.ok.bs b o e).1 (I.ok.bs b o e).2 (I.ok.nofr e) (I.ok.noex b o e), I.base.free b o (I.ok.bs b o e).1 (I.ok.bs b o e).2 (I.ok.noex b o e)⟩
theorem Inv.bk (I : Inv X pins σ H s) : ∀ b o, X.base.get? b = some o → s.heap.get? b = some o := fun b o e => (I.bs b o e).1
theorem Inv.mod (I : Inv X pins σ H s) : Mod X.K X.mg X.base := I.ok.mod
theorem Inv.kIn (I : Inv X pins σ H s) : X.K.In s.heap := I.ok.mod.kin.keeps I.bk
theorem Inv.lt (I : Inv X pins σ H s) : X.env.locals < s.heap.objs.size := let ⟨_, hn, _⟩ := I.loc; hn.lt
theorem Inv.sz (I : Inv X pins σ H s) : X.s₀.heap.objs.size ≤ s.heap.objs.size := Nat.le_trans I.ok.above (Nat.le_of_lt I.lt)
theorem Inv.nofs (I : Inv X pins σ H s) {a : Addr} (h : s.heap.objs.size ≤ a) : a ∉ X.fs := fun hb => by
  obtain ⟨_, o, ho, _⟩ := I.ok.funs.mem hb
  exact absurd (Nat.lt_of_lt_of_le (Heap.lt_size ho) (Nat.le_trans I.sz h)) (Nat.lt_irrefl _)
theorem Inv.cne (I : Inv X pins σ H s) : ∀ x c, X.env.cells.lookup x = some c → c ≠ X.env.locals := fun x c e z => by
  obtain ⟨v, o, ho, hd⟩ := I.cell x c e
  obtain ⟨m, ⟨o', es, ep, ho', hd', _⟩, _⟩ := I.loc
  rw [z, ho'] at ho; cases ho; rw [hd'] at hd; cases hd
theorem Inv.funs (I : Inv X pins σ H s) : s.heap.FunFrames X.base X.outer := by
  have all : ∀ (l : List Env), (∀ b ∈ frs l, b ∈ X.fs) → X.s₀.heap.FunFrames X.base l → s.heap.FunFrames X.base l := by
    intro l
    induction l with
    | nil => intro _ _; trivial
    | cons env r ih =>
      intro hs hl
      obtain ⟨hk, ⟨L, o, hf, hn, ho, hd⟩, hr⟩ := hl
      have hL : L ∈ X.fs := hs L (by unfold frs; rw [List.filterMap_cons, hf]; exact List.mem_cons_self)
      obtain ⟨sl, e⟩ := I.base.slot L o ho (I.ok.frf L hL) hL fun z => I.ok.exfs L z hL
      exact ⟨hk, ⟨L, _, hf, hn, e, hd⟩, ih (fun b hb => hs b (by unfold frs; rw [List.filterMap_cons, hf]; exact List.mem_cons_of_mem _ hb)) hr⟩
  exact all X.outer (fun _ hb => hb) I.ok.funs

theorem Inv.stack (I : Inv X pins σ H s) : s.heap.FunFrames X.base X.stack := by
  rcases I.ok.stk with e | ⟨e, hf⟩
  · rw [e]; exact I.funs
  · rw [e]
    obtain ⟨m, hn, _⟩ := I.loc
    refine .cons (by rw [I.ok.kind]; decide) hf hn ?_ I.funs
    exact Heap.get?_none_of_le (Nat.le_trans I.ok.bsz I.ok.above)
theorem Inv.stkSub (I : Inv X pins σ H s) : ∀ b ∈ frs X.stack, b ∈ X.env.locals :: X.fs := fun b hb => by
  rcases I.ok.stk with e | ⟨e, hf⟩
  · rw [e] at hb; exact List.mem_cons_of_mem _ hb
  · rw [e] at hb
    unfold frs at hb
    rw [List.filterMap_cons, hf] at hb
    exact hb
theorem Inv.stkFree (I : Inv X pins σ H s) : ∀ b ∈ frs X.stack, H b = none := fun b hb => by
  rcases List.mem_cons.mp (I.stkSub b hb) with e | hb
  · rw [e]; exact I.free
  · obtain ⟨_, o, ho, _⟩ := I.ok.funs.mem hb
    exact I.base.free b o ho (I.ok.frf b hb) fun z => I.ok.exfs b z hb

theorem Inv.step {g' : Array GenState} {t' : Nat} {d' : Drawn} {ch : List Addr} (I : Inv X pins σ H s)
    (hch : ∀ b ∈ ch, (b ∈ X.ex ∨ X.s₀.heap.objs.size ≤ b) ∧ b ≠ X.env.locals ∧ (∀ x c, X.env.cells.lookup x = some c → c ≠ b) ∧ ∀ p ∈ X.pn ++ pins, p.1 ≠ b)
    (keep : ∀ b o, b ≠ X.env.locals → b ∉ X.fs → b ∉ ch → s.heap.get? b = some o → H b = none → h'.get? b = some o)
    (slot : ∀ b o, b ≠ X.env.locals → b ∈ X.fs → b ∉ ch → s.heap.get? b = some o → H b = none → ∃ sl, h'.get? b = some { o with slots := sl }) (free : ∀ b o, b ∉ ch → s.heap.get? b = some o → H b = none → H' b = none)
    (there : ∀ b o, b ∉ ch → s.heap.get? b = some o → ∃ o', h'.get? b = some o')
    (tups : ∀ b xs, H b = some (.tup xs) → H' b = some (.tup xs)) (frzs : ∀ b o u, H b = some (.frz o u) → H' b = some (.frz o u)) (tbls : ∀ b ps, H b = some (.tbl ps) → ∃ more, H' b = some (.tbl (ps ++ more)))
    (ns : ∀ m, s.heap.Ns X.env.locals m → h'.Ns X.env.locals m) (hok : HOk X.prog X.w H' h') (hg : AllBare g') :
    Inv X pins σ H' { s with heap := h', gens := g', drawn := d', toks := t' } := by
  have neL : ∀ b o, X.s₀.heap.get? b = some o → b ≠ X.env.locals := fun b o e => Nat.ne_of_lt (Nat.lt_of_lt_of_le (Heap.lt_size e) I.ok.above)
  have neC : ∀ b o, X.s₀.heap.get? b = some o → b ∉ X.ex → b ∉ ch := fun b o e hx hb => by
    rcases (hch b hb).1 with z | z
    · exact hx z
    · exact absurd (Nat.lt_of_lt_of_le (Heap.lt_size e) z) (Nat.lt_irrefl _)
  have cellK : ∀ x c, X.env.cells.lookup x = some c → ∀ v, s.heap.IsCell c v → h'.IsCell c v := fun x c e v ⟨o, ho, hd⟩ => by
    have nch : c ∉ ch := fun z => (hch c z).2.2.1 x c e rfl
    by_cases hc : c ∈ X.fs
    · obtain ⟨sl, q⟩ := slot c o (I.cne x c e) hc nch ho (I.freeC x c e)
      exact ⟨_, q, hd⟩
    · exact ⟨o, keep c o (I.cne x c e) hc nch ho (I.freeC x c e), hd⟩
  refine ⟨I.ok, I.os, hg, ⟨fun b o e n hb hx => ?_, fun b o e n hb hx => ?_, fun b o e n hx => ?_, fun b o e hx => ?_, fun b xs e => tups b xs (I.base.tups b xs e), fun b o xs e => frzs b o xs (I.base.frzs b o xs e), fun b ps e => ?_⟩, ?_, fun x c e => ?_, ?_, fun x c e => ?_, fun p hp => ?_, hok, I.len⟩
  · exact keep b o (neL b o e) hb (neC b o e hx) (I.base.keep b o e n hb hx) (I.base.free b o e n hx)
  · obtain ⟨sl, e1⟩ := I.base.slot b o e n hb hx
    obtain ⟨sl', e2⟩ := slot b _ (neL b o e) hb (neC b o e hx) e1 (I.base.free b o e n hx)
    exact ⟨sl', e2⟩
  · obtain ⟨o', e1⟩ := I.base.there b o e hx
    exact free b o' (neC b o e hx) e1 (I.base.free b o e n hx)
  · obtain ⟨o', e1⟩ := I.base.there b o e hx
    exact there b o' (neC b o e hx) e1
  · obtain ⟨m1, e1⟩ := I.base.tbls b ps e
    obtain ⟨m2, e2⟩ := tbls b _ e1
    exact ⟨m1 ++ m2, by rw [e2, Array.append_assoc]⟩
  · obtain ⟨m, hn, hl⟩ := I.loc
    refine ⟨m, ns m hn, fun i x v e1 e2 e3 => ?_⟩
    obtain ⟨u, r, l⟩ := hl i x v e1 e2 e3
    refine ⟨u, r, ?_⟩
    rcases l with l | ⟨k, c, e, z⟩
    · exact .inl l
    · exact .inr ⟨k, c, e, cellK x c e _ z⟩
  · obtain ⟨v, z⟩ := I.cell x c e
    exact ⟨v, cellK x c e v z⟩
  · obtain ⟨m, ⟨o, _, _, ho, _⟩, _⟩ := I.loc
    exact free _ o (fun z => (hch _ z).2.1 rfl) ho I.free
  · obtain ⟨v, o, ho, hd⟩ := I.cell x c e
    exact free c o (fun z => (hch c z).2.2.1 x c e rfl) ho (I.freeC x c e)
  · obtain ⟨e, n, ne, nf, d⟩ := I.pin p hp
    have nch : p.1 ∉ ch := fun z => (hch p.1 z).2.2.2 p hp rfl
    exact ⟨keep p.1 p.2 ne nf nch e n, free p.1 p.2 nch e n, ne, nf, d⟩

theorem Inv.un {t' : Nat} (I : Inv X pins σ H s) (u : Un X.fs [] H H' s.heap h') (hok : HOk X.prog X.w H' h') : Inv X pins σ H' { s with heap := h', toks := t' } := by
  obtain ⟨m, ⟨o, es, ep, ho, r⟩, _⟩ := id I.loc
  obtain ⟨sl, hL⟩ := u.any ho I.free (by simp)
  exact I.step (g' := s.gens) (d' := s.drawn) (ch := []) (fun _ z => nomatch z) (fun b o _ hb _ e n => u.keep b o e n hb (by simp)) (fun b o _ hb _ e n => u.slot b o e n hb (by simp)) (fun b o _ e n => u.free b o e n (by simp)) (fun b o _ e => u.there b o e (by simp)) u.tups u.frzs u.tbls (fun m' hm => by
    obtain ⟨o', es', ep', ho', r'⟩ := hm
    rw [ho] at ho'; cases ho'
    exact ⟨_, es', ep', hL, r'⟩) hok I.bare

theorem Inv.call {g' : Array GenState} {t' : Nat} {d' : Drawn} {ch : List Addr} (I : Inv X pins σ H s) (u : Un (frs X.stack) ch H H' s.heap h') (hok : HOk X.prog X.w H' h') (hg : AllBare g')
    (hch : ∀ b ∈ ch, (b ∈ X.ex ∨ X.s₀.heap.objs.size ≤ b) ∧ b ≠ X.env.locals ∧ (∀ x c, X.env.cells.lookup x = some c → c ≠ b) ∧ ∀ p ∈ X.pn ++ pins, p.1 ≠ b) :
    Inv X pins σ H' { s with heap := h', gens := g', drawn := d', toks := t' } := by
  obtain ⟨m, ⟨o, es, ep, ho, r⟩, _⟩ := id I.loc
  obtain ⟨sl, hL⟩ := u.any ho I.free fun z => (hch _ z).2.1 rfl
  exact I.step (ch := ch) hch (fun b o hL hb hc e n => u.keep b o e n (fun z => (List.mem_cons.mp (I.stkSub b z)).elim hL hb) hc) (fun b o _ _ hc e n => u.any e n hc) (fun b o hc e n => u.free b o e n hc) (fun b o hc e => u.there b o e hc) u.tups u.frzs u.tbls (fun m' hm => by
    obtain ⟨o', es', ep', ho', r'⟩ := hm
    rw [ho] at ho'; cases ho'
    exact ⟨_, es', ep', hL, r'⟩) hok hg

theorem Inv.turned {t' : Nat} {it : Addr} (I : Inv X pins σ H s) (k : ∀ b o, b ≠ it → s.heap.get? b = some o → h'.get? b = some o) (hn : H it = none) (hL : it ≠ X.env.locals)
    (h1 : it ∈ X.ex ∨ X.s₀.heap.objs.size ≤ it) (h2 : ∀ x c, X.env.cells.lookup x = some c → c ≠ it) (h3 : ∀ p ∈ X.pn ++ pins, p.1 ≠ it) : Inv X pins σ H { s with heap := h', toks := t' } := by
  have nit : ∀ b u, H b = some u → b ≠ it := fun b u e z => by rw [z, hn] at e; cases e
  refine I.step (g' := s.gens) (d' := s.drawn) (ch := [it]) (fun b hb => ?_) (fun b o _ _ hc e _ => k b o (fun z => hc (by simp [z])) e) (fun b o _ _ hc e _ => ⟨o.slots, k b o (fun z => hc (by simp [z])) e⟩) (fun _ _ _ _ n => n)
    (fun b o hc e => ⟨o, k b o (fun z => hc (by simp [z])) e⟩) (fun _ _ e => e) (fun _ _ _ e => e) (fun b ps e => ⟨#[], by rw [e]; simp⟩) (fun m hm => ?_) (fun b u e => ?_) I.bare
  · have e : b = it := by simpa using hb
    subst e
    exact ⟨h1, hL, h2, h3⟩
  · obtain ⟨o, es, ep, ho, r⟩ := hm
    exact ⟨o, es, ep, k _ o (Ne.symm hL) ho, r⟩
  · refine (I.hok b u e).stay (fun c v hc q => k c v ?_ q) (fun _ q => q) fun _ _ q => q
    rcases hc with z | z
    · rw [z]; exact nit b u e
    · exact nit c _ z
theorem Inv.tok (I : Inv X pins σ H s) (t : Nat) : Inv X pins σ H { s with toks := t } := I.un (h' := s.heap) (t' := t) Un.refl I.hok

theorem Inv.kept {t' : Nat} (I : Inv X pins σ H s) (k : ∀ b u, s.heap.get? b = some u → h'.get? b = some u) : Inv X pins σ H { s with heap := h', toks := t' } := I.un (Un.kept k) (I.hok.kept k)

theorem Inv.laid {a : Addr} {o : HO} {t' : Nat} (I : Inv X pins σ H s) (k : ∀ b u, s.heap.get? b = some u → h'.get? b = some u) (hp : s.heap.objs.size ≤ a) (new : ObjOk X.prog X.w (upd H a o) h' a o) :
    Inv X pins σ (upd H a o) { s with heap := h', toks := t' } := I.un (Un.laid k hp (I.hok.fresh hp)) (I.hok.laid k hp new)

theorem Inv.write {x e : Addr} {o : HO} {t' : Nat} (I : Inv X pins σ H s) (mu : Mut (H x)) (he : e = x ∨ H e = some (.own x)) (k : ∀ b u, b ≠ e → s.heap.get? b = some u → h'.get? b = some u) (heo : ∃ u, h'.get? e = some u)
    (new : ObjOk X.prog X.w (upd H x o) h' x o) : Inv X pins σ (upd H x o) { s with heap := h', toks := t' } := I.un (Un.write mu he k heo) (I.hok.write mu he k heo new)

theorem Inv.pins_of {pins' : List (Addr × Obj)} (I : Inv X pins σ H s) (h : ∀ p ∈ pins', s.heap.get? p.1 = some p.2 ∧ H p.1 = none ∧ p.1 ≠ X.env.locals ∧ p.1 ∉ X.fs ∧ ∀ v, p.2.data ≠ .cell v) : Inv X pins' σ H s :=
  ⟨I.ok, I.os, I.bare, I.base, I.loc, I.cell, I.free, I.freeC, fun p hp => (List.mem_append.mp hp).elim (fun z => I.pin p (List.mem_append_left _ z)) (h p), I.hok, I.len⟩

theorem nodup_ix {N : List Str} (hN : N.Nodup) {i j : Nat} {x : Str} (a : N[i]? = some x) (b : N[j]? = some x) : i = j := by
  obtain ⟨h1, e1⟩ := List.getElem?_eq_some_iff.mp a
  obtain ⟨h2, e2⟩ := List.getElem?_eq_some_iff.mp b
  exact (List.getElem_inj hN).mp (e1.trans e2.symm)

theorem store_ok2 {M : Model} {A : Around} {E : Value → Shared → Prop} {i : Nat} {x : Str} {v : V} {u : Value} {Q : Unit → Shared → Prop} (I : Inv X pins σ H s) (hN : X.N.Nodup) (hi : X.N[i]? = some x) (hx : Loc X.env.scope x) (r : RelV v u)
    (h : ∀ s', Inv X pins (σ.set i (some v)) H s' → (∃ a, Heap.SameBut a s.heap s'.heap ∧ (a = X.env.locals ∨ X.env.cells.lookup x = some a)) → Q () s') (hf : X.fn x = true ∨ X.env.scope.names.lookup x = some .local := by first | exact .inl rfl | exact .inr rfl | assumption) : wpAny M A (storeName X.env x u) Q E s := by
  obtain ⟨m, hn, hl⟩ := id I.loc
  have hcls : (X.env.scope.kind == .class || (X.env.scope.kind == .module && X.env.locals != X.env.globals)) = false := by rw [I.ok.kind]; rfl
  have hiσ : i < σ.length := by rw [I.len]; exact (List.getElem?_eq_some_iff.mp hi).1
  have cne := I.cne
  have tracked : ∀ {a : Addr} {h' : Heap}, (∃ o, s.heap.get? a = some o ∧ H a = none) → Heap.SameBut a s.heap h' → HOk X.prog X.w H h' := fun {a h'} ha hs b ob e => by
    obtain ⟨_, _, hfree⟩ := ha
    refine (I.hok b ob e).stay (fun c w' hc q => (hs.2 c ?_).trans q) (fun _ q => q) fun _ _ q => q
    rintro rfl
    rcases hc with rfl | hc
    · rw [hfree] at e; cases e
    · rw [hfree] at hc; cases hc
  rcases hx with hk | hk
  · refine wpAny_storeName_local hk hn (fun h' hn' hs => ?_) hcls
    obtain ⟨oL, _, _, hoL, _⟩ := id hn
    refine h _ ⟨I.ok, I.os, I.bare, ⟨fun b o e n hb hx => ?_, fun b o e n hb hx => ?_, I.base.free, fun b o e hx => ?_, I.base.tups, I.base.frzs, I.base.tbls⟩, ⟨_, hn', fun j y v' e1 e2 e3 => ?_⟩, fun y c e => ?_, I.free, I.freeC, fun p hp => ?_, tracked ⟨oL, hoL, I.free⟩ hs, by simpa using I.len⟩ ⟨_, hs, .inl rfl⟩
    · exact (hs.2 b (Nat.ne_of_lt (Nat.lt_of_lt_of_le (Heap.lt_size e) I.ok.above))).trans (I.base.keep b o e n hb hx)
    · obtain ⟨sl, e1⟩ := I.base.slot b o e n hb hx
      exact ⟨sl, (hs.2 b (Nat.ne_of_lt (Nat.lt_of_lt_of_le (Heap.lt_size e) I.ok.above))).trans e1⟩
    · obtain ⟨o', e1⟩ := I.base.there b o e hx
      exact ⟨o', (hs.2 b (Nat.ne_of_lt (Nat.lt_of_lt_of_le (Heap.lt_size e) I.ok.above))).trans e1⟩
    · by_cases hj : j = i
      · subst hj
        rw [hi] at e1; cases e1
        rw [List.getElem?_set_self hiσ] at e2
        cases e2
        exact ⟨u, r, .inl ⟨hk, by simp⟩⟩
      · rw [List.getElem?_set_ne (Ne.symm hj)] at e2
        obtain ⟨u', r', q⟩ := hl j y v' e1 e2 e3
        refine ⟨u', r', ?_⟩
        rcases q with ⟨k, e⟩ | ⟨k, c, e, z⟩
        · refine .inl ⟨k, ?_⟩
          have : y ≠ x := fun e => hj (nodup_ix hN e1 (e ▸ hi))
          simp [this, e]
        · exact .inr ⟨k, c, e, z.sameBut hs (cne y c e)⟩
    · obtain ⟨w', z⟩ := I.cell y c e
      exact ⟨w', z.sameBut hs (cne y c e)⟩
    · obtain ⟨e, n, ne, nf, d⟩ := I.pin p hp
      exact ⟨(hs.2 p.1 ne).trans e, n, ne, nf, d⟩
  · have hfn : X.fn x = true := by
      rcases hf with z | z
      · exact z
      · rw [z] at hk; cases hk
    obtain ⟨c, hc⟩ := I.ok.has x (.inl hk)
    obtain ⟨w', z⟩ := I.cell x c hc
    refine wpAny_storeName_cell I.ok.kind hk hc z (fun h' hc' hs => ?_)
    obtain ⟨oc, hoc, hocd⟩ := id z
    refine h { s with heap := h' } ⟨I.ok, I.os, I.bare, ⟨fun b o e n hb hx => ?_, fun b o e n hb hx => ?_, I.base.free, fun b o e hx => ?_, I.base.tups, I.base.frzs, I.base.tbls⟩, ⟨m, hn.sameBut hs (Ne.symm (cne x c hc)), fun j y v' e1 e2 e3 => ?_⟩, fun y c' e => ?_, I.free, I.freeC, fun p hp => ?_, tracked ⟨oc, hoc, I.freeC x c hc⟩ hs, by simpa using I.len⟩ ⟨c, hs, .inr hc⟩
    · exact (hs.2 b (Nat.ne_of_lt (Nat.lt_of_lt_of_le (Heap.lt_size e) (I.ok.cab x c hfn hc)))).trans (I.base.keep b o e n hb hx)
    · obtain ⟨sl, e1⟩ := I.base.slot b o e n hb hx
      exact ⟨sl, (hs.2 b (Nat.ne_of_lt (Nat.lt_of_lt_of_le (Heap.lt_size e) (I.ok.cab x c hfn hc)))).trans e1⟩
    · obtain ⟨o', e1⟩ := I.base.there b o e hx
      exact ⟨o', (hs.2 b (Nat.ne_of_lt (Nat.lt_of_lt_of_le (Heap.lt_size e) (I.ok.cab x c hfn hc)))).trans e1⟩
    · by_cases hj : j = i
      · subst hj
        rw [hi] at e1; cases e1
        rw [List.getElem?_set_self hiσ] at e2
        cases e2
        exact ⟨u, r, .inr ⟨.inl hk, c, hc, hc'⟩⟩
      · rw [List.getElem?_set_ne (Ne.symm hj)] at e2
        obtain ⟨u', r', q⟩ := hl j y v' e1 e2 e3
        refine ⟨u', r', ?_⟩
        rcases q with q | ⟨k, c', e, z'⟩
        · exact .inl q
        · refine .inr ⟨k, c', e, z'.sameBut hs ?_⟩
          rintro rfl
          exact hj (nodup_ix hN e1 (I.ok.inj _ _ _ e hc ▸ hi))
    · by_cases hcc : c' = c
      · subst hcc; exact ⟨_, hc'⟩
      · obtain ⟨w2, z2⟩ := I.cell y c' e
        exact ⟨w2, z2.sameBut hs hcc⟩
    · obtain ⟨e, n, ne, nf, d⟩ := I.pin p hp
      refine ⟨(hs.2 p.1 ?_).trans e, n, ne, nf, d⟩
      intro q
      rw [q, hoc] at e
      have q' : oc = p.2 := Option.some.inj e
      exact d w' (by rw [← q']; exact hocd)
theorem store_ok {M : Model} {A : Around} {E : Value → Shared → Prop} {i : Nat} {x : Str} {v : V} {u : Value} {Q : Unit → Shared → Prop} (I : Inv X pins σ H s) (hN : X.N.Nodup) (hi : X.N[i]? = some x) (hx : Loc X.env.scope x) (r : RelV v u)
    (h : ∀ s', Inv X pins (σ.set i (some v)) H s' → Q () s') (hf : X.fn x = true ∨ X.env.scope.names.lookup x = some .local := by first | exact .inl rfl | exact .inr rfl | assumption) : wpAny M A (storeName X.env x u) Q E s :=
  store_ok2 I hN hi hx r (fun s' I' _ => h s' I') hf

theorem Inv.call' {s' : Shared} {ch : List Addr} (I : Inv X pins σ H s) (ho : s'.os = s.os) (u : Un (frs X.stack) ch H H' s.heap s'.heap) (hok : HOk X.prog X.w H' s'.heap) (hg : AllBare s'.gens)
    (hch : ∀ b ∈ ch, (b ∈ X.ex ∨ X.s₀.heap.objs.size ≤ b) ∧ b ≠ X.env.locals ∧ (∀ x c, X.env.cells.lookup x = some c → c ≠ b) ∧ ∀ p ∈ X.pn ++ pins, p.1 ≠ b) : Inv X pins σ H' s' := by
  obtain ⟨h', g', d', t', o'⟩ := s'
  have e : o' = s.os := ho
  subst e
  exact I.call (g' := g') (t' := t') (d' := d') u hok hg hch
end

abbrev XK := Value → Option Addr → Hp → Prop
abbrev St := List (Option V)
abbrev VK := V → Hp → Prop

abbrev TE := St → Hp → VK → Prop
abbrev TT := St → Hp → (Bool → Hp → Prop) → Prop
abbrev TA := St → Hp → (List V → Hp → Prop) → Prop

structure Ends where
  nx : St → Hp → Prop
  rt : VK
  bk : St → Hp → Prop := fun _ _ => False
  ct : St → Hp → Prop := fun _ _ => False
abbrev TS := Ends → St → Hp → Prop

def EP (X : Cx) (pins : List (Addr × Obj)) (σ : St) (Q : VK) (u : Value) (s' : Shared) : Prop := ∃ v H', Inv X pins σ H' s' ∧ RelV v u ∧ Q v H'
def TP (X : Cx) (pins : List (Addr × Obj)) (σ : St) (Q : Bool → Hp → Prop) (b : Bool) (s' : Shared) : Prop := ∃ H', Inv X pins σ H' s' ∧ Q b H'
def AP (X : Cx) (pins : List (Addr × Obj)) (σ : St) (Q : List V → Hp → Prop) (us : List Value) (s' : Shared) : Prop := ∃ vs H', Inv X pins σ H' s' ∧ Vals vs us ∧ Q vs H'
def SP (X : Cx) (pins : List (Addr × Obj)) (D : Ends) (f : Flow) (s' : Shared) : Prop :=
  match f with
  | .next => ∃ σ' H', Inv X pins σ' H' s' ∧ D.nx σ' H'
  | .brk => ∃ σ' H', Inv X pins σ' H' s' ∧ D.bk σ' H'
  | .cont => ∃ σ' H', Inv X pins σ' H' s' ∧ D.ct σ' H'
  | .ret u => ∃ v σ' H', Inv X pins σ' H' s' ∧ RelV v u ∧ D.rt v H'

def PE (X : Cx) (e : Expr) (t : TE) : Prop :=
  ∀ (pins : List (Addr × Obj)) (s : Shared) (σ : St) (H : Hp) (Q : VK), Inv X pins σ H s → t σ H Q → wpAny (model X.prog X.w) X.A (eval e X.env) (EP X pins σ Q) X.xe s
def PT (X : Cx) (e : Expr) (t : TT) : Prop :=
  ∀ (pins : List (Addr × Obj)) (s : Shared) (σ : St) (H : Hp) (Q : Bool → Hp → Prop), Inv X pins σ H s → t σ H Q → wpAny (model X.prog X.w) X.A (isTrue e X.env (eval e X.env)) (TP X pins σ Q) X.xe s

def PW (X : Cx) (e : Expr) (t : TT) : Prop :=
  ∀ (whole : Sem Value) (pins : List (Addr × Obj)) (s : Shared) (σ : St) (H : Hp) (Q : Bool → Hp → Prop), Inv X pins σ H s → t σ H Q → wpAny (model X.prog X.w) X.A (isTrue e X.env whole) (TP X pins σ Q) X.xe s
theorem PW.pt {X : Cx} {e : Expr} {t : TT} (h : PW X e t) : PT X e t := h _

def PA (X : Cx) (es : List Expr) (t : TA) : Prop :=
  ∀ (pos : Pos) (pins : List (Addr × Obj)) (s : Shared) (σ : St) (H : Hp) (Q : List V → Hp → Prop), Inv X pins σ H s → t σ H Q → wpAny (model X.prog X.w) X.A (spliced (backTo pos (starEach es X.env))) (AP X pins σ Q) X.xe s
def PS (X : Cx) (st : Stmt) (t : TS) : Prop :=
  ∀ (pins : List (Addr × Obj)) (s : Shared) (σ : St) (H : Hp) (D : Ends), Inv X pins σ H s → t D σ H → wpAny (model X.prog X.w) X.A (exec st X.env) (SP X pins D) X.xe s
def PSs (X : Cx) (st : List Stmt) (t : TS) : Prop :=
  ∀ (pins : List (Addr × Obj)) (s : Shared) (σ : St) (H : Hp) (D : Ends), Inv X pins σ H s → t D σ H → wpAny (model X.prog X.w) X.A (execs st X.env) (SP X pins D) X.xe s

theorem thn {α : Type} {t : Sem α} {Q Q' : α → Shared → Prop} {M : Model} {A : Around} {E : Value → Shared → Prop} {s : Shared} (h : wpAny M A t Q E s) (hQ : ∀ a s, Q a s → Q' a s) : wpAny M A t Q' E s := wpAny_mono h hQ fun _ _ x => x
end L2

namespace L2
open PySem PySem.Spec PyProof.Rows
section
variable {X : Cx}

theorem bin {a b : Expr} {ta tb : TE} (ha : PE X a ta) (hb : PE X b tb) {pins : List (Addr × Obj)} {s : Shared} {σ : St} {H : Hp} {R : V → V → Hp → Prop} (I : Inv X pins σ H s) (h : ta σ H fun x H1 => tb σ H1 fun y H2 => R x y H2)
    {α : Type} {Q : α → Shared → Prop} {f : Value → Value → Sem α}
    (hf : ∀ v u s2 x y H2, Inv X pins σ H2 s2 → RelV x v → RelV y u → R x y H2 → wpAny (model X.prog X.w) X.A (f v u) Q X.xe s2) :
    wpAny (model X.prog X.w) X.A (eval a X.env) (fun v s₁ => wpAny (model X.prog X.w) X.A (eval b X.env) (fun u s₂ => wpAny (model X.prog X.w) X.A (f v u) Q X.xe s₂) X.xe s₁) X.xe s := by
  refine thn (ha pins s σ H _ I h) fun v s1 ⟨x, H1, I1, r1, q1⟩ => ?_
  refine thn (hb pins s1 σ H1 _ I1 q1) fun u s2 ⟨y, H2, I2, r2, q2⟩ => ?_
  exact hf v u s2 x y H2 I2 r1 r2 q2

def tVar (i : Nat) : TE := fun σ H Q => ∃ v, σ[i]? = some (some v) ∧ Q v H
def tC (v : V) : TE := fun _ H Q => Q v H
theorem pe_var {i : Nat} {x : Str} {pos : Pos} (hN : X.N[i]? = some x) (hv : Vis X.env.scope x) (hd : (x == ("__debug__" : Str)) = false := by decide) (hcd : (x == ("__classdict__" : Str)) = false := by decide) : PE X (.Name x pos) (tVar i) := by
  intro pins s σ H Q I h
  obtain ⟨v, e, h⟩ := h
  obtain ⟨m, hn, hl⟩ := I.loc
  obtain ⟨u, r, l⟩ := hl i x v hN e hv
  have fin : EP X pins σ Q u s := ⟨v, H, I, r, h⟩
  rcases l with ⟨hk, hm⟩ | ⟨hk, c, hc, hcell⟩
  · exact wpAny_Name (wpAny_loadName_local I.ok.kind hk hn hm fin) hd
  · rcases hk with hk | hk
    · exact wpAny_Name (wpAny_loadName_cell I.ok.kind hk hc hcell fin) hd
    · exact wpAny_Name (wpAny_loadName_free I.ok.kind hk hc hcell fin hcd) hd
theorem pe_int {i j pos} : PE X (.Constant (.int i) j pos) (tC (.int i)) := fun _ _ _ H _ I h => wpAny_Constant_int ⟨.int i, H, I.tok _, ⟨_, rfl⟩, h⟩
theorem pe_bl {b j pos} : PE X (.Constant (.bool b) j pos) (tC (.bl b)) := fun _ _ _ H _ I h => Constant_bool ⟨.bl b, H, I, rfl, h⟩
theorem pe_non {j pos} : PE X (.Constant .none j pos) (tC .non) := fun _ _ _ H _ I h => Constant_none ⟨.non, H, I, rfl, h⟩
theorem pe_str {x j pos} : PE X (.Constant (.str x) j pos) (tC (.str x)) := fun _ _ _ H _ I h => Calls.Constant_str ⟨.str x, H, I.tok _, ⟨_, rfl⟩, h⟩

def Gl (X : Cx) (x : Str) : Prop := X.env.kindOf x = some .globalImplicit
theorem ld_glob {E : Value → Shared → Prop} {pins : List (Addr × Obj)} {s : Shared} {σ : St} {H : Hp} {x : Str} {u : Value} {pos : Pos} {Q : Value → Shared → Prop} (I : Inv X pins σ H s) (hg : Gl X x) (hm : X.mg x = some u) (h : Q u s)
    (hd : (x == ("__debug__" : Str)) = false := by decide) : wpAny (model X.prog X.w) X.A (eval (.Name x pos) X.env) Q E s :=
  Calls.Name_function_global I.ok.kind hg (Calls.loadGlobal_global (by rw [I.ok.glob]; exact I.mod.glob.keeps I.bk) hm h) hd
theorem ld_blt {E : Value → Shared → Prop} {pins : List (Addr × Obj)} {s : Shared} {σ : St} {H : Hp} {x : Str} {u : Value} {pos : Pos} {Q : Value → Shared → Prop} (I : Inv X pins σ H s) (hg : Gl X x) (hm : X.mg x = none) (hv : bootBuiltins x = some u) (h : Q u s)
    (hn : x ≠ "__name__" := by decide) (hd : (x == ("__debug__" : Str)) = false := by decide) : wpAny (model X.prog X.w) X.A (eval (.Name x pos) X.env) Q E s := by
  obtain ⟨mb, h1, h2⟩ := I.mod.blt
  exact Calls.Name_function_global I.ok.kind hg (Calls.loadGlobal_builtin (by rw [I.ok.glob]; exact I.mod.glob.keeps I.bk) hm (by rw [I.ok.blt]; exact h1.keeps I.bk) ((h2 x hn).trans hv) h) hd

theorem pe_glob {x : Str} {v : V} {u : Value} {pos : Pos} (hg : Gl X x) (hm : X.mg x = some u) (r : RelV v u) (hd : (x == ("__debug__" : Str)) = false := by decide) : PE X (.Name x pos) (tC v) :=
  fun _ _ _ H _ I h => ld_glob I hg hm ⟨v, H, I, r, h⟩ hd
theorem pe_bltn {x : Str} {v : V} {u : Value} {pos : Pos} (hg : Gl X x) (hm : X.mg x = none) (hv : bootBuiltins x = some u) (r : RelV v u) (hn : x ≠ "__name__" := by decide) (hd : (x == ("__debug__" : Str)) = false := by decide) : PE X (.Name x pos) (tC v) :=
  fun _ _ _ H _ I h => ld_blt I hg hm hv ⟨v, H, I, r, h⟩ hn hd

variable {a b : Expr} {ta tb : TE} {pos : Pos}
def PC (X : Cx) (op : CmpOp) (a b : Expr) (t : TE) : Prop :=
  ∀ (pins : List (Addr × Obj)) (s : Shared) (σ : St) (H : Hp) (Q : VK), Inv X pins σ H s → t σ H Q →
    wpAny (model X.prog X.w) X.A (eval a X.env) (fun v s₁ => wpAny (model X.prog X.w) X.A (eval b X.env) (fun u s₂ => wpAny (model X.prog X.w) X.A (compareOp op v u) (EP X pins σ Q) X.xe s₂) X.xe s₁) X.xe s
theorem nobehind (b : Expr) {op : CmpOp} (h : op ≠ .In) (h2 : op ≠ .NotIn) : behindInMarks op b = false := by
  have e1 : (op == CmpOp.In) = false := by cases op <;> first | rfl | exact absurd rfl h
  have e2 : (op == CmpOp.NotIn) = false := by cases op <;> first | rfl | exact absurd rfl h2
  cases b <;> simp [behindInMarks, e1, e2]
def tB (t : TE) : TT := fun σ H Q => t σ H fun x H1 => ∃ c, x = .bl c ∧ Q c H1
theorem pt_cmp {op : CmpOp} {t : TE} (h : PC X op a b t) (h1 : behindInMarks op b = false := by first | exact nobehind _ (by decide) (by decide) | rfl) : PT X (.Compare a [op] [b] pos) (tB t) := by
  intro pins s σ H Q I hw
  refine wpAny_isTrue_Compare1 (thn (h pins s σ H _ I hw) fun v s1 h1 => thn h1 fun u s2 h2 => thn h2 fun c s3 ⟨x, H1, I1, r1, q1⟩ => ?_) h1
  obtain ⟨d, rfl, q⟩ := q1
  cases r1
  exact wpAny_truthy_bool ⟨H1, I1, q⟩

theorem pt_val {e : Expr} {t : TE} (h : PE X e t) (he : ∀ whole, isTrue e X.env whole = (do let v ← whole; standAt e.pos; holding [v] (truthy v)) := by intro _; rfl) : PT X e (tB t) := by
  intro pins s σ H Q I hw
  refine isTrue_plain (thn (h pins s σ H _ I hw) fun v s1 ⟨x, H1, I1, r1, q1⟩ => ?_) (he _)
  obtain ⟨d, rfl, q⟩ := q1
  cases r1
  exact wpAny_truthy_bool ⟨H1, I1, q⟩

variable {tA tB' : TT} {rest : List Expr}
def tAnd (t u : TT) : TT := fun σ H Q => t σ H fun c H1 => if c = true then u σ H1 Q else Q false H1
def tOr (t u : TT) : TT := fun σ H Q => t σ H fun c H1 => if c = true then Q true H1 else u σ H1 Q
def tNot (t : TT) : TT := fun σ H Q => t σ H fun c H1 => Q (!c) H1
theorem pw_and1 (ha : PT X a tA) : PW X (.BoolOp .And [a] pos) tA := by
  intro wh pins s σ H Q I h
  refine isTrue_and (thn (ha pins s σ H Q I h) fun c s1 e => ?_)
  cases c with
  | true => exact isTrue_and_nil e
  | false => exact e
theorem pw_or1 (ha : PT X a tA) : PW X (.BoolOp .Or [a] pos) tA := by
  intro wh pins s σ H Q I h
  refine isTrue_or (thn (ha pins s σ H Q I h) fun c s1 e => ?_)
  cases c with
  | false => exact isTrue_or_nil e
  | true => exact e
theorem pw_and (ha : PT X a tA) (hb : PW X (.BoolOp .And (b :: rest) pos) tB') : PW X (.BoolOp .And (a :: b :: rest) pos) (tAnd tA tB') := by
  intro wh pins s σ H Q I h
  refine isTrue_and (thn (ha pins s σ H _ I h) fun c s1 ⟨H1, I1, q1⟩ => ?_)
  cases c with
  | true => exact hb wh pins s1 σ H1 Q I1 q1
  | false => exact ⟨H1, I1, q1⟩
theorem pw_or (ha : PT X a tA) (hb : PW X (.BoolOp .Or (b :: rest) pos) tB') : PW X (.BoolOp .Or (a :: b :: rest) pos) (tOr tA tB') := by
  intro wh pins s σ H Q I h
  refine isTrue_or (thn (ha pins s σ H _ I h) fun c s1 ⟨H1, I1, q1⟩ => ?_)
  cases c with
  | true => exact ⟨H1, I1, q1⟩
  | false => exact hb wh pins s1 σ H1 Q I1 q1
theorem pt_not (ha : PT X a tA) : PT X (.UnaryOp .Not a pos) (tNot tA) := by
  intro pins s σ H Q I h
  exact isTrue_not (ha pins s σ H (fun c H1 => Q (!c) H1) I h)

def tAndV (ta tb : TE) : TE := fun σ H Q => ta σ H fun x H1 => ∃ c, x = .bl c ∧ if c = true then tb σ H1 Q else Q (.bl false) H1
def tOrV (ta tb : TE) : TE := fun σ H Q => ta σ H fun x H1 => ∃ c, x = .bl c ∧ if c = true then Q (.bl true) H1 else tb σ H1 Q
def tNotV (ta : TE) : TE := fun σ H Q => ta σ H fun x H1 => ∃ c, x = .bl c ∧ Q (.bl (!c)) H1
theorem pe_one {op} {t : TE} (h : PE X a t) : PE X (.BoolOp op [a] pos) t := fun pins s σ H Q I hw => BoolOp_one (h pins s σ H Q I hw)
theorem pe_and (ha : PE X a ta) (hb : PE X (.BoolOp .And (b :: rest) pos) tb) : PE X (.BoolOp .And (a :: b :: rest) pos) (tAndV ta tb) := by
  intro pins s σ H Q I h
  refine BoolOp_and (thn (ha pins s σ H _ I h) fun v s1 ⟨x, H1, I1, r1, q1⟩ => ?_)
  obtain ⟨c, rfl, q1⟩ := q1
  cases r1
  refine wpAny_truthy_bool ?_
  cases c with
  | true => exact hb pins s1 σ H1 Q I1 q1
  | false => exact ⟨.bl false, H1, I1, rfl, q1⟩
theorem pe_or (ha : PE X a ta) (hb : PE X (.BoolOp .Or (b :: rest) pos) tb) : PE X (.BoolOp .Or (a :: b :: rest) pos) (tOrV ta tb) := by
  intro pins s σ H Q I h
  refine BoolOp_or (thn (ha pins s σ H _ I h) fun v s1 ⟨x, H1, I1, r1, q1⟩ => ?_)
  obtain ⟨c, rfl, q1⟩ := q1
  cases r1
  refine wpAny_truthy_bool ?_
  cases c with
  | false => exact hb pins s1 σ H1 Q I1 q1
  | true => exact ⟨.bl true, H1, I1, rfl, q1⟩
theorem pe_not (ha : PE X a ta) : PE X (.UnaryOp .Not a pos) (tNotV ta) := by
  intro pins s σ H Q I h
  refine UnaryOp_ (thn (ha pins s σ H _ I h) fun v s1 ⟨x, H1, I1, r1, q1⟩ => ?_)
  obtain ⟨c, rfl, q1⟩ := q1
  cases r1
  exact not_of (wpAny_truthy_bool ⟨.bl (!c), H1, I1, rfl, q1⟩)

def tIf (t : TT) (ta tb : TE) : TE := fun σ H Q => t σ H fun c H1 => if c = true then ta σ H1 Q else tb σ H1 Q
theorem pe_ifExp {c : Expr} (hc : PT X c tA) (ha : PE X a ta) (hb : PE X b tb) : PE X (.IfExp c a b pos) (tIf tA ta tb) := by
  intro pins s σ H Q I h
  refine wpAny_IfExp (thn (hc pins s σ H _ I h) fun d s1 ⟨H1, I1, q1⟩ => ?_)
  cases d with
  | true => exact ha pins s1 σ H1 Q I1 q1
  | false => exact hb pins s1 σ H1 Q I1 q1
end
end L2

namespace L2
open PySem PySem.Spec PyProof.Rows

def SqL (K : PySem.W.Frag) (H : Hp) (a : Addr) (xs : List V) : Prop :=
  Rd H a (.lst xs) ∨
    ∃ (o : Obj) (its : Array Value) (n : Nat), K.lookup a = some o ∧ o.cls = .type "list" ∧ o.dict = none ∧ o.data = .seq its n ∧ its.size ≤ sizeLine ∧ Vals xs its.toList
def SqT (K : PySem.W.Frag) (H : Hp) (a : Addr) (xs : List V) : Prop :=
  Rd H a (.tup xs) ∨
    ∃ (o : Obj) (its : Array Value) (n : Nat), K.lookup a = some o ∧ o.cls = .type "tuple" ∧ o.data = .seq its n ∧ its.size ≤ sizeLine ∧ Vals xs its.toList
def absV : Value → Option V
  | .none => some .non
  | .bool b => some (.bl b)
  | .int i _ => some (.int i)
  | .str x _ => some (.str x)
  | .bytes b _ => some (.byt b)
  | .float b _ => some (.flt b)
  | .ref a => some (.ref a)
  | .type n => some (.ty n)
  | _ => none
theorem RelV.abs {x : V} {u : Value} (r : RelV x u) : absV u = some x := by
  cases x with
  | non => cases r; rfl
  | bl _ => cases r; rfl
  | int _ => obtain ⟨t, rfl⟩ := r; rfl
  | str _ => obtain ⟨t, rfl⟩ := r; rfl
  | byt _ => obtain ⟨t, rfl⟩ := r; rfl
  | flt _ => obtain ⟨t, rfl⟩ := r; rfl
  | ref _ => cases r; rfl
  | ty _ => cases r; rfl
theorem RelV.inj {x y : V} {u : Value} (r : RelV x u) (q : RelV y u) : x = y := Option.some.inj (r.abs.symm.trans q.abs)
theorem Vals.inj : ∀ {xs ys : List V} {us : List Value}, Vals xs us → Vals ys us → xs = ys
  | _, _, _, .nil, .nil => rfl
  | _, _, _, .cons r t, .cons r' t' => by rw [r.inj r', Vals.inj t t']
section
variable {X : Cx} {pins : List (Addr × Obj)} {σ : St} {H : Hp} {s : Shared} {a : Addr} {xs ys : List V}
theorem SqL.of {K : PySem.W.Frag} (h : H a = some (.lst xs)) : SqL K H a xs := .inl (.inl h)
theorem SqT.of {K : PySem.W.Frag} (h : H a = some (.tup xs)) : SqT K H a xs := .inl (.inl h)
theorem Inv.list (I : Inv X pins σ H s) (h : SqL X.K H a xs) : ∃ its : List Value, Vals xs its ∧ PlainL s.heap a its.toArray ∧ xs.length ≤ sizeLine := by
  rcases h with h | ⟨o, its, n, hk, hc, hd, hs, hz, r⟩
  · obtain ⟨z, its, n, r, e⟩ := h.ok I.hok
    exact ⟨its, r, ⟨_, n, e, rfl, rfl, rfl⟩, z⟩
  · refine ⟨its.toList, r, ⟨o, n, I.kIn a o hk, hc, hd, by simpa using hs⟩, ?_⟩
    have e := r.length
    simp only [Array.length_toList] at e
    omega
theorem Inv.tuple (I : Inv X pins σ H s) (h : SqT X.K H a xs) : ∃ its : List Value, Vals xs its ∧ IsTup s.heap a its.toArray ∧ xs.length ≤ sizeLine := by
  rcases h with h | ⟨o, its, n, hk, hc, hs, hz, r⟩
  · obtain ⟨z, its, r, p⟩ := h.ok I.hok
    exact ⟨its, r, p, z⟩
  · refine ⟨its.toList, r, ⟨o, I.kIn a o hk, hc, n, by simpa using hs⟩, ?_⟩
    have e := r.length
    simp only [Array.length_toList] at e
    omega
theorem Inv.list_inj (I : Inv X pins σ H s) (h : SqL X.K H a xs) (h' : SqL X.K H a ys) : xs = ys := by
  obtain ⟨its, r, ⟨o, n, e, _, _, d⟩, _⟩ := I.list h
  obtain ⟨its', r', ⟨o', n', e', _, _, d'⟩, _⟩ := I.list h'
  rw [e] at e'; cases e'
  rw [d] at d'
  injection d' with d1 _
  have : its = its' := by simpa using congrArg Array.toList d1
  subst this
  exact r.inj r'
theorem Inv.tuple_inj (I : Inv X pins σ H s) (h : SqT X.K H a xs) (h' : SqT X.K H a ys) : xs = ys := by
  obtain ⟨its, r, ⟨o, e, _, n, d⟩, _⟩ := I.tuple h
  obtain ⟨its', r', ⟨o', e', _, n', d'⟩, _⟩ := I.tuple h'
  rw [e] at e'; cases e'
  rw [d] at d'
  injection d' with d1 _
  have : its = its' := by simpa using congrArg Array.toList d1
  subst this
  exact r.inj r'
end

abbrev Cx.wish (X : Cx) (E : Value → Shared → Prop) : Cx := { X with xe := E }

abbrev Cx.nox (X : Cx) : Cx := X.wish fun _ _ => False
theorem Cx.Ok.wish {X : Cx} (ok : X.Ok) (E : Value → Shared → Prop) : (X.wish E).Ok :=
  ⟨ok.mod, ok.kind, ok.glob, ok.blt, ok.above, ok.inj, ok.has, ok.cab, ok.hd, ok.frames, ok.stk, ok.exf, ok.bs, ok.bsz, ok.noex, ok.exfs, ok.funs, ok.frf⟩
theorem Cx.Ok.unwish {X : Cx} {E : Value → Shared → Prop} (ok : (X.wish E).Ok) : X.Ok :=
  ⟨ok.mod, ok.kind, ok.glob, ok.blt, ok.above, ok.inj, ok.has, ok.cab, ok.hd, ok.frames, ok.stk, ok.exf, ok.bs, ok.bsz, ok.noex, ok.exfs, ok.funs, ok.frf⟩
section
variable {X : Cx} {pins : List (Addr × Obj)} {σ : St} {H : Hp} {s : Shared} {E : Value → Shared → Prop}
theorem Inv.wish (I : Inv X pins σ H s) (E : Value → Shared → Prop) : Inv (X.wish E) pins σ H s := ⟨I.ok.wish E, I.os, I.bare, I.base, I.loc, I.cell, I.free, I.freeC, I.pin, I.hok, I.len⟩
theorem Inv.unwish (I : Inv (X.wish E) pins σ H s) : Inv X pins σ H s := ⟨I.ok.unwish, I.os, I.bare, I.base, I.loc, I.cell, I.free, I.freeC, I.pin, I.hok, I.len⟩
theorem SP.unwish {D : Ends} {f : Flow} {s' : Shared} (h : SP (X.wish E) pins D f s') : SP X pins D f s' := by
  cases f with
  | next => obtain ⟨σ', H', I, q⟩ := h; exact ⟨σ', H', I.unwish, q⟩
  | brk => obtain ⟨σ', H', I, q⟩ := h; exact ⟨σ', H', I.unwish, q⟩
  | cont => obtain ⟨σ', H', I, q⟩ := h; exact ⟨σ', H', I.unwish, q⟩
  | ret u => obtain ⟨v, σ', H', I, r, q⟩ := h; exact ⟨v, σ', H', I.unwish, r, q⟩
theorem PSs.nox {st : List Stmt} {t : TS} (h : PSs X.nox st t) : PSs X st t := fun pins s σ H D I hw =>
  wpAny_mono (h pins s σ H D (I.wish _) hw) (fun _ _ q => q.unwish) fun _ _ z => False.elim z
end

section
variable {X : Cx} {st : Stmt} {rest : List Stmt} {t u : TS} {e : Expr} {te : TE} {pos : Pos}
def tNext : TS := fun D σ H => D.nx σ H
def tSeq (t u : TS) : TS := fun D σ H => t { D with nx := u D } σ H
theorem pss_nil : PSs X [] tNext := fun _ _ σ H _ I h => wpAny_execs_nil ⟨σ, H, I, h⟩
theorem pss_cons (h1 : PS X st t) (h2 : PSs X rest u) : PSs X (st :: rest) (tSeq t u) := by
  intro pins s σ H D I h
  refine wpAny_execs_cons (thn (h1 pins s σ H { D with nx := u D } I h) fun f s1 q => ?_)
  cases f with
  | next =>
    obtain ⟨σ', H', I', q⟩ := q
    exact h2 pins s1 σ' H' D I' q
  | ret v => exact q
  | brk => exact q
  | cont => exact q
theorem pss_one (h1 : PS X st t) : PSs X [st] t := by
  intro pins s σ H D I h
  refine wpAny_execs_cons (thn (h1 pins s σ H D I h) fun f s1 q => ?_)
  cases f with
  | next => exact wpAny_execs_nil q
  | ret v => exact q
  | brk => exact q
  | cont => exact q
theorem Inv.quiet {pins : List (Addr × Obj)} {σ : St} {H : Hp} {s : Shared} (I : Inv X pins σ H s) : interactive X.env = false := by simp [interactive, I.ok.kind]

def tDrop (te : TE) : TS := fun D σ H => te σ H fun _ H1 => D.nx σ H1
theorem ps_expr (he : PE X e te) (hs : swapsWith e none pos.line X.env = pure false := by rfl) : PS X (.Expr e pos) (tDrop te) := by
  intro pins s σ H D I h
  exact wpAny_Expr_any (thn (he pins s σ H _ I h) fun v s1 ⟨x, H1, I1, r1, q1⟩ => ⟨σ, H1, I1, q1⟩) I.quiet hs
def tRet (te : TE) : TS := fun D σ H => te σ H D.rt
theorem ps_ret (he : PE X e te) : PS X (.Return (some e) pos) (tRet te) := by
  intro pins s σ H D I h
  exact wpAny_Return_some (thn (he pins s σ H _ I h) fun v s1 ⟨x, H1, I1, r1, q1⟩ => ⟨x, σ, H1, I1, r1, q1⟩)
def tIfS (c : TT) (t u : TS) : TS := fun D σ H => c σ H fun b H1 => if b = true then t D σ H1 else u D σ H1
theorem ps_if {c : Expr} {a b : List Stmt} {tc : TT} (hc : PT X c tc) (ha : PSs X a t) (hb : PSs X b u) : PS X (.If c a b pos) (tIfS tc t u) := by
  intro pins s σ H D I h
  refine wpAny_If (thn (hc pins s σ H _ I h) fun d s1 ⟨H1, I1, q1⟩ => ?_)
  cases d with
  | true => exact ha pins s1 σ H1 D I1 q1
  | false => exact hb pins s1 σ H1 D I1 q1

end

abbrev TG := V → St → Hp → (St → Hp → Prop) → Prop
abbrev TGs := List V → St → Hp → (St → Hp → Prop) → Prop
def PG (X : Cx) (target : Expr) (t : TG) : Prop :=
  ∀ (pins : List (Addr × Obj)) (s : Shared) (σ : St) (H : Hp) (v : V) (u : Value) (Q : St → Hp → Prop), Inv X pins σ H s → RelV v u → t v σ H Q →
    wpAny (model X.prog X.w) X.A (assign target X.env u) (fun _ s' => ∃ σ' H', Inv X pins σ' H' s' ∧ Q σ' H') X.xe s

def PGs (X : Cx) (ts : List Expr) (t : TGs) : Prop :=
  ∀ (pins : List (Addr × Obj)) (s : Shared) (σ : St) (H : Hp) (vs : List V) (us : List Value) (Q : St → Hp → Prop), Inv X pins σ H s → Vals vs us → t vs σ H Q →
    wpAny (model X.prog X.w) X.A (assignInOrder ((assignEach ts X.env).map (·.2)) us) (fun _ s' => ∃ σ' H', Inv X pins σ' H' s' ∧ Q σ' H') X.xe s

section
variable {X : Cx} {pos : Pos}
def gName (i : Nat) : TG := fun v σ H Q => Q (σ.set i (some v)) H
theorem pg_name {i : Nat} {x : Str} (hN : X.N.Nodup) (hi : X.N[i]? = some x) (hx : Loc X.env.scope x) (hf : X.fn x = true ∨ X.env.scope.names.lookup x = some .local := by first | exact .inl rfl | exact .inr rfl | assumption) : PG X (.Name x pos) (gName i) := by
  intro pins s σ H v u Q I r h
  exact wpAny_assign_Name (store_ok I hN hi hx r (fun s' I' => ⟨_, H, I', h⟩) hf)
def tAsg (te : TE) (g : TG) : TS := fun D σ H => te σ H fun x H1 => g x σ H1 D.nx
theorem ps_set {i : Nat} {x : Str} {e : Expr} {te : TE} {pos' : Pos} (hN : X.N.Nodup) (hi : X.N[i]? = some x) (hx : Loc X.env.scope x) (he : PE X e te) (hs : swapsWith e (some (.Name x pos')) pos.line X.env = pure false := by rfl) (hf : X.fn x = true ∨ X.env.scope.names.lookup x = some .local := by first | exact .inl rfl | exact .inr rfl | assumption) :
    PS X (.Assign [.Name x pos'] e pos) (tAsg te (gName i)) := by
  intro pins s σ H D I h
  refine wpAny_Assign_Name (thn (he pins s σ H _ I h) fun v s1 ⟨y, H1, I1, r1, q1⟩ => ?_) hs
  exact store_ok I1 hN hi hx r1 (fun s2 I2 => ⟨_, H1, I2, q1⟩) hf

end

section
variable {X : Cx} {pos : Pos}

end

structure It where
  go : Nat → Hp → Prop
  yld : Nat → Hp → V → Hp → Prop
  stop : Nat → Hp → Prop

def FpOk (X : Cx) (pins : List (Addr × Obj)) (H : Hp) (b : Addr) : Prop :=
  H b = none ∧ b ≠ X.env.locals ∧ b ∉ X.fs ∧ (b ∈ X.ex ∨ X.s₀.heap.objs.size ≤ b) ∧ (∀ x c, X.env.cells.lookup x = some c → c ≠ b) ∧ ∀ p ∈ X.pn ++ pins, p.1 ≠ b
theorem Inv.fpOk {X : Cx} {pins : List (Addr × Obj)} {σ : St} {H H' : Hp} {s : Shared} {b : Addr} (I : Inv X pins σ H s) (hb : s.heap.objs.size ≤ b) (hn : H' b = none) : FpOk X pins H' b := by
  refine ⟨hn, Nat.ne_of_gt (Nat.lt_of_lt_of_le I.lt hb), I.nofs hb, .inr (Nat.le_trans I.sz hb), fun x c e z => ?_, fun p hp z => ?_⟩
  · obtain ⟨v, q⟩ := I.cell x c e
    exact absurd (Nat.lt_of_lt_of_le q.lt (by rw [z]; exact hb)) (Nat.lt_irrefl _)
  · exact absurd (Nat.lt_of_lt_of_le (Heap.lt_size (I.pin p hp).1) (by rw [z]; exact hb)) (Nat.lt_irrefl _)
structure Turn (P : Program) (w : World) (K : PySem.W.Frag) (tg : Expr) (J : It) (fp : List Addr) (it : Addr) (tn : Nat → Heap → Prop) : Prop where
  mem : it ∈ fp
  obj : ∀ i h, tn i h → ∀ b ∈ fp, ∃ o, h.get? b = some o ∧ ∀ v, o.data ≠ .cell v
  keep : ∀ i h h', tn i h → (∀ b ∈ fp, ∀ o, h.get? b = some o → h'.get? b = some o) → tn i h'
  item : ∀ (X : Cx), X.prog = P → X.w = w → X.K = K → X.calm = true → ∀ (i : Nat) (pins : List (Addr × Obj)) (s : Shared) (σ : St) (H : Hp) (E : Value → Shared → Prop), Inv X pins σ H s → (∀ b ∈ fp, FpOk X pins H b) → tn i s.heap → J.go i H →
    wpAny (model P w) X.A (pyNext (.ref it)) (fun r s1 => ∃ u, r = some u ∧
      wpAny (model P w) X.A (letOwnedTupleGo tg (.ref it) u) (fun _ s2 => ∃ x H', Inv X pins σ H' s2 ∧ RelV x u ∧ J.yld i H x H' ∧ tn (i + 1) s2.heap ∧ ∀ b ∈ fp, H' b = none) E s1) E s
  done : ∀ (X : Cx), X.prog = P → X.w = w → X.K = K → X.calm = true → ∀ (i : Nat) (pins : List (Addr × Obj)) (s : Shared) (σ : St) (H : Hp) (E : Value → Shared → Prop), Inv X pins σ H s → (∀ b ∈ fp, FpOk X pins H b) → tn i s.heap → J.stop i H →
    wpAny (model P w) X.A (pyNext (.ref it)) (fun r s1 => r = none ∧ Inv X pins σ H s1) E s
  self : ∀ (A : Around) (i : Nat) (s : Shared) (Q : Value → Shared → Prop) (E : Value → Shared → Prop), tn i s.heap → Q (.ref it) s → wpAny (model P w) A (pyIter (.ref it)) Q E s
abbrev TI := St → Hp → (It → Hp → Prop) → Prop

def PIE (X : Cx) (pins : List (Addr × Obj)) (σ : St) (tg : Expr) (R : It → Hp → Prop) (itv : Value) (s2 : Shared) : Prop :=
  ∃ (it : Addr) (fp : List Addr) (tn : Nat → Heap → Prop) (J : It) (H' : Hp), itv = .ref it ∧ Inv X pins σ H' s2 ∧ Turn X.prog X.w X.K tg J fp it tn ∧ tn 0 s2.heap ∧ (∀ b ∈ fp, FpOk X pins H' b) ∧ R J H'
def PI (X : Cx) (tg iter : Expr) (wi : TI) : Prop :=
  ∀ (pins : List (Addr × Obj)) (s : Shared) (σ : St) (H : Hp) (R : It → Hp → Prop), Inv X pins σ H s → wi σ H R →
    wpAny (model X.prog X.w) X.A (eval iter X.env) (fun v s1 => wpAny (model X.prog X.w) X.A (pyIter v) (PIE X pins σ tg R) X.xe s1) X.xe s

theorem go_of {M : Model} {A : Around} {E : Value → Shared → Prop} {s : Shared} {tg : Expr} {it : Addr} {u : Value} {o : Obj} {n : String} {vs : Array Value} {Q : Unit → Shared → Prop} (ho : s.heap.get? it = some o) (hc : o.cls = .type n) (hd : o.data = .fields vs)
    (hn : ["enumerate", "zip", "dict_itemiterator", "dict_reverseitemiterator", "odict_iterator", "itertools.zip_longest", "itertools.pairwise"].contains n = false) (hQ : Q () s) : wpAny M A (letOwnedTupleGo tg (.ref it) u) Q E s := by
  unfold letOwnedTupleGo
  cases tg <;> first
    | exact wpAny_pure hQ
    | (cases u <;> first
        | exact wpAny_pure hQ
        | (refine wpAny_bind (wpAny_load ho ?_)
           rw [hc, hd]
           show wpAny M A (if (["enumerate", "zip", "dict_itemiterator", "dict_reverseitemiterator", "odict_iterator", "itertools.zip_longest", "itertools.pairwise"].contains n && vs[0]? == some (rawInt _)) = true then _ else _) Q E s
           rw [if_neg (by intro h; rw [hn, Bool.false_and] at h; cases h)]
           exact wpAny_pure hQ))

def Itl (K : PySem.W.Frag) (a : Addr) : It :=
  ⟨fun i H => ∃ xs x, SqL K H a xs ∧ xs[i]? = some x, fun i H x H' => H' = H ∧ ∀ xs, SqL K H a xs → xs[i]? = some x, fun i H => ∃ xs, SqL K H a xs ∧ xs.length ≤ i⟩
def Itt (K : PySem.W.Frag) (a : Addr) : It :=
  ⟨fun i H => ∃ xs x, SqT K H a xs ∧ xs[i]? = some x, fun i H x H' => H' = H ∧ ∀ xs, SqT K H a xs → xs[i]? = some x, fun i H => ∃ xs, SqT K H a xs ∧ xs.length ≤ i⟩

def Itr (lo : Int) (n : Nat) : It := ⟨fun i _ => i < n, fun i H x H' => H' = H ∧ x = .int (lo + i), fun i _ => n ≤ i⟩
theorem turn_list {P : Program} {w : World} {K : PySem.W.Frag} {tg : Expr} (a it : Addr) : Turn P w K tg (Itl K a) [it] it (fun i h => h.IsListIter it a i) where
  mem := by simp
  obj := fun i h st b hb => by
    have e : b = it := by simpa using hb
    subst e
    obtain ⟨o, e, c, d⟩ := st
    exact ⟨o, e, fun v z => by rw [d] at z; cases z⟩
  keep := fun i h h' st k => st.at fun o e => k it (by simp) o e
  item := by
    intro X hP hw hK hc i pins s σ H E I hf st hg
    subst hP hw hK
    obtain ⟨xs, x, hq, hx⟩ := hg
    obtain ⟨its, rv, p, hz⟩ := I.list hq
    obtain ⟨u, hu, ru⟩ := rv.get hx
    obtain ⟨f0, f1, f2, f3, f4, f5⟩ := hf it (by simp)
    refine wpAny_pyNext_list_item st p.isList (x := u) (by simpa using hu) fun h' st' sb => ?_
    have I1 : Inv X pins σ H { s with heap := h' } := I.turned (t' := s.toks) (fun b o hb e => (sb.2 b hb).trans e) f0 f1 f3 f4 f5
    obtain ⟨o, e, c, d⟩ := id st'
    exact ⟨u, rfl, go_of (s := { s with heap := h' }) e c d (by decide) ⟨x, H, I1, ru, ⟨rfl, fun ys hy => by rw [I.list_inj hy hq]; exact hx⟩, st', fun b hb => (hf b hb).1⟩⟩
  done := by
    intro X hP hw hK hc i pins s σ H E I hf st hg
    subst hP hw hK
    obtain ⟨xs, hq, hx⟩ := hg
    obtain ⟨its, rv, p, hz⟩ := I.list hq
    obtain ⟨f0, f1, f2, f3, f4, f5⟩ := hf it (by simp)
    have hl := rv.length
    exact wpAny_pyNext_list_end (I.ok.hd hc) st p.isList (by simp; omega) fun h' eb => ⟨rfl, I.turned (t' := s.toks) (fun b o hb e => eb b o hb e) f0 f1 f3 f4 f5⟩
  self := fun _ _ _ _ _ st h => wpAny_pyIter_listiter st h
theorem turn_tuple {P : Program} {w : World} {K : PySem.W.Frag} {tg : Expr} (a it : Addr) : Turn P w K tg (Itt K a) [it] it (fun i h => h.IsTupleIter it a i) where
  mem := by simp
  obj := fun i h st b hb => by
    have e : b = it := by simpa using hb
    subst e
    obtain ⟨o, e, c, d⟩ := st
    exact ⟨o, e, fun v z => by rw [d] at z; cases z⟩
  keep := fun i h h' st k => st.at fun o e => k it (by simp) o e
  item := by
    intro X hP hw hK hc i pins s σ H E I hf st hg
    subst hP hw hK
    obtain ⟨xs, x, hq, hx⟩ := hg
    obtain ⟨its, rv, p, hz⟩ := I.tuple hq
    obtain ⟨u, hu, ru⟩ := rv.get hx
    obtain ⟨f0, f1, f2, f3, f4, f5⟩ := hf it (by simp)
    refine wpAny_pyNext_tuple_item st (show s.heap.IsTuple a its.toArray from p) (x := u) (by simpa using hu) fun h' st' sb => ?_
    have I1 : Inv X pins σ H { s with heap := h' } := I.turned (t' := s.toks) (fun b o hb e => (sb.2 b hb).trans e) f0 f1 f3 f4 f5
    obtain ⟨o, e, c, d⟩ := id st'
    exact ⟨u, rfl, go_of (s := { s with heap := h' }) e c d (by decide) ⟨x, H, I1, ru, ⟨rfl, fun ys hy => by rw [I.tuple_inj hy hq]; exact hx⟩, st', fun b hb => (hf b hb).1⟩⟩
  done := by
    intro X hP hw hK hc i pins s σ H E I hf st hg
    subst hP hw hK
    obtain ⟨xs, hq, hx⟩ := hg
    obtain ⟨its, rv, p, hz⟩ := I.tuple hq
    obtain ⟨f0, f1, f2, f3, f4, f5⟩ := hf it (by simp)
    have hl := rv.length
    exact wpAny_pyNext_tuple_end (I.ok.hd hc) st (show s.heap.IsTuple a its.toArray from p) (by simp; omega) fun h' eb => ⟨rfl, I.turned (t' := s.toks) (fun b o hb e => eb b o hb e) f0 f1 f3 f4 f5⟩
  self := fun _ _ _ _ _ st h => wpAny_pyIter_tupleiter st h
theorem turn_range {P : Program} {w : World} {K : PySem.W.Frag} {tg : Expr} (it : Addr) (lo : Int) (n : Nat) : Turn P w K tg (Itr lo n) [it] it (fun i h => IsRangeIter h it (lo + (i : Nat) * 1) ((n : Int) - (i : Nat)) 1) where
  mem := by simp
  obj := fun i h st b hb => by
    have e : b = it := by simpa using hb
    subst e
    exact ⟨_, st, fun v z => by
      have z' : Data.fields _ = Data.cell v := z
      cases z'⟩
  keep := fun i h h' st k => k it (by simp) _ st
  item := by
    intro X hP hw hK hc i pins s σ H E I hf st hg
    subst hP hw hK
    obtain ⟨f0, f1, f2, f3, f4, f5⟩ := hf it (by simp)
    have W := Walks.range (prog := X.prog) (w := X.w) (I.ok.hd hc) it lo 1 n
    refine W.item i s _ _ hg st fun v h' tk hv st' kk => ?_
    obtain ⟨t, rfl⟩ := hv
    have I1 : Inv X pins σ H { s with heap := h', toks := tk } := I.turned (fun b o hb e => kk b o (by simpa using hb) e) f0 f1 f3 f4 f5
    refine ⟨_, rfl, go_of (s := { s with heap := h', toks := tk }) (n := "range_iterator") st' rfl rfl (by decide) ⟨.int (lo + i), H, I1, ⟨t, ?_⟩, ⟨rfl, rfl⟩, st', fun b hb => (hf b hb).1⟩⟩
    rw [Int.mul_one]
  done := by
    intro X hP hw hK hc i pins s σ H E I hf st hg
    subst hP hw hK
    obtain ⟨f0, f1, f2, f3, f4, f5⟩ := hf it (by simp)
    exact wpAny_pyNext_range_end (I.ok.hd hc) st (by have : n ≤ i := hg; omega) fun h' eb => ⟨rfl, I.turned (t' := s.toks) (fun b o hb e => eb b o hb e) f0 f1 f3 f4 f5⟩
  self := fun _ _ _ _ _ st h => wpAny_pyIter_rangeiter st h
end L2

namespace L2
open PySem PySem.Spec PyProof.Rows
section
variable {X : Cx} {tg : Expr}
def iList (K : PySem.W.Frag) (tl : TE) : TI := fun σ H R => tl σ H fun x H1 => ∃ a, x = .ref a ∧ (∃ xs, SqL K H1 a xs) ∧ R (Itl K a) H1
def iTup (K : PySem.W.Frag) (tl : TE) : TI := fun σ H R => tl σ H fun x H1 => ∃ a, x = .ref a ∧ (∃ xs, SqT K H1 a xs) ∧ R (Itt K a) H1
theorem pi_list {l : Expr} {tl : TE} (hl : PE X l tl) : PI X tg l (iList X.K tl) := by
  intro pins s σ H R I h
  refine thn (hl pins s σ H _ I h) fun v s1 ⟨x, H1, I1, r1, q1⟩ => ?_
  obtain ⟨a, e, ⟨xs, hq⟩, q⟩ := q1
  subst e
  cases r1
  obtain ⟨its, rv, p, hz⟩ := I1.list hq
  refine wpAny_pyIter_list p.isList ?_
  refine ⟨s1.heap.objs.size, [s1.heap.objs.size], _, _, H1, rfl, I1.kept (t' := s1.toks) fun b o e => Heap.get?_push_of_some _ e, turn_list a _, ⟨_, Heap.get?_push_size _ rfl, rfl, rfl⟩, fun b hb => ?_, q⟩
  have e : b = s1.heap.objs.size := by simpa using hb
  subst e
  exact I1.fpOk (Nat.le_refl _) (I1.hok.fresh (Nat.le_refl _))
theorem pi_tup {l : Expr} {tl : TE} (hl : PE X l tl) : PI X tg l (iTup X.K tl) := by
  intro pins s σ H R I h
  refine thn (hl pins s σ H _ I h) fun v s1 ⟨x, H1, I1, r1, q1⟩ => ?_
  obtain ⟨a, e, ⟨xs, hq⟩, q⟩ := q1
  subst e
  cases r1
  obtain ⟨its, rv, p, hz⟩ := I1.tuple hq
  refine wpAny_pyIter_tuple (show s1.heap.IsTuple a its.toArray from p) ?_
  refine ⟨s1.heap.objs.size, [s1.heap.objs.size], _, _, H1, rfl, I1.kept (t' := s1.toks) fun b o e => Heap.get?_push_of_some _ e, turn_tuple a _, ⟨_, Heap.get?_push_size _ rfl, rfl, rfl⟩, fun b hb => ?_, q⟩
  have e : b = s1.heap.objs.size := by simpa using hb
  subst e
  exact I1.fpOk (Nat.le_refl _) (I1.hok.fresh (Nat.le_refl _))

theorem range_it {pins : List (Addr × Obj)} {σ : St} {H : Hp} {s : Shared} {R : It → Hp → Prop} {E : Value → Shared → Prop} {lo hi : Int} {t u v : Tok} {tk : Nat} (I : Inv X pins σ H s) (h1 : -(2 ^ 62) ≤ lo) (h2 : lo < 2 ^ 62) (h3 : -(2 ^ 62) ≤ hi) (h4 : hi < 2 ^ 62)
    (q : R (Itr lo (hi - lo).toNat) H) : wpAny (model X.prog X.w) X.A (pyIter (.ref s.heap.objs.size)) (PIE X pins σ tg R) E { s with heap := s.heap.push { cls := .type "range", data := .fields #[.int lo t, .int hi u, .int 1 v] }, toks := tk } := by
  refine wpAny_pyIter_range (IsRange.new ..) (small_one h1 h2 h3 h4) ?_
  have I1 : Inv X pins σ H { s with heap := s.heap.push { cls := .type "range", data := .fields #[.int lo t, .int hi u, .int 1 v] }, toks := tk } := I.kept fun b o e => Heap.get?_push_of_some _ e
  refine ⟨(s.heap.push { cls := .type "range", data := .fields #[.int lo t, .int hi u, .int 1 v] }).objs.size, [(s.heap.push { cls := .type "range", data := .fields #[.int lo t, .int hi u, .int 1 v] }).objs.size], _, _, H, rfl,
    I1.kept (t' := tk) fun b o e => Heap.get?_push_of_some _ e, turn_range _ lo (hi - lo).toNat, ?_, fun b hb => ?_, q⟩
  · have e1 : lo + ((0 : Nat) : Int) * 1 = lo := by simp
    have e2 : (((hi - lo).toNat : Nat) : Int) - ((0 : Nat) : Int) = Builtin.Range.rangeSize lo hi 1 := by rw [rangeSize_one]; split <;> omega
    show IsRangeIter _ _ (lo + ((0 : Nat) : Int) * 1) ((((hi - lo).toNat : Nat) : Int) - ((0 : Nat) : Int)) 1
    rw [e1, e2]
    exact Heap.get?_push_size _ rfl
  · have e : b = (s.heap.push { cls := .type "range", data := .fields #[.int lo t, .int hi u, .int 1 v] }).objs.size := by simpa using hb
    subst e
    exact I1.fpOk (Nat.le_refl _) (I1.hok.fresh (Nat.le_refl _))
def iRng1 (ta : TA) : TI := fun σ H R => ta σ H fun vs H1 => ∃ j : Int, vs = [.int j] ∧ -(2 ^ 62) ≤ j ∧ j < 2 ^ 62 ∧ R (Itr 0 j.toNat) H1
theorem pi_range1 {a : Expr} {ta : TA} {p pos : Pos} (hg : Gl X "range") (hm : X.mg "range" = none) (ha : PA X [a] ta) (hs : starEach [a] X.env = [(false, eval a X.env)] := by rfl) : PI X tg (.Call (.Name "range" p) [a] [] pos) (iRng1 ta) := by
  intro pins s σ H R I h
  refine Call_ (ld_blt I hg hm boot_range (PyProof.Rows.callWith_type1 (thn (ha pos pins s σ H _ I h) fun us s1 ⟨vs, H1, I1, r1, q1⟩ => ?_) hs rfl))
  obtain ⟨j, e, q1, q2, q⟩ := q1
  subst e
  cases r1 with
  | cons r rr =>
    cases rr
    obtain ⟨t, rfl⟩ := r
    exact call_range_1 (range_it I1 (by omega) (by omega) q1 q2 (by simpa using q))
def tFor (wi : TI) (g : TG) (tb : TS) : TS := fun D σ H => wi σ H fun J H1 => ∃ W : Nat → Nat → St → Hp → Prop, (∃ m, W 0 m σ H1) ∧ ∀ i m σ H, W i m σ H →
  (J.stop i H ∧ D.nx σ H) ∨ (J.go i H ∧ ∃ N : St → Hp → Prop, (∀ σ' H', N σ' H' → ∃ m', m' < m ∧ W (i + 1) m' σ' H') ∧ ∀ x H', J.yld i H x H' → g x σ H' fun σ2 H2 => tb { D with nx := N, ct := N, bk := D.nx } σ2 H2)

def pinsAt (fp : List Addr) (h : Heap) : List (Addr × Obj) := fp.filterMap fun b => (h.get? b).map fun o => (b, o)
theorem mem_pinsAt {fp : List Addr} {h : Heap} {b : Addr} {o : Obj} (hb : b ∈ fp) (e : h.get? b = some o) : (b, o) ∈ pinsAt fp h := List.mem_filterMap.mpr ⟨b, hb, by rw [e]; rfl⟩
theorem of_pinsAt {fp : List Addr} {h : Heap} {p : Addr × Obj} (hp : p ∈ pinsAt fp h) : p.1 ∈ fp ∧ h.get? p.1 = some p.2 := by
  obtain ⟨b, hb, e⟩ := List.mem_filterMap.mp hp
  cases q : h.get? b with
  | none => rw [q] at e; cases e
  | some o =>
    rw [q] at e
    have e' : (b, o) = p := Option.some.inj e
    subst e'
    exact ⟨hb, q⟩
theorem Inv.pinned {pins : List (Addr × Obj)} {σ : St} {H : Hp} {s : Shared} {fp : List Addr} (I : Inv X pins σ H s) (hf : ∀ b ∈ fp, FpOk X pins H b) (ho : ∀ b ∈ fp, ∃ o, s.heap.get? b = some o ∧ ∀ v, o.data ≠ .cell v) : Inv X (pins ++ pinsAt fp s.heap) σ H s :=
  I.pins_of fun p hp => (List.mem_append.mp hp).elim (fun z => I.pin p (List.mem_append_right _ z)) fun z => by
    obtain ⟨hb, e⟩ := of_pinsAt z
    obtain ⟨f0, f1, f2, _⟩ := hf p.1 hb
    obtain ⟨o, e', d⟩ := ho p.1 hb
    rw [e] at e'; cases e'
    exact ⟨e, f0, f1, f2, d⟩
theorem Inv.unpinned {pins pl : List (Addr × Obj)} {σ : St} {H : Hp} {s : Shared} (I : Inv X (pins ++ pl) σ H s) : Inv X pins σ H s := I.pins_of fun p hp => I.pin p (List.mem_append_right _ (List.mem_append_left _ hp))
theorem ps_for {iter : Expr} {body : List Stmt} {wi : TI} {g : TG} {tb : TS} {pos : Pos} (hp : PassesOwn (model X.prog X.w) X.A X.env X.xe) (hc : X.calm = true) (hi : PI X tg iter wi) (hg : PG X tg g) (hb : PSs X body tb)
    (hs : ∀ x, foldedSetIterable iter X.env x = pure x := by intro _; rfl) : PS X (.For tg iter body [] pos) (tFor wi g tb) := by
  intro pins s σ H D I h
  refine wpAny_For (thn (hi pins s σ H _ I h) fun v s1 h1 => thn h1 fun itv s2 h2 => ?_) hs
  obtain ⟨it, fp, tn, J, H2, e, I2, T, st2, f2, W, ⟨m0, w0⟩, turn⟩ := h2
  subst e
  have stat : ∀ {H' : Hp}, (∀ b ∈ fp, H' b = none) → ∀ b ∈ fp, FpOk X pins H' b := fun hn b hb => ⟨hn b hb, (f2 b hb).2⟩
  refine codeAny_forLoop_any (fun n s' => ∃ i σ' H', Inv X pins σ' H' s' ∧ tn i s'.heap ∧ (∀ b ∈ fp, H' b = none) ∧ W i n σ' H') ?_ m0 ⟨0, σ, H2, I2, st2, fun b hb => (f2 b hb).1, w0⟩
  rintro n s3 ⟨i, σ3, H3, I3, st3, fr3, w3⟩
  rcases turn i n σ3 H3 w3 with ⟨stop, qn⟩ | ⟨go, N, hN, step⟩
  · refine wpAny_passesOwn hp (thn (T.done X rfl rfl rfl hc i pins s3 σ3 H3 X.xe I3 (stat fr3) st3 stop) fun r s4 ⟨hr, I4⟩ => ?_)
    subst hr
    exact wpAny_execs_nil ⟨σ3, H3, I4, qn⟩
  · refine wpAny_passesOwn hp (thn (T.item X rfl rfl rfl hc i pins s3 σ3 H3 X.xe I3 (stat fr3) st3 go) fun r s4 ⟨u, hr, h4⟩ => ?_)
    subst hr
    refine wpAny_passesOwn hp (thn h4 fun _ s5 ⟨x, H5, I5, r5, y5, st5, fr5⟩ => ?_)
    have I5' := I5.pinned (stat fr5) (T.obj _ _ st5)
    refine wpAny_passesOwn hp (thn (hg _ s5 σ3 H5 x u _ I5' r5 (step x H5 y5)) fun _ s6 ⟨σ6, H6, I6, q6⟩ => ?_)
    refine wpAny_passesOwn hp (thn (hb _ s6 σ6 H6 _ I6 q6) fun f s7 q7 => ?_)
    have again : ∀ {σ7 : St} {H7 : Hp}, Inv X (pins ++ pinsAt fp s5.heap) σ7 H7 s7 → N σ7 H7 → ∃ m, m < n ∧ ∃ i σ' H', Inv X pins σ' H' s7 ∧ tn i s7.heap ∧ (∀ b ∈ fp, H' b = none) ∧ W i m σ' H' := fun {σ7 H7} I7 n7 => by
      obtain ⟨m', hm, w7⟩ := hN σ7 H7 n7
      refine ⟨m', hm, i + 1, σ7, H7, I7.unpinned, T.keep _ _ _ st5 fun b hb o e => (I7.pin (b, o) (List.mem_append_right _ (List.mem_append_right _ (mem_pinsAt hb e)))).1, fun b hb => ?_, w7⟩
      obtain ⟨o, e, d⟩ := T.obj _ _ st5 b hb
      exact (I7.pin (b, o) (List.mem_append_right _ (List.mem_append_right _ (mem_pinsAt hb e)))).2.1
    cases f with
    | next => obtain ⟨σ7, H7, I7, n7⟩ := q7; exact again I7 n7
    | cont => obtain ⟨σ7, H7, I7, n7⟩ := q7; exact again I7 n7
    | brk => obtain ⟨σ7, H7, I7, q7⟩ := q7; exact ⟨σ7, H7, I7.unpinned, q7⟩
    | ret v => obtain ⟨x7, σ7, H7, I7, r7, q7⟩ := q7; exact ⟨x7, σ7, H7, I7.unpinned, r7, q7⟩
end

end L2

namespace L2
open PySem PySem.Spec PyProof.Rows

abbrev R2 := V → V → Hp → VK → Prop

def OpR (X : Cx) (f : Value → Value → Sem Value) (r : R2) : Prop :=
  ∀ (pins : List (Addr × Obj)) (s : Shared) (σ : St) (H : Hp) (x y : V) (v u : Value) (Q : VK), Inv X pins σ H s → RelV x v → RelV y u → r x y H Q →
    wpAny (model X.prog X.w) X.A (f v u) (EP X pins σ Q) X.xe s

def CallR (X : Cx) (f : Value) (r : List V → Hp → VK → Prop) : Prop :=
  ∀ (pins : List (Addr × Obj)) (s : Shared) (σ : St) (H : Hp) (xs : List V) (us : List Value) (Q : VK), Inv X pins σ H s → Vals xs us → r xs H Q →
    wpAny (model X.prog X.w) X.A (call f us) (EP X pins σ Q) X.xe s

def tOp (r : R2) (ta tb : TE) : TE := fun σ H Q => ta σ H fun x H1 => tb σ H1 fun y H2 => r x y H2 Q
def rI (C : Int → Int → Prop) (g : Int → Int → V) : R2 := fun x y H Q => ∃ i j, x = .int i ∧ y = .int j ∧ C i j ∧ Q (g i j) H
def rI0 (g : Int → Int → V) : R2 := fun x y H Q => ∃ i j, x = .int i ∧ y = .int j ∧ Q (g i j) H
section
variable {X : Cx} {a b c : Expr} {ta tb tc : TE} {pos : Pos}

theorem binT (ha : PE X a ta) (hb : PE X b tb) {pins : List (Addr × Obj)} {s : Shared} {σ : St} {H : Hp} {R : V → V → Hp → Prop} (I : Inv X pins σ H s)
    (h : ta σ H fun x H1 => tb σ H1 fun y H2 => R x y H2) {Q : Value → Shared → Prop} {f : Value → Value → Sem Value}
    (hf : ∀ v u s2 x y H2, Inv X pins σ H2 s2 → RelV x v → RelV y u → R x y H2 → wpAny (model X.prog X.w) X.A (f v u) Q X.xe s2) :
    wpAny (model X.prog X.w) X.A (eval a X.env) (fun v s₁ => wpAny (model X.prog X.w) X.A (eval b X.env) (fun u s₂ => wpAny (model X.prog X.w) X.A (f v u) Q X.xe s₂) X.xe s₁) X.xe s := by
  refine thn (ha pins s σ H _ I h) fun v s1 ⟨x, H1, I1, r1, q1⟩ => ?_
  refine thn (hb pins s1 σ H1 _ I1 q1) fun u s2 ⟨y, H2, I2, r2, q2⟩ => ?_
  exact hf v u s2 x y H2 I2 r1 r2 q2

theorem pe_op {op : Operator} {r : R2} (ho : OpR X (binaryOp op) r) (ha : PE X a ta) (hb : PE X b tb) : PE X (.BinOp a op b pos) (tOp r ta tb) := by
  intro pins s σ H Q I h
  exact wpAny_BinOp (binT ha hb I h fun v u s2 x y H2 I2 rx ry q => ho pins s2 σ H2 x y v u Q I2 rx ry q)
theorem opI {f : Value → Value → Sem Value} {C : Int → Int → Prop} {g : Int → Int → Int}
    (rule : ∀ (i j : Int) (t u : Tok) (s : Shared) (Q : Value → Shared → Prop) (E : Value → Shared → Prop), C i j → Q (.int (g i j) s.toks) { s with toks := s.toks + 1 } → wpAny (model X.prog X.w) X.A (f (.int i t) (.int j u)) Q E s) :
    OpR X f (rI C fun i j => .int (g i j)) := by
  intro pins s σ H x y v u Q I rx ry h
  obtain ⟨i, j, rfl, rfl, hc, q⟩ := h
  obtain ⟨t, rfl⟩ := rx
  obtain ⟨t', rfl⟩ := ry
  exact rule i j t t' s _ _ hc ⟨.int (g i j), H, I.tok _, ⟨_, rfl⟩, q⟩
theorem opI0 {f : Value → Value → Sem Value} {g : Int → Int → Int}
    (rule : ∀ (i j : Int) (t u : Tok) (s : Shared) (Q : Value → Shared → Prop) (E : Value → Shared → Prop), Q (.int (g i j) s.toks) { s with toks := s.toks + 1 } → wpAny (model X.prog X.w) X.A (f (.int i t) (.int j u)) Q E s) :
    OpR X f (rI0 fun i j => .int (g i j)) := by
  intro pins s σ H x y v u Q I rx ry h
  obtain ⟨i, j, rfl, rfl, q⟩ := h
  obtain ⟨t, rfl⟩ := rx
  obtain ⟨t', rfl⟩ := ry
  exact rule i j t t' s _ _ ⟨.int (g i j), H, I.tok _, ⟨_, rfl⟩, q⟩
theorem opB0 {f : Value → Value → Sem Value} {g : Int → Int → Bool}
    (rule : ∀ (i j : Int) (t u : Tok) (s : Shared) (Q : Value → Shared → Prop) (E : Value → Shared → Prop), Q (.bool (g i j)) s → wpAny (model X.prog X.w) X.A (f (.int i t) (.int j u)) Q E s) :
    OpR X f (rI0 fun i j => .bl (g i j)) := by
  intro pins s σ H x y v u Q I rx ry h
  obtain ⟨i, j, rfl, rfl, q⟩ := h
  obtain ⟨t, rfl⟩ := rx
  obtain ⟨t', rfl⟩ := ry
  exact rule i j t t' s _ _ ⟨.bl (g i j), H, I, rfl, q⟩

def CDiv (i j : Int) : Prop := 0 < j ∧ j < 1073741824
def CMul (i j : Int) : Prop := (-(2 ^ 64) < i ∧ i < 2 ^ 64) ∨ (-(2 ^ 64) < j ∧ j < 2 ^ 64)
theorem CMul.ok {i j : Int} (h : CMul i j) : IntMulOk i j := by
  rcases h with ⟨h1, h2⟩ | ⟨h1, h2⟩
  · exact .of_left (intBits_le_64 h1 h2)
  · exact .of_right (intBits_le_64 h1 h2)
theorem op_add : OpR X (binaryOp .Add) (rI0 fun i j => .int (i + j)) := opI0 fun _ _ _ _ _ _ _ q => add_int q
theorem op_mul : OpR X (binaryOp .Mult) (rI CMul fun i j => .int (i * j)) := opI fun _ _ _ _ _ _ _ hc q => mul_int q hc.ok

theorem op_fdiv : OpR X (binaryOp .FloorDiv) (rI CDiv fun i j => .int (i / j)) := opI fun i j _ _ _ _ _ hc q => by
  have h1 : (0 : Int) < j := hc.1
  have h2 : j < 1073741824 := hc.2
  exact floordiv_int (by omega) (by rw [Int.fdiv_eq_ediv_of_nonneg i (by omega)]; exact q) (.inl (PyProof.noPylong_small (by omega)))
theorem op_mod : OpR X (binaryOp .Mod) (rI (fun _ j => 0 < j) fun i j => .int (i % j)) := opI fun i j _ _ _ _ _ hc q => by
  have h1 : (0 : Int) < j := hc
  exact mod_int' (by omega) (by rw [Int.fmod_eq_emod_of_nonneg i (by omega)]; exact q)
end

section
variable {X : Cx} {a b c : Expr} {ta tb tc : TE} {pos : Pos}
theorem fin_bl {pins : List (Addr × Obj)} {σ : St} {H : Hp} {s : Shared} {Q : VK} {k k' : Bool} (I : Inv X pins σ H s) (q : Q (.bl k) H) (e : k = k') : EP X pins σ Q (.bool k') s := by
  subst e
  exact ⟨.bl k, H, I, rfl, q⟩
theorem op_lt : OpR X (compareOp .Lt) (rI0 fun i j => .bl (decide (i < j))) := opB0 fun _ _ _ _ _ _ _ q => lt_int q
theorem op_le : OpR X (compareOp .LtE) (rI0 fun i j => .bl (decide (i ≤ j))) := opB0 fun _ _ _ _ _ _ _ q => le_int q
theorem op_gt : OpR X (compareOp .Gt) (rI0 fun i j => .bl (decide (j < i))) := opB0 fun _ _ _ _ _ _ _ q => gt_int q
theorem op_in_str : OpR X (compareOp .In) (fun x y H Q => ∃ i j, x = .str i ∧ y = .str j ∧ Q (.bl (!(Builtin.Str.occurrences j i 0 j.length 1).isEmpty)) H) := by
  intro pins s σ H x y v u Q I rx ry h
  obtain ⟨i, j, rfl, rfl, q⟩ := h
  obtain ⟨t, rfl⟩ := rx
  obtain ⟨t', rfl⟩ := ry
  exact in_str (fin_bl I q rfl)

theorem op_isN : OpR X (compareOp .Is) (fun x y H Q => y = .non ∧ Q (.bl (decide (x = .non))) H) := by
  intro pins s σ H x y v u Q I rx ry h
  obtain ⟨rfl, q⟩ := h
  cases ry
  refine is_none_gen (fin_bl I q ?_)
  cases x <;> first
    | (cases rx; rfl)
    | (obtain ⟨t, rfl⟩ := rx; rfl)
theorem op_notN : OpR X (compareOp .IsNot) (fun x y H Q => y = .non ∧ Q (.bl (!decide (x = .non))) H) := by
  intro pins s σ H x y v u Q I rx ry h
  obtain ⟨rfl, q⟩ := h
  cases ry
  refine isnot_none_gen (fin_bl I q ?_)
  cases x <;> first
    | (cases rx; rfl)
    | (obtain ⟨t, rfl⟩ := rx; rfl)

theorem op_notin_str : OpR X (compareOp .NotIn) (fun x y H Q => ∃ i j, x = .str i ∧ y = .str j ∧ Q (.bl (!(!(Builtin.Str.occurrences j i 0 j.length 1).isEmpty))) H) := by
  intro pins s σ H x y v u Q I rx ry h
  obtain ⟨i, j, rfl, rfl, q⟩ := h
  obtain ⟨t, rfl⟩ := rx
  obtain ⟨t', rfl⟩ := ry
  exact notIn_str (fin_bl I q rfl)

theorem nomark (b : Expr) {op : CmpOp} (h : op ≠ .In := by decide) (h2 : op ≠ .NotIn := by decide) : behindInMarks op b = false := by
  have e1 : (op == CmpOp.In) = false := by cases op <;> first | rfl | exact absurd rfl h
  have e2 : (op == CmpOp.NotIn) = false := by cases op <;> first | rfl | exact absurd rfl h2
  cases b <;> simp [behindInMarks, e1, e2]

theorem pe_cmpR {op : CmpOp} {r : R2} (ho : OpR X (compareOp op) r) (ha : PE X a ta) (hb : PE X b tb) (hm : behindInMarks op b = false) : PE X (.Compare a [op] [b] pos) (tOp r ta tb) := by
  intro pins s σ H Q I h
  exact wpAny_Compare1 (binT ha hb I h fun v u s2 x y H2 I2 rx ry q => ho pins s2 σ H2 x y v u Q I2 rx ry q) hm

def tTest (t : TE) : TT := fun σ H Q => t σ H fun x H' => ∃ k, x = .bl k ∧ Q k H'
theorem pt_cmpR {op : CmpOp} {r : R2} (ho : OpR X (compareOp op) r) (ha : PE X a ta) (hb : PE X b tb) (hm : behindInMarks op b = false) : PT X (.Compare a [op] [b] pos) (tTest (tOp r ta tb)) := by
  intro pins s σ H Q I h
  refine wpAny_isTrue_Compare1 (thn (ha pins s σ H _ I h) fun v s1 ⟨x, H1, I1, r1, q1⟩ => thn (hb pins s1 σ H1 _ I1 q1) fun u s2 ⟨y, H2, I2, r2, q2⟩ =>
    thn (ho pins s2 σ H2 x y v u _ I2 r1 r2 q2) fun c s3 ⟨z, H3, I3, r3, k, e, q3⟩ => ?_) hm
  subst e
  cases r3
  exact wpAny_truthy_bool ⟨H3, I3, q3⟩

def tChain (r r' : R2) (ta tb tc : TE) : TE := fun σ H Q => ta σ H fun x H1 => tb σ H1 fun y H2 => r x y H2 fun z H3 => ∃ k, z = .bl k ∧
  (if k = true then tc σ H3 fun w' H4 => r' y w' H4 Q else Q (.bl false) H3)
theorem pe_chain {op op' : CmpOp} {r r' : R2} (ho : OpR X (compareOp op) r) (ho' : OpR X (compareOp op') r') (ha : PE X a ta) (hb : PE X b tb) (hc : PE X c tc)
    (hm : lastMarks [op, op'] [b, c] = false := by with_unfolding_all rfl) : PE X (.Compare a [op, op'] [b, c] pos) (tChain r r' ta tb tc) := by
  intro pins s σ H Q I h
  refine Compare_chain (thn (ha pins s σ H _ I h) fun v s1 ⟨x, H1, I1, r1, q1⟩ => chain_link (thn (hb pins s1 σ H1 _ I1 q1) fun u s2 ⟨y, H2, I2, r2, q2⟩ =>
    thn (ho pins s2 σ H2 x y v u _ I2 r1 r2 q2) fun d s3 ⟨z, H3, I3, r3, k, e, q3⟩ => ?_)) hm
  subst e
  cases r3
  refine wpAny_truthy_bool ?_
  cases k with
  | false => exact ite_ff ⟨.bl false, H3, I3, rfl, q3⟩
  | true => exact ite_tt (chain_last (thn (hc pins s3 σ H3 _ I3 q3) fun w' s4 ⟨z', H4, I4, r4, q4⟩ => ho' pins s4 σ H4 y z' u w' Q I4 r2 r4 q4))
theorem line63 : (sizeLine : Nat) < 2 ^ 63 := by rw [sizeLine_eq]; decide
theorem op_add_str : OpR X (binaryOp .Add) (fun x y H Q => ∃ i j, x = .str i ∧ y = .str j ∧ i.length + j.length ≤ sizeLine ∧ Q (.str (i ++ j)) H) := by
  intro pins s σ H x y v u Q I rx ry h
  obtain ⟨i, j, rfl, rfl, hz, q⟩ := h
  obtain ⟨t, rfl⟩ := rx
  obtain ⟨t', rfl⟩ := ry
  exact add_str (fun t' tk => ⟨.str (i ++ j), H, I.tok _, ⟨_, rfl⟩, q⟩) hz
theorem vals1 {x : V} {us : List Value} (r : Vals [x] us) : ∃ u, us = [u] ∧ RelV x u := by
  cases r with
  | cons r1 r2 => cases r2; exact ⟨_, rfl, r1⟩
theorem vals2 {x y : V} {us : List Value} (r : Vals [x, y] us) : ∃ u w', us = [u, w'] ∧ RelV x u ∧ RelV y w' := by
  cases r with
  | cons r1 r2 =>
    cases r2 with
    | cons r3 r4 => cases r4; exact ⟨_, _, rfl, r1, r3⟩
theorem call_str_int : CallR X (.type "str") (fun xs H Q => ∃ i, xs = [.int i] ∧ i.natAbs.log2 < 1920 ∧ Q (.str (toString i)) H) := by
  intro pins s σ H xs us Q I r h
  obtain ⟨i, rfl, hz, q⟩ := h
  obtain ⟨u, rfl, t, rfl⟩ := vals1 r
  exact PySem.P.str_of_int hz ⟨.str _, H, I.tok _, ⟨_, rfl⟩, q⟩
end
end L2

namespace L2
open PySem PySem.Spec PyProof.Rows

structure ObjM (h : Heap) (x dx C : Addr) (mA : Str → Option Value) : Prop where
  obj : h.get? x = some (PySem.W.instObj C dx)
  ns : h.Ns1 dx mA
  ne : dx ≠ x

theorem lookIn_ns {h : Heap} {dx : Addr} {mA : Str → Option Value} (n : h.Ns1 dx mA) : ∃ od, h.get? dx = some od ∧ ∀ name, PySem.W.lookIn name od = some (mA name) := by
  obtain ⟨o, es, ep, ho, hd, hk, _, hm⟩ := n
  refine ⟨o, ho, fun name => ?_⟩
  have e := hm name
  unfold nsFind findBy at e
  rw [← Array.find?_toList] at e
  unfold PySem.W.lookIn
  rw [hd]
  dsimp only
  split
  · rename_i y q
    rw [q] at e
    exact congrArg some e
  · rename_i q
    rw [q] at e
    have a : es.toList.any (·.refKey) = false := by
      rw [List.any_eq_false]
      intro y hy
      obtain ⟨z, t, hkey⟩ := hk y (Array.mem_toList_iff.mp hy)
      simp [DictEntry.refKey, hkey]
    have a' : ¬ es.toList.any (·.refKey) = true := by rw [a]; exact Bool.false_ne_true
    rw [if_neg a']
    exact congrArg some e

theorem ObjM.look {h : Heap} {x dx C : Addr} {mA : Str → Option Value} (I : ObjM h x dx C mA) : ∃ od, PySem.W.InstAt h x (PySem.W.instObj C dx) C (some od) ∧ ∀ name, PySem.W.lookIn name od = some (mA name) :=
  let ⟨od, ho, hl⟩ := lookIn_ns I.ns
  ⟨od, ⟨I.obj, rfl, rfl, ho⟩, hl⟩

section
variable {prog : Program} {w : World} {A : Around} {E : Value → Shared → Prop} {s : Shared} {K : PySem.W.Frag} {x dx C f : Addr} {mA : Str → Option Value} {name : Str} {v : Value}

end

section
variable {P : Program} {w : World} {H H' : Hp} {h h' : Heap} {a C dx : Addr} {fs fs' : List (Str × V)}
theorem ins_get (hok : HOk P w H h) (e : H a = some (.ins C dx fs)) : ∃ mA, ObjM h a dx C mA ∧ (∀ f, RelO (fs.lookup f) (mA f)) ∧ PySem.Within mA (fs.map (·.1)) ∧ fs.length ≤ 1000 ∧ H dx = some (.own a) := by
  obtain ⟨d, z, ne, ob, mA, n, r, q⟩ := (show ObjOk P w H h a (.ins C dx fs) from hok a _ e)
  exact ⟨mA, ⟨ob, n, ne⟩, r, q, z, d⟩
end

structure Cls (K : PySem.W.Frag) (C : Addr) : Prop where
  pg : PySem.W.plainGet K C Str.empty = true
  hd : PySem.W.hasDictIn K C = true
  po : PySem.W.plainOver K C = true
  sa : PySem.W.findIn K (.ref C) "__setattr__" = some (some (.builtin "object.__setattr__"))
theorem Cls.get {K : PySem.W.Frag} {C : Addr} (c : Cls K C) (f : Str) : PySem.W.plainGet K C f = true := c.pg

section
variable {X : Cx} {pins : List (Addr × Obj)} {σ : St} {H : Hp} {s : Shared} {a C dx : Addr} {fs : List (Str × V)} {f : Str} {v : V} {A : Around} {E : Value → Shared → Prop}

end

section
variable {X : Cx} {o e value : Expr} {f : Str} {pos pos' tpos : Pos} {ta tv : TE}
end

section
variable {X : Cx} {pins : List (Addr × Obj)} {σ : St} {H : Hp} {s : Shared} {A : Around} {E : Value → Shared → Prop} {Q : Value → Shared → Prop} {c : Value} {b : Bool}

inductive TyOf (K : PySem.W.Frag) (H : Hp) : V → Value → Prop where
  | non : TyOf K H .non (.type "NoneType")
  | bl (x : Bool) : TyOf K H (.bl x) (.type "bool")
  | int (i : Int) : TyOf K H (.int i) (.type "int")
  | str (x : Str) : TyOf K H (.str x) (.type "str")
  | flt (x : UInt64) : TyOf K H (.flt x) (.type "float")
  | lst {a : Addr} {xs : List V} (e : H a = some (.lst xs)) : TyOf K H (.ref a) (.type "list")
  | frz {a : Addr} {o : Obj} {xs : List V} (e : H a = some (.frz o (.lst xs))) : TyOf K H (.ref a) (.type "list")
  | tup {a : Addr} {xs : List V} (e : H a = some (.tup xs)) : TyOf K H (.ref a) (.type "tuple")
  | dK {a : Addr} {kvs : List (Key × V)} (e : H a = some (.dK kvs)) : TyOf K H (.ref a) (.type "dict")
  | dT {a : Addr} {kvs : List (List Key × V)} (e : H a = some (.dT kvs)) : TyOf K H (.ref a) (.type "dict")
  | ins {a C dx : Addr} {fs : List (Str × V)} (e : H a = some (.ins C dx fs)) (cl : Cls K C) (ha : PySem.W.findIn K (.ref C) "__class__" = some (some (.builtin "object.__class__")))
      (hn : PySem.W.specialIn K (.builtin "object.__class__") "__get__" = some (some (.builtin "getset_descriptor.__get__"))) (htk : PySem.W.takesIn K (.builtin "object.__class__") = some true)
      (hm : PySem.W.mroIn K C (.type "object") = some true) : TyOf K H (.ref a) (.ref C)

theorem isinst_ok {x : V} {u t : Value} (I : Inv X pins σ H s) (rx : RelV x u) (ty : TyOf X.K H x t) (e : PySem.W.kitOne X.K t c = some b) (h : ∀ tk, Q (.bool b) { s with toks := tk }) :
    wpAny (model X.prog X.w) A (call (.builtin "isinstance") [u, c]) Q E s := by
  cases ty with
  | non => cases (show u = Value.none from rx); exact PySem.W.kia_one PySem.W.kitx_none I.kIn True.intro e (fun z => nomatch z) h
  | bl y => cases (show u = Value.bool y from rx); exact PySem.W.kia_one PySem.W.kitx_bool I.kIn True.intro e (fun z => nomatch z) h
  | int i => obtain ⟨t, q⟩ := (show ∃ t, u = Value.int i t from rx); cases q; exact PySem.W.kia_one PySem.W.kitx_int I.kIn True.intro e (fun z => nomatch z) h
  | str y => obtain ⟨t, q⟩ := (show ∃ t, u = Value.str y t from rx); cases q; exact PySem.W.kia_one PySem.W.kitx_str I.kIn True.intro e (fun z => nomatch z) h
  | flt y => obtain ⟨t, q⟩ := (show ∃ t, u = Value.float y t from rx); cases q; exact PySem.W.kia_one PySem.W.kitx_float I.kIn True.intro e (fun z => nomatch z) h
  | @lst a xs ea =>
    cases (show u = Value.ref a from rx)
    obtain ⟨_, _, n, _, h1⟩ := (show ObjOk X.prog X.w H s.heap a (.lst xs) from I.hok a _ ea)
    exact PySem.W.kia_one PySem.W.kitx_list I.kIn ⟨_, h1, rfl⟩ e (fun z => nomatch z) h
  | @frz a ob xs ea =>
    cases (show u = Value.ref a from rx)
    obtain ⟨_, _, _, n, _, h1⟩ := (show ObjOk X.prog X.w H s.heap a (.frz ob (.lst xs)) from I.hok a _ ea)
    exact PySem.W.kia_one PySem.W.kitx_list I.kIn ⟨_, h1, rfl⟩ e (fun z => nomatch z) h
  | @tup a xs ea =>
    cases (show u = Value.ref a from rx)
    obtain ⟨_, _, _, p⟩ := (show ObjOk X.prog X.w H s.heap a (.tup xs) from I.hok a _ ea)
    obtain ⟨o, h1, h2, _⟩ := p
    exact PySem.W.kia_one PySem.W.kitx_tuple I.kIn ⟨o, h1, h2⟩ e (fun z => nomatch z) h
  | @dK a kvs ea =>
    cases (show u = Value.ref a from rx)
    obtain ⟨_, _, vs, _, p⟩ := (show ObjOk X.prog X.w H s.heap a (.dK kvs) from I.hok a _ ea)
    obtain ⟨o, es, ep, h1, h2, _⟩ := p
    exact PySem.W.kia_one PySem.W.kitx_dict I.kIn ⟨o, h1, h2.1⟩ e (fun z => nomatch z) h
  | @dT a kvs ea =>
    cases (show u = Value.ref a from rx)
    obtain ⟨_, _, xs, _, o, es, ep, h1, h2, _⟩ := (show ObjOk X.prog X.w H s.heap a (.dT kvs) from I.hok a _ ea)
    exact PySem.W.kia_one PySem.W.kitx_dict I.kIn ⟨o, h1, h2.1⟩ e (fun z => nomatch z) h
  | @ins a C dx fs ea cl ha hn htk hm =>
    cases (show u = Value.ref a from rx)
    obtain ⟨mA, O, _⟩ := ins_get I.hok ea
    obtain ⟨od, J, _⟩ := O.look
    exact PySem.W.kia_one (PySem.W.kitx_own (cl.get _) cl.hd ha hn htk hm) I.kIn J e (fun z => nomatch z) h
end
end L2

namespace L2
open PySem PySem.Spec PyProof.Rows

structure Room (k : Nat) (A : Around) : Prop where
  hd : A.handled = none
  dp : A.depth + 3 * k + 5 < recursionLimit
  un : A.units + 16 * k + 200 < cLine
theorem Room.mono {j k : Nat} {A : Around} (r : Room k A) (h : j ≤ k) : Room j A := ⟨r.hd, by have := r.dp; omega, by have := r.un; omega⟩
theorem Room.deeper {k : Nat} {A : Around} (r : Room (k + 1) A) (env : Env) : Room k (A.deeper env) :=
  ⟨r.hd, by have := r.dp; show A.depth + 1 + 3 * k + 5 < _; omega, by have := r.un; show A.units + 3 + 16 * k + 200 < _; omega⟩
theorem Room.depth {k : Nat} {A : Around} (r : Room k A) : A.depth < recursionLimit := by have := r.dp; omega
theorem Room.units {k : Nat} {A : Around} (r : Room k A) : A.units + 64 < cLine := by have := r.un; omega
def tNil : TA := fun _ H Q => Q [] H
def tCons (ta : TE) (tr : TA) : TA := fun σ H Q => ta σ H fun x H1 => tr σ H1 fun xs H2 => Q (x :: xs) H2
section
variable {X : Cx} {e : Expr} {es : List Expr} {te : TE} {t : TA} {pos : Pos}
theorem pa_nil : PA X [] tNil := fun _ _ _ _ H Q I h => Calls.spliced_nil ⟨[], H, I, .nil, h⟩
theorem pa_cons (ha : PE X e te) (hr : PA X es t) (hs : starEach (e :: es) X.env = (false, eval e X.env) :: starEach es X.env := by rfl) : PA X (e :: es) (tCons te t) := by
  intro pos pins s σ H Q I h
  rw [hs]
  show wpAny _ _ (spliced ((false, eval e X.env) :: backTo pos (starEach es X.env))) _ _ s
  refine Calls.spliced_cons (thn (ha pins s σ H _ I h) fun u s1 ⟨x, H1, I1, r1, q1⟩ => ?_)
  exact thn (hr pos pins s1 σ H1 _ I1 q1) fun us s2 ⟨xs, H2, I2, r2, q2⟩ => ⟨x :: xs, H2, I2, .cons r1 r2, q2⟩

def tTup (t : TA) : TE := fun σ H Q => t σ H fun xs H1 => xs.length ≤ sizeLine ∧ ∀ p, H1 p = none → Q (.ref p) (upd H1 p (.tup xs))
def tLst (t : TA) : TE := fun σ H Q => t σ H fun xs H1 => xs.length ≤ sizeLine ∧ ∀ p, H1 p = none → Q (.ref p) (upd H1 p (.lst xs))
theorem pe_tup {x1} (h : PA X es t) : PE X (.Tuple es x1 pos) (tTup t) := by
  intro pins s σ H Q I hq
  refine wpAny_Tuple_spliced (thn (h pos pins s σ H _ I hq) fun us s1 ⟨xs, H1, I1, r, z, q⟩ => ⟨by rw [← r.length]; exact z, ?_⟩)
  have hf : H1 s1.heap.objs.size = none := I1.hok.fresh (Nat.le_refl _)
  refine ⟨.ref s1.heap.objs.size, upd H1 s1.heap.objs.size (.tup xs), I1.laid (t' := s1.toks) (fun b u e => Heap.get?_push_of_some _ e) (Nat.le_refl _) ?_, rfl, q _ hf⟩
  exact ⟨z, us, r, ⟨_, Heap.get?_push_size _ rfl, rfl, _, rfl⟩⟩
theorem pe_lst (h : PA X es t) : PE X (.List es pos) (tLst t) := by
  intro pins s σ H Q I hq
  refine wpAny_List_spliced (thn (h pos pins s σ H _ I hq) fun us s1 ⟨xs, H1, I1, r, z, q⟩ => ⟨by rw [← r.length]; exact z, ?_⟩)
  have hf : H1 s1.heap.objs.size = none := I1.hok.fresh (Nat.le_refl _)
  refine ⟨.ref s1.heap.objs.size, upd H1 s1.heap.objs.size (.lst xs), I1.laid (t' := s1.toks) (fun b u e => Heap.get?_push_of_some _ e) (Nat.le_refl _) ?_, rfl, q _ hf⟩
  exact ⟨z, us, 0, r, Heap.get?_push_size _ rfl⟩
end

abbrev Sp := List V → Hp → VK → XK → Prop

abbrev CXT := List Env → Hp → Shared → XK → Value → Shared → Prop

structure Env0 (P : Program) (w : World) (K : PySem.W.Frag) (mg : Str → Option Value) (base : Heap) (A : Around) (outer : List Env) (s : Shared) (H : Hp) : Prop where
  frames : A.frames = some outer
  mod : Mod K mg base
  bs : ∀ b o, base.get? b = some o → s.heap.get? b = some o ∧ H b = none
  bsz : base.objs.size ≤ s.heap.objs.size
  funs : s.heap.FunFrames base outer
  frf : ∀ b ∈ frs outer, H b = none
  hok : HOk P w H s.heap
  bare : AllBare s.gens

def CE (outer : List Env) (P : Program) (w : World) (H : Hp) (s : Shared) (Q : VK) (u : Value) (s' : Shared) : Prop :=
  ∃ v H', s'.os = s.os ∧ AllBare s'.gens ∧ Un (frs outer) [] H H' s.heap s'.heap ∧ HOk P w H' s'.heap ∧ RelV v u ∧ Q v H'
def CR (CX : CXT) (outer : List Env) (P : Program) (w : World) (H : Hp) (s : Shared) (Q : VK) (E : XK) (r : Result) (s' : Shared) : Prop :=
  match r with
  | .ok (.ret u) => CE outer P w H s Q u s'
  | .ok _ => False
  | .error e => CX outer H s E e s'
structure FnOk (P : Program) (w : World) (K : PySem.W.Frag) (mg : Str → Option Value) (base : Heap) (CX : CXT) (k : Nat) (f : Addr) (fd : FuncData) (ps : List Str) (sp : Sp) : Prop where
  len : ∀ vs H Q E, sp vs H Q E → vs.length = ps.length
  run : ∀ (A : Around) (outer : List Env) (s : Shared) (H : Hp) (args : Args) (us : List Value) (vs : List V) (Q : VK) (E : XK), Room k A → Env0 P w K mg base A outer s H → BindsTo s fd args (ps.zip us) → Vals vs us → sp vs H Q E →
    codeAny (model P w) A (.call (.ref f) args) (CR CX outer P w H s Q E) s
section
variable {X : Cx} {pins : List (Addr × Obj)} {σ : St} {H : Hp} {s s' : Shared}

theorem Inv.env0 (I : Inv X pins σ H s) : Env0 X.prog X.w X.K X.mg X.base X.A X.stack s H :=
  ⟨I.ok.frames, I.ok.mod, I.bs, Nat.le_trans I.ok.bsz I.sz, I.stack, I.stkFree, I.hok, I.bare⟩

theorem Inv.after {Q : VK} {u : Value} (I : Inv X pins σ H s) (h : CE X.stack X.prog X.w H s Q u s') : EP X pins σ Q u s' := by
  obtain ⟨v, H', os, bare, un, hok, r, q⟩ := h
  obtain ⟨hh, g, d, t, os'⟩ := s'
  obtain rfl : os' = s.os := os
  exact ⟨v, H', I.call (h' := hh) (g' := g) (d' := d) (t' := t) (ch := []) un hok bare (fun b z => absurd z (by simp)), r, q⟩
end

def tCall (sp : Sp) (dvs : List V) (E : XK) (t : TA) : TE := fun σ H Q => t σ H fun vs H1 => sp (vs ++ dvs) H1 Q E

def Binds (K : PySem.W.Frag) (fd : FuncData) (ps : List Str) (ds : List Value) : Prop :=
  ∀ (s : Shared) (us : List Value), K.In s.heap → (us ++ ds).length = ps.length → BindsTo s fd ⟨us, []⟩ (ps.zip (us ++ ds))

theorem Binds.all {K : PySem.W.Frag} {fd : FuncData} {ps : List Str} (h : ∀ us : List Value, us.length = ps.length → bindArgs fd ⟨us, []⟩ = pure (ps.zip us)) : Binds K fd ps [] := fun s us _ hl => by
  rw [List.append_nil] at hl ⊢
  exact .of_eq (h us hl)

def Passes (CX : CXT) (X : Cx) (E : XK) : Prop := ∀ (pins : List (Addr × Obj)) (σ : St) (H : Hp) (s : Shared) (e : Value) (s' : Shared), Inv X pins σ H s → CX X.stack H s E e s' → X.xe e s'

section
variable {X : Cx} {CX : CXT} {k : Nat} {f C : Addr} {fd : FuncData} {ps : List Str} {sp : Sp} {dvs : List V} {ds : List Value} {E : XK} {x m : Str} {p pos apos : Pos} {e o : Expr} {es : List Expr} {ta : TE} {t : TA}

theorem run_fn {pins : List (Addr × Obj)} {σ : St} {H : Hp} {s : Shared} {Q : VK} {us : List Value} {vs : List V} (F : FnOk X.prog X.w X.K X.mg X.base CX k f fd ps sp) (hr : Room k X.A) (hb : Binds X.K fd ps ds) (hd : Vals dvs ds) (hx : Passes CX X E)
    (I : Inv X pins σ H s) (r : Vals vs us) (h : sp (vs ++ dvs) H Q E) : wpAny (model X.prog X.w) X.A (call (.ref f) us) (EP X pins σ Q) X.xe s := by
  have r2 : Vals (vs ++ dvs) (us ++ ds) := r.append hd
  have hl : (us ++ ds).length = ps.length := by rw [← r2.length]; exact F.len _ _ _ _ h
  refine wpAny_call (codeAny_mono (F.run X.A X.stack s H ⟨us, []⟩ (us ++ ds) (vs ++ dvs) Q E hr I.env0 (hb s us I.kIn hl) r2 h) fun r s' hq => ?_)
  cases r with
  | error e => exact hx pins σ H s e s' I hq
  | ok fl =>
    cases fl with
    | ret u => exact I.after hq
    | next => exact False.elim hq
    | brk => exact False.elim hq
    | cont => exact False.elim hq

theorem pe_call (F : FnOk X.prog X.w X.K X.mg X.base CX k f fd ps sp) (hr : Room k X.A) (hg : Gl X x) (hm : X.mg x = some (.ref f)) (hk : PySem.W.keepIn X.K (.ref f) = true) (hb : Binds X.K fd ps ds) (hd : Vals dvs ds) (hx : Passes CX X E)
    (ha : PA X (e :: es) t) (hdb : (x == ("__debug__" : Str)) = false := by decide) (he : starEach (e :: es) X.env = (false, eval e X.env) :: starEach es X.env := by rfl) (hpl : (backTo pos (starEach es X.env)).any (·.1) = false := by rfl) :
    PE X (.Call (.Name x p) (e :: es) [] pos) (tCall sp dvs E t) := by
  intro pins s σ H Q I h
  refine wpAny_Call_Name_kw (ld_glob I hg hm ?_ hdb)
  refine PySem.W.callWith_K (h₀ := X.base) I.ok.mod.kin hk (thn (ha pos pins s σ H _ I h) fun us s1 ⟨vs, H1, I1, r, q⟩ => ⟨I1.kIn, ?_⟩) he hpl
  exact run_fn F hr hb hd hx I1 r q
end

section
variable {X : Cx} {CX : CXT} {k : Nat} {f C : Addr} {fd : FuncData} {ps ks : List Str} {sp : Sp} {E : XK} {x m : Str} {p pos apos kpos : Pos} {e o : Expr} {es : List Expr} {kws : List Keyword} {te ta : TE} {t tk : TA} {nm : Option Str}
variable {g : List Value → List Value → List Value} {gV : List V → List V → List V}
end

structure FnScope (N P : List Str) (sc : Scope) : Prop where
  kind : sc.kind = .function
  co : sc.isCoroutine = false
  gen : sc.isGenerator = false
  nd : N.Nodup
  pre : N.take P.length = P
  par : ∀ x ∈ P, sc.names.lookup x = some .local ∨ sc.names.lookup x = some .cell
  nofree : ∀ y ∈ sc.names, y.2 ≠ .free

theorem bindL_out {kindOf : Str → Option NameKind} {x : Str} : ∀ {binds : List (Str × Value)} {m : Str → Option Value}, (∀ v, (x, v) ∉ binds) → bindL kindOf binds m x = m x
  | [], _, _ => rfl
  | (n, v) :: r, m, h => by
    unfold bindL
    rw [bindL_out fun w hw => h w (List.mem_cons_of_mem _ hw)]
    split
    · have : x ≠ n := by rintro rfl; exact h v List.mem_cons_self
      simp [this]
    · rfl
theorem bindC_out {kindOf : Str → Option NameKind} {x : Str} : ∀ {binds : List (Str × Value)} {m : Str → Option Value}, (∀ v, (x, v) ∉ binds) → bindC kindOf binds m x = m x
  | [], _, _ => rfl
  | (n, v) :: r, m, h => by
    unfold bindC
    rw [bindC_out fun w hw => h w (List.mem_cons_of_mem _ hw)]
    split
    · rfl
    · have : x ≠ n := by rintro rfl; exact h v List.mem_cons_self
      simp [this]
theorem bindL_get {kindOf : Str → Option NameKind} {x : Str} {v : Value} : ∀ {P : List Str} {vs : List Value} {i : Nat} {m : Str → Option Value}, P.Nodup → P[i]? = some x → vs[i]? = some v → kindOf x = some .local →
    bindL kindOf (P.zip vs) m x = some v
  | [], _, _, _, _, h, _, _ => by simp at h
  | _ :: _, [], _, _, _, _, h, _ => by simp at h
  | p :: P, w :: vs, 0, m, nd, h1, h2, hk => by
    simp at h1 h2; subst h1; subst h2
    show bindL kindOf ((p, w) :: P.zip vs) m p = _
    unfold bindL
    rw [bindL_out fun v hv => (List.nodup_cons.mp nd).1 (List.of_mem_zip hv).1, if_pos hk]
    simp
  | p :: P, w :: vs, i + 1, m, nd, h1, h2, hk => by
    show bindL kindOf ((p, w) :: P.zip vs) m x = _
    unfold bindL
    exact bindL_get (i := i) (List.nodup_cons.mp nd).2 (by simpa using h1) (by simpa using h2) hk
theorem bindC_get {kindOf : Str → Option NameKind} {x : Str} {v : Value} : ∀ {P : List Str} {vs : List Value} {i : Nat} {m : Str → Option Value}, P.Nodup → P[i]? = some x → vs[i]? = some v → kindOf x ≠ some .local →
    bindC kindOf (P.zip vs) m x = some v
  | [], _, _, _, _, h, _, _ => by simp at h
  | _ :: _, [], _, _, _, _, h, _ => by simp at h
  | p :: P, w :: vs, 0, m, nd, h1, h2, hk => by
    simp at h1 h2; subst h1; subst h2
    show bindC kindOf ((p, w) :: P.zip vs) m p = _
    unfold bindC
    rw [bindC_out fun v hv => (List.nodup_cons.mp nd).1 (List.of_mem_zip hv).1, if_neg hk]
    simp
  | p :: P, w :: vs, i + 1, m, nd, h1, h2, hk => by
    show bindC kindOf ((p, w) :: P.zip vs) m x = _
    unfold bindC
    exact bindC_get (i := i) (List.nodup_cons.mp nd).2 (by simpa using h1) (by simpa using h2) hk

def start (N : List Str) (vs : List V) : St := vs.map some ++ List.replicate (N.length - vs.length) none

def cxOf (CX : CXT) (P : Program) (w : World) (K : PySem.W.Frag) (mg : Str → Option Value) (base : Heap) (N : List Str) (qual : Str) (scope : Scope) (f : Addr) (cd : Value) (A : Around) (outer : List Env) (s : Shared) (H : Hp) (E : XK) : Cx where
  prog := P
  w := w
  K := K
  mg := mg
  base := base
  A := A.deeper (envOfC qual scope s.heap.objs.size f cd)
  N := N
  s₀ := s
  H₀ := H
  env := envOfC qual scope s.heap.objs.size f cd
  outer := outer
  stack := envOfC qual scope s.heap.objs.size f cd :: outer
  ex := []
  calm := true
  fn := fun _ => true
  pn := []
  xe := fun e s' => wpAny (model P w) (A.deeper (envOfC qual scope s.heap.objs.size f cd)) (leaving (envOfC qual scope s.heap.objs.size f cd) e) (fun _ s'' => CX outer H s E e s'') (fun e' s'' => CX outer H s E e' s'') s'

theorem cell_has {sc : Scope} {n : Nat} {x : Str} (h : sc.names.lookup x = some .cell) : ∃ c, (cellsFrom n sc.names []).lookup x = some c := by
  have q := PySem.W.cellsFrom_some sc.names n [] (.inl h)
  exact Option.isSome_iff_exists.mp q

theorem inv_start {CX : CXT} {P : Program} {w : World} {K : PySem.W.Frag} {mg : Str → Option Value} {base : Heap} {N ps : List Str} {qual : Str} {scope : Scope} {f : Addr} {cd : Value} {A : Around} {outer : List Env} {s s1 : Shared} {H : Hp} {E : XK} {us : List Value} {vs : List V}
    (S : FnScope N ps scope) (hd : A.handled = none) (e0 : Env0 P w K mg base A outer s H) (hl : vs.length = ps.length) (r : Vals vs us)
    (x : InCallC s s.heap.objs.size (bindL (envOfC qual scope s.heap.objs.size f cd).kindOf (ps.zip us) fun _ => none) (cellsFrom (s.heap.objs.size + 1) scope.names []) (bindC (envOfC qual scope s.heap.objs.size f cd).kindOf (ps.zip us) fun _ => none) s1) :
    Inv (cxOf CX P w K mg base N qual scope f cd A outer s H E) [] (start N vs) H s1 := by
  have hpl : ps.length ≤ N.length := by have := congrArg List.length S.pre; rw [List.length_take] at this; omega
  obtain ⟨h1, tk, rfl, hk⟩ := x.done
  have noA : ∀ b : Addr, b ∉ (cxOf CX P w K mg base N qual scope f cd A outer s H E).ex := fun b z => absurd (show b ∈ ([] : List Addr) from z) (by simp)
  refine ⟨⟨e0.mod, S.kind, rfl, rfl, Nat.le_refl _, fun y z c h1 h2 => ?_, fun y hy => ?_, fun y c _ h => ?_, fun _ => hd, Around.frames_deeper e0.frames, .inr ⟨rfl, rfl⟩, fun b z => absurd z (noA b), e0.bs, e0.bsz, fun b _ _ => noA b, fun b z => absurd z (noA b), e0.funs, e0.frf⟩,
    rfl, e0.bare, Un.kept hk, ⟨_, x.toInCall.ns, fun i y v h1 h2 h3 => ?_⟩, fun y c h => ⟨_, x.cell y c h⟩, e0.hok.fresh (Nat.le_refl _), fun y c h => ?_, fun p hp => absurd (show p ∈ ([] : List (Addr × Obj)) from hp) (by simp), e0.hok.kept hk, ?_⟩
  · exact name_of_addr x.apart (PySem.mem_of_lookup h1) (PySem.mem_of_lookup h2)
  · have hy : scope.names.lookup y = some .cell ∨ scope.names.lookup y = some .free := hy
    rcases hy with hy | hy
    · exact cell_has hy
    · exact absurd rfl (S.nofree _ (PySem.mem_of_lookup hy))
  · exact Nat.le_of_lt (x.above y c (PySem.mem_of_lookup h))
  · have hi : i < vs.length := by
      unfold start at h2
      by_cases hi : i < vs.length
      · exact hi
      · rw [List.getElem?_append_right (by simpa using hi)] at h2
        rw [List.getElem?_replicate] at h2
        split at h2 <;> cases h2
    have ha : vs[i]? = some v := by
      unfold start at h2
      rw [List.getElem?_append_left (by simpa using hi), List.getElem?_map] at h2
      cases e : vs[i]? with
      | none => rw [e] at h2; cases h2
      | some a => rw [e] at h2; cases h2; rfl
    obtain ⟨u, hu, rv⟩ := r.get ha
    have hp : ps[i]? = some y := by
      rw [← S.pre, List.getElem?_take_of_lt (by omega)]; exact h1
    have ndP : ps.Nodup := by rw [← S.pre]; exact S.nd.sublist (List.take_sublist _ _)
    refine ⟨u, rv, ?_⟩
    rcases S.par y (List.mem_of_getElem? hp) with k | k
    · exact .inl ⟨k, bindL_get ndP hp hu k⟩
    · obtain ⟨c, e⟩ := cell_has (n := s.heap.objs.size + 1) k
      refine .inr ⟨.inl k, c, e, ?_⟩
      have q := x.cell y c e
      rw [bindC_get ndP hp hu (by show scope.names.lookup y ≠ _; rw [k]; decide)] at q
      exact q
  · exact e0.hok.fresh (Nat.le_of_lt (x.above y c (PySem.mem_of_lookup h)))
  · unfold start
    show _ = N.length
    rw [List.length_append, List.length_map, List.length_replicate]
    omega

theorem fn_of {CX : CXT} {P : Program} {w : World} {K : PySem.W.Frag} {mg : Str → Option Value} {base : Heap} {k : Nat} {f : Addr} {name qual : Str} {params : Arguments} {body : List Stmt} {scope : Scope} {dV kV doc pm cdv ct oc : Value} {an od : Option Addr}
    {osl : Array (Option Value)} {N ps : List Str} {sp : Sp} (lk : K.lookup f = some ⟨oc, od, .func (PySem.W.fnOf name qual params body scope dV kV doc pm an cdv ct), osl⟩) (hcd : PySem.W.codeIn K cdv qual = true) (S : FnScope N ps scope)
    (len : ∀ vs H Q E, sp vs H Q E → vs.length = ps.length)
    (hbody : ∀ (A : Around) (outer : List Env) (s : Shared) (H : Hp) (vs : List V) (Q : VK) (E : XK), Room k (A.deeper (envOfC qual scope s.heap.objs.size f cdv)) → sp vs H Q E →
      ∃ t, PSs (cxOf CX P w K mg base N qual scope f cdv A outer s H E) body t ∧ t { nx := fun _ H' => Q .non H', rt := Q } (start N vs) H) :
    FnOk P w K mg base CX (k + 1) f (PySem.W.fnOf name qual params body scope dV kV doc pm an cdv ct) ps sp := by
  refine ⟨len, fun A outer s H args us vs Q E hr e0 hb r hsp => ?_⟩
  have hl := len _ _ _ _ hsp
  have KX : K.In s.heap := e0.mod.kin.keeps fun b o e => (e0.bs b o e).1
  have lim : s.heap.NoLimit := e0.mod.nolimit.keeps fun b o e => (e0.bs b o e).1
  have hkind : ∀ y ∈ ps.zip us, scope.names.lookup y.1 = some .local ∨ (scope.names.lookup y.1 = some .cell ∧ ((cellsFrom (s.heap.objs.size + 1) scope.names []).lookup y.1).isSome = true) := fun ⟨n, v⟩ hy => by
    rcases S.par n (List.of_mem_zip hy).1 with q | q
    · exact .inl q
    · exact .inr ⟨q, PySem.W.cellsFrom_some _ _ _ (.inl q)⟩
  refine codeAny_call_function hr.depth (KX _ _ lk) rfl S.co S.gen rfl (PySem.W.codeRec_of KX hcd) (hb _ _ _ _ ?_)
  refine wpAny_newFunctionEnv_cells S.kind hkind fun env he s1 x => ?_
  subst he
  refine ⟨lim.keeps x.toInCall.keep, codeAny_func ?_⟩
  obtain ⟨t, ht, hq⟩ := hbody A outer s H vs Q E (hr.deeper _) hsp
  have I : Inv (cxOf CX P w K mg base N qual scope f cdv A outer s H E) [] (start N vs) H s1 := inv_start S hr.hd e0 hl r x
  refine wpAny_mono (ht [] s1 (start N vs) H _ I hq) (fun fl s' hs => ?_) fun e s' hs => hs
  have fin : ∀ {σ' : St} {H' : Hp} {v : V} {u : Value}, Inv (cxOf CX P w K mg base N qual scope f cdv A outer s H E) [] σ' H' s' → RelV v u → Q v H' → CE outer P w H s Q u s' :=
    fun {σ' H' v u} J rv q => ⟨v, H', J.os, J.bare, J.base, J.hok, rv, q⟩
  cases fl with
  | ret u =>
    obtain ⟨v, σ', H', J, rv, q⟩ := hs
    exact fin J rv q
  | next =>
    obtain ⟨σ', H', J, q⟩ := hs
    exact fin (v := V.non) (u := Value.none) J rfl q
  | brk =>
    obtain ⟨_, _, _, q⟩ := hs
    exact False.elim q
  | cont =>
    obtain ⟨_, _, _, q⟩ := hs
    exact False.elim q
end L2

namespace L2
open PySem PySem.Spec PyProof.Rows
section
variable {X : Cx} {x : Str} {p pos : Pos} {e : Expr} {es : List Expr} {t : TA} {id T : String} {r : List V → Hp → VK → Prop}

def tCB (r : List V → Hp → VK → Prop) (t : TA) : TE := fun σ H Q => t σ H fun vs H1 => r vs H1 Q

theorem pe_callB (hc : CallR X (.builtin id) r) (hg : Gl X x) (hm : X.mg x = none) (hv : bootBuiltins x = some (.builtin id)) (ha : PA X (e :: es) t) (hn : x ≠ "__name__" := by decide) (hdb : (x == ("__debug__" : Str)) = false := by decide)
    (he : starEach (e :: es) X.env = (false, eval e X.env) :: starEach es X.env := by rfl) (hpl : (backTo pos (starEach es X.env)).any (·.1) = false := by rfl) : PE X (.Call (.Name x p) (e :: es) [] pos) (tCB r t) := by
  intro pins s σ H Q I h
  refine wpAny_Call_Name_kw (ld_blt I hg hm hv ?_ hn hdb)
  exact PyProof.Rows.callWith_builtin1 (thn (ha pos pins s σ H _ I h) fun us s1 ⟨vs, H1, I1, r1, q1⟩ => hc pins s1 σ H1 vs us Q I1 r1 q1) he hpl

theorem pe_callTy (hc : CallR X (.type T) r) (hg : Gl X x) (hm : X.mg x = none) (hv : bootBuiltins x = some (.type T)) (ha : PA X (e :: es) t) (hn : x ≠ "__name__" := by decide) (hdb : (x == ("__debug__" : Str)) = false := by decide)
    (he : starEach (e :: es) X.env = (false, eval e X.env) :: starEach es X.env := by rfl) (hpl : (backTo pos (starEach es X.env)).any (·.1) = false := by rfl) : PE X (.Call (.Name x p) (e :: es) [] pos) (tCB r t) := by
  intro pins s σ H Q I h
  refine wpAny_Call_Name_kw (ld_blt I hg hm hv ?_ hn hdb)
  exact PyProof.Rows.callWith_type1 (thn (ha pos pins s σ H _ I h) fun us s1 ⟨vs, H1, I1, r1, q1⟩ => hc pins s1 σ H1 vs us Q I1 r1 q1) he hpl

end
end L2

namespace L2
open PySem PySem.Spec PyProof.Rows

section
variable {κ : Type} [DecidableEq κ]
end

section
variable {P : Program} {w : World} {H : Hp} {h : Heap} {a : Addr}
end

section
variable {X : Cx} {pins : List (Addr × Obj)} {σ : St} {H : Hp} {s : Shared} {a : Addr} {y v : V} {u r : Value} {o : Option V} {A : Around} {E : Value → Shared → Prop}

end

section
variable {X : Cx} {pins : List (Addr × Obj)} {σ : St} {H : Hp} {s : Shared} {a : Addr} {kvs : List (Key × V)} {k : Key} {u : Value} {A : Around} {E : Value → Shared → Prop}

end

section
variable {X : Cx} {o i e value : Expr} {pos pos' tpos : Pos} {td ty tv : TE}
end

section
variable {X : Cx} {pos : Pos}
end

structure M1 (X : Cx) (o : Expr) (m : Str) (apos : Pos) (e : Expr) (cpos : Pos) : Prop where
  base : attributeBase o m X.env (eval o X.env) = eval o X.env
  few : ((backTo cpos (starEach [e] X.env)).all (fun x => !x.1) && (backToKw cpos (keywordEach [] X.env)).all (fun x => x.1.isSome)
    && decide (([e] : List Expr).length + ([] : List Keyword).length + (if ([] : List Keyword).isEmpty then 0 else 1) < 30)) = true
  line : (apos.endLine == cpos.line) = true
  trees : backTo cpos (starEach [e] X.env) = [(false, eval e X.env)]
section
variable {X : Cx} {pins : List (Addr × Obj)} {σ : St} {H : Hp} {s : Shared} {a : Addr} {y d : V} {u r : Value} {o : Option V} {A : Around} {E : Value → Shared → Prop}

end

section
variable {X : Cx} {o e f : Expr} {apos cpos : Pos} {td ty tx : TE}
end

section
variable {X : Cx} {pins : List (Addr × Obj)} {σ : St} {H : Hp} {s : Shared} {a : Addr} {kvs : List (Key × V)} {A : Around} {E : Value → Shared → Prop}
end

section
variable {X : Cx} {pins : List (Addr × Obj)} {σ : St} {H : Hp} {s : Shared} {a : Addr} {y : V} {u : Value} {A : Around} {E : Value → Shared → Prop}

end
end L2

namespace HT
open PySem PyProof.Rows

section
open PySem.SeqAt
open PySem.AutoSeq1 (wpAny_loadPart')
open PySem.MeetsSeq PySem.MeetsSeq2 PySem.MeetsSeq3

end

section
variable {prog : Program} {w : World} {A : Around} {E : Value → Shared → Prop} {s : Shared}

def sIx (n d : Nat) : Option Int → Nat
  | none => d
  | some v => if v < 0 then (v + (n : Int)).toNat else min v.toNat n
end
end HT

namespace L2
open PySem PySem.Spec PyProof.Rows

abbrev TO := St → Hp → (Option Int → Hp → Prop) → Prop

def PO (X : Cx) (e : Option Expr) (t : TO) : Prop :=
  ∀ (pins : List (Addr × Obj)) (s : Shared) (σ : St) (H : Hp) (Q : Option Int → Hp → Prop), Inv X pins σ H s → t σ H Q →
    wpAny (model X.prog X.w) X.A (evalPart e X.env) (fun u s' => ∃ o H', Inv X pins σ H' s' ∧ IsPart u o ∧ Q o H') X.xe s
def tNoPart : TO := fun _ H Q => Q none H
def tPart (t : TE) : TO := fun σ H Q => t σ H fun x H1 => ∃ i, x = .int i ∧ Q (some i) H1

section
variable {X : Cx} {e : Expr} {te : TE} {lo hi : Option Expr} {tl th : TO} {pos p2 : Pos}

theorem po_none : PO X none tNoPart := by
  intro pins s σ H Q I h
  rw [evalPart_none]
  exact wpAny_pure ⟨none, H, I, .none, h⟩
theorem po_some (h : PE X e te) : PO X (some e) (tPart te) := by
  intro pins s σ H Q I hw
  rw [evalPart_some]
  refine thn (h pins s σ H _ I hw) fun u s1 ⟨x, H1, I1, r1, q1⟩ => ?_
  obtain ⟨i, rfl, q⟩ := q1
  obtain ⟨t, rfl⟩ := r1
  exact ⟨some i, H1, I1, .int i t, q⟩

def SlR (X : Cx) (r : V → Option Int → Option Int → Hp → VK → Prop) : Prop :=
  ∀ (pins : List (Addr × Obj)) (s : Shared) (σ : St) (H : Hp) (x : V) (v vl vu : Value) (lo hi : Option Int) (sl : Addr) (Q : VK), Inv X pins σ H s → RelV x v → s.heap.IsSliceOf sl vl vu .none → IsPart vl lo → IsPart vu hi → r x lo hi H Q →
    ∃ T id, typeLookup (.type T) "__getitem__" = pure (some (.builtin id)) ∧ s.TypeIs v T ∧ wpAny (model X.prog X.w) X.A (getItem v (.ref sl)) (EP X pins σ Q) X.xe s
def tSl (r : V → Option Int → Option Int → Hp → VK → Prop) (te : TE) (tl th : TO) : TE := fun σ H Q => te σ H fun x H1 => tl σ H1 fun l H2 => th σ H2 fun u H3 => r x l u H3 Q

theorem pe_slice {r : V → Option Int → Option Int → Hp → VK → Prop} (hr : SlR X r) (he : PE X e te) (hl : PO X lo tl) (hu : PO X hi th) : PE X (.Subscript e (.Slice lo hi none p2) pos) (tSl r te tl th) := by
  intro pins s σ H Q I h
  refine Subscript_ (thn (he pins s σ H _ I h) fun v s1 ⟨x, H1, I1, r1, q1⟩ => ?_)
  refine wpAny_Slice (thn (hl pins s1 σ H1 _ I1 q1) fun vl s2 ⟨l, H2, I2, pl, q2⟩ => thn (hu pins s2 σ H2 _ I2 q2) fun vu s3 ⟨u, H3, I3, pu, q3⟩ => ?_)
  rw [evalPart_none]
  refine wpAny_pure ?_
  have I4 : Inv X pins σ H3 { s3 with heap := s3.heap.push { cls := .type "slice", data := .fields #[vl, vu, .none] } } := I3.kept (t' := s3.toks) fun b ob q => Heap.get?_push_of_some _ q
  obtain ⟨T, id, hT, ht, hg⟩ := hr pins { s3 with heap := s3.heap.push { cls := .type "slice", data := .fields #[vl, vu, .none] } } σ H3 x v vl vu l u s3.heap.objs.size Q I4 r1 (Heap.IsSliceOf.new ..) pl pu q3
  show wpAny (model X.prog X.w) X.A (subscriptTail e (.Slice lo hi none p2) v (.ref s3.heap.objs.size)) (EP X pins σ Q) X.xe { s3 with heap := s3.heap.push { cls := .type "slice", data := .fields #[vl, vu, .none] } }
  exact tail_any (ops := [.ref s3.heap.objs.size, v]) ht hT hg (by with_unfolding_all rfl)

def cutV (xs : List V) (lo hi : Option Int) : List V := (xs.drop (HT.sIx xs.length 0 lo)).take (HT.sIx xs.length xs.length hi - HT.sIx xs.length 0 lo)
theorem cutV_length (xs : List V) (lo hi : Option Int) : (cutV xs lo hi).length ≤ xs.length := by
  unfold cutV
  rw [List.length_take, List.length_drop]
  omega

end
end L2

namespace L2
open PySem PySem.Spec PyProof.Rows

def ixN (n : Nat) (i : Int) : Option Nat := if 0 ≤ i then (if i < n then some i.toNat else none) else if -(n : Int) ≤ i then some (i + n).toNat else none
def atI {α : Type} (xs : List α) (i : Int) : Option α := (ixN xs.length i).bind fun j => xs[j]?
theorem ixN_seq {n : Nat} {i : Int} {j : Nat} (h : ixN n i = some j) : seqIndex? i n = some j ∧ j < n ∧ -(n : Int) ≤ i ∧ i < n := by
  unfold ixN at h
  by_cases h0 : 0 ≤ i
  · rw [if_pos h0] at h
    by_cases h1 : i < n
    · rw [if_pos h1] at h
      have e : i.toNat = j := Option.some.inj h
      exact ⟨by rw [seqIndex_of h0 h1, e], by omega, by omega, h1⟩
    · rw [if_neg h1] at h; cases h
  · rw [if_neg h0] at h
    by_cases h1 : -(n : Int) ≤ i
    · rw [if_pos h1] at h
      have e : (i + n).toNat = j := Option.some.inj h
      exact ⟨by rw [seqIndex_neg (by omega) h1, e], by omega, h1, by omega⟩
    · rw [if_neg h1] at h; cases h
theorem atI_get {α : Type} {xs : List α} {i : Int} {v : α} (h : atI xs i = some v) : ∃ j, seqIndex? i xs.length = some j ∧ xs[j]? = some v ∧ j < xs.length ∧ -(xs.length : Int) ≤ i ∧ i < xs.length := by
  unfold atI at h
  cases e : ixN xs.length i with
  | none => rw [e] at h; cases h
  | some j =>
    rw [e] at h
    obtain ⟨h1, h2, h3, h4⟩ := ixN_seq e
    exact ⟨j, h1, h, h2, h3, h4⟩
theorem atI_nat {α : Type} {xs : List α} {j : Nat} {v : α} (h : xs[j]? = some v) : atI xs (j : Int) = some v := by
  have hj : j < xs.length := (List.getElem?_eq_some_iff.mp h).1
  have e : ixN xs.length (j : Int) = some j := by
    unfold ixN
    rw [if_pos (by omega), if_pos (by omega)]; simp
  unfold atI; rw [e]; exact h
def PlainIx (b : Expr) : Prop := ∀ o i, subscripted b false o i = operate [o, i] (getItem o i)

def IxR (X : Cx) (r : R2) : Prop :=
  ∀ (value slice : Expr) (pins : List (Addr × Obj)) (s : Shared) (σ : St) (H : Hp) (x y : V) (v u : Value) (Q : VK), Inv X pins σ H s → RelV x v → RelV y u → r x y H Q →
    subscripted slice false v u = operate [v, u] (getItem v u) → wpAny (model X.prog X.w) X.A (subscriptTail value slice v u) (EP X pins σ Q) X.xe s

def MtR (X : Cx) (id : String) (r : V → List V → Hp → VK → Prop) : Prop :=
  ∀ (pins : List (Addr × Obj)) (s : Shared) (σ : St) (H : Hp) (x : V) (xs : List V) (v : Value) (us : List Value) (Q : VK), Inv X pins σ H s → RelV x v → Vals xs us → r x xs H Q →
    wpAny (model X.prog X.w) X.A (call (.builtin id) (v :: us)) (EP X pins σ Q) X.xe s
section
variable {X : Cx} {a b : Expr} {ta tb : TE} {pos : Pos}
theorem IxR.or {r r' : R2} (h : IxR X r) (h' : IxR X r') : IxR X (fun x y H Q => r x y H Q ∨ r' x y H Q) := by
  intro value slice pins s σ H x y v u Q I rx ry q hs
  rcases q with q | q
  · exact h value slice pins s σ H x y v u Q I rx ry q hs
  · exact h' value slice pins s σ H x y v u Q I rx ry q hs
theorem pe_ix {r : R2} (hr : IxR X r) (ha : PE X a ta) (hb : PE X b tb) (hs : PlainIx b) : PE X (.Subscript a b pos) (tOp r ta tb) := by
  intro pins s σ H Q I h
  exact Subscript_ (binT ha hb I h fun v u s2 x y H2 I2 rx ry q => hr a b pins s2 σ H2 x y v u Q I2 rx ry q (hs _ _))

def rIxL (K : PySem.W.Frag) : R2 := fun x y H Q => ∃ p xs i v, x = .ref p ∧ y = .int i ∧ SqL K H p xs ∧ atI xs i = some v ∧ Q v H
def rIxT (K : PySem.W.Frag) : R2 := fun x y H Q => ∃ p xs i v, x = .ref p ∧ y = .int i ∧ SqT K H p xs ∧ atI xs i = some v ∧ Q v H
def rIxS : R2 := fun x y H Q => ∃ z i c, x = .str z ∧ y = .int i ∧ z.length ≤ sizeLine ∧ atI z.cps.toList i = some c ∧ Q (.str ⟨#[c]⟩) H
theorem ix_list : IxR X (rIxL X.K) := by
  intro value slice pins s σ H x y v u Q I rx ry h hs
  obtain ⟨p, xs, i, z, rfl, rfl, hq, he, q⟩ := h
  cases rx
  obtain ⟨t, rfl⟩ := ry
  obtain ⟨its, r, pl, hz⟩ := I.list hq
  obtain ⟨j, h1, h2, h3, h4, h5⟩ := atI_get he
  obtain ⟨w, ew, rw'⟩ := r.get h2
  have hl := r.length
  have hn := line63
  have fin : EP X pins σ Q w s := ⟨z, H, I, rw', q⟩
  by_cases h0 : 0 ≤ i
  · have hj : i.toNat = j := by
      rw [seqIndex_of h0 h5] at h1
      exact Option.some.inj h1
    exact item_listR pl.isList h0 (by omega) (by rw [hj]; simpa using ew) fin hs
  · have hj : (i + (its.toArray.size : Int)).toNat = j := by
      rw [seqIndex_neg (by omega) h4] at h1
      rw [List.size_toArray, ← hl]
      exact Option.some.inj h1
    exact subscriptTail_builtinR (x := w) pl.isList.typeIs slot_list_getitem.lookup
      (wpAny_getItem_list_neg (Q := fun r s' => r = w ∧ EP X pins σ Q r s') pl.isList (by omega) (by rw [List.size_toArray] <;> omega) (by omega) (by rw [hj]; simpa using ew) ⟨rfl, fin⟩) hs
theorem ix_tup : IxR X (rIxT X.K) := by
  intro value slice pins s σ H x y v u Q I rx ry h hs
  obtain ⟨p, xs, i, z, rfl, rfl, hq, he, q⟩ := h
  cases rx
  obtain ⟨t, rfl⟩ := ry
  obtain ⟨its, r, pl, hz⟩ := I.tuple hq
  obtain ⟨j, h1, h2, h3, h4, h5⟩ := atI_get he
  obtain ⟨w, ew, rw'⟩ := r.get h2
  have hl := r.length
  have hn := line63
  have fin : EP X pins σ Q w s := ⟨z, H, I, rw', q⟩
  exact subscriptTail_builtinR (x := w) pl.typeIs slot_tuple_getitem.lookup
    (getItem_tuple (j := j) (Q := fun r s' => r = w ∧ EP X pins σ Q r s') pl (by omega) (by omega) (by rw [List.size_toArray, ← hl]; exact h1) (by simpa using ew) ⟨rfl, fin⟩) hs
theorem ix_str : IxR X rIxS := by
  intro value slice pins s σ H x y v u Q I rx ry h hs
  obtain ⟨z, i, c, rfl, rfl, hz, he, q⟩ := h
  obtain ⟨t, rfl⟩ := rx
  obtain ⟨t', rfl⟩ := ry
  obtain ⟨j, h1, h2, h3, h4, h5⟩ := atI_get he
  have hl : z.cps.toList.length = z.length := by simp [Str.length]
  rw [hl] at h1 h4 h5
  have hn := line63
  exact tail_any (typeIs_str s z t) slot_str_getitem.lookup (getItem_str (c := c) (by
    have e1 : decide (i < -(2 ^ 63 : Int)) = false := decide_eq_false (by omega)
    have e2 : decide (i ≥ 2 ^ 63) = false := decide_eq_false (by omega)
    rw [e1, e2, Bool.or_false]) (by rw [h1]; simpa using h2) ⟨.str ⟨#[c]⟩, H, I.tok _, ⟨_, rfl⟩, q⟩) hs

def rIx (K : PySem.W.Frag) : R2 := fun x y H Q => rIxL K x y H Q ∨ rIxT K x y H Q ∨ rIxS x y H Q
theorem ix_seq : IxR X (rIx X.K) := ix_list.or (ix_tup.or ix_str)

theorem slice_bounds (lo hi : Option Int) (n : Nat) : (sliceBounds lo hi none n).1 = ((HT.sIx n 0 lo : Nat) : Int) ∧ (sliceBounds lo hi none n).2.1 = ((HT.sIx n n hi : Nat) : Int) ∧ (sliceBounds lo hi none n).2.2 = 1 := by
  refine ⟨?_, ?_, rfl⟩
  · cases lo with
    | none => simp [sliceBounds, HT.sIx]
    | some i =>
      simp only [sliceBounds, HT.sIx, Option.getD_none, show (1 : Int) > 0 by decide, if_true]
      by_cases h : i < 0
      · simp only [h, if_true] <;> omega
      · simp only [h, if_false] <;> omega
  · cases hi with
    | none => simp [sliceBounds, HT.sIx]
    | some i =>
      simp only [sliceBounds, HT.sIx, Option.getD_none, show (1 : Int) > 0 by decide, if_true]
      by_cases h : i < 0
      · simp only [h, if_true] <;> omega
      · simp only [h, if_false] <;> omega
theorem slicePick_cut (its : List Value) (lo hi : Option Int) : slicePick its.toArray lo hi none = ((its.drop (HT.sIx its.length 0 lo)).take (HT.sIx its.length its.length hi - HT.sIx its.length 0 lo)).toArray := by
  obtain ⟨h1, h2, h3⟩ := slice_bounds lo hi its.toArray.size
  unfold slicePick
  rw [h1, h2, h3]
  simp only [sliceRange_one, pick_run, List.size_toArray] <;> rfl

def rSlL (K : PySem.W.Frag) : V → Option Int → Option Int → Hp → VK → Prop := fun x lo hi H Q => ∃ a xs, x = .ref a ∧ SqL K H a xs ∧ ∀ p, H p = none → Q (.ref p) (upd H p (.lst (cutV xs lo hi)))
theorem sl_list : SlR X (rSlL X.K) := by
  intro pins s σ H x v vl vu lo hi sl Q I rx hs pl pu h
  obtain ⟨a, xs, rfl, hx, q⟩ := h
  cases rx
  obtain ⟨its, r, ht, hz⟩ := I.list hx
  have hlen := r.length
  refine ⟨"list", _, slot_list_getitem.lookup, ht.isList.typeIs, ?_⟩
  refine wpAny_getItem_list_slice ht.isList hs pl pu .none (by simp) ?_ (by rw [List.size_toArray] <;> omega)
  rw [slicePick_cut, ← hlen]
  refine ⟨.ref s.heap.objs.size, _, I.laid (t' := s.toks) (o := .lst (cutV xs lo hi)) (fun b ob q => Heap.get?_push_of_some _ q) (Nat.le_refl _) ?_, rfl, q _ (I.hok.fresh (Nat.le_refl _))⟩
  exact ⟨Nat.le_trans (cutV_length xs lo hi) hz, _, 0, (r.drop (HT.sIx xs.length 0 lo)).take (HT.sIx xs.length xs.length hi - HT.sIx xs.length 0 lo), Heap.get?_push_size _ rfl⟩

theorem call_len_seq : CallR X (.builtin "len") (fun xs H Q => ∃ p ys, xs = [.ref p] ∧ (SqL X.K H p ys ∨ SqT X.K H p ys) ∧ Q (.int ys.length) H) := by
  intro pins s σ H xs us Q I r h
  obtain ⟨p, ys, rfl, hq, q⟩ := h
  obtain ⟨u, rfl, rx⟩ := vals1 r
  cases rx
  have hn := line63
  rcases hq with hq | hq
  · obtain ⟨its, r', pl, hz⟩ := I.list hq
    have hlen := r'.length
    exact Calls.call_len_list pl.isList (by simp only [List.size_toArray] <;> omega) ⟨.int ys.length, H, I.tok _, ⟨s.toks + 1, by rw [List.size_toArray, hlen]⟩, q⟩
  · obtain ⟨its, r', pl, hz⟩ := I.tuple hq
    have hlen := r'.length
    exact len_tuple pl (by simp only [List.size_toArray] <;> omega) ⟨.int ys.length, H, I.tok _, ⟨s.toks + 1, by rw [List.size_toArray, hlen]⟩, q⟩
theorem call_len_str : CallR X (.builtin "len") (fun xs H Q => ∃ z, xs = [.str z] ∧ z.length ≤ sizeLine ∧ Q (.int z.length) H) := by
  intro pins s σ H xs us Q I r h
  obtain ⟨z, rfl, hz, q⟩ := h
  obtain ⟨u, rfl, t, rfl⟩ := vals1 r
  have hn := line63
  exact len_str (by omega) ⟨.int z.length, H, I.tok _, ⟨_, rfl⟩, q⟩
theorem call_tuple_of : CallR X (.type "tuple") (fun xs H Q => ∃ p ys, xs = [.ref p] ∧ ((SqL X.K H p ys ∧ ∀ l, H l = none → Q (.ref l) (upd H l (.tup ys))) ∨ (SqT X.K H p ys ∧ Q (.ref p) H))) := by
  intro pins s σ H xs us Q I r h
  obtain ⟨p, ys, rfl, h⟩ := h
  obtain ⟨u, rfl, rx⟩ := vals1 r
  cases rx
  rcases h with ⟨hq, q⟩ | ⟨hq, q⟩
  · obtain ⟨its, r', pl, hz⟩ := I.list hq
    have hlen := r'.length
    refine call_tuple_list pl.isList (fun h' kp => ?_) (by simp only [List.size_toArray] <;> omega)
    have I1 : Inv X pins σ H { s with heap := h' } := I.kept (t' := s.toks) kp
    have I2 : Inv X pins σ (upd H h'.objs.size (.tup ys)) { s with heap := h'.push { cls := .type "tuple", data := .seq its.toArray } } :=
      I1.laid (t' := s.toks) (fun b o e => Heap.get?_push_of_some _ e) (Nat.le_refl _) (show ObjOk X.prog X.w _ _ _ (.tup ys) from ⟨hz, its, r', IsTup.new _ _⟩)
    exact ⟨.ref h'.objs.size, _, I2, rfl, q _ (I1.hok.fresh (Nat.le_refl _))⟩
  · obtain ⟨its, r', pl, hz⟩ := I.tuple hq
    exact call_tuple_same pl ⟨.ref p, H, I, rfl, q⟩

def tyV (K : PySem.W.Frag) (T : String) (x : V) (H : Hp) : Prop := match x with
  | .str _ => T = "str"
  | .int _ => T = "int"
  | .ref p => (T = "list" ∧ ∃ xs, SqL K H p xs) ∨ (T = "tuple" ∧ ∃ o, K.lookup p = some o ∧ o.cls = .type "tuple" ∧ o.dict = none) ∨
      (T = "dict" ∧ ((∃ kvs, H p = some (.dK kvs)) ∨ ∃ kvs, H p = some (.dT kvs))) ∨ (T = "set" ∧ ∃ S n, H p = some (.set S n))
  | _ => False
theorem tyV_is {pins : List (Addr × Obj)} {σ : St} {H : Hp} {s : Shared} {T : String} {x : V} {v : Value} (I : Inv X pins σ H s) (r : RelV x v) (ty : tyV X.K T x H) :
    s.TypeIs v T ∧ ∀ a, v = .ref a → ∃ ob, s.heap.get? a = some ob ∧ ob.dict = none := by
  cases x with
  | str z =>
    obtain ⟨t, rfl⟩ := r
    cases (show T = "str" from ty)
    exact ⟨typeIs_str s z t, fun _ e => nomatch e⟩
  | int i =>
    obtain ⟨t, rfl⟩ := r
    cases (show T = "int" from ty)
    exact ⟨typeIs_int s i t, fun _ e => nomatch e⟩
  | ref p =>
    cases r
    rcases ty with ⟨rfl, xs, hq⟩ | ⟨rfl, o, hk, hc, hd⟩ | ⟨rfl, hk⟩ | ⟨rfl, S, n, hk⟩
    · obtain ⟨its, _, pl, _⟩ := I.list hq
      refine ⟨pl.isList.typeIs, fun a e => ?_⟩
      cases e
      obtain ⟨o, n, e, c, hd, _⟩ := pl
      exact ⟨o, e, hd⟩
    · refine ⟨⟨o, I.kIn p o hk, hc⟩, fun a e => ?_⟩
      cases e
      exact ⟨o, I.kIn _ o hk, hd⟩
    · have z : ∃ o, s.heap.get? p = some o ∧ o.ExactDict := by
        rcases hk with ⟨kvs, hk⟩ | ⟨kvs, hk⟩
        · obtain ⟨_, _, _, _, o, _, _, e, ex, _⟩ := I.hok p _ hk
          exact ⟨o, e, ex⟩
        · obtain ⟨_, _, _, _, o, _, _, e, ex, _⟩ := I.hok p _ hk
          exact ⟨o, e, ex⟩
      obtain ⟨o, e, ex⟩ := z
      refine ⟨⟨o, e, ex.1⟩, fun a e2 => ?_⟩
      cases e2
      exact ⟨o, e, ex.2.1⟩
    · obtain ⟨o, _, _, _, e, ex, _⟩ := I.hok p _ hk
      refine ⟨⟨o, e, ex.1⟩, fun a e2 => ?_⟩
      cases e2
      exact ⟨o, e, ex.2.1⟩
  | _ => exact False.elim ty
def tBM (K : PySem.W.Frag) (T : String) (r : V → List V → Hp → VK → Prop) (to : TE) (t : TA) : TE := fun σ H Q => to σ H fun x H1 => tyV K T x H1 ∧ t σ H1 fun xs H2 => r x xs H2 Q
variable {o e : Expr} {es : List Expr} {to : TE} {t : TA} {name : Str} {apos cpos : Pos} {T id : String} {r : V → List V → Hp → VK → Prop}
theorem pe_bm (pa : PlainAttrs T) (slot : Slot T name id) (hty : typeOf (.builtin id) = pure (.type "method_descriptor")) (hm : MtR X id r) (ho : PE X o to) (ha : PA X (e :: es) t)
    (hbase : attributeBase o name X.env (eval o X.env) = eval o X.env := by rfl)
    (hfew : ((backTo cpos (starEach (e :: es) X.env)).all (fun x => !x.1) && (backToKw cpos (keywordEach [] X.env)).all (fun x => x.1.isSome)
      && decide ((e :: es).length + ([] : List Keyword).length + (if ([] : List Keyword).isEmpty then 0 else 1) < 30)) = true := by rfl)
    (hline : (apos.endLine == cpos.line) = true := by rfl) (hs : starEach (e :: es) X.env = (false, eval e X.env) :: starEach es X.env := by rfl) (hplain : (backTo cpos (starEach es X.env)).any (·.1) = false := by rfl) :
    PE X (.Call (.Attribute o name apos) (e :: es) [] cpos) (tBM X.K T r to t) := by
  intro pins s σ H Q I h
  refine wpAny_Call_method_late hbase hfew hline rfl (thn (ho pins s σ H _ I h) fun v s1 ⟨x, H1, I1, r1, ty, q1⟩ => ?_)
  obtain ⟨h1, h2⟩ := tyV_is I1 r1 ty
  refine ⟨T, id, pa, slot, hty, h1, h2, ?_⟩
  have hA := ha cpos pins s1 σ H1 _ I1 q1
  rw [hs] at hA ⊢
  refine Calls.callWith_builtin (by show (false || (backTo cpos (starEach es X.env)).any (·.1)) = false; rw [hplain] <;> rfl) (Calls.evalArgs_plain ?_)
  exact thn hA fun us s2 ⟨vs, H2, I2, r2, q2⟩ => hm pins s2 σ H2 x vs v us Q I2 r1 r2 q2

end
end L2

namespace L2
open PySem PySem.Spec PyProof.Rows

def MtM (X : Cx) (id : String) (r : V → List V → Hp → VK → Prop) : Prop :=
  ∀ (pins : List (Addr × Obj)) (s : Shared) (σ : St) (H : Hp) (x : V) (xs : List V) (v : Value) (us : List Value) (Q : VK), Inv X pins σ H s → RelV x v → Vals xs us → r x xs H Q →
    wpAny (model X.prog X.w) X.A (call (.builtin id) (v :: us)) (EP X pins σ Q) X.xe s

theorem Vals.one : ∀ {x : V} {us : List Value}, Vals [x] us → ∃ u, us = [u] ∧ RelV x u
  | _, _, .cons r .nil => ⟨_, rfl, r⟩
section
variable {X : Cx} {pins : List (Addr × Obj)} {σ : St} {H : Hp} {s : Shared} {l b : Addr} {xs ys zs : List V}

theorem Inv.lset {its its' : List Value} {n : Nat} {f : Array Value → Array Value} {t' : Nat} (I : Inv X pins σ H s) (hH : H l = some (.lst xs))
    (e : s.heap.get? l = some { cls := .type "list", data := .seq its.toArray n }) (hf : f its.toArray = its'.toArray) (hv : Vals ys its') (hz : ys.length ≤ sizeLine) :
    Inv X pins σ (upd H l (.lst ys)) { s with heap := s.heap.update l (Obj.mapSeq f), toks := t' } := by
  have q := PySem.IsL.update e f
  rw [hf] at q
  refine I.write (x := l) (e := l) (by rw [hH]; exact trivial) (.inl rfl) (fun b' u hb hu => (Heap.get?_update_other s.heap (Obj.mapSeq f) (Ne.symm hb)).trans hu) ⟨_, q⟩ ?_
  exact ⟨hz, its', _, hv, q⟩
theorem Inv.lnew {its : List Value} {t' : Nat} (I : Inv X pins σ H s) (hv : Vals ys its) (hz : ys.length ≤ sizeLine) :
    Inv X pins σ (upd H s.heap.objs.size (.lst ys)) { s with heap := s.heap.push { cls := .type "list", data := .seq its.toArray }, toks := t' } :=
  I.laid (fun _ _ q => Heap.get?_push_of_some _ q) (Nat.le_refl _) ⟨hz, its, 0, hv, Heap.get?_push_size _ rfl⟩
theorem Inv.fresh (I : Inv X pins σ H s) : H s.heap.objs.size = none := I.hok.fresh (Nat.le_refl _)
theorem Inv.lstM (I : Inv X pins σ H s) (hH : H l = some (.lst xs)) : xs.length ≤ sizeLine ∧ ∃ (its : List Value) (n : Nat), Vals xs its ∧ xs.length = its.length ∧ s.heap.get? l = some { cls := .type "list", data := .seq its.toArray n } := by
  obtain ⟨z, its, n, r, e⟩ := I.hok l _ hH
  exact ⟨z, its, n, r, r.length, e⟩

end

section
variable {X : Cx}

def rAppend : V → List V → Hp → VK → Prop := fun x vs H Q => ∃ l xs y, x = .ref l ∧ vs = [y] ∧ H l = some (.lst xs) ∧ xs.length < sizeLine ∧ Q .non (upd H l (.lst (xs ++ [y])))
theorem mt_append : MtM X "list.append" rAppend := by
  intro pins s σ H x vs v us Q I rx rv h
  obtain ⟨l, xs, y, rfl, rfl, hH, hz, q⟩ := h
  cases rx
  obtain ⟨u, rfl, ru⟩ := rv.one
  obtain ⟨z, its, n, r, hl, e⟩ := I.lstM hH
  refine call_meets F.slot_list_append ⟨_, e, rfl⟩ F.entry_list_append (F.args_list_append_2 _ _) (PySem.list_append l its.toArray n u (by rw [List.size_toArray]; omega)) ⟨e, ?_⟩
  refine ⟨.non, _, I.lset (its' := its ++ [u]) hH e (by simp) (r.append (.cons ru .nil)) ?_, rfl, q⟩
  rw [List.length_append, List.length_singleton]
  omega

end

section
variable {prog : Program} {w : World} {A : Around} {E : Value → Shared → Prop} {s : Shared}
set_option maxRecDepth 100000 in

end

section
variable {X : Cx}

end
end L2

namespace Att
open PySem PySem.W PySem.Calls PyProof.Rows

theorem ints_of_wellAll {P : Params} {h : Heap} : ∀ (ns : List Int) (vs : List Value), WellAll P h vs (ns.map WData.int) → IntsAre vs ns := by
  intro ns
  induction ns with
  | nil =>
    intro vs w
    rw [List.map_nil] at w
    cases w
    exact .nil
  | cons n ns ih =>
    intro vs w
    rw [List.map_cons] at w
    cases w with
    | cons a b =>
      cases a
      exact .cons _ _ (ih _ b)

theorem script_of {l : OpenLaw} {n : Nat} (hn : l.most = some n) {P : Params} {h : Heap} {args : List WData} {vals : List Value}
    (hpre : l.row.toRowW.claim.pre args = true) (hwl : WellAll P h vals args) :
    ∃ a vs ns, vals = [Value.ref a] ∧ args = [WData.list (ns.map WData.int)] ∧ h.get? a = some { cls := .type "list", data := .seq vs.toArray } ∧ IntsAre vs ns ∧ ns.length ≤ n := by
  have hsh : WShape.hasAll [] args [.list .int] = true := (pre_splitW hpre).1
  have hc : l.pre.holds [] { args := args } = true := (pre_splitW hpre).2
  obtain ⟨d, r, rfl, h1, h2⟩ := hasAllW_cons hsh
  obtain rfl := hasAllW_nil h2
  obtain ⟨xs, rfl, h3⟩ := hasW_list h1
  obtain ⟨ns, rfl⟩ := items_int h3
  have hlen : ns.length ≤ n := by
    unfold OpenLaw.pre at hc
    have h4 : (WTm.not (.lt (.lit (.int (n : Int))) (.len (.arg 0)))).holds [] { args := [.list (ns.map .int)] } = true := by
      have h4 := (holds_andW hc).1
      rw [hn] at h4
      exact h4
    have h5 := condW_of h4 (w_not (w_lt w_lit (w_len_list (w_arg rfl))))
    rw [List.length_map] at h5
    refine Nat.le_of_not_lt fun q => ?_
    have q' : (n : Int) < ((ns.length : Nat) : Int) := by omega
    first
      | (rw [decide_eq_true q'] at h5; exact absurd h5 (by decide))
      | (simp at h5; omega)
  cases hwl with
  | cons w1 w2 =>
    cases w2
    cases w1 with
    | list ho hall => exact ⟨_, _, ns, rfl, rfl, ho, ints_of_wellAll ns _ hall, hlen⟩

theorem post_true (l : OpenLaw) (args : List WData) : l.row.toRowW.claim.post args (.bool true) args = true :=
  postW_of (r := l.row.toRowW) (X := (true == true))
    (show WShape.has [] (.bool true) .bool = true by first | rfl | decide | simp [WShape.has, WShape.arms, WShape.armsAll])
    (show (WTm.eq .res (.lit (.bool true))).value [] { args := args, res := some (.bool true), after := args } = some (.bool (true == true)) from w_eq_bool (w_res rfl) w_lit) rfl

theorem attach_call {l : OpenLaw} {n : Nat} {q : Program} {loose : List Str} {XP : (Str → Option Value) → Heap → Prop} {YP : World → Heap → Prop} {d : DefRec}
    (hn : l.most = some n) (hdf : d.params.defaults = [])
    (call : ∀ (w : World) (s₀ s₁ : Shared) (mg mb : Str → Option Value) (fa : Addr) (o : Obj) (pm cd doc : Value) (a : Addr) (vs : List Value) (ns : List Int),
      Ground q loose [] XP w s₀ mg mb s₁.heap → YP w s₁.heap →
      s₁.heap.get? fa = some o → o.data = .func (docDef d.name d.params d.body d.scope pm cd doc) → s₁.heap.CodeRec cd d.name → mg d.name = some (.ref fa) →
      s₁.heap.get? a = some { cls := .type "list", data := .seq vs.toArray } → IntsAre vs ns → ns.length ≤ n → s₁.gens = #[] →
      codeAny (model l.prog w) callerA (.call (.ref fa) ⟨[.ref a], []⟩) (fun r s' => r = .ok (.ret (.bool true)) ∧ OldK s₁.heap s'.heap ∧ s'.os = s₁.os ∧ AllBare s'.gens) s₁) :
    WalkO q loose XP YP l.row.toRowW d [] (fun f vs => PySem.call f vs) := by
  intro w s₀ s₁ mg mb G Y fa o pm cd doc dV kV ho hd hcd hD hmg hg args vals as hpre hlay hrd hwl hlo
  obtain rfl : dV = .none := Dflts.none hD hdf
  obtain rfl : kV = .none := Dflts.noKw hD
  obtain ⟨a, vs, ns, rfl, rfl, hobj, hints, hlen⟩ := script_of hn hpre hwl
  refine enter_call (codeAny_mono (call w s₀ s₁ mg mb fa o pm cd doc a vs ns G Y ho (fd_plain hd) hcd hmg hobj hints hlen hg) fun r s' hq => ?_)
  obtain ⟨rfl, h2, h3, h4⟩ := hq
  exact ⟨.inl ⟨.bool true, .bool true, [], rfl, fun _ => rfl, .bool true, post_true l _, fun _ => ⟨List.Pairwise.nil, fun _ hm => (nomatch hm)⟩⟩, h2, h3, h4⟩

section
variable {prog : Program} {w : World} {A : Around} {E : Value → Shared → Prop} {s : Shared} {K : Frag}

end
end Att

namespace L2
open PySem PySem.Spec PyProof.Rows

theorem vals_ints : ∀ {vs : List Value} {ns : List Int}, IntsAre vs ns → Vals (ns.map V.int) vs
  | _, _, .nil => .nil
  | _, _, .cons n t h => .cons ⟨t, rfl⟩ (vals_ints h)

def Only (H : Hp) : Prop := ∀ b, H b = none ∨ ∃ o xs, H b = some (.frz o (.lst xs))

theorem law_call {P : Program} {w : World} {K : PySem.W.Frag} {mg mb : Str → Option Value} {CX : CXT} {k : Nat} {fa a : Addr} {fd : FuncData} {x : Str} {sp : Sp} {s₁ : Shared} {vs : List Value} {ns : List Int}
    (KX : K.In s₁.heap) (hns : s₁.heap.Ns mainGlobals mg) (hb : s₁.heap.Ns builtinsNs mb) (hbb : ∀ x : Str, x ≠ "__name__" → mb x = bootBuiltins x) (hlim : s₁.heap.NoLimit) (hg : s₁.gens = #[])
    (ha : s₁.heap.get? a = some { cls := .type "list", data := .seq vs.toArray }) (hi : IntsAre vs ns) (hl : ns.length ≤ sizeLine) (hr : Room k callerA)
    (F : ∀ base : Heap, K.In base → base.Ns mainGlobals mg → FnOk P w K mg base CX k fa fd [x] sp) (hbind : ∀ (s : Shared) (u : Value), BindsTo s fd ⟨[u], []⟩ [(x, u)])
    (hsp : ∀ H : Hp, Only H → SqL K H a (ns.map V.int) → sp [.ref a] H (fun v _ => v = .bl true) fun _ _ _ => False)
    (hCX : ∀ H e s', CX [] H s₁ (fun _ _ _ => False) e s' → False) :
    codeAny (model P w) callerA (.call (.ref fa) ⟨[.ref a], []⟩) (fun r s' => r = .ok (.ret (.bool true)) ∧ OldK s₁.heap s'.heap ∧ s'.os = s₁.os ∧ AllBare s'.gens) s₁ := by
  have rv := vals_ints hi
  have lenV := hi.length
  have core : ∀ H : Hp, Only H → SqL K H a (ns.map V.int) → HOk P w H s₁.heap → (∀ b, H b ≠ none → b = a) → (H a ≠ none → K.lookup a = none) →
      codeAny (model P w) callerA (.call (.ref fa) ⟨[.ref a], []⟩) (fun r s' => r = .ok (.ret (.bool true)) ∧ OldK s₁.heap s'.heap ∧ s'.os = s₁.os ∧ AllBare s'.gens) s₁ := by
    intro H hO hS hok hA hK
    have base_of : ∀ {b : Addr} {o : Obj}, s₁.heap.get? b = some o → H b = none → (hidT s₁.heap H).get? b = some o := fun e n => hidT_get e n
    have noA : ∀ {b : Addr} {o : Obj} {es : Array DictEntry} {ep : Nat}, s₁.heap.get? b = some o → o.data = .dict es ep → H b = none := fun {b o es ep} e d => by
      cases q : H b with
      | none => rfl
      | some u =>
        have e' : b = a := hA b (by rw [q]; simp)
        subst e'
        rw [ha] at e; cases e
        have d' : Data.seq vs.toArray _ = Data.dict es ep := d
        cases d'
    have nsK : ∀ {b : Addr} {m : Str → Option Value}, s₁.heap.Ns b m → (hidT s₁.heap H).Ns b m := fun {b m} ⟨o, es, ep, e, d, r⟩ => ⟨o, es, ep, base_of e (noA e d), d, r⟩
    have hKb : K.In (hidT s₁.heap H) := fun b o e => base_of (KX b o e) (by
      cases q : H b with
      | none => rfl
      | some u =>
        have e' : b = a := hA b (by rw [q]; simp)
        subst e'
        rw [hK (by rw [q]; simp)] at e; cases e)
    have hM : Mod K mg (hidT s₁.heap H) := ⟨hKb, nsK hns, ⟨mb, nsK hb, hbb⟩, let ⟨mc, h1, h2⟩ := hlim; ⟨mc, nsK h1, h2⟩⟩
    have e0 : Env0 P w K mg (hidT s₁.heap H) callerA [] s₁ H := ⟨rfl, hM, fun b o e => of_hidT e, Nat.le_of_eq (hidT_size _ _), trivial, fun b hb => absurd (show b ∈ ([] : List Addr) from hb) (by simp), hok, .of_eq hg⟩
    refine codeAny_mono ((F _ hKb (nsK hns)).run callerA [] s₁ H ⟨[.ref a], []⟩ [.ref a] [.ref a] _ _ hr e0 (hbind s₁ (.ref a)) (.cons rfl .nil) (hsp H hO hS)) fun r s' h => ?_
    cases r with
    | error e => exact (hCX H e s' h).elim
    | ok fl =>
      cases fl with
      | next => exact False.elim h
      | brk => exact False.elim h
      | cont => exact False.elim h
      | ret u =>
        obtain ⟨v, H', os, bare, un, hok', r', q⟩ := h
        have q' : v = .bl true := q
        subst q'
        obtain rfl : u = Value.bool true := r'
        refine ⟨rfl, OldK.of_keep fun b o e => ?_, os, bare⟩
        cases q : H b with
        | none => exact un.keep b o e q (by intro z; exact absurd (show b ∈ ([] : List Addr) from z) (by simp)) (by simp)
        | some u =>
          rcases hO b with z | ⟨ob, xs, z⟩
          · rw [q] at z; cases z
          · have z2 := un.frzs b ob _ z
            obtain ⟨e1, _⟩ := hok b _ z
            obtain ⟨e2, _⟩ := hok' b _ z2
            rw [e] at e1; cases e1
            exact e2
  cases hk : K.lookup a with
  | some o =>
    have e := KX a o hk
    rw [ha] at e
    cases e
    refine core (fun _ => none) (fun _ => .inl rfl) (.inr ⟨_, vs.toArray, _, hk, rfl, rfl, rfl, by rw [List.size_toArray, lenV]; exact hl, by simpa using rv⟩) (fun b u z => by have z' : (none : Option HO) = some u := z; cases z') (fun b z => absurd rfl z) fun z => absurd rfl z
  | none =>
    refine core (fun b => if b = a then some (.frz { cls := .type "list", data := .seq vs.toArray } (.lst (ns.map V.int))) else none) (fun b => ?_) (.inl (.inr ⟨{ cls := .type "list", data := .seq vs.toArray }, if_pos rfl⟩)) (fun b u z => ?_) (fun b z => ?_) fun _ => hk
    · by_cases hb : b = a
      · exact .inr ⟨_, _, if_pos hb⟩
      · exact .inl (if_neg hb)
    · by_cases hb : b = a
      · have z' := (if_pos hb).symm.trans z
        cases z'
        subst hb
        exact ⟨ha, by rw [List.length_map]; exact hl, vs, _, rv, ha⟩
      · have z' := (if_neg hb).symm.trans z
        cases z'
    · by_cases hb : b = a
      · exact hb
      · exact absurd (if_neg hb) z
end L2

namespace L2
open PySem PySem.Spec PyProof.Rows

abbrev KOf {K : PySem.W.Frag} {h : Heap} (_ : K.In h) : PySem.W.Frag := K

theorem walk_of {l : PySem.W.OpenLaw} {n k : Nat} {q : Program} {loose : List Str} {XP : (Str → Option Value) → Heap → Prop} {YP : World → Heap → Prop} {d : DefRec} {K : Params → PySem.W.Frag} {CX : World → CXT} {sp : World → Sp} {x : Str}
    (hn : l.most = some n) (hn2 : n ≤ sizeLine) (hdf : d.params.defaults = []) (hr : Room k callerA)
    (hY : ∀ (w : World) (h : Heap), YP w h → (K w.params).In h)
    (F : ∀ (w : World) (mg : Str → Option Value) (fa : Addr) (h : Heap), (K w.params).In h → h.Ns mainGlobals mg → mg d.name = some (.ref fa) →
      ∃ fd : FuncData, (∀ (s : Shared) (u : Value), BindsTo s fd ⟨[u], []⟩ [(x, u)]) ∧
        ∀ base : Heap, (K w.params).In base → base.Ns mainGlobals mg → FnOk l.prog w (K w.params) mg base (CX w) k fa fd [x] (sp w))
    (hsp : ∀ (w : World) (H : Hp) (a : Addr) (ns : List Int), ns.length ≤ n → Only H → SqL (K w.params) H a (ns.map V.int) → sp w [.ref a] H (fun v _ => v = .bl true) fun _ _ _ => False)
    (hCX : ∀ (w : World) (H : Hp) (s : Shared) (e : Value) (s' : Shared), CX w [] H s (fun _ _ _ => False) e s' → False) :
    PySem.W.WalkO q loose XP YP l.row.toRowW d [] (fun f vs => PySem.call f vs) := by
  refine Att.attach_call hn hdf fun w s₀ s₁ mg mb fa o pm cd doc a vs ns G Y ho hd hcd hmg hobj hints hlen hg => ?_
  have KX := hY w _ Y
  obtain ⟨fd, hb, hF⟩ := F w mg fa _ KX G.T.g hmg
  exact law_call KX G.T.g G.T.b G.T.builtins G.T.nolimit hg hobj hints (Nat.le_trans hlen hn2) hr hF hb (fun H hO hS => hsp w H a ns hlen hO hS) fun H e s' => hCX w H s₁ e s'

theorem walk_ofK {l : PySem.W.OpenLaw} {n k : Nat} {q : Program} {loose : List Str} {XP : (Str → Option Value) → Heap → Prop} {YP : World → Heap → Prop} {d : DefRec} {K : Params → PySem.W.Frag} {CX : CXT} {sp : PySem.W.Frag → Sp} {x : Str}
    (hn : l.most = some n) (hn2 : n ≤ sizeLine) (hdf : d.params.defaults = []) (hr : Room k callerA)
    (hY : ∀ (w : World) (h : Heap), YP w h → (K w.params).In h)
    (F : ∀ (w : World) (mg : Str → Option Value) (fa : Addr) (h : Heap), (K w.params).In h → h.Ns mainGlobals mg → mg d.name = some (.ref fa) →
      ∃ fd : FuncData, (∀ (s : Shared) (u : Value), BindsTo s fd ⟨[u], []⟩ [(x, u)]) ∧
        ∀ base : Heap, (K w.params).In base → base.Ns mainGlobals mg → FnOk l.prog w (K w.params) mg base CX k fa fd [x] (sp (K w.params)))
    (hsp : ∀ (K : PySem.W.Frag) (H : Hp) (a : Addr) (ns : List Int), ns.length ≤ n → Only H → SqL K H a (ns.map V.int) → sp K [.ref a] H (fun v _ => v = .bl true) fun _ _ _ => False)
    (hCX : ∀ (H : Hp) (s : Shared) (e : Value) (s' : Shared), CX [] H s (fun _ _ _ => False) e s' → False) :
    PySem.W.WalkO q loose XP YP l.row.toRowW d [] (fun f vs => PySem.call f vs) :=
  walk_of (K := K) (CX := fun _ => CX) (sp := fun w => sp (K w.params)) hn hn2 hdf hr hY F (fun w H a ns h1 h2 h3 => hsp (K w.params) H a ns h1 h2 h3) fun _ H s e s' => hCX H s e s'
end L2

namespace L2
open PySem PySem.Spec PyProof.Rows

def defArgs (s : Stmt) : Arguments := match s with
  | .FunctionDef _ a _ _ _ _ _ _ _ _ => a
  | _ => { posonlyargs := [], args := [], vararg := none, kwonlyargs := [], kw_defaults := [], kwarg := none, defaults := [] }
def defBody (s : Stmt) : List Stmt := match s with
  | .FunctionDef _ _ b _ _ _ _ _ _ _ => b
  | _ => []
def defScope (s : Stmt) : Scope := match s with
  | .FunctionDef _ _ _ _ _ _ sc _ _ _ => sc
  | _ => { kind := .function, names := [], isGenerator := false, isCoroutine := false }

abbrev CX0 : CXT := fun _ _ _ _ _ _ => False
abbrev E0 : XK := fun _ _ _ => False
theorem pass0 {X : Cx} : Passes CX0 X E0 := fun _ _ _ _ _ _ _ h => h.elim

structure Fun (K : PySem.W.Frag) (x qual : Str) (st : Stmt) (f : Addr) (fd : FuncData) : Prop where
  ex : ∃ (oc : Value) (od : Option Addr) (kV doc pm : Value) (an : Option Addr) (cdv ct : Value) (osl : Array (Option Value)),
    fd = PySem.W.fnOf x qual (defArgs st) (defBody st) (defScope st) .none kV doc pm an cdv ct ∧ K.lookup f = some ⟨oc, od, .func fd, osl⟩ ∧ PySem.W.codeIn K cdv qual = true
  kp : PySem.W.keepIn K (.ref f) = true
section
variable {P : Program} {w : World} {K : PySem.W.Frag} {mg : Str → Option Value} {base : Heap}

theorem Fun.ok {x qual : Str} {st : Stmt} {f : Addr} {fd : FuncData} {N ps : List Str} {k : Nat} {sp : Sp} (F : Fun K x qual st f fd) (S : FnScope N ps (defScope st)) (len : ∀ vs H Q E, sp vs H Q E → vs.length = ps.length)
    (hbody : ∀ (cdv : Value) (A : Around) (outer : List Env) (s : Shared) (H : Hp) (vs : List V) (Q : VK) (E : XK), Room k (A.deeper (envOfC qual (defScope st) s.heap.objs.size f cdv)) → sp vs H Q E →
      ∃ t, PSs (cxOf CX0 P w K mg base N qual (defScope st) f cdv A outer s H E).nox (defBody st) t ∧ t { nx := fun _ H' => Q .non H', rt := Q } (start N vs) H) : FnOk P w K mg base CX0 (k + 1) f fd ps sp := by
  obtain ⟨oc, od, kV, doc, pm, an, cdv, ct, osl, rfl, lk, hcd⟩ := F.ex
  refine fn_of lk hcd S len fun A outer s H vs Q E hr hsp => ?_
  obtain ⟨t, h, q⟩ := hbody cdv A outer s H vs Q E hr hsp
  exact ⟨t, h.nox, q⟩

theorem Fun.binds {x qual : Str} {st : Stmt} {f : Addr} {fd : FuncData} {ps : List Str} (F : Fun K x qual st f fd)
    (h : ∀ (kV doc pm : Value) (an : Option Addr) (cdv ct : Value) (us : List Value), us.length = ps.length → bindArgs (PySem.W.fnOf x qual (defArgs st) (defBody st) (defScope st) .none kV doc pm an cdv ct) ⟨us, []⟩ = pure (ps.zip us)) : Binds K fd ps [] := by
  obtain ⟨oc, od, kV, doc, pm, an, cdv, ct, osl, rfl, lk, hcd⟩ := F.ex
  exact .all (h kV doc pm an cdv ct)
theorem fun_mk {x qual : Str} {st : Stmt} {f : Addr} {oc : Value} {od an : Option Addr} {osl : Array (Option Value)} {kV doc pm cdv ct : Value} (l : K.lookup f = some ⟨oc, od, .func (PySem.W.fnOf x qual (defArgs st) (defBody st) (defScope st) .none kV doc pm an cdv ct), osl⟩)
    (c : PySem.W.codeIn K cdv qual = true) (k : PySem.W.keepIn K (.ref f) = true) : Fun K x qual st f (PySem.W.fnOf x qual (defArgs st) (defBody st) (defScope st) .none kV doc pm an cdv ct) := ⟨⟨oc, od, kV, doc, pm, an, cdv, ct, osl, rfl, l, c⟩, k⟩
end
section
variable {X : Cx}
end

theorem iteF {A B : Prop} (h : B) : if false = true then A else B := by
  rw [if_neg Bool.false_ne_true]
  exact h
theorem iteT {A B : Prop} (h : A) : if true = true then A else B := by
  rw [if_pos rfl]
  exact h
def Same (H H' : Hp) : Prop := ∀ b o, H b = some o → H' b = some o
theorem Same.refl (H : Hp) : Same H H := fun _ _ h => h
theorem Same.trans {H H1 H2 : Hp} (a : Same H H1) (b : Same H1 H2) : Same H H2 := fun c o h => b c o (a c o h)
theorem Same.free {H H' : Hp} (e : Same H H') {l : Addr} (h : H' l = Option.none) : H l = Option.none := by
  cases q : H l with
  | none => rfl
  | some o =>
    rw [e l o q] at h
    cases h
section
variable {κ : Type} [DecidableEq κ]
end
end L2

section
set_option maxHeartbeats 1000000
namespace L2
open PySem PySem.Spec PyProof.Rows

abbrev cxComp (X : Cx) (scope : Scope) (cl : List (Str × Addr)) (C : Addr) (s₂ : Shared) (H₂ : Hp) (ex : List Addr) (pn : List (Addr × Obj)) : Cx :=
  { X with s₀ := s₂, H₀ := H₂, env := compEnvC scope cl C X.env, outer := X.stack, stack := X.stack, ex := ex, fn := fun _ => false, pn := pn, xe := fun _ _ => False }

def mask (bs : List Bool) (σ : St) : St := List.zipWith (fun (b : Bool) o => if b = true then o else none) bs σ
theorem mask_length {bs : List Bool} {σ : St} (h : bs.length = σ.length) : (mask bs σ).length = σ.length := by
  unfold mask; rw [List.length_zipWith, h, Nat.min_self]
theorem mask_get {bs : List Bool} {σ : St} {i : Nat} {v : V} (h : (mask bs σ)[i]? = some (some v)) : bs[i]? = some true ∧ σ[i]? = some (some v) := by
  unfold mask at h
  rw [List.getElem?_zipWith] at h
  cases e1 : bs[i]? with
  | none => rw [e1] at h; simp at h
  | some b =>
    cases e2 : σ[i]? with
    | none => rw [e1, e2] at h; simp at h
    | some o =>
      rw [e1, e2] at h
      simp only [Option.some.injEq] at h
      cases b with
      | false => simp at h
      | true => simp at h; exact ⟨rfl, by rw [h]⟩

def PTs (X : Cx) (ifs : List Expr) (t : TT) : Prop :=
  ∀ (pins : List (Addr × Obj)) (s : Shared) (σ : St) (H : Hp) (Q : Bool → Hp → Prop), Inv X pins σ H s → t σ H Q →
    wpAny (model X.prog X.w) X.A (forIn ifs true fun c r => if r = true then do let ok ← isTrue c X.env (eval c X.env); pure (ForInStep.yield ok) else pure (ForInStep.yield r)) (TP X pins σ Q) X.xe s
def tTrue : TT := fun _ H Q => Q true H
theorem pts_nil {X : Cx} : PTs X [] tTrue := fun pins s σ H Q I h => wpAny_tests_nil ⟨H, I, h⟩
def closL (env : Env) : List (Str × NameKind) → List (Str × Addr) → List (Str × Addr)
  | [], acc => acc
  | (n, k) :: r, acc => if (k == NameKind.free) = true then closL env r ((n, (env.cells.lookup n).getD 0) :: acc) else closL env r acc
theorem closL_eq (env : Env) : ∀ (names : List (Str × NameKind)) (acc : List (Str × Addr)), (∀ y ∈ names, y.2 = .free → ∃ c, env.cells.lookup y.1 = some c) →
    (forIn names acc (fun (x : Str × NameKind) (cs : List (Str × Addr)) => (match x with
      | (name, kind) => if (kind == .free) = true then (do let c ← cellOf env name; pure (ForInStep.yield ((name, c) :: cs))) else pure (ForInStep.yield cs) : Sem (ForInStep (List (Str × Addr)))))) = pure (closL env names acc)
  | [], acc, _ => rfl
  | (n, k) :: r, acc, h => by
    by_cases hk : k = .free
    · subst hk
      obtain ⟨c, e⟩ := h (n, .free) List.mem_cons_self rfl
      have ih := closL_eq env r ((n, c) :: acc) fun y hy => h y (List.mem_cons_of_mem _ hy)
      have ec : cellOf env n = pure c := by unfold cellOf; rw [e]
      rw [List.forIn_cons]
      simp only [beq_self_eq_true, if_true, ec, pure_bind]
      rw [ih]
      simp only [closL, beq_self_eq_true, if_true, e, Option.getD_some]
    · have hb : (k == NameKind.free) = false := by simpa using hk
      have ih := closL_eq env r acc fun y hy => h y (List.mem_cons_of_mem _ hy)
      rw [List.forIn_cons]
      simp only [hb, Bool.false_eq_true, if_false, pure_bind]
      rw [ih]
      conv => rhs; rw [closL.eq_def]
      simp only [hb, Bool.false_eq_true, if_false]
theorem closL_cons (env : Env) : ∀ (names : List (Str × NameKind)) (acc : List (Str × Addr)), (∀ y ∈ names, y.2 = .free → ∃ c, env.cells.lookup y.1 = some c) →
    (∀ x c, acc.lookup x = some c → env.cells.lookup x = some c) → ∀ x c, (closL env names acc).lookup x = some c → env.cells.lookup x = some c
  | [], acc, _, ha => ha
  | (n, k) :: r, acc, h, ha => by
    have hr : ∀ y ∈ r, y.2 = .free → ∃ c, env.cells.lookup y.1 = some c := fun y hy => h y (List.mem_cons_of_mem _ hy)
    unfold closL
    by_cases hk : (k == NameKind.free) = true
    · rw [if_pos hk]
      obtain ⟨c, e⟩ := h (n, k) List.mem_cons_self (eq_of_beq hk)
      refine closL_cons env r _ hr fun x d hx => ?_
      rw [List.lookup_cons] at hx
      cases q : x == n with
      | true =>
        rw [q, e] at hx
        rw [eq_of_beq q, e]
        simpa using hx
      | false => rw [q] at hx; exact ha x d hx
    · rw [if_neg hk]; exact closL_cons env r acc hr ha
theorem closL_has (env : Env) (x : Str) : ∀ (names : List (Str × NameKind)) (acc : List (Str × Addr)), ((x, NameKind.free) ∈ names ∨ ∃ c, acc.lookup x = some c) → ∃ c, (closL env names acc).lookup x = some c
  | [], acc, h => by
    rcases h with h | h
    · cases h
    · exact h
  | (n, k) :: r, acc, h => by
    unfold closL
    by_cases hk : (k == NameKind.free) = true
    · rw [if_pos hk]
      refine closL_has env x r _ ?_
      by_cases q : (x == n) = true
      · exact .inr ⟨_, by rw [List.lookup_cons, q]⟩
      · rcases h with h | ⟨c, h⟩
        · rcases List.mem_cons.mp h with h | h
          · cases h; simp at q
          · exact .inl h
        · exact .inr ⟨c, by rw [List.lookup_cons]; simp [q, h]⟩
    · rw [if_neg hk]
      refine closL_has env x r _ ?_
      rcases h with h | h
      · rcases List.mem_cons.mp h with h | h
        · cases h; simp at hk
        · exact .inl h
      · exact .inr h
theorem closureFor_eq {scope : Scope} {env : Env} (h : ∀ y ∈ scope.names, y.2 = .free → ∃ c, env.cells.lookup y.1 = some c) : closureFor scope env = pure (closL env scope.names []) := by
  have e := closL_eq env scope.names [] h
  have q : closureFor scope env = ((forIn scope.names [] (fun (x : Str × NameKind) (cs : List (Str × Addr)) => (match x with
      | (name, kind) => if (kind == .free) = true then (do let c ← cellOf env name; pure (ForInStep.yield ((name, c) :: cs))) else pure (ForInStep.yield cs) : Sem (ForInStep (List (Str × Addr)))))) >>= fun cs => pure cs) := rfl
  rw [q, e, pure_bind]

theorem lookup_relabel {env : Env} : ∀ {names : List (Str × NameKind)} {x : Str} {k : NameKind},
    (names.map fun (n, k) => if (k == NameKind.free && env.scope.kind == .function && env.kindOf n == some .cell) then (n, NameKind.cell) else (n, k)).lookup x = some k →
    names.lookup x = some k ∨ (names.lookup x = some .free ∧ k = .cell)
  | [], _, _, h => by simp at h
  | (n, k') :: r, x, k, h => by
    have ih := @lookup_relabel env r x k
    have h' : List.lookup x ((if (k' == NameKind.free && env.scope.kind == .function && env.kindOf n == some .cell) = true then (n, NameKind.cell) else (n, k')) :: (r.map fun (n, k) => if (k == NameKind.free && env.scope.kind == .function && env.kindOf n == some .cell) then (n, NameKind.cell) else (n, k))) = some k := h
    by_cases hc : (k' == NameKind.free && env.scope.kind == .function && env.kindOf n == some .cell) = true
    · rw [if_pos hc] at h'
      rw [List.lookup_cons] at h' ⊢
      cases hx : x == n with
      | true =>
        rw [hx] at h'
        simp at h'
        have : k' = .free := by
          have := hc
          simp only [Bool.and_eq_true] at this
          exact eq_of_beq this.1.1
        exact .inr ⟨by rw [this], h'.symm⟩
      | false => rw [hx] at h'; exact ih h'
    · rw [if_neg hc] at h'
      rw [List.lookup_cons] at h' ⊢
      cases hx : x == n with
      | true => rw [hx] at h'; exact .inl h'
      | false => rw [hx] at h'; exact ih h'

def tComp (wi : TI) (bs : List Bool) (g : TG) (tt : TT) (te : TE) : TE := fun σ H Q => wi σ H fun J H1 => ∀ acc, H1 acc = none →
  ∃ W : Nat → Nat → List V → St → Hp → Prop, (∃ m, W 0 m [] (mask bs σ) (upd H1 acc (.lst []))) ∧ ∀ i m ys σ H, W i m ys σ H → H acc = some (.lst ys) ∧
    ((J.stop i H ∧ Q (.ref acc) H) ∨ (J.go i H ∧ ∀ x H', J.yld i H x H' → g x σ H' fun σ2 H2 => tt σ2 H2 fun ok H3 => if ok = true
      then te σ2 H3 fun v H4 => H4 acc = some (.lst ys) ∧ ys.length < sizeLine ∧ ∃ m', m' < m ∧ W (i + 1) m' (ys ++ [v]) σ2 (upd H4 acc (.lst (ys ++ [v])))
      else ∃ m', m' < m ∧ W (i + 1) m' ys σ2 H3))

section
variable {X : Cx} {pins : List (Addr × Obj)} {σ : St} {H : Hp} {s : Shared} {scope : Scope} {bs : List Bool} {fp : List Addr}
structure CompScope (X : Cx) (scope : Scope) (bs : List Bool) : Prop where
  kind : scope.kind = .function
  cell : ∀ y ∈ scope.names, y.2 ≠ .cell
  loc : ∀ y ∈ scope.names, y.2 = .local → scope.names.lookup y.1 = some .local
  fre : ∀ y ∈ scope.names, y.2 = .free → scope.names.lookup y.1 = some .free ∧ (X.env.kindOf y.1 = some .cell ∨ X.env.kindOf y.1 = some .free)
  len : bs.length = X.N.length
  vis : ∀ (i : Nat) (x : Str), X.N[i]? = some x → bs[i]? = some true → scope.names.lookup x = some .free

theorem CompScope.has (S : CompScope X scope bs) (I : Inv X pins σ H s) : ∀ y ∈ scope.names, y.2 = .free → ∃ c, X.env.cells.lookup y.1 = some c := fun y hy e => I.ok.has y.1 (S.fre y hy e).2

theorem inv_comp {h' : Heap} {m : Str → Option Value} (S : CompScope X scope bs) (I : Inv X pins σ H s) (hf : ∀ b ∈ fp, FpOk X pins H b) (ho : ∀ b ∈ fp, ∃ o, s.heap.get? b = some o)
    (hns : h'.Ns s.heap.objs.size m) (hk : ∀ b o, s.heap.get? b = some o → h'.get? b = some o) {t' : Nat} :
    Inv (cxComp X scope (closL X.env scope.names []) s.heap.objs.size s H fp (X.pn ++ pins)) [] (mask bs σ) H { s with heap := h', toks := t' } := by
  have hh := S.has I
  have cons := closL_cons X.env scope.names [] hh (fun x c e => by simp at e)
  refine ⟨⟨I.ok.mod, S.kind, I.ok.glob, I.ok.blt, Nat.le_refl _, fun x y c h1 h2 => I.ok.inj x y c (cons x c h1) (cons y c h2), fun x hx => ?_, (fun x c h => nomatch h), I.ok.hd, I.ok.frames, .inl rfl, fun b hb => ⟨?_, fun x c e => (hf b hb).2.2.2.2.1 x c (cons x c e)⟩,
    I.bs, Nat.le_trans I.ok.bsz I.sz, fun b o e hb => ?_, fun b hb z => ?_, I.stack, I.stkFree⟩,
    rfl, I.bare, Un.kept hk, ⟨m, hns, fun i x v e1 e2 e3 => ?_⟩, fun x c e => ?_, I.hok.fresh (Nat.le_refl _), fun x c e => I.freeC x c (cons x c e), fun p hp => ?_, I.hok.kept hk, ?_⟩
  · have hx' : (relabel scope X.env).names.lookup x = some .cell ∨ (relabel scope X.env).names.lookup x = some .free := hx
    have key : (x, NameKind.free) ∈ scope.names := by
      rcases hx' with q | q
      · rcases lookup_relabel q with q | ⟨q, _⟩
        · exact absurd rfl (S.cell _ (PySem.mem_of_lookup q))
        · exact PySem.mem_of_lookup q
      · rcases lookup_relabel q with q | ⟨_, q⟩
        · exact PySem.mem_of_lookup q
        · cases q
    exact closL_has X.env x scope.names [] (.inl key)
  · obtain ⟨o, e⟩ := ho b hb
    exact Nat.ne_of_lt (Heap.lt_size e)
  · rcases (hf b hb).2.2.2.1 with z | z
    · exact I.ok.noex b o e z
    · exact absurd (Nat.lt_of_lt_of_le (Heap.lt_size (I.ok.bs b o e).1) z) (Nat.lt_irrefl _)
  · rcases List.mem_cons.mp (I.stkSub b z) with q | q
    · exact (hf b hb).2.1 q
    · exact (hf b hb).2.2.1 q
  · obtain ⟨hb, hs⟩ := mask_get e2
    have hfr := S.vis i x e1 hb
    obtain ⟨_, hkd⟩ := S.fre _ (PySem.mem_of_lookup hfr) rfl
    obtain ⟨m0, hn0, hl⟩ := I.loc
    have hvis : Vis X.env.scope x := hkd.elim (fun z => .inr (.inl z)) fun z => .inr (.inr z)
    obtain ⟨u, ru, lk⟩ := hl i x v e1 hs hvis
    refine ⟨u, ru, .inr ⟨?_, ?_⟩⟩
    · rcases e3 with q | q | q
      · rcases lookup_relabel (show (relabel scope X.env).names.lookup x = some .local from q) with q | ⟨_, q⟩
        · rw [hfr] at q; cases q
        · cases q
      · exact .inl q
      · exact .inr q
    · rcases lk with ⟨kl, _⟩ | ⟨_, c, ec, ic⟩
      · rcases hkd with z | z
        · rw [kl] at z; cases z
        · rw [kl] at z; cases z
      · obtain ⟨c', e'⟩ := closL_has X.env x scope.names [] (.inl (PySem.mem_of_lookup hfr))
        have e'' := cons x c' e'
        rw [ec] at e''; cases e''
        obtain ⟨o, q1, q2⟩ := ic
        exact ⟨c, e', o, hk c o q1, q2⟩
  · obtain ⟨v, o, q1, q2⟩ := I.cell x c (cons x c e)
    exact ⟨v, o, hk c o q1, q2⟩
  · have hp' : p ∈ X.pn ++ pins := by
      have q : p ∈ (X.pn ++ pins) ++ ([] : List (Addr × Obj)) := hp
      rwa [List.append_nil] at q
    obtain ⟨e, n, ne, nf, d⟩ := I.pin p hp'
    refine ⟨hk _ _ e, n, Nat.ne_of_lt (Heap.lt_size e), fun z => ?_, d⟩
    rcases List.mem_cons.mp (I.stkSub p.1 z) with q | q
    · exact ne q
    · exact nf q
  · rw [mask_length (by rw [S.len, I.len])]
    exact I.len

theorem inv_back {cl : List (Str × Addr)} {pins' : List (Addr × Obj)} {σ' : St} {H' : Hp} {s' : Shared} {C : Addr} (I : Inv X pins σ H s) (hf : ∀ b ∈ fp, FpOk X pins H b)
    (J : Inv (cxComp X scope cl C s H fp (X.pn ++ pins)) pins' σ' H' s') : Inv X pins σ H' s' := by
  refine I.call' (ch := fp) J.os J.base J.hok J.bare fun b hb => ?_
  obtain ⟨f0, f1, f2, f3, f4, f5⟩ := hf b hb
  exact ⟨f3, f1, f4, f5⟩
end

section
variable {prog : Program} {w : World} {A : Around} {E : Value → Shared → Prop} {R : Result → Shared → Prop} {s : Shared}
theorem compLoop_go {elt target iter : Expr} {ifs : List Expr} {scope : Scope} {pos : Pos} {it acc : Value} {env : Env} (I : Nat → Shared → Prop)
    (turn : ∀ n s, I n s → wpAny (model prog w) A (pyNext it) (fun r s₁ => match r with
      | none => R (.ok .next) s₁
      | some v => wpAny (model prog w) A (letOwnedTupleGo target it v) (fun _ s₁ => wpAny (model prog w) A (assign target env v) (fun _ s₂ =>
          wpAny (model prog w) A (forIn ifs true fun c r => if r = true then do let ok ← isTrue c env (eval c env); pure (ForInStep.yield ok) else pure (ForInStep.yield r)) (fun ok s₃ =>
            if ok = true then wpAny (model prog w) A (eval elt env) (fun x s₄ =>
              wpAny (model prog w) A (call (.builtin "list.append") [acc, x]) (fun _ s₅ => ∃ m, m < n ∧ I m s₅) (fun _ _ => False) s₄) (fun _ _ => False) s₃
            else ∃ m, m < n ∧ I m s₃) (fun _ _ => False) s₂) (fun _ _ => False) s₁) (fun _ _ => False) s₁) (fun _ _ => False) s)
    (n : Nat) (h : I n s) :
    codeAny (model prog w) A (.compLoop (.ListComp elt [⟨target, iter, ifs, 0⟩] scope pos) 0 it acc env) R s := by
  refine codeAny_loop rfl I (fun n s hI => ?_) n h
  show wpAny _ A ((compTurn (.ListComp elt [⟨target, iter, ifs, 0⟩] scope pos) 0 it acc env).onRaise (fun x => do noteFrame x env; theTreesLotGoes x)) _ _ s
  refine wpAny_noted ?_
  rw [compTurn_list]
  refine wpAny_bind (wpAny_standAt (wpAny_bind (wpAny_mono (turn n s hI) (fun r s₁ h₁ => ?_) fun _ _ h' => h'.elim)))
  cases r with
  | none => exact wpAny_pure h₁
  | some v =>
    refine wpAny_bind (wpAny_mono h₁ (fun _ s₁' h₁' => ?_) fun _ _ h' => h'.elim)
    refine wpAny_bind (wpAny_mono h₁' (fun _ s₂ h₂ => wpAny_bind (wpAny_mono h₂ (fun ok s₃ h₃ => ?_) fun _ _ h' => h'.elim)) fun _ _ h' => h'.elim)
    cases ok with
    | false => exact wpAny_pure ⟨rfl, h₃⟩
    | true =>
      exact wpAny_bind (wpAny_bind (wpAny_mono h₃ (fun x s₄ h₄ => wpAny_bind (wpAny_mono h₄ (fun _ s₅ h₅ => wpAny_pure (wpAny_pure ⟨rfl, h₅⟩)) fun _ _ h' => h'.elim)) fun _ _ h' => h'.elim))
end

section
variable {X : Cx} {elt tg iter : Expr} {ifs : List Expr} {scope : Scope} {pos : Pos} {wi : TI} {g : TG} {tt : TT} {te : TE} {bs : List Bool}

theorem comp_block {pins : List (Addr × Obj)} {σ : St} {H : Hp} {s : Shared} {it : Addr} {fp : List Addr} {tn : Nat → Heap → Prop} {J : It} {Q : VK} {E : Value → Shared → Prop} {RR : Value → Addr → Result → Shared → Prop}
    (hc : X.calm = true) (S : CompScope X scope bs)
    (hg : ∀ cl C s₂ H₂ ex pn, PG (cxComp X scope cl C s₂ H₂ ex pn) tg g) (ht : ∀ cl C s₂ H₂ ex pn, PTs (cxComp X scope cl C s₂ H₂ ex pn) ifs tt) (he : ∀ cl C s₂ H₂ ex pn, PE (cxComp X scope cl C s₂ H₂ ex pn) elt te)
    (I : Inv X pins σ H s) (T : Turn X.prog X.w X.K tg J fp it tn) (st : tn 0 s.heap) (hf : ∀ b ∈ fp, FpOk X pins H b)
    (hq : ∀ acc, H acc = none →
      ∃ W : Nat → Nat → List V → St → Hp → Prop, (∃ m, W 0 m [] (mask bs σ) (upd H acc (.lst []))) ∧ ∀ i m ys σ H, W i m ys σ H → H acc = some (.lst ys) ∧
        ((J.stop i H ∧ Q (.ref acc) H) ∨ (J.go i H ∧ ∀ x H', J.yld i H x H' → g x σ H' fun σ2 H2 => tt σ2 H2 fun ok H3 => if ok = true
          then te σ2 H3 fun v H4 => H4 acc = some (.lst ys) ∧ ys.length < sizeLine ∧ ∃ m', m' < m ∧ W (i + 1) m' (ys ++ [v]) σ2 (upd H4 acc (.lst (ys ++ [v])))
          else ∃ m', m' < m ∧ W (i + 1) m' ys σ2 H3)))
    (hRR : ∀ D C s' H' m', Inv X pins σ H' s' → Q (.ref D) H' → s'.heap.Ns C m' → H' C = none → C ≠ X.env.locals → C ∉ X.fs → X.s₀.heap.objs.size ≤ C → (∀ x c, X.env.cells.lookup x = some c → c ≠ C) → (∀ p ∈ X.pn ++ pins, p.1 ≠ C) →
      RR (.ref D) C (.ok .next) s') :
    wpAny (model X.prog X.w) X.A (newList []) (fun acc s₃ => wpAny (model X.prog X.w) X.A (newFunctionEnv scope X.env.globals (closL X.env scope.names []) [] X.env.qual none .none (some X.env)) (fun cenv s₄ =>
      codeAny (model X.prog X.w) X.A (.compStart (.ListComp elt [⟨tg, iter, ifs, 0⟩] scope pos) 0 (.ref it) acc { cenv with scope := relabel scope X.env }) (RR acc cenv.locals) s₄) E s₃) E s := by
  refine wpAny_newObj_type ?_
  have hfr : H s.heap.objs.size = none := I.fresh
  have I3 : Inv X pins σ (upd H s.heap.objs.size (.lst [])) { s with heap := s.heap.push { cls := .type "list", dict := none, data := .seq ([] : List Value).toArray } } := I.lnew (its := []) (t' := s.toks) .nil (Nat.zero_le _)
  have stp : tn 0 (s.heap.push { cls := .type "list", dict := none, data := .seq ([] : List Value).toArray }) := T.keep _ _ _ st fun b _ o e => Heap.get?_push_of_some _ e
  have hlt : ∀ b ∈ fp, b < s.heap.objs.size := fun b hb => by
    obtain ⟨o, e, _⟩ := T.obj _ _ st b hb
    exact Heap.lt_size e
  have f3 : ∀ b ∈ fp, FpOk X pins (upd H s.heap.objs.size (.lst [])) b := fun b hb => ⟨by rw [upd_ne (Nat.ne_of_lt (hlt b hb))]; exact (hf b hb).1, (hf b hb).2⟩
  obtain ⟨W, ⟨m0, w0⟩, turn⟩ := hq s.heap.objs.size hfr
  generalize hacc : s.heap.objs.size = acc at *
  generalize hs3 : ({ s with heap := s.heap.push { cls := .type "list", dict := none, data := .seq ([] : List Value).toArray } } : Shared) = s3 at *
  have stp3 : tn 0 s3.heap := by rw [← hs3]; exact stp
  refine wpAny_newFunctionEnv S.cell (fun y hy => by simp at hy) (fun h₁ hns₁ hsb₁ => ?_) S.kind
  have keep : ∀ b o, s3.heap.get? b = some o → h₁.get? b = some o := fun b o e => (hsb₁.2 b (Nat.ne_of_lt (Heap.lt_size e))).trans (Heap.get?_push_of_some _ e)
  have ob3 : ∀ b ∈ fp, ∃ o, s3.heap.get? b = some o := fun b hb => by
    obtain ⟨o, e, _⟩ := T.obj _ _ stp3 b hb
    exact ⟨o, e⟩
  have I4 := inv_comp (t' := s3.toks + ([] : List (Str × Value)).length) S I3 f3 ob3 hns₁ keep
  have st4 : tn 0 h₁ := T.keep _ _ _ stp3 fun b _ o e => keep b o e
  have stat : ∀ {H' : Hp} {pl : List (Addr × Obj)}, (∀ b ∈ fp, H' b = none) → ∀ b ∈ fp, FpOk (cxComp X scope (closL X.env scope.names []) s3.heap.objs.size s3 (upd H acc (.lst [])) fp (X.pn ++ pins)) [] H' b := fun {H' pl} hn b hb => by
    obtain ⟨_, f1, f2, f3', f4, f5⟩ := f3 b hb
    obtain ⟨o, e⟩ := ob3 b hb
    refine ⟨hn b hb, Nat.ne_of_lt (Heap.lt_size e), fun z => ?_, .inl hb, fun x c e => f4 x c (closL_cons X.env scope.names [] (S.has I3) (fun x c e => by simp at e) x c e), fun p hp => ?_⟩
    · rcases List.mem_cons.mp (I3.stkSub b z) with q | q
      · exact f1 q
      · exact f2 q
    · have q : p ∈ (X.pn ++ pins) ++ ([] : List (Addr × Obj)) := hp
      rw [List.append_nil] at q
      exact f5 p q
  let X' : Cx := cxComp X scope (closL X.env scope.names []) s3.heap.objs.size s3 (upd H acc (.lst [])) fp (X.pn ++ pins)
  have loop : ∀ s5 : Shared, s5 = { s3 with heap := h₁, toks := s3.toks + ([] : List (Str × Value)).length } →
      codeAny (model X.prog X.w) X.A (.compLoop (.ListComp elt [⟨tg, iter, ifs, 0⟩] scope pos) 0 (.ref it) (.ref acc) (compEnvC scope (closL X.env scope.names []) s3.heap.objs.size X.env)) (RR (.ref acc) s3.heap.objs.size) s5 := by
    rintro s5 rfl
    refine compLoop_go (fun n s' => ∃ i ys σ' H', Inv (cxComp X scope (closL X.env scope.names []) s3.heap.objs.size s3 (upd H acc (.lst [])) fp (X.pn ++ pins)) [] σ' H' s' ∧ tn i s'.heap ∧ (∀ b ∈ fp, H' b = none) ∧ W i n ys σ' H') ?_ m0
      ⟨0, [], mask bs σ, upd H acc (.lst []), I4, st4, fun b hb => (f3 b hb).1, w0⟩
    rintro n s6 ⟨i, ys, σ6, H6, I6, st6, fr6, w6⟩
    obtain ⟨hac, way⟩ := turn i n ys σ6 H6 w6
    rcases way with ⟨stop, qn⟩ | ⟨go, step⟩
    · refine thn (T.done X' rfl rfl rfl hc i [] s6 σ6 H6 (fun _ _ => False) I6 (stat (pl := []) fr6) st6 stop) fun r s7 ⟨hr, I7⟩ => ?_
      subst hr
      obtain ⟨m', hn', _⟩ := I7.loc
      have IX := inv_back (C := s3.heap.objs.size) I3 f3 I7
      refine hRR acc s3.heap.objs.size s7 H6 m' IX qn hn' I7.free (Nat.ne_of_gt I3.lt) (I3.nofs (Nat.le_refl _)) I3.sz (fun x c e z => ?_) fun p hp z => ?_
      · obtain ⟨v, q⟩ := I3.cell x c e
        exact absurd q.lt (by rw [z]; exact Nat.lt_irrefl _)
      · exact absurd (Heap.lt_size (I3.pin p hp).1) (by rw [z]; exact Nat.lt_irrefl _)
    · refine thn (T.item X' rfl rfl rfl hc i [] s6 σ6 H6 (fun _ _ => False) I6 (stat (pl := []) fr6) st6 go) fun r s7 ⟨u, hr, h7⟩ => ?_
      subst hr
      refine thn h7 fun _ s8 ⟨x, H8, I8, r8, y8, st8, fr8⟩ => ?_
      have I8' := I8.pinned (stat (pl := []) fr8) (T.obj _ _ st8)
      refine thn (hg _ _ _ _ _ _ _ s8 σ6 H8 x u _ I8' r8 (step x H8 y8)) fun _ s9 ⟨σ9, H9, I9, q9⟩ => ?_
      refine thn (ht _ _ _ _ _ _ _ s9 σ9 H9 _ I9 q9) fun ok s10 ⟨H10, I10, q10⟩ => ?_
      have back : ∀ {σ' : St} {H' : Hp} {s' : Shared}, Inv (cxComp X scope (closL X.env scope.names []) s3.heap.objs.size s3 (upd H acc (.lst [])) fp (X.pn ++ pins)) ([] ++ pinsAt fp s8.heap) σ' H' s' → tn (i + 1) s'.heap ∧ ∀ b ∈ fp, H' b = none := fun {σ' H' s'} K => by
        refine ⟨T.keep _ _ _ st8 fun b hb o e => (K.pin (b, o) (List.mem_append_right _ (List.mem_append_right _ (mem_pinsAt hb e)))).1, fun b hb => ?_⟩
        obtain ⟨o, e, d⟩ := T.obj _ _ st8 b hb
        exact (K.pin (b, o) (List.mem_append_right _ (List.mem_append_right _ (mem_pinsAt hb e)))).2.1
      cases ok with
      | false =>
        rw [if_neg Bool.false_ne_true] at q10 ⊢
        obtain ⟨m', hm, w'⟩ := q10
        obtain ⟨b1, b2⟩ := back I10
        exact ⟨m', hm, i + 1, ys, σ9, H10, I10.unpinned, b1, b2, w'⟩
      | true =>
        rw [if_pos rfl] at q10 ⊢
        refine thn (he _ _ _ _ _ _ _ s10 σ9 H10 _ I10 q10) fun y s11 ⟨v, H11, I11, r11, hac11, hz, m', hm, w'⟩ => ?_
        have ap := mt_append (X := X') _ s11 σ9 H11 (.ref acc) [v] (.ref acc) [y] (fun (z : V) (H' : Hp) => H' = upd H11 acc (.lst (ys ++ [v]))) I11 rfl (.cons r11 .nil) ⟨acc, ys, v, rfl, rfl, hac11, hz, rfl⟩
        refine thn ap fun _ s12 ⟨_, H12, I12, _, e12⟩ => ?_
        subst e12
        obtain ⟨b1, b2⟩ := back I12
        exact ⟨m', hm, i + 1, ys ++ [v], σ9, _, I12.unpinned, b1, b2, w'⟩
  exact codeAny_compStart_list (loop _ rfl) (T.self _ 0 _ _ _ st4 (loop _ rfl))

theorem pe_comp (hc : X.calm = true) (hi : PI X tg iter wi) (S : CompScope X scope bs)
    (hg : ∀ cl C s₂ H₂ ex pn, PG (cxComp X scope cl C s₂ H₂ ex pn) tg g) (ht : ∀ cl C s₂ H₂ ex pn, PTs (cxComp X scope cl C s₂ H₂ ex pn) ifs tt) (he : ∀ cl C s₂ H₂ ex pn, PE (cxComp X scope cl C s₂ H₂ ex pn) elt te)
    (hs : ∀ x, foldedSetIterable iter X.env x = pure x := by intro _; rfl) : PE X (.ListComp elt [⟨tg, iter, ifs, 0⟩] scope pos) (tComp wi bs g tt te) := by
  intro pins s σ H Q I h
  rw [eval_ListComp]
  refine wpAny_comprehension_free (use := none) rfl hs (closureFor_eq (S.has I)) S.kind S.loc (thn (hi pins s σ H _ I h) fun v s1 h1 => thn h1 fun itv s2 h2 => ?_)
  obtain ⟨it, fp, tn, J, H2, e, I2, T, st2, f2, hq⟩ := h2
  subst e
  refine comp_block (RR := fun acc C => compPost (model X.prog X.w) X.A X.xe none (EP X pins σ Q) acc C) hc S hg ht he I2 T st2 f2 hq ?_
  intro D C s' H' m' I' q' hn hC hL hF hz hcl hp
  refine ⟨m', hn, fun h'' hs'' => ⟨.ref D, H', ?_, rfl, q'⟩⟩
  exact I'.turned (t' := s'.toks) (fun b o hb e => (hs''.2 b hb).trans e) hC hL (.inr hz) hcl hp

theorem ps_setc {i : Nat} {y : Str} {py spos : Pos} (hc : X.calm = true) (hi : PI X tg iter wi) (S : CompScope X scope bs)
    (hg : ∀ cl C s₂ H₂ ex pn, PG (cxComp X scope cl C s₂ H₂ ex pn) tg g) (ht : ∀ cl C s₂ H₂ ex pn, PTs (cxComp X scope cl C s₂ H₂ ex pn) ifs tt) (he : ∀ cl C s₂ H₂ ex pn, PE (cxComp X scope cl C s₂ H₂ ex pn) elt te)
    (hN : X.N.Nodup) (hiN : X.N[i]? = some y) (hy : X.env.scope.names.lookup y = some .local)
    (hsw : swapsWith (.ListComp elt [⟨tg, iter, ifs, 0⟩] scope pos) (some (.Name y py)) spos.line X.env = pure true := by rfl)
    (hs : ∀ x, foldedSetIterable iter X.env x = pure x := by intro _; rfl) : PS X (.Assign [.Name y py] (.ListComp elt [⟨tg, iter, ifs, 0⟩] scope pos) spos) (tAsg (tComp wi bs g tt te) (gName i)) := by
  intro pins s σ H D I h
  rw [exec_Assign_Name_used _ _ _ _ hsw]
  refine wpAny_bind (wpAny_standAt (wpAny_bind ?_))
  show wpAny _ X.A (do let _ ← comprehension (.ListComp elt [⟨tg, iter, ifs, 0⟩] scope pos) scope X.env _ (newList []) false (eval iter X.env) (some (assign (.Name y py) X.env))) _ _ s
  refine wpAny_bind (wpAny_mono (wpAny_comprehension_free (use := some (assign (.Name y py) X.env)) (Q := fun _ s' => SP X pins D .next s') rfl hs (closureFor_eq (S.has I)) S.kind S.loc
    (thn (hi pins s σ H _ I h) fun v s1 h1 => thn h1 fun itv s2 h2 => ?_)) (fun _ s' hq => wpAny_pure (wpAny_pure hq)) fun _ _ e => e)
  obtain ⟨it, fp, tn, J, H2, e, I2, T, st2, f2, hq⟩ := h2
  subst e
  refine comp_block (Q := fun x H1 => gName i x σ H1 D.nx) (RR := fun acc C => compPost (model X.prog X.w) X.A X.xe (some (assign (.Name y py) X.env)) (fun _ s' => SP X pins D .next s') acc C) hc S hg ht he I2 T st2 f2 hq ?_
  intro A C s' H' m' I' q' hn hC hL hF hz hcl hp
  show wpAny _ X.A (assign (.Name y py) X.env (.ref A)) _ _ _
  refine wpAny_assign_Name (store_ok2 I' hN hiN (.inl hy) (v := .ref A) rfl (fun s2 I2 hsb => ?_) (.inr hy))
  obtain ⟨a, sb, ha⟩ := hsb
  have hCa : C ≠ a := by
    rcases ha with z | z
    · rw [z]; exact hL
    · exact fun q => hcl y a z q.symm
  refine ⟨m', hn.sameBut sb hCa, fun h'' hs'' => ⟨σ.set i (some (.ref A)), H', ?_, q'⟩⟩
  exact I2.turned (t' := s2.toks) (fun b o hb e => (hs''.2 b hb).trans e) hC hL (.inr hz) hcl hp
end
end L2

end

section
set_option maxHeartbeats 1000000
namespace L2
open PySem PySem.Spec PyProof.Rows

mutual

def D.flat : D → Bool
  | .non => true | .bl _ => true | .int _ => true | .str _ => true
  | .tup ds => D.flats ds
  | .lst _ => false | .dT _ _ => false | .dK _ _ => false | .dD _ _ => false | .sp _ _ => false
def D.flats : List D → Bool
  | [] => true
  | d :: ds => d.flat && D.flats ds
end
def LstS (K : PySem.W.Frag) (B : Addr → Prop) (H : Hp) (a : Addr) (xs : List V) : Prop :=
  (B a ∧ H a = some (.lst xs)) ∨ (∃ o, H a = some (.frz o (.lst xs))) ∨
    ∃ (o : Obj) (its : Array Value) (n : Nat), K.lookup a = some o ∧ o.cls = .type "list" ∧ o.dict = none ∧ o.data = .seq its n ∧ its.size ≤ sizeLine ∧ Vals xs its.toList
theorem LstS.sq {K : PySem.W.Frag} {B : Addr → Prop} {H : Hp} {a : Addr} {xs : List V} (h : LstS K B H a xs) : SqL K H a xs := by
  rcases h with ⟨_, h⟩ | ⟨o, h⟩ | h
  · exact .inl (.inl h)
  · exact .inl (.inr ⟨o, h⟩)
  · exact .inr h
def DicTS (B : Addr → Prop) (H : Hp) (a : Addr) (kvs : List (List Key × V)) : Prop := (B a ∧ H a = some (.dT kvs)) ∨ ∃ o, H a = some (.frz o (.dT kvs))
def DicKS (B : Addr → Prop) (H : Hp) (a : Addr) (kvs : List (Key × V)) : Prop := (B a ∧ H a = some (.dK kvs)) ∨ ∃ o, H a = some (.frz o (.dK kvs))

def DicDS (B : Addr → Prop) (H : Hp) (a : Addr) (kvs : List (D × V)) : Prop := ∃ ep, (B a ∧ H a = some (.dD kvs ep)) ∨ ∃ o, H a = some (.frz o (.dD kvs ep))

mutual
def Rep (K : PySem.W.Frag) (B : Addr → Prop) (H : Hp) : D → V → Prop
  | .non, v => v = .non
  | .bl b, v => v = .bl b
  | .int i, v => v = .int i
  | .str x, v => v = .str x
  | .tup ds, v => ∃ a xs, v = .ref a ∧ H a = some (.tup xs) ∧ Reps K B H ds xs
  | .lst ds, v => ∃ a xs, v = .ref a ∧ LstS K B H a xs ∧ Reps K B H ds xs
  | .dT ks ds, v => ∃ a kvs, v = .ref a ∧ DicTS B H a kvs ∧ kvs.map (·.1) = ks ∧ Reps K B H ds (kvs.map (·.2))
  | .dK ks ds, v => ∃ a kvs, v = .ref a ∧ DicKS B H a kvs ∧ kvs.map (·.1) = ks ∧ Reps K B H ds (kvs.map (·.2))
  | .dD ks ds, v => ∃ a kvs, v = .ref a ∧ DicDS B H a kvs ∧ kvs.map (·.1) = ks ∧ Reps K B H ds (kvs.map (·.2))
  | .sp false x, v => ∃ f, v = .ref f ∧ PySem.W.nsIn K mainGlobals x = some (some (.ref f))
  | .sp true x, v => ∃ a o c u, v = .ref a ∧ H a = some (.frz o (.own u)) ∧ o.cls = .ref c ∧ PySem.W.nsIn K mainGlobals x = some (some (.ref c))
def Reps (K : PySem.W.Frag) (B : Addr → Prop) (H : Hp) : List D → List V → Prop
  | [], xs => xs = []
  | d :: ds, xs => ∃ x r, xs = x :: r ∧ Rep K B H d x ∧ Reps K B H ds r
end

structure Ext (B : Addr → Prop) (H H' : Hp) : Prop where
  tups : ∀ a xs, H a = some (.tup xs) → H' a = some (.tup xs)
  frzs : ∀ a o u, H a = some (.frz o u) → H' a = some (.frz o u)
  lent : ∀ a, B a → H' a = H a
theorem Ext.refl {B : Addr → Prop} {H : Hp} : Ext B H H := ⟨fun _ _ h => h, fun _ _ _ h => h, fun _ _ => rfl⟩
theorem Ext.trans {B : Addr → Prop} {H H1 H2 : Hp} (a : Ext B H H1) (b : Ext B H1 H2) : Ext B H H2 :=
  ⟨fun x y h => b.tups x y (a.tups x y h), fun x y z h => b.frzs x y z (a.frzs x y z h), fun x h => (b.lent x h).trans (a.lent x h)⟩
section
variable {K : PySem.W.Frag} {B B' : Addr → Prop} {H H' : Hp}
theorem LstS.ext {a : Addr} {xs : List V} (h : LstS K B H a xs) (e : Ext B H H') : LstS K B H' a xs := by
  rcases h with ⟨b, h⟩ | ⟨o, h⟩ | h
  · exact .inl ⟨b, (e.lent a b).trans h⟩
  · exact .inr (.inl ⟨o, e.frzs _ _ _ h⟩)
  · exact .inr (.inr h)
theorem LstS.more {a : Addr} {xs : List V} (h : LstS K B H a xs) (e : ∀ a, B a → B' a) : LstS K B' H a xs := by
  rcases h with ⟨b, h⟩ | h | h
  · exact .inl ⟨e a b, h⟩
  · exact .inr (.inl h)
  · exact .inr (.inr h)
theorem DicTS.ext {a : Addr} {xs : List (List Key × V)} (h : DicTS B H a xs) (e : Ext B H H') : DicTS B H' a xs := by
  rcases h with ⟨b, h⟩ | ⟨o, h⟩
  · exact .inl ⟨b, (e.lent a b).trans h⟩
  · exact .inr ⟨o, e.frzs _ _ _ h⟩
theorem DicKS.ext {a : Addr} {xs : List (Key × V)} (h : DicKS B H a xs) (e : Ext B H H') : DicKS B H' a xs := by
  rcases h with ⟨b, h⟩ | ⟨o, h⟩
  · exact .inl ⟨b, (e.lent a b).trans h⟩
  · exact .inr ⟨o, e.frzs _ _ _ h⟩
theorem DicDS.ext {a : Addr} {xs : List (D × V)} (h : DicDS B H a xs) (e : Ext B H H') : DicDS B H' a xs := by
  obtain ⟨ep, h⟩ := h
  rcases h with ⟨b, h⟩ | ⟨o, h⟩
  · exact ⟨ep, .inl ⟨b, (e.lent a b).trans h⟩⟩
  · exact ⟨ep, .inr ⟨o, e.frzs _ _ _ h⟩⟩
mutual
theorem Rep.ext (e : Ext B H H') : ∀ {d : D} {v : V}, Rep K B H d v → Rep K B H' d v
  | .non, v, h => by simpa only [Rep] using h
  | .bl b, v, h => by simpa only [Rep] using h
  | .int i, v, h => by simpa only [Rep] using h
  | .str x, v, h => by simpa only [Rep] using h
  | .tup ds, v, h => by
    simp only [Rep] at h ⊢
    obtain ⟨a, xs, hv, hq, hr⟩ := h
    exact ⟨a, xs, hv, e.tups _ _ hq, Reps.ext e hr⟩
  | .lst ds, v, h => by
    simp only [Rep] at h ⊢
    obtain ⟨a, xs, hv, hq, hr⟩ := h
    exact ⟨a, xs, hv, hq.ext e, Reps.ext e hr⟩
  | .dT ks ds, v, h => by
    simp only [Rep] at h ⊢
    obtain ⟨a, xs, hv, hq, hk, hr⟩ := h
    exact ⟨a, xs, hv, hq.ext e, hk, Reps.ext e hr⟩
  | .dK ks ds, v, h => by
    simp only [Rep] at h ⊢
    obtain ⟨a, xs, hv, hq, hk, hr⟩ := h
    exact ⟨a, xs, hv, hq.ext e, hk, Reps.ext e hr⟩
  | .dD ks ds, v, h => by
    simp only [Rep] at h ⊢
    obtain ⟨a, xs, hv, hq, hk, hr⟩ := h
    exact ⟨a, xs, hv, hq.ext e, hk, Reps.ext e hr⟩
  | .sp false x, v, h => by simpa only [Rep] using h
  | .sp true x, v, h => by
    simp only [Rep] at h ⊢
    obtain ⟨a, o, c, u, hv, hq, hr⟩ := h
    exact ⟨a, o, c, u, hv, e.frzs _ _ _ hq, hr⟩
theorem Reps.ext (e : Ext B H H') : ∀ {ds : List D} {xs : List V}, Reps K B H ds xs → Reps K B H' ds xs
  | [], xs, h => by simpa only [Reps] using h
  | d :: ds, xs, h => by
    simp only [Reps] at h ⊢
    obtain ⟨x, r, hx, h1, h2⟩ := h
    exact ⟨x, r, hx, Rep.ext e h1, Reps.ext e h2⟩
end
mutual
theorem Rep.more (e : ∀ a, B a → B' a) : ∀ {d : D} {v : V}, Rep K B H d v → Rep K B' H d v
  | .non, v, h => by simpa only [Rep] using h
  | .bl b, v, h => by simpa only [Rep] using h
  | .int i, v, h => by simpa only [Rep] using h
  | .str x, v, h => by simpa only [Rep] using h
  | .tup ds, v, h => by
    simp only [Rep] at h ⊢
    obtain ⟨a, xs, hv, hq, hr⟩ := h
    exact ⟨a, xs, hv, hq, Reps.more e hr⟩
  | .lst ds, v, h => by
    simp only [Rep] at h ⊢
    obtain ⟨a, xs, hv, hq, hr⟩ := h
    exact ⟨a, xs, hv, hq.more e, Reps.more e hr⟩
  | .dT ks ds, v, h => by
    simp only [Rep] at h ⊢
    obtain ⟨a, xs, hv, hq, hk, hr⟩ := h
    exact ⟨a, xs, hv, hq.imp (fun z => ⟨e a z.1, z.2⟩) fun z => z, hk, Reps.more e hr⟩
  | .dK ks ds, v, h => by
    simp only [Rep] at h ⊢
    obtain ⟨a, xs, hv, hq, hk, hr⟩ := h
    exact ⟨a, xs, hv, hq.imp (fun z => ⟨e a z.1, z.2⟩) fun z => z, hk, Reps.more e hr⟩
  | .dD ks ds, v, h => by
    simp only [Rep] at h ⊢
    obtain ⟨a, xs, hv, ⟨ep, hq⟩, hk, hr⟩ := h
    exact ⟨a, xs, hv, ⟨ep, hq.imp (fun z => ⟨e a z.1, z.2⟩) fun z => z⟩, hk, Reps.more e hr⟩
  | .sp false x, v, h => by simpa only [Rep] using h
  | .sp true x, v, h => by simpa only [Rep] using h
theorem Reps.more (e : ∀ a, B a → B' a) : ∀ {ds : List D} {xs : List V}, Reps K B H ds xs → Reps K B' H ds xs
  | [], xs, h => by simpa only [Reps] using h
  | d :: ds, xs, h => by
    simp only [Reps] at h ⊢
    obtain ⟨x, r, hx, h1, h2⟩ := h
    exact ⟨x, r, hx, Rep.more e h1, Reps.more e h2⟩
end
mutual

theorem Rep.flat : ∀ {d : D} {v : V}, d.flat = true → Rep K B H d v → Rep K B' H d v
  | .non, v, _, h => by simpa only [Rep] using h
  | .bl b, v, _, h => by simpa only [Rep] using h
  | .int i, v, _, h => by simpa only [Rep] using h
  | .str x, v, _, h => by simpa only [Rep] using h
  | .tup ds, v, f, h => by
    simp only [Rep] at h ⊢
    simp only [D.flat] at f
    obtain ⟨a, xs, hv, hq, hr⟩ := h
    exact ⟨a, xs, hv, hq, Reps.flat f hr⟩
  | .lst ds, v, f, _ => by simp [D.flat] at f
  | .dT _ _, v, f, _ => by simp [D.flat] at f
  | .dK _ _, v, f, _ => by simp [D.flat] at f
  | .dD _ _, v, f, _ => by simp [D.flat] at f
  | .sp _ _, v, f, _ => by simp [D.flat] at f
theorem Reps.flat : ∀ {ds : List D} {xs : List V}, D.flats ds = true → Reps K B H ds xs → Reps K B' H ds xs
  | [], xs, _, h => by simpa only [Reps] using h
  | d :: ds, xs, f, h => by
    simp only [Reps] at h ⊢
    simp only [D.flats, Bool.and_eq_true] at f
    obtain ⟨x, r, hx, h1, h2⟩ := h
    exact ⟨x, r, hx, Rep.flat f.1 h1, Reps.flat f.2 h2⟩
end
theorem Reps.length : ∀ {ds : List D} {xs : List V}, Reps K B H ds xs → ds.length = xs.length
  | [], xs, h => by simp only [Reps] at h; subst h; rfl
  | d :: ds, xs, h => by
    simp only [Reps] at h
    obtain ⟨x, r, hx, h1, h2⟩ := h
    subst hx
    simp only [List.length_cons, Reps.length h2]
theorem Reps.nil : Reps K B H [] [] := by simp only [Reps]
theorem Reps.cons {d : D} {ds : List D} {x : V} {xs : List V} (h : Rep K B H d x) (t : Reps K B H ds xs) : Reps K B H (d :: ds) (x :: xs) := by
  simp only [Reps]; exact ⟨x, xs, rfl, h, t⟩
theorem Reps.uncons {d : D} {ds : List D} {x : V} {xs : List V} (h : Reps K B H (d :: ds) (x :: xs)) : Rep K B H d x ∧ Reps K B H ds xs := by
  simp only [Reps] at h
  obtain ⟨y, r, e, h1, h2⟩ := h
  cases e
  exact ⟨h1, h2⟩
theorem Reps.get : ∀ {ds : List D} {xs : List V} {i : Nat} {d : D}, Reps K B H ds xs → ds[i]? = some d → ∃ x, xs[i]? = some x ∧ Rep K B H d x
  | [], _, _, _, _, e => by simp at e
  | d :: ds, xs, 0, e, h, he => by
    simp only [Reps] at h
    obtain ⟨x, r, hx, h1, h2⟩ := h
    subst hx
    simp at he; subst he
    exact ⟨x, rfl, h1⟩
  | d :: ds, xs, i + 1, e, h, he => by
    simp only [Reps] at h
    obtain ⟨x, r, hx, h1, h2⟩ := h
    subst hx
    exact Reps.get (i := i) h2 (by simpa using he)
theorem Reps.get' : ∀ {ds : List D} {xs : List V} {i : Nat} {x : V}, Reps K B H ds xs → xs[i]? = some x → ∃ d, ds[i]? = some d ∧ Rep K B H d x := fun {ds xs i x} h e => by
  have hl := h.length
  have hi : i < ds.length := by rw [hl]; exact (List.getElem?_eq_some_iff.mp e).1
  obtain ⟨y, hy, r⟩ := h.get (i := i) (d := ds[i]) (by simp [hi])
  rw [e] at hy; cases hy
  exact ⟨ds[i], by simp [hi], r⟩
theorem Reps.append : ∀ {ds es : List D} {xs ys : List V}, Reps K B H ds xs → Reps K B H es ys → Reps K B H (ds ++ es) (xs ++ ys)
  | [], es, xs, ys, h, t => by simp only [Reps] at h; subst h; simpa using t
  | d :: ds, es, xs, ys, h, t => by
    simp only [Reps] at h
    obtain ⟨x, r, hx, h1, h2⟩ := h
    subst hx
    exact Reps.cons h1 (Reps.append h2 t)
theorem Reps.take : ∀ {ds : List D} {xs : List V} (n : Nat), Reps K B H ds xs → Reps K B H (ds.take n) (xs.take n)
  | _, _, 0, _ => by simp only [List.take_zero]; exact Reps.nil
  | [], xs, n + 1, h => by simp only [Reps] at h; subst h; exact Reps.nil
  | d :: ds, xs, n + 1, h => by
    simp only [Reps] at h
    obtain ⟨x, r, hx, h1, h2⟩ := h
    subst hx
    exact Reps.cons h1 (Reps.take n h2)
theorem Reps.drop : ∀ {ds : List D} {xs : List V} (n : Nat), Reps K B H ds xs → Reps K B H (ds.drop n) (xs.drop n)
  | _, _, 0, h => h
  | [], xs, n + 1, h => by simp only [Reps] at h; subst h; exact Reps.nil
  | d :: ds, xs, n + 1, h => by
    simp only [Reps] at h
    obtain ⟨x, r, hx, h1, h2⟩ := h
    subst hx
    exact Reps.drop n h2
end

abbrev DEnv := List (Option (D × Bool))

def ObR (K : PySem.W.Frag) (B : Addr → Prop) (H : Hp) (d : D) (a : Addr) : Prop := match d with
  | .lst ds => ∃ xs, H a = some (.lst xs) ∧ Reps K B H ds xs
  | .dT ks ds => ∃ kvs, H a = some (.dT kvs) ∧ kvs.map (·.1) = ks ∧ Reps K B H ds (kvs.map (·.2))
  | .dK ks ds => ∃ kvs, H a = some (.dK kvs) ∧ kvs.map (·.1) = ks ∧ Reps K B H ds (kvs.map (·.2))
  | .dD ks ds => ∃ kvs, (∃ ep, H a = some (.dD kvs ep)) ∧ kvs.map (·.1) = ks ∧ Reps K B H ds (kvs.map (·.2))
  | _ => False
structure Rel (K : PySem.W.Frag) (B : Addr → Prop) (Hk : Hp) (δ : DEnv) (σ : St) (H : Hp) : Prop where
  same : Same Hk H
  bor : ∀ a, B a → ∃ o, Hk a = some o
  len : δ.length = σ.length
  var : ∀ (i : Nat) d, δ[i]? = some (some (d, false)) → ∃ v, σ[i]? = some (some v) ∧ Rep K B H d v
  own : ∀ (i : Nat) d, δ[i]? = some (some (d, true)) → ∃ a, σ[i]? = some (some (.ref a)) ∧ Hk a = none ∧ ObR K B H d a
  dis : ∀ (i j : Nat) d e a, i ≠ j → δ[i]? = some (some (d, true)) → δ[j]? = some (some (e, true)) → σ[i]? = some (some (.ref a)) → σ[j]? = some (some (.ref a)) → False

def BO (B : Addr → Prop) (δ : DEnv) (σ : St) (a : Addr) : Prop := B a ∨ ∃ (i : Nat) (d : D), δ[i]? = some (some (d, true)) ∧ σ[i]? = some (some (.ref a))
def bset (m : Bool) (B : Addr → Prop) (δ : DEnv) (σ : St) : Addr → Prop := if m = true then BO B δ σ else B
section
variable {K : PySem.W.Frag} {B B' : Addr → Prop} {Hk H H' : Hp} {δ : DEnv} {σ : St}
theorem Same.ext (s : Same H H') (b : ∀ a, B a → ∃ o, H a = some o) : Ext B H H' :=
  ⟨fun a xs h => s a _ h, fun a o u h => s a _ h, fun a h => by obtain ⟨o, e⟩ := b a h; rw [e, s a o e]⟩
theorem ObR.ext {d : D} {a : Addr} (h : ObR K B H d a) (e : Ext B H H') (ha : ∀ o, H a = some o → H' a = some o) : ObR K B H' d a := by
  cases d with
  | lst ds => obtain ⟨xs, h1, h2⟩ := h; exact ⟨xs, ha _ h1, h2.ext e⟩
  | dT ks ds => obtain ⟨xs, h1, h0, h2⟩ := h; exact ⟨xs, ha _ h1, h0, h2.ext e⟩
  | dK ks ds => obtain ⟨xs, h1, h0, h2⟩ := h; exact ⟨xs, ha _ h1, h0, h2.ext e⟩
  | dD ks ds => obtain ⟨xs, ⟨ep, h1⟩, h0, h2⟩ := h; exact ⟨xs, ⟨ep, ha _ h1⟩, h0, h2.ext e⟩
  | _ => exact (show False from h).elim
theorem ObR.there {d : D} {a : Addr} (h : ObR K B H d a) : ∃ o, H a = some o := by
  cases d with
  | lst ds => obtain ⟨xs, h1, h2⟩ := h; exact ⟨_, h1⟩
  | dT ks ds => obtain ⟨xs, h1, h0, h2⟩ := h; exact ⟨_, h1⟩
  | dK ks ds => obtain ⟨xs, h1, h0, h2⟩ := h; exact ⟨_, h1⟩
  | dD ks ds => obtain ⟨xs, ⟨ep, h1⟩, h0, h2⟩ := h; exact ⟨_, h1⟩
  | _ => exact (show False from h).elim
theorem Rel.borH (R : Rel K B Hk δ σ H) : ∀ a, B a → ∃ o, H a = some o := fun a h => by
  obtain ⟨o, e⟩ := R.bor a h
  exact ⟨o, R.same a o e⟩
theorem Rel.boH (R : Rel K B Hk δ σ H) : ∀ a, BO B δ σ a → ∃ o, H a = some o := fun a h => by
  rcases h with h | ⟨i, d, h1, h2⟩
  · exact R.borH a h
  · obtain ⟨b, e, _, ob⟩ := R.own i d h1
    rw [h2] at e; cases e
    exact ob.there
theorem Rel.bsH (R : Rel K B Hk δ σ H) (m : Bool) : ∀ a, bset m B δ σ a → ∃ o, H a = some o := by
  unfold bset
  cases m with
  | true => exact R.boH
  | false => exact R.borH
theorem Rel.to (R : Rel K B Hk δ σ H) (s : Same H H') : Rel K B Hk δ σ H' := by
  have e : Ext B H H' := s.ext R.borH
  refine ⟨R.same.trans s, R.bor, R.len, fun i d h => ?_, fun i d h => ?_, R.dis⟩
  · obtain ⟨v, h1, h2⟩ := R.var i d h
    exact ⟨v, h1, h2.ext e⟩
  · obtain ⟨a, h1, h2, h3⟩ := R.own i d h
    exact ⟨a, h1, h2, h3.ext e fun o q => s a o q⟩
theorem Rep.same {m : Bool} {d : D} {v : V} (r : Rep K (bset m B δ σ) H d v) (R : Rel K B Hk δ σ H) (s : Same H H') : Rep K (bset m B δ σ) H' d v := r.ext (s.ext (R.bsH m))
theorem Reps.same {m : Bool} {d : List D} {v : List V} (r : Reps K (bset m B δ σ) H d v) (R : Rel K B Hk δ σ H) (s : Same H H') : Reps K (bset m B δ σ) H' d v := r.ext (s.ext (R.bsH m))
theorem bset_of (m : Bool) : ∀ a, B a → bset m B δ σ a := fun a h => by
  unfold bset
  cases m with
  | true => exact .inl h
  | false => exact h

theorem ObR.rep {d : D} {a : Addr} (h : ObR K B H d a) (hb : B' a) (hs : ∀ a, B a → B' a) : Rep K B' H d (.ref a) := by
  cases d with
  | lst ds => obtain ⟨xs, h1, h2⟩ := h; simp only [Rep]; exact ⟨a, xs, rfl, .inl ⟨hb, h1⟩, h2.more hs⟩
  | dT ks ds => obtain ⟨xs, h1, h0, h2⟩ := h; simp only [Rep]; exact ⟨a, xs, rfl, .inl ⟨hb, h1⟩, h0, h2.more hs⟩
  | dK ks ds => obtain ⟨xs, h1, h0, h2⟩ := h; simp only [Rep]; exact ⟨a, xs, rfl, .inl ⟨hb, h1⟩, h0, h2.more hs⟩
  | dD ks ds => obtain ⟨xs, ⟨ep, h1⟩, h0, h2⟩ := h; simp only [Rep]; exact ⟨a, xs, rfl, ⟨ep, .inl ⟨hb, h1⟩⟩, h0, h2.more hs⟩
  | _ => exact (show False from h).elim
end
end L2

end

section
set_option maxHeartbeats 1000000
namespace L2
open PySem PySem.Spec PyProof.Rows

theorem PE.imp {X : Cx} {e : Expr} {t t' : TE} (h : PE X e t) (i : ∀ σ H Q, t' σ H Q → t σ H Q) : PE X e t' := fun pins s σ H Q I q => h pins s σ H Q I (i σ H Q q)
theorem PT.imp {X : Cx} {e : Expr} {t t' : TT} (h : PT X e t) (i : ∀ σ H Q, t' σ H Q → t σ H Q) : PT X e t' := fun pins s σ H Q I q => h pins s σ H Q I (i σ H Q q)
theorem PW.imp {X : Cx} {e : Expr} {t t' : TT} (h : PW X e t) (i : ∀ σ H Q, t' σ H Q → t σ H Q) : PW X e t' := fun whole pins s σ H Q I q => h whole pins s σ H Q I (i σ H Q q)
theorem PA.imp {X : Cx} {e : List Expr} {t t' : TA} (h : PA X e t) (i : ∀ σ H Q, t' σ H Q → t σ H Q) : PA X e t' := fun pos pins s σ H Q I q => h pos pins s σ H Q I (i σ H Q q)
theorem PI.imp {X : Cx} {tg e : Expr} {t t' : TI} (h : PI X tg e t) (i : ∀ σ H Q, t' σ H Q → t σ H Q) : PI X tg e t' := fun pins s σ H Q I q => h pins s σ H Q I (i σ H Q q)
theorem PS.imp {X : Cx} {e : Stmt} {t t' : TS} (h : PS X e t) (i : ∀ D σ H, t' D σ H → t D σ H) : PS X e t' := fun pins s σ H D I q => h pins s σ H D I (i D σ H q)
theorem PSs.imp {X : Cx} {e : List Stmt} {t t' : TS} (h : PSs X e t) (i : ∀ D σ H, t' D σ H → t D σ H) : PSs X e t' := fun pins s σ H D I q => h pins s σ H D I (i D σ H q)

def tM (K : PySem.W.Frag) (m : Bool) (f : DEnv → Option D) : TE := fun σ H Q => ∃ B Hk δ d, Rel K B Hk δ σ H ∧ f δ = some d ∧ ∀ v H', Same H H' → Rep K (bset m B δ σ) H' d v → Q v H'

def tF (K : PySem.W.Frag) (f : DEnv → Option D) : TE := fun σ H Q => ∃ B Hk δ d, Rel K B Hk δ σ H ∧ f δ = some d ∧ ∀ a H', Same H H' → H a = none → ObR K B H' d a → Q (.ref a) H'
def tMT (K : PySem.W.Frag) (f : DEnv → Option Bool) : TT := fun σ H Q => ∃ B Hk δ d, Rel K B Hk δ σ H ∧ f δ = some d ∧ ∀ H', Same H H' → Q d H'
def tMA (K : PySem.W.Frag) (m : Bool) (f : DEnv → Option (List D)) : TA := fun σ H Q => ∃ B Hk δ ds, Rel K B Hk δ σ H ∧ f δ = some ds ∧ ∀ vs H', Same H H' → Reps K (bset m B δ σ) H' ds vs → Q vs H'
abbrev DE (X : Cx) (m : Bool) (e : Expr) (f : DEnv → Option D) : Prop := PE X e (tM X.K m f)
abbrev DF (X : Cx) (e : Expr) (f : DEnv → Option D) : Prop := PE X e (tF X.K f)
abbrev DT (X : Cx) (e : Expr) (f : DEnv → Option Bool) : Prop := PT X e (tMT X.K f)
abbrev DA (X : Cx) (m : Bool) (es : List Expr) (f : DEnv → Option (List D)) : Prop := PA X es (tMA X.K m f)

section
variable {X : Cx} {m m' : Bool} {a b : Expr} {fa fb : DEnv → Option D} {pos : Pos}
def rd (m : Bool) (i : Nat) (δ : DEnv) : Option D := match δ[i]? with | some (some (d, o)) => if (o && !m) = true then none else some d | _ => none
theorem rd_some {m : Bool} {i : Nat} {δ : DEnv} {d : D} (h : rd m i δ = some d) : ∃ o, δ[i]? = some (some (d, o)) ∧ (o = true → m = true) := by
  unfold rd at h
  split at h
  · rename_i d' o e
    by_cases q : (o && !m) = true
    · rw [if_pos q] at h; cases h
    · rw [if_neg q] at h; cases h
      refine ⟨o, e, fun z => ?_⟩
      subst z
      cases m with
      | true => rfl
      | false => simp at q
  · cases h
theorem Rel.rd {K : PySem.W.Frag} {B : Addr → Prop} {Hk H : Hp} {δ : DEnv} {σ : St} {i : Nat} {d : D} (R : Rel K B Hk δ σ H) (h : rd m i δ = some d) : ∃ v, σ[i]? = some (some v) ∧ Rep K (bset m B δ σ) H d v := by
  obtain ⟨o, e, ho⟩ := rd_some h
  cases o with
  | false =>
    obtain ⟨v, h1, h2⟩ := R.var i d e
    exact ⟨v, h1, h2.more fun a h => bset_of m a h⟩
  | true =>
    obtain ⟨a, h1, h2, h3⟩ := R.own i d e
    obtain rfl := ho rfl
    exact ⟨_, h1, h3.rep (B' := bset true B δ σ) (by unfold bset; rw [if_pos rfl]; exact .inr ⟨i, d, e, h1⟩) fun a h => bset_of true a h⟩
theorem de_var {i : Nat} {x : Str} (hN : X.N[i]? = some x) (hv : Vis X.env.scope x) (hd : (x == ("__debug__" : Str)) = false := by decide) (hcd : (x == ("__classdict__" : Str)) = false := by decide) : DE X m (.Name x pos) (rd m i) :=
  (pe_var hN hv hd hcd).imp fun σ H Q ⟨B, Hk, δ, d, R, e, k⟩ => by
    obtain ⟨v, h1, h2⟩ := R.rd e
    exact ⟨v, h1, k v H (Same.refl H) h2⟩
theorem de_int {i : Int} {j : Nat} : DE X m (.Constant (.int i) j pos) (fun _ => some (.int i)) := pe_int.imp fun σ H Q ⟨B, Hk, δ, d, R, e, k⟩ => by cases e; exact k _ H (Same.refl H) rfl
theorem de_str {x : Str} {j : Nat} : DE X m (.Constant (.str x) j pos) (fun _ => some (.str x)) := pe_str.imp fun σ H Q ⟨B, Hk, δ, d, R, e, k⟩ => by cases e; exact k _ H (Same.refl H) rfl
theorem de_bl {x : Bool} {j : Nat} : DE X m (.Constant (.bool x) j pos) (fun _ => some (.bl x)) := pe_bl.imp fun σ H Q ⟨B, Hk, δ, d, R, e, k⟩ => by cases e; exact k _ H (Same.refl H) rfl
theorem de_non {j : Nat} : DE X m (.Constant .none j pos) (fun _ => some .non) := pe_non.imp fun σ H Q ⟨B, Hk, δ, d, R, e, k⟩ => by cases e; exact k _ H (Same.refl H) rfl

theorem two {K : PySem.W.Frag} {σ : St} {H : Hp} {B : Addr → Prop} {Hk : Hp} {δ : DEnv} {d1 d2 : D} {P : V → V → Hp → Prop} (R : Rel K B Hk δ σ H) (e1 : fa δ = some d1) (e2 : fb δ = some d2)
    (k : ∀ v u H', Same H H' → Rel K B Hk δ σ H' → Rep K (bset m B δ σ) H' d1 v → Rep K (bset m' B δ σ) H' d2 u → P v u H') : tM K m fa σ H fun x H1 => tM K m' fb σ H1 fun y H2 => P x y H2 :=
  ⟨B, Hk, δ, d1, R, e1, fun v H1 s1 r1 => ⟨B, Hk, δ, d2, R.to s1, e2, fun u H2 s2 r2 => k v u H2 (s1.trans s2) (R.to (s1.trans s2)) (r1.same (R.to s1) s2) r2⟩⟩

def bI (C : Int → Int → Bool) (g : Int → Int → D) (x y : Option D) : Option D := match x, y with | some (.int i), some (.int j) => if C i j = true then some (g i j) else none | _, _ => none
theorem bI_some {C : Int → Int → Bool} {g : Int → Int → D} {x y : Option D} {d : D} (h : bI C g x y = some d) : ∃ i j, x = some (.int i) ∧ y = some (.int j) ∧ C i j = true ∧ d = g i j := by
  unfold bI at h
  split at h
  · rename_i i j
    by_cases q : C i j = true
    · rw [if_pos q] at h; cases h; exact ⟨i, j, rfl, rfl, q, rfl⟩
    · rw [if_neg q] at h; cases h
  · cases h
theorem bI_eq {C : Int → Int → Bool} {g : Int → Int → D} {i j : Int} (h : C i j = true) : bI C g (some (.int i)) (some (.int j)) = some (g i j) := by unfold bI; simp only [if_pos h]
def cT : Int → Int → Bool := fun _ _ => true
def cMul : Int → Int → Bool := fun i j => decide ((-(2 ^ 64) < i ∧ i < 2 ^ 64) ∨ (-(2 ^ 64) < j ∧ j < 2 ^ 64))
def cDiv : Int → Int → Bool := fun _ j => decide (0 < j ∧ j < 1073741824)
def cMod : Int → Int → Bool := fun _ j => decide (0 < j)
theorem de_op {op : Operator} {C : Int → Int → Bool} {g : Int → Int → Int} {r : R2} {mm : Bool} (ho : OpR X (binaryOp op) r) (hr : ∀ i j H Q, C i j = true → Q (V.int (g i j)) H → r (.int i) (.int j) H Q) (ha : DE X m a fa) (hb : DE X m' b fb) :
    DE X mm (.BinOp a op b pos) (fun δ => bI C (fun i j => .int (g i j)) (fa δ) (fb δ)) :=
  (pe_op ho ha hb).imp fun σ H Q ⟨B, Hk, δ, d, R, e, k⟩ => by
    obtain ⟨i, j, e1, e2, hc, rfl⟩ := bI_some e
    refine two R e1 e2 fun v u H' s R' r1 r2 => ?_
    simp only [Rep] at r1 r2
    subst r1 r2
    exact hr i j H' Q hc (k _ H' s (by simp only [Rep]))
def addI (x y : Option D) : Option D := bI cT (fun i j => .int (i + j)) x y
def mulI (x y : Option D) : Option D := bI cMul (fun i j => .int (i * j)) x y
def divI (x y : Option D) : Option D := bI cDiv (fun i j => .int (i / j)) x y
def modI (x y : Option D) : Option D := bI cMod (fun i j => .int (i % j)) x y
theorem de_add {mm : Bool} (ha : DE X m a fa) (hb : DE X m' b fb) : DE X mm (.BinOp a .Add b pos) (fun δ => addI (fa δ) (fb δ)) := de_op op_add (fun i j H Q _ q => ⟨i, j, rfl, rfl, q⟩) ha hb
theorem de_mul {mm : Bool} (ha : DE X m a fa) (hb : DE X m' b fb) : DE X mm (.BinOp a .Mult b pos) (fun δ => mulI (fa δ) (fb δ)) := de_op op_mul (fun i j H Q c q => ⟨i, j, rfl, rfl, (show (-(2 ^ 64) < i ∧ i < 2 ^ 64) ∨ (-(2 ^ 64) < j ∧ j < 2 ^ 64) from of_decide_eq_true c), q⟩) ha hb
theorem de_div {mm : Bool} (ha : DE X m a fa) (hb : DE X m' b fb) : DE X mm (.BinOp a .FloorDiv b pos) (fun δ => divI (fa δ) (fb δ)) := de_op op_fdiv (fun i j H Q c q => ⟨i, j, rfl, rfl, (show 0 < j ∧ j < 1073741824 from of_decide_eq_true c), q⟩) ha hb
theorem de_mod {mm : Bool} (ha : DE X m a fa) (hb : DE X m' b fb) : DE X mm (.BinOp a .Mod b pos) (fun δ => modI (fa δ) (fb δ)) := de_op op_mod (fun i j H Q c q => ⟨i, j, rfl, rfl, (show 0 < j from of_decide_eq_true c), q⟩) ha hb

def cI (g : Int → Int → Bool) (x y : Option D) : Option Bool := match x, y with | some (.int i), some (.int j) => some (g i j) | _, _ => none
theorem cI_some {g : Int → Int → Bool} {x y : Option D} {c : Bool} (h : cI g x y = some c) : ∃ i j, x = some (.int i) ∧ y = some (.int j) ∧ c = g i j := by
  unfold cI at h
  split at h
  · rename_i i j; cases h; exact ⟨i, j, rfl, rfl, rfl⟩
  · cases h
theorem dt_cmp {op : CmpOp} {g : Int → Int → Bool} (ho : OpR X (compareOp op) (rI0 fun i j => .bl (g i j))) (hm : behindInMarks op b = false) (ha : DE X m a fa) (hb : DE X m' b fb) :
    DT X (.Compare a [op] [b] pos) (fun δ => cI g (fa δ) (fb δ)) :=
  (pt_cmpR ho ha hb hm).imp fun σ H Q ⟨B, Hk, δ, d, R, e, k⟩ => by
    obtain ⟨i, j, e1, e2, rfl⟩ := cI_some e
    refine two R e1 e2 fun v u H' s R' r1 r2 => ?_
    simp only [Rep] at r1 r2
    subst r1 r2
    exact ⟨i, j, rfl, rfl, _, rfl, k H' s⟩
abbrev gLt : Int → Int → Bool := fun i j => decide (i < j)
abbrev gLe : Int → Int → Bool := fun i j => decide (i ≤ j)
abbrev gGt : Int → Int → Bool := fun i j => decide (j < i)
def tyB (x : Option D) : Option Bool := match x with | some (.bl b) => some b | _ => none
def ofB (x : Option Bool) : Option D := match x with | some b => some (.bl b) | none => none
theorem tyB_some {x : Option D} {c : Bool} (h : tyB x = some c) : x = some (.bl c) := by
  unfold tyB at h
  split at h
  · cases h; rfl
  · cases h

theorem dt_val (ha : DE X m a fa) (he : ∀ whole, isTrue a X.env whole = (do let v ← whole; standAt a.pos; holding [v] (truthy v)) := by intro _; rfl) : DT X a (fun δ => tyB (fa δ)) :=
  (pt_val ha he).imp fun σ H Q ⟨B, Hk, δ, d, R, e, k⟩ => ⟨B, Hk, δ, _, R, tyB_some e, fun v H' s r => by
    simp only [Rep] at r
    subst r
    exact ⟨d, rfl, k H' s⟩⟩
variable {fc ga gb : DEnv → Option Bool} {rest : List Expr}
def andO (x y : Option Bool) : Option Bool := match x with | some true => y | some false => some false | none => none
def orO (x y : Option Bool) : Option Bool := match x with | some true => some true | some false => y | none => none
def notO (x : Option Bool) : Option Bool := match x with | some c => some (!c) | none => none
abbrev DW (X : Cx) (e : Expr) (f : DEnv → Option Bool) : Prop := PW X e (tMT X.K f)
theorem dw_and1 (ha : DT X a ga) : DW X (.BoolOp .And [a] pos) ga := pw_and1 ha
theorem dw_or1 (ha : DT X a ga) : DW X (.BoolOp .Or [a] pos) ga := pw_or1 ha
theorem dw_and (ha : DT X a ga) (hb : DW X (.BoolOp .And (b :: rest) pos) gb) : DW X (.BoolOp .And (a :: b :: rest) pos) (fun δ => andO (ga δ) (gb δ)) :=
  (pw_and ha hb).imp fun σ H Q ⟨B, Hk, δ, d, R, e, k⟩ => by
    unfold andO at e
    dsimp only at e
    split at e
    · rename_i q
      exact ⟨B, Hk, δ, true, R, q, fun H1 s1 => iteT (⟨B, Hk, δ, d, R.to s1, e, fun H2 s2 => k H2 (s1.trans s2)⟩)⟩
    · rename_i q; cases e
      exact ⟨B, Hk, δ, false, R, q, fun H1 s1 => iteF (k H1 s1)⟩
    · cases e
theorem dw_or (ha : DT X a ga) (hb : DW X (.BoolOp .Or (b :: rest) pos) gb) : DW X (.BoolOp .Or (a :: b :: rest) pos) (fun δ => orO (ga δ) (gb δ)) :=
  (pw_or ha hb).imp fun σ H Q ⟨B, Hk, δ, d, R, e, k⟩ => by
    unfold orO at e
    dsimp only at e
    split at e
    · rename_i q; cases e
      exact ⟨B, Hk, δ, true, R, q, fun H1 s1 => iteT (k H1 s1)⟩
    · rename_i q
      exact ⟨B, Hk, δ, false, R, q, fun H1 s1 => iteF (⟨B, Hk, δ, d, R.to s1, e, fun H2 s2 => k H2 (s1.trans s2)⟩)⟩
    · cases e
theorem dt_not (ha : DT X a ga) : DT X (.UnaryOp .Not a pos) (fun δ => notO (ga δ)) :=
  (pt_not ha).imp fun σ H Q ⟨B, Hk, δ, d, R, e, k⟩ => by
    dsimp only [notO] at e
    split at e
    · rename_i c q; cases e
      exact ⟨B, Hk, δ, c, R, q, fun H1 s1 => k H1 s1⟩
    · cases e

theorem de_one {op : BoolOp} {mm : Bool} (ha : DE X m a fa) (hk : m = mm := by rfl) : DE X mm (.BoolOp op [a] pos) fa := by subst hk; exact pe_one ha
theorem de_and {mm : Bool} (ha : DE X m a fa) (hb : DE X mm (.BoolOp .And (b :: rest) pos) fb) : DE X mm (.BoolOp .And (a :: b :: rest) pos) (fun δ => match tyB (fa δ) with | some true => fb δ | some false => some (.bl false) | none => none) :=
  (pe_and ha hb).imp fun σ H Q ⟨B, Hk, δ, d, R, e, k⟩ => by
    dsimp only at e
    split at e
    · rename_i q
      exact ⟨B, Hk, δ, _, R, tyB_some q, fun v H1 s1 r => by
        simp only [Rep] at r
        exact ⟨true, r, by rw [if_pos rfl]; exact ⟨B, Hk, δ, d, R.to s1, e, fun v H2 s2 => k v H2 (s1.trans s2)⟩⟩⟩
    · rename_i q; cases e
      exact ⟨B, Hk, δ, _, R, tyB_some q, fun v H1 s1 r => by
        simp only [Rep] at r
        exact ⟨false, r, by rw [if_neg Bool.false_ne_true]; exact k _ H1 s1 (by simp only [Rep])⟩⟩
    · cases e
theorem de_or {mm : Bool} (ha : DE X m a fa) (hb : DE X mm (.BoolOp .Or (b :: rest) pos) fb) : DE X mm (.BoolOp .Or (a :: b :: rest) pos) (fun δ => match tyB (fa δ) with | some true => some (.bl true) | some false => fb δ | none => none) :=
  (pe_or ha hb).imp fun σ H Q ⟨B, Hk, δ, d, R, e, k⟩ => by
    dsimp only at e
    split at e
    · rename_i q; cases e
      exact ⟨B, Hk, δ, _, R, tyB_some q, fun v H1 s1 r => by
        simp only [Rep] at r
        exact ⟨true, r, by rw [if_pos rfl]; exact k _ H1 s1 (by simp only [Rep])⟩⟩
    · rename_i q
      exact ⟨B, Hk, δ, _, R, tyB_some q, fun v H1 s1 r => by
        simp only [Rep] at r
        exact ⟨false, r, by rw [if_neg Bool.false_ne_true]; exact ⟨B, Hk, δ, d, R.to s1, e, fun v H2 s2 => k v H2 (s1.trans s2)⟩⟩⟩
    · cases e
theorem de_not {mm : Bool} (ha : DE X m a fa) : DE X mm (.UnaryOp .Not a pos) (fun δ => ofB (notO (tyB (fa δ)))) :=
  (pe_not ha).imp fun σ H Q ⟨B, Hk, δ, d, R, e, k⟩ => by
    cases q : tyB (fa δ) with
    | none => simp only [q, notO, ofB] at e; cases e
    | some c =>
      simp only [q, notO, ofB] at e; cases e
      exact ⟨B, Hk, δ, _, R, tyB_some q, fun v H1 s1 r => by
        simp only [Rep] at r
        exact ⟨c, r, k _ H1 s1 (by simp only [Rep])⟩⟩
theorem de_ifExp {c : Expr} {mm : Bool} (hc : DT X c fc) (ha : DE X mm a fa) (hb : DE X mm b fb) : DE X mm (.IfExp c a b pos) (fun δ => match fc δ with | some true => fa δ | some false => fb δ | none => none) :=
  (pe_ifExp hc ha hb).imp fun σ H Q ⟨B, Hk, δ, d, R, e, k⟩ => by
    dsimp only at e
    split at e
    · rename_i q
      exact ⟨B, Hk, δ, true, R, q, fun H1 s1 => iteT (⟨B, Hk, δ, d, R.to s1, e, fun v H2 s2 => k v H2 (s1.trans s2)⟩)⟩
    · rename_i q
      exact ⟨B, Hk, δ, false, R, q, fun H1 s1 => iteF (⟨B, Hk, δ, d, R.to s1, e, fun v H2 s2 => k v H2 (s1.trans s2)⟩)⟩
    · cases e

def consO (x : Option D) (y : Option (List D)) : Option (List D) := match x, y with | some d, some ds => some (d :: ds) | _, _ => none
theorem consO_some {x : Option D} {y : Option (List D)} {l : List D} (h : consO x y = some l) : ∃ d ds, x = some d ∧ y = some ds ∧ l = d :: ds := by
  unfold consO at h
  split at h
  · rename_i d ds; cases h; exact ⟨d, ds, rfl, rfl, rfl⟩
  · cases h
variable {e : Expr} {es : List Expr} {fe : DEnv → Option D} {fs : DEnv → Option (List D)}
theorem da_nil : DA X m [] (fun _ => some []) := pa_nil.imp fun σ H Q ⟨B, Hk, δ, d, R, e, k⟩ => by cases e; exact k [] H (Same.refl H) Reps.nil
theorem da_cons (ha : DE X m e fe) (hr : DA X m es fs) (hs : starEach (e :: es) X.env = (false, eval e X.env) :: starEach es X.env := by rfl) : DA X m (e :: es) (fun δ => consO (fe δ) (fs δ)) :=
  (pa_cons ha hr hs).imp fun σ H Q ⟨B, Hk, δ, l, R, e, k⟩ => by
    obtain ⟨d, ds, e1, e2, rfl⟩ := consO_some e
    exact ⟨B, Hk, δ, d, R, e1, fun v H1 s1 r1 => ⟨B, Hk, δ, ds, R.to s1, e2, fun vs H2 s2 r2 => k (v :: vs) H2 (s1.trans s2) (Reps.cons (r1.same (R.to s1) s2) r2)⟩⟩
def lim : Nat := 1000000
theorem lim_line {n : Nat} (h : n ≤ lim) : n ≤ sizeLine := Nat.le_trans h (by decide)
def tupO (x : Option (List D)) : Option D := match x with | some ds => if ds.length ≤ lim then some (.tup ds) else none | none => none
def lstO (x : Option (List D)) : Option D := match x with | some ds => if ds.length ≤ lim then some (.lst ds) else none | none => none
theorem tupO_some {x : Option (List D)} {d : D} (h : tupO x = some d) : ∃ ds, x = some ds ∧ ds.length ≤ lim ∧ d = .tup ds := by
  unfold tupO at h
  split at h
  · rename_i ds
    by_cases q : ds.length ≤ lim
    · rw [if_pos q] at h; cases h; exact ⟨ds, rfl, q, rfl⟩
    · rw [if_neg q] at h; cases h
  · cases h
theorem lstO_some {x : Option (List D)} {d : D} (h : lstO x = some d) : ∃ ds, x = some ds ∧ ds.length ≤ lim ∧ d = .lst ds := by
  unfold lstO at h
  split at h
  · rename_i ds
    by_cases q : ds.length ≤ lim
    · rw [if_pos q] at h; cases h; exact ⟨ds, rfl, q, rfl⟩
    · rw [if_neg q] at h; cases h
  · cases h
theorem same_upd {H : Hp} {p : Addr} {o : HO} (h : H p = none) : Same H (upd H p o) := fun b u e => by rw [upd_ne (ne_of_none e h)]; exact e
theorem de_tup {x1 : Nat} (h : DA X m es fs) : DE X m (.Tuple es x1 pos) (fun δ => tupO (fs δ)) :=
  (pe_tup h).imp fun σ H Q ⟨B, Hk, δ, d, R, e, k⟩ => by
    obtain ⟨ds, e1, hl, rfl⟩ := tupO_some e
    refine ⟨B, Hk, δ, ds, R, e1, fun vs H1 s1 r1 => ⟨by rw [← r1.length]; exact lim_line hl, fun p hp => ?_⟩⟩
    have s2 := same_upd (o := .tup vs) hp
    refine k _ _ (s1.trans s2) ?_
    simp only [Rep]
    exact ⟨p, vs, rfl, upd_same, r1.same (R.to s1) s2⟩
theorem df_lst (h : DA X false es fs) : DF X (.List es pos) (fun δ => lstO (fs δ)) :=
  (pe_lst h).imp fun σ H Q ⟨B, Hk, δ, d, R, e, k⟩ => by
    obtain ⟨ds, e1, hl, rfl⟩ := lstO_some e
    refine ⟨B, Hk, δ, ds, R, e1, fun vs H1 s1 r1 => ⟨by rw [← r1.length]; exact lim_line hl, fun p hp => ?_⟩⟩
    have s2 := same_upd (o := .lst vs) hp
    exact k p _ (s1.trans s2) (s1.free hp) ⟨vs, upd_same, r1.same (m := false) (R.to s1) s2⟩
end
end L2

end

section
set_option maxHeartbeats 1000000
namespace L2
open PySem PySem.Spec PyProof.Rows

def okD : Nat → D → Bool
  | _, .non => true
  | _, .int _ => true
  | _, .str _ => true
  | n + 1, .tup ds => ds.all (okD n)
  | n + 1, .lst ds => ds.all (okD n)
  | _, _ => false
theorem okD_tup {n : Nat} {ds : List D} (h : okD n (.tup ds) = true) : ∃ k, n = k + 1 ∧ ds.all (okD k) = true := by
  cases n with
  | zero => simp [okD] at h
  | succ k => exact ⟨k, rfl, by simpa only [okD] using h⟩
theorem okD_lst {n : Nat} {ds : List D} (h : okD n (.lst ds) = true) : ∃ k, n = k + 1 ∧ ds.all (okD k) = true := by
  cases n with
  | zero => simp [okD] at h
  | succ k => exact ⟨k, rfl, by simpa only [okD] using h⟩

section
variable {X : Cx} {pins : List (Addr × Obj)} {σ : St} {H : Hp} {s : Shared} {B B' : Addr → Prop}
theorem list_not_tuple {a : Addr} {xs ys : List V} (I : Inv X pins σ H s) (h : SqL X.K H a xs) (h' : SqT X.K H a ys) : False := by
  obtain ⟨its, _, ⟨o, n, e, hc, _, _⟩, _⟩ := I.list h
  obtain ⟨its', _, ⟨o', e', hc', _⟩, _⟩ := I.tuple h'
  rw [e] at e'; cases e'
  rw [hc] at hc'
  injection hc' with z
  exact absurd z (by decide)
mutual
theorem Rep.inj (I : Inv X pins σ H s) : ∀ {n n' : Nat} {d e : D} {v : V}, okD n d = true → okD n' e = true → Rep X.K B H d v → Rep X.K B' H e v → d = e
  | n, n', .non, e, v, hd, he, r, r' => by
    simp only [Rep] at r; subst r
    cases e with
    | non => rfl
    | dT _ _ => simp [okD] at he
    | dK _ _ => simp [okD] at he
    | dD _ _ => simp [okD] at he
    | sp _ _ => simp [okD] at he
    | tup _ => simp only [Rep] at r'; obtain ⟨a, xs, z, _⟩ := r'; cases z
    | lst _ => simp only [Rep] at r'; obtain ⟨a, xs, z, _⟩ := r'; cases z
    | _ => simp only [Rep] at r'; cases r'
  | n, n', .bl _, e, v, hd, he, r, r' => by simp [okD] at hd
  | n, n', .dT _ _, e, v, hd, he, r, r' => by simp [okD] at hd
  | n, n', .dK _ _, e, v, hd, he, r, r' => by simp [okD] at hd
  | n, n', .dD _ _, e, v, hd, he, r, r' => by simp [okD] at hd
  | n, n', .sp _ _, e, v, hd, he, r, r' => by simp [okD] at hd
  | n, n', .int i, e, v, hd, he, r, r' => by
    simp only [Rep] at r; subst r
    cases e with
    | int j => simp only [Rep] at r'; cases r'; rfl
    | dT _ _ => simp [okD] at he
    | dK _ _ => simp [okD] at he
    | dD _ _ => simp [okD] at he
    | sp _ _ => simp [okD] at he
    | tup _ => simp only [Rep] at r'; obtain ⟨a, xs, z, _⟩ := r'; cases z
    | lst _ => simp only [Rep] at r'; obtain ⟨a, xs, z, _⟩ := r'; cases z
    | _ => simp only [Rep] at r'; cases r'
  | n, n', .str i, e, v, hd, he, r, r' => by
    simp only [Rep] at r; subst r
    cases e with
    | str j => simp only [Rep] at r'; cases r'; rfl
    | dT _ _ => simp [okD] at he
    | dK _ _ => simp [okD] at he
    | dD _ _ => simp [okD] at he
    | sp _ _ => simp [okD] at he
    | tup _ => simp only [Rep] at r'; obtain ⟨a, xs, z, _⟩ := r'; cases z
    | lst _ => simp only [Rep] at r'; obtain ⟨a, xs, z, _⟩ := r'; cases z
    | _ => simp only [Rep] at r'; cases r'
  | n, n', .tup ds, e, v, hd, he, r, r' => by
    simp only [Rep] at r
    obtain ⟨a, xs, rfl, hq, hr⟩ := r
    obtain ⟨k, _, hd⟩ := okD_tup hd
    cases e with
    | tup es =>
      simp only [Rep] at r'
      obtain ⟨b, ys, z, hq', hr'⟩ := r'
      cases z
      obtain rfl := I.tuple_inj (SqT.of hq) (SqT.of hq')
      obtain ⟨k', _, he⟩ := okD_tup he
      rw [Reps.inj I hd he hr hr']
    | lst es =>
      simp only [Rep] at r'
      obtain ⟨b, ys, z, hq', hr'⟩ := r'
      cases z
      exact (list_not_tuple I hq'.sq (SqT.of hq)).elim
    | dT _ _ => simp [okD] at he
    | dK _ _ => simp [okD] at he
    | dD _ _ => simp [okD] at he
    | sp _ _ => simp [okD] at he
    | _ => simp only [Rep] at r'; cases r'
  | n, n', .lst ds, e, v, hd, he, r, r' => by
    simp only [Rep] at r
    obtain ⟨a, xs, rfl, hq, hr⟩ := r
    obtain ⟨k, _, hd⟩ := okD_lst hd
    cases e with
    | lst es =>
      simp only [Rep] at r'
      obtain ⟨b, ys, z, hq', hr'⟩ := r'
      cases z
      obtain rfl := I.list_inj hq.sq hq'.sq
      obtain ⟨k', _, he⟩ := okD_lst he
      rw [Reps.inj I hd he hr hr']
    | tup es =>
      simp only [Rep] at r'
      obtain ⟨b, ys, z, hq', hr'⟩ := r'
      cases z
      exact (list_not_tuple I hq.sq (SqT.of hq')).elim
    | dT _ _ => simp [okD] at he
    | dK _ _ => simp [okD] at he
    | dD _ _ => simp [okD] at he
    | sp _ _ => simp [okD] at he
    | _ => simp only [Rep] at r'; cases r'
theorem Reps.inj (I : Inv X pins σ H s) : ∀ {n n' : Nat} {ds es : List D} {xs : List V}, ds.all (okD n) = true → es.all (okD n') = true → Reps X.K B H ds xs → Reps X.K B' H es xs → ds = es
  | n, n', [], es, xs, hd, he, r, r' => by
    simp only [Reps] at r; subst r
    cases es with
    | nil => rfl
    | cons e es => simp only [Reps] at r'; obtain ⟨_, _, z, _⟩ := r'; cases z
  | n, n', d :: ds, es, xs, hd, he, r, r' => by
    simp only [Reps] at r
    obtain ⟨x, t, rfl, r1, r2⟩ := r
    cases es with
    | nil => simp only [Reps] at r'; cases r'
    | cons e es =>
      obtain ⟨q1, q2⟩ := r'.uncons
      rw [List.all_cons, Bool.and_eq_true] at hd he
      rw [Rep.inj I hd.1 he.1 r1 q1, Reps.inj I hd.2 he.2 r2 q2]
end

theorem all_range_eq : ∀ (ds es : List D), (ds.length = es.length) → ((List.range ds.length).all fun j => decide (ds[j]? = es[j]?)) = decide (ds = es) := by
  intro ds es hl
  rw [Bool.eq_iff_iff, List.all_eq_true, decide_eq_true_iff]
  constructor
  · intro h
    apply List.ext_getElem? 
    intro j
    by_cases hj : j < ds.length
    · exact of_decide_eq_true (h j (List.mem_range.mpr hj))
    · rw [List.getElem?_eq_none (by omega), List.getElem?_eq_none (by omega)]
  · intro h j _
    subst h
    exact decide_eq_true rfl
theorem all_range_tup : ∀ (ds es : List D), (((List.range (min ds.length es.length)).all fun j => decide (ds[j]? = es[j]?)) && ds.length == es.length) = decide (ds = es) := by
  intro ds es
  by_cases hl : ds.length = es.length
  · rw [hl, Nat.min_self, beq_self_eq_true, Bool.and_true, ← hl, all_range_eq ds es hl]
  · have h1 : (ds.length == es.length) = false := by simpa using hl
    have h2 : ¬ ds = es := fun z => hl (by rw [z])
    rw [h1, Bool.and_false, decide_eq_false h2]

open SeqAt in
theorem eq_D (I : Inv X pins σ H s) : ∀ (n : Nat) (d e : D) (x y : V) (u w : Value) (A : Around), okD n d = true → okD n e = true → A.units + n + 1 < cLine → Rep X.K B H d x → Rep X.K B' H e y → RelV x u → RelV y w →
    RcAt A s u w (decide (d = e)) ∧ EqAt A s u w (decide (d = e)) ∧ RcNeAt A s u w (!decide (d = e)) := by
  intro n
  induction n using Nat.strongRecOn with
  | ind n ih =>
  intro d e x y u w A hd he hA rd re rx ry
  have hu : A.units < cLine := by omega
  cases d with
  | bl _ => simp [okD] at hd
  | dT _ _ => simp [okD] at hd
  | dK _ _ => simp [okD] at hd
  | dD _ _ => simp [okD] at hd
  | sp _ _ => simp [okD] at hd
  | non =>
    simp only [Rep] at rd; subst rd; cases rx
    cases e with
    | bl _ => simp [okD] at he
    | dT _ _ => simp [okD] at he
    | dK _ _ => simp [okD] at he
    | dD _ _ => simp [okD] at he
    | sp _ _ => simp [okD] at he
    | non => simp only [Rep] at re; subst re; cases ry; rw [decide_eq_true rfl]; exact ⟨RcAt.none_none, EqAt.same _, RcNeAt.none_none⟩
    | int j => simp only [Rep] at re; subst re; obtain ⟨t, rfl⟩ := ry; rw [decide_eq_false (by intro z; cases z)]; exact ⟨RcAt.none_int j t, EqAt.none_int j t, RcNeAt.none_int j t⟩
    | str j => simp only [Rep] at re; subst re; obtain ⟨t, rfl⟩ := ry; rw [decide_eq_false (by intro z; cases z)]; exact ⟨RcAt.none_str j t, EqAt.none_str j t, RcNeAt.none_str j t⟩
    | tup es =>
      simp only [Rep] at re; obtain ⟨b, ys, rfl, hq, hr⟩ := re; cases ry
      obtain ⟨its, rv, ht, _⟩ := I.tuple (SqT.of hq)
      rw [decide_eq_false (by intro z; cases z)]; exact ⟨RcAt.none_tuple ht hu, EqAt.none_tuple ht hu, RcNeAt.none_tuple ht hu⟩
    | lst es =>
      simp only [Rep] at re; obtain ⟨b, ys, rfl, hq, hr⟩ := re; cases ry
      obtain ⟨its, rv, ht, _⟩ := I.list hq.sq
      rw [decide_eq_false (by intro z; cases z)]; exact ⟨RcAt.none_list ht.isList hu, EqAt.none_list ht.isList hu, RcNeAt.none_list ht.isList hu⟩
  | int i =>
    simp only [Rep] at rd; subst rd; obtain ⟨t', rfl⟩ := rx
    cases e with
    | bl _ => simp [okD] at he
    | dT _ _ => simp [okD] at he
    | dK _ _ => simp [okD] at he
    | dD _ _ => simp [okD] at he
    | sp _ _ => simp [okD] at he
    | non => simp only [Rep] at re; subst re; cases ry; rw [decide_eq_false (by intro z; cases z)]; exact ⟨RcAt.int_none i t', EqAt.int_none i t', RcNeAt.int_none i t'⟩
    | int j =>
      simp only [Rep] at re; subst re; obtain ⟨t, rfl⟩ := ry
      have q : decide (D.int i = D.int j) = (i == j) := by rw [Bool.eq_iff_iff, decide_eq_true_iff, beq_iff_eq, D.int.injEq]
      rw [q]; exact ⟨RcAt.int_int i t' j t, EqAt.int_int i t' j t, RcNeAt.int_int i t' j t⟩
    | str j => simp only [Rep] at re; subst re; obtain ⟨t, rfl⟩ := ry; rw [decide_eq_false (by intro z; cases z)]; exact ⟨RcAt.int_str i t' j t, EqAt.int_str i t' j t, RcNeAt.int_str i t' j t⟩
    | tup es =>
      simp only [Rep] at re; obtain ⟨b, ys, rfl, hq, hr⟩ := re; cases ry
      obtain ⟨its, rv, ht, _⟩ := I.tuple (SqT.of hq)
      rw [decide_eq_false (by intro z; cases z)]; exact ⟨RcAt.int_tuple i t' ht hu, EqAt.int_tuple i t' ht hu, RcNeAt.int_tuple i t' ht hu⟩
    | lst es =>
      simp only [Rep] at re; obtain ⟨b, ys, rfl, hq, hr⟩ := re; cases ry
      obtain ⟨its, rv, ht, _⟩ := I.list hq.sq
      rw [decide_eq_false (by intro z; cases z)]; exact ⟨RcAt.int_list i t' ht.isList hu, EqAt.int_list i t' ht.isList hu, RcNeAt.int_list i t' ht.isList hu⟩
  | str i =>
    simp only [Rep] at rd; subst rd; obtain ⟨t', rfl⟩ := rx
    cases e with
    | bl _ => simp [okD] at he
    | dT _ _ => simp [okD] at he
    | dK _ _ => simp [okD] at he
    | dD _ _ => simp [okD] at he
    | sp _ _ => simp [okD] at he
    | non => simp only [Rep] at re; subst re; cases ry; rw [decide_eq_false (by intro z; cases z)]; exact ⟨RcAt.str_none i t', EqAt.str_none i t', RcNeAt.str_none i t'⟩
    | int j => simp only [Rep] at re; subst re; obtain ⟨t, rfl⟩ := ry; rw [decide_eq_false (by intro z; cases z)]; exact ⟨RcAt.str_int i t' j t, EqAt.str_int i t' j t, RcNeAt.str_int i t' j t⟩
    | str j =>
      simp only [Rep] at re; subst re; obtain ⟨t, rfl⟩ := ry
      have q : decide (D.str i = D.str j) = (i == j) := by rw [Bool.eq_iff_iff, decide_eq_true_iff, beq_iff_eq, D.str.injEq]
      rw [q]; exact ⟨RcAt.str_str i t' j t, EqAt.str_str i t' j t, RcNeAt.str_str i t' j t⟩
    | tup es =>
      simp only [Rep] at re; obtain ⟨b, ys, rfl, hq, hr⟩ := re; cases ry
      obtain ⟨its, rv, ht, _⟩ := I.tuple (SqT.of hq)
      rw [decide_eq_false (by intro z; cases z)]; exact ⟨RcAt.str_tuple i t' ht hu, EqAt.str_tuple i t' ht hu, RcNeAt.str_tuple i t' ht hu⟩
    | lst es =>
      simp only [Rep] at re; obtain ⟨b, ys, rfl, hq, hr⟩ := re; cases ry
      obtain ⟨its, rv, ht, _⟩ := I.list hq.sq
      rw [decide_eq_false (by intro z; cases z)]; exact ⟨RcAt.str_list i t' ht.isList hu, EqAt.str_list i t' ht.isList hu, RcNeAt.str_list i t' ht.isList hu⟩
  | tup ds =>
    simp only [Rep] at rd; obtain ⟨a, xs, rfl, hp, hr⟩ := rd; cases rx
    obtain ⟨its, rv, hta, _⟩ := I.tuple (SqT.of hp)
    obtain ⟨k, rfl, hd'⟩ := okD_tup hd
    cases e with
    | bl _ => simp [okD] at he
    | dT _ _ => simp [okD] at he
    | dK _ _ => simp [okD] at he
    | dD _ _ => simp [okD] at he
    | sp _ _ => simp [okD] at he
    | non => simp only [Rep] at re; subst re; cases ry; rw [decide_eq_false (by intro z; cases z)]; exact ⟨RcAt.tuple_none hta hu, EqAt.tuple_none hta hu, RcNeAt.tuple_none hta hu⟩
    | int j => simp only [Rep] at re; subst re; obtain ⟨t, rfl⟩ := ry; rw [decide_eq_false (by intro z; cases z)]; exact ⟨RcAt.tuple_int j t hta hu, EqAt.tuple_int j t hta hu, RcNeAt.tuple_int j t hta hu⟩
    | str j => simp only [Rep] at re; subst re; obtain ⟨t, rfl⟩ := ry; rw [decide_eq_false (by intro z; cases z)]; exact ⟨RcAt.tuple_str j t hta hu, EqAt.tuple_str j t hta hu, RcNeAt.tuple_str j t hta hu⟩
    | lst es =>
      simp only [Rep] at re; obtain ⟨b, ys, rfl, hq, hr⟩ := re; cases ry
      obtain ⟨its, rv, ht, _⟩ := I.list hq.sq
      rw [decide_eq_false (by intro z; cases z)]; exact ⟨RcAt.tuple_list hta ht.isList hu, EqAt.tuple_list hta ht.isList hu, RcNeAt.tuple_list hta ht.isList hu⟩
    | tup es =>
      simp only [Rep] at re; obtain ⟨b, ys, rfl, hq, hr2⟩ := re; cases ry
      obtain ⟨its2, rv2, htb, _⟩ := I.tuple (SqT.of hq)
      obtain ⟨k', e', he'⟩ := okD_tup he
      cases e'
      have l1 := hr.length; have l2 := rv.length; have l3 := hr2.length; have l4 := rv2.length
      have el : ∀ j (h1 : j < its.toArray.size) (h2 : j < its2.toArray.size), EqAt A.in1 s its.toArray[j] its2.toArray[j] (decide (ds[j]? = es[j]?)) := fun j h1 h2 => by
        simp only [List.size_toArray] at h1 h2
        obtain ⟨d', hd1⟩ : ∃ d', ds[j]? = some d' := ⟨ds[j]'(by omega), by simp⟩
        obtain ⟨e', he1⟩ : ∃ e', es[j]? = some e' := ⟨es[j]'(by omega), by simp⟩
        obtain ⟨x', hx1, rx'⟩ := hr.get hd1
        obtain ⟨y', hy1, ry'⟩ := hr2.get he1
        obtain ⟨u', hu1, ru'⟩ := rv.get hx1
        obtain ⟨w', hw1, rw'⟩ := rv2.get hy1
        have q := (ih k (Nat.lt_succ_self k) d' e' x' y' u' w' A.in1 ((List.all_eq_true.mp hd') d' (List.mem_of_getElem? hd1)) ((List.all_eq_true.mp he') e' (List.mem_of_getElem? he1)) (by show A.units + 1 + k + 1 < cLine; omega) rx' ry' ru' rw').2.1
        have g1 : its.toArray[j] = u' := by
          have := List.getElem?_eq_some_iff.mp hu1
          simpa using this.2
        have g2 : its2.toArray[j] = w' := by
          have := List.getElem?_eq_some_iff.mp hw1
          simpa using this.2
        rw [g1, g2, hd1, he1]
        have q2 : decide (some d' = some e') = decide (d' = e') := by simp
        rw [q2]
        exact q
      have key : ((List.range (min its.toArray.size its2.toArray.size)).all (fun j => decide (ds[j]? = es[j]?)) && its.toArray.size == its2.toArray.size) = decide (D.tup ds = D.tup es) := by
        rw [List.size_toArray, List.size_toArray, ← l2, ← l4, ← l1, ← l3, all_range_tup]
        simp only [D.tup.injEq]
      have rc := RcAt.tuples hta htb hu el
      have rn := RcNeAt.tuples hta htb hu el
      rw [key] at rc rn
      refine ⟨rc, ?_, rn⟩
      by_cases hab : a = b
      · subst hab
        obtain rfl := I.tuple_inj (SqT.of hp) (SqT.of hq)
        have := Reps.inj I hd' he' hr hr2
        subst this
        rw [decide_eq_true rfl]
        exact EqAt.same _
      · exact EqAt.of_refs hab rc
  | lst ds =>
    simp only [Rep] at rd; obtain ⟨a, xs, rfl, hp, hr⟩ := rd; cases rx
    obtain ⟨its, rv, hta, _⟩ := I.list hp.sq
    obtain ⟨k, rfl, hd'⟩ := okD_lst hd
    cases e with
    | bl _ => simp [okD] at he
    | dT _ _ => simp [okD] at he
    | dK _ _ => simp [okD] at he
    | dD _ _ => simp [okD] at he
    | sp _ _ => simp [okD] at he
    | non => simp only [Rep] at re; subst re; cases ry; rw [decide_eq_false (by intro z; cases z)]; exact ⟨RcAt.list_none hta.isList hu, EqAt.list_none hta.isList hu, RcNeAt.list_none hta.isList hu⟩
    | int j => simp only [Rep] at re; subst re; obtain ⟨t, rfl⟩ := ry; rw [decide_eq_false (by intro z; cases z)]; exact ⟨RcAt.list_int j t hta.isList hu, EqAt.list_int j t hta.isList hu, RcNeAt.list_int j t hta.isList hu⟩
    | str j => simp only [Rep] at re; subst re; obtain ⟨t, rfl⟩ := ry; rw [decide_eq_false (by intro z; cases z)]; exact ⟨RcAt.list_str j t hta.isList hu, EqAt.list_str j t hta.isList hu, RcNeAt.list_str j t hta.isList hu⟩
    | tup es =>
      simp only [Rep] at re; obtain ⟨b, ys, rfl, hq, hr⟩ := re; cases ry
      obtain ⟨its, rv, ht, _⟩ := I.tuple (SqT.of hq)
      rw [decide_eq_false (by intro z; cases z)]; exact ⟨RcAt.list_tuple hta.isList ht hu, EqAt.list_tuple hta.isList ht hu, RcNeAt.list_tuple hta.isList ht hu⟩
    | lst es =>
      simp only [Rep] at re; obtain ⟨b, ys, rfl, hq, hr2⟩ := re; cases ry
      obtain ⟨its2, rv2, htb, _⟩ := I.list hq.sq
      obtain ⟨k', e', he'⟩ := okD_lst he
      cases e'
      have l1 := hr.length; have l2 := rv.length; have l3 := hr2.length; have l4 := rv2.length
      have el : ∀ j (h1 : j < its.toArray.size) (h2 : j < its2.toArray.size), EqAt A.in1 s its.toArray[j] its2.toArray[j] (decide (ds[j]? = es[j]?)) := fun j h1 h2 => by
        simp only [List.size_toArray] at h1 h2
        obtain ⟨d', hd1⟩ : ∃ d', ds[j]? = some d' := ⟨ds[j]'(by omega), by simp⟩
        obtain ⟨e', he1⟩ : ∃ e', es[j]? = some e' := ⟨es[j]'(by omega), by simp⟩
        obtain ⟨x', hx1, rx'⟩ := hr.get hd1
        obtain ⟨y', hy1, ry'⟩ := hr2.get he1
        obtain ⟨u', hu1, ru'⟩ := rv.get hx1
        obtain ⟨w', hw1, rw'⟩ := rv2.get hy1
        have q := (ih k (Nat.lt_succ_self k) d' e' x' y' u' w' A.in1 ((List.all_eq_true.mp hd') d' (List.mem_of_getElem? hd1)) ((List.all_eq_true.mp he') e' (List.mem_of_getElem? he1)) (by show A.units + 1 + k + 1 < cLine; omega) rx' ry' ru' rw').2.1
        have g1 : its.toArray[j] = u' := by
          have := List.getElem?_eq_some_iff.mp hu1
          simpa using this.2
        have g2 : its2.toArray[j] = w' := by
          have := List.getElem?_eq_some_iff.mp hw1
          simpa using this.2
        rw [g1, g2, hd1, he1]
        have q2 : decide (some d' = some e') = decide (d' = e') := by simp
        rw [q2]
        exact q
      by_cases hsz : its.toArray.size = its2.toArray.size
      · have key : ((List.range its.toArray.size).all (fun j => decide (ds[j]? = es[j]?))) = decide (D.lst ds = D.lst es) := by
          have hl : ds.length = es.length := by simp only [List.size_toArray] at hsz; omega
          rw [List.size_toArray, ← l2, ← l1, all_range_eq _ _ hl]
          simp only [D.lst.injEq]
        have rc := RcAt.lists hta.isList htb.isList hsz hu el
        have rn := RcNeAt.lists hta.isList htb.isList hsz hu el
        rw [key] at rc rn
        refine ⟨rc, ?_, rn⟩
        by_cases hab : a = b
        · subst hab
          obtain rfl := I.list_inj hp.sq hq.sq
          have := Reps.inj I hd' he' hr hr2
          subst this
          rw [decide_eq_true rfl]
          exact EqAt.same _
        · exact EqAt.of_refs hab rc
      · have hne : ¬ D.lst ds = D.lst es := fun z => hsz (by
          cases z
          simp only [List.size_toArray]; omega)
        have hb : (its.toArray.size != its2.toArray.size) = true := by simpa using hsz
        rw [decide_eq_false hne]
        have rc := RcAt.lists_lengths hta.isList htb.isList hb hu
        refine ⟨rc, ?_, RcNeAt.lists_lengths hta.isList htb.isList hb hu⟩
        have hab : a ≠ b := fun z => by
          subst z
          obtain rfl := I.list_inj hp.sq hq.sq
          exact hsz (by simp only [List.size_toArray]; omega)
        exact EqAt.of_refs hab rc
end

section
variable {X : Cx} {m m' mm : Bool} {a b : Expr} {fa fb : DEnv → Option D} {pos : Pos}
def ok2 (x y : D) : Bool := okD 16 x && okD 16 y
def eqO (x y : Option D) : Option Bool := match x, y with | some d, some e => if ok2 d e = true then some (decide (d = e)) else none | _, _ => none
theorem eqO_some {x y : Option D} {c : Bool} (h : eqO x y = some c) : ∃ d e, x = some d ∧ y = some e ∧ okD 16 d = true ∧ okD 16 e = true ∧ c = decide (d = e) := by
  unfold eqO at h
  split at h
  · rename_i d e
    by_cases q : ok2 d e = true
    · rw [if_pos q] at h
      cases h
      unfold ok2 at q
      rw [Bool.and_eq_true] at q
      exact ⟨d, e, rfl, rfl, q.1, q.2, rfl⟩
    · rw [if_neg q] at h; cases h
  · cases h
def neO (x y : Option D) : Option Bool := notO (eqO x y)

def rD (K : PySem.W.Frag) (g : D → D → Bool) : R2 := fun x y H Q => ∃ B B' d e, okD 16 d = true ∧ okD 16 e = true ∧ Rep K B H d x ∧ Rep K B' H e y ∧ Q (.bl (g d e)) H
theorem op_eqD (hu : X.A.units + 64 < cLine) : OpR X (compareOp .Eq) (rD X.K fun d e => decide (d = e)) := by
  intro pins s σ H x y v u Q I rx ry h
  obtain ⟨B, B', d, e, hd, he, r1, r2, q⟩ := h
  exact (eq_D I 16 d e x y v u X.A hd he (by omega) r1 r2 rx ry).1 X.prog X.w X.xe _ ⟨.bl _, H, I, rfl, q⟩
theorem op_neD (hu : X.A.units + 64 < cLine) : OpR X (compareOp .NotEq) (rD X.K fun d e => !decide (d = e)) := by
  intro pins s σ H x y v u Q I rx ry h
  obtain ⟨B, B', d, e, hd, he, r1, r2, q⟩ := h
  exact (eq_D I 16 d e x y v u X.A hd he (by omega) r1 r2 rx ry).2.2 X.prog X.w X.xe _ ⟨.bl _, H, I, rfl, q⟩
theorem de_eq (hu : X.A.units + 64 < cLine) (ha : DE X m a fa) (hb : DE X m' b fb) : DE X mm (.Compare a [.Eq] [b] pos) (fun δ => ofB (eqO (fa δ) (fb δ))) :=
  (pe_cmpR (op_eqD hu) ha hb (nomark _)).imp fun σ H Q ⟨B, Hk, δ, d, R, e, k⟩ => by
    cases q : eqO (fa δ) (fb δ) with
    | none => simp only [q, ofB] at e; cases e
    | some c =>
      simp only [q, ofB] at e; cases e
      obtain ⟨d1, d2, e1, e2, o1, o2, rfl⟩ := eqO_some q
      exact two R e1 e2 fun v u H' s R' r1 r2 => ⟨_, _, d1, d2, o1, o2, r1, r2, k _ H' s (by simp only [Rep])⟩
theorem de_ne (hu : X.A.units + 64 < cLine) (ha : DE X m a fa) (hb : DE X m' b fb) : DE X mm (.Compare a [.NotEq] [b] pos) (fun δ => ofB (neO (fa δ) (fb δ))) :=
  (pe_cmpR (op_neD hu) ha hb (nomark _)).imp fun σ H Q ⟨B, Hk, δ, d, R, e, k⟩ => by
    cases q : eqO (fa δ) (fb δ) with
    | none => simp only [q, ofB, neO, notO] at e; cases e
    | some c =>
      simp only [q, ofB, neO, notO] at e; cases e
      obtain ⟨d1, d2, e1, e2, o1, o2, rfl⟩ := eqO_some q
      exact two R e1 e2 fun v u H' s R' r1 r2 => ⟨_, _, d1, d2, o1, o2, r1, r2, k _ H' s (by simp only [Rep])⟩
theorem dt_eq (hu : X.A.units + 64 < cLine) (ha : DE X m a fa) (hb : DE X m' b fb) : DT X (.Compare a [.Eq] [b] pos) (fun δ => eqO (fa δ) (fb δ)) :=
  (pt_cmpR (op_eqD hu) ha hb (nomark _)).imp fun σ H Q ⟨B, Hk, δ, d, R, q, k⟩ => by
    obtain ⟨d1, d2, e1, e2, o1, o2, rfl⟩ := eqO_some q
    exact two R e1 e2 fun v u H' s R' r1 r2 => ⟨_, _, d1, d2, o1, o2, r1, r2, _, rfl, k H' s⟩
theorem dt_ne (hu : X.A.units + 64 < cLine) (ha : DE X m a fa) (hb : DE X m' b fb) : DT X (.Compare a [.NotEq] [b] pos) (fun δ => neO (fa δ) (fb δ)) :=
  (pt_cmpR (op_neD hu) ha hb (nomark _)).imp fun σ H Q ⟨B, Hk, δ, d, R, e, k⟩ => by
    cases q : eqO (fa δ) (fb δ) with
    | none => simp only [q, neO, notO] at e; cases e
    | some c =>
      simp only [q, neO, notO] at e; cases e
      obtain ⟨d1, d2, e1, e2, o1, o2, rfl⟩ := eqO_some q
      exact two R e1 e2 fun v u H' s R' r1 r2 => ⟨_, _, d1, d2, o1, o2, r1, r2, _, rfl, k H' s⟩

def itemsD : D → Option (List D)
  | .lst ds => some ds
  | .tup ds => some ds
  | _ => none
def inO (x y : Option D) : Option Bool := match x, y with | some d, some e => (match itemsD e with | some es => if (okD 16 d && es.all (okD 16)) = true then some (decide (d ∈ es)) else none | none => none) | _, _ => none
theorem inO_some {x y : Option D} {c : Bool} (h : inO x y = some c) : ∃ d e es, x = some d ∧ y = some e ∧ itemsD e = some es ∧ okD 16 d = true ∧ es.all (okD 16) = true ∧ c = decide (d ∈ es) := by
  unfold inO at h
  split at h
  · rename_i d e
    split at h
    · rename_i es he
      by_cases q : (okD 16 d && es.all (okD 16)) = true
      · rw [if_pos q] at h
        cases h
        rw [Bool.and_eq_true] at q
        exact ⟨d, e, es, rfl, rfl, he, q.1, q.2, rfl⟩
      · rw [if_neg q] at h; cases h
    · cases h
  · cases h
theorem Rep.items {K : PySem.W.Frag} {B : Addr → Prop} {H : Hp} {e : D} {es : List D} {y : V} (r : Rep K B H e y) (h : itemsD e = some es) : ∃ p xs, y = .ref p ∧ (SqL K H p xs ∨ SqT K H p xs) ∧ Reps K B H es xs := by
  cases e with
  | lst ds => simp only [itemsD] at h; cases h; simp only [Rep] at r; obtain ⟨a, xs, e, hq, hr⟩ := r; exact ⟨a, xs, e, .inl hq.sq, hr⟩
  | tup ds => simp only [itemsD] at h; cases h; simp only [Rep] at r; obtain ⟨a, xs, e, hq, hr⟩ := r; exact ⟨a, xs, e, .inr (SqT.of hq), hr⟩
  | _ => simp [itemsD] at h
open Classical in
theorem in_ok {pins : List (Addr × Obj)} {σ : St} {H : Hp} {s : Shared} {B B' : Addr → Prop} {d : D} {es : List D} {x : V} {v : Value} {xs : List V} {its : List Value} (hu : X.A.units + 64 < cLine) (I : Inv X pins σ H s) (hd : okD 16 d = true) (he : es.all (okD 16) = true)
    (r1 : Rep X.K B H d x) (r2 : Reps X.K B' H es xs) (rx : RelV x v) (rv : Vals xs its) : ∃ e : Value → Bool, (∀ y, y ∈ its.toArray → SeqAt.EqAt X.A.in1 s y v (e y)) ∧ its.toArray.any e = decide (d ∈ es) := by
  have one : ∀ j u, its[j]? = some u → ∃ d' x', es[j]? = some d' ∧ okD 16 d' = true ∧ Rep X.K B' H d' x' ∧ RelV x' u := fun j u hj => by
    have hl := rv.length
    have hlt : j < xs.length := by rw [hl]; exact (List.getElem?_eq_some_iff.mp hj).1
    obtain ⟨u', hu', ru⟩ := rv.get (i := j) (x := xs[j]) (by simp [hlt])
    rw [hj] at hu'; cases hu'
    obtain ⟨d', hd', rd'⟩ := r2.get' (i := j) (x := xs[j]) (by simp [hlt])
    exact ⟨d', xs[j], hd', (List.all_eq_true.mp he) d' (List.mem_of_getElem? hd'), rd', ru⟩
  refine ⟨fun u => decide (∃ d' x', okD 16 d' = true ∧ Rep X.K B' H d' x' ∧ RelV x' u ∧ d' = d), fun u hu' => ?_, ?_⟩
  · obtain ⟨j, hj⟩ := List.getElem?_of_mem (show u ∈ its by simpa using hu')
    obtain ⟨d', x', _, o', rd', ru⟩ := one j u hj
    have q := (eq_D I 16 d' d x' x u v X.A.in1 o' hd (by show X.A.units + 1 + 16 + 1 < cLine; omega) rd' r1 ru rx).2.1
    have key : decide (∃ d' x', okD 16 d' = true ∧ Rep X.K B' H d' x' ∧ RelV x' u ∧ d' = d) = decide (d' = d) := by
      rw [Bool.eq_iff_iff, decide_eq_true_iff, decide_eq_true_iff]
      constructor
      · rintro ⟨d2, x2, o2, r2', ru2, e2⟩
        rw [← e2]
        have ex := ru.inj ru2
        subst ex
        exact Rep.inj I o' o2 rd' r2'
      · intro e2
        exact ⟨d', x', o', rd', ru, e2⟩
    show SeqAt.EqAt X.A.in1 s u v (decide (∃ d' x', okD 16 d' = true ∧ Rep X.K B' H d' x' ∧ RelV x' u ∧ d' = d))
    rw [key]
    exact q
  · rw [Bool.eq_iff_iff, decide_eq_true_iff, Array.any_eq_true]
    constructor
    · rintro ⟨j, hj, h⟩
      have h' := of_decide_eq_true h
      obtain ⟨d2, x2, o2, r2', ru2, e2⟩ := h'
      have hj' : its[j]? = some its.toArray[j] := by
        simp only [List.size_toArray] at hj
        simp [hj]
      obtain ⟨d', x', hd', o', rd', ru⟩ := one j _ hj'
      have ex := ru.inj ru2
      subst ex
      have := Rep.inj I o' o2 rd' r2'
      subst this
      rw [← e2]
      exact List.mem_of_getElem? hd'
    · intro h
      obtain ⟨j, hj⟩ := List.getElem?_of_mem h
      obtain ⟨y, hy, ry⟩ := r2.get hj
      obtain ⟨u, hu', ru⟩ := rv.get hy
      obtain ⟨hlt, ge⟩ := List.getElem?_eq_some_iff.mp hu'
      refine ⟨j, by simpa using hlt, decide_eq_true ⟨d, y, hd, ry, ?_, rfl⟩⟩
      simpa [ge] using ru
def rInD (K : PySem.W.Frag) (neg : Bool) : R2 := fun x y H Q => ∃ B B' d e es, itemsD e = some es ∧ okD 16 d = true ∧ es.all (okD 16) = true ∧ Rep K B H d x ∧ Rep K B' H e y ∧ Q (.bl (if neg then !decide (d ∈ es) else decide (d ∈ es))) H
theorem op_inD (hu : X.A.units + 64 < cLine) : OpR X (compareOp .In) (rInD X.K false) := by
  intro pins s σ H x y v u Q I rx ry h
  obtain ⟨B, B', d, e, es, hi, hd, he, r1, r2, q⟩ := h
  obtain ⟨p, xs, rfl, hq, rs⟩ := r2.items hi
  cases ry
  rcases hq with hq | hq
  · obtain ⟨its, r, pl, hz⟩ := I.list hq
    obtain ⟨g, g1, g2⟩ := in_ok hu I hd he r1 rs rx r
    exact SeqAt.in_listAt g pl.isList g1 ⟨.bl _, H, I, rfl, by rw [g2]; exact q⟩
  · obtain ⟨its, r, pl, hz⟩ := I.tuple hq
    obtain ⟨g, g1, g2⟩ := in_ok hu I hd he r1 rs rx r
    exact SeqAt.in_tupleAt g pl g1 ⟨.bl _, H, I, rfl, by rw [g2]; exact q⟩
theorem dt_in (hu : X.A.units + 64 < cLine) (ha : DE X m a fa) (hb : DE X m' b fb) (hm : behindInMarks .In b = false := by rfl) : DT X (.Compare a [.In] [b] pos) (fun δ => inO (fa δ) (fb δ)) :=
  (pt_cmpR (op_inD hu) ha hb hm).imp fun σ H Q ⟨B, Hk, δ, d, R, q, k⟩ => by
    obtain ⟨d1, d2, es, e1, e2, hi, o1, o2, rfl⟩ := inO_some q
    exact two R e1 e2 fun v u H' s R' r1 r2 => ⟨_, _, d1, d2, es, hi, o1, o2, r1, r2, _, rfl, k H' s⟩
end
end L2

end

section
set_option maxHeartbeats 1000000
namespace L2
open PySem PySem.Spec PyProof.Rows

section
variable {X : Cx} {m m' mm : Bool} {a b : Expr} {fa fb : DEnv → Option D} {pos : Pos}

def ixO (x y : Option D) : Option D := match x, y with | some d, some (.int i) => (match itemsD d with | some ds => atI ds i | none => none) | _, _ => none
theorem ixO_some {x y : Option D} {d : D} (h : ixO x y = some d) : ∃ e i es, x = some e ∧ y = some (.int i) ∧ itemsD e = some es ∧ atI es i = some d := by
  unfold ixO at h
  split at h
  · rename_i e i
    split at h
    · rename_i es he; exact ⟨e, i, es, rfl, rfl, he, h⟩
    · cases h
  · cases h
theorem Reps.atI {K : PySem.W.Frag} {B : Addr → Prop} {H : Hp} {ds : List D} {xs : List V} {i : Int} {d : D} (r : Reps K B H ds xs) (h : atI ds i = some d) : ∃ x, atI xs i = some x ∧ Rep K B H d x := by
  unfold L2.atI at h ⊢
  rw [r.length] at h
  cases q : ixN xs.length i with
  | none => rw [q] at h; cases h
  | some j =>
    rw [q] at h
    exact r.get (i := j) h
theorem ix_items {K : PySem.W.Frag} {B : Addr → Prop} {H : Hp} {e : D} {es : List D} {y : V} {i : Int} {d : D} {Q : VK} (r : Rep K B H e y) (h : itemsD e = some es) (hi : atI es i = some d) (k : ∀ v, Rep K B H d v → Q v H) : rIx K y (.int i) H Q := by
  obtain ⟨p, xs, rfl, hq, rs⟩ := r.items h
  obtain ⟨x, hx, rx⟩ := rs.atI hi
  rcases hq with hq | hq
  · exact .inl ⟨p, xs, i, x, rfl, rfl, hq, hx, k x rx⟩
  · exact .inr (.inl ⟨p, xs, i, x, rfl, rfl, hq, hx, k x rx⟩)
theorem de_ix (ha : DE X m a fa) (hb : DE X m' b fb) (hs : PlainIx b := by exact fun _ _ => rfl) : DE X m (.Subscript a b pos) (fun δ => ixO (fa δ) (fb δ)) :=
  (pe_ix ix_seq ha hb hs).imp fun σ H Q ⟨B, Hk, δ, d, R, e, k⟩ => by
    obtain ⟨d1, i, es, e1, e2, hi, hd⟩ := ixO_some e
    refine two R e1 e2 fun v u H' s R' r1 r2 => ?_
    simp only [Rep] at r2
    subst r2
    exact ix_items r1 hi hd fun v rv => k v H' s rv

def ixSO (x y : Option D) : Option D := match x, y with | some (.str z), some (.int i) => if z.length ≤ lim then (match atI z.cps.toList i with | some c => some (.str ⟨#[c]⟩) | none => none) else none | _, _ => none
theorem ixSO_some {x y : Option D} {d : D} (h : ixSO x y = some d) : ∃ z i c, x = some (.str z) ∧ y = some (.int i) ∧ z.length ≤ lim ∧ atI z.cps.toList i = some c ∧ d = .str ⟨#[c]⟩ := by
  unfold ixSO at h
  split at h
  · rename_i z i
    by_cases q : z.length ≤ lim
    · rw [if_pos q] at h
      split at h
      · rename_i c hc; cases h; exact ⟨z, i, c, rfl, rfl, q, hc, rfl⟩
      · cases h
    · rw [if_neg q] at h; cases h
  · cases h
theorem de_ixS (ha : DE X m a fa) (hb : DE X m' b fb) (hs : PlainIx b := by exact fun _ _ => rfl) : DE X mm (.Subscript a b pos) (fun δ => ixSO (fa δ) (fb δ)) :=
  (pe_ix ix_str ha hb hs).imp fun σ H Q ⟨B, Hk, δ, d, R, e, k⟩ => by
    obtain ⟨z, i, c, e1, e2, hl, hc, rfl⟩ := ixSO_some e
    refine two R e1 e2 fun v u H' s R' r1 r2 => ?_
    simp only [Rep] at r1 r2
    subst r1 r2
    exact ⟨z, i, c, rfl, rfl, lim_line hl, hc, k _ H' s (by simp only [Rep])⟩

def lenO (x : Option D) : Option D := match x with | some d => (match itemsD d with | some ds => some (.int ds.length) | none => (match d with | .str z => if z.length ≤ lim then some (.int z.length) else none | _ => none)) | none => none
def lenL (x : Option D) : Option D := match x with | some d => (match itemsD d with | some ds => some (.int ds.length) | none => none) | none => none
theorem lenL_some {x : Option D} {d : D} (h : lenL x = some d) : ∃ e es, x = some e ∧ itemsD e = some es ∧ d = .int es.length := by
  unfold lenL at h
  split at h
  · rename_i e
    split at h
    · rename_i es he; cases h; exact ⟨e, es, rfl, he, rfl⟩
    · cases h
  · cases h

theorem oneA {K : PySem.W.Frag} {σ : St} {H : Hp} {B : Addr → Prop} {Hk : Hp} {δ : DEnv} {d : D} {P : List V → Hp → Prop} (R : Rel K B Hk δ σ H) (e : fa δ = some d)
    (k : ∀ v H', Same H H' → Rel K B Hk δ σ H' → Rep K (bset m B δ σ) H' d v → P [v] H') : tCons (tM K m fa) tNil σ H P :=
  ⟨B, Hk, δ, d, R, e, fun v H1 s1 r1 => k v H1 s1 (R.to s1) r1⟩
theorem de_len (g : Gl X "len") (hm : X.mg "len" = none) {p : Pos} (ha : DE X m a fa) (hs : starEach [a] X.env = [(false, eval a X.env)] := by rfl) (hd1 : ((Str.ofString "len") == ("__debug__" : Str)) = false := by decide) : DE X mm (.Call (.Name "len" p) [a] [] pos) (fun δ => lenL (fa δ)) :=
  (pe_callB call_len_seq g hm PySem.boot_len (pa_cons ha pa_nil hs) (he := hs)).imp fun σ H Q ⟨B, Hk, δ, d, R, e, k⟩ => by
    obtain ⟨d1, es, e1, hi, rfl⟩ := lenL_some e
    refine oneA R e1 fun v H' s R' r => ?_
    obtain ⟨p, xs, rfl, hq, rs⟩ := r.items hi
    exact ⟨p, xs, rfl, hq, k _ H' s (by simp only [Rep, rs.length])⟩

theorem Inv.frz {pins : List (Addr × Obj)} {σ : St} {H : Hp} {s : Shared} {p : Addr} {u : HO} (I : Inv X pins σ H s) (h : H p = some u) (mu : Mut (some u)) : ∃ o, Inv X pins σ (upd H p (.frz o u)) s := by
  have hob := I.hok p u h
  have hlt := hob.lt
  have mu' : Mut (H p) := by rw [h]; exact mu
  have heo : ∃ o, s.heap.get? p = some o := by
    cases u with
    | lst xs => obtain ⟨_, _, _, _, e⟩ := hob; exact ⟨_, e⟩
    | tup xs => exact mu.elim
    | dK kvs => obtain ⟨_, _, _, _, o, _, _, e, _⟩ := hob; exact ⟨_, e⟩
    | dD kvs ep => obtain ⟨_, _, _, _, o, _, e, _⟩ := hob; exact ⟨_, e⟩
    | dT kvs => obtain ⟨_, _, _, _, o, _, _, e, _⟩ := hob; exact ⟨_, e⟩
    | set S n => obtain ⟨o, _, _, _, e, _⟩ := hob; exact ⟨_, e⟩
    | ins C dx fs => obtain ⟨_, _, _, e, _⟩ := hob; exact ⟨_, e⟩
    | own y => exact mu.elim
    | xd fs => exact mu.elim
    | rng lo hi => exact mu.elim
    | frz ob u => exact mu.elim
    | tbl ps => exact mu.elim
    | met f y => exact mu.elim
    | ext φ => obtain ⟨_, ⟨_, e⟩, _⟩ := hob; exact ⟨_, e⟩
  obtain ⟨o, ho⟩ := heo
  refine ⟨o, ?_⟩
  have nown : ∀ c y, H c = some (.own y) → c ≠ p := fun c y r z => by subst z; rw [h] at r; cases r; exact mu
  have ntup : ∀ c xs, H c = some (.tup xs) → c ≠ p := fun c xs r z => by subst z; rw [h] at r; cases r; exact mu
  have new : ObjOk X.prog X.w (upd H p (.frz o u)) s.heap p (.frz o u) := ⟨ho, hob.stay (fun b v _ q => q) (fun b q => by rw [upd_ne (nown b p q)]; exact q) fun b xs q => by rw [upd_ne (ntup b xs q)]; exact q⟩
  exact I.un (t' := s.toks) (Un.write mu' (.inl rfl) (fun b v _ q => q) ⟨o, ho⟩) (I.hok.write mu' (.inl rfl) (fun b v _ q => q) ⟨o, ho⟩ new)
theorem ObR.mut {K : PySem.W.Frag} {B : Addr → Prop} {H : Hp} {d : D} {p : Addr} (h : ObR K B H d p) : ∃ u, H p = some u ∧ Mut (some u) := by
  cases d with
  | lst ds => obtain ⟨xs, h1, h2⟩ := h; exact ⟨_, h1, trivial⟩
  | dT ks ds => obtain ⟨xs, h1, h0, h2⟩ := h; exact ⟨_, h1, trivial⟩
  | dK ks ds => obtain ⟨xs, h1, h0, h2⟩ := h; exact ⟨_, h1, trivial⟩
  | dD ks ds => obtain ⟨xs, ⟨ep, h1⟩, h0, h2⟩ := h; exact ⟨_, h1, trivial⟩
  | _ => exact (show False from h).elim

theorem ext_upd {B : Addr → Prop} {H : Hp} {p : Addr} {u o : HO} (h : H p = some u) (mu : Mut (some u)) (hb : ¬ B p) : Ext B H (upd H p o) :=
  ⟨fun c xs r => by rw [upd_ne (fun z => by subst z; rw [h] at r; cases r; exact mu)]; exact r, fun c x y r => by rw [upd_ne (fun z => by subst z; rw [h] at r; cases r; exact mu)]; exact r,
    fun c r => by rw [upd_ne (fun z => by subst z; exact hb r)]⟩
theorem ObR.frozen {K : PySem.W.Frag} {B B' : Addr → Prop} {H : Hp} {d : D} {p : Addr} {u : HO} {o : Obj} (h : ObR K B H d p) (hu : H p = some u) (hb : ¬ B p) (hs : ∀ a, B a → B' a) : Rep K B' (upd H p (.frz o u)) d (.ref p) := by
  obtain ⟨u', e, mu⟩ := h.mut
  rw [hu] at e; cases e
  have ex : Ext B H (upd H p (.frz o u)) := ext_upd hu mu hb
  cases d with
  | lst ds =>
    obtain ⟨xs, h1, h2⟩ := h
    rw [hu] at h1; cases h1
    simp only [Rep]
    exact ⟨p, xs, rfl, .inr (.inl ⟨o, upd_same⟩), (h2.ext ex).more hs⟩
  | dT ks ds =>
    obtain ⟨xs, h1, h0, h2⟩ := h
    rw [hu] at h1; cases h1
    simp only [Rep]
    exact ⟨p, xs, rfl, .inr ⟨o, upd_same⟩, h0, (h2.ext ex).more hs⟩
  | dK ks ds =>
    obtain ⟨xs, h1, h0, h2⟩ := h
    rw [hu] at h1; cases h1
    simp only [Rep]
    exact ⟨p, xs, rfl, .inr ⟨o, upd_same⟩, h0, (h2.ext ex).more hs⟩
  | dD ks ds =>
    obtain ⟨xs, ⟨ep, h1⟩, h0, h2⟩ := h
    rw [hu] at h1; cases h1
    simp only [Rep]
    exact ⟨p, xs, rfl, ⟨ep, .inr ⟨o, upd_same⟩⟩, h0, (h2.ext ex).more hs⟩
  | _ => exact (show False from h).elim

theorem DF.share (h : DF X a fa) : DE X m a fa := by
  intro pins s σ H Q I hq
  obtain ⟨B, Hk, δ, d, R, e, k⟩ := hq
  have h1 := h pins s σ H (fun v H' => ∃ p, v = .ref p ∧ Same H H' ∧ H p = none ∧ ObR X.K B H' d p) I ⟨B, Hk, δ, d, R, e, fun p H' s n ob => ⟨p, rfl, s, n, ob⟩⟩
  refine thn h1 fun u s1 ⟨v, H1, I1, rv, p, ev, sm, hn, ob⟩ => ?_
  subst ev
  obtain ⟨u', hu, mu⟩ := ob.mut
  obtain ⟨o, I2⟩ := I1.frz hu mu
  have hb : ¬ B p := fun z => by
    obtain ⟨o', e'⟩ := R.borH p z
    rw [hn] at e'; cases e'
  refine ⟨.ref p, _, I2, rv, k _ _ (fun c o' r => ?_) (ob.frozen hu hb fun a h => bset_of m a h)⟩
  rw [upd_ne (ne_of_none r hn)]
  exact sm c o' r
end

def NRep (K : PySem.W.Frag) (B : Addr → Prop) (Hk H : Hp) (d : D) (v : V) : Prop := match d with
  | .lst es => ∃ b xs, v = .ref b ∧ Hk b = none ∧ H b = some (.lst xs) ∧ Reps K B H es xs
  | d => Rep K B H d v
def NReps (K : PySem.W.Frag) (B : Addr → Prop) (Hk H : Hp) : List D → List V → Prop
  | [], vs => vs = []
  | d :: ds, vs => ∃ x r, vs = x :: r ∧ NRep K B Hk H d x ∧ NReps K B Hk H ds r

def RepT (K : PySem.W.Frag) (B : Addr → Prop) (Hk H : Hp) (d : D) (v : V) : Prop := match d with
  | .tup ds => ∃ a vs, v = .ref a ∧ H a = some (.tup vs) ∧ NReps K B Hk H ds vs
  | _ => False

def MRep (K : PySem.W.Frag) (B : Addr → Prop) (Hk H : Hp) (d : D) (v : V) : Prop := Rep K B H d v ∨ ∃ es b xs, d = .lst es ∧ v = .ref b ∧ Hk b = none ∧ H b = some (.lst xs) ∧ Reps K B H es xs
def MReps (K : PySem.W.Frag) (B : Addr → Prop) (Hk H : Hp) : List D → List V → Prop
  | [], vs => vs = []
  | d :: ds, vs => ∃ x r, vs = x :: r ∧ MRep K B Hk H d x ∧ MReps K B Hk H ds r
theorem NRep.m {K : PySem.W.Frag} {B : Addr → Prop} {Hk H : Hp} {d : D} {v : V} (h : NRep K B Hk H d v) : MRep K B Hk H d v := by
  cases d with
  | lst es => obtain ⟨b, xs, h1, h2, h3, h4⟩ := h; exact .inr ⟨es, b, xs, rfl, h1, h2, h3, h4⟩
  | _ => exact .inl h
theorem NReps.m {K : PySem.W.Frag} {B : Addr → Prop} {Hk H : Hp} : ∀ {ds : List D} {vs : List V}, NReps K B Hk H ds vs → MReps K B Hk H ds vs
  | [], vs, h => h
  | d :: ds, vs, h => by obtain ⟨x, r, e, h1, h2⟩ := h; exact ⟨x, r, e, h1.m, NReps.m h2⟩
theorem MReps.frz1 {K : PySem.W.Frag} {B : Addr → Prop} {Hk H : Hp} {b : Addr} {xs : List V} {o : Obj} (hx : H b = some (.lst xs)) (ex : Ext B H (upd H b (.frz o (.lst xs)))) : ∀ {ds : List D} {vs : List V}, MReps K B Hk H ds vs → MReps K B Hk (upd H b (.frz o (.lst xs))) ds vs
  | [], vs, h => h
  | d :: ds, vs, h => by
    obtain ⟨x, r, e, h1, h2⟩ := h
    refine ⟨x, r, e, ?_, MReps.frz1 hx ex h2⟩
    rcases h1 with h1 | ⟨es, b', xs', rfl, rfl, n, hb', rs⟩
    · exact .inl (h1.ext ex)
    · by_cases q : b' = b
      · subst q
        rw [hx] at hb'; cases hb'
        refine .inl ?_
        simp only [Rep]
        exact ⟨b', xs, rfl, .inr (.inl ⟨o, upd_same⟩), rs.ext ex⟩
      · exact .inr ⟨es, b', xs', rfl, rfl, n, by rw [upd_ne q]; exact hb', rs.ext ex⟩
theorem frzT {X : Cx} {pins : List (Addr × Obj)} {σ : St} {s : Shared} {B : Addr → Prop} {Hk : Hp} (hB : ∀ a, B a → ∃ o, Hk a = some o) : ∀ (ds : List D) (vs : List V) (H : Hp), Inv X pins σ H s → MReps X.K B Hk H ds vs →
    ∃ H', Inv X pins σ H' s ∧ Ext B H H' ∧ (∀ c o, Hk c = some o → H c = some o → H' c = some o) ∧ Reps X.K B H' ds vs
  | [], vs, H, I, h => ⟨H, I, Ext.refl, fun _ _ _ q => q, by rw [show vs = [] from h]; exact Reps.nil⟩
  | d :: ds, vs, H, I, h => by
    obtain ⟨x, r, rfl, h1, h2⟩ := h
    rcases h1 with h1 | ⟨es, b, xs, rfl, rfl, n, hb, rs⟩
    · obtain ⟨H', I', e', k', r'⟩ := frzT hB ds r H I h2
      exact ⟨H', I', e', k', Reps.cons (h1.ext e') r'⟩
    · obtain ⟨o, I1⟩ := I.frz hb trivial
      have nb : ¬ B b := fun z => by obtain ⟨o', q⟩ := hB b z; rw [n] at q; cases q
      have ex : Ext B H (upd H b (.frz o (.lst xs))) := ext_upd hb trivial nb
      obtain ⟨H', I', e', k', r'⟩ := frzT hB ds r _ I1 (MReps.frz1 hb ex h2)
      refine ⟨H', I', ex.trans e', fun c o' q1 q2 => k' c o' q1 (by rw [upd_ne (ne_of_none q1 n)]; exact q2), Reps.cons (Rep.ext e' ?_) r'⟩
      simp only [Rep]
      exact ⟨b, xs, rfl, .inr (.inl ⟨o, upd_same⟩), rs.ext ex⟩
def RepR (K : PySem.W.Frag) (B : Addr → Prop) (Hk H' : Hp) (d : D) (fr : Bool) (v : V) : Prop := if fr = true then (∃ a, v = .ref a ∧ Hk a = none ∧ ObR K B H' d a) ∨ RepT K B Hk H' d v else Rep K B H' d v
def spM (K : PySem.W.Frag) (f : List D → Option (D × Bool)) : Sp := fun vs H Q _ => ∃ B ds r fr, (∀ a, B a → ∃ o, H a = some o) ∧ Reps K B H ds vs ∧ f ds = some (r, fr) ∧ ∀ v H', Same H H' → RepR K B H H' r fr v → Q v H'

structure FnM (P : Program) (w : World) (K : PySem.W.Frag) (mg : Str → Option Value) (base : Heap) (k : Nat) (x : Str) (f : List D → Option (D × Bool)) : Prop where
  ex : ∃ (p : Addr) (fd : FuncData) (ps : List Str), FnOk P w K mg base CX0 k p fd ps (spM K f) ∧ mg x = some (.ref p) ∧ PySem.W.keepIn K (.ref p) = true ∧ Binds K fd ps []
def bindO {α β : Type} (x : Option α) (f : α → Option β) : Option β := match x with | some a => f a | none => none
theorem bindO_some {α β : Type} {x : Option α} {f : α → Option β} {b : β} (h : bindO x f = some b) : ∃ a, x = some a ∧ f a = some b := by
  cases x with
  | none => cases h
  | some a => exact ⟨a, rfl, h⟩
def shO (x : Option (D × Bool)) : Option D := match x with | some (d, _) => some d | none => none
def frO (x : Option (D × Bool)) : Option D := match x with | some (.tup _, true) => none | some (d, true) => some d | _ => none

section
variable {X : Cx} {m m' mm : Bool} {a b e : Expr} {es : List Expr} {fa fb : DEnv → Option D} {fs : DEnv → Option (List D)} {pos p : Pos} {k : Nat} {x : Str} {f : List D → Option (D × Bool)}
theorem call_un (F : FnM X.prog X.w X.K X.mg X.base k x f) (hr : Room k X.A) (hg : Gl X x) (ha : DA X m (e :: es) fs) (hdb : (x == ("__debug__" : Str)) = false) (he : starEach (e :: es) X.env = (false, eval e X.env) :: starEach es X.env) (hpl : (backTo pos (starEach es X.env)).any (·.1) = false) :
    PE X (.Call (.Name x p) (e :: es) [] pos) (fun σ H Q => ∃ B Hk δ ds r fr, Rel X.K B Hk δ σ H ∧ fs δ = some ds ∧ f ds = some (r, fr) ∧ ∀ v H1 H', Same H H1 → Same H1 H' → RepR X.K (bset m B δ σ) H1 H' r fr v → Q v H') := by
  obtain ⟨q, fd, ps, h1, h2, h3, h4⟩ := F.ex
  refine (pe_call (ds := []) (dvs := []) h1 hr hg h2 h3 h4 .nil pass0 ha hdb he hpl).imp fun σ H Q ⟨B, Hk, δ, ds, r, fr, R, e1, e2, kk⟩ => ?_
  refine ⟨B, Hk, δ, ds, R, e1, fun vs H1 s1 rs => ?_⟩
  show spM X.K f (vs ++ []) H1 Q E0
  rw [List.append_nil]
  exact ⟨bset m B δ σ, ds, r, fr, (R.to s1).bsH m, rs, e2, fun v H' s2 rr => kk v H1 H' s1 s2 rr⟩

theorem de_call (F : FnM X.prog X.w X.K X.mg X.base k x f) (hr : Room k X.A) (hg : Gl X x) (ha : DA X m (e :: es) fs) (hdb : (x == ("__debug__" : Str)) = false := by decide) (he : starEach (e :: es) X.env = (false, eval e X.env) :: starEach es X.env := by rfl)
    (hpl : (backTo pos (starEach es X.env)).any (·.1) = false := by rfl) : DE X m (.Call (.Name x p) (e :: es) [] pos) (fun δ => shO (bindO (fs δ) f)) := by
  intro pins s σ H Q I hq
  obtain ⟨B, Hk, δ, d, R, e, kk⟩ := hq
  unfold shO at e
  dsimp only at e
  split at e
  · rename_i d' fr q
    cases e
    obtain ⟨ds, e1, e2⟩ := bindO_some q
    have h1 := call_un (p := p) F hr hg ha hdb he hpl pins s σ H (fun v H' => ∃ H1, Same H H1 ∧ Same H1 H' ∧ RepR X.K (bset m B δ σ) H1 H' d fr v) I ⟨B, Hk, δ, ds, d, fr, R, e1, e2, fun v H1 H' s1 s2 rr => ⟨H1, s1, s2, rr⟩⟩
    refine thn h1 fun u s1 ⟨v, H', I1, rv, H1, sm1, sm2, rr⟩ => ?_
    cases fr with
    | false =>
      unfold RepR at rr
      rw [if_neg Bool.false_ne_true] at rr
      exact ⟨v, H', I1, rv, kk v H' (sm1.trans sm2) rr⟩
    | true =>
      unfold RepR at rr
      rw [if_pos rfl] at rr
      rcases rr with ⟨p, rfl, n, ob⟩ | rt
      rotate_left
      · cases d with
        | tup ts =>
          obtain ⟨a, vs, rfl, ha', rs⟩ := rt
          obtain ⟨H2, I2, e2, k2, r2⟩ := frzT (B := bset m B δ σ) (Hk := H1) (fun c z => by obtain ⟨o', e'⟩ := R.bsH m c z; exact ⟨o', sm1 c o' e'⟩) ts vs H' I1 rs.m
          refine ⟨.ref a, H2, I2, rv, kk _ _ (fun c o' r => k2 c o' (sm1 c o' r) (sm2 c o' (sm1 c o' r))) ?_⟩
          simp only [Rep]
          exact ⟨a, vs, rfl, e2.tups _ _ ha', r2⟩
        | _ => exact (show False from rt).elim
      obtain ⟨u', hu, mu⟩ := ob.mut
      obtain ⟨o, I2⟩ := I1.frz hu mu
      have hb : ¬ bset m B δ σ p := fun z => by
        obtain ⟨o', e'⟩ := R.bsH m p z
        have := sm1 p o' e'
        rw [n] at this; cases this
      refine ⟨.ref p, _, I2, rv, kk _ _ (fun c o' r => ?_) (ob.frozen hu hb fun a h => h)⟩
      rw [upd_ne (ne_of_none (sm1 c o' r) n)]
      exact sm2 c o' (sm1 c o' r)
  · cases e
end

inductive Out where
  | next (δ : DEnv) | ret (d : D) (fr : Bool) | brk (δ : DEnv) | cont (δ : DEnv)
def OutK (K : PySem.W.Frag) (B : Addr → Prop) (Hk H : Hp) (Dn : Ends) : Out → Prop
  | .next δ => ∀ σ' H', Ext B H H' → Rel K B Hk δ σ' H' → Dn.nx σ' H'
  | .brk δ => ∀ σ' H', Ext B H H' → Rel K B Hk δ σ' H' → Dn.bk σ' H'
  | .cont δ => ∀ σ' H', Ext B H H' → Rel K B Hk δ σ' H' → Dn.ct σ' H'
  | .ret d fr => ∀ v H', Ext B H H' → Same Hk H' → RepR K B Hk H' d fr v → Dn.rt v H'
def tD (K : PySem.W.Frag) (g : DEnv → Option Out) : TS := fun Dn σ H => ∃ B Hk δ o, Rel K B Hk δ σ H ∧ g δ = some o ∧ OutK K B Hk H Dn o
abbrev DS (X : Cx) (st : Stmt) (g : DEnv → Option Out) : Prop := PS X st (tD X.K g)
abbrev DSs (X : Cx) (sts : List Stmt) (g : DEnv → Option Out) : Prop := PSs X sts (tD X.K g)
theorem OutK.ext {K : PySem.W.Frag} {B : Addr → Prop} {Hk H H1 : Hp} {Dn : Ends} {o : Out} (h : OutK K B Hk H Dn o) (e : Ext B H H1) : OutK K B Hk H1 Dn o := by
  cases o with
  | next δ => exact fun σ' H' x r => h σ' H' (e.trans x) r
  | brk δ => exact fun σ' H' x r => h σ' H' (e.trans x) r
  | cont δ => exact fun σ' H' x r => h σ' H' (e.trans x) r
  | ret d fr => exact fun v H' x r => h v H' (e.trans x) r
def nextO (δ : DEnv) : Option Out := some (.next δ)
def seqO (x : Option Out) (k : DEnv → Option Out) : Option Out := match x with | some (.next δ) => k δ | o => o
section
variable {X : Cx} {m m' mm : Bool} {a b e : Expr} {es : List Expr} {fa fb : DEnv → Option D} {fs : DEnv → Option (List D)} {pos p : Pos} {st : Stmt} {rest : List Stmt} {g g1 g2 : DEnv → Option Out} {fc : DEnv → Option Bool}
theorem dss_nil : DSs X [] nextO := pss_nil.imp fun Dn σ H ⟨B, Hk, δ, o, R, e, k⟩ => by
  cases e
  exact k σ H Ext.refl R
theorem dss_cons (h1 : DS X st g1) (h2 : DSs X rest g2) : DSs X (st :: rest) (fun δ => seqO (g1 δ) g2) :=
  (pss_cons h1 h2).imp fun Dn σ H ⟨B, Hk, δ, o, R, e, k⟩ => by
    cases q : g1 δ with
    | none => simp only [q, seqO] at e; cases e
    | some o1 =>
      cases o1 with
      | next δ1 =>
        simp only [q, seqO] at e
        exact ⟨B, Hk, δ, _, R, q, fun σ' H' x R' => ⟨B, Hk, δ1, o, R', e, k.ext x⟩⟩
      | brk δ1 => simp only [q, seqO] at e; cases e; exact ⟨B, Hk, δ, _, R, q, k⟩
      | cont δ1 => simp only [q, seqO] at e; cases e; exact ⟨B, Hk, δ, _, R, q, k⟩
      | ret d fr => simp only [q, seqO] at e; cases e; exact ⟨B, Hk, δ, _, R, q, k⟩
theorem dss_one (h1 : DS X st g1) : DSs X [st] g1 := pss_one h1
def ifO (c : Option Bool) (x y : Option Out) : Option Out := match c with | some true => x | some false => y | none => none
theorem Rel.ext {K : PySem.W.Frag} {B : Addr → Prop} {Hk H H' : Hp} {δ : DEnv} {σ : St} (R : Rel K B Hk δ σ H) (s : Same H H') : Ext B H H' := s.ext R.borH
theorem ds_if {c : Expr} {x y : List Stmt} (hc : DT X c fc) (ha : DSs X x g1) (hb : DSs X y g2) : DS X (.If c x y pos) (fun δ => ifO (fc δ) (g1 δ) (g2 δ)) :=
  (ps_if hc ha hb).imp fun Dn σ H ⟨B, Hk, δ, o, R, e, k⟩ => by
    unfold ifO at e
    dsimp only at e
    split at e
    · rename_i q
      exact ⟨B, Hk, δ, true, R, q, fun H1 s1 => iteT ⟨B, Hk, δ, o, R.to s1, e, k.ext (R.ext s1)⟩⟩
    · rename_i q
      exact ⟨B, Hk, δ, false, R, q, fun H1 s1 => iteF ⟨B, Hk, δ, o, R.to s1, e, k.ext (R.ext s1)⟩⟩
    · cases e

theorem Rel.set {K : PySem.W.Frag} {B : Addr → Prop} {Hk H : Hp} {δ : DEnv} {σ : St} {i : Nat} {d : D} {v : V} (R : Rel K B Hk δ σ H) (hi : i < σ.length) (r : Rep K B H d v) : Rel K B Hk (δ.set i (some (d, false))) (σ.set i (some v)) H := by
  have hi' : i < δ.length := by rw [R.len]; exact hi
  refine ⟨R.same, R.bor, by simpa using R.len, fun j e h => ?_, fun j e h => ?_, fun j k e f q hjk h1 h2 h3 h4 => ?_⟩
  · by_cases hj : j = i
    · subst hj
      rw [List.getElem?_set_self hi'] at h
      cases h
      exact ⟨v, by rw [List.getElem?_set_self hi], r⟩
    · rw [List.getElem?_set_ne (Ne.symm hj)] at h
      rw [List.getElem?_set_ne (Ne.symm hj)]
      exact R.var j e h
  · by_cases hj : j = i
    · subst hj
      rw [List.getElem?_set_self hi'] at h
      cases h
    · rw [List.getElem?_set_ne (Ne.symm hj)] at h
      rw [List.getElem?_set_ne (Ne.symm hj)]
      exact R.own j e h
  · have nj : j ≠ i := fun z => by subst z; rw [List.getElem?_set_self hi'] at h1; cases h1
    have nk : k ≠ i := fun z => by subst z; rw [List.getElem?_set_self hi'] at h2; cases h2
    rw [List.getElem?_set_ne (Ne.symm nj)] at h1 h3
    rw [List.getElem?_set_ne (Ne.symm nk)] at h2 h4
    exact R.dis j k e f q hjk h1 h2 h3 h4

theorem Rel.setOwn {K : PySem.W.Frag} {B : Addr → Prop} {Hk H : Hp} {δ : DEnv} {σ : St} {i : Nat} {d : D} {a : Addr} (R : Rel K B Hk δ σ H) (hi : i < σ.length) (hk : Hk a = none) (ob : ObR K B H d a)
    (ho : ∀ (j : Nat) e, j ≠ i → δ[j]? = some (some (e, true)) → σ[j]? ≠ some (some (.ref a))) : Rel K B Hk (δ.set i (some (d, true))) (σ.set i (some (.ref a))) H := by
  have hi' : i < δ.length := by rw [R.len]; exact hi
  refine ⟨R.same, R.bor, by simpa using R.len, fun j e h => ?_, fun j e h => ?_, fun j k e f q hjk h1 h2 h3 h4 => ?_⟩
  · by_cases hj : j = i
    · subst hj
      rw [List.getElem?_set_self hi'] at h
      cases h
    · rw [List.getElem?_set_ne (Ne.symm hj)] at h
      rw [List.getElem?_set_ne (Ne.symm hj)]
      exact R.var j e h
  · by_cases hj : j = i
    · subst hj
      rw [List.getElem?_set_self hi'] at h
      cases h
      exact ⟨a, by rw [List.getElem?_set_self hi], hk, ob⟩
    · rw [List.getElem?_set_ne (Ne.symm hj)] at h
      rw [List.getElem?_set_ne (Ne.symm hj)]
      exact R.own j e h
  · by_cases nj : j = i
    · subst nj
      have nk : k ≠ j := fun z => hjk z.symm
      rw [List.getElem?_set_self hi] at h3
      cases h3
      rw [List.getElem?_set_ne (Ne.symm nk)] at h2 h4
      exact ho k f nk h2 h4
    · rw [List.getElem?_set_ne (Ne.symm nj)] at h1 h3
      by_cases nk : k = i
      · subst nk
        rw [List.getElem?_set_self hi] at h4
        cases h4
        exact ho j e nj h1 h3
      · rw [List.getElem?_set_ne (Ne.symm nk)] at h2 h4
        exact R.dis j k e f q hjk h1 h2 h3 h4
def setO (i : Nat) (x : Option D) (δ : DEnv) : Option Out := match x with | some d => if i < δ.length then some (.next (δ.set i (some (d, false)))) else none | none => none
def setF (i : Nat) (x : Option D) (δ : DEnv) : Option Out := match x with | some d => if i < δ.length then some (.next (δ.set i (some (d, true)))) else none | none => none
theorem setO_some {i : Nat} {x : Option D} {δ : DEnv} {o : Out} (h : setO i x δ = some o) : ∃ d, x = some d ∧ i < δ.length ∧ o = .next (δ.set i (some (d, false))) := by
  unfold setO at h
  split at h
  · rename_i d
    by_cases q : i < δ.length
    · rw [if_pos q] at h; cases h; exact ⟨d, rfl, q, rfl⟩
    · rw [if_neg q] at h; cases h
  · cases h
theorem setF_some {i : Nat} {x : Option D} {δ : DEnv} {o : Out} (h : setF i x δ = some o) : ∃ d, x = some d ∧ i < δ.length ∧ o = .next (δ.set i (some (d, true))) := by
  unfold setF at h
  split at h
  · rename_i d
    by_cases q : i < δ.length
    · rw [if_pos q] at h; cases h; exact ⟨d, rfl, q, rfl⟩
    · rw [if_neg q] at h; cases h
  · cases h
theorem asg_set {i : Nat} {Dn : Ends} {σ : St} {H : Hp} (h : tD X.K (fun δ => setO i (fa δ) δ) Dn σ H) : tAsg (tM X.K false fa) (gName i) Dn σ H := by
  obtain ⟨B, Hk, δ, o, R, e, k⟩ := h
  obtain ⟨d, e1, hi, rfl⟩ := setO_some e
  exact ⟨B, Hk, δ, d, R, e1, fun v H' s r => k _ H' (R.ext s) ((R.to s).set (by rw [← R.len]; exact hi) r)⟩
theorem asg_setF {i : Nat} {Dn : Ends} {σ : St} {H : Hp} (h : tD X.K (fun δ => setF i (fa δ) δ) Dn σ H) : tAsg (tF X.K fa) (gName i) Dn σ H := by
  obtain ⟨B, Hk, δ, o, R, e, k⟩ := h
  obtain ⟨d, e1, hi, rfl⟩ := setF_some e
  refine ⟨B, Hk, δ, d, R, e1, fun a H' s n ob => k _ H' (R.ext s) ((R.to s).setOwn (by rw [← R.len]; exact hi) (R.same.free n) ob fun j e hj h1 h2 => ?_)⟩
  obtain ⟨b, h3, _, ob'⟩ := R.own j e h1
  rw [h2] at h3; cases h3
  obtain ⟨o, e'⟩ := ob'.there
  rw [n] at e'; cases e'
theorem ds_set {i : Nat} {x : Str} {pos' : Pos} (hN : X.N.Nodup) (ha : DE X false a fa) (hi : X.N[i]? = some x := by rfl) (hx : Loc X.env.scope x := by first | exact Or.inl rfl | exact Or.inr rfl) (hs : swapsWith a (some (.Name x pos')) pos.line X.env = pure false := by rfl)
    (hf : X.fn x = true ∨ X.env.scope.names.lookup x = some .local := by first | exact .inl rfl | exact .inr rfl) : DS X (.Assign [.Name x pos'] a pos) (fun δ => setO i (fa δ) δ) :=
  (ps_set hN hi hx ha hs hf).imp fun Dn σ H h => asg_set h
theorem ds_setF {i : Nat} {x : Str} {pos' : Pos} (hN : X.N.Nodup) (ha : DF X a fa) (hi : X.N[i]? = some x := by rfl) (hx : Loc X.env.scope x := by first | exact Or.inl rfl | exact Or.inr rfl) (hs : swapsWith a (some (.Name x pos')) pos.line X.env = pure false := by rfl)
    (hf : X.fn x = true ∨ X.env.scope.names.lookup x = some .local := by first | exact .inl rfl | exact .inr rfl) : DS X (.Assign [.Name x pos'] a pos) (fun δ => setF i (fa δ) δ) :=
  (ps_set hN hi hx ha hs hf).imp fun Dn σ H h => asg_setF h

def retO (x : Option D) : Option Out := match x with | some d => some (.ret d false) | none => none
theorem ds_ret (ha : DE X false a fa) : DS X (.Return (some a) pos) (fun δ => retO (fa δ)) :=
  (ps_ret ha).imp fun Dn σ H ⟨B, Hk, δ, o, R, e, k⟩ => by
    cases q : fa δ with
    | none => simp only [q, retO] at e; cases e
    | some d =>
      simp only [q, retO] at e; cases e
      exact ⟨B, Hk, δ, d, R, q, fun v H' s r => k v H' (R.ext s) (R.same.trans s) (by unfold RepR; rw [if_neg Bool.false_ne_true]; exact r)⟩
def rdOwn (i : Nat) (δ : DEnv) : Option D := match δ[i]? with | some (some (d, true)) => some d | _ => none
theorem rdOwn_some {i : Nat} {δ : DEnv} {d : D} (h : rdOwn i δ = some d) : δ[i]? = some (some (d, true)) := by
  unfold rdOwn at h
  split at h
  · rename_i d' e; cases h; exact e
  · cases h

theorem Rel.lset {K : PySem.W.Frag} {B : Addr → Prop} {Hk H : Hp} {δ : DEnv} {σ : St} {i : Nat} {ds ds' : List D} {l : Addr} {xs xs' : List V} (R : Rel K B Hk δ σ H) (h : δ[i]? = some (some (.lst ds, true))) (hl : σ[i]? = some (some (.ref l))) (hx : H l = some (.lst xs)) (r : Reps K B H ds' xs') :
    Ext B H (upd H l (.lst xs')) ∧ Rel K B Hk (δ.set i (some (.lst ds', true))) σ (upd H l (.lst xs')) := by
  obtain ⟨a, e1, e2, ys, e3, _⟩ := R.own i _ h
  rw [hl] at e1; cases e1
  have hb : ¬ B l := fun z => by obtain ⟨o, q⟩ := R.bor l z; rw [e2] at q; cases q
  have ex : Ext B H (upd H l (.lst xs')) := ext_upd hx trivial hb
  have hi' : i < δ.length := (List.getElem?_eq_some_iff.mp h).1
  refine ⟨ex, ⟨fun b o q => ?_, R.bor, by simpa using R.len, fun j e q => ?_, fun j e q => ?_, fun j k e f q hjk h1 h2 h3 h4 => ?_⟩⟩
  · rw [upd_ne (ne_of_none q e2)]; exact R.same b o q
  · by_cases hj : j = i
    · subst hj
      rw [List.getElem?_set_self hi'] at q
      cases q
    · rw [List.getElem?_set_ne (Ne.symm hj)] at q
      obtain ⟨v, q1, q2⟩ := R.var j e q
      exact ⟨v, q1, q2.ext ex⟩
  · by_cases hj : j = i
    · subst hj
      rw [List.getElem?_set_self hi'] at q
      cases q
      exact ⟨l, hl, e2, xs', upd_same, r.ext ex⟩
    · rw [List.getElem?_set_ne (Ne.symm hj)] at q
      obtain ⟨c, q1, q2, q3⟩ := R.own j e q
      have hc : c ≠ l := fun z => by subst z; exact R.dis j i e _ c hj q h q1 hl
      exact ⟨c, q1, q2, q3.ext ex fun o q => by rw [upd_ne hc]; exact q⟩
  · have h1' : ∃ e', δ[j]? = some (some (e', true)) := by
      by_cases hj : j = i
      · subst hj; exact ⟨_, h⟩
      · rw [List.getElem?_set_ne (Ne.symm hj)] at h1; exact ⟨_, h1⟩
    have h2' : ∃ e', δ[k]? = some (some (e', true)) := by
      by_cases hj : k = i
      · subst hj; exact ⟨_, h⟩
      · rw [List.getElem?_set_ne (Ne.symm hj)] at h2; exact ⟨_, h2⟩
    obtain ⟨e', h1'⟩ := h1'
    obtain ⟨f', h2'⟩ := h2'
    exact R.dis j k e' f' q hjk h1' h2' h3 h4
def appO (i : Nat) (x : Option D) (δ : DEnv) : Option Out := match rdOwn i δ, x with | some (.lst ds), some d => if ds.length < lim then some (.next (δ.set i (some (.lst (ds ++ [d]), true)))) else none | _, _ => none
theorem appO_some {i : Nat} {x : Option D} {δ : DEnv} {o : Out} (h : appO i x δ = some o) : ∃ ds d, δ[i]? = some (some (.lst ds, true)) ∧ x = some d ∧ ds.length < lim ∧ o = .next (δ.set i (some (.lst (ds ++ [d]), true))) := by
  unfold appO at h
  split at h
  · rename_i ds d q
    by_cases hl : ds.length < lim
    · rw [if_pos hl] at h; cases h; exact ⟨ds, d, rdOwn_some q, rfl, hl, rfl⟩
    · rw [if_neg hl] at h; cases h
  · cases h
theorem ds_append {i : Nat} {x : Str} {px apos cpos : Pos} (ha : DE X false a fa) (hN : X.N[i]? = some x := by rfl) (hv : Vis X.env.scope x := by first | exact Or.inl rfl | exact Or.inr (Or.inl rfl) | exact Or.inr (Or.inr rfl))
    (hbase : attributeBase (.Name x px) "append" X.env (eval (.Name x px) X.env) = eval (.Name x px) X.env := by rfl)
    (hfew : ((backTo cpos (starEach [a] X.env)).all (fun x => !x.1) && (backToKw cpos (keywordEach [] X.env)).all (fun x => x.1.isSome) && decide (([a]).length + ([] : List Keyword).length + (if ([] : List Keyword).isEmpty then 0 else 1) < 30)) = true := by rfl)
    (hline : (apos.endLine == cpos.line) = true := by rfl) (hs : starEach [a] X.env = (false, eval a X.env) :: starEach [] X.env := by rfl) (hd : (x == ("__debug__" : Str)) = false := by decide) (hcd : (x == ("__classdict__" : Str)) = false := by decide)
    (hsw : swapsWith (.Call (.Attribute (.Name x px) "append" apos) [a] [] cpos) none pos.line X.env = pure false := by rfl) : DS X (.Expr (.Call (.Attribute (.Name x px) "append" apos) [a] [] cpos) pos) (fun δ => appO i (fa δ) δ) :=
  (ps_expr (pe_bm PySem.F.plainAttrs_list PySem.F.slot_list_append PySem.F.type_list_append mt_append (pe_var hN hv hd hcd) (pa_cons ha pa_nil hs) hbase hfew hline hs) hsw).imp fun Dn σ H ⟨B, Hk, δ, o, R, e, k⟩ => by
    obtain ⟨ds, d, h1, e1, hl, rfl⟩ := appO_some e
    obtain ⟨l, h2, h3, xs, h4, h5⟩ := R.own i _ h1
    refine ⟨.ref l, h2, .inl ⟨rfl, xs, SqL.of h4⟩, oneA R e1 fun v H' s R' r => ?_⟩
    have h4' := s l _ h4
    have h5' : Reps X.K B H' ds xs := h5.ext (R.ext s)
    obtain ⟨x1, x2⟩ := R'.lset (ds' := ds ++ [d]) (xs' := xs ++ [v]) h1 h2 h4' (h5'.append (Reps.cons r Reps.nil))
    exact ⟨l, xs, v, rfl, rfl, h4', by rw [← h5.length]; exact Nat.lt_of_lt_of_le hl (lim_line (Nat.le_refl _)), k σ _ ((R.ext s).trans x1) x2⟩

def frzE (i : Nat) (δ : DEnv) : DEnv := match δ[i]? with | some (some (d, true)) => δ.set i (some (d, false)) | _ => δ
theorem Rel.frzE {pins : List (Addr × Obj)} {σ : St} {H : Hp} {s : Shared} {B : Addr → Prop} {Hk : Hp} {δ : DEnv} (i : Nat) (I : Inv X pins σ H s) (R : Rel X.K B Hk δ σ H) : ∃ H', Inv X pins σ H' s ∧ Ext B H H' ∧ Rel X.K B Hk (frzE i δ) σ H' := by
  unfold L2.frzE
  split
  · rename_i d h
    obtain ⟨a, e1, e2, ob⟩ := R.own i d h
    obtain ⟨u, hu, mu⟩ := ob.mut
    obtain ⟨o, I2⟩ := I.frz hu mu
    have hb : ¬ B a := fun z => by obtain ⟨o, q⟩ := R.bor a z; rw [e2] at q; cases q
    have ex : Ext B H (upd H a (.frz o u)) := ext_upd hu mu hb
    have hi' : i < δ.length := (List.getElem?_eq_some_iff.mp h).1
    refine ⟨_, I2, ex, ⟨fun b o' q => ?_, R.bor, by simpa using R.len, fun j e q => ?_, fun j e q => ?_, fun j k e f q hjk h1 h2 h3 h4 => ?_⟩⟩
    · rw [upd_ne (ne_of_none q e2)]; exact R.same b o' q
    · by_cases hj : j = i
      · subst hj
        rw [List.getElem?_set_self hi'] at q
        cases q
        exact ⟨_, e1, ob.frozen hu hb fun a h => h⟩
      · rw [List.getElem?_set_ne (Ne.symm hj)] at q
        obtain ⟨v, q1, q2⟩ := R.var j e q
        exact ⟨v, q1, q2.ext ex⟩
    · by_cases hj : j = i
      · subst hj
        rw [List.getElem?_set_self hi'] at q
        cases q
      · rw [List.getElem?_set_ne (Ne.symm hj)] at q
        obtain ⟨c, q1, q2, q3⟩ := R.own j e q
        have hc : c ≠ a := fun z => by subst z; exact R.dis j i e _ c hj q h q1 e1
        exact ⟨c, q1, q2, q3.ext ex fun o q => by rw [upd_ne hc]; exact q⟩
    · have nj : j ≠ i := fun z => by subst z; rw [List.getElem?_set_self hi'] at h1; cases h1
      have nk : k ≠ i := fun z => by subst z; rw [List.getElem?_set_self hi'] at h2; cases h2
      rw [List.getElem?_set_ne (Ne.symm nj)] at h1
      rw [List.getElem?_set_ne (Ne.symm nk)] at h2
      exact R.dis j k e f q hjk h1 h2 h3 h4
  · exact ⟨H, I, Ext.refl, R⟩
theorem ds_frz (i : Nat) (h : DS X st g) : DS X st (fun δ => g (frzE i δ)) := by
  intro pins s σ H Dn I ⟨B, Hk, δ, o, R, e, k⟩
  obtain ⟨H', I', x, R'⟩ := R.frzE i I
  exact h pins s σ H' Dn I' ⟨B, Hk, _, o, R', e, k.ext x⟩
theorem dss_frz {sts : List Stmt} (i : Nat) (h : DSs X sts g) : DSs X sts (fun δ => g (frzE i δ)) := by
  intro pins s σ H Dn I ⟨B, Hk, δ, o, R, e, k⟩
  obtain ⟨H', I', x, R'⟩ := R.frzE i I
  exact h pins s σ H' Dn I' ⟨B, Hk, _, o, R', e, k.ext x⟩
end
end L2

end

section
set_option maxHeartbeats 1000000
namespace L2
open PySem PySem.Spec PyProof.Rows

def tG (K : PySem.W.Frag) (τ : D → DEnv → Option DEnv) : TG := fun v σ H Q => ∃ B Hk δ d δ', Rel K B Hk δ σ H ∧ Rep K B H d v ∧ τ d δ = some δ' ∧ ∀ σ', Rel K B Hk δ' σ' H → Q σ' H
abbrev DG (X : Cx) (tg : Expr) (τ : D → DEnv → Option DEnv) : Prop := PG X tg (tG X.K τ)
def toName (i : Nat) (d : D) (δ : DEnv) : Option DEnv := if i < δ.length then some (δ.set i (some (d, false))) else none
def toTup (υ : List D → DEnv → Option DEnv) (d : D) (δ : DEnv) : Option DEnv := match d with | .tup ds => υ ds δ | _ => none
theorem PG.imp {X : Cx} {tg : Expr} {t t' : TG} (h : PG X tg t) (i : ∀ v σ H Q, t' v σ H Q → t v σ H Q) : PG X tg t' := fun pins s σ H v u Q I r q => h pins s σ H v u Q I r (i v σ H Q q)
section
variable {X : Cx} {pos : Pos}
theorem dg_name {i : Nat} {x : Str} (hN : X.N.Nodup) (hi : X.N[i]? = some x := by rfl) (hx : Loc X.env.scope x := by first | exact Or.inl rfl | exact Or.inr rfl) (hf : X.fn x = true ∨ X.env.scope.names.lookup x = some .local := by first | exact .inl rfl | exact .inr rfl) : DG X (.Name x pos) (toName i) :=
  (pg_name hN hi hx hf).imp fun v σ H Q ⟨B, Hk, δ, d, δ', R, r, e, k⟩ => by
    unfold toName at e
    by_cases q : i < δ.length
    · rw [if_pos q] at e; cases e
      exact k _ (R.set (by rw [← R.len]; exact q) r)
    · rw [if_neg q] at e; cases e
end
def NoOwn (δ : DEnv) : Prop := ∀ (i : Nat) d, δ[i]? ≠ some (some (d, true))

structure Anew (τ : D → DEnv → Option DEnv) : Prop where
  new : ∀ d d' δ δ', τ d δ = some δ' → τ d' δ' = τ d' δ
  own : ∀ d δ δ', τ d δ = some δ' → NoOwn δ → NoOwn δ'
theorem noOwn_set {δ : DEnv} {i : Nat} {d : D} (h : NoOwn δ) : NoOwn (δ.set i (some (d, false))) := fun j e q => by
  by_cases hj : i = j
  · subst hj
    rw [List.getElem?_set] at q
    simp at q
  · rw [List.getElem?_set_ne hj] at q
    exact h j e q
theorem own_name (i : Nat) : ∀ d δ δ', toName i d δ = some δ' → NoOwn δ → NoOwn δ' := fun d δ δ' h n => by
  unfold toName at h
  by_cases q : i < δ.length
  · rw [if_pos q] at h; cases h; exact noOwn_set n
  · rw [if_neg q] at h; cases h
theorem anew_name (i : Nat) : Anew (toName i) := Anew.mk (own := own_name i) <| fun d d' δ δ' h => by
  unfold toName at h ⊢
  by_cases q : i < δ.length
  · rw [if_pos q] at h; cases h
    rw [List.length_set, if_pos q, if_pos q, List.set_set]
  · rw [if_neg q] at h; cases h
def ItD (K : PySem.W.Frag) (B : Addr → Prop) (H1 : Hp) (J : It) (ds : List D) : Prop := ∀ H', Ext B H1 H' → J.stop ds.length H' ∧ ∀ (i : Nat) d, ds[i]? = some d → J.go i H' ∧ ∀ x H'', J.yld i H' x H'' → Same H' H'' ∧ Rep K B H'' d x
def tI (K : PySem.W.Frag) (m : Bool) (f : DEnv → Option (List D)) : TI := fun σ H R => ∃ B Hk δ ds, Rel K B Hk δ σ H ∧ f δ = some ds ∧ ∀ J H1, Same H H1 → ItD K (bset m B δ σ) H1 J ds → R J H1
abbrev DI (X : Cx) (m : Bool) (tg iter : Expr) (f : DEnv → Option (List D)) : Prop := PI X tg iter (tI X.K m f)
def lstL (x : Option D) : Option (List D) := match x with | some (.lst ds) => some ds | _ => none
def tupL (x : Option D) : Option (List D) := match x with | some (.tup ds) => some ds | _ => none
theorem lstL_some {x : Option D} {ds : List D} (h : lstL x = some ds) : x = some (.lst ds) := by
  unfold lstL at h
  split at h
  · cases h; rfl
  · cases h
theorem tupL_some {x : Option D} {ds : List D} (h : tupL x = some ds) : x = some (.tup ds) := by
  unfold tupL at h
  split at h
  · cases h; rfl
  · cases h
def rngL (lo : Int) (n : Nat) : List D := (List.range n).map fun (i : Nat) => .int (lo + (i : Int))
section
variable {X : Cx} {m m' mm : Bool} {a b tg : Expr} {fa fb : DEnv → Option D} {pos p : Pos}
theorem di_list (h : DE X m a fa) : DI X m tg a (fun δ => lstL (fa δ)) :=
  (pi_list h).imp fun σ H Q ⟨B, Hk, δ, ds, R, e, k⟩ => by
    refine ⟨B, Hk, δ, _, R, lstL_some e, fun v H' s r => ?_⟩
    simp only [Rep] at r
    obtain ⟨l, xs, rfl, hq, rs⟩ := r
    refine ⟨l, rfl, ⟨xs, hq.sq⟩, k _ H' s fun H2 x => ?_⟩
    have hq2 := hq.ext x
    have rs2 := rs.ext x
    refine ⟨⟨xs, hq2.sq, by rw [rs.length]; exact Nat.le_refl _⟩, fun i d hd => ?_⟩
    obtain ⟨y, hy, ry⟩ := rs2.get hd
    refine ⟨⟨xs, y, hq2.sq, hy⟩, fun z H3 ⟨e3, hz⟩ => ⟨by rw [e3]; exact Same.refl _, ?_⟩⟩
    rw [e3]
    have := hz xs hq2.sq
    rw [hy] at this; cases this
    exact ry
theorem di_tup (h : DE X m a fa) : DI X m tg a (fun δ => tupL (fa δ)) :=
  (pi_tup h).imp fun σ H Q ⟨B, Hk, δ, ds, R, e, k⟩ => by
    refine ⟨B, Hk, δ, _, R, tupL_some e, fun v H' s r => ?_⟩
    simp only [Rep] at r
    obtain ⟨l, xs, rfl, hq, rs⟩ := r
    refine ⟨l, rfl, ⟨xs, SqT.of hq⟩, k _ H' s fun H2 x => ?_⟩
    have hq2 : SqT X.K H2 l xs := SqT.of (x.tups _ _ hq)
    have rs2 := rs.ext x
    refine ⟨⟨xs, hq2, by rw [rs.length]; exact Nat.le_refl _⟩, fun i d hd => ?_⟩
    obtain ⟨y, hy, ry⟩ := rs2.get hd
    refine ⟨⟨xs, y, hq2, hy⟩, fun z H3 ⟨e3, hz⟩ => ⟨by rw [e3]; exact Same.refl _, ?_⟩⟩
    rw [e3]
    have := hz xs hq2
    rw [hy] at this; cases this
    exact ry
theorem itd_rng {K : PySem.W.Frag} {B : Addr → Prop} {H1 : Hp} (lo : Int) (n : Nat) : ItD K B H1 (Itr lo n) (rngL lo n) := fun H' x => by
  refine ⟨by show n ≤ (rngL lo n).length; unfold rngL; simp, fun i d hd => ?_⟩
  unfold rngL at hd
  rw [List.getElem?_map] at hd
  cases q : (List.range n)[i]? with
  | none => rw [q] at hd; cases hd
  | some j =>
    rw [q] at hd
    obtain ⟨hi, ej⟩ := List.getElem?_eq_some_iff.mp q
    rw [List.getElem_range] at ej
    subst ej
    rw [List.length_range] at hi
    simp only [Option.map_some, Option.some.injEq] at hd
    subst hd
    refine ⟨hi, fun z H3 ⟨e3, hz⟩ => ⟨by rw [e3]; exact Same.refl _, ?_⟩⟩
    simp only [Rep]
    exact hz
def rng1 (x : Option D) : Option (List D) := match x with | some (.int j) => if (decide (-(2 ^ 62) ≤ j ∧ j < 2 ^ 62)) = true then some (rngL 0 j.toNat) else none | _ => none
theorem di_rng1 (g : Gl X "range") (hm : X.mg "range" = none) (h : DE X m a fa) (hs : starEach [a] X.env = [(false, eval a X.env)] := by rfl) : DI X mm tg (.Call (.Name "range" p) [a] [] pos) (fun δ => rng1 (fa δ)) :=
  (pi_range1 g hm (pa_cons h pa_nil hs) hs).imp fun σ H Q ⟨B, Hk, δ, ds, R, e, k⟩ => by
    unfold rng1 at e
    dsimp only at e
    split at e
    · rename_i j q
      by_cases c : (decide (-(2 ^ 62) ≤ j ∧ j < 2 ^ 62)) = true
      · rw [if_pos c] at e; cases e
        have c' := of_decide_eq_true c
        refine oneA R q fun v H' s R' r => ?_
        simp only [Rep] at r
        subst r
        exact ⟨j, rfl, c'.1, c'.2, k _ H' s (itd_rng 0 _)⟩
      · rw [if_neg c] at e; cases e
    · cases e
end

def loopD (body : D → DEnv → Option Out) : List D → DEnv → Option Out
  | [], δ => some (.next δ)
  | d :: ds, δ => match body d δ with
    | some (.next δ') => loopD body ds δ'
    | some (.cont δ') => loopD body ds δ'
    | some (.brk δ') => some (.next δ')
    | some (.ret e fr) => some (.ret e fr)
    | none => none
section
variable {X : Cx} {tg iter : Expr} {body : List Stmt} {fi : DEnv → Option (List D)} {τ : D → DEnv → Option DEnv} {gb : DEnv → Option Out} {pos : Pos}
theorem ds_for (hp : PassesOwn (model X.prog X.w) X.A X.env X.xe) (hc : X.calm = true) (hi : DI X false tg iter fi) (hg : DG X tg τ) (hb : DSs X body gb) (hs : ∀ x, foldedSetIterable iter X.env x = pure x := by intro _; rfl) :
    DS X (.For tg iter body [] pos) (fun δ => bindO (fi δ) fun ds => loopD (fun d δ => bindO (τ d δ) gb) ds δ) :=
  (ps_for hp hc hi hg hb hs).imp fun Dn σ H ⟨B, Hk, δ, o, R, e, k⟩ => by
    obtain ⟨ds, e1, e2⟩ := bindO_some e
    refine ⟨B, Hk, δ, ds, R, e1, fun J H1 s1 it => ?_⟩
    have it' : ItD X.K B H1 J ds := it
    refine ⟨fun i n σ' H' => n = ds.length - i ∧ i ≤ ds.length ∧ Ext B H1 H' ∧ ∃ δ', Rel X.K B Hk δ' σ' H' ∧ loopD (fun d δ => bindO (τ d δ) gb) (ds.drop i) δ' = some o,
      ⟨ds.length, by simp, Nat.zero_le _, Ext.refl, δ, R.to s1, e2⟩, ?_⟩
    rintro i n σ' H' ⟨rfl, hi, x, δ', R', e'⟩
    obtain ⟨hst, hgo⟩ := it' H' x
    by_cases hlt : i < ds.length
    · obtain ⟨go, yl⟩ := hgo i ds[i] (by simp [hlt])
      refine .inr ⟨go, fun σ2 H2 => Ext B H1 H2 ∧ ∃ δ2, Rel X.K B Hk δ2 σ2 H2 ∧ loopD (fun d δ => bindO (τ d δ) gb) (ds.drop (i + 1)) δ2 = some o, fun σ2 H2 z => ⟨_, by omega, rfl, hlt, z⟩, fun v H2 hy => ?_⟩
      obtain ⟨sy, rv⟩ := yl v H2 hy
      replace x := x.trans (R'.ext sy)
      replace R' := R'.to sy
      rw [List.drop_eq_getElem_cons hlt] at e'
      simp only [loopD] at e'
      cases q : bindO (τ ds[i] δ') gb with
      | none => rw [q] at e'; cases e'
      | some o1 =>
        rw [q] at e'
        obtain ⟨δ1, q1, q2⟩ := bindO_some q
        refine ⟨B, Hk, δ', ds[i], δ1, R', rv, q1, fun σ3 R3 => ⟨B, Hk, δ1, o1, R3, q2, ?_⟩⟩
        have kx := k.ext (R.ext s1)
        cases o1 with
        | next δ3 => exact fun σ4 H4 x4 R4 => ⟨x.trans x4, δ3, R4, e'⟩
        | cont δ3 => exact fun σ4 H4 x4 R4 => ⟨x.trans x4, δ3, R4, e'⟩
        | brk δ3 => simp only at e'; cases e'; exact fun σ4 H4 x4 R4 => kx σ4 H4 (x.trans x4) R4
        | ret d fr => simp only at e'; cases e'; exact fun v4 H4 x4 R4 => kx v4 H4 (x.trans x4) R4
    · have hi' : i = ds.length := by omega
      subst hi'
      rw [List.drop_length] at e'
      simp only [loopD] at e'
      cases e'
      exact .inl ⟨hst, k σ' H' ((R.ext s1).trans x) R'⟩
end

def compO (h : D → Option (Option D)) : List D → Option (List D)
  | [] => some []
  | d :: ds => match h d with
    | none => none
    | some none => compO h ds
    | some (some y) => match compO h ds with
      | some l => some (y :: l)
      | none => none
def maskD (bo : Bool) (bs : List Bool) (δ : DEnv) : DEnv := List.zipWith (fun (b : Bool) (o : Option (D × Bool)) => if b = true then (match o with | some (d, ow) => if (ow && !bo) = true then none else some (d, false) | none => none) else none) bs δ
theorem maskD_get {bo : Bool} {bs : List Bool} {δ : DEnv} {i : Nat} {d : D} {ow : Bool} (h : (maskD bo bs δ)[i]? = some (some (d, ow))) : bs[i]? = some true ∧ ow = false ∧ rd bo i δ = some d := by
  unfold maskD at h
  rw [List.getElem?_zipWith] at h
  cases e1 : bs[i]? with
  | none => rw [e1] at h; simp at h
  | some b =>
    cases e2 : δ[i]? with
    | none => rw [e1, e2] at h; simp at h
    | some o =>
      rw [e1, e2] at h
      simp only [Option.some.injEq] at h
      cases b with
      | false => simp at h
      | true =>
        rw [if_pos rfl] at h
        cases o with
        | none => cases h
        | some q =>
          obtain ⟨d', ow'⟩ := q
          simp only at h
          by_cases c : (ow' && !bo) = true
          · rw [if_pos c] at h; cases h
          · rw [if_neg c] at h; cases h
            exact ⟨rfl, rfl, by unfold rd; rw [e2]; simp only [if_neg c]⟩
theorem rel_block {K : PySem.W.Frag} {B : Addr → Prop} {Hk H : Hp} {δ : DEnv} {σ : St} {bo : Bool} {bs : List Bool} (R : Rel K B Hk δ σ H) (hl : bs.length = σ.length) : Rel K (bset bo B δ σ) H (maskD bo bs δ) (mask bs σ) H := by
  refine ⟨Same.refl H, R.bsH bo, ?_, fun i d h => ?_, fun i d h => ?_, fun i j d e a hij h => ?_⟩
  · unfold maskD; rw [List.length_zipWith, mask_length hl, R.len, hl, Nat.min_self]
  · obtain ⟨h1, _, h3⟩ := maskD_get h
    obtain ⟨v, h4, h5⟩ := R.rd h3
    refine ⟨v, ?_, h5⟩
    unfold mask
    rw [List.getElem?_zipWith, h1, h4]
    simp
  · obtain ⟨_, h2, _⟩ := maskD_get h
    cases h2
  · obtain ⟨_, h2, _⟩ := maskD_get h
    cases h2
def lstLim (x : Option (List D)) : Option D := match x with | some ds => some (.lst ds) | none => none
section
variable {X : Cx} {elt tg iter : Expr} {ifs : List Expr} {scope : Scope} {pos : Pos} {bo : Bool} {fi : DEnv → Option (List D)} {τ : D → DEnv → Option DEnv} {ft : DEnv → Option Bool} {fe : DEnv → Option D} {bs : List Bool}
abbrev DTs (X : Cx) (ifs : List Expr) (f : DEnv → Option Bool) : Prop := PTs X ifs (tMT X.K f)
theorem dts_nil {X : Cx} : DTs X [] (fun _ => some true) := fun pins s σ H Q I ⟨B, Hk, δ, d, R, e, k⟩ => by cases e; exact pts_nil pins s σ H Q I (k H (Same.refl H))
def itemO (τ : D → DEnv → Option DEnv) (ft : DEnv → Option Bool) (fe : DEnv → Option D) (δ : DEnv) (d : D) : Option (Option D) := bindO (τ d δ) fun δ' => match ft δ' with | some true => (match fe δ' with | some y => some (some y) | none => none) | some false => some none | none => none
def runC (bo : Bool) (bs : List Bool) (τ : D → DEnv → Option DEnv) (ft : DEnv → Option Bool) (fe : DEnv → Option D) (δ : DEnv) (ds : List D) : Option (List D) := if ds.length ≤ lim then compO (itemO τ ft fe (maskD bo bs δ)) ds else none
theorem comp_core {K : PySem.W.Frag} {σ : St} {H : Hp} {Q : VK} (hτ : Anew τ) (hl : bs.length = σ.length) {B : Addr → Prop} {Hk : Hp} {δ : DEnv} {ds ls : List D} (R : Rel K B Hk δ σ H) (e1 : fi δ = some ds) (e2 : runC bo bs τ ft fe δ ds = some ls)
    (k : ∀ a H', Same H H' → H a = none → (∃ xs, H' a = some (.lst xs) ∧ Reps K (bset bo B δ σ) H' ls xs) → Q (.ref a) H') : tComp (tI K bo fi) bs (tG K τ) (tMT K ft) (tM K false fe) σ H Q := by
  unfold runC at e2
  by_cases hlim : ds.length ≤ lim
  · rw [if_pos hlim] at e2
    refine ⟨B, Hk, δ, ds, R, e1, fun J H1 s1 it acc hacc => ?_⟩
    have R1 := R.to s1
    have nb : ¬ bset bo B δ σ acc := fun z => by obtain ⟨o, q⟩ := R1.bsH bo acc z; rw [hacc] at q; cases q
    have R2 : Rel K (bset bo B δ σ) H1 (maskD bo bs δ) (mask bs σ) (upd H1 acc (.lst [])) := (rel_block (bo := bo) (bs := bs) R1 hl).to (same_upd hacc)
    have no0 : NoOwn (maskD bo bs δ) := fun j d h => by obtain ⟨_, h2, _⟩ := maskD_get h; cases h2
    have x0 : Ext (bset bo B δ σ) H1 (upd H1 acc (.lst [])) := (same_upd hacc).ext (R1.bsH bo)
    refine ⟨fun i n ys σ' H' => n = ds.length - i ∧ i ≤ ds.length ∧ ys.length ≤ i ∧ H' acc = some (.lst ys) ∧ Ext (bset bo B δ σ) H1 H' ∧ ∃ δ' l1 l2, Rel K (bset bo B δ σ) H1 δ' σ' H' ∧ (∀ d, τ d δ' = τ d (maskD bo bs δ)) ∧ NoOwn δ' ∧ ls = l1 ++ l2 ∧ Reps K (bset bo B δ σ) H' l1 ys ∧ compO (itemO τ ft fe (maskD bo bs δ)) (ds.drop i) = some l2,
      ⟨ds.length, by simp, Nat.zero_le _, Nat.le_refl _, upd_same, x0, maskD bo bs δ, [], ls, R2, fun _ => rfl, no0, rfl, Reps.nil, e2⟩, ?_⟩
    rintro i n ys σ' H' ⟨rfl, hi, hys, ha, x, δ', l1, l2, R', hd', nw', hls, rs, ec⟩
    refine ⟨ha, ?_⟩
    obtain ⟨hst, hgo⟩ := it H' x
    by_cases hlt : i < ds.length
    · obtain ⟨go, yl⟩ := hgo i ds[i] (by simp [hlt])
      refine .inr ⟨go, fun v H2 hy => ?_⟩
      obtain ⟨sy, rv⟩ := yl v H2 hy
      have xy := R'.ext sy
      replace ha := sy acc _ ha
      replace rs := rs.ext xy
      replace x := x.trans xy
      replace R' := R'.to sy
      rw [List.drop_eq_getElem_cons hlt] at ec
      simp only [compO] at ec
      cases q : itemO τ ft fe (maskD bo bs δ) ds[i] with
      | none => rw [q] at ec; cases ec
      | some oy =>
        rw [q] at ec
        obtain ⟨δ1, q1, q2⟩ := bindO_some q
        have q1' : τ ds[i] δ' = some δ1 := by rw [hd']; exact q1
        have hd1 : ∀ d, τ d δ1 = τ d (maskD bo bs δ) := fun d => by rw [hτ.new _ d _ _ q1', hd' d]
        have nw1 : NoOwn δ1 := hτ.own _ _ _ q1' nw'
        refine ⟨_, H1, δ', ds[i], δ1, R', rv, q1', fun σ3 R3 => ?_⟩
        split at q2
        · rename_i qt
          refine ⟨_, H1, δ1, true, R3, qt, fun H3 s3 => iteT ?_⟩
          split at q2
          · rename_i y qe
            cases q2
            simp only at ec
            cases qc : compO (itemO τ ft fe (maskD bo bs δ)) (ds.drop (i + 1)) with
            | none => rw [qc] at ec; cases ec
            | some l3 =>
              rw [qc] at ec
              cases ec
              refine ⟨_, H1, δ1, y, R3.to s3, qe, fun v4 H4 s4 r4 => ?_⟩
              have s34 := s3.trans s4
              have ha4 : H4 acc = some (.lst ys) := s34 acc _ ha
              have x4 : Ext (bset bo B δ σ) H2 H4 := R3.ext s34
              have rs4 : Reps K (bset bo B δ σ) H4 l1 ys := rs.ext x4
              have r4' : Rep K (bset bo B δ σ) H4 y v4 := r4
              have x5 : Ext (bset bo B δ σ) H4 (upd H4 acc (.lst (ys ++ [v4]))) := ext_upd ha4 trivial nb
              have R5 : Rel K (bset bo B δ σ) H1 δ1 σ3 (upd H4 acc (.lst (ys ++ [v4]))) := by
                have R4 := R3.to s34
                refine ⟨fun b o q => ?_, R4.bor, R4.len, fun j d h => ?_, fun j d h => ?_, R4.dis⟩
                · rw [upd_ne (ne_of_none q hacc)]; exact R4.same b o q
                · obtain ⟨v, h1, h2⟩ := R4.var j d h
                  exact ⟨v, h1, h2.ext x5⟩
                · obtain ⟨c, h1, h2, h3⟩ := R4.own j d h
                  exact (nw1 j d h).elim
              refine ⟨ha4, by have := lim_line hlim; omega, ds.length - (i + 1), by omega, rfl, hlt, by rw [List.length_append, List.length_singleton]; omega, upd_same, x.trans (x4.trans x5), δ1, l1 ++ [y], l3, R5, hd1, nw1, by rw [hls, List.append_assoc]; rfl, ?_, qc⟩
              exact (rs4.ext x5).append (Reps.cons (r4'.ext x5) Reps.nil)
          · cases q2
        · rename_i qt
          cases q2
          refine ⟨_, H1, δ1, false, R3, qt, fun H3 s3 => iteF ?_⟩
          exact ⟨ds.length - (i + 1), by omega, rfl, hlt, by omega, s3 acc _ ha, x.trans (R3.ext s3), δ1, l1, l2, R3.to s3, hd1, nw1, hls, rs.ext (R3.ext s3), ec⟩
        · cases q2
    · have hi' : i = ds.length := by omega
      subst hi'
      rw [List.drop_length] at ec
      simp only [compO] at ec
      cases ec
      rw [List.append_nil] at hls
      subst hls
      exact .inl ⟨hst, k acc H' (s1.trans R'.same) (s1.free hacc) ⟨ys, ha, rs⟩⟩
  · rw [if_neg hlim] at e2; cases e2
end
end L2

end

section
set_option maxHeartbeats 1000000
namespace L2
open PySem PySem.Spec PyProof.Rows

section
variable {X : Cx} {elt tg iter : Expr} {ifs : List Expr} {scope : Scope} {pos : Pos} {bo : Bool} {fi : DEnv → Option (List D)} {τ : D → DEnv → Option DEnv} {ft : DEnv → Option Bool} {fe : DEnv → Option D} {bs : List Bool}
theorem comp_un (hc : X.calm = true) (hτ : Anew τ) (hi : DI X bo tg iter fi) (S : CompScope X scope bs)
    (hg : ∀ cl C s₂ H₂ ex pn, DG (cxComp X scope cl C s₂ H₂ ex pn) tg τ) (ht : ∀ cl C s₂ H₂ ex pn, DTs (cxComp X scope cl C s₂ H₂ ex pn) ifs ft) (he : ∀ cl C s₂ H₂ ex pn, DE (cxComp X scope cl C s₂ H₂ ex pn) false elt fe)
    (hs : ∀ x, foldedSetIterable iter X.env x = pure x) : PE X (.ListComp elt [⟨tg, iter, ifs, 0⟩] scope pos) (fun σ H Q => ∃ B Hk δ ds ls, Rel X.K B Hk δ σ H ∧ fi δ = some ds ∧ runC bo bs τ ft fe δ ds = some ls ∧
      ∀ a H', Same H H' → H a = none → (∃ xs, H' a = some (.lst xs) ∧ Reps X.K (bset bo B δ σ) H' ls xs) → Q (.ref a) H') := by
  intro pins s σ H Q I ⟨B, Hk, δ, ds, ls, R, e1, e2, k⟩
  exact pe_comp hc hi S hg ht he hs pins s σ H Q I (comp_core hτ (by rw [S.len, I.len]) R e1 e2 k)

theorem df_comp (hc : X.calm = true) (hτ : Anew τ) (hi : DI X false tg iter fi) (S : CompScope X scope bs)
    (hg : ∀ cl C s₂ H₂ ex pn, DG (cxComp X scope cl C s₂ H₂ ex pn) tg τ) (ht : ∀ cl C s₂ H₂ ex pn, DTs (cxComp X scope cl C s₂ H₂ ex pn) ifs ft) (he : ∀ cl C s₂ H₂ ex pn, DE (cxComp X scope cl C s₂ H₂ ex pn) false elt fe)
    (hs : ∀ x, foldedSetIterable iter X.env x = pure x := by intro _; rfl) : DF X (.ListComp elt [⟨tg, iter, ifs, 0⟩] scope pos) (fun δ => lstLim (bindO (fi δ) (runC false bs τ ft fe δ))) :=
  (comp_un hc hτ hi S hg ht he hs).imp fun σ H Q ⟨B, Hk, δ, d, R, e, k⟩ => by
    cases q : bindO (fi δ) (runC false bs τ ft fe δ) with
    | none => simp only [q, lstLim] at e; cases e
    | some ls =>
      simp only [q, lstLim] at e
      cases e
      obtain ⟨ds, e1, e2⟩ := bindO_some q
      exact ⟨B, Hk, δ, ds, ls, R, e1, e2, fun a H' s n ob => k a H' s n ob⟩
theorem ds_setc {i : Nat} {y : Str} {py spos : Pos} (hN : X.N.Nodup) (hc : X.calm = true) (hτ : Anew τ) (hi : DI X false tg iter fi) (S : CompScope X scope bs)
    (hg : ∀ cl C s₂ H₂ ex pn, DG (cxComp X scope cl C s₂ H₂ ex pn) tg τ) (ht : ∀ cl C s₂ H₂ ex pn, DTs (cxComp X scope cl C s₂ H₂ ex pn) ifs ft) (he : ∀ cl C s₂ H₂ ex pn, DE (cxComp X scope cl C s₂ H₂ ex pn) false elt fe)
    (hiN : X.N[i]? = some y := by rfl) (hy : X.env.scope.names.lookup y = some .local := by rfl)
    (hsw : swapsWith (.ListComp elt [⟨tg, iter, ifs, 0⟩] scope pos) (some (.Name y py)) spos.line X.env = pure true := by rfl)
    (hs : ∀ x, foldedSetIterable iter X.env x = pure x := by intro _; rfl) : DS X (.Assign [.Name y py] (.ListComp elt [⟨tg, iter, ifs, 0⟩] scope pos) spos) (fun δ => setF i (lstLim (bindO (fi δ) (runC false bs τ ft fe δ))) δ) := by
  intro pins s σ H Dn I ⟨B, Hk, δ, o, R, e, k⟩
  obtain ⟨d, ed, hlt, rfl⟩ := setF_some e
  cases q : bindO (fi δ) (runC false bs τ ft fe δ) with
  | none => simp only [q, lstLim] at ed; cases ed
  | some ls =>
    simp only [q, lstLim] at ed
    cases ed
    obtain ⟨ds, e1, e2⟩ := bindO_some q
    refine ps_setc hc hi S hg ht he hN hiN hy hsw hs pins s σ H Dn I (comp_core (Q := fun x H1 => gName i x σ H1 Dn.nx) hτ (by rw [S.len, I.len]) R e1 e2 fun a H' s n ob => ?_)
    refine k _ H' (R.ext s) ((R.to s).setOwn (by rw [← R.len]; exact hlt) (R.same.free n) ob fun j e hj h1 h2 => ?_)
    obtain ⟨b, h3, _, ob'⟩ := R.own j e h1
    rw [h2] at h3; cases h3
    obtain ⟨o, e'⟩ := ob'.there
    rw [n] at e'; cases e'
end

def startD (n : Nat) (ds : List D) : DEnv := ds.map (fun d => some (d, false)) ++ List.replicate (n - ds.length) none
def outF (x : Option Out) : Option (D × Bool) := match x with | some (.ret d fr) => some (d, fr) | some (.next _) => some (.non, false) | _ => none
def runF (n np : Nat) (g : DEnv → Option Out) (ds : List D) : Option (D × Bool) := if ds.length = np then outF (g (startD n ds)) else none
theorem rel_start {K : PySem.W.Frag} {B : Addr → Prop} {H : Hp} {N : List Str} {ds : List D} {vs : List V} (hb : ∀ a, B a → ∃ o, H a = some o) (r : Reps K B H ds vs) (hl : ds.length ≤ N.length) : Rel K B H (startD N.length ds) (start N vs) H := by
  have el := r.length
  have key : ∀ (i : Nat) d ow, (startD N.length ds)[i]? = some (some (d, ow)) → ow = false ∧ ds[i]? = some d := fun i d ow h => by
    unfold startD at h
    by_cases hi : i < ds.length
    · rw [List.getElem?_append_left (by simpa using hi), List.getElem?_map] at h
      cases q : ds[i]? with
      | none => rw [q] at h; cases h
      | some e => rw [q] at h; simp only [Option.map_some, Option.some.injEq, Prod.mk.injEq] at h; exact ⟨h.2.symm, by rw [h.1]⟩
    · rw [List.getElem?_append_right (by simpa using hi), List.getElem?_replicate] at h
      split at h <;> cases h
  refine ⟨Same.refl H, hb, ?_, fun i d h => ?_, fun i d h => ?_, fun i j d e a _ h => ?_⟩
  · unfold startD start
    simp only [List.length_append, List.length_map, List.length_replicate]
    omega
  · obtain ⟨_, h2⟩ := key i d _ h
    obtain ⟨v, h3, h4⟩ := r.get h2
    refine ⟨v, ?_, h4⟩
    have hi : i < vs.length := (List.getElem?_eq_some_iff.mp h3).1
    unfold start
    rw [List.getElem?_append_left (by simpa using hi), List.getElem?_map, h3]
    rfl
  · have := (key i d _ h).1; cases this
  · have := (key i d _ h).1; cases this
section
variable {P : Program} {w : World} {K : PySem.W.Frag} {mg : Str → Option Value} {base : Heap}
theorem fnM_of {x qual : Str} {st : Stmt} {f : Addr} {fd : FuncData} {N ps : List Str} {k : Nat} {g : DEnv → Option Out} (F : Fun K x qual st f fd) (S : FnScope N ps (defScope st)) (hb : Binds K fd ps []) (hm : mg x = some (.ref f)) (hn : ps.length ≤ N.length)
    (body : ∀ (cdv : Value) (A : Around) (outer : List Env) (s : Shared) (H : Hp) (E : XK), Room k (A.deeper (envOfC qual (defScope st) s.heap.objs.size f cdv)) → DSs (cxOf CX0 P w K mg base N qual (defScope st) f cdv A outer s H E).nox (defBody st) g) :
    FnOk P w K mg base CX0 (k + 1) f fd ps (spM K (runF N.length ps.length g)) ∧ FnM P w K mg base (k + 1) x (runF N.length ps.length g) := by
  have key : FnOk P w K mg base CX0 (k + 1) f fd ps (spM K (runF N.length ps.length g)) := by
    refine F.ok S (fun vs H Q E h => ?_) (fun cdv A outer s H vs Q E hr h => ?_)
    · obtain ⟨B, ds, r, fr, _, hr, hf, _⟩ := h
      unfold runF at hf
      by_cases q : ds.length = ps.length
      · rw [← hr.length, q]
      · rw [if_neg q] at hf; cases hf
    · obtain ⟨B, ds, r, fr, hB, hrs, hf, kk⟩ := h
      refine ⟨_, body cdv A outer s H E hr, ?_⟩
      unfold runF at hf
      by_cases q : ds.length = ps.length
      · rw [if_pos q] at hf
        refine ⟨B, H, startD N.length ds, ?_⟩
        have R : Rel K B H (startD N.length ds) (start N vs) H := rel_start hB hrs (by omega)
        cases qo : g (startD N.length ds) with
        | none => rw [qo] at hf; cases hf
        | some o =>
          rw [qo] at hf
          refine ⟨o, R, by first | exact qo | rfl, ?_⟩
          cases o with
          | ret d fr' =>
            simp only [outF, Option.some.injEq, Prod.mk.injEq] at hf
            obtain ⟨rfl, rfl⟩ := hf
            exact fun v H' x s rr => kk v H' s rr
          | next δ =>
            simp only [outF, Option.some.injEq, Prod.mk.injEq] at hf
            obtain ⟨rfl, rfl⟩ := hf
            exact fun σ' H' x R' => kk .non H' R'.same (by unfold RepR; rw [if_neg Bool.false_ne_true]; simp only [Rep])
          | brk δ => simp only [outF] at hf; cases hf
          | cont δ => simp only [outF] at hf; cases hf
      · rw [if_neg q] at hf; cases hf
  exact ⟨key, ⟨f, fd, ps, key, hm, F.kp, hb⟩⟩

end
end L2

end

section
set_option maxHeartbeats 1000000
namespace L2
open PySem PySem.Spec PyProof.Rows

theorem bt_tuple : bootBuiltins "tuple" = some (.type "tuple") := by decide +kernel
theorem bt_isinstance : bootBuiltins "isinstance" = some (.builtin "isinstance") := by decide +kernel
theorem bt_int : bootBuiltins "int" = some (.type "int") := by decide +kernel
theorem bt_str : bootBuiltins "str" = some (.type "str") := by decide +kernel
theorem bt_bool : bootBuiltins "bool" = some (.type "bool") := by decide +kernel
def cutS (x : Str) (lo hi : Option Int) : Str := if ((Builtin.Str.strSliceIndices lo hi 1 x.length).length == x.length) = true then x else ⟨((Builtin.Str.strSliceIndices lo hi 1 x.length).filterMap (x.cps[·]?)).toArray⟩
theorem cutS_len (x : Str) (lo hi : Option Int) : (cutS x lo hi).length ≤ x.length := by
  unfold cutS
  split
  · exact Nat.le_refl _
  · show ((Builtin.Str.strSliceIndices lo hi 1 x.length).filterMap (x.cps[·]?)).toArray.size ≤ _
    rw [List.size_toArray]
    exact Nat.le_trans (List.length_filterMap_le _ _) (sliceIndices_le lo hi x.length)
section
variable {X : Cx}
theorem part_of {v : Value} {o : Option Int} (h : IsPart v o) : ∃ l : Option (Int × Tok), v = partValue l ∧ l.map (·.1) = o := by
  cases h with
  | none => exact ⟨none, rfl, rfl⟩
  | int i t => exact ⟨some (i, t), rfl, rfl⟩
theorem sl_str : SlR X (fun x lo hi H Q => ∃ z, x = .str z ∧ z.length ≤ sizeLine ∧ Q (.str (cutS z lo hi)) H) := by
  intro pins s σ H x v vl vu lo hi sl Q I rx hs pl pu h
  obtain ⟨z, rfl, hz, q⟩ := h
  obtain ⟨t, rfl⟩ := rx
  obtain ⟨l, rfl, rfl⟩ := part_of pl
  obtain ⟨u, rfl, rfl⟩ := part_of pu
  refine ⟨"str", _, F.slot_str_getitem.lookup, typeIs_str s z t, wpAny_getItem_str_slice (l := l) (u := u) (st := none) hs rfl ?_⟩
  have key : (sliceMade z t l u none) = if ((Builtin.Str.strSliceIndices (l.map (·.1)) (u.map (·.1)) 1 z.length).length == z.length) = true then Made.val (.str z t) else Made.str ⟨((Builtin.Str.strSliceIndices (l.map (·.1)) (u.map (·.1)) 1 z.length).filterMap (z.cps[·]?)).toArray⟩ := by
    unfold sliceMade slicePicked
    simp
  rw [key]
  refine post_val_or_made (fun hc => ?_) fun t' k => ⟨.str (cutS z (l.map (·.1)) (u.map (·.1))), H, I.tok k, ⟨t', rfl⟩, q⟩
  have hle := cutS_len z (l.map (·.1)) (u.map (·.1))
  unfold cutS at hle
  rw [if_neg hc] at hle
  exact Nat.le_trans hle hz
end

def DO (X : Cx) (e : Option Expr) (f : DEnv → Option (Option Int)) : Prop := PO X e (fun σ H Q => ∃ B Hk δ o, Rel X.K B Hk δ σ H ∧ f δ = some o ∧ ∀ H', Same H H' → Q o H')
theorem PO.imp {X : Cx} {e : Option Expr} {t t' : TO} (h : PO X e t) (i : ∀ σ H Q, t' σ H Q → t σ H Q) : PO X e t' := fun pins s σ H Q I q => h pins s σ H Q I (i σ H Q q)
def partI (x : Option D) : Option (Option Int) := match x with | some (.int i) => some (some i) | _ => none
section
variable {X : Cx} {m m' mm : Bool} {a b : Expr} {fa fb : DEnv → Option D} {pos p p2 : Pos} {lo hi : Option Expr} {fl fh : DEnv → Option (Option Int)}
theorem do_none : DO X none (fun _ => some none) := po_none.imp fun σ H Q ⟨B, Hk, δ, o, R, e, k⟩ => by cases e; exact k H (Same.refl H)
theorem do_some (h : DE X m a fa) : DO X (some a) (fun δ => partI (fa δ)) := (po_some h).imp fun σ H Q ⟨B, Hk, δ, o, R, e, k⟩ => by
  unfold partI at e
  dsimp only at e
  split at e
  · rename_i i q
    cases e
    refine ⟨B, Hk, δ, _, R, q, fun v H' s r => ?_⟩
    simp only [Rep] at r
    exact ⟨i, r, k H' s⟩
  · cases e

theorem three {K : PySem.W.Frag} {σ : St} {H : Hp} {B : Addr → Prop} {Hk : Hp} {δ : DEnv} {d : D} {l u : Option Int} {r : V → Option Int → Option Int → Hp → VK → Prop} {Q : VK} (R : Rel K B Hk δ σ H) (e1 : fa δ = some d) (e2 : fl δ = some l) (e3 : fh δ = some u)
    (k : ∀ v H', Same H H' → Rel K B Hk δ σ H' → Rep K (bset m B δ σ) H' d v → r v l u H' Q) :
    tSl r (tM K m fa) (fun σ H Q => ∃ B Hk δ o, Rel K B Hk δ σ H ∧ fl δ = some o ∧ ∀ H', Same H H' → Q o H') (fun σ H Q => ∃ B Hk δ o, Rel K B Hk δ σ H ∧ fh δ = some o ∧ ∀ H', Same H H' → Q o H') σ H Q :=
  ⟨B, Hk, δ, d, R, e1, fun v H1 s1 r1 => ⟨B, Hk, δ, l, R.to s1, e2, fun H2 s2 => ⟨B, Hk, δ, u, R.to (s1.trans s2), e3, fun H3 s3 => k v H3 (s1.trans (s2.trans s3)) (R.to (s1.trans (s2.trans s3))) (r1.same (R.to s1) (s2.trans s3))⟩⟩⟩
def cutSO (x : Option D) (l u : Option (Option Int)) : Option D := match x, l, u with | some (.str z), some l, some u => if z.length ≤ lim then some (.str (cutS z l u)) else none | _, _, _ => none
theorem de_cutS (ha : DE X m a fa) (hl : DO X lo fl) (hh : DO X hi fh) : DE X mm (.Subscript a (.Slice lo hi none p2) pos) (fun δ => cutSO (fa δ) (fl δ) (fh δ)) :=
  (pe_slice sl_str ha hl hh).imp fun σ H Q ⟨B, Hk, δ, d, R, e, k⟩ => by
    unfold cutSO at e
    dsimp only at e
    split at e
    · rename_i z l u q1 q2 q3
      by_cases hz : z.length ≤ lim
      · rw [if_pos hz] at e; cases e
        refine three R q1 q2 q3 fun v H' s R' r => ?_
        simp only [Rep] at r
        exact ⟨z, r, lim_line hz, k _ H' s (by simp only [Rep])⟩
      · rw [if_neg hz] at e; cases e
    · cases e
def cutD (ds : List D) (lo hi : Option Int) : List D := (ds.drop (HT.sIx ds.length 0 lo)).take (HT.sIx ds.length ds.length hi - HT.sIx ds.length 0 lo)
theorem Reps.cut {K : PySem.W.Frag} {B : Addr → Prop} {H : Hp} {ds : List D} {xs : List V} (r : Reps K B H ds xs) (lo hi : Option Int) : Reps K B H (cutD ds lo hi) (cutV xs lo hi) := by
  unfold cutD cutV
  rw [r.length]
  exact (r.drop _).take _
def cutLO (x : Option D) (l u : Option (Option Int)) : Option D := match x, l, u with | some (.lst ds), some l, some u => some (.lst (cutD ds l u)) | _, _, _ => none

theorem df_cutL (ha : DE X false a fa) (hl : DO X lo fl) (hh : DO X hi fh) : DF X (.Subscript a (.Slice lo hi none p2) pos) (fun δ => cutLO (fa δ) (fl δ) (fh δ)) :=
  (pe_slice sl_list ha hl hh).imp fun σ H Q ⟨B, Hk, δ, d, R, e, k⟩ => by
    unfold cutLO at e
    dsimp only at e
    split at e
    · rename_i ds l u q1 q2 q3
      cases e
      refine three R q1 q2 q3 fun v H' s R' r => ?_
      simp only [Rep] at r
      obtain ⟨c, xs, rfl, hq, rs⟩ := r
      refine ⟨c, xs, rfl, hq.sq, fun p hp => ?_⟩
      have s2 := same_upd (o := .lst (cutV xs l u)) hp
      exact k p _ (s.trans s2) (s.free hp) ⟨_, upd_same, (rs.cut l u).same (m := false) R' s2⟩
    · cases e

def addS (x y : Option D) : Option D := match x, y with | some (.str i), some (.str j) => if i.length + j.length ≤ lim then some (.str (i ++ j)) else none | _, _ => none
theorem de_addS (ha : DE X m a fa) (hb : DE X m' b fb) : DE X mm (.BinOp a .Add b pos) (fun δ => addS (fa δ) (fb δ)) :=
  (pe_op op_add_str ha hb).imp fun σ H Q ⟨B, Hk, δ, d, R, e, k⟩ => by
    unfold addS at e
    dsimp only at e
    split at e
    · rename_i i j q1 q2
      by_cases hz : i.length + j.length ≤ lim
      · rw [if_pos hz] at e; cases e
        refine two R q1 q2 fun v u H' s R' r1 r2 => ?_
        simp only [Rep] at r1 r2
        subst r1 r2
        exact ⟨i, j, rfl, rfl, lim_line hz, k _ H' s (by simp only [Rep])⟩
      · rw [if_neg hz] at e; cases e
    · cases e

def listO (x : Option D) : Option D := match x with | some d => (match itemsD d with | some ds => some (.lst ds) | none => none) | none => none
theorem itemsO {x : Option D} {g : List D → D} {d : D} (h : (match x with | some d => (match itemsD d with | some ds => some (g ds) | none => none) | none => none) = some d) : ∃ e es, x = some e ∧ itemsD e = some es ∧ d = g es := by
  split at h
  · rename_i e
    split at h
    · rename_i es he; cases h; exact ⟨e, es, rfl, he, rfl⟩
    · cases h
  · cases h
def tupleO (x : Option D) : Option D := match x with | some d => (match itemsD d with | some ds => some (.tup ds) | none => none) | none => none
theorem de_tuple (g : Gl X "tuple") (hm : X.mg "tuple" = none) (ha : DE X m a fa) (hs : starEach [a] X.env = [(false, eval a X.env)] := by rfl) : DE X m (.Call (.Name "tuple" p) [a] [] pos) (fun δ => tupleO (fa δ)) :=
  (pe_callTy call_tuple_of g hm bt_tuple (pa_cons ha pa_nil hs) (he := hs)).imp fun σ H Q ⟨B, Hk, δ, d, R, e, k⟩ => by
    obtain ⟨d1, es, e1, hi, rfl⟩ := itemsO (g := D.tup) e
    refine oneA R e1 fun v H' s R' r => ?_
    cases d1 with
    | lst ds =>
      simp only [itemsD] at hi; cases hi
      simp only [Rep] at r
      obtain ⟨c, xs, rfl, hq, rs⟩ := r
      refine ⟨c, xs, rfl, .inl ⟨hq.sq, fun l hl => ?_⟩⟩
      have s2 := same_upd (o := .tup xs) hl
      refine k _ _ (s.trans s2) ?_
      simp only [Rep]
      exact ⟨l, xs, rfl, upd_same, rs.same R' s2⟩
    | tup ds =>
      simp only [itemsD] at hi; cases hi
      have r' := r
      simp only [Rep] at r
      obtain ⟨c, xs, rfl, hq, rs⟩ := r
      exact ⟨c, xs, rfl, .inr ⟨SqT.of hq, k _ H' s r'⟩⟩
    | _ => simp [itemsD] at hi

def tyD : D → Option String
  | .non => some "NoneType" | .bl _ => some "bool" | .int _ => some "int" | .str _ => some "str" | .tup _ => some "tuple" | .lst _ => some "list" | _ => none
def isiT (t c : String) : Bool := t == c || (t == "bool" && c == "int")
def isiO (c : String) (x : Option D) : Option D := match x with | some d => (match tyD d with | some t => some (.bl (isiT t c)) | none => none) | none => none
theorem call_isi {c : String} (hc : c = "int" ∨ c = "bool" ∨ c = "str" ∨ c = "list" ∨ c = "tuple") : CallR X (.builtin "isinstance") (fun xs H Q => ∃ B d x t, xs = [x, .ty c] ∧ Rep X.K B H d x ∧ tyD d = some t ∧ Q (.bl (isiT t c)) H) := by
  intro pins s σ H xs us Q I r h
  obtain ⟨B, d, x, t, rfl, rx, ht, q⟩ := h
  obtain ⟨u, w', rfl, ru, rw'⟩ := vals2 r
  cases rw'
  have fin : ∀ b, b = isiT t c → ∀ tk, EP X pins σ Q (.bool b) { s with toks := tk } := fun b e tk => ⟨.bl b, H, I.tok tk, rfl, by rw [e]; exact q⟩
  have kit : ∀ (T : String), (T = "NoneType" ∨ T = "bool" ∨ T = "int" ∨ T = "str" ∨ T = "list" ∨ T = "tuple") → PySem.W.kitOne X.K (.type T) (.type c) = some (isiT T c) := fun T hT => by
    rcases hc with rfl | rfl | rfl | rfl | rfl <;> rcases hT with rfl | rfl | rfl | rfl | rfl | rfl <;> rfl
  cases d with
  | non => simp only [tyD, Option.some.injEq] at ht; subst ht; simp only [Rep] at rx; subst rx; exact isinst_ok I ru (.non) (kit _ (by simp)) (fin _ rfl)
  | bl b => simp only [tyD, Option.some.injEq] at ht; subst ht; simp only [Rep] at rx; subst rx; exact isinst_ok I ru (.bl b) (kit _ (by simp)) (fin _ rfl)
  | int b => simp only [tyD, Option.some.injEq] at ht; subst ht; simp only [Rep] at rx; subst rx; exact isinst_ok I ru (.int b) (kit _ (by simp)) (fin _ rfl)
  | str b => simp only [tyD, Option.some.injEq] at ht; subst ht; simp only [Rep] at rx; subst rx; exact isinst_ok I ru (.str b) (kit _ (by simp)) (fin _ rfl)
  | tup ds =>
    simp only [tyD, Option.some.injEq] at ht; subst ht
    simp only [Rep] at rx
    obtain ⟨a, xs, rfl, hq, _⟩ := rx
    cases ru
    obtain ⟨its, _, ⟨o, h1, h2, _⟩, _⟩ := I.tuple (SqT.of hq)
    exact PySem.W.kia_one PySem.W.kitx_tuple I.kIn ⟨o, h1, h2⟩ (kit _ (by simp)) (fun z => nomatch z) (fin _ rfl)
  | lst ds =>
    simp only [tyD, Option.some.injEq] at ht; subst ht
    simp only [Rep] at rx
    obtain ⟨a, xs, rfl, hq, _⟩ := rx
    cases ru
    obtain ⟨its, _, ⟨o, n, h1, h2, _⟩, _⟩ := I.list hq.sq
    exact PySem.W.kia_one PySem.W.kitx_list I.kIn ⟨o, h1, h2⟩ (kit _ (by simp)) (fun z => nomatch z) (fin _ rfl)
  | dT _ _ => simp [tyD] at ht
  | dK _ _ => simp [tyD] at ht
  | dD _ _ => simp [tyD] at ht
  | sp _ _ => simp [tyD] at ht
theorem de_isi {c : Str} {cs : String} {pc : Pos} (hc : cs = "int" ∨ cs = "bool" ∨ cs = "str" ∨ cs = "list" ∨ cs = "tuple") (g : Gl X "isinstance") (hm : X.mg "isinstance" = none) (gc : Gl X c) (hmc : X.mg c = none) (hv : bootBuiltins c = some (.type cs)) (ha : DE X m a fa)
    (hs : starEach [a, .Name c pc] X.env = [(false, eval a X.env), (false, eval (.Name c pc) X.env)] := by rfl) (hs2 : starEach [.Name c pc] X.env = [(false, eval (.Name c pc) X.env)] := by rfl) (hn : c ≠ "__name__" := by decide) (hd : (c == ("__debug__" : Str)) = false := by decide)
    (hpl : (backTo pos (starEach [.Name c pc] X.env)).any (·.1) = false := by rfl) :
    DE X mm (.Call (.Name "isinstance" p) [a, .Name c pc] [] pos) (fun δ => isiO cs (fa δ)) :=
  (pe_callB (call_isi hc) g hm bt_isinstance (pa_cons ha (pa_cons (pe_bltn (v := .ty cs) gc hmc hv rfl hn hd) pa_nil hs2) (by rw [hs, hs2])) (he := by rw [hs, hs2]) (hpl := hpl)).imp fun σ H Q ⟨B, Hk, δ, d, R, e, k⟩ => by
    unfold isiO at e
    dsimp only at e
    split at e
    · rename_i d1 q
      split at e
      · rename_i t qt
        cases e
        exact ⟨B, Hk, δ, d1, R, q, fun v H' s r => ⟨_, d1, v, t, rfl, r, qt, k _ H' s (by simp only [Rep])⟩⟩
      · cases e
    · cases e
end
end L2

end

section
set_option maxHeartbeats 1000000
namespace L2
open PySem PySem.Spec PyProof.Rows PySem.W

def kin {α : Type} (n : Nat) (lt : Nat → Nat → Bool) : KasT α → Prop
  | .ret _ => True
  | .ask i j k => i < n ∧ j < n ∧ kin n lt (k (lt i j))
section
variable {n : Nat} {lt : Nat → Nat → Bool}
structure Ord (lt : Nat → Nat → Bool) : Prop where
  asym : ∀ i j, lt i j = true → lt j i = false
  tr : ∀ i j k, lt j i = false → lt k j = false → lt k i = false
variable (O : Ord lt)

structure Ok (n : Nat) (p : Array Nat) : Prop where
  sz : p.size = n
  pm : p.toList.Perm (List.range n)
include O in
include O in
include O in
include O in
include O in
include O in
include O in
include O in
end
end L2

end

section
set_option maxHeartbeats 1000000
namespace L2
open PySem PySem.Spec PyProof.Rows PySem.W

section
variable {prog : Program} {w : World} {A : Around} {E : Value → Shared → Prop} {s : Shared} {vs : List Value} {a : Addr}
end

section
variable {lt : D → D → Option Bool}
end
end L2

end

section
set_option maxHeartbeats 1000000
namespace L2
open PySem PySem.Spec PyProof.Rows PySem.W

section
open PySem.SeqAt
open PySem.AutoSeq1 (wpAny_loadPart')
open PySem.MeetsSeq PySem.MeetsSeq2 PySem.MeetsSeq3
end
section
variable {X : Cx} {pins : List (Addr × Obj)} {σ : St} {H : Hp} {s : Shared} {B B' : Addr → Prop}

end
end L2

end

section
set_option maxHeartbeats 1000000
namespace L2
open PySem PySem.Spec PyProof.Rows PySem.W

section
variable {prog : Program} {w : World} {A : Around} {E : Value → Shared → Prop} {s : Shared}
end
section
variable {X : Cx} {pins : List (Addr × Obj)} {σ : St} {H : Hp} {s : Shared} {B B' : Addr → Prop}

end
end L2

end

section
set_option maxHeartbeats 1000000
namespace L2
open PySem PySem.Spec PyProof.Rows PySem.W

section
variable {X : Cx} {m m' mm : Bool} {a b : Expr} {fa fb : DEnv → Option D} {pos p : Pos}

end
end L2

end

section
set_option maxHeartbeats 1000000
namespace L2
open PySem PySem.Spec PyProof.Rows PySem.W

section
variable {X : Cx} {pins : List (Addr × Obj)} {σ : St} {H : Hp} {s : Shared} {A : Around} {E : Value → Shared → Prop}

end
end L2

end

section
set_option maxHeartbeats 1000000
namespace L2
open PySem PySem.Spec PyProof.Rows PySem.W

section
variable {X : Cx}
end

section
variable {X : Cx} {m m' mm : Bool} {a b c : Expr} {fa fb fc : DEnv → Option D} {pos apos cpos : Pos}

end
end L2

end

section
set_option maxHeartbeats 1000000
namespace L2
open PySem PySem.Spec PyProof.Rows PySem.W

def strsD : List D → Option (List Str)
  | [] => some []
  | .str i :: ds => (match strsD ds with | some l => some (i :: l) | none => none)
  | _ => none
theorem strsD_map (ns : List Str) : strsD (ns.map D.str) = some ns := by
  induction ns with
  | nil => rfl
  | cons n ns ih => simp only [List.map_cons, strsD, ih]
theorem strsD_some : ∀ {ds : List D} {ns : List Str}, strsD ds = some ns → ds = ns.map D.str
  | [], ns, h => by simp only [strsD, Option.some.injEq] at h; subst h; rfl
  | .str i :: ds, ns, h => by
    simp only [strsD] at h
    cases q : strsD ds with
    | none => rw [q] at h; cases h
    | some l =>
      rw [q] at h
      simp only [Option.some.injEq] at h
      subst h
      rw [List.map_cons, strsD_some q]
  | .non :: ds, ns, h => by simp [strsD] at h
  | .bl _ :: ds, ns, h => by simp [strsD] at h
  | .int _ :: ds, ns, h => by simp [strsD] at h
  | .tup _ :: ds, ns, h => by simp [strsD] at h
  | .lst _ :: ds, ns, h => by simp [strsD] at h
  | .dT _ _ :: ds, ns, h => by simp [strsD] at h
  | .dK _ _ :: ds, ns, h => by simp [strsD] at h
  | .dD _ _ :: ds, ns, h => by simp [strsD] at h
  | .sp _ _ :: ds, ns, h => by simp [strsD] at h
theorem Reps.strs {K : PySem.W.Frag} {B : Addr → Prop} {H : Hp} : ∀ {ns : List Str} {xs : List V}, Reps K B H (ns.map D.str) xs → xs = ns.map V.str
  | [], xs, h => by simpa only [List.map_nil, Reps] using h
  | n :: ns, xs, h => by
    simp only [List.map_cons, Reps] at h
    obtain ⟨x, r, rfl, h1, h2⟩ := h
    simp only [Rep] at h1
    rw [List.map_cons, h1, Reps.strs h2]
theorem strsAre_of {ns : List Str} : ∀ {us : List Value}, Vals (ns.map V.str) us → StrsAre us ns := by
  induction ns with
  | nil => intro us r; rw [List.map_nil] at r; cases r; exact .nil
  | cons n ns ih =>
    intro us r
    rw [List.map_cons] at r
    cases r with
    | cons r1 r2 =>
      obtain ⟨t, e⟩ := r1
      subst e
      exact .cons n t (ih r2)
section
variable {X : Cx} {m m' mm : Bool} {a b : Expr} {fa fb : DEnv → Option D} {pos p apos cpos : Pos}
theorem mt_join : MtM X "str.join" (fun x vs H Q => ∃ (z : Str) (p : Addr) (ys : List Str), x = .str z ∧ vs = [.ref p] ∧ SqL X.K H p (ys.map V.str) ∧ (ys.map (·.length)).sum + ys.length * z.length ≤ 16777216 ∧ Q (.str (Txt.join z ys)) H) := by
  intro pins s σ H x vs v us Q I rx rv h
  obtain ⟨z, p, ys, rfl, rfl, hq, hl, q⟩ := h
  obtain ⟨t, rfl⟩ := rx
  obtain ⟨u, rfl, ru⟩ := rv.one
  cases ru
  obtain ⟨its, r, pl, hz⟩ := I.list hq
  exact join_list pl.isList (by simpa using strsAre_of r) hl fun t' k => ⟨.str _, H, I.tok k, ⟨t', rfl⟩, q⟩
def joinO (x y : Option D) : Option D := match x, y with | some (.str z), some (.lst ds) => (match strsD ds with | some ys => if (ys.map (·.length)).sum + ys.length * z.length ≤ 16777216 then some (.str (Txt.join z ys)) else none | none => none) | _, _ => none
theorem de_join (ha : DE X m a fa) (hb : DE X m' b fb) (hbase : attributeBase a "join" X.env (eval a X.env) = eval a X.env := by rfl)
    (hfew : ((backTo cpos (starEach [b] X.env)).all (fun x => !x.1) && (backToKw cpos (keywordEach [] X.env)).all (fun x => x.1.isSome) && decide (([b]).length + ([] : List Keyword).length + (if ([] : List Keyword).isEmpty then 0 else 1) < 30)) = true := by rfl)
    (hline : (apos.endLine == cpos.line) = true := by rfl) (hs : starEach [b] X.env = (false, eval b X.env) :: starEach [] X.env := by rfl) : DE X mm (.Call (.Attribute a "join" apos) [b] [] cpos) (fun δ => joinO (fa δ) (fb δ)) :=
  (pe_bm PySem.F.plainAttrs_str PySem.F.slot_str_join PySem.F.type_str_join mt_join ha (pa_cons hb pa_nil hs) hbase hfew hline hs).imp fun σ H Q ⟨B, Hk, δ, d, R, e, k⟩ => by
    unfold joinO at e
    dsimp only at e
    split at e
    · rename_i z ds q1 q2
      split at e
      · rename_i ys qs
        obtain rfl := strsD_some qs
        by_cases c : (ys.map (·.length)).sum + ys.length * z.length ≤ 16777216
        · rw [if_pos c] at e; cases e
          refine ⟨B, Hk, δ, _, R, q1, fun v H1 s1 r1 => ?_⟩
          simp only [Rep] at r1
          subst r1
          refine ⟨rfl, oneA (R.to s1) q2 fun w H2 s2 R2 r2 => ?_⟩
          simp only [Rep] at r2
          obtain ⟨l, xs, rfl, hq, rs⟩ := r2
          obtain rfl := rs.strs
          exact ⟨z, l, ys, rfl, rfl, hq.sq, c, k _ H2 (s1.trans s2) (by simp only [Rep])⟩
        · rw [if_neg c] at e; cases e
      · cases e
    · cases e
theorem lst_add_m (l : Addr) (items : Array Value) (n : Nat) (b : Addr) (items2 : Array Value) (n2 : Nat) (s1 s2 : Array (Option Value)) (hc0 : items.size + items2.size ≤ sizeLine) :
    Meets (Builtin.«list.__add__» ⟨[.ref l, .ref b], []⟩) (fun _ R s => s.heap.get? l = some ⟨.type "list", none, .seq items n, s1⟩ ∧ s.heap.get? b = some ⟨.type "list", none, .seq items2 n2, s2⟩ ∧ R (.ok (.ret (Value.ref s.heap.objs.size))) { s with heap := s.heap.push { cls := Value.type "list", data := Data.seq (items ++ items2) } }) :=
  .of_wp fun prog w A R s h => by
    obtain ⟨hp, g, d, tk, os⟩ := s
    obtain ⟨hl, hb, h⟩ := h
    have f1 := AutoSeq1.idx_int; have f2 := AutoSeq1.sub_tuple_tuple; have f3 := AutoSeq1.sub_list_list; have f4 := AutoSeq1.sub_tuple_list; have f5 := AutoSeq1.sub_list_tuple
    wp_walk using AutoSeq1.wpAny_loadPart' hl, AutoSeq1.wpAny_loadPart' hb
    exact ⟨_, rfl, h⟩
theorem add_lists {P : Program} {w : World} {A : Around} {E : Value → Shared → Prop} {s : Shared} {l b : Addr} {its its2 : Array Value} {Q : Value → Shared → Prop} (hl : PlainL s.heap l its) (hb : PlainL s.heap b its2)
    (h : Q (.ref s.heap.objs.size) { s with heap := s.heap.push { cls := .type "list", data := .seq (its ++ its2) } }) (hsz : its.size + its2.size ≤ sizeLine) : wpAny (model P w) A (binaryOp .Add (.ref l) (.ref b)) Q E s := by
  obtain ⟨⟨c1, d1, a1, s1⟩, n1, e1, rfl, rfl, rfl⟩ := hl
  obtain ⟨⟨c2, d2, a2, s2⟩, n2, e2, rfl, rfl, rfl⟩ := hb
  exact concat_meets ⟨_, e1, rfl⟩ ⟨_, e2, rfl⟩ noFill_list_add seq_list_add F.slot_list_add F.entry_list_add (F.args_list_add_2 _ _) (lst_add_m l its n1 b its2 n2 s1 s2 hsz) ⟨e1, e2, h⟩
theorem op_catS : OpR X (binaryOp .Add) (fun x y H Q => ∃ l b xs zs, x = .ref l ∧ y = .ref b ∧ SqL X.K H l xs ∧ SqL X.K H b zs ∧ xs.length + zs.length ≤ sizeLine ∧ ∀ p, H p = none → Q (.ref p) (upd H p (.lst (xs ++ zs)))) := by
  intro pins s σ H x y v u Q I rx ry h
  obtain ⟨l, b, xs, zs, rfl, rfl, hH, hB, hz, q⟩ := h
  cases rx
  cases ry
  obtain ⟨its, r, pl, _⟩ := I.list hH
  obtain ⟨its2, r2, pl2, _⟩ := I.list hB
  have hl := r.length
  have hl2 := r2.length
  refine add_lists pl pl2 ?_ (by rw [List.size_toArray, List.size_toArray]; omega)
  have ea : its.toArray ++ its2.toArray = (its ++ its2).toArray := by simp
  rw [ea]
  exact ⟨.ref _, _, I.lnew (t' := s.toks) (r.append r2) (by rw [List.length_append]; omega), rfl, q _ I.fresh⟩
def catO (x y : Option D) : Option D := match x, y with | some (.lst i), some (.lst j) => if i.length + j.length ≤ lim then some (.lst (i ++ j)) else none | _, _ => none
theorem df_cat (ha : DE X false a fa) (hb : DE X false b fb) : DF X (.BinOp a .Add b pos) (fun δ => catO (fa δ) (fb δ)) :=
  (pe_op op_catS ha hb).imp fun σ H Q ⟨B, Hk, δ, d, R, e, k⟩ => by
    unfold catO at e
    dsimp only at e
    split at e
    · rename_i i j q1 q2
      by_cases hz : i.length + j.length ≤ lim
      · rw [if_pos hz] at e; cases e
        refine two R q1 q2 fun v u H' s R' r1 r2 => ?_
        simp only [Rep] at r1 r2
        obtain ⟨c, xs, rfl, hq, rs⟩ := r1
        obtain ⟨c2, xs2, rfl, hq2, rs2⟩ := r2
        refine ⟨c, c2, xs, xs2, rfl, rfl, hq.sq, hq2.sq, by rw [← rs.length, ← rs2.length]; exact lim_line hz, fun p hp => ?_⟩
        have s2 := same_upd (o := .lst (xs ++ xs2)) hp
        exact k p _ (s.trans s2) (s.free hp) ⟨_, upd_same, (rs.append rs2).same (m := false) R' s2⟩
      · rw [if_neg hz] at e; cases e
    · cases e
end
end L2

end

section
set_option maxHeartbeats 1000000
namespace L2
open PySem PySem.Spec PyProof.Rows

def chkComp (osc : Scope) (scope : Scope) (N : List Str) (bs : List Bool) : Bool :=
  decide (scope.kind = .function) && scope.names.all (fun y => !decide (y.2 = .cell)) && scope.names.all (fun y => !decide (y.2 = .local) || decide (scope.names.lookup y.1 = some .local)) &&
  scope.names.all (fun y => !decide (y.2 = .free) || (decide (scope.names.lookup y.1 = some .free) && (decide (osc.names.lookup y.1 = some .cell) || decide (osc.names.lookup y.1 = some .free)))) &&
  decide (bs.length = N.length) && (N.zip bs).all (fun p => !p.2 || decide (scope.names.lookup p.1 = some .free))
theorem compScope_of {X : Cx} {osc scope : Scope} {N : List Str} {bs : List Bool} (h1 : X.env.scope = osc) (h2 : X.N = N) (h : chkComp osc scope N bs = true) : CompScope X scope bs := by
  unfold chkComp at h
  simp only [Bool.and_eq_true, decide_eq_true_eq] at h
  obtain ⟨⟨⟨⟨⟨a, b⟩, c⟩, d⟩, e⟩, f⟩ := h
  refine ⟨a, fun y hy z => ?_, fun y hy z => ?_, fun y hy z => ?_, by rw [h2]; exact e, fun i x hx hb => ?_⟩
  · have := List.all_eq_true.mp b y hy
    rw [decide_eq_true z] at this; cases this
  · have := List.all_eq_true.mp c y hy
    rw [decide_eq_true z] at this
    simpa using this
  · have := List.all_eq_true.mp d y hy
    rw [decide_eq_true z] at this
    simp only [Bool.not_true, Bool.false_or, Bool.and_eq_true, Bool.or_eq_true, decide_eq_true_eq] at this
    refine ⟨this.1, ?_⟩
    unfold Env.kindOf
    rw [h1]
    exact this.2
  · rw [h2] at hx
    have hz : (N.zip bs)[i]? = some (x, true) := by rw [List.getElem?_zip_eq_some]; exact ⟨hx, hb⟩
    have := List.all_eq_true.mp f _ (List.mem_of_getElem? hz)
    simpa using this
end L2

end

section
set_option maxHeartbeats 1000000
namespace L2
open PySem PySem.Spec PyProof.Rows

structure Nm (X : Cx) (i : Nat) (x : Str) : Prop where
  at' : X.N[i]? = some x
  vis : Vis X.env.scope x
  d1 : (x == ("__debug__" : Str)) = false
  d2 : (x == ("__classdict__" : Str)) = false
structure Lc (X : Cx) (i : Nat) (x : Str) : Prop where
  at' : X.N[i]? = some x
  loc : Loc X.env.scope x
  fnl : X.fn x = true ∨ X.env.scope.names.lookup x = some .local
structure Gb (X : Cx) (x : Str) : Prop where
  gl : Gl X x
  d1 : (x == ("__debug__" : Str)) = false
def kVis : Option NameKind → Bool
  | some .local => true | some .cell => true | some .free => true | _ => false
def kLoc : Option NameKind → Bool
  | some .local => true | some .cell => true | _ => false
def nmB (N : List Str) (sc : Scope) (i : Nat) (x : Str) : Bool := decide (N[i]? = some x) && kVis (sc.names.lookup x) && !(x == ("__debug__" : Str)) && !(x == ("__classdict__" : Str))
def lcB (N : List Str) (sc : Scope) (i : Nat) (x : Str) : Bool := decide (N[i]? = some x) && kLoc (sc.names.lookup x)
def lclB (N : List Str) (sc : Scope) (i : Nat) (x : Str) : Bool := decide (N[i]? = some x) && decide (sc.names.lookup x = some .local)
def gbB (sc : Scope) (x : Str) : Bool := decide (sc.names.lookup x = some .globalImplicit) && !(x == ("__debug__" : Str))
theorem kVis_vis {sc : Scope} {x : Str} (h : kVis (sc.names.lookup x) = true) : Vis sc x := by
  unfold kVis at h
  split at h
  · rename_i e; exact .inl e
  · rename_i e; exact .inr (.inl e)
  · rename_i e; exact .inr (.inr e)
  · cases h
theorem kLoc_loc {sc : Scope} {x : Str} (h : kLoc (sc.names.lookup x) = true) : Loc sc x := by
  unfold kLoc at h
  split at h
  · rename_i e; exact .inl e
  · rename_i e; exact .inr e
  · cases h

structure Has (X : Cx) (N : List Str) (sc : Scope) : Prop where
  n : X.N = N
  sc : X.env.scope = sc
  calm : X.calm = true
  nd : X.N.Nodup
theorem Has.nm {X : Cx} {N : List Str} {sc : Scope} {i : Nat} {x : Str} (h : Has X N sc) (b : nmB N sc i x = true) : Nm X i x := by
  unfold nmB at b
  simp only [Bool.and_eq_true, decide_eq_true_eq, Bool.not_eq_true'] at b
  exact ⟨by rw [h.n]; exact b.1.1.1, by rw [h.sc]; exact kVis_vis b.1.1.2, b.1.2, b.2⟩
theorem Has.lc {X : Cx} {N : List Str} {sc : Scope} {i : Nat} {x : Str} (h : Has X N sc) (hf : ∀ x, X.fn x = true) (b : lcB N sc i x = true) : Lc X i x := by
  unfold lcB at b
  simp only [Bool.and_eq_true, decide_eq_true_eq] at b
  exact ⟨by rw [h.n]; exact b.1, by rw [h.sc]; exact kLoc_loc b.2, .inl (hf x)⟩
theorem Has.lcl {X : Cx} {N : List Str} {sc : Scope} {i : Nat} {x : Str} (h : Has X N sc) (b : lclB N sc i x = true) : Lc X i x := by
  unfold lclB at b
  simp only [Bool.and_eq_true, decide_eq_true_eq] at b
  exact ⟨by rw [h.n]; exact b.1, by rw [h.sc]; exact .inl b.2, .inr (by rw [h.sc]; exact b.2)⟩
theorem Has.gb {X : Cx} {N : List Str} {sc : Scope} {x : Str} (h : Has X N sc) (b : gbB sc x = true) : Gb X x := by
  unfold gbB at b
  simp only [Bool.and_eq_true, decide_eq_true_eq, Bool.not_eq_true'] at b
  refine ⟨?_, b.2⟩
  unfold Gl Env.kindOf
  rw [h.sc]; exact b.1
def relS (scope sc : Scope) : Scope :=
  { scope with names := scope.names.map fun (n, k) => if (k == .free && sc.kind == .function && sc.names.lookup n == some .cell) then (n, .cell) else (n, k) }
theorem relS_of {scope sc : Scope} {env : Env} (h : env.scope = sc) : relabel scope env = relS scope sc := by subst h; rfl
theorem Has.comp {X : Cx} {N : List Str} {sc : Scope} (h : Has X N sc) (scope : Scope) (cl : List (Str × Addr)) (C : Addr) (s₂ : Shared) (H₂ : Hp) (ex : List Addr) (pn : List (Addr × Obj)) : Has (cxComp X scope cl C s₂ H₂ ex pn) N (relS scope sc) :=
  ⟨h.n, relS_of h.sc, h.calm, h.nd⟩
theorem CompScope.of' {X : Cx} {N : List Str} {sc scope : Scope} {bs : List Bool} (h : Has X N sc) (b : chkComp sc scope N bs = true) : CompScope X scope bs := compScope_of h.sc h.n b
section
variable {X : Cx} {m m' mm : Bool} {a b e : Expr} {es : List Expr} {fa fb : DEnv → Option D} {fs : DEnv → Option (List D)} {pos p : Pos} {k : Nat} {x : Str} {f : List D → Option (D × Bool)} {i : Nat}
theorem nv (m : Bool) (n : Nm X i x) : DE X m (.Name x pos) (rd m i) := de_var n.at' n.vis n.d1 n.d2
theorem ds_set' {pos' : Pos} (n : X.N.Nodup) (l : Lc X i x) (ha : DE X false a fa) (hs : swapsWith a (some (.Name x pos')) pos.line X.env = pure false := by rfl) : DS X (.Assign [.Name x pos'] a pos) (fun δ => setO i (fa δ) δ) := ds_set (i := i) (x := x) (pos := pos) (pos' := pos') n ha l.at' l.loc hs l.fnl
theorem ds_setF' {pos' : Pos} (n : X.N.Nodup) (l : Lc X i x) (ha : DF X a fa) (hs : swapsWith a (some (.Name x pos')) pos.line X.env = pure false := by rfl) : DS X (.Assign [.Name x pos'] a pos) (fun δ => setF i (fa δ) δ) := ds_setF (i := i) (x := x) (pos := pos) (pos' := pos') n ha l.at' l.loc hs l.fnl
theorem dg_name' (n : X.N.Nodup) (l : Lc X i x) : DG X (.Name x pos) (toName i) := dg_name n l.at' l.loc l.fnl
theorem de_call' (F : FnM X.prog X.w X.K X.mg X.base k x f) (hr : Room k X.A) (g : Gb X x) (ha : DA X m (e :: es) fs) (he : starEach (e :: es) X.env = (false, eval e X.env) :: starEach es X.env := by rfl)
    (hpl : (backTo pos (starEach es X.env)).any (·.1) = false := by rfl) : DE X m (.Call (.Name x p) (e :: es) [] pos) (fun δ => shO (bindO (fs δ) f)) := de_call F hr g.gl ha g.d1 he hpl
theorem de_len' {p : Pos} (g : Gb X "len") (hm : X.mg "len" = none) (ha : DE X m a fa) (hs : starEach [a] X.env = [(false, eval a X.env)] := by rfl) : DE X mm (.Call (.Name "len" p) [a] [] pos) (fun δ => lenL (fa δ)) := de_len g.gl hm ha hs g.d1
variable {apos cpos px : Pos}
theorem ds_append' (n : Nm X i x) (ha : DE X false a fa)
    (hbase : attributeBase (.Name x px) "append" X.env (eval (.Name x px) X.env) = eval (.Name x px) X.env := by rfl)
    (hfew : ((backTo cpos (starEach [a] X.env)).all (fun x => !x.1) && (backToKw cpos (keywordEach [] X.env)).all (fun x => x.1.isSome) && decide (([a]).length + ([] : List Keyword).length + (if ([] : List Keyword).isEmpty then 0 else 1) < 30)) = true := by rfl)
    (hline : (apos.endLine == cpos.line) = true := by rfl) (hs : starEach [a] X.env = (false, eval a X.env) :: starEach [] X.env := by rfl)
    (hsw : swapsWith (.Call (.Attribute (.Name x px) "append" apos) [a] [] cpos) none pos.line X.env = pure false := by rfl) : DS X (.Expr (.Call (.Attribute (.Name x px) "append" apos) [a] [] cpos) pos) (fun δ => appO i (fa δ) δ) :=
  ds_append ha n.at' n.vis hbase hfew hline hs n.d1 n.d2 hsw
def swB (sc scope : Scope) (t : Str) (l1 l2 : Nat) : Bool :=
  ((if sc.kind.isAnnotationScope then ScopeKind.function else sc.kind) == .function) && sc.names.lookup t == some .local && l1 == l2 && !(scope.names.any fun (n, k) => n == t && (k == .local || k == .cell))
theorem swaps_comp {N : List Str} {sc scope : Scope} {c : Bool} {elt : Expr} {gens : List Comprehension} {pos' : Pos} {l : Nat} (h : Has X N sc) (q : swB sc scope x pos'.line pos.line = c) :
    swapsWith (.ListComp elt gens scope pos) (some (.Name x pos')) l X.env = pure c := by
  subst q
  unfold swB
  rw [← h.sc]
  rfl
variable {elt tg iter : Expr} {ifs : List Expr} {scope : Scope} {bo : Bool} {fi : DEnv → Option (List D)} {τ : D → DEnv → Option DEnv} {ft : DEnv → Option Bool} {fe : DEnv → Option D} {bs : List Bool}
theorem lc_lookup {y : Str} {N : List Str} {sc : Scope} (h : Has X N sc) (b : decide (sc.names.lookup y = some .local) = true) : X.env.scope.names.lookup y = some .local := by rw [h.sc]; exact of_decide_eq_true b
theorem ds_setc' {y : Str} {py spos : Pos} {N : List Str} {sc : Scope} (h : Has X N sc) (l : Lc X i y) (hτ : Anew τ) (hi : DI X false tg iter fi) (S : CompScope X scope bs)
    (hg : ∀ cl C s₂ H₂ ex pn, DG (cxComp X scope cl C s₂ H₂ ex pn) tg τ) (ht : ∀ cl C s₂ H₂ ex pn, DTs (cxComp X scope cl C s₂ H₂ ex pn) ifs ft) (he : ∀ cl C s₂ H₂ ex pn, DE (cxComp X scope cl C s₂ H₂ ex pn) false elt fe)
    (b1 : decide (sc.names.lookup y = some .local) = true) (b2 : swB sc scope y py.line pos.line = true)
    (hs : ∀ x, foldedSetIterable iter X.env x = pure x := by intro _; rfl) : DS X (.Assign [.Name y py] (.ListComp elt [⟨tg, iter, ifs, 0⟩] scope pos) spos) (fun δ => setF i (lstLim (bindO (fi δ) (runC false bs τ ft fe δ))) δ) :=
  ds_setc h.nd h.calm hτ hi S hg ht he l.at' (lc_lookup h b1) (swaps_comp h b2) hs
end
theorem hasX {P : Program} {w : World} {K : PySem.W.Frag} {mg : Str → Option Value} {base : Heap} {f : Addr} {cdv : Value} {A : Around} {outer : List Env} {s : Shared} {H : Hp} {E : XK} {N : List Str} {q : Str} {sc : Scope} (nd : N.Nodup) :
    Has (cxOf CX0 P w K mg base N q sc f cdv A outer s H E).nox N sc := ⟨rfl, rfl, rfl, nd⟩

theorem spM_law {K : PySem.W.Frag} {H : Hp} {a : Addr} {ns : List Int} {f : List D → Option (D × Bool)} (hS : SqL K H a (ns.map V.int)) (h : f [.lst (ns.map D.int)] = some (.bl true, false)) :
    spM K f [.ref a] H (fun v _ => v = .bl true) fun _ _ _ => False := by
  have hr : Reps K (fun b => ∃ o, H b = some o) H (ns.map D.int) (ns.map V.int) := by
    clear hS h
    induction ns with
    | nil => exact Reps.nil
    | cons n ns ih => exact Reps.cons (by simp only [Rep]) ih
  refine ⟨fun b => ∃ o, H b = some o, [.lst (ns.map D.int)], .bl true, false, fun _ h => h, Reps.cons ?_ Reps.nil, h, fun v H' _ r => ?_⟩
  · simp only [Rep]
    refine ⟨a, _, rfl, ?_, hr⟩
    rcases hS with (h1 | ⟨o, h1⟩) | h1
    · exact .inl ⟨⟨_, h1⟩, h1⟩
    · exact .inr (.inl ⟨o, h1⟩)
    · exact .inr (.inr h1)
  · unfold RepR at r
    rw [if_neg Bool.false_ne_true] at r
    simpa only [Rep] using r
end L2

end

section
set_option maxHeartbeats 1000000
namespace L2
open PySem

end L2

end

section
set_option maxHeartbeats 1000000
namespace L2
open PySem

def advN (t : SetTable) : Nat → SetTable.Probe → SetTable.Probe
  | 0, p => p
  | n + 1, p => advN t n (t.advance p)
end L2

end

section
set_option maxHeartbeats 1000000
namespace L2
open PySem

abbrev way (t : SetTable) (h : Int) (n : Nat) : Nat := (advN t n (t.probeStart h)).j

end L2

end

section
set_option maxHeartbeats 1000000
namespace L2
open PySem

end L2

end

section
set_option maxHeartbeats 1000000
namespace L2
open PySem

end L2

end

section
set_option maxHeartbeats 1000000
namespace L2
open PySem PySem.Spec PyProof.Rows

section
variable {X : Cx} {pins : List (Addr × Obj)} {σ : St} {H : Hp} {s : Shared} {B : Addr → Prop}
end
end L2

end

section
set_option maxHeartbeats 1000000
namespace L2
open PySem PySem.Spec PyProof.Rows

section
variable {X : Cx} {pins : List (Addr × Obj)} {σ : St} {H : Hp} {s : Shared} {B : Addr → Prop}

end
end L2

end

section
set_option maxHeartbeats 1000000
namespace L2
open PySem PySem.Spec PyProof.Rows

section
variable {prog : Program} {w : World} {A : Around} {E : Value → Shared → Prop} {s : Shared} {a : Addr} {o : Obj} {es : List (Int × Value)} {ep : Nat} {t : SetTable} {x : Value} {hx : Int}
end
end L2

end

section
set_option maxHeartbeats 1000000
namespace L2
open PySem PySem.Spec PyProof.Rows

section
variable {prog : Program} {w : World} {A : Around} {E : Value → Shared → Prop} {s : Shared} {a : Addr}
end
end L2

end

section
set_option maxHeartbeats 1000000
namespace L2
open PySem PySem.Spec PyProof.Rows

section
variable {prog : Program} {w : World} {A : Around} {E : Value → Shared → Prop} {s : Shared} {a : Addr}

end
end L2

end

section
set_option maxHeartbeats 1000000
namespace L2
open PySem PySem.Spec PyProof.Rows

section
variable {X : Cx} {pins : List (Addr × Obj)} {σ : St} {H : Hp} {s : Shared} {B : Addr → Prop} {A : Around} {E : Value → Shared → Prop} {a : Addr} {sc led : Bool}
end
end L2

end

section
set_option maxHeartbeats 3200000
namespace L2
open PySem PySem.Spec PyProof.Rows

section
variable {X : Cx} {pins : List (Addr × Obj)} {σ : St} {H : Hp} {s : Shared} {B : Addr → Prop} {A : Around} {sc led : Bool} {R : Result → Shared → Prop} {It : Addr} {fp wr : List Addr} {G : Array GenState → Array GenState → Prop} {n : Nat} {P : Nat → Value → Prop} {St : Nat → Shared → Prop}
end
end L2

end

section
set_option maxHeartbeats 3200000
namespace L2
open PySem PySem.Spec PyProof.Rows

section
variable {prog : Program} {w : World} {A : Around} {E : Value → Shared → Prop} {s : Shared}
end
section
variable {X : Cx} {pins : List (Addr × Obj)} {σ : St} {H : Hp} {s : Shared} {B : Addr → Prop} {A : Around} {E : Value → Shared → Prop} {sc : Bool}
end
end L2

end

section
set_option maxHeartbeats 3200000
namespace L2
open PySem PySem.Spec PyProof.Rows

end L2

end

section
set_option maxHeartbeats 3200000
namespace L2
open PySem PySem.Spec PyProof.Rows

section
variable {prog : Program} {w : World} {A : Around} {E : Value → Shared → Prop} {s : Shared} {I S : Addr} {es : List (Int × Value)} {ep : Nat} {t : SetTable} {i : Nat}

end
end L2

end

section
set_option maxHeartbeats 3200000
namespace L2
open PySem PySem.Spec PyProof.Rows

section
variable {prog : Program} {w : World} {A : Around} {E : Value → Shared → Prop} {s : Shared} {S : Addr} {es : List (Int × Value)} {ep : Nat} {t : SetTable} {i sl : Nat}
end

section
variable {prog : Program} {w : World} {A : Around} {E : Value → Shared → Prop} {s : Shared} {I S : Addr} {es : List (Int × Value)} {ep : Nat} {t : SetTable}
end
end L2

end

section
set_option maxHeartbeats 3200000
namespace L2
open PySem PySem.Spec PyProof.Rows

section
variable {prog : Program} {w : World} {A : Around} {E : Value → Shared → Prop} {s : Shared} {S : Addr} {es : List (Int × Value)} {ep : Nat} {t : SetTable}

end
end L2

end

section
set_option maxHeartbeats 1000000
namespace L2
open PySem PySem.Spec PyProof.Rows

section
variable {X : Cx} {sc : Bool}
variable {a : Expr} {fa : DEnv → Option D} {pos pos2 p p2 : Pos}
end
end L2

end

section
set_option maxHeartbeats 1000000
namespace L2
open PySem

@[simp] theorem lim_eq : lim = 1000000 := by decide
@[simp] theorem bindO_s {α β : Type} (a : α) (f : α → Option β) : bindO (some a) f = f a := (rfl)
@[simp] theorem shO_s (d : D) (b : Bool) : shO (some (d, b)) = some d := (rfl)
@[simp] theorem consO_s (a : D) (l : List D) : consO (some a) (some l) = some (a :: l) := (rfl)
@[simp] theorem seqO_n (δ : DEnv) (k : DEnv → Option Out) : seqO (some (.next δ)) k = k δ := (rfl)
@[simp] theorem seqO_r (d : D) (b : Bool) (k : DEnv → Option Out) : seqO (some (.ret d b)) k = some (.ret d b) := (rfl)
@[simp] theorem ifO_t (x y : Option Out) : ifO (some true) x y = x := (rfl)
@[simp] theorem ifO_f (x y : Option Out) : ifO (some false) x y = y := (rfl)
@[simp] theorem retO_s (d : D) : retO (some d) = some (.ret d false) := (rfl)
@[simp] theorem outF_r (d : D) (b : Bool) : outF (some (.ret d b)) = some (d, b) := (rfl)
@[simp] theorem nextO_s (δ : DEnv) : nextO δ = some (.next δ) := (rfl)
@[simp] theorem setO_s (i : Nat) (d : D) (δ : DEnv) (h : i < δ.length) : setO i (some d) δ = some (.next (δ.set i (some (d, false)))) := by unfold setO; simp only [if_pos h]
@[simp] theorem toName_s (i : Nat) (d : D) (δ : DEnv) (h : i < δ.length) : toName i d δ = some (δ.set i (some (d, false))) := by unfold toName; simp only [if_pos h]
@[simp] theorem addI_s (i j : Int) : addI (some (.int i)) (some (.int j)) = some (.int (i + j)) := (rfl)
@[simp] theorem mulI_s (i j : Int) (h : (-(2 ^ 64) < i ∧ i < 2 ^ 64) ∨ (-(2 ^ 64) < j ∧ j < 2 ^ 64)) : mulI (some (.int i)) (some (.int j)) = some (.int (i * j)) := bI_eq (by unfold cMul; exact decide_eq_true h)
@[simp] theorem modI_s (i j : Int) (h : 0 < j) : modI (some (.int i)) (some (.int j)) = some (.int (i % j)) := bI_eq (by unfold cMod; exact decide_eq_true h)
@[simp] theorem divI_s (i j : Int) (h : 0 < j ∧ j < 1073741824) : divI (some (.int i)) (some (.int j)) = some (.int (i / j)) := bI_eq (by unfold cDiv; exact decide_eq_true h)
@[simp] theorem tupO_s (ds : List D) (h : ds.length ≤ lim) : tupO (some ds) = some (.tup ds) := by unfold tupO; simp only [if_pos h]
@[simp] theorem lstO_s (ds : List D) (h : ds.length ≤ lim) : lstO (some ds) = some (.lst ds) := by unfold lstO; simp only [if_pos h]
@[simp] theorem lstLim_s (ds : List D) : lstLim (some ds) = some (.lst ds) := (rfl)
@[simp] theorem lstL_s (ds : List D) : lstL (some (.lst ds)) = some ds := (rfl)
@[simp] theorem tupL_s (ds : List D) : tupL (some (.tup ds)) = some ds := (rfl)
@[simp] theorem tupleO_l (ds : List D) : tupleO (some (.lst ds)) = some (.tup ds) := (rfl)
@[simp] theorem lenL_l (ds : List D) : lenL (some (.lst ds)) = some (.int ds.length) := (rfl)
@[simp] theorem ixO_l (ds : List D) (i : Int) : ixO (some (.lst ds)) (some (.int i)) = atI ds i := (rfl)
@[simp] theorem ixO_t (ds : List D) (i : Int) : ixO (some (.tup ds)) (some (.int i)) = atI ds i := (rfl)
@[simp] theorem partI_s (i : Int) : partI (some (.int i)) = some (some i) := (rfl)
@[simp] theorem cutLO_s (ds : List D) (l u : Option Int) : cutLO (some (.lst ds)) (some l) (some u) = some (.lst (cutD ds l u)) := (rfl)
@[simp] theorem cutSO_s (z : Str) (l u : Option Int) (h : z.length ≤ lim) : cutSO (some (.str z)) (some l) (some u) = some (.str (cutS z l u)) := by unfold cutSO; simp only [if_pos h]
@[simp] theorem addS_s (x y : Str) (h : x.length + y.length ≤ lim) : addS (some (.str x)) (some (.str y)) = some (.str (x ++ y)) := by unfold addS; simp only [if_pos h]
@[simp] theorem catO_s (x y : List D) (h : x.length + y.length ≤ lim) : catO (some (.lst x)) (some (.lst y)) = some (.lst (x ++ y)) := by unfold catO; simp only [if_pos h]
@[simp] theorem notO_s (b : Bool) : notO (some b) = some (!b) := (rfl)
@[simp] theorem tyB_s (b : Bool) : tyB (some (.bl b)) = some b := (rfl)
@[simp] theorem ofB_s (b : Bool) : ofB (some b) = some (.bl b) := (rfl)
@[simp] theorem orO_t (y : Option Bool) : orO (some true) y = some true := (rfl)
@[simp] theorem orO_f (y : Option Bool) : orO (some false) y = y := (rfl)
@[simp] theorem andO_t (y : Option Bool) : andO (some true) y = y := (rfl)
@[simp] theorem andO_f (y : Option Bool) : andO (some false) y = some false := (rfl)
@[simp] theorem cI_s (g : Int → Int → Bool) (i j : Int) : cI g (some (.int i)) (some (.int j)) = some (g i j) := (rfl)
theorem eqO_s (x y : D) (h : ok2 x y = true) : eqO (some x) (some y) = some (decide (x = y)) := by unfold eqO; simp only [if_pos h]
@[simp] theorem eqO_int (i j : Int) : eqO (some (.int i)) (some (.int j)) = some (decide (i = j)) := by
  rw [eqO_s _ _ (by rfl)]; simp only [D.int.injEq]
theorem neO_s (x y : D) (h : ok2 x y = true) : neO (some x) (some y) = some (!decide (x = y)) := by unfold neO; rw [eqO_s _ _ h]; rfl
theorem rng1_s (j : Int) (h : -(2 ^ 62) ≤ j ∧ j < 2 ^ 62) : rng1 (some (.int j)) = some (rngL 0 j.toNat) := by unfold rng1; simp only [decide_eq_true h, if_true]
theorem appO_s {δ : DEnv} {i : Nat} {ds : List D} (d : D) (h : δ[i]? = some (some (.lst ds, true))) (hl : ds.length < lim) : appO i (some d) δ = some (.next (δ.set i (some (.lst (ds ++ [d]), true)))) := by
  unfold appO rdOwn; simp only [h, if_pos hl]
@[simp] theorem rd_0 (m : Bool) (d : D) (δ : DEnv) : rd m 0 (some (d, false) :: δ) = some d := (rfl)
@[simp] theorem rd_1 (m : Bool) (i : Nat) (x : Option (D × Bool)) (δ : DEnv) : rd m (i + 1) (x :: δ) = rd m i δ := (rfl)
@[simp] theorem frzE_0 (d : D) (b : Bool) (δ : DEnv) : frzE 0 (some (d, b) :: δ) = some (d, false) :: δ := by cases b <;> rfl
@[simp] theorem frzE_1 (i : Nat) (x : Option (D × Bool)) (δ : DEnv) : frzE (i + 1) (x :: δ) = x :: frzE i δ := by
  unfold frzE
  rw [List.getElem?_cons_succ]
  split <;> simp_all
theorem runF_s {n np : Nat} {g : DEnv → Option Out} {ds : List D} (h : ds.length = np) : runF n np g ds = outF (g (startD n ds)) := by unfold runF; rw [if_pos h]

theorem runF_eq {f : List D → Option (D × Bool)} {n np : Nat} {g : DEnv → Option Out} {ds : List D} {δ : DEnv} (hf : f = runF n np g) (hl : ds.length = np) (hs : startD n ds = δ) : f ds = outF (g δ) := by subst hf hs; exact runF_s hl

theorem atI_in {α : Type} {xs : List α} {i : Int} (h0 : 0 ≤ i) (h1 : i < xs.length) : ∃ v, v ∈ xs ∧ xs[i.toNat]? = some v ∧ atI xs i = some v := by
  have hi : i.toNat < xs.length := by omega
  refine ⟨xs[i.toNat], List.getElem_mem hi, by simp [hi], ?_⟩
  have := atI_nat (xs := xs) (j := i.toNat) (v := xs[i.toNat]) (by simp [hi])
  rwa [Int.toNat_of_nonneg h0] at this
theorem atI_eq {α : Type} {xs : List α} {i : Int} {v : α} (h0 : 0 ≤ i) (h : xs[i.toNat]? = some v) : atI xs i = some v := by
  have := atI_nat h
  rwa [Int.toNat_of_nonneg h0] at this

theorem compO_map {h : D → Option (Option D)} {g : D → D} : ∀ {ds : List D}, (∀ d ∈ ds, h d = some (some (g d))) → compO h ds = some (ds.map g)
  | [], _ => rfl
  | d :: ds, e => by
    unfold compO
    rw [e d (List.mem_cons_self ..), compO_map fun x hx => e x (List.mem_cons_of_mem _ hx)]
    rfl

theorem compO_ex {h : D → Option (Option D)} {P : D → D → Prop} : ∀ {ds : List D}, (∀ d ∈ ds, ∃ y, h d = some (some y) ∧ P d y) → ∃ g : List D, compO h ds = some g ∧ g.length = ds.length ∧ ∀ (i : Nat) d, ds[i]? = some d → ∃ y, g[i]? = some y ∧ P d y
  | [], _ => ⟨[], rfl, rfl, fun i d h => by simp at h⟩
  | d :: ds, e => by
    obtain ⟨y, e1, p⟩ := e d (List.mem_cons_self ..)
    obtain ⟨g, e2, hl, hp⟩ := compO_ex fun x hx => e x (List.mem_cons_of_mem _ hx)
    refine ⟨y :: g, ?_, by simp [hl], fun i z hz => ?_⟩
    · unfold compO; rw [e1, e2]
    · cases i with
      | zero => simp at hz; subst hz; exact ⟨y, rfl, p⟩
      | succ i => simpa using hp i z (by simpa using hz)
theorem runC_s {bo : Bool} {bs : List Bool} {τ : D → DEnv → Option DEnv} {ft : DEnv → Option Bool} {fe : DEnv → Option D} {δ : DEnv} {ds : List D} (h : ds.length ≤ lim) : runC bo bs τ ft fe δ ds = compO (itemO τ ft fe (maskD bo bs δ)) ds := by unfold runC; rw [if_pos h]
theorem loopD_inv {body : D → DEnv → Option Out} (I : List D → DEnv → Prop) : ∀ (post pre : List D) (δ : DEnv), I pre δ → (∀ p d q δ, p ++ d :: q = pre ++ post → I p δ → ∃ δ', (body d δ = some (.next δ') ∨ body d δ = some (.cont δ')) ∧ I (p ++ [d]) δ') →
    ∃ δ', loopD body post δ = some (.next δ') ∧ I (pre ++ post) δ'
  | [], pre, δ, h, _ => ⟨δ, rfl, by simpa using h⟩
  | d :: post, pre, δ, h, st => by
    obtain ⟨δ1, e1, i1⟩ := st pre d post δ rfl h
    obtain ⟨δ', e', i'⟩ := loopD_inv I post (pre ++ [d]) δ1 i1 fun p d' q δ e i => st p d' q δ (by simpa using e) i
    refine ⟨δ', ?_, by simpa using i'⟩
    unfold loopD
    rcases e1 with e1 | e1 <;> rw [e1] <;> exact e'
theorem loopD_all {body : D → DEnv → Option Out} (I : DEnv → Prop) {ds : List D} {δ : DEnv} (h : I δ) (st : ∀ d ∈ ds, ∀ δ, I δ → ∃ δ', (body d δ = some (.next δ') ∨ body d δ = some (.cont δ')) ∧ I δ') : ∃ δ', loopD body ds δ = some (.next δ') ∧ I δ' := by
  have := loopD_inv (body := body) (fun _ δ => I δ) ds [] δ h fun p d q δ e i => st d (by rw [List.nil_append] at e; rw [← e]; simp) δ i
  simpa using this
theorem rngL_mem {lo : Int} {n : Nat} {d : D} (h : d ∈ rngL lo n) : ∃ i : Nat, i < n ∧ d = .int (lo + i) := by
  unfold rngL at h
  obtain ⟨i, hi, e⟩ := List.mem_map.mp h
  exact ⟨i, List.mem_range.mp hi, e.symm⟩
theorem rngL_len (lo : Int) (n : Nat) : (rngL lo n).length = n := by unfold rngL; simp
theorem join0_len : ∀ (ts : List Str), (Txt.join "" ts).length = (ts.map (·.length)).sum := by
  intro ts
  show (Builtin.Str.glued "" ts).length = _
  rw [StrLaws.glued_eq_join]
  induction ts with
  | nil => rfl
  | cons x r ih =>
    cases r with
    | nil => show x.length = _; simp
    | cons y r =>
      show (x ++ ("" : Str) ++ Str.join "" (y :: r)).length = _
      rw [Str.length_append, Str.length_append, ih]
      have : Str.length "" = 0 := by decide +kernel
      simp only [List.map_cons, List.sum_cons]
      omega

theorem strs_of {P : D → D → Prop} {ds g : List D} {Q : Str → Prop} (hl : g.length = ds.length) (h : ∀ (i : Nat) d, ds[i]? = some d → ∃ y, g[i]? = some y ∧ P d y) (hP : ∀ d y, P d y → ∃ x, y = .str x ∧ Q x) : ∃ ss : List Str, g = ss.map D.str ∧ ∀ x ∈ ss, Q x := by
  have hy : ∀ y ∈ g, ∃ x, y = .str x ∧ Q x := fun y hy => by
    obtain ⟨i, hi, e⟩ := List.mem_iff_getElem.mp hy
    obtain ⟨z, ez, p⟩ := h i (ds[i]'(by omega)) (by simp [show i < ds.length by omega])
    rw [List.getElem?_eq_getElem hi] at ez
    cases ez
    rw [← e]
    exact hP _ _ p
  clear h hl
  induction g with
  | nil => exact ⟨[], rfl, by simp⟩
  | cons y g ih =>
    obtain ⟨x, e, q⟩ := hy y (List.mem_cons_self ..)
    obtain ⟨ss, e2, q2⟩ := ih fun z hz => hy z (List.mem_cons_of_mem _ hz)
    refine ⟨x :: ss, by rw [e, e2]; rfl, fun z hz => ?_⟩
    rcases List.mem_cons.mp hz with hz | hz
    · rw [hz]; exact q
    · exact q2 z hz
theorem joinO_s (z : Str) (ys : List Str) (h : (ys.map (·.length)).sum + ys.length * z.length ≤ 16777216) : joinO (some (.str z)) (some (.lst (ys.map D.str))) = some (.str (Txt.join z ys)) := by
  unfold joinO; simp only [strsD_map, if_pos h]
theorem ones_sum {ss : List Str} (h : ∀ x ∈ ss, x.length = 1) : (ss.map (·.length)).sum = ss.length := by
  induction ss with
  | nil => rfl
  | cons x r ih =>
    have h1 := h x (List.mem_cons_self ..)
    have h2 := ih fun y hy => h y (List.mem_cons_of_mem _ hy)
    simp only [List.map_cons, List.sum_cons, List.length_cons, h1, h2]; omega
theorem ixSO_in (z : Str) (i : Int) (hz : z.length ≤ lim) (h0 : 0 ≤ i) (h1 : i < z.length) : ∃ x : Str, x.length = 1 ∧ ixSO (some (.str z)) (some (.int i)) = some (.str x) := by
  obtain ⟨c, _, _, e⟩ := atI_in (xs := z.cps.toList) (i := i) h0 (by simpa [Str.length] using h1)
  refine ⟨⟨#[c]⟩, rfl, ?_⟩
  unfold ixSO; simp only [if_pos hz, e]
end L2

end

section
set_option maxHeartbeats 1000000
namespace L2
open PySem PySem.Spec PyProof.Rows

end L2

end

section
set_option maxHeartbeats 1000000
namespace L2
open PySem PySem.Spec PyProof.Rows

section
variable {X : Cx} {m m' mm : Bool} {a b : Expr} {fa fb : DEnv → Option D} {pos p : Pos}
end
end L2

end

section
set_option maxHeartbeats 1000000
namespace L2
open PySem

section
variable {prog : Program} {w : World} {A : Around} {E : Value → Shared → Prop} {s : Shared}
end
end L2

end

section
set_option maxHeartbeats 1000000
namespace L2
open PySem

section
variable {prog : Program} {w : World} {A : Around} {E : Value → Shared → Prop} {s : Shared}
end
end L2

end

section
set_option maxHeartbeats 1000000
namespace L2
open PySem

section
variable {X : Cx} {pins : List (Addr × Obj)} {σ : St} {H : Hp} {s : Shared} {h' : Heap}

end
section
variable {prog : Program} {w : World} {A : Around} {E : Value → Shared → Prop} {s : Shared}
end
section
variable {X : Cx} {pins : List (Addr × Obj)} {σ : St} {H : Hp} {s : Shared}
end

end L2

end

section
set_option maxHeartbeats 1000000
namespace L2
open PySem PySem.Spec PyProof.Rows

section
variable {X : Cx} {elts : List Expr} {x1 : Nat} {tp : Pos}
end
end L2

end

section
set_option maxHeartbeats 1000000
namespace L2
open PySem PySem.Spec PyProof.Rows

section
variable {X : Cx} {a b e : Expr} {fa fb : DEnv → Option D} {m m' mm : Bool} {pos p2 q1 q2 : Pos} {te : TE}
end

section
variable {X : Cx} {a b e : Expr} {fa fb : DEnv → Option D} {m m' mm : Bool} {pos p2 q1 q2 : Pos} {te : TE}
end
end L2

end

section
set_option maxHeartbeats 1000000
namespace L2
open PySem PySem.Spec PyProof.Rows

section
variable {X : Cx} {c a b : Expr} {body : List Stmt} {ft : DEnv → Option Bool} {gb : DEnv → Option Out} {pos : Pos} {fa fb : DEnv → Option D} {m m' mm : Bool}
def isNO (x : Option D) : Option Bool := match x with | some d => some (decide (d = .non)) | none => none
theorem Rep.non {K : PySem.W.Frag} {B : Addr → Prop} {H : Hp} {d : D} {v : V} (r : Rep K B H d v) : (v = .non) = (d = .non) := by
  cases d
  case sp k x =>
    cases k <;> simp only [Rep] at r
    · obtain ⟨p, rfl, _⟩ := r; simp
    · obtain ⟨p, o, c, u, rfl, _⟩ := r; simp
  all_goals simp only [Rep] at r
  case non => simp [r]
  all_goals first
    | (subst r; simp)
    | (obtain ⟨p, xs, rfl, _⟩ := r; simp)
theorem isN_dec {K : PySem.W.Frag} {B : Addr → Prop} {H : Hp} {d : D} {v : V} (r : Rep K B H d v) : decide (v = .non) = decide (d = .non) := by
  by_cases h : d = .non
  · rw [decide_eq_true h, decide_eq_true (by rw [r.non]; exact h)]
  · rw [decide_eq_false h, decide_eq_false (by rw [r.non]; exact h)]
theorem isNO_some {x : Option D} {c : Bool} (h : isNO x = some c) : ∃ d, x = some d ∧ c = decide (d = .non) := by
  unfold isNO at h
  split at h
  · cases h; exact ⟨_, rfl, rfl⟩
  · cases h
theorem dt_notN {tk : Nat} {p : Pos} (ha : DE X m a fa) (hm : behindInMarks .IsNot (.Constant .none tk p) = false := by rfl) : DT X (.Compare a [.IsNot] [.Constant .none tk p] pos) (fun δ => notO (isNO (fa δ))) :=
  (pt_cmpR op_notN ha (de_non (m := false)) hm).imp fun σ H Q ⟨B, Hk, δ, d, R, e, k⟩ => by
    cases h : isNO (fa δ) with
    | none => simp only [h, notO] at e; cases e
    | some c =>
      simp only [h, notO] at e; cases e
      obtain ⟨z, q, rfl⟩ := isNO_some h
      refine two (fb := fun _ => some .non) R q rfl fun v u H' s R' r1 r2 => ?_
      simp only [Rep] at r2
      exact ⟨r2, _, rfl, by rw [isN_dec r1]; exact k H' s⟩
theorem de_isN {tk : Nat} {p : Pos} (ha : DE X m a fa) (hm : behindInMarks .Is (.Constant .none tk p) = false := by rfl) : DE X mm (.Compare a [.Is] [.Constant .none tk p] pos) (fun δ => ofB (isNO (fa δ))) :=
  (pe_cmpR op_isN ha (de_non (m := false)) hm).imp fun σ H Q ⟨B, Hk, δ, d, R, e, k⟩ => by
    cases h : isNO (fa δ) with
    | none => simp only [h, ofB] at e; cases e
    | some c =>
      simp only [h, ofB] at e; cases e
      obtain ⟨z, q, rfl⟩ := isNO_some h
      refine two (fb := fun _ => some .non) R q rfl fun v u H' s R' r1 r2 => ?_
      simp only [Rep] at r2
      exact ⟨r2, by rw [isN_dec r1]; exact k _ H' s (by simp only [Rep])⟩
end
end L2

end

section
set_option maxHeartbeats 1000000
namespace L2
open PySem PySem.Spec PyProof.Rows

section
variable {X : Cx} {elts : List Expr} {x1 : Nat} {tp : Pos} {m : Bool} {a : Expr} {fa : DEnv → Option D} {p pos : Pos}
end
end L2

end

section
set_option maxHeartbeats 1000000
namespace L2
open PySem PySem.Spec PyProof.Rows

mutual
theorem KR.raw {P : Program} {w : World} {H : Hp} {h : Heap} (ok : HOk P w H h) : ∀ {d : D} {v : V} {u : Value}, KR H d v → RelV v u → RH h d u
  | .int i, v, u, r, q => by simp only [KR] at r; subst r; obtain ⟨t, rfl⟩ := q; simp only [RH]; exact ⟨t, rfl⟩
  | .str i, v, u, r, q => by simp only [KR] at r; subst r; obtain ⟨t, rfl⟩ := q; simp only [RH]; exact ⟨t, rfl⟩
  | .tup ds, v, u, r, q => by
    simp only [KR] at r
    obtain ⟨a, xs, rfl, g, rs⟩ := r
    cases q
    obtain ⟨_, its, rv, ht⟩ := (show ObjOk P w H h a (.tup xs) from ok a _ g)
    simp only [RH]
    exact ⟨a, its, rfl, ht, KRs.raw ok rs rv⟩
  | .non, v, u, r, _ => by simp only [KR] at r
  | .bl _, v, u, r, _ => by simp only [KR] at r
  | .lst _, v, u, r, _ => by simp only [KR] at r
  | .dT _ _, v, u, r, _ => by simp only [KR] at r
  | .dK _ _, v, u, r, _ => by simp only [KR] at r
  | .dD _ _, v, u, r, _ => by simp only [KR] at r
  | .sp _ _, v, u, r, _ => by simp only [KR] at r
theorem KRs.raw {P : Program} {w : World} {H : Hp} {h : Heap} (ok : HOk P w H h) : ∀ {ds : List D} {xs : List V} {us : List Value}, KRs H ds xs → Vals xs us → RHs h ds us
  | [], xs, us, r, q => by simp only [KRs] at r; subst r; cases q; simp only [RHs]
  | d :: ds, xs, us, r, q => by
    simp only [KRs] at r
    obtain ⟨x, t, rfl, r1, r2⟩ := r
    cases q with
    | cons q1 q2 => simp only [RHs]; exact ⟨_, _, rfl, KR.raw ok r1 q1, KRs.raw ok r2 q2⟩
end
mutual

theorem Rep.key {K : PySem.W.Frag} {B : Addr → Prop} {H : Hp} : ∀ {n : Nat} {d : D} {v : V}, hasH n d = true → Rep K B H d v → KR H d v
  | n, .int i, v, _, r => by simp only [Rep] at r; simp only [KR]; exact r
  | n, .str i, v, _, r => by simp only [Rep] at r; simp only [KR]; exact r
  | n, .tup ds, v, h, r => by
    simp only [Rep] at r
    obtain ⟨a, xs, rfl, g, rs⟩ := r
    obtain ⟨k, _, hd⟩ := hasH_tup h
    simp only [KR]
    exact ⟨a, xs, rfl, g, Reps.key hd rs⟩
  | n, .non, v, h, _ => by cases n <;> simp [hasH] at h
  | n, .bl _, v, h, _ => by cases n <;> simp [hasH] at h
  | n, .lst _, v, h, _ => by cases n <;> simp [hasH] at h
  | n, .dT _ _, v, h, _ => by cases n <;> simp [hasH] at h
  | n, .dK _ _, v, h, _ => by cases n <;> simp [hasH] at h
  | n, .dD _ _, v, h, _ => by cases n <;> simp [hasH] at h
  | n, .sp _ _, v, h, _ => by cases n <;> simp [hasH] at h
theorem Reps.key {K : PySem.W.Frag} {B : Addr → Prop} {H : Hp} : ∀ {n : Nat} {ds : List D} {xs : List V}, ds.all (hasH n) = true → Reps K B H ds xs → KRs H ds xs
  | n, [], xs, _, r => by simp only [Reps] at r; simp only [KRs]; exact r
  | n, d :: ds, xs, h, r => by
    rw [List.all_cons, Bool.and_eq_true] at h
    simp only [Reps] at r
    obtain ⟨x, t, rfl, r1, r2⟩ := r
    simp only [KRs]
    exact ⟨x, t, rfl, Rep.key h.1 r1, Reps.key h.2 r2⟩
end
mutual

theorem KR.rep {K : PySem.W.Frag} {B : Addr → Prop} {H : Hp} : ∀ {d : D} {v : V}, KR H d v → Rep K B H d v
  | .int i, v, r => by simp only [KR] at r; simp only [Rep]; exact r
  | .str i, v, r => by simp only [KR] at r; simp only [Rep]; exact r
  | .tup ds, v, r => by
    simp only [KR] at r
    obtain ⟨a, xs, rfl, g, rs⟩ := r
    simp only [Rep]
    exact ⟨a, xs, rfl, g, KRs.rep rs⟩
  | .non, v, r => by simp only [KR] at r
  | .bl _, v, r => by simp only [KR] at r
  | .lst _, v, r => by simp only [KR] at r
  | .dT _ _, v, r => by simp only [KR] at r
  | .dK _ _, v, r => by simp only [KR] at r
  | .dD _ _, v, r => by simp only [KR] at r
  | .sp _ _, v, r => by simp only [KR] at r
theorem KRs.rep {K : PySem.W.Frag} {B : Addr → Prop} {H : Hp} : ∀ {ds : List D} {xs : List V}, KRs H ds xs → Reps K B H ds xs
  | [], xs, r => by simp only [KRs] at r; simp only [Reps]; exact r
  | d :: ds, xs, r => by
    simp only [KRs] at r
    obtain ⟨x, t, rfl, r1, r2⟩ := r
    simp only [Reps]
    exact ⟨x, t, rfl, KR.rep r1, KRs.rep r2⟩
end
section
variable {P : Program} {w : World} {H : Hp} {h : Heap} {a : Addr}
end
section
variable {X : Cx} {pins : List (Addr × Obj)} {σ : St} {H : Hp} {s : Shared} {a b : Addr} {kvs : List (D × V)} {ep : Nat} {k : D} {v : V} {r : Value} {A : Around} {E : Value → Shared → Prop}
end
end L2

end

section
set_option maxHeartbeats 1000000
namespace L2
open PySem PySem.Spec PyProof.Rows

section
variable {K : PySem.W.Frag} {B : Addr → Prop} {H : Hp} {κ : Type} [DecidableEq κ]
end

section
variable {X : Cx} {pins : List (Addr × Obj)} {σ : St} {H : Hp} {s : Shared} {a : Addr} {y v : V} {u r : Value} {o : Option V} {A : Around} {E : Value → Shared → Prop}
end
section
variable {X : Cx} {o i value : Expr} {pos pos' : Pos} {td ty tv : TE}
end

section
variable {X : Cx} {a b : Expr} {fa fb : DEnv → Option D} {m m' mm : Bool} {pos : Pos}
end
end L2

end

section
set_option maxHeartbeats 1000000
namespace L2
open PySem PySem.Spec PyProof.Rows

section
variable {prog : Program} {w : World} {A : Around} {E : Value → Shared → Prop} {s : Shared}
end
section
variable {X : Cx} {pins : List (Addr × Obj)} {σ : St} {H : Hp} {s : Shared} {a : Addr} {y v : V} {u r : Value} {o : Option V} {A : Around} {E : Value → Shared → Prop}
end

section
variable {X : Cx} {pins : List (Addr × Obj)} {σ : St} {H : Hp} {N : Hp → Prop} {s : Shared} {a : Addr} {y z v : V} {u r : Value} {A : Around} {E : Value → Shared → Prop}
end
end L2

end

section
set_option maxHeartbeats 1000000
namespace L2
open PySem PySem.Spec PyProof.Rows

section
variable {X : Cx} {pos pos' cpos apos : Pos} {m m' : Bool} {a b c : Expr} {fa fb fc : DEnv → Option D} {i : Nat} {x : Str} {px : Pos}
end
end L2

end

section
set_option maxHeartbeats 1000000
namespace L2
open PySem PySem.Spec PyProof.Rows

section
variable {X : Cx} {pos cpos apos px : Pos} {m m' mm : Bool} {o a b c e : Expr} {es : List Expr} {fa fb fc : DEnv → Option D} {i : Nat} {x : Str} {to : TE} {t : TA} {name : Str} {id : String} {r : V → List V → Hp → VK → Prop}
end
end L2

end

section
set_option maxHeartbeats 1000000
namespace L2
open PySem PySem.Spec PyProof.Rows

section
variable {prog : Program} {w : World} {A : Around} {E : Value → Shared → Prop} {s : Shared}
end
section
variable {X : Cx} {tg a : Expr} {m : Bool} {fa : DEnv → Option D}
end
end L2

end

section
set_option maxHeartbeats 1000000
namespace L2
open PySem PySem.Spec PyProof.Rows

section
variable {X : Cx} {pos cpos apos p : Pos} {m m' mm : Bool} {a b c : Expr} {fa fb fc : DEnv → Option D}

def bolsD : List D → Option (List Bool)
  | [] => some []
  | .bl b :: ds => (match bolsD ds with | some bs => some (b :: bs) | none => none)
  | _ => none
theorem bolsD_some : ∀ {ds : List D} {bs : List Bool}, bolsD ds = some bs → ds = bs.map D.bl
  | [], bs, h => by cases h; rfl
  | .bl b :: ds, bs, h => by
    simp only [bolsD] at h
    split at h
    · rename_i bs' q
      cases h
      rw [bolsD_some q]; rfl
    · cases h
  | .non :: ds, bs, h => by simp [bolsD] at h
  | .int _ :: ds, bs, h => by simp [bolsD] at h
  | .str _ :: ds, bs, h => by simp [bolsD] at h
  | .tup _ :: ds, bs, h => by simp [bolsD] at h
  | .lst _ :: ds, bs, h => by simp [bolsD] at h
  | .dT _ _ :: ds, bs, h => by simp [bolsD] at h
  | .dK _ _ :: ds, bs, h => by simp [bolsD] at h
  | .dD _ _ :: ds, bs, h => by simp [bolsD] at h
  | .sp _ _ :: ds, bs, h => by simp [bolsD] at h
theorem Reps.bols {K : PySem.W.Frag} {B : Addr → Prop} {H : Hp} : ∀ {bs : List Bool} {xs : List V}, Reps K B H (bs.map D.bl) xs → xs = bs.map V.bl
  | [], xs, r => r
  | b :: bs, xs, r => by
    rw [List.map_cons] at r
    simp only [Reps] at r
    obtain ⟨x, t, rfl, r1, r2⟩ := r
    simp only [Rep] at r1
    rw [r1, Reps.bols r2]; rfl
end
end L2

end

section
set_option maxHeartbeats 1000000
namespace L2
open PySem PySem.Spec PyProof.Rows

section
variable {prog : Program} {w : World} {A : Around} {E : Value → Shared → Prop} {s : Shared}
end
section
variable {X : Cx} {pos p : Pos} {m : Bool} {a : Expr} {fa : DEnv → Option D}
end
end L2

end

section
set_option maxHeartbeats 1000000
namespace L2
open PySem PySem.Spec PyProof.Rows PySem.W

section
variable {X : Cx} {pins : List (Addr × Obj)} {σ : St} {H : Hp} {s : Shared} {A : Around} {E : Value → Shared → Prop}
end

section
variable {K : PySem.W.Frag} {B : Addr → Prop} {H : Hp}

end
section
variable {X : Cx} {pos p : Pos} {a : Expr} {fa : DEnv → Option D}
end
end L2

end

section
set_option maxHeartbeats 1000000
namespace L2
open PySem PySem.Spec PyProof.Rows

section
variable {K : PySem.W.Frag} {B : Addr → Prop} {Hk H H' H1 : Hp}
end

section
variable {X : Cx} {i : Nat} {x y : Str} {rest : List Stmt} {gr gb : DEnv → Option Out} {pos pos' p cpos apos px : Pos} {k : Nat} {f : List D → Option (D × Bool)} {e a b : Expr} {es : List Expr} {fs : DEnv → Option (List D)} {fa fb : DEnv → Option D} {ft : DEnv → Option Bool}

end

section
variable {X : Cx} {i : Nat} {x : Str} {e : Expr} {es : List Expr} {fs : DEnv → Option (List D)} {fe : DEnv → Option D} {pos px : Pos}
end
end L2

end

section
set_option maxHeartbeats 1000000
namespace L2
open PySem PySem.Spec PyProof.Rows

theorem ObjOk.obj {P : Program} {w : World} {H : Hp} {h : Heap} {a : Addr} {u : HO} (hob : ObjOk P w H h a u) : ∃ o, h.get? a = some o := by
  cases u with
  | lst xs => obtain ⟨_, _, _, _, e⟩ := hob; exact ⟨_, e⟩
  | tup xs => obtain ⟨_, _, _, o, e, _⟩ := hob; exact ⟨_, e⟩
  | dK kvs => obtain ⟨_, _, _, _, o, _, _, e, _⟩ := hob; exact ⟨_, e⟩
  | dD kvs ep => obtain ⟨_, _, _, _, o, _, e, _⟩ := hob; exact ⟨_, e⟩
  | dT kvs => obtain ⟨_, _, _, _, o, _, _, e, _⟩ := hob; exact ⟨_, e⟩
  | set S n => obtain ⟨o, _, _, _, e, _⟩ := hob; exact ⟨_, e⟩
  | ins C dx fs => obtain ⟨_, _, _, e, _⟩ := hob; exact ⟨_, e⟩
  | own y => exact hob
  | xd fs => obtain ⟨_, ⟨o, _, _, e, _⟩, _⟩ := hob; exact ⟨o, e⟩
  | rng lo hi => obtain ⟨_, _, _, e⟩ := hob; exact ⟨_, e⟩
  | frz ob u => exact ⟨_, hob.1⟩
  | tbl ps => exact ⟨_, hob⟩
  | met f y => exact ⟨_, hob⟩
  | ext φ => obtain ⟨_, ⟨_, e⟩, _⟩ := hob; exact ⟨_, e⟩

structure Fly (P : Program) (w : World) (K : PySem.W.Frag) (C : Str) (l : List Env) (fl : Value) (a : Addr) (a0 : Value) (B : Heap) (H H' : Hp) (s : Shared) (c : Addr) (s' : Shared) : Prop where
  os : s'.os = s.os
  bare : AllBare s'.gens
  cls : PySem.W.nsIn K mainGlobals C = some (some (.ref c))
  same : Same H H'
  free : ∀ b o, s.heap.get? b = some o → H b = none → H' b = none
  slot : ∀ b o, s.heap.get? b = some o → b ∈ frs l → ∃ sl, s'.heap.get? b = some { o with slots := sl }
  stay : B.StaysIn s'.heap
  new : B.get? a = none
  fun_ : s'.heap.FunFrames B l
  tr : s'.heap.TracedAtW B a (.ref c) a0 fl
  old : ∀ b o, s.heap.get? b = some o → H b = none → b ∉ frs l → B.get? b = some o
  ok : HOk P w H' B

section
variable {P : Program} {w : World} {K : PySem.W.Frag} {C : Str} {l : List Env} {fl fl' : Value} {H H' : Hp} {s s' : Shared} {a c : Addr} {a0 : Value} {B : Heap}
theorem Fly.hok (F : Fly P w K C l fl a a0 B H H' s c s') : HOk P w H' s'.heap := F.ok.kept F.stay
theorem Fly.notrk (F : Fly P w K C l fl a a0 B H H' s c s') : H' a = none := by
  cases q : H' a with
  | none => rfl
  | some u =>
    obtain ⟨o, e⟩ := ObjOk.obj (F.ok a u q)
    rw [F.new] at e; cases e
theorem Fly.un (F : Fly P w K C l fl a a0 B H H' s c s') : Un (frs l) [] H H' s.heap s'.heap := by
  refine ⟨fun b o q n hb _ => F.stay b o (F.old b o q n hb), fun b o q _ hb _ => F.slot b o q hb, fun b o q n _ => F.free b o q n, fun b o q _ => ?_, fun b xs q => F.same _ _ q, fun b o u q => F.same _ _ q, fun b ps q => ⟨#[], by rw [F.same _ _ q]; simp⟩⟩
  cases hb : H b with
  | none =>
    by_cases z : b ∈ frs l
    · obtain ⟨sl, x⟩ := F.slot b o q z; exact ⟨_, x⟩
    · exact ⟨o, F.stay b o (F.old b o q hb z)⟩
  | some u =>
    obtain ⟨o', x⟩ := ObjOk.obj (F.ok b u (F.same _ _ hb))
    exact ⟨o', F.stay b o' x⟩

theorem Fly.go {h' : Heap} (F : Fly P w K C l fl a a0 B H H' s c s') (k : B.StaysIn h') (fu : h'.FunFrames B l) (tr : h'.TracedAtW B a (.ref c) a0 fl') (up : s'.heap.UpToSlots h') :
    Fly P w K C l fl' a a0 B H H' s c { s' with heap := h' } := by
  refine ⟨F.os, F.bare, F.cls, F.same, F.free, fun b o q hb => ?_, k, F.new, fu, tr, F.old, F.ok⟩
  obtain ⟨sl, x⟩ := F.slot b o q hb
  obtain ⟨_, o', x', nf⟩ := F.fun_.mem hb
  rw [x] at x'; cases x'
  obtain ⟨sl', y⟩ := up b _ x nf
  exact ⟨sl', y⟩
end

section
variable {X : Cx} {pins : List (Addr × Obj)} {σ : St} {C : Str} {fl : Value} {H H' : Hp} {s s' : Shared} {a c : Addr} {a0 : Value} {B : Heap}

theorem Fly.inv (F : Fly X.prog X.w X.K C X.stack fl a a0 B H H' s c s') (I : Inv X pins σ H s) : Inv X pins σ H' s' :=
  I.call' (ch := []) F.os F.un F.hok F.bare fun b z => absurd z (by simp)
end

def CX1 (P : Program) (w : World) (K : PySem.W.Frag) (C : Str) : CXT := fun outer H s E e s' => ∃ H' c a a0 B, e = .ref a ∧ Fly P w K C outer .none a a0 B H H' s c s' ∧ E (.ref c) none H'

def ThrowsC (X : Cx) (C : Str) (Hk : Hp) : Prop := ∀ (pins : List (Addr × Obj)) (σ : St) (H H' : Hp) (s : Shared) (a c : Addr) (a0 : Value) (B : Heap) (s' : Shared), Inv X pins σ H s → Fly X.prog X.w X.K C X.stack .none a a0 B H H' s c s' → Same Hk H' → X.xe (.ref a) s'

structure FlyAt (X : Cx) (C : Str) (fl : Value) (a : Addr) (a0 : Value) (B : Heap) (H' : Hp) (c : Addr) (s' : Shared) : Prop where
  os : s'.os = X.s₀.os
  bare : AllBare s'.gens
  cls : PySem.W.nsIn X.K mainGlobals C = some (some (.ref c))
  free : ∀ b o, X.s₀.heap.get? b = some o → X.H₀ b = none → b ∉ X.ex → H' b = none
  slot : ∀ b o, X.s₀.heap.get? b = some o → X.H₀ b = none → b ∈ frs X.stack → b ∉ X.ex → ∃ sl, s'.heap.get? b = some { o with slots := sl }
  stay : B.StaysIn s'.heap
  new : B.get? a = none
  fun_ : s'.heap.FunFrames B X.stack
  tr : s'.heap.TracedAtW B a (.ref c) a0 fl
  old : ∀ b o, X.s₀.heap.get? b = some o → X.H₀ b = none → b ∉ frs X.stack → b ∉ X.ex → B.get? b = some o
  ok : HOk X.prog X.w H' B

def ThrowsF (X : Cx) (C : Str) (Hk : Hp) : Prop := ∀ (fl : Value) (a : Addr) (a0 : Value) (B : Heap) (H' : Hp) (c : Addr) (s' : Shared), X.Ok → FlyAt X C fl a a0 B H' c s' → Same Hk H' → X.xe (.ref a) s'

def ThrowsM (X : Cx) (C : Str) (Hk : Hp) : Prop := ∀ (pins : List (Addr × Obj)) (σ : St) (H : Hp) (s : Shared) (e c : Addr) (h' : Heap) (args : List Value), Inv X pins σ H s → PySem.W.nsIn X.K mainGlobals C = some (some (.ref c)) →
  Heap.MadeExcOf s.heap h' e (.ref c) args → Same Hk H → X.xe (.ref e) { s with heap := h' }
theorem ThrowsC.passes {X : Cx} {C : Str} {Hk : Hp} (h : ThrowsC X C Hk) : Passes (CX1 X.prog X.w X.K C) X (fun _ _ H' => Same Hk H') :=
  fun pins σ H s e s' I ⟨H', c, a, a0, B, ea, F, sm⟩ => by subst ea; exact h pins σ H H' s a c a0 B s' I F sm
theorem passesNo {X : Cx} {C : Str} : Passes (CX1 X.prog X.w X.K C) X (fun _ _ _ => False) := fun _ _ _ _ _ _ _ ⟨_, _, _, _, _, _, _, z⟩ => z.elim

section
variable {X : Cx} {pins : List (Addr × Obj)} {σ : St} {C : Str} {fl : Value} {H H' : Hp} {s s' : Shared} {a c : Addr} {a0 : Value} {B : Heap}
theorem Cx.Ok.stkOut (ok : X.Ok) {b : Addr} {o : Obj} (e : X.s₀.heap.get? b = some o) (h : b ∈ frs X.stack) : b ∈ X.fs := by
  rcases ok.stk with z | ⟨z, hf⟩
  · rw [z] at h; exact h
  · rw [z] at h
    unfold frs at h
    rw [List.filterMap_cons, hf] at h
    rcases List.mem_cons.mp h with q | q
    · exact absurd (Nat.lt_of_lt_of_le (Heap.lt_size e) ok.above) (by rw [q]; exact Nat.lt_irrefl _)
    · exact q
theorem Cx.Ok.outStk (ok : X.Ok) {b : Addr} (h : b ∈ X.fs) : b ∈ frs X.stack := by
  rcases ok.stk with z | ⟨z, hf⟩
  · rw [z]; exact h
  · rw [z]
    obtain ⟨en, h1, h2⟩ := List.mem_filterMap.mp h
    exact List.mem_filterMap.mpr ⟨en, List.mem_cons_of_mem _ h1, h2⟩
theorem Fly.at (F : Fly X.prog X.w X.K C X.stack fl a a0 B H H' s c s') (I : Inv X pins σ H s) : FlyAt X C fl a a0 B H' c s' := by
  refine ⟨F.os.trans I.os, F.bare, F.cls, fun b o q n hx => ?_, fun b o q n hb hx => ?_, F.stay, F.new, F.fun_, F.tr, fun b o q n hb hx => ?_, F.ok⟩
  · obtain ⟨o', e⟩ := I.base.there b o q hx
    exact F.free b o' e (I.base.free b o q n hx)
  · obtain ⟨sl, e⟩ := I.base.slot b o q n (I.ok.stkOut q hb) hx
    obtain ⟨sl', e'⟩ := F.slot b _ e hb
    exact ⟨sl', e'⟩
  · exact F.old b o (I.base.keep b o q n (fun z => hb (I.ok.outStk z)) hx) (I.base.free b o q n hx) hb
theorem ThrowsF.toC {Hk : Hp} (h : ThrowsF X C Hk) : ThrowsC X C Hk := fun pins σ H H' s a c a0 B s' I F sm => h .none a a0 B H' c s' I.ok (F.at I) sm

theorem FlyAt.goF {fl' : Value} {h' : Heap} (F : FlyAt X C fl a a0 B H' c s') (k : B.StaysIn h') (fu : h'.FunFrames B X.stack) (tr : h'.TracedAtW B a (.ref c) a0 fl') (up : ∀ b o, b ∈ frs X.stack → s'.heap.get? b = some o → (∀ vs, o.data ≠ .fields vs) → ∃ sl, h'.get? b = some { o with slots := sl }) :
    FlyAt X C fl' a a0 B H' c { s' with heap := h' } := by
  refine ⟨F.os, F.bare, F.cls, F.free, fun b o q n hb hx => ?_, k, F.new, fu, tr, F.old, F.ok⟩
  obtain ⟨sl, x⟩ := F.slot b o q n hb hx
  obtain ⟨_, o', x', nf⟩ := F.fun_.mem hb
  rw [x] at x'; cases x'
  obtain ⟨sl', y⟩ := up b _ hb x nf
  exact ⟨sl', y⟩
theorem FlyAt.go {fl' : Value} {h' : Heap} (F : FlyAt X C fl a a0 B H' c s') (k : B.StaysIn h') (fu : h'.FunFrames B X.stack) (tr : h'.TracedAtW B a (.ref c) a0 fl') (up : s'.heap.UpToSlots h') :
    FlyAt X C fl' a a0 B H' c { s' with heap := h' } := F.goF k fu tr fun b o _ q nf => up b o q nf
end

theorem note_any {M : Model} {A : Around} {E : Value → Shared → Prop} {s : Shared} {base : Heap} {env : Env} {outer : List Env} {L e : Addr} {cls a0 fl : Value} {Q : Unit → Shared → Prop} (hfr : A.frames = some (env :: outer)) (hf : env.frame = some L) (st : base.StaysIn s.heap) (nw : base.get? e = none)
    (fu : s.heap.FunFrames base (env :: outer)) (tr : s.heap.TracedAtW base e cls a0 fl) (h : ∀ h', base.StaysIn h' → h'.FunFrames base (env :: outer) → h'.TracedAtW base e cls a0 (rawInt L) → s.heap.UpToSlots h' → Q () { s with heap := h' }) : wpAny M A (noteFrame (.ref e) env) Q E s := by
  by_cases z : fl = rawInt L
  · subst z
    exact wpAny_noteFrame_againW hf tr (h s.heap st fu tr (Heap.UpToSlots.refl _))
  obtain ⟨oe, vs, T, oT, ts, g1, ⟨rfl, g0⟩, g2, g3, g4, g5, g6, g7, g8⟩ := tr
  have apart : ∀ b o, s.heap.get? b = some o → (∀ ws, o.data ≠ .fields ws) → b ≠ T := fun b o q nf y => by
    subst y; rw [g6] at q; cases q; exact nf ts g7
  have rest : ∀ b, b ≠ T → (s.heap.update T (Obj.mapFields (·.setIfInBounds 3 Value.none))).get? b = s.heap.get? b := fun b y => Heap.get?_update_other _ _ fun q => y q.symm
  unfold noteFrame
  simp only [hf]
  refine wpAny_bind (wpAny_field g1 g2 g3 ?_)
  rw [if_pos (by simp)]
  refine wpAny_bind (wpAny_field g6 g7 g8 ?_)
  rw [if_neg (by simpa using z)]
  refine wpAny_bind (wpAny_setField g6 g7 (Array.getElem?_eq_some_iff.mp g8).1 ?_)
  have stay : base.StaysIn (s.heap.update T (Obj.mapFields (·.setIfInBounds 3 Value.none))) := fun b o q => (rest b fun y => by rw [y, g4] at q; cases q).trans (st b o q)
  refine wpAny_entryW hfr (fu.of_keeps fun b o q nf => ⟨o, (rest b (apart b o q nf)).trans q, rfl⟩) hf ((rest e fun y => g5 y.symm).trans g1) stay nw g2 (Array.getElem?_eq_some_iff.mp g3).1 g0 fun h' y => ?_
  obtain ⟨y1, y2, y3, y4⟩ := y
  exact h h' y1 y2 y3 fun b o q nf => y4 b o ((rest b (apart b o q nf)).trans q) nf

section
variable {P : Program} {w : World} {K : PySem.W.Frag} {mg : Str → Option Value} {base : Heap} {N : List Str} {qual : Str} {scope : Scope} {f : Addr} {cd : Value} {A : Around} {outer : List Env} {s₀ : Shared} {H₀ : Hp} {E : XK} {C : Str}

theorem FlyAt.left {H' : Hp} {s' : Shared} {a c : Addr} {a0 : Value} {B : Heap} {fl : Value} {h' : Heap} (ok : (cxOf (CX1 P w K C) P w K mg base N qual scope f cd A outer s₀ H₀ E).Ok)
    (F : FlyAt (cxOf (CX1 P w K C) P w K mg base N qual scope f cd A outer s₀ H₀ E) C fl a a0 B H' c s') (sm : Same H₀ H') (g : Heap.FlyingW B outer a (.ref c) a0 h') (up : s'.heap.UpToSlots h') :
    Fly P w K C outer .none a a0 B H₀ H' s₀ c { s' with heap := h' } := by
  have nx : ∀ b : Addr, b ∉ (cxOf (CX1 P w K C) P w K mg base N qual scope f cd A outer s₀ H₀ E).ex := fun b z => absurd (show b ∈ ([] : List Addr) from z) (by simp)
  obtain ⟨g1, g2, g3, g4⟩ := g
  refine ⟨F.os, F.bare, F.cls, sm, fun b o q hb => F.free b o q hb (nx b), fun b o q hb => ?_, g1, g2, g3, g4, fun b o q hb hn => ?_, F.ok⟩
  · have hb' := ok.outStk (show b ∈ (cxOf (CX1 P w K C) P w K mg base N qual scope f cd A outer s₀ H₀ E).fs from hb)
    obtain ⟨sl, x⟩ := F.slot b o q (ok.frf b hb) hb' (nx b)
    obtain ⟨_, o', x', nf⟩ := F.fun_.mem hb'
    rw [x] at x'; cases x'
    obtain ⟨sl', y⟩ := up b _ x nf
    exact ⟨sl', y⟩
  · exact F.old b o q hb (fun z => hn (ok.stkOut (show _ from q) z)) (nx b)
theorem throwsF_of (hE : ∀ c H', PySem.W.nsIn K mainGlobals C = some (some (.ref c)) → Same H₀ H' → E (.ref c) none H') : ThrowsF (cxOf (CX1 P w K C) P w K mg base N qual scope f cd A outer s₀ H₀ E) C H₀ := by
  intro fl a a0 B H' c s' ok F sm
  show wpAny (model P w) (A.deeper (envOfC qual scope s₀.heap.objs.size f cd)) (leaving (envOfC qual scope s₀.heap.objs.size f cd) (.ref a)) (fun _ s'' => CX1 P w K C outer H₀ s₀ E (.ref a) s'') (fun e' s'' => CX1 P w K C outer H₀ s₀ E e' s'') s'
  have hst : (A.deeper (envOfC qual scope s₀.heap.objs.size f cd)).frames = some (envOfC qual scope s₀.heap.objs.size f cd :: outer) := ok.frames
  unfold leaving
  refine wpAny_bind (note_any (base := B) (L := s₀.heap.objs.size) (cls := .ref c) (a0 := a0) (fl := fl) hst rfl F.stay F.new F.fun_ F.tr fun h1 k1 k2 k3 k4 => ?_)
  have F1 := F.go k1 k2 k3 k4
  refine wpAny_landsW (base := B) (l := envOfC qual scope s₀.heap.objs.size f cd :: outer) (cls := .ref c) (a0 := a0) (L := s₀.heap.objs.size) ⟨k1, F.new, k2, k3⟩ fun h' hfl up => ?_
  obtain ⟨k5, k6, ⟨_, _, k7⟩, k8⟩ := hfl
  exact ⟨H', c, a, a0, B, rfl, F1.left ok sm ⟨k5, k6, k7, k8⟩ up, hE c H' F.cls sm⟩
theorem throwsM_of (hE : ∀ c H', PySem.W.nsIn K mainGlobals C = some (some (.ref c)) → Same H₀ H' → E (.ref c) none H') : ThrowsM (cxOf (CX1 P w K C) P w K mg base N qual scope f cd A outer s₀ H₀ E) C H₀ := by
  intro pins σ H s e c h1 args I hc mk sm
  show wpAny (model P w) (A.deeper (envOfC qual scope s₀.heap.objs.size f cd)) (leaving (envOfC qual scope s₀.heap.objs.size f cd) (.ref e)) (fun _ s'' => CX1 P w K C outer H₀ s₀ E (.ref e) s'') (fun e' s'' => CX1 P w K C outer H₀ s₀ E e' s'') { s with heap := h1 }
  have hst : (A.deeper (envOfC qual scope s₀.heap.objs.size f cd)).frames = some (envOfC qual scope s₀.heap.objs.size f cd :: outer) := I.ok.frames
  have nx : ∀ b : Addr, b ∉ (cxOf (CX1 P w K C) P w K mg base N qual scope f cd A outer s₀ H₀ E).ex := fun b z => absurd (show b ∈ ([] : List Addr) from z) (by simp)
  let l := envOfC qual scope s₀.heap.objs.size f cd :: outer
  let B := PySem.W.hideAll s.heap (frs l)
  have hB : B.StaysIn s.heap := fun b o q => PySem.W.of_hideAll _ q
  have fun0 : s.heap.FunFrames base l := I.stack
  have hfu : s.heap.FunFrames B l := PySem.W.funFrames_hide fun0 fun env he b hb => List.mem_filterMap.mpr ⟨env, he, hb⟩
  have hok : HOk P w H B := fun b u q => by
    have hb : b ∉ frs l := fun z => by have := I.stkFree b z; rw [q] at this; cases this
    refine (I.hok b u q).stay (fun c v hc r => PySem.W.hideAll_get _ r fun z => ?_) (fun c r => r) fun c xs r => r
    have := I.stkFree c z
    rcases hc with rfl | hc
    · rw [q] at this; cases this
    · rw [hc] at this; cases this
  refine wpAny_leaves_madeW (base := B) hst rfl hB hfu mk fun h' t x1 x2 x3 up => ?_
  refine ⟨H, c, e, .ref t, B, rfl, ?_, hE c H hc sm⟩
  obtain ⟨g1, g2, g3, g4⟩ := x1
  have up' : s.heap.UpToSlots h' := (Heap.UpToSlots.of_keeps mk.keeps).trans up
  refine ⟨I.os, I.bare, hc, sm, fun b o q hb => I.base.free b o q hb (nx b), fun b o q hb => ?_, g1, g2, g3, g4, fun b o q hb hn => ?_, hok⟩
  · obtain ⟨sl, x⟩ := I.base.slot b o q (I.ok.frf b hb) hb (nx b)
    have hb' : b ∈ frs l := by
      obtain ⟨en, h1, h2⟩ := List.mem_filterMap.mp hb
      exact List.mem_filterMap.mpr ⟨en, List.mem_cons_of_mem _ h1, h2⟩
    obtain ⟨_, o', x', nf⟩ := hfu.mem hb'
    rw [x] at x'; cases x'
    obtain ⟨sl', y⟩ := up' b _ x nf
    exact ⟨sl', y⟩
  · refine PySem.W.hideAll_get _ (I.base.keep b o q hb hn (nx b)) fun z => ?_
    rcases List.mem_cons.mp (I.stkSub b z) with q1 | q1
    · have hl : b = s₀.heap.objs.size := q1
      exact absurd (Heap.lt_size q) (by rw [hl]; exact Nat.lt_irrefl _)
    · exact hn q1
end
end L2

end

section
set_option maxHeartbeats 1000000
namespace L2
open PySem PySem.Spec PyProof.Rows

def tMR (K : PySem.W.Frag) (m : Bool) (f : DEnv → Option (Option D)) (T : Hp → Prop) : TE := fun σ H Q => ∃ B Hk δ r, Rel K B Hk δ σ H ∧ f δ = some r ∧ match r with
  | some d => ∀ v H', Same H H' → Rep K (bset m B δ σ) H' d v → Q v H'
  | none => T Hk
abbrev tMx (X : Cx) (C : Str) (m : Bool) (f : DEnv → Option (Option D)) : TE := tMR X.K m f (ThrowsF X C)

abbrev DEc (X : Cx) (C : Str) (m : Bool) (e : Expr) (f : DEnv → Option (Option D)) : Prop := PE X e (tMR X.K m f (ThrowsC X C))
theorem PE.impT {X : Cx} {e : Expr} {m : Bool} {f : DEnv → Option (Option D)} {T T' : Hp → Prop} (h : PE X e (tMR X.K m f T)) (i : ∀ Hk, T' Hk → T Hk) : PE X e (tMR X.K m f T') := h.imp fun σ H Q ⟨B, Hk, δ, r, R, e, k⟩ => by
  cases r with
  | none => exact ⟨B, Hk, δ, none, R, e, i Hk k⟩
  | some d => exact ⟨B, Hk, δ, some d, R, e, k⟩

def tFx (X : Cx) (C : Str) (f : DEnv → Option (Option D)) : TE := fun σ H Q => ∃ B Hk δ r, Rel X.K B Hk δ σ H ∧ f δ = some r ∧ match r with
  | some d => ∀ a H', Same H H' → H a = none → ObR X.K B H' d a → Q (.ref a) H'
  | none => ThrowsF X C Hk
def tAx (X : Cx) (C : Str) (m : Bool) (f : DEnv → Option (Option (List D))) : TA := fun σ H Q => ∃ B Hk δ r, Rel X.K B Hk δ σ H ∧ f δ = some r ∧ match r with
  | some ds => ∀ vs H', Same H H' → Reps X.K (bset m B δ σ) H' ds vs → Q vs H'
  | none => ThrowsF X C Hk
abbrev DEx (X : Cx) (C : Str) (m : Bool) (e : Expr) (f : DEnv → Option (Option D)) : Prop := PE X e (tMx X C m f)
abbrev DFx (X : Cx) (C : Str) (e : Expr) (f : DEnv → Option (Option D)) : Prop := PE X e (tFx X C f)
abbrev DAx (X : Cx) (C : Str) (m : Bool) (es : List Expr) (f : DEnv → Option (Option (List D))) : Prop := PA X es (tAx X C m f)

def upO {α : Type} (x : Option α) : Option (Option α) := match x with | some d => some (some d) | none => none
def consX (x : Option (Option D)) (y : Option (Option (List D))) : Option (Option (List D)) := match x with
  | some (some d) => (match y with | some (some ds) => some (some (d :: ds)) | some none => some none | none => none)
  | some none => some none
  | none => none
def tupX (x : Option (Option (List D))) : Option (Option D) := match x with | some (some ds) => if ds.length ≤ lim then some (some (.tup ds)) else none | some none => some none | none => none
section
variable {X : Cx} {C : Str} {m m' mm : Bool} {a b e : Expr} {es : List Expr} {fa : DEnv → Option D} {fx : DEnv → Option (Option D)} {fs : DEnv → Option (List D)} {fxs : DEnv → Option (Option (List D))} {pos p : Pos} {k : Nat} {x : Str}
theorem dex_up (h : DE X m a fa) : DEx X C m a (fun δ => upO (fa δ)) := h.imp fun σ H Q ⟨B, Hk, δ, r, R, e, k⟩ => by
  cases q : fa δ with
  | none => simp only [q, upO] at e; cases e
  | some d => simp only [q, upO] at e; cases e; exact ⟨B, Hk, δ, d, R, q, k⟩
theorem dax_up (h : DA X m es fs) : DAx X C m es (fun δ => upO (fs δ)) := h.imp fun σ H Q ⟨B, Hk, δ, r, R, e, k⟩ => by
  cases q : fs δ with
  | none => simp only [q, upO] at e; cases e
  | some d => simp only [q, upO] at e; cases e; exact ⟨B, Hk, δ, d, R, q, k⟩

theorem dax_cons (ha : DEx X C m e fx) (hr : DAx X C m es fxs) (hs : starEach (e :: es) X.env = (false, eval e X.env) :: starEach es X.env := by rfl) : DAx X C m (e :: es) (fun δ => consX (fx δ) (fxs δ)) :=
  (pa_cons ha hr hs).imp fun σ H Q ⟨B, Hk, δ, l, R, e, k⟩ => by
    cases q : fx δ with
    | none => simp only [q, consX] at e; cases e
    | some r =>
      cases r with
      | none => simp only [q, consX] at e; cases e; exact ⟨B, Hk, δ, none, R, q, k⟩
      | some d =>
        cases q2 : fxs δ with
        | none => simp only [q, q2, consX] at e; cases e
        | some r2 =>
          cases r2 with
          | none => simp only [q, q2, consX] at e; cases e; exact ⟨B, Hk, δ, some d, R, q, fun v H1 s1 r1 => ⟨B, Hk, δ, none, R.to s1, q2, k⟩⟩
          | some ds =>
            simp only [q, q2, consX] at e; cases e
            exact ⟨B, Hk, δ, some d, R, q, fun v H1 s1 r1 => ⟨B, Hk, δ, some ds, R.to s1, q2, fun vs H2 s2 r2 => k (v :: vs) H2 (s1.trans s2) (Reps.cons (r1.same (R.to s1) s2) r2)⟩⟩
theorem dex_tup {x1 : Nat} (h : DAx X C m es fxs) : DEx X C m (.Tuple es x1 pos) (fun δ => tupX (fxs δ)) :=
  (pe_tup h).imp fun σ H Q ⟨B, Hk, δ, r, R, e, k⟩ => by
    cases q : fxs δ with
    | none => simp only [q, tupX] at e; cases e
    | some r2 =>
      cases r2 with
      | none => simp only [q, tupX] at e; cases e; exact ⟨B, Hk, δ, none, R, q, k⟩
      | some ds =>
        simp only [q, tupX] at e
        by_cases hl : ds.length ≤ lim
        · rw [if_pos hl] at e; cases e
          refine ⟨B, Hk, δ, some ds, R, q, fun vs H1 s1 r1 => ⟨by rw [← r1.length]; exact lim_line hl, fun p hp => ?_⟩⟩
          have s2 := same_upd (o := .tup vs) hp
          refine k _ _ (s1.trans s2) ?_
          simp only [Rep]
          exact ⟨p, vs, rfl, upd_same, r1.same (R.to s1) s2⟩
        · rw [if_neg hl] at e; cases e

theorem DFx.share (h : DFx X C a fx) : DEx X C m a fx := by
  intro pins s σ H Q I hq
  obtain ⟨B, Hk, δ, r, R, e, kk⟩ := hq
  cases r with
  | none => exact h pins s σ H Q I ⟨B, Hk, δ, none, R, e, kk⟩
  | some d =>
    have h1 := h pins s σ H (fun v H' => ∃ a, v = .ref a ∧ Same H H' ∧ H a = none ∧ ObR X.K B H' d a) I ⟨B, Hk, δ, some d, R, e, fun a H' s1 n ob => ⟨a, rfl, s1, n, ob⟩⟩
    refine thn h1 fun u s1 ⟨v, H', I1, rv, p, hv, sm, n, ob⟩ => ?_
    subst hv
    obtain ⟨u', hu, mu⟩ := ob.mut
    obtain ⟨o, I2⟩ := I1.frz hu mu
    have hb : ¬ B p := fun z => by
      obtain ⟨o', e'⟩ := R.borH p z
      rw [n] at e'; cases e'
    refine ⟨.ref p, _, I2, rv, kk _ _ (fun c o' r => ?_) (ob.frozen hu hb fun a h => bset_of m a h)⟩
    rw [upd_ne (ne_of_none r n)]
    exact sm c o' r
end

def spX (K : PySem.W.Frag) (C : Str) (f : List D → Option (Option (D × Bool))) : Sp := fun vs H Q E => ∃ B ds r, (∀ a, B a → ∃ o, H a = some o) ∧ Reps K B H ds vs ∧ f ds = some r ∧ match r with
  | some (d, fr) => ∀ v H', Same H H' → RepR K B H H' d fr v → Q v H'
  | none => ∀ c H', PySem.W.nsIn K mainGlobals C = some (some (.ref c)) → Same H H' → E (.ref c) none H'
structure FnX (P : Program) (w : World) (K : PySem.W.Frag) (mg : Str → Option Value) (base : Heap) (k : Nat) (x C : Str) (f : List D → Option (Option (D × Bool))) : Prop where
  ex : ∃ (p : Addr) (fd : FuncData) (ps : List Str), FnOk P w K mg base (CX1 P w K C) k p fd ps (spX K C f) ∧ mg x = some (.ref p) ∧ PySem.W.keepIn K (.ref p) = true ∧ Binds K fd ps [] ∧ PySem.W.nsIn K mainGlobals x = some (some (.ref p))
def shX (x : Option (Option (D × Bool))) : Option (Option D) := match x with | some (some (d, _)) => some (some d) | some none => some none | none => none
section
variable {X : Cx} {C : Str} {m m' mm : Bool} {a b e : Expr} {es : List Expr} {fs : DEnv → Option (List D)} {pos p : Pos} {k : Nat} {x : Str} {f : List D → Option (Option (D × Bool))}

theorem EP.shareR {pins : List (Addr × Obj)} {σ : St} {H H1 H' : Hp} {s1 : Shared} {B : Addr → Prop} {Hk : Hp} {δ : DEnv} {d : D} {fr : Bool} {v : V} {u : Value} {Q : VK} (R : Rel X.K B Hk δ σ H) (I1 : Inv X pins σ H' s1) (rv : RelV v u) (sm1 : Same H H1) (sm2 : Same H1 H')
    (rr : RepR X.K (bset m B δ σ) H1 H' d fr v) (kk : ∀ v H', Same H H' → Rep X.K (bset m B δ σ) H' d v → Q v H') : EP X pins σ Q u s1 := by
  cases fr with
  | false =>
    unfold RepR at rr
    rw [if_neg Bool.false_ne_true] at rr
    exact ⟨v, H', I1, rv, kk v H' (sm1.trans sm2) rr⟩
  | true =>
    unfold RepR at rr
    rw [if_pos rfl] at rr
    rcases rr with ⟨p, rfl, n, ob⟩ | rt
    rotate_left
    · cases d with
      | tup ts =>
        obtain ⟨a, vs, rfl, ha', rs⟩ := rt
        obtain ⟨H2, I2, e2, k2, r2⟩ := frzT (B := bset m B δ σ) (Hk := H1) (fun c z => by obtain ⟨o', e'⟩ := R.bsH m c z; exact ⟨o', sm1 c o' e'⟩) ts vs H' I1 rs.m
        refine ⟨.ref a, H2, I2, rv, kk _ _ (fun c o' r => k2 c o' (sm1 c o' r) (sm2 c o' (sm1 c o' r))) ?_⟩
        simp only [Rep]
        exact ⟨a, vs, rfl, e2.tups _ _ ha', r2⟩
      | _ => exact (show False from rt).elim
    obtain ⟨u', hu, mu⟩ := ob.mut
    obtain ⟨o, I2⟩ := I1.frz hu mu
    have hb : ¬ bset m B δ σ p := fun z => by
      obtain ⟨o', e'⟩ := R.bsH m p z
      have := sm1 p o' e'
      rw [n] at this; cases this
    refine ⟨.ref p, _, I2, rv, kk _ _ (fun c o' r => ?_) (ob.frozen hu hb fun a h => h)⟩
    rw [upd_ne (ne_of_none (sm1 c o' r) n)]
    exact sm2 c o' (sm1 c o' r)
theorem dec_call (F : FnX X.prog X.w X.K X.mg X.base k x C f) (hr : Room k X.A) (hg : Gl X x) (ha : DA X m (e :: es) fs) (hdb : (x == ("__debug__" : Str)) = false := by decide) (he : starEach (e :: es) X.env = (false, eval e X.env) :: starEach es X.env := by rfl)
    (hpl : (backTo pos (starEach es X.env)).any (·.1) = false := by rfl) : DEc X C m (.Call (.Name x p) (e :: es) [] pos) (fun δ => shX (bindO (fs δ) f)) := by
  intro pins s σ H Q I hq
  obtain ⟨B, Hk, δ, r, R, e, kk⟩ := hq
  obtain ⟨q, fd, ps, h1, h2, h3, h4, h5⟩ := F.ex
  cases qf : bindO (fs δ) f with
  | none => simp only [qf, shX] at e; cases e
  | some r1 =>
    obtain ⟨ds, e1, e2⟩ := bindO_some qf
    cases r1 with
    | none =>
      simp only [qf, shX] at e; cases e
      have th : ThrowsC X C Hk := kk
      refine pe_call (ds := []) (dvs := []) h1 hr hg h2 h3 h4 .nil th.passes ha hdb he hpl pins s σ H Q I ⟨B, Hk, δ, ds, R, e1, fun vs H1 s1 rs => ?_⟩
      show spX X.K C f (vs ++ []) H1 Q _
      rw [List.append_nil]
      exact ⟨bset m B δ σ, ds, none, (R.to s1).bsH m, rs, e2, fun c H' _ s2 => R.same.trans (s1.trans s2)⟩
    | some dr =>
      obtain ⟨d, fr⟩ := dr
      simp only [qf, shX] at e; cases e
      have h6 := pe_call (ds := []) (dvs := []) (p := p) (pos := pos) h1 hr hg h2 h3 h4 .nil passesNo ha hdb he hpl pins s σ H (fun v H' => ∃ H1, Same H H1 ∧ Same H1 H' ∧ RepR X.K (bset m B δ σ) H1 H' d fr v) I ⟨B, Hk, δ, ds, R, e1, fun vs H1 s1 rs => by
        show spX X.K C f (vs ++ []) H1 _ _
        rw [List.append_nil]
        exact ⟨bset m B δ σ, ds, some (d, fr), (R.to s1).bsH m, rs, e2, fun v H' s2 rr => ⟨H1, s1, s2, rr⟩⟩⟩
      refine thn h6 fun u s1 ⟨v, H', I1, rv, H1, sm1, sm2, rr⟩ => EP.shareR R I1 rv sm1 sm2 rr kk
theorem DEc.toX {fx : DEnv → Option (Option D)} (h : DEc X C m a fx) : DEx X C m a fx := PE.impT h fun _ t => t.toC

theorem pe_callL {CX : CXT} {fp : Addr} {fd : FuncData} {ps : List Str} {sp : Sp} {E : XK} {t : TA} {i : Nat} (F : FnOk X.prog X.w X.K X.mg X.base CX k fp fd ps sp) (hr : Room k X.A) (hN : X.N[i]? = some x) (hv : Vis X.env.scope x) (hk : PySem.W.keepIn X.K (.ref fp) = true) (hb : Binds X.K fd ps []) (hx : Passes CX X E)
    (ha : PA X (e :: es) t) (hd : (x == ("__debug__" : Str)) = false := by decide) (hcd : (x == ("__classdict__" : Str)) = false := by decide) (he : starEach (e :: es) X.env = (false, eval e X.env) :: starEach es X.env := by rfl) (hpl : (backTo pos (starEach es X.env)).any (·.1) = false := by rfl) :
    PE X (.Call (.Name x p) (e :: es) [] pos) (fun σ H Q => σ[i]? = some (some (.ref fp)) ∧ tCall sp [] E t σ H Q) := by
  intro pins s σ H Q I ⟨hs, h⟩
  refine wpAny_Call_Name_kw (thn (pe_var hN hv hd hcd pins s σ H (fun v H' => v = .ref fp ∧ H' = H) I ⟨.ref fp, hs, rfl, rfl⟩) fun v s1 ⟨x1, H1, I1, r1, q1, q2⟩ => ?_)
  subst q1; subst q2
  obtain rfl : v = .ref fp := r1
  refine PySem.W.callWith_K (h₀ := X.base) I.ok.mod.kin hk (thn (ha pos pins s1 σ H1 _ I1 h) fun us s2 ⟨vs, H2, I2, r, q⟩ => ⟨I2.kIn, ?_⟩) he hpl
  exact run_fn F hr hb .nil hx I2 r q
def spO (b : Bool) (i : Nat) (y : Str) (δ : DEnv) (r : Option (Option D)) : Option (Option D) := match rd b i δ with | some (.sp false z) => if z = y then r else none | _ => none
theorem dec_callV {i : Nat} {y : Str} (F : FnX X.prog X.w X.K X.mg X.base k y C f) (hr : Room k X.A) (ha : DA X m (e :: es) fs) (hN : X.N[i]? = some x) (hv : Vis X.env.scope x) (hd : (x == ("__debug__" : Str)) = false := by decide) (hcd : (x == ("__classdict__" : Str)) = false := by decide)
    (he : starEach (e :: es) X.env = (false, eval e X.env) :: starEach es X.env := by rfl) (hpl : (backTo pos (starEach es X.env)).any (·.1) = false := by rfl) : DEc X C m (.Call (.Name x p) (e :: es) [] pos) (fun δ => spO false i y δ (shX (bindO (fs δ) f))) := by
  intro pins s σ H Q I hq
  obtain ⟨B, Hk, δ, r, R, e, kk⟩ := hq
  obtain ⟨q, fd, ps, h1, h2, h3, h4, h5⟩ := F.ex
  unfold spO at e
  dsimp only at e
  split at e
  rotate_left
  · cases e
  rename_i z hz
  by_cases hzy : z = y
  rotate_left
  · rw [if_neg hzy] at e; cases e
  subst hzy
  rw [if_pos rfl] at e
  have hσ : σ[i]? = some (some (.ref q)) := by
    have hz' : δ[i]? = some (some (.sp false z, false)) := by
      unfold rd at hz
      split at hz
      · rename_i d ow hd
        cases ow with
        | false => simp at hz; rw [hz] at hd; exact hd
        | true => simp at hz
      · cases hz
    obtain ⟨v, hv1, hv2⟩ := R.var i _ hz'
    simp only [Rep] at hv2
    obtain ⟨p', rfl, hp'⟩ := hv2
    rw [h5] at hp'; cases hp'
    exact hv1
  cases qf : bindO (fs δ) f with
  | none => simp only [qf, shX] at e; cases e
  | some r1 =>
    obtain ⟨ds, e1, e2⟩ := bindO_some qf
    cases r1 with
    | none =>
      simp only [qf, shX] at e; cases e
      have th : ThrowsC X C Hk := kk
      refine pe_callL h1 hr hN hv h3 h4 th.passes ha hd hcd he hpl pins s σ H Q I ⟨hσ, ⟨B, Hk, δ, ds, R, e1, fun vs H1 s1 rs => ?_⟩⟩
      show spX X.K C f (vs ++ []) H1 Q _
      rw [List.append_nil]
      exact ⟨bset m B δ σ, ds, none, (R.to s1).bsH m, rs, e2, fun c H' _ s2 => R.same.trans (s1.trans s2)⟩
    | some dr =>
      obtain ⟨d, fr⟩ := dr
      simp only [qf, shX] at e; cases e
      have h6 := pe_callL (p := p) (pos := pos) h1 hr hN hv h3 h4 passesNo ha hd hcd he hpl pins s σ H (fun v H' => ∃ H1, Same H H1 ∧ Same H1 H' ∧ RepR X.K (bset m B δ σ) H1 H' d fr v) I ⟨hσ, ⟨B, Hk, δ, ds, R, e1, fun vs H1 s1 rs => by
        show spX X.K C f (vs ++ []) H1 _ _
        rw [List.append_nil]
        exact ⟨bset m B δ σ, ds, some (d, fr), (R.to s1).bsH m, rs, e2, fun v H' s2 rr => ⟨H1, s1, s2, rr⟩⟩⟩⟩
      refine thn h6 fun u s1 ⟨v, H', I1, rv, H1, sm1, sm2, rr⟩ => EP.shareR R I1 rv sm1 sm2 rr kk
end

inductive OutX where
  | o (x : Out) | rai
def OutKx (X : Cx) (C : Str) (B : Addr → Prop) (Hk H : Hp) (Dn : Ends) : OutX → Prop
  | .o y => OutK X.K B Hk H Dn y
  | .rai => ThrowsF X C Hk ∧ ThrowsM X C Hk
theorem OutKx.ext {X : Cx} {C : Str} {B : Addr → Prop} {Hk H H1 : Hp} {Dn : Ends} {o : OutX} (h : OutKx X C B Hk H Dn o) (e : Ext B H H1) : OutKx X C B Hk H1 Dn o := by
  cases o with
  | rai => exact h
  | o y => exact OutK.ext (show OutK X.K B Hk H Dn y from h) e
def tDx (X : Cx) (C : Str) (g : DEnv → Option OutX) : TS := fun Dn σ H => ∃ B Hk δ o, Rel X.K B Hk δ σ H ∧ g δ = some o ∧ OutKx X C B Hk H Dn o
abbrev DSx (X : Cx) (C : Str) (st : Stmt) (g : DEnv → Option OutX) : Prop := PS X st (tDx X C g)
abbrev DSsx (X : Cx) (C : Str) (sts : List Stmt) (g : DEnv → Option OutX) : Prop := PSs X sts (tDx X C g)
def upS (x : Option Out) : Option OutX := match x with | some y => some (.o y) | none => none
def seqX (x : Option OutX) (k : DEnv → Option OutX) : Option OutX := match x with | some (.o (.next δ)) => k δ | o => o
def ifX' (c : Option Bool) (x y : Option OutX) : Option OutX := match c with | some true => x | some false => y | none => none
section
variable {X : Cx} {C : Str} {st : Stmt} {rest sts : List Stmt} {g : DEnv → Option Out} {g1 g2 : DEnv → Option OutX} {pos : Pos} {a : Expr} {fx : DEnv → Option (Option D)} {fc : DEnv → Option Bool}
theorem dsx_up (h : DS X st g) : DSx X C st (fun δ => upS (g δ)) := h.imp fun Dn σ H ⟨B, Hk, δ, o, R, e, k⟩ => by
  cases q : g δ with
  | none => simp only [q, upS] at e; cases e
  | some y => simp only [q, upS] at e; cases e; exact ⟨B, Hk, δ, y, R, q, k⟩
theorem dssx_nil : DSsx X C [] (fun δ => some (.o (.next δ))) := pss_nil.imp fun Dn σ H ⟨B, Hk, δ, o, R, e, k⟩ => by
  cases e
  exact k σ H Ext.refl R
theorem dssx_cons (h1 : DSx X C st g1) (h2 : DSsx X C rest g2) : DSsx X C (st :: rest) (fun δ => seqX (g1 δ) g2) :=
  (pss_cons h1 h2).imp fun Dn σ H ⟨B, Hk, δ, o, R, e, k⟩ => by
    cases q : g1 δ with
    | none => simp only [q, seqX] at e; cases e
    | some o1 =>
      cases o1 with
      | rai => simp only [q, seqX] at e; cases e; exact ⟨B, Hk, δ, .rai, R, q, k⟩
      | o y =>
        cases y with
        | next δ1 =>
          simp only [q, seqX] at e
          exact ⟨B, Hk, δ, .o (.next δ1), R, q, fun σ' H' x R' => ⟨B, Hk, δ1, o, R', e, k.ext x⟩⟩
        | brk δ1 => simp only [q, seqX] at e; cases e; exact ⟨B, Hk, δ, _, R, q, k⟩
        | cont δ1 => simp only [q, seqX] at e; cases e; exact ⟨B, Hk, δ, _, R, q, k⟩
        | ret d fr => simp only [q, seqX] at e; cases e; exact ⟨B, Hk, δ, _, R, q, k⟩
theorem dssx_one (h1 : DSx X C st g1) : DSsx X C [st] g1 := pss_one h1
theorem dsx_if {c : Expr} {x y : List Stmt} (hc : DT X c fc) (ha : DSsx X C x g1) (hb : DSsx X C y g2) : DSx X C (.If c x y pos) (fun δ => ifX' (fc δ) (g1 δ) (g2 δ)) :=
  (ps_if hc ha hb).imp fun Dn σ H ⟨B, Hk, δ, o, R, e, k⟩ => by
    unfold ifX' at e
    dsimp only at e
    split at e
    · rename_i q
      exact ⟨B, Hk, δ, true, R, q, fun H1 s1 => iteT ⟨B, Hk, δ, o, R.to s1, e, k.ext (R.ext s1)⟩⟩
    · rename_i q
      exact ⟨B, Hk, δ, false, R, q, fun H1 s1 => iteF ⟨B, Hk, δ, o, R.to s1, e, k.ext (R.ext s1)⟩⟩
    · cases e

def dropX (x : Option (Option D)) (δ : DEnv) : Option OutX := match x with | some (some _) => some (.o (.next δ)) | some none => some .rai | none => none
theorem dsx_expr (h : DEx X C false a fx) (hs : swapsWith a none pos.line X.env = pure false := by rfl) : DSx X C (.Expr a pos) (fun δ => dropX (fx δ) δ) :=
  (ps_expr h hs).imp fun Dn σ H ⟨B, Hk, δ, o, R, e, k⟩ => by
    cases q : fx δ with
    | none => simp only [q, dropX] at e; cases e
    | some r =>
      cases r with
      | none => simp only [q, dropX] at e; cases e; exact ⟨B, Hk, δ, none, R, q, k.1⟩
      | some d => simp only [q, dropX] at e; cases e; exact ⟨B, Hk, δ, some d, R, q, fun v H' s _ => k σ H' (R.ext s) (R.to s)⟩
def retX (x : Option (Option D)) : Option OutX := match x with | some (some d) => some (.o (.ret d false)) | some none => some .rai | none => none
theorem dsx_ret (ha : DEx X C false a fx) : DSx X C (.Return (some a) pos) (fun δ => retX (fx δ)) :=
  (ps_ret ha).imp fun Dn σ H ⟨B, Hk, δ, o, R, e, k⟩ => by
    cases q : fx δ with
    | none => simp only [q, retX] at e; cases e
    | some r =>
      cases r with
      | none => simp only [q, retX] at e; cases e; exact ⟨B, Hk, δ, none, R, q, k.1⟩
      | some d =>
        simp only [q, retX] at e; cases e
        exact ⟨B, Hk, δ, some d, R, q, fun v H' s r => k v H' (R.ext s) (R.same.trans s) (by unfold RepR; rw [if_neg Bool.false_ne_true]; exact r)⟩
end

def outX (x : Option OutX) : Option (Option (D × Bool)) := match x with | some (.o (.ret d fr)) => some (some (d, fr)) | some (.o (.next _)) => some (some (.non, false)) | some .rai => some none | _ => none
def runX (n np : Nat) (g : DEnv → Option OutX) (ds : List D) : Option (Option (D × Bool)) := if ds.length = np then outX (g (startD n ds)) else none
section
variable {P : Program} {w : World} {K : PySem.W.Frag} {mg : Str → Option Value} {base : Heap} {C : Str}
theorem fnX_of {x qual : Str} {st : Stmt} {f : Addr} {fd : FuncData} {N ps : List Str} {k : Nat} {g : DEnv → Option OutX} (F : Fun K x qual st f fd) (S : FnScope N ps (defScope st)) (hb : Binds K fd ps []) (hm : mg x = some (.ref f)) (hns : PySem.W.nsIn K mainGlobals x = some (some (.ref f))) (hn : ps.length ≤ N.length)
    (body : ∀ (cdv : Value) (A : Around) (outer : List Env) (s : Shared) (H : Hp) (E : XK), Room k (A.deeper (envOfC qual (defScope st) s.heap.objs.size f cdv)) → DSsx (cxOf (CX1 P w K C) P w K mg base N qual (defScope st) f cdv A outer s H E) C (defBody st) g) :
    FnX P w K mg base (k + 1) x C (runX N.length ps.length g) := by
  have key : FnOk P w K mg base (CX1 P w K C) (k + 1) f fd ps (spX K C (runX N.length ps.length g)) := by
    obtain ⟨oc, od, kV, doc, pm, an, cdv, ct, osl, rfl, lk, hcd⟩ := F.ex
    refine fn_of lk hcd S (fun vs H Q E h => ?_) fun A outer s H vs Q E hr h => ?_
    · obtain ⟨B, ds, r, _, hr, hf, _⟩ := h
      unfold runX at hf
      by_cases q : ds.length = ps.length
      · rw [← hr.length, q]
      · rw [if_neg q] at hf; cases hf
    · obtain ⟨B, ds, r, hB, hrs, hf, kk⟩ := h
      refine ⟨_, body cdv A outer s H E hr, ?_⟩
      unfold runX at hf
      by_cases q : ds.length = ps.length
      · rw [if_pos q] at hf
        have R : Rel K B H (startD N.length ds) (start N vs) H := rel_start hB hrs (by omega)
        cases qo : g (startD N.length ds) with
        | none => rw [qo] at hf; cases hf
        | some o =>
          rw [qo] at hf
          refine ⟨B, H, startD N.length ds, o, R, by first | exact qo | rfl, ?_⟩
          cases o with
          | rai =>
            simp only [outX, Option.some.injEq] at hf
            subst hf
            exact ⟨throwsF_of kk, throwsM_of kk⟩
          | o y =>
            cases y with
            | ret d fr' =>
              simp only [outX, Option.some.injEq] at hf
              subst hf
              exact fun v H' x s rr => kk v H' s rr
            | next δ =>
              simp only [outX, Option.some.injEq] at hf
              subst hf
              exact fun σ' H' x R' => kk .non H' R'.same (by unfold RepR; rw [if_neg Bool.false_ne_true]; simp only [Rep])
            | brk δ => simp only [outX] at hf; cases hf
            | cont δ => simp only [outX] at hf; cases hf
      · rw [if_neg q] at hf; cases hf
  exact ⟨f, fd, ps, key, hm, F.kp, hb, hns⟩
end
end L2

end

section
set_option maxHeartbeats 1000000
namespace L2
open PySem PySem.Spec PyProof.Rows

abbrev bmV : List Value := [.type "ValueError", .type "Exception", .type "BaseException", .type "object"]

structure ErrC (K : PySem.W.Frag) (mg : Str → Option Value) (C : Str) (c : Addr) : Prop where
  nm : PySem.W.nsIn K mainGlobals C = some (some (.ref c))
  bound : mg C = some (.ref c)
  exc : PySem.W.excIn K c bmV "ValueError.__new__" = true
theorem exc_obj {K : PySem.W.Frag} {h : Heap} {c : Addr} {bmB : List Value} {newId : String} (KX : K.In h) (q : PySem.W.excIn K c bmB newId = true) :
    ∃ tl ns nm qn bs hd sn sub ab col dd k0 k1 k2 k3 k5 mN, h.get? c = some (excClassObj nm qn c ns bs tl hd sn sub ab col dd k0 k1 k2 k3 k5 newId) ∧ h.Ns ns mN ∧ mN "__init__" = none ∧ OwnTail h bmB tl := by
  unfold PySem.W.excIn at q
  split at q
  rotate_left
  · cases q
  rename_i dd cd sl lk
  split at q
  rotate_left
  · cases q
  rename_i c1 tl s0 s1 s2 s3 nid s5 em es
  simp only [beq_iff_eq, Bool.not_eq_true', Bool.and_eq_true] at q
  obtain ⟨⟨⟨⟨⟨z1, z2⟩, z3⟩, z4⟩, z5⟩, z6⟩ := q
  subst z1; subst z2
  have hsl : sl = #[s0, s1, s2, s3, some (.builtin nid), s5] := by
    cases sl with
    | mk l => exact congrArg Array.mk es
  subst hsl
  have lk' := KX _ _ lk
  obtain ⟨nm, bs, mro, ns, qn, hd, sn, sub, ab, col, del⟩ := cd
  cases em; cases z3
  exact ⟨tl, ns, nm, qn, bs, hd, sn, sub, ab, col, dd, s0, s1, s2, s3, s5, _, lk', .of_isNs (PySem.W.isNs_of_in KX z5), PySem.W.nsMap_none_of_in KX z5 z6, PySem.W.tail_of_in KX z4⟩
section
variable {X : Cx} {C : Str} {c : Addr} {m : Bool} {a : Expr} {fa : DEnv → Option D} {np cpos pos : Pos}
def raiO (x : Option D) : Option OutX := match x with | some _ => some .rai | none => none
theorem dsx_raise (hc : X.calm = true) (ec : ErrC X.K X.mg C c) (hg : Gl X C) (ha : DE X m a fa) (hd : (C == ("__debug__" : Str)) = false := by decide)
    (he : starEach [a] X.env = [(false, eval a X.env)] := by rfl) : DSx X C (.Raise (some (.Call (.Name C np) [a] [] cpos)) none pos) (fun δ => raiO (fa δ)) := by
  intro pins s σ H Dn I ⟨B, Hk, δ, o, R, e, k⟩
  cases q : fa δ with
  | none => simp only [q, raiO] at e; cases e
  | some d =>
    simp only [q, raiO] at e; cases e
    obtain ⟨tF, tM⟩ := (show ThrowsF X C Hk ∧ ThrowsM X C Hk from k)
    obtain ⟨tl, ns, nm, qn, bs, hdc, sn, sub, ab, col, dd, k0, k1, k2, k3, k5, mN, o1, o2, o3, o4⟩ := exc_obj I.mod.kin ec.exc
    refine wpAny_Raise_call_subT (B := "ValueError") (initId := "ValueError.__init__") (nm := nm) (q := qn) (C := c) (N := ns) (bs := bs) (bm := tl) (hdct := hdc) (sn := sn) (sub := sub) (ab := ab) (col := col) (dd := dd) (k0 := k0) (k1 := k1) (k2 := k2) (k3 := k3) (k5 := k5)
      (mN := mN) PySem.F.excBase_ValueError (o4.hasType (by decide)) (I.ok.hd hc) (by rw [he]; rfl) o3 (ld_glob I hg ec.bound ⟨rfl, ?_⟩ hd)
    rw [he]
    have ar : DA X m [a] (fun δ => consO (fa δ) (some [])) := da_cons ha da_nil (by rw [he]; rfl)
    have w1 := ar cpos pins s σ H (fun vs H' => Same H H' ∧ vs.length = 1) I ⟨B, Hk, δ, [d], R, by simp only [q]; rfl, fun vs H' s1 rs => ⟨s1, rs.length.symm⟩⟩
    rw [he] at w1
    refine Calls.evalArgs_plain (wpAny_mono w1 (fun us s2 ⟨vs, H2, I2, rv, sm, hl⟩ => ?_) fun _ _ y => y)
    have kp : ∀ b o, X.base.get? b = some o → s2.heap.get? b = some o := I2.bk
    refine ⟨rfl, ?_, kp _ _ o1, o2.keeps kp, o4.keeps kp, fun h' e2 mk => tM pins σ H2 s2 e2 c h' us I2 ec.nm mk (R.same.trans sm)⟩
    rw [← rv.length, hl]; decide
end
end L2

end

section
set_option maxHeartbeats 1000000
namespace L2
open PySem PySem.Spec PyProof.Rows

theorem setFlight_any {M : Model} {A : Around} {E : Value → Shared → Prop} {s : Shared} {base : Heap} {l : List Env} {e : Addr} {fr : Option Addr} {cls a0 fl : Value} {Q : Unit → Shared → Prop} (st : base.StaysIn s.heap) (fu : s.heap.FunFrames base l) (tr : s.heap.TracedAtW base e cls a0 fl)
    (h : ∀ h', base.StaysIn h' → h'.FunFrames base l → h'.TracedAtW base e cls a0 (fr.elim .none fun f => rawInt f) → s.heap.UpToSlots h' → Q () { s with heap := h' }) : wpAny M A (setFlight (.ref e) fr) Q E s := by
  obtain ⟨oe, vs, T, oT, ts, g1, g0, g2, g3, g4, g5, g6, g7, g8⟩ := tr
  have hl : 3 < ts.size := (Array.getElem?_eq_some_iff.mp g8).1
  have apart : ∀ b o, s.heap.get? b = some o → (∀ ws, o.data ≠ .fields ws) → b ≠ T := fun b o q nf y => by
    subst y; rw [g6] at q; cases q; exact nf ts g7
  have rest : ∀ b, b ≠ T → (s.heap.update T (Obj.mapFields (·.setIfInBounds 3 (fr.elim Value.none fun f => rawInt f)))).get? b = s.heap.get? b := fun b y => Heap.get?_update_other _ _ fun q => y q.symm
  unfold setFlight
  refine wpAny_bind (wpAny_field g1 g2 g3 ?_)
  rw [if_pos (by simp)]
  refine wpAny_setField g6 g7 hl (h _ (fun b o q => (rest b fun y => by rw [y, g4] at q; cases q).trans (st b o q)) (fu.of_keeps fun b o q nf => ⟨o, (rest b (apart b o q nf)).trans q, rfl⟩) ?_ fun b o q nf => ⟨o.slots, (rest b (apart b o q nf)).trans q⟩)
  refine ⟨oe, vs, T, _, _, (rest e fun y => g5 y.symm).trans g1, g0, g2, g3, g4, g5, Heap.get?_update_self _ g6 (Obj.isFreed_of_fields (Obj.data_mapFields g7 _)), Obj.data_mapFields g7 _, ?_⟩
  simp [hl]
theorem funFrames_but {base h h' : Heap} : ∀ {l : List Env}, (∀ b ∈ frs l, ∀ o, h.get? b = some o → h'.get? b = some o) → h.FunFrames base l → h'.FunFrames base l
  | [], _, _ => trivial
  | env :: r, k, ⟨h1, ⟨L, o, h2, h3, h4, h5⟩, h6⟩ =>
    ⟨h1, ⟨L, o, h2, h3, k L (by unfold frs; rw [List.filterMap_cons, h2]; exact List.mem_cons_self) o h4, h5⟩, funFrames_but (fun b hb => k b (by unfold frs; rw [List.filterMap_cons, h2]; exact List.mem_cons_of_mem _ hb)) h6⟩

section
variable {prog : Program} {w : World} {A : Around} {R : Result → Shared → Prop} {s : Shared}
theorem compLoop_goX {elt target iter : Expr} {ifs : List Expr} {scope : Scope} {pos : Pos} {it acc : Value} {env : Env} {W : Value → Shared → Prop} (I : Nat → Shared → Prop)
    (turn : ∀ n s, I n s → wpAny (model prog w) A (pyNext it) (fun r s₁ => match r with
      | none => R (.ok .next) s₁
      | some v => wpAny (model prog w) A (letOwnedTupleGo target it v) (fun _ s₁ => wpAny (model prog w) A (assign target env v) (fun _ s₂ =>
          wpAny (model prog w) A (forIn ifs true fun c r => if r = true then do let ok ← isTrue c env (eval c env); pure (ForInStep.yield ok) else pure (ForInStep.yield r)) (fun ok s₃ =>
            if ok = true then wpAny (model prog w) A (eval elt env) (fun x s₄ =>
              wpAny (model prog w) A (call (.builtin "list.append") [acc, x]) (fun _ s₅ => ∃ m, m < n ∧ I m s₅) W s₄) W s₃
            else ∃ m, m < n ∧ I m s₃) W s₂) W s₁) W s₁) W s)
    (hW : ∀ x s', W x s' → notedBy (model prog w) A env (fun x s'' => R (.error x) s'') x s')
    (n : Nat) (h : I n s) :
    codeAny (model prog w) A (.compLoop (.ListComp elt [⟨target, iter, ifs, 0⟩] scope pos) 0 it acc env) R s := by
  refine codeAny_loop rfl I (fun n s hI => ?_) n h
  show wpAny _ A ((compTurn (.ListComp elt [⟨target, iter, ifs, 0⟩] scope pos) 0 it acc env).onRaise (fun x => do noteFrame x env; theTreesLotGoes x)) _ _ s
  refine wpAny_noted ?_
  rw [compTurn_list]
  refine wpAny_bind (wpAny_standAt (wpAny_bind (wpAny_mono (turn n s hI) (fun r s₁ h₁ => ?_) hW)))
  cases r with
  | none => exact wpAny_pure h₁
  | some v =>
    refine wpAny_bind (wpAny_mono h₁ (fun _ s₁' h₁' => ?_) hW)
    refine wpAny_bind (wpAny_mono h₁' (fun _ s₂ h₂ => wpAny_bind (wpAny_mono h₂ (fun ok s₃ h₃ => ?_) hW)) hW)
    cases ok with
    | false => exact wpAny_pure ⟨rfl, h₃⟩
    | true =>
      exact wpAny_bind (wpAny_bind (wpAny_mono h₃ (fun x s₄ h₄ => wpAny_bind (wpAny_mono h₄ (fun _ s₅ h₅ => wpAny_pure (wpAny_pure ⟨rfl, h₅⟩)) hW)) hW))
end

def WC (X : Cx) (Cn : Str) (Hk : Hp) (scope : Scope) (cl : List (Str × Addr)) (C : Addr) (s₂ : Shared) (H₂ : Hp) (ex : List Addr) (pn : List (Addr × Obj)) : Value → Shared → Prop := fun e s' =>
  ∃ a c a0 B H H' s pins σ, e = .ref a ∧ Inv (cxComp X scope cl C s₂ H₂ ex pn) pins σ H s ∧ Fly X.prog X.w X.K Cn X.stack .none a a0 B H H' s c s' ∧ Same Hk H'

section
variable {X : Cx} {elt tg iter : Expr} {ifs : List Expr} {scope : Scope} {pos : Pos} {wi : TI} {g : TG} {tt : TT} {te : TE} {bs : List Bool} {Cn : Str} {Hk : Hp}

theorem WC.at {pins : List (Addr × Obj)} {σ : St} {H3 : Hp} {s3 s' : Shared} {fp : List Addr} {cl : List (Str × Addr)} {a c : Addr} {a0 : Value} {B : Heap} {H H' : Hp} {s : Shared} {pins' : List (Addr × Obj)} {σ' : St} {pn : List (Addr × Obj)}
    (I3 : Inv X pins σ H3 s3) (hf : ∀ b ∈ fp, FpOk X pins H3 b) (I : Inv (cxComp X scope cl s3.heap.objs.size s3 H3 fp pn) pins' σ' H s) (F : Fly X.prog X.w X.K Cn X.stack .none a a0 B H H' s c s') :
    FlyAt X Cn .none a a0 (PySem.W.hideAll B [s3.heap.objs.size]) H' c s' := by
  have J : Inv (cxComp X scope cl s3.heap.objs.size s3 H3 fp pn) pins' σ' H' s' := Fly.inv (X := cxComp X scope cl s3.heap.objs.size s3 H3 fp pn) F I
  have F0 : FlyAt (cxComp X scope cl s3.heap.objs.size s3 H3 fp pn) Cn .none a a0 B H' c s' := Fly.at (X := cxComp X scope cl s3.heap.objs.size s3 H3 fp pn) F I
  have sub : (PySem.W.hideAll B [s3.heap.objs.size]).StaysIn B := fun b o q => PySem.W.of_hideAll _ q
  have hid : ∀ b, B.get? b = none → (PySem.W.hideAll B [s3.heap.objs.size]).get? b = none := fun b n => by
    cases q : (PySem.W.hideAll B [s3.heap.objs.size]).get? b with
    | none => rfl
    | some o => have := sub b o q; rw [n] at this; cases this
  have nfp : ∀ b o, X.s₀.heap.get? b = some o → b ∉ X.ex → b ∉ fp := fun b o q hx z => by
    rcases (hf b z).2.2.2.1 with y | y
    · exact hx y
    · exact absurd (Nat.lt_of_lt_of_le (Heap.lt_size q) y) (Nat.lt_irrefl _)
  have free : (cxComp X scope cl s3.heap.objs.size s3 H3 fp pn).env.locals = s3.heap.objs.size := rfl
  have hC : H' s3.heap.objs.size = none := J.free
  refine ⟨F0.os.trans I3.os, F0.bare, F0.cls, fun b o q n hx => ?_, fun b o q n hb hx => ?_, fun b o q => F0.stay b o (sub b o q), hid _ F0.new, PySem.W.funFrames_base sub F0.fun_, ?_, fun b o q n hb hx => ?_, fun b u q => ?_⟩
  · obtain ⟨o', e⟩ := I3.base.there b o q hx
    exact F0.free b o' e (I3.base.free b o q n hx) (nfp b o q hx)
  · obtain ⟨sl, e⟩ := I3.base.slot b o q n (I3.ok.stkOut q hb) hx
    obtain ⟨sl', e'⟩ := F0.slot b _ e (I3.base.free b o q n hx) hb (nfp b o q hx)
    exact ⟨sl', e'⟩
  · obtain ⟨oe, vs, T, oT, ts, g1, g0, g2, g3, g4, g⟩ := F0.tr
    exact ⟨oe, vs, T, oT, ts, g1, g0, g2, g3, hid _ g4, g⟩
  · have e := I3.base.keep b o q n (fun z => hb (I3.ok.outStk z)) hx
    refine PySem.W.hideAll_get _ (F0.old b o e (I3.base.free b o q n hx) hb (nfp b o q hx)) fun z => ?_
    rw [List.mem_singleton] at z
    exact absurd (Heap.lt_size e) (by rw [z]; exact Nat.lt_irrefl _)
  · have ne : ∀ d v, H' d = some v → d ∉ [s3.heap.objs.size] := fun d v r z => by
      rw [List.mem_singleton] at z
      rw [z, hC] at r; cases r
    refine (F0.ok b u q).stay (fun d v hd r => PySem.W.hideAll_get _ r ?_) (fun d r => r) fun d xs r => r
    rcases hd with rfl | hd
    · exact ne _ _ q
    · exact ne _ _ hd

theorem err_comp {pins : List (Addr × Obj)} {σ : St} {H3 : Hp} {s3 s' : Shared} {fp : List Addr} {cl : List (Str × Addr)} {pn : List (Addr × Obj)} {e acc : Value} {Q : Value → Shared → Prop} {use : Option (Value → Sem Unit)}
    (hst : X.stack = X.env :: X.outer ∧ X.env.frame = some X.env.locals) (th : ThrowsF X Cn Hk) (I3 : Inv X pins σ H3 s3) (hf : ∀ b ∈ fp, FpOk X pins H3 b) (hw : WC X Cn Hk scope cl s3.heap.objs.size s3 H3 fp pn e s') :
    notedBy (model X.prog X.w) X.A (compEnvC scope cl s3.heap.objs.size X.env) (fun x s'' => compPost (model X.prog X.w) X.A X.xe use Q acc s3.heap.objs.size (.error x) s'') e s' := by
  obtain ⟨a, c, a0, B, H, H', s, pins', σ', rfl, I, F, sm⟩ := hw
  have J : Inv (cxComp X scope cl s3.heap.objs.size s3 H3 fp pn) pins' σ' H' s' := Fly.inv (X := cxComp X scope cl s3.heap.objs.size s3 H3 fp pn) F I
  have FA := WC.at I3 hf I F
  generalize hB : PySem.W.hideAll B [s3.heap.objs.size] = B' at FA
  have BC : B'.get? s3.heap.objs.size = none := by rw [← hB]; exact PySem.W.hideAll_none _ (List.mem_singleton.mpr rfl)
  obtain ⟨m, hns, _⟩ := J.loc
  have hns : s'.heap.Ns s3.heap.objs.size m := hns
  have frC : ∀ b ∈ frs X.stack, b ≠ s3.heap.objs.size := fun b hb z => by
    obtain ⟨_, o, q, _⟩ := I3.stack.mem hb
    exact absurd (Heap.lt_size q) (by rw [z]; exact Nat.lt_irrefl _)
  show wpAny (model X.prog X.w) X.A (noteFrame (.ref a) X.env) _ _ s'
  have hfr : X.A.frames = some (X.env :: X.outer) := by rw [← hst.1]; exact I3.ok.frames
  have fu0 : s'.heap.FunFrames B' (X.env :: X.outer) := by rw [← hst.1]; exact FA.fun_
  refine note_any hfr hst.2 FA.stay FA.new fu0 FA.tr fun h1 k1 k2 k3 k4 => ?_
  have F1 : FlyAt X Cn (rawInt X.env.locals) a a0 B' H' c { s' with heap := h1 } := FA.go k1 (by rw [hst.1]; exact k2) k3 k4
  have ns1 : h1.Ns s3.heap.objs.size m := k4.ns hns
  have post : ∃ m, h1.Ns s3.heap.objs.size m ∧ ∀ h', Heap.SameBut s3.heap.objs.size h1 h' → ∀ cenv : Env, cenv.locals = s3.heap.objs.size → wpAny (model X.prog X.w) X.A (PySem.passOn "comprehension.variables-let-go" (.ref a) cenv : Sem Value) (fun _ _ => False) X.xe { s' with heap := h' } := by
    refine ⟨m, ns1, fun h' sb cenv _ => ?_⟩
    have dictC : ∀ b o vs, h1.get? b = some o → o.data = .fields vs → b ≠ s3.heap.objs.size := fun b o vs q d z => by
      obtain ⟨o', es, ep, q', d', _⟩ := ns1
      rw [z, q'] at q; cases q
      rw [d'] at d; cases d
    obtain ⟨oe, vs, T, oT, ts, g1, g0, g2, g3, g4, g5, g6, g7, g8⟩ := F1.tr
    have e1 : h'.get? a = some oe := (sb.2 a (dictC a oe vs g1 g2)).trans g1
    have e2 : h'.get? T = some oT := (sb.2 T (dictC T oT ts g6 g7)).trans g6
    have st' : B'.StaysIn h' := fun b o q => (sb.2 b fun z => by rw [z, BC] at q; cases q).trans (k1 b o q)
    have fu' : h'.FunFrames B' X.stack := funFrames_but (fun b hb o q => (sb.2 b (frC b hb)).trans q) F1.fun_
    have tr' : h'.TracedAtW B' a (.ref c) a0 (rawInt X.env.locals) := ⟨oe, vs, T, oT, ts, e1, g0, g2, g3, g4, g5, e2, g7, g8⟩
    have F2 : FlyAt X Cn (rawInt X.env.locals) a a0 B' H' c { s' with heap := h' } := F1.goF st' fu' tr' fun b o hb q nf => ⟨o.slots, (sb.2 b (frC b hb)).trans q⟩
    unfold PySem.passOn
    refine wpAny_bind (wpAny_field e1 g2 g3 ?_)
    rw [if_neg (by simp)]
    refine wpAny_bind (setFlight_any F2.stay F2.fun_ F2.tr fun h2 y1 y2 y3 y4 => ?_)
    exact wpAny_throw (th _ a a0 B' H' c { s' with heap := h2 } I3.ok (F2.go y1 y2 y3 y4) sm)
  unfold compPost
  cases use <;> exact post

theorem comp_blockX {pins : List (Addr × Obj)} {σ : St} {H : Hp} {s : Shared} {it : Addr} {fp : List Addr} {tn : Nat → Heap → Prop} {J : It} {Q : VK} {E : Value → Shared → Prop} {RR : Value → Addr → Result → Shared → Prop}
    (hc : X.calm = true) (S : CompScope X scope bs)
    (hg : ∀ cl C s₂ H₂ ex pn, PG (cxComp X scope cl C s₂ H₂ ex pn) tg g) (ht : ∀ cl C s₂ H₂ ex pn, PTs (cxComp X scope cl C s₂ H₂ ex pn) ifs tt) (he : ∀ cl C s₂ H₂ ex pn, PE ((cxComp X scope cl C s₂ H₂ ex pn).wish (WC X Cn Hk scope cl C s₂ H₂ ex pn)) elt te)
    (I : Inv X pins σ H s) (T : Turn X.prog X.w X.K tg J fp it tn) (st : tn 0 s.heap) (hf : ∀ b ∈ fp, FpOk X pins H b)
    (hq : ∀ acc, H acc = none →
      ∃ W : Nat → Nat → List V → St → Hp → Prop, (∃ m, W 0 m [] (mask bs σ) (upd H acc (.lst []))) ∧ ∀ i m ys σ H, W i m ys σ H → H acc = some (.lst ys) ∧
        ((J.stop i H ∧ Q (.ref acc) H) ∨ (J.go i H ∧ ∀ x H', J.yld i H x H' → g x σ H' fun σ2 H2 => tt σ2 H2 fun ok H3 => if ok = true
          then te σ2 H3 fun v H4 => H4 acc = some (.lst ys) ∧ ys.length < sizeLine ∧ ∃ m', m' < m ∧ W (i + 1) m' (ys ++ [v]) σ2 (upd H4 acc (.lst (ys ++ [v])))
          else ∃ m', m' < m ∧ W (i + 1) m' ys σ2 H3)))
    (hRR : ∀ D C s' H' m', Inv X pins σ H' s' → Q (.ref D) H' → s'.heap.Ns C m' → H' C = none → C ≠ X.env.locals → C ∉ X.fs → X.s₀.heap.objs.size ≤ C → (∀ x c, X.env.cells.lookup x = some c → c ≠ C) → (∀ p ∈ X.pn ++ pins, p.1 ≠ C) →
      RR (.ref D) C (.ok .next) s')
    (hEr : ∀ D s3 H3 e s', Inv X pins σ H3 s3 → (∀ b ∈ fp, FpOk X pins H3 b) → WC X Cn Hk scope (closL X.env scope.names []) s3.heap.objs.size s3 H3 fp (X.pn ++ pins) e s' →
      notedBy (model X.prog X.w) X.A (compEnvC scope (closL X.env scope.names []) s3.heap.objs.size X.env) (fun x s'' => RR (.ref D) s3.heap.objs.size (.error x) s'') e s') :
    wpAny (model X.prog X.w) X.A (newList []) (fun acc s₃ => wpAny (model X.prog X.w) X.A (newFunctionEnv scope X.env.globals (closL X.env scope.names []) [] X.env.qual none .none (some X.env)) (fun cenv s₄ =>
      codeAny (model X.prog X.w) X.A (.compStart (.ListComp elt [⟨tg, iter, ifs, 0⟩] scope pos) 0 (.ref it) acc { cenv with scope := relabel scope X.env }) (RR acc cenv.locals) s₄) E s₃) E s := by
  refine wpAny_newObj_type ?_
  have hfr : H s.heap.objs.size = none := I.fresh
  have I3 : Inv X pins σ (upd H s.heap.objs.size (.lst [])) { s with heap := s.heap.push { cls := .type "list", dict := none, data := .seq ([] : List Value).toArray } } := I.lnew (its := []) (t' := s.toks) .nil (Nat.zero_le _)
  have stp : tn 0 (s.heap.push { cls := .type "list", dict := none, data := .seq ([] : List Value).toArray }) := T.keep _ _ _ st fun b _ o e => Heap.get?_push_of_some _ e
  have hlt : ∀ b ∈ fp, b < s.heap.objs.size := fun b hb => by
    obtain ⟨o, e, _⟩ := T.obj _ _ st b hb
    exact Heap.lt_size e
  have f3 : ∀ b ∈ fp, FpOk X pins (upd H s.heap.objs.size (.lst [])) b := fun b hb => ⟨by rw [upd_ne (Nat.ne_of_lt (hlt b hb))]; exact (hf b hb).1, (hf b hb).2⟩
  obtain ⟨W, ⟨m0, w0⟩, turn⟩ := hq s.heap.objs.size hfr
  generalize hacc : s.heap.objs.size = acc at *
  generalize hs3 : ({ s with heap := s.heap.push { cls := .type "list", dict := none, data := .seq ([] : List Value).toArray } } : Shared) = s3 at *
  have stp3 : tn 0 s3.heap := by rw [← hs3]; exact stp
  refine wpAny_newFunctionEnv S.cell (fun y hy => by simp at hy) (fun h₁ hns₁ hsb₁ => ?_) S.kind
  have keep : ∀ b o, s3.heap.get? b = some o → h₁.get? b = some o := fun b o e => (hsb₁.2 b (Nat.ne_of_lt (Heap.lt_size e))).trans (Heap.get?_push_of_some _ e)
  have ob3 : ∀ b ∈ fp, ∃ o, s3.heap.get? b = some o := fun b hb => by
    obtain ⟨o, e, _⟩ := T.obj _ _ stp3 b hb
    exact ⟨o, e⟩
  have I4 := inv_comp (t' := s3.toks + ([] : List (Str × Value)).length) S I3 f3 ob3 hns₁ keep
  have st4 : tn 0 h₁ := T.keep _ _ _ stp3 fun b _ o e => keep b o e
  have stat : ∀ {H' : Hp} {pl : List (Addr × Obj)}, (∀ b ∈ fp, H' b = none) → ∀ b ∈ fp, FpOk (cxComp X scope (closL X.env scope.names []) s3.heap.objs.size s3 (upd H acc (.lst [])) fp (X.pn ++ pins)) [] H' b := fun {H' pl} hn b hb => by
    obtain ⟨_, f1, f2, f3', f4, f5⟩ := f3 b hb
    obtain ⟨o, e⟩ := ob3 b hb
    refine ⟨hn b hb, Nat.ne_of_lt (Heap.lt_size e), fun z => ?_, .inl hb, fun x c e => f4 x c (closL_cons X.env scope.names [] (S.has I3) (fun x c e => by simp at e) x c e), fun p hp => ?_⟩
    · rcases List.mem_cons.mp (I3.stkSub b z) with q | q
      · exact f1 q
      · exact f2 q
    · have q : p ∈ (X.pn ++ pins) ++ ([] : List (Addr × Obj)) := hp
      rw [List.append_nil] at q
      exact f5 p q
  let X' : Cx := cxComp X scope (closL X.env scope.names []) s3.heap.objs.size s3 (upd H acc (.lst [])) fp (X.pn ++ pins)
  have loop : ∀ s5 : Shared, s5 = { s3 with heap := h₁, toks := s3.toks + ([] : List (Str × Value)).length } →
      codeAny (model X.prog X.w) X.A (.compLoop (.ListComp elt [⟨tg, iter, ifs, 0⟩] scope pos) 0 (.ref it) (.ref acc) (compEnvC scope (closL X.env scope.names []) s3.heap.objs.size X.env)) (RR (.ref acc) s3.heap.objs.size) s5 := by
    rintro s5 rfl
    refine compLoop_goX (W := WC X Cn Hk scope (closL X.env scope.names []) s3.heap.objs.size s3 (upd H acc (.lst [])) fp (X.pn ++ pins)) (fun n s' => ∃ i ys σ' H', Inv (cxComp X scope (closL X.env scope.names []) s3.heap.objs.size s3 (upd H acc (.lst [])) fp (X.pn ++ pins)) [] σ' H' s' ∧ tn i s'.heap ∧ (∀ b ∈ fp, H' b = none) ∧ W i n ys σ' H') ?_ (fun e s' hw => hEr acc s3 (upd H acc (.lst [])) e s' I3 f3 hw) m0
      ⟨0, [], mask bs σ, upd H acc (.lst []), I4, st4, fun b hb => (f3 b hb).1, w0⟩
    rintro n s6 ⟨i, ys, σ6, H6, I6, st6, fr6, w6⟩
    obtain ⟨hac, way⟩ := turn i n ys σ6 H6 w6
    rcases way with ⟨stop, qn⟩ | ⟨go, step⟩
    · refine thn (T.done X' rfl rfl rfl hc i [] s6 σ6 H6 (WC X Cn Hk scope (closL X.env scope.names []) s3.heap.objs.size s3 (upd H acc (.lst [])) fp (X.pn ++ pins)) I6 (stat (pl := []) fr6) st6 stop) fun r s7 ⟨hr, I7⟩ => ?_
      subst hr
      obtain ⟨m', hn', _⟩ := I7.loc
      have IX := inv_back (C := s3.heap.objs.size) I3 f3 I7
      refine hRR acc s3.heap.objs.size s7 H6 m' IX qn hn' I7.free (Nat.ne_of_gt I3.lt) (I3.nofs (Nat.le_refl _)) I3.sz (fun x c e z => ?_) fun p hp z => ?_
      · obtain ⟨v, q⟩ := I3.cell x c e
        exact absurd q.lt (by rw [z]; exact Nat.lt_irrefl _)
      · exact absurd (Heap.lt_size (I3.pin p hp).1) (by rw [z]; exact Nat.lt_irrefl _)
    · refine thn (T.item X' rfl rfl rfl hc i [] s6 σ6 H6 (WC X Cn Hk scope (closL X.env scope.names []) s3.heap.objs.size s3 (upd H acc (.lst [])) fp (X.pn ++ pins)) I6 (stat (pl := []) fr6) st6 go) fun r s7 ⟨u, hr, h7⟩ => ?_
      subst hr
      refine thn h7 fun _ s8 ⟨x, H8, I8, r8, y8, st8, fr8⟩ => ?_
      have I8' := I8.pinned (stat (pl := []) fr8) (T.obj _ _ st8)
      refine wpAny_mono (hg _ _ _ _ _ _ _ s8 σ6 H8 x u _ I8' r8 (step x H8 y8)) (fun _ s9 ⟨σ9, H9, I9, q9⟩ => ?_) fun _ _ z => (show False from z).elim
      refine wpAny_mono (ht _ _ _ _ _ _ _ s9 σ9 H9 _ I9 q9) (fun ok s10 ⟨H10, I10, q10⟩ => ?_) fun _ _ z => (show False from z).elim
      have back : ∀ {σ' : St} {H' : Hp} {s' : Shared}, Inv (cxComp X scope (closL X.env scope.names []) s3.heap.objs.size s3 (upd H acc (.lst [])) fp (X.pn ++ pins)) ([] ++ pinsAt fp s8.heap) σ' H' s' → tn (i + 1) s'.heap ∧ ∀ b ∈ fp, H' b = none := fun {σ' H' s'} K => by
        refine ⟨T.keep _ _ _ st8 fun b hb o e => (K.pin (b, o) (List.mem_append_right _ (List.mem_append_right _ (mem_pinsAt hb e)))).1, fun b hb => ?_⟩
        obtain ⟨o, e, d⟩ := T.obj _ _ st8 b hb
        exact (K.pin (b, o) (List.mem_append_right _ (List.mem_append_right _ (mem_pinsAt hb e)))).2.1
      cases ok with
      | false =>
        rw [if_neg Bool.false_ne_true] at q10 ⊢
        obtain ⟨m', hm, w'⟩ := q10
        obtain ⟨b1, b2⟩ := back I10
        exact ⟨m', hm, i + 1, ys, σ9, H10, I10.unpinned, b1, b2, w'⟩
      | true =>
        rw [if_pos rfl] at q10 ⊢
        refine thn (he _ _ _ _ _ _ _ s10 σ9 H10 _ (I10.wish _) q10) fun y s11 ⟨v, H11, I11', r11, hac11, hz, m', hm, w'⟩ => ?_
        have I11 := I11'.unwish
        have ap := mt_append (X := X') _ s11 σ9 H11 (.ref acc) [v] (.ref acc) [y] (fun (z : V) (H' : Hp) => H' = upd H11 acc (.lst (ys ++ [v]))) I11 rfl (.cons r11 .nil) ⟨acc, ys, v, rfl, rfl, hac11, hz, rfl⟩
        refine wpAny_mono ap (fun _ s12 ⟨_, H12, I12, _, e12⟩ => ?_) fun _ _ z => (show False from z).elim
        subst e12
        obtain ⟨b1, b2⟩ := back I12
        exact ⟨m', hm, i + 1, ys ++ [v], σ9, _, I12.unpinned, b1, b2, w'⟩
  exact codeAny_compStart_list (loop _ rfl) (T.self _ 0 _ _ _ st4 (loop _ rfl))

theorem pe_compX (hst : X.stack = X.env :: X.outer ∧ X.env.frame = some X.env.locals) (hc : X.calm = true) (hi : PI X tg iter wi) (S : CompScope X scope bs)
    (hg : ∀ cl C s₂ H₂ ex pn, PG (cxComp X scope cl C s₂ H₂ ex pn) tg g) (ht : ∀ cl C s₂ H₂ ex pn, PTs (cxComp X scope cl C s₂ H₂ ex pn) ifs tt) (he : ∀ cl C s₂ H₂ ex pn, PE ((cxComp X scope cl C s₂ H₂ ex pn).wish (WC X Cn Hk scope cl C s₂ H₂ ex pn)) elt te)
    (th : ThrowsF X Cn Hk) (hs : ∀ x, foldedSetIterable iter X.env x = pure x := by intro _; rfl) : PE X (.ListComp elt [⟨tg, iter, ifs, 0⟩] scope pos) (tComp wi bs g tt te) := by
  intro pins s σ H Q I h
  rw [eval_ListComp]
  refine wpAny_comprehension_free (use := none) rfl hs (closureFor_eq (S.has I)) S.kind S.loc (thn (hi pins s σ H _ I h) fun v s1 h1 => thn h1 fun itv s2 h2 => ?_)
  obtain ⟨it, fp, tn, J, H2, e, I2, T, st2, f2, hq⟩ := h2
  subst e
  refine comp_blockX (Cn := Cn) (Hk := Hk) (RR := fun acc C => compPost (model X.prog X.w) X.A X.xe none (EP X pins σ Q) acc C) hc S hg ht he I2 T st2 f2 hq ?_ ?_
  · intro D C s' H' m' I' q' hn hC hL hF hz hcl hp
    refine ⟨m', hn, fun h'' hs'' => ⟨.ref D, H', ?_, rfl, q'⟩⟩
    exact I'.turned (t' := s'.toks) (fun b o hb e => (hs''.2 b hb).trans e) hC hL (.inr hz) hcl hp
  · exact fun D s3 H3 e s' I3 f3 hw => err_comp hst th I3 f3 hw
end
end L2

end

section
set_option maxHeartbeats 1000000
namespace L2
open PySem PySem.Spec PyProof.Rows

def compX (h : D → Option (Option D)) : List D → Option (Option (List D))
  | [] => some (some [])
  | d :: ds => match h d with
    | none => none
    | some none => some none
    | some (some y) => match compX h ds with
      | some (some l) => some (some (y :: l))
      | some none => some none
      | none => none
def itemX (τ : D → DEnv → Option DEnv) (fe : DEnv → Option (Option D)) (δ : DEnv) (d : D) : Option (Option D) := bindO (τ d δ) fe
def runCX (bo : Bool) (bs : List Bool) (τ : D → DEnv → Option DEnv) (fe : DEnv → Option (Option D)) (δ : DEnv) (ds : List D) : Option (Option (List D)) := if ds.length ≤ lim then compX (itemX τ fe (maskD bo bs δ)) ds else none
def lstX (x : Option (Option (List D))) : Option (Option D) := match x with | some (some ds) => some (some (.lst ds)) | some none => some none | none => none
section
variable {X : Cx} {elt tg iter : Expr} {scope : Scope} {pos : Pos} {bo : Bool} {fi : DEnv → Option (List D)} {τ : D → DEnv → Option DEnv} {fe : DEnv → Option (Option D)} {bs : List Bool} {Cn : Str}
theorem comp_coreX {K : PySem.W.Frag} {σ : St} {H : Hp} {Q : VK} {T : Hp → Prop} (hτ : Anew τ) (hl : bs.length = σ.length) {B : Addr → Prop} {Hk : Hp} {δ : DEnv} {ds : List D} {r : Option (List D)} (R : Rel K B Hk δ σ H) (e1 : fi δ = some ds) (e2 : runCX bo bs τ fe δ ds = some r)
    (k : ∀ ls, r = some ls → ∀ a H', Same H H' → H a = none → (∃ xs, H' a = some (.lst xs) ∧ Reps K (bset bo B δ σ) H' ls xs) → Q (.ref a) H') (hT : r = none → ∀ H1, Same H H1 → T H1) : tComp (tI K bo fi) bs (tG K τ) (tMT K fun _ => some true) (tMR K false fe T) σ H Q := by
  unfold runCX at e2
  by_cases hlim : ds.length ≤ lim
  · rw [if_pos hlim] at e2
    refine ⟨B, Hk, δ, ds, R, e1, fun J H1 s1 it acc hacc => ?_⟩
    have R1 := R.to s1
    have nb : ¬ bset bo B δ σ acc := fun z => by obtain ⟨o, q⟩ := R1.bsH bo acc z; rw [hacc] at q; cases q
    have R2 : Rel K (bset bo B δ σ) H1 (maskD bo bs δ) (mask bs σ) (upd H1 acc (.lst [])) := (rel_block (bo := bo) (bs := bs) R1 hl).to (same_upd hacc)
    have no0 : NoOwn (maskD bo bs δ) := fun j d h => by obtain ⟨_, h2, _⟩ := maskD_get h; cases h2
    have x0 : Ext (bset bo B δ σ) H1 (upd H1 acc (.lst [])) := (same_upd hacc).ext (R1.bsH bo)
    refine ⟨fun i n ys σ' H' => n = ds.length - i ∧ i ≤ ds.length ∧ ys.length ≤ i ∧ H' acc = some (.lst ys) ∧ Ext (bset bo B δ σ) H1 H' ∧ ∃ δ' l1 r2, Rel K (bset bo B δ σ) H1 δ' σ' H' ∧ (∀ d, τ d δ' = τ d (maskD bo bs δ)) ∧ NoOwn δ' ∧ Reps K (bset bo B δ σ) H' l1 ys ∧ compX (itemX τ fe (maskD bo bs δ)) (ds.drop i) = some r2 ∧ (r2 = none → r = none) ∧ ∀ l2, r2 = some l2 → r = some (l1 ++ l2),
      ⟨ds.length, by simp, Nat.zero_le _, Nat.le_refl _, upd_same, x0, maskD bo bs δ, [], r, R2, fun _ => rfl, no0, Reps.nil, e2, fun z => z, fun l2 z => by simpa using z⟩, ?_⟩
    rintro i n ys σ' H' ⟨rfl, hi, hys, ha, x, δ', l1, r2, R', hd', nw', rs, ec, er1, er2⟩
    refine ⟨ha, ?_⟩
    obtain ⟨hst, hgo⟩ := it H' x
    by_cases hlt : i < ds.length
    · obtain ⟨go, yl⟩ := hgo i ds[i] (by simp [hlt])
      refine .inr ⟨go, fun v H2 hy => ?_⟩
      obtain ⟨sy, rv⟩ := yl v H2 hy
      have xy := R'.ext sy
      replace ha := sy acc _ ha
      replace rs := rs.ext xy
      replace x := x.trans xy
      replace R' := R'.to sy
      rw [List.drop_eq_getElem_cons hlt] at ec
      simp only [compX] at ec
      cases q : itemX τ fe (maskD bo bs δ) ds[i] with
      | none => rw [q] at ec; cases ec
      | some oy =>
        rw [q] at ec
        obtain ⟨δ1, q1, q2⟩ := bindO_some q
        have q1' : τ ds[i] δ' = some δ1 := by rw [hd']; exact q1
        have hd1 : ∀ d, τ d δ1 = τ d (maskD bo bs δ) := fun d => by rw [hτ.new _ d _ _ q1', hd' d]
        have nw1 : NoOwn δ1 := hτ.own _ _ _ q1' nw'
        refine ⟨_, H1, δ', ds[i], δ1, R', rv, q1', fun σ3 R3 => ?_⟩
        refine ⟨_, H1, δ1, true, R3, rfl, fun H3 s3 => iteT ?_⟩
        cases oy with
        | none =>
          simp only at ec
          cases ec
          exact ⟨_, H1, δ1, none, R3.to s3, q2, hT (er1 rfl) H1 s1⟩
        | some y =>
          simp only at ec
          cases qc : compX (itemX τ fe (maskD bo bs δ)) (ds.drop (i + 1)) with
          | none => rw [qc] at ec; cases ec
          | some r3 =>
            rw [qc] at ec
            have er3 : (r3 = none → r = none) ∧ ∀ l2, r3 = some l2 → r = some ((l1 ++ [y]) ++ l2) := by
              cases r3 with
              | none => simp only at ec; cases ec; exact ⟨fun _ => er1 rfl, fun l2 z => (by cases z)⟩
              | some l3 =>
                simp only at ec; cases ec
                refine ⟨fun z => (by cases z), fun l2 z => ?_⟩
                cases z
                rw [er2 _ rfl, List.append_assoc]; rfl
            refine ⟨_, H1, δ1, some y, R3.to s3, q2, fun v4 H4 s4 r4 => ?_⟩
            have s34 := s3.trans s4
            have ha4 : H4 acc = some (.lst ys) := s34 acc _ ha
            have x4 : Ext (bset bo B δ σ) H2 H4 := R3.ext s34
            have rs4 : Reps K (bset bo B δ σ) H4 l1 ys := rs.ext x4
            have r4' : Rep K (bset bo B δ σ) H4 y v4 := r4
            have x5 : Ext (bset bo B δ σ) H4 (upd H4 acc (.lst (ys ++ [v4]))) := ext_upd ha4 trivial nb
            have R5 : Rel K (bset bo B δ σ) H1 δ1 σ3 (upd H4 acc (.lst (ys ++ [v4]))) := by
              have R4 := R3.to s34
              refine ⟨fun b o q => ?_, R4.bor, R4.len, fun j d h => ?_, fun j d h => ?_, R4.dis⟩
              · rw [upd_ne (ne_of_none q hacc)]; exact R4.same b o q
              · obtain ⟨v, h1, h2⟩ := R4.var j d h
                exact ⟨v, h1, h2.ext x5⟩
              · exact (nw1 j d h).elim
            refine ⟨ha4, by have := lim_line hlim; omega, ds.length - (i + 1), by omega, rfl, hlt, by rw [List.length_append, List.length_singleton]; omega, upd_same, x.trans (x4.trans x5), δ1, l1 ++ [y], r3, R5, hd1, nw1, ?_, qc, er3.1, er3.2⟩
            exact (rs4.ext x5).append (Reps.cons (r4'.ext x5) Reps.nil)
    · have hE : i = ds.length := by omega
      rw [hE, List.drop_length] at ec
      simp only [compX] at ec
      cases ec
      rw [hE]
      refine .inl ⟨hst, k l1 ?_ acc H' (s1.trans R'.same) (s1.free hacc) ⟨ys, ha, rs⟩⟩
      have := er2 [] rfl
      rwa [List.append_nil] at this
  · rw [if_neg hlim] at e2; cases e2

theorem dfx_comp (hst : X.stack = X.env :: X.outer ∧ X.env.frame = some X.env.locals) (hc : X.calm = true) (hτ : Anew τ) (hi : DI X false tg iter fi) (S : CompScope X scope bs)
    (hg : ∀ cl C s₂ H₂ ex pn, DG (cxComp X scope cl C s₂ H₂ ex pn) tg τ) (he : ∀ cl C s₂ H₂ ex pn W, DEc ((cxComp X scope cl C s₂ H₂ ex pn).wish W) Cn false elt fe)
    (hs : ∀ x, foldedSetIterable iter X.env x = pure x := by intro _; rfl) : DFx X Cn (.ListComp elt [⟨tg, iter, [], 0⟩] scope pos) (fun δ => lstX (bindO (fi δ) (runCX false bs τ fe δ))) := by
  intro pins s σ H Q I ⟨B, Hk, δ, r, R, e, k⟩
  have hl : bs.length = σ.length := by rw [S.len, I.len]
  cases q : bindO (fi δ) (runCX false bs τ fe δ) with
  | none => simp only [q, lstX] at e; cases e
  | some r1 =>
    obtain ⟨ds, e1, e2⟩ := bindO_some q
    cases r1 with
    | some ls =>
      simp only [q, lstX] at e; cases e
      have he' : ∀ cl C s₂ H₂ ex pn, PE (cxComp X scope cl C s₂ H₂ ex pn) elt (tMR X.K false fe fun _ => False) := fun cl C s₂ H₂ ex pn => PE.impT (he cl C s₂ H₂ ex pn fun _ _ => False) fun _ z => z.elim
      refine pe_comp hc hi S hg (fun cl C s₂ H₂ ex pn => dts_nil) he' hs pins s σ H Q I (comp_coreX hτ hl R e1 e2 (fun l hl a H' s1 n ob => ?_) fun z => by cases z)
      cases hl
      exact k a H' s1 n ob
    | none =>
      simp only [q, lstX] at e; cases e
      have th : ThrowsF X Cn Hk := k
      have he' : ∀ cl C s₂ H₂ ex pn, PE ((cxComp X scope cl C s₂ H₂ ex pn).wish (WC X Cn Hk scope cl C s₂ H₂ ex pn)) elt (tMR X.K false fe fun Hk' => Same Hk Hk') := fun cl C s₂ H₂ ex pn =>
        PE.impT (he cl C s₂ H₂ ex pn (WC X Cn Hk scope cl C s₂ H₂ ex pn)) fun Hk' sm pins σ H H' s a c a0 B s' I F sm' => ⟨a, c, a0, B, H, H', s, pins, σ, rfl, I.unwish, F, sm.trans sm'⟩
      exact pe_compX hst hc hi S hg (fun cl C s₂ H₂ ex pn => dts_nil) he' th hs pins s σ H Q I (comp_coreX hτ hl R e1 e2 (fun l hl => by cases hl) fun _ H1 s1 => R.same.trans s1)
end
end L2

end

section
set_option maxHeartbeats 1000000
namespace L2
open PySem PySem.Spec PyProof.Rows

def subIn (K : PySem.W.Frag) (c d : Addr) : Option Bool := match K.lookup c with | some ⟨_, _, .cls cd, _⟩ => some (cd.mro.contains (.ref d)) | _ => none
theorem subIn_tail {K : PySem.W.Frag} {h : Heap} {c d ns : Addr} {tl bs sub : List Value} {nm qn : Str} {hd ab : Bool} {sn : List Str} {col : Option Bool} {dd : Option Addr} {k0 k1 k2 k3 k5 : Option Value} {newId : String} {b : Bool} (KX : K.In h)
    (e : h.get? c = some (excClassObj nm qn c ns bs tl hd sn sub ab col dd k0 k1 k2 k3 k5 newId)) (q : subIn K c d = some b) : (Value.ref c :: tl).contains (.ref d) = b := by
  unfold subIn at q
  split at q
  · rename_i cd _ lk
    have := KX _ _ lk
    rw [e] at this
    cases this
    exact Option.some.inj q
  · cases q
theorem exc_sub {M : Model} {A : Around} {E : Value → Shared → Prop} {s : Shared} {c d ns ns' e : Addr} {oe : Obj} {tl tl' bs bs' sub sub' : List Value} {nm qn nm' qn' : Str} {hd ab hd' ab' : Bool} {sn sn' : List Str} {col col' : Option Bool} {dd dd' : Option Addr} {k0 k1 k2 k3 k5 j0 j1 j2 j3 j5 : Option Value} {newId newId' : String} {b : Bool} {Q : Bool → Shared → Prop}
    (hc : s.heap.get? c = some (excClassObj nm qn c ns bs tl hd sn sub ab col dd k0 k1 k2 k3 k5 newId)) (hd : s.heap.get? d = some (excClassObj nm' qn' d ns' bs' tl' hd' sn' sub' ab' col' dd' j0 j1 j2 j3 j5 newId'))
    (he : s.heap.get? e = some oe) (ho : oe.cls = .ref c) (hb : tl'.contains (.type "BaseException") = true) (hs : (Value.ref c :: tl).contains (.ref d) = b) (hq : Q b s) : wpAny M A (excMatches (.ref e) (.ref d)) Q E s := by
  obtain ⟨h, g, dr, t, os⟩ := s
  have h2 : (Value.ref d :: tl').contains (.type "BaseException") = true := by rw [List.contains_cons, hb, Bool.or_true]
  have f := tc_notTuple
  unfold excMatches
  repeat (first | (with_reducible refine wpAny_loadPart_at he ?_; rw [ho]) | with_reducible refine wpAny_loadPart_at hd ?_ | (with_reducible refine wpAny_isSubtype_exc hd ?_; rw [h2]) | (with_reducible refine wpAny_isSubtype_exc hc ?_; rw [hs]) | wp_step)
  cases b <;> (wp_walk; exact hq)

section
variable {X : Cx} {pins : List (Addr × Obj)} {σ : St} {C : Str} {fl : Value} {H H' : Hp} {s s' : Shared} {a c : Addr} {a0 : Value} {B : Heap}
theorem Fly.fresh (F : Fly X.prog X.w X.K C X.stack fl a a0 B H H' s c s') : s.heap.get? a = none := by
  cases q : s.heap.get? a with
  | none => rfl
  | some o =>
    have hn : H a = none := F.same.free F.notrk
    by_cases z : a ∈ frs X.stack
    · obtain ⟨_, o', x, nf⟩ := F.fun_.mem z
      obtain ⟨oe, vs, _, _, _, g1, _, g2, _⟩ := F.tr
      rw [g1] at x; cases x
      exact (nf vs g2).elim
    · have := F.old a o q hn z
      rw [F.new] at this; cases this

theorem Fly.track (F : Fly X.prog X.w X.K C X.stack fl a a0 B H H' s c s') (I : Inv X pins σ H s) : ∃ oe, oe.cls = .ref c ∧ Inv X pins σ (upd H' a (.frz oe (.own 0))) s' := by
  obtain ⟨oe, vs, T, oT, ts, g1, g0, _⟩ := F.tr
  have n := F.notrk
  refine ⟨oe, g0.1, I.call' (ch := []) F.os ⟨F.un.keep, F.un.slot, fun b o q hn hx => ?_, F.un.there, fun b xs q => ?_, fun b o u q => ?_, fun b ps q => ?_⟩ (fun b u q => ?_) F.bare fun b z => absurd z (by simp)⟩
  · rw [upd_ne (fun z => by rw [z, F.fresh] at q; cases q)]; exact F.free b o q hn
  · rw [upd_ne (ne_of_none (F.same _ _ q) n)]; exact F.same _ _ q
  · rw [upd_ne (ne_of_none (F.same _ _ q) n)]; exact F.same _ _ q
  · exact ⟨#[], by rw [upd_ne (ne_of_none (F.same _ _ q) n), F.same _ _ q]; simp⟩
  · by_cases hb : b = a
    · subst hb; rw [upd_same] at q; cases q; exact ⟨g1, oe, g1⟩
    · rw [upd_ne hb] at q
      exact (F.hok b u q).stay (fun d v _ r => r) (fun d r => by rw [upd_ne (ne_of_none r n)]; exact r) fun d xs r => by rw [upd_ne (ne_of_none r n)]; exact r

theorem Inv.goes {k t' : Nat} {n : Str} {h' : Heap} {v : Option Value} {m : Str → Option Value} (I : Inv X pins σ H s) (hN : X.N.Nodup) (hk : X.N[k]? = some n)
    (hm : ∀ (i : Nat) (x : Str) (v : V), X.N[i]? = some x → σ[i]? = some (some v) → Vis X.env.scope x → ∃ u, RelV v u ∧ Look X.env s.heap m x u) (hn' : h'.Ns X.env.locals (fun x => if x = n then v else m x)) (hs : Heap.SameBut X.env.locals s.heap h') : Inv X pins (σ.set k none) H { s with heap := h', toks := t' } := by
  have lo : ∀ b o, X.s₀.heap.get? b = some o → b ≠ X.env.locals := fun b o e => Nat.ne_of_lt (Nat.lt_of_lt_of_le (Heap.lt_size e) I.ok.above)
  refine ⟨I.ok, I.os, I.bare, ⟨fun b o e n hb hx => (hs.2 b (lo b o e)).trans (I.base.keep b o e n hb hx), fun b o e n hb hx => ?_, I.base.free, fun b o e hx => ?_, I.base.tups, I.base.frzs, I.base.tbls⟩,
    ⟨_, hn', fun j y w e1 e2 e3 => ?_⟩, fun y c e => ?_, I.free, I.freeC, fun p hp => ?_, fun b u e => ?_, by simpa using I.len⟩
  · obtain ⟨sl, e1⟩ := I.base.slot b o e n hb hx
    exact ⟨sl, (hs.2 b (lo b o e)).trans e1⟩
  · obtain ⟨o', e1⟩ := I.base.there b o e hx
    exact ⟨o', (hs.2 b (lo b o e)).trans e1⟩
  · by_cases hj : j = k
    · subst hj
      rw [List.getElem?_set] at e2
      simp at e2
    · rw [List.getElem?_set_ne (Ne.symm hj)] at e2
      obtain ⟨u, r, q⟩ := hm j y w e1 e2 e3
      refine ⟨u, r, ?_⟩
      rcases q with ⟨k1, e⟩ | ⟨k1, c, e, z⟩
      · refine .inl ⟨k1, ?_⟩
        have : y ≠ n := fun e => hj (nodup_ix hN e1 (e ▸ hk))
        simp [this, e]
      · exact .inr ⟨k1, c, e, z.sameBut hs (I.cne y c e)⟩
  · obtain ⟨w', z⟩ := I.cell y c e
    exact ⟨w', z.sameBut hs (I.cne y c e)⟩
  · obtain ⟨e, n, ne, nf, d⟩ := I.pin p hp
    exact ⟨(hs.2 p.1 ne).trans e, n, ne, nf, d⟩
  · refine (I.hok b u e).stay (fun c w' hc q => (hs.2 c ?_).trans q) (fun _ q => q) fun _ _ q => q
    rintro rfl
    rcases hc with rfl | hc
    · rw [I.free] at e; cases e
    · rw [I.free] at hc; cases hc
end
theorem Rel.drop1 {K : PySem.W.Frag} {B : Addr → Prop} {Hk H : Hp} {δ : DEnv} {σ : St} (R : Rel K B Hk δ σ H) (k : Nat) (x : Option V) : Rel K B Hk (δ.set k none) (σ.set k x) H := by
  have key : ∀ (i : Nat) d, (δ.set k none)[i]? = some (some d) → i ≠ k ∧ δ[i]? = some (some d) := fun i d h => by
    by_cases z : i = k
    · subst z
      rw [List.getElem?_set] at h
      simp at h
    · rw [List.getElem?_set_ne (Ne.symm z)] at h; exact ⟨z, h⟩
  refine ⟨R.same, R.bor, by simpa using R.len, fun i d h => ?_, fun i d h => ?_, fun i j d e a hij h1 h2 h3 h4 => ?_⟩
  · obtain ⟨z, h⟩ := key i _ h
    obtain ⟨v, h1, h2⟩ := R.var i d h
    exact ⟨v, by rw [List.getElem?_set_ne (Ne.symm z)]; exact h1, h2⟩
  · obtain ⟨z, h⟩ := key i _ h
    obtain ⟨v, h1, h2⟩ := R.own i d h
    exact ⟨v, by rw [List.getElem?_set_ne (Ne.symm z)]; exact h1, h2⟩
  · obtain ⟨z1, h1⟩ := key i _ h1
    obtain ⟨z2, h2⟩ := key j _ h2
    rw [List.getElem?_set_ne (Ne.symm z1)] at h3
    rw [List.getElem?_set_ne (Ne.symm z2)] at h4
    exact R.dis i j d e a hij h1 h2 h3 h4

section
variable {X : Cx} {C M f x y n : Str} {c cm : Addr} {e : Expr} {es : List Expr} {fs : DEnv → Option (List D)} {p1 p2 p3 p4 p5 p6 p7 p8 p9 p10 : Pos} {kk i j k : Nat} {fm : List D → Option (Option (D × Bool))}

theorem try_err {pins : List (Addr × Obj)} {σ : St} {H1 H' : Hp} {s1 s' : Shared} {a : Addr} {a0 : Value} {B : Heap} {D : Ends} (hno : ∀ e s', X.xe e s' → False) (hst : X.stack = X.env :: X.outer ∧ X.env.frame = some X.env.locals) (hN : X.N.Nodup)
    (hj : X.N[j]? = some y) (lj : Loc X.env.scope y) (fj : X.fn y = true ∨ X.env.scope.names.lookup y = some .local) (hk : X.N[k]? = some n) (lk : X.env.scope.names.lookup n = some .local) (ec : ErrC X.K X.mg C c) (em : ErrC X.K X.mg M cm) (hsub : subIn X.K c cm = some true) (hgM : Gl X M)
    (I : Inv X pins σ H1 s1) (F : Fly X.prog X.w X.K C X.stack .none a a0 B H1 H' s1 c s')
    (hq : ∀ H2 oe, H' a = none → oe.cls = .ref c → H2 = upd H' a (.frz oe (.own 0)) → D.nx (((σ.set k (some (.ref a))).set j (some (.ref a))).set k none) H2)
    (hdM : (M == ("__debug__" : Str)) = false := by decide) (hdn : (n == ("__debug__" : Str)) = false := by decide) (hsw : swapsWith (.Name n p7) (some (.Name y p6)) p8.line X.env = pure false := by rfl) :
    wpAny (model X.prog X.w) X.A (noteFrame (.ref a) X.env) (fun _ s₂ => wpAny (model X.prog X.w) X.A (setFlight (.ref a) none) (fun _ s₃ => wpAny (model X.prog X.w) X.A (handleBy (.ref a) X.env [.ExceptHandler (some (.Name M p5)) (some n) [.Assign [.Name y p6] (.Name n p7) p8] p9]) (SP X pins D) X.xe s₃) X.xe s₂) X.xe s' := by
  have hfr : X.A.frames = some (X.env :: X.outer) := by rw [← hst.1]; exact I.ok.frames
  have fu0 : s'.heap.FunFrames B (X.env :: X.outer) := by rw [← hst.1]; exact F.fun_
  refine note_any hfr hst.2 F.stay F.new fu0 F.tr fun h2 k1 k2 k3 k4 => ?_
  have F2 : Fly X.prog X.w X.K C X.stack (rawInt X.env.locals) a a0 B H1 H' s1 c { s' with heap := h2 } := F.go k1 (by rw [hst.1]; exact k2) k3 k4
  refine setFlight_any F2.stay F2.fun_ F2.tr fun h3 k5 k6 k7 k8 => ?_
  have F3 : Fly X.prog X.w X.K C X.stack .none a a0 B H1 H' s1 c { s' with heap := h3 } := F2.go k5 k6 k7 k8
  have I3 := F3.inv I
  refine wpAny_handleBy_cons (codeAny_handlers_test ?_) (by intro q; cases q)
  refine Calls.Name_function_global I3.ok.kind hgM (Calls.loadGlobal_global (by rw [I3.ok.glob]; exact I3.mod.glob.keeps I3.bk) em.bound ?_) hdM
  obtain ⟨tl, ns, nm, qn, bs, hdc, sn, sub, ab, col, dd, j0, j1, j2, j3, j5, mN, o1, o2, o3, o4⟩ := exc_obj I3.kIn ec.exc
  obtain ⟨tl', ns', nm', qn', bs', hdc', sn', sub', ab', col', dd', i0, i1, i2, i3, i5, mN', r1, r2, r3, r4⟩ := exc_obj I3.kIn em.exc
  obtain ⟨oe, g1, g0⟩ := Heap.TracedAtW.there k7
  refine exc_sub o1 r1 g1 g0 (r4.hasType (by decide)) (subIn_tail I3.kIn o1 hsub) ?_
  show codeAny _ _ _ _ _
  refine codeAny_handlers_suite_as ?_
  refine setFlight_any F3.stay F3.fun_ F3.tr fun h4 k9 k10 k11 k12 => ?_
  have F4 : Fly X.prog X.w X.K C X.stack .none a a0 B H1 H' s1 c { s' with heap := h4 } := F3.go k9 k10 k11 k12
  obtain ⟨oe, hoe, I4⟩ := F4.track I
  refine store_ok (v := .ref a) I4 hN hk (.inl lk) rfl (fun s5 I5 => ?_) (.inr lk)
  refine wpAny_execs_cons (wpAny_Assign_Name ?_ hsw)
  obtain ⟨m5, hn5, hl5⟩ := id I5.loc
  have hks : k < σ.length := by rw [I4.len]; exact (List.getElem?_eq_some_iff.mp hk).1
  obtain ⟨u, ru, lu⟩ := hl5 k n (.ref a) hk (by rw [List.getElem?_set_self hks]) (.inl lk)
  obtain rfl : u = .ref a := ru
  have hu : m5 n = some (.ref a) := by
    rcases lu with ⟨_, z⟩ | ⟨z, _⟩
    · exact z
    · rcases z with z | z
      · have z' : X.env.scope.names.lookup n = some .cell := z
        rw [lk] at z'; cases z'
      · have z' : X.env.scope.names.lookup n = some .free := z
        rw [lk] at z'; cases z'
  refine wpAny_Name (wpAny_loadName_local I5.ok.kind lk hn5 hu ?_) hdn
  refine store_ok (v := .ref a) I5 hN hj lj rfl (fun s6 I6 => wpAny_execs_nil ?_) fj
  obtain ⟨m6, hn6, hl6⟩ := id I6.loc
  refine wpAny_nameGoes_keeps lk hn6 (by rw [I6.ok.kind]; rfl) fun h7 v7 hn7 sb7 => ?_
  exact ⟨_, _, I6.goes hN hk hl6 hn7 sb7, hq _ oe F4.notrk hoe rfl⟩
end
end L2

end

section
set_option maxHeartbeats 1000000
namespace L2
open PySem PySem.Spec PyProof.Rows
section
variable {X : Cx} {C M f x y n : Str} {c cm : Addr} {m : Bool} {e : Expr} {es : List Expr} {fs : DEnv → Option (List D)} {p1 p2 p3 p4 p5 p6 p7 p8 p9 p10 : Pos} {kk i j k : Nat} {fm : List D → Option (Option (D × Bool))}

theorem call_try {pins : List (Addr × Obj)} {σ : St} {H : Hp} {s : Shared} {Q W : Value → Shared → Prop} {B : Addr → Prop} {Hk : Hp} {δ : DEnv} {ds : List D} {r : Option (D × Bool)} (F : FnX X.prog X.w X.K X.mg X.base kk f C fm) (hr : Room kk X.A) (hg : Gl X f) (hno : ∀ e s', X.xe e s' → False)
    (ha : DA X m (e :: es) fs) (I : Inv X pins σ H s) (R : Rel X.K B Hk δ σ H) (e1 : fs δ = some ds) (e2 : fm ds = some r)
    (ok : ∀ d fr, r = some (d, fr) → ∀ v u H1 H' s', Inv X pins σ H' s' → RelV v u → Same H H1 → Same H1 H' → RepR X.K (bset m B δ σ) H1 H' d fr v → Q u s')
    (er : r = none → ∀ H1 s1 H' a c a0 B s', Inv X pins σ H1 s1 → Fly X.prog X.w X.K C X.stack .none a a0 B H1 H' s1 c s' → Same H H1 → Same H H' → W (.ref a) s')
    (hdb : (f == ("__debug__" : Str)) = false := by decide) (he : starEach (e :: es) X.env = (false, eval e X.env) :: starEach es X.env := by rfl) (hpl : (backTo p3 (starEach es X.env)).any (·.1) = false := by rfl) :
    wpAny (model X.prog X.w) X.A (eval (.Call (.Name f p2) (e :: es) [] p3) X.env) Q W s := by
  obtain ⟨q, fd, ps, h1, h2, h3, h4, h5⟩ := F.ex
  refine wpAny_Call_Name_kw (ld_glob I hg h2 ?_ hdb)
  refine PySem.W.callWith_K (h₀ := X.base) I.ok.mod.kin h3 (wpAny_mono (ha p3 pins s σ H (fun vs H1 => Same H H1 ∧ Reps X.K (bset m B δ σ) H1 ds vs) I ⟨B, Hk, δ, ds, R, e1, fun vs H1 s1 rs => ⟨s1, rs⟩⟩) (fun us s1 ⟨vs, H1, I1, r1, sm, rs⟩ => ⟨I1.kIn, ?_⟩) fun e s' z => (hno e s' z).elim) he hpl
  have hsp : spX X.K C fm vs H1 (fun v H' => ∃ d fr, r = some (d, fr) ∧ Same H1 H' ∧ RepR X.K (bset m B δ σ) H1 H' d fr v) (fun _ _ H' => r = none ∧ Same H1 H') := by
    refine ⟨bset m B δ σ, ds, r, (R.to sm).bsH m, rs, e2, ?_⟩
    cases r with
    | none => exact fun c H' _ s2 => ⟨rfl, s2⟩
    | some p => obtain ⟨d, fr⟩ := p; exact fun v H' s2 rr => ⟨d, fr, rfl, s2, rr⟩
  have hl : us.length = ps.length := by rw [← r1.length]; exact h1.len _ _ _ _ hsp
  have hb := h4 s1 us I1.kIn (by rw [List.append_nil]; exact hl)
  rw [List.append_nil] at hb
  refine wpAny_call (codeAny_mono (h1.run X.A X.stack s1 H1 ⟨us, []⟩ us vs _ _ hr I1.env0 hb r1 hsp) fun rr s' hq => ?_)
  cases rr with
  | error ev =>
    obtain ⟨H', c', a, a0, B', rfl, Fl, hz, s2⟩ := hq
    exact er hz H1 s1 H' a c' a0 B' s' I1 Fl sm (sm.trans s2)
  | ok fl =>
    cases fl with
    | ret u =>
      obtain ⟨v, H', I', rv, d, fr, hz, s2, rp⟩ := I1.after hq
      exact ok d fr hz v u H1 H' s' I' rv sm s2 rp
    | next => exact False.elim hq
    | brk => exact False.elim hq
    | cont => exact False.elim hq
def tryO (i j k : Nat) (C : Str) (r : Option (Option (D × Bool))) (δ : DEnv) : Option Out := match r with
  | some (some (d, _)) => if i < δ.length then some (.next (δ.set i (some (d, false)))) else none
  | some none => if j < δ.length then some (.next (((δ.set k none).set j (some (.sp true C, false))).set k none)) else none
  | none => none

structure TryOk (X : Cx) (C M x y n : Str) (c cm : Addr) (i j k : Nat) : Prop where
  no : ∀ e s', X.xe e s' → False
  st : X.stack = X.env :: X.outer ∧ X.env.frame = some X.env.locals
  nd : X.N.Nodup
  li : Lc X i x
  lj : Lc X j y
  nk : X.N[k]? = some n
  lk : X.env.scope.names.lookup n = some .local
  ec : ErrC X.K X.mg C c
  em : ErrC X.K X.mg M cm
  sub : subIn X.K c cm = some true
  gM : Gl X M
  dM : (M == ("__debug__" : Str)) = false
  dn : (n == ("__debug__" : Str)) = false
theorem ds_try (T : TryOk X C M x y n c cm i j k) (F : FnX X.prog X.w X.K X.mg X.base kk f C fm) (hr : Room kk X.A) (hg : Gl X f) (ha : DA X false (e :: es) fs)
    (hdb : (f == ("__debug__" : Str)) = false := by decide) (he : starEach (e :: es) X.env = (false, eval e X.env) :: starEach es X.env := by rfl) (hpl : (backTo p3 (starEach es X.env)).any (·.1) = false := by rfl)
    (hs1 : swapsWith (.Call (.Name f p2) (e :: es) [] p3) (some (.Name x p1)) p4.line X.env = pure false := by rfl) (hs2 : swapsWith (.Name n p7) (some (.Name y p6)) p8.line X.env = pure false := by rfl) :
    DS X (.Try [.Assign [.Name x p1] (.Call (.Name f p2) (e :: es) [] p3) p4] [.ExceptHandler (some (.Name M p5)) (some n) [.Assign [.Name y p6] (.Name n p7) p8] p9] [] [] p10) (fun δ => tryO i j k C (bindO (fs δ) fm) δ) := by
  intro pins s σ H Dn I ⟨B, Hk, δ, o, R, eo, ko⟩
  cases q : bindO (fs δ) fm with
  | none => simp only [q, tryO] at eo; cases eo
  | some r =>
    obtain ⟨ds, e1, e2⟩ := bindO_some q
    refine wpAny_Try_except (wpAny_execs_cons (wpAny_Assign_Name ?_ hs1))
    refine call_try F hr hg T.no ha I R e1 e2 (fun d fr hz v u H1 H' s' I' rv sm1 sm2 rr => ?_) (fun hz H1 s1 H' a c' a0 B' s' I1 Fl sm1 sm2 => ?_) hdb he hpl
    · subst hz
      simp only [q, tryO] at eo
      by_cases hl : i < δ.length
      rotate_left
      · rw [if_neg hl] at eo; cases eo
      rw [if_pos hl] at eo; cases eo
      obtain ⟨v2, H2, I2, rv2, k2⟩ := EP.shareR (Q := fun v H' => Same H H' ∧ Rep X.K B H' d v) R I' rv sm1 sm2 rr fun v H' s1 r1 => ⟨s1, r1⟩
      refine store_ok I2 T.nd T.li.at' T.li.loc rv2 (fun s3 I3 => wpAny_execs_nil (wpAny_execs_nil ?_)) T.li.fnl
      exact ⟨_, H2, I3, ko _ H2 (R.ext k2.1) ((R.to k2.1).set (by rw [← R.len]; exact hl) k2.2)⟩
    · subst hz
      simp only [q, tryO] at eo
      by_cases hl : j < δ.length
      rotate_left
      · rw [if_neg hl] at eo; cases eo
      rw [if_pos hl] at eo; cases eo
      have hc : c' = c := by
        have := Fl.cls
        rw [T.ec.nm] at this
        cases this; rfl
      subst hc
      refine try_err (D := Dn) T.no T.st T.nd T.lj.at' T.lj.loc T.lj.fnl T.nk T.lk T.ec T.em T.sub T.gM I1 Fl (fun H2 oe hn ho hH => ?_) T.dM T.dn hs2
      subst hH
      have s3 : Same H (upd H' a (.frz oe (.own 0))) := sm2.trans (same_upd hn)
      have R3 := R.to s3
      refine ko _ _ (R.ext s3) ((((R3.drop1 k (some (.ref a))).set ?_ ?_).drop1 k none))
      · rw [List.length_set, ← R.len]; exact hl
      · simp only [Rep]
        exact ⟨a, oe, c', 0, rfl, upd_same, ho, T.ec.nm⟩
end
end L2

end

section
set_option maxHeartbeats 1000000
namespace L2
open PySem PySem.Spec PyProof.Rows PySem.Builtin PySem.Builtin.ObjectAttr PySem.Builtin.Getset_descriptor
open PySem.W (Frag findIn specialIn takesIn clsIn mroIn findObj kitOne KitX Looks)

def errIn (K : Frag) (c : Addr) : Bool := findIn K (.ref c) "__getattribute__" == some (some (.builtin "BaseException.__getattribute__")) && findIn K (.ref c) "__getattr__" == some none && findIn K (.ref c) "__class__" == some (some (.builtin "object.__class__")) &&
  specialIn K (.builtin "object.__class__") "__get__" == some (some (.builtin "getset_descriptor.__get__")) && takesIn K (.builtin "object.__class__") == some true && (clsIn K c).isSome && mroIn K c (.type "object") == some true && mroIn K c (.type "BaseException") == some true
section
variable {prog : Program} {w : World} {A : Around} {E : Value → Shared → Prop} {s : Shared} {K : Frag} {x c : Addr} {ox : Obj}
theorem looks_ty {M : Model} {h : Heap} (hx : h.get? x = some ox) (hcl : ox.cls = .ref c) : Looks M h (typeOf (.ref x)) (.ref c) := by
  rw [← hcl]
  exact (PySem.W.Looks.ld hx).andThen .now
theorem looks_fc {M : Model} {h : Heap} (KX : K.In h) (ha : findIn K (.ref c) "__class__" = some (some (.builtin "object.__class__"))) (hg : specialIn K (.builtin "object.__class__") "__get__" = some (some (.builtin "getset_descriptor.__get__"))) (ht : takesIn K (.builtin "object.__class__") = some true) :
    Looks M h (Builtin.ObjectAttr.find (.ref x) (.ref c) "__class__") (.bind (.builtin "getset_descriptor.__get__") (.builtin "object.__class__")) := by
  refine (PySem.W.looks_findIn (M := M) KX ha).andThen ?_
  refine (PySem.W.looks_specialIn (M := M) KX hg).andThen ?_
  have dd : Looks M h (Builtin.ObjectAttr.dataDescriptor? (some (.builtin "object.__class__")) (some (.builtin "getset_descriptor.__get__"))) (some (.builtin "getset_descriptor.__get__", .builtin "object.__class__")) := (PySem.W.looks_takesIn (M := M) KX ht).andThen .now
  exact dd.andThen (PySem.W.Looks.tag .now)
theorem cls_get {R : Result → Shared → Prop} {tp : Value} (KX : K.In s.heap) (hx : s.heap.get? x = some ox) (hcl : ox.cls = .ref c) (hm : mroIn K c (.type "object") = some true)
    (h : R (.ok (.ret (.ref c))) s) : codeAny (model prog w) A (.call (.builtin "getset_descriptor.__get__") ⟨[.builtin "object.__class__", .ref x, tp], []⟩) R s := by
  obtain ⟨hh, g, dr, t, os⟩ := s
  have M0 := looks_ty (M := model prog w) hx hcl
  have M1 := PySem.W.looks_mroIn (M := model prog w) KX hm
  refine codeAny_call_builtin PySem.W.KF.slot_gs.plain PySem.W.KF.entry_gs (PySem.W.KF.slot_gs.check _ _ _ _ _ _ _ _ PySem.W.KF.type_class (PySem.W.KF.args_gs _ _ _) ?_)
  unfold Builtin.«getset_descriptor.__get__»; unfold descrGet; rw [PySem.W.dga_obj]
  refine wpAny_bind (wpAny_pure ?_); unfold descrGetter descrCheckInstance descrNameAndClass isInstance
  simp only [PySem.W.KF.owner_class]
  repeat lk
  refine ⟨Code.quiet_builtin _ (by decide +kernel), codeAny_builtin PySem.W.KF.entry_class ?_⟩; unfold Builtin.«object.__class__» shownTypeOf
  repeat lk
  exact h
theorem exc_class {Q : Option Value → Shared → Prop} (KX : K.In s.heap) (hx : s.heap.get? x = some ox) (hcl : ox.cls = .ref c) (ok : errIn K c = true) (h : Q (some (.ref c)) { s with toks := s.toks + 1 }) : wpAny (model prog w) A (getAttr? (.ref x) "__class__") Q E s := by
  simp only [errIn, Bool.and_eq_true, beq_iff_eq] at ok
  obtain ⟨⟨⟨⟨⟨⟨⟨e1, e2⟩, e3⟩, e4⟩, e5⟩, e6⟩, e7⟩, e8⟩ := ok
  obtain ⟨hh, g, d, t, os⟩ := s
  have L0 := looks_ty (M := model prog w) hx hcl
  have L1 := PySem.W.looks_findIn (M := model prog w) KX e1
  have L2 := PySem.W.looks_findIn (M := model prog w) KX e2
  have L3 := looks_fc (x := x) (M := model prog w) KX e3 e4 e5
  have L4 : Looks (model prog w) hh (isInstance (.ref x) (.type "BaseException")) true := L0.andThen (PySem.W.looks_mroIn (M := model prog w) KX e8)
  have gab := PySem.F.excAttr_ValueError.ga
  have hk : builtinKind "BaseException.__getattribute__" = some .slot := by decide +kernel
  have hsp : splitId "BaseException.__getattribute__" = some ("BaseException", "__getattribute__") := by decide +kernel
  have ne : (onTheHeap (Value.ref c) && Value.builtin "BaseException.__getattribute__" == Value.builtin "object.__getattribute__") = false := by
    have : (Value.builtin "BaseException.__getattribute__" == Value.builtin "object.__getattribute__") = false := by decide +kernel
    rw [this, Bool.and_false]
  unfold getAttr? getAttrBy? getAttrBy
  refine wpAny_bind (wpAny_mkText (wpAny_bind (wpAny_attempt (wpAny_holding (wpAny_bind (L0.at (wpAny_bind (L1.at ?_))))))))
  dsimp only
  rw [if_neg (by rw [ne]; exact Bool.false_ne_true)]
  unfold getAttrByItsOwn
  refine wpAny_bind ?_
  show wpAny _ _ (typeLookup (.ref c) "__getattr__") _ _ _
  refine L2.at (wpAny_bind (wpAny_attempt (wpAny_holding ?_)))
  show wpAny _ _ (boundAndCalled (.builtin "BaseException.__getattribute__") (.ref x) (.str "__class__" t)) _ _ _
  unfold boundAndCalled
  refine wpAny_bind (wpAny_of_eq (gab.bind _) ?_)
  have ar := PySem.F.args_bexc_ga (.ref x) (.str "__class__" t)
  refine wpAny_call (codeAny_call_builtin gab.plain PySem.F.entry_bexc_ga ?_)
  simp only [checkBuiltinCall, hk, hsp]
  refine wpAny_bind (L4.at ?_)
  rw [if_neg (by decide)]
  unfold argsOk at ar
  show wpAny _ _ (match Manifest.signature? "BaseException.__getattribute__" with
    | some sig => Bind.checkArgs "BaseException.__getattribute__" sig ⟨[.ref x, .str "__class__" t], []⟩
    | _ => pure ()) _ _ _
  refine wpAny_of_eq ar ?_
  show wpAny _ _ (Builtin.«object.__getattribute__» ⟨[.ref x, .str "__class__" t], []⟩) _ _ _
  unfold Builtin.«object.__getattribute__»
  refine wpAny_bind (wpAny_pure (wpAny_bind (wpAny_pure (wpAny_bind (L0.at (wpAny_bind (L3.at ?_)))))))
  show wpAny _ _ (holding [Value.builtin "object.__class__"] (call (.builtin "getset_descriptor.__get__") [.builtin "object.__class__", .ref x, .ref c]) >>= fun v => ret v) _ _ _
  refine wpAny_bind (wpAny_holding (wpAny_call (cls_get (s := ⟨hh, g, d, t + 1, os⟩) KX hx hcl e7 ?_)))
  exact wpAny_pure (PySem.W.handed_on rfl (wpAny_pure h))
theorem kitx_err (ok : errIn K c = true) : KitX K (.ref x) (.ref c) (fun h => ∃ ox, h.get? x = some ox ∧ ox.cls = .ref c) where
  ty := fun _ _ _ ⟨_, hx, hcl⟩ => looks_ty hx hcl
  it := fun M h KX _ => by
    simp only [errIn, Bool.and_eq_true, beq_iff_eq] at ok
    obtain ⟨⟨⟨⟨⟨⟨⟨_, _⟩, _⟩, _⟩, _⟩, e6⟩, _⟩, _⟩ := ok
    unfold clsIn at e6
    split at e6
    · rename_i lk
      intro A1 Q1 E1 s1 k1 q1
      unfold isType loadHead
      exact wpAny_bind (wpAny_loadPart (k1 _ _ (KX _ _ lk)) (wpAny_pure q1))
    · cases e6
  ne := fun h tp dd its n sl KX htp => by
    simp only [errIn, Bool.and_eq_true, beq_iff_eq] at ok
    obtain ⟨⟨⟨⟨⟨⟨⟨_, _⟩, _⟩, _⟩, _⟩, e6⟩, _⟩, _⟩ := ok
    cases z : (Value.ref c == Value.ref tp) with
    | false => rfl
    | true =>
      have e : c = tp := Value.ref.inj (beq_iff_eq.mp z)
      subst e
      unfold clsIn at e6
      split at e6
      · rename_i lk
        have := KX _ _ lk
        rw [htp] at this
        cases this
      · cases e6
  ca := fun KX ⟨ox, hx, hcl⟩ q => exc_class KX hx hcl ok q
end
section
variable {X : Cx} {C : Str} {c : Addr} {m mm : Bool} {a : Expr} {fa : DEnv → Option D} {p pc pos : Pos}
def isiEO (C : Str) (b : Bool) (x : Option D) : Option D := match x with | some (.sp true z) => if z = C then some (.bl b) else none | _ => none
theorem call_isiE {cl : Value} {b : Bool} (hc : PySem.W.nsIn X.K mainGlobals C = some (some (.ref c))) (ok : errIn X.K c = true) (kt : kitOne X.K (.ref c) cl = some b) {pins : List (Addr × Obj)} {s : Shared} {σ : St} {H : Hp} {B : Addr → Prop} {v : V} {u : Value} {Q : VK} (I : Inv X pins σ H s) (rv : RelV v u) (r : Rep X.K B H (.sp true C) v) (q : Q (.bl b) H) :
    wpAny (model X.prog X.w) X.A (call (.builtin "isinstance") [u, cl]) (EP X pins σ Q) X.xe s := by
  simp only [Rep] at r
  obtain ⟨a, o, c', y, rfl, ha, ho, hn⟩ := r
  rw [hc] at hn; cases hn
  obtain rfl : u = .ref a := rv
  obtain ⟨g1, _⟩ := (show ObjOk X.prog X.w H s.heap a (.frz o (.own y)) from I.hok a _ ha)
  exact PySem.W.kia_one (kitx_err ok) I.kIn ⟨o, g1, ho⟩ kt (fun z => nomatch z) fun tk => ⟨.bl b, H, I.tok tk, rfl, q⟩
end
end L2

end

section
set_option maxHeartbeats 1000000
namespace L2
open PySem PySem.Spec PyProof.Rows
section
variable {X : Cx} {C : Str} {c : Addr} {m m' m'' mm : Bool} {a b e : Expr} {fa fb fc : DEnv → Option D} {p pc pos apos cpos : Pos} {x : Str}

theorem de_gstr {z : Str} {t : Tok} (hg : Gl X x) (hm : X.mg x = some (.str z t)) (hd : (x == ("__debug__" : Str)) = false := by decide) : DE X mm (.Name x pos) (fun _ => some (.str z)) :=
  (pe_glob (v := .str z) hg hm ⟨t, rfl⟩ hd).imp fun σ H Q ⟨B, Hk, δ, d, R, e, k⟩ => by cases e; exact k _ H (Same.refl H) (by simp only [Rep])
theorem de_gfun {f : Addr} (hg : Gl X x) (hm : X.mg x = some (.ref f)) (hn : PySem.W.nsIn X.K mainGlobals x = some (some (.ref f))) (hd : (x == ("__debug__" : Str)) = false := by decide) : DE X mm (.Name x pos) (fun _ => some (.sp false x)) :=
  (pe_glob (v := .ref f) hg hm rfl hd).imp fun σ H Q ⟨B, Hk, δ, d, R, e, k⟩ => by cases e; exact k _ H (Same.refl H) (by simp only [Rep]; exact ⟨f, rfl, hn⟩)

theorem call_isiV {cl : Value} {w : V} {k : Bool} (hc : PySem.W.nsIn X.K mainGlobals C = some (some (.ref c))) (ok : errIn X.K c = true) (kt : PySem.W.kitOne X.K (.ref c) cl = some k) (hw : ∀ u, RelV w u → u = cl) :
    CallR X (.builtin "isinstance") (fun xs H Q => ∃ B v, xs = [v, w] ∧ Rep X.K B H (.sp true C) v ∧ Q (.bl k) H) := by
  intro pins s σ H vs us Q I rv h
  obtain ⟨B, v, rfl, r, q⟩ := h
  cases rv with
  | cons q1 q2 =>
    obtain ⟨u2, rfl, q3⟩ := Vals.one q2
    rw [hw u2 q3]
    exact call_isiE hc ok kt I q1 r q
theorem de_isiG {cs : Str} {w : V} {cl : Value} {k : Bool} (hc : PySem.W.nsIn X.K mainGlobals C = some (some (.ref c))) (ok : errIn X.K c = true) (kt : PySem.W.kitOne X.K (.ref c) cl = some k) (hw : ∀ u, RelV w u → u = cl) (hpe : PE X (.Name cs pc) (tC w)) (g : Gl X "isinstance") (hm : X.mg "isinstance" = none) (ha : DE X m a fa)
    (hs : starEach [a, .Name cs pc] X.env = [(false, eval a X.env), (false, eval (.Name cs pc) X.env)] := by rfl) (hs2 : starEach [.Name cs pc] X.env = [(false, eval (.Name cs pc) X.env)] := by rfl)
    (hpl : (backTo pos (starEach [.Name cs pc] X.env)).any (·.1) = false := by rfl) : DE X mm (.Call (.Name "isinstance" p) [a, .Name cs pc] [] pos) (fun δ => isiEO C k (fa δ)) :=
  (pe_callB (call_isiV hc ok kt hw) g hm bt_isinstance (pa_cons ha (pa_cons hpe pa_nil hs2) (by rw [hs, hs2])) (he := by rw [hs, hs2]) (hpl := hpl)).imp fun σ H Q ⟨B, Hk, δ, d, R, e, kk⟩ => by
    unfold isiEO at e
    dsimp only at e
    split at e
    · rename_i z q
      by_cases hz : z = C
      · subst hz
        rw [if_pos rfl] at e; cases e
        exact ⟨B, Hk, δ, _, R, q, fun v H' s r => ⟨_, v, rfl, r, kk _ H' s (by simp only [Rep])⟩⟩
      · rw [if_neg hz] at e; cases e
    · cases e

def inSO (x y : Option D) : Option Bool := match x, y with | some (.str i), some (.str j) => some (!(Builtin.Str.occurrences j i 0 j.length 1).isEmpty) | _, _ => none
theorem inSO_some {x y : Option D} {b : Bool} (h : inSO x y = some b) : ∃ i j, x = some (.str i) ∧ y = some (.str j) ∧ b = !(Builtin.Str.occurrences j i 0 j.length 1).isEmpty := by
  unfold inSO at h
  split at h
  · cases h; exact ⟨_, _, rfl, rfl, rfl⟩
  · cases h
theorem de_inS (hm : behindInMarks .In b = false) (ha : DE X m a fa) (hb : DE X m' b fb) : DE X mm (.Compare a [.In] [b] pos) (fun δ => ofB (inSO (fa δ) (fb δ))) :=
  (pe_cmpR op_in_str ha hb hm).imp fun σ H Q ⟨B, Hk, δ, d, R, e, k⟩ => by
    cases q : inSO (fa δ) (fb δ) with
    | none => simp only [q, ofB] at e; cases e
    | some z =>
      simp only [q, ofB] at e; cases e
      obtain ⟨i, j, e1, e2, rfl⟩ := inSO_some q
      refine two R e1 e2 fun v u H' s R' r1 r2 => ?_
      simp only [Rep] at r1 r2
      exact ⟨i, j, r1, r2, k _ H' s (by simp only [Rep])⟩
theorem dt_notInS (hm : behindInMarks .NotIn b = false) (ha : DE X m a fa) (hb : DE X m' b fb) : DT X (.Compare a [.NotIn] [b] pos) (fun δ => notO (inSO (fa δ) (fb δ))) :=
  (pt_cmpR op_notin_str ha hb hm).imp fun σ H Q ⟨B, Hk, δ, d, R, e, k⟩ => by
    cases q : inSO (fa δ) (fb δ) with
    | none => simp only [q, notO] at e; cases e
    | some z =>
      simp only [q, notO] at e; cases e
      obtain ⟨i, j, e1, e2, rfl⟩ := inSO_some q
      refine two R e1 e2 fun v u H' s R' r1 r2 => ?_
      simp only [Rep] at r1 r2
      exact ⟨i, j, r1, r2, _, rfl, k H' s⟩

def strVO (x : Option D) : Option D := match x with | some (.int i) => if i.natAbs.log2 < 1920 then some (.str (toString i)) else none | some (.str z) => some (.str z) | _ => none
theorem call_strV : CallR X (.type "str") (fun xs H Q => (∃ i, xs = [.int i] ∧ i.natAbs.log2 < 1920 ∧ Q (.str (toString i)) H) ∨ ∃ z, xs = [.str z] ∧ Q (.str z) H) := by
  intro pins s σ H vs us Q I rv h
  rcases h with ⟨i, rfl, hi, q⟩ | ⟨z, rfl, q⟩
  · exact call_str_int pins s σ H _ us Q I rv ⟨i, rfl, hi, q⟩
  · obtain ⟨u, rfl, ru⟩ := rv.one
    obtain ⟨t, rfl⟩ := ru
    exact PySem.P.str_of_str ⟨.str z, H, I, ⟨t, rfl⟩, q⟩
theorem de_strV (g : Gl X "str") (hm : X.mg "str" = none) (ha : DE X m a fa) (hs : starEach [a] X.env = [(false, eval a X.env)] := by rfl) : DE X mm (.Call (.Name "str" p) [a] [] pos) (fun δ => strVO (fa δ)) :=
  (pe_callTy call_strV g hm (by decide +kernel) (pa_cons ha pa_nil hs) (he := hs)).imp fun σ H Q ⟨B, Hk, δ, d, R, e, k⟩ => by
    unfold strVO at e
    dsimp only at e
    split at e
    · rename_i i q
      by_cases hi : i.natAbs.log2 < 1920
      · rw [if_pos hi] at e; cases e
        exact ⟨B, Hk, δ, _, R, q, fun v H' s r => .inl ⟨i, by simp only [Rep] at r; rw [r], hi, k _ H' s (by simp only [Rep])⟩⟩
      · rw [if_neg hi] at e; cases e
    · rename_i z q
      cases e
      exact ⟨B, Hk, δ, _, R, q, fun v H' s r => .inr ⟨z, by simp only [Rep] at r; rw [r], k _ H' s (by simp only [Rep])⟩⟩
    · cases e
def intSO (x : Option D) : Option D := match x with | some (.str z) => if z.length ≤ 640 then (match PySem.intText? z with | some n => some (.int n) | none => none) else none | _ => none
theorem call_intS : CallR X (.type "int") (fun xs H Q => ∃ z n, xs = [.str z] ∧ PySem.intText? z = some n ∧ z.length ≤ 640 ∧ Q (.int n) H) := by
  intro pins s σ H vs us Q I rv h
  obtain ⟨z, n, rfl, hn, hl, q⟩ := h
  obtain ⟨u, rfl, ru⟩ := rv.one
  obtain ⟨t, rfl⟩ := ru
  exact PySem.W.KIN.call_text hn hl ⟨.int n, H, I.tok _, ⟨_, rfl⟩, q⟩
theorem de_intS (g : Gl X "int") (hm : X.mg "int" = none) (ha : DE X m a fa) (hs : starEach [a] X.env = [(false, eval a X.env)] := by rfl) : DE X mm (.Call (.Name "int" p) [a] [] pos) (fun δ => intSO (fa δ)) :=
  (pe_callTy call_intS g hm (by decide +kernel) (pa_cons ha pa_nil hs) (he := hs)).imp fun σ H Q ⟨B, Hk, δ, d, R, e, k⟩ => by
    unfold intSO at e
    dsimp only at e
    split at e
    · rename_i z q
      by_cases hl : z.length ≤ 640
      · rw [if_pos hl] at e
        split at e
        · rename_i n hn
          cases e
          exact ⟨B, Hk, δ, _, R, q, fun v H' s r => ⟨z, n, by simp only [Rep] at r; rw [r], hn, hl, k _ H' s (by simp only [Rep])⟩⟩
        · cases e
      · rw [if_neg hl] at e; cases e
    · cases e

def chainI (f g : Int → Int → Bool) (x y z : Option D) : Option D := match x, y with
  | some (.int i), some (.int j) => if f i j = true then (match z with | some (.int l) => some (.bl (g j l)) | _ => none) else some (.bl false)
  | _, _ => none
theorem de_chain {op op' : CmpOp} {f g : Int → Int → Bool} (ho : OpR X (compareOp op) (rI0 fun i j => .bl (f i j))) (ho' : OpR X (compareOp op') (rI0 fun i j => .bl (g i j))) (ha : DE X m a fa) (hb : DE X m' b fb) (hc : DE X m'' e fc)
    (hm : lastMarks [op, op'] [b, e] = false := by with_unfolding_all rfl) : DE X mm (.Compare a [op, op'] [b, e] pos) (fun δ => chainI f g (fa δ) (fb δ) (fc δ)) :=
  (pe_chain ho ho' ha hb hc hm).imp fun σ H Q ⟨B, Hk, δ, d, R, ed, k⟩ => by
    unfold chainI at ed
    dsimp only at ed
    split at ed
    · rename_i i j e1 e2
      refine two R e1 e2 fun v u H' s R' r1 r2 => ?_
      simp only [Rep] at r1 r2
      subst r1; subst r2
      refine ⟨i, j, rfl, rfl, f i j, rfl, ?_⟩
      by_cases hf : f i j = true
      · rw [if_pos hf] at ed ⊢
        split at ed
        · rename_i l e3
          cases ed
          refine ⟨B, Hk, δ, _, R', e3, fun w H2 s2 r3 => ?_⟩
          simp only [Rep] at r3
          subst r3
          exact ⟨j, l, rfl, rfl, k _ H2 (s.trans s2) (by simp only [Rep])⟩
        · cases ed
      · rw [if_neg hf] at ed ⊢
        cases ed
        exact k _ H' s (by simp only [Rep])
    · cases ed
end
end L2

end

section
set_option maxHeartbeats 1000000
namespace L2
open PySem PySem.Spec PyProof.Rows

def Its (x : Str) : It := ⟨fun i _ => i < x.cps.size, fun i H v H' => H' = H ∧ ∃ c, x.cps[i]? = some c ∧ v = .str ⟨#[c]⟩, fun i _ => x.cps.size ≤ i⟩
theorem turn_strA {P : Program} {w : World} {K : PySem.W.Frag} {tg : Expr} (it : Addr) (x : Str) (t : Tok) : Turn P w K tg (Its x) [it] it (fun i h => i ≤ x.cps.size ∧ h.IsStrIter it "str_ascii_iterator" x t i) where
  mem := by simp
  obj := fun i h st b hb => by
    have e : b = it := by simpa using hb
    subst e
    obtain ⟨_, o, e, c, d⟩ := st
    exact ⟨o, e, fun v z => by rw [d] at z; cases z⟩
  keep := fun i h h' st k => by
    obtain ⟨hi, o, e, r⟩ := st
    exact ⟨hi, o, k it (by simp) o e, r⟩
  item := by
    intro X hP hw hK hc i pins s σ H E I hf st hg
    subst hP hw hK
    obtain ⟨f0, f1, f2, f3, f4, f5⟩ := hf it (by simp)
    have hg : i < x.cps.size := hg
    refine wpAny_pyNext_ascii_item st.2 (c := x.cps[i]) (by simp [hg]) fun h' st' sb => ?_
    have I1 : Inv X pins σ H { s with heap := h', toks := s.toks + 1 } := I.turned (fun b o hb e => (sb.2 b hb).trans e) f0 f1 f3 f4 f5
    obtain ⟨o, e, c, d⟩ := id st'
    exact ⟨_, rfl, go_of (s := { s with heap := h', toks := s.toks + 1 }) e c d (by decide) ⟨.str ⟨#[x.cps[i]]⟩, H, I1, ⟨_, rfl⟩, ⟨rfl, _, by simp [hg], rfl⟩, ⟨hg, st'⟩, fun b hb => (hf b hb).1⟩⟩
  done := by
    intro X hP hw hK hc i pins s σ H E I hf st hg
    subst hP hw hK
    obtain ⟨f0, f1, f2, f3, f4, f5⟩ := hf it (by simp)
    have hg : x.cps.size ≤ i := hg
    exact wpAny_pyNext_ascii_end (I.ok.hd hc) st.2 (by simp; omega) fun h' eb => ⟨rfl, I.turned (t' := s.toks) (fun b o hb e => eb b o hb e) f0 f1 f3 f4 f5⟩
  self := fun _ _ _ _ _ st h => wpAny_pyIter_striter_ascii st.2 h
theorem turn_strW {P : Program} {w : World} {K : PySem.W.Frag} {tg : Expr} (it : Addr) (x : Str) (t : Tok) : Turn P w K tg (Its x) [it] it (fun i h => i ≤ x.cps.size ∧ h.IsStrIter it "str_iterator" x t i) where
  mem := by simp
  obj := fun i h st b hb => by
    have e : b = it := by simpa using hb
    subst e
    obtain ⟨_, o, e, c, d⟩ := st
    exact ⟨o, e, fun v z => by rw [d] at z; cases z⟩
  keep := fun i h h' st k => by
    obtain ⟨hi, o, e, r⟩ := st
    exact ⟨hi, o, k it (by simp) o e, r⟩
  item := by
    intro X hP hw hK hc i pins s σ H E I hf st hg
    subst hP hw hK
    obtain ⟨f0, f1, f2, f3, f4, f5⟩ := hf it (by simp)
    have hg : i < x.cps.size := hg
    refine wpAny_pyNext_wide_item st.2 (c := x.cps[i]) (by simp [hg]) fun h' st' sb => ?_
    have I1 : Inv X pins σ H { s with heap := h', toks := s.toks + 1 } := I.turned (fun b o hb e => (sb.2 b hb).trans e) f0 f1 f3 f4 f5
    obtain ⟨o, e, c, d⟩ := id st'
    exact ⟨_, rfl, go_of (s := { s with heap := h', toks := s.toks + 1 }) e c d (by decide) ⟨.str ⟨#[x.cps[i]]⟩, H, I1, ⟨_, rfl⟩, ⟨rfl, _, by simp [hg], rfl⟩, ⟨hg, st'⟩, fun b hb => (hf b hb).1⟩⟩
  done := by
    intro X hP hw hK hc i pins s σ H E I hf st hg
    subst hP hw hK
    obtain ⟨f0, f1, f2, f3, f4, f5⟩ := hf it (by simp)
    have hg : x.cps.size ≤ i := hg
    exact wpAny_pyNext_wide_end (I.ok.hd hc) st.2 (by simp; omega) fun h' eb => ⟨rfl, I.turned (t' := s.toks) (fun b o hb e => eb b o hb e) f0 f1 f3 f4 f5⟩
  self := fun _ _ _ _ _ st h => wpAny_pyIter_striter_wide st.2 h
section
variable {X : Cx} {tg : Expr} {m m' mm : Bool} {a b e : Expr} {fa fb : DEnv → Option D} {p pos apos cpos : Pos}
def iStr (tl : TE) : TI := fun σ H R => tl σ H fun x H1 => ∃ z, x = .str z ∧ R (Its z) H1
theorem pi_str {l : Expr} {tl : TE} (hl : PE X l tl) : PI X tg l (iStr tl) := by
  intro pins s σ H R I h
  refine thn (hl pins s σ H _ I h) fun v s1 ⟨x, H1, I1, r1, q1⟩ => ?_
  obtain ⟨z, e, q⟩ := q1
  subst e
  obtain ⟨t, rfl⟩ := r1
  have fp : ∀ b ∈ [s1.heap.objs.size], FpOk X pins H1 b := fun b hb => by
    have e : b = s1.heap.objs.size := by simpa using hb
    subst e
    exact I1.fpOk (Nat.le_refl _) (I1.hok.fresh (Nat.le_refl _))
  cases ha : z.cps.all (· < 128) with
  | true => exact wpAny_pyIter_ascii ha ⟨s1.heap.objs.size, [s1.heap.objs.size], _, _, H1, rfl, I1.kept (t' := s1.toks) fun b o e => Heap.get?_push_of_some _ e, turn_strA _ z t, ⟨Nat.zero_le _, _, Heap.get?_push_size _ rfl, rfl, rfl⟩, fp, q⟩
  | false => exact wpAny_pyIter_wide ha ⟨s1.heap.objs.size, [s1.heap.objs.size], _, _, H1, rfl, I1.kept (t' := s1.toks) fun b o e => Heap.get?_push_of_some _ e, turn_strW _ z t, ⟨Nat.zero_le _, _, Heap.get?_push_size _ rfl, rfl, rfl⟩, fp, q⟩
def signs (z : Str) : List D := z.cps.toList.map fun c => .str ⟨#[c]⟩
def strL (x : Option D) : Option (List D) := match x with | some (.str z) => some (signs z) | _ => none
theorem di_str (h : DE X m a fa) : DI X m tg a (fun δ => strL (fa δ)) :=
  (pi_str h).imp fun σ H Q ⟨B, Hk, δ, ds, R, e, k⟩ => by
    unfold strL at e
    dsimp only at e
    split at e
    · rename_i z q
      cases e
      refine ⟨B, Hk, δ, _, R, q, fun v H' s r => ?_⟩
      simp only [Rep] at r
      refine ⟨z, r, k _ H' s fun H2 x => ⟨by show z.cps.size ≤ _; simp [signs], fun i d hd => ?_⟩⟩
      unfold signs at hd
      rw [List.getElem?_map] at hd
      cases hc : z.cps.toList[i]? with
      | none => rw [hc] at hd; cases hd
      | some c =>
        rw [hc] at hd; cases hd
        have hi : i < z.cps.size := by have := (List.getElem?_eq_some_iff.mp hc).1; simpa using this
        refine ⟨hi, fun y H3 ⟨e3, c', hc', hy⟩ => ⟨by rw [e3]; exact Same.refl _, ?_⟩⟩
        have : c' = c := by rw [Array.getElem?_toList] at hc; rw [hc] at hc'; exact (Option.some.inj hc').symm
        subst this
        rw [hy]; simp only [Rep]
    · cases e

def lenS (x : Option D) : Option D := match x with | some (.str z) => if z.length ≤ lim then some (.int z.length) else none | _ => none

theorem strsFrom_vals : ∀ (ys : List Str) (t : Nat), Vals (ys.map V.str) (strsFrom t ys)
  | [], t => .nil
  | y :: ys, t => .cons ⟨t, rfl⟩ (strsFrom_vals ys (t + 1))
theorem mt_split : MtM X "str.split" (fun x vs H Q => ∃ (z y : Str), x = .str z ∧ vs = [.str y] ∧ z.length ≤ lim ∧ (y.length == 0) = false ∧ (Txt.split z y).length ≤ lim ∧ ∀ q, H q = none → Q (.ref q) (upd H q (.lst ((Txt.split z y).map V.str)))) := by
  intro pins s σ H x vs v us Q I rx rv h
  obtain ⟨z, y, rfl, rfl, hz, hy, hn, q⟩ := h
  obtain ⟨t, rfl⟩ := rx
  obtain ⟨u, rfl, ru⟩ := Vals.one rv
  obtain ⟨t', rfl⟩ := ru
  have one : Txt.split z y = [z] → EP X pins σ Q (.ref s.heap.objs.size) { s with heap := s.heap.push { cls := .type "list", data := .seq #[.str z t] } } := fun hs =>
    ⟨.ref s.heap.objs.size, _, I.lnew (t' := s.toks) (ys := [.str z]) (its := [.str z t]) (.cons ⟨t, rfl⟩ .nil) (show 1 ≤ sizeLine by decide), rfl, by have := q _ I.fresh; rw [hs] at this; exact this⟩
  unfold Txt.split at hn q one
  cases h1 : (decide (z.length < y.length) || decide (Builtin.Str.strKind z < Builtin.Str.strKind y)) with
  | true =>
    exact call_meets PySem.F.slot_str_split (typeIs_str _ _ _) PySem.F.entry_str_split (PySem.F.args_str_split_2 _ _) (meets_str_split_cannot_occur z y t t' h1) (one (by rw [h1]; rfl))
  | false =>
    cases h2 : (Builtin.Str.occurrences z y 0 z.length (z.length + 1)).isEmpty with
    | true => exact call_meets PySem.F.slot_str_split (typeIs_str _ _ _) PySem.F.entry_str_split (PySem.F.args_str_split_2 _ _) (meets_str_split_not_found z y t t' h1 hy h2) (one (by rw [h1, h2]; rfl))
    | false =>
      rw [h1, h2] at hn q
      exact call_meets PySem.F.slot_str_split (typeIs_str _ _ _) PySem.F.entry_str_split (PySem.F.args_str_split_2 _ _) (meets_str_split_sep z y t t' h1 hy h2 (lim_line hz) (lim_line hn))
        ⟨.ref s.heap.objs.size, _, I.lnew (ys := (Builtin.Str.partsBetween z (Builtin.Str.occurrences z y 0 z.length (z.length + 1)) y.length).map V.str) (strsFrom_vals _ _) (by rw [List.length_map]; exact lim_line hn), rfl, q _ I.fresh⟩
end
end L2

end

section
set_option maxHeartbeats 1000000
namespace L2
open PySem PySem.Spec PyProof.Rows
section
variable {X : Cx} {m m' mm : Bool} {a b e : Expr} {fa fb : DEnv → Option D} {p pos apos cpos : Pos}

theorem boot_all : bootBuiltins "all" = some (.builtin "all") := by decide +kernel
theorem call_allB (hc : X.calm = true) : CallR X (.builtin "all") (fun xs H Q => ∃ (q : Addr) (bs : List Bool), xs = [.ref q] ∧ SqL X.K H q (bs.map V.bl) ∧ Q (.bl (bs.all id)) H) := by
  intro pins s σ H xs us Q I rv h
  obtain ⟨q, bs, rfl, hq, k⟩ := h
  obtain ⟨u, rfl, ru⟩ := rv.one
  cases ru
  obtain ⟨its, r, pl, hz⟩ := I.list hq
  have hl := r.length
  rw [List.length_map] at hl
  have hne : q ≠ s.heap.objs.size := Nat.ne_of_lt (by obtain ⟨o, e, _⟩ := pl.isList; exact Heap.lt_size e)
  refine call_all_walk (wpAny_pyIter_list pl.isList ⟨s.heap.objs.size, _, _, its.toArray.size, _, _, fun i => bs.getD i false, rfl, Walks.list (A := X.A.in1) (show X.A.in1.handled = none from I.ok.hd hc) s.heap.objs.size q hne its.toArray, ⟨⟨_, Heap.get?_push_size _ rfl, rfl, rfl⟩, pl.isList.push _⟩, fun i v s' Q' E' hv hQ' => ?_, fun h' tk hk => ?_⟩)
  · have hv' : its[i]? = some v := by simpa using hv
    have hi : i < bs.length := by have := (List.getElem?_eq_some_iff.mp hv').1; omega
    obtain ⟨v', e1, e2⟩ := r.get (i := i) (x := .bl bs[i]) (by simp [hi])
    rw [hv'] at e1; cases e1
    cases e2
    refine wpAny_truthy_bool ?_
    rw [show bs[i] = bs.getD i false by simp [hi]]
    exact hQ'
  · have e : (List.range its.toArray.size).all (fun i => bs.getD i false) = bs.all id := by
      rw [List.size_toArray, ← hl, Bool.eq_iff_iff, List.all_eq_true, List.all_eq_true]
      constructor
      · intro h x hx
        obtain ⟨i, hi, rfl⟩ := List.mem_iff_getElem.mp hx
        simpa [hi] using h i (List.mem_range.mpr hi)
      · intro h i hi
        have hi' := List.mem_range.mp hi
        simpa [hi'] using h bs[i] (List.getElem_mem hi')
    rw [e]
    refine ⟨.bl (bs.all id), H, ?_, rfl, k⟩
    exact (I.kept (t' := tk) fun b o eb => hk b o (fun z => by
      have : b = s.heap.objs.size := by simpa using z
      rw [this] at eb; exact absurd (Heap.lt_size eb) (Nat.lt_irrefl _)) (Heap.get?_push_of_some _ eb))
def allO (x : Option D) : Option D := match x with | some (.lst ds) => (match bolsD ds with | some bs => some (.bl (bs.all id)) | none => none) | _ => none
theorem de_all (hc : X.calm = true) (g : Gl X "all") (hm : X.mg "all" = none) (ha : DE X m a fa) (hs : starEach [a] X.env = [(false, eval a X.env)] := by rfl) : DE X mm (.Call (.Name "all" p) [a] [] pos) (fun δ => allO (fa δ)) :=
  (pe_callB (call_allB hc) g hm boot_all (pa_cons ha pa_nil hs) (he := hs)).imp fun σ H Q ⟨B, Hk, δ, d, R, e, k⟩ => by
    unfold allO at e
    dsimp only at e
    split at e
    · rename_i ds q
      split at e
      · rename_i bs qn
        cases e
        obtain rfl := bolsD_some qn
        refine oneA R q fun v H' s R' r => ?_
        simp only [Rep] at r
        obtain ⟨c, xs, rfl, hq, rs⟩ := r
        obtain rfl := rs.bols
        exact ⟨c, bs, rfl, hq.sq, k _ H' s (by simp only [Rep])⟩
      · cases e
    · cases e

theorem de_lenS (g : Gl X "len") (hm : X.mg "len" = none) (ha : DE X m a fa) (hs : starEach [a] X.env = [(false, eval a X.env)] := by rfl) : DE X mm (.Call (.Name "len" p) [a] [] pos) (fun δ => lenS (fa δ)) :=
  (pe_callB call_len_str g hm PySem.boot_len (pa_cons ha pa_nil hs) (he := hs)).imp fun σ H Q ⟨B, Hk, δ, d, R, e, k⟩ => by
    unfold lenS at e
    dsimp only at e
    split at e
    · rename_i z q
      by_cases hl : z.length ≤ lim
      · rw [if_pos hl] at e; cases e
        exact ⟨B, Hk, δ, _, R, q, fun v H' s r => ⟨z, by simp only [Rep] at r; rw [r], lim_line hl, k _ H' s (by simp only [Rep])⟩⟩
      · rw [if_neg hl] at e; cases e
    · cases e
def splitO (x y : Option D) : Option D := match x, y with
  | some (.str z), some (.str w) => if (decide (z.length ≤ lim) && !(w.length == 0) && decide ((Txt.split z w).length ≤ lim)) = true then some (.lst ((Txt.split z w).map D.str)) else none
  | _, _ => none
theorem reps_strs {K : PySem.W.Frag} {B : Addr → Prop} {H : Hp} : ∀ ys : List Str, Reps K B H (ys.map D.str) (ys.map V.str)
  | [] => Reps.nil
  | y :: ys => Reps.cons (by simp only [Rep]) (reps_strs ys)
theorem df_split (ha : DE X m a fa) (hb : DE X m' b fb) (hbase : attributeBase a "split" X.env (eval a X.env) = eval a X.env := by rfl)
    (hfew : ((backTo cpos (starEach [b] X.env)).all (fun x => !x.1) && (backToKw cpos (keywordEach [] X.env)).all (fun x => x.1.isSome) && decide (([b]).length + ([] : List Keyword).length + (if ([] : List Keyword).isEmpty then 0 else 1) < 30)) = true := by rfl)
    (hline : (apos.endLine == cpos.line) = true := by rfl) (hs : starEach [b] X.env = (false, eval b X.env) :: starEach [] X.env := by rfl) : DF X (.Call (.Attribute a "split" apos) [b] [] cpos) (fun δ => splitO (fa δ) (fb δ)) :=
  (pe_bm PySem.F.plainAttrs_str PySem.F.slot_str_split PySem.F.type_str_split mt_split ha (pa_cons hb pa_nil hs) hbase hfew hline hs).imp fun σ H Q ⟨B, Hk, δ, d, R, e, k⟩ => by
    unfold splitO at e
    dsimp only at e
    split at e
    · rename_i z y q1 q2
      by_cases c : (decide (z.length ≤ lim) && !(y.length == 0) && decide ((Txt.split z y).length ≤ lim)) = true
      · rw [if_pos c] at e; cases e
        simp only [Bool.and_eq_true, decide_eq_true_eq, Bool.not_eq_true'] at c
        refine ⟨B, Hk, δ, _, R, q1, fun v H1 s1 r1 => ?_⟩
        simp only [Rep] at r1
        subst r1
        refine ⟨rfl, oneA (R.to s1) q2 fun w H2 s2 R2 r2 => ?_⟩
        simp only [Rep] at r2
        subst r2
        refine ⟨z, y, rfl, rfl, c.1.1, c.1.2, c.2, fun q hq => k q _ ((s1.trans s2).trans (same_upd hq)) ((s1.trans s2).free hq) ⟨_, upd_same, reps_strs _⟩⟩
      · rw [if_neg c] at e; cases e
    · cases e
theorem mt_starts : MtM X "str.startswith" (fun x vs H Q => ∃ (z y : Str), x = .str z ∧ vs = [.str y] ∧ Q (.bl (Txt.startswith z y)) H) := by
  intro pins s σ H x vs v us Q I rx rv h
  obtain ⟨z, y, rfl, rfl, q⟩ := h
  obtain ⟨t, rfl⟩ := rx
  obtain ⟨u, rfl, ru⟩ := rv.one
  obtain ⟨t', rfl⟩ := ru
  exact SC.startswith ⟨.bl _, H, I, rfl, q⟩
def startsO (x y : Option D) : Option D := match x, y with | some (.str z), some (.str w) => some (.bl (Txt.startswith z w)) | _, _ => none
theorem de_starts (ha : DE X m a fa) (hb : DE X m' b fb) (hbase : attributeBase a "startswith" X.env (eval a X.env) = eval a X.env := by rfl)
    (hfew : ((backTo cpos (starEach [b] X.env)).all (fun x => !x.1) && (backToKw cpos (keywordEach [] X.env)).all (fun x => x.1.isSome) && decide (([b]).length + ([] : List Keyword).length + (if ([] : List Keyword).isEmpty then 0 else 1) < 30)) = true := by rfl)
    (hline : (apos.endLine == cpos.line) = true := by rfl) (hs : starEach [b] X.env = (false, eval b X.env) :: starEach [] X.env := by rfl) : DE X mm (.Call (.Attribute a "startswith" apos) [b] [] cpos) (fun δ => startsO (fa δ) (fb δ)) :=
  (pe_bm PySem.F.plainAttrs_str PySem.F.slot_str_startswith PySem.F.type_str_startswith mt_starts ha (pa_cons hb pa_nil hs) hbase hfew hline hs).imp fun σ H Q ⟨B, Hk, δ, d, R, e, k⟩ => by
    unfold startsO at e
    dsimp only at e
    split at e
    · rename_i z y q1 q2
      cases e
      refine ⟨B, Hk, δ, _, R, q1, fun v H1 s1 r1 => ?_⟩
      simp only [Rep] at r1
      subst r1
      refine ⟨rfl, oneA (R.to s1) q2 fun w H2 s2 R2 r2 => ?_⟩
      simp only [Rep] at r2
      subst r2
      exact ⟨z, y, rfl, rfl, k _ H2 (s1.trans s2) (by simp only [Rep])⟩
    · cases e

def tupleX (x : Option (Option D)) : Option (Option D) := match x with | some (some d) => upO (tupleO (some d)) | some none => some none | none => none
end
end L2

end

section
set_option maxHeartbeats 1000000
namespace L2
open PySem PySem.Spec PyProof.Rows
section
variable {X : Cx} {C : Str} {c : Addr} {m m' mm : Bool} {a b e : Expr} {es : List Expr} {fa fb : DEnv → Option D} {fx : DEnv → Option (Option D)} {fs : DEnv → Option (List D)} {p pc pos apos cpos : Pos} {x y : Str} {i k : Nat} {f : List D → Option (Option (D × Bool))}
theorem Nm.w {W : Value → Shared → Prop} (h : Nm X i x) : Nm (X.wish W) i x := ⟨h.1, h.2, h.3, h.4⟩
theorem hasX1 {P : Program} {w : World} {K : PySem.W.Frag} {mg : Str → Option Value} {base : Heap} {f : Addr} {cdv : Value} {A : Around} {outer : List Env} {s : Shared} {H : Hp} {E : XK} {N : List Str} {q : Str} {sc : Scope} {CX : CXT} (nd : N.Nodup) :
    Has (cxOf CX P w K mg base N q sc f cdv A outer s H E) N sc := ⟨rfl, rfl, rfl, nd⟩
theorem dec_call' (F : FnX X.prog X.w X.K X.mg X.base k x C f) (hr : Room k X.A) (g : Gb X x) (ha : DA X m (e :: es) fs) (he : starEach (e :: es) X.env = (false, eval e X.env) :: starEach es X.env := by rfl)
    (hpl : (backTo pos (starEach es X.env)).any (·.1) = false := by rfl) : DEc X C m (.Call (.Name x p) (e :: es) [] pos) (fun δ => shX (bindO (fs δ) f)) := dec_call F hr g.gl ha g.d1 he hpl
theorem dec_callV' (F : FnX X.prog X.w X.K X.mg X.base k y C f) (hr : Room k X.A) (n : Nm X i x) (ha : DA X m (e :: es) fs) (he : starEach (e :: es) X.env = (false, eval e X.env) :: starEach es X.env := by rfl)
    (hpl : (backTo pos (starEach es X.env)).any (·.1) = false := by rfl) : DEc X C m (.Call (.Name x p) (e :: es) [] pos) (fun δ => spO false i y δ (shX (bindO (fs δ) f))) := dec_callV F hr ha n.at' n.vis n.d1 n.d2 he hpl
theorem de_gfun' (F : FnX X.prog X.w X.K X.mg X.base k x C f) (g : Gb X x) : DE X mm (.Name x pos) (fun _ => some (.sp false x)) := by
  obtain ⟨q, fd, ps, h1, h2, h3, h4, h5⟩ := F.ex
  exact de_gfun g.gl h2 h5 g.d1
theorem de_gstr' {z : Str} (g : Gb X x) (hm : ∃ t, X.mg x = some (.str z t)) : DE X mm (.Name x pos) (fun _ => some (.str z)) := by
  obtain ⟨t, hm⟩ := hm
  exact de_gstr g.gl hm g.d1
theorem dsx_raise' (hX : X.calm = true) (ec : ErrC X.K X.mg C c) (g : Gb X C) (ha : DE X m a fa) (he : starEach [a] X.env = [(false, eval a X.env)] := by rfl) : DSx X C (.Raise (some (.Call (.Name C p) [a] [] cpos)) none pos) (fun δ => raiO (fa δ)) := dsx_raise hX ec g.gl ha g.d1 he
theorem dex_tuple (g : Gl X "tuple") (hm : X.mg "tuple" = none) (ha : DEx X C m a fx) (hs : starEach [a] X.env = [(false, eval a X.env)] := by rfl) : DEx X C m (.Call (.Name "tuple" p) [a] [] pos) (fun δ => tupleX (fx δ)) :=
  (pe_callTy call_tuple_of g hm bt_tuple (pa_cons ha pa_nil hs) (he := hs)).imp fun σ H Q ⟨B, Hk, δ, r, R, e, k⟩ => by
    cases q : fx δ with
    | none => simp only [q, tupleX] at e; cases e
    | some r1 =>
      cases r1 with
      | none => simp only [q, tupleX] at e; cases e; exact ⟨B, Hk, δ, none, R, q, k⟩
      | some d1 =>
        simp only [q, tupleX] at e
        cases hi : itemsD d1 with
        | none => simp [tupleO, hi, upO] at e
        | some es =>
          simp only [tupleO, hi, upO] at e; cases e
          refine ⟨B, Hk, δ, some d1, R, q, fun v H' s r => ?_⟩
          have R' := R.to s
          cases d1 with
          | lst ds =>
            simp only [itemsD] at hi; cases hi
            simp only [Rep] at r
            obtain ⟨c, xs, rfl, hq, rs⟩ := r
            refine ⟨c, xs, rfl, .inl ⟨hq.sq, fun l hl => ?_⟩⟩
            have s2 := same_upd (o := .tup xs) hl
            refine k _ _ (s.trans s2) ?_
            simp only [Rep]
            exact ⟨l, xs, rfl, upd_same, rs.same R' s2⟩
          | tup ds =>
            simp only [itemsD] at hi; cases hi
            have r' := r
            simp only [Rep] at r
            obtain ⟨c, xs, rfl, hq, rs⟩ := r
            exact ⟨c, xs, rfl, .inr ⟨SqT.of hq, k _ H' s r'⟩⟩
          | _ => simp [itemsD] at hi

theorem de_isiC {cs : Str} {d : Addr} {kk : Bool} (ec : ErrC X.K X.mg C c) (ok : errIn X.K c = true) (ed : ErrC X.K X.mg cs d) (kt : PySem.W.kitOne X.K (.ref c) (.ref d) = some kk) (gi : Gb X "isinstance") (hm : X.mg "isinstance" = none) (gc : Gb X cs) (ha : DE X m a fa)
    (hs : starEach [a, .Name cs pc] X.env = [(false, eval a X.env), (false, eval (.Name cs pc) X.env)] := by rfl) (hs2 : starEach [.Name cs pc] X.env = [(false, eval (.Name cs pc) X.env)] := by rfl)
    (hpl : (backTo pos (starEach [.Name cs pc] X.env)).any (·.1) = false := by rfl) : DE X mm (.Call (.Name "isinstance" p) [a, .Name cs pc] [] pos) (fun δ => isiEO C kk (fa δ)) :=
  de_isiG (w := .ref d) ec.nm ok kt (fun u r => r) (pe_glob gc.gl ed.bound rfl gc.d1) gi.gl hm ha hs hs2 hpl
theorem de_isiB {cs : Str} {cn : String} {kk : Bool} (ec : ErrC X.K X.mg C c) (ok : errIn X.K c = true) (kt : PySem.W.kitOne X.K (.ref c) (.type cn) = some kk) (gi : Gb X "isinstance") (hm : X.mg "isinstance" = none) (gc : Gb X cs) (hmc : X.mg cs = none) (hv : bootBuiltins cs = some (.type cn)) (ha : DE X m a fa)
    (hn : cs ≠ "__name__" := by decide) (hs : starEach [a, .Name cs pc] X.env = [(false, eval a X.env), (false, eval (.Name cs pc) X.env)] := by rfl) (hs2 : starEach [.Name cs pc] X.env = [(false, eval (.Name cs pc) X.env)] := by rfl)
    (hpl : (backTo pos (starEach [.Name cs pc] X.env)).any (·.1) = false := by rfl) : DE X mm (.Call (.Name "isinstance" p) [a, .Name cs pc] [] pos) (fun δ => isiEO C kk (fa δ)) :=
  de_isiG (w := .ty cn) ec.nm ok kt (fun u r => r) (pe_bltn (v := .ty cn) gc.gl hmc hv rfl hn gc.d1) gi.gl hm ha hs hs2 hpl
theorem bt_ValueError : bootBuiltins "ValueError" = some (.type "ValueError") := by decide +kernel
end
end L2

end

section
set_option maxHeartbeats 1000000
namespace L2
open PySem PySem.Spec PyProof.Rows

def constD : Expr → Option D
  | .Constant (.int i) _ _ => some (.int i)
  | .Constant (.str x) _ _ => some (.str x)
  | .Constant .none _ _ => some .non
  | _ => none
section
variable {X : Cx} {m : Bool}
theorem de_const {e : Expr} {d : D} (h : constD e = some d) : DE X m e (fun _ => some d) := by
  unfold constD at h
  split at h
  · cases h; exact de_int
  · cases h; exact de_str
  · cases h; exact de_non
  · cases h
theorem const_star {e : Expr} {es : List Expr} {d : D} {env : Env} (h : constD e = some d) : starEach (e :: es) env = (false, eval e env) :: starEach es env := by
  unfold constD at h
  split at h
  · rfl
  · rfl
  · rfl
  · cases h
theorem da_consts : ∀ {es : List Expr} {ds : List D}, es.map constD = ds.map some → DA X m es (fun _ => some ds)
  | [], [], _ => da_nil
  | [], _ :: _, h => by simp at h
  | _ :: _, [], h => by simp at h
  | e :: es, d :: ds, h => by
    rw [List.map_cons, List.map_cons, List.cons.injEq] at h
    exact da_cons (de_const h.1) (da_consts h.2) (const_star h.1)
end
end L2

end

section
set_option maxHeartbeats 1000000
namespace L2
open PySem

@[simp] theorem upO_s {α : Type} (d : α) : upO (some d) = some (some d) := (rfl)
@[simp] theorem consX_s (d : D) (ds : List D) : consX (some (some d)) (some (some ds)) = some (some (d :: ds)) := (rfl)
@[simp] theorem consX_e (y : Option (Option (List D))) : consX (some none) y = some none := (rfl)
@[simp] theorem consX_e2 (d : D) : consX (some (some d)) (some none) = some none := (rfl)
@[simp] theorem tupX_s (ds : List D) (h : ds.length ≤ lim) : tupX (some (some ds)) = some (some (.tup ds)) := by unfold tupX; simp only [if_pos h]
@[simp] theorem tupX_e : tupX (some none) = some none := (rfl)
@[simp] theorem upS_s (y : Out) : upS (some y) = some (.o y) := (rfl)
@[simp] theorem seqX_n (δ : DEnv) (k : DEnv → Option OutX) : seqX (some (.o (.next δ))) k = k δ := (rfl)
@[simp] theorem seqX_r (d : D) (b : Bool) (k : DEnv → Option OutX) : seqX (some (.o (.ret d b))) k = some (.o (.ret d b)) := (rfl)
@[simp] theorem seqX_x (k : DEnv → Option OutX) : seqX (some .rai) k = some .rai := (rfl)
@[simp] theorem dropX_s (d : D) (δ : DEnv) : dropX (some (some d)) δ = some (.o (.next δ)) := (rfl)
@[simp] theorem dropX_e (δ : DEnv) : dropX (some none) δ = some .rai := (rfl)
@[simp] theorem retX_s (d : D) : retX (some (some d)) = some (.o (.ret d false)) := (rfl)
@[simp] theorem retX_e : retX (some none) = some .rai := (rfl)
@[simp] theorem ifX'_t (x y : Option OutX) : ifX' (some true) x y = x := (rfl)
@[simp] theorem ifX'_f (x y : Option OutX) : ifX' (some false) x y = y := (rfl)
@[simp] theorem raiO_s (d : D) : raiO (some d) = some .rai := (rfl)
@[simp] theorem outX_r (d : D) (b : Bool) : outX (some (.o (.ret d b))) = some (some (d, b)) := (rfl)
@[simp] theorem outX_n (δ : DEnv) : outX (some (.o (.next δ))) = some (some (.non, false)) := (rfl)
@[simp] theorem outX_x : outX (some .rai) = some none := (rfl)
@[simp] theorem shX_s (d : D) (b : Bool) : shX (some (some (d, b))) = some (some d) := (rfl)
@[simp] theorem shX_e : shX (some none) = some none := (rfl)
@[simp] theorem lstX_s (ds : List D) : lstX (some (some ds)) = some (some (.lst ds)) := (rfl)
@[simp] theorem lstX_e : lstX (some none) = some none := (rfl)
@[simp] theorem tupleX_s (ds : List D) : tupleX (some (some (.lst ds))) = some (some (.tup ds)) := (rfl)
@[simp] theorem tupleX_e : tupleX (some none) = some none := (rfl)
@[simp] theorem inSO_s (c s : Str) : inSO (some (.str c)) (some (.str s)) = some (!(Builtin.Str.occurrences s c 0 s.length 1).isEmpty) := (rfl)
@[simp] theorem lenS_s (z : Str) (h : z.length ≤ lim) : lenS (some (.str z)) = some (.int z.length) := by unfold lenS; simp only [if_pos h]
@[simp] theorem strVO_s (z : Str) : strVO (some (.str z)) = some (.str z) := (rfl)
theorem strVO_i (i : Int) (h : i.natAbs.log2 < 1920) : strVO (some (.int i)) = some (.str (toString i)) := by unfold strVO; simp only [if_pos h]
@[simp] theorem startsO_s (x y : Str) : startsO (some (.str x)) (some (.str y)) = some (.bl (Txt.startswith x y)) := (rfl)
@[simp] theorem chainI_s (f g : Int → Int → Bool) (i j l : Int) : chainI f g (some (.int i)) (some (.int j)) (some (.int l)) = some (.bl (f i j && g j l)) := by
  unfold chainI
  cases h : f i j <;> simp [h]
@[simp] theorem isiEO_s (C : Str) (b : Bool) : isiEO C b (some (.sp true C)) = some (.bl b) := by unfold isiEO; simp only [if_true]
@[simp] theorem strL_s (z : Str) : strL (some (.str z)) = some (signs z) := (rfl)
theorem bolsD_map : ∀ bs : List Bool, bolsD (bs.map D.bl) = some bs
  | [] => rfl
  | b :: bs => by simp only [List.map_cons, bolsD, bolsD_map bs]
@[simp] theorem allO_s (bs : List Bool) : allO (some (.lst (bs.map D.bl))) = some (.bl (bs.all id)) := by unfold allO; simp only [bolsD_map]
theorem runX_eq {f : List D → Option (Option (D × Bool))} {n np : Nat} {g : DEnv → Option OutX} {ds : List D} {δ : DEnv} (hf : f = runX n np g) (hl : ds.length = np) (hs : startD n ds = δ) : f ds = outX (g δ) := by
  rw [hf]; unfold runX; rw [if_pos hl, hs]
theorem compX_mapM {h : D → Option (Option D)} {q : D → Option D} : ∀ {ds : List D}, (∀ d ∈ ds, h d = some (q d)) → compX h ds = some (ds.mapM q)
  | [], _ => rfl
  | d :: ds, e => by
    have e1 := e d (by simp)
    have e2 := compX_mapM (h := h) (q := q) (ds := ds) fun x hx => e x (by simp [hx])
    unfold compX
    rw [e1, e2]
    cases q1 : q d with
    | none => simp [List.mapM_cons, q1]
    | some y =>
      cases q2 : ds.mapM q with
      | none => simp [List.mapM_cons, q1, q2]
      | some l => simp [List.mapM_cons, q1, q2]
theorem runCX_s {bs : List Bool} {τ : D → DEnv → Option DEnv} {fe : DEnv → Option (Option D)} {δ : DEnv} {ds : List D} {q : D → Option D} (hl : ds.length ≤ lim) (h : ∀ d ∈ ds, itemX τ fe (maskD false bs δ) d = some (q d)) : runCX false bs τ fe δ ds = some (ds.mapM q) := by
  unfold runCX; rw [if_pos hl]; exact compX_mapM h

theorem split_len (z y : Str) : (Txt.split z y).length ≤ z.length + 2 := by
  unfold Txt.split
  split
  · simp
  · split
    · simp
    · have := PySem.StrLaws.occ_length_le_len z y 0 z.length (z.length + 1)
      rw [show ∀ (cs : List Nat) (w : Nat), (Builtin.Str.partsBetween z cs w).length = cs.length + 1 from fun cs w => by simp [Builtin.Str.partsBetween]]
      omega
theorem split_mem (z y : Str) : ∀ p ∈ Txt.split z y, p.length ≤ z.length := by
  intro p hp
  unfold Txt.split at hp
  split at hp
  · simp at hp; rw [hp]; exact Nat.le_refl _
  · split at hp
    · simp at hp; rw [hp]; exact Nat.le_refl _
    · simp only [Builtin.Str.partsBetween, List.mem_map] at hp
      obtain ⟨⟨i, j⟩, _, rfl⟩ := hp
      exact strSub_length_le ..
end L2

end

section
set_option maxHeartbeats 1000000
namespace K71
open PySem L2

def top (i : Nat) : Stmt := PySem.Challenge.pw_mustrows_k71_rows_as_texts.main.body.getD i (.Pass ⟨0, 0, 0, 0⟩)
abbrev s_show_term : Stmt := top 8
abbrev s_show_row : Stmt := top 7
abbrev s_demand : Stmt := top 16
abbrev s_demand_text : Stmt := top 15
abbrev s_only_of : Stmt := top 14
abbrev s_read_name : Stmt := top 13
abbrev s_read_number : Stmt := top 10
abbrev s_read_cell : Stmt := top 12
abbrev s_read_line : Stmt := top 11
abbrev s_read_row : Stmt := top 9
abbrev s__law_whole : Stmt := top 18
abbrev s__law_mix : Stmt := top 19
abbrev s__law_name : Stmt := top 20
abbrev s__law_row : Stmt := top 21
abbrev s__law_shown : Stmt := top 22
abbrev s__law_odd : Stmt := top 23
abbrev s__law_spoiled : Stmt := top 24
abbrev s__law_all_in : Stmt := top 25
abbrev s__law_cell : Stmt := top 26
abbrev s__law_told : Stmt := top 27
abbrev s__law_is_row : Stmt := top 28
abbrev s__law_right : Stmt := top 29
abbrev s_law : Stmt := top 30

structure Txt (K : PySem.W.Frag) (mg : Str → Option Value) : Prop where
  b_ValueError : mg "ValueError" = none
  b_all : mg "all" = none
  b_bool : mg "bool" = none
  b_int : mg "int" = none
  b_isinstance : mg "isinstance" = none
  b_len : mg "len" = none
  b_range : mg "range" = none
  b_str : mg "str" = none
  b_tuple : mg "tuple" = none
  g_FIGURES : ∃ t, mg "FIGURES" = some (.str "0123456789" t)
  g_SMALL_LETTERS : ∃ t, mg "SMALL_LETTERS" = some (.str "abcdefghijklmnopqrstuvwxyz" t)
  err : ∃ c_NoText c_MustError c_NoRow : Addr, ErrC K mg "NoText" c_NoText ∧ ErrC K mg "MustError" c_MustError ∧ ErrC K mg "NoRow" c_NoRow ∧ L2.subIn K c_NoText c_MustError = some true ∧ errIn K c_NoText = true ∧ PySem.W.kitOne K (.ref c_NoText) (.ref c_NoText) = some true ∧ PySem.W.kitOne K (.ref c_NoText) (.type "ValueError") = some true ∧ PySem.W.kitOne K (.ref c_NoText) (.ref c_NoRow) = some false
abbrev N_show_term : List Str := ["term"]
def g_show_term (δ : DEnv) : Option Out := retO ((match eqO (ixO (rd false 0 δ) (some (.int 0))) (some (.str "blank")) with | some true => addS (some (.str "?")) (strVO (ixO (rd false 0 δ) (some (.int 1)))) | some false => ixO (rd false 0 δ) (some (.int 1)) | none => none))
def f_show_term : List D → Option (D × Bool) := runF 1 1 g_show_term
abbrev N_show_row : List Str := ["row", "cell"]
def e_show_row_1 (δ : DEnv) : Option D := shO (bindO (consO (rd false 1 δ) (some [])) f_show_term)
def g_show_row (δ : DEnv) : Option Out := retO (joinO (some (.str " ")) (catO (lstO (consO (ixO (rd false 0 δ) (some (.int 0))) (some []))) (lstLim (bindO (tupL (ixO (rd false 0 δ) (some (.int 1)))) (runC false [false, false] (toName 1) (fun δ => some true) e_show_row_1 δ)))))
def f_show_row : List D → Option (D × Bool) := runF 2 1 g_show_row
abbrev N_demand : List Str := ["holds", "words"]
def g_demand (δ : DEnv) : Option OutX := ifX' (notO (tyB (rd false 0 δ))) (raiO (rd false 1 δ)) (some (.o (.next δ)))
def f_demand : List D → Option (Option (D × Bool)) := runX 2 2 g_demand
abbrev N_demand_text : List Str := ["text"]
def g_demand_text (δ : DEnv) : Option OutX := dropX (shX (bindO (consO (isiO "str" (rd false 0 δ)) (consO (some (.str "what is read is a text")) (some []))) f_demand)) δ
def f_demand_text : List D → Option (Option (D × Bool)) := runX 1 1 g_demand_text
abbrev N_only_of : List Str := ["text", "signs", "sign"]
def e_only_of_1 (δ : DEnv) : Option D := ofB (inSO (rd false 2 δ) (rd false 1 δ))
def g_only_of (δ : DEnv) : Option Out := retO (allO (lstLim (bindO (strL (rd false 0 δ)) (runC false [false, true, false] (toName 2) (fun δ => some true) e_only_of_1 δ))))
def f_only_of : List D → Option (D × Bool) := runF 3 2 g_only_of
abbrev N_read_name : List Str := ["word"]
def g_read_name (δ : DEnv) : Option OutX := seqX (dropX (shX (bindO (consO ((match tyB (chainI gLe gLe (some (.int 1)) (lenS (rd false 0 δ)) (some (.int 8))) with | some true => shO (bindO (consO (rd false 0 δ) (consO (some (.str "abcdefghijklmnopqrstuvwxyz")) (some []))) f_only_of) | some false => some (.bl false) | none => none)) (consO (some (.str "a name has one to eight letters from a to z")) (some []))) f_demand)) δ) (fun δ => upS (retO (rd false 0 δ)))
def f_read_name : List D → Option (Option (D × Bool)) := runX 1 1 g_read_name
abbrev N_read_number : List Str := ["text"]
def g_read_number (δ : DEnv) : Option OutX := seqX (dropX (shX (bindO (consO ((match tyB (chainI gLe gLe (some (.int 1)) (lenS (rd false 0 δ)) (some (.int 9))) with | some true => shO (bindO (consO (rd false 0 δ) (consO (some (.str "0123456789")) (some []))) f_only_of) | some false => some (.bl false) | none => none)) (consO (some (.str "a number has one to nine figures")) (some []))) f_demand)) δ) (fun δ => seqX (dropX (shX (bindO (consO ((match tyB (ofB (eqO (rd false 0 δ) (some (.str "0")))) with | some true => some (.bl true) | some false => ofB (neO (ixSO (rd false 0 δ) (some (.int 0))) (some (.str "0"))) | none => none)) (consO (some (.str "a number has no noughts ahead")) (some []))) f_demand)) δ) (fun δ => upS (retO (intSO (rd false 0 δ)))))
def f_read_number : List D → Option (Option (D × Bool)) := runX 1 1 g_read_number
abbrev N_read_cell : List Str := ["word"]
def g_read_cell (δ : DEnv) : Option OutX := seqX (ifX' (tyB (startsO (rd false 0 δ) (some (.str "?")))) (retX (tupX (consX (upO (some (.str "blank"))) (consX (shX (bindO (consO (cutSO (rd false 0 δ) (partI (some (.int 1))) (some none)) (some [])) f_read_number)) (upO (some [])))))) (some (.o (.next δ)))) (fun δ => retX (tupX (consX (upO (some (.str "name"))) (consX (shX (bindO (consO (rd false 0 δ) (some [])) f_read_name)) (upO (some []))))))
def f_read_cell : List D → Option (Option (D × Bool)) := runX 1 1 g_read_cell
abbrev N_read_line : List Str := ["text", "read_word", "words", "word"]
def e_read_line_1 (δ : DEnv) : Option (Option D) := spO false 1 "read_cell" δ (shX (bindO (consO (rd false 3 δ) (some [])) f_read_cell))
def g_read_line (δ : DEnv) : Option OutX := seqX (upS (setO 2 (splitO (rd false 0 δ) (some (.str " "))) δ)) (fun δ => seqX (dropX (shX (bindO (consO (chainI gLe gLe (some (.int 2)) (lenL (rd false 2 δ)) (some (.int 5))) (consO (some (.str "a table's name is followed by one to four words")) (some []))) f_demand)) δ) (fun δ => retX (tupX (consX (shX (bindO (consO (ixO (rd false 2 δ) (some (.int 0))) (some [])) f_read_name)) (consX (tupleX (lstX (bindO (lstL (cutLO (rd false 2 δ) (partI (some (.int 1))) (some none))) (runCX false [false, true, false, false] (toName 3) e_read_line_1 δ)))) (upO (some [])))))))
def f_read_line : List D → Option (Option (D × Bool)) := runX 4 2 g_read_line
abbrev N_read_row : List Str := ["text"]
def g_read_row (δ : DEnv) : Option OutX := seqX (dropX (shX (bindO (consO (rd false 0 δ) (some [])) f_demand_text)) δ) (fun δ => retX (shX (bindO (consO (rd false 0 δ) (consO (some (.sp false "read_cell")) (some []))) f_read_line)))
def f_read_row : List D → Option (Option (D × Bool)) := runX 1 1 g_read_row
abbrev N__law_whole : List Str := ["_law_found"]
def g__law_whole (δ : DEnv) : Option Out := retO ((match tyB (isiO "int" (rd false 0 δ)) with | some true => ofB (notO (tyB (isiO "bool" (rd false 0 δ)))) | some false => some (.bl false) | none => none))
def f__law_whole : List D → Option (D × Bool) := runF 1 1 g__law_whole
abbrev N__law_mix : List Str := ["_law_cell_here", "_law_j", "_law_number"]
def g__law_mix (δ : DEnv) : Option Out := seqO (setO 2 (modI (addI (mulI (rd false 0 δ) (addI (mulI (some (.int 2)) (rd false 1 δ)) (some (.int 3)))) (rd false 1 δ)) (some (.int 2147483629))) δ) (fun δ => retO (modI (mulI (addI (mulI (rd false 2 δ) (rd false 2 δ)) (some (.int 1))) (some (.int 48271))) (some (.int 2147483629))))
def f__law_mix : List D → Option (D × Bool) := runF 3 2 g__law_mix
abbrev N__law_name : List Str := ["_law_cell_here", "_law_far", "_law_letters", "_law_size", "_law_k"]
def e__law_name_1 (δ : DEnv) : Option D := ixSO (rd false 2 δ) (modI (shO (bindO (consO (rd false 0 δ) (consO (addI (addI (rd false 1 δ) (some (.int 1))) (rd false 4 δ)) (some []))) f__law_mix)) (some (.int 26)))
def g__law_name (δ : DEnv) : Option Out := seqO (setO 2 (some (.str "abcdefghijklmnopqrstuvwxyz")) δ) (fun δ => seqO (setO 3 (ixO (lstO (some [(.int 1), (.int 2), (.int 3), (.int 4), (.int 5), (.int 6), (.int 7), (.int 8), (.int 8)])) (modI (shO (bindO (consO (rd false 0 δ) (consO (rd false 1 δ) (some []))) f__law_mix)) (some (.int 9)))) δ) (fun δ => retO (joinO (some (.str "")) (lstLim (bindO (rng1 (rd false 3 δ)) (runC false [true, true, true, false, false] (toName 4) (fun δ => some true) e__law_name_1 δ))))))
def f__law_name : List D → Option (D × Bool) := runF 5 2 g__law_name
abbrev N__law_row : List Str := ["_law_cell_here", "_law_cells", "_law_k", "_law_drawn"]
def b__law_row_1 (δ : DEnv) : Option Out := seqO (setO 3 (shO (bindO (consO (rd false 0 δ) (consO (addI (some (.int 2)) (rd false 2 δ)) (some []))) f__law_mix)) δ) (fun δ => ifO (eqO (modI (rd false 3 δ) (some (.int 2))) (some (.int 0))) (appO 1 (tupO (consO (some (.str "blank")) (consO (modI (divI (rd false 3 δ) (some (.int 2))) (ixO (lstO (consO (some (.int 10)) (consO (some (.int 1000)) (consO (some (.int 1000000)) (some []))))) (modI (divI (rd false 3 δ) (some (.int 4))) (some (.int 3))))) (some [])))) δ) (appO 1 (tupO (consO (some (.str "name")) (consO (shO (bindO (consO (rd false 0 δ) (consO (addI (some (.int 10)) (mulI (some (.int 10)) (rd false 2 δ))) (some []))) f__law_name)) (some [])))) δ))
def k__law_row_2 (δ : DEnv) : Option Out := retO (tupO (consO (shO (bindO (consO (rd false 0 δ) (consO (some (.int 50)) (some []))) f__law_name)) (consO (tupleO (rd false 1 δ)) (some []))))
def g__law_row (δ : DEnv) : Option Out := seqO (setF 1 (lstO (some [])) δ) (fun δ => seqO (bindO (rng1 (addI (some (.int 1)) (modI (shO (bindO (consO (rd false 0 δ) (consO (some (.int 1)) (some []))) f__law_mix)) (some (.int 4))))) fun ds => loopD (fun d δ => bindO ((toName 2) d δ) b__law_row_1) ds δ) (fun δ => k__law_row_2 (frzE 1 δ)))
def f__law_row : List D → Option (D × Bool) := runF 4 1 g__law_row
abbrev N__law_shown : List Str := ["_law_row_here", "_law_text", "_law_cell_here"]
def b__law_shown_1 (δ : DEnv) : Option Out := seqO (setO 1 (addS (rd false 1 δ) (some (.str " "))) δ) (fun δ => seqO (ifO (eqO (ixO (rd false 2 δ) (some (.int 0))) (some (.str "blank"))) (setO 1 (addS (rd false 1 δ) (some (.str "?"))) δ) (nextO δ)) (fun δ => setO 1 (addS (rd false 1 δ) (strVO (ixO (rd false 2 δ) (some (.int 1))))) δ))
def g__law_shown (δ : DEnv) : Option Out := seqO (setO 1 (ixO (rd false 0 δ) (some (.int 0))) δ) (fun δ => seqO (bindO (tupL (ixO (rd false 0 δ) (some (.int 1)))) fun ds => loopD (fun d δ => bindO ((toName 2) d δ) b__law_shown_1) ds δ) (fun δ => retO (rd false 1 δ)))
def f__law_shown : List D → Option (D × Bool) := runF 3 1 g__law_shown
abbrev N__law_odd : List Str := ["_law_cell_here", "_law_some"]
def g__law_odd (δ : DEnv) : Option Out := seqO (setO 1 (lstO (some [(.str ""), (.str " "), (.str "has"), (.str "has "), (.str " has a"), (.str "has  a"), (.str "has ?"), (.str "has ??1"), (.str "has ?01"), (.str "has ?-1"), (.str "has 1"), (.str "has A")])) δ) (fun δ => seqO (setO 1 (catO (rd false 1 δ) (lstO (some [(.str "Has a"), (.str "has a b c d e"), (.str "has a, has b"), (.str "has ?1 "), (.str "?1 a"), (.str "has a\n"), (.str "has\ta"), (.str "has ?1234567890")]))) δ) (fun δ => seqO (setO 1 (catO (rd false 1 δ) (lstO (consO (some .non) (consO (some (.int 7)) (consO (tupO (consO (some (.str "has")) (consO (tupO (consO (tupO (consO (some (.str "name")) (consO (some (.str "a")) (some [])))) (some []))) (some [])))) (consO (lstO (consO (some (.str "has a")) (some []))) (some []))))))) δ) (fun δ => retO (ixO (rd false 1 δ) (modI (shO (bindO (consO (rd false 0 δ) (consO (some (.int 60)) (some []))) f__law_mix)) (some (.int 24)))))))
def f__law_odd : List D → Option (D × Bool) := runF 2 1 g__law_odd
abbrev N__law_spoiled : List Str := ["_law_text", "_law_cell_here", "_law_signs", "_law_way", "_law_at", "_law_sign"]
def g__law_spoiled (δ : DEnv) : Option Out := seqO (setO 2 (some (.str "   ???0123456789abcdefghijklmnopqrstuvwxyzABCXYZ,;:=>.-_+!\"#$&'()*/<@\x5b\\]^{|}~")) δ) (fun δ => seqO (setO 3 (modI (shO (bindO (consO (rd false 1 δ) (consO (some (.int 61)) (some []))) f__law_mix)) (some (.int 8))) δ) (fun δ => seqO (setO 4 (modI (shO (bindO (consO (rd false 1 δ) (consO (some (.int 62)) (some []))) f__law_mix)) (addI (lenS (rd false 0 δ)) (some (.int 1)))) δ) (fun δ => seqO (setO 5 (ixSO (rd false 2 δ) (modI (shO (bindO (consO (rd false 1 δ) (consO (some (.int 63)) (some []))) f__law_mix)) (lenS (rd false 2 δ)))) δ) (fun δ => seqO (ifO (cI gLt (rd false 3 δ) (some (.int 2))) (retO (addS (addS (cutSO (rd false 0 δ) (some none) (partI (rd false 4 δ))) (rd false 5 δ)) (cutSO (rd false 0 δ) (partI (rd false 4 δ)) (some none)))) (nextO δ)) (fun δ => seqO (ifO (eqO (rd false 3 δ) (some (.int 2))) (retO (addS (cutSO (rd false 0 δ) (some none) (partI (rd false 4 δ))) (cutSO (rd false 0 δ) (partI (addI (rd false 4 δ) (some (.int 1)))) (some none)))) (nextO δ)) (fun δ => seqO (ifO (cI gLt (rd false 3 δ) (some (.int 6))) (retO (addS (addS (cutSO (rd false 0 δ) (some none) (partI (rd false 4 δ))) (rd false 5 δ)) (cutSO (rd false 0 δ) (partI (addI (rd false 4 δ) (some (.int 1)))) (some none)))) (nextO δ)) (fun δ => seqO (ifO (eqO (rd false 3 δ) (some (.int 6))) (retO (shO (bindO (consO (rd false 1 δ) (some [])) f__law_odd))) (nextO δ)) (fun δ => retO (rd false 0 δ)))))))))
def f__law_spoiled : List D → Option (D × Bool) := runF 6 2 g__law_spoiled
abbrev N__law_all_in : List Str := ["_law_word", "_law_signs", "_law_most", "_law_sign"]
def b__law_all_in_1 (δ : DEnv) : Option Out := ifO (notO (inSO (rd false 3 δ) (rd false 1 δ))) (retO (some (.bl false))) (nextO δ)
def g__law_all_in (δ : DEnv) : Option Out := seqO (ifO (orO (cI gLt (lenS (rd false 0 δ)) (some (.int 1))) (cI gGt (lenS (rd false 0 δ)) (rd false 2 δ))) (retO (some (.bl false))) (nextO δ)) (fun δ => seqO (bindO (strL (rd false 0 δ)) fun ds => loopD (fun d δ => bindO ((toName 3) d δ) b__law_all_in_1) ds δ) (fun δ => retO (some (.bl true))))
def f__law_all_in : List D → Option (D × Bool) := runF 4 3 g__law_all_in
abbrev N__law_cell : List Str := ["_law_word", "_law_figures"]
def g__law_cell (δ : DEnv) : Option Out := seqO (ifO (tyB (shO (bindO (consO (rd false 0 δ) (consO (some (.str "abcdefghijklmnopqrstuvwxyz")) (consO (some (.int 8)) (some [])))) f__law_all_in))) (retO (tupO (consO (some (.str "name")) (consO (rd false 0 δ) (some []))))) (nextO δ)) (fun δ => seqO (setO 1 (cutSO (rd false 0 δ) (partI (some (.int 1))) (some none)) δ) (fun δ => seqO (ifO (andO (eqO (cutSO (rd false 0 δ) (some none) (partI (some (.int 1)))) (some (.str "?"))) (andO (tyB (shO (bindO (consO (rd false 1 δ) (consO (some (.str "0123456789")) (consO (some (.int 9)) (some [])))) f__law_all_in))) (orO (eqO (rd false 1 δ) (some (.str "0"))) (neO (ixSO (rd false 1 δ) (some (.int 0))) (some (.str "0")))))) (retO (tupO (consO (some (.str "blank")) (consO (intSO (rd false 1 δ)) (some []))))) (nextO δ)) (fun δ => retO (some .non))))
def f__law_cell : List D → Option (D × Bool) := runF 2 1 g__law_cell
abbrev N__law_told : List Str := ["_law_text", "_law_words", "_law_cells", "_law_word"]
def e__law_told_1 (δ : DEnv) : Option D := shO (bindO (consO (rd false 3 δ) (some [])) f__law_cell)
def k__law_told_2 (δ : DEnv) : Option Out := seqO (ifO (inO (some .non) (rd false 2 δ)) (retO (some .non)) (nextO δ)) (fun δ => retO (tupO (consO (ixO (rd false 1 δ) (some (.int 0))) (consO (tupleO (rd false 2 δ)) (some [])))))
def g__law_told (δ : DEnv) : Option Out := seqO (ifO (notO (tyB (isiO "str" (rd false 0 δ)))) (retO (some .non)) (nextO δ)) (fun δ => seqO (setO 1 (splitO (rd false 0 δ) (some (.str " "))) δ) (fun δ => seqO (ifO (orO (cI gLt (lenL (rd false 1 δ)) (some (.int 2))) (orO (cI gGt (lenL (rd false 1 δ)) (some (.int 5))) (notO (tyB (shO (bindO (consO (ixO (rd false 1 δ) (some (.int 0))) (consO (some (.str "abcdefghijklmnopqrstuvwxyz")) (consO (some (.int 8)) (some [])))) f__law_all_in)))))) (retO (some .non)) (nextO δ)) (fun δ => seqO (setF 2 (lstLim (bindO (lstL (cutLO (rd false 1 δ) (partI (some (.int 1))) (some none))) (runC false [false, false, false, false] (toName 3) (fun δ => some true) e__law_told_1 δ))) δ) (fun δ => k__law_told_2 (frzE 2 δ)))))
def f__law_told : List D → Option (D × Bool) := runF 4 1 g__law_told
abbrev N__law_is_row : List Str := ["_law_found", "_law_due", "_law_cell_here"]
def b__law_is_row_1 (δ : DEnv) : Option Out := ifO (orO (notO (tyB (isiO "tuple" (rd false 2 δ)))) (andO (eqO (ixO (rd false 2 δ) (some (.int 0))) (some (.str "blank"))) (notO (tyB (shO (bindO (consO (ixO (rd false 2 δ) (some (.int 1))) (some [])) f__law_whole)))))) (retO (some (.bl false))) (nextO δ)
def g__law_is_row (δ : DEnv) : Option Out := seqO (ifO (orO (notO (tyB (isiO "tuple" (rd false 0 δ)))) (orO (neO (rd false 0 δ) (rd false 1 δ)) (notO (tyB (isiO "tuple" (ixO (rd false 0 δ) (some (.int 1)))))))) (retO (some (.bl false))) (nextO δ)) (fun δ => seqO (bindO (tupL (ixO (rd false 0 δ) (some (.int 1)))) fun ds => loopD (fun d δ => bindO ((toName 2) d δ) b__law_is_row_1) ds δ) (fun δ => retO (some (.bl true))))
def f__law_is_row : List D → Option (D × Bool) := runF 3 2 g__law_is_row
abbrev N__law_right : List Str := ["_law_text", "_law_due", "_law_error", "_law_found", "e"]
def g__law_right (δ : DEnv) : Option Out := seqO (setO 1 (shO (bindO (consO (rd false 0 δ) (some [])) f__law_told)) δ) (fun δ => seqO (setO 2 (some .non) δ) (fun δ => seqO (setO 3 (some .non) δ) (fun δ => seqO (tryO 3 2 4 "NoText" (bindO (consO (rd false 0 δ) (some [])) f_read_row) δ) (fun δ => seqO (ifO (notO (isNO (rd false 1 δ))) (retO ((match tyB (ofB (isNO (rd false 2 δ))) with | some true => shO (bindO (consO (rd false 3 δ) (consO (rd false 1 δ) (some []))) f__law_is_row) | some false => some (.bl false) | none => none))) (nextO δ)) (fun δ => retO ((match tyB (isiEO "NoText" true (rd false 2 δ)) with | some true => (match tyB (isiEO "NoText" true (rd false 2 δ)) with | some true => ofB (notO (tyB (isiEO "NoText" false (rd false 2 δ)))) | some false => some (.bl false) | none => none) | some false => some (.bl false) | none => none)))))))
def f__law_right : List D → Option (D × Bool) := runF 5 1 g__law_right
abbrev N_law : List Str := ["_law_script", "_law_cell_here", "_law_row_here", "_law_text", "_law_found"]
def b_law_1 (δ : DEnv) : Option Out := seqO (setO 2 (shO (bindO (consO (rd false 1 δ) (some [])) f__law_row)) δ) (fun δ => seqO (setO 3 (shO (bindO (consO (rd false 2 δ) (some [])) f__law_shown)) δ) (fun δ => seqO (setO 4 (shO (bindO (consO (rd false 2 δ) (some [])) f_show_row)) δ) (fun δ => seqO (ifO (orO (notO (tyB (isiO "str" (rd false 4 δ)))) (neO (rd false 4 δ) (rd false 3 δ))) (retO (some (.bl false))) (nextO δ)) (fun δ => ifO (orO (notO (tyB (shO (bindO (consO (rd false 4 δ) (some [])) f__law_right)))) (notO (tyB (shO (bindO (consO (shO (bindO (consO (rd false 3 δ) (consO (rd false 1 δ) (some []))) f__law_spoiled)) (some [])) f__law_right))))) (retO (some (.bl false))) (nextO δ)))))
def g_law (δ : DEnv) : Option Out := seqO (bindO (lstL (catO (cutLO (rd false 0 δ) (some none) (partI (some (.int 63)))) (lstO (consO (some (.int 0)) (some []))))) fun ds => loopD (fun d δ => bindO ((toName 1) d δ) b_law_1) ds δ) (fun δ => retO (some (.bl true)))
def f_law : List D → Option (D × Bool) := runF 5 1 g_law
section
variable {P : Program} {w : World} {K : PySem.W.Frag} {mg : Str → Option Value} {base : Heap}
theorem sc_show_term : FnScope N_show_term (["term"] : List Str) (defScope s_show_term) := ⟨rfl, rfl, rfl, by decide +kernel, rfl, by decide +kernel, by decide +kernel⟩
theorem d_show_term {X : Cx} (hX : Has X N_show_term (defScope s_show_term)) (hf : ∀ x, X.fn x = true) (hp : PassesOwn (model X.prog X.w) X.A X.env X.xe) (hr : Room 0 X.A) (T : Txt X.K X.mg)  :
    DSs X (defBody s_show_term) g_show_term := by
  have hu := hr.units
  have n0 : Nm X 0 "term" := hX.nm (by decide +kernel)
  have gg_str : Gb X "str" := hX.gb (by decide +kernel)
  refine' @dss_one _ _ _ ?z1
  case z1 =>
    refine' @ds_ret _ _ _ _ ?z2
    case z2 =>
      refine' @de_ifExp _ _ _ _ _ _ _ _ false ?z3 ?z4 (@de_ix _ false false _ _ _ _ _ (@nv _ _ _ _ false n0) (@de_int _ false _ _ _) (by exact fun _ _ => rfl))
      case z3 =>
        exact @dt_eq _ false false _ _ _ _ _ hu (@de_ix _ false false _ _ _ _ _ (@nv _ _ _ _ false n0) (@de_int _ false _ _ _) (by exact fun _ _ => rfl)) (@de_str _ false _ _ _)
      case z4 =>
        refine' @de_addS _ false false false _ _ _ _ _ (@de_str _ false _ _ _) ?z5
        case z5 =>
          exact @de_strV _ false false _ _ _ _ gg_str.gl T.b_str (@de_ix _ false false _ _ _ _ _ (@nv _ _ _ _ false n0) (@de_int _ false _ _ _) (by exact fun _ _ => rfl)) (by rfl)
theorem m_show_term {f : Addr} {fd : FuncData} (F : Fun K "show_term" "show_term" s_show_term f fd) (hb : Binds K fd (["term"] : List Str) []) (hm : mg "show_term" = some (.ref f)) (T : Txt K mg)  :
    FnOk P w K mg base CX0 1 f fd (["term"] : List Str) (spM K f_show_term) ∧ FnM P w K mg base 1 "show_term" f_show_term := by
  have h := fnM_of (P := P) (w := w) (base := base) (k := 0) (g := g_show_term) F sc_show_term hb hm (by decide) fun cdv A outer s H E hr => by
    exact @d_show_term ((cxOf CX0 P w K mg base N_show_term "show_term" (defScope s_show_term) f cdv A outer s H E).nox) (hasX sc_show_term.nd) (fun _ => rfl) PassesOwn.never hr T 
  exact h
theorem sc_show_row : FnScope N_show_row (["row"] : List Str) (defScope s_show_row) := ⟨rfl, rfl, rfl, by decide +kernel, rfl, by decide +kernel, by decide +kernel⟩
theorem d_show_row {X : Cx} (hX : Has X N_show_row (defScope s_show_row)) (hf : ∀ x, X.fn x = true) (hp : PassesOwn (model X.prog X.w) X.A X.env X.xe) (hr : Room 1 X.A) (T : Txt X.K X.mg) (F_show_term : FnM X.prog X.w X.K X.mg X.base 1 "show_term" f_show_term) :
    DSs X (defBody s_show_row) g_show_row := by
  have hu := hr.units
  have n0 : Nm X 0 "row" := hX.nm (by decide +kernel)
  refine' @dss_one _ _ _ ?z6
  case z6 =>
    refine' @ds_ret _ _ _ _ ?z7
    case z7 =>
      refine' @de_join _ false false false _ _ _ _ _ _ (@de_str _ false _ _ _) ?z8 (by rfl) (by rfl) (by rfl) (by rfl)
      case z8 =>
        refine' @DF.share _ false _ _ ?z9
        case z9 =>
          refine' @df_cat _ _ _ _ _ _ ?z10 ?z11
          case z10 =>
            refine' @DF.share _ false _ _ ?z12
            case z12 =>
              refine' @df_lst _ _ _ _ ?z13
              case z13 =>
                exact @da_cons _ false _ _ _ _ (@de_ix _ false false _ _ _ _ _ (@nv _ _ _ _ false n0) (@de_int _ false _ _ _) (by exact fun _ _ => rfl)) (@da_nil _ false) (by rfl)
          case z11 =>
            refine' @DF.share _ false _ _ ?z14
            case z14 =>
              refine' @df_comp _ _ _ _ _ _ _ _ _ _ _ _ hX.calm (anew_name 1) ?z15 (CompScope.of' hX (by decide +kernel)) (fun cl C s₂ H₂ ex pn => @dg_name' _ _ _ _ (hX.comp _ cl C s₂ H₂ ex pn).nd ((hX.comp _ cl C s₂ H₂ ex pn).lcl (i := 1) (by decide +kernel))) (fun cl C s₂ H₂ ex pn => @dts_nil _) ?z16 (by intro _ ; rfl)
              case z15 =>
                exact @di_tup _ false _ _ _ (@de_ix _ false false _ _ _ _ _ (@nv _ _ _ _ false n0) (@de_int _ false _ _ _) (by exact fun _ _ => rfl))
              case z16 =>
                intro cl C s₂ H₂ ex pn
                exact @de_call' _ false _ _ _ _ _ _ _ _ F_show_term (hr.mono (by decide)) ((hX.comp _ cl C s₂ H₂ ex pn).gb (x := "show_term") (by decide +kernel)) (@da_cons _ false _ _ _ _ (@nv _ _ _ _ false ((hX.comp _ cl C s₂ H₂ ex pn).nm (i := 1) (by decide +kernel))) (@da_nil _ false) (by rfl)) (by rfl) (by rfl)
theorem m_show_row {f : Addr} {fd : FuncData} (F : Fun K "show_row" "show_row" s_show_row f fd) (hb : Binds K fd (["row"] : List Str) []) (hm : mg "show_row" = some (.ref f)) (T : Txt K mg) (F_show_term : FnM P w K mg base 1 "show_term" f_show_term) :
    FnOk P w K mg base CX0 2 f fd (["row"] : List Str) (spM K f_show_row) ∧ FnM P w K mg base 2 "show_row" f_show_row := by
  have h := fnM_of (P := P) (w := w) (base := base) (k := 1) (g := g_show_row) F sc_show_row hb hm (by decide) fun cdv A outer s H E hr => by
    exact @d_show_row ((cxOf CX0 P w K mg base N_show_row "show_row" (defScope s_show_row) f cdv A outer s H E).nox) (hasX sc_show_row.nd) (fun _ => rfl) PassesOwn.never hr T F_show_term
  exact h
theorem sc_demand : FnScope N_demand (["holds", "words"] : List Str) (defScope s_demand) := ⟨rfl, rfl, rfl, by decide +kernel, rfl, by decide +kernel, by decide +kernel⟩
theorem d_demand {X : Cx} (hX : Has X N_demand (defScope s_demand)) (hf : ∀ x, X.fn x = true) (hst : X.stack = X.env :: X.outer ∧ X.env.frame = some X.env.locals) (hr : Room 0 X.A) (T : Txt X.K X.mg)  :
    DSsx X "NoText" (defBody s_demand) g_demand := by
  have hu := hr.units
  obtain ⟨c_NoText, c_MustError, c_NoRow, e_NoText, e_MustError, e_NoRow, hsub, herr, k_NoText, k_ValueError, k_NoRow⟩ := T.err
  have n0 : Nm X 0 "holds" := hX.nm (by decide +kernel)
  have n1 : Nm X 1 "words" := hX.nm (by decide +kernel)
  have gg_NoText : Gb X "NoText" := hX.gb (by decide +kernel)
  refine' @dssx_one _ _ _ _ (@dsx_if _ _ _ _ _ _ _ _ _ ?z17 ?_ ?_)
  case z17 =>
    exact @dt_not _ _ _ _ (@dt_val _ false _ _ (@nv _ _ _ _ false n0) (by intro _ ; rfl))
  · refine @dssx_one _ _ _ _ (@dsx_raise' _ _ _ false _ _ _ _ _ hX.calm e_NoText gg_NoText (@nv _ _ _ _ false n1) (by rfl))
  · exact @dssx_nil _ _
theorem m_demand {f : Addr} {fd : FuncData} (F : Fun K "demand" "demand" s_demand f fd) (hb : Binds K fd (["holds", "words"] : List Str) []) (hm : mg "demand" = some (.ref f)) (hns : PySem.W.nsIn K mainGlobals "demand" = some (some (.ref f))) (T : Txt K mg)  :
    FnX P w K mg base 1 "demand" "NoText" f_demand := by
  have h := fnX_of (P := P) (w := w) (base := base) (C := "NoText") (k := 0) (g := g_demand) F sc_demand hb hm hns (by decide) fun cdv A outer s H E hr => by
    exact @d_demand (cxOf (CX1 P w K "NoText") P w K mg base N_demand "demand" (defScope s_demand) f cdv A outer s H E) (hasX1 sc_demand.nd) (fun _ => rfl) ⟨rfl, rfl⟩ hr T 
  exact h
theorem sc_demand_text : FnScope N_demand_text (["text"] : List Str) (defScope s_demand_text) := ⟨rfl, rfl, rfl, by decide +kernel, rfl, by decide +kernel, by decide +kernel⟩
theorem d_demand_text {X : Cx} (hX : Has X N_demand_text (defScope s_demand_text)) (hf : ∀ x, X.fn x = true) (hst : X.stack = X.env :: X.outer ∧ X.env.frame = some X.env.locals) (hr : Room 1 X.A) (T : Txt X.K X.mg) (F_demand : FnX X.prog X.w X.K X.mg X.base 1 "demand" "NoText" f_demand) :
    DSsx X "NoText" (defBody s_demand_text) g_demand_text := by
  have hu := hr.units
  obtain ⟨c_NoText, c_MustError, c_NoRow, e_NoText, e_MustError, e_NoRow, hsub, herr, k_NoText, k_ValueError, k_NoRow⟩ := T.err
  have n0 : Nm X 0 "text" := hX.nm (by decide +kernel)
  have gg_demand : Gb X "demand" := hX.gb (by decide +kernel)
  have gg_isinstance : Gb X "isinstance" := hX.gb (by decide +kernel)
  have gg_str : Gb X "str" := hX.gb (by decide +kernel)
  refine @dssx_one _ _ _ _ (@dsx_expr _ _ _ _ _ (DEc.toX (dec_call' F_demand (hr.mono (by decide)) gg_demand (da_cons (de_isi (mm := false) (cs := "str") (by simp) gg_isinstance.gl T.b_isinstance gg_str.gl T.b_str bt_str (nv false n0)) (da_cons (de_str (m := false)) (da_nil))))) (by rfl))
theorem m_demand_text {f : Addr} {fd : FuncData} (F : Fun K "demand_text" "demand_text" s_demand_text f fd) (hb : Binds K fd (["text"] : List Str) []) (hm : mg "demand_text" = some (.ref f)) (hns : PySem.W.nsIn K mainGlobals "demand_text" = some (some (.ref f))) (T : Txt K mg) (F_demand : FnX P w K mg base 1 "demand" "NoText" f_demand) :
    FnX P w K mg base 2 "demand_text" "NoText" f_demand_text := by
  have h := fnX_of (P := P) (w := w) (base := base) (C := "NoText") (k := 1) (g := g_demand_text) F sc_demand_text hb hm hns (by decide) fun cdv A outer s H E hr => by
    exact @d_demand_text (cxOf (CX1 P w K "NoText") P w K mg base N_demand_text "demand_text" (defScope s_demand_text) f cdv A outer s H E) (hasX1 sc_demand_text.nd) (fun _ => rfl) ⟨rfl, rfl⟩ hr T F_demand
  exact h
theorem sc_only_of : FnScope N_only_of (["text", "signs"] : List Str) (defScope s_only_of) := ⟨rfl, rfl, rfl, by decide +kernel, rfl, by decide +kernel, by decide +kernel⟩
theorem d_only_of {X : Cx} (hX : Has X N_only_of (defScope s_only_of)) (hf : ∀ x, X.fn x = true) (hp : PassesOwn (model X.prog X.w) X.A X.env X.xe) (hr : Room 0 X.A) (T : Txt X.K X.mg)  :
    DSs X (defBody s_only_of) g_only_of := by
  have hu := hr.units
  have n0 : Nm X 0 "text" := hX.nm (by decide +kernel)
  have gg_all : Gb X "all" := hX.gb (by decide +kernel)
  refine' @dss_one _ _ _ ?z18
  case z18 =>
    refine' @ds_ret _ _ _ _ ?z19
    case z19 =>
      refine' @de_all _ false false _ _ _ _ hX.calm gg_all.gl T.b_all ?z20 (by rfl)
      case z20 =>
        refine' @DF.share _ false _ _ ?z21
        case z21 =>
          refine' @df_comp _ _ _ _ _ _ _ _ _ _ _ _ hX.calm (anew_name 2) (@di_str _ _ false _ _ (@nv _ _ _ _ false n0)) (CompScope.of' hX (by decide +kernel)) (fun cl C s₂ H₂ ex pn => @dg_name' _ _ _ _ (hX.comp _ cl C s₂ H₂ ex pn).nd ((hX.comp _ cl C s₂ H₂ ex pn).lcl (i := 2) (by decide +kernel))) (fun cl C s₂ H₂ ex pn => @dts_nil _) ?z22 (by intro _ ; rfl)
          case z22 =>
            intro cl C s₂ H₂ ex pn
            exact @de_inS _ false false false _ _ _ _ _ (by rfl) (@nv _ _ _ _ false ((hX.comp _ cl C s₂ H₂ ex pn).nm (i := 2) (by decide +kernel))) (@nv _ _ _ _ false ((hX.comp _ cl C s₂ H₂ ex pn).nm (i := 1) (by decide +kernel)))
theorem m_only_of {f : Addr} {fd : FuncData} (F : Fun K "only_of" "only_of" s_only_of f fd) (hb : Binds K fd (["text", "signs"] : List Str) []) (hm : mg "only_of" = some (.ref f)) (T : Txt K mg)  :
    FnOk P w K mg base CX0 1 f fd (["text", "signs"] : List Str) (spM K f_only_of) ∧ FnM P w K mg base 1 "only_of" f_only_of := by
  have h := fnM_of (P := P) (w := w) (base := base) (k := 0) (g := g_only_of) F sc_only_of hb hm (by decide) fun cdv A outer s H E hr => by
    exact @d_only_of ((cxOf CX0 P w K mg base N_only_of "only_of" (defScope s_only_of) f cdv A outer s H E).nox) (hasX sc_only_of.nd) (fun _ => rfl) PassesOwn.never hr T 
  exact h
theorem sc_read_name : FnScope N_read_name (["word"] : List Str) (defScope s_read_name) := ⟨rfl, rfl, rfl, by decide +kernel, rfl, by decide +kernel, by decide +kernel⟩
theorem d_read_name {X : Cx} (hX : Has X N_read_name (defScope s_read_name)) (hf : ∀ x, X.fn x = true) (hst : X.stack = X.env :: X.outer ∧ X.env.frame = some X.env.locals) (hr : Room 1 X.A) (T : Txt X.K X.mg) (F_demand : FnX X.prog X.w X.K X.mg X.base 1 "demand" "NoText" f_demand) (F_only_of : FnM X.prog X.w X.K X.mg X.base 1 "only_of" f_only_of) :
    DSsx X "NoText" (defBody s_read_name) g_read_name := by
  have hu := hr.units
  obtain ⟨c_NoText, c_MustError, c_NoRow, e_NoText, e_MustError, e_NoRow, hsub, herr, k_NoText, k_ValueError, k_NoRow⟩ := T.err
  have n0 : Nm X 0 "word" := hX.nm (by decide +kernel)
  have gg_SMALL_LETTERS : Gb X "SMALL_LETTERS" := hX.gb (by decide +kernel)
  have gg_demand : Gb X "demand" := hX.gb (by decide +kernel)
  have gg_len : Gb X "len" := hX.gb (by decide +kernel)
  have gg_only_of : Gb X "only_of" := hX.gb (by decide +kernel)
  refine @dssx_cons _ _ _ _ _ _ (@dsx_expr _ _ _ _ _ (DEc.toX (dec_call' F_demand (hr.mono (by decide)) gg_demand (da_cons (de_and (mm := false) (de_chain (mm := false) op_le op_le (de_int (m := false)) (de_lenS (mm := false) gg_len.gl T.b_len (nv false n0)) (de_int (m := false))) (de_one (de_call' F_only_of (hr.mono (by decide)) gg_only_of (da_cons (nv false n0) (da_cons (de_gstr' (mm := false) gg_SMALL_LETTERS T.g_SMALL_LETTERS) (da_nil)))))) (da_cons (de_str (m := false)) (da_nil))))) (by rfl)) ?_
  refine' @dssx_one _ _ _ _ ?z23
  case z23 =>
    exact @dsx_up _ _ _ _ (@ds_ret _ _ _ _ (@nv _ _ _ _ false n0))
theorem m_read_name {f : Addr} {fd : FuncData} (F : Fun K "read_name" "read_name" s_read_name f fd) (hb : Binds K fd (["word"] : List Str) []) (hm : mg "read_name" = some (.ref f)) (hns : PySem.W.nsIn K mainGlobals "read_name" = some (some (.ref f))) (T : Txt K mg) (F_demand : FnX P w K mg base 1 "demand" "NoText" f_demand) (F_only_of : FnM P w K mg base 1 "only_of" f_only_of) :
    FnX P w K mg base 2 "read_name" "NoText" f_read_name := by
  have h := fnX_of (P := P) (w := w) (base := base) (C := "NoText") (k := 1) (g := g_read_name) F sc_read_name hb hm hns (by decide) fun cdv A outer s H E hr => by
    exact @d_read_name (cxOf (CX1 P w K "NoText") P w K mg base N_read_name "read_name" (defScope s_read_name) f cdv A outer s H E) (hasX1 sc_read_name.nd) (fun _ => rfl) ⟨rfl, rfl⟩ hr T F_demand F_only_of
  exact h
theorem sc_read_number : FnScope N_read_number (["text"] : List Str) (defScope s_read_number) := ⟨rfl, rfl, rfl, by decide +kernel, rfl, by decide +kernel, by decide +kernel⟩
theorem d_read_number {X : Cx} (hX : Has X N_read_number (defScope s_read_number)) (hf : ∀ x, X.fn x = true) (hst : X.stack = X.env :: X.outer ∧ X.env.frame = some X.env.locals) (hr : Room 1 X.A) (T : Txt X.K X.mg) (F_demand : FnX X.prog X.w X.K X.mg X.base 1 "demand" "NoText" f_demand) (F_only_of : FnM X.prog X.w X.K X.mg X.base 1 "only_of" f_only_of) :
    DSsx X "NoText" (defBody s_read_number) g_read_number := by
  have hu := hr.units
  obtain ⟨c_NoText, c_MustError, c_NoRow, e_NoText, e_MustError, e_NoRow, hsub, herr, k_NoText, k_ValueError, k_NoRow⟩ := T.err
  have n0 : Nm X 0 "text" := hX.nm (by decide +kernel)
  have gg_FIGURES : Gb X "FIGURES" := hX.gb (by decide +kernel)
  have gg_demand : Gb X "demand" := hX.gb (by decide +kernel)
  have gg_int : Gb X "int" := hX.gb (by decide +kernel)
  have gg_len : Gb X "len" := hX.gb (by decide +kernel)
  have gg_only_of : Gb X "only_of" := hX.gb (by decide +kernel)
  refine @dssx_cons _ _ _ _ _ _ (@dsx_expr _ _ _ _ _ (DEc.toX (dec_call' F_demand (hr.mono (by decide)) gg_demand (da_cons (de_and (mm := false) (de_chain (mm := false) op_le op_le (de_int (m := false)) (de_lenS (mm := false) gg_len.gl T.b_len (nv false n0)) (de_int (m := false))) (de_one (de_call' F_only_of (hr.mono (by decide)) gg_only_of (da_cons (nv false n0) (da_cons (de_gstr' (mm := false) gg_FIGURES T.g_FIGURES) (da_nil)))))) (da_cons (de_str (m := false)) (da_nil))))) (by rfl)) ?_
  refine @dssx_cons _ _ _ _ _ _ (@dsx_expr _ _ _ _ _ (DEc.toX (dec_call' F_demand (hr.mono (by decide)) gg_demand (da_cons (de_or (mm := false) (de_eq (mm := false) hu (nv false n0) (de_str (m := false))) (de_one (de_ne (mm := false) hu (de_ixS (mm := false) (nv false n0) (de_int (m := false))) (de_str (m := false))))) (da_cons (de_str (m := false)) (da_nil))))) (by rfl)) ?_
  refine' @dssx_one _ _ _ _ ?z24
  case z24 =>
    refine' @dsx_up _ _ _ _ ?z25
    case z25 =>
      exact @ds_ret _ _ _ _ (@de_intS _ false false _ _ _ _ gg_int.gl T.b_int (@nv _ _ _ _ false n0) (by rfl))
theorem m_read_number {f : Addr} {fd : FuncData} (F : Fun K "read_number" "read_number" s_read_number f fd) (hb : Binds K fd (["text"] : List Str) []) (hm : mg "read_number" = some (.ref f)) (hns : PySem.W.nsIn K mainGlobals "read_number" = some (some (.ref f))) (T : Txt K mg) (F_demand : FnX P w K mg base 1 "demand" "NoText" f_demand) (F_only_of : FnM P w K mg base 1 "only_of" f_only_of) :
    FnX P w K mg base 2 "read_number" "NoText" f_read_number := by
  have h := fnX_of (P := P) (w := w) (base := base) (C := "NoText") (k := 1) (g := g_read_number) F sc_read_number hb hm hns (by decide) fun cdv A outer s H E hr => by
    exact @d_read_number (cxOf (CX1 P w K "NoText") P w K mg base N_read_number "read_number" (defScope s_read_number) f cdv A outer s H E) (hasX1 sc_read_number.nd) (fun _ => rfl) ⟨rfl, rfl⟩ hr T F_demand F_only_of
  exact h
theorem sc_read_cell : FnScope N_read_cell (["word"] : List Str) (defScope s_read_cell) := ⟨rfl, rfl, rfl, by decide +kernel, rfl, by decide +kernel, by decide +kernel⟩
theorem d_read_cell {X : Cx} (hX : Has X N_read_cell (defScope s_read_cell)) (hf : ∀ x, X.fn x = true) (hst : X.stack = X.env :: X.outer ∧ X.env.frame = some X.env.locals) (hr : Room 2 X.A) (T : Txt X.K X.mg) (F_read_name : FnX X.prog X.w X.K X.mg X.base 2 "read_name" "NoText" f_read_name) (F_read_number : FnX X.prog X.w X.K X.mg X.base 2 "read_number" "NoText" f_read_number) :
    DSsx X "NoText" (defBody s_read_cell) g_read_cell := by
  have hu := hr.units
  obtain ⟨c_NoText, c_MustError, c_NoRow, e_NoText, e_MustError, e_NoRow, hsub, herr, k_NoText, k_ValueError, k_NoRow⟩ := T.err
  have n0 : Nm X 0 "word" := hX.nm (by decide +kernel)
  have gg_read_name : Gb X "read_name" := hX.gb (by decide +kernel)
  have gg_read_number : Gb X "read_number" := hX.gb (by decide +kernel)
  refine' @dssx_cons _ _ _ _ _ _ (@dsx_if _ _ _ _ _ _ _ _ _ ?z26 ?_ ?_) ?_
  case z26 =>
    exact @dt_val _ false _ _ (@de_starts _ false false false _ _ _ _ _ _ (@nv _ _ _ _ false n0) (@de_str _ false _ _ _) (by rfl) (by rfl) (by rfl) (by rfl)) (by intro _ ; rfl)
  · refine' @dssx_one _ _ _ _ ?z27
    case z27 =>
      refine' @dsx_ret _ _ _ _ _ ?z28
      case z28 =>
        refine' @dex_tup _ _ false _ _ _ _ ?z29
        case z29 =>
          exact @dax_cons _ _ false _ _ _ _ (@dex_up _ _ false _ _ (@de_str _ false _ _ _)) (@dax_cons _ _ false _ _ _ _ (DEc.toX (dec_call' F_read_number (hr.mono (by decide)) gg_read_number (da_cons (de_cutS (mm := false) (nv false n0) (do_some (de_int (m := false))) (do_none)) (da_nil)))) (@dax_up _ _ false _ _ da_nil) (by rfl)) (by rfl)
  · exact @dssx_nil _ _
  refine' @dssx_one _ _ _ _ ?z30
  case z30 =>
    refine' @dsx_ret _ _ _ _ _ ?z31
    case z31 =>
      refine' @dex_tup _ _ false _ _ _ _ ?z32
      case z32 =>
        exact @dax_cons _ _ false _ _ _ _ (@dex_up _ _ false _ _ (@de_str _ false _ _ _)) (@dax_cons _ _ false _ _ _ _ (DEc.toX (dec_call' F_read_name (hr.mono (by decide)) gg_read_name (da_cons (nv false n0) (da_nil)))) (@dax_up _ _ false _ _ da_nil) (by rfl)) (by rfl)
theorem m_read_cell {f : Addr} {fd : FuncData} (F : Fun K "read_cell" "read_cell" s_read_cell f fd) (hb : Binds K fd (["word"] : List Str) []) (hm : mg "read_cell" = some (.ref f)) (hns : PySem.W.nsIn K mainGlobals "read_cell" = some (some (.ref f))) (T : Txt K mg) (F_read_name : FnX P w K mg base 2 "read_name" "NoText" f_read_name) (F_read_number : FnX P w K mg base 2 "read_number" "NoText" f_read_number) :
    FnX P w K mg base 3 "read_cell" "NoText" f_read_cell := by
  have h := fnX_of (P := P) (w := w) (base := base) (C := "NoText") (k := 2) (g := g_read_cell) F sc_read_cell hb hm hns (by decide) fun cdv A outer s H E hr => by
    exact @d_read_cell (cxOf (CX1 P w K "NoText") P w K mg base N_read_cell "read_cell" (defScope s_read_cell) f cdv A outer s H E) (hasX1 sc_read_cell.nd) (fun _ => rfl) ⟨rfl, rfl⟩ hr T F_read_name F_read_number
  exact h
theorem sc_read_line : FnScope N_read_line (["text", "read_word"] : List Str) (defScope s_read_line) := ⟨rfl, rfl, rfl, by decide +kernel, rfl, by decide +kernel, by decide +kernel⟩
theorem d_read_line {X : Cx} (hX : Has X N_read_line (defScope s_read_line)) (hf : ∀ x, X.fn x = true) (hst : X.stack = X.env :: X.outer ∧ X.env.frame = some X.env.locals) (hr : Room 3 X.A) (T : Txt X.K X.mg) (F_demand : FnX X.prog X.w X.K X.mg X.base 1 "demand" "NoText" f_demand) (F_read_name : FnX X.prog X.w X.K X.mg X.base 2 "read_name" "NoText" f_read_name) (F_read_cell : FnX X.prog X.w X.K X.mg X.base 3 "read_cell" "NoText" f_read_cell) :
    DSsx X "NoText" (defBody s_read_line) g_read_line := by
  have hu := hr.units
  obtain ⟨c_NoText, c_MustError, c_NoRow, e_NoText, e_MustError, e_NoRow, hsub, herr, k_NoText, k_ValueError, k_NoRow⟩ := T.err
  have n0 : Nm X 0 "text" := hX.nm (by decide +kernel)
  have n2 : Nm X 2 "words" := hX.nm (by decide +kernel)
  have l2 : Lc X 2 "words" := hX.lc hf (by decide +kernel)
  have gg_demand : Gb X "demand" := hX.gb (by decide +kernel)
  have gg_len : Gb X "len" := hX.gb (by decide +kernel)
  have gg_read_name : Gb X "read_name" := hX.gb (by decide +kernel)
  have gg_tuple : Gb X "tuple" := hX.gb (by decide +kernel)
  refine' @dssx_cons _ _ _ _ _ _ ?z33 ?_
  case z33 =>
    refine' @dsx_up _ _ _ _ ?z34
    case z34 =>
      refine' @ds_set' _ _ _ _ _ _ _ hX.nd l2 ?z35 (by rfl)
      case z35 =>
        exact @DF.share _ false _ _ (@df_split _ false false _ _ _ _ _ _ (@nv _ _ _ _ false n0) (@de_str _ false _ _ _) (by rfl) (by rfl) (by rfl) (by rfl))
  refine @dssx_cons _ _ _ _ _ _ (@dsx_expr _ _ _ _ _ (DEc.toX (dec_call' F_demand (hr.mono (by decide)) gg_demand (da_cons (de_chain (mm := false) op_le op_le (de_int (m := false)) (de_len' (mm := false) gg_len T.b_len (nv false n2)) (de_int (m := false))) (da_cons (de_str (m := false)) (da_nil))))) (by rfl)) ?_
  refine' @dssx_one _ _ _ _ ?z36
  case z36 =>
    refine' @dsx_ret _ _ _ _ _ ?z37
    case z37 =>
      refine' @dex_tup _ _ false _ _ _ _ ?z38
      case z38 =>
        exact @dax_cons _ _ false _ _ _ _ (DEc.toX (dec_call' F_read_name (hr.mono (by decide)) gg_read_name (da_cons (de_ix (nv false n2) (de_int (m := false))) (da_nil)))) (@dax_cons _ _ false _ _ _ _ (@dex_tuple _ _ false _ _ _ _ gg_tuple.gl T.b_tuple (DFx.share (dfx_comp hst hX.calm (anew_name 3) (di_list (DF.share (m := false) (df_cutL (nv false n2) (do_some (de_int (m := false))) (do_none)))) (CompScope.of' hX (by decide +kernel)) (fun cl C s₂ H₂ ex pn => dg_name' (hX.comp _ cl C s₂ H₂ ex pn).nd ((hX.comp _ cl C s₂ H₂ ex pn).lcl (i := 3) (by decide +kernel))) (fun cl C s₂ H₂ ex pn W => dec_callV' F_read_cell (hr.mono (by decide)) ((hX.comp _ cl C s₂ H₂ ex pn).nm (i := 1) (by decide +kernel)).w (da_cons (nv false ((hX.comp _ cl C s₂ H₂ ex pn).nm (i := 3) (by decide +kernel)).w) (da_nil))))) (by rfl)) (@dax_up _ _ false _ _ da_nil) (by rfl)) (by rfl)
theorem m_read_line {f : Addr} {fd : FuncData} (F : Fun K "read_line" "read_line" s_read_line f fd) (hb : Binds K fd (["text", "read_word"] : List Str) []) (hm : mg "read_line" = some (.ref f)) (hns : PySem.W.nsIn K mainGlobals "read_line" = some (some (.ref f))) (T : Txt K mg) (F_demand : FnX P w K mg base 1 "demand" "NoText" f_demand) (F_read_name : FnX P w K mg base 2 "read_name" "NoText" f_read_name) (F_read_cell : FnX P w K mg base 3 "read_cell" "NoText" f_read_cell) :
    FnX P w K mg base 4 "read_line" "NoText" f_read_line := by
  have h := fnX_of (P := P) (w := w) (base := base) (C := "NoText") (k := 3) (g := g_read_line) F sc_read_line hb hm hns (by decide) fun cdv A outer s H E hr => by
    exact @d_read_line (cxOf (CX1 P w K "NoText") P w K mg base N_read_line "read_line" (defScope s_read_line) f cdv A outer s H E) (hasX1 sc_read_line.nd) (fun _ => rfl) ⟨rfl, rfl⟩ hr T F_demand F_read_name F_read_cell
  exact h
theorem sc_read_row : FnScope N_read_row (["text"] : List Str) (defScope s_read_row) := ⟨rfl, rfl, rfl, by decide +kernel, rfl, by decide +kernel, by decide +kernel⟩
theorem d_read_row {X : Cx} (hX : Has X N_read_row (defScope s_read_row)) (hf : ∀ x, X.fn x = true) (hst : X.stack = X.env :: X.outer ∧ X.env.frame = some X.env.locals) (hr : Room 4 X.A) (T : Txt X.K X.mg) (F_demand_text : FnX X.prog X.w X.K X.mg X.base 2 "demand_text" "NoText" f_demand_text) (F_read_cell : FnX X.prog X.w X.K X.mg X.base 3 "read_cell" "NoText" f_read_cell) (F_read_line : FnX X.prog X.w X.K X.mg X.base 4 "read_line" "NoText" f_read_line) :
    DSsx X "NoText" (defBody s_read_row) g_read_row := by
  have hu := hr.units
  obtain ⟨c_NoText, c_MustError, c_NoRow, e_NoText, e_MustError, e_NoRow, hsub, herr, k_NoText, k_ValueError, k_NoRow⟩ := T.err
  have n0 : Nm X 0 "text" := hX.nm (by decide +kernel)
  have gg_demand_text : Gb X "demand_text" := hX.gb (by decide +kernel)
  have gg_read_cell : Gb X "read_cell" := hX.gb (by decide +kernel)
  have gg_read_line : Gb X "read_line" := hX.gb (by decide +kernel)
  refine @dssx_cons _ _ _ _ _ _ (@dsx_expr _ _ _ _ _ (DEc.toX (dec_call' F_demand_text (hr.mono (by decide)) gg_demand_text (da_cons (nv false n0) (da_nil)))) (by rfl)) ?_
  refine @dssx_one _ _ _ _ (@dsx_ret _ _ _ _ _ (DEc.toX (dec_call' F_read_line (hr.mono (by decide)) gg_read_line (da_cons (nv false n0) (da_cons (de_gfun' (mm := false) F_read_cell gg_read_cell) (da_nil))))))
theorem m_read_row {f : Addr} {fd : FuncData} (F : Fun K "read_row" "read_row" s_read_row f fd) (hb : Binds K fd (["text"] : List Str) []) (hm : mg "read_row" = some (.ref f)) (hns : PySem.W.nsIn K mainGlobals "read_row" = some (some (.ref f))) (T : Txt K mg) (F_demand_text : FnX P w K mg base 2 "demand_text" "NoText" f_demand_text) (F_read_cell : FnX P w K mg base 3 "read_cell" "NoText" f_read_cell) (F_read_line : FnX P w K mg base 4 "read_line" "NoText" f_read_line) :
    FnX P w K mg base 5 "read_row" "NoText" f_read_row := by
  have h := fnX_of (P := P) (w := w) (base := base) (C := "NoText") (k := 4) (g := g_read_row) F sc_read_row hb hm hns (by decide) fun cdv A outer s H E hr => by
    exact @d_read_row (cxOf (CX1 P w K "NoText") P w K mg base N_read_row "read_row" (defScope s_read_row) f cdv A outer s H E) (hasX1 sc_read_row.nd) (fun _ => rfl) ⟨rfl, rfl⟩ hr T F_demand_text F_read_cell F_read_line
  exact h
theorem sc__law_whole : FnScope N__law_whole (["_law_found"] : List Str) (defScope s__law_whole) := ⟨rfl, rfl, rfl, by decide +kernel, rfl, by decide +kernel, by decide +kernel⟩
theorem d__law_whole {X : Cx} (hX : Has X N__law_whole (defScope s__law_whole)) (hf : ∀ x, X.fn x = true) (hp : PassesOwn (model X.prog X.w) X.A X.env X.xe) (hr : Room 0 X.A) (T : Txt X.K X.mg)  :
    DSs X (defBody s__law_whole) g__law_whole := by
  have hu := hr.units
  have n0 : Nm X 0 "_law_found" := hX.nm (by decide +kernel)
  have gg_bool : Gb X "bool" := hX.gb (by decide +kernel)
  have gg_int : Gb X "int" := hX.gb (by decide +kernel)
  have gg_isinstance : Gb X "isinstance" := hX.gb (by decide +kernel)
  refine' @dss_one _ _ _ ?z39
  case z39 =>
    refine' @ds_ret _ _ _ _ ?z40
    case z40 =>
      refine' @de_and _ false _ _ _ _ _ _ false (@de_isi _ false false _ _ _ _ _ "int" _ (by simp) gg_isinstance.gl T.b_isinstance gg_int.gl T.b_int bt_int (@nv _ _ _ _ false n0) (by rfl) (by rfl) (by decide) (by decide) (by rfl)) ?z41
      case z41 =>
        refine' @de_one _ false _ _ _ _ false ?z42 (by rfl)
        case z42 =>
          exact @de_not _ false _ _ _ false (@de_isi _ false false _ _ _ _ _ "bool" _ (by simp) gg_isinstance.gl T.b_isinstance gg_bool.gl T.b_bool bt_bool (@nv _ _ _ _ false n0) (by rfl) (by rfl) (by decide) (by decide) (by rfl))
theorem m__law_whole {f : Addr} {fd : FuncData} (F : Fun K "_law_whole" "_law_whole" s__law_whole f fd) (hb : Binds K fd (["_law_found"] : List Str) []) (hm : mg "_law_whole" = some (.ref f)) (T : Txt K mg)  :
    FnOk P w K mg base CX0 1 f fd (["_law_found"] : List Str) (spM K f__law_whole) ∧ FnM P w K mg base 1 "_law_whole" f__law_whole := by
  have h := fnM_of (P := P) (w := w) (base := base) (k := 0) (g := g__law_whole) F sc__law_whole hb hm (by decide) fun cdv A outer s H E hr => by
    exact @d__law_whole ((cxOf CX0 P w K mg base N__law_whole "_law_whole" (defScope s__law_whole) f cdv A outer s H E).nox) (hasX sc__law_whole.nd) (fun _ => rfl) PassesOwn.never hr T 
  exact h
theorem sc__law_mix : FnScope N__law_mix (["_law_cell_here", "_law_j"] : List Str) (defScope s__law_mix) := ⟨rfl, rfl, rfl, by decide +kernel, rfl, by decide +kernel, by decide +kernel⟩
theorem d__law_mix {X : Cx} (hX : Has X N__law_mix (defScope s__law_mix)) (hf : ∀ x, X.fn x = true) (hp : PassesOwn (model X.prog X.w) X.A X.env X.xe) (hr : Room 0 X.A) (T : Txt X.K X.mg)  :
    DSs X (defBody s__law_mix) g__law_mix := by
  have hu := hr.units
  have n0 : Nm X 0 "_law_cell_here" := hX.nm (by decide +kernel)
  have n1 : Nm X 1 "_law_j" := hX.nm (by decide +kernel)
  have n2 : Nm X 2 "_law_number" := hX.nm (by decide +kernel)
  have l2 : Lc X 2 "_law_number" := hX.lc hf (by decide +kernel)
  refine' @dss_cons _ _ _ _ _ ?z43 ?_
  case z43 =>
    refine' @ds_set' _ _ _ _ _ _ _ hX.nd l2 ?z44 (by rfl)
    case z44 =>
      refine' @de_mod _ false false _ _ _ _ _ false ?z45 (@de_int _ false _ _ _)
      case z45 =>
        refine' @de_add _ false false _ _ _ _ _ false ?z46 (@nv _ _ _ _ false n1)
        case z46 =>
          refine' @de_mul _ false false _ _ _ _ _ false (@nv _ _ _ _ false n0) ?z47
          case z47 =>
            exact @de_add _ false false _ _ _ _ _ false (@de_mul _ false false _ _ _ _ _ false (@de_int _ false _ _ _) (@nv _ _ _ _ false n1)) (@de_int _ false _ _ _)
  refine' @dss_one _ _ _ ?z48
  case z48 =>
    refine' @ds_ret _ _ _ _ ?z49
    case z49 =>
      refine' @de_mod _ false false _ _ _ _ _ false ?z50 (@de_int _ false _ _ _)
      case z50 =>
        refine' @de_mul _ false false _ _ _ _ _ false ?z51 (@de_int _ false _ _ _)
        case z51 =>
          exact @de_add _ false false _ _ _ _ _ false (@de_mul _ false false _ _ _ _ _ false (@nv _ _ _ _ false n2) (@nv _ _ _ _ false n2)) (@de_int _ false _ _ _)
theorem m__law_mix {f : Addr} {fd : FuncData} (F : Fun K "_law_mix" "_law_mix" s__law_mix f fd) (hb : Binds K fd (["_law_cell_here", "_law_j"] : List Str) []) (hm : mg "_law_mix" = some (.ref f)) (T : Txt K mg)  :
    FnOk P w K mg base CX0 1 f fd (["_law_cell_here", "_law_j"] : List Str) (spM K f__law_mix) ∧ FnM P w K mg base 1 "_law_mix" f__law_mix := by
  have h := fnM_of (P := P) (w := w) (base := base) (k := 0) (g := g__law_mix) F sc__law_mix hb hm (by decide) fun cdv A outer s H E hr => by
    exact @d__law_mix ((cxOf CX0 P w K mg base N__law_mix "_law_mix" (defScope s__law_mix) f cdv A outer s H E).nox) (hasX sc__law_mix.nd) (fun _ => rfl) PassesOwn.never hr T 
  exact h
theorem sc__law_name : FnScope N__law_name (["_law_cell_here", "_law_far"] : List Str) (defScope s__law_name) := ⟨rfl, rfl, rfl, by decide +kernel, rfl, by decide +kernel, by decide +kernel⟩
theorem d__law_name {X : Cx} (hX : Has X N__law_name (defScope s__law_name)) (hf : ∀ x, X.fn x = true) (hp : PassesOwn (model X.prog X.w) X.A X.env X.xe) (hr : Room 1 X.A) (T : Txt X.K X.mg) (F__law_mix : FnM X.prog X.w X.K X.mg X.base 1 "_law_mix" f__law_mix) :
    DSs X (defBody s__law_name) g__law_name := by
  have hu := hr.units
  have n0 : Nm X 0 "_law_cell_here" := hX.nm (by decide +kernel)
  have n1 : Nm X 1 "_law_far" := hX.nm (by decide +kernel)
  have l2 : Lc X 2 "_law_letters" := hX.lc hf (by decide +kernel)
  have n3 : Nm X 3 "_law_size" := hX.nm (by decide +kernel)
  have l3 : Lc X 3 "_law_size" := hX.lc hf (by decide +kernel)
  have gg__law_mix : Gb X "_law_mix" := hX.gb (by decide +kernel)
  have gg_range : Gb X "range" := hX.gb (by decide +kernel)
  refine @dss_cons _ _ _ _ _ (@ds_set' _ _ _ _ _ _ _ hX.nd l2 (@de_str _ false _ _ _) (by rfl)) ?_
  refine' @dss_cons _ _ _ _ _ ?z52 ?_
  case z52 =>
    refine' @ds_set' _ _ _ _ _ _ _ hX.nd l3 ?z53 (by rfl)
    case z53 =>
      refine' @de_ix _ false false _ _ _ _ _ ?z54 ?z55 (by exact fun _ _ => rfl)
      case z54 =>
        exact @DF.share _ false _ _ (@df_lst _ _ _ _ (@da_consts _ false _ ([(.int 1), (.int 2), (.int 3), (.int 4), (.int 5), (.int 6), (.int 7), (.int 8), (.int 8)]) (by rfl)))
      case z55 =>
        refine' @de_mod _ false false _ _ _ _ _ false ?z56 (@de_int _ false _ _ _)
        case z56 =>
          refine' @de_call' _ false _ _ _ _ _ _ _ _ F__law_mix (hr.mono (by decide)) gg__law_mix ?z57 (by rfl) (by rfl)
          case z57 =>
            exact @da_cons _ false _ _ _ _ (@nv _ _ _ _ false n0) (@da_cons _ false _ _ _ _ (@nv _ _ _ _ false n1) (@da_nil _ false) (by rfl)) (by rfl)
  refine' @dss_one _ _ _ ?z58
  case z58 =>
    refine' @ds_ret _ _ _ _ ?z59
    case z59 =>
      refine' @de_join _ false false false _ _ _ _ _ _ (@de_str _ false _ _ _) ?z60 (by rfl) (by rfl) (by rfl) (by rfl)
      case z60 =>
        refine' @DF.share _ false _ _ ?z61
        case z61 =>
          refine' @df_comp _ _ _ _ _ _ _ _ _ _ _ _ hX.calm (anew_name 4) (@di_rng1 _ false false _ _ _ _ _ gg_range.gl T.b_range (@nv _ _ _ _ false n3) (by rfl)) (CompScope.of' hX (by decide +kernel)) (fun cl C s₂ H₂ ex pn => @dg_name' _ _ _ _ (hX.comp _ cl C s₂ H₂ ex pn).nd ((hX.comp _ cl C s₂ H₂ ex pn).lcl (i := 4) (by decide +kernel))) (fun cl C s₂ H₂ ex pn => @dts_nil _) ?z62 (by intro _ ; rfl)
          case z62 =>
            intro cl C s₂ H₂ ex pn
            refine' @de_ixS _ false false false _ _ _ _ _ (@nv _ _ _ _ false ((hX.comp _ cl C s₂ H₂ ex pn).nm (i := 2) (by decide +kernel))) ?z63 (by exact fun _ _ => rfl)
            case z63 =>
              refine' @de_mod _ false false _ _ _ _ _ false ?z64 (@de_int _ false _ _ _)
              case z64 =>
                refine' @de_call' _ false _ _ _ _ _ _ _ _ F__law_mix (hr.mono (by decide)) ((hX.comp _ cl C s₂ H₂ ex pn).gb (x := "_law_mix") (by decide +kernel)) ?z65 (by rfl) (by rfl)
                case z65 =>
                  refine' @da_cons _ false _ _ _ _ (@nv _ _ _ _ false ((hX.comp _ cl C s₂ H₂ ex pn).nm (i := 0) (by decide +kernel))) ?z66 (by rfl)
                  case z66 =>
                    refine' @da_cons _ false _ _ _ _ ?z67 (@da_nil _ false) (by rfl)
                    case z67 =>
                      exact @de_add _ false false _ _ _ _ _ false (@de_add _ false false _ _ _ _ _ false (@nv _ _ _ _ false ((hX.comp _ cl C s₂ H₂ ex pn).nm (i := 1) (by decide +kernel))) (@de_int _ false _ _ _)) (@nv _ _ _ _ false ((hX.comp _ cl C s₂ H₂ ex pn).nm (i := 4) (by decide +kernel)))
theorem m__law_name {f : Addr} {fd : FuncData} (F : Fun K "_law_name" "_law_name" s__law_name f fd) (hb : Binds K fd (["_law_cell_here", "_law_far"] : List Str) []) (hm : mg "_law_name" = some (.ref f)) (T : Txt K mg) (F__law_mix : FnM P w K mg base 1 "_law_mix" f__law_mix) :
    FnOk P w K mg base CX0 2 f fd (["_law_cell_here", "_law_far"] : List Str) (spM K f__law_name) ∧ FnM P w K mg base 2 "_law_name" f__law_name := by
  have h := fnM_of (P := P) (w := w) (base := base) (k := 1) (g := g__law_name) F sc__law_name hb hm (by decide) fun cdv A outer s H E hr => by
    exact @d__law_name ((cxOf CX0 P w K mg base N__law_name "_law_name" (defScope s__law_name) f cdv A outer s H E).nox) (hasX sc__law_name.nd) (fun _ => rfl) PassesOwn.never hr T F__law_mix
  exact h
theorem sc__law_row : FnScope N__law_row (["_law_cell_here"] : List Str) (defScope s__law_row) := ⟨rfl, rfl, rfl, by decide +kernel, rfl, by decide +kernel, by decide +kernel⟩
theorem d__law_row {X : Cx} (hX : Has X N__law_row (defScope s__law_row)) (hf : ∀ x, X.fn x = true) (hp : PassesOwn (model X.prog X.w) X.A X.env X.xe) (hr : Room 2 X.A) (T : Txt X.K X.mg) (F__law_mix : FnM X.prog X.w X.K X.mg X.base 1 "_law_mix" f__law_mix) (F__law_name : FnM X.prog X.w X.K X.mg X.base 2 "_law_name" f__law_name) :
    DSs X (defBody s__law_row) g__law_row := by
  have hu := hr.units
  have n0 : Nm X 0 "_law_cell_here" := hX.nm (by decide +kernel)
  have n1 : Nm X 1 "_law_cells" := hX.nm (by decide +kernel)
  have l1 : Lc X 1 "_law_cells" := hX.lc hf (by decide +kernel)
  have n2 : Nm X 2 "_law_k" := hX.nm (by decide +kernel)
  have l2 : Lc X 2 "_law_k" := hX.lc hf (by decide +kernel)
  have n3 : Nm X 3 "_law_drawn" := hX.nm (by decide +kernel)
  have l3 : Lc X 3 "_law_drawn" := hX.lc hf (by decide +kernel)
  have gg__law_mix : Gb X "_law_mix" := hX.gb (by decide +kernel)
  have gg__law_name : Gb X "_law_name" := hX.gb (by decide +kernel)
  have gg_range : Gb X "range" := hX.gb (by decide +kernel)
  have gg_tuple : Gb X "tuple" := hX.gb (by decide +kernel)
  refine' @dss_cons _ _ _ _ _ ?z68 ?_
  case z68 =>
    exact @ds_setF' _ _ _ _ _ _ _ hX.nd l1 (@df_lst _ _ _ _ (@da_nil _ false)) (by rfl)
  refine' @dss_cons _ _ _ _ _ (@ds_for _ _ _ _ _ _ b__law_row_1 _ hp hX.calm ?z69 (@dg_name' _ _ _ _ hX.nd l2) ?_ (by intro _ ; rfl)) ?_
  case z69 =>
    refine' @di_rng1 _ false false _ _ _ _ _ gg_range.gl T.b_range ?z70 (by rfl)
    case z70 =>
      refine' @de_add _ false false _ _ _ _ _ false (@de_int _ false _ _ _) ?z71
      case z71 =>
        refine' @de_mod _ false false _ _ _ _ _ false ?z72 (@de_int _ false _ _ _)
        case z72 =>
          refine' @de_call' _ false _ _ _ _ _ _ _ _ F__law_mix (hr.mono (by decide)) gg__law_mix ?z73 (by rfl) (by rfl)
          case z73 =>
            exact @da_cons _ false _ _ _ _ (@nv _ _ _ _ false n0) (@da_cons _ false _ _ _ _ (@de_int _ false _ _ _) (@da_nil _ false) (by rfl)) (by rfl)
  · refine' @dss_cons _ _ _ _ _ ?z74 ?_
    case z74 =>
      refine' @ds_set' _ _ _ _ _ _ _ hX.nd l3 ?z75 (by rfl)
      case z75 =>
        refine' @de_call' _ false _ _ _ _ _ _ _ _ F__law_mix (hr.mono (by decide)) gg__law_mix ?z76 (by rfl) (by rfl)
        case z76 =>
          refine' @da_cons _ false _ _ _ _ (@nv _ _ _ _ false n0) ?z77 (by rfl)
          case z77 =>
            exact @da_cons _ false _ _ _ _ (@de_add _ false false _ _ _ _ _ false (@de_int _ false _ _ _) (@nv _ _ _ _ false n2)) (@da_nil _ false) (by rfl)
    refine' @dss_one _ _ _ (@ds_if _ _ _ _ _ _ _ _ ?z78 ?_ ?_)
    case z78 =>
      exact @dt_eq _ false false _ _ _ _ _ hu (@de_mod _ false false _ _ _ _ _ false (@nv _ _ _ _ false n3) (@de_int _ false _ _ _)) (@de_int _ false _ _ _)
    · refine' @dss_one _ _ _ ?z79
      case z79 =>
        refine' @ds_append' _ _ _ _ _ _ _ _ _ n1 ?z80 (by rfl) (by rfl) (by rfl) (by rfl) (by rfl)
        case z80 =>
          refine' @de_tup _ false _ _ _ _ ?z81
          case z81 =>
            refine' @da_cons _ false _ _ _ _ (@de_str _ false _ _ _) ?z82 (by rfl)
            case z82 =>
              refine' @da_cons _ false _ _ _ _ ?z83 (@da_nil _ false) (by rfl)
              case z83 =>
                refine' @de_mod _ false false _ _ _ _ _ false (@de_div _ false false _ _ _ _ _ false (@nv _ _ _ _ false n3) (@de_int _ false _ _ _)) ?z84
                case z84 =>
                  refine' @de_ix _ false false _ _ _ _ _ ?z85 ?z86 (by exact fun _ _ => rfl)
                  case z85 =>
                    refine' @DF.share _ false _ _ ?z87
                    case z87 =>
                      refine' @df_lst _ _ _ _ ?z88
                      case z88 =>
                        refine' @da_cons _ false _ _ _ _ (@de_int _ false _ _ _) ?z89 (by rfl)
                        case z89 =>
                          exact @da_cons _ false _ _ _ _ (@de_int _ false _ _ _) (@da_cons _ false _ _ _ _ (@de_int _ false _ _ _) (@da_nil _ false) (by rfl)) (by rfl)
                  case z86 =>
                    exact @de_mod _ false false _ _ _ _ _ false (@de_div _ false false _ _ _ _ _ false (@nv _ _ _ _ false n3) (@de_int _ false _ _ _)) (@de_int _ false _ _ _)
    · refine' @dss_one _ _ _ ?z90
      case z90 =>
        refine' @ds_append' _ _ _ _ _ _ _ _ _ n1 ?z91 (by rfl) (by rfl) (by rfl) (by rfl) (by rfl)
        case z91 =>
          refine' @de_tup _ false _ _ _ _ ?z92
          case z92 =>
            refine' @da_cons _ false _ _ _ _ (@de_str _ false _ _ _) ?z93 (by rfl)
            case z93 =>
              refine' @da_cons _ false _ _ _ _ ?z94 (@da_nil _ false) (by rfl)
              case z94 =>
                refine' @de_call' _ false _ _ _ _ _ _ _ _ F__law_name (hr.mono (by decide)) gg__law_name ?z95 (by rfl) (by rfl)
                case z95 =>
                  refine' @da_cons _ false _ _ _ _ (@nv _ _ _ _ false n0) ?z96 (by rfl)
                  case z96 =>
                    refine' @da_cons _ false _ _ _ _ ?z97 (@da_nil _ false) (by rfl)
                    case z97 =>
                      exact @de_add _ false false _ _ _ _ _ false (@de_int _ false _ _ _) (@de_mul _ false false _ _ _ _ _ false (@de_int _ false _ _ _) (@nv _ _ _ _ false n2))
  refine @dss_frz _ k__law_row_2 _ 1 ?_
  refine' @dss_one _ _ _ ?z98
  case z98 =>
    refine' @ds_ret _ _ _ _ ?z99
    case z99 =>
      refine' @de_tup _ false _ _ _ _ ?z100
      case z100 =>
        refine' @da_cons _ false _ _ _ _ ?z101 ?z102 (by rfl)
        case z101 =>
          refine' @de_call' _ false _ _ _ _ _ _ _ _ F__law_name (hr.mono (by decide)) gg__law_name ?z103 (by rfl) (by rfl)
          case z103 =>
            exact @da_cons _ false _ _ _ _ (@nv _ _ _ _ false n0) (@da_cons _ false _ _ _ _ (@de_int _ false _ _ _) (@da_nil _ false) (by rfl)) (by rfl)
        case z102 =>
          exact @da_cons _ false _ _ _ _ (@de_tuple _ false _ _ _ _ gg_tuple.gl T.b_tuple (@nv _ _ _ _ false n1) (by rfl)) (@da_nil _ false) (by rfl)
theorem m__law_row {f : Addr} {fd : FuncData} (F : Fun K "_law_row" "_law_row" s__law_row f fd) (hb : Binds K fd (["_law_cell_here"] : List Str) []) (hm : mg "_law_row" = some (.ref f)) (T : Txt K mg) (F__law_mix : FnM P w K mg base 1 "_law_mix" f__law_mix) (F__law_name : FnM P w K mg base 2 "_law_name" f__law_name) :
    FnOk P w K mg base CX0 3 f fd (["_law_cell_here"] : List Str) (spM K f__law_row) ∧ FnM P w K mg base 3 "_law_row" f__law_row := by
  have h := fnM_of (P := P) (w := w) (base := base) (k := 2) (g := g__law_row) F sc__law_row hb hm (by decide) fun cdv A outer s H E hr => by
    exact @d__law_row ((cxOf CX0 P w K mg base N__law_row "_law_row" (defScope s__law_row) f cdv A outer s H E).nox) (hasX sc__law_row.nd) (fun _ => rfl) PassesOwn.never hr T F__law_mix F__law_name
  exact h
theorem sc__law_shown : FnScope N__law_shown (["_law_row_here"] : List Str) (defScope s__law_shown) := ⟨rfl, rfl, rfl, by decide +kernel, rfl, by decide +kernel, by decide +kernel⟩
theorem d__law_shown {X : Cx} (hX : Has X N__law_shown (defScope s__law_shown)) (hf : ∀ x, X.fn x = true) (hp : PassesOwn (model X.prog X.w) X.A X.env X.xe) (hr : Room 0 X.A) (T : Txt X.K X.mg)  :
    DSs X (defBody s__law_shown) g__law_shown := by
  have hu := hr.units
  have n0 : Nm X 0 "_law_row_here" := hX.nm (by decide +kernel)
  have n1 : Nm X 1 "_law_text" := hX.nm (by decide +kernel)
  have l1 : Lc X 1 "_law_text" := hX.lc hf (by decide +kernel)
  have n2 : Nm X 2 "_law_cell_here" := hX.nm (by decide +kernel)
  have l2 : Lc X 2 "_law_cell_here" := hX.lc hf (by decide +kernel)
  have gg_str : Gb X "str" := hX.gb (by decide +kernel)
  refine' @dss_cons _ _ _ _ _ ?z104 ?_
  case z104 =>
    exact @ds_set' _ _ _ _ _ _ _ hX.nd l1 (@de_ix _ false false _ _ _ _ _ (@nv _ _ _ _ false n0) (@de_int _ false _ _ _) (by exact fun _ _ => rfl)) (by rfl)
  refine' @dss_cons _ _ _ _ _ (@ds_for _ _ _ _ _ _ b__law_shown_1 _ hp hX.calm ?z105 (@dg_name' _ _ _ _ hX.nd l2) ?_ (by intro _ ; rfl)) ?_
  case z105 =>
    exact @di_tup _ false _ _ _ (@de_ix _ false false _ _ _ _ _ (@nv _ _ _ _ false n0) (@de_int _ false _ _ _) (by exact fun _ _ => rfl))
  · refine' @dss_cons _ _ _ _ _ ?z106 ?_
    case z106 =>
      exact @ds_set' _ _ _ _ _ _ _ hX.nd l1 (@de_addS _ false false false _ _ _ _ _ (@nv _ _ _ _ false n1) (@de_str _ false _ _ _)) (by rfl)
    refine' @dss_cons _ _ _ _ _ (@ds_if _ _ _ _ _ _ _ _ ?z107 ?_ ?_) ?_
    case z107 =>
      exact @dt_eq _ false false _ _ _ _ _ hu (@de_ix _ false false _ _ _ _ _ (@nv _ _ _ _ false n2) (@de_int _ false _ _ _) (by exact fun _ _ => rfl)) (@de_str _ false _ _ _)
    · refine' @dss_one _ _ _ ?z108
      case z108 =>
        exact @ds_set' _ _ _ _ _ _ _ hX.nd l1 (@de_addS _ false false false _ _ _ _ _ (@nv _ _ _ _ false n1) (@de_str _ false _ _ _)) (by rfl)
    · exact @dss_nil _
    refine' @dss_one _ _ _ ?z109
    case z109 =>
      refine' @ds_set' _ _ _ _ _ _ _ hX.nd l1 ?z110 (by rfl)
      case z110 =>
        refine' @de_addS _ false false false _ _ _ _ _ (@nv _ _ _ _ false n1) ?z111
        case z111 =>
          exact @de_strV _ false false _ _ _ _ gg_str.gl T.b_str (@de_ix _ false false _ _ _ _ _ (@nv _ _ _ _ false n2) (@de_int _ false _ _ _) (by exact fun _ _ => rfl)) (by rfl)
  refine @dss_one _ _ _ (@ds_ret _ _ _ _ (@nv _ _ _ _ false n1))
theorem m__law_shown {f : Addr} {fd : FuncData} (F : Fun K "_law_shown" "_law_shown" s__law_shown f fd) (hb : Binds K fd (["_law_row_here"] : List Str) []) (hm : mg "_law_shown" = some (.ref f)) (T : Txt K mg)  :
    FnOk P w K mg base CX0 1 f fd (["_law_row_here"] : List Str) (spM K f__law_shown) ∧ FnM P w K mg base 1 "_law_shown" f__law_shown := by
  have h := fnM_of (P := P) (w := w) (base := base) (k := 0) (g := g__law_shown) F sc__law_shown hb hm (by decide) fun cdv A outer s H E hr => by
    exact @d__law_shown ((cxOf CX0 P w K mg base N__law_shown "_law_shown" (defScope s__law_shown) f cdv A outer s H E).nox) (hasX sc__law_shown.nd) (fun _ => rfl) PassesOwn.never hr T 
  exact h
theorem sc__law_odd : FnScope N__law_odd (["_law_cell_here"] : List Str) (defScope s__law_odd) := ⟨rfl, rfl, rfl, by decide +kernel, rfl, by decide +kernel, by decide +kernel⟩
theorem d__law_odd {X : Cx} (hX : Has X N__law_odd (defScope s__law_odd)) (hf : ∀ x, X.fn x = true) (hp : PassesOwn (model X.prog X.w) X.A X.env X.xe) (hr : Room 1 X.A) (T : Txt X.K X.mg) (F__law_mix : FnM X.prog X.w X.K X.mg X.base 1 "_law_mix" f__law_mix) :
    DSs X (defBody s__law_odd) g__law_odd := by
  have hu := hr.units
  have n0 : Nm X 0 "_law_cell_here" := hX.nm (by decide +kernel)
  have n1 : Nm X 1 "_law_some" := hX.nm (by decide +kernel)
  have l1 : Lc X 1 "_law_some" := hX.lc hf (by decide +kernel)
  have gg__law_mix : Gb X "_law_mix" := hX.gb (by decide +kernel)
  refine' @dss_cons _ _ _ _ _ ?z112 ?_
  case z112 =>
    refine' @ds_set' _ _ _ _ _ _ _ hX.nd l1 ?z113 (by rfl)
    case z113 =>
      exact @DF.share _ false _ _ (@df_lst _ _ _ _ (@da_consts _ false _ ([(.str ""), (.str " "), (.str "has"), (.str "has "), (.str " has a"), (.str "has  a"), (.str "has ?"), (.str "has ??1"), (.str "has ?01"), (.str "has ?-1"), (.str "has 1"), (.str "has A")]) (by rfl)))
  refine' @dss_cons _ _ _ _ _ ?z114 ?_
  case z114 =>
    refine' @ds_set' _ _ _ _ _ _ _ hX.nd l1 ?z115 (by rfl)
    case z115 =>
      refine' @DF.share _ false _ _ ?z116
      case z116 =>
        refine' @df_cat _ _ _ _ _ _ (@nv _ _ _ _ false n1) ?z117
        case z117 =>
          exact @DF.share _ false _ _ (@df_lst _ _ _ _ (@da_consts _ false _ ([(.str "Has a"), (.str "has a b c d e"), (.str "has a, has b"), (.str "has ?1 "), (.str "?1 a"), (.str "has a\n"), (.str "has\ta"), (.str "has ?1234567890")]) (by rfl)))
  refine' @dss_cons _ _ _ _ _ ?z118 ?_
  case z118 =>
    refine' @ds_set' _ _ _ _ _ _ _ hX.nd l1 ?z119 (by rfl)
    case z119 =>
      refine' @DF.share _ false _ _ ?z120
      case z120 =>
        refine' @df_cat _ _ _ _ _ _ (@nv _ _ _ _ false n1) ?z121
        case z121 =>
          refine' @DF.share _ false _ _ ?z122
          case z122 =>
            refine' @df_lst _ _ _ _ ?z123
            case z123 =>
              refine' @da_cons _ false _ _ _ _ (@de_non _ false _ _) ?z124 (by rfl)
              case z124 =>
                refine' @da_cons _ false _ _ _ _ (@de_int _ false _ _ _) ?z125 (by rfl)
                case z125 =>
                  refine' @da_cons _ false _ _ _ _ ?z126 ?z127 (by rfl)
                  case z126 =>
                    refine' @de_tup _ false _ _ _ _ ?z128
                    case z128 =>
                      refine' @da_cons _ false _ _ _ _ (@de_str _ false _ _ _) ?z129 (by rfl)
                      case z129 =>
                        refine' @da_cons _ false _ _ _ _ ?z130 (@da_nil _ false) (by rfl)
                        case z130 =>
                          refine' @de_tup _ false _ _ _ _ ?z131
                          case z131 =>
                            refine' @da_cons _ false _ _ _ _ ?z132 (@da_nil _ false) (by rfl)
                            case z132 =>
                              refine' @de_tup _ false _ _ _ _ ?z133
                              case z133 =>
                                exact @da_cons _ false _ _ _ _ (@de_str _ false _ _ _) (@da_cons _ false _ _ _ _ (@de_str _ false _ _ _) (@da_nil _ false) (by rfl)) (by rfl)
                  case z127 =>
                    refine' @da_cons _ false _ _ _ _ ?z134 (@da_nil _ false) (by rfl)
                    case z134 =>
                      refine' @DF.share _ false _ _ ?z135
                      case z135 =>
                        exact @df_lst _ _ _ _ (@da_cons _ false _ _ _ _ (@de_str _ false _ _ _) (@da_nil _ false) (by rfl))
  refine' @dss_one _ _ _ ?z136
  case z136 =>
    refine' @ds_ret _ _ _ _ ?z137
    case z137 =>
      refine' @de_ix _ false false _ _ _ _ _ (@nv _ _ _ _ false n1) ?z138 (by exact fun _ _ => rfl)
      case z138 =>
        refine' @de_mod _ false false _ _ _ _ _ false ?z139 (@de_int _ false _ _ _)
        case z139 =>
          refine' @de_call' _ false _ _ _ _ _ _ _ _ F__law_mix (hr.mono (by decide)) gg__law_mix ?z140 (by rfl) (by rfl)
          case z140 =>
            exact @da_cons _ false _ _ _ _ (@nv _ _ _ _ false n0) (@da_cons _ false _ _ _ _ (@de_int _ false _ _ _) (@da_nil _ false) (by rfl)) (by rfl)
theorem m__law_odd {f : Addr} {fd : FuncData} (F : Fun K "_law_odd" "_law_odd" s__law_odd f fd) (hb : Binds K fd (["_law_cell_here"] : List Str) []) (hm : mg "_law_odd" = some (.ref f)) (T : Txt K mg) (F__law_mix : FnM P w K mg base 1 "_law_mix" f__law_mix) :
    FnOk P w K mg base CX0 2 f fd (["_law_cell_here"] : List Str) (spM K f__law_odd) ∧ FnM P w K mg base 2 "_law_odd" f__law_odd := by
  have h := fnM_of (P := P) (w := w) (base := base) (k := 1) (g := g__law_odd) F sc__law_odd hb hm (by decide) fun cdv A outer s H E hr => by
    exact @d__law_odd ((cxOf CX0 P w K mg base N__law_odd "_law_odd" (defScope s__law_odd) f cdv A outer s H E).nox) (hasX sc__law_odd.nd) (fun _ => rfl) PassesOwn.never hr T F__law_mix
  exact h
theorem sc__law_spoiled : FnScope N__law_spoiled (["_law_text", "_law_cell_here"] : List Str) (defScope s__law_spoiled) := ⟨rfl, rfl, rfl, by decide +kernel, rfl, by decide +kernel, by decide +kernel⟩
theorem d__law_spoiled {X : Cx} (hX : Has X N__law_spoiled (defScope s__law_spoiled)) (hf : ∀ x, X.fn x = true) (hp : PassesOwn (model X.prog X.w) X.A X.env X.xe) (hr : Room 2 X.A) (T : Txt X.K X.mg) (F__law_mix : FnM X.prog X.w X.K X.mg X.base 1 "_law_mix" f__law_mix) (F__law_odd : FnM X.prog X.w X.K X.mg X.base 2 "_law_odd" f__law_odd) :
    DSs X (defBody s__law_spoiled) g__law_spoiled := by
  have hu := hr.units
  have n0 : Nm X 0 "_law_text" := hX.nm (by decide +kernel)
  have n1 : Nm X 1 "_law_cell_here" := hX.nm (by decide +kernel)
  have n2 : Nm X 2 "_law_signs" := hX.nm (by decide +kernel)
  have l2 : Lc X 2 "_law_signs" := hX.lc hf (by decide +kernel)
  have n3 : Nm X 3 "_law_way" := hX.nm (by decide +kernel)
  have l3 : Lc X 3 "_law_way" := hX.lc hf (by decide +kernel)
  have n4 : Nm X 4 "_law_at" := hX.nm (by decide +kernel)
  have l4 : Lc X 4 "_law_at" := hX.lc hf (by decide +kernel)
  have n5 : Nm X 5 "_law_sign" := hX.nm (by decide +kernel)
  have l5 : Lc X 5 "_law_sign" := hX.lc hf (by decide +kernel)
  have gg__law_mix : Gb X "_law_mix" := hX.gb (by decide +kernel)
  have gg__law_odd : Gb X "_law_odd" := hX.gb (by decide +kernel)
  have gg_len : Gb X "len" := hX.gb (by decide +kernel)
  refine @dss_cons _ _ _ _ _ (@ds_set' _ _ _ _ _ _ _ hX.nd l2 (@de_str _ false _ _ _) (by rfl)) ?_
  refine' @dss_cons _ _ _ _ _ ?z141 ?_
  case z141 =>
    refine' @ds_set' _ _ _ _ _ _ _ hX.nd l3 ?z142 (by rfl)
    case z142 =>
      refine' @de_mod _ false false _ _ _ _ _ false ?z143 (@de_int _ false _ _ _)
      case z143 =>
        refine' @de_call' _ false _ _ _ _ _ _ _ _ F__law_mix (hr.mono (by decide)) gg__law_mix ?z144 (by rfl) (by rfl)
        case z144 =>
          exact @da_cons _ false _ _ _ _ (@nv _ _ _ _ false n1) (@da_cons _ false _ _ _ _ (@de_int _ false _ _ _) (@da_nil _ false) (by rfl)) (by rfl)
  refine' @dss_cons _ _ _ _ _ ?z145 ?_
  case z145 =>
    refine' @ds_set' _ _ _ _ _ _ _ hX.nd l4 ?z146 (by rfl)
    case z146 =>
      refine' @de_mod _ false false _ _ _ _ _ false ?z147 ?z148
      case z147 =>
        refine' @de_call' _ false _ _ _ _ _ _ _ _ F__law_mix (hr.mono (by decide)) gg__law_mix ?z149 (by rfl) (by rfl)
        case z149 =>
          exact @da_cons _ false _ _ _ _ (@nv _ _ _ _ false n1) (@da_cons _ false _ _ _ _ (@de_int _ false _ _ _) (@da_nil _ false) (by rfl)) (by rfl)
      case z148 =>
        exact @de_add _ false false _ _ _ _ _ false (@de_lenS _ false false _ _ _ _ gg_len.gl T.b_len (@nv _ _ _ _ false n0) (by rfl)) (@de_int _ false _ _ _)
  refine' @dss_cons _ _ _ _ _ ?z150 ?_
  case z150 =>
    refine' @ds_set' _ _ _ _ _ _ _ hX.nd l5 ?z151 (by rfl)
    case z151 =>
      refine' @de_ixS _ false false false _ _ _ _ _ (@nv _ _ _ _ false n2) ?z152 (by exact fun _ _ => rfl)
      case z152 =>
        refine' @de_mod _ false false _ _ _ _ _ false ?z153 (@de_lenS _ false false _ _ _ _ gg_len.gl T.b_len (@nv _ _ _ _ false n2) (by rfl))
        case z153 =>
          refine' @de_call' _ false _ _ _ _ _ _ _ _ F__law_mix (hr.mono (by decide)) gg__law_mix ?z154 (by rfl) (by rfl)
          case z154 =>
            exact @da_cons _ false _ _ _ _ (@nv _ _ _ _ false n1) (@da_cons _ false _ _ _ _ (@de_int _ false _ _ _) (@da_nil _ false) (by rfl)) (by rfl)
  refine @dss_cons _ _ _ _ _ (@ds_if _ _ _ _ _ _ _ _ (@dt_cmp _ false false _ _ _ _ _ _ _ op_lt (by rfl) (@nv _ _ _ _ false n3) (@de_int _ false _ _ _)) ?_ ?_) ?_
  · refine' @dss_one _ _ _ ?z155
    case z155 =>
      refine' @ds_ret _ _ _ _ ?z156
      case z156 =>
        refine' @de_addS _ false false false _ _ _ _ _ ?z157 ?z158
        case z157 =>
          refine' @de_addS _ false false false _ _ _ _ _ ?z159 (@nv _ _ _ _ false n5)
          case z159 =>
            exact @de_cutS _ false false _ _ _ _ _ _ _ _ (@nv _ _ _ _ false n0) (@do_none _) (@do_some _ false _ _ (@nv _ _ _ _ false n4))
        case z158 =>
          exact @de_cutS _ false false _ _ _ _ _ _ _ _ (@nv _ _ _ _ false n0) (@do_some _ false _ _ (@nv _ _ _ _ false n4)) (@do_none _)
  · exact @dss_nil _
  refine @dss_cons _ _ _ _ _ (@ds_if _ _ _ _ _ _ _ _ (@dt_eq _ false false _ _ _ _ _ hu (@nv _ _ _ _ false n3) (@de_int _ false _ _ _)) ?_ ?_) ?_
  · refine' @dss_one _ _ _ ?z160
    case z160 =>
      refine' @ds_ret _ _ _ _ ?z161
      case z161 =>
        refine' @de_addS _ false false false _ _ _ _ _ ?z162 ?z163
        case z162 =>
          exact @de_cutS _ false false _ _ _ _ _ _ _ _ (@nv _ _ _ _ false n0) (@do_none _) (@do_some _ false _ _ (@nv _ _ _ _ false n4))
        case z163 =>
          refine' @de_cutS _ false false _ _ _ _ _ _ _ _ (@nv _ _ _ _ false n0) ?z164 (@do_none _)
          case z164 =>
            exact @do_some _ false _ _ (@de_add _ false false _ _ _ _ _ false (@nv _ _ _ _ false n4) (@de_int _ false _ _ _))
  · exact @dss_nil _
  refine @dss_cons _ _ _ _ _ (@ds_if _ _ _ _ _ _ _ _ (@dt_cmp _ false false _ _ _ _ _ _ _ op_lt (by rfl) (@nv _ _ _ _ false n3) (@de_int _ false _ _ _)) ?_ ?_) ?_
  · refine' @dss_one _ _ _ ?z165
    case z165 =>
      refine' @ds_ret _ _ _ _ ?z166
      case z166 =>
        refine' @de_addS _ false false false _ _ _ _ _ ?z167 ?z168
        case z167 =>
          refine' @de_addS _ false false false _ _ _ _ _ ?z169 (@nv _ _ _ _ false n5)
          case z169 =>
            exact @de_cutS _ false false _ _ _ _ _ _ _ _ (@nv _ _ _ _ false n0) (@do_none _) (@do_some _ false _ _ (@nv _ _ _ _ false n4))
        case z168 =>
          refine' @de_cutS _ false false _ _ _ _ _ _ _ _ (@nv _ _ _ _ false n0) ?z170 (@do_none _)
          case z170 =>
            exact @do_some _ false _ _ (@de_add _ false false _ _ _ _ _ false (@nv _ _ _ _ false n4) (@de_int _ false _ _ _))
  · exact @dss_nil _
  refine @dss_cons _ _ _ _ _ (@ds_if _ _ _ _ _ _ _ _ (@dt_eq _ false false _ _ _ _ _ hu (@nv _ _ _ _ false n3) (@de_int _ false _ _ _)) ?_ ?_) ?_
  · refine' @dss_one _ _ _ ?z171
    case z171 =>
      refine' @ds_ret _ _ _ _ ?z172
      case z172 =>
        exact @de_call' _ false _ _ _ _ _ _ _ _ F__law_odd (hr.mono (by decide)) gg__law_odd (@da_cons _ false _ _ _ _ (@nv _ _ _ _ false n1) (@da_nil _ false) (by rfl)) (by rfl) (by rfl)
  · exact @dss_nil _
  refine @dss_one _ _ _ (@ds_ret _ _ _ _ (@nv _ _ _ _ false n0))
theorem m__law_spoiled {f : Addr} {fd : FuncData} (F : Fun K "_law_spoiled" "_law_spoiled" s__law_spoiled f fd) (hb : Binds K fd (["_law_text", "_law_cell_here"] : List Str) []) (hm : mg "_law_spoiled" = some (.ref f)) (T : Txt K mg) (F__law_mix : FnM P w K mg base 1 "_law_mix" f__law_mix) (F__law_odd : FnM P w K mg base 2 "_law_odd" f__law_odd) :
    FnOk P w K mg base CX0 3 f fd (["_law_text", "_law_cell_here"] : List Str) (spM K f__law_spoiled) ∧ FnM P w K mg base 3 "_law_spoiled" f__law_spoiled := by
  have h := fnM_of (P := P) (w := w) (base := base) (k := 2) (g := g__law_spoiled) F sc__law_spoiled hb hm (by decide) fun cdv A outer s H E hr => by
    exact @d__law_spoiled ((cxOf CX0 P w K mg base N__law_spoiled "_law_spoiled" (defScope s__law_spoiled) f cdv A outer s H E).nox) (hasX sc__law_spoiled.nd) (fun _ => rfl) PassesOwn.never hr T F__law_mix F__law_odd
  exact h
theorem sc__law_all_in : FnScope N__law_all_in (["_law_word", "_law_signs", "_law_most"] : List Str) (defScope s__law_all_in) := ⟨rfl, rfl, rfl, by decide +kernel, rfl, by decide +kernel, by decide +kernel⟩
theorem d__law_all_in {X : Cx} (hX : Has X N__law_all_in (defScope s__law_all_in)) (hf : ∀ x, X.fn x = true) (hp : PassesOwn (model X.prog X.w) X.A X.env X.xe) (hr : Room 0 X.A) (T : Txt X.K X.mg)  :
    DSs X (defBody s__law_all_in) g__law_all_in := by
  have hu := hr.units
  have n0 : Nm X 0 "_law_word" := hX.nm (by decide +kernel)
  have n1 : Nm X 1 "_law_signs" := hX.nm (by decide +kernel)
  have n2 : Nm X 2 "_law_most" := hX.nm (by decide +kernel)
  have n3 : Nm X 3 "_law_sign" := hX.nm (by decide +kernel)
  have l3 : Lc X 3 "_law_sign" := hX.lc hf (by decide +kernel)
  have gg_len : Gb X "len" := hX.gb (by decide +kernel)
  refine @dss_cons _ _ _ _ _ (@ds_if _ _ _ _ _ _ _ _ (PW.pt (dw_or (dt_cmp op_lt (by rfl) (de_lenS (mm := false) gg_len.gl T.b_len (nv false n0)) (de_int (m := false))) (dw_or1 (dt_cmp op_gt (by rfl) (de_lenS (mm := false) gg_len.gl T.b_len (nv false n0)) (nv false n2))))) ?_ ?_) ?_
  · refine @dss_one _ _ _ (@ds_ret _ _ _ _ (@de_bl _ false _ _ _))
  · exact @dss_nil _
  refine @dss_cons _ _ _ _ _ (@ds_for _ _ _ _ _ _ b__law_all_in_1 _ hp hX.calm (@di_str _ _ false _ _ (@nv _ _ _ _ false n0)) (@dg_name' _ _ _ _ hX.nd l3) ?_ (by intro _ ; rfl)) ?_
  · refine @dss_one _ _ _ (@ds_if _ _ _ _ _ _ _ _ (@dt_notInS _ false false _ _ _ _ _ (by rfl) (@nv _ _ _ _ false n3) (@nv _ _ _ _ false n1)) ?_ ?_)
    · refine @dss_one _ _ _ (@ds_ret _ _ _ _ (@de_bl _ false _ _ _))
    · exact @dss_nil _
  refine @dss_one _ _ _ (@ds_ret _ _ _ _ (@de_bl _ false _ _ _))
theorem m__law_all_in {f : Addr} {fd : FuncData} (F : Fun K "_law_all_in" "_law_all_in" s__law_all_in f fd) (hb : Binds K fd (["_law_word", "_law_signs", "_law_most"] : List Str) []) (hm : mg "_law_all_in" = some (.ref f)) (T : Txt K mg)  :
    FnOk P w K mg base CX0 1 f fd (["_law_word", "_law_signs", "_law_most"] : List Str) (spM K f__law_all_in) ∧ FnM P w K mg base 1 "_law_all_in" f__law_all_in := by
  have h := fnM_of (P := P) (w := w) (base := base) (k := 0) (g := g__law_all_in) F sc__law_all_in hb hm (by decide) fun cdv A outer s H E hr => by
    exact @d__law_all_in ((cxOf CX0 P w K mg base N__law_all_in "_law_all_in" (defScope s__law_all_in) f cdv A outer s H E).nox) (hasX sc__law_all_in.nd) (fun _ => rfl) PassesOwn.never hr T 
  exact h
theorem sc__law_cell : FnScope N__law_cell (["_law_word"] : List Str) (defScope s__law_cell) := ⟨rfl, rfl, rfl, by decide +kernel, rfl, by decide +kernel, by decide +kernel⟩
theorem d__law_cell {X : Cx} (hX : Has X N__law_cell (defScope s__law_cell)) (hf : ∀ x, X.fn x = true) (hp : PassesOwn (model X.prog X.w) X.A X.env X.xe) (hr : Room 1 X.A) (T : Txt X.K X.mg) (F__law_all_in : FnM X.prog X.w X.K X.mg X.base 1 "_law_all_in" f__law_all_in) :
    DSs X (defBody s__law_cell) g__law_cell := by
  have hu := hr.units
  have n0 : Nm X 0 "_law_word" := hX.nm (by decide +kernel)
  have n1 : Nm X 1 "_law_figures" := hX.nm (by decide +kernel)
  have l1 : Lc X 1 "_law_figures" := hX.lc hf (by decide +kernel)
  have gg__law_all_in : Gb X "_law_all_in" := hX.gb (by decide +kernel)
  have gg_int : Gb X "int" := hX.gb (by decide +kernel)
  refine' @dss_cons _ _ _ _ _ (@ds_if _ _ _ _ _ _ _ _ ?z173 ?_ ?_) ?_
  case z173 =>
    refine' @dt_val _ false _ _ ?z174 (by intro _ ; rfl)
    case z174 =>
      refine' @de_call' _ false _ _ _ _ _ _ _ _ F__law_all_in (hr.mono (by decide)) gg__law_all_in ?z175 (by rfl) (by rfl)
      case z175 =>
        refine' @da_cons _ false _ _ _ _ (@nv _ _ _ _ false n0) ?z176 (by rfl)
        case z176 =>
          exact @da_cons _ false _ _ _ _ (@de_str _ false _ _ _) (@da_cons _ false _ _ _ _ (@de_int _ false _ _ _) (@da_nil _ false) (by rfl)) (by rfl)
  · refine' @dss_one _ _ _ ?z177
    case z177 =>
      refine' @ds_ret _ _ _ _ ?z178
      case z178 =>
        refine' @de_tup _ false _ _ _ _ ?z179
        case z179 =>
          exact @da_cons _ false _ _ _ _ (@de_str _ false _ _ _) (@da_cons _ false _ _ _ _ (@nv _ _ _ _ false n0) (@da_nil _ false) (by rfl)) (by rfl)
  · exact @dss_nil _
  refine' @dss_cons _ _ _ _ _ ?z180 ?_
  case z180 =>
    refine' @ds_set' _ _ _ _ _ _ _ hX.nd l1 ?z181 (by rfl)
    case z181 =>
      exact @de_cutS _ false false _ _ _ _ _ _ _ _ (@nv _ _ _ _ false n0) (@do_some _ false _ _ (@de_int _ false _ _ _)) (@do_none _)
  refine @dss_cons _ _ _ _ _ (@ds_if _ _ _ _ _ _ _ _ (PW.pt (dw_and (dt_eq hu (de_cutS (mm := false) (nv false n0) (do_none) (do_some (de_int (m := false)))) (de_str (m := false))) (dw_and (dt_val (de_call' F__law_all_in (hr.mono (by decide)) gg__law_all_in (da_cons (nv false n1) (da_cons (de_str (m := false)) (da_cons (de_int (m := false)) (da_nil)))))) (dw_and1 (PW.pt (dw_or (dt_eq hu (nv false n1) (de_str (m := false))) (dw_or1 (dt_ne hu (de_ixS (mm := false) (nv false n1) (de_int (m := false))) (de_str (m := false)))))))))) ?_ ?_) ?_
  · refine' @dss_one _ _ _ ?z182
    case z182 =>
      refine' @ds_ret _ _ _ _ ?z183
      case z183 =>
        refine' @de_tup _ false _ _ _ _ ?z184
        case z184 =>
          refine' @da_cons _ false _ _ _ _ (@de_str _ false _ _ _) ?z185 (by rfl)
          case z185 =>
            exact @da_cons _ false _ _ _ _ (@de_intS _ false false _ _ _ _ gg_int.gl T.b_int (@nv _ _ _ _ false n1) (by rfl)) (@da_nil _ false) (by rfl)
  · exact @dss_nil _
  refine @dss_one _ _ _ (@ds_ret _ _ _ _ (@de_non _ false _ _))
theorem m__law_cell {f : Addr} {fd : FuncData} (F : Fun K "_law_cell" "_law_cell" s__law_cell f fd) (hb : Binds K fd (["_law_word"] : List Str) []) (hm : mg "_law_cell" = some (.ref f)) (T : Txt K mg) (F__law_all_in : FnM P w K mg base 1 "_law_all_in" f__law_all_in) :
    FnOk P w K mg base CX0 2 f fd (["_law_word"] : List Str) (spM K f__law_cell) ∧ FnM P w K mg base 2 "_law_cell" f__law_cell := by
  have h := fnM_of (P := P) (w := w) (base := base) (k := 1) (g := g__law_cell) F sc__law_cell hb hm (by decide) fun cdv A outer s H E hr => by
    exact @d__law_cell ((cxOf CX0 P w K mg base N__law_cell "_law_cell" (defScope s__law_cell) f cdv A outer s H E).nox) (hasX sc__law_cell.nd) (fun _ => rfl) PassesOwn.never hr T F__law_all_in
  exact h
theorem sc__law_told : FnScope N__law_told (["_law_text"] : List Str) (defScope s__law_told) := ⟨rfl, rfl, rfl, by decide +kernel, rfl, by decide +kernel, by decide +kernel⟩
theorem d__law_told {X : Cx} (hX : Has X N__law_told (defScope s__law_told)) (hf : ∀ x, X.fn x = true) (hp : PassesOwn (model X.prog X.w) X.A X.env X.xe) (hr : Room 2 X.A) (T : Txt X.K X.mg) (F__law_all_in : FnM X.prog X.w X.K X.mg X.base 1 "_law_all_in" f__law_all_in) (F__law_cell : FnM X.prog X.w X.K X.mg X.base 2 "_law_cell" f__law_cell) :
    DSs X (defBody s__law_told) g__law_told := by
  have hu := hr.units
  have n0 : Nm X 0 "_law_text" := hX.nm (by decide +kernel)
  have n1 : Nm X 1 "_law_words" := hX.nm (by decide +kernel)
  have l1 : Lc X 1 "_law_words" := hX.lc hf (by decide +kernel)
  have n2 : Nm X 2 "_law_cells" := hX.nm (by decide +kernel)
  have l2 : Lc X 2 "_law_cells" := hX.lc hf (by decide +kernel)
  have gg__law_all_in : Gb X "_law_all_in" := hX.gb (by decide +kernel)
  have gg_isinstance : Gb X "isinstance" := hX.gb (by decide +kernel)
  have gg_len : Gb X "len" := hX.gb (by decide +kernel)
  have gg_str : Gb X "str" := hX.gb (by decide +kernel)
  have gg_tuple : Gb X "tuple" := hX.gb (by decide +kernel)
  refine' @dss_cons _ _ _ _ _ (@ds_if _ _ _ _ _ _ _ _ ?z186 ?_ ?_) ?_
  case z186 =>
    refine' @dt_not _ _ _ _ ?z187
    case z187 =>
      exact @dt_val _ false _ _ (@de_isi _ false false _ _ _ _ _ "str" _ (by simp) gg_isinstance.gl T.b_isinstance gg_str.gl T.b_str bt_str (@nv _ _ _ _ false n0) (by rfl) (by rfl) (by decide) (by decide) (by rfl)) (by intro _ ; rfl)
  · refine @dss_one _ _ _ (@ds_ret _ _ _ _ (@de_non _ false _ _))
  · exact @dss_nil _
  refine' @dss_cons _ _ _ _ _ ?z188 ?_
  case z188 =>
    refine' @ds_set' _ _ _ _ _ _ _ hX.nd l1 ?z189 (by rfl)
    case z189 =>
      exact @DF.share _ false _ _ (@df_split _ false false _ _ _ _ _ _ (@nv _ _ _ _ false n0) (@de_str _ false _ _ _) (by rfl) (by rfl) (by rfl) (by rfl))
  refine @dss_cons _ _ _ _ _ (@ds_if _ _ _ _ _ _ _ _ (PW.pt (dw_or (dt_cmp op_lt (by rfl) (de_len' (mm := false) gg_len T.b_len (nv false n1)) (de_int (m := false))) (dw_or (dt_cmp op_gt (by rfl) (de_len' (mm := false) gg_len T.b_len (nv false n1)) (de_int (m := false))) (dw_or1 (dt_not (dt_val (de_call' F__law_all_in (hr.mono (by decide)) gg__law_all_in (da_cons (de_ix (nv false n1) (de_int (m := false))) (da_cons (de_str (m := false)) (da_cons (de_int (m := false)) (da_nil))))))))))) ?_ ?_) ?_
  · refine @dss_one _ _ _ (@ds_ret _ _ _ _ (@de_non _ false _ _))
  · exact @dss_nil _
  refine' @dss_cons _ _ _ _ _ ?z190 ?_
  case z190 =>
    refine' @ds_setc' _ _ _ _ _ _ _ _ _ _ _ _ _ _ _ _ _ _ hX l2 (anew_name 3) ?z191 (CompScope.of' hX (by decide +kernel)) (fun cl C s₂ H₂ ex pn => @dg_name' _ _ _ _ (hX.comp _ cl C s₂ H₂ ex pn).nd ((hX.comp _ cl C s₂ H₂ ex pn).lcl (i := 3) (by decide +kernel))) (fun cl C s₂ H₂ ex pn => @dts_nil _) ?z192 (by decide +kernel) (by decide +kernel) (by intro _ ; rfl)
    case z191 =>
      refine' @di_list _ false _ _ _ ?z193
      case z193 =>
        refine' @DF.share _ false _ _ ?z194
        case z194 =>
          exact @df_cutL _ _ _ _ _ _ _ _ _ (@nv _ _ _ _ false n1) (@do_some _ false _ _ (@de_int _ false _ _ _)) (@do_none _)
    case z192 =>
      intro cl C s₂ H₂ ex pn
      exact @de_call' _ false _ _ _ _ _ _ _ _ F__law_cell (hr.mono (by decide)) ((hX.comp _ cl C s₂ H₂ ex pn).gb (x := "_law_cell") (by decide +kernel)) (@da_cons _ false _ _ _ _ (@nv _ _ _ _ false ((hX.comp _ cl C s₂ H₂ ex pn).nm (i := 3) (by decide +kernel))) (@da_nil _ false) (by rfl)) (by rfl) (by rfl)
  refine @dss_frz _ k__law_told_2 _ 2 ?_
  refine @dss_cons _ _ _ _ _ (@ds_if _ _ _ _ _ _ _ _ (@dt_in _ false false _ _ _ _ _ hu (@de_non _ false _ _) (@nv _ _ _ _ false n2) (by rfl)) ?_ ?_) ?_
  · refine @dss_one _ _ _ (@ds_ret _ _ _ _ (@de_non _ false _ _))
  · exact @dss_nil _
  refine' @dss_one _ _ _ ?z195
  case z195 =>
    refine' @ds_ret _ _ _ _ ?z196
    case z196 =>
      refine' @de_tup _ false _ _ _ _ ?z197
      case z197 =>
        refine' @da_cons _ false _ _ _ _ (@de_ix _ false false _ _ _ _ _ (@nv _ _ _ _ false n1) (@de_int _ false _ _ _) (by exact fun _ _ => rfl)) ?z198 (by rfl)
        case z198 =>
          exact @da_cons _ false _ _ _ _ (@de_tuple _ false _ _ _ _ gg_tuple.gl T.b_tuple (@nv _ _ _ _ false n2) (by rfl)) (@da_nil _ false) (by rfl)
theorem m__law_told {f : Addr} {fd : FuncData} (F : Fun K "_law_told" "_law_told" s__law_told f fd) (hb : Binds K fd (["_law_text"] : List Str) []) (hm : mg "_law_told" = some (.ref f)) (T : Txt K mg) (F__law_all_in : FnM P w K mg base 1 "_law_all_in" f__law_all_in) (F__law_cell : FnM P w K mg base 2 "_law_cell" f__law_cell) :
    FnOk P w K mg base CX0 3 f fd (["_law_text"] : List Str) (spM K f__law_told) ∧ FnM P w K mg base 3 "_law_told" f__law_told := by
  have h := fnM_of (P := P) (w := w) (base := base) (k := 2) (g := g__law_told) F sc__law_told hb hm (by decide) fun cdv A outer s H E hr => by
    exact @d__law_told ((cxOf CX0 P w K mg base N__law_told "_law_told" (defScope s__law_told) f cdv A outer s H E).nox) (hasX sc__law_told.nd) (fun _ => rfl) PassesOwn.never hr T F__law_all_in F__law_cell
  exact h
theorem sc__law_is_row : FnScope N__law_is_row (["_law_found", "_law_due"] : List Str) (defScope s__law_is_row) := ⟨rfl, rfl, rfl, by decide +kernel, rfl, by decide +kernel, by decide +kernel⟩
theorem d__law_is_row {X : Cx} (hX : Has X N__law_is_row (defScope s__law_is_row)) (hf : ∀ x, X.fn x = true) (hp : PassesOwn (model X.prog X.w) X.A X.env X.xe) (hr : Room 1 X.A) (T : Txt X.K X.mg) (F__law_whole : FnM X.prog X.w X.K X.mg X.base 1 "_law_whole" f__law_whole) :
    DSs X (defBody s__law_is_row) g__law_is_row := by
  have hu := hr.units
  have n0 : Nm X 0 "_law_found" := hX.nm (by decide +kernel)
  have n1 : Nm X 1 "_law_due" := hX.nm (by decide +kernel)
  have n2 : Nm X 2 "_law_cell_here" := hX.nm (by decide +kernel)
  have l2 : Lc X 2 "_law_cell_here" := hX.lc hf (by decide +kernel)
  have gg__law_whole : Gb X "_law_whole" := hX.gb (by decide +kernel)
  have gg_isinstance : Gb X "isinstance" := hX.gb (by decide +kernel)
  have gg_tuple : Gb X "tuple" := hX.gb (by decide +kernel)
  refine @dss_cons _ _ _ _ _ (@ds_if _ _ _ _ _ _ _ _ (PW.pt (dw_or (dt_not (dt_val (de_isi (mm := false) (cs := "tuple") (by simp) gg_isinstance.gl T.b_isinstance gg_tuple.gl T.b_tuple bt_tuple (nv false n0)))) (dw_or (dt_ne hu (nv false n0) (nv false n1)) (dw_or1 (dt_not (dt_val (de_isi (mm := false) (cs := "tuple") (by simp) gg_isinstance.gl T.b_isinstance gg_tuple.gl T.b_tuple bt_tuple (de_ix (nv false n0) (de_int (m := false)))))))))) ?_ ?_) ?_
  · refine @dss_one _ _ _ (@ds_ret _ _ _ _ (@de_bl _ false _ _ _))
  · exact @dss_nil _
  refine' @dss_cons _ _ _ _ _ (@ds_for _ _ _ _ _ _ b__law_is_row_1 _ hp hX.calm ?z199 (@dg_name' _ _ _ _ hX.nd l2) ?_ (by intro _ ; rfl)) ?_
  case z199 =>
    exact @di_tup _ false _ _ _ (@de_ix _ false false _ _ _ _ _ (@nv _ _ _ _ false n0) (@de_int _ false _ _ _) (by exact fun _ _ => rfl))
  · refine @dss_one _ _ _ (@ds_if _ _ _ _ _ _ _ _ (PW.pt (dw_or (dt_not (dt_val (de_isi (mm := false) (cs := "tuple") (by simp) gg_isinstance.gl T.b_isinstance gg_tuple.gl T.b_tuple bt_tuple (nv false n2)))) (dw_or1 (PW.pt (dw_and (dt_eq hu (de_ix (nv false n2) (de_int (m := false))) (de_str (m := false))) (dw_and1 (dt_not (dt_val (de_call' F__law_whole (hr.mono (by decide)) gg__law_whole (da_cons (de_ix (nv false n2) (de_int (m := false))) (da_nil))))))))))) ?_ ?_)
    · refine @dss_one _ _ _ (@ds_ret _ _ _ _ (@de_bl _ false _ _ _))
    · exact @dss_nil _
  refine @dss_one _ _ _ (@ds_ret _ _ _ _ (@de_bl _ false _ _ _))
theorem m__law_is_row {f : Addr} {fd : FuncData} (F : Fun K "_law_is_row" "_law_is_row" s__law_is_row f fd) (hb : Binds K fd (["_law_found", "_law_due"] : List Str) []) (hm : mg "_law_is_row" = some (.ref f)) (T : Txt K mg) (F__law_whole : FnM P w K mg base 1 "_law_whole" f__law_whole) :
    FnOk P w K mg base CX0 2 f fd (["_law_found", "_law_due"] : List Str) (spM K f__law_is_row) ∧ FnM P w K mg base 2 "_law_is_row" f__law_is_row := by
  have h := fnM_of (P := P) (w := w) (base := base) (k := 1) (g := g__law_is_row) F sc__law_is_row hb hm (by decide) fun cdv A outer s H E hr => by
    exact @d__law_is_row ((cxOf CX0 P w K mg base N__law_is_row "_law_is_row" (defScope s__law_is_row) f cdv A outer s H E).nox) (hasX sc__law_is_row.nd) (fun _ => rfl) PassesOwn.never hr T F__law_whole
  exact h
theorem sc__law_right : FnScope N__law_right (["_law_text"] : List Str) (defScope s__law_right) := ⟨rfl, rfl, rfl, by decide +kernel, rfl, by decide +kernel, by decide +kernel⟩
theorem d__law_right {X : Cx} (hX : Has X N__law_right (defScope s__law_right)) (hf : ∀ x, X.fn x = true) (hp : PassesOwn (model X.prog X.w) X.A X.env X.xe) (hno : ∀ e s', X.xe e s' → False) (hst : X.stack = X.env :: X.outer ∧ X.env.frame = some X.env.locals) (hr : Room 5 X.A) (T : Txt X.K X.mg) (F_read_row : FnX X.prog X.w X.K X.mg X.base 5 "read_row" "NoText" f_read_row) (F__law_told : FnM X.prog X.w X.K X.mg X.base 3 "_law_told" f__law_told) (F__law_is_row : FnM X.prog X.w X.K X.mg X.base 2 "_law_is_row" f__law_is_row) :
    DSs X (defBody s__law_right) g__law_right := by
  have hu := hr.units
  obtain ⟨c_NoText, c_MustError, c_NoRow, e_NoText, e_MustError, e_NoRow, hsub, herr, k_NoText, k_ValueError, k_NoRow⟩ := T.err
  have n0 : Nm X 0 "_law_text" := hX.nm (by decide +kernel)
  have n1 : Nm X 1 "_law_due" := hX.nm (by decide +kernel)
  have l1 : Lc X 1 "_law_due" := hX.lc hf (by decide +kernel)
  have n2 : Nm X 2 "_law_error" := hX.nm (by decide +kernel)
  have l2 : Lc X 2 "_law_error" := hX.lc hf (by decide +kernel)
  have n3 : Nm X 3 "_law_found" := hX.nm (by decide +kernel)
  have l3 : Lc X 3 "_law_found" := hX.lc hf (by decide +kernel)
  have n4 : Nm X 4 "e" := hX.nm (by decide +kernel)
  have gg_MustError : Gb X "MustError" := hX.gb (by decide +kernel)
  have gg_NoRow : Gb X "NoRow" := hX.gb (by decide +kernel)
  have gg_NoText : Gb X "NoText" := hX.gb (by decide +kernel)
  have gg_ValueError : Gb X "ValueError" := hX.gb (by decide +kernel)
  have gg__law_is_row : Gb X "_law_is_row" := hX.gb (by decide +kernel)
  have gg__law_told : Gb X "_law_told" := hX.gb (by decide +kernel)
  have gg_isinstance : Gb X "isinstance" := hX.gb (by decide +kernel)
  have gg_read_row : Gb X "read_row" := hX.gb (by decide +kernel)
  refine' @dss_cons _ _ _ _ _ ?z200 ?_
  case z200 =>
    refine' @ds_set' _ _ _ _ _ _ _ hX.nd l1 ?z201 (by rfl)
    case z201 =>
      exact @de_call' _ false _ _ _ _ _ _ _ _ F__law_told (hr.mono (by decide)) gg__law_told (@da_cons _ false _ _ _ _ (@nv _ _ _ _ false n0) (@da_nil _ false) (by rfl)) (by rfl) (by rfl)
  refine @dss_cons _ _ _ _ _ (@ds_set' _ _ _ _ _ _ _ hX.nd l2 (@de_non _ false _ _) (by rfl)) ?_
  refine @dss_cons _ _ _ _ _ (@ds_set' _ _ _ _ _ _ _ hX.nd l3 (@de_non _ false _ _) (by rfl)) ?_
  refine' @dss_cons _ _ _ _ _ ?z202 ?_
  case z202 =>
    exact @ds_try _ _ _ _ _ _ _ _ _ _ _ _ _ _ _ _ _ _ _ _ _ _ _ _ _ _ _ (⟨hno, hst, hX.nd, l3, l2, n4.at', by rw [hX.sc]; rfl, e_NoText, e_MustError, hsub, gg_MustError.gl, gg_MustError.d1, n4.d1⟩ : TryOk X "NoText" "MustError" "_law_found" "_law_error" "e" _ _ 3 2 4) F_read_row (hr.mono (by decide)) gg_read_row.gl (@da_cons _ false _ _ _ _ (@nv _ _ _ _ false n0) (@da_nil _ false) (by rfl)) gg_read_row.d1 (by rfl) (by rfl) (by rfl) (by rfl)
  refine @dss_cons _ _ _ _ _ (@ds_if _ _ _ _ _ _ _ _ (@dt_notN _ _ _ _ false _ _ (@nv _ _ _ _ false n1) (by rfl)) ?_ ?_) ?_
  · refine' @dss_one _ _ _ ?z203
    case z203 =>
      refine' @ds_ret _ _ _ _ ?z204
      case z204 =>
        refine' @de_and _ false _ _ _ _ _ _ false (@de_isN _ _ _ _ false false _ _ (@nv _ _ _ _ false n2) (by rfl)) ?z205
        case z205 =>
          refine' @de_one _ false _ _ _ _ false ?z206 (by rfl)
          case z206 =>
            refine' @de_call' _ false _ _ _ _ _ _ _ _ F__law_is_row (hr.mono (by decide)) gg__law_is_row ?z207 (by rfl) (by rfl)
            case z207 =>
              exact @da_cons _ false _ _ _ _ (@nv _ _ _ _ false n3) (@da_cons _ false _ _ _ _ (@nv _ _ _ _ false n1) (@da_nil _ false) (by rfl)) (by rfl)
  · exact @dss_nil _
  refine' @dss_one _ _ _ ?z208
  case z208 =>
    refine' @ds_ret _ _ _ _ ?z209
    case z209 =>
      refine' @de_and _ false _ _ _ _ _ _ false (@de_isiC _ _ _ false false _ _ _ _ _ _ _ _ e_NoText herr e_NoText k_NoText gg_isinstance T.b_isinstance gg_NoText (@nv _ _ _ _ false n2) (by rfl) (by rfl) (by rfl)) ?z210
      case z210 =>
        refine' @de_and _ false _ _ _ _ _ _ false (@de_isiB _ _ _ false false _ _ _ _ _ _ _ _ e_NoText herr k_ValueError gg_isinstance T.b_isinstance gg_ValueError T.b_ValueError bt_ValueError (@nv _ _ _ _ false n2) (by decide) (by rfl) (by rfl) (by rfl)) ?z211
        case z211 =>
          refine' @de_one _ false _ _ _ _ false ?z212 (by rfl)
          case z212 =>
            exact @de_not _ false _ _ _ false (@de_isiC _ _ _ false false _ _ _ _ _ _ _ _ e_NoText herr e_NoRow k_NoRow gg_isinstance T.b_isinstance gg_NoRow (@nv _ _ _ _ false n2) (by rfl) (by rfl) (by rfl))
theorem m__law_right {f : Addr} {fd : FuncData} (F : Fun K "_law_right" "_law_right" s__law_right f fd) (hb : Binds K fd (["_law_text"] : List Str) []) (hm : mg "_law_right" = some (.ref f)) (T : Txt K mg) (F_read_row : FnX P w K mg base 5 "read_row" "NoText" f_read_row) (F__law_told : FnM P w K mg base 3 "_law_told" f__law_told) (F__law_is_row : FnM P w K mg base 2 "_law_is_row" f__law_is_row) :
    FnOk P w K mg base CX0 6 f fd (["_law_text"] : List Str) (spM K f__law_right) ∧ FnM P w K mg base 6 "_law_right" f__law_right := by
  have h := fnM_of (P := P) (w := w) (base := base) (k := 5) (g := g__law_right) F sc__law_right hb hm (by decide) fun cdv A outer s H E hr => by
    exact @d__law_right ((cxOf CX0 P w K mg base N__law_right "_law_right" (defScope s__law_right) f cdv A outer s H E).nox) (hasX sc__law_right.nd) (fun _ => rfl) PassesOwn.never (fun _ _ z => z) ⟨rfl, rfl⟩ hr T F_read_row F__law_told F__law_is_row
  exact h
theorem sc_law : FnScope N_law (["_law_script"] : List Str) (defScope s_law) := ⟨rfl, rfl, rfl, by decide +kernel, rfl, by decide +kernel, by decide +kernel⟩
theorem d_law {X : Cx} (hX : Has X N_law (defScope s_law)) (hf : ∀ x, X.fn x = true) (hp : PassesOwn (model X.prog X.w) X.A X.env X.xe) (hr : Room 6 X.A) (T : Txt X.K X.mg) (F_show_row : FnM X.prog X.w X.K X.mg X.base 2 "show_row" f_show_row) (F__law_row : FnM X.prog X.w X.K X.mg X.base 3 "_law_row" f__law_row) (F__law_shown : FnM X.prog X.w X.K X.mg X.base 1 "_law_shown" f__law_shown) (F__law_spoiled : FnM X.prog X.w X.K X.mg X.base 3 "_law_spoiled" f__law_spoiled) (F__law_right : FnM X.prog X.w X.K X.mg X.base 6 "_law_right" f__law_right) :
    DSs X (defBody s_law) g_law := by
  have hu := hr.units
  have n0 : Nm X 0 "_law_script" := hX.nm (by decide +kernel)
  have n1 : Nm X 1 "_law_cell_here" := hX.nm (by decide +kernel)
  have l1 : Lc X 1 "_law_cell_here" := hX.lc hf (by decide +kernel)
  have n2 : Nm X 2 "_law_row_here" := hX.nm (by decide +kernel)
  have l2 : Lc X 2 "_law_row_here" := hX.lc hf (by decide +kernel)
  have n3 : Nm X 3 "_law_text" := hX.nm (by decide +kernel)
  have l3 : Lc X 3 "_law_text" := hX.lc hf (by decide +kernel)
  have n4 : Nm X 4 "_law_found" := hX.nm (by decide +kernel)
  have l4 : Lc X 4 "_law_found" := hX.lc hf (by decide +kernel)
  have gg__law_right : Gb X "_law_right" := hX.gb (by decide +kernel)
  have gg__law_row : Gb X "_law_row" := hX.gb (by decide +kernel)
  have gg__law_shown : Gb X "_law_shown" := hX.gb (by decide +kernel)
  have gg__law_spoiled : Gb X "_law_spoiled" := hX.gb (by decide +kernel)
  have gg_isinstance : Gb X "isinstance" := hX.gb (by decide +kernel)
  have gg_show_row : Gb X "show_row" := hX.gb (by decide +kernel)
  have gg_str : Gb X "str" := hX.gb (by decide +kernel)
  refine' @dss_cons _ _ _ _ _ (@ds_for _ _ _ _ _ _ b_law_1 _ hp hX.calm ?z213 (@dg_name' _ _ _ _ hX.nd l1) ?_ (by intro _ ; rfl)) ?_
  case z213 =>
    refine' @di_list _ false _ _ _ ?z214
    case z214 =>
      refine' @DF.share _ false _ _ ?z215
      case z215 =>
        refine' @df_cat _ _ _ _ _ _ ?z216 ?z217
        case z216 =>
          refine' @DF.share _ false _ _ ?z218
          case z218 =>
            exact @df_cutL _ _ _ _ _ _ _ _ _ (@nv _ _ _ _ false n0) (@do_none _) (@do_some _ false _ _ (@de_int _ false _ _ _))
        case z217 =>
          refine' @DF.share _ false _ _ ?z219
          case z219 =>
            exact @df_lst _ _ _ _ (@da_cons _ false _ _ _ _ (@de_int _ false _ _ _) (@da_nil _ false) (by rfl))
  · refine' @dss_cons _ _ _ _ _ ?z220 ?_
    case z220 =>
      refine' @ds_set' _ _ _ _ _ _ _ hX.nd l2 ?z221 (by rfl)
      case z221 =>
        exact @de_call' _ false _ _ _ _ _ _ _ _ F__law_row (hr.mono (by decide)) gg__law_row (@da_cons _ false _ _ _ _ (@nv _ _ _ _ false n1) (@da_nil _ false) (by rfl)) (by rfl) (by rfl)
    refine' @dss_cons _ _ _ _ _ ?z222 ?_
    case z222 =>
      refine' @ds_set' _ _ _ _ _ _ _ hX.nd l3 ?z223 (by rfl)
      case z223 =>
        exact @de_call' _ false _ _ _ _ _ _ _ _ F__law_shown (hr.mono (by decide)) gg__law_shown (@da_cons _ false _ _ _ _ (@nv _ _ _ _ false n2) (@da_nil _ false) (by rfl)) (by rfl) (by rfl)
    refine' @dss_cons _ _ _ _ _ ?z224 ?_
    case z224 =>
      refine' @ds_set' _ _ _ _ _ _ _ hX.nd l4 ?z225 (by rfl)
      case z225 =>
        exact @de_call' _ false _ _ _ _ _ _ _ _ F_show_row (hr.mono (by decide)) gg_show_row (@da_cons _ false _ _ _ _ (@nv _ _ _ _ false n2) (@da_nil _ false) (by rfl)) (by rfl) (by rfl)
    refine @dss_cons _ _ _ _ _ (@ds_if _ _ _ _ _ _ _ _ (PW.pt (dw_or (dt_not (dt_val (de_isi (mm := false) (cs := "str") (by simp) gg_isinstance.gl T.b_isinstance gg_str.gl T.b_str bt_str (nv false n4)))) (dw_or1 (dt_ne hu (nv false n4) (nv false n3))))) ?_ ?_) ?_
    · refine @dss_one _ _ _ (@ds_ret _ _ _ _ (@de_bl _ false _ _ _))
    · exact @dss_nil _
    refine @dss_one _ _ _ (@ds_if _ _ _ _ _ _ _ _ (PW.pt (dw_or (dt_not (dt_val (de_call' F__law_right (hr.mono (by decide)) gg__law_right (da_cons (nv false n4) (da_nil))))) (dw_or1 (dt_not (dt_val (de_call' F__law_right (hr.mono (by decide)) gg__law_right (da_cons (de_call' F__law_spoiled (hr.mono (by decide)) gg__law_spoiled (da_cons (nv false n3) (da_cons (nv false n1) (da_nil)))) (da_nil)))))))) ?_ ?_)
    · refine @dss_one _ _ _ (@ds_ret _ _ _ _ (@de_bl _ false _ _ _))
    · exact @dss_nil _
  refine @dss_one _ _ _ (@ds_ret _ _ _ _ (@de_bl _ false _ _ _))
theorem m_law {f : Addr} {fd : FuncData} (F : Fun K "law" "law" s_law f fd) (hb : Binds K fd (["_law_script"] : List Str) []) (hm : mg "law" = some (.ref f)) (T : Txt K mg) (F_show_row : FnM P w K mg base 2 "show_row" f_show_row) (F__law_row : FnM P w K mg base 3 "_law_row" f__law_row) (F__law_shown : FnM P w K mg base 1 "_law_shown" f__law_shown) (F__law_spoiled : FnM P w K mg base 3 "_law_spoiled" f__law_spoiled) (F__law_right : FnM P w K mg base 6 "_law_right" f__law_right) :
    FnOk P w K mg base CX0 7 f fd (["_law_script"] : List Str) (spM K f_law) ∧ FnM P w K mg base 7 "law" f_law := by
  have h := fnM_of (P := P) (w := w) (base := base) (k := 6) (g := g_law) F sc_law hb hm (by decide) fun cdv A outer s H E hr => by
    exact @d_law ((cxOf CX0 P w K mg base N_law "law" (defScope s_law) f cdv A outer s H E).nox) (hasX sc_law.nd) (fun _ => rfl) PassesOwn.never hr T F_show_row F__law_row F__law_shown F__law_spoiled F__law_right
  exact h
end

theorem all_mk {l : PySem.W.OpenLaw} {w : World} {K : PySem.W.Frag} {h : Heap} {mg : Str → Option Value} {fa f0 f1 f2 f3 f4 f5 f6 f7 f8 f9 f10 f11 f12 f13 f14 f15 f16 f17 f18 f19 f20 f21 f22 : Addr} (X : K.In h) (G : h.Ns mainGlobals mg) (hfa : mg "law" = some (.ref fa))
    {od0 an0 od1 an1 od2 an2 od3 an3 od4 an4 od5 an5 od6 an6 od7 an7 od8 an8 od9 an9 od10 an10 od11 an11 od12 an12 od13 an13 od14 an14 od15 an15 od16 an16 od17 an17 od18 an18 od19 an19 od20 an20 od21 an21 od22 an22 : Option Addr} {sl0 sl1 sl2 sl3 sl4 sl5 sl6 sl7 sl8 sl9 sl10 sl11 sl12 sl13 sl14 sl15 sl16 sl17 sl18 sl19 sl20 sl21 sl22 : Array (Option Value)} {oc0 kV0 dc0 pm0 cd0 ct0 oc1 kV1 dc1 pm1 cd1 ct1 oc2 kV2 dc2 pm2 cd2 ct2 oc3 kV3 dc3 pm3 cd3 ct3 oc4 kV4 dc4 pm4 cd4 ct4 oc5 kV5 dc5 pm5 cd5 ct5 oc6 kV6 dc6 pm6 cd6 ct6 oc7 kV7 dc7 pm7 cd7 ct7 oc8 kV8 dc8 pm8 cd8 ct8 oc9 kV9 dc9 pm9 cd9 ct9 oc10 kV10 dc10 pm10 cd10 ct10 oc11 kV11 dc11 pm11 cd11 ct11 oc12 kV12 dc12 pm12 cd12 ct12 oc13 kV13 dc13 pm13 cd13 ct13 oc14 kV14 dc14 pm14 cd14 ct14 oc15 kV15 dc15 pm15 cd15 ct15 oc16 kV16 dc16 pm16 cd16 ct16 oc17 kV17 dc17 pm17 cd17 ct17 oc18 kV18 dc18 pm18 cd18 ct18 oc19 kV19 dc19 pm19 cd19 ct19 oc20 kV20 dc20 pm20 cd20 ct20 oc21 kV21 dc21 pm21 cd21 ct21 oc22 kV22 dc22 pm22 cd22 ct22 : Value} {t_FIGURES t_SMALL_LETTERS : Tok} {c_NoText c_MustError c_NoRow : Addr}
    (a0 : PySem.W.nsIn K mainGlobals "show_term" = some (some (.ref f0))) (l0 : K.lookup f0 = some ⟨oc0, od0, .func (PySem.W.fnOf "show_term" "show_term" (defArgs s_show_term) (defBody s_show_term) (defScope s_show_term) .none kV0 dc0 pm0 an0 cd0 ct0), sl0⟩) (c0 : PySem.W.codeIn K cd0 "show_term" = true) (k0 : PySem.W.keepIn K (.ref f0) = true)
    (a1 : PySem.W.nsIn K mainGlobals "show_row" = some (some (.ref f1))) (l1 : K.lookup f1 = some ⟨oc1, od1, .func (PySem.W.fnOf "show_row" "show_row" (defArgs s_show_row) (defBody s_show_row) (defScope s_show_row) .none kV1 dc1 pm1 an1 cd1 ct1), sl1⟩) (c1 : PySem.W.codeIn K cd1 "show_row" = true) (k1 : PySem.W.keepIn K (.ref f1) = true)
    (a2 : PySem.W.nsIn K mainGlobals "demand" = some (some (.ref f2))) (l2 : K.lookup f2 = some ⟨oc2, od2, .func (PySem.W.fnOf "demand" "demand" (defArgs s_demand) (defBody s_demand) (defScope s_demand) .none kV2 dc2 pm2 an2 cd2 ct2), sl2⟩) (c2 : PySem.W.codeIn K cd2 "demand" = true) (k2 : PySem.W.keepIn K (.ref f2) = true)
    (a3 : PySem.W.nsIn K mainGlobals "demand_text" = some (some (.ref f3))) (l3 : K.lookup f3 = some ⟨oc3, od3, .func (PySem.W.fnOf "demand_text" "demand_text" (defArgs s_demand_text) (defBody s_demand_text) (defScope s_demand_text) .none kV3 dc3 pm3 an3 cd3 ct3), sl3⟩) (c3 : PySem.W.codeIn K cd3 "demand_text" = true) (k3 : PySem.W.keepIn K (.ref f3) = true)
    (a4 : PySem.W.nsIn K mainGlobals "only_of" = some (some (.ref f4))) (l4 : K.lookup f4 = some ⟨oc4, od4, .func (PySem.W.fnOf "only_of" "only_of" (defArgs s_only_of) (defBody s_only_of) (defScope s_only_of) .none kV4 dc4 pm4 an4 cd4 ct4), sl4⟩) (c4 : PySem.W.codeIn K cd4 "only_of" = true) (k4 : PySem.W.keepIn K (.ref f4) = true)
    (a5 : PySem.W.nsIn K mainGlobals "read_name" = some (some (.ref f5))) (l5 : K.lookup f5 = some ⟨oc5, od5, .func (PySem.W.fnOf "read_name" "read_name" (defArgs s_read_name) (defBody s_read_name) (defScope s_read_name) .none kV5 dc5 pm5 an5 cd5 ct5), sl5⟩) (c5 : PySem.W.codeIn K cd5 "read_name" = true) (k5 : PySem.W.keepIn K (.ref f5) = true)
    (a6 : PySem.W.nsIn K mainGlobals "read_number" = some (some (.ref f6))) (l6 : K.lookup f6 = some ⟨oc6, od6, .func (PySem.W.fnOf "read_number" "read_number" (defArgs s_read_number) (defBody s_read_number) (defScope s_read_number) .none kV6 dc6 pm6 an6 cd6 ct6), sl6⟩) (c6 : PySem.W.codeIn K cd6 "read_number" = true) (k6 : PySem.W.keepIn K (.ref f6) = true)
    (a7 : PySem.W.nsIn K mainGlobals "read_cell" = some (some (.ref f7))) (l7 : K.lookup f7 = some ⟨oc7, od7, .func (PySem.W.fnOf "read_cell" "read_cell" (defArgs s_read_cell) (defBody s_read_cell) (defScope s_read_cell) .none kV7 dc7 pm7 an7 cd7 ct7), sl7⟩) (c7 : PySem.W.codeIn K cd7 "read_cell" = true) (k7 : PySem.W.keepIn K (.ref f7) = true)
    (a8 : PySem.W.nsIn K mainGlobals "read_line" = some (some (.ref f8))) (l8 : K.lookup f8 = some ⟨oc8, od8, .func (PySem.W.fnOf "read_line" "read_line" (defArgs s_read_line) (defBody s_read_line) (defScope s_read_line) .none kV8 dc8 pm8 an8 cd8 ct8), sl8⟩) (c8 : PySem.W.codeIn K cd8 "read_line" = true) (k8 : PySem.W.keepIn K (.ref f8) = true)
    (a9 : PySem.W.nsIn K mainGlobals "read_row" = some (some (.ref f9))) (l9 : K.lookup f9 = some ⟨oc9, od9, .func (PySem.W.fnOf "read_row" "read_row" (defArgs s_read_row) (defBody s_read_row) (defScope s_read_row) .none kV9 dc9 pm9 an9 cd9 ct9), sl9⟩) (c9 : PySem.W.codeIn K cd9 "read_row" = true) (k9 : PySem.W.keepIn K (.ref f9) = true)
    (a10 : PySem.W.nsIn K mainGlobals "_law_whole" = some (some (.ref f10))) (l10 : K.lookup f10 = some ⟨oc10, od10, .func (PySem.W.fnOf "_law_whole" "_law_whole" (defArgs s__law_whole) (defBody s__law_whole) (defScope s__law_whole) .none kV10 dc10 pm10 an10 cd10 ct10), sl10⟩) (c10 : PySem.W.codeIn K cd10 "_law_whole" = true) (k10 : PySem.W.keepIn K (.ref f10) = true)
    (a11 : PySem.W.nsIn K mainGlobals "_law_mix" = some (some (.ref f11))) (l11 : K.lookup f11 = some ⟨oc11, od11, .func (PySem.W.fnOf "_law_mix" "_law_mix" (defArgs s__law_mix) (defBody s__law_mix) (defScope s__law_mix) .none kV11 dc11 pm11 an11 cd11 ct11), sl11⟩) (c11 : PySem.W.codeIn K cd11 "_law_mix" = true) (k11 : PySem.W.keepIn K (.ref f11) = true)
    (a12 : PySem.W.nsIn K mainGlobals "_law_name" = some (some (.ref f12))) (l12 : K.lookup f12 = some ⟨oc12, od12, .func (PySem.W.fnOf "_law_name" "_law_name" (defArgs s__law_name) (defBody s__law_name) (defScope s__law_name) .none kV12 dc12 pm12 an12 cd12 ct12), sl12⟩) (c12 : PySem.W.codeIn K cd12 "_law_name" = true) (k12 : PySem.W.keepIn K (.ref f12) = true)
    (a13 : PySem.W.nsIn K mainGlobals "_law_row" = some (some (.ref f13))) (l13 : K.lookup f13 = some ⟨oc13, od13, .func (PySem.W.fnOf "_law_row" "_law_row" (defArgs s__law_row) (defBody s__law_row) (defScope s__law_row) .none kV13 dc13 pm13 an13 cd13 ct13), sl13⟩) (c13 : PySem.W.codeIn K cd13 "_law_row" = true) (k13 : PySem.W.keepIn K (.ref f13) = true)
    (a14 : PySem.W.nsIn K mainGlobals "_law_shown" = some (some (.ref f14))) (l14 : K.lookup f14 = some ⟨oc14, od14, .func (PySem.W.fnOf "_law_shown" "_law_shown" (defArgs s__law_shown) (defBody s__law_shown) (defScope s__law_shown) .none kV14 dc14 pm14 an14 cd14 ct14), sl14⟩) (c14 : PySem.W.codeIn K cd14 "_law_shown" = true) (k14 : PySem.W.keepIn K (.ref f14) = true)
    (a15 : PySem.W.nsIn K mainGlobals "_law_odd" = some (some (.ref f15))) (l15 : K.lookup f15 = some ⟨oc15, od15, .func (PySem.W.fnOf "_law_odd" "_law_odd" (defArgs s__law_odd) (defBody s__law_odd) (defScope s__law_odd) .none kV15 dc15 pm15 an15 cd15 ct15), sl15⟩) (c15 : PySem.W.codeIn K cd15 "_law_odd" = true) (k15 : PySem.W.keepIn K (.ref f15) = true)
    (a16 : PySem.W.nsIn K mainGlobals "_law_spoiled" = some (some (.ref f16))) (l16 : K.lookup f16 = some ⟨oc16, od16, .func (PySem.W.fnOf "_law_spoiled" "_law_spoiled" (defArgs s__law_spoiled) (defBody s__law_spoiled) (defScope s__law_spoiled) .none kV16 dc16 pm16 an16 cd16 ct16), sl16⟩) (c16 : PySem.W.codeIn K cd16 "_law_spoiled" = true) (k16 : PySem.W.keepIn K (.ref f16) = true)
    (a17 : PySem.W.nsIn K mainGlobals "_law_all_in" = some (some (.ref f17))) (l17 : K.lookup f17 = some ⟨oc17, od17, .func (PySem.W.fnOf "_law_all_in" "_law_all_in" (defArgs s__law_all_in) (defBody s__law_all_in) (defScope s__law_all_in) .none kV17 dc17 pm17 an17 cd17 ct17), sl17⟩) (c17 : PySem.W.codeIn K cd17 "_law_all_in" = true) (k17 : PySem.W.keepIn K (.ref f17) = true)
    (a18 : PySem.W.nsIn K mainGlobals "_law_cell" = some (some (.ref f18))) (l18 : K.lookup f18 = some ⟨oc18, od18, .func (PySem.W.fnOf "_law_cell" "_law_cell" (defArgs s__law_cell) (defBody s__law_cell) (defScope s__law_cell) .none kV18 dc18 pm18 an18 cd18 ct18), sl18⟩) (c18 : PySem.W.codeIn K cd18 "_law_cell" = true) (k18 : PySem.W.keepIn K (.ref f18) = true)
    (a19 : PySem.W.nsIn K mainGlobals "_law_told" = some (some (.ref f19))) (l19 : K.lookup f19 = some ⟨oc19, od19, .func (PySem.W.fnOf "_law_told" "_law_told" (defArgs s__law_told) (defBody s__law_told) (defScope s__law_told) .none kV19 dc19 pm19 an19 cd19 ct19), sl19⟩) (c19 : PySem.W.codeIn K cd19 "_law_told" = true) (k19 : PySem.W.keepIn K (.ref f19) = true)
    (a20 : PySem.W.nsIn K mainGlobals "_law_is_row" = some (some (.ref f20))) (l20 : K.lookup f20 = some ⟨oc20, od20, .func (PySem.W.fnOf "_law_is_row" "_law_is_row" (defArgs s__law_is_row) (defBody s__law_is_row) (defScope s__law_is_row) .none kV20 dc20 pm20 an20 cd20 ct20), sl20⟩) (c20 : PySem.W.codeIn K cd20 "_law_is_row" = true) (k20 : PySem.W.keepIn K (.ref f20) = true)
    (a21 : PySem.W.nsIn K mainGlobals "_law_right" = some (some (.ref f21))) (l21 : K.lookup f21 = some ⟨oc21, od21, .func (PySem.W.fnOf "_law_right" "_law_right" (defArgs s__law_right) (defBody s__law_right) (defScope s__law_right) .none kV21 dc21 pm21 an21 cd21 ct21), sl21⟩) (c21 : PySem.W.codeIn K cd21 "_law_right" = true) (k21 : PySem.W.keepIn K (.ref f21) = true)
    (a22 : PySem.W.nsIn K mainGlobals "law" = some (some (.ref f22))) (l22 : K.lookup f22 = some ⟨oc22, od22, .func (PySem.W.fnOf "law" "law" (defArgs s_law) (defBody s_law) (defScope s_law) .none kV22 dc22 pm22 an22 cd22 ct22), sl22⟩) (c22 : PySem.W.codeIn K cd22 "law" = true) (k22 : PySem.W.keepIn K (.ref f22) = true)
    (z_ValueError : PySem.W.nsIn K mainGlobals "ValueError" = some none) (z_all : PySem.W.nsIn K mainGlobals "all" = some none) (z_bool : PySem.W.nsIn K mainGlobals "bool" = some none) (z_int : PySem.W.nsIn K mainGlobals "int" = some none) (z_isinstance : PySem.W.nsIn K mainGlobals "isinstance" = some none) (z_len : PySem.W.nsIn K mainGlobals "len" = some none) (z_range : PySem.W.nsIn K mainGlobals "range" = some none) (z_str : PySem.W.nsIn K mainGlobals "str" = some none) (z_tuple : PySem.W.nsIn K mainGlobals "tuple" = some none) (y_FIGURES : PySem.W.nsIn K mainGlobals "FIGURES" = some (some (.str "0123456789" t_FIGURES))) (y_SMALL_LETTERS : PySem.W.nsIn K mainGlobals "SMALL_LETTERS" = some (some (.str "abcdefghijklmnopqrstuvwxyz" t_SMALL_LETTERS))) (n_NoText : PySem.W.nsIn K mainGlobals "NoText" = some (some (.ref c_NoText))) (x_NoText : PySem.W.excIn K c_NoText [.type "ValueError", .type "Exception", .type "BaseException", .type "object"] "ValueError.__new__" = true) (n_MustError : PySem.W.nsIn K mainGlobals "MustError" = some (some (.ref c_MustError))) (x_MustError : PySem.W.excIn K c_MustError [.type "ValueError", .type "Exception", .type "BaseException", .type "object"] "ValueError.__new__" = true) (n_NoRow : PySem.W.nsIn K mainGlobals "NoRow" = some (some (.ref c_NoRow))) (x_NoRow : PySem.W.excIn K c_NoRow [.type "ValueError", .type "Exception", .type "BaseException", .type "object"] "ValueError.__new__" = true) (hsub : L2.subIn K c_NoText c_MustError = some true) (herr : errIn K c_NoText = true) (k_NoText : PySem.W.kitOne K (.ref c_NoText) (.ref c_NoText) = some true) (k_ValueError : PySem.W.kitOne K (.ref c_NoText) (.type "ValueError") = some true) (k_NoRow : PySem.W.kitOne K (.ref c_NoText) (.ref c_NoRow) = some false) :
    ∃ fd : FuncData, (∀ (s : Shared) (v : Value), BindsTo s fd ⟨[v], []⟩ [("_law_script", v)]) ∧ ∀ base : Heap, K.In base → base.Ns mainGlobals mg → FnOk l.prog w K mg base CX0 7 fa fd ["_law_script"] (spM K f_law) := by
  have e := hfa.symm.trans (PySem.W.mg_of X G a22)
  cases e
  have T : Txt K mg := ⟨PySem.W.mg_none_of X G z_ValueError, PySem.W.mg_none_of X G z_all, PySem.W.mg_none_of X G z_bool, PySem.W.mg_none_of X G z_int, PySem.W.mg_none_of X G z_isinstance, PySem.W.mg_none_of X G z_len, PySem.W.mg_none_of X G z_range, PySem.W.mg_none_of X G z_str, PySem.W.mg_none_of X G z_tuple, ⟨_, PySem.W.mg_of X G y_FIGURES⟩, ⟨_, PySem.W.mg_of X G y_SMALL_LETTERS⟩, ⟨c_NoText, c_MustError, c_NoRow, ⟨n_NoText, PySem.W.mg_of X G n_NoText, x_NoText⟩, ⟨n_MustError, PySem.W.mg_of X G n_MustError, x_MustError⟩, ⟨n_NoRow, PySem.W.mg_of X G n_NoRow, x_NoRow⟩, hsub, herr, k_NoText, k_ValueError, k_NoRow⟩⟩
  have G0 := fun_mk (st := s_show_term) l0 c0 k0
  have b0 := G0.binds (ps := ["term"]) fun _ _ _ _ _ _ us hl => match us, hl with | [_], _ => rfl
  have G1 := fun_mk (st := s_show_row) l1 c1 k1
  have b1 := G1.binds (ps := ["row"]) fun _ _ _ _ _ _ us hl => match us, hl with | [_], _ => rfl
  have G2 := fun_mk (st := s_demand) l2 c2 k2
  have b2 := G2.binds (ps := ["holds", "words"]) fun _ _ _ _ _ _ us hl => match us, hl with | [_, _], _ => rfl
  have G3 := fun_mk (st := s_demand_text) l3 c3 k3
  have b3 := G3.binds (ps := ["text"]) fun _ _ _ _ _ _ us hl => match us, hl with | [_], _ => rfl
  have G4 := fun_mk (st := s_only_of) l4 c4 k4
  have b4 := G4.binds (ps := ["text", "signs"]) fun _ _ _ _ _ _ us hl => match us, hl with | [_, _], _ => rfl
  have G5 := fun_mk (st := s_read_name) l5 c5 k5
  have b5 := G5.binds (ps := ["word"]) fun _ _ _ _ _ _ us hl => match us, hl with | [_], _ => rfl
  have G6 := fun_mk (st := s_read_number) l6 c6 k6
  have b6 := G6.binds (ps := ["text"]) fun _ _ _ _ _ _ us hl => match us, hl with | [_], _ => rfl
  have G7 := fun_mk (st := s_read_cell) l7 c7 k7
  have b7 := G7.binds (ps := ["word"]) fun _ _ _ _ _ _ us hl => match us, hl with | [_], _ => rfl
  have G8 := fun_mk (st := s_read_line) l8 c8 k8
  have b8 := G8.binds (ps := ["text", "read_word"]) fun _ _ _ _ _ _ us hl => match us, hl with | [_, _], _ => rfl
  have G9 := fun_mk (st := s_read_row) l9 c9 k9
  have b9 := G9.binds (ps := ["text"]) fun _ _ _ _ _ _ us hl => match us, hl with | [_], _ => rfl
  have G10 := fun_mk (st := s__law_whole) l10 c10 k10
  have b10 := G10.binds (ps := ["_law_found"]) fun _ _ _ _ _ _ us hl => match us, hl with | [_], _ => rfl
  have G11 := fun_mk (st := s__law_mix) l11 c11 k11
  have b11 := G11.binds (ps := ["_law_cell_here", "_law_j"]) fun _ _ _ _ _ _ us hl => match us, hl with | [_, _], _ => rfl
  have G12 := fun_mk (st := s__law_name) l12 c12 k12
  have b12 := G12.binds (ps := ["_law_cell_here", "_law_far"]) fun _ _ _ _ _ _ us hl => match us, hl with | [_, _], _ => rfl
  have G13 := fun_mk (st := s__law_row) l13 c13 k13
  have b13 := G13.binds (ps := ["_law_cell_here"]) fun _ _ _ _ _ _ us hl => match us, hl with | [_], _ => rfl
  have G14 := fun_mk (st := s__law_shown) l14 c14 k14
  have b14 := G14.binds (ps := ["_law_row_here"]) fun _ _ _ _ _ _ us hl => match us, hl with | [_], _ => rfl
  have G15 := fun_mk (st := s__law_odd) l15 c15 k15
  have b15 := G15.binds (ps := ["_law_cell_here"]) fun _ _ _ _ _ _ us hl => match us, hl with | [_], _ => rfl
  have G16 := fun_mk (st := s__law_spoiled) l16 c16 k16
  have b16 := G16.binds (ps := ["_law_text", "_law_cell_here"]) fun _ _ _ _ _ _ us hl => match us, hl with | [_, _], _ => rfl
  have G17 := fun_mk (st := s__law_all_in) l17 c17 k17
  have b17 := G17.binds (ps := ["_law_word", "_law_signs", "_law_most"]) fun _ _ _ _ _ _ us hl => match us, hl with | [_, _, _], _ => rfl
  have G18 := fun_mk (st := s__law_cell) l18 c18 k18
  have b18 := G18.binds (ps := ["_law_word"]) fun _ _ _ _ _ _ us hl => match us, hl with | [_], _ => rfl
  have G19 := fun_mk (st := s__law_told) l19 c19 k19
  have b19 := G19.binds (ps := ["_law_text"]) fun _ _ _ _ _ _ us hl => match us, hl with | [_], _ => rfl
  have G20 := fun_mk (st := s__law_is_row) l20 c20 k20
  have b20 := G20.binds (ps := ["_law_found", "_law_due"]) fun _ _ _ _ _ _ us hl => match us, hl with | [_, _], _ => rfl
  have G21 := fun_mk (st := s__law_right) l21 c21 k21
  have b21 := G21.binds (ps := ["_law_text"]) fun _ _ _ _ _ _ us hl => match us, hl with | [_], _ => rfl
  have G22 := fun_mk (st := s_law) l22 c22 k22
  have b22 := G22.binds (ps := ["_law_script"]) fun _ _ _ _ _ _ us hl => match us, hl with | [_], _ => rfl
  refine ⟨PySem.W.fnOf "law" "law" (defArgs s_law) (defBody s_law) (defScope s_law) .none kV22 dc22 pm22 an22 cd22 ct22, fun s v => .of_eq rfl, fun base _ _ => ?_⟩
  have M_show_term := m_show_term (P := l.prog) (w := w) (base := base) G0 b0 (PySem.W.mg_of X G a0) T 
  have M_show_row := m_show_row (P := l.prog) (w := w) (base := base) G1 b1 (PySem.W.mg_of X G a1) T M_show_term.2
  have M_demand := m_demand (P := l.prog) (w := w) (base := base) G2 b2 (PySem.W.mg_of X G a2) a2 T 
  have M_demand_text := m_demand_text (P := l.prog) (w := w) (base := base) G3 b3 (PySem.W.mg_of X G a3) a3 T M_demand
  have M_only_of := m_only_of (P := l.prog) (w := w) (base := base) G4 b4 (PySem.W.mg_of X G a4) T 
  have M_read_name := m_read_name (P := l.prog) (w := w) (base := base) G5 b5 (PySem.W.mg_of X G a5) a5 T M_demand M_only_of.2
  have M_read_number := m_read_number (P := l.prog) (w := w) (base := base) G6 b6 (PySem.W.mg_of X G a6) a6 T M_demand M_only_of.2
  have M_read_cell := m_read_cell (P := l.prog) (w := w) (base := base) G7 b7 (PySem.W.mg_of X G a7) a7 T M_read_name M_read_number
  have M_read_line := m_read_line (P := l.prog) (w := w) (base := base) G8 b8 (PySem.W.mg_of X G a8) a8 T M_demand M_read_name M_read_cell
  have M_read_row := m_read_row (P := l.prog) (w := w) (base := base) G9 b9 (PySem.W.mg_of X G a9) a9 T M_demand_text M_read_cell M_read_line
  have M__law_whole := m__law_whole (P := l.prog) (w := w) (base := base) G10 b10 (PySem.W.mg_of X G a10) T 
  have M__law_mix := m__law_mix (P := l.prog) (w := w) (base := base) G11 b11 (PySem.W.mg_of X G a11) T 
  have M__law_name := m__law_name (P := l.prog) (w := w) (base := base) G12 b12 (PySem.W.mg_of X G a12) T M__law_mix.2
  have M__law_row := m__law_row (P := l.prog) (w := w) (base := base) G13 b13 (PySem.W.mg_of X G a13) T M__law_mix.2 M__law_name.2
  have M__law_shown := m__law_shown (P := l.prog) (w := w) (base := base) G14 b14 (PySem.W.mg_of X G a14) T 
  have M__law_odd := m__law_odd (P := l.prog) (w := w) (base := base) G15 b15 (PySem.W.mg_of X G a15) T M__law_mix.2
  have M__law_spoiled := m__law_spoiled (P := l.prog) (w := w) (base := base) G16 b16 (PySem.W.mg_of X G a16) T M__law_mix.2 M__law_odd.2
  have M__law_all_in := m__law_all_in (P := l.prog) (w := w) (base := base) G17 b17 (PySem.W.mg_of X G a17) T 
  have M__law_cell := m__law_cell (P := l.prog) (w := w) (base := base) G18 b18 (PySem.W.mg_of X G a18) T M__law_all_in.2
  have M__law_told := m__law_told (P := l.prog) (w := w) (base := base) G19 b19 (PySem.W.mg_of X G a19) T M__law_all_in.2 M__law_cell.2
  have M__law_is_row := m__law_is_row (P := l.prog) (w := w) (base := base) G20 b20 (PySem.W.mg_of X G a20) T M__law_whole.2
  have M__law_right := m__law_right (P := l.prog) (w := w) (base := base) G21 b21 (PySem.W.mg_of X G a21) T M_read_row M__law_told.2 M__law_is_row.2
  have M_law := m_law (P := l.prog) (w := w) (base := base) G22 b22 (PySem.W.mg_of X G a22) T M_show_row.2 M__law_row.2 M__law_shown.2 M__law_spoiled.2 M__law_right.2
  exact M_law.1
end K71

end

section
set_option maxHeartbeats 1000000
namespace K71
open PySem L2

def mixI (c j : Int) : Int := ((c * (2 * j + 3) + j) % 2147483629 * ((c * (2 * j + 3) + j) % 2147483629) + 1) * 48271 % 2147483629
theorem mixI_lo (c j : Int) : 0 ≤ mixI c j := by unfold mixI; omega
theorem mixI_hi (c j : Int) : mixI c j < 2147483629 := by unfold mixI; omega
theorem mix_eq (c j : Int) (h0 : -1000 ≤ j) (h1 : j ≤ 1000) : f__law_mix [.int c, .int j] = some (.int (mixI c j), false) := by
  rw [runF_eq (f := f__law_mix) (δ := [some (.int c, false), some (.int j, false), none]) rfl rfl rfl]
  have e1 : (0 : Int) ≤ (c * (2 * j + 3) + j) % 2147483629 := by omega
  have e2 : (c * (2 * j + 3) + j) % 2147483629 < 2147483629 := by omega
  simp [g__law_mix, mulI_s c (2 * j + 3) (by omega), mulI_s ((c * (2 * j + 3) + j) % 2147483629) ((c * (2 * j + 3) + j) % 2147483629) (by omega), mixI]

abbrev small : Str := "abcdefghijklmnopqrstuvwxyz"
abbrev figs : Str := "0123456789"
def inS (c s : Str) : Bool := !(Builtin.Str.occurrences s c 0 s.length 1).isEmpty
def onlyIn (t s : Str) : Bool := t.cps.toList.all fun c => inS ⟨#[c]⟩ s

theorem demand_eq (b : Bool) (w : Str) : f_demand [.bl b, .str w] = some (if b = true then some (.non, false) else none) := by
  rw [runX_eq (f := f_demand) (δ := [some (.bl b, false), some (.str w, false)]) rfl rfl rfl]
  cases b <;> simp [g_demand]
theorem only_eq (t s : Str) (h : t.length ≤ lim) : f_only_of [.str t, .str s] = some (.bl (onlyIn t s), false) := by
  rw [runF_eq (f := f_only_of) (δ := [some (.str t, false), some (.str s, false), none]) rfl rfl rfl]
  have hl : (signs t).length ≤ lim := by simpa [signs, Str.length] using h
  have hc : compO (itemO (toName 2) (fun δ => some true) e_only_of_1 (maskD false [false, true, false] [some (.str t, false), some (.str s, false), none])) (signs t) = some ((t.cps.toList.map fun c => inS ⟨#[c]⟩ s).map D.bl) := by
    have := compO_map (h := itemO (toName 2) (fun δ => some true) e_only_of_1 (maskD false [false, true, false] [some (.str t, false), some (.str s, false), none])) (ds := signs t) (g := fun d => match d with | .str c => .bl (inS c s) | _ => .non) fun d hd => by
      unfold signs at hd
      obtain ⟨c, _, rfl⟩ := List.mem_map.mp hd
      simp [itemO, maskD, e_only_of_1, inS]
    rw [this, signs, List.map_map, List.map_map]
    rfl
  simp only [g_only_of, rd_0, rd_1, strL_s, bindO_s, runC_s hl, hc, lstLim_s, allO_s, retO_s, outF_r]
  rw [show (List.map (fun c => inS ⟨#[c]⟩ s) t.cps.toList).all id = onlyIn t s by rw [List.all_map]; rfl]
theorem all_loop (w s m : D) (t : List Nat) (S : Str) (hs : s = .str S) : ∀ x, loopD (fun d δ => bindO ((toName 3) d δ) b__law_all_in_1) (t.map fun c => .str ⟨#[c]⟩) [some (w, false), some (s, false), some (m, false), x] =
    if (t.all fun c => inS ⟨#[c]⟩ S) = true then some (.next [some (w, false), some (s, false), some (m, false), if t = [] then x else some (.str ⟨#[t.getLastD 0]⟩, false)]) else some (.ret (.bl false) false) := by
  subst hs
  induction t with
  | nil => intro x; simp [loopD]
  | cons c t ih =>
    intro x
    simp only [List.map_cons, loopD]
    have e : bindO (toName 3 (.str ⟨#[c]⟩) [some (w, false), some (.str S, false), some (m, false), x]) b__law_all_in_1 = if inS ⟨#[c]⟩ S = true then some (.next [some (w, false), some (.str S, false), some (m, false), some (.str ⟨#[c]⟩, false)]) else some (.ret (.bl false) false) := by
      cases hb : (Builtin.Str.occurrences S ⟨#[c]⟩ 0 S.length 1).isEmpty <;> simp [b__law_all_in_1, hb, inS]
    rw [e]
    by_cases hb : inS ⟨#[c]⟩ S = true
    · rw [if_pos hb]
      simp only
      rw [ih]
      cases t with
      | nil => simp [hb]
      | cons c2 t => simp [hb]
    · rw [if_neg hb]
      simp [hb]
def okIn (t s : Str) (m : Int) : Bool := decide (1 ≤ (t.length : Int)) && decide ((t.length : Int) ≤ m) && onlyIn t s
theorem allin_eq (t s : Str) (m : Int) (h : t.length ≤ lim) : f__law_all_in [.str t, .str s, .int m] = some (.bl (okIn t s m), false) := by
  rw [runF_eq (f := f__law_all_in) (δ := [some (.str t, false), some (.str s, false), some (.int m, false), none]) rfl rfl rfl]
  have hl := all_loop (.str t) (.str s) (.int m) t.cps.toList s rfl none
  simp only [g__law_all_in, rd_0, rd_1, lenS_s t h, cI_s]
  by_cases h1 : (t.length : Int) < 1
  · have e1 : gLt (t.length : Int) 1 = true := by simp [gLt, h1]
    have : okIn t s m = false := by unfold okIn; rw [decide_eq_false (by omega)]; simp
    simp [e1, this]
  · have e1 : gLt (t.length : Int) 1 = false := by simp [gLt]; omega
    by_cases h2 : m < (t.length : Int)
    · have e2 : gGt (t.length : Int) m = true := by simp [gGt, h2]
      have : okIn t s m = false := by unfold okIn; rw [decide_eq_false (p := (t.length : Int) ≤ m) (by omega)]; simp
      simp [e1, e2, this]
    · have e2 : gGt (t.length : Int) m = false := by simp [gGt]; omega
      have e3 : okIn t s m = onlyIn t s := by unfold okIn; rw [decide_eq_true (by omega), decide_eq_true (by omega)]; simp
      simp only [e1, e2, orO_f, ifO_f, nextO_s, seqO_n, strL_s, rd_0, bindO_s]
      unfold signs
      rw [hl, e3]
      unfold onlyIn
      by_cases hb : (t.cps.toList.all fun c => inS ⟨#[c]⟩ s) = true
      · rw [if_pos hb, hb]; simp
      · rw [if_neg hb]; simp only [Bool.not_eq_true] at hb; rw [hb]; simp
end K71

end

section
set_option maxHeartbeats 1000000
namespace K71
open PySem PySem.NumText L2
theorem inS_one (c : Nat) (s : Str) : inS ⟨#[c]⟩ s = decide (c ∈ s.cps.toList) := PySem.StrLaws.found_one s c
theorem figs_list : (figs : Str).cps.toList = [48, 49, 50, 51, 52, 53, 54, 55, 56, 57] := by decide +kernel
theorem small_list : (small : Str).cps.toList = [97, 98, 99, 100, 101, 102, 103, 104, 105, 106, 107, 108, 109, 110, 111, 112, 113, 114, 115, 116, 117, 118, 119, 120, 121, 122] := by decide +kernel
theorem chain_ok (t s : Str) (m : Int) : (gLe 1 (t.length : Int) && gLe (t.length : Int) m && onlyIn t s) = okIn t s m := rfl

def nameOk (w : Str) : Bool := okIn w small 8
def numOk (w : Str) : Bool := okIn w figs 9 && (decide (w = "0") || !decide ((⟨#[w.cps.toList.headD 0]⟩ : Str) = "0"))
theorem str_inj {x y : Str} : (D.str x = D.str y) = (x = y) := by simp
theorem eqO_str (x y : Str) : eqO (some (.str x)) (some (.str y)) = some (decide (x = y)) := by
  rw [eqO_s _ _ rfl]; congr 1; simp [str_inj]
theorem neO_str (x y : Str) : neO (some (.str x)) (some (.str y)) = some (!decide (x = y)) := by
  rw [neO_s _ _ rfl]; congr 2; simp [str_inj]
theorem read_name_eq (w : Str) (h : w.length ≤ lim) : f_read_name [.str w] = some (if nameOk w = true then some (.str w, false) else none) := by
  rw [runX_eq (f := f_read_name) (δ := [some (.str w, false)]) rfl rfl rfl]
  simp only [g_read_name, rd_0, consO_s, bindO_s, lenS_s w h, chainI_s, tyB_s, only_eq w _ h, shO_s]
  unfold nameOk
  rw [← chain_ok]
  cases hb : (gLe 1 (w.length : Int) && gLe (w.length : Int) 8) with
  | false => simp [demand_eq]
  | true => cases hc : onlyIn w small <;> simp [demand_eq, hc]
theorem head_ix (w : Str) (h : w.length ≤ lim) (h1 : 1 ≤ w.length) : ixSO (some (.str w)) (some (.int 0)) = some (.str ⟨#[w.cps.toList.headD 0]⟩) := by
  unfold ixSO
  simp only [if_pos h]
  have hl : w.cps.toList.length = w.length := Array.length_toList
  cases e : w.cps.toList with
  | nil => rw [e] at hl; simp at hl; omega
  | cons c cs => rw [atI_eq (v := c) (by decide) (by simp)]; rfl
theorem num_val (w : Str) (h : okIn w figs 9 = true) : ∃ n, intSO (some (.str w)) = some (.int n) := by
  unfold okIn at h
  simp only [Bool.and_eq_true, decide_eq_true_eq] at h
  obtain ⟨⟨h1, h2⟩, h3⟩ := h
  have hl : w.cps.toList.length = w.length := Array.length_toList
  have hd : AllDigits w.cps.toList := fun c hc => by
    have := List.all_eq_true.mp h3 c hc
    rw [inS_one, figs_list] at this
    simp at this
    omega
  have e := intText_digits hd (by intro z; rw [z] at hl; simp at hl; omega) (by omega)
  refine ⟨((digitsVal w.cps.toList : Nat) : Int), ?_⟩
  unfold intSO
  simp only [if_pos (show w.length ≤ 640 by omega), e]
def numD (w : Str) : D := (intSO (some (.str w))).getD .non
theorem numD_int (w : Str) (h : okIn w figs 9 = true) : ∃ n, numD w = .int n ∧ intSO (some (.str w)) = some (.int n) := by
  obtain ⟨n, e⟩ := num_val w h
  exact ⟨n, by unfold numD; rw [e]; rfl, e⟩
theorem read_number_eq (w : Str) (h : w.length ≤ lim) : f_read_number [.str w] = some (if numOk w = true then some (numD w, false) else none) := by
  rw [runX_eq (f := f_read_number) (δ := [some (.str w, false)]) rfl rfl rfl]
  simp only [g_read_number, rd_0, consO_s, bindO_s, lenS_s w h, chainI_s, tyB_s, only_eq w _ h, shO_s]
  unfold numOk
  cases hk : okIn w figs 9 with
  | false =>
    rw [← chain_ok] at hk
    cases hb : (gLe 1 (w.length : Int) && gLe (w.length : Int) 9) with
    | false => simp [demand_eq]
    | true =>
      rw [hb, Bool.true_and] at hk
      simp [demand_eq, hk]
  | true =>
    have hk' := hk
    rw [← chain_ok, Bool.and_eq_true] at hk'
    have h1 : 1 ≤ w.length := by unfold okIn at hk; simp only [Bool.and_eq_true, decide_eq_true_eq] at hk; omega
    obtain ⟨n, e1, e2⟩ := numD_int w hk
    simp only [hk'.1, hk'.2, consO_s, bindO_s, demand_eq, if_true, shX_s, dropX_s, seqX_n, rd_0]
    rw [head_ix w h h1, eqO_str, neO_str, e1]
    simp only [ofB_s, tyB_s]
    by_cases hz : w = "0"
    · rw [decide_eq_true hz]; simp [demand_eq, e2]
    · rw [decide_eq_false hz]
      cases hq : decide ((⟨#[w.cps.toList.headD 0]⟩ : Str) = "0") <;> simp [demand_eq, e2]

def tailS (w : Str) : Str := cutS w (some 1) none
def cellD (w : Str) : Option D := if Txt.startswith w "?" = true then (if numOk (tailS w) = true then some (.tup [.str "blank", numD (tailS w)]) else none) else if nameOk w = true then some (.tup [.str "name", .str w]) else none
theorem tailS_len (w : Str) : (tailS w).length ≤ w.length := cutS_len _ _ _
theorem read_cell_eq (w : Str) (h : w.length ≤ lim) : f_read_cell [.str w] = some ((cellD w).map fun d => (d, false)) := by
  rw [runX_eq (f := f_read_cell) (δ := [some (.str w, false)]) rfl rfl rfl]
  simp only [g_read_cell, rd_0, startsO_s, tyB_s, partI_s, cutSO_s w _ _ h, consO_s, bindO_s]
  unfold cellD
  cases hb : Txt.startswith w "?" with
  | true =>
    have e := read_number_eq (tailS w) (Nat.le_trans (tailS_len w) h)
    unfold tailS at e
    simp only [ifX'_t, e]
    unfold tailS
    cases hn : numOk (cutS w (some 1) none) <;> simp
  | false =>
    simp only [ifX'_f, seqX_n, rd_0, consO_s, bindO_s, read_name_eq w h]
    cases hn : nameOk w <;> simp
theorem quest : ("?" : Str) = ⟨#[63]⟩ := by decide +kernel
theorem starts_iff (w : Str) : Txt.startswith w "?" = decide (w.cps.toList.head? = some 63) := by
  obtain ⟨⟨l⟩⟩ := w
  rw [quest]
  cases l with
  | nil => decide +kernel
  | cons c cs =>
    have e : (Array.mk (c :: cs)).extract 0 1 = #[c] := by simp
    unfold Txt.startswith Builtin.Str.subAt
    show (decide (0 + 1 ≤ (c :: cs).length) && ((Array.mk (c :: cs)).extract 0 (0 + 1) == #[63])) = _
    rw [e, decide_eq_true (by simp)]
    by_cases h : c = 63
    · subst h; simp
    · simp [h]
theorem cut1_iff (w : Str) : decide (cutS w none (some 1) = "?") = decide (w.cps.toList.head? = some 63) := by
  obtain ⟨⟨l⟩⟩ := w
  rw [quest]
  cases l with
  | nil => decide +kernel
  | cons c cs =>
    have e := PySem.StrLaws.sliceText_to (x := ⟨⟨c :: cs⟩⟩) (j := 1) ⟨by decide, by simp; omega⟩
    have e2 : cutS ⟨⟨c :: cs⟩⟩ none (some 1) = PySem.StrLaws.sliceText ⟨⟨c :: cs⟩⟩ none (some 1) := by
      unfold cutS PySem.StrLaws.sliceText; simp
    rw [e2, e]
    simp
theorem name_no (w : Str) (h : nameOk w = true) : Txt.startswith w "?" = false := by
  rw [starts_iff]
  cases e : w.cps.toList with
  | nil => rfl
  | cons c cs =>
    unfold nameOk okIn onlyIn at h
    simp only [Bool.and_eq_true] at h
    have := List.all_eq_true.mp h.2 c (by rw [e]; simp)
    rw [inS_one, small_list] at this
    have hc : c ≠ 63 := by intro z; rw [z] at this; revert this; decide
    simp [hc]
theorem law_cell_eq (w : Str) (h : w.length ≤ lim) : f__law_cell [.str w] = some ((cellD w).getD .non, false) := by
  rw [runF_eq (f := f__law_cell) (δ := [some (.str w, false), none]) rfl rfl rfl]
  have ht : (tailS w).length ≤ lim := Nat.le_trans (tailS_len w) h
  simp only [g__law_cell, rd_0, consO_s, bindO_s, allin_eq w _ _ h, shO_s, tyB_s]
  unfold cellD
  cases hn : nameOk w with
  | true =>
    have := name_no w hn
    unfold nameOk at hn
    simp [hn, this]
  | false =>
    unfold nameOk at hn
    simp only [hn, ifO_f, nextO_s, seqO_n, rd_0, partI_s, cutSO_s w _ _ h]
    have e1 : setO 1 (some (.str (cutS w (some 1) none))) [some (.str w, false), none] = some (.next [some (.str w, false), some (.str (tailS w), false)]) := rfl
    rw [e1]
    simp only [seqO_n, rd_0, rd_1, consO_s, bindO_s, cutSO_s w _ _ h, partI_s, eqO_str, allin_eq (tailS w) _ _ ht, shO_s, tyB_s]
    rw [cut1_iff, ← starts_iff]
    cases hb : Txt.startswith w "?" with
    | false => simp
    | true =>
      simp only [andO_t]
      unfold numOk
      cases hk : okIn (tailS w) figs 9 with
      | false => simp
      | true =>
        have h1 : 1 ≤ (tailS w).length := by unfold okIn at hk; simp only [Bool.and_eq_true, decide_eq_true_eq] at hk; omega
        obtain ⟨n, e2, e3⟩ := numD_int (tailS w) hk
        simp only [andO_t]
        rw [head_ix (tailS w) ht h1, neO_str, e3, e2]
        by_cases hz : tailS w = "0"
        · rw [decide_eq_true hz]; simp
        · rw [decide_eq_false hz]
          cases hq : decide ((⟨#[(tailS w).cps.toList.headD 0]⟩ : Str) = "0") <;> simp
end K71

end

section
set_option maxHeartbeats 1000000
namespace K71
open PySem PySem.NumText L2
def rowOf (ws : List Str) : Option D := match ws with
  | w :: r => if (decide (2 ≤ ws.length) && decide (ws.length ≤ 5) && nameOk w) = true then (r.mapM cellD).map fun cs => .tup [.str w, .tup cs] else none
  | [] => none
def rowD (t : Str) : Option D := rowOf (Txt.split t " ")
theorem sp_len : (Str.length " " == 0) = false := by decide +kernel
theorem splitO_sp (t : Str) (h : t.length + 2 ≤ lim) : splitO (some (.str t)) (some (.str " ")) = some (.lst ((Txt.split t " ").map D.str)) := by
  unfold splitO
  have := split_len t " "
  simp only [sp_len, decide_eq_true (show t.length ≤ lim by omega), decide_eq_true (show (Txt.split t " ").length ≤ lim by omega)]
  simp
theorem cut_tail (d : D) (ds : List D) : cutD (d :: ds) (some 1) none = ds := by
  have e1 : HT.sIx (d :: ds).length 0 (some 1) = 1 := by simp [HT.sIx]
  have e2 : HT.sIx (d :: ds).length (d :: ds).length none = (d :: ds).length := rfl
  unfold cutD
  rw [e1, e2]
  simp
theorem mapM_str (q : D → Option D) (f : Str → Option D) (h : ∀ w, q (.str w) = f w) : ∀ ws : List Str, (ws.map D.str).mapM q = ws.mapM f
  | [] => rfl
  | w :: ws => by rw [List.map_cons, List.mapM_cons, List.mapM_cons, h w, mapM_str q f h ws]
theorem demand_text_eq (d : D) (b : Bool) (h : isiO "str" (some d) = some (.bl b)) : f_demand_text [d] = some (if b = true then some (.non, false) else none) := by
  rw [runX_eq (f := f_demand_text) (δ := [some (d, false)]) rfl rfl rfl]
  simp only [g_demand_text, rd_0, h, consO_s, bindO_s, demand_eq]
  cases b <;> simp
theorem read_line_eq (t : Str) (h : t.length + 2 ≤ lim) : f_read_line [.str t, .sp false "read_cell"] = some ((rowD t).map fun d => (d, false)) := by
  rw [runX_eq (f := f_read_line) (δ := [some (.str t, false), some (.sp false "read_cell", false), none, none]) rfl rfl rfl]
  have hm := split_mem t " "
  have hl := split_len t " "
  unfold rowD
  simp only [g_read_line, rd_0, splitO_sp t h]
  generalize hws : Txt.split t " " = ws at hm hl
  have e1 : setO 2 (some (.lst (ws.map D.str))) [some (.str t, false), some (.sp false "read_cell", false), none, none] = some (.next [some (.str t, false), some (.sp false "read_cell", false), some (.lst (ws.map D.str), false), none]) := rfl
  rw [e1]
  simp only [upS_s, seqX_n, rd_0, rd_1, lenL_l, chainI_s, consO_s, bindO_s, demand_eq, List.length_map]
  cases ws with
  | nil => simp [rowOf, gLe]
  | cons w r =>
    have hw : w.length ≤ lim := by have := hm w (by simp); omega
    unfold rowOf
    simp only
    cases hb : (gLe 2 ((w :: r).length : Int) && gLe ((w :: r).length : Int) 5) with
    | false =>
      have hc : (decide (2 ≤ (w :: r).length) && decide ((w :: r).length ≤ 5)) = false := by
        rw [← hb]; unfold gLe; congr 1 <;> (apply decide_eq_decide.mpr; omega)
      rw [hc]; simp
    | true =>
      have hc : (decide (2 ≤ (w :: r).length) && decide ((w :: r).length ≤ 5)) = true := by
        rw [← hb]; unfold gLe; congr 1 <;> (apply decide_eq_decide.mpr; omega)
      rw [hc]
      have hi : ixO (some (.lst ((w :: r).map D.str))) (some (.int 0)) = some (.str w) := by rw [ixO_l]; exact atI_eq (by decide) (by simp)
      have hr : runCX false [false, true, false, false] (toName 3) e_read_line_1 [some (.str t, false), some (.sp false "read_cell", false), some (.lst ((w :: r).map D.str), false), none] (r.map D.str) = some (r.mapM cellD) := by
        rw [runCX_s (q := fun d => match d with | .str w => cellD w | _ => none) (by rw [List.length_map]; simp at hl; omega) fun d hd => ?_, mapM_str _ cellD fun _ => rfl]
        obtain ⟨v, hv, rfl⟩ := List.mem_map.mp hd
        have hv' : v.length ≤ lim := by have := hm v (by simp [hv]); omega
        simp only [itemX, maskD, List.zipWith, toName_s, List.length_cons, List.length_nil, bindO_s]
        simp [e_read_line_1, spO, read_cell_eq v hv']
        cases cellD v <;> simp
      simp only [if_true, shX_s, dropX_s, seqX_n, rd_0, rd_1, hi, consO_s, bindO_s, read_name_eq w hw, partI_s, cutLO_s]
      rw [List.map_cons, cut_tail]
      simp only [lstL_s, bindO_s]
      rw [← List.map_cons, hr]
      cases hn : nameOk w with
      | false => simp
      | true =>
        cases hq : r.mapM cellD with
        | none => simp
        | some cs => simp
theorem read_row_eq (t : Str) (h : t.length + 2 ≤ lim) : f_read_row [.str t] = some ((rowD t).map fun d => (d, false)) := by
  rw [runX_eq (f := f_read_row) (δ := [some (.str t, false)]) rfl rfl rfl]
  simp only [g_read_row, rd_0, consO_s, bindO_s, demand_text_eq (.str t) true rfl, if_true, shX_s, dropX_s, seqX_n, read_line_eq t h]
  cases rowD t <;> simp
theorem read_row_no (d : D) (h : isiO "str" (some d) = some (.bl false)) : f_read_row [d] = some none := by
  rw [runX_eq (f := f_read_row) (δ := [some (d, false)]) rfl rfl rfl]
  simp [g_read_row, demand_text_eq d false h]

theorem cell_ne (w : Str) (d : D) (h : cellD w = some d) : d ≠ .non ∧ (okD 14 d = true ∧ okD 16 d = true) ∧ isiO "tuple" (some d) = some (.bl true) := by
  unfold cellD at h
  split at h
  · split at h
    · rename_i hn
      cases h
      unfold numOk at hn
      rw [Bool.and_eq_true] at hn
      obtain ⟨n, e, _⟩ := numD_int _ hn.1
      rw [e]
      exact ⟨by simp, ⟨rfl, rfl⟩, rfl⟩
    · cases h
  · split at h
    · cases h; exact ⟨by simp, ⟨rfl, rfl⟩, rfl⟩
    · cases h
def cellN (w : Str) : D := (cellD w).getD .non
theorem mapM_cells : ∀ ws : List Str, ws.mapM cellD = if D.non ∈ ws.map cellN then none else some (ws.map cellN)
  | [] => by simp
  | w :: ws => by
    rw [List.mapM_cons, mapM_cells ws]
    cases e : cellD w with
    | none => simp [cellN, e]
    | some d =>
      have hd := (cell_ne w d e).1
      have e2 : cellN w = d := by unfold cellN; rw [e]; rfl
      by_cases hm : D.non ∈ ws.map cellN
      · rw [if_pos hm, if_pos (by rw [List.map_cons]; exact List.mem_cons_of_mem _ hm)]; rfl
      · rw [if_neg hm, if_neg (by rw [List.map_cons, List.mem_cons, e2]; rintro (z | z); exact hd z.symm; exact hm z)]
        rw [List.map_cons, e2]; rfl
theorem cellN_ok (w : Str) : okD 16 (cellN w) = true := by
  unfold cellN
  cases e : cellD w with
  | none => rfl
  | some d => exact (cell_ne w d e).2.1.2
theorem told_eq (t : Str) (h : t.length + 2 ≤ lim) : f__law_told [.str t] = some ((rowD t).getD .non, false) := by
  rw [runF_eq (f := f__law_told) (δ := [some (.str t, false), none, none, none]) rfl rfl rfl]
  have hm := split_mem t " "
  have hl := split_len t " "
  unfold rowD
  have e0 : isiO "str" (some (.str t)) = some (.bl true) := rfl
  simp only [g__law_told, rd_0, e0, tyB_s, notO_s, Bool.not_true, ifO_f, nextO_s, seqO_n, splitO_sp t h]
  generalize hws : Txt.split t " " = ws at hm hl
  have e1 : setO 1 (some (.lst (ws.map D.str))) [some (.str t, false), none, none, none] = some (.next [some (.str t, false), some (.lst (ws.map D.str), false), none, none]) := rfl
  rw [e1]
  simp only [seqO_n, rd_0, rd_1, lenL_l, cI_s, List.length_map]
  cases ws with
  | nil => simp [rowOf, gLt]
  | cons w r =>
    have hw : w.length ≤ lim := by have := hm w (by simp); omega
    have hi : ixO (some (.lst ((w :: r).map D.str))) (some (.int 0)) = some (.str w) := by rw [ixO_l]; exact atI_eq (by decide) (by simp)
    unfold rowOf
    simp only [hi, consO_s, bindO_s, allin_eq w _ _ hw, shO_s, tyB_s, notO_s]
    by_cases h2 : (w :: r).length < 2
    · have e2 : gLt ((w :: r).length : Int) 2 = true := by unfold gLt; exact decide_eq_true (by omega)
      rw [e2, decide_eq_false (p := 2 ≤ (w :: r).length) (by omega)]
      simp
    have e2 : gLt ((w :: r).length : Int) 2 = false := by unfold gLt; exact decide_eq_false (by omega)
    by_cases h5 : 5 < (w :: r).length
    · have e3 : gGt ((w :: r).length : Int) 5 = true := by unfold gGt; exact decide_eq_true (by omega)
      rw [e2, e3, decide_eq_false (p := (w :: r).length ≤ 5) (by omega)]
      simp
    have e3 : gGt ((w :: r).length : Int) 5 = false := by unfold gGt; exact decide_eq_false (by omega)
    rw [e2, e3, decide_eq_true (show 2 ≤ (w :: r).length by omega), decide_eq_true (show (w :: r).length ≤ 5 by omega)]
    cases hn : nameOk w with
    | false => unfold nameOk at hn; rw [hn]; simp
    | true =>
      unfold nameOk at hn
      rw [hn]
      have hr : runC false [false, false, false, false] (toName 3) (fun δ => some true) e__law_told_1 [some (.str t, false), some (.lst ((w :: r).map D.str), false), none, none] (r.map D.str) = some (r.map cellN) := by
        rw [runC_s (by rw [List.length_map]; simp at hl; omega), compO_map (g := fun d => match d with | .str v => cellN v | _ => .non) fun d hd => ?_, List.map_map]
        · rfl
        obtain ⟨v, hv, rfl⟩ := List.mem_map.mp hd
        have hv' : v.length ≤ lim := by have := hm v (by simp [hv]); omega
        simp [itemO, maskD, e__law_told_1, law_cell_eq v hv', cellN]
      simp only [orO_f, Bool.not_true, ifO_f, nextO_s, seqO_n, rd_0, rd_1, partI_s, cutLO_s]
      rw [List.map_cons, cut_tail]
      simp only [lstL_s, bindO_s]
      rw [← List.map_cons, hr]
      simp only [lstLim_s]
      have e4 : setF 2 (some (.lst (r.map cellN))) [some (.str t, false), some (.lst ((w :: r).map D.str), false), none, none] = some (.next [some (.str t, false), some (.lst ((w :: r).map D.str), false), some (.lst (r.map cellN), true), none]) := rfl
      rw [e4]
      simp only [seqO_n, frzE_1, frzE_0, k__law_told_2, rd_0, rd_1, hi, tupleO_l, consO_s]
      have e5 : inO (some .non) (some (.lst (r.map cellN))) = some (decide (D.non ∈ r.map cellN)) := by
        unfold inO
        have : (okD 16 .non && (r.map cellN).all (okD 16)) = true := by
          rw [Bool.and_eq_true]
          refine ⟨rfl, List.all_eq_true.mpr fun d hd => ?_⟩
          obtain ⟨v, _, rfl⟩ := List.mem_map.mp hd
          exact cellN_ok v
        simp only [itemsD, if_pos this]
      rw [e5, mapM_cells]
      by_cases hz : D.non ∈ r.map cellN
      · rw [decide_eq_true hz, if_pos hz]; simp
      · rw [decide_eq_false hz, if_neg hz]
        simp only [ifO_f, nextO_s, seqO_n, rd_0, rd_1, hi, tupleO_l, consO_s]
        simp
theorem told_no (d : D) (h : isiO "str" (some d) = some (.bl false)) : f__law_told [d] = some (.non, false) := by
  rw [runF_eq (f := f__law_told) (δ := [some (d, false), none, none, none]) rfl rfl rfl]
  simp [g__law_told, h]
theorem whole_eq (n : Int) : f__law_whole [.int n] = some (.bl true, false) := by
  rw [runF_eq (f := f__law_whole) (δ := [some (.int n, false)]) rfl rfl rfl]
  have e1 : isiO "int" (some (.int n)) = some (.bl true) := rfl
  have e2 : isiO "bool" (some (.int n)) = some (.bl false) := rfl
  simp [g__law_whole, e1, e2]

def CellOk (d : D) : Prop := (∃ n, d = .tup [.str "blank", .int n]) ∨ ∃ w, d = .tup [.str "name", .str w]
theorem cell_ok (w : Str) (d : D) (h : cellD w = some d) : CellOk d := by
  unfold cellD at h
  split at h
  · split at h
    · rename_i hn
      cases h
      unfold numOk at hn
      rw [Bool.and_eq_true] at hn
      obtain ⟨n, e, _⟩ := numD_int _ hn.1
      rw [e]; exact .inl ⟨n, rfl⟩
    · cases h
  · split at h
    · cases h; exact .inr ⟨w, rfl⟩
    · cases h
theorem row_ok (t : Str) (d : D) (h : rowD t = some d) : ∃ w cs, d = .tup [.str w, .tup cs] ∧ (∀ c ∈ cs, CellOk c) := by
  unfold rowD rowOf at h
  split at h
  · rename_i w r hw
    split at h
    · rw [mapM_cells] at h
      split at h
      · simp at h
      · rename_i hz
        simp at h
        refine ⟨w, r.map cellN, h.symm, fun c hc => ?_⟩
        obtain ⟨v, hv, rfl⟩ := List.mem_map.mp hc
        cases e : cellD v with
        | none => exact absurd (by unfold cellN; rw [e]; rfl : cellN v = .non) (fun z => hz (z ▸ hc))
        | some d' => have : cellN v = d' := by unfold cellN; rw [e]; rfl
                     rw [this]; exact cell_ok v d' e
    · cases h
  · cases h
theorem CellOk.ok {d : D} (h : CellOk d) : okD 14 d = true := by
  rcases h with ⟨n, rfl⟩ | ⟨w, rfl⟩ <;> rfl
theorem is_row_eq (w : Str) (cs : List D) (hc : ∀ c ∈ cs, CellOk c) : f__law_is_row [.tup [.str w, .tup cs], .tup [.str w, .tup cs]] = some (.bl true, false) := by
  rw [runF_eq (f := f__law_is_row) (δ := [some (.tup [.str w, .tup cs], false), some (.tup [.str w, .tup cs], false), none]) rfl rfl rfl]
  have ok : okD 16 (.tup [.str w, .tup cs]) = true := by
    have : cs.all (okD 14) = true := List.all_eq_true.mpr fun c h => (hc c h).ok
    simp [okD, this]
  have e1 : isiO "tuple" (some (.tup [.str w, .tup cs])) = some (.bl true) := rfl
  have e2 : isiO "tuple" (some (.tup cs)) = some (.bl true) := rfl
  have e3 : neO (some (.tup [.str w, .tup cs])) (some (.tup [.str w, .tup cs])) = some false := by
    rw [neO_s _ _ (by unfold ok2; rw [ok]; rfl)]; simp
  have e4 : ixO (some (.tup [.str w, .tup cs])) (some (.int 1)) = some (.tup cs) := by rw [ixO_t]; exact atI_eq (by decide) (by simp)
  obtain ⟨δ', el, x, rfl⟩ := loopD_all (body := fun d δ => bindO ((toName 2) d δ) b__law_is_row_1) (fun δ => ∃ x, δ = [some (.tup [.str w, .tup cs], false), some (.tup [.str w, .tup cs], false), x]) (ds := cs) ⟨none, rfl⟩ fun d hd δ ⟨x, hx⟩ => by
    subst hx
    refine ⟨_, .inl ?_, some (d, false), rfl⟩
    rcases hc d hd with ⟨n, rfl⟩ | ⟨v, rfl⟩
    · have f1 : isiO "tuple" (some (.tup [.str "blank", .int n])) = some (.bl true) := rfl
      have f0 : toName 2 (.tup [.str "blank", .int n]) [some (.tup [.str w, .tup cs], false), some (.tup [.str w, .tup cs], false), x] = some [some (.tup [.str w, .tup cs], false), some (.tup [.str w, .tup cs], false), some (.tup [.str "blank", .int n], false)] := rfl
      have f2 : ixO (some (.tup [.str "blank", .int n])) (some (.int 0)) = some (.str "blank") := by rw [ixO_t]; exact atI_eq (by decide) (by simp)
      have f3 : ixO (some (.tup [.str "blank", .int n])) (some (.int 1)) = some (.int n) := by rw [ixO_t]; exact atI_eq (by decide) (by simp)
      simp only [f0, bindO_s, b__law_is_row_1, rd_0, rd_1, f1, f2, f3, eqO_str, consO_s, whole_eq, shO_s, tyB_s, notO_s]
      simp
    · have f1 : isiO "tuple" (some (.tup [.str "name", .str v])) = some (.bl true) := rfl
      have f0 : toName 2 (.tup [.str "name", .str v]) [some (.tup [.str w, .tup cs], false), some (.tup [.str w, .tup cs], false), x] = some [some (.tup [.str w, .tup cs], false), some (.tup [.str w, .tup cs], false), some (.tup [.str "name", .str v], false)] := rfl
      have f2 : ixO (some (.tup [.str "name", .str v])) (some (.int 0)) = some (.str "name") := by rw [ixO_t]; exact atI_eq (by decide) (by simp)
      have f3 : decide (("name" : Str) = "blank") = false := by decide +kernel
      simp only [f0, bindO_s, b__law_is_row_1, rd_0, rd_1, f1, f2, eqO_str, f3, tyB_s, notO_s]
      simp
  simp only [g__law_is_row, rd_0, rd_1, e1, e3, e4, e2, tyB_s, notO_s, Bool.not_true, orO_f, ifO_f, nextO_s, seqO_n, tupL_s, bindO_s]
  rw [el]
  simp
theorem right_eq (t : Str) (h : t.length + 2 ≤ lim) : f__law_right [.str t] = some (.bl true, false) := by
  rw [runF_eq (f := f__law_right) (δ := [some (.str t, false), none, none, none, none]) rfl rfl rfl]
  simp only [g__law_right, rd_0, consO_s, bindO_s, told_eq t h, shO_s]
  cases hr : rowD t with
  | none =>
    simp [read_row_eq t h, hr, tryO, isNO]
  | some d =>
    obtain ⟨w, cs, rfl, hc⟩ := row_ok t d hr
    simp [read_row_eq t h, hr, tryO, isNO, is_row_eq w cs hc]
theorem right_no (d : D) (h : isiO "str" (some d) = some (.bl false)) : f__law_right [d] = some (.bl true, false) := by
  rw [runF_eq (f := f__law_right) (δ := [some (d, false), none, none, none, none]) rfl rfl rfl]
  simp [g__law_right, told_no d h, read_row_no d h, tryO, isNO]
end K71

end

section
set_option maxHeartbeats 1000000
namespace K71
open PySem PySem.NumText L2
theorem abc_len : Str.length "abcdefghijklmnopqrstuvwxyz" = 26 := by decide +kernel
theorem name_eq (c f : Int) (h0 : 0 ≤ f) (h1 : f ≤ 900) : ∃ s : Str, s.length ≤ 8 ∧ f__law_name [.int c, .int f] = some (.str s, false) := by
  rw [runF_eq (f := f__law_name) (δ := [some (.int c, false), some (.int f, false), none, none, none]) rfl rfl rfl]
  have m0 := mixI_lo c f
  have hsz : ∃ z : Int, 1 ≤ z ∧ z ≤ 8 ∧ ixO (lstO (some [(.int 1), (.int 2), (.int 3), (.int 4), (.int 5), (.int 6), (.int 7), (.int 8), (.int 8)])) (modI (some (.int (mixI c f))) (some (.int 9))) = some (.int z) := by
    rw [lstO_s _ (by decide), modI_s _ _ (by decide), ixO_l]
    obtain ⟨v, hv, _, e⟩ := atI_in (xs := [D.int 1, .int 2, .int 3, .int 4, .int 5, .int 6, .int 7, .int 8, .int 8]) (i := mixI c f % 9) (by omega) (by simp; omega)
    rw [e]
    simp at hv
    rcases hv with rfl | rfl | rfl | rfl | rfl | rfl | rfl | rfl <;> exact ⟨_, by decide, by decide, rfl⟩
  obtain ⟨z, z1, z2, ez⟩ := hsz
  have e1 : setO 2 (some (.str "abcdefghijklmnopqrstuvwxyz")) [some (.int c, false), some (.int f, false), none, none, none] = some (.next [some (.int c, false), some (.int f, false), some (.str "abcdefghijklmnopqrstuvwxyz", false), none, none]) := rfl
  simp only [g__law_name, e1, seqO_n, rd_0, rd_1, consO_s, bindO_s, mix_eq c f (by omega) (by omega), shO_s, ez]
  have e2 : setO 3 (some (.int z)) [some (.int c, false), some (.int f, false), some (.str "abcdefghijklmnopqrstuvwxyz", false), none, none] = some (.next [some (.int c, false), some (.int f, false), some (.str "abcdefghijklmnopqrstuvwxyz", false), some (.int z, false), none]) := rfl
  simp only [e2, seqO_n, rd_0, rd_1]
  rw [rng1_s z (by omega), bindO_s, runC_s (by rw [rngL_len]; simp; omega)]
  obtain ⟨g, eg, gl, gp⟩ := compO_ex (ds := rngL 0 z.toNat) (P := fun _ y => ∃ x : Str, x.length = 1 ∧ y = .str x)
    (h := itemO (toName 4) (fun δ => some true) e__law_name_1 (maskD false [true, true, true, false, false] [some (.int c, false), some (.int f, false), some (.str "abcdefghijklmnopqrstuvwxyz", false), some (.int z, false), none])) fun d hd => by
      obtain ⟨i, hi, rfl⟩ := rngL_mem hd
      have hi' : i < 8 := by omega
      have h0' := mixI_lo c (f + 1 + (0 + (i : Int)))
      obtain ⟨x, hx, ex⟩ := ixSO_in "abcdefghijklmnopqrstuvwxyz" (mixI c (f + 1 + (0 + (i : Int))) % 26) (by rw [abc_len]; decide) (by omega) (by rw [abc_len]; omega)
      refine ⟨.str x, ?_, x, hx, rfl⟩
      have e0 : (0 : Int) + (i : Int) = i := by omega
      rw [e0] at ex
      simp [itemO, maskD, e__law_name_1]
      rw [mix_eq c _ (by omega) (by omega), shO_s, modI_s _ _ (by decide), ex]
  obtain ⟨ss, rfl, hss⟩ := strs_of (Q := fun x => x.length = 1) gl gp fun d y ⟨x, hx, e⟩ => ⟨x, e, hx⟩
  rw [rngL_len, List.length_map] at gl
  have hj := joinO_s "" ss (by rw [ones_sum hss, show Str.length "" = 0 by decide +kernel]; omega)
  have hjl : (Txt.join "" ss).length = ss.length := by rw [join0_len, ones_sum hss]
  rw [eg]
  exact ⟨Txt.join "" ss, by omega, by simp [hj]⟩

def Drawn (x : D) : Prop := (∃ i : Int, 0 ≤ i ∧ i < 1000000 ∧ x = .tup [.str "blank", .int i]) ∨ ∃ w : Str, w.length ≤ 8 ∧ x = .tup [.str "name", .str w]
theorem row_eq (c : Int) : ∃ (n : Str) (cs : List D), n.length ≤ 8 ∧ cs.length ≤ 4 ∧ (∀ x ∈ cs, Drawn x) ∧ f__law_row [.int c] = some (.tup [.str n, .tup cs], false) := by
  rw [runF_eq (f := f__law_row) (δ := [some (.int c, false), none, none, none]) rfl rfl rfl]
  have m1 := mixI_lo c 1
  have e0 : setF 1 (lstO (some [])) [some (.int c, false), none, none, none] = some (.next [some (.int c, false), some (.lst [], true), none, none]) := rfl
  simp only [g__law_row, e0, seqO_n, rd_0, consO_s, bindO_s, mix_eq c 1 (by decide) (by decide), shO_s, modI_s (mixI c 1) 4 (by decide), addI_s]
  rw [rng1_s _ (by omega)]
  generalize hn : (1 + mixI c 1 % 4).toNat = n
  have hn4 : n ≤ 4 := by omega
  obtain ⟨δ', el, cs, hcl, hcs, x2, x3, rfl⟩ := loopD_inv (body := fun d δ => bindO ((toName 2) d δ) b__law_row_1) (fun pre δ => ∃ cs : List D, cs.length = pre.length ∧ (∀ x ∈ cs, Drawn x) ∧ ∃ x2 x3,
      δ = [some (.int c, false), some (.lst cs, true), x2, x3]) (rngL 0 n) [] [some (.int c, false), some (.lst [], true), none, none] ⟨[], rfl, by simp, none, none, rfl⟩
    fun p d q δ hpq ⟨cs, hfs, hcs, x2, x3, e⟩ => by
      have hd : d ∈ rngL 0 n := by rw [List.nil_append] at hpq; rw [← hpq]; simp
      have hp : p.length < n := by
        have := congrArg List.length hpq
        rw [List.nil_append, rngL_len] at this
        simp at this; omega
      obtain ⟨i, hi, rfl⟩ := rngL_mem hd
      subst e
      have ez : (0 : Int) + (i : Int) = i := by omega
      rw [ez]
      have md := mixI_lo c (2 + (i : Int))
      generalize hdr : mixI c (2 + (i : Int)) = dr at md
      have f0 : toName 2 (.int (i : Int)) [some (.int c, false), some (.lst cs, true), x2, x3] = some [some (.int c, false), some (.lst cs, true), some (.int (i : Int), false), x3] := rfl
      have f1 : setO 3 (some (.int dr)) [some (.int c, false), some (.lst cs, true), some (.int (i : Int), false), x3] = some (.next [some (.int c, false), some (.lst cs, true), some (.int (i : Int), false), some (.int dr, false)]) := rfl
      have hl : cs.length < lim := by have : lim = 1000000 := rfl
                                      omega
      by_cases h2 : dr % 2 = 0
      · have hm : ∃ k : Int, 0 < k ∧ k ≤ 1000000 ∧ ixO (lstO (some [.int 10, .int 1000, .int 1000000])) (modI (divI (some (.int dr)) (some (.int 4))) (some (.int 3))) = some (.int k) := by
          rw [lstO_s _ (by decide), divI_s _ _ (by decide), modI_s _ _ (by decide), ixO_l]
          obtain ⟨v, hv, _, e⟩ := atI_in (xs := [D.int 10, .int 1000, .int 1000000]) (i := dr / 4 % 3) (by omega) (by simp; omega)
          rw [e]
          simp at hv
          rcases hv with rfl | rfl | rfl <;> exact ⟨_, by decide, by decide, rfl⟩
        obtain ⟨k, k0, k1, ek⟩ := hm
        refine ⟨_, .inl ?_, cs ++ [.tup [.str "blank", .int (dr / 2 % k)]], by simp [hfs], ?_, some (.int (i : Int), false), some (.int dr, false), rfl⟩
        · simp only [f0, bindO_s, b__law_row_1, rd_0, rd_1, addI_s, consO_s, mix_eq c _ (show (-1000 : Int) ≤ 2 + i by omega) (by omega), hdr, shO_s, f1, seqO_n, modI_s dr 2 (by decide), eqO_int, decide_eq_true h2, ifO_t, divI_s dr 2 (by decide)]
          rw [ek, modI_s _ k k0, consO_s, consO_s, tupO_s _ (by simp), appO_s (ds := cs) _ (by rfl) hl]
          rfl
        · intro x hx
          rcases List.mem_append.mp hx with hx | hx
          · exact hcs x hx
          · simp at hx; subst hx
            exact .inl ⟨dr / 2 % k, Int.emod_nonneg _ (by omega), by have := Int.emod_lt_of_pos (dr / 2) k0; omega, rfl⟩
      · obtain ⟨s, hs, es⟩ := name_eq c (10 + 10 * (i : Int)) (by omega) (by omega)
        refine ⟨_, .inl ?_, cs ++ [.tup [.str "name", .str s]], by simp [hfs], ?_, some (.int (i : Int), false), some (.int dr, false), rfl⟩
        · simp only [f0, bindO_s, b__law_row_1, rd_0, rd_1, addI_s, consO_s, mix_eq c _ (show (-1000 : Int) ≤ 2 + i by omega) (by omega), hdr, shO_s, f1, seqO_n, modI_s dr 2 (by decide), eqO_int, decide_eq_false h2, ifO_f, mulI_s 10 (i : Int) (by omega), es]
          rw [tupO_s _ (by simp), appO_s (ds := cs) _ (by rfl) hl]
          rfl
        · intro x hx
          rcases List.mem_append.mp hx with hx | hx
          · exact hcs x hx
          · simp at hx; subst hx; exact .inr ⟨s, hs, rfl⟩
  rw [List.nil_append, rngL_len] at hcl
  obtain ⟨s, hs, es⟩ := name_eq c 50 (by decide) (by decide)
  refine ⟨s, cs, hs, by omega, hcs, ?_⟩
  rw [bindO_s, el]
  simp only [seqO_n, frzE_1, frzE_0, k__law_row_2, rd_0, rd_1, consO_s, bindO_s, es, shO_s, tupleO_l]
  simp

def textOf (x : D) : Str := match x with | .tup [_, .int i] => "?" ++ (toString i : Str) | .tup [_, .str w] => w | _ => ""
def shownT (n : Str) (cs : List D) : Str := cs.foldl (fun t x => t ++ " " ++ textOf x) n
theorem num_len (i : Int) (h0 : 0 ≤ i) (h1 : i < 1000000) : ((toString i : String) : Str).length ≤ 7 := by
  have e := int_text_length_le10 (a := i) (k := 6) (by decide) (by omega)
  show (Str.ofString (toString i)).length ≤ 7
  rw [ofString_length]; omega
theorem text_len (x : D) (h : Drawn x) : (textOf x).length ≤ 8 := by
  rcases h with ⟨i, h0, h1, rfl⟩ | ⟨w, hw, rfl⟩
  · have := num_len i h0 h1
    show (("?" : Str) ++ (toString i : Str)).length ≤ 8
    rw [Str.length_append]
    have : ("?" : Str).length = 1 := by decide +kernel
    omega
  · exact hw
theorem shown_len (cs : List D) : ∀ n : Str, (∀ x ∈ cs, Drawn x) → (shownT n cs).length ≤ n.length + 9 * cs.length := by
  induction cs with
  | nil => intro n _; simp [shownT]
  | cons x cs ih =>
    intro n h
    have h1 := text_len x (h x (by simp))
    have h2 := ih (n ++ " " ++ textOf x) fun y hy => h y (by simp [hy])
    have h3 : (" " : Str).length = 1 := by decide +kernel
    rw [Str.length_append, Str.length_append] at h2
    show (shownT (n ++ " " ++ textOf x) cs).length ≤ _
    simp only [List.length_cons]
    omega
theorem join_shown (cs : List D) : ∀ n : Str, Txt.join " " (n :: cs.map textOf) = shownT n cs := by
  have key : ∀ (cs : List D) (a : Array Nat), (⟨(cs.map textOf).foldl (fun acc p => acc ++ (" " : Str).cps ++ p.cps) a⟩ : Str) = shownT ⟨a⟩ cs := by
    intro cs
    induction cs with
    | nil => intro a; rfl
    | cons x cs ih => intro a; rw [List.map_cons, List.foldl_cons, ih]; rfl
  intro n
  exact key cs n.cps
theorem log_ok (i : Int) (h0 : 0 ≤ i) (h1 : i < 1000000) : i.natAbs.log2 < 1920 := by
  by_cases hz : i.natAbs = 0
  · rw [hz]; decide
  · exact (Nat.log2_lt hz).mpr (Nat.lt_of_lt_of_le (show i.natAbs < 2 ^ 20 by omega) (Nat.pow_le_pow_right (by decide) (by decide)))
theorem term_eq (x : D) (h : Drawn x) : f_show_term [x] = some (.str (textOf x), false) := by
  rw [runF_eq (f := f_show_term) (δ := [some (x, false)]) rfl rfl rfl]
  rcases h with ⟨i, h0, h1, rfl⟩ | ⟨w, hw, rfl⟩
  · have f2 : ixO (some (.tup [.str "blank", .int i])) (some (.int 0)) = some (.str "blank") := by rw [ixO_t]; exact atI_eq (by decide) (by simp)
    have f3 : ixO (some (.tup [.str "blank", .int i])) (some (.int 1)) = some (.int i) := by rw [ixO_t]; exact atI_eq (by decide) (by simp)
    have hl := num_len i h0 h1
    have hlog := log_ok i h0 h1
    have hq : ("?" : Str).length = 1 := by decide +kernel
    simp only [g_show_term, rd_0, f2, f3, eqO_str, strVO_i i hlog, decide_true]
    rw [addS_s _ _ (by have : lim = 1000000 := rfl
                       omega)]
    rfl
  · have f2 : ixO (some (.tup [.str "name", .str w])) (some (.int 0)) = some (.str "name") := by rw [ixO_t]; exact atI_eq (by decide) (by simp)
    have f3 : ixO (some (.tup [.str "name", .str w])) (some (.int 1)) = some (.str w) := by rw [ixO_t]; exact atI_eq (by decide) (by simp)
    have f4 : decide (("name" : Str) = "blank") = false := by decide +kernel
    simp [g_show_term, f2, f3, eqO_str, f4, textOf]
theorem show_row_eq (n : Str) (cs : List D) (hn : n.length ≤ 8) (hl : cs.length ≤ 4) (hc : ∀ x ∈ cs, Drawn x) : f_show_row [.tup [.str n, .tup cs]] = some (.str (shownT n cs), false) := by
  rw [runF_eq (f := f_show_row) (δ := [some (.tup [.str n, .tup cs], false), none]) rfl rfl rfl]
  have f2 : ixO (some (.tup [.str n, .tup cs])) (some (.int 0)) = some (.str n) := by rw [ixO_t]; exact atI_eq (by decide) (by simp)
  have f3 : ixO (some (.tup [.str n, .tup cs])) (some (.int 1)) = some (.tup cs) := by rw [ixO_t]; exact atI_eq (by decide) (by simp)
  have hr : runC false [false, false] (toName 1) (fun δ => some true) e_show_row_1 [some (.tup [.str n, .tup cs], false), none] cs = some ((cs.map textOf).map D.str) := by
    rw [runC_s (by simp; omega), compO_map (g := fun d => .str (textOf d)) fun d hd => ?_, List.map_map]
    · rfl
    simp [itemO, maskD, e_show_row_1, term_eq d (hc d hd)]
  simp only [g_show_row, rd_0, f2, f3, tupL_s, bindO_s, hr, lstLim_s, consO_s]
  have hs : ∀ (cs : List D), (∀ x ∈ cs, Drawn x) → ((cs.map textOf).map (·.length)).sum ≤ 8 * cs.length := by
    intro cs
    induction cs with
    | nil => intro _; simp
    | cons x cs ih =>
      intro h
      have h1 := text_len x (h x (by simp))
      have h2 := ih fun y hy => h y (by simp [hy])
      simp only [List.map_cons, List.sum_cons, List.length_cons]
      omega
  have hsum := hs cs hc
  have h1 : (" " : Str).length = 1 := by decide +kernel
  rw [lstO_s _ (by simp), catO_s _ _ (by simp; omega)]
  have e : [D.str n] ++ (cs.map textOf).map D.str = (n :: cs.map textOf).map D.str := rfl
  rw [e, joinO_s " " (n :: cs.map textOf) (by simp only [List.map_cons, List.sum_cons, List.length_cons, List.length_map]; rw [h1]; omega), join_shown]
  simp
theorem law_shown_eq (n : Str) (cs : List D) (hn : n.length ≤ 8) (hl : cs.length ≤ 4) (hc : ∀ x ∈ cs, Drawn x) : f__law_shown [.tup [.str n, .tup cs]] = some (.str (shownT n cs), false) := by
  rw [runF_eq (f := f__law_shown) (δ := [some (.tup [.str n, .tup cs], false), none, none]) rfl rfl rfl]
  have f2 : ixO (some (.tup [.str n, .tup cs])) (some (.int 0)) = some (.str n) := by rw [ixO_t]; exact atI_eq (by decide) (by simp)
  have f3 : ixO (some (.tup [.str n, .tup cs])) (some (.int 1)) = some (.tup cs) := by rw [ixO_t]; exact atI_eq (by decide) (by simp)
  have h1 : (" " : Str).length = 1 := by decide +kernel
  have hq : ("?" : Str).length = 1 := by decide +kernel
  have key : ∀ (R : D) (cs : List D) (t : Str) (x : Option (D × Bool)), (∀ x ∈ cs, Drawn x) → t.length + 9 * cs.length ≤ 900 → ∃ y, loopD (fun d δ => bindO ((toName 2) d δ) b__law_shown_1) cs [some (R, false), some (.str t, false), x] = some (.next [some (R, false), some (.str (shownT t cs), false), y]) := by
    intro R cs
    induction cs with
    | nil => intro t x _ _; exact ⟨x, rfl⟩
    | cons d cs ih =>
      intro t x h ht
      simp only [List.length_cons] at ht
      have hd := h d (by simp)
      have htl := text_len d hd
      obtain ⟨y, e⟩ := ih (t ++ " " ++ textOf d) (some (d, false)) (fun z hz => h z (by simp [hz])) (by rw [Str.length_append, Str.length_append]; omega)
      refine ⟨y, ?_⟩
      have hlim : lim = 1000000 := rfl
      have eb : bindO (toName 2 d [some (R, false), some (.str t, false), x]) b__law_shown_1 = some (.next [some (R, false), some (.str (t ++ " " ++ textOf d), false), some (d, false)]) := by
        have f0 : toName 2 d [some (R, false), some (.str t, false), x] = some [some (R, false), some (.str t, false), some (d, false)] := rfl
        have s1 : ∀ (t' : Str), setO 1 (some (.str t')) [some (R, false), some (.str t, false), some (d, false)] = some (.next [some (R, false), some (.str t', false), some (d, false)]) := fun _ => rfl
        have s2 : ∀ (t' t'' : Str), setO 1 (some (.str t')) [some (R, false), some (.str t'', false), some (d, false)] = some (.next [some (R, false), some (.str t', false), some (d, false)]) := fun _ _ => rfl
        rcases hd with ⟨i, h0, hi, rfl⟩ | ⟨w, hw, rfl⟩
        · have g2 : ixO (some (.tup [.str "blank", .int i])) (some (.int 0)) = some (.str "blank") := by rw [ixO_t]; exact atI_eq (by decide) (by simp)
          have g3 : ixO (some (.tup [.str "blank", .int i])) (some (.int 1)) = some (.int i) := by rw [ixO_t]; exact atI_eq (by decide) (by simp)
          have hnl := num_len i h0 hi
          simp only [f0, bindO_s, b__law_shown_1, rd_0, rd_1]
          rw [addS_s t " " (by omega), s1]
          simp only [seqO_n, rd_0, rd_1, g2, g3, eqO_str, decide_true, ifO_t, strVO_i i (log_ok i h0 hi)]
          rw [addS_s (t ++ " ") "?" (by rw [Str.length_append]; omega), s2]
          simp only [seqO_n, rd_0, rd_1, g3, strVO_i i (log_ok i h0 hi)]
          rw [addS_s (t ++ " " ++ "?") _ (by rw [Str.length_append, Str.length_append]; omega), s2]
          show some (Out.next [some (R, false), some (.str (t ++ " " ++ "?" ++ (toString i : Str)), false), _]) = some (Out.next [some (R, false), some (.str (t ++ " " ++ ("?" ++ (toString i : Str))), false), _])
          rw [Str.append_assoc (t ++ " ")]
        · have g2 : ixO (some (.tup [.str "name", .str w])) (some (.int 0)) = some (.str "name") := by rw [ixO_t]; exact atI_eq (by decide) (by simp)
          have g3 : ixO (some (.tup [.str "name", .str w])) (some (.int 1)) = some (.str w) := by rw [ixO_t]; exact atI_eq (by decide) (by simp)
          have g4 : decide (("name" : Str) = "blank") = false := by decide +kernel
          simp only [f0, bindO_s, b__law_shown_1, rd_0, rd_1]
          rw [addS_s t " " (by omega), s1]
          simp only [seqO_n, rd_0, rd_1, g2, g3, eqO_str, g4, ifO_f, nextO_s, strVO_s]
          rw [addS_s (t ++ " ") w (by rw [Str.length_append]; omega), s2]
          rfl
      simp only [loopD]
      rw [eb]
      exact e
  obtain ⟨y, e⟩ := key (.tup [.str n, .tup cs]) cs n none hc (by omega)
  have s0 : setO 1 (some (.str n)) [some (.tup [.str n, .tup cs], false), none, none] = some (.next [some (.tup [.str n, .tup cs], false), some (.str n, false), none]) := rfl
  simp only [g__law_shown, rd_0, f2, s0, seqO_n, f3, tupL_s, bindO_s]
  rw [e]
  simp
end K71

end

section
set_option maxHeartbeats 1000000
namespace K71
open PySem PySem.NumText L2

def Given (d : D) : Prop := (∃ z : Str, d = .str z ∧ z.length ≤ 1000) ∨ isiO "str" (some d) = some (.bl false)
def oddL : List D := [.str "", .str " ", .str "has", .str "has ", .str " has a", .str "has  a", .str "has ?", .str "has ??1", .str "has ?01", .str "has ?-1", .str "has 1", .str "has A", .str "Has a", .str "has a b c d e", .str "has a, has b", .str "has ?1 ", .str "?1 a", .str "has a\n", .str "has\ta", .str "has ?1234567890", .non, .int 7, .tup [.str "has", .tup [.tup [.str "name", .str "a"]]], .lst [.str "has a"]]
def givenB (d : D) : Bool := match d with | .str z => decide (z.length ≤ 1000) | .non => true | .int _ => true | .tup _ => true | .lst _ => true | _ => false
theorem given_of (d : D) (h : givenB d = true) : Given d := by
  cases d with
  | str z => exact .inl ⟨z, rfl, by simpa [givenB] using h⟩
  | non => exact .inr rfl
  | int i => exact .inr rfl
  | tup ds => exact .inr rfl
  | lst ds => exact .inr rfl
  | _ => simp [givenB] at h
theorem odd_all : oddL.all givenB = true := by decide +kernel
theorem odd_len : oddL.length = 24 := by decide +kernel
theorem odd_eq (c : Int) : ∃ d, Given d ∧ f__law_odd [.int c] = some (d, false) := by
  rw [runF_eq (f := f__law_odd) (δ := [some (.int c, false), none]) rfl rfl rfl]
  have m := mixI_lo c 60
  obtain ⟨v, hv, _, e⟩ := atI_in (xs := oddL) (i := mixI c 60 % 24) (by omega) (by rw [odd_len]; omega)
  have hg := given_of v (List.all_eq_true.mp odd_all v hv)
  refine ⟨v, hg, ?_⟩
  have s : ∀ (x : Option (D × Bool)) (ds : List D), setO 1 (some (.lst ds)) [some (.int c, false), x] = some (.next [some (.int c, false), some (.lst ds, false)]) := fun _ _ => rfl
  unfold g__law_odd
  rw [lstO_s _ (by simp), s, seqO_n]
  simp only [rd_0, rd_1]
  rw [lstO_s _ (by simp), catO_s _ _ (by simp), s, seqO_n]
  simp only [rd_0, rd_1, consO_s]
  rw [tupO_s [.str "name", .str "a"] (by simp), consO_s, tupO_s [.tup [.str "name", .str "a"]] (by simp), consO_s, consO_s, tupO_s _ (by simp), lstO_s [.str "has a"] (by simp), consO_s, consO_s, consO_s, consO_s, lstO_s _ (by simp), catO_s _ _ (by simp), s, seqO_n]
  simp only [rd_0, rd_1, consO_s, bindO_s, mix_eq c 60 (by decide) (by decide), shO_s, modI_s (mixI c 60) 24 (by decide), ixO_l]
  rw [show (([D.str "", .str " ", .str "has", .str "has ", .str " has a", .str "has  a", .str "has ?", .str "has ??1", .str "has ?01", .str "has ?-1", .str "has 1", .str "has A"] ++ [.str "Has a", .str "has a b c d e", .str "has a, has b", .str "has ?1 ", .str "?1 a", .str "has a\n", .str "has\ta", .str "has ?1234567890"]) ++ [.non, .int 7, .tup [.str "has", .tup [.tup [.str "name", .str "a"]]], .lst [.str "has a"]]) = oddL from rfl, e]
  simp
abbrev signT : Str := "   ???0123456789abcdefghijklmnopqrstuvwxyzABCXYZ,;:=>.-_+!\"#$&'()*/<@\x5b\\]^{|}~"
theorem sign_len : ∃ k : Nat, (signT : Str).length = k + 1 ∧ k < 100 := ⟨(signT : Str).length - 1, by decide +kernel, by decide +kernel⟩
theorem spoiled_eq (t : Str) (c : Int) (h : t.length ≤ 100) : ∃ d, Given d ∧ f__law_spoiled [.str t, .int c] = some (d, false) := by
  rw [runF_eq (f := f__law_spoiled) (δ := [some (.str t, false), some (.int c, false), none, none, none, none]) rfl rfl rfl]
  have hlim : lim = 1000000 := rfl
  have m1 := mixI_lo c 61
  have m2 := mixI_lo c 62
  have m3 := mixI_lo c 63
  obtain ⟨k, hk, hk100⟩ := sign_len
  have htl : t.length ≤ lim := by omega
  generalize hway : mixI c 61 % 8 = way
  have w0 : 0 ≤ way := by omega
  have w8 : way < 8 := by omega
  generalize hat : mixI c 62 % ((t.length : Int) + 1) = at'
  have em : modI (some (.int (mixI c 62))) (some (.int ((t.length : Int) + 1))) = some (.int at') := by rw [modI_s _ _ (by omega), hat]
  obtain ⟨sg, hsg, esg⟩ := ixSO_in signT (mixI c 63 % ((signT : Str).length : Int)) (by omega) (Int.emod_nonneg _ (by omega)) (Int.emod_lt_of_pos _ (by omega))
  have s2 : setO 2 (some (.str signT)) [some (.str t, false), some (.int c, false), none, none, none, none] = some (.next [some (.str t, false), some (.int c, false), some (.str signT, false), none, none, none]) := rfl
  have s3 : setO 3 (some (.int way)) [some (.str t, false), some (.int c, false), some (.str signT, false), none, none, none] = some (.next [some (.str t, false), some (.int c, false), some (.str signT, false), some (.int way, false), none, none]) := rfl
  have s4 : setO 4 (some (.int at')) [some (.str t, false), some (.int c, false), some (.str signT, false), some (.int way, false), none, none] = some (.next [some (.str t, false), some (.int c, false), some (.str signT, false), some (.int way, false), some (.int at', false), none]) := rfl
  have s5 : setO 5 (some (.str sg)) [some (.str t, false), some (.int c, false), some (.str signT, false), some (.int way, false), some (.int at', false), none] = some (.next [some (.str t, false), some (.int c, false), some (.str signT, false), some (.int way, false), some (.int at', false), some (.str sg, false)]) := rfl
  unfold g__law_spoiled
  rw [s2, seqO_n]
  simp only [rd_0, rd_1, consO_s, bindO_s, mix_eq c 61 (by decide) (by decide), shO_s, modI_s (mixI c 61) 8 (by decide), hway]
  rw [s3, seqO_n]
  simp only [rd_0, rd_1, consO_s, bindO_s, mix_eq c 62 (by decide) (by decide), shO_s, lenS_s t htl, addI_s, em]
  rw [s4, seqO_n]
  simp only [rd_0, rd_1, consO_s, bindO_s, mix_eq c 63 (by decide) (by decide), shO_s, lenS_s signT (by omega), modI_s (mixI c 63) ((signT : Str).length : Int) (by omega), esg]
  rw [s5, seqO_n]
  have c1 := cutS_len t none (some at')
  have c2 := cutS_len t (some at') none
  have c3 := cutS_len t (some (at' + 1)) none
  simp only [rd_0, rd_1, partI_s, addI_s, cutSO_s t _ _ htl, cI_s]
  by_cases h1 : way < 2
  · have e1 : gLt way 2 = true := decide_eq_true h1
    rw [e1, addS_s _ _ (by omega), addS_s _ _ (by rw [Str.length_append]; omega)]
    exact ⟨.str (cutS t none (some at') ++ sg ++ cutS t (some at') none), .inl ⟨_, rfl, by rw [Str.length_append, Str.length_append]; omega⟩, by simp⟩
  have e1 : gLt way 2 = false := decide_eq_false h1
  simp only [e1, ifO_f, nextO_s, seqO_n, rd_0, rd_1, eqO_int, partI_s, addI_s, cutSO_s t _ _ htl, cI_s]
  by_cases h2 : way = 2
  · rw [decide_eq_true h2, addS_s _ _ (by omega)]
    exact ⟨.str (cutS t none (some at') ++ cutS t (some (at' + 1)) none), .inl ⟨_, rfl, by rw [Str.length_append]; omega⟩, by simp⟩
  rw [decide_eq_false h2]
  simp only [ifO_f, nextO_s, seqO_n, rd_0, rd_1, eqO_int, partI_s, addI_s, cutSO_s t _ _ htl, cI_s]
  by_cases h3 : way < 6
  · have e3 : gLt way 6 = true := decide_eq_true h3
    rw [e3, addS_s _ _ (by omega), addS_s _ _ (by rw [Str.length_append]; omega)]
    exact ⟨.str (cutS t none (some at') ++ sg ++ cutS t (some (at' + 1)) none), .inl ⟨_, rfl, by rw [Str.length_append, Str.length_append]; omega⟩, by simp⟩
  have e3 : gLt way 6 = false := decide_eq_false h3
  simp only [e3, ifO_f, nextO_s, seqO_n, rd_0, rd_1, eqO_int, consO_s, bindO_s]
  by_cases h4 : way = 6
  · rw [decide_eq_true h4]
    obtain ⟨d, hd, ed⟩ := odd_eq c
    exact ⟨d, hd, by simp [ed]⟩
  · rw [decide_eq_false h4]
    exact ⟨_, .inl ⟨t, rfl, by omega⟩, by simp⟩
theorem right_given (d : D) (h : Given d) : f__law_right [d] = some (.bl true, false) := by
  rcases h with ⟨z, rfl, hz⟩ | h
  · exact right_eq z (by have : lim = 1000000 := rfl
                         omega)
  · exact right_no d h
theorem pure (ns : List Int) (h : ns.length ≤ 63) : f_law [.lst (ns.map D.int)] = some (.bl true, false) := by
  rw [runF_eq (f := f_law) (δ := [some (.lst (ns.map D.int), false), none, none, none, none]) rfl rfl rfl]
  have hlim : lim = 1000000 := rfl
  simp only [g_law, rd_0, partI_s, cutLO_s]
  obtain ⟨ms, hms, hml⟩ : ∃ ms : List Int, cutD (ns.map D.int) none (some 63) = ms.map D.int ∧ ms.length ≤ 63 := by
    unfold cutD
    rw [← List.map_drop, ← List.map_take]
    exact ⟨_, rfl, by simp; omega⟩
  rw [hms]
  simp only [consO_s]
  rw [lstO_s _ (by simp), catO_s _ _ (by simp; omega), lstL_s, bindO_s]
  have hall : ∀ d ∈ ms.map D.int ++ [D.int 0], ∃ c : Int, d = .int c := by
    intro d hd
    rcases List.mem_append.mp hd with hd | hd
    · obtain ⟨c, _, rfl⟩ := List.mem_map.mp hd; exact ⟨c, rfl⟩
    · simp at hd; exact ⟨0, hd⟩
  obtain ⟨δ', el, x1, x2, x3, x4, rfl⟩ := loopD_all (body := fun d δ => bindO ((toName 1) d δ) b_law_1) (fun δ => ∃ x1 x2 x3 x4, δ = [some (.lst (ns.map D.int), false), x1, x2, x3, x4]) (ds := ms.map D.int ++ [D.int 0]) ⟨none, none, none, none, rfl⟩ fun d hd δ ⟨x1, x2, x3, x4, e⟩ => by
    subst e
    obtain ⟨c, rfl⟩ := hall d hd
    obtain ⟨n, cs, hn, hl, hc, er⟩ := row_eq c
    have hsl := shown_len cs n hc
    obtain ⟨sp, hsp, esp⟩ := spoiled_eq (shownT n cs) c (by omega)
    refine ⟨_, .inl ?_, some (.int c, false), some (.tup [.str n, .tup cs], false), some (.str (shownT n cs), false), some (.str (shownT n cs), false), rfl⟩
    have f0 : toName 1 (.int c) [some (.lst (ns.map D.int), false), x1, x2, x3, x4] = some [some (.lst (ns.map D.int), false), some (.int c, false), x2, x3, x4] := rfl
    have s2 : setO 2 (some (.tup [.str n, .tup cs])) [some (.lst (ns.map D.int), false), some (.int c, false), x2, x3, x4] = some (.next [some (.lst (ns.map D.int), false), some (.int c, false), some (.tup [.str n, .tup cs], false), x3, x4]) := rfl
    have s3 : setO 3 (some (.str (shownT n cs))) [some (.lst (ns.map D.int), false), some (.int c, false), some (.tup [.str n, .tup cs], false), x3, x4] = some (.next [some (.lst (ns.map D.int), false), some (.int c, false), some (.tup [.str n, .tup cs], false), some (.str (shownT n cs), false), x4]) := rfl
    have s4 : setO 4 (some (.str (shownT n cs))) [some (.lst (ns.map D.int), false), some (.int c, false), some (.tup [.str n, .tup cs], false), some (.str (shownT n cs), false), x4] = some (.next [some (.lst (ns.map D.int), false), some (.int c, false), some (.tup [.str n, .tup cs], false), some (.str (shownT n cs), false), some (.str (shownT n cs), false)]) := rfl
    have g1 : isiO "str" (some (.str (shownT n cs))) = some (.bl true) := rfl
    have g2 : neO (some (.str (shownT n cs))) (some (.str (shownT n cs))) = some false := by rw [neO_str]; simp
    simp only [f0, bindO_s, b_law_1, rd_0, rd_1, consO_s, er, shO_s, s2, seqO_n, law_shown_eq n cs hn hl hc, s3, show_row_eq n cs hn hl hc, s4, g1, g2, tyB_s, notO_s, Bool.not_true, orO_f, ifO_f, nextO_s, esp,
      right_given (.str (shownT n cs)) (.inl ⟨_, rfl, by omega⟩), right_given sp hsp]
  rw [el]
  simp
end K71

end

section
set_option maxHeartbeats 1000000
set_option maxRecDepth 100000 in
set_option maxHeartbeats 0 in
theorem PySem.Challenge.cw_mustrows_k71_rows_as_texts_holds : PySem.Challenge.rw_mustrows_k71_rows_as_texts.Holds := by
  w_on; o_law; k_head; (case hw => w_witness2)
  k_fill
  refine L2.walk_ofK (l := PySem.Challenge.rw_mustrows_k71_rows_as_texts) (n := 63) (k := 7) (x := "_law_script") (CX := L2.CX0) (sp := fun K => L2.spM K K71.f_law) rfl (by decide) rfl ⟨rfl, by decide, by decide⟩ (fun w h Y => PySem.W.kIn_of Y) ?F ?S ?C
  case F =>
    intro w mg fa h KX G hmg
    have Q : ∃ fd : FuncData, (∀ (s : Shared) (v : Value), BindsTo s fd ⟨[v], []⟩ [("_law_script", v)]) ∧ ∀ base : Heap, (L2.KOf KX).In base → base.Ns mainGlobals mg → L2.FnOk PySem.Challenge.rw_mustrows_k71_rows_as_texts.prog w (L2.KOf KX) mg base L2.CX0 7 fa fd ["_law_script"] (L2.spM (L2.KOf KX) K71.f_law) := by
      dsimp only [L2.KOf]
      refine' K71.all_mk KX G hmg ?a0 ?l0 ?c0 ?k0 ?a1 ?l1 ?c1 ?k1 ?a2 ?l2 ?c2 ?k2 ?a3 ?l3 ?c3 ?k3 ?a4 ?l4 ?c4 ?k4 ?a5 ?l5 ?c5 ?k5 ?a6 ?l6 ?c6 ?k6 ?a7 ?l7 ?c7 ?k7 ?a8 ?l8 ?c8 ?k8 ?a9 ?l9 ?c9 ?k9 ?a10 ?l10 ?c10 ?k10 ?a11 ?l11 ?c11 ?k11 ?a12 ?l12 ?c12 ?k12 ?a13 ?l13 ?c13 ?k13 ?a14 ?l14 ?c14 ?k14 ?a15 ?l15 ?c15 ?k15 ?a16 ?l16 ?c16 ?k16 ?a17 ?l17 ?c17 ?k17 ?a18 ?l18 ?c18 ?k18 ?a19 ?l19 ?c19 ?k19 ?a20 ?l20 ?c20 ?k20 ?a21 ?l21 ?c21 ?k21 ?a22 ?l22 ?c22 ?k22 ?z_ValueError ?z_all ?z_bool ?z_int ?z_isinstance ?z_len ?z_range ?z_str ?z_tuple ?y_FIGURES ?y_SMALL_LETTERS ?n_NoText ?x_NoText ?n_MustError ?x_MustError ?n_NoRow ?x_NoRow ?hsub ?herr ?k_NoText ?k_ValueError ?k_NoRow
      (case a0 => k_is)
      (case l0 => k_is)
      (case c0 => k_is)
      (case k0 => k_is)
      (case a1 => k_is)
      (case l1 => k_is)
      (case c1 => k_is)
      (case k1 => k_is)
      (case a2 => k_is)
      (case l2 => k_is)
      (case c2 => k_is)
      (case k2 => k_is)
      (case a3 => k_is)
      (case l3 => k_is)
      (case c3 => k_is)
      (case k3 => k_is)
      (case a4 => k_is)
      (case l4 => k_is)
      (case c4 => k_is)
      (case k4 => k_is)
      (case a5 => k_is)
      (case l5 => k_is)
      (case c5 => k_is)
      (case k5 => k_is)
      (case a6 => k_is)
      (case l6 => k_is)
      (case c6 => k_is)
      (case k6 => k_is)
      (case a7 => k_is)
      (case l7 => k_is)
      (case c7 => k_is)
      (case k7 => k_is)
      (case a8 => k_is)
      (case l8 => k_is)
      (case c8 => k_is)
      (case k8 => k_is)
      (case a9 => k_is)
      (case l9 => k_is)
      (case c9 => k_is)
      (case k9 => k_is)
      (case a10 => k_is)
      (case l10 => k_is)
      (case c10 => k_is)
      (case k10 => k_is)
      (case a11 => k_is)
      (case l11 => k_is)
      (case c11 => k_is)
      (case k11 => k_is)
      (case a12 => k_is)
      (case l12 => k_is)
      (case c12 => k_is)
      (case k12 => k_is)
      (case a13 => k_is)
      (case l13 => k_is)
      (case c13 => k_is)
      (case k13 => k_is)
      (case a14 => k_is)
      (case l14 => k_is)
      (case c14 => k_is)
      (case k14 => k_is)
      (case a15 => k_is)
      (case l15 => k_is)
      (case c15 => k_is)
      (case k15 => k_is)
      (case a16 => k_is)
      (case l16 => k_is)
      (case c16 => k_is)
      (case k16 => k_is)
      (case a17 => k_is)
      (case l17 => k_is)
      (case c17 => k_is)
      (case k17 => k_is)
      (case a18 => k_is)
      (case l18 => k_is)
      (case c18 => k_is)
      (case k18 => k_is)
      (case a19 => k_is)
      (case l19 => k_is)
      (case c19 => k_is)
      (case k19 => k_is)
      (case a20 => k_is)
      (case l20 => k_is)
      (case c20 => k_is)
      (case k20 => k_is)
      (case a21 => k_is)
      (case l21 => k_is)
      (case c21 => k_is)
      (case k21 => k_is)
      (case a22 => k_is)
      (case l22 => k_is)
      (case c22 => k_is)
      (case k22 => k_is)
      (case z_ValueError => k_is)
      (case z_all => k_is)
      (case z_bool => k_is)
      (case z_int => k_is)
      (case z_isinstance => k_is)
      (case z_len => k_is)
      (case z_range => k_is)
      (case z_str => k_is)
      (case z_tuple => k_is)
      (case y_FIGURES => k_is)
      (case y_SMALL_LETTERS => k_is)
      (case n_NoText => k_is)
      (case x_NoText => k_exc)
      (case n_MustError => k_is)
      (case x_MustError => k_exc)
      (case n_NoRow => k_is)
      (case x_NoRow => k_exc)
      (case hsub => kernel_rfl)
      (case herr => kernel_rfl)
      (case k_NoText => kernel_rfl)
      (case k_ValueError => kernel_rfl)
      (case k_NoRow => kernel_rfl)
    exact Q
  case S => exact fun K H a ns hl hO hS => L2.spM_law hS (K71.pure ns hl)
  case C => exact fun _ _ _ _ h => h

end
