import PyProof.Rows.All
import Wide.All
import OpenK.AllK
import Wide.FinOn
import Lean
import PyProof.EqAt
import PyProof.EqKinds
import PyProof.TupleCall
import PySem.Challenge.RW_rayround_k49_heights_of_points
section
set_option Elab.async false
set_option linter.all false
set_option maxRecDepth 100000
namespace DQ
open PySem PySem.Spec PyProof.Rows
noncomputable def Zbs (A : Around) (h : Heap) : Prop := A.handled = none ∨ ∃ ea oe vs, A.handled = some (.ref ea) ∧ h.get? ea = some oe ∧ oe.data = .fields vs ∧ vs[2]? = some .none
theorem Zbs.keeps {A : Around} {h h' : Heap} (q : Zbs A h) (k : ∀ b o, h.get? b = some o → h'.get? b = some o) : Zbs A h' := by
  rcases q with q | ⟨ea, oe, vs, e1, e2, e3, e4⟩
  · exact .inl q
  · exact .inr ⟨ea, oe, vs, e1, k _ _ e2, e3, e4⟩
theorem ZcW : entryFor table "proto.unchain" = some Builtin.«proto.unchain» := entryFor_of_fast (by kernel_rfl)
section
variable {prog : Program} {w : World} {A : Around} {E : Value → Shared → Prop} {s : Shared}
theorem Zef {α : Type} {Q : α → Shared → Prop} {e : Addr} {oe : Obj} {vs : Array Value} (q : Zbs A s.heap) (he : s.heap.get? e = some oe) (hd : oe.data = .fields vs) (hz : 2 < vs.size)
    (h : ∀ h', (∀ b o, b ≠ e → s.heap.get? b = some o → h'.get? b = some o) → (∃ o, h'.get? e = some o ∧ o.cls = oe.cls) → E (.ref e) { s with heap := h' }) : wpAny (model prog w) A (raiseNew (.ref e) : Sem α) Q E s := by
  have same : E (.ref e) s := h s.heap (fun _ _ _ x => x) ⟨oe, he, rfl⟩
  unfold raiseNew
  refine wpAny_bind (wpAny_handled ?_)
  rcases q with q | ⟨ea, oa, ws, q1, q2, q3, q4⟩
  · rw [q]
    exact wpAny_bind (wpAny_pure (wpAny_throw same))
  · rw [q1]
    dsimp only
    by_cases c : (Value.ref ea != Value.ref e) = true
    · rw [if_pos c]
      refine wpAny_bind (wpAny_holding (wpAny_runValue (codeAny_builtin ZcW ?_)))
      unfold Builtin.«proto.unchain»
      refine wpAny_bind (wpAny_field q2 q3 q4 ?_)
      refine wpAny_bind (wpAny_pure ?_)
      have sf : wpAny (model prog w) A (setField (.ref e) 2 (.ref ea)) (fun _ s' => wpAny (model prog w) A (throw (Value.ref e) : Sem α) Q E s') E s := by
        refine wpAny_setField he hd hz (wpAny_throw (h _ (fun b o hb x => ?_) ⟨_, Heap.get?_update_self _ he (Obj.isFreed_of_fields (Obj.data_mapFields hd _)), Obj.cls_mapFields _ _⟩))
        rw [Heap.get?_update_other _ _ (Ne.symm hb)]
        exact x
      exact wpAny_pure (wpAny_bind sf)
    · rw [if_neg c]
      exact wpAny_throw same
theorem ZbT {α : Type} {Q : α → Shared → Prop} (q : Zbs A s.heap)
    (h : ∀ h' e, (∀ b o, s.heap.get? b = some o → h'.get? b = some o) → (∃ o, h'.get? e = some o ∧ o.cls = .type "StopIteration") → E (.ref e) { s with heap := h' }) :
    wpAny (model prog w) A (newExc (.type "StopIteration") [] >>= fun x => (raiseNew x : Sem α)) Q E s := by
  refine wpAny_bind ?_
  simp only [newExc, newTuple]
  refine wpAny_bind (wpAny_newObj_type ?_ (by size_fits))
  refine wpAny_bind (m := firstArgMember _ _) (wpAny_of_eq (a := Value.none) (by first | rfl | (simp only [firstArgMember]; rfl)) ?_)
  refine wpAny_newObj_type ?_ (by size_fits)
  refine Zef (q.keeps fun b o x => Heap.get?_push_of_some _ (Heap.get?_push_of_some _ x)) (Heap.get?_push_size _ rfl) rfl (by rw [Array.size_append]; exact Nat.lt_of_lt_of_le (by decide : 2 < 6) (Nat.le_add_right _ _)) fun h' k he => ?_
  exact h h' _ (fun b o x => k b o (Nat.ne_of_lt (Nat.lt_of_lt_of_le (Heap.lt_size x) (by rw [Heap.size_push]; exact Nat.le_succ _))) (Heap.get?_push_of_some _ (Heap.get?_push_of_some _ x))) he
theorem Zi4 {e : Addr} {Q : Bool → Shared → Prop} (he : ∃ o, s.heap.get? e = some o ∧ o.cls = .type "StopIteration") (h : Q true s) : wpAny (model prog w) A (isInstance (.ref e) (.type "StopIteration")) Q E s :=
  let ⟨o, e1, e2⟩ := he
  wpAny_isInstance (T := "StopIteration") (b := true) ⟨o, e1, e2⟩ isSubtype_stop h
theorem Zbs.in1 {h : Heap} (q : Zbs A h) : Zbs A.in1 h := q
noncomputable def ZfL (it : Addr) (s : Shared) (e : Value) (s' : Shared) : Prop := ∃ a, e = .ref a ∧ (∃ o, s'.heap.get? a = some o ∧ o.cls = .type "StopIteration") ∧ ∃ h', Heap.ExtBut it s.heap h' ∧ s' = { s with heap := h' }
theorem ZfM {it : Addr} {T id : String} {b : Builtin} {Q : Option Value → Shared → Prop} (hT : s.TypeIs (.ref it) T) (sl : Slot T (Str.ofString "__next__") id) (hb : entryFor table id = some b) (ha : argsOk id ⟨[.ref it], []⟩)
    (h : wpAny (model prog w) A.in1 (b ⟨[.ref it], []⟩) (fun _ _ => False) (ZfL it s) s) (hQ : ∀ h', Heap.ExtBut it s.heap h' → Q none { s with heap := h' }) : wpAny (model prog w) A (pyNext (.ref it)) Q E s := by
  unfold pyNext
  refine wpAny_bind (wpAny_attempt (wpAny_callSpecial?_slot (name := Str.ofString "__next__") hT sl (wpAny_call_entry sl hT hb (wpAny_mono h (fun _ _ z => z.elim) fun e s' z => ?_) ha)))
  obtain ⟨a, rfl, ho, h', eb, rfl⟩ := z
  exact wpAny_bind (Zi4 ho (wpAny_pure (hQ h' eb)))
theorem ZfN {it : Addr} {x left step : Int} {Q : Option Value → Shared → Prop} (q : Zbs A s.heap) (hit : IsRangeIter s.heap it x left step) (hl : left ≤ 0)
    (hQ : ∀ h', Heap.ExtBut it s.heap h' → Q none { s with heap := h' }) : wpAny (model prog w) A (pyNext (.ref it)) Q E s := by
  refine ZfM ⟨_, hit, rfl⟩ F.slot_range_iterator_next F.entry_range_iterator_next (F.args_range_iterator_next_1 _) ?_ hQ
  refine wpAny_bind (m := field (.ref it) 0) (wpAny_field hit rfl (x := rawInt x) rfl ?_)
  refine wpAny_bind (m := field (.ref it) 1) (wpAny_field hit rfl (x := rawInt left) rfl ?_)
  refine wpAny_bind (m := field (.ref it) 2) (wpAny_field hit rfl (x := rawInt step) rfl ?_)
  dsimp only [rawInt]
  rw [if_pos hl]
  refine wpAny_bind (wpAny_rule (wpAny_bind ?_))
  exact ZbT q.in1 fun h' e k ho => ⟨e, rfl, ho, h', fun b o _ z => k b o z, rfl⟩
theorem ZkE {it l : Addr} {i : Nat} {o ol : Obj} {items : Array Value} {n : Nat} (q : Zbs A s.heap) (ho : s.heap.get? it = some o) (hd : o.data = .fields #[.ref l, .int i 0]) (hol : s.heap.get? l = some ol) (hdl : ol.data = .seq items n) (hx : items[i]? = none) :
    wpAny (model prog w) A.in1 (Builtin.«list_iterator.__next__» ⟨[.ref it], []⟩) (fun _ _ => False) (ZfL it s) s := by
  refine wpAny_bind (m := field (.ref it) 0) (wpAny_field ho hd (x := .ref l) rfl ?_)
  dsimp only
  rw [if_neg (show ¬ ((Value.ref l == Value.none) = true) from Bool.false_ne_true)]
  refine wpAny_bind (m := field (.ref it) 1) (wpAny_field ho hd (x := .int i 0) rfl ?_)
  refine wpAny_bind (m := seqItems? (.ref l)) (wpAny_seqItems hol hdl ?_)
  simp only [Int.toNat_natCast, hx]
  refine wpAny_bind (wpAny_rule (wpAny_bind (wpAny_setField ho hd (by simp) ?_)))
  have q2 : Zbs A.in1 (s.heap.update it (Obj.mapFields (·.setIfInBounds 0 Value.none))) := by
    rcases q with q | ⟨ea, oe, vs, e1, e2, e3, e4⟩
    · exact .inl q
    · refine .inr ⟨ea, oe, vs, e1, ?_, e3, e4⟩
      rw [Heap.get?_update_other _ _ (fun z => ?_)]
      · exact e2
      · rw [← z, ho] at e2
        cases e2
        rw [hd] at e3
        cases e3
        simp at e4
  refine ZbT q2 fun h' e k ho => ⟨e, rfl, ho, h', fun b o hb z => k b o ?_, rfl⟩
  rw [Heap.get?_update_other _ _ (Ne.symm hb)]
  exact z
theorem ZkF {it l : Addr} {i : Nat} {o ol : Obj} {items : Array Value} {n : Nat} (q : Zbs A s.heap) (ho : s.heap.get? it = some o) (hd : o.data = .fields #[.ref l, .int i 0]) (hol : s.heap.get? l = some ol) (hdl : ol.data = .seq items n) (hx : items[i]? = none) :
    wpAny (model prog w) A.in1 (Builtin.«tuple_iterator.__next__» ⟨[.ref it], []⟩) (fun _ _ => False) (ZfL it s) s := by
  refine wpAny_bind (m := field (.ref it) 0) (wpAny_field ho hd (x := .ref l) rfl ?_)
  dsimp only
  rw [if_neg (show ¬ ((Value.ref l == Value.none) = true) from Bool.false_ne_true)]
  refine wpAny_bind (m := field (.ref it) 1) (wpAny_field ho hd (x := .int i 0) rfl ?_)
  refine wpAny_bind (m := seqItems? (.ref l)) (wpAny_seqItems hol hdl ?_)
  simp only [Int.toNat_natCast, hx]
  refine wpAny_bind (wpAny_rule (wpAny_bind (wpAny_setField ho hd (by simp) ?_)))
  have q2 : Zbs A.in1 (s.heap.update it (Obj.mapFields (·.setIfInBounds 0 Value.none))) := by
    rcases q with q | ⟨ea, oe, vs, e1, e2, e3, e4⟩
    · exact .inl q
    · refine .inr ⟨ea, oe, vs, e1, ?_, e3, e4⟩
      rw [Heap.get?_update_other _ _ (fun z => ?_)]
      · exact e2
      · rw [← z, ho] at e2
        cases e2
        rw [hd] at e3
        cases e3
        simp at e4
  refine ZbT q2 fun h' e k ho => ⟨e, rfl, ho, h', fun b o hb z => k b o ?_, rfl⟩
  rw [Heap.get?_update_other _ _ (Ne.symm hb)]
  exact z
theorem Zhr {it l : Addr} {i : Nat} {items} {Q : Option Value → Shared → Prop} (q : Zbs A s.heap) (hit : s.heap.IsListIter it l i) (hl : s.heap.IsList l items) (hx : items[i]? = none)
    (hQ : ∀ h', Heap.ExtBut it s.heap h' → Q none { s with heap := h' }) : wpAny (model prog w) A (pyNext (.ref it)) Q E s := by
  obtain ⟨o, ho, hc, hd⟩ := id hit
  obtain ⟨ol, hol, _, nl, hdl⟩ := hl
  exact ZfM hit.typeIs slot_listiter_next entry_listiter_next (args_listiter_next _) (ZkE q ho hd hol hdl hx) hQ
theorem ZfO {it l : Addr} {i : Nat} {items} {Q : Option Value → Shared → Prop} (q : Zbs A s.heap) (hit : s.heap.IsTupleIter it l i) (hl : s.heap.IsTuple l items) (hx : items[i]? = none)
    (hQ : ∀ h', Heap.ExtBut it s.heap h' → Q none { s with heap := h' }) : wpAny (model prog w) A (pyNext (.ref it)) Q E s := by
  obtain ⟨o, ho, hc, hd⟩ := id hit
  obtain ⟨ol, hol, _, nl, hdl⟩ := hl
  exact ZfM hit.typeIs F.slot_tuple_iterator_next F.entry_tuple_iterator_next (F.args_tuple_iterator_next_1 _) (ZkF q ho hd hol hdl hx) hQ
end
end DQ
end
section
set_option Elab.async false
set_option linter.all false
set_option maxRecDepth 100000
namespace L2
open PySem PySem.Spec PyProof.Rows
noncomputable abbrev Key := Sum Int Str
noncomputable def ZkG : Key → Value → Bool
  | .inl k, v => Value.isInt k v
  | .inr x, v => Value.isStrOf x v
noncomputable def ZqI (w : World) : Key → Int
  | .inl k => hashInt k
  | .inr x => hashStr w x
theorem ZK : ∀ {k : Key} {v : Value}, ZkG k v = true → (∃ i t, k = Sum.inl i ∧ v = Value.int i t) ∨ (∃ x t, k = Sum.inr x ∧ v = Value.str x t)
  | .inl i, v, h => by
    obtain ⟨t, e⟩ := Value.isInt_shape (k := i) (v := v) h
    exact .inl ⟨i, t, rfl, e⟩
  | .inr x, v, h => by
    obtain ⟨t, e⟩ := Value.isStrOf_shape (x := x) (v := v) h
    exact .inr ⟨x, t, rfl, e⟩
theorem ZkH (a b : Int) : decide ((Sum.inl a : Key) = Sum.inl b) = (a == b) := by
  by_cases e : a = b
  · subst e; simp
  · have h : ¬ (Sum.inl a : Key) = Sum.inl b := fun q => e (Sum.inl.inj q)
    rw [decide_eq_false h]
    exact (beq_eq_false_iff_ne.mpr e).symm
theorem ZkI (a b : Str) : decide ((Sum.inr a : Key) = Sum.inr b) = decide (a = b) := by
  by_cases e : a = b
  · subst e; simp
  · have h : ¬ (Sum.inr a : Key) = Sum.inr b := fun q => e (Sum.inr.inj q)
    rw [decide_eq_false h, decide_eq_false e]
theorem ZkJ (a : Int) (b : Str) : decide ((Sum.inl a : Key) = Sum.inr b) = false := decide_eq_false (fun q => nomatch q)
theorem ZkK (a : Str) (b : Int) : decide ((Sum.inr a : Key) = Sum.inl b) = false := decide_eq_false (fun q => nomatch q)
noncomputable def ZfP (prog : Program) (w : World) : PySem.KeyKind prog w Key where
  is := ZkG
  hash := ZqI w
  inj := fun v a b ha hb => by
    rcases ZK ha with ⟨i, t, rfl, rfl⟩ | ⟨x, t, rfl, rfl⟩
    · rcases ZK hb with ⟨j, u, rfl, e⟩ | ⟨y, u, rfl, e⟩
      · injection e with e1 _; rw [e1]
      · exact nomatch e
    · rcases ZK hb with ⟨j, u, rfl, e⟩ | ⟨y, u, rfl, e⟩
      · exact nomatch e
      · injection e with e1 _; rw [e1]
  byValue := fun k v h => by
    rcases ZK h with ⟨i, t, rfl, rfl⟩ | ⟨x, t, rfl, rfl⟩ <;> rfl
  pyHash := fun hv h => by
    rcases ZK hv with ⟨i, t, rfl, rfl⟩ | ⟨x, t, rfl, rfl⟩
    · exact wpAny_pyHash_int h
    · exact wpAny_pyHash_str h
  eqBool := fun hu hv h => by
    rcases ZK hu with ⟨i, t, rfl, rfl⟩ | ⟨x, t, rfl, rfl⟩
    · rcases ZK hv with ⟨j, u, rfl, rfl⟩ | ⟨y, u, rfl, rfl⟩
      · rw [ZkH] at h; exact wpAny_eqBool_int h
      · rw [ZkJ] at h; exact SeqAt.EqAt.int_str i t y u _ _ _ _ h
    · rcases ZK hv with ⟨j, u, rfl, rfl⟩ | ⟨y, u, rfl, rfl⟩
      · rw [ZkK] at h; exact SeqAt.EqAt.str_int x t j u _ _ _ _ h
      · rw [ZkI] at h; exact wpAny_eqBool_str h
  «strs» := fun k x t v h => by
    rcases ZK h with ⟨i, u, rfl, e⟩ | ⟨y, u, rfl, e⟩
    · exact nomatch e
    · injection e with e1 _
      subst e1
      cases v <;> rfl
end L2
namespace L2
open PySem PySem.Spec PyProof.Rows
inductive V where
  | non | bl (b : Bool) | int (i : Int) | str (x : Str) | byt (b : Array UInt8) | flt (b : UInt64) | ref (a : Addr) | ty (n : String)
  deriving DecidableEq
noncomputable def Zab : V → Value → Prop
  | .non, u => u = Value.none
  | .bl b, u => u = Value.bool b
  | .int i, u => ∃ t, u = Value.int i t
  | .str x, u => ∃ t, u = Value.str x t
  | .byt b, u => ∃ t, u = Value.bytes b t
  | .flt b, u => ∃ t, u = Value.float b t
  | .ref a, u => u = Value.ref a
  | .ty n, u => u = Value.type n
noncomputable abbrev ZO : List V → List Value → Prop := Paired Zab
theorem ZO.length {xs : List V} {us : List Value} (r : ZO xs us) : xs.length = us.length := Paired.length r
theorem ZO.get : ∀ {xs : List V} {us : List Value} {i : Nat} {x : V}, ZO xs us → xs[i]? = some x → ∃ u, us[i]? = some u ∧ Zab x u
  | _, _, _, _, .nil, e => by simp at e
  | _, _, 0, _, .cons r _, e => by simp at e; subst e; exact ⟨_, rfl, r⟩
  | _, _, i + 1, x, .cons _ t, e => by
    obtain ⟨u, h1, h2⟩ := ZO.get (i := i) (x := x) t (by simpa using e)
    exact ⟨u, by simpa using h1, h2⟩
theorem ZO.set {x : V} {u : Value} (r : Zab x u) : ∀ {xs : List V} {us : List Value} (i : Nat), ZO xs us → ZO (xs.set i x) (us.set i u)
  | _, _, _, .nil => .nil
  | _, _, 0, .cons _ t => .cons r t
  | _, _, i + 1, .cons q t => .cons q (ZO.set r i t)
theorem ZO.append : ∀ {xs ys : List V} {us ws : List Value}, ZO xs us → ZO ys ws → ZO (xs ++ ys) (us ++ ws)
  | _, _, _, _, .nil, s => s
  | _, _, _, _, .cons r t, s => .cons r (ZO.append t s)
theorem ZO.take : ∀ {xs : List V} {us : List Value} (n : Nat), ZO xs us → ZO (xs.take n) (us.take n)
  | _, _, 0, _ => .nil
  | _, _, _ + 1, .nil => .nil
  | _, _, n + 1, .cons r t => .cons r (ZO.take n t)
theorem ZO.drop : ∀ {xs : List V} {us : List Value} (n : Nat), ZO xs us → ZO (xs.drop n) (us.drop n)
  | _, _, 0, r => r
  | _, _, _ + 1, .nil => .nil
  | _, _, n + 1, .cons _ t => ZO.drop n t
noncomputable def ZpH : Option V → Option Value → Prop
  | some v, some u => Zab v u
  | none, none => True
  | _, _ => False
noncomputable def KV {κ : Type} : List (κ × V) → List (κ × Value) → Prop := Paired fun (p : κ × V) (q : κ × Value) => p.1 = q.1 ∧ Zab p.2 q.2
noncomputable def kV : Key → V
  | .inl i => .int i
  | .inr x => .str x
inductive HO where
  | lst (xs : List V)
  | tup (xs : List V)
  | dK (kvs : List (Key × V)) | dT (kvs : List (List Key × V))
  | set (S : Int → Bool) (n : Nat)
  | ins (C dx : Addr) (fs : List (Str × V))
  | own (x : Addr)
  | xd (fs : List (Str × V))
  | met (f x : Addr)
  | rng (lo hi : Int)
  | frz (o : Obj) (u : HO)
  | tbl (ps : Array Value)
  | ext (φ : Heap → Prop)
noncomputable abbrev Hp := Addr → Option HO
noncomputable def upd (H : Hp) (a : Addr) (o : HO) : Hp := fun b => if b = a then some o else H b
theorem Zal {H : Hp} {a : Addr} {o : HO} : upd H a o a = some o := by unfold upd; rw [if_pos rfl]
theorem ZG {H : Hp} {a b : Addr} {o : HO} (h : b ≠ a) : upd H a o b = H b := by unfold upd; rw [if_neg h]
theorem ZZ {H : Hp} {a b : Addr} {o : HO} (h : H a = some o) (h' : H b = none) : a ≠ b := by
  intro e; subst e; rw [h] at h'; cases h'
section
variable (P : Program) (w : World)
noncomputable def ZbI (H : Hp) (h : Heap) (a : Addr) : HO → Prop
  | .lst xs => xs.length ≤ sizeLine ∧ ∃ (its : List Value) (n : Nat), ZO xs its ∧ h.get? a = some { cls := .type "list", data := .seq its.toArray n }
  | .tup xs => xs.length ≤ sizeLine ∧ ∃ its : List Value, ZO xs its ∧ IsTup h a its.toArray
  | .dK kvs => kvs.length ≤ sizeLine ∧ (a == sysModules) = false ∧ ∃ vs, KV kvs vs ∧ h.DictOf (ZfP P w) a vs
  | .dT kvs => kvs.length ≤ sizeLine ∧ (a == sysModules) = false ∧ ∃ xs : List (List Key × Addr × Value),
      Paired (fun (p : List Key × V) (q : List Key × Addr × Value) => p.1 = q.1 ∧ H q.2.1 = some (.tup (p.1.map kV)) ∧ Zab p.2 q.2.2) kvs xs ∧
      ∃ o es ep, h.get? a = some o ∧ o.ExactDict ∧ o.data = .dict es ep ∧ es.toList = xs.map (entryOfKey (tupleKind (ZfP P w))) ∧ (xs.map (·.1)).Nodup
  | .set S n => h.SetOf (intKind P w) a S n
  | .ins C dx fs => H dx = some (.own a) ∧ fs.length ≤ 1000 ∧ dx ≠ a ∧ h.get? a = some (PySem.W.instObj C dx) ∧
      ∃ mA, h.Ns1 dx mA ∧ (∀ f, ZpH (fs.lookup f) (mA f)) ∧ PySem.Within mA (fs.map (·.1))
  | .own _ => ∃ o, h.get? a = some o
  | .xd fs => ∃ mA, h.Ns1 a mA ∧ ∀ f, ZpH (fs.lookup f) (mA f)
  | .rng lo hi => ∃ t u v, h.get? a = some { cls := .type "range", data := .fields #[.int lo t, .int hi u, .int 1 v] }
  | .frz o u => h.get? a = some o ∧ ZbI H h a u
  | .tbl ps => h.get? a = some { cls := .none, data := .fields ps }
  | .met f x => h.get? a = some (PySem.W.methodObj (.ref f) (.ref x))
  | .ext φ => φ h ∧ (∃ o, h.get? a = some o) ∧ ∀ h1 h2 : Heap, φ h1 → (∀ o, h1.get? a = some o → h2.get? a = some o) → φ h2
noncomputable def HOk (H : Hp) (h : Heap) : Prop := ∀ a o, H a = some o → ZbI P w H h a o
end
section
variable {P : Program} {w : World} {H H' : Hp} {h h' : Heap} {a : Addr} {o : HO}
theorem ZbI.lt (x : ZbI P w H h a o) : a < h.objs.size := by
  cases o with
  | lst xs => obtain ⟨_, _, _, _, e⟩ := x; exact Heap.lt_size e
  | tup xs => obtain ⟨_, _, _, p⟩ := x; exact p.lt
  | dK kvs => obtain ⟨_, _, _, _, o, _, _, e, _⟩ := x; exact Heap.lt_size e
  | dT kvs => obtain ⟨_, _, _, _, o, _, _, e, _⟩ := x; exact Heap.lt_size e
  | set S n => obtain ⟨o, _, _, _, e, _⟩ := x; exact Heap.lt_size e
  | ins C dx fs => obtain ⟨_, _, _, e, _⟩ := x; exact Heap.lt_size e
  | own y => obtain ⟨_, e⟩ := x; exact Heap.lt_size e
  | xd fs => obtain ⟨_, ⟨_, _, _, e, _⟩, _⟩ := x; exact Heap.lt_size e
  | rng lo hi => obtain ⟨_, _, _, e⟩ := x; exact Heap.lt_size e
  | frz ob u => obtain ⟨e, _⟩ := x; exact Heap.lt_size e
  | tbl ps => exact Heap.lt_size (show h.get? a = some _ from x)
  | met f y => exact Heap.lt_size (show h.get? a = some _ from x)
  | ext φ => obtain ⟨_, ⟨_, e⟩, _⟩ := x; exact Heap.lt_size e
theorem Paired.mapP {α β : Type} {F G : α → β → Prop} : ∀ {l₁ : List α} {l₂ : List β}, Paired F l₁ l₂ → (∀ a b, F a b → G a b) → Paired G l₁ l₂
  | _, _, .nil, _ => .nil
  | _, _, .cons r t, f => .cons (f _ _ r) (Paired.mapP t f)
theorem ZbI.stay (x : ZbI P w H h a o) (k : ∀ b u, (b = a ∨ H b = some (.own a)) → h.get? b = some u → h'.get? b = some u)
    (ho : ∀ b, H b = some (.own a) → H' b = some (.own a)) (ht : ∀ b xs, H b = some (.tup xs) → H' b = some (.tup xs)) : ZbI P w H' h' a o := by
  induction o with
  | lst xs => obtain ⟨z, its, n, r, e⟩ := x; exact ⟨z, its, n, r, k _ _ (.inl rfl) e⟩
  | tup xs => obtain ⟨z, its, r, ob, e, c⟩ := x; exact ⟨z, its, r, ob, k _ _ (.inl rfl) e, c⟩
  | dK kvs => obtain ⟨z, y, vs, r, ob, es, ep, e, c⟩ := x; exact ⟨z, y, vs, r, ob, es, ep, k _ _ (.inl rfl) e, c⟩
  | dT kvs =>
    obtain ⟨z, y, xs, r, ob, es, ep, e, c⟩ := x
    exact ⟨z, y, xs, Paired.mapP r fun p q z => ⟨z.1, ht _ _ z.2.1, z.2.2⟩, ob, es, ep, k _ _ (.inl rfl) e, c⟩
  | set S n => obtain ⟨ob, es, ep, t, e, c⟩ := x; exact ⟨ob, es, ep, t, k _ _ (.inl rfl) e, c⟩
  | ins C dx fs =>
    obtain ⟨d, z, ne, e, mA, ⟨od, es, ep, e2, c⟩, r⟩ := x
    exact ⟨ho _ d, z, ne, k _ _ (.inl rfl) e, mA, ⟨od, es, ep, k _ _ (.inr d) e2, c⟩, r⟩
  | own y => obtain ⟨ob, e⟩ := x; exact ⟨ob, k _ _ (.inl rfl) e⟩
  | xd fs => obtain ⟨mA, ⟨od, es, ep, e, c⟩, r⟩ := x; exact ⟨mA, ⟨od, es, ep, k _ _ (.inl rfl) e, c⟩, r⟩
  | rng lo hi => obtain ⟨t, u, v, e⟩ := x; exact ⟨t, u, v, k _ _ (.inl rfl) e⟩
  | frz ob u ih => obtain ⟨e, q⟩ := x; exact ⟨k _ _ (.inl rfl) e, ih q⟩
  | tbl ps =>
    have e : h.get? a = some { cls := .none, data := .fields ps } := x
    show h'.get? a = some { cls := .none, data := .fields ps }
    exact k a _ (.inl rfl) e
  | met f y =>
    have e : h.get? a = some (PySem.W.methodObj (.ref f) (.ref y)) := x
    show h'.get? a = some (PySem.W.methodObj (.ref f) (.ref y))
    exact k a _ (.inl rfl) e
  | ext φ => obtain ⟨p, ⟨o, e⟩, st⟩ := x; exact ⟨st _ _ p fun o q => k _ _ (.inl rfl) q, ⟨o, k _ _ (.inl rfl) e⟩, st⟩
theorem HOk.lt (x : HOk P w H h) (e : H a = some o) : a < h.objs.size := (x a o e).lt
theorem HOk.fresh (x : HOk P w H h) (e : h.objs.size ≤ a) : H a = none := by
  cases q : H a with
  | none => rfl
  | some u => exact absurd (Nat.lt_of_lt_of_le (x.lt q) e) (Nat.lt_irrefl _)
theorem HOk.kept (x : HOk P w H h) (k : ∀ b u, h.get? b = some u → h'.get? b = some u) : HOk P w H h' := fun a o e =>
  (x a o e).stay (fun b u _ q => k b u q) (fun _ q => q) fun _ _ q => q
theorem HOk.laid (x : HOk P w H h) (k : ∀ b u, h.get? b = some u → h'.get? b = some u) (hp : h.objs.size ≤ a) (new : ZbI P w (upd H a o) h' a o) : HOk P w (upd H a o) h' := fun b u e => by
  have hn := x.fresh hp
  by_cases hb : b = a
  · subst hb; rw [Zal] at e; cases e; exact new
  · rw [ZG hb] at e
    exact (x b u e).stay (fun c v _ q => k c v q) (fun c q => by rw [ZG (ZZ q hn)]; exact q) fun c xs q => by rw [ZG (ZZ q hn)]; exact q
end
noncomputable def Rd (H : Hp) (a : Addr) (u : HO) : Prop := H a = some u ∨ ∃ o, H a = some (.frz o u)
theorem Rd.of {H : Hp} {a : Addr} {u : HO} (h : H a = some u) : Rd H a u := .inl h
theorem Rd.ok {P : Program} {w : World} {H : Hp} {h : Heap} {a : Addr} {u : HO} (r : Rd H a u) (x : HOk P w H h) : ZbI P w H h a u := by
  rcases r with r | ⟨o, r⟩
  · exact x a u r
  · obtain ⟨_, q⟩ := x a _ r
    exact q
noncomputable def Mut : Option HO → Prop
  | some (.lst _) => True
  | some (.dK _) => True
  | some (.dT _) => True
  | some (.set _ _) => True
  | some (.ins _ _ _) => True
  | some (.ext _) => True
  | _ => False
section
variable {P : Program} {w : World} {H : Hp} {h h' : Heap} {x e : Addr} {o' : HO}
theorem HOk.write (ok : HOk P w H h) (mu : Mut (H x)) (he : e = x ∨ H e = some (.own x)) (k : ∀ b u, b ≠ e → h.get? b = some u → h'.get? b = some u) (heo : ∃ u, h'.get? e = some u)
    (new : ZbI P w (upd H x o') h' x o') : HOk P w (upd H x o') h' := fun b u q => by
  have nown : ∀ c y, H c = some (.own y) → c ≠ x := fun c y r z => by subst z; rw [r] at mu; exact mu
  have ntup : ∀ c xs, H c = some (.tup xs) → c ≠ x := fun c xs r z => by subst z; rw [r] at mu; exact mu
  by_cases hb : b = x
  · subst hb; rw [Zal] at q; cases q; exact new
  · rw [ZG hb] at q
    by_cases hbe : b = e
    · have q' : H b = some (.own x) := by
        rcases he with z | z
        · exact absurd (hbe.trans z) hb
        · rw [hbe]; exact z
      rw [q] at q'; cases q'
      obtain ⟨v, hv⟩ := heo
      exact ⟨v, by rw [hbe]; exact hv⟩
    · refine (ok b u q).stay (fun c v hc r => k c v ?_ r) (fun c r => by rw [ZG (nown c b r)]; exact r) fun c xs r => by rw [ZG (ntup c xs r)]; exact r
      rcases hc with rfl | hc
      · exact hbe
      · rintro rfl
        rcases he with z | z
        · exact nown c b hc z
        · rw [hc] at z; cases z; exact hb rfl
end
structure Un (fs ex : List Addr) (H H' : Hp) (h h' : Heap) : Prop where
  keep : ∀ b o, h.get? b = some o → H b = none → b ∉ fs → b ∉ ex → h'.get? b = some o
  slot : ∀ b o, h.get? b = some o → H b = none → b ∈ fs → b ∉ ex → ∃ sl, h'.get? b = some { o with slots := sl }
  free : ∀ b o, h.get? b = some o → H b = none → b ∉ ex → H' b = none
  there : ∀ b o, h.get? b = some o → b ∉ ex → ∃ o', h'.get? b = some o'
  tups : ∀ b xs, H b = some (.tup xs) → H' b = some (.tup xs)
  frzs : ∀ b o u, H b = some (.frz o u) → H' b = some (.frz o u)
  tbls : ∀ b ps, H b = some (.tbl ps) → ∃ more, H' b = some (.tbl (ps ++ more))
section
variable {fs fs' ex ex' : List Addr} {H H1 H2 : Hp} {h h1 h2 h' : Heap} {a x e : Addr} {o : HO}
theorem Un.any (u : Un fs ex H H1 h h1) {b : Addr} {ob : Obj} (q : h.get? b = some ob) (n : H b = none) (hx : b ∉ ex) : ∃ sl, h1.get? b = some { ob with slots := sl } := by
  by_cases hb : b ∈ fs
  · exact u.slot b ob q n hb hx
  · exact ⟨ob.slots, u.keep b ob q n hb hx⟩
theorem Un.trans (a : Un fs ex H H1 h h1) (b : Un fs ex H1 H2 h1 h2) : Un fs ex H H2 h h2 where
  keep := fun c ob q n hc hx => b.keep c ob (a.keep c ob q n hc hx) (a.free c ob q n hx) hc hx
  slot := fun c ob q n hc hx => by
    obtain ⟨sl, e1⟩ := a.slot c ob q n hc hx
    obtain ⟨sl', e2⟩ := b.slot c _ e1 (a.free c ob q n hx) hc hx
    exact ⟨sl', e2⟩
  free := fun c ob q n hx => by
    obtain ⟨o', e1⟩ := a.there c ob q hx
    exact b.free c o' e1 (a.free c ob q n hx) hx
  there := fun c ob q hx => by
    obtain ⟨o', e1⟩ := a.there c ob q hx
    exact b.there c o' e1 hx
  tups := fun c xs q => b.tups c xs (a.tups c xs q)
  frzs := fun c ob xs q => b.frzs c ob xs (a.frzs c ob xs q)
  tbls := fun c ps q => by
    obtain ⟨m1, e1⟩ := a.tbls c ps q
    obtain ⟨m2, e2⟩ := b.tbls c _ e1
    exact ⟨m1 ++ m2, by rw [e2, Array.append_assoc]⟩
theorem Un.kept (k : ∀ b u, h.get? b = some u → h'.get? b = some u) : Un fs ex H H h h' :=
  ⟨fun b ob q _ _ _ => k b ob q, fun b ob q _ _ _ => ⟨ob.slots, k b ob q⟩, fun _ _ _ n _ => n, fun b ob q _ => ⟨ob, k b ob q⟩, fun _ _ q => q, fun _ _ _ q => q, fun _ ps q => ⟨#[], by rw [q]; simp⟩⟩
theorem Un.refl : Un fs ex H H h h := Un.kept fun _ _ q => q
theorem Un.laid (k : ∀ b u, h.get? b = some u → h'.get? b = some u) (hp : h.objs.size ≤ a) (hn : H a = none) : Un fs ex H (upd H a o) h h' where
  keep := fun b u q _ _ _ => k b u q
  slot := fun b u q _ _ _ => ⟨u.slots, k b u q⟩
  free := fun b u q n _ => by rw [ZG (Nat.ne_of_lt (Nat.lt_of_lt_of_le (Heap.lt_size q) hp))]; exact n
  there := fun b u q _ => ⟨u, k b u q⟩
  tups := fun b xs q => by rw [ZG (ZZ q hn)]; exact q
  frzs := fun b u xs q => by rw [ZG (ZZ q hn)]; exact q
  tbls := fun b ps q => ⟨#[], by rw [ZG (ZZ q hn), q]; simp⟩
theorem Un.write (mu : Mut (H x)) (he : e = x ∨ H e = some (.own x)) (k : ∀ b u, b ≠ e → h.get? b = some u → h'.get? b = some u) (heo : ∃ u, h'.get? e = some u) : Un fs ex H (upd H x o) h h' := by
  have hx : ∀ b, H b = none → b ≠ x := fun b n z => by subst z; rw [n] at mu; exact mu
  have hb : ∀ b, H b = none → b ≠ e := fun b n z => by
    subst z
    rcases he with r | r
    · exact hx b n r
    · rw [n] at r; cases r
  have hm : ∀ b u, H b = some u → ¬ Mut (some u) → b ≠ x := fun b u q nm z => by subst z; rw [q] at mu; exact nm mu
  refine ⟨fun b u q n _ _ => k b u (hb b n) q, fun b u q n _ _ => ⟨u.slots, k b u (hb b n) q⟩, fun b u q n _ => by rw [ZG (hx b n)]; exact n, fun b u q _ => ?_,
    fun b xs q => by rw [ZG (hm b _ q fun z => z)]; exact q, fun b u xs q => by rw [ZG (hm b _ q fun z => z)]; exact q, fun b ps q => ⟨#[], by rw [ZG (hm b _ q fun z => z), q]; simp⟩⟩
  by_cases hbe : b = e
  · subst hbe; exact heo
  · exact ⟨u, k b u hbe q⟩
theorem Un.mono (u : Un fs ex H H1 h h1) (hs : ∀ b ∈ fs, b ∈ fs') (hx : ∀ b ∈ ex, b ∈ ex') : Un fs' ex' H H1 h h1 :=
  ⟨fun b ob q n hb he => u.keep b ob q n (fun z => hb (hs b z)) fun z => he (hx b z), fun _ _ q n _ he => u.any q n fun z => he (hx _ z), fun b ob q n he => u.free b ob q n fun z => he (hx b z), fun b ob q he => u.there b ob q fun z => he (hx b z), u.tups, u.frzs, u.tbls⟩
end
noncomputable def trk (h : Heap) (H : Hp) : List Addr := (List.range h.objs.size).filter fun a => (H a).isSome
noncomputable def Zhn (h : Heap) (H : Hp) : Heap := PySem.W.hideAll h (trk h H)
theorem ZfQ (h : Heap) (H : Hp) : (Zhn h H).objs.size = h.objs.size := PySem.W.hideAll_size _ _
theorem ZeN {h : Heap} {H : Hp} {b : Addr} {o : Obj} (e : h.get? b = some o) (n : H b = none) : (Zhn h H).get? b = some o :=
  PySem.W.hideAll_get _ e fun hm => by
    have q : (H b).isSome = true := (List.mem_filter.mp hm).2
    rw [n] at q; simp at q
theorem ZfR {h : Heap} {H : Hp} {b : Addr} {o : Obj} (e : (Zhn h H).get? b = some o) : h.get? b = some o ∧ H b = none := by
  have e' : h.get? b = some o := PySem.W.of_hideAll (trk h H) e
  refine ⟨e', ?_⟩
  cases q : H b with
  | none => rfl
  | some x =>
    have hm : b ∈ trk h H := List.mem_filter.mpr ⟨List.mem_range.mpr (Heap.lt_size e'), by simp [q]⟩
    have z : (Zhn h H).get? b = none := PySem.W.hideAll_none (trk h H) hm
    rw [z] at e; cases e
noncomputable def Zi5 (g h : Heap) (L : Addr) : List (Addr × Obj) := (List.range h.objs.size).filterMap fun a => if a = L ∨ (g.get? a).isSome = true then none else (h.get? a).map fun o => (a, o)
noncomputable def Zdv (g h : Heap) (L d : Addr) : List (Addr × Obj) := (Zi5 g h L).filter fun p => decide (p.1 ≠ d)
end L2
namespace L2
open PySem PySem.Spec PyProof.Rows
structure Mod (K : PySem.W.Frag) (mg : Str → Option Value) (base : Heap) : Prop where
  kin : K.In base
  glob : base.Ns mainGlobals mg
  blt : ∃ mb, base.Ns builtinsNs mb ∧ ∀ x : Str, x ≠ "__name__" → mb x = bootBuiltins x
  nolimit : base.NoLimit
structure Cx where
  prog : Program
  w : World
  K : PySem.W.Frag
  mg : Str → Option Value
  base : Heap
  A : Around
  N : List Str
  s₀ : Shared
  H₀ : Hp
  env : Env
  outer : List Env
  stack : List Env
  ex : List Addr
  fn : Str → Bool
  calm : Bool
  pn : List (Addr × Obj)
  xe : Value → Shared → Prop
noncomputable def frs (l : List Env) : List Addr := l.filterMap (·.frame)
noncomputable abbrev Cx.fs (X : Cx) : List Addr := frs X.outer
noncomputable def Vis (sc : Scope) (x : Str) : Prop := sc.names.lookup x = some .local ∨ sc.names.lookup x = some .cell ∨ sc.names.lookup x = some .free
noncomputable def Loc (sc : Scope) (x : Str) : Prop := sc.names.lookup x = some .local ∨ sc.names.lookup x = some .cell
noncomputable def ZqJ (env : Env) (h : Heap) (m : Str → Option Value) (x : Str) (u : Value) : Prop :=
  (env.kindOf x = some .local ∧ m x = some u) ∨ ((env.kindOf x = some .cell ∨ env.kindOf x = some .free) ∧ ∃ c, env.cells.lookup x = some c ∧ h.IsCell c (some u))
structure Cx.Ok (X : Cx) : Prop where
  mod : Mod X.K X.mg X.base
  kind : X.env.scope.kind = .function
  glob : X.env.globals = mainGlobals
  blt : X.env.builtins = builtinsNs
  above : X.s₀.heap.objs.size ≤ X.env.locals
  inj : ∀ x y c, X.env.cells.lookup x = some c → X.env.cells.lookup y = some c → x = y
  has : ∀ x, (X.env.kindOf x = some .cell ∨ X.env.kindOf x = some .free) → ∃ c, X.env.cells.lookup x = some c
  cab : ∀ x c, X.fn x = true → X.env.cells.lookup x = some c → X.s₀.heap.objs.size ≤ c
  hd : X.calm = true → X.A.handled = none
  frames : X.A.frames = some X.stack
  stk : X.stack = X.outer ∨ (X.stack = X.env :: X.outer ∧ X.env.frame = some X.env.locals)
  exf : ∀ b ∈ X.ex, b ≠ X.env.locals ∧ ∀ x c, X.env.cells.lookup x = some c → c ≠ b
  bs : ∀ b o, X.base.get? b = some o → X.s₀.heap.get? b = some o ∧ X.H₀ b = none
  bsz : X.base.objs.size ≤ X.s₀.heap.objs.size
  noex : ∀ b o, X.base.get? b = some o → b ∉ X.ex
  exfs : ∀ b ∈ X.ex, b ∉ X.fs
  funs : X.s₀.heap.FunFrames X.base X.outer
  frf : ∀ b ∈ X.fs, X.H₀ b = none
noncomputable def Qd (A : Around) (H : Hp) : Prop := A.handled = none ∨ ∃ ea oe u vs, A.handled = some (.ref ea) ∧ H ea = some (.frz oe u) ∧ oe.data = .fields vs ∧ vs[2]? = some .none
theorem Qd.mono {A : Around} {H H' : Hp} (q : Qd A H) (k : ∀ b o u, H b = some (.frz o u) → H' b = some (.frz o u)) : Qd A H' := by
  rcases q with q | ⟨ea, oe, u, vs, e1, e2, e3, e4⟩
  · exact .inl q
  · exact .inr ⟨ea, oe, u, vs, e1, k _ _ _ e2, e3, e4⟩
structure Inv (X : Cx) (pins : List (Addr × Obj)) (σ : List (Option V)) (H : Hp) (s : Shared) : Prop where
  ok : X.Ok
  os : s.os = X.s₀.os
  bare : AllBare s.gens
  base : Un X.fs X.ex X.H₀ H X.s₀.heap s.heap
  loc : ∃ m, s.heap.Ns X.env.locals m ∧ ∀ (i : Nat) (x : Str) (v : V), X.N[i]? = some x → σ[i]? = some (some v) → Vis X.env.scope x → ∃ u, Zab v u ∧ ZqJ X.env s.heap m x u
  cell : ∀ x c, X.env.cells.lookup x = some c → ∃ v, s.heap.IsCell c v
  free : H X.env.locals = none
  freeC : ∀ x c, X.env.cells.lookup x = some c → H c = none
  pin : ∀ p ∈ X.pn ++ pins, s.heap.get? p.1 = some p.2 ∧ H p.1 = none ∧ p.1 ≠ X.env.locals ∧ p.1 ∉ X.fs ∧ ∀ v, p.2.data ≠ .cell v
  hok : HOk X.prog X.w H s.heap
  len : σ.length = X.N.length
  qd : Qd X.A H
section
variable {X : Cx} {pins : List (Addr × Obj)} {σ : List (Option V)} {H H' : Hp} {s : Shared} {h' : Heap}
theorem Cx.Ok.nofr (ok : X.Ok) {b : Addr} {o : Obj} (e : X.base.get? b = some o) : b ∉ X.fs := fun hb => by
  have := (ok.funs.mem hb).1
  rw [e] at this; cases this
theorem Inv.bs (I : Inv X pins σ H s) : ∀ b o, X.base.get? b = some o → s.heap.get? b = some o ∧ H b = none := fun b o e =>
  ⟨I.base.keep b o (I.ok.bs b o e).1 (I.ok.bs b o e).2 (I.ok.nofr e) (I.ok.noex b o e), I.base.free b o (I.ok.bs b o e).1 (I.ok.bs b o e).2 (I.ok.noex b o e)⟩
theorem Inv.qh (I : Inv X pins σ H s) : DQ.Zbs X.A s.heap := by
  rcases I.qd with q | ⟨ea, oe, u, vs, e1, e2, e3, e4⟩
  · exact .inl q
  · exact .inr ⟨ea, oe, vs, e1, (I.hok _ _ e2).1, e3, e4⟩
theorem Inv.bk (I : Inv X pins σ H s) : ∀ b o, X.base.get? b = some o → s.heap.get? b = some o := fun b o e => (I.bs b o e).1
theorem Inv.mod (I : Inv X pins σ H s) : Mod X.K X.mg X.base := I.ok.mod
theorem Inv.kIn (I : Inv X pins σ H s) : X.K.In s.heap := I.ok.mod.kin.keeps I.bk
theorem Inv.nolimit (I : Inv X pins σ H s) : s.heap.NoLimit := I.ok.mod.nolimit.keeps I.bk
theorem Inv.fr (I : Inv X pins σ H s) : ∃ m, Fr X.base X.env.locals s.heap m :=
  let ⟨m, hn, _⟩ := I.loc
  ⟨m, hn, I.bk, Nat.le_trans I.ok.bsz I.ok.above⟩
theorem Inv.lt (I : Inv X pins σ H s) : X.env.locals < s.heap.objs.size := let ⟨_, hn, _⟩ := I.loc; hn.lt
theorem Inv.sz (I : Inv X pins σ H s) : X.s₀.heap.objs.size ≤ s.heap.objs.size := Nat.le_trans I.ok.above (Nat.le_of_lt I.lt)
theorem Inv.nofs (I : Inv X pins σ H s) {a : Addr} (h : s.heap.objs.size ≤ a) : a ∉ X.fs := fun hb => by
  obtain ⟨_, o, ho, _⟩ := I.ok.funs.mem hb
  exact absurd (Nat.lt_of_lt_of_le (Heap.lt_size ho) (Nat.le_trans I.sz h)) (Nat.lt_irrefl _)
theorem Inv.cne (I : Inv X pins σ H s) : ∀ x c, X.env.cells.lookup x = some c → c ≠ X.env.locals := fun x c e z => by
  obtain ⟨v, o, ho, hd⟩ := I.cell x c e
  obtain ⟨m, ⟨o', es, ep, ho', hd', _⟩, _⟩ := I.loc
  rw [z, ho'] at ho; cases ho; rw [hd'] at hd; cases hd
theorem Inv.funs (I : Inv X pins σ H s) : s.heap.FunFrames X.base X.outer := by
  have all : ∀ (l : List Env), (∀ b ∈ frs l, b ∈ X.fs) → X.s₀.heap.FunFrames X.base l → s.heap.FunFrames X.base l := by
    intro l
    induction l with
    | nil => intro _ _; trivial
    | cons env r ih =>
      intro hs hl
      obtain ⟨hk, ⟨L, o, hf, hn, ho, hd⟩, hr⟩ := hl
      have hL : L ∈ X.fs := hs L (by unfold frs; rw [List.filterMap_cons, hf]; exact List.mem_cons_self)
      obtain ⟨sl, e⟩ := I.base.slot L o ho (I.ok.frf L hL) hL fun z => I.ok.exfs L z hL
      exact ⟨hk, ⟨L, _, hf, hn, e, hd⟩, ih (fun b hb => hs b (by unfold frs; rw [List.filterMap_cons, hf]; exact List.mem_cons_of_mem _ hb)) hr⟩
  exact all X.outer (fun _ hb => hb) I.ok.funs
theorem Inv.stack (I : Inv X pins σ H s) : s.heap.FunFrames X.base X.stack := by
  rcases I.ok.stk with e | ⟨e, hf⟩
  · rw [e]; exact I.funs
  · rw [e]
    obtain ⟨m, hn, _⟩ := I.loc
    refine .cons (by rw [I.ok.kind]; decide) hf hn ?_ I.funs
    exact Heap.get?_none_of_le (Nat.le_trans I.ok.bsz I.ok.above)
theorem Inv.stkSub (I : Inv X pins σ H s) : ∀ b ∈ frs X.stack, b ∈ X.env.locals :: X.fs := fun b hb => by
  rcases I.ok.stk with e | ⟨e, hf⟩
  · rw [e] at hb; exact List.mem_cons_of_mem _ hb
  · rw [e] at hb
    unfold frs at hb
    rw [List.filterMap_cons, hf] at hb
    exact hb
theorem Inv.stkFree (I : Inv X pins σ H s) : ∀ b ∈ frs X.stack, H b = none := fun b hb => by
  rcases List.mem_cons.mp (I.stkSub b hb) with e | hb
  · rw [e]; exact I.free
  · obtain ⟨_, o, ho, _⟩ := I.ok.funs.mem hb
    exact I.base.free b o ho (I.ok.frf b hb) fun z => I.ok.exfs b z hb
theorem Inv.step {g' : Array GenState} {t' : Nat} {d' : Drawn} {ch : List Addr} (I : Inv X pins σ H s)
    (hch : ∀ b ∈ ch, (b ∈ X.ex ∨ X.s₀.heap.objs.size ≤ b) ∧ b ≠ X.env.locals ∧ (∀ x c, X.env.cells.lookup x = some c → c ≠ b) ∧ ∀ p ∈ X.pn ++ pins, p.1 ≠ b)
    (keep : ∀ b o, b ≠ X.env.locals → b ∉ X.fs → b ∉ ch → s.heap.get? b = some o → H b = none → h'.get? b = some o)
    (slot : ∀ b o, b ≠ X.env.locals → b ∈ X.fs → b ∉ ch → s.heap.get? b = some o → H b = none → ∃ sl, h'.get? b = some { o with slots := sl }) (free : ∀ b o, b ∉ ch → s.heap.get? b = some o → H b = none → H' b = none)
    (there : ∀ b o, b ∉ ch → s.heap.get? b = some o → ∃ o', h'.get? b = some o')
    (tups : ∀ b xs, H b = some (.tup xs) → H' b = some (.tup xs)) (frzs : ∀ b o u, H b = some (.frz o u) → H' b = some (.frz o u)) (tbls : ∀ b ps, H b = some (.tbl ps) → ∃ more, H' b = some (.tbl (ps ++ more)))
    (ns : ∀ m, s.heap.Ns X.env.locals m → h'.Ns X.env.locals m) (hok : HOk X.prog X.w H' h') (hg : AllBare g') :
    Inv X pins σ H' { s with heap := h', gens := g', drawn := d', toks := t' } := by
  have neL : ∀ b o, X.s₀.heap.get? b = some o → b ≠ X.env.locals := fun b o e => Nat.ne_of_lt (Nat.lt_of_lt_of_le (Heap.lt_size e) I.ok.above)
  have neC : ∀ b o, X.s₀.heap.get? b = some o → b ∉ X.ex → b ∉ ch := fun b o e hx hb => by
    rcases (hch b hb).1 with z | z
    · exact hx z
    · exact absurd (Nat.lt_of_lt_of_le (Heap.lt_size e) z) (Nat.lt_irrefl _)
  have cellK : ∀ x c, X.env.cells.lookup x = some c → ∀ v, s.heap.IsCell c v → h'.IsCell c v := fun x c e v ⟨o, ho, hd⟩ => by
    have nch : c ∉ ch := fun z => (hch c z).2.2.1 x c e rfl
    by_cases hc : c ∈ X.fs
    · obtain ⟨sl, q⟩ := slot c o (I.cne x c e) hc nch ho (I.freeC x c e)
      exact ⟨_, q, hd⟩
    · exact ⟨o, keep c o (I.cne x c e) hc nch ho (I.freeC x c e), hd⟩
  refine ⟨I.ok, I.os, hg, ⟨fun b o e n hb hx => ?_, fun b o e n hb hx => ?_, fun b o e n hx => ?_, fun b o e hx => ?_, fun b xs e => tups b xs (I.base.tups b xs e), fun b o xs e => frzs b o xs (I.base.frzs b o xs e), fun b ps e => ?_⟩, ?_, fun x c e => ?_, ?_, fun x c e => ?_, fun p hp => ?_, hok, I.len, I.qd.mono frzs⟩
  · exact keep b o (neL b o e) hb (neC b o e hx) (I.base.keep b o e n hb hx) (I.base.free b o e n hx)
  · obtain ⟨sl, e1⟩ := I.base.slot b o e n hb hx
    obtain ⟨sl', e2⟩ := slot b _ (neL b o e) hb (neC b o e hx) e1 (I.base.free b o e n hx)
    exact ⟨sl', e2⟩
  · obtain ⟨o', e1⟩ := I.base.there b o e hx
    exact free b o' (neC b o e hx) e1 (I.base.free b o e n hx)
  · obtain ⟨o', e1⟩ := I.base.there b o e hx
    exact there b o' (neC b o e hx) e1
  · obtain ⟨m1, e1⟩ := I.base.tbls b ps e
    obtain ⟨m2, e2⟩ := tbls b _ e1
    exact ⟨m1 ++ m2, by rw [e2, Array.append_assoc]⟩
  · obtain ⟨m, hn, hl⟩ := I.loc
    refine ⟨m, ns m hn, fun i x v e1 e2 e3 => ?_⟩
    obtain ⟨u, r, l⟩ := hl i x v e1 e2 e3
    refine ⟨u, r, ?_⟩
    rcases l with l | ⟨k, c, e, z⟩
    · exact .inl l
    · exact .inr ⟨k, c, e, cellK x c e _ z⟩
  · obtain ⟨v, z⟩ := I.cell x c e
    exact ⟨v, cellK x c e v z⟩
  · obtain ⟨m, ⟨o, _, _, ho, _⟩, _⟩ := I.loc
    exact free _ o (fun z => (hch _ z).2.1 rfl) ho I.free
  · obtain ⟨v, o, ho, hd⟩ := I.cell x c e
    exact free c o (fun z => (hch c z).2.2.1 x c e rfl) ho (I.freeC x c e)
  · obtain ⟨e, n, ne, nf, d⟩ := I.pin p hp
    have nch : p.1 ∉ ch := fun z => (hch p.1 z).2.2.2 p hp rfl
    exact ⟨keep p.1 p.2 ne nf nch e n, free p.1 p.2 nch e n, ne, nf, d⟩
theorem Inv.un {t' : Nat} (I : Inv X pins σ H s) (u : Un X.fs [] H H' s.heap h') (hok : HOk X.prog X.w H' h') : Inv X pins σ H' { s with heap := h', toks := t' } := by
  obtain ⟨m, ⟨o, es, ep, ho, r⟩, _⟩ := id I.loc
  obtain ⟨sl, hL⟩ := u.any ho I.free (by simp)
  exact I.step (g' := s.gens) (d' := s.drawn) (ch := []) (fun _ z => nomatch z) (fun b o _ hb _ e n => u.keep b o e n hb (by simp)) (fun b o _ hb _ e n => u.slot b o e n hb (by simp)) (fun b o _ e n => u.free b o e n (by simp)) (fun b o _ e => u.there b o e (by simp)) u.tups u.frzs u.tbls (fun m' hm => by
    obtain ⟨o', es', ep', ho', r'⟩ := hm
    rw [ho] at ho'; cases ho'
    exact ⟨_, es', ep', hL, r'⟩) hok I.bare
theorem Inv.call {g' : Array GenState} {t' : Nat} {d' : Drawn} {ch : List Addr} (I : Inv X pins σ H s) (u : Un (frs X.stack) ch H H' s.heap h') (hok : HOk X.prog X.w H' h') (hg : AllBare g')
    (hch : ∀ b ∈ ch, (b ∈ X.ex ∨ X.s₀.heap.objs.size ≤ b) ∧ b ≠ X.env.locals ∧ (∀ x c, X.env.cells.lookup x = some c → c ≠ b) ∧ ∀ p ∈ X.pn ++ pins, p.1 ≠ b) :
    Inv X pins σ H' { s with heap := h', gens := g', drawn := d', toks := t' } := by
  obtain ⟨m, ⟨o, es, ep, ho, r⟩, _⟩ := id I.loc
  obtain ⟨sl, hL⟩ := u.any ho I.free fun z => (hch _ z).2.1 rfl
  exact I.step (ch := ch) hch (fun b o hL hb hc e n => u.keep b o e n (fun z => (List.mem_cons.mp (I.stkSub b z)).elim hL hb) hc) (fun b o _ _ hc e n => u.any e n hc) (fun b o hc e n => u.free b o e n hc) (fun b o hc e => u.there b o e hc) u.tups u.frzs u.tbls (fun m' hm => by
    obtain ⟨o', es', ep', ho', r'⟩ := hm
    rw [ho] at ho'; cases ho'
    exact ⟨_, es', ep', hL, r'⟩) hok hg
theorem Inv.turned {t' : Nat} {it : Addr} (I : Inv X pins σ H s) (k : ∀ b o, b ≠ it → s.heap.get? b = some o → h'.get? b = some o) (hn : H it = none) (hL : it ≠ X.env.locals)
    (h1 : it ∈ X.ex ∨ X.s₀.heap.objs.size ≤ it) (h2 : ∀ x c, X.env.cells.lookup x = some c → c ≠ it) (h3 : ∀ p ∈ X.pn ++ pins, p.1 ≠ it) : Inv X pins σ H { s with heap := h', toks := t' } := by
  have nit : ∀ b u, H b = some u → b ≠ it := fun b u e z => by rw [z, hn] at e; cases e
  refine I.step (g' := s.gens) (d' := s.drawn) (ch := [it]) (fun b hb => ?_) (fun b o _ _ hc e _ => k b o (fun z => hc (by simp [z])) e) (fun b o _ _ hc e _ => ⟨o.slots, k b o (fun z => hc (by simp [z])) e⟩) (fun _ _ _ _ n => n)
    (fun b o hc e => ⟨o, k b o (fun z => hc (by simp [z])) e⟩) (fun _ _ e => e) (fun _ _ _ e => e) (fun b ps e => ⟨#[], by rw [e]; simp⟩) (fun m hm => ?_) (fun b u e => ?_) I.bare
  · have e : b = it := by simpa using hb
    subst e
    exact ⟨h1, hL, h2, h3⟩
  · obtain ⟨o, es, ep, ho, r⟩ := hm
    exact ⟨o, es, ep, k _ o (Ne.symm hL) ho, r⟩
  · refine (I.hok b u e).stay (fun c v hc q => k c v ?_ q) (fun _ q => q) fun _ _ q => q
    rcases hc with z | z
    · rw [z]; exact nit b u e
    · exact nit c _ z
theorem Inv.tok (I : Inv X pins σ H s) (t : Nat) : Inv X pins σ H { s with toks := t } := I.un (h' := s.heap) (t' := t) Un.refl I.hok
theorem Inv.kept {t' : Nat} (I : Inv X pins σ H s) (k : ∀ b u, s.heap.get? b = some u → h'.get? b = some u) : Inv X pins σ H { s with heap := h', toks := t' } := I.un (Un.kept k) (I.hok.kept k)
theorem Inv.laid {a : Addr} {o : HO} {t' : Nat} (I : Inv X pins σ H s) (k : ∀ b u, s.heap.get? b = some u → h'.get? b = some u) (hp : s.heap.objs.size ≤ a) (new : ZbI X.prog X.w (upd H a o) h' a o) :
    Inv X pins σ (upd H a o) { s with heap := h', toks := t' } := I.un (Un.laid k hp (I.hok.fresh hp)) (I.hok.laid k hp new)
theorem Inv.write {x e : Addr} {o : HO} {t' : Nat} (I : Inv X pins σ H s) (mu : Mut (H x)) (he : e = x ∨ H e = some (.own x)) (k : ∀ b u, b ≠ e → s.heap.get? b = some u → h'.get? b = some u) (heo : ∃ u, h'.get? e = some u)
    (new : ZbI X.prog X.w (upd H x o) h' x o) : Inv X pins σ (upd H x o) { s with heap := h', toks := t' } := I.un (Un.write mu he k heo) (I.hok.write mu he k heo new)
theorem Inv.pins_of {pins' : List (Addr × Obj)} (I : Inv X pins σ H s) (h : ∀ p ∈ pins', s.heap.get? p.1 = some p.2 ∧ H p.1 = none ∧ p.1 ≠ X.env.locals ∧ p.1 ∉ X.fs ∧ ∀ v, p.2.data ≠ .cell v) : Inv X pins' σ H s :=
  ⟨I.ok, I.os, I.bare, I.base, I.loc, I.cell, I.free, I.freeC, fun p hp => (List.mem_append.mp hp).elim (fun z => I.pin p (List.mem_append_left _ z)) (h p), I.hok, I.len, I.qd⟩
theorem ZeO {N : List Str} (hN : N.Nodup) {i j : Nat} {x : Str} (a : N[i]? = some x) (b : N[j]? = some x) : i = j := by
  obtain ⟨h1, e1⟩ := List.getElem?_eq_some_iff.mp a
  obtain ⟨h2, e2⟩ := List.getElem?_eq_some_iff.mp b
  exact (List.getElem_inj hN).mp (e1.trans e2.symm)
theorem Zdw {M : Model} {A : Around} {E : Value → Shared → Prop} {i : Nat} {x : Str} {v : V} {u : Value} {Q : Unit → Shared → Prop} (I : Inv X pins σ H s) (hN : X.N.Nodup) (hi : X.N[i]? = some x) (hx : Loc X.env.scope x) (r : Zab v u)
    (h : ∀ s', Inv X pins (σ.set i (some v)) H s' → (∃ a, Heap.SameBut a s.heap s'.heap ∧ (a = X.env.locals ∨ X.env.cells.lookup x = some a)) → Q () s') (hf : X.fn x = true ∨ X.env.scope.names.lookup x = some .local := by first | exact .inl rfl | exact .inr rfl | assumption) : wpAny M A (storeName X.env x u) Q E s := by
  obtain ⟨m, hn, hl⟩ := id I.loc
  have hcls : (X.env.scope.kind == .class || (X.env.scope.kind == .module && X.env.locals != X.env.globals)) = false := by rw [I.ok.kind]; rfl
  have hiσ : i < σ.length := by rw [I.len]; exact (List.getElem?_eq_some_iff.mp hi).1
  have cne := I.cne
  have tracked : ∀ {a : Addr} {h' : Heap}, (∃ o, s.heap.get? a = some o ∧ H a = none) → Heap.SameBut a s.heap h' → HOk X.prog X.w H h' := fun {a h'} ha hs b ob e => by
    obtain ⟨_, _, hfree⟩ := ha
    refine (I.hok b ob e).stay (fun c w' hc q => (hs.2 c ?_).trans q) (fun _ q => q) fun _ _ q => q
    rintro rfl
    rcases hc with rfl | hc
    · rw [hfree] at e; cases e
    · rw [hfree] at hc; cases hc
  rcases hx with hk | hk
  · refine wpAny_storeName_local hk hn (fun h' hn' hs => ?_) hcls
    obtain ⟨oL, _, _, hoL, _⟩ := id hn
    refine h _ ⟨I.ok, I.os, I.bare, ⟨fun b o e n hb hx => ?_, fun b o e n hb hx => ?_, I.base.free, fun b o e hx => ?_, I.base.tups, I.base.frzs, I.base.tbls⟩, ⟨_, hn', fun j y v' e1 e2 e3 => ?_⟩, fun y c e => ?_, I.free, I.freeC, fun p hp => ?_, tracked ⟨oL, hoL, I.free⟩ hs, by simpa using I.len, I.qd⟩ ⟨_, hs, .inl rfl⟩
    · exact (hs.2 b (Nat.ne_of_lt (Nat.lt_of_lt_of_le (Heap.lt_size e) I.ok.above))).trans (I.base.keep b o e n hb hx)
    · obtain ⟨sl, e1⟩ := I.base.slot b o e n hb hx
      exact ⟨sl, (hs.2 b (Nat.ne_of_lt (Nat.lt_of_lt_of_le (Heap.lt_size e) I.ok.above))).trans e1⟩
    · obtain ⟨o', e1⟩ := I.base.there b o e hx
      exact ⟨o', (hs.2 b (Nat.ne_of_lt (Nat.lt_of_lt_of_le (Heap.lt_size e) I.ok.above))).trans e1⟩
    · by_cases hj : j = i
      · subst hj
        rw [hi] at e1; cases e1
        rw [List.getElem?_set_self hiσ] at e2
        cases e2
        exact ⟨u, r, .inl ⟨hk, by simp⟩⟩
      · rw [List.getElem?_set_ne (Ne.symm hj)] at e2
        obtain ⟨u', r', q⟩ := hl j y v' e1 e2 e3
        refine ⟨u', r', ?_⟩
        rcases q with ⟨k, e⟩ | ⟨k, c, e, z⟩
        · refine .inl ⟨k, ?_⟩
          have : y ≠ x := fun e => hj (ZeO hN e1 (e ▸ hi))
          simp [this, e]
        · exact .inr ⟨k, c, e, z.sameBut hs (cne y c e)⟩
    · obtain ⟨w', z⟩ := I.cell y c e
      exact ⟨w', z.sameBut hs (cne y c e)⟩
    · obtain ⟨e, n, ne, nf, d⟩ := I.pin p hp
      exact ⟨(hs.2 p.1 ne).trans e, n, ne, nf, d⟩
  · have hfn : X.fn x = true := by
      rcases hf with z | z
      · exact z
      · rw [z] at hk; cases hk
    obtain ⟨c, hc⟩ := I.ok.has x (.inl hk)
    obtain ⟨w', z⟩ := I.cell x c hc
    refine wpAny_storeName_cell I.ok.kind hk hc z (fun h' hc' hs => ?_)
    obtain ⟨oc, hoc, hocd⟩ := id z
    refine h { s with heap := h' } ⟨I.ok, I.os, I.bare, ⟨fun b o e n hb hx => ?_, fun b o e n hb hx => ?_, I.base.free, fun b o e hx => ?_, I.base.tups, I.base.frzs, I.base.tbls⟩, ⟨m, hn.sameBut hs (Ne.symm (cne x c hc)), fun j y v' e1 e2 e3 => ?_⟩, fun y c' e => ?_, I.free, I.freeC, fun p hp => ?_, tracked ⟨oc, hoc, I.freeC x c hc⟩ hs, by simpa using I.len, I.qd⟩ ⟨c, hs, .inr hc⟩
    · exact (hs.2 b (Nat.ne_of_lt (Nat.lt_of_lt_of_le (Heap.lt_size e) (I.ok.cab x c hfn hc)))).trans (I.base.keep b o e n hb hx)
    · obtain ⟨sl, e1⟩ := I.base.slot b o e n hb hx
      exact ⟨sl, (hs.2 b (Nat.ne_of_lt (Nat.lt_of_lt_of_le (Heap.lt_size e) (I.ok.cab x c hfn hc)))).trans e1⟩
    · obtain ⟨o', e1⟩ := I.base.there b o e hx
      exact ⟨o', (hs.2 b (Nat.ne_of_lt (Nat.lt_of_lt_of_le (Heap.lt_size e) (I.ok.cab x c hfn hc)))).trans e1⟩
    · by_cases hj : j = i
      · subst hj
        rw [hi] at e1; cases e1
        rw [List.getElem?_set_self hiσ] at e2
        cases e2
        exact ⟨u, r, .inr ⟨.inl hk, c, hc, hc'⟩⟩
      · rw [List.getElem?_set_ne (Ne.symm hj)] at e2
        obtain ⟨u', r', q⟩ := hl j y v' e1 e2 e3
        refine ⟨u', r', ?_⟩
        rcases q with q | ⟨k, c', e, z'⟩
        · exact .inl q
        · refine .inr ⟨k, c', e, z'.sameBut hs ?_⟩
          rintro rfl
          exact hj (ZeO hN e1 (I.ok.inj _ _ _ e hc ▸ hi))
    · by_cases hcc : c' = c
      · subst hcc; exact ⟨_, hc'⟩
      · obtain ⟨w2, z2⟩ := I.cell y c' e
        exact ⟨w2, z2.sameBut hs hcc⟩
    · obtain ⟨e, n, ne, nf, d⟩ := I.pin p hp
      refine ⟨(hs.2 p.1 ?_).trans e, n, ne, nf, d⟩
      intro q
      rw [q, hoc] at e
      have q' : oc = p.2 := Option.some.inj e
      exact d w' (by rw [← q']; exact hocd)
theorem Zce {M : Model} {A : Around} {E : Value → Shared → Prop} {i : Nat} {x : Str} {v : V} {u : Value} {Q : Unit → Shared → Prop} (I : Inv X pins σ H s) (hN : X.N.Nodup) (hi : X.N[i]? = some x) (hx : Loc X.env.scope x) (r : Zab v u)
    (h : ∀ s', Inv X pins (σ.set i (some v)) H s' → Q () s') (hf : X.fn x = true ∨ X.env.scope.names.lookup x = some .local := by first | exact .inl rfl | exact .inr rfl | assumption) : wpAny M A (storeName X.env x u) Q E s :=
  Zdw I hN hi hx r (fun s' I' _ => h s' I') hf
theorem Inv.call' {s' : Shared} {ch : List Addr} (I : Inv X pins σ H s) (ho : s'.os = s.os) (u : Un (frs X.stack) ch H H' s.heap s'.heap) (hok : HOk X.prog X.w H' s'.heap) (hg : AllBare s'.gens)
    (hch : ∀ b ∈ ch, (b ∈ X.ex ∨ X.s₀.heap.objs.size ≤ b) ∧ b ≠ X.env.locals ∧ (∀ x c, X.env.cells.lookup x = some c → c ≠ b) ∧ ∀ p ∈ X.pn ++ pins, p.1 ≠ b) : Inv X pins σ H' s' := by
  obtain ⟨h', g', d', t', o'⟩ := s'
  have e : o' = s.os := ho
  subst e
  exact I.call (g' := g') (t' := t') (d' := d') u hok hg hch
end
noncomputable abbrev XK := Value → Option Addr → Hp → Prop
noncomputable abbrev St := List (Option V)
noncomputable abbrev VK := V → Hp → Prop
noncomputable abbrev TE := St → Hp → VK → Prop
noncomputable abbrev TT := St → Hp → (Bool → Hp → Prop) → Prop
noncomputable abbrev TA := St → Hp → (List V → Hp → Prop) → Prop
structure Ends where
  nx : St → Hp → Prop
  rt : VK
  bk : St → Hp → Prop := fun _ _ => False
  ct : St → Hp → Prop := fun _ _ => False
noncomputable abbrev TS := Ends → St → Hp → Prop
noncomputable def EP (X : Cx) (pins : List (Addr × Obj)) (σ : St) (Q : VK) (u : Value) (s' : Shared) : Prop := ∃ v H', Inv X pins σ H' s' ∧ Zab v u ∧ Q v H'
noncomputable def TP (X : Cx) (pins : List (Addr × Obj)) (σ : St) (Q : Bool → Hp → Prop) (b : Bool) (s' : Shared) : Prop := ∃ H', Inv X pins σ H' s' ∧ Q b H'
noncomputable def AP (X : Cx) (pins : List (Addr × Obj)) (σ : St) (Q : List V → Hp → Prop) (us : List Value) (s' : Shared) : Prop := ∃ vs H', Inv X pins σ H' s' ∧ ZO vs us ∧ Q vs H'
noncomputable def SP (X : Cx) (pins : List (Addr × Obj)) (D : Ends) (f : Flow) (s' : Shared) : Prop :=
  match f with
  | .next => ∃ σ' H', Inv X pins σ' H' s' ∧ D.nx σ' H'
  | .brk => ∃ σ' H', Inv X pins σ' H' s' ∧ D.bk σ' H'
  | .cont => ∃ σ' H', Inv X pins σ' H' s' ∧ D.ct σ' H'
  | .ret u => ∃ v σ' H', Inv X pins σ' H' s' ∧ Zab v u ∧ D.rt v H'
noncomputable def PE (X : Cx) (e : Expr) (t : TE) : Prop :=
  ∀ (pins : List (Addr × Obj)) (s : Shared) (σ : St) (H : Hp) (Q : VK), Inv X pins σ H s → t σ H Q → wpAny (model X.prog X.w) X.A (eval e X.env) (EP X pins σ Q) X.xe s
noncomputable def PT (X : Cx) (e : Expr) (t : TT) : Prop :=
  ∀ (pins : List (Addr × Obj)) (s : Shared) (σ : St) (H : Hp) (Q : Bool → Hp → Prop), Inv X pins σ H s → t σ H Q → wpAny (model X.prog X.w) X.A (isTrue e X.env (eval e X.env)) (TP X pins σ Q) X.xe s
noncomputable def PW (X : Cx) (e : Expr) (t : TT) : Prop :=
  ∀ (whole : Sem Value) (pins : List (Addr × Obj)) (s : Shared) (σ : St) (H : Hp) (Q : Bool → Hp → Prop), Inv X pins σ H s → t σ H Q → wpAny (model X.prog X.w) X.A (isTrue e X.env whole) (TP X pins σ Q) X.xe s
theorem PW.pt {X : Cx} {e : Expr} {t : TT} (h : PW X e t) : PT X e t := h _
noncomputable def PA (X : Cx) (es : List Expr) (t : TA) : Prop :=
  ∀ (pos : Pos) (pins : List (Addr × Obj)) (s : Shared) (σ : St) (H : Hp) (Q : List V → Hp → Prop), Inv X pins σ H s → t σ H Q → wpAny (model X.prog X.w) X.A (spliced (backTo pos (starEach es X.env))) (AP X pins σ Q) X.xe s
noncomputable def PS (X : Cx) (st : Stmt) (t : TS) : Prop :=
  ∀ (pins : List (Addr × Obj)) (s : Shared) (σ : St) (H : Hp) (D : Ends), Inv X pins σ H s → t D σ H → wpAny (model X.prog X.w) X.A (exec st X.env) (SP X pins D) X.xe s
noncomputable def PSs (X : Cx) (st : List Stmt) (t : TS) : Prop :=
  ∀ (pins : List (Addr × Obj)) (s : Shared) (σ : St) (H : Hp) (D : Ends), Inv X pins σ H s → t D σ H → wpAny (model X.prog X.w) X.A (execs st X.env) (SP X pins D) X.xe s
theorem thn {α : Type} {t : Sem α} {Q Q' : α → Shared → Prop} {M : Model} {A : Around} {E : Value → Shared → Prop} {s : Shared} (h : wpAny M A t Q E s) (hQ : ∀ a s, Q a s → Q' a s) : wpAny M A t Q' E s := wpAny_mono h hQ fun _ _ x => x
end L2
namespace L2
open PySem PySem.Spec PyProof.Rows
section
variable {X : Cx}
noncomputable def ZqK (i : Nat) : TE := fun σ H Q => ∃ v, σ[i]? = some (some v) ∧ Q v H
noncomputable def tC (v : V) : TE := fun _ H Q => Q v H
theorem ZkL {i : Nat} {x : Str} {pos : Pos} (hN : X.N[i]? = some x) (hv : Vis X.env.scope x) (hd : (x == ("__debug__" : Str)) = false := by decide) (hcd : (x == ("__classdict__" : Str)) = false := by decide) : PE X (.Name x pos) (ZqK i) := by
  intro pins s σ H Q I h
  obtain ⟨v, e, h⟩ := h
  obtain ⟨m, hn, hl⟩ := I.loc
  obtain ⟨u, r, l⟩ := hl i x v hN e hv
  have fin : EP X pins σ Q u s := ⟨v, H, I, r, h⟩
  rcases l with ⟨hk, hm⟩ | ⟨hk, c, hc, hcell⟩
  · exact wpAny_Name (wpAny_loadName_local I.ok.kind hk hn hm fin) hd
  · rcases hk with hk | hk
    · exact wpAny_Name (wpAny_loadName_cell I.ok.kind hk hc hcell fin) hd
    · exact wpAny_Name (wpAny_loadName_free I.ok.kind hk hc hcell fin hcd) hd
theorem ZkM {i j pos} : PE X (.Constant (.int i) j pos) (tC (.int i)) := fun _ _ _ H _ I h => wpAny_Constant_int ⟨.int i, H, I.tok _, ⟨_, rfl⟩, h⟩
theorem ZnH {b j pos} : PE X (.Constant (.bool b) j pos) (tC (.bl b)) := fun _ _ _ H _ I h => Constant_bool ⟨.bl b, H, I, rfl, h⟩
theorem ZkN {j pos} : PE X (.Constant .none j pos) (tC .non) := fun _ _ _ H _ I h => Constant_none ⟨.non, H, I, rfl, h⟩
theorem ZkO {x j pos} : PE X (.Constant (.str x) j pos) (tC (.str x)) := fun _ _ _ H _ I h => Calls.Constant_str ⟨.str x, H, I.tok _, ⟨_, rfl⟩, h⟩
noncomputable def Gl (X : Cx) (x : Str) : Prop := X.env.kindOf x = some .globalImplicit
theorem ZfS {E : Value → Shared → Prop} {pins : List (Addr × Obj)} {s : Shared} {σ : St} {H : Hp} {x : Str} {u : Value} {pos : Pos} {Q : Value → Shared → Prop} (I : Inv X pins σ H s) (hg : Gl X x) (hm : X.mg x = some u) (h : Q u s)
    (hd : (x == ("__debug__" : Str)) = false := by decide) : wpAny (model X.prog X.w) X.A (eval (.Name x pos) X.env) Q E s :=
  Calls.Name_function_global I.ok.kind hg (Calls.loadGlobal_global (by rw [I.ok.glob]; exact I.mod.glob.keeps I.bk) hm h) hd
theorem Zb0 {E : Value → Shared → Prop} {pins : List (Addr × Obj)} {s : Shared} {σ : St} {H : Hp} {x : Str} {u : Value} {pos : Pos} {Q : Value → Shared → Prop} (I : Inv X pins σ H s) (hg : Gl X x) (hm : X.mg x = none) (hv : bootBuiltins x = some u) (h : Q u s)
    (hn : x ≠ "__name__" := by decide) (hd : (x == ("__debug__" : Str)) = false := by decide) : wpAny (model X.prog X.w) X.A (eval (.Name x pos) X.env) Q E s := by
  obtain ⟨mb, h1, h2⟩ := I.mod.blt
  exact Calls.Name_function_global I.ok.kind hg (Calls.loadGlobal_builtin (by rw [I.ok.glob]; exact I.mod.glob.keeps I.bk) hm (by rw [I.ok.blt]; exact h1.keeps I.bk) ((h2 x hn).trans hv) h) hd
theorem Zi6 {x : Str} {v : V} {u : Value} {pos : Pos} (hg : Gl X x) (hm : X.mg x = none) (hv : bootBuiltins x = some u) (r : Zab v u) (hn : x ≠ "__name__" := by decide) (hd : (x == ("__debug__" : Str)) = false := by decide) : PE X (.Name x pos) (tC v) :=
  fun _ _ _ H _ I h => Zb0 I hg hm hv ⟨v, H, I, r, h⟩ hn hd
variable {a b : Expr} {ta tb : TE} {pos : Pos}
noncomputable def tB (t : TE) : TT := fun σ H Q => t σ H fun x H1 => ∃ c, x = .bl c ∧ Q c H1
theorem ZkP {e : Expr} {t : TE} (h : PE X e t) (he : ∀ whole, isTrue e X.env whole = (do let v ← whole; standAt e.pos; holding [v] (truthy v)) := by intro _; rfl) : PT X e (tB t) := by
  intro pins s σ H Q I hw
  refine isTrue_plain (thn (h pins s σ H _ I hw) fun v s1 ⟨x, H1, I1, r1, q1⟩ => ?_) (he _)
  obtain ⟨d, rfl, q⟩ := q1
  cases r1
  exact wpAny_truthy_bool ⟨H1, I1, q⟩
variable {tA tB' : TT} {Zdv : List Expr}
noncomputable def ZqL (t u : TT) : TT := fun σ H Q => t σ H fun c H1 => if c = true then u σ H1 Q else Q false H1
noncomputable def tOr (t u : TT) : TT := fun σ H Q => t σ H fun c H1 => if c = true then Q true H1 else u σ H1 Q
noncomputable def ZqM (t : TT) : TT := fun σ H Q => t σ H fun c H1 => Q (!c) H1
theorem pw_and1 (ha : PT X a tA) : PW X (.BoolOp .And [a] pos) tA := by
  intro wh pins s σ H Q I h
  refine isTrue_and (thn (ha pins s σ H Q I h) fun c s1 e => ?_)
  cases c with
  | true => exact isTrue_and_nil e
  | false => exact e
theorem pw_or1 (ha : PT X a tA) : PW X (.BoolOp .Or [a] pos) tA := by
  intro wh pins s σ H Q I h
  refine isTrue_or (thn (ha pins s σ H Q I h) fun c s1 e => ?_)
  cases c with
  | false => exact isTrue_or_nil e
  | true => exact e
theorem pw_and (ha : PT X a tA) (hb : PW X (.BoolOp .And (b :: Zdv) pos) tB') : PW X (.BoolOp .And (a :: b :: Zdv) pos) (ZqL tA tB') := by
  intro wh pins s σ H Q I h
  refine isTrue_and (thn (ha pins s σ H _ I h) fun c s1 ⟨H1, I1, q1⟩ => ?_)
  cases c with
  | true => exact hb wh pins s1 σ H1 Q I1 q1
  | false => exact ⟨H1, I1, q1⟩
theorem pw_or (ha : PT X a tA) (hb : PW X (.BoolOp .Or (b :: Zdv) pos) tB') : PW X (.BoolOp .Or (a :: b :: Zdv) pos) (tOr tA tB') := by
  intro wh pins s σ H Q I h
  refine isTrue_or (thn (ha pins s σ H _ I h) fun c s1 ⟨H1, I1, q1⟩ => ?_)
  cases c with
  | true => exact ⟨H1, I1, q1⟩
  | false => exact hb wh pins s1 σ H1 Q I1 q1
theorem ZkQ (ha : PT X a tA) : PT X (.UnaryOp .Not a pos) (ZqM tA) := by
  intro pins s σ H Q I h
  exact isTrue_not (ha pins s σ H (fun c H1 => Q (!c) H1) I h)
noncomputable def ZnI (ta tb : TE) : TE := fun σ H Q => ta σ H fun x H1 => ∃ c, x = .bl c ∧ if c = true then tb σ H1 Q else Q (.bl false) H1
noncomputable def ZnJ (ta : TE) : TE := fun σ H Q => ta σ H fun x H1 => ∃ c, x = .bl c ∧ Q (.bl (!c)) H1
theorem ZkR {op} {t : TE} (h : PE X a t) : PE X (.BoolOp op [a] pos) t := fun pins s σ H Q I hw => BoolOp_one (h pins s σ H Q I hw)
theorem ZkS (ha : PE X a ta) (hb : PE X (.BoolOp .And (b :: Zdv) pos) tb) : PE X (.BoolOp .And (a :: b :: Zdv) pos) (ZnI ta tb) := by
  intro pins s σ H Q I h
  refine BoolOp_and (thn (ha pins s σ H _ I h) fun v s1 ⟨x, H1, I1, r1, q1⟩ => ?_)
  obtain ⟨c, rfl, q1⟩ := q1
  cases r1
  refine wpAny_truthy_bool ?_
  cases c with
  | true => exact hb pins s1 σ H1 Q I1 q1
  | false => exact ⟨.bl false, H1, I1, rfl, q1⟩
theorem ZkT (ha : PE X a ta) : PE X (.UnaryOp .Not a pos) (ZnJ ta) := by
  intro pins s σ H Q I h
  refine UnaryOp_ (thn (ha pins s σ H _ I h) fun v s1 ⟨x, H1, I1, r1, q1⟩ => ?_)
  obtain ⟨c, rfl, q1⟩ := q1
  cases r1
  exact not_of (wpAny_truthy_bool ⟨.bl (!c), H1, I1, rfl, q1⟩)
end
end L2
namespace L2
open PySem PySem.Spec PyProof.Rows
noncomputable def SqL (K : PySem.W.Frag) (H : Hp) (a : Addr) (xs : List V) : Prop :=
  Rd H a (.lst xs) ∨
    ∃ (o : Obj) (its : Array Value) (n : Nat), K.lookup a = some o ∧ o.cls = .type "list" ∧ o.dict = none ∧ o.data = .seq its n ∧ its.size ≤ sizeLine ∧ ZO xs its.toList
noncomputable def SqT (K : PySem.W.Frag) (H : Hp) (a : Addr) (xs : List V) : Prop :=
  Rd H a (.tup xs) ∨
    ∃ (o : Obj) (its : Array Value) (n : Nat), K.lookup a = some o ∧ o.cls = .type "tuple" ∧ o.data = .seq its n ∧ its.size ≤ sizeLine ∧ ZO xs its.toList
noncomputable def ZqN : Value → Option V
  | .none => some .non
  | .bool b => some (.bl b)
  | .int i _ => some (.int i)
  | .str x _ => some (.str x)
  | .bytes b _ => some (.byt b)
  | .float b _ => some (.flt b)
  | .ref a => some (.ref a)
  | .type n => some (.ty n)
  | _ => none
theorem Zab.abs {x : V} {u : Value} (r : Zab x u) : ZqN u = some x := by
  cases x with
  | non => cases r; rfl
  | bl _ => cases r; rfl
  | int _ => obtain ⟨t, rfl⟩ := r; rfl
  | str _ => obtain ⟨t, rfl⟩ := r; rfl
  | byt _ => obtain ⟨t, rfl⟩ := r; rfl
  | flt _ => obtain ⟨t, rfl⟩ := r; rfl
  | ref _ => cases r; rfl
  | ty _ => cases r; rfl
theorem Zab.inj {x y : V} {u : Value} (r : Zab x u) (q : Zab y u) : x = y := Option.some.inj (r.abs.symm.trans q.abs)
theorem ZO.inj : ∀ {xs ys : List V} {us : List Value}, ZO xs us → ZO ys us → xs = ys
  | _, _, _, .nil, .nil => rfl
  | _, _, _, .cons r t, .cons r' t' => by rw [r.inj r', ZO.inj t t']
section
variable {X : Cx} {pins : List (Addr × Obj)} {σ : St} {H : Hp} {s : Shared} {a : Addr} {xs ys : List V}
theorem SqL.of {K : PySem.W.Frag} (h : H a = some (.lst xs)) : SqL K H a xs := .inl (.inl h)
theorem SqT.of {K : PySem.W.Frag} (h : H a = some (.tup xs)) : SqT K H a xs := .inl (.inl h)
theorem Inv.list (I : Inv X pins σ H s) (h : SqL X.K H a xs) : ∃ its : List Value, ZO xs its ∧ PlainL s.heap a its.toArray ∧ xs.length ≤ sizeLine := by
  rcases h with h | ⟨o, its, n, hk, hc, hd, hs, hz, r⟩
  · obtain ⟨z, its, n, r, e⟩ := h.ok I.hok
    exact ⟨its, r, ⟨_, n, e, rfl, rfl, rfl⟩, z⟩
  · refine ⟨its.toList, r, ⟨o, n, I.kIn a o hk, hc, hd, by simpa using hs⟩, ?_⟩
    have e := r.length
    simp only [Array.length_toList] at e
    omega
theorem Inv.tuple (I : Inv X pins σ H s) (h : SqT X.K H a xs) : ∃ its : List Value, ZO xs its ∧ IsTup s.heap a its.toArray ∧ xs.length ≤ sizeLine := by
  rcases h with h | ⟨o, its, n, hk, hc, hs, hz, r⟩
  · obtain ⟨z, its, r, p⟩ := h.ok I.hok
    exact ⟨its, r, p, z⟩
  · refine ⟨its.toList, r, ⟨o, I.kIn a o hk, hc, n, by simpa using hs⟩, ?_⟩
    have e := r.length
    simp only [Array.length_toList] at e
    omega
theorem Inv.list_inj (I : Inv X pins σ H s) (h : SqL X.K H a xs) (h' : SqL X.K H a ys) : xs = ys := by
  obtain ⟨its, r, ⟨o, n, e, _, _, d⟩, _⟩ := I.list h
  obtain ⟨its', r', ⟨o', n', e', _, _, d'⟩, _⟩ := I.list h'
  rw [e] at e'; cases e'
  rw [d] at d'
  injection d' with d1 _
  have : its = its' := by simpa using congrArg Array.toList d1
  subst this
  exact r.inj r'
theorem Inv.tuple_inj (I : Inv X pins σ H s) (h : SqT X.K H a xs) (h' : SqT X.K H a ys) : xs = ys := by
  obtain ⟨its, r, ⟨o, e, _, n, d⟩, _⟩ := I.tuple h
  obtain ⟨its', r', ⟨o', e', _, n', d'⟩, _⟩ := I.tuple h'
  rw [e] at e'; cases e'
  rw [d] at d'
  injection d' with d1 _
  have : its = its' := by simpa using congrArg Array.toList d1
  subst this
  exact r.inj r'
end
noncomputable abbrev Cx.wish (X : Cx) (E : Value → Shared → Prop) : Cx := { X with xe := E }
noncomputable abbrev Cx.nox (X : Cx) : Cx := X.wish fun _ _ => False
theorem Cx.Ok.wish {X : Cx} (ok : X.Ok) (E : Value → Shared → Prop) : (X.wish E).Ok :=
  ⟨ok.mod, ok.kind, ok.glob, ok.blt, ok.above, ok.inj, ok.has, ok.cab, ok.hd, ok.frames, ok.stk, ok.exf, ok.bs, ok.bsz, ok.noex, ok.exfs, ok.funs, ok.frf⟩
theorem Cx.Ok.unwish {X : Cx} {E : Value → Shared → Prop} (ok : (X.wish E).Ok) : X.Ok :=
  ⟨ok.mod, ok.kind, ok.glob, ok.blt, ok.above, ok.inj, ok.has, ok.cab, ok.hd, ok.frames, ok.stk, ok.exf, ok.bs, ok.bsz, ok.noex, ok.exfs, ok.funs, ok.frf⟩
section
variable {X : Cx} {pins : List (Addr × Obj)} {σ : St} {H : Hp} {s : Shared} {E : Value → Shared → Prop}
theorem Inv.wish (I : Inv X pins σ H s) (E : Value → Shared → Prop) : Inv (X.wish E) pins σ H s := ⟨I.ok.wish E, I.os, I.bare, I.base, I.loc, I.cell, I.free, I.freeC, I.pin, I.hok, I.len, I.qd⟩
theorem Inv.unwish (I : Inv (X.wish E) pins σ H s) : Inv X pins σ H s := ⟨I.ok.unwish, I.os, I.bare, I.base, I.loc, I.cell, I.free, I.freeC, I.pin, I.hok, I.len, I.qd⟩
theorem SP.unwish {D : Ends} {f : Flow} {s' : Shared} (h : SP (X.wish E) pins D f s') : SP X pins D f s' := by
  cases f with
  | next => obtain ⟨σ', H', I, q⟩ := h; exact ⟨σ', H', I.unwish, q⟩
  | brk => obtain ⟨σ', H', I, q⟩ := h; exact ⟨σ', H', I.unwish, q⟩
  | cont => obtain ⟨σ', H', I, q⟩ := h; exact ⟨σ', H', I.unwish, q⟩
  | ret u => obtain ⟨v, σ', H', I, r, q⟩ := h; exact ⟨v, σ', H', I.unwish, r, q⟩
theorem PE.nox {e : Expr} {t : TE} (h : PE X.nox e t) : PE X e t := fun pins s σ H Q I hw =>
  wpAny_mono (h pins s σ H Q (I.wish _) hw) (fun _ _ ⟨v, H', I', r, q⟩ => ⟨v, H', I'.unwish, r, q⟩) fun _ _ z => False.elim z
theorem PT.nox {e : Expr} {t : TT} (h : PT X.nox e t) : PT X e t := fun pins s σ H Q I hw =>
  wpAny_mono (h pins s σ H Q (I.wish _) hw) (fun _ _ ⟨H', I', q⟩ => ⟨H', I'.unwish, q⟩) fun _ _ z => False.elim z
theorem PSs.nox {st : List Stmt} {t : TS} (h : PSs X.nox st t) : PSs X st t := fun pins s σ H D I hw =>
  wpAny_mono (h pins s σ H D (I.wish _) hw) (fun _ _ q => q.unwish) fun _ _ z => False.elim z
end
section
variable {X : Cx} {st : Stmt} {Zdv : List Stmt} {t u : TS} {e : Expr} {te : TE} {pos : Pos}
noncomputable def tNext : TS := fun D σ H => D.nx σ H
noncomputable def ZqO (t u : TS) : TS := fun D σ H => t { D with nx := u D } σ H
theorem Zi7 : PSs X [] tNext := fun _ _ σ H _ I h => wpAny_execs_nil ⟨σ, H, I, h⟩
theorem Zhs (h1 : PS X st t) (h2 : PSs X Zdv u) : PSs X (st :: Zdv) (ZqO t u) := by
  intro pins s σ H D I h
  refine wpAny_execs_cons (thn (h1 pins s σ H { D with nx := u D } I h) fun f s1 q => ?_)
  cases f with
  | next =>
    obtain ⟨σ', H', I', q⟩ := q
    exact h2 pins s1 σ' H' D I' q
  | ret v => exact q
  | brk => exact q
  | cont => exact q
theorem Zi8 (h1 : PS X st t) : PSs X [st] t := by
  intro pins s σ H D I h
  refine wpAny_execs_cons (thn (h1 pins s σ H D I h) fun f s1 q => ?_)
  cases f with
  | next => exact wpAny_execs_nil q
  | ret v => exact q
  | brk => exact q
  | cont => exact q
theorem Inv.quiet {pins : List (Addr × Obj)} {σ : St} {H : Hp} {s : Shared} (I : Inv X pins σ H s) : interactive X.env = false := by simp [interactive, I.ok.kind]
noncomputable def ZnK (te : TE) : TS := fun D σ H => te σ H fun _ H1 => D.nx σ H1
theorem Zi9 (he : PE X e te) (hs : swapsWith e none pos.line X.env = pure false := by rfl) : PS X (.Expr e pos) (ZnK te) := by
  intro pins s σ H D I h
  exact wpAny_Expr_any (thn (he pins s σ H _ I h) fun v s1 ⟨x, H1, I1, r1, q1⟩ => ⟨σ, H1, I1, q1⟩) I.quiet hs
noncomputable def ZqP (te : TE) : TS := fun D σ H => te σ H D.rt
theorem ZkU (he : PE X e te) : PS X (.Return (some e) pos) (ZqP te) := by
  intro pins s σ H D I h
  exact wpAny_Return_some (thn (he pins s σ H _ I h) fun v s1 ⟨x, H1, I1, r1, q1⟩ => ⟨x, σ, H1, I1, r1, q1⟩)
noncomputable def ZqQ (c : TT) (t u : TS) : TS := fun D σ H => c σ H fun b H1 => if b = true then t D σ H1 else u D σ H1
theorem ZnL {c : Expr} {a b : List Stmt} {tc : TT} (hc : PT X c tc) (ha : PSs X a t) (hb : PSs X b u) : PS X (.If c a b pos) (ZqQ tc t u) := by
  intro pins s σ H D I h
  refine wpAny_If (thn (hc pins s σ H _ I h) fun d s1 ⟨H1, I1, q1⟩ => ?_)
  cases d with
  | true => exact ha pins s1 σ H1 D I1 q1
  | false => exact hb pins s1 σ H1 D I1 q1
end
noncomputable abbrev TG := V → St → Hp → (St → Hp → Prop) → Prop
noncomputable abbrev TGs := List V → St → Hp → (St → Hp → Prop) → Prop
noncomputable def PG (X : Cx) (target : Expr) (t : TG) : Prop :=
  ∀ (pins : List (Addr × Obj)) (s : Shared) (σ : St) (H : Hp) (v : V) (u : Value) (Q : St → Hp → Prop), Inv X pins σ H s → Zab v u → t v σ H Q →
    wpAny (model X.prog X.w) X.A (assign target X.env u) (fun _ s' => ∃ σ' H', Inv X pins σ' H' s' ∧ Q σ' H') X.xe s
noncomputable def PGs (X : Cx) (ts : List Expr) (t : TGs) : Prop :=
  ∀ (pins : List (Addr × Obj)) (s : Shared) (σ : St) (H : Hp) (vs : List V) (us : List Value) (Q : St → Hp → Prop), Inv X pins σ H s → ZO vs us → t vs σ H Q →
    wpAny (model X.prog X.w) X.A (assignInOrder ((assignEach ts X.env).map (·.2)) us) (fun _ s' => ∃ σ' H', Inv X pins σ' H' s' ∧ Q σ' H') X.xe s
noncomputable abbrev ZnM := V → V → V → Hp → (Hp → Prop) → Prop
noncomputable def ZpI (X : Cx) (t : ZnM) : Prop :=
  ∀ (pins : List (Addr × Obj)) (s : Shared) (σ : St) (H : Hp) (o i v : V) (ov iv u : Value) (Q : Hp → Prop), Inv X pins σ H s → Zab o ov → Zab i iv → Zab v u → t o i v H Q →
    wpAny (model X.prog X.w) X.A (setItem ov iv u) (fun _ s' => ∃ H', Inv X pins σ H' s' ∧ Q H') X.xe s
section
variable {X : Cx} {pos : Pos}
noncomputable def ZkV (i : Nat) : TG := fun v σ H Q => Q (σ.set i (some v)) H
theorem Zja {i : Nat} {x : Str} (hN : X.N.Nodup) (hi : X.N[i]? = some x) (hx : Loc X.env.scope x) (hf : X.fn x = true ∨ X.env.scope.names.lookup x = some .local := by first | exact .inl rfl | exact .inr rfl | assumption) : PG X (.Name x pos) (ZkV i) := by
  intro pins s σ H v u Q I r h
  exact wpAny_assign_Name (Zce I hN hi hx r (fun s' I' => ⟨_, H, I', h⟩) hf)
noncomputable def gNil : TGs := fun vs σ H Q => vs = [] ∧ Q σ H
noncomputable def ZnN (t : TG) (u : TGs) : TGs := fun vs σ H Q => ∃ v r, vs = v :: r ∧ t v σ H fun σ' H' => u r σ' H' Q
theorem Zjb : PGs X [] gNil := by
  intro pins s σ H vs us Q I r h
  obtain ⟨e, h⟩ := h
  subst e
  cases r
  exact assignInOrder_nil ⟨σ, H, I, h⟩
theorem Zht {e : Expr} {es : List Expr} {t : TG} {u : TGs} (h1 : PG X e t) (h2 : PGs X es u)
    (hs : (assignEach (e :: es) X.env).map (·.2) = assign e X.env :: (assignEach es X.env).map (·.2) := by rfl) : PGs X (e :: es) (ZnN t u) := by
  intro pins s σ H vs us Q I r h
  obtain ⟨v, vr, e1, h⟩ := h
  subst e1
  cases r with
  | cons r rr =>
    rw [hs]
    refine assignInOrder_cons (thn (h1 pins s σ H _ _ _ I r h) fun _ s1 ⟨σ1, H1, I1, q1⟩ => ?_)
    exact h2 pins s1 σ1 H1 _ _ Q I1 rr q1
noncomputable def ZqR (K : PySem.W.Frag) (n : Nat) (t : TGs) : TG := fun v σ H Q => ∃ a xs, v = .ref a ∧ SqT K H a xs ∧ xs.length = n ∧ t xs σ H Q
theorem ZkW {es : List Expr} {k : Nat} {t : TGs} {n : Nat} (hc : X.calm = true) (h : PGs X es t)
    (hn : (assignEach es X.env).length = n := by rfl) (hst : (assignEach es X.env).findIdx? (·.1) = none := by rfl) : PG X (.Tuple es k pos) (ZqR X.K n t) := by
  intro pins s σ H v u Q I r hw
  obtain ⟨a, xs, e1, hq, hl, hw⟩ := hw
  subst e1
  cases r
  obtain ⟨its, rv, ht, hz⟩ := I.tuple hq
  refine assign_Tuple_tuple (I.ok.hd hc) ht (by simp [hn, ← hl, rv.length]) hst fun h' hx => ?_
  have I1 : Inv X pins σ H { s with heap := h' } := I.kept (t' := s.toks) fun b o e => hx b o (Nat.ne_of_lt (Heap.lt_size e)) e
  exact h pins _ σ H xs _ Q I1 (by simpa using rv) hw
noncomputable def ZqS (to ti : TE) (t : ZnM) : TG := fun v σ H Q => to σ H fun o H1 => ti σ H1 fun i H2 => t o i v H2 fun H3 => Q σ H3
theorem ZkX {o i : Expr} {to ti : TE} {t : ZnM} (ho : PE X o to) (hi : PE X i ti) (hs : ZpI X t)
    (ha : ∀ v, assign (.Subscript o i pos) X.env v = (do
      let ov ← holding [v] (eval o X.env)
      let iv ← holding [v, ov] (eval i X.env)
      standAt pos
      holding [v, ov, iv] (setItem ov iv v)
      release [v, ov, iv] []) := by intro _; rfl) : PG X (.Subscript o i pos) (ZqS to ti t) := by
  intro pins s σ H v u Q I r h
  rw [ha]
  refine wpAny_bind (wpAny_holding (thn (ho pins s σ H _ I h) fun ov s1 ⟨x, H1, I1, r1, q1⟩ => ?_))
  refine wpAny_bind (wpAny_holding (thn (hi pins s1 σ H1 _ I1 q1) fun iv s2 ⟨y, H2, I2, r2, q2⟩ => ?_))
  refine wpAny_bind (wpAny_standAt (wpAny_bind (wpAny_holding (thn (hs pins s2 σ H2 x y v ov iv u _ I2 r1 r2 r q2) fun _ s3 ⟨H3, I3, q3⟩ => ?_))))
  exact wpAny_release ⟨σ, H3, I3, q3⟩
noncomputable def ZpJ (te : TE) (g : TG) : TS := fun D σ H => te σ H fun x H1 => g x σ H1 D.nx
theorem Zir {tg e : Expr} {te : TE} {g : TG} (he : PE X e te) (hg : PG X tg g) (hs : swapsWithSole [tg] e pos.line X.env = pure false := by rfl) (hw : swappedStores [tg] e X.env = pure none := by rfl)
    (h1 : (assignEach [tg] X.env).map (·.2) = [assign tg X.env] := by rfl) : PS X (.Assign [tg] e pos) (ZpJ te g) := by
  intro pins s σ H D I h
  refine wpAny_Assign_stores (thn (he pins s σ H _ I h) fun v s1 ⟨x, H1, I1, r1, q1⟩ => ?_) hs hw
  rw [h1]
  exact thn (hg pins s1 σ H1 x v _ I1 r1 q1) fun _ s2 q => q
theorem ZkY {i : Nat} {x : Str} {e : Expr} {te : TE} {pos' : Pos} (hN : X.N.Nodup) (hi : X.N[i]? = some x) (hx : Loc X.env.scope x) (he : PE X e te) (hs : swapsWith e (some (.Name x pos')) pos.line X.env = pure false := by rfl) (hf : X.fn x = true ∨ X.env.scope.names.lookup x = some .local := by first | exact .inl rfl | exact .inr rfl | assumption) :
    PS X (.Assign [.Name x pos'] e pos) (ZpJ te (ZkV i)) := by
  intro pins s σ H D I h
  refine wpAny_Assign_Name (thn (he pins s σ H _ I h) fun v s1 ⟨y, H1, I1, r1, q1⟩ => ?_) hs
  exact Zce I1 hN hi hx r1 (fun s2 I2 => ⟨_, H1, I2, q1⟩) hf
noncomputable def ZqT (i j : Nat) (ta : TA) : TS := fun D σ H => ta σ H fun vs H1 => ∃ v w, vs = [v, w] ∧ D.nx ((σ.set i (some v)).set j (some w)) H1
theorem ZkZ {i j : Nat} {x y : Str} {a b : Expr} {ta : TA} {px py pt : Pos} {kt k2 pt2} (hc : X.calm = true) (hN : X.N.Nodup) (hi : X.N[i]? = some x) (hj : X.N[j]? = some y) (hij : i ≠ j)
    (hx : X.env.scope.names.lookup x = some .local) (hy : X.env.scope.names.lookup y = some .local) (ha : PA X [a, b] ta)
    (hw : swappedStores [.Tuple [.Name x px, .Name y py] kt pt] (.Tuple [a, b] k2 pt2) X.env = pure (some [x, y]))
    (hs : swapsWithSole [.Tuple [.Name x px, .Name y py] kt pt] (.Tuple [a, b] k2 pt2) pos.line X.env = pure false := by rfl) :
    PS X (.Assign [.Tuple [.Name x px, .Name y py] kt pt] (.Tuple [a, b] k2 pt2) pos) (ZqT i j ta) := by
  intro pins s σ H D I h
  rw [exec_Assign_arm]
  refine wpAny_bind (wpAny_standAt ?_)
  rw [hs]
  refine wpAny_bind (wpAny_pure ?_)
  rw [if_neg (by decide)]
  refine wpAny_bind (Tuple_ (thn (ha _ pins s σ H _ I h) fun us s1 ⟨vs, H1, I1, r1, q1⟩ => ?_))
  obtain ⟨v, w, e1, q1⟩ := q1
  subst e1
  obtain ⟨u1, u2, rfl, rv, rw'⟩ : ∃ u1 u2, us = [u1, u2] ∧ Zab v u1 ∧ Zab w u2 := by
    cases r1 with
    | cons p q =>
      cases q with
      | cons p' q' =>
        cases q'
        exact ⟨_, _, rfl, p, p'⟩
  refine wpAny_newObj_type ?_ (by show 2 ≤ sizeLine; decide)
  have I2 : Inv X pins σ H1 { s1 with heap := s1.heap.push { cls := .type "tuple", data := .seq [u1, u2].toArray } } := I1.kept (t' := s1.toks) fun b o e => Heap.get?_push_of_some _ e
  rw [hw]
  refine wpAny_bind (wpAny_pure ?_)
  show wpAny (model X.prog X.w) X.A (do rule "assign.swapped-stores"; let items ← unpackItems (.ref s1.heap.objs.size) 2 none; assignInOrder [fun v => bindName X.env y v, fun v => bindName X.env x v] items.reverse; pure Flow.next) _ _ _
  refine wpAny_bind (wpAny_rule (wpAny_bind (unpackItems_tuple (items := #[u1, u2]) (I.ok.hd hc) (IsTup.new s1.heap _) fun h' hx' => ?_)))
  have I3 := I2.kept (h' := h') (t' := s1.toks) fun b o e => hx' b o (Nat.ne_of_lt (Heap.lt_size e)) e
  show wpAny _ _ (assignInOrder [fun v => bindName X.env y v, fun v => bindName X.env x v] [u2, u1] >>= fun _ => pure Flow.next) _ _ _
  refine wpAny_bind (assignInOrder_cons (wpAny_bindName (Zce I3 hN hj (.inl hy) rw' (fun s2 I4 => ?_) (.inr hy))))
  refine assignInOrder_cons (wpAny_bindName (Zce I4 hN hi (.inl hx) rv (fun s3 I5 => assignInOrder_nil (wpAny_pure ?_)) (.inr hx)))
  rw [List.set_comm _ _ (Ne.symm hij)] at I5
  exact ⟨_, H1, I5, q1⟩
end
section
variable {X : Cx} {pos : Pos}
noncomputable def Zk0 (c : TT) (tb : TS) : TS := fun D σ H => ∃ W : Nat → St → Hp → Prop, (∃ m, W m σ H) ∧ ∀ m σ H, W m σ H →
  c σ H fun b H1 => if b = true then ∃ N : St → Hp → Prop, (∀ σ' H', N σ' H' → ∃ m', m' < m ∧ W m' σ' H') ∧ tb { D with nx := N, ct := N, bk := D.nx } σ H1 else D.nx σ H1
theorem Zhu {c : Expr} {body : List Stmt} {tc : TT} {tb : TS} (hp : PassesOwn (model X.prog X.w) X.A X.env X.xe) (hc : PT X c tc) (hb : PSs X body tb) : PS X (.While c body [] pos) (Zk0 tc tb) := by
  intro pins s σ H D I h
  obtain ⟨W, ⟨m0, w0⟩, turn⟩ := h
  refine wpAny_While (codeAny_whileLoop (fun n s' => ∃ σ' H', Inv X pins σ' H' s' ∧ W n σ' H') ?_ m0 ⟨σ, H, I, w0⟩)
  rintro n s1 ⟨σ1, H1, I1, w1⟩
  refine wpAny_passesOwn hp (thn (hc pins s1 σ1 H1 _ I1 (turn n σ1 H1 w1)) fun b s2 ⟨H2, I2, q2⟩ => ?_)
  cases b with
  | true =>
    obtain ⟨N, hN, q2⟩ := q2
    rw [if_pos rfl]
    refine wpAny_passesOwn hp (thn (hb pins s2 σ1 H2 _ I2 q2) fun f s3 q3 => ?_)
    cases f with
    | next =>
      obtain ⟨σ3, H3, I3, n3⟩ := q3
      obtain ⟨m', hm, w3⟩ := hN σ3 H3 n3
      exact ⟨m', hm, σ3, H3, I3, w3⟩
    | cont =>
      obtain ⟨σ3, H3, I3, n3⟩ := q3
      obtain ⟨m', hm, w3⟩ := hN σ3 H3 n3
      exact ⟨m', hm, σ3, H3, I3, w3⟩
    | brk => exact q3
    | ret v => exact q3
  | false =>
    rw [if_neg Bool.false_ne_true]
    exact wpAny_execs_nil ⟨σ1, H2, I2, q2⟩
end
structure It where
  go : Nat → Hp → Prop
  yld : Nat → Hp → V → Hp → Prop
  stop : Nat → Hp → Prop
noncomputable def ZcE (X : Cx) (pins : List (Addr × Obj)) (H : Hp) (b : Addr) : Prop :=
  H b = none ∧ b ≠ X.env.locals ∧ b ∉ X.fs ∧ (b ∈ X.ex ∨ X.s₀.heap.objs.size ≤ b) ∧ (∀ x c, X.env.cells.lookup x = some c → c ≠ b) ∧ ∀ p ∈ X.pn ++ pins, p.1 ≠ b
theorem Inv.fpOk {X : Cx} {pins : List (Addr × Obj)} {σ : St} {H H' : Hp} {s : Shared} {b : Addr} (I : Inv X pins σ H s) (hb : s.heap.objs.size ≤ b) (hn : H' b = none) : ZcE X pins H' b := by
  refine ⟨hn, Nat.ne_of_gt (Nat.lt_of_lt_of_le I.lt hb), I.nofs hb, .inr (Nat.le_trans I.sz hb), fun x c e z => ?_, fun p hp z => ?_⟩
  · obtain ⟨v, q⟩ := I.cell x c e
    exact absurd (Nat.lt_of_lt_of_le q.lt (by rw [z]; exact hb)) (Nat.lt_irrefl _)
  · exact absurd (Nat.lt_of_lt_of_le (Heap.lt_size (I.pin p hp).1) (by rw [z]; exact hb)) (Nat.lt_irrefl _)
structure Turn (P : Program) (w : World) (K : PySem.W.Frag) (B : Around) (tg : Expr) (J : It) (fp : List Addr) (it : Addr) (tn : Nat → Heap → Prop) : Prop where
  mem : it ∈ fp
  obj : ∀ i h, tn i h → ∀ b ∈ fp, ∃ o, h.get? b = some o ∧ ∀ v, o.data ≠ .cell v
  keep : ∀ i h h', tn i h → (∀ b ∈ fp, ∀ o, h.get? b = some o → h'.get? b = some o) → tn i h'
  item : ∀ (X : Cx), X.prog = P → X.w = w → X.K = K → X.A = B → ∀ (i : Nat) (pins : List (Addr × Obj)) (s : Shared) (σ : St) (H : Hp) (E : Value → Shared → Prop), Inv X pins σ H s → (∀ b ∈ fp, ZcE X pins H b) → tn i s.heap → J.go i H →
    wpAny (model P w) X.A (pyNext (.ref it)) (fun r s1 => ∃ u, r = some u ∧
      wpAny (model P w) X.A (letOwnedTupleGo tg (.ref it) u) (fun _ s2 => ∃ x H', Inv X pins σ H' s2 ∧ Zab x u ∧ J.yld i H x H' ∧ tn (i + 1) s2.heap ∧ ∀ b ∈ fp, H' b = none) E s1) E s
  done : ∀ (X : Cx), X.prog = P → X.w = w → X.K = K → X.A = B → ∀ (i : Nat) (pins : List (Addr × Obj)) (s : Shared) (σ : St) (H : Hp) (E : Value → Shared → Prop), Inv X pins σ H s → (∀ b ∈ fp, ZcE X pins H b) → tn i s.heap → J.stop i H →
    wpAny (model P w) X.A (pyNext (.ref it)) (fun r s1 => r = none ∧ Inv X pins σ H s1) E s
  self : ∀ (A : Around) (i : Nat) (s : Shared) (Q : Value → Shared → Prop) (E : Value → Shared → Prop), tn i s.heap → Q (.ref it) s → wpAny (model P w) A (pyIter (.ref it)) Q E s
noncomputable abbrev TI := St → Hp → (It → Hp → Prop) → Prop
noncomputable def PIE (X : Cx) (pins : List (Addr × Obj)) (σ : St) (tg : Expr) (R : It → Hp → Prop) (itv : Value) (s2 : Shared) : Prop :=
  ∃ (it : Addr) (fp : List Addr) (tn : Nat → Heap → Prop) (J : It) (H' : Hp), itv = .ref it ∧ Inv X pins σ H' s2 ∧ Turn X.prog X.w X.K X.A tg J fp it tn ∧ tn 0 s2.heap ∧ (∀ b ∈ fp, ZcE X pins H' b) ∧ R J H'
noncomputable def PI (X : Cx) (tg iter : Expr) (wi : TI) : Prop :=
  ∀ (pins : List (Addr × Obj)) (s : Shared) (σ : St) (H : Hp) (R : It → Hp → Prop), Inv X pins σ H s → wi σ H R →
    wpAny (model X.prog X.w) X.A (eval iter X.env) (fun v s1 => wpAny (model X.prog X.w) X.A (pyIter v) (PIE X pins σ tg R) X.xe s1) X.xe s
theorem Zjc {M : Model} {A : Around} {E : Value → Shared → Prop} {s : Shared} {tg : Expr} {it : Addr} {u : Value} {o : Obj} {n : String} {vs : Array Value} {Q : Unit → Shared → Prop} (ho : s.heap.get? it = some o) (hc : o.cls = .type n) (hd : o.data = .fields vs)
    (hn : ["enumerate", "zip", "dict_itemiterator", "dict_reverseitemiterator", "odict_iterator", "itertools.zip_longest", "itertools.pairwise"].contains n = false) (hQ : Q () s) : wpAny M A (letOwnedTupleGo tg (.ref it) u) Q E s := by
  unfold letOwnedTupleGo
  cases tg <;> first
    | exact wpAny_pure hQ
    | (cases u <;> first
        | exact wpAny_pure hQ
        | (refine wpAny_bind (wpAny_load ho ?_)
           rw [hc, hd]
           show wpAny M A (if (["enumerate", "zip", "dict_itemiterator", "dict_reverseitemiterator", "odict_iterator", "itertools.zip_longest", "itertools.pairwise"].contains n && vs[0]? == some (rawInt _)) = true then _ else _) Q E s
           rw [if_neg (by intro h; rw [hn, Bool.false_and] at h; cases h)]
           exact wpAny_pure hQ))
noncomputable def Itl (K : PySem.W.Frag) (a : Addr) : It :=
  ⟨fun i H => ∃ xs x, SqL K H a xs ∧ xs[i]? = some x, fun i H x H' => H' = H ∧ ∀ xs, SqL K H a xs → xs[i]? = some x, fun i H => ∃ xs, SqL K H a xs ∧ xs.length ≤ i⟩
noncomputable def Itt (K : PySem.W.Frag) (a : Addr) : It :=
  ⟨fun i H => ∃ xs x, SqT K H a xs ∧ xs[i]? = some x, fun i H x H' => H' = H ∧ ∀ xs, SqT K H a xs → xs[i]? = some x, fun i H => ∃ xs, SqT K H a xs ∧ xs.length ≤ i⟩
noncomputable def Itr (lo : Int) (n : Nat) : It := ⟨fun i _ => i < n, fun i H x H' => H' = H ∧ x = .int (lo + i), fun i _ => n ≤ i⟩
theorem ZfT {P : Program} {w : World} {K : PySem.W.Frag} {B : Around} {tg : Expr} (a it : Addr) : Turn P w K B tg (Itl K a) [it] it (fun i h => h.IsListIter it a i) where
  mem := by simp
  obj := fun i h st b hb => by
    have e : b = it := by simpa using hb
    subst e
    obtain ⟨o, e, c, d⟩ := st
    exact ⟨o, e, fun v z => by rw [d] at z; cases z⟩
  keep := fun i h h' st k => st.at fun o e => k it (by simp) o e
  item := by
    intro X hP hw hK hB i pins s σ H E I hf st hg
    subst hP hw hK
    obtain ⟨xs, x, hq, hx⟩ := hg
    obtain ⟨its, rv, p, hz⟩ := I.list hq
    obtain ⟨u, hu, ru⟩ := rv.get hx
    obtain ⟨f0, f1, f2, f3, f4, f5⟩ := hf it (by simp)
    refine wpAny_pyNext_list_item st p.isList (x := u) (by simpa using hu) fun h' st' sb => ?_
    have I1 : Inv X pins σ H { s with heap := h' } := I.turned (t' := s.toks) (fun b o hb e => (sb.2 b hb).trans e) f0 f1 f3 f4 f5
    obtain ⟨o, e, c, d⟩ := id st'
    exact ⟨u, rfl, Zjc (s := { s with heap := h' }) e c d (by decide) ⟨x, H, I1, ru, ⟨rfl, fun ys hy => by rw [I.list_inj hy hq]; exact hx⟩, st', fun b hb => (hf b hb).1⟩⟩
  done := by
    intro X hP hw hK hB i pins s σ H E I hf st hg
    subst hP hw hK
    obtain ⟨xs, hq, hx⟩ := hg
    obtain ⟨its, rv, p, hz⟩ := I.list hq
    obtain ⟨f0, f1, f2, f3, f4, f5⟩ := hf it (by simp)
    have hl := rv.length
    exact DQ.Zhr I.qh st p.isList (by simp; omega) fun h' eb => ⟨rfl, I.turned (t' := s.toks) (fun b o hb e => eb b o hb e) f0 f1 f3 f4 f5⟩
  self := fun _ _ _ _ _ st h => wpAny_pyIter_listiter st h
theorem Zfi {P : Program} {w : World} {K : PySem.W.Frag} {B : Around} {tg : Expr} (a it : Addr) : Turn P w K B tg (Itt K a) [it] it (fun i h => h.IsTupleIter it a i) where
  mem := by simp
  obj := fun i h st b hb => by
    have e : b = it := by simpa using hb
    subst e
    obtain ⟨o, e, c, d⟩ := st
    exact ⟨o, e, fun v z => by rw [d] at z; cases z⟩
  keep := fun i h h' st k => st.at fun o e => k it (by simp) o e
  item := by
    intro X hP hw hK hB i pins s σ H E I hf st hg
    subst hP hw hK
    obtain ⟨xs, x, hq, hx⟩ := hg
    obtain ⟨its, rv, p, hz⟩ := I.tuple hq
    obtain ⟨u, hu, ru⟩ := rv.get hx
    obtain ⟨f0, f1, f2, f3, f4, f5⟩ := hf it (by simp)
    refine wpAny_pyNext_tuple_item st (show s.heap.IsTuple a its.toArray from p) (x := u) (by simpa using hu) fun h' st' sb => ?_
    have I1 : Inv X pins σ H { s with heap := h' } := I.turned (t' := s.toks) (fun b o hb e => (sb.2 b hb).trans e) f0 f1 f3 f4 f5
    obtain ⟨o, e, c, d⟩ := id st'
    exact ⟨u, rfl, Zjc (s := { s with heap := h' }) e c d (by decide) ⟨x, H, I1, ru, ⟨rfl, fun ys hy => by rw [I.tuple_inj hy hq]; exact hx⟩, st', fun b hb => (hf b hb).1⟩⟩
  done := by
    intro X hP hw hK hB i pins s σ H E I hf st hg
    subst hP hw hK
    obtain ⟨xs, hq, hx⟩ := hg
    obtain ⟨its, rv, p, hz⟩ := I.tuple hq
    obtain ⟨f0, f1, f2, f3, f4, f5⟩ := hf it (by simp)
    have hl := rv.length
    exact DQ.ZfO I.qh st (show s.heap.IsTuple a its.toArray from p) (by simp; omega) fun h' eb => ⟨rfl, I.turned (t' := s.toks) (fun b o hb e => eb b o hb e) f0 f1 f3 f4 f5⟩
  self := fun _ _ _ _ _ st h => wpAny_pyIter_tupleiter st h
theorem Zfj {P : Program} {w : World} {K : PySem.W.Frag} {B : Around} {tg : Expr} (it : Addr) (lo : Int) (n : Nat) : Turn P w K B tg (Itr lo n) [it] it (fun i h => IsRangeIter h it (lo + (i : Nat) * 1) ((n : Int) - (i : Nat)) 1) where
  mem := by simp
  obj := fun i h st b hb => by
    have e : b = it := by simpa using hb
    subst e
    exact ⟨_, st, fun v z => by
      have z' : Data.fields _ = Data.cell v := z
      cases z'⟩
  keep := fun i h h' st k => k it (by simp) _ st
  item := by
    intro X hP hw hK hB i pins s σ H E I hf st hg
    subst hP hw hK
    obtain ⟨f0, f1, f2, f3, f4, f5⟩ := hf it (by simp)
    have hlt : i < n := hg
    refine wpAny_pyNext_range_item st (by omega) fun h' st' sb => ?_
    have I1 : Inv X pins σ H { s with heap := h', toks := s.toks + 1 } := I.turned (fun b o hb e => (sb.2 b hb).trans e) f0 f1 f3 f4 f5
    have st2 : IsRangeIter h' it (lo + ((i + 1 : Nat) : Int) * 1) ((n : Int) - ((i + 1 : Nat) : Int)) 1 := by
      have e1 : lo + ((i + 1 : Nat) : Int) * 1 = lo + (i : Nat) * 1 + 1 := by omega
      have e2 : (n : Int) - ((i + 1 : Nat) : Int) = (n : Int) - (i : Nat) - 1 := by omega
      rw [e1, e2]
      exact st'
    refine ⟨_, rfl, Zjc (s := { s with heap := h', toks := s.toks + 1 }) (n := "range_iterator") st2 rfl rfl (by decide) ⟨.int (lo + i), H, I1, ⟨s.toks, ?_⟩, ⟨rfl, rfl⟩, st2, fun b hb => (hf b hb).1⟩⟩
    rw [Int.mul_one]
  done := by
    intro X hP hw hK hB i pins s σ H E I hf st hg
    subst hP hw hK
    obtain ⟨f0, f1, f2, f3, f4, f5⟩ := hf it (by simp)
    exact DQ.ZfN I.qh st (by have : n ≤ i := hg; omega) fun h' eb => ⟨rfl, I.turned (t' := s.toks) (fun b o hb e => eb b o hb e) f0 f1 f3 f4 f5⟩
  self := fun _ _ _ _ _ st h => wpAny_pyIter_rangeiter st h
end L2
namespace L2
open PySem PySem.Spec PyProof.Rows
section
variable {X : Cx} {tg : Expr}
theorem Zhv {pins : List (Addr × Obj)} {σ : St} {H : Hp} {s : Shared} {R : It → Hp → Prop} {E : Value → Shared → Prop} {lo hi : Int} {t u v : Tok} {tk : Nat} (I : Inv X pins σ H s) (h1 : -(2 ^ 62) ≤ lo) (h2 : lo < 2 ^ 62) (h3 : -(2 ^ 62) ≤ hi) (h4 : hi < 2 ^ 62)
    (q : R (Itr lo (hi - lo).toNat) H) : wpAny (model X.prog X.w) X.A (pyIter (.ref s.heap.objs.size)) (PIE X pins σ tg R) E { s with heap := s.heap.push { cls := .type "range", data := .fields #[.int lo t, .int hi u, .int 1 v] }, toks := tk } := by
  refine wpAny_pyIter_range (IsRange.new ..) (small_one h1 h2 h3 h4) ?_
  have I1 : Inv X pins σ H { s with heap := s.heap.push { cls := .type "range", data := .fields #[.int lo t, .int hi u, .int 1 v] }, toks := tk } := I.kept fun b o e => Heap.get?_push_of_some _ e
  refine ⟨(s.heap.push { cls := .type "range", data := .fields #[.int lo t, .int hi u, .int 1 v] }).objs.size, [(s.heap.push { cls := .type "range", data := .fields #[.int lo t, .int hi u, .int 1 v] }).objs.size], _, _, H, rfl,
    I1.kept (t' := tk) fun b o e => Heap.get?_push_of_some _ e, Zfj _ lo (hi - lo).toNat, ?_, fun b hb => ?_, q⟩
  · have e1 : lo + ((0 : Nat) : Int) * 1 = lo := by simp
    have e2 : (((hi - lo).toNat : Nat) : Int) - ((0 : Nat) : Int) = Builtin.Range.rangeSize lo hi 1 := by rw [rangeSize_one]; split <;> omega
    show IsRangeIter _ _ (lo + ((0 : Nat) : Int) * 1) ((((hi - lo).toNat : Nat) : Int) - ((0 : Nat) : Int)) 1
    rw [e1, e2]
    exact Heap.get?_push_size _ rfl
  · have e : b = (s.heap.push { cls := .type "range", data := .fields #[.int lo t, .int hi u, .int 1 v] }).objs.size := by simpa using hb
    subst e
    exact I1.fpOk (Nat.le_refl _) (I1.hok.fresh (Nat.le_refl _))
noncomputable def ZnO (ta : TA) : TI := fun σ H R => ta σ H fun vs H1 => ∃ j : Int, vs = [.int j] ∧ -(2 ^ 62) ≤ j ∧ j < 2 ^ 62 ∧ R (Itr 0 j.toNat) H1
theorem ZfU {a : Expr} {ta : TA} {p pos : Pos} (hg : Gl X "range") (hm : X.mg "range" = none) (ha : PA X [a] ta) (hs : starEach [a] X.env = [(false, eval a X.env)] := by rfl) : PI X tg (.Call (.Name "range" p) [a] [] pos) (ZnO ta) := by
  intro pins s σ H R I h
  refine Call_ (Zb0 I hg hm boot_range (PyProof.Rows.callWith_type1 (thn (ha pos pins s σ H _ I h) fun us s1 ⟨vs, H1, I1, r1, q1⟩ => ?_) hs rfl))
  obtain ⟨j, e, q1, q2, q⟩ := q1
  subst e
  cases r1 with
  | cons r rr =>
    cases rr
    obtain ⟨t, rfl⟩ := r
    exact call_range_1 (Zhv I1 (by omega) (by omega) q1 q2 (by simpa using q))
noncomputable def ZqU (wi : TI) (g : TG) (tb : TS) : TS := fun D σ H => wi σ H fun J H1 => ∃ W : Nat → Nat → St → Hp → Prop, (∃ m, W 0 m σ H1) ∧ ∀ i m σ H, W i m σ H →
  (J.stop i H ∧ D.nx σ H) ∨ (J.go i H ∧ ∃ N : St → Hp → Prop, (∀ σ' H', N σ' H' → ∃ m', m' < m ∧ W (i + 1) m' σ' H') ∧ ∀ x H', J.yld i H x H' → g x σ H' fun σ2 H2 => tb { D with nx := N, ct := N, bk := D.nx } σ2 H2)
noncomputable def Zbu (fp : List Addr) (h : Heap) : List (Addr × Obj) := fp.filterMap fun b => (h.get? b).map fun o => (b, o)
theorem Z0 {fp : List Addr} {h : Heap} {b : Addr} {o : Obj} (hb : b ∈ fp) (e : h.get? b = some o) : (b, o) ∈ Zbu fp h := List.mem_filterMap.mpr ⟨b, hb, by rw [e]; rfl⟩
theorem ZfV {fp : List Addr} {h : Heap} {p : Addr × Obj} (hp : p ∈ Zbu fp h) : p.1 ∈ fp ∧ h.get? p.1 = some p.2 := by
  obtain ⟨b, hb, e⟩ := List.mem_filterMap.mp hp
  cases q : h.get? b with
  | none => rw [q] at e; cases e
  | some o =>
    rw [q] at e
    have e' : (b, o) = p := Option.some.inj e
    subst e'
    exact ⟨hb, q⟩
theorem Inv.pinned {pins : List (Addr × Obj)} {σ : St} {H : Hp} {s : Shared} {fp : List Addr} (I : Inv X pins σ H s) (hf : ∀ b ∈ fp, ZcE X pins H b) (ho : ∀ b ∈ fp, ∃ o, s.heap.get? b = some o ∧ ∀ v, o.data ≠ .cell v) : Inv X (pins ++ Zbu fp s.heap) σ H s :=
  I.pins_of fun p hp => (List.mem_append.mp hp).elim (fun z => I.pin p (List.mem_append_right _ z)) fun z => by
    obtain ⟨hb, e⟩ := ZfV z
    obtain ⟨f0, f1, f2, _⟩ := hf p.1 hb
    obtain ⟨o, e', d⟩ := ho p.1 hb
    rw [e] at e'; cases e'
    exact ⟨e, f0, f1, f2, d⟩
theorem Inv.unpinned {pins pl : List (Addr × Obj)} {σ : St} {H : Hp} {s : Shared} (I : Inv X (pins ++ pl) σ H s) : Inv X pins σ H s := I.pins_of fun p hp => I.pin p (List.mem_append_right _ (List.mem_append_left _ hp))
theorem ZfW {iter : Expr} {body : List Stmt} {wi : TI} {g : TG} {tb : TS} {pos : Pos} (hp : PassesOwn (model X.prog X.w) X.A X.env X.xe) (hi : PI X tg iter wi) (hg : PG X tg g) (hb : PSs X body tb)
    (hs : ∀ x, foldedSetIterable iter X.env x = pure x := by intro _; rfl) : PS X (.For tg iter body [] pos) (ZqU wi g tb) := by
  intro pins s σ H D I h
  refine wpAny_For (thn (hi pins s σ H _ I h) fun v s1 h1 => thn h1 fun itv s2 h2 => ?_) hs
  obtain ⟨it, fp, tn, J, H2, e, I2, T, st2, f2, W, ⟨m0, w0⟩, turn⟩ := h2
  subst e
  have stat : ∀ {H' : Hp}, (∀ b ∈ fp, H' b = none) → ∀ b ∈ fp, ZcE X pins H' b := fun hn b hb => ⟨hn b hb, (f2 b hb).2⟩
  refine codeAny_forLoop_any (fun n s' => ∃ i σ' H', Inv X pins σ' H' s' ∧ tn i s'.heap ∧ (∀ b ∈ fp, H' b = none) ∧ W i n σ' H') ?_ m0 ⟨0, σ, H2, I2, st2, fun b hb => (f2 b hb).1, w0⟩
  rintro n s3 ⟨i, σ3, H3, I3, st3, fr3, w3⟩
  rcases turn i n σ3 H3 w3 with ⟨stop, qn⟩ | ⟨go, N, hN, step⟩
  · refine wpAny_passesOwn hp (thn (T.done X rfl rfl rfl rfl i pins s3 σ3 H3 X.xe I3 (stat fr3) st3 stop) fun r s4 ⟨hr, I4⟩ => ?_)
    subst hr
    exact wpAny_execs_nil ⟨σ3, H3, I4, qn⟩
  · refine wpAny_passesOwn hp (thn (T.item X rfl rfl rfl rfl i pins s3 σ3 H3 X.xe I3 (stat fr3) st3 go) fun r s4 ⟨u, hr, h4⟩ => ?_)
    subst hr
    refine wpAny_passesOwn hp (thn h4 fun _ s5 ⟨x, H5, I5, r5, y5, st5, fr5⟩ => ?_)
    have I5' := I5.pinned (stat fr5) (T.obj _ _ st5)
    refine wpAny_passesOwn hp (thn (hg _ s5 σ3 H5 x u _ I5' r5 (step x H5 y5)) fun _ s6 ⟨σ6, H6, I6, q6⟩ => ?_)
    refine wpAny_passesOwn hp (thn (hb _ s6 σ6 H6 _ I6 q6) fun f s7 q7 => ?_)
    have again : ∀ {σ7 : St} {H7 : Hp}, Inv X (pins ++ Zbu fp s5.heap) σ7 H7 s7 → N σ7 H7 → ∃ m, m < n ∧ ∃ i σ' H', Inv X pins σ' H' s7 ∧ tn i s7.heap ∧ (∀ b ∈ fp, H' b = none) ∧ W i m σ' H' := fun {σ7 H7} I7 n7 => by
      obtain ⟨m', hm, w7⟩ := hN σ7 H7 n7
      refine ⟨m', hm, i + 1, σ7, H7, I7.unpinned, T.keep _ _ _ st5 fun b hb o e => (I7.pin (b, o) (List.mem_append_right _ (List.mem_append_right _ (Z0 hb e)))).1, fun b hb => ?_, w7⟩
      obtain ⟨o, e, d⟩ := T.obj _ _ st5 b hb
      exact (I7.pin (b, o) (List.mem_append_right _ (List.mem_append_right _ (Z0 hb e)))).2.1
    cases f with
    | next => obtain ⟨σ7, H7, I7, n7⟩ := q7; exact again I7 n7
    | cont => obtain ⟨σ7, H7, I7, n7⟩ := q7; exact again I7 n7
    | brk => obtain ⟨σ7, H7, I7, q7⟩ := q7; exact ⟨σ7, H7, I7.unpinned, q7⟩
    | ret v => obtain ⟨x7, σ7, H7, I7, r7, q7⟩ := q7; exact ⟨x7, σ7, H7, I7.unpinned, r7, q7⟩
end
theorem Zhw {K : PySem.W.Frag} {a : Addr} {xs : List V} {g : TG} {tb : TS} {D : Ends} {σ : St} {H : Hp} (Pv : Nat → St → Hp → Prop) (h0 : Pv 0 σ H) (hl : ∀ i σ H, i ≤ xs.length → Pv i σ H → SqL K H a xs)
    (hs : ∀ i x σ H, xs[i]? = some x → Pv i σ H → g x σ H fun σ2 H2 => tb { D with nx := Pv (i + 1), ct := Pv (i + 1), bk := D.nx } σ2 H2) (hd : ∀ σ H, Pv xs.length σ H → D.nx σ H) :
    ∃ W : Nat → Nat → St → Hp → Prop, (∃ m, W 0 m σ H) ∧ ∀ i m σ H, W i m σ H →
      ((Itl K a).stop i H ∧ D.nx σ H) ∨ ((Itl K a).go i H ∧ ∃ N : St → Hp → Prop, (∀ σ' H', N σ' H' → ∃ m', m' < m ∧ W (i + 1) m' σ' H') ∧ ∀ x H', (Itl K a).yld i H x H' → g x σ H' fun σ2 H2 => tb { D with nx := N, ct := N, bk := D.nx } σ2 H2) := by
  refine ⟨fun i m σ H => m = xs.length - i ∧ i ≤ xs.length ∧ Pv i σ H, ⟨xs.length, by simp, Nat.zero_le _, h0⟩, ?_⟩
  rintro i m σ H ⟨rfl, hi, p⟩
  have q := hl i σ H hi p
  by_cases hlt : i < xs.length
  · refine .inr ⟨⟨xs, xs[i], q, by simp [hlt]⟩, Pv (i + 1), fun σ' H' p' => ⟨xs.length - (i + 1), by omega, rfl, hlt, p'⟩, fun x H' y => ?_⟩
    obtain ⟨e, y⟩ := y
    subst e
    exact hs i x σ _ (y xs q) p
  · have e : i = xs.length := by omega
    subst e
    exact .inl ⟨⟨xs, q, Nat.le_refl _⟩, hd σ H p⟩
theorem Zjd {K : PySem.W.Frag} {a : Addr} {xs : List V} {g : TG} {tb : TS} {D : Ends} {σ : St} {H : Hp} (Pv : Nat → St → Hp → Prop) (h0 : Pv 0 σ H) (hl : ∀ i σ H, i ≤ xs.length → Pv i σ H → SqT K H a xs)
    (hs : ∀ i x σ H, xs[i]? = some x → Pv i σ H → g x σ H fun σ2 H2 => tb { D with nx := Pv (i + 1), ct := Pv (i + 1), bk := D.nx } σ2 H2) (hd : ∀ σ H, Pv xs.length σ H → D.nx σ H) :
    ∃ W : Nat → Nat → St → Hp → Prop, (∃ m, W 0 m σ H) ∧ ∀ i m σ H, W i m σ H →
      ((Itt K a).stop i H ∧ D.nx σ H) ∨ ((Itt K a).go i H ∧ ∃ N : St → Hp → Prop, (∀ σ' H', N σ' H' → ∃ m', m' < m ∧ W (i + 1) m' σ' H') ∧ ∀ x H', (Itt K a).yld i H x H' → g x σ H' fun σ2 H2 => tb { D with nx := N, ct := N, bk := D.nx } σ2 H2) := by
  refine ⟨fun i m σ H => m = xs.length - i ∧ i ≤ xs.length ∧ Pv i σ H, ⟨xs.length, by simp, Nat.zero_le _, h0⟩, ?_⟩
  rintro i m σ H ⟨rfl, hi, p⟩
  have q := hl i σ H hi p
  by_cases hlt : i < xs.length
  · refine .inr ⟨⟨xs, xs[i], q, by simp [hlt]⟩, Pv (i + 1), fun σ' H' p' => ⟨xs.length - (i + 1), by omega, rfl, hlt, p'⟩, fun x H' y => ?_⟩
    obtain ⟨e, y⟩ := y
    subst e
    exact hs i x σ _ (y xs q) p
  · have e : i = xs.length := by omega
    subst e
    exact .inl ⟨⟨xs, q, Nat.le_refl _⟩, hd σ H p⟩
theorem ZfX {lo : Int} {n : Nat} {g : TG} {tb : TS} {D : Ends} {σ : St} {H : Hp} (Pv : Nat → St → Hp → Prop) (h0 : Pv 0 σ H)
    (hs : ∀ i σ H, i < n → Pv i σ H → g (.int (lo + i)) σ H fun σ2 H2 => tb { D with nx := Pv (i + 1), ct := Pv (i + 1), bk := D.nx } σ2 H2) (hd : ∀ σ H, Pv n σ H → D.nx σ H) :
    ∃ W : Nat → Nat → St → Hp → Prop, (∃ m, W 0 m σ H) ∧ ∀ i m σ H, W i m σ H →
      ((Itr lo n).stop i H ∧ D.nx σ H) ∨ ((Itr lo n).go i H ∧ ∃ N : St → Hp → Prop, (∀ σ' H', N σ' H' → ∃ m', m' < m ∧ W (i + 1) m' σ' H') ∧ ∀ x H', (Itr lo n).yld i H x H' → g x σ H' fun σ2 H2 => tb { D with nx := N, ct := N, bk := D.nx } σ2 H2) := by
  refine ⟨fun i m σ H => m = n - i ∧ i ≤ n ∧ Pv i σ H, ⟨n, by simp, Nat.zero_le _, h0⟩, ?_⟩
  rintro i m σ H ⟨rfl, hi, p⟩
  by_cases hlt : i < n
  · refine .inr ⟨hlt, Pv (i + 1), fun σ' H' p' => ⟨n - (i + 1), by omega, rfl, hlt, p'⟩, fun x H' y => ?_⟩
    obtain ⟨e, y⟩ := y
    subst e y
    exact hs i σ _ hlt p
  · have e : i = n := by omega
    subst e
    exact .inl ⟨Nat.le_refl _, hd σ H p⟩
end L2
namespace L2
open PySem PySem.Spec PyProof.Rows
noncomputable abbrev R2 := V → V → Hp → VK → Prop
noncomputable def OpR (X : Cx) (f : Value → Value → Sem Value) (r : R2) : Prop :=
  ∀ (pins : List (Addr × Obj)) (s : Shared) (σ : St) (H : Hp) (x y : V) (v u : Value) (Q : VK), Inv X pins σ H s → Zab x v → Zab y u → r x y H Q →
    wpAny (model X.prog X.w) X.A (f v u) (EP X pins σ Q) X.xe s
noncomputable def UnR (X : Cx) (f : Value → Sem Value) (r : V → Hp → VK → Prop) : Prop :=
  ∀ (pins : List (Addr × Obj)) (s : Shared) (σ : St) (H : Hp) (x : V) (v : Value) (Q : VK), Inv X pins σ H s → Zab x v → r x H Q →
    wpAny (model X.prog X.w) X.A (f v) (EP X pins σ Q) X.xe s
noncomputable def Za8 (X : Cx) (f : Value) (r : List V → Hp → VK → Prop) : Prop :=
  ∀ (pins : List (Addr × Obj)) (s : Shared) (σ : St) (H : Hp) (xs : List V) (us : List Value) (Q : VK), Inv X pins σ H s → ZO xs us → r xs H Q →
    wpAny (model X.prog X.w) X.A (call f us) (EP X pins σ Q) X.xe s
noncomputable def tOp (r : R2) (ta tb : TE) : TE := fun σ H Q => ta σ H fun x H1 => tb σ H1 fun y H2 => r x y H2 Q
noncomputable def tUn (r : V → Hp → VK → Prop) (ta : TE) : TE := fun σ H Q => ta σ H fun x H1 => r x H1 Q
noncomputable def rI (C : Int → Int → Prop) (g : Int → Int → V) : R2 := fun x y H Q => ∃ i j, x = .int i ∧ y = .int j ∧ C i j ∧ Q (g i j) H
noncomputable def rI0 (g : Int → Int → V) : R2 := fun x y H Q => ∃ i j, x = .int i ∧ y = .int j ∧ Q (g i j) H
noncomputable def rU (g : Int → V) : V → Hp → VK → Prop := fun x H Q => ∃ i, x = .int i ∧ Q (g i) H
section
variable {X : Cx} {a b c : Expr} {ta tb tc : TE} {pos : Pos}
theorem ZnP (ha : PE X a ta) (hb : PE X b tb) {pins : List (Addr × Obj)} {s : Shared} {σ : St} {H : Hp} {R : V → V → Hp → Prop} (I : Inv X pins σ H s)
    (h : ta σ H fun x H1 => tb σ H1 fun y H2 => R x y H2) {Q : Value → Shared → Prop} {f : Value → Value → Sem Value}
    (hf : ∀ v u s2 x y H2, Inv X pins σ H2 s2 → Zab x v → Zab y u → R x y H2 → wpAny (model X.prog X.w) X.A (f v u) Q X.xe s2) :
    wpAny (model X.prog X.w) X.A (eval a X.env) (fun v s₁ => wpAny (model X.prog X.w) X.A (eval b X.env) (fun u s₂ => wpAny (model X.prog X.w) X.A (f v u) Q X.xe s₂) X.xe s₁) X.xe s := by
  refine thn (ha pins s σ H _ I h) fun v s1 ⟨x, H1, I1, r1, q1⟩ => ?_
  refine thn (hb pins s1 σ H1 _ I1 q1) fun u s2 ⟨y, H2, I2, r2, q2⟩ => ?_
  exact hf v u s2 x y H2 I2 r1 r2 q2
theorem ZnQ {op : Operator} {r : R2} (ho : OpR X (binaryOp op) r) (ha : PE X a ta) (hb : PE X b tb) : PE X (.BinOp a op b pos) (tOp r ta tb) := by
  intro pins s σ H Q I h
  exact wpAny_BinOp (ZnP ha hb I h fun v u s2 x y H2 I2 rx ry q => ho pins s2 σ H2 x y v u Q I2 rx ry q)
theorem ZnR {op : UnaryOp} {r : V → Hp → VK → Prop} (ho : UnR X (unaryOp op) r) (ha : PE X a ta) : PE X (.UnaryOp op a pos) (tUn r ta) := by
  intro pins s σ H Q I h
  exact UnaryOp_ (thn (ha pins s σ H _ I h) fun v s1 ⟨x, H1, I1, r1, q1⟩ => ho pins s1 σ H1 x v Q I1 r1 q1)
theorem opI {f : Value → Value → Sem Value} {C : Int → Int → Prop} {g : Int → Int → Int}
    (rule : ∀ (i j : Int) (t u : Tok) (s : Shared) (Q : Value → Shared → Prop) (E : Value → Shared → Prop), C i j → Q (.int (g i j) s.toks) { s with toks := s.toks + 1 } → wpAny (model X.prog X.w) X.A (f (.int i t) (.int j u)) Q E s) :
    OpR X f (rI C fun i j => .int (g i j)) := by
  intro pins s σ H x y v u Q I rx ry h
  obtain ⟨i, j, rfl, rfl, hc, q⟩ := h
  obtain ⟨t, rfl⟩ := rx
  obtain ⟨t', rfl⟩ := ry
  exact rule i j t t' s _ _ hc ⟨.int (g i j), H, I.tok _, ⟨_, rfl⟩, q⟩
theorem ZpK {f : Value → Value → Sem Value} {g : Int → Int → Int}
    (rule : ∀ (i j : Int) (t u : Tok) (s : Shared) (Q : Value → Shared → Prop) (E : Value → Shared → Prop), Q (.int (g i j) s.toks) { s with toks := s.toks + 1 } → wpAny (model X.prog X.w) X.A (f (.int i t) (.int j u)) Q E s) :
    OpR X f (rI0 fun i j => .int (g i j)) := by
  intro pins s σ H x y v u Q I rx ry h
  obtain ⟨i, j, rfl, rfl, q⟩ := h
  obtain ⟨t, rfl⟩ := rx
  obtain ⟨t', rfl⟩ := ry
  exact rule i j t t' s _ _ ⟨.int (g i j), H, I.tok _, ⟨_, rfl⟩, q⟩
theorem ZnS {f : Value → Value → Sem Value} {g : Int → Int → Bool}
    (rule : ∀ (i j : Int) (t u : Tok) (s : Shared) (Q : Value → Shared → Prop) (E : Value → Shared → Prop), Q (.bool (g i j)) s → wpAny (model X.prog X.w) X.A (f (.int i t) (.int j u)) Q E s) :
    OpR X f (rI0 fun i j => .bl (g i j)) := by
  intro pins s σ H x y v u Q I rx ry h
  obtain ⟨i, j, rfl, rfl, q⟩ := h
  obtain ⟨t, rfl⟩ := rx
  obtain ⟨t', rfl⟩ := ry
  exact rule i j t t' s _ _ ⟨.bl (g i j), H, I, rfl, q⟩
noncomputable def ZpL (i j : Int) : Prop := 0 ≤ j ∧ j ≤ 1000000 ∧ i.natAbs < 2 ^ 64
noncomputable def ZpM (i j : Int) : Prop := (-(2 ^ 64) < i ∧ i < 2 ^ 64) ∨ (-(2 ^ 64) < j ∧ j < 2 ^ 64)
theorem ZpM.ok {i j : Int} (h : ZpM i j) : IntMulOk i j := by
  rcases h with ⟨h1, h2⟩ | ⟨h1, h2⟩
  · exact .of_left (intBits_le_64 h1 h2)
  · exact .of_right (intBits_le_64 h1 h2)
theorem Zk1 : OpR X (binaryOp .Add) (rI0 fun i j => .int (i + j)) := ZpK fun _ _ _ _ _ _ _ q => add_int q
theorem Zk2 : OpR X (binaryOp .Sub) (rI0 fun i j => .int (i - j)) := ZpK fun _ _ _ _ _ _ _ q => sub_int q
theorem Zje : OpR X (binaryOp .Mod) (rI (fun _ j => j ≠ 0) fun i j => .int (i.fmod j)) := opI fun _ _ _ _ _ _ _ hc q => mod_int' hc q
theorem Zk3 : OpR X (binaryOp .Pow) (rI ZpL fun i j => .int (i ^ j.toNat)) := opI fun _ _ _ _ _ _ _ hc q => pow_int_small hc.1 hc.2.1 hc.2.2 q
theorem unI {f : Value → Sem Value} {g : Int → Int}
    (rule : ∀ (i : Int) (t : Tok) (s : Shared) (Q : Value → Shared → Prop) (E : Value → Shared → Prop), Q (.int (g i) s.toks) { s with toks := s.toks + 1 } → wpAny (model X.prog X.w) X.A (f (.int i t)) Q E s) :
    UnR X f (rU fun i => .int (g i)) := by
  intro pins s σ H x v Q I rx h
  obtain ⟨i, rfl, q⟩ := h
  obtain ⟨t, rfl⟩ := rx
  exact rule i t s _ _ ⟨.int (g i), H, I.tok _, ⟨_, rfl⟩, q⟩
theorem Zk4 : UnR X (unaryOp .USub) (rU fun i => .int (-i)) := unI fun _ _ _ _ _ q => neg_int q
end
section
variable {X : Cx} {a b c : Expr} {ta tb tc : TE} {pos : Pos}
theorem Zeg : OpR X (compareOp .Lt) (rI0 fun i j => .bl (decide (i < j))) := ZnS fun _ _ _ _ _ _ _ q => lt_int q
theorem Zhx : OpR X (compareOp .Gt) (rI0 fun i j => .bl (decide (j < i))) := ZnS fun _ _ _ _ _ _ _ q => gt_int q
theorem ZnT : OpR X (compareOp .GtE) (rI0 fun i j => .bl (decide (j ≤ i))) := ZnS fun _ _ _ _ _ _ _ q => ge_int q
theorem OpR.or {f : Value → Value → Sem Value} {r r' : R2} (h : OpR X f r) (h' : OpR X f r') : OpR X f (fun x y H Q => r x y H Q ∨ r' x y H Q) := by
  intro pins s σ H x y v u Q I rx ry q
  rcases q with q | q
  · exact h pins s σ H x y v u Q I rx ry q
  · exact h' pins s σ H x y v u Q I rx ry q
theorem Zis (b : Expr) {op : CmpOp} (h : op ≠ .In := by decide) (h2 : op ≠ .NotIn := by decide) : behindInMarks op b = false := by
  have e1 : (op == CmpOp.In) = false := by cases op <;> first | rfl | exact absurd rfl h
  have e2 : (op == CmpOp.NotIn) = false := by cases op <;> first | rfl | exact absurd rfl h2
  cases b <;> simp [behindInMarks, e1, e2]
theorem Zjf {op : CmpOp} {r : R2} (ho : OpR X (compareOp op) r) (ha : PE X a ta) (hb : PE X b tb) (hm : behindInMarks op b = false) : PE X (.Compare a [op] [b] pos) (tOp r ta tb) := by
  intro pins s σ H Q I h
  exact wpAny_Compare1 (ZnP ha hb I h fun v u s2 x y H2 I2 rx ry q => ho pins s2 σ H2 x y v u Q I2 rx ry q) hm
noncomputable def Zk5 (t : TE) : TT := fun σ H Q => t σ H fun x H' => ∃ k, x = .bl k ∧ Q k H'
theorem Zjg {op : CmpOp} {r : R2} (ho : OpR X (compareOp op) r) (ha : PE X a ta) (hb : PE X b tb) (hm : behindInMarks op b = false) : PT X (.Compare a [op] [b] pos) (Zk5 (tOp r ta tb)) := by
  intro pins s σ H Q I h
  refine wpAny_isTrue_Compare1 (thn (ha pins s σ H _ I h) fun v s1 ⟨x, H1, I1, r1, q1⟩ => thn (hb pins s1 σ H1 _ I1 q1) fun u s2 ⟨y, H2, I2, r2, q2⟩ =>
    thn (ho pins s2 σ H2 x y v u _ I2 r1 r2 q2) fun c s3 ⟨z, H3, I3, r3, k, e, q3⟩ => ?_) hm
  subst e
  cases r3
  exact wpAny_truthy_bool ⟨H3, I3, q3⟩
theorem ZeP : (sizeLine : Nat) < 2 ^ 63 := by rw [sizeLine_eq]; decide
theorem Zfk : OpR X (binaryOp .Add) (fun x y H Q => ∃ i j, x = .str i ∧ y = .str j ∧ i.length + j.length ≤ sizeLine ∧ Q (.str (i ++ j)) H) := by
  intro pins s σ H x y v u Q I rx ry h
  obtain ⟨i, j, rfl, rfl, hz, q⟩ := h
  obtain ⟨t, rfl⟩ := rx
  obtain ⟨t', rfl⟩ := ry
  exact add_str (fun t' tk => ⟨.str (i ++ j), H, I.tok _, ⟨_, rfl⟩, q⟩) hz
theorem ZcX {x : V} {us : List Value} (r : ZO [x] us) : ∃ u, us = [u] ∧ Zab x u := by
  cases r with
  | cons r1 r2 => cases r2; exact ⟨_, rfl, r1⟩
theorem Zhy {x y : V} {us : List Value} (r : ZO [x, y] us) : ∃ u w', us = [u, w'] ∧ Zab x u ∧ Zab y w' := by
  cases r with
  | cons r1 r2 =>
    cases r2 with
    | cons r3 r4 => cases r4; exact ⟨_, _, rfl, r1, r3⟩
theorem Zbh : Za8 X (.builtin "abs") (fun xs H Q => ∃ i, xs = [.int i] ∧ Q (.int (if i < 0 then -i else i)) H) := by
  intro pins s σ H xs us Q I r h
  obtain ⟨i, rfl, q⟩ := h
  obtain ⟨u, rfl, t, rfl⟩ := ZcX r
  exact call_abs_int fun u tk => ⟨.int (if i < 0 then -i else i), H, I.tok _, ⟨_, rfl⟩, q⟩
theorem Zdx (hc : X.calm = true) : Za8 X (.builtin "max") (fun xs H Q => ∃ i j, xs = [.int i, .int j] ∧ Q (.int (if j > i then j else i)) H) := by
  intro pins s σ H xs us Q I r h
  obtain ⟨i, j, rfl, q⟩ := h
  obtain ⟨u, w', rfl, ⟨t, rfl⟩, ⟨t', rfl⟩⟩ := Zhy r
  refine max_two_ints (I.ok.hd hc) fun h' tk k => ⟨_, H, I.kept k, ?_, q⟩
  by_cases hj : j > i
  · rw [if_pos hj, if_pos hj]; exact ⟨_, rfl⟩
  · rw [if_neg hj, if_neg hj]; exact ⟨_, rfl⟩
theorem ZfY (hc : X.calm = true) : Za8 X (.builtin "min") (fun xs H Q => ∃ i j, xs = [.int i, .int j] ∧ Q (.int (if j < i then j else i)) H) := by
  intro pins s σ H xs us Q I r h
  obtain ⟨i, j, rfl, q⟩ := h
  obtain ⟨u, w', rfl, ⟨t, rfl⟩, ⟨t', rfl⟩⟩ := Zhy r
  refine min_two_ints (I.ok.hd hc) fun h' tk k => ⟨_, H, I.kept k, ?_, q⟩
  by_cases hj : j < i
  · rw [if_pos hj, if_pos hj]; exact ⟨_, rfl⟩
  · rw [if_neg hj, if_neg hj]; exact ⟨_, rfl⟩
theorem Za9 : Za8 X (.type "int") (fun xs H Q => (∃ i, xs = [.int i] ∧ Q (.int i) H) ∨ ∃ k, xs = [.bl k] ∧ Q (.int (if k then 1 else 0)) H) := by
  intro pins s σ H xs us Q I r h
  rcases h with ⟨i, rfl, q⟩ | ⟨k, rfl, q⟩
  · obtain ⟨u, rfl, t, rfl⟩ := ZcX r
    exact call_int_int ⟨.int i, H, I, ⟨_, rfl⟩, q⟩
  · obtain ⟨u, rfl, r1⟩ := ZcX r
    cases r1
    exact call_int_bool ⟨.int (if k then 1 else 0), H, I.tok _, ⟨_, rfl⟩, q⟩
end
end L2
namespace L2
open PySem PySem.Spec PyProof.Rows
section
variable {prog : Program} {w : World} {A : Around} {E : Value → Shared → Prop} {s : Shared} {K : PySem.W.Frag} {x dx C f : Addr} {mA : Str → Option Value} {name : Str} {v : Value}
end
section
variable {P : Program} {w : World} {H H' : Hp} {h h' : Heap} {a C dx : Addr} {fs fs' : List (Str × V)}
end
structure Cls (K : PySem.W.Frag) (C : Addr) : Prop where
  pg : PySem.W.plainGet K C Str.empty = true
  hd : PySem.W.hasDictIn K C = true
  po : PySem.W.plainOver K C = true
  sa : PySem.W.findIn K (.ref C) "__setattr__" = some (some (.builtin "object.__setattr__"))
theorem Cls.get {K : PySem.W.Frag} {C : Addr} (c : Cls K C) (f : Str) : PySem.W.plainGet K C f = true := c.pg
section
variable {X : Cx} {pins : List (Addr × Obj)} {σ : St} {H : Hp} {s : Shared} {a C dx : Addr} {fs : List (Str × V)} {f : Str} {v : V} {A : Around} {E : Value → Shared → Prop}
theorem Inv.made (I : Inv X pins σ H s) : Inv X pins σ (upd (upd H s.heap.objs.size (.own (s.heap.objs.size + 1))) (s.heap.objs.size + 1) (.ins C s.heap.objs.size []))
    { s with heap := (s.heap.push PySem.W.emptyDict).push (PySem.W.instObj C s.heap.objs.size) } := by
  have e1 : (s.heap.push PySem.W.emptyDict).get? s.heap.objs.size = some PySem.W.emptyDict := Heap.get?_push_size s.heap rfl
  have e2 : ((s.heap.push PySem.W.emptyDict).push (PySem.W.instObj C s.heap.objs.size)).get? (s.heap.objs.size + 1) = some (PySem.W.instObj C s.heap.objs.size) := by
    have := Heap.get?_push_size (s.heap.push PySem.W.emptyDict) (o := PySem.W.instObj C s.heap.objs.size) rfl
    rwa [Heap.size_push] at this
  have e3 : (s.heap.push PySem.W.emptyDict).Ns s.heap.objs.size (fun _ => none) := ⟨PySem.W.emptyDict, #[], _, e1, rfl, (fun e he => absurd he (by simp)), fun _ => rfl⟩
  have I1 := I.laid (a := s.heap.objs.size) (o := .own (s.heap.objs.size + 1)) (h' := s.heap.push PySem.W.emptyDict) (t' := s.toks) (fun b u q => Heap.get?_push_of_some _ q) (Nat.le_refl _) ⟨_, e1⟩
  refine I1.laid (a := s.heap.objs.size + 1) (o := .ins C s.heap.objs.size []) (t' := s.toks) (fun b u q => Heap.get?_push_of_some _ q) (Nat.le_of_eq (Heap.size_push _ _)) ?_
  have ne : s.heap.objs.size ≠ s.heap.objs.size + 1 := Nat.ne_of_lt (Nat.lt_succ_self _)
  refine ⟨by rw [ZG ne, Zal], Nat.zero_le _, ne, e2, fun _ => none, (Heap.Ns1.of_empty e3).at fun o q => Heap.get?_push_of_some _ q, fun _ => True.intro, fun y hy => absurd rfl hy⟩
end
section
variable {X : Cx} {o e value : Expr} {f : Str} {pos pos' tpos : Pos} {ta tv : TE}
end
section
variable {X : Cx} {pins : List (Addr × Obj)} {σ : St} {H : Hp} {s : Shared} {A : Around} {E : Value → Shared → Prop} {Q : Value → Shared → Prop} {c : Value} {b : Bool}
end
end L2
namespace L2
open PySem PySem.Spec PyProof.Rows
structure Room (k : Nat) (A : Around) : Prop where
  hd : 100 ≤ k → A.handled = none
  dp : A.depth + 3 * k + 5 < recursionLimit
  un : A.units + 16 * k + 200 < cLine
theorem Room.mono {j k : Nat} {A : Around} (r : Room k A) (h : j ≤ k) : Room j A := ⟨fun z => r.hd (Nat.le_trans z h), by have := r.dp; omega, by have := r.un; omega⟩
theorem Room.deeper {k : Nat} {A : Around} (r : Room (k + 1) A) (env : Env) : Room k (A.deeper env) :=
  ⟨fun z => r.hd (Nat.le_succ_of_le z), by have := r.dp; show A.depth + 1 + 3 * k + 5 < _; omega, by have := r.un; show A.units + 3 + 16 * k + 200 < _; omega⟩
theorem Room.in1 {k : Nat} {A : Around} (r : Room (k + 1) A) : Room k A.in1 :=
  ⟨fun z => r.hd (Nat.le_succ_of_le z), by have := r.dp; show A.depth + 3 * k + 5 < _; omega, by have := r.un; show A.units + 1 + 16 * k + 200 < _; omega⟩
theorem Zfl {A : Around} {C : Addr} {us : List Value} {kw : List (Str × Value)} : (A.under (.builtin "type.__call__" ⟨.ref C :: us, kw⟩)).depth = A.depth + 1 := by
  first | rfl | simp [Around.under, Code.weight, Code.isCreation, Code.isGuard, Code.isCaller, Code.frames, Code.isFrame, guardIds]
theorem Zfm {A : Around} {C : Addr} {us : List Value} {kw : List (Str × Value)} : (A.under (.builtin "type.__call__" ⟨.ref C :: us, kw⟩)).units = A.units + 1 := by
  first | rfl | simp [Around.under, Code.cUnits, Code.frames, Code.isFrame]
theorem Room.make {k : Nat} {A : Around} (r : Room (k + 1) A) (C : Addr) (us : List Value) (kw : List (Str × Value)) : Room k (A.under (.builtin "type.__call__" ⟨.ref C :: us, kw⟩)) :=
  ⟨fun z => r.hd (Nat.le_succ_of_le z), by have := r.dp; rw [Zfl]; omega, by have := r.un; rw [Zfm]; omega⟩
theorem Room.depth {k : Nat} {A : Around} (r : Room k A) : A.depth < recursionLimit := by have := r.dp; omega
theorem Room.units {k : Nat} {A : Around} (r : Room k A) : A.units + 64 < cLine := by have := r.un; omega
noncomputable def tNil : TA := fun _ H Q => Q [] H
noncomputable def ZnU (ta : TE) (tr : TA) : TA := fun σ H Q => ta σ H fun x H1 => tr σ H1 fun xs H2 => Q (x :: xs) H2
section
variable {X : Cx} {e : Expr} {es : List Expr} {te : TE} {t : TA} {pos : Pos}
theorem Zit : PA X [] tNil := fun _ _ _ _ H Q I h => Calls.spliced_nil ⟨[], H, I, .nil, h⟩
theorem Zeh (ha : PE X e te) (hr : PA X es t) (hs : starEach (e :: es) X.env = (false, eval e X.env) :: starEach es X.env := by rfl) : PA X (e :: es) (ZnU te t) := by
  intro pos pins s σ H Q I h
  rw [hs]
  show wpAny _ _ (spliced ((false, eval e X.env) :: backTo pos (starEach es X.env))) _ _ s
  refine Calls.spliced_cons (thn (ha pins s σ H _ I h) fun u s1 ⟨x, H1, I1, r1, q1⟩ => ?_)
  exact thn (hr pos pins s1 σ H1 _ I1 q1) fun us s2 ⟨xs, H2, I2, r2, q2⟩ => ⟨x :: xs, H2, I2, .cons r1 r2, q2⟩
noncomputable def ZqV (t : TA) : TE := fun σ H Q => t σ H fun xs H1 => xs.length ≤ sizeLine ∧ ∀ p, H1 p = none → Q (.ref p) (upd H1 p (.tup xs))
noncomputable def ZqW (t : TA) : TE := fun σ H Q => t σ H fun xs H1 => xs.length ≤ sizeLine ∧ ∀ p, H1 p = none → Q (.ref p) (upd H1 p (.lst xs))
theorem Zk6 {x1} (h : PA X es t) : PE X (.Tuple es x1 pos) (ZqV t) := by
  intro pins s σ H Q I hq
  refine wpAny_Tuple_spliced (thn (h pos pins s σ H _ I hq) fun us s1 ⟨xs, H1, I1, r, z, q⟩ => ⟨by rw [← r.length]; exact z, ?_⟩)
  have hf : H1 s1.heap.objs.size = none := I1.hok.fresh (Nat.le_refl _)
  refine ⟨.ref s1.heap.objs.size, upd H1 s1.heap.objs.size (.tup xs), I1.laid (t' := s1.toks) (fun b u e => Heap.get?_push_of_some _ e) (Nat.le_refl _) ?_, rfl, q _ hf⟩
  exact ⟨z, us, r, ⟨_, Heap.get?_push_size _ rfl, rfl, _, rfl⟩⟩
theorem Zk7 (h : PA X es t) : PE X (.List es pos) (ZqW t) := by
  intro pins s σ H Q I hq
  refine wpAny_List_spliced (thn (h pos pins s σ H _ I hq) fun us s1 ⟨xs, H1, I1, r, z, q⟩ => ⟨by rw [← r.length]; exact z, ?_⟩)
  have hf : H1 s1.heap.objs.size = none := I1.hok.fresh (Nat.le_refl _)
  refine ⟨.ref s1.heap.objs.size, upd H1 s1.heap.objs.size (.lst xs), I1.laid (t' := s1.toks) (fun b u e => Heap.get?_push_of_some _ e) (Nat.le_refl _) ?_, rfl, q _ hf⟩
  exact ⟨z, us, 0, r, Heap.get?_push_size _ rfl⟩
end
noncomputable abbrev Sp := List V → Hp → VK → XK → Prop
noncomputable abbrev CXT := List Env → Hp → Shared → XK → Value → Shared → Prop
structure Env0 (P : Program) (w : World) (K : PySem.W.Frag) (mg : Str → Option Value) (base : Heap) (A : Around) (outer : List Env) (s : Shared) (H : Hp) : Prop where
  frames : A.frames = some outer
  mod : Mod K mg base
  bs : ∀ b o, base.get? b = some o → s.heap.get? b = some o ∧ H b = none
  bsz : base.objs.size ≤ s.heap.objs.size
  funs : s.heap.FunFrames base outer
  frf : ∀ b ∈ frs outer, H b = none
  hok : HOk P w H s.heap
  bare : AllBare s.gens
  qd : Qd A H
noncomputable def CE (outer : List Env) (P : Program) (w : World) (H : Hp) (s : Shared) (Q : VK) (u : Value) (s' : Shared) : Prop :=
  ∃ v H', s'.os = s.os ∧ AllBare s'.gens ∧ Un (frs outer) [] H H' s.heap s'.heap ∧ HOk P w H' s'.heap ∧ Zab v u ∧ Q v H'
noncomputable def CR (CX : CXT) (outer : List Env) (P : Program) (w : World) (H : Hp) (s : Shared) (Q : VK) (E : XK) (r : Result) (s' : Shared) : Prop :=
  match r with
  | .ok (.ret u) => CE outer P w H s Q u s'
  | .ok _ => False
  | .error e => CX outer H s E e s'
structure FnOk (P : Program) (w : World) (K : PySem.W.Frag) (mg : Str → Option Value) (base : Heap) (CX : CXT) (k : Nat) (f : Addr) (fd : FuncData) (ps : List Str) (sp : Sp) : Prop where
  len : ∀ vs H Q E, sp vs H Q E → vs.length = ps.length
  run : ∀ (A : Around) (outer : List Env) (s : Shared) (H : Hp) (args : Args) (us : List Value) (vs : List V) (Q : VK) (E : XK), Room k A → Env0 P w K mg base A outer s H → BindsTo s fd args (ps.zip us) → ZO vs us → sp vs H Q E →
    codeAny (model P w) A (.call (.ref f) args) (CR CX outer P w H s Q E) s
theorem FnOk.mono {P : Program} {w : World} {K : PySem.W.Frag} {mg : Str → Option Value} {base : Heap} {CX : CXT} {j k : Nat} {f : Addr} {fd : FuncData} {ps : List Str} {sp : Sp} (F : FnOk P w K mg base CX j f fd ps sp) (h : j ≤ k) :
    FnOk P w K mg base CX k f fd ps sp := ⟨F.len, fun A outer s H args us vs Q E hr => F.run A outer s H args us vs Q E (hr.mono h)⟩
theorem Env0.make {P : Program} {w : World} {K : PySem.W.Frag} {mg : Str → Option Value} {base : Heap} {A : Around} {outer : List Env} {s : Shared} {H : Hp} (e : Env0 P w K mg base A outer s H) (C : Addr) (us : List Value) (kw : List (Str × Value)) :
    Env0 P w K mg base (A.under (.builtin "type.__call__" ⟨.ref C :: us, kw⟩)) outer s H := ⟨by first | exact e.frames | (simpa [Around.under, Code.envs, Code.isFrame, pushEnvs] using e.frames), e.mod, e.bs, e.bsz, e.funs, e.frf, e.hok, e.bare, e.qd⟩
theorem Env0.in1 {P : Program} {w : World} {K : PySem.W.Frag} {mg : Str → Option Value} {base : Heap} {A : Around} {outer : List Env} {s : Shared} {H : Hp} (e : Env0 P w K mg base A outer s H) :
    Env0 P w K mg base A.in1 outer s H := ⟨e.frames, e.mod, e.bs, e.bsz, e.funs, e.frf, e.hok, e.bare, e.qd⟩
section
variable {X : Cx} {pins : List (Addr × Obj)} {σ : St} {H : Hp} {s s' : Shared}
theorem Inv.env0 (I : Inv X pins σ H s) : Env0 X.prog X.w X.K X.mg X.base X.A X.stack s H :=
  ⟨I.ok.frames, I.ok.mod, I.bs, Nat.le_trans I.ok.bsz I.sz, I.stack, I.stkFree, I.hok, I.bare, I.qd⟩
theorem Inv.after {Q : VK} {u : Value} (I : Inv X pins σ H s) (h : CE X.stack X.prog X.w H s Q u s') : EP X pins σ Q u s' := by
  obtain ⟨v, H', os, bare, un, hok, r, q⟩ := h
  obtain ⟨hh, g, d, t, os'⟩ := s'
  obtain rfl : os' = s.os := os
  exact ⟨v, H', I.call (h' := hh) (g' := g) (d' := d) (t' := t) (ch := []) un hok bare (fun b z => absurd z (by simp)), r, q⟩
end
noncomputable def ZnV (sp : Sp) (dvs : List V) (E : XK) (t : TA) : TE := fun σ H Q => t σ H fun vs H1 => sp (vs ++ dvs) H1 Q E
noncomputable def Zei (K : PySem.W.Frag) (fd : FuncData) (ps : List Str) (ds : List Value) : Prop :=
  ∀ (s : Shared) (us : List Value), K.In s.heap → (us ++ ds).length = ps.length → BindsTo s fd ⟨us, []⟩ (ps.zip (us ++ ds))
theorem Zei.all {K : PySem.W.Frag} {fd : FuncData} {ps : List Str} (h : ∀ us : List Value, us.length = ps.length → bindArgs fd ⟨us, []⟩ = pure (ps.zip us)) : Zei K fd ps [] := fun s us _ hl => by
  rw [List.append_nil] at hl ⊢
  exact .of_eq (h us hl)
noncomputable def ZfZ (CX : CXT) (X : Cx) (E : XK) : Prop := ∀ (pins : List (Addr × Obj)) (σ : St) (H : Hp) (s : Shared) (e : Value) (s' : Shared), Inv X pins σ H s → CX X.stack H s E e s' → X.xe e s'
section
variable {X : Cx} {CX : CXT} {k : Nat} {f C : Addr} {fd : FuncData} {ps : List Str} {sp : Sp} {dvs : List V} {ds : List Value} {E : XK} {x m : Str} {p pos apos : Pos} {e o : Expr} {es : List Expr} {ta : TE} {t : TA}
theorem Zk8 {pins : List (Addr × Obj)} {σ : St} {H : Hp} {s : Shared} {Q : VK} {us : List Value} {vs : List V} (F : FnOk X.prog X.w X.K X.mg X.base CX k f fd ps sp) (hr : Room k X.A) (hb : Zei X.K fd ps ds) (hd : ZO dvs ds) (hx : ZfZ CX X E)
    (I : Inv X pins σ H s) (r : ZO vs us) (h : sp (vs ++ dvs) H Q E) : wpAny (model X.prog X.w) X.A (call (.ref f) us) (EP X pins σ Q) X.xe s := by
  have r2 : ZO (vs ++ dvs) (us ++ ds) := r.append hd
  have hl : (us ++ ds).length = ps.length := by rw [← r2.length]; exact F.len _ _ _ _ h
  refine wpAny_call (codeAny_mono (F.run X.A X.stack s H ⟨us, []⟩ (us ++ ds) (vs ++ dvs) Q E hr I.env0 (hb s us I.kIn hl) r2 h) fun r s' hq => ?_)
  cases r with
  | error e => exact hx pins σ H s e s' I hq
  | ok fl =>
    cases fl with
    | ret u => exact I.after hq
    | next => exact False.elim hq
    | brk => exact False.elim hq
    | cont => exact False.elim hq
theorem Zjh (F : FnOk X.prog X.w X.K X.mg X.base CX k f fd ps sp) (hr : Room k X.A) (hg : Gl X x) (hm : X.mg x = some (.ref f)) (hk : PySem.W.keepIn X.K (.ref f) = true) (hb : Zei X.K fd ps ds) (hd : ZO dvs ds) (hx : ZfZ CX X E)
    (ha : PA X (e :: es) t) (hdb : (x == ("__debug__" : Str)) = false := by decide) (he : starEach (e :: es) X.env = (false, eval e X.env) :: starEach es X.env := by rfl) (hpl : (backTo pos (starEach es X.env)).any (·.1) = false := by rfl) :
    PE X (.Call (.Name x p) (e :: es) [] pos) (ZnV sp dvs E t) := by
  intro pins s σ H Q I h
  refine wpAny_Call_Name_kw (ZfS I hg hm ?_ hdb)
  refine PySem.W.callWith_K (h₀ := X.base) I.ok.mod.kin hk (thn (ha pos pins s σ H _ I h) fun us s1 ⟨vs, H1, I1, r, q⟩ => ⟨I1.kIn, ?_⟩) he hpl
  exact Zk8 F hr hb hd hx I1 r q
end
section
variable {X : Cx} {CX : CXT} {k : Nat} {f C : Addr} {fd : FuncData} {ps ks : List Str} {sp : Sp} {E : XK} {x m : Str} {p pos apos kpos : Pos} {e o : Expr} {es : List Expr} {kws : List Keyword} {te ta : TE} {t tk : TA} {nm : Option Str}
variable {g : List Value → List Value → List Value} {gV : List V → List V → List V}
end
structure FnScope (N P : List Str) (sc : Scope) : Prop where
  kind : sc.kind = .function
  co : sc.isCoroutine = false
  gen : sc.isGenerator = false
  nd : N.Nodup
  pre : N.take P.length = P
  par : ∀ x ∈ P, sc.names.lookup x = some .local ∨ sc.names.lookup x = some .cell
  nofree : ∀ y ∈ sc.names, y.2 ≠ .free
theorem Zdy {kindOf : Str → Option NameKind} {x : Str} : ∀ {binds : List (Str × Value)} {m : Str → Option Value}, (∀ v, (x, v) ∉ binds) → bindL kindOf binds m x = m x
  | [], _, _ => rfl
  | (n, v) :: r, m, h => by
    unfold bindL
    rw [Zdy fun w hw => h w (List.mem_cons_of_mem _ hw)]
    split
    · have : x ≠ n := by rintro rfl; exact h v List.mem_cons_self
      simp [this]
    · rfl
theorem Zdz {kindOf : Str → Option NameKind} {x : Str} : ∀ {binds : List (Str × Value)} {m : Str → Option Value}, (∀ v, (x, v) ∉ binds) → bindC kindOf binds m x = m x
  | [], _, _ => rfl
  | (n, v) :: r, m, h => by
    unfold bindC
    rw [Zdz fun w hw => h w (List.mem_cons_of_mem _ hw)]
    split
    · rfl
    · have : x ≠ n := by rintro rfl; exact h v List.mem_cons_self
      simp [this]
theorem ZdA {kindOf : Str → Option NameKind} {x : Str} {v : Value} : ∀ {P : List Str} {vs : List Value} {i : Nat} {m : Str → Option Value}, P.Nodup → P[i]? = some x → vs[i]? = some v → kindOf x = some .local →
    bindL kindOf (P.zip vs) m x = some v
  | [], _, _, _, _, h, _, _ => by simp at h
  | _ :: _, [], _, _, _, _, h, _ => by simp at h
  | p :: P, w :: vs, 0, m, nd, h1, h2, hk => by
    simp at h1 h2; subst h1; subst h2
    show bindL kindOf ((p, w) :: P.zip vs) m p = _
    unfold bindL
    rw [Zdy fun v hv => (List.nodup_cons.mp nd).1 (List.of_mem_zip hv).1, if_pos hk]
    simp
  | p :: P, w :: vs, i + 1, m, nd, h1, h2, hk => by
    show bindL kindOf ((p, w) :: P.zip vs) m x = _
    unfold bindL
    exact ZdA (i := i) (List.nodup_cons.mp nd).2 (by simpa using h1) (by simpa using h2) hk
theorem ZdB {kindOf : Str → Option NameKind} {x : Str} {v : Value} : ∀ {P : List Str} {vs : List Value} {i : Nat} {m : Str → Option Value}, P.Nodup → P[i]? = some x → vs[i]? = some v → kindOf x ≠ some .local →
    bindC kindOf (P.zip vs) m x = some v
  | [], _, _, _, _, h, _, _ => by simp at h
  | _ :: _, [], _, _, _, _, h, _ => by simp at h
  | p :: P, w :: vs, 0, m, nd, h1, h2, hk => by
    simp at h1 h2; subst h1; subst h2
    show bindC kindOf ((p, w) :: P.zip vs) m p = _
    unfold bindC
    rw [Zdz fun v hv => (List.nodup_cons.mp nd).1 (List.of_mem_zip hv).1, if_neg hk]
    simp
  | p :: P, w :: vs, i + 1, m, nd, h1, h2, hk => by
    show bindC kindOf ((p, w) :: P.zip vs) m x = _
    unfold bindC
    exact ZdB (i := i) (List.nodup_cons.mp nd).2 (by simpa using h1) (by simpa using h2) hk
noncomputable def start (N : List Str) (vs : List V) : St := vs.map some ++ List.replicate (N.length - vs.length) none
noncomputable def ZdC (CX : CXT) (P : Program) (w : World) (K : PySem.W.Frag) (mg : Str → Option Value) (base : Heap) (N : List Str) (qual : Str) (scope : Scope) (f : Addr) (cd : Value) (A : Around) (outer : List Env) (s : Shared) (H : Hp) (E : XK) : Cx where
  prog := P
  w := w
  K := K
  mg := mg
  base := base
  A := A.deeper (envOfC qual scope s.heap.objs.size f cd)
  N := N
  s₀ := s
  H₀ := H
  env := envOfC qual scope s.heap.objs.size f cd
  outer := outer
  stack := envOfC qual scope s.heap.objs.size f cd :: outer
  ex := []
  calm := A.handled.isNone
  fn := fun _ => true
  pn := []
  xe := fun e s' => wpAny (model P w) (A.deeper (envOfC qual scope s.heap.objs.size f cd)) (leaving (envOfC qual scope s.heap.objs.size f cd) e) (fun _ s'' => CX outer H s E e s'') (fun e' s'' => CX outer H s E e' s'') s'
theorem ZeQ {sc : Scope} {n : Nat} {x : Str} (h : sc.names.lookup x = some .cell) : ∃ c, (cellsFrom n sc.names []).lookup x = some c := by
  have q := PySem.W.cellsFrom_some sc.names n [] (.inl h)
  exact Option.isSome_iff_exists.mp q
theorem Zf0 {CX : CXT} {P : Program} {w : World} {K : PySem.W.Frag} {mg : Str → Option Value} {base : Heap} {N ps : List Str} {qual : Str} {scope : Scope} {f : Addr} {cd : Value} {A : Around} {outer : List Env} {s s1 : Shared} {H : Hp} {E : XK} {us : List Value} {vs : List V}
    (S : FnScope N ps scope) (e0 : Env0 P w K mg base A outer s H) (hl : vs.length = ps.length) (r : ZO vs us)
    (x : InCallC s s.heap.objs.size (bindL (envOfC qual scope s.heap.objs.size f cd).kindOf (ps.zip us) fun _ => none) (cellsFrom (s.heap.objs.size + 1) scope.names []) (bindC (envOfC qual scope s.heap.objs.size f cd).kindOf (ps.zip us) fun _ => none) s1) :
    Inv (ZdC CX P w K mg base N qual scope f cd A outer s H E) [] (start N vs) H s1 := by
  have hpl : ps.length ≤ N.length := by have := congrArg List.length S.pre; rw [List.length_take] at this; omega
  obtain ⟨h1, tk, rfl, hk⟩ := x.done
  have noA : ∀ b : Addr, b ∉ (ZdC CX P w K mg base N qual scope f cd A outer s H E).ex := fun b z => absurd (show b ∈ ([] : List Addr) from z) (by simp)
  refine ⟨⟨e0.mod, S.kind, rfl, rfl, Nat.le_refl _, fun y z c h1 h2 => ?_, fun y hy => ?_, fun y c _ h => ?_, fun z => Option.isNone_iff_eq_none.mp z, Around.frames_deeper e0.frames, .inr ⟨rfl, rfl⟩, fun b z => absurd z (noA b), e0.bs, e0.bsz, fun b _ _ => noA b, fun b z => absurd z (noA b), e0.funs, e0.frf⟩,
    rfl, e0.bare, Un.kept hk, ⟨_, x.toInCall.ns, fun i y v h1 h2 h3 => ?_⟩, fun y c h => ⟨_, x.cell y c h⟩, e0.hok.fresh (Nat.le_refl _), fun y c h => ?_, fun p hp => absurd (show p ∈ ([] : List (Addr × Obj)) from hp) (by simp), e0.hok.kept hk, ?_, e0.qd⟩
  · exact name_of_addr x.apart (PySem.mem_of_lookup h1) (PySem.mem_of_lookup h2)
  · have hy : scope.names.lookup y = some .cell ∨ scope.names.lookup y = some .free := hy
    rcases hy with hy | hy
    · exact ZeQ hy
    · exact absurd rfl (S.nofree _ (PySem.mem_of_lookup hy))
  · exact Nat.le_of_lt (x.above y c (PySem.mem_of_lookup h))
  · have hi : i < vs.length := by
      unfold start at h2
      by_cases hi : i < vs.length
      · exact hi
      · rw [List.getElem?_append_right (by simpa using hi)] at h2
        rw [List.getElem?_replicate] at h2
        split at h2 <;> cases h2
    have ha : vs[i]? = some v := by
      unfold start at h2
      rw [List.getElem?_append_left (by simpa using hi), List.getElem?_map] at h2
      cases e : vs[i]? with
      | none => rw [e] at h2; cases h2
      | some a => rw [e] at h2; cases h2; rfl
    obtain ⟨u, hu, rv⟩ := r.get ha
    have hp : ps[i]? = some y := by
      rw [← S.pre, List.getElem?_take_of_lt (by omega)]; exact h1
    have ndP : ps.Nodup := by rw [← S.pre]; exact S.nd.sublist (List.take_sublist _ _)
    refine ⟨u, rv, ?_⟩
    rcases S.par y (List.mem_of_getElem? hp) with k | k
    · exact .inl ⟨k, ZdA ndP hp hu k⟩
    · obtain ⟨c, e⟩ := ZeQ (n := s.heap.objs.size + 1) k
      refine .inr ⟨.inl k, c, e, ?_⟩
      have q := x.cell y c e
      rw [ZdB ndP hp hu (by show scope.names.lookup y ≠ _; rw [k]; decide)] at q
      exact q
  · exact e0.hok.fresh (Nat.le_of_lt (x.above y c (PySem.mem_of_lookup h)))
  · unfold start
    show _ = N.length
    rw [List.length_append, List.length_map, List.length_replicate]
    omega
theorem Zk9 {CX : CXT} {P : Program} {w : World} {K : PySem.W.Frag} {mg : Str → Option Value} {base : Heap} {k : Nat} {f : Addr} {name qual : Str} {params : Arguments} {body : List Stmt} {scope : Scope} {dV kV doc pm cdv ct oc : Value} {an od : Option Addr}
    {osl : Array (Option Value)} {N ps : List Str} {sp : Sp} (lk : K.lookup f = some ⟨oc, od, .func (PySem.W.fnOf name qual params body scope dV kV doc pm an cdv ct), osl⟩) (hcd : PySem.W.codeIn K cdv qual = true) (S : FnScope N ps scope)
    (len : ∀ vs H Q E, sp vs H Q E → vs.length = ps.length)
    (hbody : ∀ (A : Around) (outer : List Env) (s : Shared) (H : Hp) (vs : List V) (Q : VK) (E : XK), Room k (A.deeper (envOfC qual scope s.heap.objs.size f cdv)) → sp vs H Q E →
      ∃ t, PSs (ZdC CX P w K mg base N qual scope f cdv A outer s H E) body t ∧ t { nx := fun _ H' => Q .non H', rt := Q } (start N vs) H) :
    FnOk P w K mg base CX (k + 1) f (PySem.W.fnOf name qual params body scope dV kV doc pm an cdv ct) ps sp := by
  refine ⟨len, fun A outer s H args us vs Q E hr e0 hb r hsp => ?_⟩
  have hl := len _ _ _ _ hsp
  have KX : K.In s.heap := e0.mod.kin.keeps fun b o e => (e0.bs b o e).1
  have lim : s.heap.NoLimit := e0.mod.nolimit.keeps fun b o e => (e0.bs b o e).1
  have hkind : ∀ y ∈ ps.zip us, scope.names.lookup y.1 = some .local ∨ (scope.names.lookup y.1 = some .cell ∧ ((cellsFrom (s.heap.objs.size + 1) scope.names []).lookup y.1).isSome = true) := fun ⟨n, v⟩ hy => by
    rcases S.par n (List.of_mem_zip hy).1 with q | q
    · exact .inl q
    · exact .inr ⟨q, PySem.W.cellsFrom_some _ _ _ (.inl q)⟩
  refine codeAny_call_function hr.depth (KX _ _ lk) rfl S.co S.gen rfl (PySem.W.codeRec_of KX hcd) (hb _ _ _ _ ?_)
  refine wpAny_newFunctionEnv_cells S.kind hkind fun env he s1 x => ?_
  subst he
  refine ⟨lim.keeps x.toInCall.keep, codeAny_func ?_⟩
  obtain ⟨t, ht, hq⟩ := hbody A outer s H vs Q E (hr.deeper _) hsp
  have I : Inv (ZdC CX P w K mg base N qual scope f cdv A outer s H E) [] (start N vs) H s1 := Zf0 S e0 hl r x
  refine wpAny_mono (ht [] s1 (start N vs) H _ I hq) (fun fl s' hs => ?_) fun e s' hs => hs
  have fin : ∀ {σ' : St} {H' : Hp} {v : V} {u : Value}, Inv (ZdC CX P w K mg base N qual scope f cdv A outer s H E) [] σ' H' s' → Zab v u → Q v H' → CE outer P w H s Q u s' :=
    fun {σ' H' v u} J rv q => ⟨v, H', J.os, J.bare, J.base, J.hok, rv, q⟩
  cases fl with
  | ret u =>
    obtain ⟨v, σ', H', J, rv, q⟩ := hs
    exact fin J rv q
  | next =>
    obtain ⟨σ', H', J, q⟩ := hs
    exact fin (v := V.non) (u := Value.none) J rfl q
  | brk =>
    obtain ⟨_, _, _, q⟩ := hs
    exact False.elim q
  | cont =>
    obtain ⟨_, _, _, q⟩ := hs
    exact False.elim q
end L2
namespace L2
open PySem PySem.Spec PyProof.Rows
section
variable {X : Cx} {x : Str} {p pos : Pos} {e : Expr} {es : List Expr} {t : TA} {id T : String} {r : List V → Hp → VK → Prop}
noncomputable def tCB (r : List V → Hp → VK → Prop) (t : TA) : TE := fun σ H Q => t σ H fun vs H1 => r vs H1 Q
theorem ZeR (hc : Za8 X (.builtin id) r) (hg : Gl X x) (hm : X.mg x = none) (hv : bootBuiltins x = some (.builtin id)) (ha : PA X (e :: es) t) (hn : x ≠ "__name__" := by decide) (hdb : (x == ("__debug__" : Str)) = false := by decide)
    (he : starEach (e :: es) X.env = (false, eval e X.env) :: starEach es X.env := by rfl) (hpl : (backTo pos (starEach es X.env)).any (·.1) = false := by rfl) : PE X (.Call (.Name x p) (e :: es) [] pos) (tCB r t) := by
  intro pins s σ H Q I h
  refine wpAny_Call_Name_kw (Zb0 I hg hm hv ?_ hn hdb)
  exact PyProof.Rows.callWith_builtin1 (thn (ha pos pins s σ H _ I h) fun us s1 ⟨vs, H1, I1, r1, q1⟩ => hc pins s1 σ H1 vs us Q I1 r1 q1) he hpl
theorem Zf1 (hc : Za8 X (.type T) r) (hg : Gl X x) (hm : X.mg x = none) (hv : bootBuiltins x = some (.type T)) (ha : PA X (e :: es) t) (hn : x ≠ "__name__" := by decide) (hdb : (x == ("__debug__" : Str)) = false := by decide)
    (he : starEach (e :: es) X.env = (false, eval e X.env) :: starEach es X.env := by rfl) (hpl : (backTo pos (starEach es X.env)).any (·.1) = false := by rfl) : PE X (.Call (.Name x p) (e :: es) [] pos) (tCB r t) := by
  intro pins s σ H Q I h
  refine wpAny_Call_Name_kw (Zb0 I hg hm hv ?_ hn hdb)
  exact PyProof.Rows.callWith_type1 (thn (ha pos pins s σ H _ I h) fun us s1 ⟨vs, H1, I1, r1, q1⟩ => hc pins s1 σ H1 vs us Q I1 r1 q1) he hpl
end
end L2
namespace HT
open PySem PyProof.Rows
section
open PySem.SeqAt
open PySem.AutoSeq1 (wpAny_loadPart')
open PySem.MeetsSeq PySem.MeetsSeq2 PySem.MeetsSeq3
end
section
variable {prog : Program} {w : World} {A : Around} {E : Value → Shared → Prop} {s : Shared}
theorem Zji {t b : Addr} {vs ws : List Value} {Q : Value → Shared → Prop} (ht : IsTup s.heap t vs.toArray) (hb : IsTup s.heap b ws.toArray) (hv : vs ≠ [])
    (h1 : ws = [] → Q (.ref t) s) (h2 : ws ≠ [] → Q (.ref s.heap.objs.size) { s with heap := s.heap.push { cls := .type "tuple", data := .seq (vs ++ ws).toArray } })
    (hsz : vs.length + ws.length ≤ sizeLine) : wpAny (model prog w) A (binaryOp .Add (.ref t) (.ref b)) Q E s := by
  obtain ⟨⟨cls, dd, data, sl⟩, ho, hc, n, hd⟩ := id ht
  obtain ⟨⟨cls2, dd2, data2, sl2⟩, ho2, hc2, n2, hd2⟩ := id hb
  simp only at hc hd hc2 hd2
  subst hc hd hc2 hd2
  have e : vs.toArray ++ ws.toArray = (vs ++ ws).toArray := by simp
  by_cases hw : ws = []
  · exact concat_meets ⟨_, ho, rfl⟩ ⟨_, ho2, rfl⟩ noFill_tuple_add seq_tuple_add PySem.F.slot_tuple_add PySem.F.entry_tuple_add (PySem.F.args_tuple_add_2 _ _)
      (tuple_addW1 t b vs.toArray ws.toArray n n2 dd dd2 sl sl2 (by simpa using hv) (by simp [hw])) ⟨ho, ho2, h1 hw⟩
  · refine concat_meets ⟨_, ho, rfl⟩ ⟨_, ho2, rfl⟩ noFill_tuple_add seq_tuple_add PySem.F.slot_tuple_add PySem.F.entry_tuple_add (PySem.F.args_tuple_add_2 _ _)
      (tuple_addW2 t b vs.toArray ws.toArray n n2 dd dd2 sl sl2 (by simpa using hv) (by simpa using hw) (by rw [List.size_toArray, List.size_toArray]; exact hsz)) ⟨ho, ho2, ?_⟩
    rw [e]
    exact h2 hw
noncomputable def sIx (n d : Nat) : Option Int → Nat
  | none => d
  | some v => if v < 0 then (v + (n : Int)).toNat else min v.toNat n
theorem Zla (n d : Nat) (hd : d ≤ n) (o : Option Int) : sIx n d o ≤ n := by
  cases o with
  | none => exact hd
  | some v =>
    show (if v < 0 then (v + (n : Int)).toNat else min v.toNat n) ≤ n
    by_cases hv : v < 0
    · rw [if_pos hv]; omega
    · rw [if_neg hv]; exact Nat.min_le_right _ _
theorem Zf2 (v : Int) (n d : Nat) : (if v < 0 then max (v + (n : Int)) 0 else min v (n : Int)) = ((sIx n d (some v) : Nat) : Int) := by
  show (if v < 0 then max (v + (n : Int)) 0 else min v (n : Int)) = (((if v < 0 then (v + (n : Int)).toNat else min v.toNat n) : Nat) : Int)
  by_cases hv : v < 0
  · simp only [if_pos hv]; omega
  · simp only [if_neg hv]; omega
theorem Zfn (lo hi : Option Int) (n : Nat) : Builtin.Slice.sliceAdjust lo hi 1 (n : Int) = (((sIx n 0 lo : Nat) : Int), ((sIx n n hi : Nat) : Int)) := by
  have h1 : ¬ ((1 : Int) < 0) := by omega
  unfold Builtin.Slice.sliceAdjust
  simp only [h1, if_false]
  refine Prod.ext ?_ ?_
  · cases lo with
    | none => rfl
    | some v => exact Zf2 v n 0
  · cases hi with
    | none => rfl
    | some v => exact Zf2 v n n
theorem Zfo (i j : Nat) : Builtin.Slice.slicePlaces (i : Int) (j : Int) 1 = j - i := by
  unfold Builtin.Slice.slicePlaces
  have h1 : (1 : Int) > 0 := by omega
  simp only [h1, if_true, Int.ediv_one]
  split <;> omega
theorem ZcF {v : Value} {o : Option Int} {Q : Option Int → Shared → Prop} (p : IsPart v o) (h : Q o s) : wpAny (model prog w) A (Builtin.Slice.slicePartIndex v) Q E s := by
  cases p with
  | none => exact slicePart_none h
  | int i t => exact slicePart_int h
theorem Zcb {sl : Addr} {vl vu : Value} {lo hi : Option Int} {n : Nat} {Q : Int × Int × Nat → Shared → Prop} (hs : s.heap.IsSliceOf sl vl vu .none) (pl : IsPart vl lo) (pu : IsPart vu hi)
    (h : Q (((sIx n 0 lo : Nat) : Int), 1, sIx n n hi - sIx n 0 lo) s) : wpAny (model prog w) A (Builtin.Slice.sliceApplied (.ref sl) (pure (n : Int))) Q E s := by
  obtain ⟨os, hos, hcs, hds⟩ := id hs
  unfold Builtin.Slice.sliceApplied Builtin.Slice.sliceFields
  refine wpAny_bind (wpAny_bind (wpAny_field hos hds (x := vl) rfl (wpAny_bind (wpAny_field hos hds (x := vu) rfl (wpAny_bind (wpAny_field hos hds (x := .none) rfl (wpAny_pure ?_)))))))
  refine wpAny_bind (slicePart_none ?_)
  show wpAny _ _ (if ((1 : Int) == 0) = true then _ else _) _ _ s
  rw [if_neg (by decide)]
  refine wpAny_bind (ZcF pl (wpAny_bind (ZcF pu (wpAny_bind (wpAny_pure ?_)))))
  show wpAny _ _ (match Builtin.Slice.sliceAdjust lo hi 1 (n : Int) with | (lo, hi) => pure (lo, (1 : Int), Builtin.Slice.slicePlaces lo hi 1)) _ _ s
  rw [Zfn lo hi n]
  show wpAny _ _ (pure (((sIx n 0 lo : Nat) : Int), (1 : Int), Builtin.Slice.slicePlaces ((sIx n 0 lo : Nat) : Int) ((sIx n n hi : Nat) : Int) 1)) _ _ s
  rw [Zfo]
  exact wpAny_pure h
theorem Zhz (xs : Array Value) (i k : Nat) : ((List.range k).filterMap fun (m : Nat) => xs[((i : Int) + (m : Int) * 1).toNat]?).toArray = ((xs.toList.drop i).take k).toArray := by
  have e : (fun (m : Nat) => xs[((i : Int) + (m : Int) * 1).toNat]?) = fun m => xs[i + m]? := by
    funext m
    have : ((i : Int) + (m : Int) * 1).toNat = i + m := by omega
    rw [this]
  rw [e]
  have := pick_run xs i k
  rw [List.filterMap_map] at this
  have e2 : ((fun x => xs[x]?) ∘ fun x => i + x) = fun m => xs[i + m]? := rfl
  rw [e2] at this
  rw [this]
theorem ZbU {t sl : Addr} {items : Array Value} {vl vu : Value} {lo hi : Option Int} {Q : Value → Shared → Prop} (ht : IsTup s.heap t items) (hs : s.heap.IsSliceOf sl vl vu .none) (pl : IsPart vl lo) (pu : IsPart vu hi)
    (hw : ¬ (sIx items.size 0 lo = 0 ∧ sIx items.size items.size hi = items.size))
    (h : Q (.ref s.heap.objs.size) { s with heap := s.heap.push { cls := .type "tuple", data := .seq ((items.toList.drop (sIx items.size 0 lo)).take (sIx items.size items.size hi - sIx items.size 0 lo)).toArray } })
    (hsz : items.size ≤ sizeLine) : wpAny (model prog w) A (getItem (.ref t) (.ref sl)) Q E s := by
  have htake : sizeOk (.seq ((items.toList.drop (sIx items.size 0 lo)).take (sIx items.size items.size hi - sIx items.size 0 lo)).toArray) := by
    show ((items.toList.drop (sIx items.size 0 lo)).take (sIx items.size items.size hi - sIx items.size 0 lo)).toArray.size ≤ sizeLine
    rw [List.size_toArray, List.length_take, List.length_drop, Array.length_toList]
    omega
  have hj : sIx items.size items.size hi ≤ items.size := Zla _ _ (Nat.le_refl _) hi
  obtain ⟨os, hos, hcs, hds⟩ := id hs
  have hTs : s.TypeIs (.ref sl) "slice" := ⟨os, hos, hcs⟩
  unfold getItem
  try with_reducible refine wpAny_holding ?_
  first | refine wpAny_bind (wpAny_pure ?_) | skip
  refine wpAny_bind (wpAny_sequenceKey ht.typeIs (by decide) ?_)
  refine wpAny_bind (wpAny_callSpecial?_slot (name := Str.ofString "__getitem__") ht.typeIs PyProof.Rows.slot_tuple_getitem
    (wpAny_call_entry PyProof.Rows.slot_tuple_getitem ht.typeIs entry_tuple_getitem ?_ (args_tuple_getitem _ _)))
  show wpAny _ _ (Builtin.Tuple.tupleItemsOf (.ref t) >>= _) _ _ s
  refine wpAny_bind (tupleItemsOf_ ht ?_)
  refine wpAny_bind (wpAny_typeOf hTs ?_)
  rw [if_pos (by decide)]
  refine wpAny_bind (Zcb hs pl pu ?_)
  have hno : ¬ ((((sIx items.size 0 lo : Nat) : Int) == 0 && (1 : Int) == 1 && (sIx items.size items.size hi - sIx items.size 0 lo) == items.size) = true) := by
    intro q
    rw [Bool.and_eq_true, Bool.and_eq_true] at q
    have q1 : ((sIx items.size 0 lo : Nat) : Int) = 0 := eq_of_beq q.1.1
    have q2 : sIx items.size items.size hi - sIx items.size 0 lo = items.size := eq_of_beq q.2
    exact hw ⟨by omega, by omega⟩
  show wpAny _ _ (if (((sIx items.size 0 lo : Nat) : Int) == 0 && (1 : Int) == 1 && (sIx items.size items.size hi - sIx items.size 0 lo) == items.size) = true then _ else _) _ _ s
  rw [if_neg hno, Zhz]
  first
    | exact wpAny_bind (m := Builtin.Tuple.tupleExact _) (wpAny_newObj_type (wpAny_pure ⟨_, rfl, wpAny_pure h⟩) htake)
    | exact wpAny_bind (m := Builtin.Tuple.tupleExact _) (wpAny_newObj_type (wpAny_bind (wpAny_pure (wpAny_pure ⟨_, rfl, wpAny_pure h⟩))) htake)
    | exact wpAny_bind (wpAny_bind (m := Builtin.Tuple.tupleExact _) (wpAny_newObj_type (wpAny_pure (wpAny_pure ⟨_, rfl, wpAny_pure h⟩)) htake))
    | exact wpAny_bind (wpAny_bind (m := Builtin.Tuple.tupleExact _) (wpAny_newObj_type (wpAny_pure ⟨_, rfl, wpAny_pure h⟩) htake))
end
end HT
namespace L2
open PySem PySem.Spec PyProof.Rows
noncomputable abbrev TO := St → Hp → (Option Int → Hp → Prop) → Prop
noncomputable def PO (X : Cx) (e : Option Expr) (t : TO) : Prop :=
  ∀ (pins : List (Addr × Obj)) (s : Shared) (σ : St) (H : Hp) (Q : Option Int → Hp → Prop), Inv X pins σ H s → t σ H Q →
    wpAny (model X.prog X.w) X.A (evalPart e X.env) (fun u s' => ∃ o H', Inv X pins σ H' s' ∧ IsPart u o ∧ Q o H') X.xe s
noncomputable def tNoPart : TO := fun _ H Q => Q none H
noncomputable def ZnW (t : TE) : TO := fun σ H Q => t σ H fun x H1 => ∃ i, x = .int i ∧ Q (some i) H1
section
variable {X : Cx} {e : Expr} {te : TE} {lo hi : Option Expr} {tl th : TO} {pos p2 : Pos}
theorem Zjj : PO X none tNoPart := by
  intro pins s σ H Q I h
  rw [evalPart_none]
  exact wpAny_pure ⟨none, H, I, .none, h⟩
theorem Zjk (h : PE X e te) : PO X (some e) (ZnW te) := by
  intro pins s σ H Q I hw
  rw [evalPart_some]
  refine thn (h pins s σ H _ I hw) fun u s1 ⟨x, H1, I1, r1, q1⟩ => ?_
  obtain ⟨i, rfl, q⟩ := q1
  obtain ⟨t, rfl⟩ := r1
  exact ⟨some i, H1, I1, .int i t, q⟩
noncomputable def SlR (X : Cx) (r : V → Option Int → Option Int → Hp → VK → Prop) : Prop :=
  ∀ (pins : List (Addr × Obj)) (s : Shared) (σ : St) (H : Hp) (x : V) (v vl vu : Value) (lo hi : Option Int) (sl : Addr) (Q : VK), Inv X pins σ H s → Zab x v → s.heap.IsSliceOf sl vl vu .none → IsPart vl lo → IsPart vu hi → r x lo hi H Q →
    ∃ T id, typeLookup (.type T) "__getitem__" = pure (some (.builtin id)) ∧ s.TypeIs v T ∧ wpAny (model X.prog X.w) X.A (getItem v (.ref sl)) (EP X pins σ Q) X.xe s
theorem SlR.or {r r' : V → Option Int → Option Int → Hp → VK → Prop} (h : SlR X r) (h' : SlR X r') : SlR X (fun x lo hi H Q => r x lo hi H Q ∨ r' x lo hi H Q) := by
  intro pins s σ H x v vl vu lo hi sl Q I rx hs pl pu q
  rcases q with q | q
  · exact h pins s σ H x v vl vu lo hi sl Q I rx hs pl pu q
  · exact h' pins s σ H x v vl vu lo hi sl Q I rx hs pl pu q
noncomputable def tSl (r : V → Option Int → Option Int → Hp → VK → Prop) (te : TE) (tl th : TO) : TE := fun σ H Q => te σ H fun x H1 => tl σ H1 fun l H2 => th σ H2 fun u H3 => r x l u H3 Q
theorem ZhA {r : V → Option Int → Option Int → Hp → VK → Prop} (hr : SlR X r) (he : PE X e te) (hl : PO X lo tl) (hu : PO X hi th) : PE X (.Subscript e (.Slice lo hi none p2) pos) (tSl r te tl th) := by
  intro pins s σ H Q I h
  refine Subscript_ (thn (he pins s σ H _ I h) fun v s1 ⟨x, H1, I1, r1, q1⟩ => ?_)
  refine wpAny_Slice (thn (hl pins s1 σ H1 _ I1 q1) fun vl s2 ⟨l, H2, I2, pl, q2⟩ => thn (hu pins s2 σ H2 _ I2 q2) fun vu s3 ⟨u, H3, I3, pu, q3⟩ => ?_)
  rw [evalPart_none]
  refine wpAny_pure ?_
  have I4 : Inv X pins σ H3 { s3 with heap := s3.heap.push { cls := .type "slice", data := .fields #[vl, vu, .none] } } := I3.kept (t' := s3.toks) fun b ob q => Heap.get?_push_of_some _ q
  obtain ⟨T, id, hT, ht, hg⟩ := hr pins { s3 with heap := s3.heap.push { cls := .type "slice", data := .fields #[vl, vu, .none] } } σ H3 x v vl vu l u s3.heap.objs.size Q I4 r1 (Heap.IsSliceOf.new ..) pl pu q3
  show wpAny (model X.prog X.w) X.A (subscriptTail e (.Slice lo hi none p2) v (.ref s3.heap.objs.size)) (EP X pins σ Q) X.xe { s3 with heap := s3.heap.push { cls := .type "slice", data := .fields #[vl, vu, .none] } }
  exact tail_any (ops := [.ref s3.heap.objs.size, v]) ht hT hg (by with_unfolding_all rfl)
noncomputable def Ziu (xs : List V) (lo hi : Option Int) : List V := (xs.drop (HT.sIx xs.length 0 lo)).take (HT.sIx xs.length xs.length hi - HT.sIx xs.length 0 lo)
theorem Zci (xs : List V) (lo hi : Option Int) : (Ziu xs lo hi).length ≤ xs.length := by
  unfold Ziu
  rw [List.length_take, List.length_drop]
  omega
noncomputable def ZqX (K : PySem.W.Frag) : V → Option Int → Option Int → Hp → VK → Prop := fun x lo hi H Q => ∃ a xs, x = .ref a ∧ SqT K H a xs ∧
  ¬ (HT.sIx xs.length 0 lo = 0 ∧ HT.sIx xs.length xs.length hi = xs.length) ∧ ∀ p, H p = none → Q (.ref p) (upd H p (.tup (Ziu xs lo hi)))
theorem Zlb : SlR X (ZqX X.K) := by
  intro pins s σ H x v vl vu lo hi sl Q I rx hs pl pu h
  obtain ⟨a, xs, rfl, hx, hw, q⟩ := h
  cases rx
  obtain ⟨its, r, ht, hz⟩ := I.tuple hx
  have hlen : its.toArray.size = xs.length := by rw [List.size_toArray]; exact r.length.symm
  refine ⟨"tuple", _, PyProof.Rows.slot_tuple_getitem.lookup, ht.typeIs, ?_⟩
  refine HT.ZbU ht hs pl pu (by rw [hlen]; exact hw) ?_ (by rw [hlen]; exact hz)
  rw [hlen]
  refine ⟨.ref s.heap.objs.size, _, I.laid (t' := s.toks) (o := .tup (Ziu xs lo hi)) (fun b ob q => Heap.get?_push_of_some _ q) (Nat.le_refl _) ?_, rfl, q _ (I.hok.fresh (Nat.le_refl _))⟩
  exact ⟨Nat.le_trans (Zci xs lo hi) hz, _, (r.drop (HT.sIx xs.length 0 lo)).take (HT.sIx xs.length xs.length hi - HT.sIx xs.length 0 lo), IsTup.new _ _⟩
noncomputable def Zjl (K : PySem.W.Frag) : R2 := fun x y H Q => ∃ a b xs ys, x = .ref a ∧ y = .ref b ∧ SqT K H a xs ∧ SqT K H b ys ∧ xs ≠ [] ∧ xs.length + ys.length ≤ sizeLine ∧
  (ys = [] → Q (.ref a) H) ∧ (ys ≠ [] → ∀ p, H p = none → Q (.ref p) (upd H p (.tup (xs ++ ys))))
theorem ZO.nil_iff {xs : List V} {us : List Value} (r : ZO xs us) : us = [] ↔ xs = [] := by
  cases r with
  | nil => simp
  | cons _ _ => simp
theorem Zjm : OpR X (binaryOp .Add) (Zjl X.K) := by
  intro pins s σ H x y v u Q I rx ry h
  obtain ⟨a, b, xs, ys, rfl, rfl, ha, hb, hx, hz, q1, q2⟩ := h
  cases rx
  cases ry
  obtain ⟨its, r1, p1, _⟩ := I.tuple ha
  obtain ⟨its2, r2, p2, _⟩ := I.tuple hb
  refine HT.Zji p1 p2 (fun z => hx (r1.nil_iff.mp z)) (fun z => ⟨.ref a, H, I, rfl, q1 (r2.nil_iff.mp z)⟩) (fun z => ?_) (by rw [← r1.length, ← r2.length]; exact hz)
  refine ⟨.ref s.heap.objs.size, _, I.laid (t' := s.toks) (o := .tup (xs ++ ys)) (fun b ob q => Heap.get?_push_of_some _ q) (Nat.le_refl _) ?_, rfl, q2 (fun w => z (r2.nil_iff.mpr w)) _ (I.hok.fresh (Nat.le_refl _))⟩
  exact ⟨by rw [List.length_append]; exact hz, _, r1.append r2, IsTup.new _ _⟩
end
end L2
namespace L2
open PySem PySem.Spec PyProof.Rows
noncomputable def ixN (n : Nat) (i : Int) : Option Nat := if 0 ≤ i then (if i < n then some i.toNat else none) else if -(n : Int) ≤ i then some (i + n).toNat else none
noncomputable def atI {α : Type} (xs : List α) (i : Int) : Option α := (ixN xs.length i).bind fun j => xs[j]?
theorem Zf3 {n : Nat} {i : Int} {j : Nat} (h : ixN n i = some j) : seqIndex? i n = some j ∧ j < n ∧ -(n : Int) ≤ i ∧ i < n := by
  unfold ixN at h
  by_cases h0 : 0 ≤ i
  · rw [if_pos h0] at h
    by_cases h1 : i < n
    · rw [if_pos h1] at h
      have e : i.toNat = j := Option.some.inj h
      exact ⟨by rw [seqIndex_of h0 h1, e], by omega, by omega, h1⟩
    · rw [if_neg h1] at h; cases h
  · rw [if_neg h0] at h
    by_cases h1 : -(n : Int) ≤ i
    · rw [if_pos h1] at h
      have e : (i + n).toNat = j := Option.some.inj h
      exact ⟨by rw [seqIndex_neg (by omega) h1, e], by omega, h1, by omega⟩
    · rw [if_neg h1] at h; cases h
theorem Zf4 {α : Type} {xs : List α} {i : Int} {v : α} (h : atI xs i = some v) : ∃ j, seqIndex? i xs.length = some j ∧ xs[j]? = some v ∧ j < xs.length ∧ -(xs.length : Int) ≤ i ∧ i < xs.length := by
  unfold atI at h
  cases e : ixN xs.length i with
  | none => rw [e] at h; cases h
  | some j =>
    rw [e] at h
    obtain ⟨h1, h2, h3, h4⟩ := Zf3 e
    exact ⟨j, h1, h, h2, h3, h4⟩
theorem Zjn {α : Type} {xs : List α} {j : Nat} {v : α} (h : xs[j]? = some v) : atI xs (j : Int) = some v := by
  have hj : j < xs.length := (List.getElem?_eq_some_iff.mp h).1
  have e : ixN xs.length (j : Int) = some j := by
    unfold ixN
    rw [if_pos (by omega), if_pos (by omega)]; simp
  unfold atI; rw [e]; exact h
noncomputable def Zf5 (b : Expr) : Prop := ∀ o i, subscripted b false o i = operate [o, i] (getItem o i)
noncomputable def IxR (X : Cx) (r : R2) : Prop :=
  ∀ (value slice : Expr) (pins : List (Addr × Obj)) (s : Shared) (σ : St) (H : Hp) (x y : V) (v u : Value) (Q : VK), Inv X pins σ H s → Zab x v → Zab y u → r x y H Q →
    subscripted slice false v u = operate [v, u] (getItem v u) → wpAny (model X.prog X.w) X.A (subscriptTail value slice v u) (EP X pins σ Q) X.xe s
noncomputable def MtR (X : Cx) (id : String) (r : V → List V → Hp → VK → Prop) : Prop :=
  ∀ (pins : List (Addr × Obj)) (s : Shared) (σ : St) (H : Hp) (x : V) (xs : List V) (v : Value) (us : List Value) (Q : VK), Inv X pins σ H s → Zab x v → ZO xs us → r x xs H Q →
    wpAny (model X.prog X.w) X.A (call (.builtin id) (v :: us)) (EP X pins σ Q) X.xe s
section
variable {X : Cx} {a b : Expr} {ta tb : TE} {pos : Pos}
theorem IxR.or {r r' : R2} (h : IxR X r) (h' : IxR X r') : IxR X (fun x y H Q => r x y H Q ∨ r' x y H Q) := by
  intro value slice pins s σ H x y v u Q I rx ry q hs
  rcases q with q | q
  · exact h value slice pins s σ H x y v u Q I rx ry q hs
  · exact h' value slice pins s σ H x y v u Q I rx ry q hs
theorem MtR.or {id : String} {r r' : V → List V → Hp → VK → Prop} (h : MtR X id r) (h' : MtR X id r') : MtR X id (fun x xs H Q => r x xs H Q ∨ r' x xs H Q) := by
  intro pins s σ H x xs v us Q I rx rs q
  rcases q with q | q
  · exact h pins s σ H x xs v us Q I rx rs q
  · exact h' pins s σ H x xs v us Q I rx rs q
theorem ZnX {r : R2} (hr : IxR X r) (ha : PE X a ta) (hb : PE X b tb) (hs : Zf5 b) : PE X (.Subscript a b pos) (tOp r ta tb) := by
  intro pins s σ H Q I h
  exact Subscript_ (ZnP ha hb I h fun v u s2 x y H2 I2 rx ry q => hr a b pins s2 σ H2 x y v u Q I2 rx ry q (hs _ _))
noncomputable def ZpN (K : PySem.W.Frag) : R2 := fun x y H Q => ∃ p xs i v, x = .ref p ∧ y = .int i ∧ SqL K H p xs ∧ atI xs i = some v ∧ Q v H
noncomputable def ZpO (K : PySem.W.Frag) : R2 := fun x y H Q => ∃ p xs i v, x = .ref p ∧ y = .int i ∧ SqT K H p xs ∧ atI xs i = some v ∧ Q v H
theorem Zjo : IxR X (ZpN X.K) := by
  intro value slice pins s σ H x y v u Q I rx ry h hs
  obtain ⟨p, xs, i, z, rfl, rfl, hq, he, q⟩ := h
  cases rx
  obtain ⟨t, rfl⟩ := ry
  obtain ⟨its, r, pl, hz⟩ := I.list hq
  obtain ⟨j, h1, h2, h3, h4, h5⟩ := Zf4 he
  obtain ⟨w, ew, rw'⟩ := r.get h2
  have hl := r.length
  have hn := ZeP
  have fin : EP X pins σ Q w s := ⟨z, H, I, rw', q⟩
  by_cases h0 : 0 ≤ i
  · have hj : i.toNat = j := by
      rw [seqIndex_of h0 h5] at h1
      exact Option.some.inj h1
    exact item_listR pl.isList h0 (by omega) (by rw [hj]; simpa using ew) fin hs
  · have hj : (i + (its.toArray.size : Int)).toNat = j := by
      rw [seqIndex_neg (by omega) h4] at h1
      rw [List.size_toArray, ← hl]
      exact Option.some.inj h1
    exact subscriptTail_builtinR (x := w) pl.isList.typeIs slot_list_getitem.lookup
      (wpAny_getItem_list_neg (Q := fun r s' => r = w ∧ EP X pins σ Q r s') pl.isList (by omega) (by rw [List.size_toArray] <;> omega) (by omega) (by rw [hj]; simpa using ew) ⟨rfl, fin⟩) hs
theorem Zlc : IxR X (ZpO X.K) := by
  intro value slice pins s σ H x y v u Q I rx ry h hs
  obtain ⟨p, xs, i, z, rfl, rfl, hq, he, q⟩ := h
  cases rx
  obtain ⟨t, rfl⟩ := ry
  obtain ⟨its, r, pl, hz⟩ := I.tuple hq
  obtain ⟨j, h1, h2, h3, h4, h5⟩ := Zf4 he
  obtain ⟨w, ew, rw'⟩ := r.get h2
  have hl := r.length
  have hn := ZeP
  have fin : EP X pins σ Q w s := ⟨z, H, I, rw', q⟩
  exact subscriptTail_builtinR (x := w) pl.typeIs slot_tuple_getitem.lookup
    (getItem_tuple (j := j) (Q := fun r s' => r = w ∧ EP X pins σ Q r s') pl (by omega) (by omega) (by rw [List.size_toArray, ← hl]; exact h1) (by simpa using ew) ⟨rfl, fin⟩) hs
theorem Zfp (its : List Value) (n j : Nat) (u : Value) : Obj.mapSeq (·.setIfInBounds j u) { cls := .type "list", data := .seq its.toArray n } = { cls := .type "list", data := .seq (its.set j u).toArray n } := by
  simp [Obj.mapSeq]
theorem Inv.lst {pins : List (Addr × Obj)} {σ : St} {H : Hp} {s : Shared} {p : Addr} {xs : List V} (I : Inv X pins σ H s) (h : H p = some (.lst xs)) :
    ∃ (its : List Value) (n : Nat), ZO xs its ∧ s.heap.get? p = some { cls := .type "list", data := .seq its.toArray n } ∧ xs.length ≤ sizeLine := by
  obtain ⟨z, its, n, r, e⟩ := I.hok p _ h
  exact ⟨its, n, r, e, z⟩
theorem Inv.lstUpd {pins : List (Addr × Obj)} {σ : St} {H : Hp} {s : Shared} {p : Addr} {xs ys : List V} {its its' : List Value} {n n' : Nat} {f : Obj → Obj} (I : Inv X pins σ H s) (h : H p = some (.lst xs))
    (ho : s.heap.get? p = some { cls := .type "list", data := .seq its.toArray n }) (hf : f { cls := .type "list", data := .seq its.toArray n } = { cls := .type "list", data := .seq its'.toArray n' }) (r : ZO ys its') (hz : ys.length ≤ sizeLine) (t : Nat) :
    Inv X pins σ (upd H p (.lst ys)) { s with heap := s.heap.update p f, toks := t } := by
  have e : (s.heap.update p f).get? p = some { cls := .type "list", data := .seq its'.toArray n' } := by
    rw [Heap.get?_update_self f ho (by rw [hf] <;> rfl), hf]
  refine I.write (x := p) (e := p) (by rw [h]; trivial) (.inl rfl) (fun b u hb q => (Heap.get?_update_other _ _ (Ne.symm hb)).trans q) ⟨_, e⟩ ?_
  exact ⟨hz, its', n', r, e⟩
noncomputable def rSetL : V → V → V → Hp → (Hp → Prop) → Prop := fun o i v H Q => ∃ p xs k j, o = .ref p ∧ i = .int k ∧ H p = some (.lst xs) ∧ ixN xs.length k = some j ∧ Q (upd H p (.lst (xs.set j v)))
theorem ZhB : ZpI X rSetL := by
  intro pins s σ H o i v ov iv u Q I ro ri rv h
  obtain ⟨p, xs, k, j, rfl, rfl, hp, hj, q⟩ := h
  cases ro
  obtain ⟨t, rfl⟩ := ri
  obtain ⟨its, n, r, ho, hz⟩ := I.lst hp
  obtain ⟨h1, h2, h3, h4⟩ := Zf3 hj
  have hl := r.length
  have hn := ZeP
  have I' : Inv X pins σ (upd H p (.lst (xs.set j v))) { s with heap := s.heap.update p (Obj.mapSeq (·.setIfInBounds j u)) } :=
    I.lstUpd hp ho (Zfp its n j u) (r.set rv j) (by rw [List.length_set]; exact hz) s.toks
  by_cases h0 : 0 ≤ k
  · have hk : k.toNat = j := by
      rw [seqIndex_of h0 h4] at h1
      exact Option.some.inj h1
    exact PySem.W.ki_setAt ho h0 (by omega) (by rw [List.size_toArray, ← hl]; exact h4) (by rw [hk]; exact ⟨_, I', q⟩)
  · have hk : (k + (its.toArray.size : Int)).toNat = j := by
      rw [seqIndex_neg (by omega) h3] at h1
      rw [List.size_toArray, ← hl]
      exact Option.some.inj h1
    exact PySem.W.ki_setBack ho (by omega) (by rw [List.size_toArray, ← hl]; exact h3) (by omega) (by rw [hk]; exact ⟨_, I', q⟩)
theorem ZdD (lo hi : Option Int) (n : Nat) : (sliceBounds lo hi none n).1 = ((HT.sIx n 0 lo : Nat) : Int) ∧ (sliceBounds lo hi none n).2.1 = ((HT.sIx n n hi : Nat) : Int) ∧ (sliceBounds lo hi none n).2.2 = 1 := by
  refine ⟨?_, ?_, rfl⟩
  · cases lo with
    | none => simp [sliceBounds, HT.sIx]
    | some i =>
      simp only [sliceBounds, HT.sIx, Option.getD_none, show (1 : Int) > 0 by decide, if_true]
      by_cases h : i < 0
      · simp only [h, if_true] <;> omega
      · simp only [h, if_false] <;> omega
  · cases hi with
    | none => simp [sliceBounds, HT.sIx]
    | some i =>
      simp only [sliceBounds, HT.sIx, Option.getD_none, show (1 : Int) > 0 by decide, if_true]
      by_cases h : i < 0
      · simp only [h, if_true] <;> omega
      · simp only [h, if_false] <;> omega
theorem ZcY (its : List Value) (lo hi : Option Int) : slicePick its.toArray lo hi none = ((its.drop (HT.sIx its.length 0 lo)).take (HT.sIx its.length its.length hi - HT.sIx its.length 0 lo)).toArray := by
  obtain ⟨h1, h2, h3⟩ := ZdD lo hi its.toArray.size
  unfold slicePick
  rw [h1, h2, h3]
  simp only [sliceRange_one, pick_run, List.size_toArray] <;> rfl
noncomputable def ZqY (K : PySem.W.Frag) : V → Option Int → Option Int → Hp → VK → Prop := fun x lo hi H Q => ∃ a xs, x = .ref a ∧ SqL K H a xs ∧ ∀ p, H p = none → Q (.ref p) (upd H p (.lst (Ziu xs lo hi)))
theorem Zjp : SlR X (ZqY X.K) := by
  intro pins s σ H x v vl vu lo hi sl Q I rx hs pl pu h
  obtain ⟨a, xs, rfl, hx, q⟩ := h
  cases rx
  obtain ⟨its, r, ht, hz⟩ := I.list hx
  have hlen := r.length
  refine ⟨"list", _, slot_list_getitem.lookup, ht.isList.typeIs, ?_⟩
  refine wpAny_getItem_list_slice ht.isList hs pl pu .none (by simp) ?_ (by rw [List.size_toArray] <;> omega)
  rw [ZcY, ← hlen]
  refine ⟨.ref s.heap.objs.size, _, I.laid (t' := s.toks) (o := .lst (Ziu xs lo hi)) (fun b ob q => Heap.get?_push_of_some _ q) (Nat.le_refl _) ?_, rfl, q _ (I.hok.fresh (Nat.le_refl _))⟩
  exact ⟨Nat.le_trans (Zci xs lo hi) hz, _, 0, (r.drop (HT.sIx xs.length 0 lo)).take (HT.sIx xs.length xs.length hi - HT.sIx xs.length 0 lo), Heap.get?_push_size _ rfl⟩
theorem Zy : Za8 X (.builtin "len") (fun xs H Q => ∃ p ys, xs = [.ref p] ∧ (SqL X.K H p ys ∨ SqT X.K H p ys) ∧ Q (.int ys.length) H) := by
  intro pins s σ H xs us Q I r h
  obtain ⟨p, ys, rfl, hq, q⟩ := h
  obtain ⟨u, rfl, rx⟩ := ZcX r
  cases rx
  have hn := ZeP
  rcases hq with hq | hq
  · obtain ⟨its, r', pl, hz⟩ := I.list hq
    have hlen := r'.length
    exact Calls.call_len_list pl.isList (by simp only [List.size_toArray] <;> omega) ⟨.int ys.length, H, I.tok _, ⟨s.toks + 1, by rw [List.size_toArray, hlen]⟩, q⟩
  · obtain ⟨its, r', pl, hz⟩ := I.tuple hq
    have hlen := r'.length
    exact len_tuple pl (by simp only [List.size_toArray] <;> omega) ⟨.int ys.length, H, I.tok _, ⟨s.toks + 1, by rw [List.size_toArray, hlen]⟩, q⟩
theorem Za8.or {f : Value} {r r' : List V → Hp → VK → Prop} (h : Za8 X f r) (h' : Za8 X f r') : Za8 X f (fun xs H Q => r xs H Q ∨ r' xs H Q) := by
  intro pins s σ H xs us Q I rs q
  rcases q with q | q
  · exact h pins s σ H xs us Q I rs q
  · exact h' pins s σ H xs us Q I rs q
theorem Zb1 : Za8 X (.type "list") (fun xs H Q => ∃ p ys, xs = [.ref p] ∧ (SqL X.K H p ys ∨ SqT X.K H p ys) ∧ ∀ l, H l = none → Q (.ref l) (upd H l (.lst ys))) := by
  intro pins s σ H xs us Q I r h
  obtain ⟨p, ys, rfl, hq, q⟩ := h
  obtain ⟨u, rfl, rx⟩ := ZcX r
  cases rx
  have fin : ∀ (its : List Value), ZO ys its → ys.length ≤ sizeLine → ∀ (h' : Heap) (c' : Nat), (∀ b o', s.heap.get? b = some o' → h'.get? b = some o') →
      h'.get? s.heap.objs.size = some { cls := .type "list", dict := none, data := .seq its.toArray c', slots := #[] } → EP X pins σ Q (.ref s.heap.objs.size) { s with heap := h' } := fun its r' hz h' c' kp e =>
    ⟨.ref s.heap.objs.size, _, I.laid (t' := s.toks) kp (Nat.le_refl _) (show ZbI X.prog X.w _ h' _ (.lst ys) from ⟨hz, its, c', r', e⟩), rfl, q _ (I.hok.fresh (Nat.le_refl _))⟩
  rcases hq with hq | hq
  · obtain ⟨its, r', pl, hz⟩ := I.list hq
    have hlen := r'.length
    obtain ⟨o, ho, hc, n, hd⟩ := pl.isList
    exact call_list_seq p (.inl rfl) ho hc hd (fun h' c' kp e => fin its r' hz h' c' kp e) (by simp only [List.size_toArray] <;> omega)
  · obtain ⟨its, r', pl, hz⟩ := I.tuple hq
    have hlen := r'.length
    obtain ⟨o, ho, hc, n, hd⟩ := pl
    exact call_list_seq p (.inr rfl) ho hc hd (fun h' c' kp e => fin its r' hz h' c' kp e) (by simp only [List.size_toArray] <;> omega)
noncomputable def tyV (K : PySem.W.Frag) (T : String) (x : V) (H : Hp) : Prop := match x with
  | .str _ => T = "str"
  | .int _ => T = "int"
  | .ref p => (T = "list" ∧ ∃ xs, SqL K H p xs) ∨ (T = "tuple" ∧ ∃ o, K.lookup p = some o ∧ o.cls = .type "tuple" ∧ o.dict = none) ∨
      (T = "dict" ∧ ((∃ kvs, H p = some (.dK kvs)) ∨ ∃ kvs, H p = some (.dT kvs))) ∨ (T = "set" ∧ ∃ S n, H p = some (.set S n))
  | _ => False
theorem Zld {pins : List (Addr × Obj)} {σ : St} {H : Hp} {s : Shared} {T : String} {x : V} {v : Value} (I : Inv X pins σ H s) (r : Zab x v) (ty : tyV X.K T x H) :
    s.TypeIs v T ∧ ∀ a, v = .ref a → ∃ ob, s.heap.get? a = some ob ∧ ob.dict = none := by
  cases x with
  | str z =>
    obtain ⟨t, rfl⟩ := r
    cases (show T = "str" from ty)
    exact ⟨typeIs_str s z t, fun _ e => nomatch e⟩
  | int i =>
    obtain ⟨t, rfl⟩ := r
    cases (show T = "int" from ty)
    exact ⟨typeIs_int s i t, fun _ e => nomatch e⟩
  | ref p =>
    cases r
    rcases ty with ⟨rfl, xs, hq⟩ | ⟨rfl, o, hk, hc, hd⟩ | ⟨rfl, hk⟩ | ⟨rfl, S, n, hk⟩
    · obtain ⟨its, _, pl, _⟩ := I.list hq
      refine ⟨pl.isList.typeIs, fun a e => ?_⟩
      cases e
      obtain ⟨o, n, e, c, hd, _⟩ := pl
      exact ⟨o, e, hd⟩
    · refine ⟨⟨o, I.kIn p o hk, hc⟩, fun a e => ?_⟩
      cases e
      exact ⟨o, I.kIn _ o hk, hd⟩
    · have z : ∃ o, s.heap.get? p = some o ∧ o.ExactDict := by
        rcases hk with ⟨kvs, hk⟩ | ⟨kvs, hk⟩
        · obtain ⟨_, _, _, _, o, _, _, e, ex, _⟩ := I.hok p _ hk
          exact ⟨o, e, ex⟩
        · obtain ⟨_, _, _, _, o, _, _, e, ex, _⟩ := I.hok p _ hk
          exact ⟨o, e, ex⟩
      obtain ⟨o, e, ex⟩ := z
      refine ⟨⟨o, e, ex.1⟩, fun a e2 => ?_⟩
      cases e2
      exact ⟨o, e, ex.2.1⟩
    · obtain ⟨o, _, _, _, e, ex, _⟩ := I.hok p _ hk
      refine ⟨⟨o, e, ex.1⟩, fun a e2 => ?_⟩
      cases e2
      exact ⟨o, e, ex.2.1⟩
  | _ => exact False.elim ty
noncomputable def tBM (K : PySem.W.Frag) (T : String) (r : V → List V → Hp → VK → Prop) (to : TE) (t : TA) : TE := fun σ H Q => to σ H fun x H1 => tyV K T x H1 ∧ t σ H1 fun xs H2 => r x xs H2 Q
variable {o e : Expr} {es : List Expr} {to : TE} {t : TA} {name : Str} {apos cpos : Pos} {T id : String} {r : V → List V → Hp → VK → Prop}
theorem ZnY (pa : PlainAttrs T) (slot : Slot T name id) (hty : typeOf (.builtin id) = pure (.type "method_descriptor")) (hm : MtR X id r) (ho : PE X o to) (ha : PA X (e :: es) t)
    (hbase : attributeBase o name X.env (eval o X.env) = eval o X.env := by rfl)
    (hfew : ((backTo cpos (starEach (e :: es) X.env)).all (fun x => !x.1) && (backToKw cpos (keywordEach [] X.env)).all (fun x => x.1.isSome)
      && decide ((e :: es).length + ([] : List Keyword).length + (if ([] : List Keyword).isEmpty then 0 else 1) < 30)) = true := by rfl)
    (hline : (apos.endLine == cpos.line) = true := by rfl) (hs : starEach (e :: es) X.env = (false, eval e X.env) :: starEach es X.env := by rfl) (hplain : (backTo cpos (starEach es X.env)).any (·.1) = false := by rfl) :
    PE X (.Call (.Attribute o name apos) (e :: es) [] cpos) (tBM X.K T r to t) := by
  intro pins s σ H Q I h
  refine wpAny_Call_method_late hbase hfew hline rfl (thn (ho pins s σ H _ I h) fun v s1 ⟨x, H1, I1, r1, ty, q1⟩ => ?_)
  obtain ⟨h1, h2⟩ := Zld I1 r1 ty
  refine ⟨T, id, pa, slot, hty, h1, h2, ?_⟩
  have hA := ha cpos pins s1 σ H1 _ I1 q1
  rw [hs] at hA ⊢
  refine Calls.callWith_builtin (by show (false || (backTo cpos (starEach es X.env)).any (·.1)) = false; rw [hplain] <;> rfl) (Calls.evalArgs_plain ?_)
  exact thn hA fun us s2 ⟨vs, H2, I2, r2, q2⟩ => hm pins s2 σ H2 x vs v us Q I2 r1 r2 q2
end
end L2
namespace L2
open PySem PySem.Spec PyProof.Rows
noncomputable def MtM (X : Cx) (id : String) (r : V → List V → Hp → VK → Prop) : Prop :=
  ∀ (pins : List (Addr × Obj)) (s : Shared) (σ : St) (H : Hp) (x : V) (xs : List V) (v : Value) (us : List Value) (Q : VK), Inv X pins σ H s → Zab x v → ZO xs us → r x xs H Q →
    wpAny (model X.prog X.w) X.A (call (.builtin id) (v :: us)) (EP X pins σ Q) X.xe s
theorem ZO.one : ∀ {x : V} {us : List Value}, ZO [x] us → ∃ u, us = [u] ∧ Zab x u
  | _, _, .cons r .nil => ⟨_, rfl, r⟩
theorem ZO.two : ∀ {x y : V} {us : List Value}, ZO [x, y] us → ∃ u v, us = [u, v] ∧ Zab x u ∧ Zab y v
  | _, _, _, .cons r (.cons q .nil) => ⟨_, _, rfl, r, q⟩
theorem ZO.zero : ∀ {us : List Value}, ZO [] us → us = []
  | _, .nil => rfl
theorem ZO.dropLast {xs : List V} {us : List Value} (h : ZO xs us) : ZO xs.dropLast us.dropLast := by
  induction h with
  | nil => exact .nil
  | cons r t ih =>
    cases t with
    | nil => exact .nil
    | cons q t' => exact .cons r ih
theorem ZO.reverse {xs : List V} {us : List Value} (h : ZO xs us) : ZO xs.reverse us.reverse := by
  induction h with
  | nil => exact .nil
  | cons r t ih => rw [List.reverse_cons, List.reverse_cons]; exact ZO.append ih (.cons r .nil)
section
variable {X : Cx} {pins : List (Addr × Obj)} {σ : St} {H : Hp} {s : Shared} {l b : Addr} {xs ys zs : List V}
theorem Inv.lset {its its' : List Value} {n : Nat} {f : Array Value → Array Value} {t' : Nat} (I : Inv X pins σ H s) (hH : H l = some (.lst xs))
    (e : s.heap.get? l = some { cls := .type "list", data := .seq its.toArray n }) (hf : f its.toArray = its'.toArray) (hv : ZO ys its') (hz : ys.length ≤ sizeLine) :
    Inv X pins σ (upd H l (.lst ys)) { s with heap := s.heap.update l (Obj.mapSeq f), toks := t' } := by
  have q := PySem.IsL.update e f
  rw [hf] at q
  refine I.write (x := l) (e := l) (by rw [hH]; exact trivial) (.inl rfl) (fun b' u hb hu => (Heap.get?_update_other s.heap (Obj.mapSeq f) (Ne.symm hb)).trans hu) ⟨_, q⟩ ?_
  exact ⟨hz, its', _, hv, q⟩
theorem Inv.lnew {its : List Value} {t' : Nat} (I : Inv X pins σ H s) (hv : ZO ys its) (hz : ys.length ≤ sizeLine) :
    Inv X pins σ (upd H s.heap.objs.size (.lst ys)) { s with heap := s.heap.push { cls := .type "list", data := .seq its.toArray }, toks := t' } :=
  I.laid (fun _ _ q => Heap.get?_push_of_some _ q) (Nat.le_refl _) ⟨hz, its, 0, hv, Heap.get?_push_size _ rfl⟩
theorem Inv.fresh (I : Inv X pins σ H s) : H s.heap.objs.size = none := I.hok.fresh (Nat.le_refl _)
theorem Inv.lstM (I : Inv X pins σ H s) (hH : H l = some (.lst xs)) : xs.length ≤ sizeLine ∧ ∃ (its : List Value) (n : Nat), ZO xs its ∧ xs.length = its.length ∧ s.heap.get? l = some { cls := .type "list", data := .seq its.toArray n } := by
  obtain ⟨z, its, n, r, e⟩ := I.hok l _ hH
  exact ⟨z, its, n, r, r.length, e⟩
end
section
variable {X : Cx}
noncomputable def rAppend : V → List V → Hp → VK → Prop := fun x vs H Q => ∃ l xs y, x = .ref l ∧ vs = [y] ∧ H l = some (.lst xs) ∧ xs.length < sizeLine ∧ Q .non (upd H l (.lst (xs ++ [y])))
theorem ZbJ : MtM X "list.append" rAppend := by
  intro pins s σ H x vs v us Q I rx rv h
  obtain ⟨l, xs, y, rfl, rfl, hH, hz, q⟩ := h
  cases rx
  obtain ⟨u, rfl, ru⟩ := rv.one
  obtain ⟨z, its, n, r, hl, e⟩ := I.lstM hH
  refine call_meets F.slot_list_append ⟨_, e, rfl⟩ F.entry_list_append (F.args_list_append_2 _ _) (PySem.list_append l its.toArray n u (by rw [List.size_toArray]; omega)) ⟨e, ?_⟩
  refine ⟨.non, _, I.lset (its' := its ++ [u]) hH e (by simp) (r.append (.cons ru .nil)) ?_, rfl, q⟩
  rw [List.length_append, List.length_singleton]
  omega
noncomputable def rCat : R2 := fun x y H Q => ∃ l b xs zs, x = .ref l ∧ y = .ref b ∧ H l = some (.lst xs) ∧ H b = some (.lst zs) ∧ xs.length + zs.length ≤ sizeLine ∧ ∀ p, H p = none → Q (.ref p) (upd H p (.lst (xs ++ zs)))
theorem Zle : OpR X (binaryOp .Add) rCat := by
  intro pins s σ H x y v u Q I rx ry h
  obtain ⟨l, b, xs, zs, rfl, rfl, hH, hB, hz, q⟩ := h
  cases rx
  cases ry
  obtain ⟨z, its, n, r, hl, e⟩ := I.lstM hH
  obtain ⟨z2, its2, n2, r2, hl2, e2⟩ := I.lstM hB
  refine PySem.P.add_list e e2 ?_ (by rw [List.size_toArray, List.size_toArray]; omega)
  have ea : its.toArray ++ its2.toArray = (its ++ its2).toArray := by simp
  rw [ea]
  exact ⟨.ref _, _, I.lnew (t' := s.toks) (r.append r2) (by rw [List.length_append]; omega), rfl, q _ I.fresh⟩
end
section
variable {prog : Program} {w : World} {A : Around} {E : Value → Shared → Prop} {s : Shared}
end
section
variable {X : Cx}
end
end L2
namespace Att
open PySem PySem.W PySem.Calls PyProof.Rows
theorem Zcj {P : Params} {h : Heap} : ∀ (ns : List Int) (vs : List Value), WellAll P h vs (ns.map WData.int) → IntsAre vs ns := by
  intro ns
  induction ns with
  | nil =>
    intro vs w
    rw [List.map_nil] at w
    cases w
    exact .nil
  | cons n ns ih =>
    intro vs w
    rw [List.map_cons] at w
    cases w with
    | cons a b =>
      cases a
      exact .cons _ _ (ih _ b)
theorem Zf6 {l : OpenLaw} {n : Nat} (hn : l.most = some n) {P : Params} {h : Heap} {args : List WData} {vals : List Value}
    (hpre : l.row.toRowW.claim.pre args = true) (hwl : WellAll P h vals args) :
    ∃ a vs ns, vals = [Value.ref a] ∧ args = [WData.list (ns.map WData.int)] ∧ h.get? a = some { cls := .type "list", data := .seq vs.toArray } ∧ IntsAre vs ns ∧ ns.length ≤ n := by
  have hsh : WShape.hasAll [] args [.list .int] = true := (pre_splitW hpre).1
  have hc : l.pre.holds [] { args := args } = true := (pre_splitW hpre).2
  obtain ⟨d, r, rfl, h1, h2⟩ := hasAllW_cons hsh
  obtain rfl := hasAllW_nil h2
  obtain ⟨xs, rfl, h3⟩ := hasW_list h1
  obtain ⟨ns, rfl⟩ := items_int h3
  have hlen : ns.length ≤ n := by
    unfold OpenLaw.pre at hc
    have h4 : (WTm.not (.lt (.lit (.int (n : Int))) (.len (.arg 0)))).holds [] { args := [.list (ns.map .int)] } = true := by
      have h4 := (holds_andW hc).1
      rw [hn] at h4
      exact h4
    have h5 := condW_of h4 (w_not (w_lt w_lit (w_len_list (w_arg rfl))))
    rw [List.length_map] at h5
    refine Nat.le_of_not_lt fun q => ?_
    have q' : (n : Int) < ((ns.length : Nat) : Int) := by omega
    first
      | (rw [decide_eq_true q'] at h5; exact absurd h5 (by decide))
      | (simp at h5; omega)
  cases hwl with
  | cons w1 w2 =>
    cases w2
    cases w1 with
    | list ho hall => exact ⟨_, _, ns, rfl, rfl, ho, Zcj ns _ hall, hlen⟩
theorem Zf7 (l : OpenLaw) (args : List WData) : l.row.toRowW.claim.post args (.bool true) args = true :=
  postW_of (r := l.row.toRowW) (X := (true == true))
    (show WShape.has [] (.bool true) .bool = true by first | rfl | decide | simp [WShape.has, WShape.arms, WShape.armsAll])
    (show (WTm.eq .res (.lit (.bool true))).value [] { args := args, res := some (.bool true), after := args } = some (.bool (true == true)) from w_eq_bool (w_res rfl) w_lit) rfl
theorem Zej {l : OpenLaw} {n : Nat} {q : Program} {loose : List Str} {XP : (Str → Option Value) → Heap → Prop} {YP : World → Heap → Prop} {d : DefRec}
    (hn : l.most = some n) (hdf : d.params.defaults = [])
    (call : ∀ (w : World) (s₀ s₁ : Shared) (mg mb : Str → Option Value) (fa : Addr) (o : Obj) (pm cd doc : Value) (a : Addr) (vs : List Value) (ns : List Int),
      Ground q loose [] XP w s₀ mg mb s₁.heap → YP w s₁.heap →
      s₁.heap.get? fa = some o → o.data = .func (docDef d.name d.params d.body d.scope pm cd doc) → s₁.heap.CodeRec cd d.name → mg d.name = some (.ref fa) →
      s₁.heap.get? a = some { cls := .type "list", data := .seq vs.toArray } → IntsAre vs ns → ns.length ≤ n → s₁.gens = #[] →
      codeAny (model l.prog w) callerA (.call (.ref fa) ⟨[.ref a], []⟩) (fun r s' => r = .ok (.ret (.bool true)) ∧ OldK s₁.heap s'.heap ∧ s'.os = s₁.os ∧ AllBare s'.gens) s₁) :
    WalkO q loose XP YP l.row.toRowW d [] (fun f vs => PySem.call f vs) := by
  intro w s₀ s₁ mg mb G Y fa o pm cd doc dV kV ho hd hcd hD hmg hg args vals as hpre hlay hrd hwl hlo
  obtain rfl : dV = .none := Dflts.none hD hdf
  obtain rfl : kV = .none := Dflts.noKw hD
  obtain ⟨a, vs, ns, rfl, rfl, hobj, hints, hlen⟩ := Zf6 hn hpre hwl
  refine enter_call (codeAny_mono (call w s₀ s₁ mg mb fa o pm cd doc a vs ns G Y ho (fd_plain hd) hcd hmg hobj hints hlen hg) fun r s' hq => ?_)
  obtain ⟨rfl, h2, h3, h4⟩ := hq
  exact ⟨.inl ⟨.bool true, .bool true, [], rfl, fun _ => rfl, .bool true, Zf7 l _, fun _ => ⟨List.Pairwise.nil, fun _ hm => (nomatch hm)⟩⟩, h2, h3, h4⟩
section
variable {prog : Program} {w : World} {A : Around} {E : Value → Shared → Prop} {s : Shared} {K : Frag}
end
end Att
namespace L2
open PySem PySem.Spec PyProof.Rows
theorem ZdE : ∀ {vs : List Value} {ns : List Int}, IntsAre vs ns → ZO (ns.map V.int) vs
  | _, _, .nil => .nil
  | _, _, .cons n t h => .cons ⟨t, rfl⟩ (ZdE h)
noncomputable def Znx (H : Hp) : Prop := ∀ b, H b = none ∨ ∃ o xs, H b = some (.frz o (.lst xs))
theorem ZhC {P : Program} {w : World} {K : PySem.W.Frag} {mg mb : Str → Option Value} {CX : CXT} {k : Nat} {fa a : Addr} {fd : FuncData} {x : Str} {sp : Sp} {s₁ : Shared} {vs : List Value} {ns : List Int}
    (KX : K.In s₁.heap) (hns : s₁.heap.Ns mainGlobals mg) (hb : s₁.heap.Ns builtinsNs mb) (hbb : ∀ x : Str, x ≠ "__name__" → mb x = bootBuiltins x) (hlim : s₁.heap.NoLimit) (hg : s₁.gens = #[])
    (ha : s₁.heap.get? a = some { cls := .type "list", data := .seq vs.toArray }) (hi : IntsAre vs ns) (hl : ns.length ≤ sizeLine) (hr : Room k callerA)
    (F : ∀ base : Heap, K.In base → base.Ns mainGlobals mg → FnOk P w K mg base CX k fa fd [x] sp) (hbind : ∀ (s : Shared) (u : Value), BindsTo s fd ⟨[u], []⟩ [(x, u)])
    (hsp : ∀ H : Hp, Znx H → SqL K H a (ns.map V.int) → sp [.ref a] H (fun v _ => v = .bl true) fun _ _ _ => False)
    (hCX : ∀ H e s', CX [] H s₁ (fun _ _ _ => False) e s' → False) :
    codeAny (model P w) callerA (.call (.ref fa) ⟨[.ref a], []⟩) (fun r s' => r = .ok (.ret (.bool true)) ∧ OldK s₁.heap s'.heap ∧ s'.os = s₁.os ∧ AllBare s'.gens) s₁ := by
  have rv := ZdE hi
  have lenV := hi.length
  have core : ∀ H : Hp, Znx H → SqL K H a (ns.map V.int) → HOk P w H s₁.heap → (∀ b, H b ≠ none → b = a) → (H a ≠ none → K.lookup a = none) →
      codeAny (model P w) callerA (.call (.ref fa) ⟨[.ref a], []⟩) (fun r s' => r = .ok (.ret (.bool true)) ∧ OldK s₁.heap s'.heap ∧ s'.os = s₁.os ∧ AllBare s'.gens) s₁ := by
    intro H hO hS hok hA hK
    have base_of : ∀ {b : Addr} {o : Obj}, s₁.heap.get? b = some o → H b = none → (Zhn s₁.heap H).get? b = some o := fun e n => ZeN e n
    have noA : ∀ {b : Addr} {o : Obj} {es : Array DictEntry} {ep : Nat}, s₁.heap.get? b = some o → o.data = .dict es ep → H b = none := fun {b o es ep} e d => by
      cases q : H b with
      | none => rfl
      | some u =>
        have e' : b = a := hA b (by rw [q]; simp)
        subst e'
        rw [ha] at e; cases e
        have d' : Data.seq vs.toArray _ = Data.dict es ep := d
        cases d'
    have nsK : ∀ {b : Addr} {m : Str → Option Value}, s₁.heap.Ns b m → (Zhn s₁.heap H).Ns b m := fun {b m} ⟨o, es, ep, e, d, r⟩ => ⟨o, es, ep, base_of e (noA e d), d, r⟩
    have hKb : K.In (Zhn s₁.heap H) := fun b o e => base_of (KX b o e) (by
      cases q : H b with
      | none => rfl
      | some u =>
        have e' : b = a := hA b (by rw [q]; simp)
        subst e'
        rw [hK (by rw [q]; simp)] at e; cases e)
    have hM : Mod K mg (Zhn s₁.heap H) := ⟨hKb, nsK hns, ⟨mb, nsK hb, hbb⟩, let ⟨mc, h1, h2⟩ := hlim; ⟨mc, nsK h1, h2⟩⟩
    have e0 : Env0 P w K mg (Zhn s₁.heap H) callerA [] s₁ H := ⟨rfl, hM, fun b o e => ZfR e, Nat.le_of_eq (ZfQ _ _), trivial, fun b hb => absurd (show b ∈ ([] : List Addr) from hb) (by simp), hok, .of_eq hg, .inl rfl⟩
    refine codeAny_mono ((F _ hKb (nsK hns)).run callerA [] s₁ H ⟨[.ref a], []⟩ [.ref a] [.ref a] _ _ hr e0 (hbind s₁ (.ref a)) (.cons rfl .nil) (hsp H hO hS)) fun r s' h => ?_
    cases r with
    | error e => exact (hCX H e s' h).elim
    | ok fl =>
      cases fl with
      | next => exact False.elim h
      | brk => exact False.elim h
      | cont => exact False.elim h
      | ret u =>
        obtain ⟨v, H', os, bare, un, hok', r', q⟩ := h
        have q' : v = .bl true := q
        subst q'
        obtain rfl : u = Value.bool true := r'
        refine ⟨rfl, OldK.of_keep fun b o e => ?_, os, bare⟩
        cases q : H b with
        | none => exact un.keep b o e q (by intro z; exact absurd (show b ∈ ([] : List Addr) from z) (by simp)) (by simp)
        | some u =>
          rcases hO b with z | ⟨ob, xs, z⟩
          · rw [q] at z; cases z
          · have z2 := un.frzs b ob _ z
            obtain ⟨e1, _⟩ := hok b _ z
            obtain ⟨e2, _⟩ := hok' b _ z2
            rw [e] at e1; cases e1
            exact e2
  cases hk : K.lookup a with
  | some o =>
    have e := KX a o hk
    rw [ha] at e
    cases e
    refine core (fun _ => none) (fun _ => .inl rfl) (.inr ⟨_, vs.toArray, _, hk, rfl, rfl, rfl, by rw [List.size_toArray, lenV]; exact hl, by simpa using rv⟩) (fun b u z => by have z' : (none : Option HO) = some u := z; cases z') (fun b z => absurd rfl z) fun z => absurd rfl z
  | none =>
    refine core (fun b => if b = a then some (.frz { cls := .type "list", data := .seq vs.toArray } (.lst (ns.map V.int))) else none) (fun b => ?_) (.inl (.inr ⟨{ cls := .type "list", data := .seq vs.toArray }, if_pos rfl⟩)) (fun b u z => ?_) (fun b z => ?_) fun _ => hk
    · by_cases hb : b = a
      · exact .inr ⟨_, _, if_pos hb⟩
      · exact .inl (if_neg hb)
    · by_cases hb : b = a
      · have z' := (if_pos hb).symm.trans z
        cases z'
        subst hb
        exact ⟨ha, by rw [List.length_map]; exact hl, vs, _, rv, ha⟩
      · have z' := (if_neg hb).symm.trans z
        cases z'
    · by_cases hb : b = a
      · exact hb
      · exact absurd (if_neg hb) z
end L2
namespace L2
open PySem PySem.Spec PyProof.Rows
theorem Zjq {l : PySem.W.OpenLaw} {n k : Nat} {q : Program} {loose : List Str} {XP : (Str → Option Value) → Heap → Prop} {YP : World → Heap → Prop} {d : DefRec} {K : Params → PySem.W.Frag} {CX : World → CXT} {sp : World → Sp} {x : Str}
    (hn : l.most = some n) (hn2 : n ≤ sizeLine) (hdf : d.params.defaults = []) (hr : Room k callerA)
    (hY : ∀ (w : World) (h : Heap), YP w h → (K w.params).In h)
    (F : ∀ (w : World) (mg : Str → Option Value) (fa : Addr) (h : Heap), (K w.params).In h → h.Ns mainGlobals mg → mg d.name = some (.ref fa) →
      ∃ fd : FuncData, (∀ (s : Shared) (u : Value), BindsTo s fd ⟨[u], []⟩ [(x, u)]) ∧
        ∀ base : Heap, (K w.params).In base → base.Ns mainGlobals mg → FnOk l.prog w (K w.params) mg base (CX w) k fa fd [x] (sp w))
    (hsp : ∀ (w : World) (H : Hp) (a : Addr) (ns : List Int), ns.length ≤ n → Znx H → SqL (K w.params) H a (ns.map V.int) → sp w [.ref a] H (fun v _ => v = .bl true) fun _ _ _ => False)
    (hCX : ∀ (w : World) (H : Hp) (s : Shared) (e : Value) (s' : Shared), CX w [] H s (fun _ _ _ => False) e s' → False) :
    PySem.W.WalkO q loose XP YP l.row.toRowW d [] (fun f vs => PySem.call f vs) := by
  refine Att.Zej hn hdf fun w s₀ s₁ mg mb fa o pm cd doc a vs ns G Y ho hd hcd hmg hobj hints hlen hg => ?_
  have KX := hY w _ Y
  obtain ⟨fd, hb, hF⟩ := F w mg fa _ KX G.T.g hmg
  exact ZhC KX G.T.g G.T.b G.T.builtins G.T.nolimit hg hobj hints (Nat.le_trans hlen hn2) hr hF hb (fun H hO hS => hsp w H a ns hlen hO hS) fun H e s' => hCX w H s₁ e s'
end L2
namespace L2
open PySem PySem.Spec PyProof.Rows
noncomputable def Zq (s : Stmt) : Arguments := match s with
  | .FunctionDef _ a _ _ _ _ _ _ _ _ => a
  | _ => { posonlyargs := [], args := [], vararg := none, kwonlyargs := [], kw_defaults := [], kwarg := none, defaults := [] }
noncomputable def Zm (s : Stmt) : List Stmt := match s with
  | .FunctionDef _ _ b _ _ _ _ _ _ _ => b
  | _ => []
noncomputable def Zg (s : Stmt) : Scope := match s with
  | .FunctionDef _ _ _ _ _ _ sc _ _ _ => sc
  | _ => { kind := .function, names := [], isGenerator := false, isCoroutine := false }
noncomputable abbrev CX0 : CXT := fun _ _ _ _ _ _ => False
noncomputable abbrev E0 : XK := fun _ _ _ => False
structure Fun (K : PySem.W.Frag) (x qual : Str) (st : Stmt) (f : Addr) (fd : FuncData) : Prop where
  ex : ∃ (oc : Value) (od : Option Addr) (kV doc pm : Value) (an : Option Addr) (cdv ct : Value) (osl : Array (Option Value)),
    fd = PySem.W.fnOf x qual (Zq st) (Zm st) (Zg st) .none kV doc pm an cdv ct ∧ K.lookup f = some ⟨oc, od, .func fd, osl⟩ ∧ PySem.W.codeIn K cdv qual = true
  kp : PySem.W.keepIn K (.ref f) = true
section
variable {P : Program} {w : World} {K : PySem.W.Frag} {mg : Str → Option Value} {base : Heap}
theorem Fun.ok {x qual : Str} {st : Stmt} {f : Addr} {fd : FuncData} {N ps : List Str} {k : Nat} {sp : Sp} (F : Fun K x qual st f fd) (S : FnScope N ps (Zg st)) (len : ∀ vs H Q E, sp vs H Q E → vs.length = ps.length)
    (hbody : ∀ (cdv : Value) (A : Around) (outer : List Env) (s : Shared) (H : Hp) (vs : List V) (Q : VK) (E : XK), Room k (A.deeper (envOfC qual (Zg st) s.heap.objs.size f cdv)) → sp vs H Q E →
      ∃ t, PSs (ZdC CX0 P w K mg base N qual (Zg st) f cdv A outer s H E).nox (Zm st) t ∧ t { nx := fun _ H' => Q .non H', rt := Q } (start N vs) H) : FnOk P w K mg base CX0 (k + 1) f fd ps sp := by
  obtain ⟨oc, od, kV, doc, pm, an, cdv, ct, osl, rfl, lk, hcd⟩ := F.ex
  refine Zk9 lk hcd S len fun A outer s H vs Q E hr hsp => ?_
  obtain ⟨t, h, q⟩ := hbody cdv A outer s H vs Q E hr hsp
  exact ⟨t, h.nox, q⟩
theorem Fun.binds {x qual : Str} {st : Stmt} {f : Addr} {fd : FuncData} {ps : List Str} (F : Fun K x qual st f fd)
    (h : ∀ (kV doc pm : Value) (an : Option Addr) (cdv ct : Value) (us : List Value), us.length = ps.length → bindArgs (PySem.W.fnOf x qual (Zq st) (Zm st) (Zg st) .none kV doc pm an cdv ct) ⟨us, []⟩ = pure (ps.zip us)) : Zei K fd ps [] := by
  obtain ⟨oc, od, kV, doc, pm, an, cdv, ct, osl, rfl, lk, hcd⟩ := F.ex
  exact .all (h kV doc pm an cdv ct)
theorem ZL {x qual : Str} {st : Stmt} {f : Addr} {oc : Value} {od an : Option Addr} {osl : Array (Option Value)} {kV doc pm cdv ct : Value} (l : K.lookup f = some ⟨oc, od, .func (PySem.W.fnOf x qual (Zq st) (Zm st) (Zg st) .none kV doc pm an cdv ct), osl⟩)
    (c : PySem.W.codeIn K cdv qual = true) (k : PySem.W.keepIn K (.ref f) = true) : Fun K x qual st f (PySem.W.fnOf x qual (Zq st) (Zm st) (Zg st) .none kV doc pm an cdv ct) := ⟨⟨oc, od, kV, doc, pm, an, cdv, ct, osl, rfl, l, c⟩, k⟩
end
theorem Zf8 {n : Nat} (h : n ≤ 1000) : n < sizeLine := Nat.lt_of_le_of_lt h (by decide)
section
variable {X : Cx}
end
theorem Ziv {A B : Prop} (h : B) : if false = true then A else B := by
  rw [if_neg Bool.false_ne_true]
  exact h
theorem Ziw {A B : Prop} (h : A) : if true = true then A else B := by
  rw [if_pos rfl]
  exact h
noncomputable def Zho (H H' : Hp) : Prop := ∀ b o, H b = some o → H' b = some o
theorem Zho.refl (H : Hp) : Zho H H := fun _ _ h => h
theorem Zho.trans {H H1 H2 : Hp} (a : Zho H H1) (b : Zho H1 H2) : Zho H H2 := fun c o h => b c o (a c o h)
theorem Zho.free {H H' : Hp} (e : Zho H H') {l : Addr} (h : H' l = Option.none) : H l = Option.none := by
  cases q : H l with
  | none => rfl
  | some o =>
    rw [e l o q] at h
    cases h
theorem Zho.seq {K : PySem.W.Frag} {H H' : Hp} {a : Addr} {xs : List V} (e : Zho H H') (h : SqL K H a xs) : SqL K H' a xs := by
  rcases h with (h | ⟨o, h⟩) | h
  · exact .inl (.inl (e _ _ h))
  · exact .inl (.inr ⟨o, e _ _ h⟩)
  · exact .inr h
end L2
end
section
set_option Elab.async false
set_option linter.all false
set_option maxRecDepth 100000
namespace DQ
open PySem PySem.Spec PyProof.Rows
structure Fly (B : Heap) (l : List Env) (e : Addr) (cls : Value) (dct : Option Addr) (fl : Value) (h : Heap) : Prop where
  stay : B.StaysIn h
  new : B.get? e = none
  frames : h.FunFrames B l
  obj : ∃ oe vs T oT ts, h.get? e = some oe ∧ oe.cls = cls ∧ oe.dict = dct ∧ oe.data = .fields vs ∧ vs[2]? = some .none ∧ vs[1]? = some (.ref T) ∧ B.get? T = none ∧ T ≠ e ∧ h.get? T = some oT ∧ oT.data = .fields ts ∧ ts[3]? = some fl
theorem Fly.tail {B : Heap} {env : Env} {l : List Env} {e : Addr} {cls : Value} {dct : Option Addr} {fl : Value} {h : Heap} (f : Fly B (env :: l) e cls dct fl h) : Fly B l e cls dct fl h := ⟨f.stay, f.new, f.frames.2.2, f.obj⟩
section
variable {M : Model} {A : Around} {E : Value → Shared → Prop} {s : Shared} {B : Heap} {env : Env} {outer l : List Env} {L e : Addr} {cls : Value} {dct : Option Addr} {fl : Value}
theorem apart {h : Heap} {oe : Obj} {vs : Array Value} (hl : h.FunFrames B l) (he : h.get? e = some oe) (hd : oe.data = .fields vs) : e ∉ l.filterMap (·.frame) := fun z => by
  obtain ⟨_, o, h1, h2⟩ := hl.mem z
  rw [he] at h1
  cases h1
  exact h2 vs hd
theorem ZdF {oe : Obj} {vs : Array Value} {head : Value} {hn : Bool} {Q : Unit → Shared → Prop} (hfr : A.frames = some (env :: outer)) (hl : s.heap.FunFrames B (env :: outer)) (hf : env.frame = some L)
    (he : s.heap.get? e = some oe) (hs : B.StaysIn s.heap) (hb : B.get? e = none) (hd : oe.data = .fields vs) (hz : 2 < vs.size) (h2 : vs[2]? = some .none)
    (h : ∀ h', Fly B (env :: outer) e oe.cls oe.dict (rawInt L) h' → s.heap.UpToSlots h' → Q () { s with heap := h' }) :
    wpAny M A (frameOf env >>= fun a => entryPlaceOf L hn >>= fun pl => EntryCells.newEntry head a .none (rawInt L) .none pl >>= fun b => setField (.ref e) 1 b) Q E s := by
  have ne := apart hl he hd
  refine wpAny_bind (wpAny_frameOf_fun hfr hl hf fun h1 k1 => wpAny_bind (wpAny_entryPlaceOf fun pl hpl => wpAny_bind ?_))
  unfold EntryCells.newEntry newFields
  refine wpAny_newObj_type ?_ (hpl.sizeOk5 _ _ _ _ _)
  generalize hT : ([head, Value.ref L, Value.none, rawInt L, Value.none] ++ (if pl.isEmpty then List.replicate 6 Value.none else pl)).toArray = ts
  have h3 : ts[3]? = some (rawInt L) := by
    rw [← hT]
    rcases hpl with rfl | ⟨_, _, _, _, _, _, _, rfl⟩ <;> simp
  have e1 : h1.get? e = some oe := (k1.2.1 e ne).trans he
  have s1 : B.StaysIn h1 := fun b o hbo => (k1.2.1 b fun z => by rw [(hl.mem z).1] at hbo; cases hbo).trans (hs b o hbo)
  generalize hoT : ({ cls := .type "traceback", dict := none, data := .fields ts } : Obj) = oT
  have dT : oT.data = .fields ts := by rw [← hoT]
  have fT : oT.isFreed = false := Obj.isFreed_of_fields dT
  have e2 : (h1.push oT).get? e = some oe := Heap.get?_push_of_some _ e1
  have nT : h1.objs.size ≠ e := Nat.ne_of_gt (Heap.lt_size e1)
  refine wpAny_setField e2 hd (Nat.lt_trans (by decide) hz) (h _ ?_ ?_)
  · have d3 := Obj.data_mapFields hd (·.setIfInBounds 1 (Value.ref h1.objs.size))
    have e3 := Heap.get?_update_self (Obj.mapFields (·.setIfInBounds 1 (Value.ref h1.objs.size))) e2 (Obj.isFreed_of_fields d3)
    have keep : ∀ b o, b ≠ e → h1.get? b = some o → ((h1.push oT).update e (Obj.mapFields (·.setIfInBounds 1 (Value.ref h1.objs.size)))).get? b = some o := fun b o hbe x => by
      rw [Heap.get?_update_other _ _ (Ne.symm hbe)]
      exact Heap.get?_push_of_some _ x
    have gT : (h1.push oT).get? h1.objs.size = some oT := Heap.get?_push_size _ fT
    refine ⟨fun b o x => keep b o (fun z => by rw [z, hb] at x; cases x) (s1 b o x), hb, hl.of_keeps fun b o x y => ?_, _, _, h1.objs.size, oT, ts, e3, Obj.cls_mapFields _ _, ?_, d3, ?_, ?_, s1.fresh, nT, ?_, dT, h3⟩
    · obtain ⟨sl, z⟩ := k1.2.2 b o x
      exact ⟨_, keep b _ (fun w => y vs (by rw [w, he] at x; cases x; exact hd)) z, rfl⟩
    · obtain ⟨c, d, dd, sl⟩ := oe
      cases hd
      rfl
    · rw [Array.getElem?_setIfInBounds_ne (by decide)]
      exact h2
    · rw [Array.getElem?_setIfInBounds_self_of_lt (Nat.lt_trans (by decide) hz)]
    · rw [Heap.get?_update_other _ _ (Ne.symm nT)]
      exact gT
  · intro b o x y
    obtain ⟨sl, z⟩ := k1.2.2 b o x
    refine ⟨sl, ?_⟩
    rw [Heap.get?_update_other _ _ (fun w => y vs (by rw [← w, he] at x; cases x; exact hd))]
    exact Heap.get?_push_of_some _ z
theorem ZeS {Q : Unit → Shared → Prop} (f : Fly B l e cls dct fl s.heap) (h : ∀ h', Fly B l e cls dct .none h' → s.heap.UpToSlots h' → Q () { s with heap := h' }) : wpAny M A (setFlight (.ref e) none) Q E s := by
  obtain ⟨st, nw, fr, oe, vs, T, oT, ts, g1, g2, g3, g4, g5, g6, g7, g8, g9, g10, g11⟩ := f
  have hz : 3 < ts.size := (Array.getElem?_eq_some_iff.mp g11).1
  unfold setFlight
  refine wpAny_bind (wpAny_field g1 g4 g6 ?_)
  rw [if_pos (by simp)]
  have oth : ∀ b o, b ≠ T → s.heap.get? b = some o → (s.heap.update T (Obj.mapFields (·.setIfInBounds 3 Value.none))).get? b = some o := fun b o hb x => by
    rw [Heap.get?_update_other _ _ (Ne.symm hb)]
    exact x
  have nr : ∀ b o, s.heap.get? b = some o → (∀ vs, o.data ≠ .fields vs) → b ≠ T := fun b o x y z => by
    rw [z, g9] at x
    cases x
    exact y ts g10
  refine wpAny_setField g9 g10 hz (h _ ⟨fun b o x => oth b o (fun z => by rw [z, g7] at x; cases x) (st b o x), nw, fr.of_keeps fun b o x y => ⟨o, oth b o (nr b o x y) x, rfl⟩, ?_⟩ fun b o x y => ⟨o.slots, oth b o (nr b o x y) x⟩)
  exact ⟨oe, vs, T, _, _, oth e oe (Ne.symm g8) g1, g2, g3, g4, g5, g6, g7, g8, Heap.get?_update_self _ g9 (Obj.isFreed_of_fields (Obj.data_mapFields g10 _)), Obj.data_mapFields g10 _, by rw [Array.getElem?_setIfInBounds_self_of_lt hz]; rfl⟩
theorem ZhD {Q : Unit → Shared → Prop} (hfr : A.frames = some (env :: outer)) (hf : env.frame = some L) (f : Fly B (env :: outer) e cls dct .none s.heap)
    (h : ∀ h', Fly B (env :: outer) e cls dct (rawInt L) h' → s.heap.UpToSlots h' → Q () { s with heap := h' }) : wpAny M A (noteFrame (.ref e) env) Q E s := by
  obtain ⟨st, nw, fr, oe, vs, T, oT, ts, g1, g2, g3, g4, g5, g6, g7, g8, g9, g10, g11⟩ := f
  unfold noteFrame
  simp only [hf]
  refine wpAny_bind (wpAny_field g1 g4 g6 ?_)
  rw [if_pos (by simp)]
  refine wpAny_bind (wpAny_field g9 g10 g11 ?_)
  rw [if_neg (by simp [rawInt])]
  have oth : ∀ b o, b ≠ T → s.heap.get? b = some o → (s.heap.update T (Obj.mapFields (·.setIfInBounds 3 Value.none))).get? b = some o := fun b o hb x => by
    rw [Heap.get?_update_other _ _ (Ne.symm hb)]
    exact x
  have nr : ∀ b o, s.heap.get? b = some o → (∀ vs, o.data ≠ .fields vs) → b ≠ T := fun b o x y z => by
    rw [z, g9] at x
    cases x
    exact y ts g10
  refine wpAny_bind (wpAny_setField g9 g10 (Array.getElem?_eq_some_iff.mp g11).1 ?_)
  refine ZdF hfr (fr.of_keeps fun b o x y => ⟨o, oth b o (nr b o x y) x, rfl⟩) hf (oth e oe (Ne.symm g8) g1) (fun b o x => oth b o (fun z => by rw [z, g7] at x; cases x) (st b o x)) nw g4 (Array.getElem?_eq_some_iff.mp g5).1 g5 fun h' k1 k2 => h h' (g2 ▸ g3 ▸ k1) ?_
  intro b o x y
  exact k2 b o (oth b o (nr b o x y) x) y
theorem Zf9 {Q : Unit → Shared → Prop} (hfr : A.frames = some (env :: outer)) (hf : env.frame = some L) (f : Fly B (env :: outer) e cls dct .none s.heap)
    (h : ∀ h', Fly B outer e cls dct .none h' → s.heap.UpToSlots h' → Q () { s with heap := h' }) : wpAny M A (leaving env (.ref e)) Q E s := by
  unfold leaving
  refine wpAny_bind (ZhD hfr hf f fun h1 k1 u1 => ?_)
  exact ZeS (s := { s with heap := h1 }) k1 fun h2 k2 u2 => h h2 k2.tail (u1.trans u2)
theorem Zga {oe : Obj} {vs : Array Value} {Q : Unit → Shared → Prop} (hfr : A.frames = some (env :: outer)) (hf : env.frame = some L) (hl : s.heap.FunFrames B (env :: outer)) (he : s.heap.get? e = some oe) (hs : B.StaysIn s.heap) (hb : B.get? e = none) (hd : oe.data = .fields vs) (h1 : vs[1]? = some .none) (h2 : vs[2]? = some .none)
    (h : ∀ h', Fly B outer e oe.cls oe.dict .none h' → s.heap.UpToSlots h' → Q () { s with heap := h' }) : wpAny M A (leaving env (.ref e)) Q E s := by
  unfold leaving noteFrame
  simp only [hf]
  refine wpAny_bind (wpAny_bind (wpAny_field he hd h1 ?_))
  rw [if_neg (by decide)]
  refine ZdF hfr hl hf he hs hb hd (Array.getElem?_eq_some_iff.mp h2).1 h2 fun h' k1 u1 => ?_
  exact ZeS (s := { s with heap := h' }) k1 fun h2 k2 u2 => h h2 k2.tail (u1.trans u2)
end
end DQ
end
section
set_option Elab.async false
set_option linter.all false
set_option maxRecDepth 100000
namespace DQ
open PySem PySem.Spec PyProof.Rows
open PySem.W (Looks findIn mroIn specialIn takesIn clsIn looks_findIn looks_mroIn looks_find findObj KitX)
structure ExcC (K : PySem.W.Frag) (C : Addr) : Prop where
  ga : findIn K (.ref C) "__getattribute__" = some (some (.builtin "BaseException.__getattribute__"))
  gt : findIn K (.ref C) "__getattr__" = some none
  cl : findIn K (.ref C) "__class__" = some (some (.builtin "object.__class__"))
  gs : specialIn K (.builtin "object.__class__") "__get__" = some (some (.builtin "getset_descriptor.__get__"))
  tk : takesIn K (.builtin "object.__class__") = some true
  bx : mroIn K C (.type "BaseException") = some true
  ob : mroIn K C (.type "object") = some true
  is : (clsIn K C).isSome = true
section
variable {prog : Program} {w : World} {A : Around} {E : Value → Shared → Prop} {s : Shared} {K : PySem.W.Frag} {e C : Addr} {oe : Obj} {od : Option Obj}
end
end DQ
end
section
set_option Elab.async false
set_option linter.all false
set_option maxRecDepth 100000
set_option maxHeartbeats 4000000
namespace DL
open PySem PySem.Spec PyProof.Rows L2
inductive D where
  | non
  | bl (b : Bool)
  | int (i : Int)
  | str (x : Str)
  | tup (xs : List D)
  | rol (xs : List D)
  | ref (n : Nat)
  | err (c : Str) (xs : List D)
inductive SO where
  | lst (xs : List D)
noncomputable abbrev Sto := List SO
noncomputable abbrev Ro := List (Option D)
noncomputable def SqF (K : PySem.W.Frag) (H : Hp) (a : Addr) (xs : List V) : Prop :=
  (∃ o, H a = some (.frz o (.lst xs))) ∨ ∃ (o : Obj) (its : Array Value) (n : Nat), K.lookup a = some o ∧ o.cls = .type "list" ∧ o.dict = none ∧ o.data = .seq its n ∧ its.size ≤ sizeLine ∧ ZO xs its.toList
theorem SqF.sq {K : PySem.W.Frag} {H : Hp} {a : Addr} {xs : List V} (h : SqF K H a xs) : SqL K H a xs := by
  rcases h with ⟨o, h⟩ | h
  · exact .inl (.inr ⟨o, h⟩)
  · exact .inr h
noncomputable def EOk (H : Hp) (p C : Addr) (xs : List V) : Prop := ∃ oe u vs, H p = some (.frz oe u) ∧ oe.cls = .ref C ∧ oe.data = .fields vs ∧ vs[2]? = some .none ∧ ((xs = [] ∧ oe.dict = none) ∨ ∃ dx fs, oe.dict = some dx ∧ H dx = some (.xd fs) ∧ fs.map (·.2) = xs)
mutual
inductive Rep (K : PySem.W.Frag) (H : Hp) (α : List Addr) : V → D → Prop where
  | non : Rep K H α .non .non
  | bl (b : Bool) : Rep K H α (.bl b) (.bl b)
  | int (i : Int) : Rep K H α (.int i) (.int i)
  | str (x : Str) : Rep K H α (.str x) (.str x)
  | tup {p : Addr} {xs : List V} {ds : List D} : SqT K H p xs → Reps K H α xs ds → Rep K H α (.ref p) (.tup ds)
  | rol {p : Addr} {xs : List V} {ds : List D} : SqF K H p xs → Reps K H α xs ds → Rep K H α (.ref p) (.rol ds)
  | ref {p : Addr} {n : Nat} : α[n]? = some p → Rep K H α (.ref p) (.ref n)
  | err {p C : Addr} {c : Str} {xs : List V} {ds : List D} : PySem.W.nsIn K mainGlobals c = some (some (.ref C)) → EOk H p C xs → Reps K H α xs ds → Rep K H α (.ref p) (.err c ds)
inductive Reps (K : PySem.W.Frag) (H : Hp) (α : List Addr) : List V → List D → Prop where
  | nil : Reps K H α [] []
  | cons {v : V} {d : D} {vs : List V} {ds : List D} : Rep K H α v d → Reps K H α vs ds → Reps K H α (v :: vs) (d :: ds)
end
structure Ext (K : PySem.W.Frag) (H H' : Hp) (α α' : List Addr) : Prop where
  tup : ∀ p xs, SqT K H p xs → SqT K H' p xs
  rol : ∀ p xs, SqF K H p xs → SqF K H' p xs
  err : ∀ p C xs, EOk H p C xs → EOk H' p C xs
  al : ∃ β, α' = α ++ β
section
variable {K : PySem.W.Frag} {H H1 H2 H' : Hp} {α α1 α2 α' : List Addr}
theorem Ext.refl : Ext K H H α α := ⟨fun _ _ h => h, fun _ _ h => h, fun _ _ _ h => h, [], (List.append_nil _).symm⟩
theorem Ext.trans (a : Ext K H H1 α α1) (b : Ext K H1 H2 α1 α2) : Ext K H H2 α α2 := by
  obtain ⟨b1, e1⟩ := a.al
  obtain ⟨b2, e2⟩ := b.al
  exact ⟨fun p xs h => b.tup p xs (a.tup p xs h), fun p xs h => b.rol p xs (a.rol p xs h), fun p C xs h => b.err p C xs (a.err p C xs h), b1 ++ b2, by rw [e2, e1, List.append_assoc]⟩
theorem Ext.get (e : Ext K H H' α α') {n : Nat} {p : Addr} (h : α[n]? = some p) : α'[n]? = some p := by
  obtain ⟨β, e1⟩ := e.al
  have hl : n < α.length := (List.getElem?_eq_some_iff.mp h).1
  rw [e1, List.getElem?_append_left hl]
  exact h
mutual
theorem Rep.mono (e : Ext K H H' α α') : ∀ {v : V} {d : D}, Rep K H α v d → Rep K H' α' v d
  | _, _, .non => .non
  | _, _, .bl b => .bl b
  | _, _, .int i => .int i
  | _, _, .str x => .str x
  | _, _, .tup h r => .tup (e.tup _ _ h) (Reps.mono e r)
  | _, _, .rol h r => .rol (e.rol _ _ h) (Reps.mono e r)
  | _, _, .ref h => .ref (e.get h)
  | _, _, .err n h r => .err n (e.err _ _ _ h) (Reps.mono e r)
theorem Reps.mono (e : Ext K H H' α α') : ∀ {vs : List V} {ds : List D}, Reps K H α vs ds → Reps K H' α' vs ds
  | _, _, .nil => .nil
  | _, _, .cons r t => .cons (Rep.mono e r) (Reps.mono e t)
end
theorem Reps.length : ∀ {vs : List V} {ds : List D}, Reps K H α vs ds → vs.length = ds.length
  | _, _, .nil => rfl
  | _, _, .cons _ t => by rw [List.length_cons, List.length_cons, Reps.length t]
theorem Reps.get : ∀ {vs : List V} {ds : List D} {i : Nat} {d : D}, Reps K H α vs ds → ds[i]? = some d → ∃ v, vs[i]? = some v ∧ Rep K H α v d
  | _, _, _, _, .nil, e => by simp at e
  | _, _, 0, _, .cons r _, e => by simp at e; subst e; exact ⟨_, rfl, r⟩
  | _, _, i + 1, d, .cons _ t, e => by
    obtain ⟨u, h1, h2⟩ := Reps.get (i := i) (d := d) t (by simpa using e)
    exact ⟨u, by simpa using h1, h2⟩
theorem Reps.set {v : V} {d : D} (r : Rep K H α v d) : ∀ {vs : List V} {ds : List D} (i : Nat), Reps K H α vs ds → Reps K H α (vs.set i v) (ds.set i d)
  | _, _, _, .nil => .nil
  | _, _, 0, .cons _ t => .cons r t
  | _, _, i + 1, .cons q t => .cons q (Reps.set r i t)
theorem Reps.append : ∀ {vs ws : List V} {ds es : List D}, Reps K H α vs ds → Reps K H α ws es → Reps K H α (vs ++ ws) (ds ++ es)
  | _, _, _, _, .nil, s => s
  | _, _, _, _, .cons r t, s => .cons r (Reps.append t s)
theorem Reps.ints : ∀ (ns : List Int), Reps K H α (ns.map V.int) (ns.map D.int)
  | [] => .nil
  | n :: r => .cons (.int n) (Reps.ints r)
theorem Zgb {p q : Addr} {xs : List V} {o : HO} (h : SqT K H q xs) (hp : ∀ u, H p = some u → (∀ ys, u ≠ .tup ys) ∧ ∀ ob w, u ≠ .frz ob w) : SqT K (upd H p o) q xs := by
  rcases h with (h | ⟨ob, h⟩) | h
  · refine .inl (.inl ?_)
    rw [ZG (fun e => (hp _ (e ▸ h)).1 _ rfl)]
    exact h
  · refine .inl (.inr ⟨ob, ?_⟩)
    rw [ZG (fun e => (hp _ (e ▸ h)).2 _ _ rfl)]
    exact h
  · exact .inr h
theorem Zgc {p q : Addr} {xs : List V} {o : HO} (h : SqF K H q xs) (hp : ∀ u, H p = some u → ∀ ob w, u ≠ .frz ob w) : SqF K (upd H p o) q xs := by
  rcases h with ⟨ob, h⟩ | h
  · refine .inl ⟨ob, ?_⟩
    rw [ZG (fun e => hp _ (e ▸ h) _ _ rfl)]
    exact h
  · exact .inr h
theorem Zgd {p q C : Addr} {xs : List V} {o : HO} (h : EOk H q C xs) (hp : ∀ u, H p = some u → (∀ ob w, u ≠ .frz ob w) ∧ ∀ fs, u ≠ .xd fs) : EOk (upd H p o) q C xs := by
  obtain ⟨oe, u, vs, h1, h2, h3, h4, h5⟩ := h
  refine ⟨oe, u, vs, ?_, h2, h3, h4, ?_⟩
  · rw [ZG (fun e => (hp _ (e ▸ h1)).1 _ _ rfl)]
    exact h1
  · rcases h5 with h5 | ⟨dx, fs, k1, k2, k3⟩
    · exact .inl h5
    · refine .inr ⟨dx, fs, k1, ?_, k3⟩
      rw [ZG (fun e => (hp _ (e ▸ k2)).2 _ rfl)]
      exact k2
theorem Ext.new {p : Addr} {o : HO} (h : H p = none) {β : List Addr} : Ext K H (upd H p o) α (α ++ β) :=
  ⟨fun q xs z => Zgb z (fun u e => (by rw [h] at e; cases e)), fun q xs z => Zgc z (fun u e => (by rw [h] at e; cases e)), fun q C xs z => Zgd z (fun u e => (by rw [h] at e; cases e)), β, rfl⟩
theorem Ext.new0 {p : Addr} {o : HO} (h : H p = none) : Ext K H (upd H p o) α α := by
  have e := Ext.new (K := K) (H := H) (α := α) (o := o) h (β := [])
  rw [List.append_nil] at e
  exact e
theorem Ext.wr {p : Addr} {o : HO} {xs : List V} (h : H p = some (.lst xs)) : Ext K H (upd H p o) α α :=
  ⟨fun q xs z => Zgb z (fun u e => (by rw [h] at e; cases e; exact ⟨fun ys z => (nomatch z), fun ob w z => (nomatch z)⟩)), fun q xs z => Zgc z (fun u e => (by rw [h] at e; cases e; exact fun ob w z => (nomatch z))), fun q C xs z => Zgd z (fun u e => (by rw [h] at e; cases e; exact ⟨fun ob w z => (nomatch z), fun fs z => (nomatch z)⟩)), [], (List.append_nil _).symm⟩
noncomputable def SOk (K : PySem.W.Frag) (H : Hp) (α : List Addr) (p : Addr) : SO → Prop
  | .lst ds => ∃ xs, H p = some (.lst xs) ∧ Reps K H α xs ds
structure HR (K : PySem.W.Frag) (H : Hp) (α : List Addr) (M : Sto) : Prop where
  len : α.length = M.length
  nd : α.Nodup
  ob : ∀ (n : Nat) (p : Addr) (o : SO), α[n]? = some p → M[n]? = some o → SOk K H α p o
theorem HR.nil : HR K H [] [] := ⟨rfl, List.nodup_nil, fun n p o h => by simp at h⟩
theorem HR.at (h : HR K H α M) {n : Nat} {p : Addr} {ds : List D} (e : α[n]? = some p) (m : M[n]? = some (.lst ds)) : ∃ xs, H p = some (.lst xs) ∧ Reps K H α xs ds := h.ob n p _ e m
theorem HR.some_at {M : Sto} (h : HR K H α M) {n : Nat} {p : Addr} (e : α[n]? = some p) : ∃ xs, H p = some (.lst xs) := by
  have hl : n < α.length := (List.getElem?_eq_some_iff.mp e).1
  have hm : n < M.length := by rw [← h.len]; exact hl
  have q := h.ob n p M[n] e (List.getElem?_eq_getElem hm)
  cases r : M[n] with
  | lst ds =>
    rw [r] at q
    obtain ⟨xs, q, _⟩ := q
    exact ⟨xs, q⟩
theorem HR.tup {M : Sto} {p : Addr} {o : HO} (h : HR K H α M) (hp : H p = none) : HR K (upd H p o) α M :=
  ⟨h.len, h.nd, fun n q so e m => by
    cases so with
    | lst ds =>
      obtain ⟨xs, h1, h2⟩ := h.ob n q _ e m
      exact ⟨xs, by rw [ZG (ZZ h1 hp)]; exact h1, Reps.mono (Ext.new0 hp) h2⟩⟩
theorem HR.new {M : Sto} {p : Addr} {xs : List V} {ds : List D} (h : HR K H α M) (hp : H p = none) (r : Reps K H α xs ds) : HR K (upd H p (.lst xs)) (α ++ [p]) (M ++ [.lst ds]) := by
  have ex : Ext K H (upd H p (.lst xs)) α (α ++ [p]) := Ext.new hp
  refine ⟨by rw [List.length_append, List.length_append, h.len]; rfl, ?_, fun n q so e m => ?_⟩
  · refine List.nodup_append.mpr ⟨h.nd, by simp, fun a ha b hb => ?_⟩
    have hb' : b = p := by simpa using hb
    obtain ⟨n, hn, e⟩ := List.getElem_of_mem ha
    obtain ⟨xs, z⟩ := h.some_at (n := n) (p := a) (by rw [List.getElem?_eq_getElem hn, e])
    rw [hb']
    exact ZZ z hp
  · by_cases hn : n < α.length
    · rw [List.getElem?_append_left hn] at e
      rw [List.getElem?_append_left (by rw [← h.len]; exact hn)] at m
      cases so with
      | lst es =>
        obtain ⟨ys, h1, h2⟩ := h.ob n q _ e m
        exact ⟨ys, by rw [ZG (ZZ h1 hp)]; exact h1, Reps.mono ex h2⟩
    · have en : n = α.length := by
        have : n < (α ++ [p]).length := (List.getElem?_eq_some_iff.mp e).1
        rw [List.length_append, List.length_singleton] at this
        omega
      subst en
      rw [List.getElem?_append_right (Nat.le_refl _), Nat.sub_self] at e
      rw [h.len, List.getElem?_append_right (Nat.le_refl _), Nat.sub_self] at m
      cases e
      cases m
      exact ⟨xs, Zal, Reps.mono ex r⟩
theorem ZhE {n m : Nat} {p : Addr} (h : α.Nodup) (a : α[n]? = some p) (b : α[m]? = some p) : n = m := by
  obtain ⟨h1, e1⟩ := List.getElem?_eq_some_iff.mp a
  obtain ⟨h2, e2⟩ := List.getElem?_eq_some_iff.mp b
  exact (List.getElem_inj h).mp (e1.trans e2.symm)
theorem HR.wr {M : Sto} {n : Nat} {p : Addr} {xs ys : List V} {ds : List D} (h : HR K H α M) (e : α[n]? = some p) (hp : H p = some (.lst ys)) (r : Reps K H α xs ds) : HR K (upd H p (.lst xs)) α (M.set n (.lst ds)) := by
  have ex : Ext K H (upd H p (.lst xs)) α α := Ext.wr hp
  have hn : n < M.length := by rw [← h.len]; exact (List.getElem?_eq_some_iff.mp e).1
  refine ⟨by rw [List.length_set]; exact h.len, h.nd, fun k q so e' m => ?_⟩
  by_cases hk : k = n
  · subst hk
    rw [e] at e'
    cases e'
    rw [List.getElem?_set_self hn] at m
    cases m
    exact ⟨xs, Zal, Reps.mono ex r⟩
  · rw [List.getElem?_set_ne (Ne.symm hk)] at m
    cases so with
    | lst es =>
      obtain ⟨zs, h1, h2⟩ := h.ob k q _ e' m
      have hq : q ≠ p := fun z => hk (ZhE h.nd (z ▸ e') e)
      exact ⟨zs, by rw [ZG hq]; exact h1, Reps.mono ex h2⟩
end
inductive Out (β : Type) where
  | ok (a : β) (M : Sto)
  | exc (c : Str) (M : Sto)
  | bad
noncomputable def Out.bind {β γ : Type} (o : Out β) (f : β → Sto → Out γ) : Out γ := match o with
  | .ok a M => f a M
  | .exc c M => .exc c M
  | .bad => .bad
inductive Fl where
  | nx (ρ : Ro) (M : Sto)
  | ret (d : D) (M : Sto)
  | brk (ρ : Ro) (M : Sto)
  | cnt (ρ : Ro) (M : Sto)
  | exc (c : Str) (M : Sto)
  | bad
noncomputable def OG {β γ : Type} (K : PySem.W.Frag) (R : Hp → List Addr → γ → β → Prop) (H : Hp) (α : List Addr) (ξ : XK) (Q : γ → Hp → Prop) : Out β → Prop
  | .ok d M' => ∀ v H' α', Ext K H H' α α' → HR K H' α' M' → R H' α' v d → Q v H'
  | .exc c M' => ∀ C H' α', PySem.W.nsIn K mainGlobals c = some (some (.ref C)) → Ext K H H' α α' → HR K H' α' M' → ξ (.ref C) none H'
  | .bad => False
theorem OG.ext {β γ : Type} {K : PySem.W.Frag} {R : Hp → List Addr → γ → β → Prop} {H H1 : Hp} {α α1 : List Addr} {ξ : XK} {Q : γ → Hp → Prop} {o : Out β} (h : OG K R H α ξ Q o) (e : Ext K H H1 α α1) : OG K R H1 α1 ξ Q o := by
  cases o with
  | ok d M' => exact fun v H' α' e' => h v H' α' (e.trans e')
  | exc c M' => exact fun C H' α' n e' => h C H' α' n (e.trans e')
  | bad => exact h
noncomputable abbrev OP (K : PySem.W.Frag) := OG K (Rep K)
noncomputable abbrev OT (K : PySem.W.Frag) := OG (β := Bool) (γ := Bool) K (fun _ _ v d => v = d)
noncomputable abbrev OA (K : PySem.W.Frag) := OG K (Reps K)
noncomputable def SR (K : PySem.W.Frag) (H : Hp) (α : List Addr) (σ : L2.St) (ρ : Ro) : Prop := σ.length = ρ.length ∧ ∀ (i : Nat) (d : D), ρ[i]? = some (some d) → ∃ v, σ[i]? = some (some v) ∧ Rep K H α v d
theorem SR.mono {K : PySem.W.Frag} {H H' : Hp} {α α' : List Addr} {σ : L2.St} {ρ : Ro} (h : SR K H α σ ρ) (e : Ext K H H' α α') : SR K H' α' σ ρ :=
  ⟨h.1, fun i d q => let ⟨v, a, b⟩ := h.2 i d q; ⟨v, a, Rep.mono e b⟩⟩
theorem SR.set {K : PySem.W.Frag} {H : Hp} {α : List Addr} {σ : L2.St} {ρ : Ro} {v : V} {d : D} (h : SR K H α σ ρ) (i : Nat) (r : Rep K H α v d) : SR K H α (σ.set i (some v)) (ρ.set i (some d)) := by
  refine ⟨by rw [List.length_set, List.length_set]; exact h.1, fun j e q => ?_⟩
  by_cases hj : j = i
  · subst hj
    have hl : j < ρ.length := by
      have := (List.getElem?_eq_some_iff.mp q).1
      rw [List.length_set] at this
      exact this
    rw [List.getElem?_set_self hl] at q
    cases q
    exact ⟨v, by rw [List.getElem?_set_self (by rw [h.1]; exact hl)], r⟩
  · rw [List.getElem?_set_ne (Ne.symm hj)] at q
    rw [List.getElem?_set_ne (Ne.symm hj)]
    exact h.2 j e q
noncomputable abbrev Ev := Ro → Sto → Out D
noncomputable abbrev Tv := Ro → Sto → Out Bool
noncomputable abbrev Av := Ro → Sto → Out (List D)
noncomputable abbrev Sv := Ro → Sto → Fl
noncomputable def DE (X : Cx) (ξ : XK) (e : Expr) (f : Ev) : Prop := ∃ t : TE, PE X e t ∧ ∀ σ ρ H α M Q, SR X.K H α σ ρ → HR X.K H α M → OP X.K H α ξ Q (f ρ M) → t σ H Q
noncomputable def DT (X : Cx) (ξ : XK) (e : Expr) (f : Tv) : Prop := ∃ t : TT, PT X e t ∧ ∀ σ ρ H α M Q, SR X.K H α σ ρ → HR X.K H α M → OT X.K H α ξ Q (f ρ M) → t σ H Q
noncomputable def DW (X : Cx) (ξ : XK) (e : Expr) (f : Tv) : Prop := ∃ t : TT, PW X e t ∧ ∀ σ ρ H α M Q, SR X.K H α σ ρ → HR X.K H α M → OT X.K H α ξ Q (f ρ M) → t σ H Q
noncomputable def DA (X : Cx) (ξ : XK) (es : List Expr) (f : Av) : Prop := ∃ t : TA, PA X es t ∧ ∀ σ ρ H α M Q, SR X.K H α σ ρ → HR X.K H α M → OA X.K H α ξ Q (f ρ M) → t σ H Q
theorem OG.seq {β γ β' γ' : Type} {K : PySem.W.Frag} {R : Hp → List Addr → γ → β → Prop} {R' : Hp → List Addr → γ' → β' → Prop} {H : Hp} {α : List Addr} {ξ : XK} {Q : γ' → Hp → Prop} {Q1 : γ → Hp → Prop} {o : Out β} {f : β → Sto → Out β'}
    (h : OG K R' H α ξ Q (o.bind f)) (k : ∀ d M' v H' α', Ext K H H' α α' → HR K H' α' M' → R H' α' v d → OG K R' H' α' ξ Q (f d M') → Q1 v H') : OG K R H α ξ Q1 o := by
  cases o with
  | ok d M' => exact fun v H' α' e hr r => k d M' v H' α' e hr r (OG.ext (o := f d M') h e)
  | exc c M' => exact h
  | bad => exact h
section
variable {X : Cx} {ξ : XK} {a b e : Expr} {fa fb : Ev} {pos : Pos}
noncomputable def Zd (i : Nat) : Ev := fun ρ M => match ρ[i]? with | some (some d) => .ok d M | _ => .bad
noncomputable def eC (d : D) : Ev := fun _ M => .ok d M
theorem Zc (i : Nat) {x : Str} (hN : X.N[i]? = some x := by rfl) (hv : Vis X.env.scope x := by first | exact Or.inl rfl | exact Or.inr (Or.inl rfl) | exact Or.inr (Or.inr rfl)) (hd : (x == ("__debug__" : Str)) = false := by decide)
    (hcd : (x == ("__classdict__" : Str)) = false := by decide) : DE X ξ (.Name x pos) (Zd i) := by
  refine ⟨_, ZkL hN hv hd hcd, fun σ ρ H α M Q s h q => ?_⟩
  unfold Zd at q
  cases e : ρ[i]? with
  | none => rw [e] at q; exact q.elim
  | some o =>
    cases o with
    | none => rw [e] at q; exact q.elim
    | some d =>
      rw [e] at q
      obtain ⟨v, h1, h2⟩ := s.2 i d e
      exact ⟨v, h1, q v H α Ext.refl h h2⟩
theorem Ze {i : Int} {j pos} : DE X ξ (.Constant (.int i) j pos) (eC (.int i)) := ⟨_, ZkM, fun _ _ H α M _ _ h q => q _ H α Ext.refl h (.int i)⟩
theorem Zjr {i : Bool} {j pos} : DE X ξ (.Constant (.bool i) j pos) (eC (.bl i)) := ⟨_, ZnH, fun _ _ H α M _ _ h q => q _ H α Ext.refl h (.bl i)⟩
theorem Zix {j pos} : DE X ξ (.Constant .none j pos) (eC .non) := ⟨_, ZkN, fun _ _ H α M _ _ h q => q _ H α Ext.refl h .non⟩
theorem ZeT {x : Str} {j pos} : DE X ξ (.Constant (.str x) j pos) (eC (.str x)) := ⟨_, ZkO, fun _ _ H α M _ _ h q => q _ H α Ext.refl h (.str x)⟩
noncomputable abbrev Bo := D → D → Sto → Out D
noncomputable def e2 (f : Bo) (fa fb : Ev) : Ev := fun ρ M => (fa ρ M).bind fun x M1 => (fb ρ M1).bind fun y M2 => f x y M2
noncomputable def BO (X : Cx) (ξ : XK) (r : R2) (f : Bo) : Prop := ∀ H α M v w x y Q, HR X.K H α M → Rep X.K H α v x → Rep X.K H α w y → OP X.K H α ξ Q (f x y M) → r v w H Q
theorem two {r : R2} {f : Bo} (hb : BO X ξ r f) {ta tb : TE} (qa : ∀ σ ρ H α M Q, SR X.K H α σ ρ → HR X.K H α M → OP X.K H α ξ Q (fa ρ M) → ta σ H Q)
    (qb : ∀ σ ρ H α M Q, SR X.K H α σ ρ → HR X.K H α M → OP X.K H α ξ Q (fb ρ M) → tb σ H Q) : ∀ σ ρ H α M Q, SR X.K H α σ ρ → HR X.K H α M → OP X.K H α ξ Q (e2 f fa fb ρ M) → tOp r ta tb σ H Q := by
  intro σ ρ H α M Q s h q
  refine qa σ ρ H α M _ s h (OG.seq q fun x M1 v H1 α1 e1 h1 r1 q1 => ?_)
  refine qb σ ρ H1 α1 M1 _ (s.mono e1) h1 (OG.seq q1 fun y M2 w H2 α2 e2 h2 r2 q2 => ?_)
  exact hb H2 α2 M2 v w x y Q h2 (Rep.mono e2 r1) r2 q2
theorem Zfq {op : Operator} {r : R2} {f : Bo} (ho : OpR X (binaryOp op) r) (hf : BO X ξ r f) (ha : DE X ξ a fa) (hb : DE X ξ b fb) : DE X ξ (.BinOp a op b pos) (e2 f fa fb) := by
  obtain ⟨ta, ha, qa⟩ := ha
  obtain ⟨tb, hb, qb⟩ := hb
  exact ⟨_, ZnQ ho ha hb, two hf qa qb⟩
theorem ZcG {op : CmpOp} {r : R2} {f : Bo} (ho : OpR X (compareOp op) r) (hf : BO X ξ r f) (ha : DE X ξ a fa) (hb : DE X ξ b fb) (hm : behindInMarks op b = false := by first | exact Zis _ | with_unfolding_all rfl) : DE X ξ (.Compare a [op] [b] pos) (e2 f fa fb) := by
  obtain ⟨ta, ha, qa⟩ := ha
  obtain ⟨tb, hb, qb⟩ := hb
  exact ⟨_, Zjf ho ha hb hm, two hf qa qb⟩
noncomputable def tv (f : Ev) : Tv := fun ρ M => (f ρ M).bind fun x M1 => match x with | .bl k => .ok k M1 | _ => .bad
theorem Zlf {t : TE} {f : Ev} (qa : ∀ σ ρ H α M Q, SR X.K H α σ ρ → HR X.K H α M → OP X.K H α ξ Q (f ρ M) → t σ H Q) : ∀ σ ρ H α M Q, SR X.K H α σ ρ → HR X.K H α M → OT X.K H α ξ Q (tv f ρ M) → Zk5 t σ H Q := by
  intro σ ρ H α M Q s h q
  refine qa σ ρ H α M _ s h (OG.seq q fun x M1 v H1 α1 e1 h1 r1 q1 => ?_)
  cases r1 with
  | bl k => exact ⟨k, rfl, q1 k H1 α1 Ext.refl h1 rfl⟩
  | _ => exact q1.elim
theorem Zaa {op : CmpOp} {r : R2} {f : Bo} (ho : OpR X (compareOp op) r) (hf : BO X ξ r f) (ha : DE X ξ a fa) (hb : DE X ξ b fb) (hm : behindInMarks op b = false := by first | exact Zis _ | with_unfolding_all rfl) : DT X ξ (.Compare a [op] [b] pos) (tv (e2 f fa fb)) := by
  obtain ⟨ta, ha, qa⟩ := ha
  obtain ⟨tb, hb, qb⟩ := hb
  exact ⟨_, Zjg ho ha hb hm, Zlf (two hf qa qb)⟩
theorem ZeU (h : DE X ξ e fa) (he : ∀ whole, isTrue e X.env whole = (do let v ← whole; standAt e.pos; holding [v] (truthy v)) := by intro _; rfl) : DT X ξ e (tv fa) := by
  obtain ⟨ta, ha, qa⟩ := h
  exact ⟨_, ZkP ha he, Zlf qa⟩
variable {ga gb : Tv} {Zdv : List Expr}
noncomputable def Zfr (f g : Tv) : Tv := fun ρ M => (f ρ M).bind fun k M1 => if k = true then g ρ M1 else .ok false M1
noncomputable def ZfG (f g : Tv) : Tv := fun ρ M => (f ρ M).bind fun k M1 => if k = true then .ok true M1 else g ρ M1
noncomputable def ZbV (f : Tv) : Tv := fun ρ M => (f ρ M).bind fun k M1 => .ok (!k) M1
theorem Zjs (ha : DT X ξ a ga) : DW X ξ (.BoolOp .And [a] pos) ga := let ⟨_, h, q⟩ := ha; ⟨_, pw_and1 h, q⟩
theorem Ziy (ha : DT X ξ a ga) : DW X ξ (.BoolOp .Or [a] pos) ga := let ⟨_, h, q⟩ := ha; ⟨_, pw_or1 h, q⟩
theorem Zlg (ha : DT X ξ a ga) (hb : DW X ξ (.BoolOp .And (b :: Zdv) pos) gb) : DW X ξ (.BoolOp .And (a :: b :: Zdv) pos) (Zfr ga gb) := by
  obtain ⟨ta, ha, qa⟩ := ha
  obtain ⟨tb, hb, qb⟩ := hb
  refine ⟨_, pw_and ha hb, fun σ ρ H α M Q s h q => ?_⟩
  refine qa σ ρ H α M _ s h (OG.seq q fun k M1 v H1 α1 e1 h1 r1 q1 => ?_)
  cases r1
  cases k with
  | true => exact Ziw (qb σ ρ H1 α1 M1 Q (s.mono e1) h1 q1)
  | false => exact Ziv (q1 false H1 α1 Ext.refl h1 rfl)
theorem ZhF (ha : DT X ξ a ga) (hb : DW X ξ (.BoolOp .Or (b :: Zdv) pos) gb) : DW X ξ (.BoolOp .Or (a :: b :: Zdv) pos) (ZfG ga gb) := by
  obtain ⟨ta, ha, qa⟩ := ha
  obtain ⟨tb, hb, qb⟩ := hb
  refine ⟨_, pw_or ha hb, fun σ ρ H α M Q s h q => ?_⟩
  refine qa σ ρ H α M _ s h (OG.seq q fun k M1 v H1 α1 e1 h1 r1 q1 => ?_)
  cases r1
  cases k with
  | true => exact Ziw (q1 true H1 α1 Ext.refl h1 rfl)
  | false => exact Ziv (qb σ ρ H1 α1 M1 Q (s.mono e1) h1 q1)
theorem ZnZ (h : DW X ξ e ga) : DT X ξ e ga := let ⟨_, h, q⟩ := h; ⟨_, h.pt, q⟩
theorem Zge (ha : DT X ξ a ga) : DT X ξ (.UnaryOp .Not a pos) (ZbV ga) := by
  obtain ⟨ta, ha, qa⟩ := ha
  refine ⟨_, ZkQ ha, fun σ ρ H α M Q s h q => ?_⟩
  refine qa σ ρ H α M _ s h (OG.seq q fun k M1 v H1 α1 e1 h1 r1 q1 => ?_)
  cases r1
  exact q1 (!k) H1 α1 Ext.refl h1 rfl
noncomputable def ZdG (f g : Ev) : Ev := fun ρ M => (f ρ M).bind fun x M1 => match x with | .bl k => if k = true then g ρ M1 else .ok (.bl false) M1 | _ => .bad
noncomputable def Zn0 (f g : Ev) : Ev := fun ρ M => (f ρ M).bind fun x M1 => match x with | .bl k => if k = true then .ok (.bl true) M1 else g ρ M1 | _ => .bad
noncomputable def Zek (f : Ev) : Ev := fun ρ M => (f ρ M).bind fun x M1 => match x with | .bl k => .ok (.bl (!k)) M1 | _ => .bad
theorem Zlh {op} (ha : DE X ξ a fa) : DE X ξ (.BoolOp op [a] pos) fa := let ⟨_, h, q⟩ := ha; ⟨_, ZkR h, q⟩
theorem Zli (ha : DE X ξ a fa) (hb : DE X ξ (.BoolOp .And (b :: Zdv) pos) fb) : DE X ξ (.BoolOp .And (a :: b :: Zdv) pos) (ZdG fa fb) := by
  obtain ⟨ta, ha, qa⟩ := ha
  obtain ⟨tb, hb, qb⟩ := hb
  refine ⟨_, ZkS ha hb, fun σ ρ H α M Q s h q => ?_⟩
  refine qa σ ρ H α M _ s h (OG.seq q fun x M1 v H1 α1 e1 h1 r1 q1 => ?_)
  cases r1 with
  | bl k =>
    refine ⟨k, rfl, ?_⟩
    cases k with
    | true => exact Ziw (qb σ ρ H1 α1 M1 Q (s.mono e1) h1 q1)
    | false => exact Ziv (q1 _ H1 α1 Ext.refl h1 (.bl false))
  | _ => exact q1.elim
theorem Zlj (ha : DE X ξ a fa) : DE X ξ (.UnaryOp .Not a pos) (Zek fa) := by
  obtain ⟨ta, ha, qa⟩ := ha
  refine ⟨_, ZkT ha, fun σ ρ H α M Q s h q => ?_⟩
  refine qa σ ρ H α M _ s h (OG.seq q fun x M1 v H1 α1 e1 h1 r1 q1 => ?_)
  cases r1 with
  | bl k => exact ⟨k, rfl, q1 _ H1 α1 Ext.refl h1 (.bl (!k))⟩
  | _ => exact q1.elim
noncomputable def eIf (c : Tv) (f g : Ev) : Ev := fun ρ M => (c ρ M).bind fun k M1 => if k = true then f ρ M1 else g ρ M1
variable {es : List Expr} {fs : Av}
noncomputable def aNil : Av := fun _ M => .ok [] M
noncomputable def Za (f : Ev) (g : Av) : Av := fun ρ M => (f ρ M).bind fun x M1 => (g ρ M1).bind fun xs M2 => .ok (x :: xs) M2
theorem Zf : DA X ξ [] aNil := ⟨_, Zit, fun _ _ H α M _ _ h q => q _ H α Ext.refl h .nil⟩
theorem Zb (ha : DE X ξ e fa) (hr : DA X ξ es fs) (hs : starEach (e :: es) X.env = (false, eval e X.env) :: starEach es X.env := by rfl) : DA X ξ (e :: es) (Za fa fs) := by
  obtain ⟨ta, ha, qa⟩ := ha
  obtain ⟨tb, hb, qb⟩ := hr
  refine ⟨_, Zeh ha hb hs, fun σ ρ H α M Q s h q => ?_⟩
  refine qa σ ρ H α M _ s h (OG.seq q fun x M1 v H1 α1 e1 h1 r1 q1 => ?_)
  refine qb σ ρ H1 α1 M1 _ (s.mono e1) h1 (OG.seq q1 fun y M2 w H2 α2 e2 h2 r2 q2 => ?_)
  exact q2 _ H2 α2 Ext.refl h2 (.cons (Rep.mono e2 r1) r2)
noncomputable def Zav (f : Av) : Ev := fun ρ M => (f ρ M).bind fun xs M1 => if xs.length ≤ 1000 then .ok (.tup xs) M1 else .bad
noncomputable def Za5 (f : Av) : Ev := fun ρ M => (f ρ M).bind fun xs M1 => if xs.length ≤ 1000 then .ok (.ref M1.length) (M1 ++ [.lst xs]) else .bad
theorem small {n : Nat} (h : n ≤ 1000) : n ≤ sizeLine := Nat.le_of_lt (Zf8 h)
theorem ZU {x1} (ha : DA X ξ es fs) : DE X ξ (.Tuple es x1 pos) (Zav fs) := by
  obtain ⟨ta, ha, qa⟩ := ha
  refine ⟨_, Zk6 ha, fun σ ρ H α M Q s h q => ?_⟩
  refine qa σ ρ H α M _ s h (OG.seq q fun xs M1 vs H1 α1 e1 h1 r1 q1 => ?_)
  by_cases hl : xs.length ≤ 1000
  · rw [if_pos hl] at q1
    refine ⟨by rw [r1.length]; exact small hl, fun p hp => q1 _ _ α1 (Ext.new0 hp) (h1.tup hp) (.tup (.inl (.inl Zal)) (Reps.mono (Ext.new0 hp) r1))⟩
  · rw [if_neg hl] at q1
    exact q1.elim
theorem HR.last {K : PySem.W.Frag} {H : Hp} {α : List Addr} {M : Sto} (h : HR K H α M) (p : Addr) : (α ++ [p])[M.length]? = some p := by
  rw [← h.len, List.getElem?_append_right (Nat.le_refl _), Nat.sub_self]
  rfl
theorem ZaE (ha : DA X ξ es fs) : DE X ξ (.List es pos) (Za5 fs) := by
  obtain ⟨ta, ha, qa⟩ := ha
  refine ⟨_, Zk7 ha, fun σ ρ H α M Q s h q => ?_⟩
  refine qa σ ρ H α M _ s h (OG.seq q fun xs M1 vs H1 α1 e1 h1 r1 q1 => ?_)
  by_cases hl : xs.length ≤ 1000
  · rw [if_pos hl] at q1
    refine ⟨by rw [r1.length]; exact small hl, fun p hp => q1 _ _ (α1 ++ [p]) (Ext.new hp) (h1.new hp r1) (.ref (h1.last p))⟩
  · rw [if_neg hl] at q1
    exact q1.elim
end
end DL
end
section
set_option Elab.async false
set_option linter.all false
set_option maxRecDepth 100000
set_option maxHeartbeats 4000000
namespace DL
open PySem PySem.Spec PyProof.Rows L2
open PySem.SeqAt (EqAt RcAt RcNeAt)
noncomputable def Zv (i j : Int) : Prop := Builtin.Int.intBits i ≤ 64 ∨ Builtin.Int.intBits j ≤ 64 ∨ (Builtin.Int.intBits i ≤ 60000000 ∧ Builtin.Int.intBits j ≤ 60000000)
instance (i j : Int) : Decidable (Zv i j) := by unfold Zv; infer_instance
theorem Zv.ok {i j : Int} (h : Zv i j) : IntMulOk i j := by
  rcases h with h | h | ⟨h1, h2⟩
  · exact .of_left h
  · exact .of_right h
  · exact .of_le h1 h2 (by decide)
theorem ZH {i j : Int} (m n : Nat) (h1 : i.natAbs < 2 ^ m) (h2 : j.natAbs < 2 ^ n) (hm : m ≤ 60000000 := by decide) (hn : n ≤ 60000000 := by decide) : Zv i j :=
  .inr (.inr ⟨Nat.le_trans (intBits_le_iff.mpr h1) hm, Nat.le_trans (intBits_le_iff.mpr h2) hn⟩)
noncomputable def ZaM (j : Int) : Prop := j ≠ 0 ∧ j.natAbs.log2 < 9000
instance (j : Int) : Decidable (ZaM j) := by unfold ZaM; infer_instance
section
variable {X : Cx}
theorem Zjt : OpR X (binaryOp .Mult) (rI Zv fun i j => .int (i * j)) := opI fun _ _ _ _ _ _ _ hc q => mul_int q hc.ok
theorem ZhG : OpR X (binaryOp .FloorDiv) (rI (fun _ j => ZaM j) fun i j => .int (i.fdiv j)) := opI fun _ _ _ _ _ _ _ hc q => floordiv_int hc.1 q (.inl (PyProof.noPylong_of_log2 hc.2))
end
noncomputable def dAdd : Bo := fun x y M => match x, y with
  | .int i, .int j => .ok (.int (i + j)) M
  | .str i, .str j => if i.length + j.length ≤ 100000 then .ok (.str (i ++ j)) M else .bad
  | .ref n, .ref m => match M[n]?, M[m]? with
    | some (.lst xs), some (.lst ys) => if xs.length + ys.length ≤ 10000000 then .ok (.ref M.length) (M ++ [.lst (xs ++ ys)]) else .bad
    | _, _ => .bad
  | .tup xs, .tup ys => if xs.length + ys.length ≤ 100000 ∧ xs ≠ [] then .ok (.tup (xs ++ ys)) M else .bad
  | _, _ => .bad
noncomputable def dSub : Bo := fun x y M => match x, y with | .int i, .int j => .ok (.int (i - j)) M | _, _ => .bad
noncomputable def dMul : Bo := fun x y M => match x, y with | .int i, .int j => if Zv i j then .ok (.int (i * j)) M else .bad | _, _ => .bad
noncomputable def dDiv : Bo := fun x y M => match x, y with | .int i, .int j => if ZaM j then .ok (.int (i.fdiv j)) M else .bad | _, _ => .bad
noncomputable def dMod : Bo := fun x y M => match x, y with | .int i, .int j => if j ≠ 0 then .ok (.int (i.fmod j)) M else .bad | _, _ => .bad
noncomputable def dPow : Bo := fun x y M => match x, y with | .int i, .int j => if 0 ≤ j ∧ j ≤ 1000000 ∧ i.natAbs < 2 ^ 64 then .ok (.int (i ^ j.toNat)) M else .bad | _, _ => .bad
noncomputable def dLt : Bo := fun x y M => match x, y with | .int i, .int j => .ok (.bl (decide (i < j))) M | _, _ => .bad
noncomputable def dLe : Bo := fun x y M => match x, y with | .int i, .int j => .ok (.bl (decide (i ≤ j))) M | _, _ => .bad
noncomputable def dGt : Bo := fun x y M => match x, y with | .int i, .int j => .ok (.bl (decide (j < i))) M | _, _ => .bad
noncomputable def dGe : Bo := fun x y M => match x, y with | .int i, .int j => .ok (.bl (decide (j ≤ i))) M | _, _ => .bad
theorem Zlk {n : Nat} (h : n ≤ 100000) : n ≤ sizeLine := Nat.le_trans h (by decide)
section
variable {X : Cx} {ξ : XK}
theorem Zb2 {r : R2} {f : Bo} {C : Int → Int → Prop} [∀ i j, Decidable (C i j)] {g : Int → Int → D} {gV : Int → Int → V} (hg : ∀ H α i j, Rep X.K H α (gV i j) (g i j))
    (hf : ∀ x y M, f x y M = match x, y with | .int i, .int j => if C i j then .ok (g i j) M else .bad | _, _ => .bad) (hr : ∀ i j H Q, C i j → Q (gV i j) H → r (.int i) (.int j) H Q) : BO X ξ r f := by
  intro H α M v w x y Q h rv rw' q
  rw [hf] at q
  cases rv <;> first | exact q.elim | skip
  cases rw' <;> first | exact q.elim | skip
  rename_i i j
  by_cases c : C i j
  · simp only [if_pos c] at q
    exact hr i j H Q c (q _ H α Ext.refl h (hg H α i j))
  · simp only [if_neg c] at q
    exact q.elim
theorem Zll : BO X ξ (rI0 fun i j => .int (i - j)) dSub := Zb2 (C := fun _ _ => True) (fun _ _ i j => .int (i - j)) (fun x y M => by cases x <;> cases y <;> simp [dSub]) fun i j H Q _ q => ⟨i, j, rfl, rfl, q⟩
theorem Zlm : BO X ξ (rI Zv fun i j => .int (i * j)) dMul := Zb2 (C := Zv) (fun _ _ i j => .int (i * j)) (fun x y M => by cases x <;> cases y <;> rfl) fun i j H Q c q => ⟨i, j, rfl, rfl, c, q⟩
theorem Zln : BO X ξ (rI (fun _ j => ZaM j) fun i j => .int (i.fdiv j)) dDiv := Zb2 (C := fun _ j => ZaM j) (fun _ _ i j => .int (i.fdiv j)) (fun x y M => by cases x <;> cases y <;> rfl) fun i j H Q c q => ⟨i, j, rfl, rfl, c, q⟩
theorem Zlo : BO X ξ (rI (fun _ j => j ≠ 0) fun i j => .int (i.fmod j)) dMod := Zb2 (C := fun _ j => j ≠ 0) (fun _ _ i j => .int (i.fmod j)) (fun x y M => by cases x <;> cases y <;> rfl) fun i j H Q c q => ⟨i, j, rfl, rfl, c, q⟩
theorem Zlp : BO X ξ (rI ZpL fun i j => .int (i ^ j.toNat)) dPow := Zb2 (C := fun i j => 0 ≤ j ∧ j ≤ 1000000 ∧ i.natAbs < 2 ^ 64) (fun _ _ i j => .int (i ^ j.toNat)) (fun x y M => by cases x <;> cases y <;> rfl) fun i j H Q c q => ⟨i, j, rfl, rfl, c, q⟩
theorem Zel : BO X ξ (rI0 fun i j => .bl (decide (i < j))) dLt := Zb2 (C := fun _ _ => True) (fun _ _ i j => .bl _) (fun x y M => by cases x <;> cases y <;> simp [dLt]) fun i j H Q _ q => ⟨i, j, rfl, rfl, q⟩
theorem ZhH : BO X ξ (rI0 fun i j => .bl (decide (j < i))) dGt := Zb2 (C := fun _ _ => True) (fun _ _ i j => .bl _) (fun x y M => by cases x <;> cases y <;> simp [dGt]) fun i j H Q _ q => ⟨i, j, rfl, rfl, q⟩
theorem Zn1 : BO X ξ (rI0 fun i j => .bl (decide (j ≤ i))) dGe := Zb2 (C := fun _ _ => True) (fun _ _ i j => .bl _) (fun x y M => by cases x <;> cases y <;> simp [dGe]) fun i j H Q _ q => ⟨i, j, rfl, rfl, q⟩
theorem Zju : OpR X (binaryOp .Add) (fun x y H Q => (rI0 (fun i j => .int (i + j)) x y H Q ∨ (∃ i j, x = .str i ∧ y = .str j ∧ i.length + j.length ≤ sizeLine ∧ Q (.str (i ++ j)) H)) ∨ (rCat x y H Q ∨ Zjl X.K x y H Q)) :=
  OpR.or (OpR.or Zk1 Zfk) (OpR.or Zle Zjm)
theorem Zlq : BO X ξ (fun x y H Q => (rI0 (fun i j => .int (i + j)) x y H Q ∨ (∃ i j, x = .str i ∧ y = .str j ∧ i.length + j.length ≤ sizeLine ∧ Q (.str (i ++ j)) H)) ∨ (rCat x y H Q ∨ Zjl X.K x y H Q)) dAdd := by
  intro H α M v w x y Q h rv rw' q
  cases rv with
  | int i =>
    cases rw' with
    | int j => exact .inl (.inl ⟨i, j, rfl, rfl, q _ H α Ext.refl h (.int (i + j))⟩)
    | _ => exact q.elim
  | str i =>
    cases rw' with
    | str j =>
      by_cases c : i.length + j.length ≤ 100000
      · simp only [dAdd, if_pos c] at q
        exact .inl (.inr ⟨i, j, rfl, rfl, Zlk c, q _ H α Ext.refl h (.str _)⟩)
      · simp only [dAdd, if_neg c] at q
        exact q.elim
    | _ => exact q.elim
  | @tup p xs ds hp rp =>
    cases rw' with
    | @tup p2 xs2 ds2 hp2 rp2 =>
      by_cases c : ds.length + ds2.length ≤ 100000 ∧ ds ≠ []
      · simp only [dAdd, if_pos c] at q
        have nx : xs ≠ [] := fun z => c.2 (by have := rp.length; rw [z] at this; exact List.eq_nil_of_length_eq_zero this.symm)
        refine .inr (.inr ⟨p, p2, xs, xs2, rfl, rfl, hp, hp2, nx, by rw [rp.length, rp2.length]; exact Zlk c.1, fun z => ?_, fun _ l hl => ?_⟩)
        · subst z
          cases rp2
          rw [List.append_nil] at q
          exact q _ H α Ext.refl h (.tup hp rp)
        · exact q _ _ α (Ext.new0 hl) (h.tup hl) (.tup (.inl (.inl Zal)) (Reps.mono (Ext.new0 hl) (rp.append rp2)))
      · simp only [dAdd, if_neg c] at q
        exact q.elim
    | _ => exact q.elim
  | @ref p n hp =>
    cases rw' with
    | @ref p2 n2 hp2 =>
      cases e1 : M[n]? with
      | none => simp only [dAdd, e1] at q; exact q.elim
      | some o1 =>
        cases e2 : M[n2]? with
        | none => cases o1; simp only [dAdd, e1, e2] at q; exact q.elim
        | some o2 =>
          cases o1 with
          | lst ds =>
            cases o2 with
            | lst ds2 =>
              by_cases c : ds.length + ds2.length ≤ 10000000
              · simp only [dAdd, e1, e2, if_pos c] at q
                obtain ⟨xs, g1, r1⟩ := h.at hp e1
                obtain ⟨ys, g2, r2⟩ := h.at hp2 e2
                refine .inr (.inl ⟨p, p2, xs, ys, rfl, rfl, g1, g2, by rw [r1.length, r2.length]; exact Nat.le_trans c (by decide), fun l hl => ?_⟩)
                exact q _ _ (α ++ [l]) (Ext.new hl) (h.new hl (r1.append r2)) (.ref (h.last l))
              · simp only [dAdd, e1, e2, if_neg c] at q
                exact q.elim
    | _ => exact q.elim
  | _ => exact q.elim
variable {a b e : Expr} {fa fb : Ev} {pos : Pos}
theorem ZC (ha : DE X ξ a fa) (hb : DE X ξ b fb) : DE X ξ (.BinOp a .Add b pos) (e2 dAdd fa fb) := Zfq Zju Zlq ha hb
theorem ZaF (ha : DE X ξ a fa) (hb : DE X ξ b fb) : DE X ξ (.BinOp a .Sub b pos) (e2 dSub fa fb) := Zfq Zk2 Zll ha hb
theorem Zu (ha : DE X ξ a fa) (hb : DE X ξ b fb) : DE X ξ (.BinOp a .Mult b pos) (e2 dMul fa fb) := Zfq Zjt Zlm ha hb
theorem ZcH (ha : DE X ξ a fa) (hb : DE X ξ b fb) : DE X ξ (.BinOp a .FloorDiv b pos) (e2 dDiv fa fb) := Zfq ZhG Zln ha hb
theorem Za2 (ha : DE X ξ a fa) (hb : DE X ξ b fb) : DE X ξ (.BinOp a .Mod b pos) (e2 dMod fa fb) := Zfq Zje Zlo ha hb
theorem ZeV (ha : DE X ξ a fa) (hb : DE X ξ b fb) : DE X ξ (.BinOp a .Pow b pos) (e2 dPow fa fb) := Zfq Zk3 Zlp ha hb
noncomputable def ZcZ (f : Ev) : Ev := fun ρ M => (f ρ M).bind fun x M1 => match x with | .int i => .ok (.int (-i)) M1 | _ => .bad
theorem ZdH (ha : DE X ξ a fa) : DE X ξ (.UnaryOp .USub a pos) (ZcZ fa) := by
  obtain ⟨ta, ha, qa⟩ := ha
  refine ⟨_, ZnR Zk4 ha, fun σ ρ H α M Q s h q => ?_⟩
  refine qa σ ρ H α M _ s h (OG.seq q fun x M1 v H1 α1 e1 h1 r1 q1 => ?_)
  cases r1 with
  | int i => exact ⟨i, rfl, q1 _ H1 α1 Ext.refl h1 (.int (-i))⟩
  | _ => exact q1.elim
noncomputable def atD (xs : List D) (i : Int) (M : Sto) : Out D := match atI xs i with | some d => .ok d M | none => .bad
noncomputable def dIx : Bo := fun x y M => match x, y with
  | .tup xs, .int i => atD xs i M
  | .rol xs, .int i => atD xs i M
  | .ref n, .int i => match M[n]? with | some (.lst xs) => atD xs i M | _ => .bad
  | _, _ => .bad
theorem Reps.atI {K : PySem.W.Frag} {H : Hp} {α : List Addr} {vs : List V} {ds : List D} {i : Int} {d : D} (r : Reps K H α vs ds) (h : L2.atI ds i = some d) : ∃ v, L2.atI vs i = some v ∧ Rep K H α v d := by
  unfold L2.atI at h ⊢
  rw [r.length]
  cases e : ixN ds.length i with
  | none => rw [e] at h; cases h
  | some j =>
    rw [e] at h
    exact r.get h
theorem Zn2 : BO X ξ (fun x y H Q => ZpN X.K x y H Q ∨ ZpO X.K x y H Q) dIx := by
  intro H α M v w x y Q h rv rw' q
  cases rw' with
  | int i =>
    cases rv with
    | @tup p xs ds hp rp =>
      have q' : OP X.K H α ξ Q (atD ds i M) := q
      unfold atD at q'
      cases e : L2.atI ds i with
      | none => rw [e] at q'; exact q'.elim
      | some d =>
        rw [e] at q'
        obtain ⟨v, h1, h2⟩ := rp.atI e
        exact .inr ⟨p, xs, i, v, rfl, rfl, hp, h1, q' v H α Ext.refl h h2⟩
    | @rol p xs ds hp rp =>
      have q' : OP X.K H α ξ Q (atD ds i M) := q
      unfold atD at q'
      cases e : L2.atI ds i with
      | none => rw [e] at q'; exact q'.elim
      | some d =>
        rw [e] at q'
        obtain ⟨v, h1, h2⟩ := rp.atI e
        exact .inl ⟨p, xs, i, v, rfl, rfl, hp.sq, h1, q' v H α Ext.refl h h2⟩
    | @ref p n hp =>
      cases e1 : M[n]? with
      | none => simp only [dIx, e1] at q; exact q.elim
      | some o1 =>
        cases o1 with
        | lst ds =>
          simp only [dIx, e1, atD] at q
          obtain ⟨xs, g1, r1⟩ := h.at hp e1
          cases e : L2.atI ds i with
          | none => rw [e] at q; exact q.elim
          | some d =>
            rw [e] at q
            obtain ⟨v, h1, h2⟩ := r1.atI e
            exact .inl ⟨p, xs, i, v, rfl, rfl, SqL.of g1, h1, q v H α Ext.refl h h2⟩
    | _ => exact q.elim
  | _ => cases rv <;> exact q.elim
theorem Zl (ha : DE X ξ a fa) (hb : DE X ξ b fb) (hs : Zf5 b := by exact fun _ _ => rfl) : DE X ξ (.Subscript a b pos) (e2 dIx fa fb) := by
  obtain ⟨ta, ha, qa⟩ := ha
  obtain ⟨tb, hb, qb⟩ := hb
  exact ⟨_, ZnX (IxR.or Zjo Zlc) ha hb hs, two Zn2 qa qb⟩
end
inductive Kd where
  | non | bl (b : Bool) | int (i : Int) | str (x : Str) | tup (xs : List D) | lst (xs : List D)
noncomputable def kd (M : Sto) : D → Option Kd
  | .non => some .non
  | .bl b => some (.bl b)
  | .int i => some (.int i)
  | .str x => some (.str x)
  | .tup xs => some (.tup xs)
  | .rol xs => some (.lst xs)
  | .ref n => match M[n]? with | some (.lst xs) => some (.lst xs) | _ => none
  | .err _ _ => none
noncomputable def eqL (f : D → D → Option Bool) : List D → List D → Option Bool
  | [], [] => some true
  | x :: xs, y :: ys => match f x y with | some a => (match eqL f xs ys with | some b => some (a && b) | none => none) | none => none
  | _, _ => some false
noncomputable def eqK (f : D → D → Option Bool) : Kd → Kd → Option Bool
  | .non, .non => some true
  | .bl a, .bl b => some (a == b)
  | .bl a, .int b => some ((if a then 1 else 0) == b)
  | .int a, .bl b => some (a == (if b then 1 else 0))
  | .int a, .int b => some (a == b)
  | .str a, .str b => some (a == b)
  | .tup xs, .tup ys => eqL f xs ys
  | .lst xs, .lst ys => if xs.length = ys.length then eqL f xs ys else some false
  | _, _ => some false
noncomputable def eqF : Nat → Sto → D → D → Option Bool
  | 0, _, _, _ => none
  | n + 1, M, x, y => match kd M x, kd M y with | some a, some b => eqK (eqF n M) a b | _, _ => none
inductive Vw (X : Cx) (H : Hp) (α : List Addr) (s : Shared) : Kd → Value → Prop where
  | non : Vw X H α s .non .none
  | bl (b : Bool) : Vw X H α s (.bl b) (.bool b)
  | int (i : Int) (t : Tok) : Vw X H α s (.int i) (.int i t)
  | str (x : Str) (t : Tok) : Vw X H α s (.str x) (.str x t)
  | tup {p : Addr} {xs : List V} {ds : List D} {its : List Value} : s.heap.IsTuple p its.toArray → ZO xs its → Reps X.K H α xs ds → Vw X H α s (.tup ds) (.ref p)
  | lst {p : Addr} {xs : List V} {ds : List D} {its : List Value} : s.heap.IsList p its.toArray → ZO xs its → Reps X.K H α xs ds → Vw X H α s (.lst ds) (.ref p)
section
variable {X : Cx} {ξ : XK} {pins : List (Addr × Obj)} {σ : L2.St} {H : Hp} {s : Shared} {α : List Addr} {M : Sto}
theorem vw (I : Inv X pins σ H s) (h : HR X.K H α M) {v : V} {x : D} {u : Value} {k : Kd} (r : Rep X.K H α v x) (ru : Zab v u) (e : kd M x = some k) : Vw X H α s k u := by
  cases r with
  | non => cases e; cases ru; exact .non
  | bl b => cases e; cases ru; exact .bl b
  | int i => cases e; obtain ⟨t, rfl⟩ := ru; exact .int i t
  | str x => cases e; obtain ⟨t, rfl⟩ := ru; exact .str x t
  | err _ _ _ => cases e
  | @tup p xs ds hp rp =>
    cases e; cases ru
    obtain ⟨its, h1, h2, _⟩ := I.tuple hp
    exact .tup h2 h1 rp
  | @rol p xs ds hp rp =>
    cases e; cases ru
    obtain ⟨its, h1, h2, _⟩ := I.list hp.sq
    exact .lst h2.isList h1 rp
  | @ref p n hp =>
    cases ru
    cases e1 : M[n]? with
    | none => simp only [kd, e1] at e; cases e
    | some o =>
      cases o with
      | lst ds =>
        simp only [kd, e1] at e
        cases e
        obtain ⟨xs, g1, r1⟩ := h.at hp e1
        obtain ⟨its, h1, h2, _⟩ := I.list (SqL.of g1)
        exact .lst h2.isList h1 r1
noncomputable def Eq3 (A : Around) (s : Shared) (u z : Value) (b : Bool) : Prop := EqAt A s u z b ∧ RcAt A s u z b ∧ RcNeAt A s u z (!b)
theorem Zgf {f : D → D → Option Bool} : ∀ {xs ys : List D} {b : Bool}, eqL f xs ys = some b →
    (∀ (j : Nat) x y, xs[j]? = some x → ys[j]? = some y → ∃ c, f x y = some c) ∧
    b = ((List.range (min xs.length ys.length)).all (fun j => match xs[j]?, ys[j]? with | some x, some y => (f x y).getD false | _, _ => false) && xs.length == ys.length)
  | [], [], b, e => by
    simp only [eqL, Option.some.injEq] at e
    subst e
    exact ⟨fun j x y h => (by simp at h), (by simp)⟩
  | x :: xs, [], b, e => by
    simp only [eqL, Option.some.injEq] at e
    subst e
    exact ⟨fun j x y h1 h2 => (by simp at h2), (by simp)⟩
  | [], y :: ys, b, e => by
    simp only [eqL, Option.some.injEq] at e
    subst e
    exact ⟨fun j x y h1 h2 => (by simp at h1), (by simp)⟩
  | x :: xs, y :: ys, b, e => by
    cases e1 : f x y with
    | none => simp only [eqL, e1] at e; cases e
    | some a =>
      cases e2 : eqL f xs ys with
      | none => simp only [eqL, e1, e2] at e; cases e
      | some c =>
        simp only [eqL, e1, e2, Option.some.injEq] at e
        subst e
        obtain ⟨h1, h2⟩ := Zgf e2
        refine ⟨fun j x' y' g1 g2 => ?_, ?_⟩
        · cases j with
          | zero =>
            simp at g1 g2
            subst g1 g2
            exact ⟨a, e1⟩
          | succ j =>
            simp at g1 g2
            exact h1 j x' y' g1 g2
        · have em : min (x :: xs).length (y :: ys).length = min xs.length ys.length + 1 := by simp only [List.length_cons]; omega
          rw [em, List.range_succ_eq_map, List.all_cons, List.all_map, h2]
          simp [e1, Bool.and_assoc, Function.comp_def]
theorem ZhI (I : Inv X pins σ H s) (h : HR X.K H α M) : ∀ (n : Nat) {v : V} {x y : D} {b : Bool}, Rep X.K H α v x → Rep X.K H α v y → eqF n M x y = some b → b = true := by
  intro n
  induction n with
  | zero => intro v x y b _ _ e; simp only [eqF] at e; cases e
  | succ n ih =>
    have lists : ∀ (vs : List V) (xs ys : List D) (b : Bool), Reps X.K H α vs xs → Reps X.K H α vs ys → eqL (eqF n M) xs ys = some b → b = true := by
      intro vs
      induction vs with
      | nil =>
        intro xs ys b r1 r2 e
        cases r1; cases r2
        simp only [eqL, Option.some.injEq] at e
        exact e.symm
      | cons v vs iv =>
        intro xs ys b r1 r2 e
        cases r1 with
        | cons p1 t1 =>
          cases r2 with
          | cons p2 t2 =>
            rename_i d1 ds1 d2 ds2
            cases e1 : eqF n M d1 d2 with
            | none => simp only [eqL, e1] at e; cases e
            | some a =>
              cases e2 : eqL (eqF n M) ds1 ds2 with
              | none => simp only [eqL, e1, e2] at e; cases e
              | some c =>
                simp only [eqL, e1, e2, Option.some.injEq] at e
                rw [← e, ih p1 p2 e1, iv _ _ _ t1 t2 e2]
                rfl
    intro v x y b r1 r2 e
    have nl : ∀ {p : Addr} {xs ys : List V}, SqT X.K H p xs → SqL X.K H p ys → False := fun {p xs ys} a c => by
      obtain ⟨i1, _, ⟨o1, g1, c1, _⟩, _⟩ := I.tuple a
      obtain ⟨i2, _, ⟨o2, _, g2, c2, _⟩, _⟩ := I.list c
      rw [g1] at g2
      cases g2
      rw [c1] at c2
      exact absurd c2 (by decide)
    have ll : ∀ {p : Addr} {n : Nat} {ds : List D}, α[n]? = some p → M[n]? = some (.lst ds) → ∃ vs, SqL X.K H p vs ∧ Reps X.K H α vs ds := fun {p n ds} a c => by
      obtain ⟨xs, g1, r1⟩ := h.at a c
      exact ⟨xs, SqL.of g1, r1⟩
    cases r1 with
    | non => cases r2; simp only [eqF, kd, eqK, Option.some.injEq] at e; exact e.symm
    | bl c => cases r2; simp only [eqF, kd, eqK, Option.some.injEq, beq_self_eq_true] at e; exact e.symm
    | int c => cases r2; simp only [eqF, kd, eqK, Option.some.injEq, beq_self_eq_true] at e; exact e.symm
    | str c => cases r2; simp only [eqF, kd, eqK, Option.some.injEq, beq_self_eq_true] at e; exact e.symm
    | err _ _ _ => simp [eqF, kd] at e
    | @tup p xs ds hp rp =>
      cases r2 with
      | @tup _ xs2 ds2 hp2 rp2 =>
        cases I.tuple_inj hp hp2
        simp only [eqF, kd, eqK] at e
        exact lists _ _ _ _ rp rp2 e
      | @rol _ xs2 ds2 hp2 rp2 => exact (nl hp hp2.sq).elim
      | err _ _ _ => simp [eqF, kd] at e
      | @ref _ n2 hp2 =>
        obtain ⟨ys, g⟩ := h.some_at hp2
        exact (nl hp (SqL.of g)).elim
    | @rol p xs ds hp rp =>
      cases r2 with
      | @tup _ xs2 ds2 hp2 rp2 => exact (nl hp2 hp.sq).elim
      | err _ _ _ => simp [eqF, kd] at e
      | @rol _ xs2 ds2 hp2 rp2 =>
        cases I.list_inj hp.sq hp2.sq
        simp only [eqF, kd, eqK, if_pos (rp.length.symm.trans rp2.length)] at e
        exact lists _ _ _ _ rp rp2 e
      | @ref _ n2 hp2 =>
        cases e1 : M[n2]? with
        | none => simp only [eqF, kd, e1] at e; cases e
        | some o =>
          cases o with
          | lst ds2 =>
            obtain ⟨ys, g, r⟩ := ll hp2 e1
            cases I.list_inj hp.sq g
            simp only [eqF, kd, e1, eqK, if_pos (rp.length.symm.trans r.length)] at e
            exact lists _ _ _ _ rp r e
    | @ref p n1 hp =>
      cases e0 : M[n1]? with
      | none => simp only [eqF, kd, e0] at e; cases e
      | some o0 =>
        cases o0 with
        | lst ds =>
          obtain ⟨xs, g0, rp⟩ := ll hp e0
          cases r2 with
          | @tup _ xs2 ds2 hp2 rp2 => exact (nl hp2 g0).elim
          | err _ _ _ => simp [eqF, kd, e0] at e
          | @rol _ xs2 ds2 hp2 rp2 =>
            cases I.list_inj g0 hp2.sq
            simp only [eqF, kd, e0, eqK, if_pos (rp.length.symm.trans rp2.length)] at e
            exact lists _ _ _ _ rp rp2 e
          | @ref _ n2 hp2 =>
            cases e1 : M[n2]? with
            | none => simp only [eqF, kd, e0, e1] at e; cases e
            | some o =>
              cases o with
              | lst ds2 =>
                obtain ⟨ys, g, r⟩ := ll hp2 e1
                cases I.list_inj g0 g
                simp only [eqF, kd, e0, e1, eqK, if_pos (rp.length.symm.trans r.length)] at e
                exact lists _ _ _ _ rp r e
end
end DL
end
section
set_option Elab.async false
set_option linter.all false
set_option maxRecDepth 100000
set_option maxHeartbeats 4000000
namespace DL
open PySem PySem.Spec PyProof.Rows L2
open PySem.SeqAt (EqAt RcAt RcNeAt)
section
variable {X : Cx} {ξ : XK} {pins : List (Addr × Obj)} {σ : L2.St} {H : Hp} {s : Shared} {α : List Addr} {M : Sto}
theorem ZeW {A : Around} {n : Nat} {xs1 xs2 : List V} {ds1 ds2 : List D} {i1 i2 : List Value} {b : Bool} (v1 : ZO xs1 i1) (v2 : ZO xs2 i2) (r1 : Reps X.K H α xs1 ds1) (r2 : Reps X.K H α xs2 ds2)
    (ih : ∀ (x y : D) (v w : V) (u z : Value) (b : Bool), eqF n M x y = some b → Rep X.K H α v x → Rep X.K H α w y → Zab v u → Zab w z → EqAt A s u z b) (e : eqL (eqF n M) ds1 ds2 = some b) :
    ∃ f : Nat → Bool, (∀ (j : Nat) (h1 : j < i1.toArray.size) (h2 : j < i2.toArray.size), EqAt A s i1.toArray[j] i2.toArray[j] (f j)) ∧ b = ((List.range (min i1.toArray.size i2.toArray.size)).all f && i1.toArray.size == i2.toArray.size) := by
  obtain ⟨g1, g2⟩ := Zgf e
  have l1 : i1.toArray.size = ds1.length := by rw [List.size_toArray, ← v1.length, r1.length]
  have l2 : i2.toArray.size = ds2.length := by rw [List.size_toArray, ← v2.length, r2.length]
  refine ⟨_, fun j h1 h2 => ?_, by rw [l1, l2]; exact g2⟩
  have k1 : j < ds1.length := by rw [← l1]; exact h1
  have k2 : j < ds2.length := by rw [← l2]; exact h2
  obtain ⟨c, hc⟩ := g1 j _ _ (List.getElem?_eq_getElem k1) (List.getElem?_eq_getElem k2)
  obtain ⟨v, a1, a2⟩ := r1.get (List.getElem?_eq_getElem k1)
  obtain ⟨w, b1, b2⟩ := r2.get (List.getElem?_eq_getElem k2)
  obtain ⟨u, a3, a4⟩ := v1.get a1
  obtain ⟨z, b3, b4⟩ := v2.get b1
  have q := ih _ _ v w u z c hc a2 b2 a4 b4
  simp only [List.getElem?_eq_getElem k1, List.getElem?_eq_getElem k2, hc, Option.getD_some]
  have e1 : i1.toArray[j] = u := by
    have := List.getElem?_eq_some_iff.mp a3
    obtain ⟨_, z⟩ := this
    simpa using z
  have e2 : i2.toArray[j] = z := by
    have := List.getElem?_eq_some_iff.mp b3
    obtain ⟨_, z⟩ := this
    simpa using z
  rw [e1, e2]
  exact q
theorem Zgg (I : Inv X pins σ H s) (h : HR X.K H α M) {n : Nat} {x y : D} {v w : V} {p q : Addr} {b : Bool} {A : Around} (e : eqF n M x y = some b) (rx : Rep X.K H α v x) (ry : Rep X.K H α w y) (rv : Zab v (.ref p)) (rw' : Zab w (.ref q))
    (k : RcAt A s (.ref p) (.ref q) b) (k' : RcNeAt A s (.ref p) (.ref q) (!b)) : Eq3 A s (.ref p) (.ref q) b := by
  refine ⟨?_, k, k'⟩
  by_cases c : p = q
  · subst c
    cases Zab.inj rv rw'
    rw [ZhI I h n rx ry e]
    exact EqAt.same _
  · exact EqAt.of_refs c k
theorem eq3 (I : Inv X pins σ H s) (h : HR X.K H α M) : ∀ (n : Nat) (x y : D) (v w : V) (u z : Value) (b : Bool) (A : Around), A.units + n < cLine → eqF n M x y = some b → Rep X.K H α v x → Rep X.K H α w y → Zab v u → Zab w z → Eq3 A s u z b := by
  intro n
  induction n with
  | zero => intro x y v w u z b A _ e; simp only [eqF] at e; cases e
  | succ n ih =>
    intro x y v w u z b A hn e rx ry rv rw'
    have hu : A.units < cLine := by omega
    have e0 := e
    unfold eqF at e
    cases ka : kd M x with
    | none => rw [ka] at e; cases e
    | some ka' =>
      cases kb : kd M y with
      | none => rw [ka, kb] at e; cases e
      | some kb' =>
        rw [ka, kb] at e
        have va := vw I h rx rv ka
        have vb := vw I h ry rw' kb
        have deep : ∀ (x y : D) (v w : V) (u z : Value) (b : Bool), eqF n M x y = some b → Rep X.K H α v x → Rep X.K H α w y → Zab v u → Zab w z → EqAt A.in1 s u z b := fun x y v w u z b e a1 a2 a3 a4 =>
          (ih x y v w u z b A.in1 (by rw [Around.in1_units]; omega) e a1 a2 a3 a4).1
        cases va with
        | non =>
          cases vb <;> simp only [eqK, Option.some.injEq] at e <;> subst e
          · exact ⟨EqAt.same _, .none_none, .none_none⟩
          · exact ⟨.none_bool _, .none_bool _, .none_bool _⟩
          · exact ⟨.none_int _ _, .none_int _ _, .none_int _ _⟩
          · exact ⟨.none_str _ _, .none_str _ _, .none_str _ _⟩
          · rename_i g _ _; exact ⟨.none_tuple g hu, .none_tuple g hu, .none_tuple g hu⟩
          · rename_i g _ _; exact ⟨.none_list g hu, .none_list g hu, .none_list g hu⟩
        | bl c =>
          cases vb <;> simp only [eqK, Option.some.injEq] at e <;> subst e
          · exact ⟨.bool_none _, .bool_none _, .bool_none _⟩
          · exact ⟨.bool_bool _ _, .bool_bool _ _, .bool_bool _ _⟩
          · exact ⟨.bool_int _ _ _, .bool_int _ _ _, .bool_int _ _ _⟩
          · exact ⟨.bool_str _ _ _, .bool_str _ _ _, .bool_str _ _ _⟩
          · rename_i g _ _; exact ⟨.bool_tuple _ g hu, .bool_tuple _ g hu, .bool_tuple _ g hu⟩
          · rename_i g _ _; exact ⟨.bool_list _ g hu, .bool_list _ g hu, .bool_list _ g hu⟩
        | int c t =>
          cases vb <;> simp only [eqK, Option.some.injEq] at e <;> subst e
          · exact ⟨.int_none _ _, .int_none _ _, .int_none _ _⟩
          · exact ⟨.int_bool _ _ _, .int_bool _ _ _, .int_bool _ _ _⟩
          · exact ⟨.int_int _ _ _ _, .int_int _ _ _ _, .int_int _ _ _ _⟩
          · exact ⟨.int_str _ _ _ _, .int_str _ _ _ _, .int_str _ _ _ _⟩
          · rename_i g _ _; exact ⟨.int_tuple _ _ g hu, .int_tuple _ _ g hu, .int_tuple _ _ g hu⟩
          · rename_i g _ _; exact ⟨.int_list _ _ g hu, .int_list _ _ g hu, .int_list _ _ g hu⟩
        | str c t =>
          cases vb <;> simp only [eqK, Option.some.injEq] at e <;> subst e
          · exact ⟨.str_none _ _, .str_none _ _, .str_none _ _⟩
          · exact ⟨.str_bool _ _ _, .str_bool _ _ _, .str_bool _ _ _⟩
          · exact ⟨.str_int _ _ _ _, .str_int _ _ _ _, .str_int _ _ _ _⟩
          · exact ⟨.str_str _ _ _ _, .str_str _ _ _ _, .str_str _ _ _ _⟩
          · rename_i g _ _; exact ⟨.str_tuple _ _ g hu, .str_tuple _ _ g hu, .str_tuple _ _ g hu⟩
          · rename_i g _ _; exact ⟨.str_list _ _ g hu, .str_list _ _ g hu, .str_list _ _ g hu⟩
        | @tup p xs ds its g1 w1 q1 =>
          cases vb with
          | @tup p2 xs2 ds2 its2 g2 w2 q2 =>
            simp only [eqK] at e
            obtain ⟨f, hf, hb⟩ := ZeW w1 w2 q1 q2 deep e
            subst hb
            exact Zgg I h e0 rx ry rv rw' (.tuples g1 g2 hu hf) (.tuples g1 g2 hu hf)
          | @lst p2 xs2 ds2 its2 g2 w2 q2 =>
            simp only [eqK, Option.some.injEq] at e
            subst e
            exact Zgg I h e0 rx ry rv rw' (.tuple_list g1 g2 hu) (.tuple_list g1 g2 hu)
          | non => simp only [eqK, Option.some.injEq] at e; subst e; exact ⟨.tuple_none g1 hu, .tuple_none g1 hu, .tuple_none g1 hu⟩
          | bl c => simp only [eqK, Option.some.injEq] at e; subst e; exact ⟨.tuple_bool _ g1 hu, .tuple_bool _ g1 hu, .tuple_bool _ g1 hu⟩
          | int c t => simp only [eqK, Option.some.injEq] at e; subst e; exact ⟨.tuple_int _ _ g1 hu, .tuple_int _ _ g1 hu, .tuple_int _ _ g1 hu⟩
          | str c t => simp only [eqK, Option.some.injEq] at e; subst e; exact ⟨.tuple_str _ _ g1 hu, .tuple_str _ _ g1 hu, .tuple_str _ _ g1 hu⟩
        | @lst p xs ds its g1 w1 q1 =>
          cases vb with
          | @lst p2 xs2 ds2 its2 g2 w2 q2 =>
            simp only [eqK] at e
            have l1 : its.toArray.size = ds.length := by rw [List.size_toArray, ← w1.length, q1.length]
            have l2 : its2.toArray.size = ds2.length := by rw [List.size_toArray, ← w2.length, q2.length]
            by_cases c : ds.length = ds2.length
            · rw [if_pos c] at e
              have hs : its.toArray.size = its2.toArray.size := by rw [l1, l2, c]
              obtain ⟨f, hf, hb⟩ := ZeW w1 w2 q1 q2 deep e
              rw [hs, Nat.min_self, beq_self_eq_true, Bool.and_true, ← hs] at hb
              subst hb
              exact Zgg I h e0 rx ry rv rw' (.lists g1 g2 hs hu hf) (.lists g1 g2 hs hu hf)
            · rw [if_neg c] at e
              have e' : false = b := Option.some.inj e
              subst e'
              have hs : (its.toArray.size != its2.toArray.size) = true := by rw [l1, l2]; simpa using c
              exact Zgg I h e0 rx ry rv rw' (.lists_lengths g1 g2 hs hu) (.lists_lengths g1 g2 hs hu)
          | @tup p2 xs2 ds2 its2 g2 w2 q2 =>
            simp only [eqK, Option.some.injEq] at e
            subst e
            exact Zgg I h e0 rx ry rv rw' (.list_tuple g1 g2 hu) (.list_tuple g1 g2 hu)
          | non => simp only [eqK, Option.some.injEq] at e; subst e; exact ⟨.list_none g1 hu, .list_none g1 hu, .list_none g1 hu⟩
          | bl c => simp only [eqK, Option.some.injEq] at e; subst e; exact ⟨.list_bool _ g1 hu, .list_bool _ g1 hu, .list_bool _ g1 hu⟩
          | int c t => simp only [eqK, Option.some.injEq] at e; subst e; exact ⟨.list_int _ _ g1 hu, .list_int _ _ g1 hu, .list_int _ _ g1 hu⟩
          | str c t => simp only [eqK, Option.some.injEq] at e; subst e; exact ⟨.list_str _ _ g1 hu, .list_str _ _ g1 hu, .list_str _ _ g1 hu⟩
end
section
variable {X : Cx} {ξ : XK}
noncomputable def Zny (X : Cx) (neg : Bool) : R2 := fun v w H Q => ∃ α M x y b, HR X.K H α M ∧ Rep X.K H α v x ∧ Rep X.K H α w y ∧ eqF 12 M x y = some b ∧ Q (.bl (neg ^^ b)) H
theorem ZcI (hu : X.A.units + 64 < cLine) : OpR X (compareOp .Eq) (Zny X false) := by
  intro pins s σ H v w u z Q I rv rw' ⟨α, M, x, y, b, h, rx, ry, e, q⟩
  refine (eq3 I h 12 x y v w u z b X.A (by omega) e rx ry rv rw').2.1 _ _ _ _ ⟨.bl b, H, I, rfl, ?_⟩
  simpa using q
theorem ZdI (hu : X.A.units + 64 < cLine) : OpR X (compareOp .NotEq) (Zny X true) := by
  intro pins s σ H v w u z Q I rv rw' ⟨α, M, x, y, b, h, rx, ry, e, q⟩
  refine (eq3 I h 12 x y v w u z b X.A (by omega) e rx ry rv rw').2.2 _ _ _ _ ⟨.bl (!b), H, I, rfl, ?_⟩
  simpa using q
noncomputable def dEq : Bo := fun x y M => match eqF 12 M x y with | some b => .ok (.bl b) M | none => .bad
noncomputable def dNe : Bo := fun x y M => match eqF 12 M x y with | some b => .ok (.bl (!b)) M | none => .bad
theorem Zfs : BO X ξ (Zny X false) dEq := by
  intro H α M v w x y Q h rv rw' q
  unfold dEq at q
  cases e : eqF 12 M x y with
  | none => rw [e] at q; exact q.elim
  | some b => rw [e] at q; exact ⟨α, M, x, y, b, h, rv, rw', e, by simpa using q _ H α Ext.refl h (.bl b)⟩
theorem Zgh : BO X ξ (Zny X true) dNe := by
  intro H α M v w x y Q h rv rw' q
  unfold dNe at q
  cases e : eqF 12 M x y with
  | none => rw [e] at q; exact q.elim
  | some b => rw [e] at q; exact ⟨α, M, x, y, b, h, rv, rw', e, by simpa using q _ H α Ext.refl h (.bl (!b))⟩
noncomputable def Zgi : V → Bool
  | .non => true
  | .bl _ => true
  | _ => false
noncomputable def rIs (neg : Bool) : R2 := fun v w H Q => Zgi w = true ∧ Q (.bl (neg ^^ decide (v = w))) H
theorem ZhJ {v w : V} {u z : Value} (rv : Zab v u) (rw' : Zab w z) (p : Zgi w = true) : plainIs u z = true ∧ (u == z) = decide (v = w) := by
  cases w with
  | non =>
    cases rw'
    cases v with
    | non => cases rv; exact ⟨rfl, rfl⟩
    | bl b => cases rv; exact ⟨rfl, by rw [decide_eq_false (fun z => (nomatch z))]; rfl⟩
    | int b => obtain ⟨t, rfl⟩ := rv; exact ⟨rfl, by rw [decide_eq_false (fun z => (nomatch z))]; rfl⟩
    | str b => obtain ⟨t, rfl⟩ := rv; exact ⟨rfl, by rw [decide_eq_false (fun z => (nomatch z))]; rfl⟩
    | byt b => obtain ⟨t, rfl⟩ := rv; exact ⟨rfl, by rw [decide_eq_false (fun z => (nomatch z))]; rfl⟩
    | flt b => obtain ⟨t, rfl⟩ := rv; exact ⟨rfl, by rw [decide_eq_false (fun z => (nomatch z))]; rfl⟩
    | ref b => cases rv; exact ⟨rfl, by rw [decide_eq_false (fun z => (nomatch z))]; rfl⟩
    | ty b => cases rv; exact ⟨rfl, by rw [decide_eq_false (fun z => (nomatch z))]; rfl⟩
  | bl c =>
    cases rw'
    cases v with
    | non => cases rv; exact ⟨rfl, by rw [decide_eq_false (fun z => (nomatch z))]; rfl⟩
    | bl b => cases rv; refine ⟨rfl, ?_⟩; cases b <;> cases c <;> rfl
    | int b => obtain ⟨t, rfl⟩ := rv; exact ⟨rfl, by rw [decide_eq_false (fun z => (nomatch z))]; rfl⟩
    | str b => obtain ⟨t, rfl⟩ := rv; exact ⟨rfl, by rw [decide_eq_false (fun z => (nomatch z))]; rfl⟩
    | byt b => obtain ⟨t, rfl⟩ := rv; exact ⟨rfl, by rw [decide_eq_false (fun z => (nomatch z))]; rfl⟩
    | flt b => obtain ⟨t, rfl⟩ := rv; exact ⟨rfl, by rw [decide_eq_false (fun z => (nomatch z))]; rfl⟩
    | ref b => cases rv; exact ⟨rfl, by rw [decide_eq_false (fun z => (nomatch z))]; rfl⟩
    | ty b => cases rv; exact ⟨rfl, by rw [decide_eq_false (fun z => (nomatch z))]; rfl⟩
  | _ => cases p
theorem Zgj : OpR X (compareOp .IsNot) (rIs true) := by
  intro pins s σ H v w u z Q I rv rw' ⟨p, q⟩
  obtain ⟨h1, h2⟩ := ZhJ rv rw' p
  refine wpAny_isNot_plain h1 ⟨.bl (!(u == z)), H, I, rfl, ?_⟩
  rw [h2]
  simpa using q
noncomputable def isP : D → D → Option Bool
  | .non, .non => some true
  | .bl a, .bl b => some (a == b)
  | _, .non => some false
  | _, .bl _ => some false
  | _, _ => none
noncomputable def dIs : Bo := fun x y M => match isP x y with | some b => .ok (.bl b) M | none => .bad
noncomputable def dIsNot : Bo := fun x y M => match isP x y with | some b => .ok (.bl (!b)) M | none => .bad
theorem Zlr {K : PySem.W.Frag} {H : Hp} {α : List Addr} {v w : V} {x y : D} {b : Bool} (rv : Rep K H α v x) (rw' : Rep K H α w y) (e : isP x y = some b) : Zgi w = true ∧ decide (v = w) = b := by
  cases rw' with
  | non => cases rv <;> cases e <;> exact ⟨rfl, by first | rfl | exact decide_eq_false (fun z => (nomatch z))⟩
  | bl c =>
    cases rv with
    | bl d => cases e; refine ⟨rfl, ?_⟩; cases c <;> cases d <;> rfl
    | _ => cases e; exact ⟨rfl, decide_eq_false (fun z => (nomatch z))⟩
  | _ => cases rv <;> cases e
theorem ZhK : BO X ξ (rIs true) dIsNot := by
  intro H α M v w x y Q h rv rw' q
  unfold dIsNot at q
  cases e : isP x y with
  | none => rw [e] at q; exact q.elim
  | some b =>
    rw [e] at q
    obtain ⟨p, d⟩ := Zlr rv rw' e
    exact ⟨p, by rw [d]; simpa using q _ H α Ext.refl h (.bl (!b))⟩
noncomputable def ZfH (M : Sto) : D → Option (List D)
  | .tup xs => some xs
  | .rol xs => some xs
  | .ref n => match M[n]? with | some (.lst xs) => some xs | _ => none
  | _ => none
theorem Zgk {K : PySem.W.Frag} {H : Hp} {α : List Addr} {M : Sto} (h : HR K H α M) {v : V} {x : D} {ds : List D} (r : Rep K H α v x) (e : ZfH M x = some ds) : ∃ p xs, v = .ref p ∧ (SqL K H p xs ∨ SqT K H p xs) ∧ Reps K H α xs ds := by
  cases r with
  | @tup p xs ds hp rp => cases e; exact ⟨p, xs, rfl, .inr hp, rp⟩
  | @rol p xs ds hp rp => cases e; exact ⟨p, xs, rfl, .inl hp.sq, rp⟩
  | @ref p n hp =>
    cases e1 : M[n]? with
    | none => simp only [ZfH, e1] at e; cases e
    | some o =>
      cases o with
      | lst es =>
        simp only [ZfH, e1] at e
        cases e
        obtain ⟨xs, g1, r1⟩ := h.at hp e1
        exact ⟨p, xs, rfl, .inl (SqL.of g1), r1⟩
  | _ => cases e
variable {e : Expr} {es : List Expr} {fs : Av} {fa : Ev} {p pos : Pos} {x : Str} {id T : String} {r : List V → Hp → VK → Prop} {f : List D → Sto → Out D}
noncomputable def Zh (f : List D → Sto → Out D) (fs : Av) : Ev := fun ρ M => (fs ρ M).bind f
noncomputable def CO (X : Cx) (ξ : XK) (r : List V → Hp → VK → Prop) (f : List D → Sto → Out D) : Prop := ∀ H α M vs ds Q, HR X.K H α M → Reps X.K H α vs ds → OP X.K H α ξ Q (f ds M) → r vs H Q
theorem Zr (hc : Za8 X (.builtin id) r) (hf : CO X ξ r f) (hm : X.mg x = none) (hv : bootBuiltins x = some (.builtin id)) (ha : DA X ξ (e :: es) fs) (hg : Gl X x := by rfl) (hn : x ≠ "__name__" := by decide) (hdb : (x == ("__debug__" : Str)) = false := by decide)
    (he : starEach (e :: es) X.env = (false, eval e X.env) :: starEach es X.env := by rfl) (hpl : (backTo pos (starEach es X.env)).any (·.1) = false := by rfl) : DE X ξ (.Call (.Name x p) (e :: es) [] pos) (Zh f fs) := by
  obtain ⟨ta, ha, qa⟩ := ha
  refine ⟨_, ZeR hc hg hm hv ha hn hdb he hpl, fun σ ρ H α M Q s h q => ?_⟩
  exact qa σ ρ H α M _ s h (OG.seq q fun ds M1 vs H1 α1 e1 h1 r1 q1 => hf H1 α1 M1 vs ds Q h1 r1 q1)
theorem ZaG (hc : Za8 X (.type T) r) (hf : CO X ξ r f) (hm : X.mg x = none) (hv : bootBuiltins x = some (.type T)) (ha : DA X ξ (e :: es) fs) (hg : Gl X x := by rfl) (hn : x ≠ "__name__" := by decide) (hdb : (x == ("__debug__" : Str)) = false := by decide)
    (he : starEach (e :: es) X.env = (false, eval e X.env) :: starEach es X.env := by rfl) (hpl : (backTo pos (starEach es X.env)).any (·.1) = false := by rfl) : DE X ξ (.Call (.Name x p) (e :: es) [] pos) (Zh f fs) := by
  obtain ⟨ta, ha, qa⟩ := ha
  refine ⟨_, Zf1 hc hg hm hv ha hn hdb he hpl, fun σ ρ H α M Q s h q => ?_⟩
  exact qa σ ρ H α M _ s h (OG.seq q fun ds M1 vs H1 α1 e1 h1 r1 q1 => hf H1 α1 M1 vs ds Q h1 r1 q1)
noncomputable def bLen : List D → Sto → Out D := fun ds M => match ds with
  | [x] => match ZfH M x with | some xs => .ok (.int xs.length) M | none => .bad
  | _ => .bad
theorem Zbv : CO X ξ (fun xs H Q => ∃ p ys, xs = [.ref p] ∧ (SqL X.K H p ys ∨ SqT X.K H p ys) ∧ Q (.int ys.length) H) bLen := by
  intro H α M vs ds Q h rs q
  unfold bLen at q
  match rs with
  | .nil => exact q.elim
  | .cons (.non) (.cons _ _) => exact q.elim
  | .cons _ (.cons _ _) => exact q.elim
  | .cons (d := x) r .nil =>
    cases e : ZfH M x with
    | none => simp only [e] at q; exact q.elim
    | some ys =>
      simp only [e] at q
      obtain ⟨p, xs, rfl, h2, h3⟩ := Zgk h r e
      exact ⟨p, xs, rfl, h2, by rw [h3.length]; exact q _ H α Ext.refl h (.int _)⟩
noncomputable def bAbs : List D → Sto → Out D := fun ds M => match ds with | [.int i] => .ok (.int (if i < 0 then -i else i)) M | _ => .bad
theorem ZcJ : CO X ξ (fun xs H Q => ∃ i, xs = [.int i] ∧ Q (.int (if i < 0 then -i else i)) H) bAbs := by
  intro H α M vs ds Q h rs q
  match rs with
  | .nil => exact q.elim
  | .cons r (.cons _ _) => cases r <;> exact q.elim
  | .cons r .nil =>
    cases r with
    | int i => exact ⟨i, rfl, q _ H α Ext.refl h (.int _)⟩
    | _ => exact q.elim
noncomputable def bMax : List D → Sto → Out D := fun ds M => match ds with | [.int i, .int j] => .ok (.int (if j > i then j else i)) M | _ => .bad
noncomputable def bMin : List D → Sto → Out D := fun ds M => match ds with | [.int i, .int j] => .ok (.int (if j < i then j else i)) M | _ => .bad
theorem Ziz {g : Int → Int → Int} {f : List D → Sto → Out D} (hf : ∀ ds M, f ds M = match ds with | [.int i, .int j] => .ok (.int (g i j)) M | _ => .bad) : CO X ξ (fun xs H Q => ∃ i j, xs = [.int i, .int j] ∧ Q (.int (g i j)) H) f := by
  intro H α M vs ds Q h rs q
  rw [hf] at q
  match rs with
  | .nil => exact q.elim
  | .cons r .nil => cases r <;> exact q.elim
  | .cons r (.cons r' (.cons _ _)) => cases r <;> cases r' <;> exact q.elim
  | .cons r (.cons r' .nil) =>
    cases r with
    | int i =>
      cases r' with
      | int j => exact ⟨i, j, rfl, q _ H α Ext.refl h (.int _)⟩
      | _ => exact q.elim
    | _ => cases r' <;> exact q.elim
theorem ZiA : CO X ξ (fun xs H Q => ∃ i j, xs = [.int i, .int j] ∧ Q (.int (if j > i then j else i)) H) bMax := Ziz (g := fun i j => if j > i then j else i) fun ds M => rfl
theorem Zls : CO X ξ (fun xs H Q => ∃ i j, xs = [.int i, .int j] ∧ Q (.int (if j < i then j else i)) H) bMin := Ziz (g := fun i j => if j < i then j else i) fun ds M => rfl
noncomputable def bInt : List D → Sto → Out D := fun ds M => match ds with | [.int i] => .ok (.int i) M | [.bl k] => .ok (.int (if k then 1 else 0)) M | _ => .bad
theorem ZdJ : CO X ξ (fun xs H Q => (∃ i, xs = [.int i] ∧ Q (.int i) H) ∨ ∃ k, xs = [.bl k] ∧ Q (.int (if k then 1 else 0)) H) bInt := by
  intro H α M vs ds Q h rs q
  match rs with
  | .nil => exact q.elim
  | .cons r (.cons _ _) => cases r <;> exact q.elim
  | .cons r .nil =>
    cases r with
    | int i => exact .inl ⟨i, rfl, q _ H α Ext.refl h (.int _)⟩
    | bl k => exact .inr ⟨k, rfl, q _ H α Ext.refl h (.int _)⟩
    | _ => exact q.elim
noncomputable def bList : List D → Sto → Out D := fun ds M => match ds with
  | [x] => match ZfH M x with | some xs => .ok (.ref M.length) (M ++ [.lst xs]) | none => .bad
  | _ => .bad
theorem Zgl : CO X ξ (fun xs H Q => ∃ p ys, xs = [.ref p] ∧ (SqL X.K H p ys ∨ SqT X.K H p ys) ∧ ∀ l, H l = none → Q (.ref l) (upd H l (.lst ys))) bList := by
  intro H α M vs ds Q h rs q
  unfold bList at q
  match rs with
  | .nil => exact q.elim
  | .cons _ (.cons _ _) => exact q.elim
  | .cons (d := x) r .nil =>
    cases e : ZfH M x with
    | none => simp only [e] at q; exact q.elim
    | some ys =>
      simp only [e] at q
      obtain ⟨p, xs, rfl, h2, h3⟩ := Zgk h r e
      exact ⟨p, xs, rfl, h2, fun l hl => q _ _ (α ++ [l]) (Ext.new hl) (h.new hl h3) (.ref (h.last l))⟩
noncomputable def ZaO (M : Sto) (x : D) : Option String := match kd M x with
  | some .non => some "NoneType"
  | some (.bl _) => some "bool"
  | some (.int _) => some "int"
  | some (.str _) => some "str"
  | some (.tup _) => some "tuple"
  | some (.lst _) => some "list"
  | none => none
noncomputable def Zcf (t T : String) : Bool := t == T || (t == "bool" && T == "int")
noncomputable def ZfI (T : String) (f : Ev) : Ev := fun ρ M => (f ρ M).bind fun x M1 => match ZaO M1 x with | some t => .ok (.bl (Zcf t T)) M1 | none => .bad
noncomputable def ZqZ (X : Cx) (T : String) : List V → Hp → VK → Prop := fun vs H Q => ∃ v α M x t, vs = [v, .ty T] ∧ HR X.K H α M ∧ Rep X.K H α v x ∧ ZaO M x = some t ∧ Q (.bl (Zcf t T)) H
structure Kit (K : PySem.W.Frag) (T : String) : Prop where
  non : PySem.W.kitOne K (.type "NoneType") (.type T) = some (Zcf "NoneType" T)
  bl : PySem.W.kitOne K (.type "bool") (.type T) = some (Zcf "bool" T)
  int : PySem.W.kitOne K (.type "int") (.type T) = some (Zcf "int" T)
  str : PySem.W.kitOne K (.type "str") (.type T) = some (Zcf "str" T)
  tup : PySem.W.kitOne K (.type "tuple") (.type T) = some (Zcf "tuple" T)
  lst : PySem.W.kitOne K (.type "list") (.type T) = some (Zcf "list" T)
theorem Zjv {K : PySem.W.Frag} : Kit K "int" := ⟨rfl, rfl, rfl, rfl, rfl, rfl⟩
theorem ZhL {K : PySem.W.Frag} : Kit K "bool" := ⟨rfl, rfl, rfl, rfl, rfl, rfl⟩
theorem ZhM {K : PySem.W.Frag} : Kit K "list" := ⟨rfl, rfl, rfl, rfl, rfl, rfl⟩
theorem ZhN (kt : Kit X.K T) : Za8 X (.builtin "isinstance") (ZqZ X T) := by
  intro pins s σ H vs us Q I rs ⟨v, α, M, x, t, e1, h, rx, et, q⟩
  subst e1
  obtain ⟨u, w, rfl, ru, rw'⟩ := Zhy rs
  cases rw'
  unfold ZaO at et
  cases ek : kd M x with
  | none => rw [ek] at et; cases et
  | some k =>
    rw [ek] at et
    have va := vw I h rx ru ek
    have fin : ∀ tk, EP X pins σ Q (.bool (Zcf t T)) { s with toks := tk } := fun tk => ⟨.bl _, H, I.tok tk, rfl, q⟩
    cases va with
    | non => cases et; exact PySem.W.kia_one PySem.W.kitx_none I.kIn True.intro kt.non (fun z => nomatch z) fin
    | bl b => cases et; exact PySem.W.kia_one PySem.W.kitx_bool I.kIn True.intro kt.bl (fun z => nomatch z) fin
    | int i t => cases et; exact PySem.W.kia_one PySem.W.kitx_int I.kIn True.intro kt.int (fun z => nomatch z) fin
    | str i t => cases et; exact PySem.W.kia_one PySem.W.kitx_str I.kIn True.intro kt.str (fun z => nomatch z) fin
    | tup g _ _ => cases et; obtain ⟨o, h1, h2, _⟩ := g; exact PySem.W.kia_one PySem.W.kitx_tuple I.kIn ⟨o, h1, h2⟩ kt.tup (fun z => nomatch z) fin
    | lst g _ _ => cases et; obtain ⟨o, h1, h2, _⟩ := g; exact PySem.W.kia_one PySem.W.kitx_list I.kIn ⟨o, h1, h2⟩ kt.lst (fun z => nomatch z) fin
theorem Zgm {y : Str} {p2 : Pos} (kt : Kit X.K T) (hm : X.mg "isinstance" = none) (hmT : X.mg y = none) (hvT : bootBuiltins y = some (.type T)) (ha : DE X ξ e fa) (hg : Gl X "isinstance" := by rfl) (hgT : Gl X y := by rfl) (hn : y ≠ "__name__" := by decide) (hdb : (y == ("__debug__" : Str)) = false := by decide)
    (he : starEach [e, .Name y p2] X.env = (false, eval e X.env) :: starEach [.Name y p2] X.env := by rfl) (he2 : starEach [.Name y p2] X.env = (false, eval (.Name y p2) X.env) :: starEach [] X.env := by rfl) (hpl : (backTo pos (starEach [.Name y p2] X.env)).any (·.1) = false := by rfl) : DE X ξ (.Call (.Name "isinstance" p) [e, .Name y p2] [] pos) (ZfI T fa) := by
  obtain ⟨ta, ha, qa⟩ := ha
  refine ⟨_, ZeR (ZhN kt) hg hm (by with_unfolding_all rfl) (Zeh ha (Zeh (Zi6 hgT hmT hvT (v := .ty T) rfl hn hdb) Zit he2) he) (by decide) (by decide) he hpl, fun σ ρ H α M Q s h q => ?_⟩
  refine qa σ ρ H α M _ s h (OG.seq q fun x M1 v H1 α1 e1 h1 r1 q1 => ?_)
  cases et : ZaO M1 x with
  | none => simp only [et] at q1; exact q1.elim
  | some t =>
    simp only [et] at q1
    exact ⟨v, α1, M1, x, t, rfl, h1, r1, et, q1 _ H1 α1 Ext.refl h1 (.bl _)⟩
end
end DL
end
section
set_option Elab.async false
set_option linter.all false
set_option maxRecDepth 100000
set_option maxHeartbeats 4000000
namespace DL
open PySem PySem.Spec PyProof.Rows L2
noncomputable def CXE (P : Program) (w : World) : CXT := fun outer H s E e s' => ∃ (ea C : Addr) (dct : Option Addr) (B : Heap) (H' : Hp), e = .ref ea ∧ s'.os = s.os ∧ AllBare s'.gens ∧ Un (frs outer) [] H H' s.heap s'.heap ∧ HOk P w H' s'.heap ∧
  DQ.Fly B outer ea (.ref C) dct .none s'.heap ∧ (∀ b u, H' b = some u → ∃ o, B.get? b = some o) ∧ (∀ b o, s.heap.get? b = some o → b ∉ frs outer → ∃ o', B.get? b = some o') ∧ E (.ref C) dct H'
structure Thr (X : Cx) (ξ : XK) : Prop where
  own : PassesOwn (model X.prog X.w) X.A X.env X.xe
  ps : ZfZ (CXE X.prog X.w) X ξ
  mak : ∀ (pins : List (Addr × Obj)) (σ : L2.St) (H : Hp) (s : Shared) (h' : Heap) (e : Addr) (oe : Obj) (vs : Array Value) (C : Addr), Inv X pins σ H s → (∀ b o, s.heap.get? b = some o → h'.get? b = some o) → s.heap.get? e = none → h'.get? e = some oe → oe.cls = .ref C → oe.dict = none →
    oe.data = .fields vs → vs[1]? = some .none → vs[2]? = some .none → ξ (.ref C) none H → X.xe (.ref e) { s with heap := h' }
theorem ZdK {h b1 b2 : Heap} : ∀ {l : List Env}, h.FunFrames b1 l → (∀ b ∈ frs l, b2.get? b = none) → h.FunFrames b2 l
  | [], _, _ => trivial
  | env :: r, ⟨h1, ⟨L, o, h2, h3, h4, h5⟩, h6⟩, k => ⟨h1, ⟨L, o, h2, k L (by unfold frs; rw [List.filterMap_cons, h2]; exact List.mem_cons_self), h4, h5⟩, ZdK h6 fun b hb => k b (by
      unfold frs
      rw [List.filterMap_cons, h2]
      exact List.mem_cons_of_mem _ hb)⟩
section
variable {X : Cx} {pins : List (Addr × Obj)} {σ : L2.St} {H H' : Hp} {s : Shared} {h1 h2 B : Heap}
theorem ZiB (hx : X.ex = []) (I : Inv X pins σ H s) (u : Un (frs X.stack) [] H H' s.heap h1) (hok : HOk X.prog X.w H' h1) (t1 : ∀ b q, H' b = some q → ∃ o, B.get? b = some o) (t2 : ∀ b o, s.heap.get? b = some o → b ∉ frs X.stack → ∃ o', B.get? b = some o')
    (st1 : B.StaysIn h1) (st2 : B.StaysIn h2) (up : h1.UpToSlots h2) : Un X.fs [] X.H₀ H' X.s₀.heap h2 ∧ HOk X.prog X.w H' h2 ∧ ∀ b o, X.s₀.heap.get? b = some o → b ∉ X.fs → ∃ o', B.get? b = some o' := by
  have kB : ∀ b ob o, B.get? b = some ob → h1.get? b = some o → h2.get? b = some o := fun b ob o e x => by
    have z := st1 b ob e
    rw [x] at z
    cases z
    exact st2 b _ e
  have nx : ∀ b, b ∉ X.ex := fun b => by rw [hx]; simp
  have nL : ∀ b o, X.s₀.heap.get? b = some o → b ∉ X.fs → b ∉ frs X.stack := fun b o e n z => by
    rcases List.mem_cons.mp (I.stkSub b z) with q | q
    · exact absurd (Heap.lt_size e) (by rw [q]; exact Nat.not_lt_of_le I.ok.above)
    · exact n q
  have th : ∀ b o, X.s₀.heap.get? b = some o → b ∉ X.fs → ∃ o', B.get? b = some o' := fun b o e n => by
    obtain ⟨o', e'⟩ := I.base.there b o e (nx b)
    exact t2 b o' e' (nL b o e n)
  have sl : ∀ b o, X.s₀.heap.get? b = some o → X.H₀ b = none → b ∈ X.fs → ∃ sl, h2.get? b = some { o with slots := sl } := fun b o e n hb => by
    obtain ⟨s1, e1⟩ := I.base.slot b o e n hb (nx b)
    obtain ⟨s2, e2⟩ := u.any e1 (I.base.free b o e n (nx b)) (by simp)
    obtain ⟨_, o', g1, g2⟩ := I.ok.funs.mem hb
    rw [e] at g1
    cases g1
    obtain ⟨s3, e3⟩ := up b _ e2 g2
    exact ⟨s3, e3⟩
  refine ⟨⟨fun b o e n hb _ => ?_, fun b o e n hb _ => sl b o e n hb, fun b o e n _ => ?_, fun b o e _ => ?_, fun b xs e => u.tups b xs (I.base.tups b xs e), fun b o xs e => u.frzs b o xs (I.base.frzs b o xs e), fun b ps e => ?_⟩, fun a o e => ?_, th⟩
  · obtain ⟨ob, g⟩ := th b o e hb
    exact kB b ob o g (u.keep b o (I.base.keep b o e n hb (nx b)) (I.base.free b o e n (nx b)) (nL b o e hb) (by simp))
  · obtain ⟨o', e'⟩ := I.base.there b o e (nx b)
    exact u.free b o' e' (I.base.free b o e n (nx b)) (by simp)
  · by_cases hb : b ∈ X.fs
    · obtain ⟨s1, e1⟩ := sl b o e (I.ok.frf b hb) hb
      exact ⟨_, e1⟩
    · obtain ⟨ob, g⟩ := th b o e hb
      exact ⟨ob, st2 b ob g⟩
  · obtain ⟨m1, e1⟩ := I.base.tbls b ps e
    obtain ⟨m2, e2⟩ := u.tbls b _ e1
    exact ⟨m1 ++ m2, by rw [e2, Array.append_assoc]⟩
  · refine (hok a o e).stay (fun b q hb x => ?_) (fun _ q => q) fun _ _ q => q
    have tr : ∃ q, H' b = some q := by
      rcases hb with z | z
      · exact ⟨o, z ▸ e⟩
      · exact ⟨_, z⟩
    obtain ⟨q', z⟩ := tr
    obtain ⟨ob, g⟩ := t1 b q' z
    exact kB b ob q g x
end
theorem ZhO {P : Program} {w : World} {H : Hp} {h : Heap} {a : Addr} {o : HO} (x : ZbI P w H h a o) : ∃ ob, h.get? a = some ob := by
  cases o with
  | lst xs => obtain ⟨_, _, _, _, e⟩ := x; exact ⟨_, e⟩
  | tup xs => obtain ⟨_, _, _, ob, e, _⟩ := x; exact ⟨_, e⟩
  | dK kvs => obtain ⟨_, _, _, _, o, _, _, e, _⟩ := x; exact ⟨_, e⟩
  | dT kvs => obtain ⟨_, _, _, _, o, _, _, e, _⟩ := x; exact ⟨_, e⟩
  | set S n => obtain ⟨o, _, _, _, e, _⟩ := x; exact ⟨_, e⟩
  | ins C dx fs => obtain ⟨_, _, _, e, _⟩ := x; exact ⟨_, e⟩
  | own y => exact x
  | xd fs => obtain ⟨_, ⟨_, _, _, e, _⟩, _⟩ := x; exact ⟨_, e⟩
  | rng lo hi => obtain ⟨_, _, _, e⟩ := x; exact ⟨_, e⟩
  | frz ob u => obtain ⟨e, _⟩ := x; exact ⟨_, e⟩
  | tbl ps => exact ⟨_, (show h.get? a = some _ from x)⟩
  | met f y => exact ⟨_, (show h.get? a = some _ from x)⟩
  | ext φ => obtain ⟨_, e, _⟩ := x; exact e
noncomputable def Zhp (h : Heap) (l : List Addr) : Heap := Zhn h fun b => if b ∈ l then some (.own 0) else none
theorem ZeX {h : Heap} {l : List Addr} {b : Addr} {o : Obj} (e : h.get? b = some o) (n : b ∉ l) : (Zhp h l).get? b = some o := ZeN e (if_neg n)
theorem Zem {h : Heap} {l : List Addr} {b : Addr} {o : Obj} (e : (Zhp h l).get? b = some o) : h.get? b = some o ∧ b ∉ l := by
  obtain ⟨a, n⟩ := ZfR e
  refine ⟨a, fun z => ?_⟩
  simp only [if_pos z] at n
  cases n
theorem Zgn {h : Heap} {l : List Addr} {b : Addr} (n : b ∈ l) : (Zhp h l).get? b = none := by
  cases q : (Zhp h l).get? b with
  | none => rfl
  | some o => exact absurd n (Zem q).2
theorem Zlt {P : Program} {w : World} {K : PySem.W.Frag} {mg : Str → Option Value} {base : Heap} {N : List Str} {qual : Str} {scope : Scope} {f : Addr} {cd : Value} {A : Around} {outer : List Env} {s : Shared} {H : Hp} {E : XK} :
    Thr (ZdC (CXE P w) P w K mg base N qual scope f cd A outer s H E) E := by
  refine ⟨PassesOwn.leaving, fun pins σ H1 s1 e s2 I h => ?_, fun pins σ H1 s1 h' e oe vs C I k hn he hc hdi hd v1 v2 q => ?_⟩
  · obtain ⟨ea, C, dct, B, H2, rfl, os, bare, un, hok, fl, t1, t2, q⟩ := h
    refine DQ.Zf9 (outer := outer) I.ok.frames rfl fl fun h3 f3 up => ?_
    obtain ⟨a1, a2, a3⟩ := ZiB rfl I un hok t1 t2 fl.stay f3.stay up
    exact ⟨ea, C, dct, B, H2, rfl, os.trans I.os, bare, a1, a2, f3, t1, a3, q⟩
  · have st := I.stack
    have t2 : ∀ b o, s1.heap.get? b = some o → b ∉ frs (ZdC (CXE P w) P w K mg base N qual scope f cd A outer s H E).stack → ∃ o', (Zhp s1.heap (frs (ZdC (CXE P w) P w K mg base N qual scope f cd A outer s H E).stack)).get? b = some o' := fun b o x n => ⟨o, ZeX x n⟩
    have hs : (Zhp s1.heap (frs (ZdC (CXE P w) P w K mg base N qual scope f cd A outer s H E).stack)).StaysIn h' := fun b o x => k b o (Zem x).1
    have hl : h'.FunFrames (Zhp s1.heap (frs (ZdC (CXE P w) P w K mg base N qual scope f cd A outer s H E).stack)) (ZdC (CXE P w) P w K mg base N qual scope f cd A outer s H E).stack :=
      (ZdK st fun b hb => Zgn hb).of_keeps fun b o x _ => ⟨o, k b o x, rfl⟩
    have hb : (Zhp s1.heap (frs (ZdC (CXE P w) P w K mg base N qual scope f cd A outer s H E).stack)).get? e = none := by
      cases z : (Zhp s1.heap (frs (ZdC (CXE P w) P w K mg base N qual scope f cd A outer s H E).stack)).get? e with
      | none => rfl
      | some o =>
        have := (Zem z).1
        rw [hn] at this
        cases this
    have t1 : ∀ b u, H1 b = some u → ∃ o, (Zhp s1.heap (frs (ZdC (CXE P w) P w K mg base N qual scope f cd A outer s H E).stack)).get? b = some o := fun b u x => by
      obtain ⟨o, g⟩ := ZhO (I.hok b u x)
      exact ⟨o, ZeX g fun z => by rw [I.stkFree b z] at x; cases x⟩
    refine DQ.Zga (s := { s1 with heap := h' }) (outer := outer) I.ok.frames rfl hl he hs hb hd v1 v2 fun h3 f3 up => ?_
    obtain ⟨a1, a2, a3⟩ := ZiB rfl I (Un.kept k) (I.hok.kept k) t1 t2 hs f3.stay up
    rw [hc, hdi] at f3
    exact ⟨e, C, none, _, H1, rfl, I.os, I.bare, a1, a2, f3, t1, a3, q⟩
end DL
end
section
set_option Elab.async false
set_option linter.all false
set_option maxRecDepth 100000
set_option maxHeartbeats 4000000
namespace DL
open PySem PySem.Spec PyProof.Rows L2
noncomputable def FP (K : PySem.W.Frag) (H : Hp) (α : List Addr) (ξ : XK) (Dn : Ends) : Fl → Prop
  | .nx ρ' M' => ∀ σ' H' α', Ext K H H' α α' → HR K H' α' M' → SR K H' α' σ' ρ' → Dn.nx σ' H'
  | .brk ρ' M' => ∀ σ' H' α', Ext K H H' α α' → HR K H' α' M' → SR K H' α' σ' ρ' → Dn.bk σ' H'
  | .cnt ρ' M' => ∀ σ' H' α', Ext K H H' α α' → HR K H' α' M' → SR K H' α' σ' ρ' → Dn.ct σ' H'
  | .ret d M' => ∀ v H' α', Ext K H H' α α' → HR K H' α' M' → Rep K H' α' v d → Dn.rt v H'
  | .exc c M' => ∀ C H' α', PySem.W.nsIn K mainGlobals c = some (some (.ref C)) → Ext K H H' α α' → HR K H' α' M' → ξ (.ref C) none H'
  | .bad => False
theorem FP.ext {K : PySem.W.Frag} {H H1 : Hp} {α α1 : List Addr} {ξ : XK} {Dn : Ends} {o : Fl} (h : FP K H α ξ Dn o) (e : Ext K H H1 α α1) : FP K H1 α1 ξ Dn o := by
  cases o with
  | nx ρ M => exact fun σ' H' α' e' => h σ' H' α' (e.trans e')
  | brk ρ M => exact fun σ' H' α' e' => h σ' H' α' (e.trans e')
  | cnt ρ M => exact fun σ' H' α' e' => h σ' H' α' (e.trans e')
  | ret d M => exact fun v H' α' e' => h v H' α' (e.trans e')
  | exc c M => exact fun C H' α' n e' => h C H' α' n (e.trans e')
  | bad => exact h
noncomputable def DS (X : Cx) (ξ : XK) (st : Stmt) (g : Sv) : Prop := ∃ t : TS, PS X st t ∧ ∀ σ ρ H α M Dn, SR X.K H α σ ρ → HR X.K H α M → FP X.K H α ξ Dn (g ρ M) → t Dn σ H
noncomputable def DSs (X : Cx) (ξ : XK) (st : List Stmt) (g : Sv) : Prop := ∃ t : TS, PSs X st t ∧ ∀ σ ρ H α M Dn, SR X.K H α σ ρ → HR X.K H α M → FP X.K H α ξ Dn (g ρ M) → t Dn σ H
noncomputable def Zar {β : Type} (o : Out β) (k : β → Sto → Fl) : Fl := match o with
  | .ok a M => k a M
  | .exc c M => .exc c M
  | .bad => .bad
theorem FP.seq {β γ : Type} {K : PySem.W.Frag} {R : Hp → List Addr → γ → β → Prop} {H : Hp} {α : List Addr} {ξ : XK} {Dn : Ends} {Q1 : γ → Hp → Prop} {o : Out β} {f : β → Sto → Fl}
    (h : FP K H α ξ Dn (Zar o f)) (k : ∀ d M' v H' α', Ext K H H' α α' → HR K H' α' M' → R H' α' v d → FP K H' α' ξ Dn (f d M') → Q1 v H') : OG K R H α ξ Q1 o := by
  cases o with
  | ok d M' => exact fun v H' α' e hr r => k d M' v H' α' e hr r (FP.ext (o := f d M') h e)
  | exc c M' => exact h
  | bad => exact h
noncomputable def Zs (g h : Sv) : Sv := fun ρ M => match g ρ M with
  | .nx ρ1 M1 => h ρ1 M1
  | o => o
noncomputable def sNil : Sv := fun ρ M => .nx ρ M
noncomputable def ZM (f : Ev) : Sv := fun ρ M => Zar (f ρ M) fun d M1 => .ret d M1
noncomputable def Zlu : Sv := fun _ M => .ret .non M
noncomputable def Zby (f : Ev) : Sv := fun ρ M => Zar (f ρ M) fun _ M1 => .nx ρ M1
noncomputable def sIf (c : Tv) (g h : Sv) : Sv := fun ρ M => Zar (c ρ M) fun k M1 => if k = true then g ρ M1 else h ρ M1
noncomputable def Zq0 : Sv := fun ρ M => .brk ρ M
noncomputable def Zq1 : Sv := fun ρ M => .cnt ρ M
noncomputable abbrev Tg := D → Ro → Option Ro
noncomputable abbrev Tgs := List D → Ro → Option Ro
noncomputable def gNm (i : Nat) : Tg := fun d ρ => some (ρ.set i (some d))
noncomputable def gNl : Tgs := fun ds ρ => match ds with | [] => some ρ | _ => none
noncomputable def gCs (g : Tg) (gs : Tgs) : Tgs := fun ds ρ => match ds with | d :: r => (match g d ρ with | some ρ1 => gs r ρ1 | none => none) | [] => none
noncomputable def gTp (gs : Tgs) : Tg := fun d ρ => match d with | .tup ds => gs ds ρ | _ => none
noncomputable def ZI (g : Tg) (f : Ev) : Sv := fun ρ M => Zar (f ρ M) fun d M1 => match g d ρ with | some ρ1 => .nx ρ1 M1 | none => .bad
noncomputable def Zc0 (i j : Nat) (fs : Av) : Sv := fun ρ M => Zar (fs ρ M) fun ds M1 => match ds with | [v, w] => .nx ((ρ.set i (some v)).set j (some w)) M1 | _ => .bad
noncomputable def ZhP (fo fi fe : Ev) : Sv := fun ρ M => Zar (fe ρ M) fun d M1 => Zar (fo ρ M1) fun o M2 => Zar (fi ρ M2) fun i M3 => match o, i with
  | .ref n, .int k => (match M3[n]? with
    | some (.lst xs) => (match ixN xs.length k with | some j => .nx ρ (M3.set n (.lst (xs.set j d))) | none => .bad)
    | _ => .bad)
  | _, _ => .bad
section
variable {X : Cx} {ξ : XK} {st : Stmt} {sts : List Stmt} {g h : Sv} {e : Expr} {f : Ev} {pos : Pos} {c : Expr} {fc : Tv}
theorem Z5 : DSs X ξ [] sNil := ⟨_, Zi7, fun σ ρ H α M Dn s h q => q σ H α Ext.refl h s⟩
theorem Zi (h1 : DS X ξ st g) (h2 : DSs X ξ sts h) : DSs X ξ (st :: sts) (Zs g h) := by
  obtain ⟨t1, p1, q1⟩ := h1
  obtain ⟨t2, p2, q2⟩ := h2
  refine ⟨_, Zhs p1 p2, fun σ ρ H α M Dn s hh q => q1 σ ρ H α M { Dn with nx := t2 Dn } s hh ?_⟩
  unfold Zs at q
  cases e : g ρ M with
  | nx ρ1 M1 => rw [e] at q; exact fun σ' H' α' ex hr sr => q2 σ' ρ1 H' α' M1 Dn sr hr (FP.ext q ex)
  | brk ρ1 M1 => rw [e] at q; exact q
  | cnt ρ1 M1 => rw [e] at q; exact q
  | ret d M1 => rw [e] at q; exact q
  | exc c M1 => rw [e] at q; exact q
  | bad => rw [e] at q; exact q
theorem Zk (h1 : DS X ξ st g) : DSs X ξ [st] g := let ⟨_, p, q⟩ := h1; ⟨_, Zi8 p, q⟩
theorem ZD (he : DE X ξ e f) : DS X ξ (.Return (some e) pos) (ZM f) := by
  obtain ⟨t, p, q⟩ := he
  exact ⟨_, ZkU p, fun σ ρ H α M Dn s hh w => q σ ρ H α M _ s hh (FP.seq w fun d M1 v H1 α1 e1 h1 r1 w1 => w1 v H1 α1 Ext.refl h1 r1)⟩
theorem Zc1 (he : DE X ξ e f) (hs : swapsWith e none pos.line X.env = pure false := by rfl) : DS X ξ (.Expr e pos) (Zby f) := by
  obtain ⟨t, p, q⟩ := he
  exact ⟨_, Zi9 p hs, fun σ ρ H α M Dn s hh w => q σ ρ H α M _ s hh (FP.seq w fun d M1 v H1 α1 e1 h1 r1 w1 => w1 σ H1 α1 Ext.refl h1 (s.mono e1))⟩
theorem Zbz {a b : List Stmt} (hc : DT X ξ c fc) (ha : DSs X ξ a g) (hb : DSs X ξ b h) : DS X ξ (.If c a b pos) (sIf fc g h) := by
  obtain ⟨tc, pc, qc⟩ := hc
  obtain ⟨ta, pa, qa⟩ := ha
  obtain ⟨tb, pb, qb⟩ := hb
  refine ⟨_, ZnL pc pa pb, fun σ ρ H α M Dn s hh w => qc σ ρ H α M _ s hh (FP.seq w fun k M1 v H1 α1 e1 h1 r1 w1 => ?_)⟩
  cases r1
  cases k with
  | true => exact Ziw (qa σ ρ H1 α1 M1 Dn (s.mono e1) h1 w1)
  | false => exact Ziv (qb σ ρ H1 α1 M1 Dn (s.mono e1) h1 w1)
noncomputable def DG (X : Cx) (tg : Expr) (g : Tg) : Prop := ∃ t : TG, PG X tg t ∧ ∀ v d σ ρ H α ρ' Q, SR X.K H α σ ρ → Rep X.K H α v d → g d ρ = some ρ' → (∀ σ', SR X.K H α σ' ρ' → Q σ' H) → t v σ H Q
noncomputable def DGs (X : Cx) (tgs : List Expr) (g : Tgs) : Prop := ∃ t : TGs, PGs X tgs t ∧ ∀ vs ds σ ρ H α ρ' Q, SR X.K H α σ ρ → Reps X.K H α vs ds → g ds ρ = some ρ' → (∀ σ', SR X.K H α σ' ρ' → Q σ' H) → t vs σ H Q
theorem Zt (i : Nat) {x : Str} (hN : X.N.Nodup) (hi : X.N[i]? = some x := by rfl) (hx : Loc X.env.scope x := by first | exact Or.inl rfl | exact Or.inr rfl) (hf : X.fn x = true ∨ X.env.scope.names.lookup x = some .local := by first | exact .inl rfl | exact .inr rfl | assumption) : DG X (.Name x pos) (gNm i) := by
  refine ⟨_, Zja hN hi hx hf, fun v d σ ρ H α ρ' Q s r e k => ?_⟩
  cases e
  exact k _ (s.set i r)
theorem ZaS : DGs X [] gNl := by
  refine ⟨_, Zjb, fun vs ds σ ρ H α ρ' Q s r e k => ?_⟩
  cases r with
  | nil => cases e; exact ⟨rfl, k _ s⟩
  | cons _ _ => cases e
theorem ZA {es : List Expr} {g : Tg} {gs : Tgs} (h1 : DG X e g) (h2 : DGs X es gs) (hs : (assignEach (e :: es) X.env).map (·.2) = assign e X.env :: (assignEach es X.env).map (·.2) := by rfl) : DGs X (e :: es) (gCs g gs) := by
  obtain ⟨t1, p1, q1⟩ := h1
  obtain ⟨t2, p2, q2⟩ := h2
  refine ⟨_, Zht p1 p2 hs, fun vs ds σ ρ H α ρ' Q s r e k => ?_⟩
  cases r with
  | nil => cases e
  | cons r rr =>
    rename_i v d vs ds
    cases e1 : g d ρ with
    | none => simp only [gCs, e1] at e; cases e
    | some ρ1 =>
      simp only [gCs, e1] at e
      exact ⟨v, vs, rfl, q1 v d σ ρ H α ρ1 _ s r e1 fun σ' s' => q2 vs ds σ' ρ1 H α ρ' Q s' rr e k⟩
theorem ZbK {es : List Expr} {k : Nat} {gs : Tgs} {n : Nat} (hc : X.calm = true) (h : DGs X es gs) (hn : (assignEach es X.env).length = n := by rfl) (hlen : ∀ ds ρ ρ', gs ds ρ = some ρ' → ds.length = n) (hst : (assignEach es X.env).findIdx? (·.1) = none := by rfl) : DG X (.Tuple es k pos) (gTp gs) := by
  obtain ⟨t, p, q⟩ := h
  refine ⟨_, ZkW hc p hn hst, fun v d σ ρ H α ρ' Q s r e k => ?_⟩
  cases r with
  | @tup a xs ds hp rp =>
    have e' : gs ds ρ = some ρ' := e
    exact ⟨a, xs, rfl, hp, by rw [rp.length]; exact hlen ds ρ ρ' e', q xs ds σ ρ H α ρ' Q s rp e' k⟩
  | _ => cases e
theorem ZaT {ds : List D} {ρ ρ' : Ro} (h : gNl ds ρ = some ρ') : ds.length = 0 := by cases ds with | nil => rfl | cons _ _ => cases h
theorem ZP {g : Tg} {gs : Tgs} {n : Nat} (h : ∀ ds ρ ρ', gs ds ρ = some ρ' → ds.length = n) (ds : List D) (ρ ρ' : Ro) (e : gCs g gs ds ρ = some ρ') : ds.length = n + 1 := by
  cases ds with
  | nil => cases e
  | cons d r =>
    cases e1 : g d ρ with
    | none => simp only [gCs, e1] at e; cases e
    | some ρ1 => simp only [gCs, e1] at e; rw [List.length_cons, h r ρ1 ρ' e]
theorem Zw (i : Nat) {x : Str} {pos' : Pos} (hN : X.N.Nodup) (he : DE X ξ e f) (hi : X.N[i]? = some x := by rfl) (hx : Loc X.env.scope x := by first | exact Or.inl rfl | exact Or.inr rfl) (hs : swapsWith e (some (.Name x pos')) pos.line X.env = pure false := by rfl) (hf : X.fn x = true ∨ X.env.scope.names.lookup x = some .local := by first | exact .inl rfl | exact .inr rfl | assumption) :
    DS X ξ (.Assign [.Name x pos'] e pos) (ZI (gNm i) f) := by
  obtain ⟨t, p, q⟩ := he
  exact ⟨_, ZkY hN hi hx p hs hf, fun σ ρ H α M Dn s hh w => q σ ρ H α M _ s hh (FP.seq w fun d M1 v H1 α1 e1 h1 r1 w1 => w1 _ H1 α1 Ext.refl h1 ((s.mono e1).set i r1))⟩
theorem Zlv {tg : Expr} {gt : Tg} (he : DE X ξ e f) (hg : DG X tg gt) (hs : swapsWithSole [tg] e pos.line X.env = pure false := by rfl) (hw : swappedStores [tg] e X.env = pure none := by rfl)
    (h1 : (assignEach [tg] X.env).map (·.2) = [assign tg X.env] := by rfl) : DS X ξ (.Assign [tg] e pos) (ZI gt f) := by
  obtain ⟨t, p, q⟩ := he
  obtain ⟨tt, pt, qt⟩ := hg
  refine ⟨_, Zir p pt hs hw h1, fun σ ρ H α M Dn s hh w => q σ ρ H α M _ s hh (FP.seq w fun d M1 v H1 α1 e1 h1 r1 w1 => ?_)⟩
  cases eg : gt d ρ with
  | none => simp only [eg] at w1; exact w1.elim
  | some ρ1 =>
    simp only [eg] at w1
    exact qt v d σ ρ H1 α1 ρ1 _ (s.mono e1) r1 eg fun σ' s' => w1 σ' H1 α1 Ext.refl h1 s'
theorem ZdL (i j : Nat) {x y : Str} {a b : Expr} {fs : Av} {px py pt : Pos} {kt k2 pt2} (hc : X.calm = true) (hN : X.N.Nodup) (ha : DA X ξ [a, b] fs) (hi : X.N[i]? = some x := by rfl) (hj : X.N[j]? = some y := by rfl) (hij : i ≠ j := by decide)
    (hx : X.env.scope.names.lookup x = some .local := by rfl) (hy : X.env.scope.names.lookup y = some .local := by rfl)
    (hw : swappedStores [.Tuple [.Name x px, .Name y py] kt pt] (.Tuple [a, b] k2 pt2) X.env = pure (some [x, y]) := by rfl)
    (hs : swapsWithSole [.Tuple [.Name x px, .Name y py] kt pt] (.Tuple [a, b] k2 pt2) pos.line X.env = pure false := by rfl) :
    DS X ξ (.Assign [.Tuple [.Name x px, .Name y py] kt pt] (.Tuple [a, b] k2 pt2) pos) (Zc0 i j fs) := by
  obtain ⟨t, p, q⟩ := ha
  refine ⟨_, ZkZ hc hN hi hj hij hx hy p hw hs, fun σ ρ H α M Dn s hh w => q σ ρ H α M _ s hh (FP.seq w fun ds M1 vs H1 α1 e1 h1 r1 w1 => ?_)⟩
  match r1 with
  | .nil => exact w1.elim
  | .cons _ .nil => exact w1.elim
  | .cons _ (.cons _ (.cons _ _)) => exact w1.elim
  | .cons r (.cons r' .nil) => exact ⟨_, _, rfl, w1 _ H1 α1 Ext.refl h1 (((s.mono e1).set i r).set j r')⟩
theorem ZiC {o i : Expr} {fo fi : Ev} {pos' : Pos} (ho : DE X ξ o fo) (hi : DE X ξ i fi) (he : DE X ξ e f)
    (ha : ∀ v, assign (.Subscript o i pos') X.env v = (do
      let ov ← holding [v] (eval o X.env)
      let iv ← holding [v, ov] (eval i X.env)
      standAt pos'
      holding [v, ov, iv] (setItem ov iv v)
      release [v, ov, iv] []) := by intro _; rfl) (hs : swapsWithSole [.Subscript o i pos'] e pos.line X.env = pure false := by rfl) (hw : swappedStores [.Subscript o i pos'] e X.env = pure none := by rfl)
    (h1 : (assignEach [.Subscript o i pos'] X.env).map (·.2) = [assign (.Subscript o i pos') X.env] := by rfl) : DS X ξ (.Assign [.Subscript o i pos'] e pos) (ZhP fo fi f) := by
  obtain ⟨t, p, q⟩ := he
  obtain ⟨to, po, qo⟩ := ho
  obtain ⟨ti, pi, qi⟩ := hi
  refine ⟨_, Zir p (ZkX po pi ZhB ha) hs hw h1, fun σ ρ H α M Dn s hh w => q σ ρ H α M _ s hh (FP.seq w fun d M1 v H1 α1 e1 h1 r1 w1 => ?_)⟩
  refine qo σ ρ H1 α1 M1 _ (s.mono e1) h1 (FP.seq w1 fun od M2 ov H2 α2 e2 h2 r2 w2 => ?_)
  refine qi σ ρ H2 α2 M2 _ ((s.mono e1).mono e2) h2 (FP.seq w2 fun kd M3 kv H3 α3 e3 h3 r3 w3 => ?_)
  cases Rep.mono e3 r2 with
  | @ref p n hp =>
    cases r3 with
    | int k =>
      cases em : M3[n]? with
      | none => simp only [em] at w3; exact w3.elim
      | some so =>
        cases so with
        | lst ds =>
          cases ej : ixN ds.length k with
          | none => simp only [em, ej] at w3; exact w3.elim
          | some j =>
            simp only [em, ej] at w3
            obtain ⟨xs, g1, g2⟩ := h3.at hp em
            refine ⟨p, xs, k, j, rfl, rfl, g1, by rw [g2.length]; exact ej, ?_⟩
            exact w3 σ _ α3 (Ext.wr g1) (h3.wr hp g1 (Reps.set (Rep.mono e3 (Rep.mono e2 r1)) j g2)) ((((s.mono e1).mono e2).mono e3).mono (Ext.wr g1))
    | _ => exact w3.elim
  | _ => exact w3.elim
noncomputable def whN (c : Tv) (g : Sv) : Nat → Ro → Sto → Option Fl
  | 0, _, _ => none
  | n + 1, ρ, M => match c ρ M with
    | .ok true M1 => (match g ρ M1 with
      | .nx ρ2 M2 => whN c g n ρ2 M2
      | .cnt ρ2 M2 => whN c g n ρ2 M2
      | .brk ρ2 M2 => some (.nx ρ2 M2)
      | o => some o)
    | .ok false M1 => some (.nx ρ M1)
    | .exc e M1 => some (.exc e M1)
    | .bad => some .bad
theorem Zcg {c : Tv} {g : Sv} : ∀ {n : Nat} {ρ : Ro} {M : Sto} {o : Fl}, whN c g n ρ M = some o → ∀ k, whN c g (n + k) ρ M = some o
  | 0, _, _, _, e, _ => by simp only [whN] at e; cases e
  | n + 1, ρ, M, o, e, k => by
    have ek : n + 1 + k = (n + k) + 1 := by omega
    rw [ek]
    unfold whN at e ⊢
    cases ec : c ρ M with
    | bad => rw [ec] at e; exact e
    | exc x M1 => rw [ec] at e; exact e
    | ok b M1 =>
      rw [ec] at e
      cases b with
      | false => exact e
      | true =>
        cases eg : g ρ M1 with
        | nx ρ2 M2 => simp only [eg] at e ⊢; exact Zcg e k
        | cnt ρ2 M2 => simp only [eg] at e ⊢; exact Zcg e k
        | brk ρ2 M2 => simp only [eg] at e ⊢; exact e
        | ret d M2 => simp only [eg] at e ⊢; exact e
        | exc x M2 => simp only [eg] at e ⊢; exact e
        | bad => simp only [eg] at e ⊢; exact e
open Classical in
noncomputable def sWh (c : Tv) (g : Sv) : Sv := fun ρ M => if h : ∃ o n, whN c g n ρ M = some o then Classical.choose h else .bad
theorem Zb3 {c : Tv} {g : Sv} {n : Nat} {ρ : Ro} {M : Sto} {o : Fl} (e : whN c g n ρ M = some o) : sWh c g ρ M = o := by
  have hx : ∃ o n, whN c g n ρ M = some o := ⟨o, n, e⟩
  unfold sWh
  rw [dif_pos hx]
  obtain ⟨m, em⟩ := Classical.choose_spec hx
  have h1 := Zcg em n
  have h2 := Zcg e m
  rw [Nat.add_comm] at h2
  rw [h1] at h2
  exact Option.some.inj h2
theorem Zgo {c : Tv} {g : Sv} {ρ : Ro} {M : Sto} (e : sWh c g ρ M ≠ .bad) : ∃ n, whN c g n ρ M = some (sWh c g ρ M) := by
  by_cases hx : ∃ o n, whN c g n ρ M = some o
  · obtain ⟨o, n, h⟩ := hx
    exact ⟨n, by rw [Zb3 h]; exact h⟩
  · unfold sWh at e
    rw [dif_neg hx] at e
    exact absurd rfl e
theorem ZdM {c : Tv} {g : Sv} {ρ : Ro} {M M1 : Sto} (h : c ρ M = .ok false M1) : sWh c g ρ M = .nx ρ M1 := Zb3 (n := 1) (by simp only [whN, h])
theorem ZeY {c : Tv} {g : Sv} {ρ ρ2 : Ro} {M M1 M2 : Sto} (h : c ρ M = .ok true M1) (h2 : g ρ M1 = .nx ρ2 M2) (hb : sWh c g ρ2 M2 ≠ .bad) : sWh c g ρ M = sWh c g ρ2 M2 := by
  obtain ⟨n, e⟩ := Zgo hb
  exact Zb3 (n := n + 1) (by simp only [whN, h, h2]; exact e)
theorem ZeZ {body : List Stmt} (hp : PassesOwn (model X.prog X.w) X.A X.env X.xe) (hc : DT X ξ c fc) (hb : DSs X ξ body g) : DS X ξ (.While c body [] pos) (sWh fc g) := by
  obtain ⟨tc, pc, qc⟩ := hc
  obtain ⟨tb, pb, qb⟩ := hb
  refine ⟨_, Zhu hp pc pb, fun σ ρ H α M Dn s hh w => ?_⟩
  have nb : sWh fc g ρ M ≠ .bad := fun z => by rw [z] at w; exact w
  obtain ⟨n, en⟩ := Zgo nb
  generalize sWh fc g ρ M = o at w en
  refine ⟨fun m σ' H' => ∃ ρ' α' M', Ext X.K H H' α α' ∧ SR X.K H' α' σ' ρ' ∧ HR X.K H' α' M' ∧ whN fc g m ρ' M' = some o, ⟨n, ρ, α, M, Ext.refl, s, hh, en⟩, ?_⟩
  rintro m σ1 H1 ⟨ρ1, α1, M1, e1, s1, h1, en1⟩
  cases m with
  | zero => simp only [whN] at en1; cases en1
  | succ m =>
    refine qc σ1 ρ1 H1 α1 M1 _ s1 h1 ?_
    unfold whN at en1
    cases ec : fc ρ1 M1 with
    | bad => rw [ec] at en1; cases en1; exact w.elim
    | exc x M2 =>
      rw [ec] at en1; cases en1
      exact fun C H' α' nn ex hr => w C H' α' nn (e1.trans ex) hr
    | ok b M2 =>
      rw [ec] at en1
      intro v H2 α2 e2 h2 ev
      cases ev
      cases b with
      | false =>
        cases en1
        exact Ziv (w σ1 H2 α2 (e1.trans e2) h2 (s1.mono e2))
      | true =>
        refine Ziw ⟨fun σ' H' => ∃ ρ' α' M', Ext X.K H H' α α' ∧ SR X.K H' α' σ' ρ' ∧ HR X.K H' α' M' ∧ whN fc g m ρ' M' = some o, fun σ' H' z => ⟨m, Nat.lt_succ_self m, z⟩, ?_⟩
        refine qb σ1 ρ1 H2 α2 M2 _ (s1.mono e2) h2 ?_
        have e12 := e1.trans e2
        cases eg : g ρ1 M2 with
        | nx ρ2 M3 => simp only [eg] at en1; exact fun σ' H' α' ex hr sr => ⟨ρ2, α', M3, e12.trans ex, sr, hr, en1⟩
        | cnt ρ2 M3 => simp only [eg] at en1; exact fun σ' H' α' ex hr sr => ⟨ρ2, α', M3, e12.trans ex, sr, hr, en1⟩
        | brk ρ2 M3 => simp only [eg] at en1; cases en1; exact fun σ' H' α' ex hr sr => w σ' H' α' (e12.trans ex) hr sr
        | ret d M3 => simp only [eg] at en1; cases en1; exact fun v H' α' ex hr sr => w v H' α' (e12.trans ex) hr sr
        | exc x M3 => simp only [eg] at en1; cases en1; exact fun C H' α' nn ex hr => w C H' α' nn (e12.trans ex) hr
        | bad => simp only [eg] at en1; cases en1; exact w.elim
noncomputable def Zbt (tg : Tg) (g : Sv) : List D → Ro → Sto → Fl
  | [], ρ, M => .nx ρ M
  | d :: r, ρ, M => match tg d ρ with
    | none => .bad
    | some ρ1 => (match g ρ1 M with
      | .nx ρ2 M2 => Zbt tg g r ρ2 M2
      | .cnt ρ2 M2 => Zbt tg g r ρ2 M2
      | .brk ρ2 M2 => .nx ρ2 M2
      | o => o)
noncomputable def Zgp (tg : Tg) (g : Sv) (n : Nat) : Nat → Nat → Ro → Sto → Fl
  | f, i, ρ, M => match M[n]? with
    | some (.lst xs) => (match xs[i]? with
      | none => .nx ρ M
      | some d => (match f with
        | 0 => .bad
        | f + 1 => (match tg d ρ with
          | none => .bad
          | some ρ1 => (match g ρ1 M with
            | .nx ρ2 M2 => Zgp tg g n f (i + 1) ρ2 M2
            | .cnt ρ2 M2 => Zgp tg g n f (i + 1) ρ2 M2
            | .brk ρ2 M2 => .nx ρ2 M2
            | o => o))))
    | none => .bad
noncomputable def Zbi (lo : Int) (n : Nat) : List D := (List.range n).map fun (i : Nat) => D.int (lo + i)
noncomputable def ZiD (tg : Tg) (g : Sv) (d : D) (ρ : Ro) (M : Sto) : Fl := match d with
  | .tup xs => Zbt tg g xs ρ M
  | .rol xs => Zbt tg g xs ρ M
  | .ref n => (match M[n]? with | some (.lst xs) => Zgp tg g n xs.length 0 ρ M | none => .bad)
  | _ => .bad
noncomputable def ZkD (tg : Tg) (f : Ev) (g : Sv) : Sv := fun ρ M => Zar (f ρ M) fun d M1 => ZiD tg g d ρ M1
noncomputable def Zba (tg : Tg) (fs : Av) (g : Sv) : Sv := fun ρ M => Zar (fs ρ M) fun ds M1 => match ds with
  | [.int j] => if -(2 ^ 62) ≤ j ∧ j < 2 ^ 62 then Zbt tg g (Zbi 0 j.toNat) ρ M1 else .bad
  | _ => .bad
noncomputable def Zgq (tg : Tg) (fs : Av) (g : Sv) : Sv := fun ρ M => Zar (fs ρ M) fun ds M1 => match ds with
  | [.int i, .int j] => if -(2 ^ 62) ≤ i ∧ i < 2 ^ 62 ∧ -(2 ^ 62) ≤ j ∧ j < 2 ^ 62 then Zbt tg g (Zbi i (j - i).toNat) ρ M1 else .bad
  | _ => .bad
theorem ZhQ {lo : Int} {n i : Nat} (h : i < n) : (Zbi lo n)[i]? = some (.int (lo + i)) := by
  unfold Zbi
  rw [List.getElem?_map, List.getElem?_range h]
  rfl
theorem Ze0 {lo : Int} {n : Nat} : (Zbi lo n).length = n := by unfold Zbi; rw [List.length_map, List.length_range]
theorem Zgr {lo : Int} {n i : Nat} (h : i < n) : (Zbi lo n).drop i = .int (lo + i) :: (Zbi lo n).drop (i + 1) := by
  have hl : i < (Zbi lo n).length := by rw [Ze0]; exact h
  have e := ZhQ (lo := lo) h
  rw [List.getElem?_eq_getElem hl] at e
  rw [List.drop_eq_getElem_cons hl, Option.some.inj e]
theorem ZhR {tg : Expr} {gt : Tg} {tt : TG} {tb : TS} {Dn : Ends} {H H1 : Hp} {α α1 : List Addr} {o : Fl} {k : Ro → Sto → Fl} (w : FP X.K H α ξ Dn o)
    (qt : ∀ v d σ ρ H α ρ' Q, SR X.K H α σ ρ → Rep X.K H α v d → gt d ρ = some ρ' → (∀ σ', SR X.K H α σ' ρ' → Q σ' H) → tt v σ H Q) (qb : ∀ σ ρ H α M Dn, SR X.K H α σ ρ → HR X.K H α M → FP X.K H α ξ Dn (g ρ M) → tb Dn σ H)
    {v : V} {d : D} {σ1 : L2.St} {ρ1 : Ro} {M1 : Sto} (e1 : Ext X.K H H1 α α1) (s1 : SR X.K H1 α1 σ1 ρ1) (h1 : HR X.K H1 α1 M1) (r : Rep X.K H1 α1 v d)
    (en : (match gt d ρ1 with | none => Fl.bad | some ρ2 => (match g ρ2 M1 with | .nx ρ3 M3 => k ρ3 M3 | .cnt ρ3 M3 => k ρ3 M3 | .brk ρ3 M3 => .nx ρ3 M3 | o => o)) = o)
    {N : L2.St → Hp → Prop} (hN : ∀ σ' H', (∃ ρ' α' M', Ext X.K H H' α α' ∧ SR X.K H' α' σ' ρ' ∧ HR X.K H' α' M' ∧ k ρ' M' = o) → N σ' H') : tt v σ1 H1 fun σ2 H2 => tb { Dn with nx := N, ct := N, bk := Dn.nx } σ2 H2 := by
  cases eg : gt d ρ1 with
  | none => rw [eg] at en; cases en; exact w.elim
  | some ρ2 =>
    simp only [eg] at en
    refine qt v d σ1 ρ1 H1 α1 ρ2 _ s1 r eg fun σ2 s2 => qb σ2 ρ2 H1 α1 M1 _ s2 h1 ?_
    cases ex : g ρ2 M1 with
    | nx ρ3 M3 => simp only [ex] at en; exact fun σ' H' α' e2 hr sr => hN _ _ ⟨ρ3, α', M3, e1.trans e2, sr, hr, en⟩
    | cnt ρ3 M3 => simp only [ex] at en; exact fun σ' H' α' e2 hr sr => hN _ _ ⟨ρ3, α', M3, e1.trans e2, sr, hr, en⟩
    | brk ρ3 M3 => simp only [ex] at en; cases en; exact fun σ' H' α' e2 hr sr => w σ' H' α' (e1.trans e2) hr sr
    | ret d M3 => simp only [ex] at en; cases en; exact fun v H' α' e2 hr sr => w v H' α' (e1.trans e2) hr sr
    | exc x M3 => simp only [ex] at en; cases en; exact fun C H' α' nn e2 hr => w C H' α' nn (e1.trans e2) hr
    | bad => simp only [ex] at en; cases en; exact w.elim
theorem Zlw {tg : Expr} {gt : Tg} {tt : TG} {tb : TS} {Dn : Ends} {H : Hp} {α : List Addr} {lo : Int} {n : Nat} {σ : L2.St} {ρ : Ro} {M : Sto}
    (qt : ∀ v d σ ρ H α ρ' Q, SR X.K H α σ ρ → Rep X.K H α v d → gt d ρ = some ρ' → (∀ σ', SR X.K H α σ' ρ' → Q σ' H) → tt v σ H Q) (qb : ∀ σ ρ H α M Dn, SR X.K H α σ ρ → HR X.K H α M → FP X.K H α ξ Dn (g ρ M) → tb Dn σ H)
    (s : SR X.K H α σ ρ) (hh : HR X.K H α M) (w : FP X.K H α ξ Dn (Zbt gt g (Zbi lo n) ρ M)) :
    ∃ W : Nat → Nat → L2.St → Hp → Prop, (∃ m, W 0 m σ H) ∧ ∀ i m σ H, W i m σ H →
      ((Itr lo n).stop i H ∧ Dn.nx σ H) ∨ ((Itr lo n).go i H ∧ ∃ N : L2.St → Hp → Prop, (∀ σ' H', N σ' H' → ∃ m', m' < m ∧ W (i + 1) m' σ' H') ∧ ∀ x H', (Itr lo n).yld i H x H' → tt x σ H' fun σ2 H2 => tb { Dn with nx := N, ct := N, bk := Dn.nx } σ2 H2) := by
  generalize ho : Zbt gt g (Zbi lo n) ρ M = o at w
  refine ZfX (fun i σ' H' => ∃ ρ' α' M', Ext X.K H H' α α' ∧ SR X.K H' α' σ' ρ' ∧ HR X.K H' α' M' ∧ Zbt gt g ((Zbi lo n).drop i) ρ' M' = o) ⟨ρ, α, M, Ext.refl, s, hh, ho⟩ ?_ ?_
  · rintro i σ1 H1 hi ⟨ρ1, α1, M1, e1, s1, h1, en⟩
    rw [Zgr hi] at en
    exact ZhR (tg := tg) w qt qb e1 s1 h1 (.int (lo + i)) en (fun σ' H' z => z)
  · rintro σ1 H1 ⟨ρ1, α1, M1, e1, s1, h1, en⟩
    rw [List.drop_eq_nil_of_le (by rw [Ze0]; exact Nat.le_refl _)] at en
    cases en
    exact w σ1 H1 α1 e1 h1 s1
theorem ZbL {tg a : Expr} {gt : Tg} {fs : Av} {body : List Stmt} {p p2 : Pos} (hp : PassesOwn (model X.prog X.w) X.A X.env X.xe) (hm : X.mg "range" = none) (ha : DA X ξ [a] fs) (hg : DG X tg gt) (hb : DSs X ξ body g)
    (hgl : Gl X "range" := by rfl) (hs : starEach [a] X.env = [(false, eval a X.env)] := by rfl) (hf : ∀ x, foldedSetIterable (.Call (.Name "range" p) [a] [] p2) X.env x = pure x := by intro _; rfl) : DS X ξ (.For tg (.Call (.Name "range" p) [a] [] p2) body [] pos) (Zba gt fs g) := by
  obtain ⟨ta, pa, qa⟩ := ha
  obtain ⟨tt, pt, qt⟩ := hg
  obtain ⟨tb, pb, qb⟩ := hb
  refine ⟨_, ZfW hp (ZfU hgl hm pa hs) pt pb hf, fun σ ρ H α M Dn s hh w => qa σ ρ H α M _ s hh (FP.seq w fun ds M1 vs H1 α1 e1 h1 r1 w1 => ?_)⟩
  match r1 with
  | .nil => exact w1.elim
  | .cons r (.cons _ _) => cases r <;> exact w1.elim
  | .cons r .nil =>
    cases r with
    | int j =>
      by_cases c : -(2 ^ 62) ≤ j ∧ j < 2 ^ 62
      · simp only [if_pos c] at w1
        exact ⟨j, rfl, c.1, c.2, Zlw (tg := tg) qt qb (s.mono e1) h1 w1⟩
      · simp only [if_neg c] at w1
        exact w1.elim
    | _ => exact w1.elim
noncomputable def Zq2 (K : PySem.W.Frag) (tl : TE) : TI := fun σ H R => tl σ H fun x H1 => ∃ a, x = .ref a ∧ (((∃ xs, SqL K H1 a xs) ∧ R (Itl K a) H1) ∨ ((∃ xs, SqT K H1 a xs) ∧ R (Itt K a) H1))
theorem ZiE {tg l : Expr} {tl : TE} (hl : PE X l tl) : PI X tg l (Zq2 X.K tl) := by
  intro pins s σ H R I h
  refine thn (hl pins s σ H _ I h) fun v s1 ⟨x, H1, I1, r1, q1⟩ => ?_
  obtain ⟨a, e, q⟩ := q1
  subst e
  cases r1
  have fp : ∀ b ∈ [s1.heap.objs.size], ZcE X pins H1 b := fun b hb => by
    have e : b = s1.heap.objs.size := by simpa using hb
    subst e
    exact I1.fpOk (Nat.le_refl _) (I1.hok.fresh (Nat.le_refl _))
  rcases q with ⟨⟨xs, hq⟩, q⟩ | ⟨⟨xs, hq⟩, q⟩
  · obtain ⟨its, rv, p, hz⟩ := I1.list hq
    refine wpAny_pyIter_list p.isList ?_
    exact ⟨s1.heap.objs.size, [s1.heap.objs.size], _, _, H1, rfl, I1.kept (t' := s1.toks) fun b o e => Heap.get?_push_of_some _ e, ZfT a _, ⟨_, Heap.get?_push_size _ rfl, rfl, rfl⟩, fp, q⟩
  · obtain ⟨its, rv, p, hz⟩ := I1.tuple hq
    refine wpAny_pyIter_tuple (show s1.heap.IsTuple a its.toArray from p) ?_
    exact ⟨s1.heap.objs.size, [s1.heap.objs.size], _, _, H1, rfl, I1.kept (t' := s1.toks) fun b o e => Heap.get?_push_of_some _ e, Zfi a _, ⟨_, Heap.get?_push_size _ rfl, rfl, rfl⟩, fp, q⟩
theorem Zlx {tg l : Expr} {gt : Tg} {f : Ev} {body : List Stmt} (hp : PassesOwn (model X.prog X.w) X.A X.env X.xe) (hl : DE X ξ l f) (hg : DG X tg gt) (hb : DSs X ξ body g)
    (hf : ∀ x, foldedSetIterable l X.env x = pure x := by intro _; rfl) : DS X ξ (.For tg l body [] pos) (ZkD gt f g) := by
  obtain ⟨ta, pa, qa⟩ := hl
  obtain ⟨tt, pt, qt⟩ := hg
  obtain ⟨tb, pb, qb⟩ := hb
  refine ⟨_, ZfW hp (ZiE pa) pt pb hf, fun σ ρ H α M Dn s hh w => qa σ ρ H α M _ s hh (FP.seq w fun d M1 v H1 α1 e1 h1 r1 w1 => ?_)⟩
  have s1 := s.mono e1
  have pure_ : ∀ (ds : List D) (xs : List V), Reps X.K H1 α1 xs ds → FP X.K H1 α1 ξ Dn (Zbt gt g ds ρ M1) → ∀ (i : Nat) σ' H', (∃ ρ' α' M', Ext X.K H1 H' α1 α' ∧ SR X.K H' α' σ' ρ' ∧ HR X.K H' α' M' ∧ Zbt gt g (ds.drop i) ρ' M' = Zbt gt g ds ρ M1) →
      (∀ x, xs[i]? = some x → tt x σ' H' fun σ2 H2 => tb { Dn with nx := fun σ H => ∃ ρ' α' M', Ext X.K H1 H α1 α' ∧ SR X.K H α' σ ρ' ∧ HR X.K H α' M' ∧ Zbt gt g (ds.drop (i + 1)) ρ' M' = Zbt gt g ds ρ M1, ct := fun σ H => ∃ ρ' α' M', Ext X.K H1 H α1 α' ∧ SR X.K H α' σ ρ' ∧ HR X.K H α' M' ∧ Zbt gt g (ds.drop (i + 1)) ρ' M' = Zbt gt g ds ρ M1, bk := Dn.nx } σ2 H2) ∧
      (i = xs.length → Dn.nx σ' H') := by
    intro ds xs r w1 i σ' H' ⟨ρ', α', M', ex, sr, hr, en⟩
    refine ⟨fun x hx => ?_, fun hi => ?_⟩
    · have hi : i < ds.length := by rw [← r.length]; exact (List.getElem?_eq_some_iff.mp hx).1
      obtain ⟨v, g1, g2⟩ := r.get (List.getElem?_eq_getElem hi)
      rw [hx] at g1
      cases g1
      rw [List.drop_eq_getElem_cons hi] at en
      exact ZhR (tg := tg) w1 qt qb ex sr hr (Rep.mono ex g2) en (fun σ' H' z => z)
    · rw [hi, r.length, List.drop_length] at en
      have en' : Fl.nx ρ' M' = Zbt gt g ds ρ M1 := en
      rw [← en'] at w1
      exact w1 σ' H' α' ex hr sr
  cases r1 with
  | @tup p xs ds hp rp =>
    have w2 : FP X.K H1 α1 ξ Dn (Zbt gt g ds ρ M1) := w1
    refine ⟨p, rfl, .inr ⟨⟨xs, hp⟩, Zjd (K := X.K) (a := p) (xs := xs) (fun i σ' H' => ∃ ρ' α' M', Ext X.K H1 H' α1 α' ∧ SR X.K H' α' σ' ρ' ∧ HR X.K H' α' M' ∧ Zbt gt g (ds.drop i) ρ' M' = Zbt gt g ds ρ M1) ⟨ρ, α1, M1, Ext.refl, s1, h1, rfl⟩ ?_ ?_ ?_⟩⟩
    · rintro i σ' H' _ ⟨ρ', α', M', ex, _⟩
      exact ex.tup _ _ hp
    · intro i x σ' H' hx z
      exact (pure_ ds xs rp w2 i σ' H' z).1 x hx
    · intro σ' H' z
      exact (pure_ ds xs rp w2 _ σ' H' z).2 rfl
  | @rol p xs ds hp rp =>
    have w2 : FP X.K H1 α1 ξ Dn (Zbt gt g ds ρ M1) := w1
    refine ⟨p, rfl, .inl ⟨⟨xs, hp.sq⟩, Zhw (K := X.K) (a := p) (xs := xs) (fun i σ' H' => ∃ ρ' α' M', Ext X.K H1 H' α1 α' ∧ SR X.K H' α' σ' ρ' ∧ HR X.K H' α' M' ∧ Zbt gt g (ds.drop i) ρ' M' = Zbt gt g ds ρ M1) ⟨ρ, α1, M1, Ext.refl, s1, h1, rfl⟩ ?_ ?_ ?_⟩⟩
    · rintro i σ' H' _ ⟨ρ', α', M', ex, _⟩
      exact (ex.rol _ _ hp).sq
    · intro i x σ' H' hx z
      exact (pure_ ds xs rp w2 i σ' H' z).1 x hx
    · intro σ' H' z
      exact (pure_ ds xs rp w2 _ σ' H' z).2 rfl
  | @ref p n hp =>
    cases em : M1[n]? with
    | none => simp only [ZiD, em] at w1; exact w1.elim
    | some so =>
      cases so with
      | lst ds =>
        simp only [ZiD, em] at w1
        obtain ⟨xs0, g0, r0⟩ := h1.at hp em
        generalize eo : Zgp gt g n ds.length 0 ρ M1 = o at w1
        refine ⟨p, rfl, .inl ⟨⟨xs0, SqL.of g0⟩, fun i m σ' H' => ∃ ρ' α' M', Ext X.K H1 H' α1 α' ∧ SR X.K H' α' σ' ρ' ∧ HR X.K H' α' M' ∧ Zgp gt g n m i ρ' M' = o, ⟨ds.length, ρ, α1, M1, Ext.refl, s1, h1, eo⟩, ?_⟩⟩
        rintro i m σ' H' ⟨ρ', α', M', ex, sr, hr, en⟩
        unfold Zgp at en
        cases em2 : M'[n]? with
        | none => simp only [em2] at en; cases en; exact w1.elim
        | some so2 =>
          cases so2 with
          | lst ds2 =>
            simp only [em2] at en
            obtain ⟨xs, g1, g2⟩ := hr.at (ex.get hp) em2
            cases ei : ds2[i]? with
            | none =>
              simp only [ei] at en
              cases en
              refine .inl ⟨⟨xs, SqL.of g1, ?_⟩, w1 σ' H' α' ex hr sr⟩
              rw [g2.length]
              exact List.getElem?_eq_none_iff.mp ei
            | some d =>
              simp only [ei] at en
              obtain ⟨v, k1, k2⟩ := g2.get ei
              cases m with
              | zero => cases en; exact w1.elim
              | succ m =>
                refine .inr ⟨⟨xs, v, SqL.of g1, k1⟩, fun σ2 H2 => ∃ ρ' α' M', Ext X.K H1 H2 α1 α' ∧ SR X.K H2 α' σ2 ρ' ∧ HR X.K H2 α' M' ∧ Zgp gt g n m (i + 1) ρ' M' = o, fun σ2 H2 z => ⟨m, Nat.lt_succ_self m, z⟩, fun x H2 y => ?_⟩
                obtain ⟨ey, y⟩ := y
                subst ey
                have ev := y xs (SqL.of g1)
                rw [k1] at ev
                cases ev
                exact ZhR (tg := tg) w1 qt qb ex sr hr k2 en (fun σ' H' z => z)
  | _ => exact w1.elim
end
noncomputable def fnF (g : Sv) (n k : Nat) : List D → Sto → Out D := fun ds M => if ds.length = n then (match g (ds.map some ++ List.replicate k none) M with
  | .ret d M' => .ok d M'
  | .nx _ M' => .ok .non M'
  | .exc c M' => .exc c M'
  | _ => .bad) else .bad
noncomputable def spD (K : PySem.W.Frag) (F : List D → Sto → Out D) : Sp := fun vs H Q E => ∃ ds α M, Reps K H α vs ds ∧ HR K H α M ∧ OP K H α E Q (F ds M)
theorem ZdN : ∀ {ds : List D} {k i : Nat} {d : D}, (ds.map some ++ List.replicate k none)[i]? = some (some d) → ds[i]? = some d
  | [], k, i, d, h => by
    rw [List.map_nil, List.nil_append] at h
    have := List.mem_of_getElem? h
    rw [List.mem_replicate] at this
    cases this.2
  | x :: r, k, 0, d, h => by simpa using h
  | x :: r, k, i + 1, d, h => by
    rw [List.map_cons, List.cons_append, List.getElem?_cons_succ] at h
    rw [List.getElem?_cons_succ]
    exact ZdN h
theorem SR.start {K : PySem.W.Frag} {H : Hp} {α : List Addr} {N : List Str} {vs : List V} {ds : List D} {k : Nat} (r : Reps K H α vs ds) (hk : k = N.length - ds.length) : SR K H α (start N vs) (ds.map some ++ List.replicate k none) := by
  unfold L2.start
  refine ⟨by simp only [List.length_append, List.length_map, List.length_replicate, r.length, hk], fun i d h => ?_⟩
  obtain ⟨v, h1, h2⟩ := r.get (ZdN h)
  refine ⟨v, ?_, h2⟩
  have hl : i < vs.length := (List.getElem?_eq_some_iff.mp h1).1
  rw [List.getElem?_append_left (by rw [List.length_map]; exact hl), List.getElem?_map, h1]
  rfl
section
variable {P : Program} {w : World} {K : PySem.W.Frag} {mg : Str → Option Value} {base : Heap}
theorem Zas {x qual : Str} {st : Stmt} {f : Addr} {fd : FuncData} {N ps : List Str} {k n m : Nat} {g : Sv} (F : Fun K x qual st f fd) (S : FnScope N ps (Zg st)) (hn : n = ps.length) (hm : m = N.length - n)
    (hb : ∀ (cdv : Value) (A : Around) (outer : List Env) (s : Shared) (H : Hp) (E : XK), Room k (A.deeper (envOfC qual (Zg st) s.heap.objs.size f cdv)) → Thr (ZdC (CXE P w) P w K mg base N qual (Zg st) f cdv A outer s H E) E → DSs (ZdC (CXE P w) P w K mg base N qual (Zg st) f cdv A outer s H E) E (Zm st) g) :
    FnOk P w K mg base (CXE P w) (k + 1) f fd ps (spD K (fnF g n m)) := by
  obtain ⟨oc, od, kV, doc, pm, an, cdv, ct, osl, rfl, lk, hcd⟩ := F.ex
  refine Zk9 lk hcd S (fun vs H Q E h => ?_) (fun A outer s H vs Q E hr h => ?_)
  · obtain ⟨ds, α, M, r, _, q⟩ := h
    by_cases c : ds.length = n
    · rw [r.length, c, hn]
    · simp only [fnF, if_neg c] at q
      exact q.elim
  · obtain ⟨ds, α, M, r, hh, q⟩ := h
    obtain ⟨t, p, w'⟩ := hb cdv A outer s H E hr Zlt
    by_cases c : ds.length = n
    · simp only [fnF, if_pos c] at q
      refine ⟨t, p, w' _ _ H α M _ (SR.start (N := N) r (k := m) (by rw [hm, c])) hh ?_⟩
      cases e : g (ds.map some ++ List.replicate m none) M with
      | nx ρ' M' => simp only [e] at q; exact fun σ' H' α' ex hr sr => q _ H' α' ex hr .non
      | ret d M' => simp only [e] at q; exact q
      | exc x M' => simp only [e] at q; exact q
      | brk ρ' M' => simp only [e] at q; exact q.elim
      | cnt ρ' M' => simp only [e] at q; exact q.elim
      | bad => simp only [e] at q; exact q.elim
    · simp only [fnF, if_neg c] at q
      exact q.elim
end
section
variable {X : Cx} {ξ : XK} {k : Nat} {f : Addr} {fd : FuncData} {ps : List Str} {F : List D → Sto → Out D} {x : Str} {p pos : Pos} {e : Expr} {es : List Expr} {fs : Av}
theorem Zjw (G : FnOk X.prog X.w X.K X.mg X.base (CXE X.prog X.w) k f fd ps (spD X.K F)) (T : Thr X ξ) (hr : Room k X.A) (hm : X.mg x = some (.ref f)) (hk : PySem.W.keepIn X.K (.ref f) = true) (hb : Zei X.K fd ps []) (ha : DA X ξ (e :: es) fs) (hg : Gl X x := by rfl)
    (hdb : (x == ("__debug__" : Str)) = false := by decide) (he : starEach (e :: es) X.env = (false, eval e X.env) :: starEach es X.env := by rfl) (hpl : (backTo pos (starEach es X.env)).any (·.1) = false := by rfl) : DE X ξ (.Call (.Name x p) (e :: es) [] pos) (Zh F fs) := by
  obtain ⟨t, pa, qa⟩ := ha
  refine ⟨_, Zjh G hr hg hm hk hb .nil T.ps pa hdb he hpl, fun σ ρ H α M Q s hh q => qa σ ρ H α M _ s hh (OG.seq q fun ds M1 vs H1 α1 e1 h1 r1 q1 => ?_)⟩
  rw [List.append_nil]
  exact ⟨ds, α1, M1, r1, h1, q1⟩
end
end DL
end
section
set_option Elab.async false
set_option linter.all false
set_option maxRecDepth 100000
set_option maxHeartbeats 4000000
namespace DL
open PySem PySem.Spec PyProof.Rows L2
theorem ZcK : bootBuiltins "abs" = some (.builtin "abs") := by decide +kernel
theorem ZcL : bootBuiltins "int" = some (.type "int") := by decide +kernel
theorem Zjx : bootBuiltins "bool" = some (.type "bool") := by decide +kernel
theorem Zc2 : bootBuiltins "list" = some (.type "list") := by decide +kernel
theorem ZdO : bootBuiltins "max" = some (.builtin "max") := by decide +kernel
theorem ZiF : bootBuiltins "min" = some (.builtin "min") := by decide +kernel
noncomputable def Cal (P : Program) (w : World) (K : PySem.W.Frag) (mg : Str → Option Value) (base : Heap) (x : Str) (k n : Nat) (F : List D → Sto → Out D) : Prop :=
  ∃ (f : Addr) (fd : FuncData) (ps : List Str), FnOk P w K mg base (CXE P w) k f fd ps (spD K F) ∧ mg x = some (.ref f) ∧ PySem.W.keepIn K (.ref f) = true ∧ ps.length = n ∧ Zei K fd ps []
theorem Zj {X : Cx} {ξ : XK} {k n : Nat} {F : List D → Sto → Out D} {x : Str} {p pos : Pos} {e : Expr} {es : List Expr} {fs : Av} (C : Cal X.prog X.w X.K X.mg X.base x k n F) (T : Thr X ξ) (hr : Room k X.A) (ha : DA X ξ (e :: es) fs) (hg : Gl X x := by rfl)
    (hdb : (x == ("__debug__" : Str)) = false := by decide) (he : starEach (e :: es) X.env = (false, eval e X.env) :: starEach es X.env := by rfl) (hpl : (backTo pos (starEach es X.env)).any (·.1) = false := by rfl) : DE X ξ (.Call (.Name x p) (e :: es) [] pos) (Zh F fs) := by
  obtain ⟨f, fd, ps, G, hm, hk, _, hb⟩ := C
  exact Zjw G T hr hm hk hb ha hg hdb he hpl
theorem Zly {K : PySem.W.Frag} {H : Hp} {a : Addr} {ns : List Int} {n : Nat} {F : List D → Sto → Out D} (hl : ns.length ≤ n) (hO : Znx H) (hS : SqL K H a (ns.map V.int)) (h : ∃ M', F [.rol (ns.map D.int)] [] = .ok (.bl true) M') :
    spD K F [.ref a] H (fun v _ => v = .bl true) (fun _ _ _ => False) := by
  obtain ⟨M', e⟩ := h
  have hF : SqF K H a (ns.map V.int) := by
    rcases hS with (h | ⟨o, h⟩) | h
    · rcases hO a with z | ⟨o, xs, z⟩
      · rw [h] at z; cases z
      · rw [h] at z; cases z
    · exact .inl ⟨o, h⟩
    · exact .inr h
  refine ⟨[.rol (ns.map D.int)], [], [], .cons (.rol hF (Reps.ints ns)) .nil, HR.nil, ?_⟩
  rw [e]
  intro v H' α' _ _ r
  cases r
  rfl
end DL
end
section
set_option Elab.async false
set_option linter.all false
set_option maxRecDepth 100000
set_option maxHeartbeats 4000000
namespace DL
open PySem PySem.Spec PyProof.Rows L2
inductive Src where
  | pur (ds : List D)
  | sto (n : Nat)
  | zip (n m : Nat)
  | enu (n : Nat)
  | rev (n l : Nat)
noncomputable def nxt (src : Src) (i : Nat) (M : Sto) : Option (Option D) := match src with
  | .pur ds => some ds[i]?
  | .sto n => match M[n]? with | some (.lst xs) => some xs[i]? | none => none
  | .zip n m => match M[n]?, M[m]? with
    | some (.lst xs), some (.lst ys) => (match xs[i]?, ys[i]? with | some x, some y => some (some (.tup [x, y])) | _, _ => some none)
    | _, _ => none
  | .enu n => match M[n]? with | some (.lst xs) => (match xs[i]? with | some x => some (some (.tup [.int i, x])) | none => some none) | none => none
  | .rev n l => match M[n]? with | some (.lst xs) => if i < l then (match xs[l - 1 - i]? with | some x => some (some x) | none => none) else (if i = l then some none else none) | none => none
noncomputable def cnt (src : Src) (M : Sto) : Nat := match src with
  | .pur ds => ds.length
  | .sto n => match M[n]? with | some (.lst xs) => xs.length | none => 0
  | .zip n _ => match M[n]? with | some (.lst xs) => xs.length | none => 0
  | .enu n => match M[n]? with | some (.lst xs) => xs.length | none => 0
  | .rev _ l => l
noncomputable def Znz (K : PySem.W.Frag) (H : Hp) (α : List Addr) (J : It) (src : Src) : Prop := ∀ (i : Nat) H' α' M', Ext K H H' α α' → HR K H' α' M' → match nxt src i M' with
  | some none => J.stop i H'
  | some (some d) => J.go i H' ∧ ∀ x H'', J.yld i H' x H'' → Ext K H' H'' α' α' ∧ HR K H'' α' M' ∧ Rep K H'' α' x d
  | none => True
noncomputable def DI (X : Cx) (ξ : XK) (tg iter : Expr) (f : Ro → Sto → Out Src) : Prop := ∃ wi : TI, PI X tg iter wi ∧ ∀ σ ρ H α M R, SR X.K H α σ ρ → HR X.K H α M → OG X.K (Znz X.K) H α ξ R (f ρ M) → wi σ H R
section
variable {X : Cx} {ξ : XK} {tg iter a b : Expr} {fs : Av} {f : Ev} {p pos : Pos}
noncomputable def iR1 (fs : Av) : Ro → Sto → Out Src := fun ρ M => (fs ρ M).bind fun ds M1 => match ds with
  | [.int j] => if -(2 ^ 62) ≤ j ∧ j < 2 ^ 62 then .ok (.pur (Zbi 0 j.toNat)) M1 else .bad
  | _ => .bad
noncomputable def iSq (f : Ev) : Ro → Sto → Out Src := fun ρ M => (f ρ M).bind fun d M1 => match d with
  | .tup ds => .ok (.pur ds) M1
  | .rol ds => .ok (.pur ds) M1
  | .ref n => .ok (.sto n) M1
  | _ => .bad
theorem Zbw (ha : DE X ξ a f) : DI X ξ tg a (iSq f) := by
  obtain ⟨ta, pa, qa⟩ := ha
  refine ⟨_, ZiE pa, fun σ ρ H α M R s hh q => qa σ ρ H α M _ s hh (OG.seq q fun d M1 v H1 α1 e1 h1 r1 w1 => ?_)⟩
  cases r1 with
  | @tup p xs ds hp rp =>
    refine ⟨p, rfl, .inr ⟨⟨xs, hp⟩, w1 (Itt X.K p) H1 α1 Ext.refl h1 ?_⟩⟩
    intro i H' α' M' ex hr
    show match some ds[i]? with | some none => _ | some (some d) => _ | none => True
    cases ei : ds[i]? with
    | none => exact ⟨xs, ex.tup _ _ hp, by rw [rp.length]; exact List.getElem?_eq_none_iff.mp ei⟩
    | some d =>
      obtain ⟨v, k1, k2⟩ := rp.get ei
      refine ⟨⟨xs, v, ex.tup _ _ hp, k1⟩, fun x H'' y => ?_⟩
      obtain ⟨ey, y⟩ := y
      have z := y xs (ex.tup _ _ hp)
      rw [k1] at z
      cases z
      subst ey
      exact ⟨Ext.refl, hr, Rep.mono ex k2⟩
  | @rol p xs ds hp rp =>
    refine ⟨p, rfl, .inl ⟨⟨xs, hp.sq⟩, w1 (Itl X.K p) H1 α1 Ext.refl h1 ?_⟩⟩
    intro i H' α' M' ex hr
    show match some ds[i]? with | some none => _ | some (some d) => _ | none => True
    have hq := (ex.rol _ _ hp).sq
    cases ei : ds[i]? with
    | none => exact ⟨xs, hq, by rw [rp.length]; exact List.getElem?_eq_none_iff.mp ei⟩
    | some d =>
      obtain ⟨v, k1, k2⟩ := rp.get ei
      refine ⟨⟨xs, v, hq, k1⟩, fun x H'' y => ?_⟩
      obtain ⟨ey, y⟩ := y
      have z := y xs hq
      rw [k1] at z
      cases z
      subst ey
      exact ⟨Ext.refl, hr, Rep.mono ex k2⟩
  | @ref p n hp =>
    obtain ⟨xs0, g0⟩ := h1.some_at hp
    refine ⟨p, rfl, .inl ⟨⟨xs0, SqL.of g0⟩, w1 (Itl X.K p) H1 α1 Ext.refl h1 ?_⟩⟩
    intro i H' α' M' ex hr
    show match (match M'[n]? with | some (.lst xs) => some xs[i]? | none => none) with | some none => _ | some (some d) => _ | none => True
    cases em : M'[n]? with
    | none => exact True.intro
    | some so =>
      cases so with
      | lst ds =>
        obtain ⟨xs, g1, g2⟩ := hr.at (ex.get hp) em
        show match some ds[i]? with | some none => _ | some (some d) => _ | none => True
        cases ei : ds[i]? with
        | none => exact ⟨xs, SqL.of g1, by rw [g2.length]; exact List.getElem?_eq_none_iff.mp ei⟩
        | some d =>
          obtain ⟨v, k1, k2⟩ := g2.get ei
          refine ⟨⟨xs, v, SqL.of g1, k1⟩, fun x H'' y => ?_⟩
          obtain ⟨ey, y⟩ := y
          have z := y xs (SqL.of g1)
          rw [k1] at z
          cases z
          subst ey
          exact ⟨Ext.refl, hr, k2⟩
  | _ => exact w1.elim
end
noncomputable def blk (X : Cx) (scope : Scope) (cl : List (Str × Addr)) (N : List Str) (C : Addr) (fp : List Addr) (s : Shared) (H : Hp) : Cx :=
  { X with N := N, s₀ := s, H₀ := H, env := compEnvC scope cl C X.env, outer := X.stack, stack := X.stack, ex := fp, fn := fun _ => false, pn := [], xe := fun _ _ => False }
theorem Zck {X : Cx} {scope : Scope} {cl : List (Str × Addr)} {N : List Str} {C : Addr} {fp : List Addr} {s : Shared} {H : Hp} : Thr (blk X scope cl N C fp s H) E0 :=
  ⟨PassesOwn.never, fun _ _ _ _ _ _ _ ⟨_, _, _, _, _, _, _, _, _, _, _, _, _, q⟩ => q, fun _ _ _ _ _ _ _ _ _ _ _ _ _ _ _ _ _ _ q => q⟩
noncomputable def ZbH (src : Src) (tg : Tg) (c : Tv) (f : Ev) (n : Nat) : Nat → Nat → Ro → Sto → Out Unit
  | fuel, i, ρ, M => match nxt src i M with
    | none => .bad
    | some none => .ok () M
    | some (some d) => (match fuel with
      | 0 => .bad
      | fuel + 1 => (match tg d ρ with
        | none => .bad
        | some ρ1 => (match c ρ1 M with
          | .ok true M1 => (match f ρ1 M1 with
            | .ok x M2 => (match M2[n]? with
              | some (.lst xs) => if xs.length < 10000000 then ZbH src tg c f n fuel (i + 1) ρ1 (M2.set n (.lst (xs ++ [x]))) else .bad
              | none => .bad)
            | _ => .bad)
          | .ok false M1 => ZbH src tg c f n fuel (i + 1) ρ1 M1
          | _ => .bad)))
noncomputable def roB (k : Nat) (fr : List Nat) (ρ : Ro) : Ro := List.replicate k none ++ fr.map fun i => (ρ[i]?).join
noncomputable def ZT (fi : Ro → Sto → Out Src) (k : Nat) (fr : List Nat) (tg : Tg) (c : Tv) (f : Ev) : Ev := fun ρ M => (fi ρ M).bind fun src M1 => match ZbH src tg c f M1.length (cnt src M1) 0 (roB k fr ρ) (M1 ++ [.lst []]) with
  | .ok _ M2 => .ok (.ref M1.length) M2
  | _ => .bad
structure Blk (X : Cx) (scope : Scope) (cl : List (Str × Addr)) (N : List Str) (k : Nat) (fr : List Nat) : Prop where
  clos : closureFor scope X.env = pure cl
  kind : scope.kind = .function
  cell : ∀ y ∈ scope.names, y.2 ≠ .cell
  names : ∀ y ∈ scope.names, y.2 = .local → scope.names.lookup y.1 = some .local
  sub : ∀ x c, cl.lookup x = some c → X.env.cells.lookup x = some c
  has : ∀ x, ((relabel scope X.env).names.lookup x = some .cell ∨ (relabel scope X.env).names.lookup x = some .free) → ∃ c, cl.lookup x = some c
  len : N.length = k + fr.length
  at_ : ∀ (j i : Nat), fr[j]? = some i → ∃ x, N[k + j]? = some x ∧ X.N[i]? = some x ∧ X.env.kindOf x = some .cell ∧ ((relabel scope X.env).names.lookup x = some .cell ∨ (relabel scope X.env).names.lookup x = some .free) ∧ cl.lookup x = X.env.cells.lookup x
theorem Zbb {prog : Program} {w : World} {A : Around} {R : Result → Shared → Prop} {s : Shared} {elt target iter : Expr} {ifs : List Expr} {scope : Scope} {pos : Pos} {it acc : Value} {env : Env} (I : Nat → Shared → Prop)
    (turn : ∀ n s, I n s → wpAny (model prog w) A (pyNext it) (fun r s₁ => match r with
      | none => R (.ok .next) s₁
      | some v => wpAny (model prog w) A (letOwnedTupleGo target it v) (fun _ s₁ => wpAny (model prog w) A (assign target env v) (fun _ s₂ =>
          wpAny (model prog w) A (forIn ifs true fun c r => if r = true then do let ok ← isTrue c env (eval c env); pure (ForInStep.yield ok) else pure (ForInStep.yield r)) (fun ok s₃ =>
            if ok = true then wpAny (model prog w) A (eval elt env) (fun x s₄ =>
              wpAny (model prog w) A (call (.builtin "list.append") [acc, x]) (fun _ s₅ => ∃ m, m < n ∧ I m s₅) (fun _ _ => False) s₄) (fun _ _ => False) s₃
            else ∃ m, m < n ∧ I m s₃) (fun _ _ => False) s₂) (fun _ _ => False) s₁) (fun _ _ => False) s₁) (fun _ _ => False) s)
    (n : Nat) (h : I n s) :
    codeAny (model prog w) A (.compLoop (.ListComp elt [⟨target, iter, ifs, 0⟩] scope pos) 0 it acc env) R s := by
  refine codeAny_loop rfl I (fun n s hI => ?_) n h
  show wpAny _ A ((compTurn (.ListComp elt [⟨target, iter, ifs, 0⟩] scope pos) 0 it acc env).onRaise (fun x => do noteFrame x env; theTreesLotGoes x)) _ _ s
  refine wpAny_noted ?_
  rw [compTurn_list]
  refine wpAny_bind (wpAny_standAt (wpAny_bind (wpAny_mono (turn n s hI) (fun r s₁ h₁ => ?_) fun _ _ h' => h'.elim)))
  cases r with
  | none => exact wpAny_pure h₁
  | some v =>
    refine wpAny_bind (wpAny_mono h₁ (fun _ s₁ h₁ => ?_) fun _ _ h' => h'.elim)
    refine wpAny_bind (wpAny_mono h₁ (fun _ s₂ h₂ => wpAny_bind (wpAny_mono h₂ (fun ok s₃ h₃ => ?_) fun _ _ h' => h'.elim)) fun _ _ h' => h'.elim)
    cases ok with
    | false => exact wpAny_pure ⟨rfl, h₃⟩
    | true =>
      exact wpAny_bind (wpAny_bind (wpAny_mono h₃ (fun x s₄ h₄ => wpAny_bind (wpAny_mono h₄ (fun _ s₅ h₅ => wpAny_pure (wpAny_pure ⟨rfl, h₅⟩)) fun _ _ h' => h'.elim)) fun _ _ h' => h'.elim))
noncomputable def DC (X : Cx) (ifs : List Expr) (c : Tv) : Prop := (ifs = [] ∧ c = fun _ M => .ok true M) ∨ ∃ e, ifs = [e] ∧ DT X E0 e c
section
variable {X : Cx} {ξ : XK} {tg iter elt : Expr} {ifs : List Expr} {scope : Scope} {cl : List (Str × Addr)} {N : List Str} {k : Nat} {fr : List Nat} {fi : Ro → Sto → Out Src} {gt : Tg} {c : Tv} {f : Ev} {pos : Pos}
theorem Zgs (B : Blk X scope cl N k fr) {pins : List (Addr × Obj)} {σ : L2.St} {H : Hp} {s : Shared} {fp : List Addr} (I : Inv X pins σ H s) (hf : ∀ b ∈ fp, ZcE X pins H b) (hlt : ∀ b ∈ fp, b < s.heap.objs.size) : (blk X scope cl N s.heap.objs.size fp s H).Ok where
  mod := I.ok.mod
  kind := B.kind
  glob := I.ok.glob
  blt := I.ok.blt
  above := Nat.le_refl _
  inj := fun x y c h1 h2 => I.ok.inj x y c (B.sub x c h1) (B.sub y c h2)
  has := fun x h => B.has x h
  cab := fun x c h => (by cases h)
  hd := I.ok.hd
  frames := I.ok.frames
  stk := .inl rfl
  exf := fun b hb => ⟨Nat.ne_of_lt (hlt b hb), fun x c h => (hf b hb).2.2.2.2.1 x c (B.sub x c h)⟩
  bs := I.bs
  bsz := Nat.le_trans I.ok.bsz I.sz
  noex := fun b o e hb => by
    rcases (hf b hb).2.2.2.1 with z | z
    · exact I.ok.noex b o e z
    · exact absurd (Nat.lt_of_lt_of_le (Heap.lt_size (I.ok.bs b o e).1) z) (Nat.lt_irrefl _)
  exfs := fun b hb z => by
    rcases List.mem_cons.mp (I.stkSub b z) with e | e
    · exact (hf b hb).2.1 e
    · exact (hf b hb).2.2.1 e
  funs := I.stack
  frf := I.stkFree
theorem join_some {α : Type} {o : Option (Option α)} {v : α} (h : o.join = some v) : o = some (some v) := by
  cases o with
  | none => cases h
  | some x => cases x with
    | none => cases h
    | some y => cases h; rfl
theorem Zjy {ρ : Ro} {i : Nat} {d : D} (h : (roB k fr ρ)[i]? = some (some d)) : ∃ j r, i = k + j ∧ fr[j]? = some r ∧ ρ[r]? = some (some d) := by
  unfold roB at h
  by_cases hi : i < k
  · rw [List.getElem?_append_left (by rw [List.length_replicate]; exact hi)] at h
    have := List.mem_of_getElem? h
    rw [List.mem_replicate] at this
    cases this.2
  · rw [List.getElem?_append_right (by rw [List.length_replicate]; omega), List.length_replicate, List.getElem?_map] at h
    cases e : fr[i - k]? with
    | none => rw [e] at h; cases h
    | some r =>
      rw [e] at h
      exact ⟨i - k, r, by omega, e, join_some (Option.some.inj h)⟩
noncomputable def stB (k : Nat) (fr : List Nat) (σ : L2.St) : L2.St := List.replicate k none ++ fr.map fun i => (σ[i]?).join
theorem Zgt {σ : L2.St} {i : Nat} {d : V} (h : (stB k fr σ)[i]? = some (some d)) : ∃ j r, i = k + j ∧ fr[j]? = some r ∧ σ[r]? = some (some d) := by
  unfold stB at h
  by_cases hi : i < k
  · rw [List.getElem?_append_left (by rw [List.length_replicate]; exact hi)] at h
    have := List.mem_of_getElem? h
    rw [List.mem_replicate] at this
    cases this.2
  · rw [List.getElem?_append_right (by rw [List.length_replicate]; omega), List.length_replicate, List.getElem?_map] at h
    cases e : fr[i - k]? with
    | none => rw [e] at h; cases h
    | some r =>
      rw [e] at h
      exact ⟨i - k, r, by omega, e, join_some (Option.some.inj h)⟩
theorem SR.blk {K : PySem.W.Frag} {H : Hp} {α : List Addr} {σ : L2.St} {ρ : Ro} (h : SR K H α σ ρ) : SR K H α (stB k fr σ) (roB k fr ρ) := by
  refine ⟨by simp [stB, roB], fun i d e => ?_⟩
  obtain ⟨j, r, rfl, e1, e2⟩ := Zjy e
  obtain ⟨v, e3, e4⟩ := h.2 r d e2
  refine ⟨v, ?_, e4⟩
  unfold stB
  rw [List.getElem?_append_right (by rw [List.length_replicate]; omega), List.length_replicate, List.getElem?_map, Nat.add_sub_cancel_left, e1]
  show some (σ[r]?).join = _
  rw [e3]
  rfl
theorem Zgu (B : Blk X scope cl N k fr) {pins : List (Addr × Obj)} {σ : L2.St} {H : Hp} {s : Shared} {fp : List Addr} {h1 : Heap} {tk : Nat} {m : Str → Option Value} (I : Inv X pins σ H s) (hf : ∀ b ∈ fp, ZcE X pins H b) (hlt : ∀ b ∈ fp, b < s.heap.objs.size)
    (hn : h1.Ns s.heap.objs.size m) (hk : ∀ b o, s.heap.get? b = some o → h1.get? b = some o) : Inv (blk X scope cl N s.heap.objs.size fp s H) [] (stB k fr σ) H { s with heap := h1, toks := tk } where
  ok := Zgs B I hf hlt
  os := rfl
  bare := I.bare
  base := Un.kept hk
  loc := by
    refine ⟨m, hn, fun i x v e1 e2 e3 => ?_⟩
    obtain ⟨j, r, rfl, g1, g2⟩ := Zgt e2
    obtain ⟨y, k1, k2, k3, k4, k5⟩ := B.at_ j r g1
    have exy : x = y := Option.some.inj (e1.symm.trans k1)
    subst exy
    obtain ⟨m0, hm0, hl⟩ := I.loc
    obtain ⟨u, ru, lk⟩ := hl r x v k2 g2 (.inr (.inl k3))
    refine ⟨u, ru, ?_⟩
    rcases lk with ⟨z, _⟩ | ⟨_, c, z1, ⟨o, z2, z3⟩⟩
    · rw [k3] at z; cases z
    · exact .inr ⟨k4, c, k5.trans z1, ⟨o, hk _ _ z2, z3⟩⟩
  cell := fun x c h => by
    obtain ⟨v, o, e1, e2⟩ := I.cell x c (B.sub x c h)
    exact ⟨v, o, hk _ _ e1, e2⟩
  free := I.fresh
  freeC := fun x c h => I.freeC x c (B.sub x c h)
  pin := fun p hp => (by simp [blk] at hp)
  hok := I.hok.kept hk
  len := by
    show (stB k fr σ).length = N.length
    rw [B.len]
    simp [stB]
  qd := I.qd
theorem ZbW (B : Blk X scope cl N k fr) (hi : DI X ξ tg iter fi) (hg : ∀ C fp s H, DG (blk X scope cl N C fp s H) tg gt) (ht : ∀ C fp s H, DC (blk X scope cl N C fp s H) ifs c) (he : ∀ C fp s H, DE (blk X scope cl N C fp s H) E0 elt f)
    (hs : ∀ x, foldedSetIterable iter X.env x = pure x := by intro _; rfl) : DE X ξ (.ListComp elt [⟨tg, iter, ifs, 0⟩] scope pos) (ZT fi k fr gt c f) := by
  obtain ⟨wi, pi, qi⟩ := hi
  refine ⟨fun σ H Q => ∃ ρ α M, SR X.K H α σ ρ ∧ HR X.K H α M ∧ OP X.K H α ξ Q (ZT fi k fr gt c f ρ M), ?_, fun σ ρ H α M Q s h q => ⟨ρ, α, M, s, h, q⟩⟩
  rintro pins s σ H Q I ⟨ρ, α, M, sr, hr, op⟩
  rw [eval_ListComp]
  refine wpAny_comprehension_free (use := none) rfl hs B.clos B.kind B.names ?_
  refine thn (pi pins s σ H (fun J H2 => ∃ α2 M2 src, Ext X.K H H2 α α2 ∧ HR X.K H2 α2 M2 ∧ Znz X.K H2 α2 J src ∧ OP X.K H2 α2 ξ Q (match ZbH src gt c f M2.length (cnt src M2) 0 (roB k fr ρ) (M2 ++ [.lst []]) with | .ok _ M2' => .ok (.ref M2.length) M2' | _ => .bad)) I
    (qi σ ρ H α M _ sr hr (OG.seq op fun src M1 J H1 α1 e1 h1 r1 q1 => ⟨α1, M1, src, e1, h1, r1, q1⟩))) fun v s1 w1 => thn w1 fun itv s2 w2 => ?_
  obtain ⟨it, fp, tn, J, H2, rfl, I2, T, st2, f2, α2, M2, src, e2, h2, sc, op2⟩ := w2
  have srI := sr.mono e2
  refine wpAny_newObj_type ?_
  have I3 : Inv X pins σ (upd H2 s2.heap.objs.size (.lst [])) { s2 with heap := s2.heap.push { cls := .type "list", data := .seq ([] : List Value).toArray } } := I2.lnew (its := []) (t' := s2.toks) .nil (Nat.zero_le _)
  have fD : H2 s2.heap.objs.size = none := I2.fresh
  generalize hD : s2.heap.objs.size = D at I3 fD
  generalize hs3 : ({ s2 with heap := s2.heap.push { cls := .type "list", data := .seq ([] : List Value).toArray } } : Shared) = s3 at I3
  generalize hH3 : upd H2 D (.lst []) = H3 at I3
  have h3 : HR X.K H3 (α2 ++ [D]) (M2 ++ [.lst []]) := by rw [← hH3]; exact h2.new fD .nil
  have e3 : Ext X.K H2 H3 α2 (α2 ++ [D]) := by rw [← hH3]; exact Ext.new fD
  have aD : (α2 ++ [D])[M2.length]? = some D := h2.last D
  have lt2 : ∀ b ∈ fp, b < s2.heap.objs.size := fun b hb => let ⟨o, e, _⟩ := T.obj _ _ st2 b hb; Heap.lt_size e
  have keep3 : ∀ b o, s2.heap.get? b = some o → s3.heap.get? b = some o := fun b o e => by rw [← hs3]; exact Heap.get?_push_of_some _ e
  have f3 : ∀ b ∈ fp, ZcE X pins H3 b := fun b hb => ⟨by rw [← hH3, ZG (by rw [← hD]; exact Nat.ne_of_lt (lt2 b hb))]; exact (f2 b hb).1, (f2 b hb).2⟩
  have lt3 : ∀ b ∈ fp, b < s3.heap.objs.size := fun b hb => let ⟨o, e, _⟩ := T.obj _ _ st2 b hb; Heap.lt_size (keep3 b o e)
  have st3 : tn 0 s3.heap := T.keep _ _ _ st2 fun b _ o e => keep3 b o e
  refine wpAny_newFunctionEnv B.cell (by intro y hy; simp at hy) (fun h₁ hns₁ hsb₁ => ?_) B.kind
  have keep4 : ∀ b o, s3.heap.get? b = some o → h₁.get? b = some o := fun b o e => hsb₁.extBut b o (Nat.ne_of_lt (Heap.lt_size e)) (Heap.get?_push_of_some _ e)
  have I4 := Zgu (tk := s3.toks + ([] : List (Str × Value)).length) B I3 f3 lt3 hns₁ keep4
  have st4 : tn 0 h₁ := T.keep _ _ _ st3 fun b _ o e => keep4 b o e
  generalize hX : blk X scope cl N s3.heap.objs.size fp s3 H3 = Y at I4
  have YK : Y.K = X.K := by rw [← hX]; rfl
  have Yp : Y.prog = X.prog := by rw [← hX]; rfl
  have Yw : Y.w = X.w := by rw [← hX]; rfl
  have YA : Y.A = X.A := by rw [← hX]; rfl
  have Ye : Y.env = compEnvC scope cl s3.heap.objs.size X.env := by rw [← hX]; rfl
  obtain ⟨tt, pt, qt⟩ := hg s3.heap.objs.size fp s3 H3
  obtain ⟨te, pe, qe⟩ := he s3.heap.objs.size fp s3 H3
  have tst := ht s3.heap.objs.size fp s3 H3
  rw [hX] at pt qt pe qe tst
  cases er : ZbH src gt c f M2.length (cnt src M2) 0 (roB k fr ρ) (M2 ++ [.lst []]) with
  | exc x M9 => rw [er] at op2; exact op2.elim
  | bad => rw [er] at op2; exact op2.elim
  | ok u9 M9 =>
    rw [er] at op2
    have loop : codeAny (model X.prog X.w) X.A (.compLoop (.ListComp elt [⟨tg, iter, ifs, 0⟩] scope pos) 0 (.ref it) (.ref D) (compEnvC scope cl s3.heap.objs.size X.env)) (compPost (model X.prog X.w) X.A X.xe none (EP X pins σ Q) (.ref D) s3.heap.objs.size) { s3 with heap := h₁, toks := s3.toks + ([] : List (Str × Value)).length } := by
      refine Zbb (fun n s' => ∃ i σ' ρ' H' α' M', Inv Y [] σ' H' s' ∧ tn i s'.heap ∧ (∀ b ∈ fp, H' b = none) ∧ SR X.K H' α' σ' ρ' ∧ HR X.K H' α' M' ∧ Ext X.K H3 H' (α2 ++ [D]) α' ∧ ZbH src gt c f M2.length n i ρ' M' = .ok u9 M9) ?_ (cnt src M2)
        ⟨0, stB k fr σ, roB k fr ρ, H3, α2 ++ [D], M2 ++ [.lst []], I4, st4, fun b hb => (f3 b hb).1, (srI.blk).mono e3, h3, Ext.refl, er⟩
      rintro n s5 ⟨i, σ5, ρ5, H5, α5, M5, I5, st5, fr5, sr5, hr5, ex5, en⟩
      have fp5 : ∀ {H' : Hp}, (∀ b ∈ fp, H' b = none) → ∀ b ∈ fp, ZcE Y [] H' b := fun hn b hb => ⟨hn b hb, by rw [Ye]; exact Nat.ne_of_lt (lt3 b hb), by
        have := (Zgs B I3 f3 lt3).exfs b hb
        rw [hX] at this; exact this, .inl (by rw [← hX]; exact hb), fun x c h => (by rw [Ye] at h; exact (f3 b hb).2.2.2.2.1 x c (B.sub x c h)), fun p hp => (by rw [← hX] at hp; simp [blk] at hp)⟩
      have src5 := sc i H5 α5 M5 (e3.trans ex5) hr5
      rw [ZbH] at en
      cases ex : nxt src i M5 with
      | none => rw [ex] at en; cases en
      | some od =>
        rw [ex] at src5 en
        cases od with
        | none =>
          cases en
          have fin := T.done Y Yp Yw YK YA i [] s5 σ5 H5 (fun _ _ => False) I5 (fp5 fr5) st5 src5
          rw [YA] at fin
          refine thn fin fun r s6 ⟨hr6, I6⟩ => ?_
          subst hr6
          obtain ⟨m6, hm6, _⟩ := id I6.loc
          rw [Ye] at hm6
          refine ⟨m6, hm6, fun h' sb => ?_⟩
          have un := I6.base
          have hok6 := I6.hok
          have I7 : Inv X pins σ H5 s6 := by
            refine I3.call' (s' := s6) (ch := fp) ?_ ?_ ?_ I6.bare fun b hb => ?_
            · have := I6.os
              rw [this, ← hX]; rfl
            · rw [← hX] at un
              exact un
            · rw [Yp, Yw] at hok6
              exact hok6
            · obtain ⟨_, z1, z2, z3, z4, z5⟩ := f3 b hb
              exact ⟨z3, z1, z4, z5⟩
          have hC : H5 s3.heap.objs.size = none := by have := I6.free; rw [Ye] at this; exact this
          have I8 : Inv X pins σ H5 { s6 with heap := h', toks := s6.toks } := I7.turned (it := s3.heap.objs.size) (fun b o hb e => (sb.2 b hb).trans e) hC (Nat.ne_of_gt I3.lt) (.inr I3.sz)
            (fun x c h z => by
              obtain ⟨v, o, e, _⟩ := I3.cell x c h
              exact absurd (Heap.lt_size e) (by rw [z]; exact Nat.lt_irrefl _)) (fun p hp z => by
              have := (I3.pin p hp).1
              exact absurd (Heap.lt_size this) (by rw [z]; exact Nat.lt_irrefl _))
          exact ⟨.ref D, H5, I8, rfl, op2 _ H5 α5 (e3.trans ex5) hr5 (.ref (ex5.get aD))⟩
        | some d =>
          obtain ⟨go, yl⟩ := src5
          cases n with
          | zero => cases en
          | succ n =>
            simp only at en
            have itm := T.item Y Yp Yw YK YA i [] s5 σ5 H5 (fun _ _ => False) I5 (fp5 fr5) st5 go
            rw [YA] at itm
            refine thn itm fun r s6 ⟨u, hr6, w6⟩ => ?_
            subst hr6
            refine thn w6 fun _ s7 ⟨x, H7, I7, r7, y7, st7, fr7⟩ => ?_
            obtain ⟨ex7, hr7, rp7⟩ := yl x H7 y7
            have sr5 := sr5.mono ex7
            have hr5 := hr7
            have ex5 := ex5.trans ex7
            have I7' := I7.pinned (fp5 fr7) (T.obj _ _ st7)
            cases eg : gt d ρ5 with
            | none => rw [eg] at en; cases en
            | some ρ6 =>
              rw [eg] at en
              simp only at en
              have asg := pt _ s7 σ5 H7 x u _ I7' r7 (qt x d σ5 ρ5 H7 α5 ρ6 (fun σ' H' => H' = H7 ∧ SR X.K H7 α5 σ' ρ6) (by rw [YK]; exact sr5) (by rw [YK]; exact rp7) eg fun σ' s' => ⟨rfl, by rw [YK] at s'; exact s'⟩)
              rw [Yp, Yw, YA, Ye] at asg
              refine wpAny_mono asg (fun _ s8 ⟨σ8, H8, I8, z8, sr8⟩ => ?_) (fun _ _ z => by rw [← hX] at z; exact z)
              subst z8
              have again : ∀ {σ9 : L2.St} {H9 : Hp} {s9 : Shared}, Inv Y ([] ++ Zbu fp s7.heap) σ9 H9 s9 → Inv Y [] σ9 H9 s9 ∧ tn (i + 1) s9.heap ∧ ∀ b ∈ fp, H9 b = none := fun {σ9 H9 s9} I9 => by
                refine ⟨I9.unpinned, T.keep _ _ _ st7 fun b hb o e => (I9.pin (b, o) (List.mem_append_right _ (List.mem_append_right _ (Z0 hb e)))).1, fun b hb => ?_⟩
                obtain ⟨o, e, _⟩ := T.obj _ _ st7 b hb
                exact (I9.pin (b, o) (List.mem_append_right _ (List.mem_append_right _ (Z0 hb e)))).2.1
              have after : ∀ (kk : Bool) (M8 : Sto) (H9 : Hp) (α9 : List Addr) (s9 : Shared), Inv Y ([] ++ Zbu fp s7.heap) σ8 H9 s9 → Ext X.K H8 H9 α5 α9 → HR X.K H9 α9 M8 → c ρ6 M5 = .ok kk M8 →
                  (if kk = true then wpAny (model X.prog X.w) X.A (eval elt (compEnvC scope cl s3.heap.objs.size X.env)) (fun x s₄ => wpAny (model X.prog X.w) X.A (call (.builtin "list.append") [.ref D, x]) (fun _ s₅ => ∃ m, m < n + 1 ∧ ∃ i σ' ρ' H' α' M', Inv Y [] σ' H' s₅ ∧ tn i s₅.heap ∧ (∀ b ∈ fp, H' b = none) ∧ SR X.K H' α' σ' ρ' ∧ HR X.K H' α' M' ∧ Ext X.K H3 H' (α2 ++ [D]) α' ∧ ZbH src gt c f M2.length m i ρ' M' = .ok u9 M9) (fun _ _ => False) s₄) (fun _ _ => False) s9
                   else ∃ m, m < n + 1 ∧ ∃ i σ' ρ' H' α' M', Inv Y [] σ' H' s9 ∧ tn i s9.heap ∧ (∀ b ∈ fp, H' b = none) ∧ SR X.K H' α' σ' ρ' ∧ HR X.K H' α' M' ∧ Ext X.K H3 H' (α2 ++ [D]) α' ∧ ZbH src gt c f M2.length m i ρ' M' = .ok u9 M9) := by
                intro kk M8 H9 α9 s9 I9 ex9 hr9 ec
                rw [ec] at en
                cases kk with
                | false =>
                  obtain ⟨a1, a2, a3⟩ := again I9
                  exact Ziv ⟨n, Nat.lt_succ_self n, i + 1, σ8, ρ6, H9, α9, M8, a1, a2, a3, sr8.mono ex9, hr9, ex5.trans ex9, en⟩
                | true =>
                  simp only at en
                  refine Ziw ?_
                  cases ef : f ρ6 M8 with
                  | exc x9 M10 => rw [ef] at en; cases en
                  | bad => rw [ef] at en; cases en
                  | ok y M10 =>
                    rw [ef] at en
                    simp only at en
                    have ev := pe _ s9 σ8 H9 (fun v H' => ∃ α', Ext X.K H9 H' α9 α' ∧ HR X.K H' α' M10 ∧ Rep X.K H' α' v y) I9 (qe σ8 ρ6 H9 α9 M8 _ (by rw [YK]; exact sr8.mono ex9) (by rw [YK]; exact hr9) (by
                      rw [ef, YK]
                      exact fun v H' α' e h r => ⟨α', e, h, r⟩))
                    rw [Yp, Yw, YA, Ye] at ev
                    refine wpAny_mono ev (fun yv s10 ⟨v, H10, I10, r10, α10, ex10, hr10, rp10⟩ => ?_) (fun _ _ z => by rw [← hX] at z; exact z)
                    cases em : M10[M2.length]? with
                    | none => rw [em] at en; cases en
                    | some so =>
                      cases so with
                      | lst ds =>
                        rw [em] at en
                        simp only at en
                        by_cases cz : ds.length < 10000000
                        · rw [if_pos cz] at en
                          have aD10 := ex10.get (ex9.get (ex5.get aD))
                          obtain ⟨xs, g1, g2⟩ := hr10.at aD10 em
                          have ap := ZbJ (X := Y) _ s10 σ8 H10 (.ref D) [v] (.ref D) [yv] (fun _ H' => H' = upd H10 D (.lst (xs ++ [v]))) I10 rfl (.cons r10 .nil) ⟨D, xs, v, rfl, rfl, g1, by rw [g2.length]; exact Nat.lt_of_lt_of_le cz (by decide), rfl⟩
                          rw [Yp, Yw, YA] at ap
                          refine wpAny_mono ap (fun _ s11 ⟨v11, H11, I11, _, z11⟩ => ?_) (fun _ _ z => by rw [← hX] at z; exact z)
                          subst z11
                          obtain ⟨a1, a2, a3⟩ := again I11
                          have exw : Ext X.K H10 (upd H10 D (.lst (xs ++ [v]))) α10 α10 := Ext.wr g1
                          exact ⟨n, Nat.lt_succ_self n, i + 1, σ8, ρ6, _, α10, _, a1, a2, a3, ((sr8.mono ex9).mono ex10).mono exw, hr10.wr aD10 g1 (g2.append (.cons rp10 .nil)), ((ex5.trans ex9).trans ex10).trans exw, en⟩
                        · rw [if_neg cz] at en
                          cases en
              rcases tst with ⟨rfl, ec⟩ | ⟨e, rfl, tt', ptt, qtt⟩
              · refine wpAny_tests_nil ?_
                exact after true M5 H8 α5 s8 I8 Ext.refl hr5 (by rw [ec])
              · refine wpAny_tests_one ?_
                cases ec : c ρ6 M5 with
                | exc x9 M10 => rw [ec] at en; cases en
                | bad => rw [ec] at en; cases en
                | ok kk M8 =>
                  have tv' := ptt _ s8 σ8 H8 (fun b H' => b = kk ∧ ∃ α', Ext X.K H8 H' α5 α' ∧ HR X.K H' α' M8) I8 (qtt σ8 ρ6 H8 α5 M5 _ (by rw [YK]; exact sr8) (by rw [YK]; exact hr5) (by
                    rw [ec, YK]
                    exact fun v H' α' e h r => ⟨r, α', e, h⟩))
                  rw [Yp, Yw, YA, Ye] at tv'
                  refine wpAny_mono tv' (fun b s9 ⟨H9, I9, zb, α9, ex9, hr9⟩ => ?_) (fun _ _ z => by rw [← hX] at z; exact z)
                  subst zb
                  exact after b M8 H9 α9 s9 I9 ex9 hr9 ec
    exact codeAny_compStart_list loop (T.self X.A 0 _ _ _ st4 loop)
end
end DL
end
section
set_option Elab.async false
set_option linter.all false
set_option maxRecDepth 100000
set_option maxHeartbeats 4000000
namespace DL
open PySem PySem.Spec PyProof.Rows L2
theorem Zlz {names : List (Str × NameKind)} (h : names.all (fun y => y.2 != .cell && y.2 != .free) = true) (x : Str) : ¬ (names.lookup x = some .cell ∨ names.lookup x = some .free) := by
  induction names with
  | nil => intro z; rcases z with z | z <;> simp at z
  | cons y r ih =>
    rw [List.all_cons, Bool.and_eq_true] at h
    obtain ⟨n, kd⟩ := y
    rw [List.lookup_cons]
    cases e : x == n with
    | true =>
      simp only
      intro z
      have h1 := h.1
      rcases z with z | z <;> (cases z; simp at h1)
    | false => exact ih h.2
theorem ZhS {names : List (Str × NameKind)} {env : Env} (h : names.all (fun y => y.2 != .cell && y.2 != .free) = true) :
    (names.map fun (n, k) => if (k == NameKind.free && env.scope.kind == .function && env.kindOf n == some .cell) then (n, NameKind.cell) else (n, k)) = names := by
  induction names with
  | nil => rfl
  | cons y r ih =>
    rw [List.all_cons, Bool.and_eq_true] at h
    obtain ⟨n, kd⟩ := y
    have hk : (kd == NameKind.free) = false := by
      have h1 := h.1
      rw [Bool.and_eq_true] at h1
      have h2 := h1.2
      cases kd <;> first | rfl | simp at h2
    rw [List.map_cons, ih h.2]
    simp [hk]
theorem ZnA {X : Cx} {scope : Scope} {N : List Str} {k : Nat} (h : scope.names.all (fun y => y.2 != .cell && y.2 != .free) = true) (hk : scope.kind = .function) (hn : ∀ y ∈ scope.names, y.2 = .local → scope.names.lookup y.1 = some .local) (hl : N.length = k) : Blk X scope [] N k [] where
  clos := closureFor_none fun y hy z => by
    have := List.all_eq_true.mp h y hy
    rw [z] at this
    simp at this
  kind := hk
  cell := fun y hy z => by
    have := List.all_eq_true.mp h y hy
    rw [z] at this
    simp at this
  names := hn
  sub := fun x c z => (by cases z)
  has := fun x z => by
    have e : (relabel scope X.env).names = scope.names := ZhS h
    rw [e] at z
    exact absurd z (Zlz h x)
  len := hl
  at_ := fun j i z => (by simp at z)
theorem Zcl {env : Env} : ∀ (names : List (Str × NameKind)) (acc : List (Str × Addr)), (∀ y ∈ names, y.2 = .free → ∃ c, env.cells.lookup y.1 = some c) →
    (forIn names acc fun (x : Str × NameKind) (cs : List (Str × Addr)) => if x.2 == NameKind.free then (do let a ← cellOf env x.1; pure (ForInStep.yield ((x.1, a) :: cs))) else (pure (ForInStep.yield cs) : Sem _)) =
      (pure (((names.filter fun y => y.2 == .free).map fun y => (y.1, (env.cells.lookup y.1).getD 0)).reverse ++ acc) : Sem (List (Str × Addr)))
  | [], acc, _ => by simp
  | (n, kd) :: r, acc, h => by
    rw [List.forIn_cons]
    by_cases hk : (kd == NameKind.free) = true
    · obtain ⟨c, hc⟩ := h (n, kd) List.mem_cons_self (by simpa using hk)
      have e1 : cellOf env n = pure c := by unfold cellOf; rw [hc]
      have ih := Zcl r ((n, c) :: acc) fun y hy => h y (List.mem_cons_of_mem _ hy)
      simp only [hk, if_true, e1, pure_bind]
      refine Eq.trans ih ?_
      simp [List.filter_cons, hk, hc]
    · have ih := Zcl r acc fun y hy => h y (List.mem_cons_of_mem _ hy)
      simp only [hk, if_false, pure_bind]
      refine Eq.trans ih ?_
      simp [List.filter_cons, hk]
noncomputable def clF (scope : Scope) (env : Env) : List (Str × Addr) := ((scope.names.filter fun y => y.2 == .free).map fun y => (y.1, (env.cells.lookup y.1).getD 0)).reverse
theorem Zbj {env : Env} : ∀ {l : List (Str × NameKind)} {x : Str} {c : Addr}, (l.map fun y => (y.1, (env.cells.lookup y.1).getD 0)).lookup x = some c → c = (env.cells.lookup x).getD 0 ∧ ∃ y ∈ l, y.1 = x
  | [], x, c, h => by simp at h
  | y :: r, x, c, h => by
    rw [List.map_cons, List.lookup_cons] at h
    cases e : x == y.1 with
    | true =>
      rw [e] at h
      have ex : x = y.1 := by simpa using e
      cases h
      exact ⟨by rw [ex], y, List.mem_cons_self, ex.symm⟩
    | false =>
      rw [e] at h
      obtain ⟨h1, z, h2, h3⟩ := Zbj h
      exact ⟨h1, z, List.mem_cons_of_mem _ h2, h3⟩
theorem Zaw {α : Type} : ∀ {l : List (Str × α)} {x : Str}, (∃ y ∈ l, y.1 = x) → ∃ c, l.lookup x = some c
  | [], x, h => by obtain ⟨y, h1, _⟩ := h; simp at h1
  | z :: r, x, h => by
    rw [List.lookup_cons]
    cases e : x == z.1 with
    | true => exact ⟨_, rfl⟩
    | false =>
      obtain ⟨y, h1, h2⟩ := h
      rcases List.mem_cons.mp h1 with q | q
      · subst q; rw [h2] at e; simp at e
      · exact Zaw ⟨y, q, h2⟩
theorem Zz {env : Env} (nc : ∀ n, env.scope.names.lookup n = env.kindOf n) : ∀ {names : List (Str × NameKind)} {x : Str} {kd : NameKind}, (names.map fun (n, k) => if (k == NameKind.free && env.scope.kind == .function && env.kindOf n == some .cell) then (n, NameKind.cell) else (n, k)).lookup x = some kd →
    names.lookup x = some kd ∨ (names.lookup x = some .free ∧ kd = .cell)
  | [], x, kd, h => by simp at h
  | (n, q) :: r, x, kd, h => by
    rw [List.map_cons, List.lookup_cons] at h
    rw [List.lookup_cons]
    dsimp only at h ⊢
    by_cases c : (q == NameKind.free && env.scope.kind == .function && env.kindOf n == some .cell) = true
    · rw [if_pos c] at h
      dsimp only at h
      cases e : x == n with
      | true =>
        rw [e] at h
        cases h
        simp only [Bool.and_eq_true, beq_iff_eq] at c
        exact .inr ⟨by rw [c.1.1], rfl⟩
      | false => rw [e] at h; exact Zz nc h
    · rw [if_neg c] at h
      dsimp only at h
      cases e : x == n with
      | true => rw [e] at h; exact .inl h
      | false => rw [e] at h; exact Zz nc h
theorem Zap {env : Env} : ∀ {names : List (Str × NameKind)} {x : Str}, names.lookup x = some .free → (∃ kd, (kd = NameKind.cell ∨ kd = NameKind.free) ∧ (names.map fun (n, k) => if (k == NameKind.free && env.scope.kind == .function && env.kindOf n == some .cell) then (n, NameKind.cell) else (n, k)).lookup x = some kd)
  | [], x, h => by simp at h
  | (n, q) :: r, x, h => by
    rw [List.lookup_cons] at h
    rw [List.map_cons, List.lookup_cons]
    by_cases c : (q == NameKind.free && env.scope.kind == .function && env.kindOf n == some .cell) = true
    · dsimp only
      rw [if_pos c]
      cases e : x == n with
      | true => exact ⟨_, .inl rfl, rfl⟩
      | false => rw [e] at h; exact Zap h
    · dsimp only
      rw [if_neg c]
      cases e : x == n with
      | true => rw [e] at h; exact ⟨q, .inr (Option.some.inj h), rfl⟩
      | false => rw [e] at h; exact Zap h
noncomputable def ZlA (XN N : List Str) (dn sn : List (Str × NameKind)) (k : Nat) (fr : List Nat) : Bool :=
  (sn.all fun y => y.2 != .cell && (y.2 != .free || dn.lookup y.1 == some .cell) && (y.2 != .local || sn.lookup y.1 == some .local)) && N.length == k + fr.length &&
    (List.range fr.length).all fun j => match fr[j]? with
      | some i => (match N[k + j]?, XN[i]? with | some x, some y => x == y && dn.lookup x == some .cell && sn.lookup x == some .free | _, _ => false)
      | none => false
theorem Zn3 {X : Cx} {scope : Scope} {N : List Str} {k n : Nat} {fr : List Nat} {XN : List Str} {dn : List (Str × NameKind)} (hN : X.N = XN) (hd : X.env.scope.names = dn) (hc : X.env.cells = cellsFrom n dn []) (hk : scope.kind = .function) (h : ZlA XN N dn scope.names k fr = true) : Blk X scope (clF scope X.env) N k fr := by
  unfold ZlA at h
  simp only [Bool.and_eq_true, List.all_eq_true, bne_iff_ne, ne_eq, Bool.or_eq_true, beq_iff_eq] at h
  obtain ⟨⟨h1, h2⟩, h3⟩ := h
  have kind : ∀ x, X.env.kindOf x = dn.lookup x := fun x => by rw [← hd]; rfl
  have cel : ∀ x, dn.lookup x = some .cell → ∃ c, X.env.cells.lookup x = some c := fun x e => by
    have := PySem.W.cellsFrom_some dn n [] (.inl e)
    rw [hc]
    exact Option.isSome_iff_exists.mp this
  have frc : ∀ y ∈ scope.names, y.2 = .free → ∃ c, X.env.cells.lookup y.1 = some c := fun y hy e => by
    rcases (h1 y hy).1.2 with z | z
    · exact absurd e z
    · exact cel _ z
  have sub : ∀ x c, (clF scope X.env).lookup x = some c → X.env.cells.lookup x = some c := fun x c e => by
    unfold clF at e
    rw [← List.map_reverse] at e
    obtain ⟨e1, y, e2, e3⟩ := Zbj e
    have e4 := List.mem_filter.mp (List.mem_reverse.mp e2)
    obtain ⟨c', g⟩ := frc y e4.1 (by simpa using e4.2)
    rw [e3] at g
    rw [g] at e1 ⊢
    rw [e1]
    rfl
  have has : ∀ x, scope.names.lookup x = some .free → ∃ c, (clF scope X.env).lookup x = some c := fun x e => by
    refine Zaw ?_
    have m := PySem.mem_of_lookup e
    exact ⟨(x, (X.env.cells.lookup x).getD 0), List.mem_reverse.mpr (List.mem_map.mpr ⟨(x, .free), List.mem_filter.mpr ⟨m, by simp⟩, rfl⟩), rfl⟩
  refine ⟨?_, hk, fun y hy => (h1 y hy).1.1, fun y hy e => ?_, sub, fun x z => ?_, h2, fun j i e => ?_⟩
  · have := Zcl (env := X.env) scope.names [] frc
    rw [List.append_nil] at this
    unfold closureFor
    exact (congrArg (fun (m : Sem (List (Str × Addr))) => m >>= fun cs => (pure cs : Sem (List (Str × Addr)))) this).trans (pure_bind _ _)
  · rcases (h1 y hy).2 with z | z
    · exact absurd e z
    · exact z
  · have nc : ∀ m, X.env.scope.names.lookup m = X.env.kindOf m := fun m => rfl
    refine has x ?_
    rcases z with z | z
    · rcases Zz nc z with q | q
      · exact absurd rfl (h1 _ (PySem.mem_of_lookup q)).1.1
      · exact q.1
    · rcases Zz nc z with q | q
      · exact q
      · cases q.2
  · have hj : j < fr.length := (List.getElem?_eq_some_iff.mp e).1
    have q := h3 j (List.mem_range.mpr hj)
    rw [e] at q
    dsimp only at q
    cases e1 : N[k + j]? with
    | none => rw [e1] at q; cases q
    | some x =>
      cases e2 : XN[i]? with
      | none => rw [e1, e2] at q; cases q
      | some y =>
        rw [e1, e2] at q
        simp only [Bool.and_eq_true, beq_iff_eq] at q
        obtain ⟨⟨q1, q2⟩, q3⟩ := q
        subst q1
        obtain ⟨kd, r1, r2⟩ := Zap (env := X.env) q3
        obtain ⟨c, r3⟩ := has x q3
        refine ⟨x, rfl, by rw [hN]; exact e2, by rw [kind]; exact q2, ?_, r3.trans (sub x c r3).symm⟩
        rcases r1 with r1 | r1
        · exact .inl (r1 ▸ r2)
        · exact .inr (r1 ▸ r2)
section
variable {X : Cx} {ξ : XK}
noncomputable def Zb4 : List D → Option (List Bool)
  | [] => some []
  | .bl b :: r => match Zb4 r with | some bs => some (b :: bs) | none => none
  | _ :: _ => none
noncomputable def ZpP : List D → Sto → Out D := fun ds M => match ds with
  | [.ref n] => (match M[n]? with | some (.lst xs) => (match Zb4 xs with | some bs => .ok (.bl (bs.all id)) M | none => .bad) | none => .bad)
  | _ => .bad
end
section
variable {prog : Program} {w : World} {A : Around} {E : Value → Shared → Prop} {s : Shared}
end
section
variable {X : Cx} {ξ : XK} {e : Expr} {f : Ev} {p2 p3 p4 pos : Pos} {j : Nat}
theorem Reps.rev {K : PySem.W.Frag} {H : Hp} {α : List Addr} : ∀ {vs : List V} {ds : List D}, Reps K H α vs ds → Reps K H α vs.reverse ds.reverse
  | _, _, .nil => .nil
  | _, _, .cons r t => by
    rw [List.reverse_cons, List.reverse_cons]
    exact (Reps.rev t).append (.cons r .nil)
end
end DL
end
section
set_option Elab.async false
set_option linter.all false
set_option maxRecDepth 100000
set_option maxHeartbeats 4000000
namespace DL
open PySem PySem.Spec PyProof.Rows L2
section
variable {X : Cx} {ξ : XK}
end
end DL
end
section
set_option Elab.async false
set_option linter.all false
set_option maxRecDepth 100000
set_option maxHeartbeats 4000000
namespace DL
open PySem PySem.Spec PyProof.Rows L2
theorem ZaH : ∀ (names : List (Str × NameKind)) (n : Nat) (acc : List (Str × Addr)), cellsFrom n names acc = cellsFrom n names [] ++ acc
  | [], _, _ => rfl
  | (x, kd) :: r, n, acc => by
    unfold cellsFrom
    split
    · rw [ZaH r (n + 1) ((x, n) :: acc), ZaH r (n + 1) [(x, n)]]
      simp
    · exact ZaH r n acc
theorem ZbA : ∀ (names : List (Str × NameKind)) (n : Nat) (x : Str) (c : Addr), (x, c) ∈ cellsFrom n names [] → (x, NameKind.cell) ∈ names
  | [], _, _, _, h => by simp [cellsFrom] at h
  | (y, kd) :: r, n, x, c, h => by
    unfold cellsFrom at h
    split at h
    · rename_i hk
      rw [ZaH] at h
      rcases List.mem_append.mp h with h | h
      · exact List.mem_cons_of_mem _ (ZbA r (n + 1) x c h)
      · have e := List.mem_singleton.mp h
        cases e
        have : kd = .cell := by simpa using hk
        rw [this]
        exact List.mem_cons_self
    · exact List.mem_cons_of_mem _ (ZbA r n x c h)
theorem Zc3 {α : Type} : ∀ {l r : List (Str × α)} {x : Str} {c : α}, (l ++ r).lookup x = some c → l.lookup x = some c ∨ (l.lookup x = none ∧ r.lookup x = some c)
  | [], r, x, c, h => .inr ⟨rfl, h⟩
  | (y, d) :: l, r, x, c, h => by
    rw [List.cons_append, List.lookup_cons] at h
    rw [List.lookup_cons]
    cases e : x == y with
    | true => rw [e] at h; exact .inl h
    | false => rw [e] at h; exact Zc3 h
theorem ZcM {α : Type} : ∀ {l r : List (Str × α)} {x : Str}, (∀ c, (x, c) ∉ l) → (l ++ r).lookup x = r.lookup x
  | [], _, _, _ => rfl
  | (y, d) :: l, r, x, h => by
    rw [List.cons_append, List.lookup_cons]
    cases e : x == y with
    | true =>
      have : x = y := by simpa using e
      exact absurd (by rw [this]; exact List.mem_cons_self) (h d)
    | false => exact ZcM fun c hc => h c (List.mem_cons_of_mem _ hc)
section
variable {M : Model} {A : Around} {E : Value → Shared → Prop} {s : Shared}
theorem Zgv {scope : Scope} {globals : Addr} {cl : List (Str × Addr)} {qual : Str} {env : Env} {Q : Env → Shared → Prop}
    (hQ : Q (newEnv scope s.heap.objs.size globals (cellsFrom (s.heap.objs.size + 1) scope.names cl) qual none .none (some env) builtinsNs) { s with heap := pushCells (s.heap.push { cls := .type "dict", data := .dict #[] }) scope.names }) :
    wpAny M A (newFunctionEnv scope globals cl [] qual none .none (some env)) Q E s := by
  simp only [newFunctionEnv, Option.isSome_some, if_true]
  refine wpAny_bind (wpAny_alloc ?_)
  refine wpAny_bind (wpAny_layCells _ (fun name kind cells => by cases hkc : kind == NameKind.cell <;> simp [hkc]) _ _ _ _ ?_)
  rw [show ({ s with heap := s.heap.push { cls := .type "dict", data := .dict #[] } } : Shared).heap.objs.size = s.heap.objs.size + 1 from Heap.size_push ..]
  exact wpAny_bind (wpAny_pure (wpAny_pure hQ))
end
theorem _root_.PySem.W.cellsFrom_mem {x : Str} : ∀ (names : List (Str × NameKind)) (n : Nat) (acc : List (Str × Addr)), (x, NameKind.cell) ∈ names → ((cellsFrom n names acc).lookup x).isSome = true
  | [], _, _, h => by simp at h
  | (y, kd) :: r, n, acc, h => by
    have acc_some : ∀ (names : List (Str × NameKind)) (n : Nat) (acc : List (Str × Addr)), (acc.lookup x).isSome = true → ((cellsFrom n names acc).lookup x).isSome = true := fun names n acc h => PySem.W.cellsFrom_some names n acc (.inr h)
    unfold cellsFrom
    split
    · rcases List.mem_cons.mp h with e | e
      · cases e
        refine acc_some _ _ _ ?_
        rw [List.lookup_cons]
        simp
      · exact PySem.W.cellsFrom_mem r _ _ e
    · rename_i hk
      rcases List.mem_cons.mp h with e | e
      · cases e
        simp at hk
      · exact PySem.W.cellsFrom_mem r _ _ e
noncomputable def Ze1 (X : Cx) (scope : Scope) (cl : List (Str × Addr)) (N : List Str) (C : Addr) (fp : List Addr) (s : Shared) (H : Hp) : Cx :=
  { blk X scope (cellsFrom (C + 1) scope.names cl) N C fp s H with fn := fun x => scope.names.any fun y => y.1 == x && y.2 == .cell }
theorem ZhT {X : Cx} {scope : Scope} {cl : List (Str × Addr)} {N : List Str} {C : Addr} {fp : List Addr} {s : Shared} {H : Hp} : Thr (Ze1 X scope cl N C fp s H) E0 :=
  ⟨PassesOwn.never, fun _ _ _ _ _ _ _ ⟨_, _, _, _, _, _, _, _, _, _, _, _, _, q⟩ => q, fun _ _ _ _ _ _ _ _ _ _ _ _ _ _ _ _ _ _ q => q⟩
structure BlkC (X : Cx) (scope : Scope) (cl : List (Str × Addr)) (N : List Str) (k : Nat) (fr : List Nat) : Prop where
  clos : closureFor scope X.env = pure cl
  kind : scope.kind = .function
  names : ∀ y ∈ scope.names, y.2 = .local → scope.names.lookup y.1 = some .local
  sub : ∀ x c, cl.lookup x = some c → X.env.cells.lookup x = some c
  has : ∀ n x, ((relabel scope X.env).names.lookup x = some .cell ∨ (relabel scope X.env).names.lookup x = some .free) → ∃ c, (cellsFrom n scope.names cl).lookup x = some c
  len : N.length = k + fr.length
  at_ : ∀ (j i : Nat), fr[j]? = some i → ∃ x, N[k + j]? = some x ∧ X.N[i]? = some x ∧ X.env.kindOf x = some .cell ∧ ((relabel scope X.env).names.lookup x = some .cell ∨ (relabel scope X.env).names.lookup x = some .free) ∧ cl.lookup x = X.env.cells.lookup x ∧ (x, NameKind.cell) ∉ scope.names
section
variable {X : Cx} {ξ : XK} {tg iter elt : Expr} {ifs : List Expr} {scope : Scope} {cl : List (Str × Addr)} {N : List Str} {k : Nat} {fr : List Nat} {fi : Ro → Sto → Out Src} {gt : Tg} {c : Tv} {f : Ev} {pos : Pos}
theorem ZhU (h : Heap) : CellsOk (pushCells (h.push { cls := .type "dict", data := .dict #[] }) scope.names) (h.objs.size + 1) (cellsFrom (h.objs.size + 1) scope.names []) := by
  have := cellsFrom_ok scope.names (h.push { cls := .type "dict", data := .dict #[] }) (h.objs.size + 1) [] ⟨fun _ _ hm => (nomatch hm), List.Pairwise.nil⟩ (by rw [Heap.size_push]; exact Nat.le_refl _)
  rw [Heap.size_push] at this
  exact this
theorem Zbc (B : BlkC X scope cl N k fr) {h : Heap} {x : Str} {c : Addr} (e : (cellsFrom (h.objs.size + 1) scope.names cl).lookup x = some c) : (X.env.cells.lookup x = some c) ∨ ((x, c) ∈ cellsFrom (h.objs.size + 1) scope.names [] ∧ h.objs.size + 1 ≤ c) := by
  rw [ZaH] at e
  rcases Zc3 e with z | ⟨_, z⟩
  · have m := PySem.mem_of_lookup z
    exact .inr ⟨m, ((ZhU h).empty x c m).2⟩
  · exact .inl (B.sub x c z)
theorem Zgw (B : BlkC X scope cl N k fr) {pins : List (Addr × Obj)} {σ : L2.St} {H : Hp} {s : Shared} {fp : List Addr} (I : Inv X pins σ H s) (hf : ∀ b ∈ fp, ZcE X pins H b) (hlt : ∀ b ∈ fp, b < s.heap.objs.size) {b : Addr} (hb : b ∈ fp) {x : Str} {c : Addr} (h : (cellsFrom (s.heap.objs.size + 1) scope.names cl).lookup x = some c) : c ≠ b := by
  rcases Zbc B h with z | ⟨_, z⟩
  · exact (hf b hb).2.2.2.2.1 x c z
  · exact Nat.ne_of_gt (Nat.lt_trans (hlt b hb) z)
theorem Zgx (B : BlkC X scope cl N k fr) {pins : List (Addr × Obj)} {σ : L2.St} {H : Hp} {s : Shared} {fp : List Addr} (I : Inv X pins σ H s) (hf : ∀ b ∈ fp, ZcE X pins H b) (hlt : ∀ b ∈ fp, b < s.heap.objs.size) : (Ze1 X scope cl N s.heap.objs.size fp s H).Ok where
  mod := I.ok.mod
  kind := B.kind
  glob := I.ok.glob
  blt := I.ok.blt
  above := Nat.le_refl _
  inj := fun x y c h1 h2 => by
    have old : ∀ {x c}, X.env.cells.lookup x = some c → c < s.heap.objs.size := fun {x c} e => by
      obtain ⟨v, q⟩ := I.cell x c e
      exact q.lt
    rcases Zbc B h1 with z | ⟨m1, z⟩ <;> rcases Zbc B h2 with w | ⟨m2, w⟩
    · exact I.ok.inj x y c z w
    · exact absurd (Nat.lt_trans (old z) w) (Nat.lt_irrefl _)
    · exact absurd (Nat.lt_trans (old w) z) (Nat.lt_irrefl _)
    · exact name_of_addr (ZhU (scope := scope) s.heap).apart m1 m2
  has := fun x h => B.has _ x h
  cab := fun x c h e => by
    obtain ⟨y, hy, hz⟩ := List.any_eq_true.mp h
    simp only [Bool.and_eq_true, beq_iff_eq] at hz
    have e' : (cellsFrom (s.heap.objs.size + 1) scope.names [] ++ cl).lookup x = some c := by rw [← ZaH]; exact e
    have hs := PySem.W.cellsFrom_mem scope.names (s.heap.objs.size + 1) [] (x := x) (by rw [← hz.1, ← hz.2]; exact hy)
    rcases Zc3 e' with z | ⟨z, _⟩
    · exact Nat.le_of_lt ((ZhU (scope := scope) s.heap).empty x c (PySem.mem_of_lookup z)).2
    · rw [z] at hs; cases hs
  hd := I.ok.hd
  frames := I.ok.frames
  stk := .inl rfl
  exf := fun b hb => ⟨Nat.ne_of_lt (hlt b hb), fun x c h => Zgw B I hf hlt hb h⟩
  bs := I.bs
  bsz := Nat.le_trans I.ok.bsz I.sz
  noex := fun b o e hb => by
    rcases (hf b hb).2.2.2.1 with z | z
    · exact I.ok.noex b o e z
    · exact absurd (Nat.lt_of_lt_of_le (Heap.lt_size (I.ok.bs b o e).1) z) (Nat.lt_irrefl _)
  exfs := fun b hb z => by
    rcases List.mem_cons.mp (I.stkSub b z) with e | e
    · exact (hf b hb).2.1 e
    · exact (hf b hb).2.2.1 e
  funs := I.stack
  frf := I.stkFree
theorem ZhV (B : BlkC X scope cl N k fr) {pins : List (Addr × Obj)} {σ : L2.St} {H : Hp} {s : Shared} {fp : List Addr} (I : Inv X pins σ H s) (hf : ∀ b ∈ fp, ZcE X pins H b) (hlt : ∀ b ∈ fp, b < s.heap.objs.size) :
    Inv (Ze1 X scope cl N s.heap.objs.size fp s H) [] (stB k fr σ) H { s with heap := pushCells (s.heap.push { cls := .type "dict", data := .dict #[] }) scope.names } := by
  have hk : ∀ b o, s.heap.get? b = some o → (pushCells (s.heap.push { cls := .type "dict", data := .dict #[] }) scope.names).get? b = some o := fun b o e => pushCells_keeps _ _ b o (Heap.get?_push_of_some _ e)
  have hn : (pushCells (s.heap.push { cls := .type "dict", data := .dict #[] }) scope.names).Ns s.heap.objs.size (fun _ => none) := (Heap.Ns.new s.heap (.type "dict")).keeps (pushCells_keeps _ _)
  have nw := ZhU (scope := scope) s.heap
  exact {
    ok := Zgx B I hf hlt
    os := rfl
    bare := I.bare
    base := Un.kept hk
    loc := by
      refine ⟨_, hn, fun i x v e1 e2 e3 => ?_⟩
      obtain ⟨j, r, rfl, g1, g2⟩ := Zgt e2
      obtain ⟨y, k1, k2, k3, k4, k5, k6⟩ := B.at_ j r g1
      have exy : x = y := Option.some.inj (e1.symm.trans k1)
      subst exy
      obtain ⟨m0, hm0, hl⟩ := I.loc
      obtain ⟨u, ru, lk⟩ := hl r x v k2 g2 (.inr (.inl k3))
      refine ⟨u, ru, ?_⟩
      rcases lk with ⟨z, _⟩ | ⟨_, c, z1, ⟨o, z2, z3⟩⟩
      · rw [k3] at z; cases z
      · refine .inr ⟨k4, c, ?_, ⟨o, hk _ _ z2, z3⟩⟩
        show (cellsFrom (s.heap.objs.size + 1) scope.names cl).lookup x = some c
        rw [ZaH, ZcM fun c' hc' => k6 (ZbA _ _ _ _ hc')]
        exact k5.trans z1
    cell := fun x c h => by
      rcases Zbc B h with z | ⟨m, _⟩
      · obtain ⟨v, o, e1, e2⟩ := I.cell x c z
        exact ⟨v, o, hk _ _ e1, e2⟩
      · exact ⟨none, (nw.empty x c m).1⟩
    free := I.fresh
    freeC := fun x c h => by
      rcases Zbc B h with z | ⟨_, z⟩
      · exact I.freeC x c z
      · exact I.hok.fresh (Nat.le_of_lt z)
    pin := fun p hp => (by simp [Ze1, blk] at hp)
    hok := I.hok.kept hk
    len := by
      show (stB k fr σ).length = N.length
      rw [B.len]
      simp [stB]
    qd := I.qd }
theorem ZhW (B : BlkC X scope cl N k fr) (hi : DI X ξ tg iter fi) (hg : ∀ C fp s H, DG (Ze1 X scope cl N C fp s H) tg gt) (ht : ∀ C fp s H, DC (Ze1 X scope cl N C fp s H) ifs c) (he : ∀ C fp s H, DE (Ze1 X scope cl N C fp s H) E0 elt f)
    (hs : ∀ x, foldedSetIterable iter X.env x = pure x := by intro _; rfl) : DE X ξ (.ListComp elt [⟨tg, iter, ifs, 0⟩] scope pos) (ZT fi k fr gt c f) := by
  obtain ⟨wi, pi, qi⟩ := hi
  refine ⟨fun σ H Q => ∃ ρ α M, SR X.K H α σ ρ ∧ HR X.K H α M ∧ OP X.K H α ξ Q (ZT fi k fr gt c f ρ M), ?_, fun σ ρ H α M Q s h q => ⟨ρ, α, M, s, h, q⟩⟩
  rintro pins s σ H Q I ⟨ρ, α, M, sr, hr, op⟩
  rw [eval_ListComp]
  refine wpAny_comprehension_free (use := none) rfl hs B.clos B.kind B.names ?_
  refine thn (pi pins s σ H (fun J H2 => ∃ α2 M2 src, Ext X.K H H2 α α2 ∧ HR X.K H2 α2 M2 ∧ Znz X.K H2 α2 J src ∧ OP X.K H2 α2 ξ Q (match ZbH src gt c f M2.length (cnt src M2) 0 (roB k fr ρ) (M2 ++ [.lst []]) with | .ok _ M2' => .ok (.ref M2.length) M2' | _ => .bad)) I
    (qi σ ρ H α M _ sr hr (OG.seq op fun src M1 J H1 α1 e1 h1 r1 q1 => ⟨α1, M1, src, e1, h1, r1, q1⟩))) fun v s1 w1 => thn w1 fun itv s2 w2 => ?_
  obtain ⟨it, fp, tn, J, H2, rfl, I2, T, st2, f2, α2, M2, src, e2, h2, sc, op2⟩ := w2
  have srI := sr.mono e2
  refine wpAny_newObj_type ?_
  have I3 : Inv X pins σ (upd H2 s2.heap.objs.size (.lst [])) { s2 with heap := s2.heap.push { cls := .type "list", data := .seq ([] : List Value).toArray } } := I2.lnew (its := []) (t' := s2.toks) .nil (Nat.zero_le _)
  have fD : H2 s2.heap.objs.size = none := I2.fresh
  generalize hD : s2.heap.objs.size = D at I3 fD
  generalize hs3 : ({ s2 with heap := s2.heap.push { cls := .type "list", data := .seq ([] : List Value).toArray } } : Shared) = s3 at I3
  generalize hH3 : upd H2 D (.lst []) = H3 at I3
  have h3 : HR X.K H3 (α2 ++ [D]) (M2 ++ [.lst []]) := by rw [← hH3]; exact h2.new fD .nil
  have e3 : Ext X.K H2 H3 α2 (α2 ++ [D]) := by rw [← hH3]; exact Ext.new fD
  have aD : (α2 ++ [D])[M2.length]? = some D := h2.last D
  have lt2 : ∀ b ∈ fp, b < s2.heap.objs.size := fun b hb => let ⟨o, e, _⟩ := T.obj _ _ st2 b hb; Heap.lt_size e
  have keep3 : ∀ b o, s2.heap.get? b = some o → s3.heap.get? b = some o := fun b o e => by rw [← hs3]; exact Heap.get?_push_of_some _ e
  have f3 : ∀ b ∈ fp, ZcE X pins H3 b := fun b hb => ⟨by rw [← hH3, ZG (by rw [← hD]; exact Nat.ne_of_lt (lt2 b hb))]; exact (f2 b hb).1, (f2 b hb).2⟩
  have lt3 : ∀ b ∈ fp, b < s3.heap.objs.size := fun b hb => let ⟨o, e, _⟩ := T.obj _ _ st2 b hb; Heap.lt_size (keep3 b o e)
  have st3 : tn 0 s3.heap := T.keep _ _ _ st2 fun b _ o e => keep3 b o e
  refine Zgv ?_
  have keep4 : ∀ b o, s3.heap.get? b = some o → (pushCells (s3.heap.push { cls := .type "dict", data := .dict #[] }) scope.names).get? b = some o := fun b o e => pushCells_keeps _ _ b o (Heap.get?_push_of_some _ e)
  have I4 := ZhV B I3 f3 lt3
  generalize pushCells (s3.heap.push { cls := .type "dict", data := .dict #[] }) scope.names = h₁ at keep4 I4
  have st4 : tn 0 h₁ := T.keep _ _ _ st3 fun b _ o e => keep4 b o e
  generalize hX : Ze1 X scope cl N s3.heap.objs.size fp s3 H3 = Y at I4
  have YK : Y.K = X.K := by rw [← hX]; rfl
  have Yp : Y.prog = X.prog := by rw [← hX]; rfl
  have Yw : Y.w = X.w := by rw [← hX]; rfl
  have YA : Y.A = X.A := by rw [← hX]; rfl
  have Ye : Y.env = compEnvC scope (cellsFrom (s3.heap.objs.size + 1) scope.names cl) s3.heap.objs.size X.env := by rw [← hX]; rfl
  obtain ⟨tt, pt, qt⟩ := hg s3.heap.objs.size fp s3 H3
  obtain ⟨te, pe, qe⟩ := he s3.heap.objs.size fp s3 H3
  have tst := ht s3.heap.objs.size fp s3 H3
  rw [hX] at pt qt pe qe tst
  cases er : ZbH src gt c f M2.length (cnt src M2) 0 (roB k fr ρ) (M2 ++ [.lst []]) with
  | exc x M9 => rw [er] at op2; exact op2.elim
  | bad => rw [er] at op2; exact op2.elim
  | ok u9 M9 =>
    rw [er] at op2
    have loop : codeAny (model X.prog X.w) X.A (.compLoop (.ListComp elt [⟨tg, iter, ifs, 0⟩] scope pos) 0 (.ref it) (.ref D) (compEnvC scope (cellsFrom (s3.heap.objs.size + 1) scope.names cl) s3.heap.objs.size X.env)) (compPost (model X.prog X.w) X.A X.xe none (EP X pins σ Q) (.ref D) s3.heap.objs.size) { s3 with heap := h₁ } := by
      refine Zbb (fun n s' => ∃ i σ' ρ' H' α' M', Inv Y [] σ' H' s' ∧ tn i s'.heap ∧ (∀ b ∈ fp, H' b = none) ∧ SR X.K H' α' σ' ρ' ∧ HR X.K H' α' M' ∧ Ext X.K H3 H' (α2 ++ [D]) α' ∧ ZbH src gt c f M2.length n i ρ' M' = .ok u9 M9) ?_ (cnt src M2)
        ⟨0, stB k fr σ, roB k fr ρ, H3, α2 ++ [D], M2 ++ [.lst []], I4, st4, fun b hb => (f3 b hb).1, (srI.blk).mono e3, h3, Ext.refl, er⟩
      rintro n s5 ⟨i, σ5, ρ5, H5, α5, M5, I5, st5, fr5, sr5, hr5, ex5, en⟩
      have fp5 : ∀ {H' : Hp}, (∀ b ∈ fp, H' b = none) → ∀ b ∈ fp, ZcE Y [] H' b := fun hn b hb => ⟨hn b hb, by rw [Ye]; exact Nat.ne_of_lt (lt3 b hb), by
        have := (Zgx B I3 f3 lt3).exfs b hb
        rw [hX] at this; exact this, .inl (by rw [← hX]; exact hb), fun x c h => (by rw [Ye] at h; exact Zgw B I3 f3 lt3 hb h), fun p hp => (by rw [← hX] at hp; simp [Ze1, blk] at hp)⟩
      have src5 := sc i H5 α5 M5 (e3.trans ex5) hr5
      rw [ZbH] at en
      cases ex : nxt src i M5 with
      | none => rw [ex] at en; cases en
      | some od =>
        rw [ex] at src5 en
        cases od with
        | none =>
          cases en
          have fin := T.done Y Yp Yw YK YA i [] s5 σ5 H5 (fun _ _ => False) I5 (fp5 fr5) st5 src5
          rw [YA] at fin
          refine thn fin fun r s6 ⟨hr6, I6⟩ => ?_
          subst hr6
          obtain ⟨m6, hm6, _⟩ := id I6.loc
          rw [Ye] at hm6
          refine ⟨m6, hm6, fun h' sb => ?_⟩
          have un := I6.base
          have hok6 := I6.hok
          have I7 : Inv X pins σ H5 s6 := by
            refine I3.call' (s' := s6) (ch := fp) ?_ ?_ ?_ I6.bare fun b hb => ?_
            · have := I6.os
              rw [this, ← hX]; rfl
            · rw [← hX] at un
              exact un
            · rw [Yp, Yw] at hok6
              exact hok6
            · obtain ⟨_, z1, z2, z3, z4, z5⟩ := f3 b hb
              exact ⟨z3, z1, z4, z5⟩
          have hC : H5 s3.heap.objs.size = none := by have := I6.free; rw [Ye] at this; exact this
          have I8 : Inv X pins σ H5 { s6 with heap := h', toks := s6.toks } := I7.turned (it := s3.heap.objs.size) (fun b o hb e => (sb.2 b hb).trans e) hC (Nat.ne_of_gt I3.lt) (.inr I3.sz)
            (fun x c h z => by
              obtain ⟨v, o, e, _⟩ := I3.cell x c h
              exact absurd (Heap.lt_size e) (by rw [z]; exact Nat.lt_irrefl _)) (fun p hp z => by
              have := (I3.pin p hp).1
              exact absurd (Heap.lt_size this) (by rw [z]; exact Nat.lt_irrefl _))
          exact ⟨.ref D, H5, I8, rfl, op2 _ H5 α5 (e3.trans ex5) hr5 (.ref (ex5.get aD))⟩
        | some d =>
          obtain ⟨go, yl⟩ := src5
          cases n with
          | zero => cases en
          | succ n =>
            simp only at en
            have itm := T.item Y Yp Yw YK YA i [] s5 σ5 H5 (fun _ _ => False) I5 (fp5 fr5) st5 go
            rw [YA] at itm
            refine thn itm fun r s6 ⟨u, hr6, w6⟩ => ?_
            subst hr6
            refine thn w6 fun _ s7 ⟨x, H7, I7, r7, y7, st7, fr7⟩ => ?_
            obtain ⟨ex7, hr7, rp7⟩ := yl x H7 y7
            have sr5 := sr5.mono ex7
            have hr5 := hr7
            have ex5 := ex5.trans ex7
            have I7' := I7.pinned (fp5 fr7) (T.obj _ _ st7)
            cases eg : gt d ρ5 with
            | none => rw [eg] at en; cases en
            | some ρ6 =>
              rw [eg] at en
              simp only at en
              have asg := pt _ s7 σ5 H7 x u _ I7' r7 (qt x d σ5 ρ5 H7 α5 ρ6 (fun σ' H' => H' = H7 ∧ SR X.K H7 α5 σ' ρ6) (by rw [YK]; exact sr5) (by rw [YK]; exact rp7) eg fun σ' s' => ⟨rfl, by rw [YK] at s'; exact s'⟩)
              rw [Yp, Yw, YA, Ye] at asg
              refine wpAny_mono asg (fun _ s8 ⟨σ8, H8, I8, z8, sr8⟩ => ?_) (fun _ _ z => by rw [← hX] at z; exact z)
              subst z8
              have again : ∀ {σ9 : L2.St} {H9 : Hp} {s9 : Shared}, Inv Y ([] ++ Zbu fp s7.heap) σ9 H9 s9 → Inv Y [] σ9 H9 s9 ∧ tn (i + 1) s9.heap ∧ ∀ b ∈ fp, H9 b = none := fun {σ9 H9 s9} I9 => by
                refine ⟨I9.unpinned, T.keep _ _ _ st7 fun b hb o e => (I9.pin (b, o) (List.mem_append_right _ (List.mem_append_right _ (Z0 hb e)))).1, fun b hb => ?_⟩
                obtain ⟨o, e, _⟩ := T.obj _ _ st7 b hb
                exact (I9.pin (b, o) (List.mem_append_right _ (List.mem_append_right _ (Z0 hb e)))).2.1
              have after : ∀ (kk : Bool) (M8 : Sto) (H9 : Hp) (α9 : List Addr) (s9 : Shared), Inv Y ([] ++ Zbu fp s7.heap) σ8 H9 s9 → Ext X.K H8 H9 α5 α9 → HR X.K H9 α9 M8 → c ρ6 M5 = .ok kk M8 →
                  (if kk = true then wpAny (model X.prog X.w) X.A (eval elt (compEnvC scope (cellsFrom (s3.heap.objs.size + 1) scope.names cl) s3.heap.objs.size X.env)) (fun x s₄ => wpAny (model X.prog X.w) X.A (call (.builtin "list.append") [.ref D, x]) (fun _ s₅ => ∃ m, m < n + 1 ∧ ∃ i σ' ρ' H' α' M', Inv Y [] σ' H' s₅ ∧ tn i s₅.heap ∧ (∀ b ∈ fp, H' b = none) ∧ SR X.K H' α' σ' ρ' ∧ HR X.K H' α' M' ∧ Ext X.K H3 H' (α2 ++ [D]) α' ∧ ZbH src gt c f M2.length m i ρ' M' = .ok u9 M9) (fun _ _ => False) s₄) (fun _ _ => False) s9
                   else ∃ m, m < n + 1 ∧ ∃ i σ' ρ' H' α' M', Inv Y [] σ' H' s9 ∧ tn i s9.heap ∧ (∀ b ∈ fp, H' b = none) ∧ SR X.K H' α' σ' ρ' ∧ HR X.K H' α' M' ∧ Ext X.K H3 H' (α2 ++ [D]) α' ∧ ZbH src gt c f M2.length m i ρ' M' = .ok u9 M9) := by
                intro kk M8 H9 α9 s9 I9 ex9 hr9 ec
                rw [ec] at en
                cases kk with
                | false =>
                  obtain ⟨a1, a2, a3⟩ := again I9
                  exact Ziv ⟨n, Nat.lt_succ_self n, i + 1, σ8, ρ6, H9, α9, M8, a1, a2, a3, sr8.mono ex9, hr9, ex5.trans ex9, en⟩
                | true =>
                  simp only at en
                  refine Ziw ?_
                  cases ef : f ρ6 M8 with
                  | exc x9 M10 => rw [ef] at en; cases en
                  | bad => rw [ef] at en; cases en
                  | ok y M10 =>
                    rw [ef] at en
                    simp only at en
                    have ev := pe _ s9 σ8 H9 (fun v H' => ∃ α', Ext X.K H9 H' α9 α' ∧ HR X.K H' α' M10 ∧ Rep X.K H' α' v y) I9 (qe σ8 ρ6 H9 α9 M8 _ (by rw [YK]; exact sr8.mono ex9) (by rw [YK]; exact hr9) (by
                      rw [ef, YK]
                      exact fun v H' α' e h r => ⟨α', e, h, r⟩))
                    rw [Yp, Yw, YA, Ye] at ev
                    refine wpAny_mono ev (fun yv s10 ⟨v, H10, I10, r10, α10, ex10, hr10, rp10⟩ => ?_) (fun _ _ z => by rw [← hX] at z; exact z)
                    cases em : M10[M2.length]? with
                    | none => rw [em] at en; cases en
                    | some so =>
                      cases so with
                      | lst ds =>
                        rw [em] at en
                        simp only at en
                        by_cases cz : ds.length < 10000000
                        · rw [if_pos cz] at en
                          have aD10 := ex10.get (ex9.get (ex5.get aD))
                          obtain ⟨xs, g1, g2⟩ := hr10.at aD10 em
                          have ap := ZbJ (X := Y) _ s10 σ8 H10 (.ref D) [v] (.ref D) [yv] (fun _ H' => H' = upd H10 D (.lst (xs ++ [v]))) I10 rfl (.cons r10 .nil) ⟨D, xs, v, rfl, rfl, g1, by rw [g2.length]; exact Nat.lt_of_lt_of_le cz (by decide), rfl⟩
                          rw [Yp, Yw, YA] at ap
                          refine wpAny_mono ap (fun _ s11 ⟨v11, H11, I11, _, z11⟩ => ?_) (fun _ _ z => by rw [← hX] at z; exact z)
                          subst z11
                          obtain ⟨a1, a2, a3⟩ := again I11
                          have exw : Ext X.K H10 (upd H10 D (.lst (xs ++ [v]))) α10 α10 := Ext.wr g1
                          exact ⟨n, Nat.lt_succ_self n, i + 1, σ8, ρ6, _, α10, _, a1, a2, a3, ((sr8.mono ex9).mono ex10).mono exw, hr10.wr aD10 g1 (g2.append (.cons rp10 .nil)), ((ex5.trans ex9).trans ex10).trans exw, en⟩
                        · rw [if_neg cz] at en
                          cases en
              rcases tst with ⟨rfl, ec⟩ | ⟨e, rfl, tt', ptt, qtt⟩
              · refine wpAny_tests_nil ?_
                exact after true M5 H8 α5 s8 I8 Ext.refl hr5 (by rw [ec])
              · refine wpAny_tests_one ?_
                cases ec : c ρ6 M5 with
                | exc x9 M10 => rw [ec] at en; cases en
                | bad => rw [ec] at en; cases en
                | ok kk M8 =>
                  have tv' := ptt _ s8 σ8 H8 (fun b H' => b = kk ∧ ∃ α', Ext X.K H8 H' α5 α' ∧ HR X.K H' α' M8) I8 (qtt σ8 ρ6 H8 α5 M5 _ (by rw [YK]; exact sr8) (by rw [YK]; exact hr5) (by
                    rw [ec, YK]
                    exact fun v H' α' e h r => ⟨r, α', e, h⟩))
                  rw [Yp, Yw, YA, Ye] at tv'
                  refine wpAny_mono tv' (fun b s9 ⟨H9, I9, zb, α9, ex9, hr9⟩ => ?_) (fun _ _ z => by rw [← hX] at z; exact z)
                  subst zb
                  exact after b M8 H9 α9 s9 I9 ex9 hr9 ec
    exact codeAny_compStart_list loop (T.self X.A 0 _ _ _ st4 loop)
end
noncomputable def Zjz (XN N : List Str) (dn sn : List (Str × NameKind)) (k : Nat) (fr : List Nat) : Bool :=
  (sn.all fun y => (y.2 != .free || dn.lookup y.1 == some .cell) && (y.2 != .local || sn.lookup y.1 == some .local)) && N.length == k + fr.length &&
    (List.range fr.length).all fun j => match fr[j]? with
      | some i => (match N[k + j]?, XN[i]? with | some x, some y => x == y && dn.lookup x == some .cell && sn.lookup x == some .free && sn.all (fun y => !(y.1 == x && y.2 == .cell)) | _, _ => false)
      | none => false
theorem Zq3 {X : Cx} {scope : Scope} {N : List Str} {k : Nat} {fr : List Nat} {XN : List Str} {dn : List (Str × NameKind)} (hN : X.N = XN) (hd : X.env.scope.names = dn) (cel : ∀ x, dn.lookup x = some .cell → ∃ c, X.env.cells.lookup x = some c) (hk : scope.kind = .function) (h : ZlA XN N dn scope.names k fr = true) : Blk X scope (clF scope X.env) N k fr := by
  unfold ZlA at h
  simp only [Bool.and_eq_true, List.all_eq_true, bne_iff_ne, ne_eq, Bool.or_eq_true, beq_iff_eq] at h
  obtain ⟨⟨h1, h2⟩, h3⟩ := h
  have kind : ∀ x, X.env.kindOf x = dn.lookup x := fun x => by rw [← hd]; rfl
  have frc : ∀ y ∈ scope.names, y.2 = .free → ∃ c, X.env.cells.lookup y.1 = some c := fun y hy e => by
    rcases (h1 y hy).1.2 with z | z
    · exact absurd e z
    · exact cel _ z
  have sub : ∀ x c, (clF scope X.env).lookup x = some c → X.env.cells.lookup x = some c := fun x c e => by
    unfold clF at e
    rw [← List.map_reverse] at e
    obtain ⟨e1, y, e2, e3⟩ := Zbj e
    have e4 := List.mem_filter.mp (List.mem_reverse.mp e2)
    obtain ⟨c', g⟩ := frc y e4.1 (by simpa using e4.2)
    rw [e3] at g
    rw [g] at e1 ⊢
    rw [e1]
    rfl
  have has : ∀ x, scope.names.lookup x = some .free → ∃ c, (clF scope X.env).lookup x = some c := fun x e => by
    refine Zaw ?_
    have m := PySem.mem_of_lookup e
    exact ⟨(x, (X.env.cells.lookup x).getD 0), List.mem_reverse.mpr (List.mem_map.mpr ⟨(x, .free), List.mem_filter.mpr ⟨m, by simp⟩, rfl⟩), rfl⟩
  refine ⟨?_, hk, fun y hy => (h1 y hy).1.1, fun y hy e => ?_, sub, fun x z => ?_, h2, fun j i e => ?_⟩
  · have := Zcl (env := X.env) scope.names [] frc
    rw [List.append_nil] at this
    unfold closureFor
    exact (congrArg (fun (m : Sem (List (Str × Addr))) => m >>= fun cs => (pure cs : Sem (List (Str × Addr)))) this).trans (pure_bind _ _)
  · rcases (h1 y hy).2 with z | z
    · exact absurd e z
    · exact z
  · have nc : ∀ m, X.env.scope.names.lookup m = X.env.kindOf m := fun m => rfl
    refine has x ?_
    rcases z with z | z
    · rcases Zz nc z with q | q
      · exact absurd rfl (h1 _ (PySem.mem_of_lookup q)).1.1
      · exact q.1
    · rcases Zz nc z with q | q
      · exact q
      · cases q.2
  · have hj : j < fr.length := (List.getElem?_eq_some_iff.mp e).1
    have q := h3 j (List.mem_range.mpr hj)
    rw [e] at q
    dsimp only at q
    cases e1 : N[k + j]? with
    | none => rw [e1] at q; cases q
    | some x =>
      cases e2 : XN[i]? with
      | none => rw [e1, e2] at q; cases q
      | some y =>
        rw [e1, e2] at q
        simp only [Bool.and_eq_true, beq_iff_eq] at q
        obtain ⟨⟨q1, q2⟩, q3⟩ := q
        subst q1
        obtain ⟨kd, r1, r2⟩ := Zap (env := X.env) q3
        obtain ⟨c, r3⟩ := has x q3
        refine ⟨x, rfl, by rw [hN]; exact e2, by rw [kind]; exact q2, ?_, r3.trans (sub x c r3).symm⟩
        rcases r1 with r1 | r1
        · exact .inl (r1 ▸ r2)
        · exact .inr (r1 ▸ r2)
theorem Zn4 {X : Cx} {scope : Scope} {N : List Str} {k : Nat} {fr : List Nat} {XN : List Str} {dn : List (Str × NameKind)} (hN : X.N = XN) (hd : X.env.scope.names = dn) (cel : ∀ x, dn.lookup x = some .cell → ∃ c, X.env.cells.lookup x = some c) (hk : scope.kind = .function) (h : Zjz XN N dn scope.names k fr = true) : BlkC X scope (clF scope X.env) N k fr := by
  unfold Zjz at h
  simp only [Bool.and_eq_true, List.all_eq_true, bne_iff_ne, ne_eq, Bool.or_eq_true, beq_iff_eq] at h
  obtain ⟨⟨h1, h2⟩, h3⟩ := h
  have kind : ∀ x, X.env.kindOf x = dn.lookup x := fun x => by rw [← hd]; rfl
  have frc : ∀ y ∈ scope.names, y.2 = .free → ∃ c, X.env.cells.lookup y.1 = some c := fun y hy e => by
    rcases (h1 y hy).1 with z | z
    · exact absurd e z
    · exact cel _ z
  have sub : ∀ x c, (clF scope X.env).lookup x = some c → X.env.cells.lookup x = some c := fun x c e => by
    unfold clF at e
    rw [← List.map_reverse] at e
    obtain ⟨e1, y, e2, e3⟩ := Zbj e
    have e4 := List.mem_filter.mp (List.mem_reverse.mp e2)
    obtain ⟨c', g⟩ := frc y e4.1 (by simpa using e4.2)
    rw [e3] at g
    rw [g] at e1 ⊢
    rw [e1]
    rfl
  have has : ∀ x, scope.names.lookup x = some .free → ∃ c, (clF scope X.env).lookup x = some c := fun x e => by
    refine Zaw ?_
    have m := PySem.mem_of_lookup e
    exact ⟨(x, (X.env.cells.lookup x).getD 0), List.mem_reverse.mpr (List.mem_map.mpr ⟨(x, .free), List.mem_filter.mpr ⟨m, by simp⟩, rfl⟩), rfl⟩
  refine ⟨?_, hk, fun y hy e => ?_, sub, fun n x z => ?_, h2, fun j i e => ?_⟩
  · have := Zcl (env := X.env) scope.names [] frc
    rw [List.append_nil] at this
    unfold closureFor
    exact (congrArg (fun (m : Sem (List (Str × Addr))) => m >>= fun cs => (pure cs : Sem (List (Str × Addr)))) this).trans (pure_bind _ _)
  · rcases (h1 y hy).2 with z | z
    · exact absurd e z
    · exact z
  · have nc : ∀ m, X.env.scope.names.lookup m = X.env.kindOf m := fun m => rfl
    have own : scope.names.lookup x = some .cell → ∃ c, (cellsFrom n scope.names (clF scope X.env)).lookup x = some c := fun e => Option.isSome_iff_exists.mp (PySem.W.cellsFrom_some scope.names n _ (.inl e))
    have oth : scope.names.lookup x = some .free → ∃ c, (cellsFrom n scope.names (clF scope X.env)).lookup x = some c := fun e => by
      obtain ⟨c, hc⟩ := has x e
      exact Option.isSome_iff_exists.mp (PySem.W.cellsFrom_some scope.names n _ (.inr (by rw [hc]; rfl)))
    rcases z with z | z
    · rcases Zz nc z with q | q
      · exact own q
      · exact oth q.1
    · rcases Zz nc z with q | q
      · exact oth q
      · cases q.2
  · have hj : j < fr.length := (List.getElem?_eq_some_iff.mp e).1
    have q := h3 j (List.mem_range.mpr hj)
    rw [e] at q
    dsimp only at q
    cases e1 : N[k + j]? with
    | none => rw [e1] at q; cases q
    | some x =>
      cases e2 : XN[i]? with
      | none => rw [e1, e2] at q; cases q
      | some y =>
        rw [e1, e2] at q
        simp only [Bool.and_eq_true, beq_iff_eq] at q
        obtain ⟨⟨⟨q1, q2⟩, q3⟩, q4⟩ := q
        subst q1
        obtain ⟨kd, r1, r2⟩ := Zap (env := X.env) q3
        obtain ⟨c, r3⟩ := has x q3
        refine ⟨x, rfl, by rw [hN]; exact e2, by rw [kind]; exact q2, ?_, r3.trans (sub x c r3).symm, fun hm => ?_⟩
        · rcases r1 with r1 | r1
          · exact .inl (r1 ▸ r2)
          · exact .inr (r1 ▸ r2)
        · have := List.all_eq_true.mp q4 _ hm
          simp at this
theorem ZlB {X : Cx} {scope : Scope} {N : List Str} {k n : Nat} {fr : List Nat} {XN : List Str} {dn : List (Str × NameKind)} (hN : X.N = XN) (hd : X.env.scope.names = dn) (hc : X.env.cells = cellsFrom n dn []) (hk : scope.kind = .function) (h : Zjz XN N dn scope.names k fr = true) : BlkC X scope (clF scope X.env) N k fr :=
  Zn4 hN hd (fun x e => by
    have := PySem.W.cellsFrom_some dn n [] (.inl e)
    rw [hc]
    exact Option.isSome_iff_exists.mp this) hk h
noncomputable def Zn5 (names dn : List (Str × NameKind)) : List (Str × NameKind) := names.map fun (n, k) => if (k == NameKind.free && dn.lookup n == some .cell) then (n, NameKind.cell) else (n, k)
theorem Zgy {X : Cx} {scope : Scope} {dn : List (Str × NameKind)} (hd : X.env.scope.names = dn) (hk : X.env.scope.kind = .function) : (relabel scope X.env).names = Zn5 scope.names dn := by
  unfold relabel Zn5
  rw [← hd]
  show scope.names.map _ = _
  apply List.map_congr_left
  rintro ⟨n, k⟩ _
  have e : (ScopeKind.function == ScopeKind.function) = true := by decide
  simp only [hk, e, Bool.and_true]
  rfl
section
variable {X : Cx} {scope0 : Scope} {cl0 : List (Str × Addr)} {N0 : List Str} {k0 : Nat} {fr0 : List Nat} {C : Addr} {fp : List Addr} {s : Shared} {H : Hp} {scope : Scope} {N : List Str} {k : Nat} {fr : List Nat} {dn : List (Str × NameKind)}
theorem ZlC (B0 : BlkC X scope0 cl0 N0 k0 fr0) (hd : X.env.scope.names = dn) (hk0 : X.env.scope.kind = .function) (hk : scope.kind = .function) (h : ZlA N0 N (Zn5 scope0.names dn) scope.names k fr = true) : Blk (Ze1 X scope0 cl0 N0 C fp s H) scope (clF scope (Ze1 X scope0 cl0 N0 C fp s H).env) N k fr :=
  Zq3 rfl (Zgy hd hk0) (fun x e => B0.has _ x (.inl (by rw [Zgy hd hk0]; exact e))) hk h
end
theorem Ze2 {X : Cx} {ξ : XK} {tg iter elt : Expr} {ifs : List Expr} {scope : Scope} {cl : List (Str × Addr)} {N : List Str} {k : Nat} {fr : List Nat} {fi : Ro → Sto → Out Src} {gt : Tg} {c : Tv} {f : Ev} {pos : Pos} (B : BlkC X scope cl N k fr) (hi : DI X ξ tg iter fi) (hg : ∀ C fp s H, DG (Ze1 X scope cl N C fp s H) tg gt) (ht : ∀ C fp s H, DC (Ze1 X scope cl N C fp s H) ifs c) (he : BlkC X scope cl N k fr → ∀ C fp s H, DE (Ze1 X scope cl N C fp s H) E0 elt f)
    (hs : ∀ x, foldedSetIterable iter X.env x = pure x := by intro _; rfl) : DE X ξ (.ListComp elt [⟨tg, iter, ifs, 0⟩] scope pos) (ZT fi k fr gt c f) := ZhW B hi hg ht (he B) hs
end DL
end
section
set_option Elab.async false
set_option linter.all false
set_option maxRecDepth 100000
set_option maxHeartbeats 4000000
namespace DL
open PySem PySem.Spec PyProof.Rows L2
open PySem.W (nsIn excIn tailIn nsOkIn mroIn clsIn typeIn findIn specialIn takesIn kitOne Looks)
noncomputable abbrev bmV : List Value := [.type "ValueError", .type "Exception", .type "BaseException", .type "object"]
noncomputable def ZjA (K : PySem.W.Frag) (c : Str) : Option Addr := match nsIn K mainGlobals c with | some (some (.ref C)) => some C | _ => none
theorem ZhX {K : PySem.W.Frag} {c : Str} {C : Addr} (h : ZjA K c = some C) : nsIn K mainGlobals c = some (some (.ref C)) := by
  unfold ZjA at h
  split at h
  · rename_i C' e; cases h; exact e
  · cases h
noncomputable def ZjB (K : PySem.W.Frag) (c : Str) : Bool := match ZjA K c with
  | some C => excIn K C bmV "ValueError.__new__" && findIn K (.ref C) "__getattribute__" == some (some (.builtin "BaseException.__getattribute__")) && findIn K (.ref C) "__getattr__" == some none && findIn K (.ref C) "__class__" == some (some (.builtin "object.__class__")) &&
    specialIn K (.builtin "object.__class__") "__get__" == some (some (.builtin "getset_descriptor.__get__")) && takesIn K (.builtin "object.__class__") == some true && mroIn K C (.type "BaseException") == some true && mroIn K C (.type "object") == some true && (clsIn K C).isSome
  | none => false
theorem ZjC {K : PySem.W.Frag} {c : Str} (h : ZjB K c = true) : ∃ C, nsIn K mainGlobals c = some (some (.ref C)) ∧ excIn K C bmV "ValueError.__new__" = true ∧ DQ.ExcC K C := by
  unfold ZjB at h
  split at h
  · rename_i C e
    simp only [Bool.and_eq_true, beq_iff_eq] at h
    obtain ⟨⟨⟨⟨⟨⟨⟨⟨h1, h2⟩, h3⟩, h4⟩, h5⟩, h6⟩, h7⟩, h8⟩, h9⟩ := h
    exact ⟨C, ZhX e, h1, h2, h3, h4, h5, h6, h7, h8, h9⟩
  · cases h
theorem ZjD {K : PySem.W.Frag} {h : Heap} {C : Addr} {bmB : List Value} {newId : String} (X : K.In h) (q : excIn K C bmB newId = true) :
    ∃ bm N nm q bs hdct sn sub ab col dd k0 k1 k2 k3 k5 mN, h.get? C = some (excClassObj nm q C N bs bm hdct sn sub ab col dd k0 k1 k2 k3 k5 newId) ∧ h.Ns N mN ∧ mN "__init__" = none ∧ OwnTail h bmB bm := by
  unfold excIn at q
  split at q
  · rename_i dd cd sl ho
    split at q
    · rename_i C' bm k0 k1 k2 k3 n k5 hm hs
      simp only [Bool.and_eq_true, beq_iff_eq, Bool.not_eq_true'] at q
      obtain ⟨⟨⟨⟨⟨rfl, rfl⟩, hdel⟩, ht⟩, hok⟩, hni⟩ := q
      obtain ⟨nm, bs, mro, ns, qn, hd, sn, sub, ab, col, del⟩ := cd
      dsimp only at hm hdel hok hni
      subst hm hdel
      obtain ⟨l⟩ := sl
      simp only at hs
      subst hs
      exact ⟨bm, ns, nm, qn, bs, hd, sn, sub, ab, col, dd, k0, k1, k2, k3, k5, _, X _ _ ho, .of_isNs (PySem.W.isNs_of_in X hok), PySem.W.nsMap_none_of_in X hok hni, PySem.W.tail_of_in X ht⟩
    · cases q
  · cases q
noncomputable def ZpQ (tab : List (Str × Bool)) (f : Ev) : Ev := fun ρ M => (f ρ M).bind fun x M1 => match x with | .err c _ => (match tab.lookup c with | some b => .ok (.bl b) M1 | none => .bad) | _ => .bad
section
variable {X : Cx} {ξ : XK} {e : Expr} {fa : Ev} {p pos : Pos} {tab : List (Str × Bool)}
noncomputable def Za3 (c : Str) (fs : Av) : Sv := fun ρ M => Zar (fs ρ M) fun ds M1 => if ds.length ≤ 1000 then .exc c M1 else .bad
theorem Zc4 {x : Str} {np cpos : Pos} {a : Expr} {as : List Expr} {fs : Av} (T : Thr X ξ) (hx : ZjB X.K x = true) (gl : ∀ c v, nsIn X.K mainGlobals c = some (some v) → X.mg c = some v) (hh : X.A.handled = none) (ha : DA X ξ (a :: as) fs) (hg : Gl X x := by rfl) (hdb : (x == ("__debug__" : Str)) = false := by decide)
    (he : starEach (a :: as) X.env = (false, eval a X.env) :: starEach as X.env := by rfl) (hpl : (backTo cpos (starEach as X.env)).any (·.1) = false := by rfl) : DS X ξ (.Raise (some (.Call (.Name x np) (a :: as) [] cpos)) none pos) (Za3 x fs) := by
  obtain ⟨ta, pa, qa⟩ := ha
  obtain ⟨C, hC, hq, _⟩ := ZjC hx
  refine ⟨fun Dn σ H => ta σ H fun vs H1 => vs.length ≤ sizeLine ∧ ξ (.ref C) none H1, fun pins s σ H Dn I h => ?_, fun σ ρ H α M Dn s h q => ?_⟩
  · obtain ⟨tl, N, nm, q, bs, hdct, sn, sub, ab, col, dd, k0, k1, k2, k3, k5, mN, gC, hN, hni, TL⟩ := ZjD I.ok.mod.kin hq
    refine wpAny_Raise_call_subT (C := C) (nm := nm) (q := q) (N := N) (bs := bs) (bm := tl) (hdct := hdct) (sn := sn) (sub := sub) (ab := ab) (col := col) (dd := dd) (k0 := k0) (k1 := k1) (k2 := k2) (k3 := k3) (k5 := k5) F.excBase_ValueError (mN := mN)
      (TL.hasType F.excBase_ValueError.hasBase) hh (by rw [he]; show (false || (backTo cpos (starEach as X.env)).any (·.1)) = false; rw [hpl]; rfl) hni (ZfS I hg (gl x _ hC) ⟨rfl, ?_⟩ hdb)
    have hs := pa cpos pins s σ H _ I h
    rw [he] at hs ⊢
    refine Calls.evalArgs_plain (wpAny_mono hs (fun us s2 ⟨vs, H1, I1, r1, z1, z2⟩ => ⟨rfl, by rw [← r1.length]; exact z1, I1.bk _ _ gC, hN.keeps I1.bk, TL.keeps I1.bk, fun h' e m => ?_⟩) fun _ _ y => y)
    obtain ⟨t, g1, g2, g3⟩ := m.there
    exact T.mak pins σ H1 s2 h' e _ _ C I1 m.keeps m.new g1 rfl rfl rfl rfl rfl z2
  · refine qa σ ρ H α M _ s h (FP.seq q fun ds M1 vs H1 α1 e1 h1 r1 w1 => ?_)
    by_cases hl : ds.length ≤ 1000
    · rw [if_pos hl] at w1
      exact ⟨by rw [r1.length]; exact small hl, w1 C H1 α1 hC Ext.refl h1⟩
    · rw [if_neg hl] at w1
      exact w1.elim
end
end DL
end
section
set_option Elab.async false
set_option linter.all false
set_option maxRecDepth 100000
set_option maxHeartbeats 4000000
namespace DL
open PySem PySem.Spec PyProof.Rows L2
open PySem.W (nsIn excIn tailIn nsOkIn mroIn clsIn typeIn findIn specialIn takesIn kitOne Looks looks_mroIn looks_typeIn)
section
variable {X : Cx} {pins pins' pn : List (Addr × Obj)} {σ : L2.St} {H H' : Hp} {s : Shared} {xe : Value → Shared → Prop} {e : Addr}
end
noncomputable def ZpR (gb : Sv) (cs : List Str) (i : Nat) (gh : Sv) : Sv := fun ρ M => match gb ρ M with
  | .exc c M1 => if cs.contains c = true then (match gh ((List.replicate ρ.length none).set i (some (.err c []))) M1 with
    | .ret d M2 => .ret d M2
    | .nx _ M2 => .nx (List.replicate ρ.length none) M2
    | _ => .bad) else .bad
  | o => o
section
variable {X : Cx} {ξ : XK} {d n : Str} {cs : List Str} {i : Nat} {body suite : List Stmt} {b0 : Stmt} {gb gh : Sv} {pos hpos np : Pos}
end
theorem ZE {k : Nat} {A : Around} {env : Env} (hr : Room k (A.deeper env)) (h : 100 ≤ k) : A.handled.isNone = true := by
  have e : A.handled = none := hr.hd h
  rw [e]
  rfl
end DL
end
section
set_option Elab.async false
set_option linter.all false
set_option maxRecDepth 100000
set_option maxHeartbeats 4000000
namespace DL
open PySem PySem.Spec PyProof.Rows L2
noncomputable abbrev Me := D → List D → Sto → Out D
noncomputable def MO (X : Cx) (ξ : XK) (r : V → List V → Hp → VK → Prop) (g : Me) : Prop := ∀ H α M v vs x ds Q, HR X.K H α M → Rep X.K H α v x → Reps X.K H α vs ds → OP X.K H α ξ Q (g x ds M) → r v vs H Q
theorem HR.wrE {K : PySem.W.Frag} {H : Hp} {α : List Addr} {M : Sto} {n : Nat} {p : Addr} {xs ys : List V} {ds : List D} (h : HR K H α M) (e : α[n]? = some p) (hp : H p = some (.lst ys)) (r : Reps K H α xs ds) : Ext K H (upd H p (.lst xs)) α α ∧ HR K (upd H p (.lst xs)) α (M.set n (.lst ds)) :=
  ⟨Ext.wr hp, h.wr e hp r⟩
section
variable {X : Cx} {ξ : XK} {o e : Expr} {es : List Expr} {fo fa : Ev} {fs : Av} {name : Str} {apos cpos pos : Pos} {T id : String} {r : V → List V → Hp → VK → Prop} {g : Me}
noncomputable def ZjE (x : D) (M : Sto) : Bool := match x with | .ref n => M[n]?.isSome | _ => false
noncomputable def ZfJ (g : Me) (fo : Ev) (fs : Av) : Ev := fun ρ M => (fo ρ M).bind fun x M1 => if ZjE x M1 = true then (fs ρ M1).bind fun ds M2 => g x ds M2 else .bad
theorem ZjF {K : PySem.W.Frag} {H : Hp} {α : List Addr} {M : Sto} {v : V} {x : D} (h : HR K H α M) (rx : Rep K H α v x) (k : ZjE x M = true) : tyV K "list" v H := by
  cases rx with
  | @ref p n hp =>
    obtain ⟨xs, g⟩ := h.some_at hp
    exact .inl ⟨rfl, _, SqL.of g⟩
  | _ => cases k
theorem Zn6 (slot : Slot "list" name id) (hty : typeOf (.builtin id) = pure (.type "method_descriptor")) (hm : MtR X id r) (hf : MO X ξ r g) (ho : DE X ξ o fo) (ha : DA X ξ (e :: es) fs)
    (hbase : attributeBase o name X.env (eval o X.env) = eval o X.env := by rfl)
    (hfew : ((backTo cpos (starEach (e :: es) X.env)).all (fun x => !x.1) && (backToKw cpos (keywordEach [] X.env)).all (fun x => x.1.isSome)
      && decide ((e :: es).length + ([] : List Keyword).length + (if ([] : List Keyword).isEmpty then 0 else 1) < 30)) = true := by rfl)
    (hline : (apos.endLine == cpos.line) = true := by rfl) (hs : starEach (e :: es) X.env = (false, eval e X.env) :: starEach es X.env := by rfl) (hplain : (backTo cpos (starEach es X.env)).any (·.1) = false := by rfl) :
    DE X ξ (.Call (.Attribute o name apos) (e :: es) [] cpos) (ZfJ g fo fs) := by
  obtain ⟨to, po, qo⟩ := ho
  obtain ⟨ta, pa, qa⟩ := ha
  refine ⟨_, ZnY PySem.F.plainAttrs_list slot hty hm po pa hbase hfew hline hs hplain, fun σ ρ H α M Q s h q => ?_⟩
  refine qo σ ρ H α M _ s h (OG.seq q fun x M1 v H1 α1 e1 h1 r1 q1 => ?_)
  by_cases k : ZjE x M1 = true
  · rw [if_pos k] at q1
    exact ⟨ZjF h1 r1 k, qa σ ρ H1 α1 M1 _ (s.mono e1) h1 (OG.seq q1 fun ds M2 vs H2 α2 e2 h2 r2 q2 => hf H2 α2 M2 v vs x ds Q h2 (Rep.mono e2 r1) r2 q2)⟩
  · rw [if_neg k] at q1
    exact q1.elim
noncomputable def mApp : Me := fun x ds M => match x, ds with
  | .ref n, [d] => (match M[n]? with | some (.lst xs) => if xs.length < 10000000 then .ok .non (M.set n (.lst (xs ++ [d]))) else .bad | none => .bad)
  | _, _ => .bad
theorem ZlD : MO X ξ rAppend mApp := by
  intro H α M v vs x ds Q h rx rs q
  cases rx with
  | @ref p n hp =>
    match rs with
    | .nil => exact q.elim
    | .cons _ (.cons _ _) => exact q.elim
    | .cons (v := u) (d := d) ru .nil =>
      cases em : M[n]? with
      | none => simp only [mApp, em] at q; exact q.elim
      | some so =>
        cases so with
        | lst es =>
          obtain ⟨xs, g1, g2⟩ := h.at hp em
          by_cases c : es.length < 10000000
          · simp only [mApp, em, if_pos c] at q
            obtain ⟨k1, k2⟩ := h.wrE hp g1 (g2.append (.cons ru .nil))
            exact ⟨p, xs, u, rfl, rfl, g1, by rw [g2.length]; exact Nat.lt_of_lt_of_le c (by decide), q _ _ α k1 k2 .non⟩
          · simp only [mApp, em, if_neg c] at q
            exact q.elim
  | _ => cases rs <;> exact q.elim
noncomputable def ZpS : Me := fun x ds M => match x, ds with
  | .ref n, [] => (match M[n]? with | some (.lst _) => .ok .non (M.set n (.lst [])) | none => .bad)
  | _, _ => .bad
noncomputable def ZpT : Me := fun x ds M => match x, ds with
  | .ref n, [.ref m] => (match M[n]?, M[m]? with | some (.lst xs), some (.lst ys) => if xs.length + ys.length ≤ 10000000 then .ok .non (M.set n (.lst (xs ++ ys))) else .bad | _, _ => .bad)
  | _, _ => .bad
theorem Zcm (ho : DE X ξ o fo) (ha : DE X ξ e fa) (hbase : attributeBase o "append" X.env (eval o X.env) = eval o X.env := by rfl)
    (hfew : ((backTo cpos (starEach [e] X.env)).all (fun x => !x.1) && (backToKw cpos (keywordEach [] X.env)).all (fun x => x.1.isSome)
      && decide ([e].length + ([] : List Keyword).length + (if ([] : List Keyword).isEmpty then 0 else 1) < 30)) = true := by rfl)
    (hline : (apos.endLine == cpos.line) = true := by rfl) (hs : starEach [e] X.env = (false, eval e X.env) :: starEach [] X.env := by rfl) (hplain : (backTo cpos (starEach [] X.env)).any (·.1) = false := by rfl) :
    DE X ξ (.Call (.Attribute o "append" apos) [e] [] cpos) (ZfJ mApp fo (Za fa aNil)) := Zn6 PySem.F.slot_list_append PySem.F.type_list_append ZbJ ZlD ho (Zb ha Zf hs) hbase hfew hline hs hplain
noncomputable def DO (X : Cx) (ξ : XK) (e : Option Expr) (f : Ro → Sto → Out (Option Int)) : Prop := ∃ t : TO, PO X e t ∧ ∀ σ ρ H α M (Q : Option Int → Hp → Prop), SR X.K H α σ ρ → HR X.K H α M → OG X.K (fun _ _ v d => v = d) H α ξ Q (f ρ M) → t σ H Q
noncomputable def oNo : Ro → Sto → Out (Option Int) := fun _ M => .ok none M
noncomputable def oSo (f : Ev) : Ro → Sto → Out (Option Int) := fun ρ M => (f ρ M).bind fun x M1 => match x with | .int i => .ok (some i) M1 | _ => .bad
theorem Zgz : DO X ξ none oNo := ⟨_, Zjj, fun σ ρ H α M Q s h q => q none H α Ext.refl h rfl⟩
theorem ZgA (ha : DE X ξ e fa) : DO X ξ (some e) (oSo fa) := by
  obtain ⟨ta, pa, qa⟩ := ha
  refine ⟨_, Zjk pa, fun σ ρ H α M Q s h q => ?_⟩
  refine qa σ ρ H α M _ s h (OG.seq q fun x M1 v H1 α1 e1 h1 r1 q1 => ?_)
  cases r1 with
  | int i => exact ⟨i, rfl, q1 (some i) H1 α1 Ext.refl h1 rfl⟩
  | _ => exact q1.elim
noncomputable def Zdu (xs : List D) (lo hi : Option Int) : List D := (xs.drop (HT.sIx xs.length 0 lo)).take (HT.sIx xs.length xs.length hi - HT.sIx xs.length 0 lo)
theorem Reps.drop {K : PySem.W.Frag} {H : Hp} {α : List Addr} : ∀ (n : Nat) {vs : List V} {ds : List D}, Reps K H α vs ds → Reps K H α (vs.drop n) (ds.drop n)
  | 0, _, _, h => h
  | _ + 1, _, _, .nil => .nil
  | n + 1, _, _, .cons _ t => Reps.drop n t
theorem Reps.take {K : PySem.W.Frag} {H : Hp} {α : List Addr} : ∀ (n : Nat) {vs : List V} {ds : List D}, Reps K H α vs ds → Reps K H α (vs.take n) (ds.take n)
  | 0, _, _, _ => .nil
  | _ + 1, _, _, .nil => .nil
  | n + 1, _, _, .cons r t => .cons r (Reps.take n t)
theorem Reps.cut {K : PySem.W.Frag} {H : Hp} {α : List Addr} {vs : List V} {ds : List D} (r : Reps K H α vs ds) (lo hi : Option Int) : Reps K H α (Ziu vs lo hi) (Zdu ds lo hi) := by
  unfold Ziu Zdu
  rw [r.length]
  exact (r.drop _).take _
noncomputable def eSl (f : Ev) (lo hi : Ro → Sto → Out (Option Int)) : Ev := fun ρ M => (f ρ M).bind fun x M1 => (lo ρ M1).bind fun l M2 => (hi ρ M2).bind fun u M3 => match x with
  | .ref n => (match M3[n]? with | some (.lst xs) => .ok (.ref M3.length) (M3 ++ [.lst (Zdu xs l u)]) | none => .bad)
  | .rol xs => .ok (.ref M3.length) (M3 ++ [.lst (Zdu xs l u)])
  | .tup xs => if HT.sIx xs.length 0 l = 0 ∧ HT.sIx xs.length xs.length u = xs.length then .bad else .ok (.tup (Zdu xs l u)) M3
  | _ => .bad
theorem ZgB {lo hi : Option Expr} {fl fh : Ro → Sto → Out (Option Int)} {p2 : Pos} (he : DE X ξ e fa) (hl : DO X ξ lo fl) (hh : DO X ξ hi fh) : DE X ξ (.Subscript e (.Slice lo hi none p2) pos) (eSl fa fl fh) := by
  obtain ⟨ta, pa, qa⟩ := he
  obtain ⟨tl, pl, ql⟩ := hl
  obtain ⟨th, ph, qh⟩ := hh
  refine ⟨_, ZhA (SlR.or Zjp Zlb) pa pl ph, fun σ ρ H α M Q s h q => ?_⟩
  refine qa σ ρ H α M _ s h (OG.seq q fun x M1 v H1 α1 e1 h1 r1 q1 => ?_)
  refine ql σ ρ H1 α1 M1 _ (s.mono e1) h1 (OG.seq q1 fun l M2 l' H2 α2 e2 h2 r2 q2 => ?_)
  refine qh σ ρ H2 α2 M2 _ ((s.mono e1).mono e2) h2 (OG.seq q2 fun u M3 u' H3 α3 e3 h3 r3 q3 => ?_)
  cases r2
  cases r3
  cases Rep.mono e3 (Rep.mono e2 r1) with
  | @ref p n hp =>
    cases em : M3[n]? with
    | none => simp only [em] at q3; exact q3.elim
    | some so =>
      cases so with
      | lst es =>
        simp only [em] at q3
        obtain ⟨xs, g1, g2⟩ := h3.at hp em
        exact .inl ⟨p, xs, rfl, SqL.of g1, fun a ha => q3 _ _ (α3 ++ [a]) (Ext.new ha) (h3.new ha (g2.cut l u)) (.ref (h3.last a))⟩
  | @rol p xs ds hp rp =>
    have q4 : OP X.K H3 α3 ξ Q (.ok (.ref M3.length) (M3 ++ [.lst (Zdu ds l u)])) := q3
    exact .inl ⟨p, xs, rfl, hp.sq, fun a ha => q4 _ _ (α3 ++ [a]) (Ext.new ha) (h3.new ha (rp.cut l u)) (.ref (h3.last a))⟩
  | @tup p xs ds hp rp =>
    by_cases c : HT.sIx ds.length 0 l = 0 ∧ HT.sIx ds.length ds.length u = ds.length
    · simp only [if_pos c] at q3
      exact q3.elim
    · simp only [if_neg c] at q3
      exact .inr ⟨p, xs, rfl, hp, by rw [rp.length]; exact c, fun a ha => q3 _ _ α3 (Ext.new0 ha) (h3.tup ha) (.tup (.inl (.inl Zal)) (Reps.mono (Ext.new0 ha) (rp.cut l u)))⟩
  | _ => exact q3.elim
noncomputable def iR2 (fs : Av) : Ro → Sto → Out Src := fun ρ M => (fs ρ M).bind fun ds M1 => match ds with
  | [.int i, .int j] => if -(2 ^ 62) ≤ i ∧ i < 2 ^ 62 ∧ -(2 ^ 62) ≤ j ∧ j < 2 ^ 62 then .ok (.pur (Zbi i (j - i).toNat)) M1 else .bad
  | _ => .bad
end
noncomputable def eRv (f : Ev) : Ev := fun ρ M => (f ρ M).bind fun x M1 => match x with
  | .tup xs => .ok (.tup xs.reverse) M1
  | .ref n => (match M1[n]? with | some (.lst xs) => .ok (.ref M1.length) (M1 ++ [.lst xs.reverse]) | none => .bad)
  | .rol xs => .ok (.ref M1.length) (M1 ++ [.lst xs.reverse])
  | _ => .bad
end DL
end
section
set_option Elab.async false
set_option linter.all false
set_option maxRecDepth 100000
set_option maxHeartbeats 4000000
namespace DL
open PySem PySem.Spec PyProof.Rows L2
noncomputable def Zft (tg : Tg) (g : Sv) (src : Src) : Nat → Nat → Ro → Sto → Fl
  | f, i, ρ, M => match nxt src i M with
    | none => .bad
    | some none => .nx ρ M
    | some (some d) => (match f with
      | 0 => .bad
      | f + 1 => (match tg d ρ with
        | none => .bad
        | some ρ1 => (match g ρ1 M with
          | .nx ρ2 M2 => Zft tg g src f (i + 1) ρ2 M2
          | .cnt ρ2 M2 => Zft tg g src f (i + 1) ρ2 M2
          | .brk ρ2 M2 => .nx ρ2 M2
          | o => o)))
noncomputable def Zc5 (tg : Tg) (fi : Ro → Sto → Out Src) (g : Sv) : Sv := fun ρ M => Zar (fi ρ M) fun src M1 => Zft tg g src (cnt src M1) 0 ρ M1
section
variable {X : Cx} {ξ : XK} {tg iter a b : Expr} {gt : Tg} {fi : Ro → Sto → Out Src} {g : Sv} {body : List Stmt} {f fa fb : Ev} {fs : Av} {p pos : Pos}
theorem ZjG (hp : PassesOwn (model X.prog X.w) X.A X.env X.xe) (hi : DI X ξ tg iter fi) (hg : DG X tg gt) (hb : DSs X ξ body g) (hf : ∀ x, foldedSetIterable iter X.env x = pure x := by intro _; rfl) : DS X ξ (.For tg iter body [] pos) (Zc5 gt fi g) := by
  obtain ⟨wi, pi, qi⟩ := hi
  obtain ⟨tt, pt, qt⟩ := hg
  obtain ⟨tb, pb, qb⟩ := hb
  refine ⟨_, ZfW hp pi pt pb hf, fun σ ρ H α M Dn s hh w => qi σ ρ H α M _ s hh (FP.seq w fun src M1 J H1 α1 e1 h1 sc w1 => ?_)⟩
  generalize eo : Zft gt g src (cnt src M1) 0 ρ M1 = o at w1
  refine ⟨fun i m σ' H' => ∃ ρ' α' M', Ext X.K H1 H' α1 α' ∧ SR X.K H' α' σ' ρ' ∧ HR X.K H' α' M' ∧ Zft gt g src m i ρ' M' = o, ⟨cnt src M1, ρ, α1, M1, Ext.refl, s.mono e1, h1, eo⟩, ?_⟩
  rintro i m σ' H' ⟨ρ', α', M', ex, sr, hr, en⟩
  have s5 := sc i H' α' M' ex hr
  unfold Zft at en
  cases en1 : nxt src i M' with
  | none => rw [en1] at en; cases en; exact w1.elim
  | some od =>
    rw [en1] at en s5
    cases od with
    | none => cases en; exact .inl ⟨s5, w1 σ' H' α' ex hr sr⟩
    | some d =>
      obtain ⟨go, yl⟩ := s5
      cases m with
      | zero => cases en; exact w1.elim
      | succ m =>
        simp only at en
        refine .inr ⟨go, fun σ2 H2 => ∃ ρ' α' M', Ext X.K H1 H2 α1 α' ∧ SR X.K H2 α' σ2 ρ' ∧ HR X.K H2 α' M' ∧ Zft gt g src m (i + 1) ρ' M' = o, fun σ2 H2 z => ⟨m, Nat.lt_succ_self m, z⟩, fun x H2 y => ?_⟩
        obtain ⟨ex7, hr7, rp7⟩ := yl x H2 y
        exact ZhR (tg := tg) w1 qt qb (ex.trans ex7) (sr.mono ex7) hr7 rp7 en (fun σ' H' z => z)
end
theorem ZgC {X : Cx} {pins : List (Addr × Obj)} {σ : L2.St} {H : Hp} {s : Shared} {h' : Heap} {t' : Nat} {ch : List Addr} (I : Inv X pins σ H s) (k : ∀ b o, b ∉ ch → s.heap.get? b = some o → h'.get? b = some o) (hf : ∀ b ∈ ch, ZcE X pins H b) : Inv X pins σ H { s with heap := h', toks := t' } := by
  have nit : ∀ b u, H b = some u → b ∉ ch := fun b u e z => by rw [(hf b z).1] at e; cases e
  have hL : X.env.locals ∉ ch := fun z => (hf _ z).2.1 rfl
  refine I.step (g' := s.gens) (d' := s.drawn) (ch := ch) (fun b hb => ?_) (fun b o _ _ hc e _ => k b o hc e) (fun b o _ _ hc e _ => ⟨o.slots, k b o hc e⟩) (fun _ _ _ _ n => n)
    (fun b o hc e => ⟨o, k b o hc e⟩) (fun _ _ e => e) (fun _ _ _ e => e) (fun b ps e => ⟨#[], by rw [e]; simp⟩) (fun m hm => ?_) (fun b u e => ?_) I.bare
  · obtain ⟨_, z1, _, z3, z4, z5⟩ := hf b hb
    exact ⟨z3, z1, z4, z5⟩
  · obtain ⟨o, es, ep, ho, r⟩ := hm
    exact ⟨o, es, ep, k _ o hL ho, r⟩
  · refine (I.hok b u e).stay (fun c v hc q => k c v ?_ q) (fun _ q => q) fun _ _ q => q
    rcases hc with z | z
    · rw [z]; exact nit b u e
    · exact nit c _ z
theorem ZiG {X : Cx} {pins : List (Addr × Obj)} {σ : L2.St} {H : Hp} {s : Shared} {h' : Heap} {t' : Nat} {ch : List Addr} {vs : List V} {us : List Value} (I : Inv X pins σ H s) (hf : ∀ b ∈ ch, ZcE X pins H b) (hlt : ∀ b ∈ ch, b < s.heap.objs.size) (rv : ZO vs us) (hz : vs.length ≤ sizeLine)
    (k : ∀ b o, b ∉ ch → s.heap.get? b = some o → h'.get? b = some o) (ht : h'.get? s.heap.objs.size = some { cls := .type "tuple", data := .seq us.toArray }) :
    Inv X pins σ (upd H s.heap.objs.size (.tup vs)) { s with heap := h', toks := t' } ∧ H s.heap.objs.size = none ∧ ∀ b ∈ ch, upd H s.heap.objs.size (.tup vs) b = none := by
  have fr : H s.heap.objs.size = none := I.hok.fresh (Nat.le_refl _)
  have hn : ∀ b ∈ ch, upd H s.heap.objs.size (.tup vs) b = none := fun b hb => by rw [ZG (Nat.ne_of_lt (hlt b hb))]; exact (hf b hb).1
  have I1 : Inv X pins σ (upd H s.heap.objs.size (.tup vs)) { s with heap := s.heap.push { cls := .type "tuple", data := .seq us.toArray }, toks := t' } :=
    I.laid (t' := t') (o := .tup vs) (fun _ _ q => Heap.get?_push_of_some _ q) (Nat.le_refl _) ⟨hz, us, rv, _, Heap.get?_push_size _ rfl, rfl, _, rfl⟩
  refine ⟨ZgC (s := { s with heap := s.heap.push { cls := .type "tuple", data := .seq us.toArray }, toks := t' }) (t' := t') (ch := ch) I1 (fun b o hb e => ?_) (fun b hb => ⟨hn b hb, (hf b hb).2⟩), fr, hn⟩
  by_cases c : b = s.heap.objs.size
  · subst c
    have e' : (s.heap.push { cls := .type "tuple", data := .seq us.toArray }).get? s.heap.objs.size = some o := e
    rw [Heap.get?_push_size _ rfl] at e'
    cases e'
    exact ht
  · refine k b o hb ?_
    have e' : (s.heap.push { cls := .type "tuple", data := .seq us.toArray }).get? b = some o := e
    have hl : b < s.heap.objs.size := by
      have q : b < s.heap.objs.size + 1 := by
        have z := Heap.lt_size e'
        rwa [Heap.size_push] at z
      exact Nat.lt_of_le_of_ne (Nat.le_of_lt_succ q) c
    have q : (s.heap.push { cls := .type "tuple", data := .seq us.toArray }).get? b = s.heap.get? b := by
      unfold Heap.get? Heap.push
      simp only [Array.getElem?_push]
      rw [if_neg (Nat.ne_of_lt hl)]
    rwa [q] at e'
noncomputable def Ite (K : PySem.W.Frag) (a : Addr) : It :=
  ⟨fun i H => ∃ xs x, SqL K H a xs ∧ xs[i]? = some x, fun i H y H' => ∃ p, H p = none ∧ y = .ref p ∧ ∀ xs x, SqL K H a xs → xs[i]? = some x → H' = upd H p (.tup [.int i, x]), fun i H => ∃ xs, SqL K H a xs ∧ xs.length ≤ i⟩
noncomputable def Itz (K : PySem.W.Frag) (a b : Addr) : It :=
  ⟨fun i H => ∃ xs ys x y, SqL K H a xs ∧ SqL K H b ys ∧ xs[i]? = some x ∧ ys[i]? = some y, fun i H v H' => ∃ p, H p = none ∧ v = .ref p ∧ ∀ xs ys x y, SqL K H a xs → SqL K H b ys → xs[i]? = some x → ys[i]? = some y → H' = upd H p (.tup [x, y]),
    fun i H => ∃ xs ys, SqL K H a xs ∧ SqL K H b ys ∧ (xs.length ≤ i ∨ ys.length ≤ i)⟩
theorem ZgD {P : Program} {w : World} {K : PySem.W.Frag} {B : Around} {elts : List Expr} {k0 : Nat} {tp : Pos} (hB : B.handled = none) (a e it : Addr) (hne : e ≠ it) :
    Turn P w K B (.Tuple elts k0 tp) (Ite K a) [e, it] e (fun i h => (∃ old, IsEnum h e it (i : Int) old) ∧ h.IsListIter it a i) where
  mem := by simp
  obj := fun i h st b hb => by
    obtain ⟨⟨old, h1⟩, o, e2, c2, d2⟩ := st
    rcases List.mem_cons.mp hb with z | z
    · subst z; exact ⟨_, h1, fun v z => by cases z⟩
    · have z' : b = it := by simpa using z
      subst z'
      exact ⟨o, e2, fun v z => by rw [d2] at z; cases z⟩
  keep := fun i h h' st k => ⟨let ⟨old, z⟩ := st.1; ⟨old, k e (by simp) _ z⟩, st.2.at fun o z => k it (by simp) o z⟩
  item := by
    intro X hP hw hK hA i pins s σ H E I hf st hg
    subst hP hw hK hA
    obtain ⟨⟨old, h1⟩, h2⟩ := st
    obtain ⟨xs, x, hq, hx⟩ := hg
    obtain ⟨its, rv, p, hz⟩ := I.list hq
    obtain ⟨u, hu, ru⟩ := rv.get hx
    have lt : ∀ b ∈ [e, it], b < s.heap.objs.size := fun b hb => by
      rcases List.mem_cons.mp hb with z | z
      · subst z; exact Heap.lt_size h1
      · have z' : b = it := by simpa using z
        subst z'
        obtain ⟨o, e2, _⟩ := h2
        exact Heap.lt_size e2
    refine wpAny_pyNext_enum_item h1 h2 p.isList (x := u) (by simpa using hu) hne fun h' o1 o2 o3 o4 o5 => ⟨_, rfl, ?_⟩
    refine wpAny_letOwnedTupleGo_enum (s := { s with heap := h', toks := s.toks + 1 }) o1 fun h'' q1 q2 => ?_
    have pe : s.heap.objs.size ≠ e := Nat.ne_of_gt (lt e (by simp))
    have ie : it ≠ e := Ne.symm hne
    obtain ⟨J1, J2, J3⟩ := ZiG (h' := h'') (t' := s.toks + 1) (ch := [e, it]) (vs := [.int i, x]) (us := [.int i s.toks, u]) I hf lt (.cons ⟨_, rfl⟩ (.cons ru .nil)) (by show 2 ≤ sizeLine; decide)
      (fun b o hb z => by
        have n1 : b ≠ e := fun y => hb (by simp [y])
        have n2 : b ≠ it := fun y => hb (by simp [y])
        exact (q2.2 b n1).trans (o5 b o n1 n2 z)) ((q2.2 _ pe).trans o3)
    refine ⟨.ref s.heap.objs.size, _, J1, rfl, ⟨_, J2, rfl, fun ys y hy hy2 => ?_⟩, ⟨⟨u, by simpa using q1⟩, o2.at fun o z => (q2.2 it ie).trans z⟩, J3⟩
    rw [I.list_inj hy hq, hx] at hy2
    cases hy2
    rfl
  done := by
    intro X hP hw hK hA i pins s σ H E I hf st hg
    subst hP hw hK hA
    obtain ⟨⟨old, h1⟩, h2⟩ := st
    obtain ⟨xs, hq, hx⟩ := hg
    obtain ⟨its, rv, p, hz⟩ := I.list hq
    obtain ⟨f0, f1, f2, f3, f4, f5⟩ := hf it (by simp)
    refine wpAny_pyNext_enum_end hB h1 h2 p.isList (by simp only [List.getElem?_toArray]; exact List.getElem?_eq_none (by rw [← rv.length]; exact hx)) fun h' ext => ⟨rfl, ?_⟩
    exact I.turned (t' := s.toks) (it := it) (fun b o hb z => ext b o hb z) f0 f1 f3 f4 f5
  self := fun A i s Q E st q => by
    obtain ⟨⟨old, h1⟩, _⟩ := st
    have hT : s.TypeIs (.ref e) "enumerate" := ⟨_, h1, rfl⟩
    refine wpAny_pyIter_slot hT F.slot_enumerate_iter (wpAny_call_entry F.slot_enumerate_iter hT F.entry_enumerate_iter ?_ (F.args_enumerate_iter_1 _))
    show wpAny _ _ (ret (.ref e)) _ _ s
    exact wpAny_pure ⟨_, rfl, "enumerate", _, hT, F.slot_enumerate_next.lookup, q⟩
theorem ZhY {P : Program} {w : World} {K : PySem.W.Frag} {B : Around} {elts : List Expr} {k0 : Nat} {tp : Pos} (hB : B.handled = none) {z TI TO i1 i2 a b : Addr} (D : ZipApart z TI TO i1 i2 a b) :
    Turn P w K B (.Tuple elts k0 tp) (Itz K a b) [z, TI, TO, i1, i2] z (fun i h => IsZip h z TI TO .none ∧ IsPair h TI (.ref i1) (.ref i2) ∧ (∃ x y, IsPair h TO x y) ∧ h.IsListIter i1 a i ∧ h.IsListIter i2 b i) where
  mem := by simp
  obj := fun i h st c hc => by
    obtain ⟨h1, h2, ⟨x, y, h3⟩, ⟨o4, e4, c4, d4⟩, ⟨o5, e5, c5, d5⟩⟩ := st
    simp only [List.mem_cons, List.not_mem_nil, or_false] at hc
    rcases hc with rfl | rfl | rfl | rfl | rfl
    · exact ⟨_, h1, fun v q => by cases q⟩
    · exact ⟨_, h2, fun v q => by cases q⟩
    · exact ⟨_, h3, fun v q => by cases q⟩
    · exact ⟨o4, e4, fun v q => by rw [d4] at q; cases q⟩
    · exact ⟨o5, e5, fun v q => by rw [d5] at q; cases q⟩
  keep := fun i h h' st k => by
    obtain ⟨h1, h2, ⟨x, y, h3⟩, h4, h5⟩ := st
    exact ⟨k z (by simp) _ h1, k TI (by simp) _ h2, ⟨x, y, k TO (by simp) _ h3⟩, h4.at fun o q => k i1 (by simp) o q, h5.at fun o q => k i2 (by simp) o q⟩
  item := by
    intro X hP hw hK hA i pins s σ H E I hf st hg
    subst hP hw hK hA
    obtain ⟨h1, h2, ⟨x0, y0, h3⟩, h4, h5⟩ := st
    obtain ⟨xs, ys, x, y, hq, hq2, hx, hy⟩ := hg
    obtain ⟨its, rv, p, hz⟩ := I.list hq
    obtain ⟨its2, rv2, p2, hz2⟩ := I.list hq2
    obtain ⟨u, hu, ru⟩ := rv.get hx
    obtain ⟨u2, hu2, ru2⟩ := rv2.get hy
    have lt : ∀ c ∈ [z, TI, TO, i1, i2], c < s.heap.objs.size := fun c hc => by
      simp only [List.mem_cons, List.not_mem_nil, or_false] at hc
      rcases hc with rfl | rfl | rfl | rfl | rfl
      · exact Heap.lt_size h1
      · exact Heap.lt_size h2
      · exact Heap.lt_size h3
      · obtain ⟨o, e2, _⟩ := h4; exact Heap.lt_size e2
      · obtain ⟨o, e2, _⟩ := h5; exact Heap.lt_size e2
    refine wpAny_pyNext_zip_item D h1 h2 h3 h4 h5 p.isList p2.isList (x := u) (y := u2) (by simpa using hu) (by simpa using hu2) fun h' o1 o2 o3 o4 o5 o6 o7 => ⟨_, rfl, ?_⟩
    refine wpAny_letOwnedTupleGo_zip (s := { s with heap := h' }) o1 fun h'' q1 q2 => ?_
    have pe : s.heap.objs.size ≠ z := Nat.ne_of_gt (lt z (by simp))
    obtain ⟨J1, J2, J3⟩ := ZiG (h' := h'') (t' := s.toks) (ch := [z, TI, TO, i1, i2]) (vs := [x, y]) (us := [u, u2]) I hf lt (.cons ru (.cons ru2 .nil)) (by show 2 ≤ sizeLine; decide)
      (fun c o hc q => by
        simp only [List.mem_cons, List.not_mem_nil, or_false, not_or] at hc
        exact (q2.2 c hc.1).trans (o7 c o hc.1 hc.2.2.1 hc.2.2.2.1 hc.2.2.2.2 q)) ((q2.2 _ pe).trans o5)
    refine ⟨.ref s.heap.objs.size, _, J1, rfl, ⟨_, J2, rfl, fun xs' ys' x' y' hx1 hy1 hx2 hy2 => ?_⟩, ⟨q1, (q2.2 TI D.TIz).trans (o7 TI _ D.TIz D.TITO D.TIi1 D.TIi2 h2), ⟨u, u2, (q2.2 TO D.TOz).trans o2⟩, o3.at fun o q => (q2.2 i1 D.i1z).trans q, o4.at fun o q => (q2.2 i2 D.i2z).trans q⟩, J3⟩
    rw [I.list_inj hx1 hq, hx] at hx2
    rw [I.list_inj hy1 hq2, hy] at hy2
    cases hx2
    cases hy2
    rfl
  done := by
    intro X hP hw hK hA i pins s σ H E I hf st hg
    subst hP hw hK hA
    obtain ⟨h1, h2, ⟨x0, y0, h3⟩, h4, h5⟩ := st
    obtain ⟨xs, ys, hq, hq2, hx⟩ := hg
    obtain ⟨its, rv, p, hz⟩ := I.list hq
    obtain ⟨its2, rv2, p2, hz2⟩ := I.list hq2
    have he : its.toArray[i]? = none ∨ its2.toArray[i]? = none := by
      rcases hx with hx | hx
      · exact .inl (by simp only [List.getElem?_toArray]; exact List.getElem?_eq_none (by rw [← rv.length]; exact hx))
      · exact .inr (by simp only [List.getElem?_toArray]; exact List.getElem?_eq_none (by rw [← rv2.length]; exact hx))
    refine wpAny_pyNext_zip_end hB D h1 h2 h3 h4 h5 p.isList p2.isList he fun h' keep => ⟨rfl, ?_⟩
    refine ZgC (t' := s.toks) (ch := [z, TI, TO, i1, i2]) I (fun c o hc q => ?_) hf
    simp only [List.mem_cons, List.not_mem_nil, or_false, not_or] at hc
    exact keep c o hc.1 hc.2.2.1 hc.2.2.2.1 hc.2.2.2.2 q
  self := fun A i s Q E st q => wpAny_pyIter_zip st.1 q
theorem ZlE {n a b : Nat} (h1 : a < n) (h2 : b < n) : ZipApart (n + 4) (n + 2) (n + 3) n (n + 1) a b := ⟨Nat.ne_of_lt (by omega), Nat.ne_of_lt (by omega), Nat.ne_of_lt (by omega), Nat.ne_of_lt (by omega), Nat.ne_of_lt (by omega), Nat.ne_of_gt (by omega), Nat.ne_of_gt (by omega), Nat.ne_of_gt (by omega), Nat.ne_of_gt (by omega), Nat.ne_of_lt (by omega), Nat.ne_of_lt (by omega), Nat.ne_of_lt (by omega), Nat.ne_of_lt (by omega), Nat.ne_of_lt (by omega), Nat.ne_of_lt (by omega), Nat.ne_of_lt (by omega), Nat.ne_of_lt (by omega), Nat.ne_of_lt (by omega)⟩
theorem ZlF : bootBuiltins "zip" = some (.type "zip") := by decide +kernel
theorem ZdP : bootBuiltins "enumerate" = some (.type "enumerate") := by decide +kernel
section
variable {X : Cx} {ξ : XK} {a b : Expr} {elts : List Expr} {k0 : Nat} {tp : Pos} {fa : Ev} {fs : Av} {p pos : Pos} {ta : TA}
noncomputable def Zn7 (K : PySem.W.Frag) (t : TA) : TI := fun σ H R => t σ H fun vs H1 => ∃ l xs, vs = [.ref l] ∧ SqL K H1 l xs ∧ R (Ite K l) H1
noncomputable def Zq4 (K : PySem.W.Frag) (t : TA) : TI := fun σ H R => t σ H fun vs H1 => ∃ l l2 xs ys, vs = [.ref l, .ref l2] ∧ SqL K H1 l xs ∧ SqL K H1 l2 ys ∧ R (Itz K l l2) H1
theorem ZjH (hc : X.A.handled = none) (hg : Gl X "enumerate") (hm : X.mg "enumerate" = none) (ha : PA X [a] ta) (hs : starEach [a] X.env = (false, eval a X.env) :: starEach [] X.env := by rfl) (hpl : (backTo pos (starEach [] X.env)).any (·.1) = false := by rfl) :
    PI X (.Tuple elts k0 tp) (.Call (.Name "enumerate" p) [a] [] pos) (Zn7 X.K ta) := by
  intro pins s σ H R I h
  refine wpAny_Call_Name_kw (Zb0 I hg hm ZdP (PyProof.Rows.callWith_type1 (thn (ha pos pins s σ H _ I h) fun us s1 ⟨vs, H1, I1, r1, q1⟩ => ?_) hs hpl) (by decide) (by decide))
  obtain ⟨l, xs, rfl, hq, q⟩ := q1
  obtain ⟨u, rfl, ru⟩ := ZcX r1
  cases ru
  obtain ⟨its, rv, pl, hz⟩ := I1.list hq
  refine call_enumerate_list pl.isList fun h' e1 e2 e3 e4 => ?_
  have T := ZgD (P := X.prog) (w := X.w) (K := X.K) (B := X.A) (elts := elts) (k0 := k0) (tp := tp) hc l (s1.heap.objs.size + 1) s1.heap.objs.size (Nat.ne_of_gt (Nat.lt_succ_self _))
  have I2 : Inv X pins σ H1 { s1 with heap := h', toks := s1.toks } := I1.kept (t' := s1.toks) e4
  refine T.self X.A 0 { s1 with heap := h' } _ _ ⟨⟨_, e1⟩, e2⟩ ⟨_, _, _, _, H1, rfl, I2, T, ⟨⟨_, e1⟩, e2⟩, fun b hb => ?_, q⟩
  have hb' : s1.heap.objs.size ≤ b := by
    simp only [List.mem_cons, List.not_mem_nil, or_false] at hb
    rcases hb with rfl | rfl <;> omega
  exact I1.fpOk hb' (I1.hok.fresh hb')
theorem ZlG (hc : X.A.handled = none) (hg : Gl X "zip") (hm : X.mg "zip" = none) (ha : PA X [a, b] ta) (hs : starEach [a, b] X.env = (false, eval a X.env) :: starEach [b] X.env := by rfl) (hpl : (backTo pos (starEach [b] X.env)).any (·.1) = false := by rfl) :
    PI X (.Tuple elts k0 tp) (.Call (.Name "zip" p) [a, b] [] pos) (Zq4 X.K ta) := by
  intro pins s σ H R I h
  refine wpAny_Call_Name_kw (Zb0 I hg hm ZlF (PyProof.Rows.callWith_type1 (thn (ha pos pins s σ H _ I h) fun us s1 ⟨vs, H1, I1, r1, q1⟩ => ?_) hs hpl) (by decide) (by decide))
  obtain ⟨l, l2, xs, ys, rfl, hq, hq2, q⟩ := q1
  obtain ⟨u, u2, rfl, ru, ru2⟩ := Zhy r1
  cases ru
  cases ru2
  obtain ⟨its, rv, pl, hz⟩ := I1.list hq
  obtain ⟨its2, rv2, pl2, hz2⟩ := I1.list hq2
  have lt1 : l < s1.heap.objs.size := by obtain ⟨_, e, _⟩ := pl.isList; exact Heap.lt_size e
  have lt2 : l2 < s1.heap.objs.size := by obtain ⟨_, e, _⟩ := pl2.isList; exact Heap.lt_size e
  refine call_zip_2 pl.isList pl2.isList fun h' e1 e2 e3 e4 e5 e6 e7 => ?_
  have D := ZlE lt1 lt2
  have T := ZhY (P := X.prog) (w := X.w) (K := X.K) (B := X.A) (elts := elts) (k0 := k0) (tp := tp) hc D
  have I2 : Inv X pins σ H1 { s1 with heap := h', toks := s1.toks } := I1.kept (t' := s1.toks) e7
  refine T.self X.A 0 { s1 with heap := h' } _ _ ⟨e1, e2, ⟨_, _, e3⟩, e4, e5⟩ ⟨_, _, _, _, H1, rfl, I2, T, ⟨e1, e2, ⟨_, _, e3⟩, e4, e5⟩, fun c hc => ?_, q⟩
  have hb' : s1.heap.objs.size ≤ c := by
    simp only [List.mem_cons, List.not_mem_nil, or_false] at hc
    rcases hc with rfl | rfl | rfl | rfl | rfl <;> omega
  exact I1.fpOk hb' (I1.hok.fresh hb')
noncomputable def iEn (fs : Av) : Ro → Sto → Out Src := fun ρ M => (fs ρ M).bind fun ds M1 => match ds with | [.ref n] => .ok (.enu n) M1 | _ => .bad
noncomputable def iZp (fs : Av) : Ro → Sto → Out Src := fun ρ M => (fs ρ M).bind fun ds M1 => match ds with | [.ref n, .ref m] => .ok (.zip n m) M1 | _ => .bad
theorem ZjI (hc : X.A.handled = none) (hm : X.mg "enumerate" = none) (ha : DA X ξ [a] fs) (hg : Gl X "enumerate" := by rfl) (hs : starEach [a] X.env = (false, eval a X.env) :: starEach [] X.env := by rfl) (hpl : (backTo pos (starEach [] X.env)).any (·.1) = false := by rfl) :
    DI X ξ (.Tuple elts k0 tp) (.Call (.Name "enumerate" p) [a] [] pos) (iEn fs) := by
  obtain ⟨ta, pa, qa⟩ := ha
  refine ⟨_, ZjH hc hg hm pa hs hpl, fun σ ρ H α M R s hh q => qa σ ρ H α M _ s hh (OG.seq q fun ds M1 vs H1 α1 e1 h1 r1 w1 => ?_)⟩
  match r1 with
  | .nil => exact w1.elim
  | .cons r (.cons _ _) => cases r <;> exact w1.elim
  | .cons r .nil =>
    cases r with
    | @ref l n hp =>
      obtain ⟨xs0, g0⟩ := h1.some_at hp
      refine ⟨l, xs0, rfl, SqL.of g0, w1 _ H1 α1 Ext.refl h1 fun i H' α' M' ex hr => ?_⟩
      cases em : M'[n]? with
      | none => rw [show nxt (.enu n) i M' = none by simp only [nxt, em]]; exact True.intro
      | some so =>
        cases so with
        | lst es =>
          obtain ⟨xs, g1, g2⟩ := hr.at (ex.get hp) em
          cases ei : es[i]? with
          | none => rw [show nxt (.enu n) i M' = some none by simp only [nxt, em, ei]]; exact ⟨xs, SqL.of g1, by rw [g2.length]; exact List.getElem?_eq_none_iff.mp ei⟩
          | some d =>
            obtain ⟨v, k1, k2⟩ := g2.get ei
            rw [show nxt (.enu n) i M' = some (some (D.tup [D.int i, d])) by simp only [nxt, em, ei]]
            refine ⟨⟨xs, v, SqL.of g1, k1⟩, fun x H'' y => ?_⟩
            obtain ⟨pp, y1, rfl, y3⟩ := y
            have y4 := y3 xs v (SqL.of g1) k1
            subst y4
            exact ⟨Ext.new0 y1, hr.tup y1, .tup (.inl (.inl Zal)) (.cons (.int i) (.cons (Rep.mono (Ext.new0 y1) k2) .nil))⟩
    | _ => exact w1.elim
theorem ZlH (hc : X.A.handled = none) (hm : X.mg "zip" = none) (ha : DA X ξ [a, b] fs) (hg : Gl X "zip" := by rfl) (hs : starEach [a, b] X.env = (false, eval a X.env) :: starEach [b] X.env := by rfl) (hpl : (backTo pos (starEach [b] X.env)).any (·.1) = false := by rfl) :
    DI X ξ (.Tuple elts k0 tp) (.Call (.Name "zip" p) [a, b] [] pos) (iZp fs) := by
  obtain ⟨ta, pa, qa⟩ := ha
  refine ⟨_, ZlG hc hg hm pa hs hpl, fun σ ρ H α M R s hh q => qa σ ρ H α M _ s hh (OG.seq q fun ds M1 vs H1 α1 e1 h1 r1 w1 => ?_)⟩
  match r1 with
  | .nil => exact w1.elim
  | .cons r .nil => cases r <;> exact w1.elim
  | .cons r (.cons r' (.cons _ _)) => cases r <;> cases r' <;> exact w1.elim
  | .cons r (.cons r' .nil) =>
    cases r with
    | @ref l n hp =>
      cases r' with
      | @ref l2 m hp2 =>
        obtain ⟨xs0, g0⟩ := h1.some_at hp
        obtain ⟨ys0, g0'⟩ := h1.some_at hp2
        refine ⟨l, l2, xs0, ys0, rfl, SqL.of g0, SqL.of g0', w1 _ H1 α1 Ext.refl h1 fun i H' α' M' ex hr => ?_⟩
        cases em : M'[n]? with
        | none => rw [show nxt (.zip n m) i M' = none by simp only [nxt, em]]; exact True.intro
        | some so =>
          cases em2 : M'[m]? with
          | none => cases so; rw [show nxt (.zip n m) i M' = none by simp only [nxt, em, em2]]; exact True.intro
          | some so2 =>
            cases so with
            | lst es =>
              cases so2 with
              | lst es2 =>
                obtain ⟨xs, g1, g2⟩ := hr.at (ex.get hp) em
                obtain ⟨ys, g3, g4⟩ := hr.at (ex.get hp2) em2
                cases ei : es[i]? with
                | none => rw [show nxt (.zip n m) i M' = some none by simp only [nxt, em, em2, ei]]; exact ⟨xs, ys, SqL.of g1, SqL.of g3, .inl (by rw [g2.length]; exact List.getElem?_eq_none_iff.mp ei)⟩
                | some d =>
                  cases ej : es2[i]? with
                  | none => rw [show nxt (.zip n m) i M' = some none by simp only [nxt, em, em2, ei, ej]]; exact ⟨xs, ys, SqL.of g1, SqL.of g3, .inr (by rw [g4.length]; exact List.getElem?_eq_none_iff.mp ej)⟩
                  | some d2 =>
                    obtain ⟨v, k1, k2⟩ := g2.get ei
                    obtain ⟨v2, k3, k4⟩ := g4.get ej
                    rw [show nxt (.zip n m) i M' = some (some (D.tup [d, d2])) by simp only [nxt, em, em2, ei, ej]]
                    refine ⟨⟨xs, ys, v, v2, SqL.of g1, SqL.of g3, k1, k3⟩, fun x H'' y => ?_⟩
                    obtain ⟨pp, y1, rfl, y3⟩ := y
                    have y4 := y3 xs ys v v2 (SqL.of g1) (SqL.of g3) k1 k3
                    subst y4
                    exact ⟨Ext.new0 y1, hr.tup y1, .tup (.inl (.inl Zal)) (.cons (Rep.mono (Ext.new0 y1) k2) (.cons (Rep.mono (Ext.new0 y1) k4) .nil))⟩
      | _ => exact w1.elim
    | _ => cases r' <;> exact w1.elim
end
end DL
end
section
set_option Elab.async false
set_option linter.all false
set_option maxRecDepth 100000
set_option maxHeartbeats 4000000
namespace DL
open PySem PySem.Spec PyProof.Rows L2
open PySem.SeqAt (EqAt RcAt RcNeAt)
section
variable {X : Cx} {ξ : XK} {pins : List (Addr × Obj)} {σ : L2.St} {H : Hp} {s : Shared} {α : List Addr} {M : Sto}
noncomputable def eqs (M : Sto) (d : D) : List D → Option (List Bool)
  | [] => some []
  | x :: r => match eqF 12 M x d with | some b => (match eqs M d r with | some bs => some (b :: bs) | none => none) | none => none
end
section
variable {X : Cx} {ξ : XK}
noncomputable def inE (x y : D) (M : Sto) : Option Bool := match ZfH M y with | some ds => (match eqs M x ds with | some bs => some (bs.any id) | none => none) | none => none
noncomputable def ZpU : Bo := fun x y M => match inE x y M with | some b => .ok (.bl b) M | none => .bad
noncomputable def ZgE : Bo := fun x y M => match inE x y M with | some b => .ok (.bl (!b)) M | none => .bad
noncomputable def Zq5 : Me := fun x ds M => match x, ds with
  | .ref n, [d] => (match M[n]? with | some (.lst xs) => (match eqs M d xs with | some bs => (match bs.findIdx? id with | some j => .ok (.int (j : Nat)) M | none => .bad) | none => .bad) | none => .bad)
  | _, _ => .bad
noncomputable def Zq6 : Me := fun x ds M => match x, ds with
  | .ref n, [d] => (match M[n]? with | some (.lst xs) => (match eqs M d xs with | some bs => .ok (.int (bs.countP id : Nat)) M | none => .bad) | none => .bad)
  | _, _ => .bad
noncomputable def Za6 : List D → Option (List Int)
  | [] => some []
  | .int b :: r => match Za6 r with | some bs => some (b :: bs) | none => none
  | _ :: _ => none
theorem Ze3 {K : PySem.W.Frag} {H : Hp} {α : List Addr} : ∀ {vs : List V} {ds : List D} {bs : List Int}, Reps K H α vs ds → Za6 ds = some bs → vs = bs.map V.int
  | _, _, _, .nil, e => by cases e; rfl
  | _, _, bs, .cons (d := d) (ds := ds) r t, e => by
    cases r with
    | int b =>
      cases e1 : Za6 ds with
      | none => simp only [Za6, e1] at e; cases e
      | some cs =>
        simp only [Za6, e1, Option.some.injEq] at e
        subst e
        rw [Ze3 t e1]
        rfl
    | _ => cases e
noncomputable def Zfu (X : Cx) (g : List Int → Option V) : List V → Hp → VK → Prop := fun vs H Q => ∃ (p : Addr) (ns : List Int) (v : V), vs = [.ref p] ∧ SqL X.K H p (ns.map V.int) ∧ g ns = some v ∧ Q v H
theorem ZbM : ∀ {ns : List Int} {us : List Value} {i : Nat} {u : Value}, ZO (ns.map V.int) us → us[i]? = some u → ∃ t, u = .int (ns.getD i 0) t
  | [], us, i, u, h, e => by cases h; simp at e
  | b :: r, us, i, u, h, e => by
    cases h with
    | cons h1 h2 =>
      cases i with
      | zero => simp at e; subst e; exact h1
      | succ i => simp at e; obtain ⟨t, g⟩ := ZbM h2 e; exact ⟨t, by simpa using g⟩
theorem ZdQ (hc : X.calm = true) {pins : List (Addr × Obj)} {σ : L2.St} {H : Hp} {s : Shared} {p : Addr} {ns : List Int} (I : Inv X pins σ H s) (hl : SqL X.K H p (ns.map V.int)) {Q : Value → Shared → Prop} {E : Value → Shared → Prop}
    (q : ∀ (its : List Value) (it : Addr), ZO (ns.map V.int) its → its.length = ns.length → it = s.heap.objs.size → Walks X.prog X.w X.A.in1 it [it, p] [it] its.toArray.size (fun i v => its.toArray[i]? = some v) (fun i h => h.IsListIter it p i ∧ h.IsList p its.toArray) →
      (∀ b ∈ [it, p], b < (s.heap.push { cls := .type "list_iterator", data := .fields #[.ref p, .int 0 0] }).objs.size) → ((s.heap.push { cls := .type "list_iterator", data := .fields #[.ref p, .int 0 0] }).IsListIter it p 0 ∧ (s.heap.push { cls := .type "list_iterator", data := .fields #[.ref p, .int 0 0] }).IsList p its.toArray) →
      (∀ h' tk, (∀ b o, b ∉ [it] → (s.heap.push { cls := .type "list_iterator", data := .fields #[.ref p, .int 0 0] }).get? b = some o → h'.get? b = some o) → Inv X pins σ H { s with heap := h', toks := tk }) → Q (.ref it) { s with heap := s.heap.push { cls := .type "list_iterator", data := .fields #[.ref p, .int 0 0] } }) :
    wpAny (model X.prog X.w) X.A.in1 (pyIter (.ref p)) Q E s := by
  obtain ⟨its, hv, hp, hz⟩ := I.list hl
  have hlt : p < s.heap.objs.size := by obtain ⟨_, e, _⟩ := hp.isList; exact Heap.lt_size e
  refine wpAny_pyIter_list hp.isList ?_
  refine q its s.heap.objs.size hv (by rw [← hv.length, List.length_map]) rfl (Walks.list (A := X.A.in1) (I.ok.hd hc) _ p (Nat.ne_of_lt hlt) its.toArray) (fun b hb => ?_) ⟨⟨_, Heap.get?_push_size _ rfl, rfl, rfl⟩, hp.isList.push _⟩ fun h' tk hk => ?_
  · rw [Heap.size_push]
    simp only [List.mem_cons, List.not_mem_nil, or_false] at hb
    rcases hb with rfl | rfl
    · exact Nat.lt_succ_self _
    · exact Nat.lt_succ_of_lt hlt
  · exact I.kept fun b o e => hk b o (fun hm => by rw [List.mem_singleton.mp hm] at e; exact Nat.lt_irrefl _ (Heap.lt_size e)) (Heap.get?_push_of_some _ e)
theorem ZhZ {ns : List Int} (h : 0 < ns.length) : ns.max? = some (ns.getD (argBest (fun i j => decide (ns.getD i 0 > ns.getD j 0)) (ns.length - 1)) 0) := by
  obtain ⟨h1, h2⟩ := argBest_gt (fun i => ns.getD i 0) (ns.length - 1)
  refine List.max?_eq_some_iff.mpr ⟨?_, fun b hb => ?_⟩
  · have hl : argBest (fun i j => decide (ns.getD i 0 > ns.getD j 0)) (ns.length - 1) < ns.length := by omega
    rw [List.getD_eq_getElem?_getD, List.getElem?_eq_getElem hl]
    exact List.getElem_mem hl
  · obtain ⟨j, hj, rfl⟩ := List.getElem_of_mem hb
    have := h2 j (by omega)
    rwa [show ns.getD j 0 = ns[j] by rw [List.getD_eq_getElem?_getD, List.getElem?_eq_getElem hj]; rfl] at this
theorem Zh0 {ns : List Int} (h : 0 < ns.length) : ns.min? = some (ns.getD (argBest (fun i j => decide (ns.getD i 0 < ns.getD j 0)) (ns.length - 1)) 0) := by
  obtain ⟨h1, h2⟩ := argBest_lt (fun i => ns.getD i 0) (ns.length - 1)
  refine List.min?_eq_some_iff.mpr ⟨?_, fun b hb => ?_⟩
  · have hl : argBest (fun i j => decide (ns.getD i 0 < ns.getD j 0)) (ns.length - 1) < ns.length := by omega
    rw [List.getD_eq_getElem?_getD, List.getElem?_eq_getElem hl]
    exact List.getElem_mem hl
  · obtain ⟨j, hj, rfl⟩ := List.getElem_of_mem hb
    have := h2 j (by omega)
    rwa [show ns.getD j 0 = ns[j] by rw [List.getD_eq_getElem?_getD, List.getElem?_eq_getElem hj]; rfl] at this
noncomputable def ZnB (ns : List Int) : Option V := ns.max?.map V.int
noncomputable def ZnC (ns : List Int) : Option V := ns.min?.map V.int
theorem Zcn (hc : X.calm = true) : Za8 X (.builtin "max") (Zfu X ZnB) := by
  intro pins s σ H vs us Q I rs ⟨p, ns, v, e, hl, hg, q⟩
  subst e
  obtain ⟨u, rfl, ru⟩ := ZcX rs
  cases ru
  have hn : 0 < ns.length := by cases ns with | nil => cases hg | cons _ _ => simp
  unfold ZnB at hg
  rw [ZhZ hn] at hg
  cases hg
  refine call_max_walk (ZdQ hc I hl fun its it hv hlen ei W hfp st back => ?_)
  refine ⟨it, _, _, _, _, _, _, rfl, W, st, hfp, by rw [List.size_toArray, hlen]; exact hn, CmpOf.ints_gt (fun i => ns.getD i 0) (fun i v hP => ZbM hv (by simpa using hP)), fun v h' tk hP hk => ⟨_, H, back h' tk hk, ?_, q⟩⟩
  rw [List.size_toArray, hlen] at hP
  exact ZbM hv (by simpa using hP)
theorem ZgF (hc : X.calm = true) : Za8 X (.builtin "min") (Zfu X ZnC) := by
  intro pins s σ H vs us Q I rs ⟨p, ns, v, e, hl, hg, q⟩
  subst e
  obtain ⟨u, rfl, ru⟩ := ZcX rs
  cases ru
  have hn : 0 < ns.length := by cases ns with | nil => cases hg | cons _ _ => simp
  unfold ZnC at hg
  rw [Zh0 hn] at hg
  cases hg
  refine call_min_walk (ZdQ hc I hl fun its it hv hlen ei W hfp st back => ?_)
  refine ⟨it, _, _, _, _, _, _, rfl, W, st, hfp, by rw [List.size_toArray, hlen]; exact hn, CmpOf.ints_lt (fun i => ns.getD i 0) (fun i v hP => ZbM hv (by simpa using hP)), fun v h' tk hP hk => ⟨_, H, back h' tk hk, ?_, q⟩⟩
  rw [List.size_toArray, hlen] at hP
  exact ZbM hv (by simpa using hP)
noncomputable def ZbN (g : List Int → Option Int) : List D → Sto → Out D := fun ds M => match ds with
  | [x] => (match ZfH M x with | some xs => (match x with | .tup _ => .bad | _ => (match Za6 xs with | some ns => (match g ns with | some i => .ok (.int i) M | none => .bad) | none => .bad)) | none => .bad)
  | _ => .bad
theorem ZgG {g : List Int → Option Int} {gV : List Int → Option V} (hg : ∀ ns i, g ns = some i → gV ns = some (.int i)) : CO X ξ (Zfu X gV) (ZbN g) := by
  intro H α M vs ds Q h rs q
  unfold ZbN at q
  match rs with
  | .nil => exact q.elim
  | .cons _ (.cons _ _) => exact q.elim
  | .cons (d := x) r .nil =>
    have fin : ∀ (p : Addr) (xs : List V) (ys : List D), SqL X.K H p xs → Reps X.K H α xs ys → OP X.K H α ξ Q (match Za6 ys with | some ns => (match g ns with | some i => .ok (.int i) M | none => .bad) | none => .bad) → Zfu X gV [.ref p] H Q := fun p xs ys k1 k2 q => by
      cases e1 : Za6 ys with
      | none => rw [e1] at q; exact q.elim
      | some ns =>
        cases e2 : g ns with
        | none => simp only [e1, e2] at q; exact q.elim
        | some i =>
          simp only [e1, e2] at q
          have := Ze3 k2 e1
          subst this
          exact ⟨p, ns, .int i, rfl, k1, hg _ _ e2, q _ H α Ext.refl h (.int i)⟩
    cases r with
    | @rol p xs ds hp rp => exact fin p xs ds hp.sq rp q
    | @ref p n hp =>
      cases em : M[n]? with
      | none => simp only [ZfH, em] at q; exact q.elim
      | some so =>
        cases so with
        | lst es =>
          simp only [ZfH, em] at q
          obtain ⟨xs, g1, g2⟩ := h.at hp em
          exact fin p xs es (SqL.of g1) g2 q
    | tup _ _ => exact q.elim
    | _ => exact q.elim
noncomputable def ZfK (ns : List Int) : Option Int := if ∀ j, j < ns.length → (-(2 ^ 63) ≤ ns.getD j 0 ∧ ns.getD j 0 < 2 ^ 63) ∧ -(2 ^ 63) ≤ (ns.take (j + 1)).sum ∧ (ns.take (j + 1)).sum < 2 ^ 63 then some ns.sum else none
theorem Zen : CO X ξ (Zfu X ZnB) (ZbN List.max?) := ZgG fun ns i e => by unfold ZnB; rw [e]; rfl
theorem ZjJ : CO X ξ (Zfu X ZnC) (ZbN List.min?) := ZgG fun ns i e => by unfold ZnC; rw [e]; rfl
end
end DL
end
section
set_option Elab.async false
set_option linter.all false
set_option maxRecDepth 100000
set_option maxHeartbeats 4000000
namespace DL
open PySem PySem.Spec PyProof.Rows L2
theorem Zeo : bootBuiltins "reversed" = some (.type "reversed") := by decide +kernel
section
variable {X : Cx} {ξ : XK} {tg a : Expr} {fs : Av} {p pos : Pos} {ta : TA}
noncomputable def iRv (fs : Av) : Ro → Sto → Out Src := fun ρ M => (fs ρ M).bind fun ds M1 => match ds with | [.ref n] => (match M1[n]? with | some (.lst xs) => .ok (.rev n xs.length) M1 | none => .bad) | _ => .bad
end
end DL
end
section
set_option Elab.async false
set_option linter.all false
set_option maxRecDepth 100000
set_option maxHeartbeats 4000000
namespace DL
open PySem PySem.Spec PyProof.Rows L2
section
variable {X : Cx} {ξ : XK} {e e1 e2 : Expr} {es : List Expr} {f : Ev} {pos : Pos}
noncomputable def eFm (f : Ev) : Ev := fun ρ M => (f ρ M).bind fun x M1 => match x with
  | .int i => if i.natAbs.log2 < 1900 then .ok (.str (Str.ofString (toString i))) M1 else .bad
  | .str y => if y.length ≤ 100000 then .ok (.str y) M1 else .bad
  | _ => .bad
theorem Zn8 (ha : DE X ξ e f) : DE X ξ (.FormattedValue e (-1) none pos) (eFm f) := by
  obtain ⟨ta, pa, qa⟩ := ha
  refine ⟨fun σ H Q => ta σ H fun x H1 => (∃ i, x = .int i ∧ i.natAbs.log2 < 1900 ∧ Q (.str (Str.ofString (toString i))) H1) ∨ ∃ y, x = .str y ∧ y.length ≤ 100000 ∧ Q (.str y) H1, fun pins s σ H Q I h => ?_, fun σ ρ H α M Q s h q => ?_⟩
  · refine wpAny_FormattedValue_plain (wpAny_mono (pa pins s σ H _ I h) (fun v s1 ⟨x, H1, I1, r1, q1⟩ => ?_) fun _ _ z => z)
    rcases q1 with ⟨i, rfl, hi, q⟩ | ⟨y, rfl, hy, q⟩
    · obtain ⟨t, rfl⟩ := r1
      exact wpAny_formatField_int (by omega) ⟨.str (Str.ofString (toString i)), H1, I1.tok _, ⟨_, rfl⟩, q⟩
    · obtain ⟨t, rfl⟩ := r1
      exact wpAny_formatField_str ⟨.str y, H1, I1, ⟨_, rfl⟩, q⟩ ⟨.str y, H1, I1.tok _, ⟨_, rfl⟩, q⟩ (Nat.le_trans hy (by rw [sizeLine_eq]; decide))
  · refine qa σ ρ H α M _ s h (OG.seq q fun x M1 v H1 α1 e1 h1 r1 q1 => ?_)
    cases r1 with
    | int i =>
      by_cases hi : i.natAbs.log2 < 1900
      · simp only [hi, if_true] at q1
        exact .inl ⟨i, rfl, hi, q1 _ H1 α1 Ext.refl h1 (.str _)⟩
      · simp only [hi, if_false] at q1
        exact q1.elim
    | str y =>
      by_cases hi : y.length ≤ 100000
      · simp only [hi, if_true] at q1
        exact .inr ⟨y, rfl, hi, q1 _ H1 α1 Ext.refl h1 (.str _)⟩
      · simp only [hi, if_false] at q1
        exact q1.elim
    | _ => exact q1.elim
noncomputable abbrev Jv := Str → Ro → Sto → Out Str
noncomputable def PJ (X : Cx) (es : List Expr) (t : L2.St → Hp → Str → (Str → Hp → Prop) → Prop) : Prop :=
  ∀ (pins : List (Addr × Obj)) (s : Shared) (σ : L2.St) (H : Hp) (acc : Str) (Q : Str → Hp → Prop), Inv X pins σ H s → t σ H acc Q → Joins (model X.prog X.w) X.A X.xe (evalEach es X.env) acc (fun out s1 => out.length ≤ 100000 ∧ ∃ H', Inv X pins σ H' s1 ∧ Q out H') s
noncomputable def DJ (X : Cx) (ξ : XK) (es : List Expr) (g : Jv) : Prop := ∃ t, PJ X es t ∧ ∀ σ ρ H α M acc (Q : Str → Hp → Prop), SR X.K H α σ ρ → HR X.K H α M → OG X.K (fun _ _ v d => v = d) H α ξ Q (g acc ρ M) → t σ H acc Q
noncomputable def jNil : Jv := fun acc _ M => if acc.length ≤ 100000 then .ok acc M else .bad
noncomputable def ZbB (f : Ev) (g : Jv) : Jv := fun acc ρ M => (f ρ M).bind fun x M1 => match x with
  | .str y => if (acc ++ y).length ≤ 100000 then g (acc ++ y) ρ M1 else .bad
  | _ => .bad
noncomputable def eFs (g : Jv) : Ev := fun ρ M => (g Str.empty ρ M).bind fun x M1 => .ok (.str x) M1
theorem ZlI : DJ X ξ [] jNil := by
  refine ⟨fun σ H acc Q => acc.length ≤ 100000 ∧ Q acc H, fun pins s σ H acc Q I h => ⟨h.1, H, I, h.2⟩, fun σ ρ H α M acc Q s h q => ?_⟩
  unfold jNil at q
  by_cases hl : acc.length ≤ 100000
  · rw [if_pos hl] at q
    exact ⟨hl, q acc H α Ext.refl h rfl⟩
  · rw [if_neg hl] at q
    exact q.elim
theorem Zep {g : Jv} (ha : DE X ξ e f) (hr : DJ X ξ es g) : DJ X ξ (e :: es) (ZbB f g) := by
  obtain ⟨ta, pa, qa⟩ := ha
  obtain ⟨tr, pr', qr⟩ := hr
  refine ⟨fun σ H acc Q => ta σ H fun x H1 => ∃ y, x = .str y ∧ (acc ++ y).length ≤ 100000 ∧ tr σ H1 (acc ++ y) Q, fun pins s σ H acc Q I h => ?_, fun σ ρ H α M acc Q s h q => ?_⟩
  · show wpAny _ _ (eval e X.env) _ _ s
    refine wpAny_mono (pa pins s σ H _ I h) (fun v s1 ⟨x, H1, I1, r1, q1⟩ => ?_) fun _ _ z => z
    obtain ⟨y, rfl, hy, q⟩ := q1
    obtain ⟨t, rfl⟩ := r1
    exact ⟨y, t, rfl, Nat.le_trans hy (by rw [sizeLine_eq]; decide), pr' pins s1 σ H1 (acc ++ y) Q I1 q⟩
  · refine qa σ ρ H α M _ s h (OG.seq q fun x M1 v H1 α1 e1 h1 r1 q1 => ?_)
    cases r1 with
    | str y =>
      by_cases hi : (acc ++ y).length ≤ 100000
      · simp only [hi, if_true] at q1
        exact ⟨y, rfl, hi, qr σ ρ H1 α1 M1 (acc ++ y) Q (s.mono e1) h1 q1⟩
      · simp only [hi, if_false] at q1
        exact q1.elim
    | _ => exact q1.elim
theorem Zn9 {g : Jv} (h : DJ X ξ (e1 :: e2 :: es) g) : DE X ξ (.JoinedStr (e1 :: e2 :: es) pos) (eFs g) := by
  obtain ⟨t, pj, qj⟩ := h
  refine ⟨fun σ H Q => t σ H Str.empty fun x H1 => Q (.str x) H1, fun pins s σ H Q I h => ?_, fun σ ρ H α M Q s h q => ?_⟩
  · refine wpAny_JoinedStr ?_
    have := pj pins s σ H Str.empty _ I h
    have mono : ∀ (ms : List (Sem Value)) (acc : Str) (P R : Str → Shared → Prop) (s : Shared), (∀ o s, P o s → R o s) → Joins (model X.prog X.w) X.A X.xe ms acc P s → Joins (model X.prog X.w) X.A X.xe ms acc R s := by
      intro ms
      induction ms with
      | nil => intro acc P R s hp hj; exact hp _ _ hj
      | cons m r ih =>
        intro acc P R s hp hj
        exact wpAny_mono hj (fun v s1 ⟨y, t, e, l, k⟩ => ⟨y, t, e, l, ih _ P R s1 hp k⟩) fun _ _ z => z
    refine mono _ _ _ _ s (fun o s1 ⟨hl, H', I', q⟩ => ?_) this
    exact ⟨Nat.le_trans hl (by rw [sizeLine_eq]; decide), .str o, H', I'.tok _, ⟨_, rfl⟩, q⟩
  · refine qj σ ρ H α M Str.empty _ s h (OG.seq q fun x M1 v H1 α1 e1 h1 r1 q1 => ?_)
    cases r1
    exact q1 _ H1 α1 Ext.refl h1 (.str x)
end
end DL
end
section
set_option Elab.async false
set_option linter.all false
set_option maxRecDepth 100000
set_option maxHeartbeats 4000000
namespace DL
open PySem PySem.Spec PyProof.Rows L2
theorem Zfv {β γ : Type} {o : Out β} {f : β → Sto → Out γ} {g : γ → Sto → Fl} : Zar (o.bind f) g = Zar o fun x M => Zar (f x M) g := by cases o <;> rfl
section
variable {X : Cx} {ξ : XK} {tg iter elt : Expr} {ifs : List Expr} {scope : Scope} {cl : List (Str × Addr)} {N : List Str} {k : Nat} {fr : List Nat} {fi : Ro → Sto → Out Src} {gt : Tg} {c : Tv} {f : Ev} {pos : Pos}
theorem Zeq (iv : Nat) {x : Str} {pos' spos : Pos} (hN : X.N.Nodup) (B : Blk X scope cl N k fr) (hi : DI X ξ tg iter fi) (hg : ∀ C fp s H, DG (blk X scope cl N C fp s H) tg gt) (ht : ∀ C fp s H, DC (blk X scope cl N C fp s H) ifs c) (he : ∀ C fp s H, DE (blk X scope cl N C fp s H) E0 elt f)
    (hiv : X.N[iv]? = some x := by rfl) (hxl : Loc X.env.scope x := by first | exact Or.inl rfl | exact Or.inr rfl) (hsw : swapsWith (.ListComp elt [⟨tg, iter, ifs, 0⟩] scope pos) (some (.Name x pos')) spos.line X.env = pure true := by rfl) (hf : X.fn x = true ∨ X.env.scope.names.lookup x = some .local := by first | exact .inl rfl | exact .inr rfl | assumption)
    (hs : ∀ x, foldedSetIterable iter X.env x = pure x := by intro _; rfl) : DS X ξ (.Assign [.Name x pos'] (.ListComp elt [⟨tg, iter, ifs, 0⟩] scope pos) spos) (ZI (gNm iv) (ZT fi k fr gt c f)) := by
  obtain ⟨wi, pi, qi⟩ := hi
  refine ⟨fun Dn σ H => ∃ ρ α M, SR X.K H α σ ρ ∧ HR X.K H α M ∧ FP X.K H α ξ Dn (ZI (gNm iv) (ZT fi k fr gt c f) ρ M), ?_, fun σ ρ H α M Dn s h q => ⟨ρ, α, M, s, h, q⟩⟩
  rintro pins s σ H Dn I ⟨ρ, α, M, sr, hr, op⟩
  rw [exec_Assign_Name_used _ _ _ _ hsw]
  refine wpAny_bind (wpAny_standAt (wpAny_bind ?_))
  show wpAny _ X.A (do let _ ← comprehension (.ListComp elt [⟨tg, iter, ifs, 0⟩] scope pos) scope X.env _ (newList []) false (eval iter X.env) (some (assign (.Name x pos') X.env))) _ _ s
  have op : FP X.K H α ξ Dn (Zar (fi ρ M) fun src M1 => Zar (match ZbH src gt c f M1.length (cnt src M1) 0 (roB k fr ρ) (M1 ++ [.lst []]) with | .ok _ M2' => .ok (.ref M1.length) M2' | _ => .bad) fun d M1 => Fl.nx (ρ.set iv (some d)) M1) := by
    have e : ZI (gNm iv) (ZT fi k fr gt c f) ρ M = (Zar (fi ρ M) fun src M1 => Zar (match ZbH src gt c f M1.length (cnt src M1) 0 (roB k fr ρ) (M1 ++ [.lst []]) with | .ok _ M2' => .ok (.ref M1.length) M2' | _ => .bad) fun d M1 => Fl.nx (ρ.set iv (some d)) M1) := by
      unfold ZI ZT
      rw [Zfv]
      rfl
    rw [← e]
    exact op
  refine wpAny_bind (wpAny_mono (wpAny_comprehension_free (Q := fun _ s' => SP X pins Dn .next s') (use := some (assign (.Name x pos') X.env)) rfl hs B.clos B.kind B.names ?_) (fun _ s' hq => wpAny_pure (wpAny_pure hq)) fun _ _ e => e)
  refine thn (pi pins s σ H (fun J H2 => ∃ α2 M2 src, Ext X.K H H2 α α2 ∧ HR X.K H2 α2 M2 ∧ Znz X.K H2 α2 J src ∧ FP X.K H2 α2 ξ Dn (Zar (match ZbH src gt c f M2.length (cnt src M2) 0 (roB k fr ρ) (M2 ++ [.lst []]) with | .ok _ M2' => .ok (.ref M2.length) M2' | _ => .bad) fun d M1 => Fl.nx (ρ.set iv (some d)) M1)) I
    (qi σ ρ H α M _ sr hr (FP.seq op fun src M1 J H1 α1 e1 h1 r1 q1 => ⟨α1, M1, src, e1, h1, r1, q1⟩))) fun v s1 w1 => thn w1 fun itv s2 w2 => ?_
  obtain ⟨it, fp, tn, J, H2, rfl, I2, T, st2, f2, α2, M2, src, e2, h2, sc, op2⟩ := w2
  have srI := sr.mono e2
  refine wpAny_newObj_type ?_
  have I3 : Inv X pins σ (upd H2 s2.heap.objs.size (.lst [])) { s2 with heap := s2.heap.push { cls := .type "list", data := .seq ([] : List Value).toArray } } := I2.lnew (its := []) (t' := s2.toks) .nil (Nat.zero_le _)
  have fD : H2 s2.heap.objs.size = none := I2.fresh
  generalize hD : s2.heap.objs.size = D at I3 fD
  generalize hs3 : ({ s2 with heap := s2.heap.push { cls := .type "list", data := .seq ([] : List Value).toArray } } : Shared) = s3 at I3
  generalize hH3 : upd H2 D (.lst []) = H3 at I3
  have h3 : HR X.K H3 (α2 ++ [D]) (M2 ++ [.lst []]) := by rw [← hH3]; exact h2.new fD .nil
  have e3 : Ext X.K H2 H3 α2 (α2 ++ [D]) := by rw [← hH3]; exact Ext.new fD
  have aD : (α2 ++ [D])[M2.length]? = some D := h2.last D
  have lt2 : ∀ b ∈ fp, b < s2.heap.objs.size := fun b hb => let ⟨o, e, _⟩ := T.obj _ _ st2 b hb; Heap.lt_size e
  have keep3 : ∀ b o, s2.heap.get? b = some o → s3.heap.get? b = some o := fun b o e => by rw [← hs3]; exact Heap.get?_push_of_some _ e
  have f3 : ∀ b ∈ fp, ZcE X pins H3 b := fun b hb => ⟨by rw [← hH3, ZG (by rw [← hD]; exact Nat.ne_of_lt (lt2 b hb))]; exact (f2 b hb).1, (f2 b hb).2⟩
  have lt3 : ∀ b ∈ fp, b < s3.heap.objs.size := fun b hb => let ⟨o, e, _⟩ := T.obj _ _ st2 b hb; Heap.lt_size (keep3 b o e)
  have st3 : tn 0 s3.heap := T.keep _ _ _ st2 fun b _ o e => keep3 b o e
  refine wpAny_newFunctionEnv B.cell (by intro y hy; simp at hy) (fun h₁ hns₁ hsb₁ => ?_) B.kind
  have keep4 : ∀ b o, s3.heap.get? b = some o → h₁.get? b = some o := fun b o e => hsb₁.extBut b o (Nat.ne_of_lt (Heap.lt_size e)) (Heap.get?_push_of_some _ e)
  have I4 := Zgu (tk := s3.toks + ([] : List (Str × Value)).length) B I3 f3 lt3 hns₁ keep4
  have st4 : tn 0 h₁ := T.keep _ _ _ st3 fun b _ o e => keep4 b o e
  generalize hX : blk X scope cl N s3.heap.objs.size fp s3 H3 = Y at I4
  have YK : Y.K = X.K := by rw [← hX]; rfl
  have Yp : Y.prog = X.prog := by rw [← hX]; rfl
  have Yw : Y.w = X.w := by rw [← hX]; rfl
  have YA : Y.A = X.A := by rw [← hX]; rfl
  have Ye : Y.env = compEnvC scope cl s3.heap.objs.size X.env := by rw [← hX]; rfl
  obtain ⟨tt, pt, qt⟩ := hg s3.heap.objs.size fp s3 H3
  obtain ⟨te, pe, qe⟩ := he s3.heap.objs.size fp s3 H3
  have tst := ht s3.heap.objs.size fp s3 H3
  rw [hX] at pt qt pe qe tst
  cases er : ZbH src gt c f M2.length (cnt src M2) 0 (roB k fr ρ) (M2 ++ [.lst []]) with
  | exc x M9 => rw [er] at op2; exact op2.elim
  | bad => rw [er] at op2; exact op2.elim
  | ok u9 M9 =>
    rw [er] at op2
    have loop : codeAny (model X.prog X.w) X.A (.compLoop (.ListComp elt [⟨tg, iter, ifs, 0⟩] scope pos) 0 (.ref it) (.ref D) (compEnvC scope cl s3.heap.objs.size X.env)) (compPost (model X.prog X.w) X.A X.xe (some (assign (.Name x pos') X.env)) (fun _ s' => SP X pins Dn .next s') (.ref D) s3.heap.objs.size) { s3 with heap := h₁, toks := s3.toks + ([] : List (Str × Value)).length } := by
      refine Zbb (fun n s' => ∃ i σ' ρ' H' α' M', Inv Y [] σ' H' s' ∧ tn i s'.heap ∧ (∀ b ∈ fp, H' b = none) ∧ SR X.K H' α' σ' ρ' ∧ HR X.K H' α' M' ∧ Ext X.K H3 H' (α2 ++ [D]) α' ∧ ZbH src gt c f M2.length n i ρ' M' = .ok u9 M9) ?_ (cnt src M2)
        ⟨0, stB k fr σ, roB k fr ρ, H3, α2 ++ [D], M2 ++ [.lst []], I4, st4, fun b hb => (f3 b hb).1, (srI.blk).mono e3, h3, Ext.refl, er⟩
      rintro n s5 ⟨i, σ5, ρ5, H5, α5, M5, I5, st5, fr5, sr5, hr5, ex5, en⟩
      have fp5 : ∀ {H' : Hp}, (∀ b ∈ fp, H' b = none) → ∀ b ∈ fp, ZcE Y [] H' b := fun hn b hb => ⟨hn b hb, by rw [Ye]; exact Nat.ne_of_lt (lt3 b hb), by
        have := (Zgs B I3 f3 lt3).exfs b hb
        rw [hX] at this; exact this, .inl (by rw [← hX]; exact hb), fun x c h => (by rw [Ye] at h; exact (f3 b hb).2.2.2.2.1 x c (B.sub x c h)), fun p hp => (by rw [← hX] at hp; simp [blk] at hp)⟩
      have src5 := sc i H5 α5 M5 (e3.trans ex5) hr5
      rw [ZbH] at en
      cases ex : nxt src i M5 with
      | none => rw [ex] at en; cases en
      | some od =>
        rw [ex] at src5 en
        cases od with
        | none =>
          cases en
          have fin := T.done Y Yp Yw YK YA i [] s5 σ5 H5 (fun _ _ => False) I5 (fp5 fr5) st5 src5
          rw [YA] at fin
          refine thn fin fun r s6 ⟨hr6, I6⟩ => ?_
          subst hr6
          obtain ⟨m6, hm6, _⟩ := id I6.loc
          rw [Ye] at hm6
          have un := I6.base
          have hok6 := I6.hok
          have I7 : Inv X pins σ H5 s6 := by
            refine I3.call' (s' := s6) (ch := fp) ?_ ?_ ?_ I6.bare fun b hb => ?_
            · have := I6.os
              rw [this, ← hX]; rfl
            · rw [← hX] at un
              exact un
            · rw [Yp, Yw] at hok6
              exact hok6
            · obtain ⟨_, z1, z2, z3, z4, z5⟩ := f3 b hb
              exact ⟨z3, z1, z4, z5⟩
          have hC : H5 s3.heap.objs.size = none := by have := I6.free; rw [Ye] at this; exact this
          refine wpAny_assign_Name (Zdw (v := .ref D) I7 hN hiv hxl rfl (fun s8 I8 ⟨a, sb8, ha⟩ => ?_) hf)
          have nca : s3.heap.objs.size ≠ a := by
            rcases ha with e | e
            · rw [e]; exact Nat.ne_of_gt I3.lt
            · intro z
              obtain ⟨v, o, e', _⟩ := I3.cell x a e
              exact absurd (Heap.lt_size e') (by rw [← z]; exact Nat.lt_irrefl _)
          refine ⟨m6, hm6.sameBut sb8 nca, fun h' sb => ?_⟩
          have I9 : Inv X pins (σ.set iv (some (.ref D))) H5 { s8 with heap := h', toks := s8.toks } := I8.turned (it := s3.heap.objs.size) (fun b o hb e => (sb.2 b hb).trans e) hC (Nat.ne_of_gt I3.lt) (.inr I3.sz)
            (fun x c h z => by
              obtain ⟨v, o, e, _⟩ := I3.cell x c h
              exact absurd (Heap.lt_size e) (by rw [z]; exact Nat.lt_irrefl _)) (fun p hp z => by
              have := (I3.pin p hp).1
              exact absurd (Heap.lt_size this) (by rw [z]; exact Nat.lt_irrefl _))
          exact ⟨_, H5, I9, op2 _ H5 α5 (e3.trans ex5) hr5 ((srI.mono (e3.trans ex5)).set iv (.ref (ex5.get aD)))⟩
        | some d =>
          obtain ⟨go, yl⟩ := src5
          cases n with
          | zero => cases en
          | succ n =>
            simp only at en
            have itm := T.item Y Yp Yw YK YA i [] s5 σ5 H5 (fun _ _ => False) I5 (fp5 fr5) st5 go
            rw [YA] at itm
            refine thn itm fun r s6 ⟨u, hr6, w6⟩ => ?_
            subst hr6
            refine thn w6 fun _ s7 ⟨x, H7, I7, r7, y7, st7, fr7⟩ => ?_
            obtain ⟨ex7, hr7, rp7⟩ := yl x H7 y7
            have sr5 := sr5.mono ex7
            have hr5 := hr7
            have ex5 := ex5.trans ex7
            have I7' := I7.pinned (fp5 fr7) (T.obj _ _ st7)
            cases eg : gt d ρ5 with
            | none => rw [eg] at en; cases en
            | some ρ6 =>
              rw [eg] at en
              simp only at en
              have asg := pt _ s7 σ5 H7 x u _ I7' r7 (qt x d σ5 ρ5 H7 α5 ρ6 (fun σ' H' => H' = H7 ∧ SR X.K H7 α5 σ' ρ6) (by rw [YK]; exact sr5) (by rw [YK]; exact rp7) eg fun σ' s' => ⟨rfl, by rw [YK] at s'; exact s'⟩)
              rw [Yp, Yw, YA, Ye] at asg
              refine wpAny_mono asg (fun _ s8 ⟨σ8, H8, I8, z8, sr8⟩ => ?_) (fun _ _ z => by rw [← hX] at z; exact z)
              subst z8
              have again : ∀ {σ9 : L2.St} {H9 : Hp} {s9 : Shared}, Inv Y ([] ++ Zbu fp s7.heap) σ9 H9 s9 → Inv Y [] σ9 H9 s9 ∧ tn (i + 1) s9.heap ∧ ∀ b ∈ fp, H9 b = none := fun {σ9 H9 s9} I9 => by
                refine ⟨I9.unpinned, T.keep _ _ _ st7 fun b hb o e => (I9.pin (b, o) (List.mem_append_right _ (List.mem_append_right _ (Z0 hb e)))).1, fun b hb => ?_⟩
                obtain ⟨o, e, _⟩ := T.obj _ _ st7 b hb
                exact (I9.pin (b, o) (List.mem_append_right _ (List.mem_append_right _ (Z0 hb e)))).2.1
              have after : ∀ (kk : Bool) (M8 : Sto) (H9 : Hp) (α9 : List Addr) (s9 : Shared), Inv Y ([] ++ Zbu fp s7.heap) σ8 H9 s9 → Ext X.K H8 H9 α5 α9 → HR X.K H9 α9 M8 → c ρ6 M5 = .ok kk M8 →
                  (if kk = true then wpAny (model X.prog X.w) X.A (eval elt (compEnvC scope cl s3.heap.objs.size X.env)) (fun x s₄ => wpAny (model X.prog X.w) X.A (call (.builtin "list.append") [.ref D, x]) (fun _ s₅ => ∃ m, m < n + 1 ∧ ∃ i σ' ρ' H' α' M', Inv Y [] σ' H' s₅ ∧ tn i s₅.heap ∧ (∀ b ∈ fp, H' b = none) ∧ SR X.K H' α' σ' ρ' ∧ HR X.K H' α' M' ∧ Ext X.K H3 H' (α2 ++ [D]) α' ∧ ZbH src gt c f M2.length m i ρ' M' = .ok u9 M9) (fun _ _ => False) s₄) (fun _ _ => False) s9
                   else ∃ m, m < n + 1 ∧ ∃ i σ' ρ' H' α' M', Inv Y [] σ' H' s9 ∧ tn i s9.heap ∧ (∀ b ∈ fp, H' b = none) ∧ SR X.K H' α' σ' ρ' ∧ HR X.K H' α' M' ∧ Ext X.K H3 H' (α2 ++ [D]) α' ∧ ZbH src gt c f M2.length m i ρ' M' = .ok u9 M9) := by
                intro kk M8 H9 α9 s9 I9 ex9 hr9 ec
                rw [ec] at en
                cases kk with
                | false =>
                  obtain ⟨a1, a2, a3⟩ := again I9
                  exact Ziv ⟨n, Nat.lt_succ_self n, i + 1, σ8, ρ6, H9, α9, M8, a1, a2, a3, sr8.mono ex9, hr9, ex5.trans ex9, en⟩
                | true =>
                  simp only at en
                  refine Ziw ?_
                  cases ef : f ρ6 M8 with
                  | exc x9 M10 => rw [ef] at en; cases en
                  | bad => rw [ef] at en; cases en
                  | ok y M10 =>
                    rw [ef] at en
                    simp only at en
                    have ev := pe _ s9 σ8 H9 (fun v H' => ∃ α', Ext X.K H9 H' α9 α' ∧ HR X.K H' α' M10 ∧ Rep X.K H' α' v y) I9 (qe σ8 ρ6 H9 α9 M8 _ (by rw [YK]; exact sr8.mono ex9) (by rw [YK]; exact hr9) (by
                      rw [ef, YK]
                      exact fun v H' α' e h r => ⟨α', e, h, r⟩))
                    rw [Yp, Yw, YA, Ye] at ev
                    refine wpAny_mono ev (fun yv s10 ⟨v, H10, I10, r10, α10, ex10, hr10, rp10⟩ => ?_) (fun _ _ z => by rw [← hX] at z; exact z)
                    cases em : M10[M2.length]? with
                    | none => rw [em] at en; cases en
                    | some so =>
                      cases so with
                      | lst ds =>
                        rw [em] at en
                        simp only at en
                        by_cases cz : ds.length < 10000000
                        · rw [if_pos cz] at en
                          have aD10 := ex10.get (ex9.get (ex5.get aD))
                          obtain ⟨xs, g1, g2⟩ := hr10.at aD10 em
                          have ap := ZbJ (X := Y) _ s10 σ8 H10 (.ref D) [v] (.ref D) [yv] (fun _ H' => H' = upd H10 D (.lst (xs ++ [v]))) I10 rfl (.cons r10 .nil) ⟨D, xs, v, rfl, rfl, g1, by rw [g2.length]; exact Nat.lt_of_lt_of_le cz (by decide), rfl⟩
                          rw [Yp, Yw, YA] at ap
                          refine wpAny_mono ap (fun _ s11 ⟨v11, H11, I11, _, z11⟩ => ?_) (fun _ _ z => by rw [← hX] at z; exact z)
                          subst z11
                          obtain ⟨a1, a2, a3⟩ := again I11
                          have exw : Ext X.K H10 (upd H10 D (.lst (xs ++ [v]))) α10 α10 := Ext.wr g1
                          exact ⟨n, Nat.lt_succ_self n, i + 1, σ8, ρ6, _, α10, _, a1, a2, a3, ((sr8.mono ex9).mono ex10).mono exw, hr10.wr aD10 g1 (g2.append (.cons rp10 .nil)), ((ex5.trans ex9).trans ex10).trans exw, en⟩
                        · rw [if_neg cz] at en
                          cases en
              rcases tst with ⟨rfl, ec⟩ | ⟨e, rfl, tt', ptt, qtt⟩
              · refine wpAny_tests_nil ?_
                exact after true M5 H8 α5 s8 I8 Ext.refl hr5 (by rw [ec])
              · refine wpAny_tests_one ?_
                cases ec : c ρ6 M5 with
                | exc x9 M10 => rw [ec] at en; cases en
                | bad => rw [ec] at en; cases en
                | ok kk M8 =>
                  have tv' := ptt _ s8 σ8 H8 (fun b H' => b = kk ∧ ∃ α', Ext X.K H8 H' α5 α' ∧ HR X.K H' α' M8) I8 (qtt σ8 ρ6 H8 α5 M5 _ (by rw [YK]; exact sr8) (by rw [YK]; exact hr5) (by
                    rw [ec, YK]
                    exact fun v H' α' e h r => ⟨r, α', e, h⟩))
                  rw [Yp, Yw, YA, Ye] at tv'
                  refine wpAny_mono tv' (fun b s9 ⟨H9, I9, zb, α9, ex9, hr9⟩ => ?_) (fun _ _ z => by rw [← hX] at z; exact z)
                  subst zb
                  exact after b M8 H9 α9 s9 I9 ex9 hr9 ec
    exact codeAny_compStart_list loop (T.self X.A 0 _ _ _ st4 loop)
end
end DL
end
section
set_option Elab.async false
set_option linter.all false
set_option maxRecDepth 100000
set_option maxHeartbeats 4000000
namespace DL
open PySem PySem.Spec PyProof.Rows L2
noncomputable def Zq7 : Bo := fun x y M => match x, y with
  | .ref n, .int k => match M[n]? with
    | some (.lst xs) => if (-9223372036854775808 ≤ k ∧ k < 9223372036854775808) ∧ xs.length * k.toNat ≤ 100000 then .ok (.ref M.length) (M ++ [.lst (List.replicate k.toNat xs).flatten]) else .bad
    | none => .bad
  | _, _ => .bad
section
variable {X : Cx} {ξ : XK} {a b : Expr} {fa fb : Ev} {pos : Pos}
end
end DL
end
set_option Elab.async false
set_option linter.all false
set_option maxRecDepth 100000
set_option maxHeartbeats 4000000
namespace DL
open PySem PySem.Spec L2
open PySem.W
theorem Zfw : typeLookup (.type "list_reverseiterator") "__len__" = pure none := by rw [typeLookup_type, builtinLookup_eq_fast]; kernel_rfl
theorem Zh1 : typeLookup (.type "list_reverseiterator") "__length_hint__" = pure (some (.builtin "list_reverseiterator.__length_hint__")) := by rw [typeLookup_type, builtinLookup_eq_fast]; kernel_rfl
theorem ZjK : isSubtype (.type "list_reverseiterator") (.type "list_reverseiterator") = pure true := by rw [isSubtype_type]; kernel_rfl
theorem ZgH : splitId "list_reverseiterator.__length_hint__" = some ("list_reverseiterator", "__length_hint__") := by decide +kernel
section
variable {prog : Program} {w : World} {A : Around} {E : Value → Shared → Prop} {s : Shared}
theorem Zh2 {I : Addr} {Q : Bool → Shared → Prop} (hT : s.TypeIs (.ref I) "list_reverseiterator") (h : Q false s) : wpAny (model prog w) A (Builtin.List.listLengthHint (.ref I)) Q E s := by
  unfold Builtin.List.listLengthHint
  refine wpAny_bind (wpAny_specialOf hT Zfw ?_)
  show wpAny _ A (specialOf (Value.ref I) (Str.ofString "__length_hint__") >>= _) _ _ _
  refine wpAny_bind (wpAny_specialOf hT Zh1 ?_)
  simp only [ZgH]
  refine wpAny_bind (wpAny_isInstance hT ZjK ?_)
  exact wpAny_pure h
end
section
variable {prog : Program} {w : World} {A : Around} {s : Shared} {R : Result → Shared → Prop}
variable {I : Addr} {fp wr : List Addr} {G : Array GenState → Array GenState → Prop} {n : Nat} {P : Nat → Value → Prop} {St : Nat → Shared → Prop}
theorem Zfx (W : WalksS prog w A.in1 I fp wr G n P St) (hT : ∀ i s, St i s → s.TypeIs (.ref I) "list_reverseiterator") (S : Addr) (res : Value) (c₀ : Nat) (hst : St 0 s) (hSf : S ∉ fp) (hI : I ∈ fp)
    (hS : s.heap.get? S = some { cls := .type "list", data := .seq #[] c₀ })
    (hR : ∀ s' acc' c', Moved (S :: wr) G s s' → s'.heap.get? S = some { cls := .type "list", dict := none, data := .seq acc' c', slots := #[] } → ItemsOf P acc' n → R (.ok (.ret res)) s') (hn : n ≤ sizeLine) :
    wpAny (model prog w) A.in1 (Builtin.List.listExtendWith (.ref S) (.ref I) res)
      (fun fin s' => match fin with | .done f => R (.ok f) s' | .again c' => c'.quiet = true ∧ codeAny (model prog w) A c' R s') (fun e s' => R (.error e) s') s := by
  have hSI : S ≠ I := fun e => hSf (e ▸ hI)
  unfold Builtin.List.listExtendWith
  refine wpAny_bind (wpAny_typeOf (hT 0 _ hst) ?_)
  have h1 : Builtin.List.listSameRef (.ref S) (.ref I) = false := by simp [Builtin.List.listSameRef, hSI]
  have h2 : (Value.type "list_reverseiterator" == Value.type "list") = false := by decide
  have h3 : (Value.type "list_reverseiterator" == Value.type "tuple") = false := by decide
  simp only [h1, h2, h3, Bool.or_false, Bool.false_eq_true, if_false]
  refine wpAny_bind (W.self 0 _ _ _ hst ?_)
  refine wpAny_bind (wpAny_holding ?_)
  refine Zh2 (hT 0 _ hst) ?_
  refine wpAny_pure ⟨plainId_quiet F.plain_extend_loop _, codeAny_extend_loopS W hn _ hSf _ n 0 _ _ _ rfl (Nat.zero_le _) hst hS (ItemsOf.nil P) fun s' acc' c' hm hS' hacc => ?_⟩
  exact hR s' acc' c' hm hS' hacc
theorem Zc6 (W : WalksS prog w A.in1 I fp wr G n P St) (hT : ∀ i s, St i s → s.TypeIs (.ref I) "list_reverseiterator") (S : Addr) (hst : St 0 s) (hSf : S ∉ fp) (hI : I ∈ fp)
    (hS : s.heap.get? S = some { cls := .type "list", data := .seq #[] })
    (hR : ∀ s' acc' c', Moved (S :: wr) G s s' → s'.heap.get? S = some { cls := .type "list", dict := none, data := .seq acc' c', slots := #[] } → ItemsOf P acc' n → R (.ok (.ret .none)) s') (hn : n ≤ sizeLine) :
    wpAny (model prog w) A.in1 (Builtin.«list.__init__» ⟨[.ref S, .ref I], []⟩)
      (fun fin s' => match fin with | .done f => R (.ok f) s' | .again c' => c'.quiet = true ∧ codeAny (model prog w) A c' R s') (fun e s' => R (.error e) s') s := by
  show wpAny _ A.in1 (do let old ← Builtin.List.listItems (.ref S); Builtin.List.listUpdate (.ref S) (fun _ => #[]); letGo old.toList.reverse; Builtin.List.listExtendWith (.ref S) (.ref I) .none) _ _ s
  refine wpAny_bind ?_
  unfold Builtin.List.listItems
  refine wpAny_bind (wpAny_seqItems hS rfl (wpAny_pure ?_))
  show wpAny _ A.in1 (updateSeq S (fun _ => #[]) >>= fun _ => letGo (#[] : Array Value).toList.reverse >>= fun _ => Builtin.List.listExtendWith (.ref S) (.ref I) .none) _ _ s
  refine wpAny_bind (wpAny_updateSeq hS rfl ?_)
  have hS₂ := Heap.get?_update_self (Obj.mapSeq (fun _ => (#[] : Array Value))) hS rfl
  have oth : ∀ b o, b ≠ S → s.heap.get? b = some o → (s.heap.update S (Obj.mapSeq (fun _ => (#[] : Array Value)))).get? b = some o :=
    fun b o hb e => (Heap.get?_update_other _ _ (Ne.symm hb)).trans e
  refine wpAny_bind (wpAny_letGo ?_)
  refine Zfx W hT S .none _ (W.frame 0 s _ s.toks hst (Nat.le_refl _) fun b hb o e => oth b o (fun h => hSf (h ▸ hb)) e) hSf hI hS₂ (fun s' acc' c' hm hS' hacc => ?_) hn
  exact hR s' acc' c' (Moved.trans W.gtrans ((Moved.refl W.grefl).then_heap (Nat.le_refl _) fun b o hb e => oth b o (fun h => hb (h ▸ List.mem_cons_self)) e) hm) hS' hacc
end
section
variable {prog : Program} {w : World} {A : Around} {E : Value → Shared → Prop} {s : Shared}
variable {I : Addr} {fp wr : List Addr} {G : Array GenState → Array GenState → Prop} {n : Nat} {P : Nat → Value → Prop} {St : Nat → Shared → Prop}
theorem Zc7 {Q : Value → Shared → Prop} (W : WalksS prog w A.in1.in1 I fp wr G n P St) (hT : ∀ i s, St i s → s.TypeIs (.ref I) "list_reverseiterator") (hst : St 0 s) (hfp : ∀ b ∈ fp, b < s.heap.objs.size) (hI : I ∈ fp)
    (hQ : ∀ s' acc' c', Moved (s.heap.objs.size :: wr) G { s with heap := s.heap.push { cls := .type "list", data := .seq #[] } } s' →
      s'.heap.get? s.heap.objs.size = some { cls := .type "list", dict := none, data := .seq acc' c', slots := #[] } → ItemsOf P acc' n → Q (.ref s.heap.objs.size) s') (hn : n ≤ sizeLine) :
    wpAny (model prog w) A (call (.type "list") [.ref I]) Q E s := by
  have hSf : s.heap.objs.size ∉ fp := fun hm => Nat.lt_irrefl _ (hfp _ hm)
  refine callType_codes (Q₁ := fun obj s₁ => obj = .ref s.heap.objs.size ∧ s₁ = { s with heap := s.heap.push { cls := .type "list", data := .seq #[] } }) F.called_list (F.typeCall_list_1 _) F.entry_list_init
    (code_list_new _ ⟨rfl, rfl⟩) fun obj s₁ h₁ => ?_
  obtain ⟨rfl, rfl⟩ := h₁
  have hS : (s.heap.push { cls := .type "list", data := .seq #[] }).get? s.heap.objs.size = some { cls := .type "list", data := .seq #[] } := Heap.get?_push_size _ rfl
  refine ⟨⟨_, hS, rfl⟩, F.args_list_init_2 _ _, Zc6 W hT _ (W.frame 0 s _ s.toks hst (Nat.le_refl _) fun b _ o e => Heap.get?_push_of_some _ e) hSf hI hS (fun s' acc' c' hm hS' hacc => ?_) hn⟩
  exact ⟨rfl, hQ s' acc' c' hm hS' hacc⟩
end
section
variable {X : Cx} {ξ : XK} {a : Expr} {fs : Av} {p1 p2 p3 pos : Pos} {ta : TA}
noncomputable def tLR (K : PySem.W.Frag) (t : TA) : TE := fun σ H Q => t σ H fun vs H1 => ∃ l xs, vs = [.ref l] ∧ SqL K H1 l xs ∧ ∀ p, H1 p = none → Q (.ref p) (upd H1 p (.lst xs.reverse))
theorem ZgI {its : List Value} {acc : Array Value} (h : ItemsOf (fun i v => its.toArray[its.toArray.size - 1 - i]? = some v) acc its.toArray.size) : acc = its.reverse.toArray := by
  obtain ⟨hz, hv⟩ := h
  apply Array.ext'
  apply List.ext_getElem?
  intro i
  rw [List.toList_toArray]
  by_cases hi : i < acc.size
  · have e : acc.toList[i]? = some acc[i] := by rw [Array.getElem?_toList]; exact Array.getElem?_eq_getElem hi
    have := hv i _ (Array.getElem?_eq_getElem hi)
    rw [e, ← this, List.getElem?_toArray, List.size_toArray, List.getElem?_reverse (by rw [hz, List.size_toArray] at hi; exact hi)]
  · rw [List.getElem?_eq_none (by rw [Array.length_toList]; omega), List.getElem?_eq_none (by rw [hz, List.size_toArray] at hi; rw [List.length_reverse]; omega)]
theorem Zoa (hc : X.A.handled = none) (hgl : Gl X "list") (hml : X.mg "list" = none) (hg : Gl X "reversed") (hm : X.mg "reversed" = none) (ha : PA X [a] ta) (hs : starEach [a] X.env = (false, eval a X.env) :: starEach [] X.env := by rfl) (hpl : (backTo p3 (starEach [] X.env)).any (·.1) = false := by rfl) (hs1 : starEach [.Call (.Name "reversed" p2) [a] [] p3] X.env = (false, eval (.Call (.Name "reversed" p2) [a] [] p3) X.env) :: starEach [] X.env := by rfl) (hpl1 : (backTo pos (starEach [] X.env)).any (·.1) = false := by rfl) :
    PE X (.Call (.Name "list" p1) [.Call (.Name "reversed" p2) [a] [] p3] [] pos) (tLR X.K ta) := by
  intro pins s σ H Q I h
  refine wpAny_Call_Name_kw (Zb0 I hgl hml Zc2 (PyProof.Rows.callWith_type1 ?_ hs1 hpl1) (by decide) (by decide))
  rw [hs1]
  show wpAny _ _ (spliced ((false, eval (.Call (.Name "reversed" p2) [a] [] p3) X.env) :: backTo pos (starEach [] X.env))) _ _ s
  refine Calls.spliced_cons ?_
  refine wpAny_Call_Name_kw (Zb0 I hg hm Zeo (PyProof.Rows.callWith_type1 (thn (ha p3 pins s σ H _ I h) fun us s1 ⟨vs, H1, I1, r1, q1⟩ => ?_) hs hpl) (by decide) (by decide))
  obtain ⟨l, xs, rfl, hq, q⟩ := q1
  obtain ⟨u, rfl, ru⟩ := ZcX r1
  cases ru
  obtain ⟨its, rv, pl, hz⟩ := I1.list hq
  have hll : l < s1.heap.objs.size := by
    obtain ⟨o, ho, _⟩ := pl.isList
    exact Heap.lt_size ho
  refine call_reversed_list pl.isList (Calls.spliced_nil ?_)
  have W := (PySem.Walks.listRev (prog := X.prog) (w := X.w) (A := X.A.in1.in1) hc s1.heap.objs.size l (Nat.ne_of_lt hll) its.toArray).toS
  have hsz : its.toArray.size ≤ sizeLine := by rw [List.size_toArray, ← rv.length]; exact hz
  refine Zc7 W (fun i s x => x.2.1.typeIs) ⟨Nat.zero_le _, ⟨_, Heap.get?_push_size _ rfl, rfl, ?_⟩, ?_⟩ ?_ (by simp) (fun s' acc c hmv hS hit => ?_) hsz
  · show Data.fields #[.ref l, rawInt ((its.toArray.size : Int) - 1)] = _
    rw [show (its.toArray.size : Int) - 1 - ((0 : Nat) : Int) = (its.toArray.size : Int) - 1 by omega]
  · exact pl.isList.at fun o e => Heap.get?_push_of_some _ e
  · intro b hb
    have : b = s1.heap.objs.size ∨ b = l := by simpa using hb
    have hz2 : (s1.heap.push (revObj l ((its.toArray.size : Int) - 1))).objs.size = s1.heap.objs.size + 1 := by simp [Heap.push]
    show b < (s1.heap.push (revObj l ((its.toArray.size : Int) - 1))).objs.size
    rw [hz2]
    rcases this with rfl | rfl
    · exact Nat.lt_succ_self _
    · exact Nat.lt_succ_of_lt hll
  · have ea := ZgI hit
    subst ea
    have hz2 : (s1.heap.push (revObj l ((its.toArray.size : Int) - 1))).objs.size = s1.heap.objs.size + 1 := by simp [Heap.push]
    have K : ∀ b u, s1.heap.get? b = some u → s'.heap.get? b = some u := by
      intro b u hb
      have hlt := Heap.lt_size hb
      refine hmv.heap b u ?_ (Heap.get?_push_of_some _ (Heap.get?_push_of_some _ hb))
      intro hmem
      have : b = s1.heap.objs.size + 1 ∨ b = s1.heap.objs.size := by
        simp only [List.mem_cons, List.not_mem_nil, or_false] at hmem
        rcases hmem with e | e
        · exact .inl (e.trans hz2)
        · exact .inr e
      rcases this with e | e
      · exact absurd (e ▸ hlt) (Nat.not_lt.mpr (Nat.le_succ _))
      · exact absurd (e ▸ hlt) (Nat.lt_irrefl _)
    have es : s' = { s1 with heap := s'.heap, toks := s'.toks } := by
      obtain ⟨h1, g1, d1, t1, o1⟩ := s1
      obtain ⟨h2, g2, d2, t2, o2⟩ := s'
      have e1 : g2 = g1 := hmv.gens
      have e2 : d2 = d1 := hmv.drawn
      have e3 : o2 = o1 := hmv.os
      subst e1 e2 e3
      rfl
    have hS' : s'.heap.get? (s1.heap.objs.size + 1) = some { cls := .type "list", dict := none, data := .seq its.reverse.toArray c, slots := #[] } := by
      rw [← hz2]; exact hS
    show EP X pins σ Q (.ref (s1.heap.push (revObj l ((its.toArray.size : Int) - 1))).objs.size) s'
    rw [hz2, es]
    refine ⟨.ref _, _, I1.laid (t' := s'.toks) (o := .lst xs.reverse) K (Nat.le_succ _) ?_, rfl, q _ (I1.hok.fresh (Nat.le_succ _))⟩
    exact ⟨by rw [List.length_reverse]; exact hz, its.reverse, c, rv.reverse, hS'⟩
noncomputable def bLR : List D → Sto → Out D := fun ds M1 => match ds with
  | [.ref n] => (match M1[n]? with | some (.lst xs) => .ok (.ref M1.length) (M1 ++ [.lst xs.reverse]) | none => .bad)
  | [.rol xs] => .ok (.ref M1.length) (M1 ++ [.lst xs.reverse])
  | _ => .bad
theorem Zob (hc : X.A.handled = none) (hml : X.mg "list" = none) (hm : X.mg "reversed" = none) (ha : DA X ξ [a] fs) (hgl : Gl X "list" := by rfl) (hg : Gl X "reversed" := by rfl) (hs : starEach [a] X.env = (false, eval a X.env) :: starEach [] X.env := by rfl) (hpl : (backTo p3 (starEach [] X.env)).any (·.1) = false := by rfl) (hs1 : starEach [.Call (.Name "reversed" p2) [a] [] p3] X.env = (false, eval (.Call (.Name "reversed" p2) [a] [] p3) X.env) :: starEach [] X.env := by rfl) (hpl1 : (backTo pos (starEach [] X.env)).any (·.1) = false := by rfl) :
    DE X ξ (.Call (.Name "list" p1) [.Call (.Name "reversed" p2) [a] [] p3] [] pos) (Zh bLR fs) := by
  obtain ⟨ta, pa, qa⟩ := ha
  refine ⟨_, Zoa hc hgl hml hg hm pa hs hpl hs1 hpl1, fun σ ρ H α M Q s hh w => qa σ ρ H α M _ s hh (OG.seq w fun ds M1 vs H1 α1 e1 h1 r1 w1 => ?_)⟩
  match r1 with
  | .nil => exact w1.elim
  | .cons r (.cons _ _) => cases r <;> exact w1.elim
  | .cons r .nil =>
    cases r with
    | @rol a xs ds hp rp =>
      have w2 : OP X.K H1 α1 ξ Q (.ok (.ref M1.length) (M1 ++ [.lst ds.reverse])) := w1
      exact ⟨a, xs, rfl, hp.sq, fun l hl => w2 _ _ (α1 ++ [l]) (Ext.new hl) (h1.new hl rp.rev) (.ref (h1.last l))⟩
    | @ref a n hp =>
      cases em : M1[n]? with
      | none => simp only [bLR, em] at w1; exact w1.elim
      | some so =>
        cases so with
        | lst es =>
          simp only [bLR, em] at w1
          obtain ⟨xs, g1, g2⟩ := h1.at hp em
          exact ⟨a, xs, rfl, SqL.of g1, fun l hl => w1 _ _ (α1 ++ [l]) (Ext.new hl) (h1.new hl g2.rev) (.ref (h1.last l))⟩
    | _ => exact w1.elim
end
end DL
section
set_option Elab.async false
set_option linter.all false
set_option maxRecDepth 100000
set_option maxHeartbeats 4000000
namespace DL
open PySem PySem.Spec PyProof.Rows L2
noncomputable def Bag (n : Nat) (M : Sto) : Prop := ∃ a b : Int, 0 ≤ a ∧ M[n]? = some (.lst [.int a, .int b])
structure Gr (n : Nat) (M M' : Sto) : Prop where
  len : M.length ≤ M'.length
  bag : Bag n M'
  keep : ∀ k, k ≠ n → k < M.length → M'[k]? = M[k]?
theorem ZjL {g : Sv} {n k : Nat} {ds : List D} {M M' : Sto} {d : D} (hl : ds.length = n) (h : g (ds.map some ++ List.replicate k none) M = .ret d M') : fnF g n k ds M = .ok d M' := by
  unfold fnF
  rw [if_pos hl, h]
theorem ZgJ {g h : Sv} {ρ ρ1 : Ro} {M M1 : Sto} (e : g ρ M = .nx ρ1 M1) : Zs g h ρ M = h ρ1 M1 := by
  unfold Zs
  rw [e]
theorem ZgK {i j : Int} (h1 : -(2 ^ 64) < j) (h2 : j < 2 ^ 64) : Zv i j := .inr (.inl (intBits_le_64 h1 h2))
theorem ZgL {i j : Int} (h1 : -(2 ^ 64) < i) (h2 : i < 2 ^ 64) : Zv i j := .inl (intBits_le_64 h1 h2)
theorem at0 {x : D} {r : List D} : atI (x :: r) 0 = some x := by
  show (ixN (r.length + 1) 0).bind _ = _
  unfold ixN
  rw [if_pos (by decide), if_pos (by omega)]
  rfl
theorem at1 {x y : D} {r : List D} : atI (x :: y :: r) 1 = some y := by
  show (ixN (r.length + 2) 1).bind _ = _
  unfold ixN
  rw [if_pos (by decide), if_pos (by omega)]
  rfl
theorem ix0 {n : Nat} : ixN (n + 1) 0 = some 0 := by
  unfold ixN
  rw [if_pos (by decide), if_pos (by omega)]
  rfl
theorem ix1 {n : Nat} : ixN (n + 2) 1 = some 1 := by
  unfold ixN
  rw [if_pos (by decide), if_pos (by omega)]
  rfl
theorem Bag.lt {n : Nat} {M : Sto} (h : Bag n M) : n < M.length := let ⟨_, _, _, e⟩ := h; (List.getElem?_eq_some_iff.mp e).1
theorem Bag.app {n : Nat} {M : Sto} (h : Bag n M) (L : Sto) : Bag n (M ++ L) := by
  have hl := h.lt
  obtain ⟨a, b, h1, h2⟩ := h
  exact ⟨a, b, h1, by rw [List.getElem?_append_left hl]; exact h2⟩
theorem Gr.refl {n : Nat} {M : Sto} (h : Bag n M) : Gr n M M := ⟨Nat.le_refl _, h, fun _ _ _ => rfl⟩
theorem Gr.trans {n : Nat} {M M1 M2 : Sto} (a : Gr n M M1) (b : Gr n M1 M2) : Gr n M M2 :=
  ⟨Nat.le_trans a.len b.len, b.bag, fun k h1 h2 => (b.keep k h1 (Nat.lt_of_lt_of_le h2 a.len)).trans (a.keep k h1 h2)⟩
theorem Gr.app {n : Nat} {M : Sto} (h : Bag n M) (L : Sto) : Gr n M (M ++ L) := ⟨by simp, h.app L, fun k _ hk => by rw [List.getElem?_append_left hk]⟩
theorem Gr.app2 {n : Nat} {M M1 : Sto} (h : Gr n M M1) (L : Sto) : Gr n M (M1 ++ L) := h.trans (.app h.bag L)
theorem Gr.new {n : Nat} {M M1 : Sto} {o : SO} {L : Sto} (hb : Bag n M) (h : Gr n (M ++ o :: L) M1) : M1[M.length]? = some o := by
  rw [h.keep _ (Nat.ne_of_gt hb.lt) (by simp)]
  simp
theorem Zh3 {ns : List Int} {k : Nat} (h : k < ns.length) : atI (ns.map D.int) (k : Int) = some (.int ns[k]) := Zjn (by rw [List.getElem?_map, List.getElem?_eq_getElem h]; rfl)
theorem Ze4 {ρ : Ro} {i : Nat} {x : Option D} (h : ρ[i]? = some x) : ρ.set i x = ρ := by
  apply List.ext_getElem?
  intro k
  by_cases hk : k = i
  · subst hk
    rw [List.getElem?_set_self (List.getElem?_eq_some_iff.mp h).1, h]
  · rw [List.getElem?_set_ne (Ne.symm hk)]
noncomputable def cEu (i j : Nat) : Sv := Zc0 i j (Za (Zd j) (Za (e2 dMod (Zd i) (Zd j)) aNil))
theorem ZlJ {c : Tv} {i j : Nat} {M : Sto} (hij : i ≠ j) (hc : ∀ (ρ : Ro) (b : Nat), ρ[j]? = some (some (.int b)) → c ρ M = .ok (decide (b ≠ 0)) M) : ∀ (b a : Nat) (ρ : Ro), ρ[i]? = some (some (.int a)) → ρ[j]? = some (some (.int b)) →
    sWh c (cEu i j) ρ M = .nx ((ρ.set i (some (.int (Nat.gcd a b : Nat)))).set j (some (.int 0))) M := by
  intro b
  induction b using Nat.strongRecOn with
  | ind b ih =>
    intro a ρ hi hj
    by_cases h0 : b = 0
    · subst h0
      rw [ZdM (M1 := M) (by rw [hc ρ 0 hj]; rfl), Nat.gcd_zero_right, Ze4 hi, Ze4 (x := some (.int 0)) hj]
    · have hl : i < ρ.length := (List.getElem?_eq_some_iff.mp hi).1
      have hl2 : j < ρ.length := (List.getElem?_eq_some_iff.mp hj).1
      have ht : c ρ M = .ok true M := by rw [hc ρ b hj, decide_eq_true h0]
      have hb : cEu i j ρ M = .nx ((ρ.set i (some (.int b))).set j (some (.int (a % b : Nat)))) M := by
        have hb0 : ¬ (b : Int) = 0 := by omega
        have hm : (a : Int).fmod (b : Int) = ((a % b : Nat) : Int) := by rw [Int.fmod_eq_emod_of_nonneg _ (by omega)]; rfl
        simp [cEu, Zc0, Za, aNil, Zd, e2, dMod, Out.bind, Zar, hi, hj, hb0, hm, h0]
      have g1 : ((ρ.set i (some (.int b))).set j (some (.int (a % b : Nat))))[i]? = some (some (.int b)) := by
        rw [List.getElem?_set_ne (Ne.symm hij), List.getElem?_set_self hl]
      have g2 : ((ρ.set i (some (.int b))).set j (some (.int (a % b : Nat))))[j]? = some (some (.int (a % b : Nat))) := by
        rw [List.getElem?_set_self (by simpa using hl2)]
      have q := ih (a % b) (Nat.mod_lt _ (by omega)) b _ g1 g2
      rw [ZeY ht hb (by rw [q]; intro z; cases z), q]
      have eg : Nat.gcd b (a % b) = Nat.gcd a b := by rw [Nat.gcd_comm b, ← Nat.gcd_rec, Nat.gcd_comm]
      rw [eg, List.set_comm _ _ (Ne.symm hij), List.set_set, List.set_set]
theorem ZlK {M : Sto} {a b : Int} : eqF 12 M (.int a) (.int b) = some (a == b) := rfl
theorem ne0 {j : Nat} {M : Sto} (ρ : Ro) (b : Nat) (h : ρ[j]? = some (some (.int b))) : tv (e2 dNe (Zd j) (eC (.int 0))) ρ M = .ok (decide (b ≠ 0)) M := by
  simp [tv, e2, Zd, eC, h, Out.bind, dNe, ZlK]
  by_cases c : b = 0
  · subst c; rfl
  · have : ¬ (b : Int) = 0 := by omega
    simp [c, this]
theorem ZgM (a : Int) : (if a < 0 then -a else a) = (a.natAbs : Int) := by split <;> omega
noncomputable def Zq8 : Sv := (Zs (Zc0 2 3 (Za (Zh bAbs (Za (Zd 0) aNil)) (Za (Zh bAbs (Za (Zd 1) aNil)) aNil)))
  (Zs (sWh (tv (e2 dNe (Zd 3) (eC (.int 0)))) (Zc0 2 3 (Za (Zd 3) (Za (e2 dMod (Zd 2) (Zd 3)) aNil))))
  (ZM (Zd 2))))
noncomputable def FGcd : List D → Sto → Out D := fnF Zq8 2 2
theorem ZlL (a b : Int) (M : Sto) : FGcd [.int a, .int b] M = .ok (.int (Int.gcd a b : Nat)) M := by
  refine ZjL rfl ?_
  refine (ZgJ (ρ1 := [some (.int a), some (.int b), some (.int (a.natAbs : Nat)), some (.int (b.natAbs : Nat))]) (M1 := M) ?_).trans ?_
  · simp [fnF, Zs, sNil, ZM, Zlu, Zby, sIf, ZI, Zc0, ZhP, Zar, gNm, gNl, gCs, gTp, DL.e2, Zd, eC, Zav, Za5, Zh, Za, aNil, tv, Zfr, ZfG, ZbV, ZdG, Zn0, Zek, eIf, ZcZ, ZfI, Out.bind, dAdd, dSub, dMul, dDiv, dMod, dPow, dLt, dLe, dGt, dGe, dIx, atD, at0, at1, ix0, ix1, bLen, bAbs, bMax, bMin, bInt, bList, ZfH, ZaO, kd, Zcf, dIs, dIsNot, isP, ZgM]
  · have q := ZlJ (c := tv (e2 dNe (Zd 3) (eC (.int 0)))) (i := 2) (j := 3) (M := M) (by decide) ne0 b.natAbs a.natAbs [some (.int a), some (.int b), some (.int (a.natAbs : Nat)), some (.int (b.natAbs : Nat))] rfl rfl
    refine (ZgJ q).trans ?_
    rfl
end DL
end
section
set_option Elab.async false
set_option linter.all false
set_option maxRecDepth 100000
set_option maxHeartbeats 4000000
namespace DL
open PySem PySem.Spec PyProof.Rows L2
end DL
end
section
set_option Elab.async false
set_option linter.all false
set_option maxRecDepth 100000
set_option maxHeartbeats 4000000
namespace HD
open PySem PySem.W PyProof.Rows
noncomputable def ZnD (thr : Thread → Bool) (stp : SharedT → Thread → Option (SharedT × Thread)) (n : Nat) : SharedT → Thread → Option SharedT :=
  Nat.rec (motive := fun _ => SharedT → Thread → Option SharedT) (fun _ _ => none) (fun _ ih s t => Bool.rec (motive := fun _ => Option SharedT) (Option.rec (motive := fun _ => Option SharedT) none (fun r => ih r.1 r.2) (stp s t)) (some s) (thr t)) n
noncomputable def Zh4 (ok : Thread → Bool) (stp : SharedT → Thread → Option (SharedT × Thread)) (s : SharedT) (t : Thread) : Option (SharedT × Thread) := Bool.rec (motive := fun _ => Option (SharedT × Thread)) none (stp s t) (ok t)
section
variable {tb : String → Option Builtin} {p : Program} {w : World} {n₀ : Nat} {ann : Option Value}
theorem ZiH : ∀ {n : Nat} {s s' : SharedT} {t : Thread}, ZnD through (Zh4 (stepOk n₀ ann) (stepT (denote tb) p w)) n s t = some s' → topRun tb p w n₀ ann n s.abs t = some s'.abs
  | 0, s, s', t, h => by cases h
  | n + 1, s, s', t, h => by
    unfold topRun
    change Bool.rec (motive := fun _ => Option SharedT) (Option.rec (motive := fun _ => Option SharedT) none (fun r => ZnD through (Zh4 (stepOk n₀ ann) (stepT (denote tb) p w)) n r.1 r.2) (Zh4 (stepOk n₀ ann) (stepT (denote tb) p w) s t)) (some s) (through t) = some s' at h
    cases ht : through t with
    | true =>
      rw [ht] at h
      have h' : some s = some s' := h
      cases h'
      rfl
    | false =>
      rw [ht] at h
      cases hk : stepOk n₀ ann t with
      | false =>
        have e : Zh4 (stepOk n₀ ann) (stepT (denote tb) p w) s t = none := by unfold Zh4; rw [hk]
        rw [e] at h
        cases h
      | true =>
        have e : Zh4 (stepOk n₀ ann) (stepT (denote tb) p w) s t = stepT (denote tb) p w s t := by unfold Zh4; rw [hk]
        rw [e] at h
        cases hs : stepT (denote tb) p w s t with
        | none => rw [hs] at h; cases h
        | some r =>
          obtain ⟨s2, t2⟩ := r
          rw [hs] at h
          have := stepT_spec hs
          rw [this]
          exact ZiH (n := n) h
end
noncomputable def T0 (w : World) (os : OsState) : SharedT :=
  ⟨[boot_o_0, boot_o_1, boot_o_2, boot_o_3, boot_o_4, boot_o_5, boot_o_6, boot_o_7, boot_o_8, boot_o_9, boot_o_10].foldl (fun (r : Nat × BT) o => (r.1 + 1, r.2.ins r.1 (o w.params))) (0, .nil) |>.2, 11, (boot_heap w.params).life, #[], boot_drawn, boot_toks, os⟩
theorem ZlM (w : World) (os : OsState) : (T0 w os).abs = ⟨boot_heap w.params, #[], boot_drawn, boot_toks, os⟩ := by kernel_rfl
theorem ZjM : Str.ofString "__annotations__" = ⟨#[95, 95, 97, 110, 110, 111, 116, 97, 116, 105, 111, 110, 115, 95, 95]⟩ := by decide +kernel
theorem ZgN {p q : Program} {loose : List Str} {Xt : Shared → Bool} {α : Type} {Yf : Shared → α} {Ya : World → α} {N M : Nat} (e : opening p = plainProg p.main.scope.names) (hN : Nat.ble 600 N = true) (f : ∀ s, fenceModules? p s = some s) (le : Nat.ble M N = true)
    (Zoc : ∀ (w : World) (os : OsState), (ZnD through (Zh4 (stepOk 11 (some (.ref 6))) (stepT (denote treeTable) p w)) M (T0 w os) (topStub p)).map (fun s => ((staticsOk (importedModules p.main.body) (boot_heap w.params) s.abs.heap && namesBound p s.abs.heap && gensDone s.abs && laidKept (boot_heap w.params) s.abs.heap),
        openSeen q loose (importedModules p.main.body) Xt true s.abs, Yf s.abs)) = some (true, openGood q loose, Ya w)) : LeftO p q loose Xt Yf Ya N := fun w => by
  obtain ⟨⟨h, gs, d, k, os⟩, e1, e2⟩ := Option.map_eq_some_iff.mp (boot_open e hN f w)
  obtain ⟨rfl, rfl, rfl, rfl⟩ : h = boot_heap w.params ∧ gs = Array.mk [] ∧ d = boot_drawn ∧ k = boot_toks := by simpa using e2
  obtain ⟨s', r1, r2⟩ := Option.map_eq_some_iff.mp (Zoc w os)
  obtain ⟨l1, l2, l3⟩ : _ ∧ _ ∧ _ := by simpa only [Prod.mk.injEq] using r2
  have r := ZiH r1
  rw [ZlM] at r
  have r := topRun_mono (N - M) _ _ _ _ r
  rw [show M + (N - M) = N by have := Nat.le_of_ble_eq_true le; omega] at r
  have z1 : ((boot_heap w.params).isNs mainGlobals && (Array.mk [] : Array GenState).size == 0) = true := by kernel_rfl
  have z2 : (boot_heap w.params).objs.size = 11 := rfl
  have z3 : (boot_heap w.params).nsMap mainGlobals "__annotations__" = some (.ref 6) := by
    rw [ZjM]
    kernel_rfl
  have t : topFrom treeTable p w N ⟨boot_heap w.params, Array.mk [], boot_drawn, boot_toks, os⟩ = some s'.abs := by
    unfold topFrom
    dsimp only
    rw [z1, z2, z3, r]
    show (match staticsOk (importedModules p.main.body) (boot_heap w.params) s'.abs.heap && namesBound p s'.abs.heap && gensDone s'.abs && laidKept (boot_heap w.params) s'.abs.heap with | true => _ | false => _) = _
    rw [l1]
  unfold openEnds
  rw [e1]
  show (topFrom treeTable p w N _).map _ = _
  rw [t]
  exact congrArg some (Prod.ext l2 l3)
end HD
namespace HD
open PySem PySem.W
theorem Zod : @stepOk = @PySem.W.Fast.tw6613529449190102663 := PySem.W.Fast.te6613529449190102663
theorem ZjN : @stepT = @PySem.W.Fast.tw10156331382660048174 := PySem.W.Fast.te10156331382660048174
theorem ZlN : @denote = @PySem.W.Fast.tw11892475500146522536 := PySem.W.Fast.te11892475500146522536
theorem ZlO : @treeTable = @PySem.W.Fast.tw14364793385576792824 := PySem.W.Fast.te14364793385576792824
theorem ZjO : @openSeen = @PySem.W.Fast.tw4187177175401517315 := PySem.W.Fast.te4187177175401517315
theorem ZlP : @importedModules = @PySem.W.Fast.tw5923862056798008813 := PySem.W.Fast.te5923862056798008813
end HD
end
section
set_option Elab.async false
set_option linter.all false
set_option maxRecDepth 100000
set_option maxHeartbeats 4000000
namespace DL
open PySem PySem.Spec PyProof.Rows L2
noncomputable def wO {β : Type} (o : Out β) (Q : β → Sto → Prop) (E : Str → Sto → Prop) : Prop := match o with
  | .ok a M => Q a M
  | .exc c M => E c M
  | .bad => False
noncomputable def wS (f : Fl) (N : Ro → Sto → Prop) (R : D → Sto → Prop) (B C : Ro → Sto → Prop) (E : Str → Sto → Prop) : Prop := match f with
  | .nx ρ M => N ρ M
  | .ret d M => R d M
  | .brk ρ M => B ρ M
  | .cnt ρ M => C ρ M
  | .exc c M => E c M
  | .bad => False
noncomputable def Br (k : Bool) (A B : Prop) : Prop := (k = true → A) ∧ (k = false → B)
noncomputable def wG {β : Type} (o : Option β) (N : β → Prop) : Prop := match o with | some ρ => N ρ | none => False
noncomputable def wV (o : Option (Option D)) (Q : D → Prop) : Prop := match o with | some (some d) => Q d | _ => False
noncomputable def wI (x : D) (Q : Int → Prop) : Prop := match x with | .int i => Q i | _ => False
noncomputable def wB (x : D) (Q : Bool → Prop) : Prop := match x with | .bl i => Q i | _ => False
noncomputable def wR (x : D) (Q : Nat → Prop) : Prop := match x with | .ref i => Q i | _ => False
noncomputable def w1 (x : List D) (Q : D → Prop) : Prop := match x with | [v] => Q v | _ => False
noncomputable def w2 (x : List D) (Q : D → D → Prop) : Prop := match x with | [v, w] => Q v w | _ => False
noncomputable def wL (o : Option SO) (Q : List D → Prop) : Prop := match o with | some (.lst xs) => Q xs | none => False
section
variable {β : Type} {o o' : Option (Option D)} {x x' : D} {Q : D → Prop} {QI : Int → Prop} {QB : Bool → Prop} {QR : Nat → Prop} {QL : List D → Prop} {l l' : Option SO} {d : D} {i : Int} {k : Bool} {n : Nat} {xs : List D} {g g' : Option β} {QG : β → Prop} {y : β}
theorem Zq9 : w1 [d] Q = Q d := rfl
theorem Zra {Q2 : D → D → Prop} : w2 [d, x] Q2 = Q2 d x := rfl
theorem Zrb : wV (some (some d)) Q = Q d := rfl
theorem Zrc : wI (.int i) QI = QI i := rfl
theorem Zrd : wB (.bl k) QB = QB k := rfl
theorem Zre : wR (.ref n) QR = QR n := rfl
theorem Zrf : wL (some (.lst xs)) QL = QL xs := rfl
theorem Zrg : wG (some y) QG = QG y := rfl
end
section
variable {β : Type} {Q : β → Sto → Prop} {E : Str → Sto → Prop} {N B C : Ro → Sto → Prop} {R : D → Sto → Prop} {ρ : Ro} {M : Sto} {A A' : Prop}
theorem Zo {d : β} : wO (.ok d M) Q E = Q d M := rfl
theorem ZlQ {c : Str} : wO (.exc c M : Out β) Q E = E c M := rfl
theorem ZnE : Br true A A' = A := by simp [Br]
theorem ZpV : Br false A A' = A' := by simp [Br]
theorem brD {p : Prop} [Decidable p] (h1 : p → A) (h2 : ¬ p → A') : Br (decide p) A A' := ⟨fun h => h1 (of_decide_eq_true h), fun h => h2 (of_decide_eq_false h)⟩
theorem Zc8 {o : Out β} {Q' : β → Sto → Prop} {E' : Str → Sto → Prop} (h : wO o Q E) (hq : ∀ d M, Q d M → Q' d M) (he : ∀ c M, E c M → E' c M) : wO o Q' E' := by
  cases o with
  | ok d M => exact hq d M h
  | exc c M => exact he c M h
  | bad => exact h
theorem ZgO {o : Out β} (h : wO o Q (fun _ _ => False)) : ∃ d M', o = .ok d M' ∧ Q d M' := by
  cases o with
  | ok d M => exact ⟨d, M, rfl, h⟩
  | exc c M => exact h.elim
  | bad => exact h.elim
theorem Zp {γ : Type} {o : Out γ} {f : γ → Sto → Out β} : wO (o.bind f) Q E = wO o (fun x M1 => wO (f x M1) Q E) E := by cases o <;> rfl
end
section
variable {Q : D → Sto → Prop} {E : Str → Sto → Prop} {N B C : Ro → Sto → Prop} {R : D → Sto → Prop} {ρ : Ro} {M : Sto} {e f g : Ev} {fs : Av}
theorem Zoe {op : Bo} : wO (e2 op f g ρ M) Q E = wO (f ρ M) (fun x M1 => wO (g ρ M1) (fun y M2 => wO (op x y M2) Q E) E) E := by
  unfold e2
  rw [Zp]
  congr 1
  funext x M1
  rw [Zp]
theorem Zrh {i : Nat} : wO (Zd i ρ M) Q E = wV ρ[i]? (fun d => Q d M) := by
  unfold Zd
  cases ρ[i]? with
  | none => rfl
  | some o => cases o <;> rfl
theorem ZjP {F : List D → Sto → Out D} : wO (Zh F fs ρ M) Q E = wO (fs ρ M) (fun ds M1 => wO (F ds M1) Q E) E := Zp
theorem ZjQ {Q : List D → Sto → Prop} : wO (Za f fs ρ M) Q E = wO (f ρ M) (fun x M1 => wO (fs ρ M1) (fun xs M2 => Q (x :: xs) M2) E) E := by
  unfold Za
  rw [Zp]
  congr 1
  funext x M1
  rw [Zp]
  congr 1
theorem ZlR : wO (Zav fs ρ M) Q E = wO (fs ρ M) (fun xs M1 => xs.length ≤ 1000 ∧ Q (.tup xs) M1) E := by
  unfold Zav
  rw [Zp]
  congr 1
  funext x M1
  by_cases h : x.length ≤ 1000
  · rw [if_pos h]; simp [h, wO]
  · rw [if_neg h]; simp [h, wO]
theorem ZlS : wO (Za5 fs ρ M) Q E = wO (fs ρ M) (fun xs M1 => xs.length ≤ 1000 ∧ Q (.ref M1.length) (M1 ++ [.lst xs])) E := by
  unfold Za5
  rw [Zp]
  congr 1
  funext x M1
  by_cases h : x.length ≤ 1000
  · rw [if_pos h]; simp [h, wO]
  · rw [if_neg h]; simp [h, wO]
variable {t u : Tv}
theorem ZlT {Q : Bool → Sto → Prop} : wO (ZbV t ρ M) Q E = wO (t ρ M) (fun k M1 => Q (!k) M1) E := by
  unfold ZbV
  rw [Zp]
  congr 1
variable {a b : Sv}
theorem ZlU : wS (Zs a b ρ M) N R B C E = wS (a ρ M) (fun ρ1 M1 => wS (b ρ1 M1) N R B C E) R B C E := by
  unfold Zs
  cases a ρ M <;> rfl
theorem Z6 {β : Type} {o : Out β} {k : β → Sto → Fl} : wS (Zar o k) N R B C E = wO o (fun x M1 => wS (k x M1) N R B C E) E := by cases o <;> rfl
theorem ZlV : wS (ZM f ρ M) N R B C E = wO (f ρ M) R E := Z6
theorem ZjR : wS (Zby f ρ M) N R B C E = wO (f ρ M) (fun _ M1 => N ρ M1) E := Z6
theorem ZlW {i : Nat} : wS (ZI (gNm i) f ρ M) N R B C E = wO (f ρ M) (fun d M1 => N (ρ.set i (some d)) M1) E := Z6
theorem ZjS {gs : Tgs} : wS (ZI (gTp gs) f ρ M) N R B C E = wO (f ρ M) (fun d M1 => wG (gTp gs d ρ) (fun r => N r M1)) E := by
  unfold ZI
  rw [Z6]
  congr 1
  funext d M1
  cases gTp gs d ρ <;> rfl
theorem ZlX {i j : Nat} : wS (Zc0 i j fs ρ M) N R B C E = wO (fs ρ M) (fun ds M1 => w2 ds fun v w => N ((ρ.set i (some v)).set j (some w)) M1) E := by
  unfold Zc0
  rw [Z6]
  congr 1
  funext ds M1
  rcases ds with _ | ⟨v, _ | ⟨w, _ | ⟨z, r⟩⟩⟩ <;> rfl
theorem ZlY {fo fi : Ev} : wS (ZhP fo fi f ρ M) N R B C E = wO (f ρ M) (fun d M1 => wO (fo ρ M1) (fun o M2 => wO (fi ρ M2) (fun i M3 => wR o fun n => wI i fun k => wL M3[n]? fun xs => wG (ixN xs.length k) fun j => N ρ (M3.set n (.lst (xs.set j d)))) E) E) E := by
  unfold ZhP
  rw [Z6]
  congr 1
  funext d M1
  rw [Z6]
  congr 1
  funext o M2
  rw [Z6]
  congr 1
  funext i M3
  cases o <;> cases i <;> try rfl
  rename_i n k
  cases e : M3[n]? with
  | none => simp only [e, wR, wI, wL, wS]
  | some s =>
    cases s with
    | lst xs =>
      cases e2 : ixN xs.length k <;> simp only [e, e2, wR, wI, wL, wG, wS]
theorem Zh5 {c : Str} : wS (Za3 c fs ρ M) N R B C E = wO (fs ρ M) (fun ds M1 => ds.length ≤ 1000 ∧ E c M1) E := by
  unfold Za3
  rw [Z6]
  congr 1
  funext ds M1
  by_cases h : ds.length ≤ 1000
  · rw [if_pos h]; simp [h, wS]
  · rw [if_neg h]; simp [h, wS]
theorem wF {n k : Nat} {ds : List D} (hl : ds.length = n) : wO (fnF a n k ds M) Q E = wS (a (ds.map some ++ List.replicate k none) M) (fun _ M1 => Q .non M1) Q (fun _ _ => False) (fun _ _ => False) E := by
  unfold fnF
  rw [if_pos hl]
  cases a (ds.map some ++ List.replicate k none) M <;> rfl
theorem ZgP {o : Fl} {N' B' C' : Ro → Sto → Prop} {R' : D → Sto → Prop} {E' : Str → Sto → Prop} (h : wS o N R B C E) (hn : ∀ ρ M, N ρ M → N' ρ M) (hr : ∀ d M, R d M → R' d M) (hb : ∀ ρ M, B ρ M → B' ρ M) (hc : ∀ ρ M, C ρ M → C' ρ M) (he : ∀ c M, E c M → E' c M) : wS o N' R' B' C' E' := by
  cases o with
  | nx ρ M => exact hn _ _ h
  | ret ρ M => exact hr _ _ h
  | brk ρ M => exact hb _ _ h
  | cnt ρ M => exact hc _ _ h
  | exc ρ M => exact he _ _ h
  | bad => exact h
variable {tg : Tg} {bd : Sv} {fi : Ro → Sto → Out Src}
theorem ZgQ (I : Nat → Ro → Sto → Prop) : ∀ (xs : List D) (k : Nat) (ρ : Ro) (M : Sto), I k ρ M → (∀ i ρ M (h : i < xs.length), I (k + i) ρ M → wG (tg xs[i] ρ) fun r => wS (bd r M) (I (k + i + 1)) R N (I (k + i + 1)) E) → (∀ ρ M, I (k + xs.length) ρ M → N ρ M) → wS (Zbt tg bd xs ρ M) N R B C E
  | [], k, ρ, M, h, _, hn => hn ρ M h
  | x :: xs, k, ρ, M, h, st, hn => by
    have s := st 0 ρ M (by simp) h
    unfold Zbt
    simp only [List.getElem_cons_zero, Nat.add_zero] at s
    cases e : tg x ρ with
    | none => rw [e] at s; exact s.elim
    | some ρ1 =>
      rw [e] at s
      simp only [wG] at s
      have rc : ∀ ρ2 M2, I (k + 1) ρ2 M2 → wS (Zbt tg bd xs ρ2 M2) N R B C E := fun ρ2 M2 h2 => ZgQ I xs (k + 1) ρ2 M2 h2 (fun i ρ M hi hI => by
        have z := st (i + 1) ρ M (by simp; omega) (by rw [show k + (i + 1) = k + 1 + i by omega]; exact hI)
        simp only [List.getElem_cons_succ] at z
        rw [show k + (i + 1) + 1 = k + 1 + i + 1 by omega] at z
        exact z) (fun ρ M hI => hn ρ M (by rw [show k + (x :: xs).length = k + 1 + xs.length by simp; omega]; exact hI))
      cases eg : bd ρ1 M <;> rw [eg] at s <;> simp only [eg]
      · exact rc _ _ s
      · exact s
      · exact s
      · exact rc _ _ s
      · exact s
      · exact s
theorem ZjT : wS (Zba tg fs bd ρ M) N R B C E = wO (fs ρ M) (fun ds M1 => w1 ds fun d => wI d fun j => (-(2 ^ 62) ≤ j ∧ j < 2 ^ 62) ∧ wS (Zbt tg bd (Zbi 0 j.toNat) ρ M1) N R B C E) E := by
  unfold Zba
  rw [Z6]
  congr 1
  funext ds M1
  rcases ds with _ | ⟨v, _ | ⟨w, r⟩⟩
  · rfl
  · cases v <;> try rfl
    rename_i j
    by_cases h : -(2 ^ 62) ≤ j ∧ j < 2 ^ 62
    · simp only [w1, wI, eq_true h, true_and, if_true]
    · simp only [w1, wI, eq_false h, false_and, if_false]
      rfl
  · cases v <;> rfl
theorem ZdR (I : Nat → Ro → Sto → Prop) {n : Nat} {lo : Int} (h0 : I 0 ρ M) (st : ∀ i ρ M, i < n → I i ρ M → wG (tg (.int (lo + i)) ρ) fun r => wS (bd r M) (I (i + 1)) R N (I (i + 1)) E) (hn : ∀ ρ M, I n ρ M → N ρ M) : wS (Zbt tg bd (Zbi lo n) ρ M) N R B C E := by
  have hl : (Zbi lo n).length = n := by simp [Zbi]
  refine ZgQ I _ 0 ρ M h0 (fun i ρ M h hI => ?_) (fun ρ M hI => hn ρ M (by rw [hl, Nat.zero_add] at hI; exact hI))
  have : (Zbi lo n)[i] = .int (lo + i) := by simp [Zbi]
  rw [this]
  rw [Nat.zero_add] at *
  exact st i ρ M (by rw [hl] at h; exact h) hI
theorem ZlZ : wS (ZkD tg f bd ρ M) N R B C E = wO (f ρ M) (fun d M1 => wS (ZiD tg bd d ρ M1) N R B C E) E := Z6
theorem ZgR (I : Nat → Ro → Sto → Prop) {n : Nat} {xs : List D} : ∀ (f i : Nat) (ρ : Ro) (M : Sto), i + f = xs.length → I i ρ M → (∀ i ρ M, I i ρ M → M[n]? = some (.lst xs)) → (∀ i ρ M (h : i < xs.length), I i ρ M → wG (tg xs[i] ρ) fun r => wS (bd r M) (I (i + 1)) R N (I (i + 1)) E) → (∀ ρ M, I xs.length ρ M → N ρ M) → wS (Zgp tg bd n f i ρ M) N R B C E
  | f, i, ρ, M, e, h, hm, st, hn => by
    have hx := hm _ _ _ h
    unfold Zgp
    rw [hx]
    cases f with
    | zero =>
      have : xs[i]? = none := List.getElem?_eq_none (by omega)
      simp only [this]
      exact hn ρ M (by rw [show xs.length = i by omega]; exact h)
    | succ f =>
      have hi : i < xs.length := by omega
      have : xs[i]? = some xs[i] := List.getElem?_eq_getElem hi
      simp only [this]
      have s := st i ρ M hi h
      cases e : tg xs[i] ρ with
      | none => rw [e] at s; exact s.elim
      | some ρ1 =>
        rw [e] at s
        simp only [wG] at s
        have rc : ∀ ρ2 M2, I (i + 1) ρ2 M2 → wS (Zgp tg bd n f (i + 1) ρ2 M2) N R B C E := fun ρ2 M2 h2 => ZgR I f (i + 1) ρ2 M2 (by omega) h2 hm st hn
        cases eg : bd ρ1 M <;> rw [eg] at s <;> simp only [eg]
        · exact rc _ _ s
        · exact s
        · exact s
        · exact rc _ _ s
        · exact s
        · exact s
theorem ZgS (I : Nat → Ro → Sto → Prop) {n : Nat} {xs : List D} (hM : M[n]? = some (.lst xs)) (h0 : I 0 ρ M) (hm : ∀ i ρ M, I i ρ M → M[n]? = some (.lst xs)) (st : ∀ i ρ M (h : i < xs.length), I i ρ M → wG (tg xs[i] ρ) fun r => wS (bd r M) (I (i + 1)) R N (I (i + 1)) E) (hn : ∀ ρ M, I xs.length ρ M → N ρ M) : wS (ZiD tg bd (.ref n) ρ M) N R B C E := by
  show wS (match M[n]? with | some (.lst xs) => Zgp tg bd n xs.length 0 ρ M | none => .bad) N R B C E
  rw [hM]
  exact ZgR I xs.length 0 ρ M (by omega) h0 hm st hn
theorem ZjU : wS (Zc5 tg fi bd ρ M) N R B C E = wO (fi ρ M) (fun src M1 => wS (Zft tg bd src (cnt src M1) 0 ρ M1) N R B C E) E := Z6
theorem ZiI (I : Nat → Ro → Sto → Prop) {src : Src} {xs : List D} : ∀ (f i : Nat) (ρ : Ro) (M : Sto), i ≤ xs.length → xs.length ≤ i + f → I i ρ M → (∀ i ρ M, i ≤ xs.length → I i ρ M → nxt src i M = some xs[i]?) → (∀ i ρ M (h : i < xs.length), I i ρ M → wG (tg xs[i] ρ) fun r => wS (bd r M) (I (i + 1)) R N (I (i + 1)) E) → (∀ ρ M, I xs.length ρ M → N ρ M) → wS (Zft tg bd src f i ρ M) N R B C E
  | f, i, ρ, M, le, e, h, hm, st, hn => by
    have hx := hm _ _ _ le h
    unfold Zft
    rw [hx]
    by_cases hi : i < xs.length
    · have : xs[i]? = some xs[i] := List.getElem?_eq_getElem hi
      simp only [this]
      cases f with
      | zero => omega
      | succ f =>
        have s := st i ρ M hi h
        simp only []
        cases e : tg xs[i] ρ with
        | none => rw [e] at s; exact s.elim
        | some ρ1 =>
          rw [e] at s
          simp only [wG] at s
          have rc : ∀ ρ2 M2, I (i + 1) ρ2 M2 → wS (Zft tg bd src f (i + 1) ρ2 M2) N R B C E := fun ρ2 M2 h2 => ZiI I f (i + 1) ρ2 M2 (by omega) (by omega) h2 hm st hn
          cases eg : bd ρ1 M <;> rw [eg] at s <;> simp only [eg]
          · exact rc _ _ s
          · exact s
          · exact s
          · exact rc _ _ s
          · exact s
          · exact s
    · have : xs[i]? = none := List.getElem?_eq_none (by omega)
      simp only [this]
      exact hn ρ M (by rw [show xs.length = i by omega]; exact h)
theorem Zh6 {c : Tv} (I : Nat → Ro → Sto → Prop) (st : ∀ n ρ M, I n ρ M → wO (c ρ M) (fun k M1 => Br k (wS (bd ρ M1) (fun ρ2 M2 => ∃ m, m < n ∧ I m ρ2 M2) R N (fun ρ2 M2 => ∃ m, m < n ∧ I m ρ2 M2) E) (N ρ M1)) E) : ∀ (n : Nat) (ρ : Ro) (M : Sto), I n ρ M → wS (sWh c bd ρ M) N R B C E := by
  intro n
  induction n using Nat.strongRecOn with
  | ind n ih =>
    intro ρ M h
    have s := st n ρ M h
    cases ec : c ρ M with
    | bad => rw [ec] at s; exact s.elim
    | exc x M1 => rw [ec] at s; rw [Zb3 (n := 1) (o := .exc x M1) (by simp only [whN, ec])]; exact s
    | ok k M1 =>
      rw [ec] at s
      cases k with
      | false =>
        rw [Zo, ZpV] at s
        rw [ZdM ec]
        exact s
      | true =>
        rw [Zo, ZnE] at s
        cases eg : bd ρ M1 with
        | nx ρ2 M2 =>
          rw [eg] at s
          obtain ⟨m, hm, hI⟩ := s
          have r := ih m hm ρ2 M2 hI
          rw [ZeY ec eg (by intro z; rw [z] at r; exact r)]
          exact r
        | cnt ρ2 M2 =>
          rw [eg] at s
          obtain ⟨m, hm, hI⟩ := s
          have r := ih m hm ρ2 M2 hI
          have nb : sWh c bd ρ2 M2 ≠ .bad := by intro z; rw [z] at r; exact r
          obtain ⟨j, ej⟩ := Zgo nb
          rw [Zb3 (n := j + 1) (o := sWh c bd ρ2 M2) (by simp only [whN, ec, eg]; exact ej)]
          exact r
        | brk ρ2 M2 => rw [eg] at s; rw [Zb3 (n := 1) (o := .nx ρ2 M2) (by simp only [whN, ec, eg])]; exact s
        | ret d M2 => rw [eg] at s; rw [Zb3 (n := 1) (o := .ret d M2) (by simp only [whN, ec, eg])]; exact s
        | exc d M2 => rw [eg] at s; rw [Zb3 (n := 1) (o := .exc d M2) (by simp only [whN, ec, eg])]; exact s
        | bad => rw [eg] at s; exact s.elim
theorem ZjV {fi : Ro → Sto → Out Src} {k : Nat} {fr : List Nat} {c : Tv} : wO (ZT fi k fr tg c f ρ M) Q E = wO (fi ρ M) (fun src M1 => wO (ZbH src tg c f M1.length (cnt src M1) 0 (roB k fr ρ) (M1 ++ [.lst []])) (fun _ M2 => Q (.ref M1.length) M2) (fun _ _ => False)) E := by
  unfold ZT
  rw [Zp]
  congr 1
  funext src M1
  cases ZbH src tg c f M1.length (cnt src M1) 0 (roB k fr ρ) (M1 ++ [.lst []]) <;> rfl
theorem ZgT (I : Nat → Ro → Sto → Prop) {src : Src} {xs : List D} {c : Tv} {m : Nat} {Q : Sto → Prop} : ∀ (fu i : Nat) (ρ : Ro) (M : Sto), i ≤ xs.length → xs.length ≤ i + fu → I i ρ M → (∀ i ρ M, i ≤ xs.length → I i ρ M → nxt src i M = some xs[i]?) →
    (∀ i ρ M (h : i < xs.length), I i ρ M → wG (tg xs[i] ρ) fun r => wO (c r M) (fun k M1 => Br k (wO (f r M1) (fun y M2 => wL M2[m]? fun ys => ys.length < 10000000 ∧ I (i + 1) r (M2.set m (.lst (ys ++ [y])))) (fun _ _ => False)) (I (i + 1) r M1)) (fun _ _ => False)) →
    (∀ ρ M, I xs.length ρ M → Q M) → wO (ZbH src tg c f m fu i ρ M) (fun _ M2 => Q M2) (fun _ _ => False)
  | fu, i, ρ, M, le, e, h, hm, st, hn => by
    have hx := hm _ _ _ le h
    unfold ZbH
    rw [hx]
    by_cases hi : i < xs.length
    · have : xs[i]? = some xs[i] := List.getElem?_eq_getElem hi
      simp only [this]
      cases fu with
      | zero => omega
      | succ fu =>
        have s := st i ρ M hi h
        simp only []
        cases e : tg xs[i] ρ with
        | none => rw [e] at s; exact s.elim
        | some ρ1 =>
          rw [e] at s
          simp only [wG] at s
          have rc : ∀ ρ2 M2, I (i + 1) ρ2 M2 → wO (ZbH src tg c f m fu (i + 1) ρ2 M2) (fun _ M2 => Q M2) (fun _ _ => False) := fun ρ2 M2 h2 => ZgT I fu (i + 1) ρ2 M2 (by omega) (by omega) h2 hm st hn
          cases ec : c ρ1 M with
          | bad => rw [ec] at s; exact s.elim
          | exc _ _ => rw [ec] at s; exact s.elim
          | ok k M1 =>
            rw [ec] at s
            rw [Zo] at s
            cases k with
            | false =>
              rw [ZpV] at s
              simp only [ec]
              exact rc _ _ s
            | true =>
              rw [ZnE] at s
              simp only [ec]
              cases ef : f ρ1 M1 with
              | bad => rw [ef] at s; exact s.elim
              | exc _ _ => rw [ef] at s; exact s.elim
              | ok y M2 =>
                rw [ef, Zo] at s
                simp only [ef]
                cases ey : M2[m]? with
                | none => rw [ey] at s; exact s.elim
                | some o =>
                  cases o with
                  | lst ys =>
                    rw [ey] at s
                    simp only [wL, ey] at s ⊢
                    rw [if_pos s.1]
                    exact rc _ _ s.2
    · have : xs[i]? = none := List.getElem?_eq_none (by omega)
      simp only [this]
      exact hn ρ M (by rw [show xs.length = i by omega]; exact h)
end
end DL
end
section
set_option Elab.async false
set_option linter.all false
set_option maxRecDepth 100000
set_option maxHeartbeats 4000000
namespace DL
open PySem PySem.Spec PyProof.Rows L2
section
variable {Q : D → Sto → Prop} {E : Str → Sto → Prop} {N B C : Ro → Sto → Prop} {R : D → Sto → Prop} {ρ : Ro} {M : Sto} {f : Ev} {fs : Av} {i j : Int} {n m k : Nat} {x y d : D} {xs ys ds : List D} {lo hi : Ro → Sto → Out (Option Int)}
theorem ZdS (h : -(18446744073709551616) < i ∧ i < 18446744073709551616) : Zv i j := ZgL h.1 h.2
theorem Zc9 (h : -(18446744073709551616) < j ∧ j < 18446744073709551616) : Zv i j := ZgK h.1 h.2
theorem ZdT (h : 0 < j ∧ j < 18446744073709551616) : ZaM j := by
  refine ⟨by omega, ?_⟩
  have : j.natAbs.log2 < 64 := (Nat.log2_lt (by omega)).mpr (by omega)
  omega
theorem Zof : wO (dAdd (.int i) (.int j) M) Q E = Q (.int (i + j)) M := rfl
theorem Zog : wO (dSub (.int i) (.int j) M) Q E = Q (.int (i - j)) M := rfl
theorem ZaK (h : Zv i j) : wO (dMul (.int i) (.int j) M) Q E = Q (.int (i * j)) M := by
  show wO (if Zv i j then _ else _) Q E = _
  rw [if_pos h]; rfl
theorem Zoh (h : -(18446744073709551616) < i ∧ i < 18446744073709551616) : wO (dMul (.int i) (.int j) M) Q E = Q (.int (i * j)) M := ZaK (ZdS h)
theorem Zl0 (h : -(18446744073709551616) < j ∧ j < 18446744073709551616) : wO (dMul (.int i) (.int j) M) Q E = Q (.int (i * j)) M := ZaK (Zc9 h)
theorem Zoi (h : 0 < j ∧ j < 18446744073709551616) : wO (dDiv (.int i) (.int j) M) Q E = Q (.int (i / j)) M := by
  show wO (if ZaM j then _ else _) Q E = _
  rw [if_pos (ZdT h), Int.fdiv_eq_ediv_of_nonneg _ (by omega)]; rfl
theorem Zoj (h : 0 < j) : wO (dMod (.int i) (.int j) M) Q E = Q (.int (i % j)) M := by
  show wO (if j ≠ 0 then _ else _) Q E = _
  rw [if_pos (by omega), Int.fmod_eq_emod_of_nonneg _ (by omega)]; rfl
theorem Zok (h : 0 ≤ j ∧ j ≤ 1000000 ∧ i.natAbs < 18446744073709551616) : wO (dPow (.int i) (.int j) M) Q E = Q (.int (i ^ j.toNat)) M := by
  show wO (if 0 ≤ j ∧ j ≤ 1000000 ∧ i.natAbs < 2 ^ 64 then _ else _) Q E = _
  rw [if_pos ⟨h.1, h.2.1, by omega⟩]; rfl
theorem Zri : wO (dLt (.int i) (.int j) M) Q E = Q (.bl (decide (i < j))) M := rfl
theorem Zrj : wO (dLe (.int i) (.int j) M) Q E = Q (.bl (decide (i ≤ j))) M := rfl
theorem Zrk : wO (dGt (.int i) (.int j) M) Q E = Q (.bl (decide (j < i))) M := rfl
theorem Zrl : wO (dGe (.int i) (.int j) M) Q E = Q (.bl (decide (j ≤ i))) M := rfl
theorem Zol : wO (dAdd (.ref n) (.ref m) M) Q E = wL M[n]? fun xs => wL M[m]? fun ys => xs.length + ys.length ≤ 10000000 ∧ Q (.ref M.length) (M ++ [.lst (xs ++ ys)]) := by
  show wO (match M[n]?, M[m]? with | some (.lst xs), some (.lst ys) => _ | _, _ => _) Q E = _
  cases e1 : M[n]? with
  | none => rfl
  | some o =>
    cases o with
    | lst xs =>
      cases e2 : M[m]? with
      | none => rfl
      | some p =>
        cases p with
        | lst ys =>
          by_cases h : xs.length + ys.length ≤ 10000000
          · simp [wL, h, wO]
          · simp [wL, h, wO]
theorem Zl1 (h : xs.length + ys.length ≤ 100000 ∧ xs ≠ []) : wO (dAdd (.tup xs) (.tup ys) M) Q E = Q (.tup (xs ++ ys)) M := by
  show wO (if xs.length + ys.length ≤ 100000 ∧ xs ≠ [] then _ else _) Q E = _
  rw [if_pos h]; rfl
theorem Zrm : wO (dEq x y M) Q E = wG (eqF 12 M x y) fun b => Q (.bl b) M := by
  show wO (match eqF 12 M x y with | some b => _ | none => _) Q E = _
  cases eqF 12 M x y <;> rfl
theorem Zrn : wO (dNe x y M) Q E = wG (eqF 12 M x y) fun b => Q (.bl (!b)) M := by
  show wO (match eqF 12 M x y with | some b => _ | none => _) Q E = _
  cases eqF 12 M x y <;> rfl
theorem Zro : wO (dIs x y M) Q E = wG (isP x y) fun b => Q (.bl b) M := by
  show wO (match isP x y with | some b => _ | none => _) Q E = _
  cases isP x y <;> rfl
theorem Zom : wO (dIsNot x y M) Q E = wG (isP x y) fun b => Q (.bl (!b)) M := by
  show wO (match isP x y with | some b => _ | none => _) Q E = _
  cases isP x y <;> rfl
theorem ZjW : wO (atD xs i M) Q E = wG (atI xs i) fun d => Q d M := by
  unfold atD
  cases atI xs i <;> rfl
theorem Zon : wO (dIx (.tup xs) (.int i) M) Q E = wG (atI xs i) fun d => Q d M := ZjW
theorem Zoo : wO (dIx (.rol xs) (.int i) M) Q E = wG (atI xs i) fun d => Q d M := ZjW
theorem Zop : wO (dIx (.ref n) (.int i) M) Q E = wL M[n]? fun xs => wG (atI xs i) fun d => Q d M := by
  show wO (match M[n]? with | some (.lst xs) => atD xs i M | _ => .bad) Q E = _
  cases e1 : M[n]? with
  | none => rfl
  | some o => cases o with | lst xs => exact ZjW
theorem Zl2 : wO (bLen [.ref n] M) Q E = wL M[n]? fun xs => Q (.int xs.length) M := by
  show wO (match (match M[n]? with | some (.lst xs) => some xs | _ => none) with | some xs => _ | none => _) Q E = _
  cases e1 : M[n]? with
  | none => rfl
  | some o => cases o with | lst xs => rfl
theorem Zl3 : wO (bLen [.tup xs] M) Q E = Q (.int xs.length) M := rfl
theorem Zl4 : wO (bLen [.rol xs] M) Q E = Q (.int xs.length) M := rfl
theorem Zoq : wO (bAbs [.int i] M) Q E = Q (.int (i.natAbs : Int)) M := by rw [← ZgM]; rfl
theorem Zor : wO (bMax [.int i, .int j] M) Q E = Q (.int (max i j)) M := by
  have : max i j = if j > i then j else i := by split <;> omega
  rw [this]; rfl
theorem Zos : wO (bMin [.int i, .int j] M) Q E = Q (.int (min i j)) M := by
  have : min i j = if j < i then j else i := by split <;> omega
  rw [this]; rfl
theorem Zl5 {k : Bool} : wO (bInt [.bl k] M) Q E = Q (.int (if k then 1 else 0)) M := rfl
theorem Zl6 : wO (bInt [.int i] M) Q E = Q (.int i) M := rfl
theorem ZjX : wO (bList [.ref n] M) Q E = wL M[n]? fun xs => Q (.ref M.length) (M ++ [.lst xs]) := by
  show wO (match (match M[n]? with | some (.lst xs) => some xs | _ => none) with | some xs => _ | none => _) Q E = _
  cases e1 : M[n]? with
  | none => rfl
  | some o => cases o with | lst xs => rfl
theorem ZjY : wO (bList [.tup xs] M) Q E = Q (.ref M.length) (M ++ [.lst xs]) := rfl
theorem Zot : wO (ZpP [.ref n] M) Q E = wL M[n]? fun xs => wG (Zb4 xs) fun bs => Q (.bl (bs.all id)) M := by
  show wO (match M[n]? with | some (.lst xs) => (match Zb4 xs with | some bs => Out.ok (.bl (bs.all id)) M | none => .bad) | none => .bad) Q E = _
  cases e1 : M[n]? with
  | none => rfl
  | some o =>
    cases o with
    | lst xs =>
      show wO (match Zb4 xs with | some bs => Out.ok (.bl (bs.all id)) M | none => .bad) Q E = wG (Zb4 xs) _
      cases Zb4 xs <;> rfl
theorem Zl7 {g : List Int → Option Int} : wO (ZbN g [.ref n] M) Q E = wL M[n]? fun xs => wG (Za6 xs) fun ns => wG (g ns) fun i => Q (.int i) M := by
  show wO (match (match M[n]? with | some (.lst xs) => some xs | _ => none) with | some xs => (match Za6 xs with | some ns => (match g ns with | some i => Out.ok (.int i) M | none => .bad) | none => .bad) | none => .bad) Q E = _
  cases e1 : M[n]? with
  | none => rfl
  | some o =>
    cases o with
    | lst xs =>
      show wO (match Za6 xs with | some ns => (match g ns with | some i => Out.ok (.int i) M | none => .bad) | none => .bad) Q E = wG (Za6 xs) _
      cases Za6 xs with
      | none => rfl
      | some ns =>
        show wO (match g ns with | some i => Out.ok (.int i) M | none => .bad) Q E = wG (g ns) _
        cases g ns <;> rfl
theorem Zrp {g : Me} {fo : Ev} : wO (ZfJ g fo fs ρ M) Q E = wO (fo ρ M) (fun x M1 => ZjE x M1 = true ∧ wO (fs ρ M1) (fun ds M2 => wO (g x ds M2) Q E) E) E := by
  unfold ZfJ
  rw [Zp]
  congr 1
  funext x M1
  by_cases h : ZjE x M1 = true
  · simp only [h, if_true, true_and]; rw [Zp]
  · simp [h, wO]
theorem Zl8 : ZjE (.ref n) M = M[n]?.isSome := rfl
theorem Zou : wO (mApp (.ref n) [d] M) Q E = wL M[n]? fun xs => xs.length < 10000000 ∧ Q .non (M.set n (.lst (xs ++ [d]))) := by
  show wO (match M[n]? with | some (.lst xs) => if xs.length < 10000000 then _ else _ | none => _) Q E = _
  cases e1 : M[n]? with
  | none => rfl
  | some o =>
    cases o with
    | lst xs =>
      by_cases h : xs.length < 10000000
      · simp [wL, h, wO]
      · simp [wL, h, wO]
theorem Zov : wO (ZpS (.ref n) [] M) Q E = wL M[n]? fun xs => Q .non (M.set n (.lst [])) := by
  show wO (match M[n]? with | some (.lst xs) => _ | none => _) Q E = _
  cases e1 : M[n]? with
  | none => rfl
  | some o => cases o with | lst xs => rfl
theorem Zow : wO (ZpT (.ref n) [.ref m] M) Q E = wL M[n]? fun xs => wL M[m]? fun ys => xs.length + ys.length ≤ 10000000 ∧ Q .non (M.set n (.lst (xs ++ ys))) := by
  show wO (match M[n]?, M[m]? with | some (.lst xs), some (.lst ys) => if xs.length + ys.length ≤ 10000000 then _ else _ | _, _ => _) Q E = _
  cases e1 : M[n]? with
  | none => rfl
  | some o =>
    cases o with
    | lst xs =>
      cases e2 : M[m]? with
      | none => rfl
      | some p =>
        cases p with
        | lst ys =>
          by_cases h : xs.length + ys.length ≤ 10000000
          · simp [wL, h, wO]
          · simp [wL, h, wO]
noncomputable def slR (x : D) (l u : Option Int) (M3 : Sto) : Out D := match x with
  | .ref n => (match M3[n]? with | some (.lst xs) => .ok (.ref M3.length) (M3 ++ [.lst (Zdu xs l u)]) | none => .bad)
  | .rol xs => .ok (.ref M3.length) (M3 ++ [.lst (Zdu xs l u)])
  | .tup xs => if HT.sIx xs.length 0 l = 0 ∧ HT.sIx xs.length xs.length u = xs.length then .bad else .ok (.tup (Zdu xs l u)) M3
  | _ => .bad
theorem Zox : wO (eSl f lo hi ρ M) Q E = wO (f ρ M) (fun x M1 => wO (lo ρ M1) (fun l M2 => wO (hi ρ M2) (fun u M3 => wO (slR x l u M3) Q E) E) E) E := by
  unfold eSl
  rw [Zp]
  congr 1
  funext x M1
  rw [Zp]
  congr 1
  funext l M2
  rw [Zp]
  congr 1
theorem Zoy {l u : Option Int} : wO (slR (.ref n) l u M) Q E = wL M[n]? fun xs => Q (.ref M.length) (M ++ [.lst (Zdu xs l u)]) := by
  unfold slR
  cases e1 : M[n]? with
  | none => simp only [e1]; rfl
  | some o => cases o with | lst xs => simp only [e1]; rfl
theorem Zoz {Q : Option Int → Sto → Prop} : wO (oSo f ρ M) Q E = wO (f ρ M) (fun x M1 => wI x fun i => Q (some i) M1) E := by
  unfold oSo
  rw [Zp]
  congr 1
  funext x M1
  cases x <;> rfl
theorem Zl9 (h : 0 ≤ i) : Zdu xs none (some i) = xs.take i.toNat := by
  unfold Zdu
  simp only [HT.sIx]
  rw [if_neg (by omega), List.drop_zero, Nat.sub_zero]
  by_cases c : i.toNat ≤ xs.length
  · rw [Nat.min_eq_left c]
  · rw [Nat.min_eq_right (by omega), List.take_of_length_le (Nat.le_refl _), List.take_of_length_le (by omega)]
theorem Zh7 (h : 0 ≤ i) : Zdu xs (some i) none = xs.drop i.toNat := by
  unfold Zdu
  simp only [HT.sIx]
  rw [if_neg (by omega)]
  by_cases c : i.toNat ≤ xs.length
  · rw [Nat.min_eq_left c, List.take_of_length_le (by simp)]
  · rw [Nat.min_eq_right (by omega), List.drop_eq_nil_of_le (Nat.le_refl _), List.drop_eq_nil_of_le (by omega), List.take_nil]
theorem ZdU {L : Sto} : (M ++ L)[M.length]? = L[0]? := by rw [List.getElem?_append_right (Nat.le_refl _), Nat.sub_self]
theorem Zh8 {L : Sto} {i : Nat} : (M ++ L)[M.length + i]? = L[i]? := by rw [List.getElem?_append_right (by omega)]; congr 1; omega
theorem ZcC {L : Sto} (h : n < M.length) : (M ++ L)[n]? = M[n]? := List.getElem?_append_left h
theorem ZiJ {L : Sto} {o : SO} : (M ++ L).set M.length o = M ++ L.set 0 o := by rw [List.set_append_right _ _ (Nat.le_refl _), Nat.sub_self]
theorem ZoA {L : Sto} {o : SO} {i : Nat} : (M ++ L).set (M.length + i) o = M ++ L.set i o := by rw [List.set_append_right _ _ (by omega)]; congr 2; omega
theorem Ze5 {o : SO} (h : k ≠ n) : (M.set n o)[k]? = M[k]? := List.getElem?_set_ne (Ne.symm h)
theorem ZiK {o : SO} (h : n < M.length) : (M.set n o)[n]? = some o := List.getElem?_set_self h
theorem Zn {o : SO} (h : M[n]? = some o) : n < M.length := (List.getElem?_eq_some_iff.mp h).1
noncomputable abbrev pr (x y : Int) : D := .tup [.int x, .int y]
noncomputable def prs (rs : List (Int × Int)) : List D := rs.map fun p => pr p.1 p.2
noncomputable def nts (ns : List Int) : List D := ns.map D.int
theorem ZB {rs : List (Int × Int)} : (prs rs).length = rs.length := List.length_map _
theorem ZaU {rs : List Int} : (nts rs).length = rs.length := List.length_map _
theorem ZjZ {a b : List (Int × Int)} : prs a ++ prs b = prs (a ++ b) := (List.map_append).symm
theorem Zj0 {a b : List Int} : nts a ++ nts b = nts (a ++ b) := (List.map_append).symm
theorem Zh9 {a : List (Int × Int)} : (prs a).take n = prs (a.take n) := List.map_take.symm
theorem Ze6 {a : List (Int × Int)} : (prs a).drop n = prs (a.drop n) := List.map_drop.symm
theorem Zia {a : List Int} : (nts a).take n = nts (a.take n) := List.map_take.symm
theorem Zib {a : List Int} : (nts a).drop n = nts (a.drop n) := List.map_drop.symm
theorem Zic {a b : Int} {r : List (Int × Int)} : pr a b :: prs r = prs ((a, b) :: r) := rfl
theorem Zj1 {a : List (Int × Int)} {b c : Int} : (prs a).set n (pr b c) = prs (a.set n (b, c)) := by unfold prs; rw [List.map_set]
theorem Zj2 {a : List Int} {b : Int} : (nts a).set n (.int b) = nts (a.set n b) := by unfold nts; rw [List.map_set]
noncomputable def cy (rs : List (Int × Int)) (i : Int) : Int × Int := rs.getD (i % rs.length).toNat (0, 0)
noncomputable def cn (rs : List Int) (i : Int) : Int := rs.getD (i % rs.length).toNat 0
theorem ZgU {i : Int} {n : Nat} (h : -(n : Int) ≤ i ∧ i < n) : ixN n i = some (i % n).toNat := by
  unfold ixN
  by_cases c : 0 ≤ i
  · rw [if_pos c, if_pos h.2, Int.emod_eq_of_lt c h.2]
  · rw [if_neg c, if_pos h.1]
    have : i % n = i + n := by
      rw [← Int.add_emod_right, Int.emod_eq_of_lt (by omega) (by omega)]
    rw [this]
theorem ZcN {rs : List (Int × Int)} (h : -(rs.length : Int) ≤ i ∧ i < rs.length) : atI (prs rs) i = some (pr (cy rs i).1 (cy rs i).2) := by
  unfold atI
  rw [ZB, ZgU h]
  have hp : (i % rs.length).toNat < rs.length := by
    have := Int.emod_lt_of_pos i (show (0 : Int) < rs.length by omega)
    have := Int.emod_nonneg i (show (rs.length : Int) ≠ 0 by omega)
    omega
  simp [prs, cy, List.getElem?_eq_getElem hp]
theorem ZiL {rs : List Int} (h : -(rs.length : Int) ≤ i ∧ i < rs.length) : atI (nts rs) i = some (.int (cn rs i)) := by
  unfold atI
  rw [ZaU, ZgU h]
  have hp : (i % rs.length).toNat < rs.length := by
    have := Int.emod_lt_of_pos i (show (0 : Int) < rs.length by omega)
    have := Int.emod_nonneg i (show (rs.length : Int) ≠ 0 by omega)
    omega
  simp [nts, cn, List.getElem?_eq_getElem hp]
theorem ZcO {rs : List (Int × Int)} : cy rs (i % rs.length) = cy rs i := by unfold cy; rw [Int.emod_emod_of_dvd _ (Int.dvd_refl _)]
theorem Zma {rs : List Int} : cn rs (i % rs.length) = cn rs i := by unfold cn; rw [Int.emod_emod_of_dvd _ (Int.dvd_refl _)]
theorem ZbO {rs : List (Int × Int)} : cy rs (i + rs.length) = cy rs i := by unfold cy; rw [Int.add_emod_right]
theorem ZcP {rs : List (Int × Int)} : cy rs (i - rs.length) = cy rs i := by unfold cy; rw [Int.sub_emod_right]
theorem ZcQ {rs : List (Int × Int)} {k : Nat} (h : k < rs.length) : cy rs k = rs[k] := by
  unfold cy
  rw [Int.emod_eq_of_lt (by omega) (by omega)]
  simp [List.getElem?_eq_getElem h]
theorem ZdV {rs : List Int} {k : Nat} (h : k < rs.length) : cn rs k = rs[k] := by
  unfold cn
  rw [Int.emod_eq_of_lt (by omega) (by omega)]
  simp [List.getElem?_eq_getElem h]
theorem ZoB {a b : Int} : eqF (n + 1) M (.int a) (.int b) = some (decide (a = b)) := rfl
theorem Zrq {a b : Bool} : eqF (n + 1) M (.bl a) (.bl b) = some (a == b) := rfl
theorem ZoC {a b c d : Int} : eqF (n + 2) M (pr a b) (pr c d) = some (decide ((a, b) = (c, d))) := by
  show some ((a == c) && ((b == d) && true)) = _
  congr 1
  rw [Bool.eq_iff_iff]
  simp
theorem Ze7 {rs ss : List (Int × Int)} : eqL (eqF (n + 2) M) (prs rs) (prs ss) = some (decide (rs = ss)) := by
  induction rs generalizing ss with
  | nil => cases ss <;> rfl
  | cons r rs ih =>
    cases ss with
    | nil => rfl
    | cons s ss =>
      show (match eqF (n + 2) M (pr r.1 r.2) (pr s.1 s.2) with | some a => (match eqL _ (prs rs) (prs ss) with | some b => some (a && b) | none => none) | none => none) = _
      rw [ZoC, ih]
      simp only []
      congr 1
      rw [Bool.eq_iff_iff]
      obtain ⟨r1, r2⟩ := r
      obtain ⟨s1, s2⟩ := s
      simp
theorem ZgV {xs ys : List D} (h1 : M[n]? = some (.lst xs)) (h2 : M[m]? = some (.lst ys)) : eqF (k + 1) M (.ref n) (.ref m) = if xs.length = ys.length then eqL (eqF k M) xs ys else some false := by
  show (match kd M (.ref n), kd M (.ref m) with | some a, some b => eqK (eqF k M) a b | _, _ => none) = _
  have e1 : kd M (.ref n) = some (.lst xs) := by show (match M[n]? with | some (.lst xs) => some (Kd.lst xs) | _ => none) = _; rw [h1]
  have e2 : kd M (.ref m) = some (.lst ys) := by show (match M[m]? with | some (.lst xs) => some (Kd.lst xs) | _ => none) = _; rw [h2]
  rw [e1, e2]
  rfl
theorem Zmb {rs ss : List (Int × Int)} (h1 : M[n]? = some (.lst (prs rs))) (h2 : M[m]? = some (.lst (prs ss))) : eqF 12 M (.ref n) (.ref m) = some (decide (rs = ss)) := by
  rw [ZgV h1 h2, ZB, ZB]
  by_cases c : rs.length = ss.length
  · rw [if_pos c, Ze7]
  · rw [if_neg c]
    congr 1
    symm
    exact decide_eq_false fun z => c (by rw [z])
theorem Zmc : ZaO M (.int i) = some "int" := rfl
theorem ZoD {b : Bool} : ZaO M (.bl b) = some "bool" := rfl
theorem Zmd : ZaO M (.tup xs) = some "tuple" := rfl
theorem Zme : ZaO M .non = some "NoneType" := rfl
theorem Zmf (h : M[n]? = some (.lst xs)) : ZaO M (.ref n) = some "list" := by
  show (match (match M[n]? with | some (.lst xs) => some (Kd.lst xs) | _ => none) with | some .non => _ | some (.bl _) => _ | some (.int _) => _ | some (.str _) => _ | some (.tup _) => _ | some (.lst _) => _ | none => _) = _
  rw [h]
end
end DL
end
section
set_option Elab.async false
set_option linter.all false
set_option maxRecDepth 100000
set_option maxHeartbeats 4000000
namespace DL
open PySem PySem.Spec PyProof.Rows L2
section
variable {Q : D → Sto → Prop} {E : Str → Sto → Prop} {N B C : Ro → Sto → Prop} {R : D → Sto → Prop} {ρ : Ro} {M : Sto} {f : Ev} {fs : Av} {i j : Int} {n m k : Nat} {x y z d : D} {xs ys ds : List D} {QS : Src → Sto → Prop} {tg : Tg} {bd : Sv} {b : Bool}
theorem Zj3 : wS (Zgq tg fs bd ρ M) N R B C E = wO (fs ρ M) (fun ds M1 => w2 ds fun x y => wI x fun i => wI y fun j => (-(2 ^ 62) ≤ i ∧ i < 2 ^ 62 ∧ -(2 ^ 62) ≤ j ∧ j < 2 ^ 62) ∧ wS (Zbt tg bd (Zbi i (j - i).toNat) ρ M1) N R B C E) E := by
  unfold Zgq
  rw [Z6]
  congr 1
  funext ds M1
  rcases ds with _ | ⟨v, _ | ⟨w, _ | ⟨w', r⟩⟩⟩
  · rfl
  · cases v <;> rfl
  · cases v <;> try rfl
    cases w <;> try rfl
    rename_i i j
    by_cases h : -(2 ^ 62) ≤ i ∧ i < 2 ^ 62 ∧ -(2 ^ 62) ≤ j ∧ j < 2 ^ 62
    · simp only [w2, wI, eq_true h, true_and, if_true]
    · simp only [w2, wI, eq_false h, false_and, if_false]
      rfl
  · cases v <;> cases w <;> rfl
theorem Zrr : wO (iR1 fs ρ M) QS E = wO (fs ρ M) (fun ds M1 => w1 ds fun d => wI d fun j => (-(2 ^ 62) ≤ j ∧ j < 2 ^ 62) ∧ QS (.pur (Zbi 0 j.toNat)) M1) E := by
  unfold iR1
  rw [Zp]
  congr 1
  funext ds M1
  rcases ds with _ | ⟨v, _ | ⟨w, r⟩⟩
  · rfl
  · cases v <;> try rfl
    rename_i j
    by_cases h : -(2 ^ 62) ≤ j ∧ j < 2 ^ 62
    · simp only [w1, wI, eq_true h, true_and, if_true, Zo]
    · simp only [w1, wI, eq_false h, false_and, if_false]
      rfl
  · cases v <;> rfl
theorem Zrs : wO (iR2 fs ρ M) QS E = wO (fs ρ M) (fun ds M1 => w2 ds fun x y => wI x fun i => wI y fun j => (-(2 ^ 62) ≤ i ∧ i < 2 ^ 62 ∧ -(2 ^ 62) ≤ j ∧ j < 2 ^ 62) ∧ QS (.pur (Zbi i (j - i).toNat)) M1) E := by
  unfold iR2
  rw [Zp]
  congr 1
  funext ds M1
  rcases ds with _ | ⟨v, _ | ⟨w, _ | ⟨w', r⟩⟩⟩
  · rfl
  · cases v <;> rfl
  · cases v <;> try rfl
    cases w <;> try rfl
    rename_i i j
    by_cases h : -(2 ^ 62) ≤ i ∧ i < 2 ^ 62 ∧ -(2 ^ 62) ≤ j ∧ j < 2 ^ 62
    · simp only [w2, wI, eq_true h, true_and, if_true, Zo]
    · simp only [w2, wI, eq_false h, false_and, if_false]
      rfl
  · cases v <;> cases w <;> rfl
theorem Zrt : wO (iEn fs ρ M) QS E = wO (fs ρ M) (fun ds M1 => w1 ds fun d => wR d fun n => QS (.enu n) M1) E := by
  unfold iEn
  rw [Zp]
  congr 1
  funext ds M1
  rcases ds with _ | ⟨v, _ | ⟨w, r⟩⟩ <;> try rfl
  · cases v <;> rfl
  · cases v <;> rfl
theorem Zru : wO (iZp fs ρ M) QS E = wO (fs ρ M) (fun ds M1 => w2 ds fun x y => wR x fun n => wR y fun m => QS (.zip n m) M1) E := by
  unfold iZp
  rw [Zp]
  congr 1
  funext ds M1
  rcases ds with _ | ⟨v, _ | ⟨w, _ | ⟨w', r⟩⟩⟩ <;> try rfl
  · cases v <;> rfl
  · cases v <;> cases w <;> rfl
  · cases v <;> cases w <;> rfl
theorem Zrv : wO (iRv fs ρ M) QS E = wO (fs ρ M) (fun ds M1 => w1 ds fun d => wR d fun n => wL M1[n]? fun xs => QS (.rev n xs.length) M1) E := by
  unfold iRv
  rw [Zp]
  congr 1
  funext ds M1
  rcases ds with _ | ⟨v, _ | ⟨w, r⟩⟩ <;> try rfl
  · cases v <;> try rfl
    rename_i n
    cases e : M1[n]? with
    | none => simp only [e]; simp only [w1, wR, e]; rfl
    | some o => cases o with | lst xs => simp only [e, w1, wR]; rfl
  · cases v <;> rfl
noncomputable def Zmg (Q : D → Sto → Prop) (ρ : Ro) (M : Sto) : Prop := Q .non M
theorem wF1 : wO (fnF bd 1 k [x] M) Q E = wS (bd (some x :: List.replicate k none) M) (Zmg Q) Q (fun _ _ => False) (fun _ _ => False) E := wF rfl
theorem wF2 : wO (fnF bd 2 k [x, y] M) Q E = wS (bd (some x :: some y :: List.replicate k none) M) (Zmg Q) Q (fun _ _ => False) (fun _ _ => False) E := wF rfl
theorem wF3 : wO (fnF bd 3 k [x, y, z] M) Q E = wS (bd (some x :: some y :: some z :: List.replicate k none) M) (Zmg Q) Q (fun _ _ => False) (fun _ _ => False) E := wF rfl
theorem wF4 : wO (fnF bd 4 k [x, y, z, d] M) Q E = wS (bd (some x :: some y :: some z :: some d :: List.replicate k none) M) (Zmg Q) Q (fun _ _ => False) (fun _ _ => False) E := wF rfl
theorem Zid {a : List (Int × Int)} {b c : Int} : prs a ++ [pr b c] = prs (a ++ [(b, c)]) := by simp [prs]
theorem Zie {a : List Int} {b : Int} : nts a ++ [D.int b] = nts (a ++ [b]) := by simp [nts]
theorem Zif {b : Int} {r : List Int} : D.int b :: nts r = nts (b :: r) := rfl
theorem ZoE : isP .non .non = some true := rfl
theorem ZoF : isP (.int i) .non = some false := rfl
theorem ZoG : isP (.tup xs) .non = some false := rfl
theorem ZoH : isP (.ref n) .non = some false := rfl
theorem ZgW (h : M[n]? = some (.lst xs)) : cnt (.sto n) M = xs.length := by show (match M[n]? with | some (.lst xs) => xs.length | none => 0) = _; rw [h]
theorem Zj4 (h : M[n]? = some (.lst xs)) : cnt (.enu n) M = xs.length := by show (match M[n]? with | some (.lst xs) => xs.length | none => 0) = _; rw [h]
theorem Zj5 (h : M[n]? = some (.lst xs)) : cnt (.zip n m) M = xs.length := by show (match M[n]? with | some (.lst xs) => xs.length | none => 0) = _; rw [h]
theorem at2 {r : List D} : atI (x :: y :: z :: r) 2 = some z := by
  show (ixN (r.length + 3) 2).bind _ = _
  unfold ixN
  rw [if_pos (by decide), if_pos (by omega)]
  rfl
theorem at3 {r : List D} : atI (x :: y :: z :: d :: r) 3 = some d := by
  show (ixN (r.length + 4) 3).bind _ = _
  unfold ixN
  rw [if_pos (by decide), if_pos (by omega)]
  rfl
theorem Zmh : Zcf "int" "int" = true := rfl
theorem Zmi : Zcf "int" "bool" = false := rfl
theorem Zmj : Zcf "bool" "int" = true := rfl
theorem Zmk : Zcf "bool" "bool" = true := rfl
theorem Zml : Zcf "tuple" "tuple" = true := rfl
theorem Zmm : Zcf "list" "list" = true := rfl
theorem Zmn : Zcf "tuple" "int" = false := rfl
theorem Zmo : Zcf "tuple" "list" = false := rfl
theorem Zmp : Zcf "list" "tuple" = false := rfl
theorem Zmq : Zcf "list" "int" = false := rfl
theorem Zmr : Zcf "NoneType" "tuple" = false := rfl
theorem Zms : Zcf "NoneType" "list" = false := rfl
theorem Zmt (h : M[n]? = some (.lst xs)) : nxt (.enu n) k M = some ((xs[k]?).map fun d => D.tup [.int k, d]) := by
  show (match M[n]? with | some (.lst xs) => (match xs[k]? with | some x => some (some (D.tup [.int k, x])) | none => some none) | none => none) = _
  rw [h]
  simp only []
  cases xs[k]? <;> rfl
theorem ZiM (h : M[n]? = some (.lst xs)) : nxt (.sto n) k M = some xs[k]? := by
  show (match M[n]? with | some (.lst xs) => some xs[k]? | none => none) = _
  rw [h]
section
variable {g : Jv} {bb : Nat}
end
theorem ZiN (I : Nat → Ro → Sto → Prop) (hM : M[n]? = some (.lst xs)) (h0 : I 0 ρ M) (hm : ∀ i ρ M, I i ρ M → M[n]? = some (.lst xs)) (st : ∀ (i : Nat) ρ M (h : i < xs.length), I i ρ M → wG (tg (.tup [.int i, xs[i]]) ρ) fun r => wS (bd r M) (I (i + 1)) R N (I (i + 1)) E) (hn : ∀ ρ M, I xs.length ρ M → N ρ M) : wS (Zft tg bd (.enu n) (cnt (.enu n) M) 0 ρ M) N R B C E := by
  rw [Zj4 hM]
  have hl : (xs.mapIdx fun (k : Nat) d => D.tup [.int k, d]).length = xs.length := by simp
  refine ZiI I (xs := xs.mapIdx fun (k : Nat) d => D.tup [.int k, d]) _ 0 ρ M (by simp) (by simp) h0 (fun i ρ M _ hI => ?_) (fun i ρ M h hI => ?_) (fun ρ M hI => hn ρ M (by rw [hl] at hI; exact hI))
  · rw [Zmt (hm _ _ _ hI), List.getElem?_mapIdx]
  · rw [List.getElem_mapIdx]
    exact st i ρ M (by rw [hl] at h; exact h) hI
theorem Zmu (h : M[n]? = some (.lst xs)) (h' : M[m]? = some (.lst ys)) : nxt (.zip n m) k M = some ((List.zipWith (fun a b => D.tup [a, b]) xs ys)[k]?) := by
  show (match M[n]?, M[m]? with | some (.lst xs), some (.lst ys) => (match xs[k]?, ys[k]? with | some x, some y => some (some (D.tup [x, y])) | _, _ => some none) | _, _ => none) = _
  rw [h, h', List.getElem?_zipWith]
  simp only []
  cases xs[k]? <;> cases ys[k]? <;> rfl
theorem Zj6 {src : Src} (Inv : Ro → Prop) (F : Nat → D) {Q : Sto → Prop} (hl : xs.length < 10000000) (hcnt : xs.length ≤ cnt src M) (h0 : Inv ρ) (hs : ∀ (L : Sto) (i : Nat), i ≤ xs.length → nxt src i (M ++ L) = some xs[i]?)
    (st : ∀ (i : Nat) (h : i < xs.length) (ρ : Ro) (L : Sto), Inv ρ → wG (tg xs[i] ρ) fun r => Inv r ∧ wO (f r (M ++ L)) (fun y M2 => y = F i ∧ M2 = M ++ L) (fun _ _ => False)) (hq : Q (M ++ [.lst ((List.range xs.length).map F)])) :
    wO (ZbH src tg (fun _ M => .ok true M) f M.length (cnt src M) 0 ρ (M ++ [.lst []])) (fun _ M2 => Q M2) (fun _ _ => False) := by
  refine ZgT (fun i ρ M' => Inv ρ ∧ M' = M ++ [.lst ((List.range i).map F)]) (xs := xs) _ 0 ρ _ (by simp) (by omega) ⟨h0, rfl⟩ (fun i ρ M' hi hI => by rw [hI.2]; exact hs _ i hi) (fun i ρ M' h hI => ?_) (fun ρ M' hI => by rw [hI.2]; exact hq)
  obtain ⟨hI, rfl⟩ := hI
  have s := st i h ρ [.lst ((List.range i).map F)] hI
  cases e : tg xs[i] ρ with
  | none => rw [e] at s; exact s.elim
  | some r =>
    rw [e] at s
    obtain ⟨hr, s⟩ := s
    show Br true _ _
    rw [ZnE]
    refine Zc8 s (fun y M2 ⟨h1, h2⟩ => ?_) (fun _ _ z => z)
    subst h1 h2
    rw [ZdU]
    refine ⟨by simp; omega, hr, ?_⟩
    rw [ZiJ, List.range_succ, List.map_append]
    rfl
theorem Zer {lo : Int} : (Zbi lo n).length = n := by simp [Zbi]
theorem Zj7 {lo : Int} (h : k < (Zbi lo n).length) : (Zbi lo n)[k] = .int (lo + k) := by simp [Zbi]
theorem Zda {F : Nat → Int} : (List.range n).map (fun i => D.int (F i)) = nts ((List.range n).map F) := by simp [nts]
end
end DL
end
section
set_option Elab.async false
set_option linter.all false
set_option maxRecDepth 100000
set_option maxHeartbeats 4000000
namespace DL
open PySem PySem.Spec PyProof.Rows L2
section
variable {Q : D → Sto → Prop} {E : Str → Sto → Prop} {N B C : Ro → Sto → Prop} {R : D → Sto → Prop} {ρ : Ro} {M : Sto} {f g : Ev} {fs : Av} {i j : Int} {n m k : Nat} {x y z d : D} {xs ys ds : List D} {QL : List D → Sto → Prop} {QB : Bool → Sto → Prop} {QS : Src → Sto → Prop} {tg : Tg} {a bd : Sv} {b : Bool} {t u : Tv}
noncomputable def kU {β γ : Type} (u : β → Sto → Out γ) (Q : γ → Sto → Prop) (E : Str → Sto → Prop) (x : β) (M : Sto) : Prop := wO (u x M) Q E
noncomputable def kQ {β γ : Type} (Q : γ → Sto → Prop) (c : β → γ) (M : Sto) (x : β) : Prop := Q (c x) M
noncomputable def kB2 (op : Bo) (x : D) (Q : D → Sto → Prop) (E : Str → Sto → Prop) (y : D) (M : Sto) : Prop := wO (op x y M) Q E
noncomputable def kB1 (op : Bo) (g : Ev) (ρ : Ro) (Q : D → Sto → Prop) (E : Str → Sto → Prop) (x : D) (M : Sto) : Prop := wO (g ρ M) (kB2 op x Q E) E
theorem Zrw {op : Bo} : wO (e2 op f g ρ M) Q E = wO (f ρ M) (kB1 op g ρ Q E) E := Zoe
theorem y_c  : wO (eC d ρ M) Q E = Q d M := rfl
theorem y_v  : wO (Zd k ρ M) Q E = wV ρ[k]? (kQ Q id M) := Zrh
theorem Zmv {F : List D → Sto → Out D} : wO (Zh F fs ρ M) Q E = wO (fs ρ M) (kU F Q E) E := ZjP
noncomputable def kA2 (x : D) (Q : List D → Sto → Prop) (xs : List D) (M : Sto) : Prop := Q (x :: xs) M
noncomputable def kA1 (fs : Av) (ρ : Ro) (Q : List D → Sto → Prop) (E : Str → Sto → Prop) (x : D) (M : Sto) : Prop := wO (fs ρ M) (kA2 x Q) E
theorem ZoI  : wO (aNil ρ M) QL E = QL [] M := rfl
theorem Zmw  : wO (Za f fs ρ M) QL E = wO (f ρ M) (kA1 fs ρ QL E) E := ZjQ
noncomputable def kTu (Q : D → Sto → Prop) (xs : List D) (M : Sto) : Prop := xs.length ≤ 1000 ∧ Q (.tup xs) M
noncomputable def kLs (Q : D → Sto → Prop) (xs : List D) (M : Sto) : Prop := xs.length ≤ 1000 ∧ Q (.ref M.length) (M ++ [.lst xs])
theorem ZoJ  : wO (Zav fs ρ M) Q E = wO (fs ρ M) (kTu Q) E := ZlR
theorem ZoK  : wO (Za5 fs ρ M) Q E = wO (fs ρ M) (kLs Q) E := ZlS
noncomputable def ZpW (x : D) (M : Sto) : Out D := match x with | .int i => .ok (.int (-i)) M | _ => .bad
theorem ZoL  : wO (ZcZ f ρ M) Q E = wO (f ρ M) (kU ZpW Q E) E := by unfold ZcZ; exact Zp
theorem Zmx  : wO (ZpW (.int i) M) Q E = Q (.int (-i)) M := rfl
noncomputable def ZoM (T : String) (x : D) (M : Sto) : Out D := match ZaO M x with | some t => .ok (.bl (Zcf t T)) M | none => .bad
theorem ZoN {T : String} : wO (ZfI T f ρ M) Q E = wO (f ρ M) (kU (ZoM T) Q E) E := by unfold ZfI; exact Zp
noncomputable def kTy (T : String) (Q : D → Sto → Prop) (M : Sto) (t : String) : Prop := Q (.bl (Zcf t T)) M
theorem Zmy {T : String} : wO (ZoM T x M) Q E = wG (ZaO M x) (kTy T Q M) := by unfold ZoM; cases ZaO M x <;> rfl
noncomputable def tC (b : Bool) : Tv := fun _ M => .ok b M
noncomputable def BrO {β : Type} (k : Bool) (f g : Ro → Sto → Out β) (ρ : Ro) (M : Sto) (Q : β → Sto → Prop) (E : Str → Sto → Prop) : Prop := wO ((if k = true then f else g) ρ M) Q E
theorem Zrx {β : Type} {fO gO : Ro → Sto → Out β} {QO : β → Sto → Prop} : BrO true fO gO ρ M QO E = wO (fO ρ M) QO E := rfl
theorem Zry {β : Type} {fO gO : Ro → Sto → Out β} {QO : β → Sto → Prop} : BrO false fO gO ρ M QO E = wO (gO ρ M) QO E := rfl
theorem brO {β : Type} {fO gO : Ro → Sto → Out β} {QO : β → Sto → Prop} {p : Prop} [Decidable p] (h1 : p → wO (fO ρ M) QO E) (h2 : ¬ p → wO (gO ρ M) QO E) : BrO (decide p) fO gO ρ M QO E := by
  by_cases h : p
  · rw [decide_eq_true h]; exact h1 h
  · rw [decide_eq_false h]; exact h2 h
theorem Zrz {β : Type} {fO gO : Ro → Sto → Out β} {QO : β → Sto → Prop} (P : β → Sto → Prop) (h : BrO b fO gO ρ M P E) (hn : ∀ x M, P x M → QO x M) : BrO b fO gO ρ M QO E := by
  cases b
  · exact Zc8 h hn (fun _ _ z => z)
  · exact Zc8 h hn (fun _ _ z => z)
noncomputable def kIf (f g : Ev) (ρ : Ro) (Q : D → Sto → Prop) (E : Str → Sto → Prop) (k : Bool) (M : Sto) : Prop := BrO k f g ρ M Q E
theorem ZrA  : wO (eIf t f g ρ M) Q E = wO (t ρ M) (kIf f g ρ Q E) E := by unfold eIf; rw [Zp]; congr 1; funext k M1; cases k <;> rfl
noncomputable def ZpX (g : Ev) (ρ : Ro) (x : D) (M : Sto) : Out D := match x with | .bl k => if k = true then g ρ M else .ok (.bl false) M | _ => .bad
noncomputable def oOr (g : Ev) (ρ : Ro) (x : D) (M : Sto) : Out D := match x with | .bl k => if k = true then .ok (.bl true) M else g ρ M | _ => .bad
noncomputable def ZpY (x : D) (M : Sto) : Out D := match x with | .bl k => .ok (.bl (!k)) M | _ => .bad
noncomputable def oTv (x : D) (M : Sto) : Out Bool := match x with | .bl k => .ok k M | _ => .bad
theorem ZoO  : wO (ZdG f g ρ M) Q E = wO (f ρ M) (kU (ZpX g ρ) Q E) E := by unfold ZdG; exact Zp
theorem ZrB  : wO (Zn0 f g ρ M) Q E = wO (f ρ M) (kU (oOr g ρ) Q E) E := by unfold Zn0; exact Zp
theorem ZoP  : wO (Zek f ρ M) Q E = wO (f ρ M) (kU ZpY Q E) E := by unfold Zek; exact Zp
theorem Zmz  : wO (ZpX g ρ (.bl b) M) Q E = BrO b g (eC (.bl false)) ρ M Q E := by cases b <;> rfl
theorem ZoQ  : wO (oOr g ρ (.bl b) M) Q E = BrO b (eC (.bl true)) g ρ M Q E := by cases b <;> rfl
theorem ZmA  : wO (ZpY (.bl b) M) Q E = Q (.bl (!b)) M := rfl
theorem ZrC  : wO (tv f ρ M) QB E = wO (f ρ M) (kU oTv QB E) E := by unfold tv; exact Zp
theorem ZoR  : wO (oTv (.bl b) M) QB E = QB b M := rfl
noncomputable def kTA (u : Tv) (ρ : Ro) (Q : Bool → Sto → Prop) (E : Str → Sto → Prop) (k : Bool) (M : Sto) : Prop := BrO k u (tC false) ρ M Q E
noncomputable def kTO (u : Tv) (ρ : Ro) (Q : Bool → Sto → Prop) (E : Str → Sto → Prop) (k : Bool) (M : Sto) : Prop := BrO k (tC true) u ρ M Q E
noncomputable def kTN (Q : Bool → Sto → Prop) (k : Bool) (M : Sto) : Prop := Q (!k) M
theorem ZrD  : wO (tC b ρ M) QB E = QB b M := rfl
theorem ZmB  : wO (Zfr t u ρ M) QB E = wO (t ρ M) (kTA u ρ QB E) E := by unfold Zfr; rw [Zp]; congr 1; funext k M1; cases k <;> rfl
theorem ZoS  : wO (ZfG t u ρ M) QB E = wO (t ρ M) (kTO u ρ QB E) E := by unfold ZfG; rw [Zp]; congr 1; funext k M1; cases k <;> rfl
theorem ZmC  : wO (ZbV t ρ M) QB E = wO (t ρ M) (kTN QB) E := ZlT
noncomputable def kSq (b : Sv) (N : Ro → Sto → Prop) (R : D → Sto → Prop) (B C : Ro → Sto → Prop) (E : Str → Sto → Prop) (ρ : Ro) (M : Sto) : Prop := wS (b ρ M) N R B C E
theorem ZoT  : wS (Zs a bd ρ M) N R B C E = wS (a ρ M) (kSq bd N R B C E) R B C E := ZlU
theorem ZmD  : wS (sNil ρ M) N R B C E = N ρ M := rfl
theorem ZoU  : wS (Zq0 ρ M) N R B C E = B ρ M := rfl
theorem ZoV  : wS (Zq1 ρ M) N R B C E = C ρ M := rfl
theorem ZoW  : wS (ZM f ρ M) N R B C E = wO (f ρ M) R E := ZlV
theorem ZmE  : wS (Zlu ρ M) N R B C E = R .non M := rfl
noncomputable def kDr (ρ : Ro) (N : Ro → Sto → Prop) (d : D) (M : Sto) : Prop := N ρ M
theorem ZmF  : wS (Zby f ρ M) N R B C E = wO (f ρ M) (kDr ρ N) E := ZjR
noncomputable def BrS (k : Bool) (a b : Sv) (ρ : Ro) (M : Sto) (N : Ro → Sto → Prop) (R : D → Sto → Prop) (B C : Ro → Sto → Prop) (E : Str → Sto → Prop) : Prop := wS ((if k = true then a else b) ρ M) N R B C E
theorem ZrE  : BrS true a bd ρ M N R B C E = wS (a ρ M) N R B C E := rfl
theorem ZrF  : BrS false a bd ρ M N R B C E = wS (bd ρ M) N R B C E := rfl
theorem brS {p : Prop} [Decidable p] (h1 : p → wS (a ρ M) N R B C E) (h2 : ¬ p → wS (bd ρ M) N R B C E) : BrS (decide p) a bd ρ M N R B C E := by
  by_cases h : p
  · rw [decide_eq_true h]; exact h1 h
  · rw [decide_eq_false h]; exact h2 h
theorem ZrG {p : Prop} [Decidable p] (h1 : ¬ p → wS (a ρ M) N R B C E) (h2 : p → wS (bd ρ M) N R B C E) : BrS (!decide p) a bd ρ M N R B C E := by
  by_cases h : p
  · rw [decide_eq_true h]; exact h2 h
  · rw [decide_eq_false h]; exact h1 h
theorem ZrH (h1 : b = true → wS (a ρ M) N R B C E) (h2 : b = false → wS (bd ρ M) N R B C E) : BrS b a bd ρ M N R B C E := by
  cases b
  · exact h2 rfl
  · exact h1 rfl
theorem ZpZ (P : Ro → Sto → Prop) (h : BrS b a bd ρ M P R B C E) (hn : ∀ ρ M, P ρ M → N ρ M) : BrS b a bd ρ M N R B C E := by
  cases b
  · exact ZgP h hn (fun _ _ z => z) (fun _ _ z => z) (fun _ _ z => z) (fun _ _ z => z)
  · exact ZgP h hn (fun _ _ z => z) (fun _ _ z => z) (fun _ _ z => z) (fun _ _ z => z)
noncomputable def kSi (a b : Sv) (ρ : Ro) (N : Ro → Sto → Prop) (R : D → Sto → Prop) (B C : Ro → Sto → Prop) (E : Str → Sto → Prop) (k : Bool) (M : Sto) : Prop := BrS k a b ρ M N R B C E
theorem ZoX  : wS (sIf t a bd ρ M) N R B C E = wO (t ρ M) (kSi a bd ρ N R B C E) E := by unfold sIf; rw [Z6]; congr 1; funext k M1; cases k <;> rfl
noncomputable def kAs (i : Nat) (ρ : Ro) (N : Ro → Sto → Prop) (d : D) (M : Sto) : Prop := N (ρ.set i (some d)) M
theorem ZoY  : wS (ZI (gNm k) f ρ M) N R B C E = wO (f ρ M) (kAs k ρ N) E := ZlW
noncomputable def kAt (gs : Tgs) (ρ : Ro) (N : Ro → Sto → Prop) (d : D) (M : Sto) : Prop := wG (gTp gs d ρ) (kQ N id M)
theorem ZmG {gs : Tgs} : wS (ZI (gTp gs) f ρ M) N R B C E = wO (f ρ M) (kAt gs ρ N) E := ZjS
noncomputable def Zp0 (i j : Nat) (ρ : Ro) (N : Ro → Sto → Prop) (M : Sto) (v w : D) : Prop := N ((ρ.set i (some v)).set j (some w)) M
noncomputable def kPa (i j : Nat) (ρ : Ro) (N : Ro → Sto → Prop) (ds : List D) (M : Sto) : Prop := w2 ds (Zp0 i j ρ N M)
theorem ZoZ  : wS (Zc0 k m fs ρ M) N R B C E = wO (fs ρ M) (kPa k m ρ N) E := ZlX
noncomputable def Zp1 (n : Nat) (d : D) (xs : List D) (ρ : Ro) (N : Ro → Sto → Prop) (M : Sto) (j : Nat) : Prop := N ρ (M.set n (.lst (xs.set j d)))
noncomputable def Zp2 (n : Nat) (k : Int) (d : D) (ρ : Ro) (N : Ro → Sto → Prop) (M : Sto) (xs : List D) : Prop := wG (ixN xs.length k) (Zp1 n d xs ρ N M)
noncomputable def Zp3 (n : Nat) (d : D) (ρ : Ro) (N : Ro → Sto → Prop) (M : Sto) (k : Int) : Prop := wL M[n]? (Zp2 n k d ρ N M)
noncomputable def Zp4 (i : D) (d : D) (ρ : Ro) (N : Ro → Sto → Prop) (M : Sto) (n : Nat) : Prop := wI i (Zp3 n d ρ N M)
noncomputable def Zp5 (o : D) (d : D) (ρ : Ro) (N : Ro → Sto → Prop) (i : D) (M : Sto) : Prop := wR o (Zp4 i d ρ N M)
noncomputable def Zp6 (fi : Ev) (d : D) (ρ : Ro) (N : Ro → Sto → Prop) (E : Str → Sto → Prop) (o : D) (M : Sto) : Prop := wO (fi ρ M) (Zp5 o d ρ N) E
noncomputable def kPu (fo fi : Ev) (ρ : Ro) (N : Ro → Sto → Prop) (E : Str → Sto → Prop) (d : D) (M : Sto) : Prop := wO (fo ρ M) (Zp6 fi d ρ N E) E
theorem Zo0 {fo fi : Ev} : wS (ZhP fo fi f ρ M) N R B C E = wO (f ρ M) (kPu fo fi ρ N E) E := ZlY
noncomputable def kRa (c : Str) (E : Str → Sto → Prop) (ds : List D) (M : Sto) : Prop := ds.length ≤ 1000 ∧ E c M
theorem Zj8 {c : Str} : wS (Za3 c fs ρ M) N R B C E = wO (fs ρ M) (kRa c E) E := Zh5
noncomputable def Zp7 (tg : Tg) (bd : Sv) (ρ : Ro) (N : Ro → Sto → Prop) (R : D → Sto → Prop) (B C : Ro → Sto → Prop) (E : Str → Sto → Prop) (M : Sto) (j : Int) : Prop := (-(2 ^ 62) ≤ j ∧ j < 2 ^ 62) ∧ wS (Zbt tg bd (Zbi 0 j.toNat) ρ M) N R B C E
noncomputable def Zp8 (tg : Tg) (bd : Sv) (ρ : Ro) (N : Ro → Sto → Prop) (R : D → Sto → Prop) (B C : Ro → Sto → Prop) (E : Str → Sto → Prop) (M : Sto) (d : D) : Prop := wI d (Zp7 tg bd ρ N R B C E M)
noncomputable def kR1 (tg : Tg) (bd : Sv) (ρ : Ro) (N : Ro → Sto → Prop) (R : D → Sto → Prop) (B C : Ro → Sto → Prop) (E : Str → Sto → Prop) (ds : List D) (M : Sto) : Prop := w1 ds (Zp8 tg bd ρ N R B C E M)
theorem ZmH  : wS (Zba tg fs bd ρ M) N R B C E = wO (fs ρ M) (kR1 tg bd ρ N R B C E) E := ZjT
noncomputable def Zp9 (tg : Tg) (bd : Sv) (ρ : Ro) (N : Ro → Sto → Prop) (R : D → Sto → Prop) (B C : Ro → Sto → Prop) (E : Str → Sto → Prop) (M : Sto) (i : Int) (j : Int) : Prop := (-(2 ^ 62) ≤ i ∧ i < 2 ^ 62 ∧ -(2 ^ 62) ≤ j ∧ j < 2 ^ 62) ∧ wS (Zbt tg bd (Zbi i (j - i).toNat) ρ M) N R B C E
noncomputable def Zqa (tg : Tg) (bd : Sv) (ρ : Ro) (N : Ro → Sto → Prop) (R : D → Sto → Prop) (B C : Ro → Sto → Prop) (E : Str → Sto → Prop) (M : Sto) (y : D) (i : Int) : Prop := wI y (Zp9 tg bd ρ N R B C E M i)
noncomputable def Zqb (tg : Tg) (bd : Sv) (ρ : Ro) (N : Ro → Sto → Prop) (R : D → Sto → Prop) (B C : Ro → Sto → Prop) (E : Str → Sto → Prop) (M : Sto) (x y : D) : Prop := wI x (Zqa tg bd ρ N R B C E M y)
noncomputable def kR2 (tg : Tg) (bd : Sv) (ρ : Ro) (N : Ro → Sto → Prop) (R : D → Sto → Prop) (B C : Ro → Sto → Prop) (E : Str → Sto → Prop) (ds : List D) (M : Sto) : Prop := w2 ds (Zqb tg bd ρ N R B C E M)
theorem ZmI  : wS (Zgq tg fs bd ρ M) N R B C E = wO (fs ρ M) (kR2 tg bd ρ N R B C E) E := Zj3
noncomputable def kFo (tg : Tg) (bd : Sv) (ρ : Ro) (N : Ro → Sto → Prop) (R : D → Sto → Prop) (B C : Ro → Sto → Prop) (E : Str → Sto → Prop) (d : D) (M : Sto) : Prop := wS (ZiD tg bd d ρ M) N R B C E
theorem Zo1  : wS (ZkD tg f bd ρ M) N R B C E = wO (f ρ M) (kFo tg bd ρ N R B C E) E := ZlZ
theorem ZmJ  : wS (ZiD tg bd (.tup xs) ρ M) N R B C E = wS (Zbt tg bd xs ρ M) N R B C E := rfl
theorem ZmK  : wS (ZiD tg bd (.rol xs) ρ M) N R B C E = wS (Zbt tg bd xs ρ M) N R B C E := rfl
noncomputable def kFs (tg : Tg) (bd : Sv) (ρ : Ro) (N : Ro → Sto → Prop) (R : D → Sto → Prop) (B C : Ro → Sto → Prop) (E : Str → Sto → Prop) (src : Src) (M : Sto) : Prop := wS (Zft tg bd src (cnt src M) 0 ρ M) N R B C E
theorem ZmL {fi : Ro → Sto → Out Src} : wS (Zc5 tg fi bd ρ M) N R B C E = wO (fi ρ M) (kFs tg bd ρ N R B C E) E := ZjU
noncomputable def hT (cs : List Str) (gh : Sv) (i : Nat) (ρ : Ro) (c : Str) (M : Sto) : Fl := if cs.contains c = true then (match gh ((List.replicate ρ.length none).set i (some (.err c []))) M with | .ret d M2 => .ret d M2 | .nx _ M2 => .nx (List.replicate ρ.length none) M2 | _ => .bad) else .bad
noncomputable def kTr (cs : List Str) (gh : Sv) (i : Nat) (ρ : Ro) (N : Ro → Sto → Prop) (R : D → Sto → Prop) (B C : Ro → Sto → Prop) (E : Str → Sto → Prop) (c : Str) (M : Sto) : Prop := cs.contains c = true ∧ wS (gh ((List.replicate ρ.length none).set i (some (.err c []))) M) (fun _ M2 => N (List.replicate ρ.length none) M2) R (fun _ _ => False) (fun _ _ => False) (fun _ _ => False)
theorem Zo2 {cs : List Str} {gh : Sv} : wS (ZpR a cs k gh ρ M) N R B C E = wS (a ρ M) N R B C (kTr cs gh k ρ N R B C E) := by
  unfold ZpR
  cases e : a ρ M <;> try rfl
  rename_i c M1
  show wS (if cs.contains c = true then _ else _) N R B C E = kTr cs gh k ρ N R B C E c M1
  unfold kTr
  by_cases h : cs.contains c = true
  · rw [if_pos h]
    simp only [h, true_and]
    cases gh ((List.replicate ρ.length none).set k (some (.err c []))) M1 <;> rfl
  · rw [if_neg h]
    simp only [h, Bool.false_eq_true, false_and]
    rfl
noncomputable def ZrI (Q : D → Sto → Prop) (M1 : Sto) (u : Unit) (M : Sto) : Prop := Q (.ref M1.length) M
noncomputable def kCo (tg : Tg) (c : Tv) (f : Ev) (k : Nat) (fr : List Nat) (ρ : Ro) (Q : D → Sto → Prop) (src : Src) (M : Sto) : Prop := wO (ZbH src tg c f M.length (cnt src M) 0 (roB k fr ρ) (M ++ [.lst []])) (ZrI Q M) (fun _ _ => False)
theorem ZmM {fi : Ro → Sto → Out Src} {fr : List Nat} : wO (ZT fi k fr tg t f ρ M) Q E = wO (fi ρ M) (kCo tg t f k fr ρ Q) E := ZjV
noncomputable def Zqc (QS : Src → Sto → Prop) (M : Sto) (j : Int) : Prop := (-(2 ^ 62) ≤ j ∧ j < 2 ^ 62) ∧ QS (.pur (Zbi 0 j.toNat)) M
noncomputable def Zqd (QS : Src → Sto → Prop) (M : Sto) (d : D) : Prop := wI d (Zqc QS M)
noncomputable def kS1 (QS : Src → Sto → Prop) (ds : List D) (M : Sto) : Prop := w1 ds (Zqd QS M)
theorem ZrJ  : wO (iR1 fs ρ M) QS E = wO (fs ρ M) (kS1 QS) E := Zrr
noncomputable def Zqe (QS : Src → Sto → Prop) (M : Sto) (i : Int) (j : Int) : Prop := (-(2 ^ 62) ≤ i ∧ i < 2 ^ 62 ∧ -(2 ^ 62) ≤ j ∧ j < 2 ^ 62) ∧ QS (.pur (Zbi i (j - i).toNat)) M
noncomputable def Zqf (QS : Src → Sto → Prop) (M : Sto) (y : D) (i : Int) : Prop := wI y (Zqe QS M i)
noncomputable def Zqg (QS : Src → Sto → Prop) (M : Sto) (x y : D) : Prop := wI x (Zqf QS M y)
noncomputable def kS2 (QS : Src → Sto → Prop) (ds : List D) (M : Sto) : Prop := w2 ds (Zqg QS M)
theorem ZrK  : wO (iR2 fs ρ M) QS E = wO (fs ρ M) (kS2 QS) E := Zrs
noncomputable def oSq (d : D) (M : Sto) : Out Src := match d with | .tup ds => .ok (.pur ds) M | .rol ds => .ok (.pur ds) M | .ref n => .ok (.sto n) M | _ => .bad
theorem ZrL  : wO (iSq f ρ M) QS E = wO (f ρ M) (kU oSq QS E) E := by unfold iSq; exact Zp
theorem Zo3  : wO (oSq (.tup xs) M) QS E = QS (.pur xs) M := rfl
theorem Zo4  : wO (oSq (.rol xs) M) QS E = QS (.pur xs) M := rfl
theorem Zo5  : wO (oSq (.ref n) M) QS E = QS (.sto n) M := rfl
noncomputable def Zqh (QS : Src → Sto → Prop) (M : Sto) (d : D) : Prop := wR d (kQ QS .enu M)
noncomputable def kEn (QS : Src → Sto → Prop) (ds : List D) (M : Sto) : Prop := w1 ds (Zqh QS M)
theorem ZrM  : wO (iEn fs ρ M) QS E = wO (fs ρ M) (kEn QS) E := Zrt
noncomputable def Zqi (QS : Src → Sto → Prop) (M : Sto) (y : D) (n : Nat) : Prop := wR y (kQ QS (.zip n) M)
noncomputable def Zqj (QS : Src → Sto → Prop) (M : Sto) (x y : D) : Prop := wR x (Zqi QS M y)
noncomputable def kZp (QS : Src → Sto → Prop) (ds : List D) (M : Sto) : Prop := w2 ds (Zqj QS M)
theorem ZrN  : wO (iZp fs ρ M) QS E = wO (fs ρ M) (kZp QS) E := Zru
noncomputable def Zqk (QS : Src → Sto → Prop) (n : Nat) (M : Sto) (xs : List D) : Prop := QS (.rev n xs.length) M
noncomputable def Zql (QS : Src → Sto → Prop) (M : Sto) (n : Nat) : Prop := wL M[n]? (Zqk QS n M)
noncomputable def Zqm (QS : Src → Sto → Prop) (M : Sto) (d : D) : Prop := wR d (Zql QS M)
noncomputable def kRv (QS : Src → Sto → Prop) (ds : List D) (M : Sto) : Prop := w1 ds (Zqm QS M)
theorem ZrO  : wO (iRv fs ρ M) QS E = wO (fs ρ M) (kRv QS) E := Zrv
noncomputable def ZmN (xs : List D) (M : Sto) (Q : D → Sto → Prop) (ys : List D) : Prop := xs.length + ys.length ≤ 10000000 ∧ Q (.ref M.length) (M ++ [.lst (xs ++ ys)])
noncomputable def Zqn (m : Nat) (M : Sto) (Q : D → Sto → Prop) (xs : List D) : Prop := wL M[m]? (ZmN xs M Q)
theorem Zo6  : wO (dAdd (.ref n) (.ref m) M) Q E = wL M[n]? (Zqn m M Q) := Zol
noncomputable def ZnF (i : Int) (M : Sto) (Q : D → Sto → Prop) (xs : List D) : Prop := ((-9223372036854775808 ≤ i ∧ i < 9223372036854775808) ∧ xs.length * i.toNat ≤ 100000) ∧ Q (.ref M.length) (M ++ [.lst (List.replicate i.toNat xs).flatten])
theorem Zo7 : wO (Zq7 (.ref n) (.int i) M) Q E = wL M[n]? (ZnF i M Q) := by
  show wO (match M[n]? with | some (.lst xs) => if (-9223372036854775808 ≤ i ∧ i < 9223372036854775808) ∧ xs.length * i.toNat ≤ 100000 then Out.ok (.ref M.length) (M ++ [.lst (List.replicate i.toNat xs).flatten]) else .bad | none => .bad) Q E = _
  cases e1 : M[n]? with
  | none => rfl
  | some o =>
    cases o with
    | lst xs =>
      show wO (if (-9223372036854775808 ≤ i ∧ i < 9223372036854775808) ∧ xs.length * i.toNat ≤ 100000 then Out.ok (.ref M.length) (M ++ [.lst (List.replicate i.toNat xs).flatten]) else .bad) Q E = ZnF i M Q xs
      unfold ZnF
      by_cases h : (-9223372036854775808 ≤ i ∧ i < 9223372036854775808) ∧ xs.length * i.toNat ≤ 100000
      · rw [if_pos h]; simp only [eq_true h, true_and]; rfl
      · rw [if_neg h]; simp only [eq_false h, false_and]; rfl
noncomputable def kEq (Q : D → Sto → Prop) (M : Sto) (b : Bool) : Prop := Q (.bl b) M
noncomputable def kNe (Q : D → Sto → Prop) (M : Sto) (b : Bool) : Prop := Q (.bl (!b)) M
theorem ZrP  : wO (dEq x y M) Q E = wG (eqF 12 M x y) (kEq Q M) := Zrm
theorem ZrQ  : wO (dNe x y M) Q E = wG (eqF 12 M x y) (kNe Q M) := Zrn
theorem ZrR  : wO (dIs x y M) Q E = wG (isP x y) (kEq Q M) := Zro
theorem Zo8  : wO (dIsNot x y M) Q E = wG (isP x y) (kNe Q M) := Zom
theorem Zo9  : wO (ZpU x y M) Q E = wG (inE x y M) (kEq Q M) := by unfold ZpU; cases inE x y M <;> rfl
theorem Zig  : wO (ZgE x y M) Q E = wG (inE x y M) (kNe Q M) := by unfold ZgE; cases inE x y M <;> rfl
theorem Zpa  : wO (dIx (.tup xs) (.int i) M) Q E = wG (atI xs i) (kQ Q id M) := Zon
theorem Zpb  : wO (dIx (.rol xs) (.int i) M) Q E = wG (atI xs i) (kQ Q id M) := Zoo
noncomputable def kIx (i : Int) (Q : D → Sto → Prop) (M : Sto) (xs : List D) : Prop := wG (atI xs i) (kQ Q id M)
theorem Zpc  : wO (dIx (.ref n) (.int i) M) Q E = wL M[n]? (kIx i Q M) := Zop
noncomputable def Zqo (Q : D → Sto → Prop) (M : Sto) (xs : List D) : Prop := Q (.int xs.length) M
theorem ZmO  : wO (bLen [.ref n] M) Q E = wL M[n]? (Zqo Q M) := Zl2
noncomputable def kLi (Q : D → Sto → Prop) (M : Sto) (xs : List D) : Prop := Q (.ref M.length) (M ++ [.lst xs])
theorem Zj9  : wO (bList [.ref n] M) Q E = wL M[n]? (kLi Q M) := ZjX
noncomputable def Zqp (Q : D → Sto → Prop) (M : Sto) (bs : List Bool) : Prop := Q (.bl (bs.all id)) M
noncomputable def kAl (Q : D → Sto → Prop) (M : Sto) (xs : List D) : Prop := wG (Zb4 xs) (Zqp Q M)
theorem Zpd  : wO (ZpP [.ref n] M) Q E = wL M[n]? (kAl Q M) := Zot
noncomputable def Zqq (g : List Int → Option Int) (Q : D → Sto → Prop) (M : Sto) (ns : List Int) : Prop := wG (g ns) (kQ Q .int M)
noncomputable def Zqr (g : List Int → Option Int) (Q : D → Sto → Prop) (M : Sto) (xs : List D) : Prop := wG (Za6 xs) (Zqq g Q M)
theorem ZmP {gi : List Int → Option Int} : wO (ZbN gi [.ref n] M) Q E = wL M[n]? (Zqr gi Q M) := Zl7
noncomputable def kMt (g : Me) (fs : Av) (ρ : Ro) (Q : D → Sto → Prop) (E : Str → Sto → Prop) (x : D) (M : Sto) : Prop := ZjE x M = true ∧ wO (fs ρ M) (kU (g x) Q E) E
theorem ZrS {me : Me} {fo : Ev} : wO (ZfJ me fo fs ρ M) Q E = wO (fo ρ M) (kMt me fs ρ Q E) E := Zrp
noncomputable def Zqs (n : Nat) (d : D) (Q : D → Sto → Prop) (M : Sto) (xs : List D) : Prop := xs.length < 10000000 ∧ Q .non (M.set n (.lst (xs ++ [d])))
theorem Zpe  : wO (mApp (.ref n) [d] M) Q E = wL M[n]? (Zqs n d Q M) := Zou
noncomputable def Zqt (n : Nat) (Q : D → Sto → Prop) (M : Sto) (xs : List D) : Prop := Q .non (M.set n (.lst []))
theorem Zpf  : wO (ZpS (.ref n) [] M) Q E = wL M[n]? (Zqt n Q M) := Zov
noncomputable def ZmQ (n : Nat) (xs : List D) (Q : D → Sto → Prop) (M : Sto) (ys : List D) : Prop := xs.length + ys.length ≤ 10000000 ∧ Q .non (M.set n (.lst (xs ++ ys)))
noncomputable def Zqu (n m : Nat) (Q : D → Sto → Prop) (M : Sto) (xs : List D) : Prop := wL M[m]? (ZmQ n xs Q M)
theorem Zpg  : wO (ZpT (.ref n) [.ref m] M) Q E = wL M[n]? (Zqu n m Q M) := Zow
noncomputable def Zka (Q : D → Sto → Prop) (M : Sto) (bs : List Bool) : Prop := wG (bs.findIdx? id) (kQ Q (fun (j : Nat) => .int j) M)
noncomputable def Zqv (d : D) (Q : D → Sto → Prop) (M : Sto) (xs : List D) : Prop := wG (eqs M d xs) (Zka Q M)
theorem Zph : wO (Zq5 (.ref n) [d] M) Q E = wL M[n]? (Zqv d Q M) := by
  show wO (match M[n]? with | some (.lst xs) => (match eqs M d xs with | some bs => (match bs.findIdx? id with | some j => Out.ok (.int (j : Nat)) M | none => .bad) | none => .bad) | none => .bad) Q E = _
  cases e1 : M[n]? with
  | none => rfl
  | some o =>
    cases o with
    | lst xs =>
      show wO (match eqs M d xs with | some bs => (match bs.findIdx? id with | some j => Out.ok (.int (j : Nat)) M | none => .bad) | none => .bad) Q E = wG (eqs M d xs) (Zka Q M)
      cases eqs M d xs with
      | none => rfl
      | some bs =>
        show wO (match bs.findIdx? id with | some j => Out.ok (.int (j : Nat)) M | none => .bad) Q E = wG (bs.findIdx? id) _
        cases bs.findIdx? id <;> rfl
noncomputable def kCn (Q : D → Sto → Prop) (M : Sto) (bs : List Bool) : Prop := Q (.int (bs.countP id : Nat)) M
noncomputable def Zqw (d : D) (Q : D → Sto → Prop) (M : Sto) (xs : List D) : Prop := wG (eqs M d xs) (kCn Q M)
theorem ZmR : wO (Zq6 (.ref n) [d] M) Q E = wL M[n]? (Zqw d Q M) := by
  show wO (match M[n]? with | some (.lst xs) => (match eqs M d xs with | some bs => Out.ok (.int (bs.countP id : Nat)) M | none => .bad) | none => .bad) Q E = _
  cases e1 : M[n]? with
  | none => rfl
  | some o =>
    cases o with
    | lst xs =>
      show wO (match eqs M d xs with | some bs => Out.ok (.int (bs.countP id : Nat)) M | none => .bad) Q E = wG (eqs M d xs) (kCn Q M)
      cases eqs M d xs <;> rfl
noncomputable def Zqx (l u : Option Int) (Q : D → Sto → Prop) (M : Sto) (xs : List D) : Prop := Q (.ref M.length) (M ++ [.lst (Zdu xs l u)])
noncomputable def Zqy (x : D) (l : Option Int) (Q : D → Sto → Prop) (E : Str → Sto → Prop) (u : Option Int) (M : Sto) : Prop := wO (slR x l u M) Q E
noncomputable def Zqz (x : D) (hi : Ro → Sto → Out (Option Int)) (ρ : Ro) (Q : D → Sto → Prop) (E : Str → Sto → Prop) (l : Option Int) (M : Sto) : Prop := wO (hi ρ M) (Zqy x l Q E) E
noncomputable def ZqA (lo hi : Ro → Sto → Out (Option Int)) (ρ : Ro) (Q : D → Sto → Prop) (E : Str → Sto → Prop) (x : D) (M : Sto) : Prop := wO (lo ρ M) (Zqz x hi ρ Q E) E
theorem ZrT {lo hi : Ro → Sto → Out (Option Int)} : wO (eSl f lo hi ρ M) Q E = wO (f ρ M) (ZqA lo hi ρ Q E) E := Zox
theorem Zpi {l u' : Option Int} : wO (slR (.ref n) l u' M) Q E = wL M[n]? (Zqx l u' Q M) := Zoy
theorem Zpj {QI : Option Int → Sto → Prop} : wO (oNo ρ M) QI E = QI none M := rfl
noncomputable def ZqB (Q : Option Int → Sto → Prop) (x : D) (M : Sto) : Prop := wI x (kQ Q some M)
theorem Zpk {QI : Option Int → Sto → Prop} : wO (oSo f ρ M) QI E = wO (f ρ M) (ZqB QI) E := Zoz
noncomputable def oRv (x : D) (M1 : Sto) : Out D := match x with | .tup xs => .ok (.tup xs.reverse) M1 | .ref n => (match M1[n]? with | some (.lst xs) => .ok (.ref M1.length) (M1 ++ [.lst xs.reverse]) | none => .bad) | .rol xs => .ok (.ref M1.length) (M1 ++ [.lst xs.reverse]) | _ => .bad
theorem ZrU  : wO (eRv f ρ M) Q E = wO (f ρ M) (kU oRv Q E) E := by unfold eRv; exact Zp
noncomputable def Zpl (Q : D → Sto → Prop) (M : Sto) (xs : List D) : Prop := Q (.ref M.length) (M ++ [.lst xs.reverse])
theorem Zpm  : wO (oRv (.ref n) M) Q E = wL M[n]? (Zpl Q M) := by show wO (match M[n]? with | some (.lst xs) => Out.ok (.ref M.length) (M ++ [.lst xs.reverse]) | none => .bad) Q E = _; cases M[n]? with | none => rfl | some o => cases o with | lst xs => rfl
theorem Zpn  : wO (oRv (.tup xs) M) Q E = Q (.tup xs.reverse) M := rfl
noncomputable def ZqC (tab : List (Str × Bool)) (x : D) (M : Sto) : Out D := match x with | .err c _ => (match tab.lookup c with | some b => .ok (.bl b) M | none => .bad) | _ => .bad
theorem Zpo {tab : List (Str × Bool)} : wO (ZpQ tab f ρ M) Q E = wO (f ρ M) (kU (ZqC tab) Q E) E := by unfold ZpQ; exact Zp
theorem ZmS {tab : List (Str × Bool)} {c : Str} : wO (ZqC tab (.err c xs) M) Q E = wG (tab.lookup c) (kEq Q M) := by show wO (match tab.lookup c with | some b => Out.ok (.bl b) M | none => .bad) Q E = _; cases tab.lookup c <;> rfl
noncomputable def kWh (bd : Sv) (ρ : Ro) (I : Ro → Sto → Prop) (N : Ro → Sto → Prop) (R : D → Sto → Prop) (B C : Ro → Sto → Prop) (E : Str → Sto → Prop) (k : Bool) (M : Sto) : Prop := Br k (wS (bd ρ M) I R N I E) (N ρ M)
theorem Zpp {c : Tv} (I : Nat → Ro → Sto → Prop) (st : ∀ n ρ M, I n ρ M → wO (c ρ M) (kWh bd ρ (fun ρ2 M2 => ∃ m, m < n ∧ I m ρ2 M2) N R B C E) E) (n : Nat) (ρ : Ro) (M : Sto) (h : I n ρ M) : wS (sWh c bd ρ M) N R B C E := Zh6 I st n ρ M h
theorem Zpq {I : Ro → Sto → Prop} {p : Prop} [Decidable p] (h1 : p → wS (bd ρ M) I R N I E) (h2 : ¬ p → N ρ M) : kWh bd ρ I N R B C E (decide p) M := brD h1 h2
theorem Zpr {src : Src} {fr : List Nat} (Inv : Ro → Prop) (F : Nat → D) (hl : xs.length < 10000000) (hcnt : xs.length ≤ cnt src M) (h0 : Inv (roB k fr ρ)) (hs : ∀ (L : Sto) (i : Nat), i ≤ xs.length → nxt src i (M ++ L) = some xs[i]?)
    (st : ∀ (i : Nat) (h : i < xs.length) (ρ : Ro) (L : Sto), Inv ρ → wG (tg xs[i] ρ) fun r => Inv r ∧ wO (f r (M ++ L)) (fun y M2 => y = F i ∧ M2 = M ++ L) (fun _ _ => False)) (hq : Q (.ref M.length) (M ++ [.lst ((List.range xs.length).map F)])) :
    kCo tg (fun _ M => .ok true M) f k fr ρ Q src M := Zj6 (Q := fun M2 => Q (.ref M.length) M2) Inv F hl hcnt h0 hs st hq
theorem ZrV {fr : List Nat} (Inv : Ro → Prop) (F : Nat → D) (hl : n < 10000000) (h0 : Inv (roB k fr ρ))
    (st : ∀ (i : Nat) (h : i < n) (ρ : Ro) (L : Sto), Inv ρ → wG (tg (.int i) ρ) fun r => Inv r ∧ wO (f r (M ++ L)) (fun y M2 => y = F i ∧ M2 = M ++ L) (fun _ _ => False)) (hq : Q (.ref M.length) (M ++ [.lst ((List.range n).map F)])) :
    kCo tg (fun _ M => .ok true M) f k fr ρ Q (.pur (Zbi 0 n)) M := by
  refine Zpr (xs := Zbi 0 n) Inv F (by rw [Zer]; exact hl) (by simp [cnt]) h0 (fun L i hi => rfl) (fun i hi ρ L hI => ?_) (by rw [Zer]; exact hq)
  rw [Zj7]
  have := st i (by rw [Zer] at hi; exact hi) ρ L hI
  rw [show (0 : Int) + (i : Nat) = i by omega]
  exact this
theorem ZiO {fr : List Nat} (Inv : Ro → Prop) (F : Nat → D) (hM : M[n]? = some (.lst xs)) (hl : xs.length < 10000000) (h0 : Inv (roB k fr ρ))
    (st : ∀ (i : Nat) (h : i < xs.length) (ρ : Ro) (L : Sto), Inv ρ → wG (tg xs[i] ρ) fun r => Inv r ∧ wO (f r (M ++ L)) (fun y M2 => y = F i ∧ M2 = M ++ L) (fun _ _ => False)) (hq : Q (.ref M.length) (M ++ [.lst ((List.range xs.length).map F)])) :
    kCo tg (fun _ M => .ok true M) f k fr ρ Q (.sto n) M :=
  Zpr (xs := xs) Inv F hl (by rw [ZgW hM]; exact Nat.le_refl _) h0 (fun L i hi => by rw [ZiM]; rw [List.getElem?_append_left (Zn hM)]; exact hM) st hq
end
end DL
end
set_option Elab.async false
set_option linter.all false
set_option maxRecDepth 100000
set_option maxHeartbeats 4000000
namespace DL
open PySem PySem.Spec L2
section
variable {Q : D → Sto → Prop} {E : Str → Sto → Prop} {M : Sto} {n : Nat}
theorem Zps : wO (bLR [.ref n] M) Q E = wL M[n]? (Zpl Q M) := by
  show wO (match M[n]? with | some (.lst xs) => Out.ok (.ref M.length) (M ++ [.lst xs.reverse]) | none => .bad) Q E = _
  cases M[n]? with
  | none => rfl
  | some o => cases o with | lst xs => rfl
end
end DL
section
set_option Elab.async false
set_option linter.all false
set_option maxRecDepth 100000
set_option maxHeartbeats 4000000
namespace DL
noncomputable abbrev Pt := Int × Int
noncomputable def X (p q : Pt) : Int := p.1 * q.2 - p.2 * q.1
section
variable {rs : List Pt} {i j : Int} {k n : Nat} {p : Pt}
theorem ZbP {α : Type} {l : List α} {n : Nat} {d : α} (h : n < l.length) : l.getD n d = l[n] := by simp [List.getElem?_eq_getElem h]
theorem Za7 (h : 0 ≤ i ∧ i < rs.length) : cy rs i = rs.getD i.toNat (0, 0) := by
  unfold cy
  rw [Int.emod_eq_of_lt h.1 h.2]
theorem Zat {m : Nat} (h : m ≠ 0) : (i % m).toNat < m ∧ 0 ≤ i % m := by
  have := Int.emod_lt_of_pos i (show (0 : Int) < m by omega)
  have := Int.emod_nonneg i (show (m : Int) ≠ 0 by omega)
  omega
theorem Zco (h : rs ≠ []) : cy rs i ∈ rs := by
  have hl : rs.length ≠ 0 := by simpa using h
  unfold cy
  rw [ZbP (Zat hl).1]
  exact List.getElem_mem _
theorem Ze8 {f : Pt → Pt} (h : rs ≠ []) : cy (rs.map f) i = f (cy rs i) := by
  have hl : rs.length ≠ 0 := by simpa using h
  unfold cy
  rw [List.length_map, ZbP (by rw [List.length_map]; exact (Zat hl).1), ZbP (Zat hl).1, List.getElem_map]
theorem ZcR (hk : k ≤ rs.length) : cy (rs.drop k ++ rs.take k) i = cy rs (i + k) := by
  by_cases h : rs.length = 0
  · have : rs = [] := by simpa using h
    subst this
    simp [cy]
  have hL : (rs.drop k ++ rs.take k).length = rs.length := by simp; omega
  have e1 : cy (rs.drop k ++ rs.take k) i = cy (rs.drop k ++ rs.take k) (i % rs.length) := by
    conv => rhs; rw [← hL, ZcO]
  have e2 : cy rs (i + k) = cy rs (i % rs.length + k) := by
    unfold cy
    rw [Int.emod_add_emod]
  rw [e1, e2]
  obtain ⟨a, b⟩ := Zat (i := i) h
  generalize hm : i % (rs.length : Int) = m at *
  have hm2 : m < rs.length := by omega
  rw [Za7 (by rw [hL]; omega)]
  by_cases c : m + k < rs.length
  · rw [Za7 (by omega)]
    rw [List.getD_eq_getElem?_getD, List.getD_eq_getElem?_getD, List.getElem?_append_left (by simp; omega), List.getElem?_drop]
    congr 2
    omega
  · rw [← ZcP, Za7 (by omega)]
    rw [List.getD_eq_getElem?_getD, List.getD_eq_getElem?_getD, List.getElem?_append_right (by simp; omega), List.getElem?_take_of_lt (by simp; omega)]
    congr 2
    simp
    omega
noncomputable def ins (rs : List Pt) (k : Nat) (p : Pt) : List Pt := rs.take (k + 1) ++ p :: rs.drop (k + 1)
theorem Zdb (hk : k < rs.length) : (ins rs k p).length = rs.length + 1 := by simp [ins]; omega
theorem ZiP (hk : k < rs.length) (h0 : 0 ≤ j) (h1 : j ≤ rs.length + 1) : cy (ins rs k p) j = if j ≤ k then cy rs j else if j = k + 1 then p else cy rs (j - 1) := by
  have hL := Zdb (p := p) hk
  by_cases e : j = rs.length + 1
  · subst e
    rw [if_neg (by omega), if_neg (by omega)]
    have e1 : cy (ins rs k p) (rs.length + 1) = cy (ins rs k p) 0 := by
      have := ZcP (rs := ins rs k p) (i := (rs.length : Int) + 1)
      rw [hL] at this
      rw [← this]
      congr 1
      omega
    have e2 : cy rs ((rs.length : Int) + 1 - 1) = cy rs 0 := by
      rw [← ZcP]
      congr 1
      omega
    rw [e1, e2, Za7 (by rw [hL]; omega), Za7 (by omega)]
    unfold ins
    rw [List.getD_eq_getElem?_getD, List.getD_eq_getElem?_getD, List.getElem?_append_left (by simp; omega), List.getElem?_take_of_lt (by simp)]
  · have hj : j < rs.length + 1 := by omega
    rw [Za7 (by rw [hL]; omega)]
    unfold ins
    rw [List.getD_eq_getElem?_getD]
    by_cases c1 : j ≤ k
    · rw [if_pos c1, Za7 (by omega), List.getD_eq_getElem?_getD, List.getElem?_append_left (by simp; omega), List.getElem?_take_of_lt (by omega)]
    · rw [if_neg c1, List.getElem?_append_right (by simp; omega)]
      have hl : (rs.take (k + 1)).length = k + 1 := by simp; omega
      rw [hl]
      by_cases c2 : j = k + 1
      · rw [if_pos c2]
        have : j.toNat - (k + 1) = 0 := by omega
        rw [this]
        rfl
      · rw [if_neg c2, Za7 (by omega), List.getD_eq_getElem?_getD]
        obtain ⟨z, hz⟩ : ∃ z, j.toNat - (k + 1) = z + 1 := ⟨j.toNat - (k + 1) - 1, by omega⟩
        rw [hz, List.getElem?_cons_succ, List.getElem?_drop]
        congr 2
        omega
theorem Zcp {P : Pt → Pt → Prop} (hn : rs.length ≠ 0) (h : ∀ i : Int, 0 ≤ i → i < rs.length → P (cy rs i) (cy rs (i + 1))) (i : Int) : P (cy rs i) (cy rs (i + 1)) := by
  have e1 : cy rs i = cy rs (i % rs.length) := ZcO.symm
  have e2 : cy rs (i + 1) = cy rs (i % rs.length + 1) := by
    unfold cy
    rw [Int.emod_add_emod]
  rw [e1, e2]
  obtain ⟨a, b⟩ := Zat (i := i) hn
  exact h _ b (by omega)
noncomputable def cc (f : Pt → Pt → Nat) : List Pt → Nat
  | a :: b :: r => f a b + cc f (b :: r)
  | _ => 0
noncomputable def cyc (f : Pt → Pt → Nat) (rs : List Pt) : Nat := cc f (rs ++ rs.take 1)
theorem Zb5 {f : Pt → Pt → Nat} : ∀ (L : List Pt) (a : Pt) (R : List Pt), cc f (L ++ a :: R) = cc f (L ++ [a]) + cc f (a :: R)
  | [], a, R => by simp [cc]
  | [b], a, R => by simp [cc]
  | b :: c :: L, a, R => by
    have := Zb5 (f := f) (c :: L) a R
    simp only [List.cons_append, cc] at this ⊢
    omega
theorem ZiQ {f : Pt → Pt → Nat} {g : Pt → Pt} : ∀ (L : List Pt), cc f (L.map g) = cc (fun a b => f (g a) (g b)) L
  | [] => rfl
  | [_] => rfl
  | a :: b :: L => by
    have := ZiQ (f := f) (g := g) (b :: L)
    simp only [List.map_cons, cc] at this ⊢
    omega
theorem ZiR {f : Pt → Pt → Nat} : ∀ (L : List Pt), cc f L.reverse = cc (fun a b => f b a) L
  | [] => rfl
  | [_] => rfl
  | a :: b :: L => by
    have := ZiR (f := f) (b :: L)
    rw [List.reverse_cons, List.reverse_cons, List.append_assoc, List.singleton_append, Zb5]
    rw [List.reverse_cons] at this
    simp only [cc] at this ⊢
    omega
theorem ZaV {f : Pt → Pt → Nat} {a : Pt} {r : List Pt} : cyc f (a :: r) = cc f (a :: (r ++ [a])) := by simp [cyc]
theorem ZbC {f : Pt → Pt → Nat} (A B : List Pt) : cyc f (A ++ B) = cyc f (B ++ A) := by
  cases A with
  | nil => simp
  | cons a A =>
    cases B with
    | nil => simp
    | cons b B =>
      rw [List.cons_append, ZaV, List.cons_append, ZaV]
      have e1 : a :: (A ++ b :: B ++ [a]) = (a :: A) ++ b :: (B ++ [a]) := by simp
      have e2 : b :: (B ++ a :: A ++ [b]) = (b :: B) ++ a :: (A ++ [b]) := by simp
      rw [e1, e2, Zb5 (a :: A) b, Zb5 (b :: B) a]
      simp only [List.cons_append]
      omega
theorem Zdc {f : Pt → Pt → Nat} {g : Pt → Pt} (L : List Pt) : cyc f (L.map g) = cyc (fun a b => f (g a) (g b)) L := by
  unfold cyc
  rw [← List.map_take, ← List.map_append, ZiQ]
theorem ZgX {f : Pt → Pt → Nat} (L : List Pt) : cyc f L.reverse = cyc (fun a b => f b a) L := by
  cases L with
  | nil => rfl
  | cons a L =>
    rw [List.reverse_cons, ZbC, List.singleton_append, ZaV, ZaV, ← ZiR]
    congr 1
    simp
noncomputable def in1 (w a b : Pt) : Nat := if 0 ≤ X a w ∧ 0 < X w b then 1 else 0
noncomputable def in2 (w a b : Pt) : Nat := if 0 < X a w ∧ 0 ≤ X w b then 1 else 0
noncomputable def Fan (rs : List Pt) : Prop := ∀ w : Pt, w ≠ (0, 0) → cyc (in1 w) rs = 1 ∧ cyc (in2 w) rs = 1
theorem ZmT {a b w : Pt} : X w (a.1 + b.1, a.2 + b.2) = X w a + X w b ∧ X (a.1 + b.1, a.2 + b.2) w = X a w + X b w := by unfold X; constructor <;> grind
theorem Zfy {p q : Pt} : X p q = 0 - X q p := by unfold X; grind
theorem ZgY {a b w : Pt} : in1 w a b = in1 w a (a.1 + b.1, a.2 + b.2) + in1 w (a.1 + b.1, a.2 + b.2) b := by
  have s := ZmT (a := a) (b := b) (w := w)
  have e1 := Zfy (p := w) (q := a)
  have e2 := Zfy (p := b) (q := w)
  unfold in1
  rw [s.1, s.2, e1, e2]
  generalize X a w = p
  generalize X w b = q
  repeat' split
  all_goals omega
theorem ZgZ {a b w : Pt} : in2 w a b = in2 w a (a.1 + b.1, a.2 + b.2) + in2 w (a.1 + b.1, a.2 + b.2) b := by
  have s := ZmT (a := a) (b := b) (w := w)
  have e1 := Zfy (p := w) (q := a)
  have e2 := Zfy (p := b) (q := w)
  unfold in2
  rw [s.1, s.2, e1, e2]
  generalize X a w = p
  generalize X w b = q
  repeat' split
  all_goals omega
theorem Zfz {L R : List Pt} {a : Pt} : cy (L ++ a :: R) L.length = a := by
  rw [Za7 (by simp; omega)]
  simp
theorem Zih {L R : List Pt} {a b : Pt} : cy (L ++ a :: b :: R) (L.length + 1) = b := by
  rw [Za7 (by simp; omega)]
  rw [show ((L.length : Int) + 1).toNat = L.length + 1 by omega]
  simp
theorem Zg0 {r : List Pt} {a : Pt} : cy (a :: r) (r.length + 1) = a := by
  have := ZcP (rs := a :: r) (i := (r.length : Int) + 1)
  rw [← this, List.length_cons, show (r.length : Int) + 1 - ((r.length + 1 : Nat) : Int) = 0 by omega, Za7 (by simp)]
  rfl
theorem Zcq {f : Pt → Pt → Nat} (hk : k < rs.length) (hf : f (cy rs k) (cy rs (k + 1)) = f (cy rs k) p + f p (cy rs (k + 1))) : cyc f (ins rs k p) = cyc f rs := by
  obtain ⟨L, a, R, e, hl⟩ : ∃ L a R, rs = L ++ a :: R ∧ L.length = k := ⟨rs.take k, rs[k], rs.drop (k + 1), by rw [List.getElem_cons_drop, List.take_append_drop], by simp; omega⟩
  have ei : ins rs k p = L ++ a :: p :: R := by
    unfold ins
    rw [e, ← hl, List.take_append, List.drop_append, List.take_of_length_le (by omega), List.drop_eq_nil_of_le (by omega)]
    simp
  have ca : cy rs k = a := by rw [e, ← hl]; exact Zfz
  cases R with
  | cons b R =>
    have cb : cy rs (k + 1) = b := by rw [e, ← hl]; exact Zih
    rw [ca, cb] at hf
    rw [ei, e, ZbC, ZbC L]
    simp only [List.cons_append, ZaV, cc]
    omega
  | nil =>
    cases L with
    | nil =>
      have cb : cy rs (k + 1) = a := by
        rw [e, ← hl]
        exact Zg0 (r := []) (a := a)
      rw [ca, cb] at hf
      rw [ei, e]
      simp [cyc, cc]
      omega
    | cons b L =>
      have cb : cy rs (k + 1) = b := by
        rw [e, ← hl]
        have := Zg0 (r := L ++ [a]) (a := b)
        simp only [List.length_append, List.length_cons, List.length_nil] at this ⊢
        exact this
      rw [ca, cb] at hf
      rw [ei, e]
      simp only [List.cons_append, ZaV]
      have e1 : b :: (L ++ [a, p] ++ [b]) = (b :: L) ++ a :: [p, b] := by simp
      have e2 : b :: (L ++ [a] ++ [b]) = (b :: L) ++ a :: [b] := by simp
      rw [e1, e2, Zb5, Zb5 (b :: L) a [b]]
      simp only [cc]
      omega
theorem Fan.rot (h : Fan rs) : Fan (rs.drop k ++ rs.take k) := fun w hw => by
  rw [ZbC, ZbC (rs.drop k), List.take_append_drop]
  exact h w hw
theorem Fan.ins (h : Fan rs) (hk : k < rs.length) : Fan (ins rs k ((cy rs k).1 + (cy rs (k + 1)).1, (cy rs k).2 + (cy rs (k + 1)).2)) := fun w hw => by
  rw [Zcq hk ZgY, Zcq hk ZgZ]
  exact h w hw
theorem ZiS {f : Pt → Pt} {s : Int} (hs : s = 1 ∨ s = -1) (hf : ∀ p q, X (f p) (f q) = s * X p q) (w : Pt) (hw : w ≠ (0, 0)) : ∃ w' : Pt, w' ≠ (0, 0) ∧ ∀ a, X (f a) w = s * X a w' := by
  have d := hf (1, 0) (0, 1)
  have d1 : X (f (1, 0)) (f (0, 1)) = s := by rw [d]; simp [X]
  have lin : ∀ a, (f a).1 = a.1 * (f (1, 0)).1 + a.2 * (f (0, 1)).1 ∧ (f a).2 = a.1 * (f (1, 0)).2 + a.2 * (f (0, 1)).2 := by
    intro a
    have h1 := hf a (1, 0)
    have h2 := hf a (0, 1)
    generalize f a = u at *
    generalize f (1, 0) = e1 at *
    generalize f (0, 1) = e2 at *
    unfold X at *
    rcases hs with rfl | rfl <;> constructor <;> grind
  refine ⟨(X w (f (0, 1)) * s, X (f (1, 0)) w * s), ?_, ?_⟩
  · intro z
    apply hw
    have z1 := congrArg Prod.fst z
    have z2 := congrArg Prod.snd z
    simp only at z1 z2
    generalize f (1, 0) = e1 at *
    generalize f (0, 1) = e2 at *
    unfold X at *
    apply Prod.ext
    · rcases hs with rfl | rfl <;> simp only [] <;> grind
    · rcases hs with rfl | rfl <;> simp only [] <;> grind
  · intro a
    obtain ⟨l1, l2⟩ := lin a
    unfold X
    rw [l1, l2]
    rcases hs with rfl | rfl <;> simp only [] <;> grind
theorem Fan.map (h : Fan rs) {f : Pt → Pt} (hf : ∀ p q, X (f p) (f q) = X p q) : Fan (rs.map f) := fun w hw => by
  obtain ⟨w', hw', e⟩ := ZiS (s := 1) (.inl rfl) (fun p q => by rw [hf, Int.one_mul]) w hw
  have e2 : ∀ a, X w (f a) = X w' a := fun a => by rw [Zfy, e, Zfy (p := w')]; omega
  have c1 : ∀ a b, in1 w (f a) (f b) = in1 w' a b := fun a b => by unfold in1; rw [e, e2, Int.one_mul]
  have c2 : ∀ a b, in2 w (f a) (f b) = in2 w' a b := fun a b => by unfold in2; rw [e, e2, Int.one_mul]
  rw [Zdc, Zdc, show (fun a b => in1 w (f a) (f b)) = in1 w' from funext fun a => funext fun b => c1 a b, show (fun a b => in2 w (f a) (f b)) = in2 w' from funext fun a => funext fun b => c2 a b]
  exact h w' hw'
theorem Fan.flip (h : Fan rs) {f : Pt → Pt} (hf : ∀ p q, X (f p) (f q) = -1 * X p q) : Fan (rs.map f).reverse := fun w hw => by
  obtain ⟨w', hw', e⟩ := ZiS (s := -1) (.inr rfl) hf w hw
  have e2 : ∀ a, X w (f a) = -1 * X w' a := fun a => by rw [Zfy, e, Zfy (p := w')]; omega
  have c1 : ∀ a b, in1 w (f b) (f a) = in2 w' a b := fun a b => by
    unfold in1 in2
    rw [e, e2, Zfy (p := b)]
    have := Zfy (p := a) (q := w')
    simp only [show (0 ≤ -1 * (0 - X w' b) ∧ 0 < -1 * X w' a) = (0 < X a w' ∧ 0 ≤ X w' b) from propext ⟨fun _ => by omega, fun _ => by omega⟩]
  have c2 : ∀ a b, in2 w (f b) (f a) = in1 w' a b := fun a b => by
    unfold in1 in2
    rw [e, e2, Zfy (p := b)]
    have := Zfy (p := a) (q := w')
    simp only [show (0 < -1 * (0 - X w' b) ∧ 0 ≤ -1 * X w' a) = (0 ≤ X a w' ∧ 0 < X w' b) from propext ⟨fun _ => by omega, fun _ => by omega⟩]
  rw [ZgX, ZgX, Zdc, Zdc, show (fun a b => in1 w (f b) (f a)) = in2 w' from funext fun a => funext fun b => c1 a b, show (fun a b => in2 w (f b) (f a)) = in1 w' from funext fun a => funext fun b => c2 a b]
  exact ⟨(h w' hw').2, (h w' hw').1⟩
structure Smo (rs : List Pt) : Prop where
  len : 3 ≤ rs.length
  one : ∀ i : Int, X (cy rs i) (cy rs (i + 1)) = 1
  fan : Fan rs
noncomputable def Nr (b : Int) (rs : List Pt) : Prop := ∀ p ∈ rs, (-b ≤ p.1 ∧ p.1 ≤ b) ∧ -b ≤ p.2 ∧ p.2 ≤ b
theorem Smo.ne (h : Smo rs) : rs ≠ [] := by
  intro z
  have := h.len
  rw [z] at this
  simp at this
theorem Nr.cy {b : Int} (h : Nr b rs) (hn : rs ≠ []) (i : Int) : (-b ≤ (cy rs i).1 ∧ (cy rs i).1 ≤ b) ∧ -b ≤ (cy rs i).2 ∧ (cy rs i).2 ≤ b := h _ (Zco hn)
theorem Smo.ins (h : Smo rs) (hk : k < rs.length) : Smo (ins rs k ((cy rs k).1 + (cy rs (k + 1)).1, (cy rs k).2 + (cy rs (k + 1)).2)) := by
  have hL := Zdb (p := ((cy rs k).1 + (cy rs (k + 1)).1, (cy rs k).2 + (cy rs (k + 1)).2)) hk
  refine ⟨by rw [hL]; have := h.len; omega, ?_, h.fan.ins hk⟩
  refine Zcp (P := fun a b => X a b = 1) (by omega) ?_
  intro i h0 h1
  rw [hL] at h1
  rw [ZiP hk h0 (by omega), ZiP hk (by omega) (by omega)]
  have ok := h.one k
  by_cases c1 : i + 1 ≤ k
  · rw [if_pos (by omega), if_pos c1]; exact h.one i
  · rw [if_neg c1]
    by_cases c2 : i = k
    · subst c2
      rw [if_pos (by omega), if_pos rfl]
      unfold X at *
      grind
    · rw [if_neg (by omega : ¬ i ≤ (k : Int)), if_neg (by omega : ¬ i + 1 = (k : Int) + 1)]
      by_cases c3 : i = k + 1
      · subst c3
        rw [if_pos rfl]
        have : (k : Int) + 1 + 1 - 1 = k + 1 := by omega
        rw [this]
        unfold X at *
        grind
      · rw [if_neg c3]
        have := h.one (i - 1)
        have e : i - 1 + 1 = i + 1 - 1 := by omega
        rw [e] at this
        exact this
theorem Smo.rot (h : Smo rs) (hk : k ≤ rs.length) : Smo (rs.drop k ++ rs.take k) := by
  refine ⟨by have := h.len; simp; omega, fun i => ?_, h.fan.rot⟩
  rw [ZcR hk, ZcR hk]
  have := h.one (i + k)
  have e : i + (k : Int) + 1 = i + 1 + k := by omega
  rw [e] at this
  exact this
theorem Smo.map (h : Smo rs) {f : Pt → Pt} (hf : ∀ p q, X (f p) (f q) = X p q) : Smo (rs.map f) := by
  refine ⟨by have := h.len; simp; omega, fun i => ?_, h.fan.map hf⟩
  rw [Ze8 h.ne, Ze8 h.ne, hf]
  exact h.one i
theorem Nr.ins {b : Int} (h : Nr b rs) (hp : (-b ≤ p.1 ∧ p.1 ≤ b) ∧ -b ≤ p.2 ∧ p.2 ≤ b) : Nr b (ins rs k p) := by
  intro q hq
  rcases List.mem_append.mp hq with hq | hq
  · exact h q (List.mem_of_mem_take hq)
  · rcases List.mem_cons.mp hq with hq | hq
    · subst hq; exact hp
    · exact h q (List.mem_of_mem_drop hq)
theorem Nr.rot {b : Int} (h : Nr b rs) : Nr b (rs.drop k ++ rs.take k) := by
  intro q hq
  rcases List.mem_append.mp hq with hq | hq
  · exact h q (List.mem_of_mem_drop hq)
  · exact h q (List.mem_of_mem_take hq)
end
end DL
end
section
set_option Elab.async false
set_option linter.all false
set_option maxRecDepth 100000
set_option maxHeartbeats 4000000
namespace CC
open PySem PySem.Spec L2 DL
noncomputable def ZV : Sv := (ZM (e2 dSub (e2 dMul (e2 dIx (Zd 0) (eC (.int 0))) (e2 dIx (Zd 1) (eC (.int 1)))) (e2 dMul (e2 dIx (Zd 0) (eC (.int 1))) (e2 dIx (Zd 1) (eC (.int 0))))))
noncomputable def F_crossed : List D → Sto → Out D := fnF ZV 2 0
noncomputable def ZW : Sv := (ZM (e2 dIx (Zd 0) (e2 dMod (e2 dAdd (Zd 1) (eC (.int 1))) (Zh bLen (Za (Zd 0) aNil)))))
noncomputable def F_following : List D → Sto → Out D := fnF ZW 2 0
noncomputable def ZN : Sv := (sIf (tv (e2 dNe (Zh F_crossed (Za (Zd 2) (Za (Zh F_following (Za (Zd 0) (Za (Zd 1) aNil))) aNil))) (eC (.int 1)))) (ZM (Zd 1)) sNil)
noncomputable def Zac : Sv := (Zs (Zc5 (gTp (gCs (gNm 1) (gCs (gNm 2) gNl))) (iEn (Za (Zd 0) aNil)) ZN)
  (ZM (eC .non)))
noncomputable def F_unspanned : List D → Sto → Out D := fnF Zac 1 2
noncomputable def Z1 : Sv := (Zs (ZI (gNm 1) (Zh F_unspanned (Za (Zd 0) aNil)))
  (sIf (tv (e2 dIsNot (Zd 1) (eC .non))) (Za3 (PySem.Str.ofString "NotSmooth") (Za (eFs (ZbB (eC (.str (PySem.Str.ofString "ray "))) (ZbB (eFm (Zd 1)) (ZbB (eC (.str (PySem.Str.ofString " does not cross the next one in 1"))) jNil)))) aNil)) sNil))
noncomputable def F_ask_smooth : List D → Sto → Out D := fnF Z1 1 1
end CC
end
set_option maxRecDepth 100000
open PySem PySem.Spec L2 DL
local macro_rules | `(tactic| simp! [$ls,*]) => `(tactic| simp (implicitDefEqProofs := false) (disch := omega) only [Zrw, y_c, y_v, Zmv, ZoI, Zmw, ZoJ, ZoK, ZoL, Zmx, ZoN, Zmy, Zrx, Zry, ZrA, ZoO, ZrB, ZoP, Zmz, ZoQ, ZmA, ZrC, ZoR, ZrD, ZmB, ZoS, ZmC, ZoT, ZmD, ZoU, ZoV, ZoW, ZmE, ZmF, ZrE, ZrF, ZoX, ZoY, ZmG, ZoZ, Zo0, Zj8, ZmH, ZmI, Zo1, ZmJ, ZmK, ZmL, Zo2, ZmM, ZrJ, ZrK, ZrL, Zo3, Zo4, Zo5, ZrM, ZrN, ZrO, Zo6, Zo7, ZrP, ZrQ, ZrR, Zo8, Zo9, Zig, Zpa, Zpb, Zpc, ZmO, Zj9, Zpd, ZmP, ZrS, Zpe, Zpf, Zpg, Zph, ZmR, ZrT, Zpi, Zpj, Zpk, ZrU, Zpm, Zpn, Zpo, ZmS, kU, kQ, kB2, kB1, kA2, kA1, kTu, kLs, kTy, kIf, kTA, kTO, kTN, kSq, kDr, kSi, kAs, kAt, Zp0, kPa, Zp1, Zp2, Zp3, Zp4, Zp5, Zp6, kPu, kRa, Zp7, Zp8, kR1, Zp9, Zqa, Zqb, kR2, kFo, kFs, kTr, Zqc, Zqd, kS1, Zqe, Zqf, Zqg, kS2, Zqh, kEn, Zqi, Zqj, kZp, Zqk, Zql, Zqm, kRv, ZmN, Zqn, ZnF, kEq, kNe, kIx, Zqo, kLi, Zqp, kAl, Zqq, Zqr, kMt, Zqs, Zqt, ZmQ, Zqu, Zka, Zqv, kCn, Zqw, Zqx, Zqy, Zqz, ZqA, ZqB, Zpl, Zh9, Ze6, ZjZ, Zic, Zid, Zia, Zib, Zj0, Zif, Zie, Zj2, Zj1, Zmg, decide_eq_true, decide_eq_false, wF1, wF2, wF3, wF4, Zo, ZlQ, Zrb, Zrc, Zrd, Zre, Zrf, Zrg, Zq9, Zra, Zof, Zog, Zoh, Zl0, Zoi, Zoj, Zok, Zri, Zrj, Zrk, Zrl, Zl1, Zl3, Zl4, Zoq, Zor, Zos, Zl5, Zl6, ZjY, Zl8, Zl9, Zh7, ZoE, ZoF, ZoG, ZoH, id, roB, at0, at1, at2, at3, gTp, gCs, gNl, gNm, List.set_cons_zero, List.set_cons_succ, List.getElem?_cons_zero, List.getElem?_cons_succ, List.length_cons, List.length_nil, List.length_append, List.length_map, List.map_cons, List.map_nil, List.cons_append, List.nil_append, List.append_assoc, List.append_nil, List.replicate_succ, List.replicate_zero, Option.join_some, Option.isSome_some, ZdU, Zh8, ZcC, ZiJ, ZoA, Ze5, ZiK, ZB, ZaU, ZoB, Zrq, ZoC, Zmc, ZoD, Zmd, Zme, Zmh, Zmi, Zmj, Zmk, Zml, Zmm, Zmn, Zmo, Zmp, Zmq, Zmr, Zms, true_and, and_true, Bool.not_true, Bool.not_false, decide_true, decide_false, Nat.reduceAdd, Nat.reduceLeDiff, Nat.reduceLT, Nat.add_zero, Nat.zero_add, Int.reducePow, Int.reduceToNat, Int.reduceNeg, Int.reduceMod, Int.reduceDiv, Int.reduceAdd, Int.reduceSub, Int.reduceMul, Int.cast_ofNat_Int, Int.reduceEq, Int.reduceLT, Int.reduceLE, $ls,*])
section
set_option Elab.async false
set_option linter.all false
set_option maxRecDepth 100000
set_option maxHeartbeats 4000000
namespace CC
open PySem PySem.Spec L2 DL
section
variable {Q : D → Sto → Prop} {E : Str → Sto → Prop} {M : Sto} {a b c d i : Int} {n : Nat} {rs : List Pt}
theorem Zcr (ha : -(18446744073709551616) < a ∧ a < 18446744073709551616) (hb : -(18446744073709551616) < b ∧ b < 18446744073709551616) : wO (F_crossed [pr a b, pr c d] M) Q E = Q (.int (a * d - b * c)) M := by
  simp! [F_crossed, ZV]
theorem Zcs (h : M[n]? = some (.lst (prs rs))) (hi : 0 ≤ i ∧ i < rs.length) : wO (F_following [.ref n, .int i] M) Q E = Q (pr (cy rs (i + 1)).1 (cy rs (i + 1)).2) M := by
  have e := Zat (i := i + 1) (m := rs.length) (by omega)
  simp! [F_following, ZW, h, ZcN, ZcO]
theorem ZbD {rs : List Pt} {i : Nat} (h : i < (prs rs).length) : (prs rs)[i] = pr (cy rs i).1 (cy rs i).2 := by
  have h' : i < rs.length := by rw [ZB] at h; exact h
  rw [ZcQ h']
  simp [prs]
theorem Nr.big {b : Int} {rs : List Pt} (h : Nr b rs) (hb : b ≤ 18446744073709551615) (hn : rs ≠ []) (i : Int) : (-(18446744073709551616) < (cy rs i).1 ∧ (cy rs i).1 < 18446744073709551616) ∧ (-(18446744073709551616) < (cy rs i).2 ∧ (cy rs i).2 < 18446744073709551616) := by
  have := Nr.cy h hn i
  omega
theorem Zes (h : M[n]? = some (.lst (prs rs))) (hs : Smo rs) (hb : Nr 18446744073709551615 rs) (k : Q .non M) : wO (F_unspanned [.ref n] M) Q E := by
  simp! [F_unspanned, Zac]
  refine ZiN (fun i ρ M' => M' = M ∧ ∃ x y, ρ = [some (.ref n), x, y]) h ⟨rfl, _, _, rfl⟩ (fun i ρ M' hI => by rw [hI.1]; exact h) ?_ ?_
  · rintro i ρ M' hi ⟨rfl, x, y, rfl⟩
    have b1 := Nr.big hb (by decide) hs.ne i
    have o1 := hs.one i
    have hi' : i < rs.length := by rw [ZB] at hi; exact hi
    rw [ZbD]
    simp! [ZN, Zcs h, Zcr]
    unfold X at o1
    rw [o1]
    simp! [Zo]
    exact ⟨_, _, rfl⟩
  · rintro ρ M' ⟨rfl, x, y, rfl⟩
    simp! [Zo]
    exact k
theorem Zb6 (h : M[n]? = some (.lst (prs rs))) (hs : Smo rs) (hb : Nr 18446744073709551615 rs) (k : Q .non M) : wO (F_ask_smooth [.ref n] M) Q E := by
  simp! [F_ask_smooth, Z1]
  refine Zes h hs hb ?_
  simp! [Zo]
  exact k
theorem ZaI {xs : List Int} : Za6 (nts xs) = some xs := by
  induction xs with
  | nil => rfl
  | cons x r ih => show (match Za6 (nts r) with | some bs => some (x :: bs) | none => none) = _; rw [ih]
theorem Zct {w a b : Pt} {p q : Int} (h1 : X a w = p) (h2 : X w b = q) : in1 w a b = if 0 ≤ p ∧ 0 < q then 1 else 0 := by unfold in1; rw [h1, h2]
theorem Zcu {w a b : Pt} {p q : Int} (h1 : X a w = p) (h2 : X w b = q) : in2 w a b = if 0 < p ∧ 0 ≤ q then 1 else 0 := by unfold in2; rw [h1, h2]
theorem ZrW : Fan [(1, 0), (0, 1), (-1, -1)] := by
  rintro ⟨x, y⟩ hw
  have hw' : ¬ (x = 0 ∧ y = 0) := fun z => hw (by rw [z.1, z.2])
  have a1 : X (1, 0) (x, y) = y := by simp [X]
  have a2 : X (0, 1) (x, y) = -x := by simp [X]
  have a3 : X (-1, -1) (x, y) = x - y := by simp [X]; omega
  have b1 : X (x, y) (0, 1) = x := by simp [X]
  have b2 : X (x, y) (-1, -1) = y - x := by simp [X]; omega
  have b3 : X (x, y) (1, 0) = -y := by simp [X]
  simp only [cyc, List.take_succ_cons, List.take_zero, List.cons_append, List.nil_append, cc]
  rw [Zct a1 b1, Zct a2 b2, Zct a3 b3, Zcu a1 b1, Zcu a2 b2, Zcu a3 b3]
  constructor
  all_goals
    repeat' split
    all_goals omega
theorem ZrX (f : Int) : Fan [(1, 0), (0, 1), (-1, f), (0, -1)] := by
  rintro ⟨x, y⟩ hw
  have hw' : ¬ (x = 0 ∧ y = 0) := fun z => hw (by rw [z.1, z.2])
  have h0 : x = 0 → x * f = 0 := fun z => by rw [z, Int.zero_mul]
  have a1 : X (1, 0) (x, y) = y := by simp [X]
  have a2 : X (0, 1) (x, y) = -x := by simp [X]
  have a3 : X (-1, f) (x, y) = -y - x * f := by unfold X; simp only; grind
  have a4 : X (0, -1) (x, y) = x := by simp [X]
  have b1 : X (x, y) (0, 1) = x := by simp [X]
  have b2 : X (x, y) (-1, f) = x * f + y := by unfold X; simp only; grind
  have b3 : X (x, y) (0, -1) = -x := by simp [X]
  have b4 : X (x, y) (1, 0) = -y := by simp [X]
  simp only [cyc, List.take_succ_cons, List.take_zero, List.cons_append, List.nil_append, cc]
  rw [Zct a1 b1, Zct a2 b2, Zct a3 b3, Zct a4 b4, Zcu a1 b1, Zcu a2 b2, Zcu a3 b3, Zcu a4 b4]
  generalize x * f = z at *
  constructor
  all_goals
    repeat' split
    all_goals omega
theorem ZrY : Smo [(1, 0), (0, 1), (-1, -1)] := by
  refine ⟨by decide, Zcp (P := fun a b => X a b = 1) (by decide) ?_, ZrW⟩
  intro i h0 h1
  have : i = 0 ∨ i = 1 ∨ i = 2 := by simp at h1; omega
  rcases this with rfl | rfl | rfl <;> rfl
theorem ZrZ (f : Int) : Smo [(1, 0), (0, 1), (-1, f), (0, -1)] := by
  refine ⟨by simp, Zcp (P := fun a b => X a b = 1) (by simp) ?_, ZrX f⟩
  intro i h0 h1
  have : i = 0 ∨ i = 1 ∨ i = 2 ∨ i = 3 := by simp at h1; omega
  rcases this with rfl | rfl | rfl | rfl <;> simp [X, cy]
end
end CC
end
section
set_option Elab.async false
set_option linter.all false
set_option maxRecDepth 100000
set_option maxHeartbeats 4000000
namespace DL
noncomputable def T (rs : List Pt) (i : Int) : Int := 0 - X (cy rs (i - 1)) (cy rs (i + 1))
noncomputable def ZbE (rs : List Pt) : List Int := (List.range rs.length).map fun (i : Nat) => T rs i
section
variable {rs : List Pt} {k : Nat} {p : Pt} {j : Int}
theorem ZdW : (ZbE rs).length = rs.length := by simp [ZbE]
end
end DL
namespace CC
open PySem PySem.Spec L2 DL
section
variable {Q : D → Sto → Prop} {E : Str → Sto → Prop} {M : Sto} {a b c d i : Int} {n : Nat} {rs : List Pt}
end
end CC
end
section
set_option Elab.async false
set_option linter.all false
set_option maxRecDepth 100000
set_option maxHeartbeats 4000000
namespace DL
noncomputable def del (rs : List Pt) (k : Nat) : List Pt := rs.take k ++ rs.drop (k + 1)
section
variable {rs : List Pt} {k : Nat} {p : Pt} {j : Int}
theorem nbr (hs : Smo rs) (i : Int) : (cy rs (i - 1)).1 + (cy rs (i + 1)).1 = 0 - T rs i * (cy rs i).1 ∧ (cy rs (i - 1)).2 + (cy rs (i + 1)).2 = 0 - T rs i * (cy rs i).2 := by
  have o1 := hs.one (i - 1)
  have o2 := hs.one i
  rw [show i - 1 + 1 = i by omega] at o1
  unfold T X at *
  constructor <;> grind
theorem ZiT (p q : Pt) : X p q = 0 - X q p := by unfold X; grind
theorem Zkb (hs : Smo rs) (i : Int) : (cy rs i = ((cy rs (i - 1)).1 + (cy rs (i + 1)).1, (cy rs (i - 1)).2 + (cy rs (i + 1)).2)) ↔ T rs i = -1 := by
  obtain ⟨n1, n2⟩ := nbr hs i
  rw [n1, n2]
  have o2 := hs.one i
  constructor
  · intro e
    generalize cy rs i = v at *
    generalize cy rs (i + 1) = w at *
    obtain ⟨v1, v2⟩ := v
    obtain ⟨w1, w2⟩ := w
    simp only [Prod.mk.injEq, X] at *
    obtain ⟨e1, e2⟩ := e
    have : (T rs i + 1) * (v1 * w2 - v2 * w1) = 0 := by grind
    rw [o2] at this
    omega
  · intro e
    rw [e]
    apply Prod.ext <;> simp
theorem Zdd (hk : k < rs.length) : (del rs k).length = rs.length - 1 := by simp [del]; omega
theorem Zg1 (hk : k < rs.length) (h0 : 0 ≤ j) (h1 : j < rs.length - 1) : cy (del rs k) j = if j < k then cy rs j else cy rs (j + 1) := by
  have hL := Zdd hk
  rw [Za7 (by rw [hL]; omega)]
  unfold del
  rw [List.getD_eq_getElem?_getD]
  by_cases c1 : j < k
  · rw [if_pos c1, Za7 (by omega), List.getD_eq_getElem?_getD, List.getElem?_append_left (by simp; omega), List.getElem?_take_of_lt (by omega)]
  · have hl : (rs.take k).length = k := by simp; omega
    rw [if_neg c1, Za7 (by omega), List.getD_eq_getElem?_getD, List.getElem?_append_right (by rw [hl]; omega), hl, List.getElem?_drop]
    congr 2
    omega
theorem Zkc (hk : k < rs.length) (hn : 3 ≤ rs.length) (hj : j = rs.length - 1) : cy (del rs k) j = if k = 0 then cy rs (rs.length + 1) else cy rs rs.length := by
  have hL := Zdd hk
  have e := ZcP (rs := del rs k) (i := j)
  rw [hL] at e
  rw [← e, show j - ((rs.length - 1 : Nat) : Int) = 0 by omega, Zg1 hk (by omega) (by omega)]
  by_cases c : k = 0
  · rw [if_neg (by omega), if_pos c, ← ZbO (rs := rs) (i := 0 + 1)]
    exact congrArg _ (by omega)
  · rw [if_pos (by omega), if_neg c, ← ZbO (rs := rs) (i := 0)]
    exact congrArg _ (by omega)
end
end DL
end
section
set_option Elab.async false
set_option linter.all false
set_option maxRecDepth 100000
set_option maxHeartbeats 4000000
namespace DL
noncomputable def nm (p : Pt) : Int := p.1 * p.1 + p.2 * p.2
theorem Zg2 (x : Int) : 0 ≤ x * x := by
  rcases Int.le_total 0 x with h | h
  · exact Int.mul_nonneg h h
  · exact Int.mul_nonneg_of_nonpos_of_nonpos h h
theorem ZqD {x : Int} (h : x * x ≤ 0) : x = 0 := by
  have := Zg2 x
  have : x * x = 0 := by omega
  rcases Int.mul_eq_zero.mp this with h | h <;> exact h
theorem ZmU (p : Pt) : 0 ≤ nm p := by have := Zg2 p.1; have := Zg2 p.2; unfold nm; omega
theorem big {p q r : Pt} {a : Int} (h1 : X p q = 1) (h2 : X q r = 1) (e1 : p.1 + r.1 = a * q.1) (e2 : p.2 + r.2 = a * q.2) (hp : nm p ≤ nm q) (hr : nm r ≤ nm q) : a ≤ 1 := by
  apply Classical.byContradiction
  intro c
  have ha : 2 ≤ a := by omega
  have k : a * a * nm q + nm (p.1 - r.1, p.2 - r.2) = 2 * nm p + 2 * nm r := by
    have : a * a * nm q = (a * q.1) * (a * q.1) + (a * q.2) * (a * q.2) := by unfold nm; grind
    rw [this, ← e1, ← e2]
    unfold nm
    grind
  have k4 : 4 * nm q ≤ a * a * nm q := Int.mul_le_mul_of_nonneg_right (by have : 2 * 2 ≤ a * a := Int.mul_le_mul ha ha (by omega) (by omega); omega) (ZmU q)
  have d := ZmU (p.1 - r.1, p.2 - r.2)
  have d0 : nm (p.1 - r.1, p.2 - r.2) ≤ 0 := by omega
  unfold nm at d0
  simp only at d0
  have s1 := Zg2 (p.1 - r.1)
  have s2 := Zg2 (p.2 - r.2)
  have z1 := ZqD (x := p.1 - r.1) (by omega)
  have z2 := ZqD (x := p.2 - r.2) (by omega)
  have f1 : p.1 = r.1 := by omega
  have f2 : p.2 = r.2 := by omega
  unfold X at h1 h2
  rw [f1, f2] at h1
  have : r.1 * q.2 - r.2 * q.1 = -(q.1 * r.2 - q.2 * r.1) := by grind
  omega
theorem ZmV {p q r : Pt} (h1 : X p q = 1) (h2 : X q r = 1) : p.1 + r.1 = X p r * q.1 ∧ p.2 + r.2 = X p r * q.2 := by
  unfold X at *
  constructor <;> grind
theorem Zg3 {w a b : Pt} (h1 : 0 ≤ X a w) (h2 : 0 < X w b) : in1 w a b = 1 := by unfold in1; rw [if_pos ⟨h1, h2⟩]
theorem XX (p : Pt) : X p p = 0 := by unfold X; grind
theorem Zr0 {w : Pt} : ∀ (xs : List Pt) (p q : Pt), (∀ L a b d R, p :: q :: (xs ++ [w]) = L ++ a :: b :: d :: R → X a b = 1 ∧ X b d = 1 ∧ 2 ≤ X a d) → X q w + 1 ≤ X p w ∧ xs.length + 1 ≤ X q w
  | [], p, q, h => by
    obtain ⟨h1, h2, h3⟩ := h [] p q w [] rfl
    rw [h2]
    simp
    omega
  | r :: xs, p, q, h => by
    have ih := Zr0 xs q r fun L a b d R e => h (p :: L) a b d R (by rw [List.cons_append, e]; simp)
    obtain ⟨h1, h2, h3⟩ := h [] p q r (xs ++ [w]) rfl
    have t := ZmV h1 h2
    have e : X p w = X p r * X q w - X r w := by
      have : X p w = (X p r * q.1 - r.1) * w.2 - (X p r * q.2 - r.2) * w.1 := by
        rw [← t.1, ← t.2]
        unfold X
        grind
      rw [this]
      generalize X p r = m
      unfold X
      grind
    have : 2 * X q w ≤ X p r * X q w := Int.mul_le_mul_of_nonneg_right h3 (by omega)
    simp only [List.length_cons]
    omega
theorem Ze9 (f : Pt → Int) : ∀ (rs : List Pt), rs ≠ [] → ∃ p ∈ rs, ∀ q ∈ rs, f q ≤ f p
  | [], h => absurd rfl h
  | [p], _ => ⟨p, by simp, fun q hq => by simp at hq; rw [hq]; omega⟩
  | p :: q :: r, _ => by
    obtain ⟨m, hm, h⟩ := Ze9 f (q :: r) (by simp)
    by_cases c : f m ≤ f p
    · refine ⟨p, by simp, fun x hx => ?_⟩
      rcases List.mem_cons.mp hx with rfl | hx
      · omega
      · have := h x hx; omega
    · refine ⟨m, by simp [hm], fun x hx => ?_⟩
      rcases List.mem_cons.mp hx with rfl | hx
      · omega
      · exact h x hx
end DL
namespace DL
section
variable {rs : List Pt} {k : Nat}
theorem Zet {f : Pt → Pt → Nat} {a b p : Pt} {L R Y : List Pt} (e : R ++ L = b :: (Y ++ [a])) (hf : f a b = f a p + f p b) : cyc f (L ++ R) = cyc f (L ++ p :: R) := by
  rw [ZbC L R, e, ZbC L, List.cons_append, e]
  simp only [ZaV, List.cons_append, cc]
  have e1 : b :: (Y ++ [a] ++ [p]) = (b :: Y) ++ a :: [p] := by simp
  have e2 : b :: (Y ++ [a] ++ [b]) = (b :: Y) ++ a :: [b] := by simp
  rw [e1, e2, Zb5 (b :: Y) a [p], Zb5 (b :: Y) a [b]]
  simp only [cc]
  omega
theorem Smo.del (h : Smo rs) (hk : k < rs.length) (h4 : 4 ≤ rs.length) (ht : T rs k = -1) : Smo (del rs k) := by
  have hL := Zdd hk
  have sm := (Zkb h k).mpr ht
  refine ⟨by omega, ?_, ?_⟩
  · refine Zcp (P := fun a b => X a b = 1) (by omega) ?_
    intro j h0 h1
    rw [hL] at h1
    have xk : X (cy rs (k - 1)) (cy rs (k + 1)) = 1 := by unfold T at ht; omega
    rw [Zg1 hk h0 (by omega)]
    by_cases c : j + 1 < rs.length - 1
    · rw [Zg1 hk (by omega) (by omega)]
      by_cases c1 : j + 1 < k
      · rw [if_pos (by omega), if_pos c1]; exact h.one j
      · by_cases c2 : j + 1 = k
        · rw [if_pos (by omega), if_neg c1, show j = (k : Int) - 1 by omega, show (k : Int) - 1 + 1 + 1 = k + 1 by omega]
          exact xk
        · rw [if_neg (by omega), if_neg c1]; exact h.one (j + 1)
    · have jE : j + 1 = rs.length - 1 := by omega
      rw [Zkc hk (by omega) jE]
      by_cases c0 : k = 0
      · subst c0
        rw [if_neg (by omega), if_pos rfl, show j + 1 = ((0 : Nat) : Int) - 1 + rs.length by omega, ZbO, show (rs.length : Int) + 1 = ((0 : Nat) : Int) + 1 + rs.length by omega, ZbO]
        exact xk
      · rw [if_neg c0]
        by_cases c2 : j + 1 = k
        · rw [if_pos (by omega), show j = (k : Int) - 1 by omega, show (rs.length : Int) = k + 1 by omega]
          exact xk
        · rw [if_neg (by omega), show j + 1 = (rs.length : Int) - 1 by omega]
          have := h.one (rs.length - 1)
          rw [show (rs.length : Int) - 1 + 1 = rs.length by omega] at this
          exact this
  · intro w hw
    obtain ⟨L, p, R, e, hl⟩ : ∃ L a R, rs = L ++ a :: R ∧ L.length = k := ⟨rs.take k, rs[k], rs.drop (k + 1), by rw [List.getElem_cons_drop, List.take_append_drop], by simp; omega⟩
    have ed : DL.del rs k = L ++ R := by
      unfold DL.del
      rw [e, ← hl, List.take_append, List.drop_append, List.take_of_length_le (by omega), List.drop_eq_nil_of_le (by omega)]
      simp
    have lr : (R ++ L).length = rs.length - 1 := by rw [e]; simp; omega
    obtain ⟨b, Y, a, hY⟩ : ∃ b Y a, R ++ L = b :: (Y ++ [a]) := by
      match hRL : R ++ L, lr with
      | [], lr => simp at lr; omega
      | b :: r, lr =>
        have : r ≠ [] := by intro z; rw [z] at lr; simp at lr; omega
        exact ⟨b, r.dropLast, r.getLast this, by rw [List.dropLast_concat_getLast]⟩
    have hr := h.rot (k := k) (by omega)
    have er : rs.drop k ++ rs.take k = p :: (R ++ L) := by
      rw [e, ← hl, List.take_append, List.drop_append, List.take_of_length_le (by omega), List.drop_eq_nil_of_le (by omega)]
      simp
    have c0 : cy rs k = p := by rw [e, ← hl]; exact Zfz
    have cb : cy rs (k + 1) = b := by
      have := ZcR (rs := rs) (k := k) (i := 1) (by omega)
      rw [er, hY] at this
      rw [show (k : Int) + 1 = 1 + k by omega, ← this]
      exact Zih (L := []) (a := p) (b := b)
    have ca : cy rs (k - 1) = a := by
      have := ZcR (rs := rs) (k := k) (i := -1) (by omega)
      rw [er, hY] at this
      rw [show (k : Int) - 1 = -1 + k by omega, ← this, ← ZbO]
      have := Zfz (L := p :: b :: Y) (a := a) (R := [])
      rw [show (-1 : Int) + ((p :: b :: (Y ++ [a])).length : Nat) = ((p :: b :: Y).length : Nat) by simp; omega]
      simpa using this
    rw [c0, ca, cb] at sm
    rw [ed, Zet (p := p) hY (by rw [sm]; exact ZgY), Zet (p := p) hY (by rw [sm]; exact ZgZ), ← e]
    exact h.fan w hw
end
end DL
end
section
set_option Elab.async false
set_option linter.all false
set_option maxRecDepth 100000
set_option maxHeartbeats 4000000
namespace CE
open PySem PySem.Spec L2 DL
noncomputable def ZV : Sv := (ZM (e2 dSub (e2 dMul (e2 dIx (Zd 0) (eC (.int 0))) (e2 dIx (Zd 1) (eC (.int 1)))) (e2 dMul (e2 dIx (Zd 0) (eC (.int 1))) (e2 dIx (Zd 1) (eC (.int 0))))))
noncomputable def F_crossed : List D → Sto → Out D := fnF ZV 2 0
noncomputable def ZW : Sv := (ZM (e2 dIx (Zd 0) (e2 dMod (e2 dAdd (Zd 1) (eC (.int 1))) (Zh bLen (Za (Zd 0) aNil)))))
noncomputable def F_following : List D → Sto → Out D := fnF ZW 2 0
noncomputable def ZN : Sv := (sIf (tv (e2 dNe (Zh F_crossed (Za (Zd 2) (Za (Zh F_following (Za (Zd 0) (Za (Zd 1) aNil))) aNil))) (eC (.int 1)))) (ZM (Zd 1)) sNil)
noncomputable def Zac : Sv := (Zs (Zc5 (gTp (gCs (gNm 1) (gCs (gNm 2) gNl))) (iEn (Za (Zd 0) aNil)) ZN)
  (ZM (eC .non)))
noncomputable def F_unspanned : List D → Sto → Out D := fnF Zac 1 2
noncomputable def Z1 : Sv := (Zs (ZI (gNm 1) (Zh F_unspanned (Za (Zd 0) aNil)))
  (sIf (tv (e2 dIsNot (Zd 1) (eC .non))) (Za3 (PySem.Str.ofString "NotSmooth") (Za (eFs (ZbB (eC (.str (PySem.Str.ofString "ray "))) (ZbB (eFm (Zd 1)) (ZbB (eC (.str (PySem.Str.ofString " does not cross the next one in 1"))) jNil)))) aNil)) sNil))
noncomputable def F_ask_smooth : List D → Sto → Out D := fnF Z1 1 1
noncomputable def ZdX : Sv := (Zs (Zby (Zh F_ask_smooth (Za (Zd 0) aNil)))
  (ZM (ZT (iR1 (Za (Zh bLen (Za (Zd 0) aNil)) aNil)) 1 [0] (gNm 0) (fun _ M => .ok true M) (Zh F_crossed (Za (Zh F_following (Za (Zd 1) (Za (Zd 0) aNil))) (Za (e2 dIx (Zd 1) (e2 dSub (Zd 0) (eC (.int 1)))) aNil))))))
noncomputable def Zbd : List D → Sto → Out D := fnF ZdX 1 0
end CE
end
section
set_option Elab.async false
set_option linter.all false
set_option maxRecDepth 100000
set_option maxHeartbeats 4000000
namespace CE
open PySem PySem.Spec L2 DL
theorem Zg4 : F_crossed = CC.F_crossed := rfl
theorem Zeu : F_following = CC.F_following := rfl
theorem ZdY : F_ask_smooth = CC.F_ask_smooth := rfl
section
variable {Q : D → Sto → Prop} {E : Str → Sto → Prop} {M : Sto} {a b c d i : Int} {n : Nat} {rs : List Pt}
theorem Zg5 (h : M[n]? = some (.lst (prs rs))) (hs : Smo rs) (hl : rs.length ≤ 1000000) (hb : Nr 18446744073709551615 rs) (q : Q (.ref M.length) (M ++ [.lst (nts (ZbE rs))])) : wO (Zbd [.ref n] M) Q E := by
  have hm := Zn h
  have hn := hs.len
  simp! [Zbd, ZdX, ZdY]
  refine CC.Zb6 h hs hb ?_
  simp! [h]
  refine ⟨by omega, ?_⟩
  rw [show ((rs.length : Int)).toNat = rs.length by omega]
  refine ZrV (fun ρ => ∃ x, ρ = [x, some (.ref n)]) (fun (i : Nat) => .int (T rs i)) (by omega) ⟨_, rfl⟩ ?_ (by rw [Zda]; exact q)
  rintro i hi ρ L ⟨x, rfl⟩
  have b1 := CC.Nr.big hb (by decide) hs.ne (i + 1)
  have hL : (M ++ L)[n]? = some (.lst (prs rs)) := by rw [ZcC hm]; exact h
  simp! [Zeu, Zg4, CC.Zcs hL, h, ZcN, CC.Zcr]
  refine ⟨⟨_, rfl⟩, ?_⟩
  unfold T
  rw [← ZiT]
  rfl
end
end CE
end
section
set_option Elab.async false
set_option linter.all false
set_option maxRecDepth 100000
set_option maxHeartbeats 4000000
namespace CF
open PySem PySem.Spec L2 DL CC
end CF
end
section
set_option Elab.async false
set_option linter.all false
set_option maxRecDepth 100000
set_option maxHeartbeats 4000000
namespace CF
open PySem PySem.Spec L2 DL
section
variable {Q : D → Sto → Prop} {E : Str → Sto → Prop} {M : Sto} {a b c d i : Int} {n : Nat} {rs : List Pt}
noncomputable def Rgh (rs : List Pt) : Prop := ∃ i : Nat, i < rs.length ∧ X (cy rs i) (cy rs (i + 1)) ≠ 1
theorem Rgh.ne (h : Rgh rs) : rs ≠ [] := by
  obtain ⟨i, hi, _⟩ := h
  intro z
  rw [z] at hi
  simp at hi
theorem Nr.del {b : Int} {k : Nat} (h : Nr b rs) : Nr b (del rs k) := fun p hp => h p (by
  rcases List.mem_append.mp hp with z | z
  · exact List.mem_of_mem_take z
  · exact List.mem_of_mem_drop z)
end
end CF
end
section
set_option Elab.async false
set_option linter.all false
set_option maxRecDepth 100000
set_option maxHeartbeats 4000000
namespace DL
open PySem PySem.Spec L2 DL
section
variable {M : Sto}
end
end DL
end
section
set_option Elab.async false
set_option linter.all false
set_option maxRecDepth 100000
set_option maxHeartbeats 4000000
namespace CB
open PySem PySem.Spec L2 DL
noncomputable def ZV : Sv := (ZM (e2 dSub (e2 dMul (e2 dIx (Zd 0) (eC (.int 0))) (e2 dIx (Zd 1) (eC (.int 1)))) (e2 dMul (e2 dIx (Zd 0) (eC (.int 1))) (e2 dIx (Zd 1) (eC (.int 0))))))
noncomputable def F_crossed : List D → Sto → Out D := fnF ZV 2 0
noncomputable def ZaW : Sv := (Zs (ZI (gNm 2) (eC (.int 0)))
  (Zs (sIf (tv (e2 dLt (Zd 1) (Zh bLen (Za (Zd 0) aNil)))) (ZI (gNm 2) (e2 dIx (Zd 0) (Zd 1))) sNil)
  (Zs (ZI (gNm 3) (e2 dMod (Zd 2) (e2 dMul (e2 dPow (eC (.int 10)) (eC (.int 60))) (e2 dPow (eC (.int 10)) (eC (.int 30))))))
  (ZM (Za5 (Za (e2 dMul (Zd 3) (Zh bInt (Za (e2 dGe (Zd 3) (e2 dPow (eC (.int 10)) (eC (.int 18)))) aNil))) (Za (e2 dAdd (e2 dAdd (e2 dMod (Zd 2) (eC (.int 2147483647))) (e2 dMul (eC (.int 7919)) (Zd 1))) (eC (.int 1))) aNil)))))))
noncomputable def F_law_purse : List D → Sto → Out D := fnF ZaW 2 2
noncomputable def ZaP : Sv := (Zs (sIf (tv (e2 dGt (e2 dIx (Zd 0) (eC (.int 0))) (eC (.int 0)))) (Zs (ZI (gNm 2) (e2 dMod (e2 dIx (Zd 0) (eC (.int 0))) (Zd 1)))
  (Zs (ZhP (Zd 0) (eC (.int 0)) (e2 dDiv (e2 dIx (Zd 0) (eC (.int 0))) (Zd 1)))
  (ZM (Zd 2)))) sNil)
  (Zs (ZhP (Zd 0) (eC (.int 1)) (e2 dMod (e2 dAdd (e2 dMul (e2 dIx (Zd 0) (eC (.int 1))) (eC (.int 48271))) (eC (.int 12345))) (eC (.int 2147483647))))
  (ZM (e2 dMod (e2 dDiv (e2 dMod (e2 dMul (e2 dIx (Zd 0) (eC (.int 1))) (eC (.int 69621))) (eC (.int 2147483629))) (eC (.int 5))) (Zd 1)))))
noncomputable def F_law_take : List D → Sto → Out D := fnF ZaP 2 1
end CB
end
section
set_option Elab.async false
set_option linter.all false
set_option maxRecDepth 100000
set_option maxHeartbeats 4000000
namespace DL
noncomputable def hj (t b : Int) : List Int := if h : 0 < b then -((-t) / b) :: hj b (-((-t) / b) * b - t) else []
termination_by b.toNat
decreasing_by
  have h1 := Int.emod_nonneg (-t) (show b ≠ 0 by omega)
  have h2 := Int.emod_lt_of_pos (-t) h
  have h3 := Int.emod_add_mul_ediv (-t) b
  rw [Int.neg_mul, Int.mul_comm]
  omega
theorem Zkd {t b : Int} (h : 0 < b) : 0 ≤ -((-t) / b) * b - t ∧ -((-t) / b) * b - t < b := by
  have h1 := Int.emod_nonneg (-t) (show b ≠ 0 by omega)
  have h2 := Int.emod_lt_of_pos (-t) h
  have h3 := Int.emod_add_mul_ediv (-t) b
  rw [Int.neg_mul, Int.mul_comm]
  omega
end DL
namespace CB
open PySem PySem.Spec L2 DL
section
variable {Q : D → Sto → Prop} {E : Str → Sto → Prop} {M : Sto} {a b c d i : Int} {n m : Nat} {u v w : Pt}
noncomputable abbrev Bd (b : Int) (p : Pt) : Prop := (-b ≤ p.1 ∧ p.1 ≤ b) ∧ -b ≤ p.2 ∧ p.2 ≤ b
theorem Zcr (h : Bd 1000000 u ∨ Bd 1000000 v) : wO (F_crossed [pr u.1 u.2, pr v.1 v.2] M) Q E = Q (.int (X u v)) M := by
  rcases h with h | h
  · simp! [F_crossed, ZV]
    rfl
  · simp! [F_crossed, ZV]
    rfl
structure Wg (u v : Pt) : Prop where
  gu : Int.gcd u.1 u.2 = 1
  gv : Int.gcd v.1 v.2 = 1
  bu : Bd 1000 u
  bv : Bd 1000 v
  pos : 0 < X u v
theorem Wg.le (h : Wg u v) : X u v ≤ 2000000 := by
  obtain ⟨_, _, ⟨⟨a1, a2⟩, a3, a4⟩, ⟨⟨b1, b2⟩, b3, b4⟩, _⟩ := h
  have m : ∀ x y : Int, -1000 ≤ x → x ≤ 1000 → -1000 ≤ y → y ≤ 1000 → (x * y).natAbs ≤ 1000 * 1000 := by
    intro x y _ _ _ _
    rw [Int.natAbs_mul]
    exact Nat.mul_le_mul (by omega) (by omega)
  have p1 := m u.1 v.2 a1 a2 b3 b4
  have p2 := m u.2 v.1 a3 a4 b1 b2
  unfold X
  omega
structure Fb (u v w : Pt) : Prop where
  one : X u w = 1
  lo : 0 ≤ X w v
  hi : X w v < X u v
theorem Fb.uniq {w w' : Pt} (h : Fb u v w) (k : Fb u v w') : w = w' := by
  obtain ⟨h1, a1, a2⟩ := h
  obtain ⟨h2, b1, b2⟩ := k
  have e1 : w'.1 = X w' w * u.1 + w.1 ∧ w'.2 = X w' w * u.2 + w.2 := by unfold X at *; constructor <;> grind
  have e2 : X w' v = X w' w * X u v + X w v := by
    have : X w' v = X (X w' w * u.1 + w.1, X w' w * u.2 + w.2) v := by rw [← e1.1, ← e1.2]
    rw [this]
    unfold X
    simp only
    grind
  generalize X w' w = k at *
  have k0 : k = 0 := by
    apply Classical.byContradiction
    intro c
    by_cases p : 1 ≤ k
    · have : 1 * X u v ≤ k * X u v := Int.mul_le_mul_of_nonneg_right p (by omega)
      omega
    · have : k * X u v ≤ (-1) * X u v := Int.mul_le_mul_of_nonneg_right (by omega) (by omega)
      omega
  rw [k0] at e1
  apply Prod.ext <;> omega
noncomputable def btw : Pt → Pt → List Int → List Pt
  | _, _, [] => []
  | a, r, k :: ks => r :: btw r (k * r.1 - a.1, k * r.2 - a.2) ks
end
end CB
end
section
set_option Elab.async false
set_option linter.all false
set_option maxRecDepth 100000
set_option maxHeartbeats 4000000
namespace CB
open PySem PySem.Spec L2 DL
section
variable {Q : D → Sto → Prop} {E : Str → Sto → Prop} {M : Sto} {a b c d i : Int} {n m : Nat} {u v w : Pt}
theorem Zke {ns : List Int} {k : Nat} (hk : k < 1000) (q : ∀ a b : Int, 0 ≤ a → Q (.ref M.length) (M ++ [.lst [.int a, .int b]])) : wO (F_law_purse [.rol (ns.map D.int), .int k] M) Q E := by
  have big : Zv 1000000000000000000000000000000000000000000000000000000000000 1000000000000000000000000000000 := ZH 300 300 (by decide +kernel) (by decide +kernel) (by decide) (by decide)
  simp! [F_law_purse, ZaW]
  refine brS (fun h1 => ?_) (fun h1 => ?_)
  · have h2 : k < ns.length := by simpa using h1
    simp! [Zh3 h2, ZaK big]
    obtain ⟨l, hl, l0⟩ : ∃ l : Int, ns[k] % 1000000000000000000000000000000000000000000000000000000000000000000000000000000000000000000 = l ∧ 0 ≤ l := ⟨_, rfl, by omega⟩
    rw [hl]
    refine q _ _ ?_
    split <;> omega
  · simp! [ZaK big]
    exact q _ _ (by omega)
theorem ZaJ {t : Int} (hb : Bag n M) (ht : 0 < t ∧ t < 18446744073709551616) (q : ∀ r M', 0 ≤ r → r < t → Gr n M M' → Q (.int r) M') : wO (F_law_take [.ref n, .int t] M) Q E := by
  obtain ⟨a, b, ha, e⟩ := hb
  have hl : n < M.length := Zn e
  have hs : ∀ x, (M.set n x)[n]? = some x := fun x => List.getElem?_set_self hl
  have gr : ∀ a' b', 0 ≤ a' → Gr n M (M.set n (.lst [.int a', .int b'])) := fun a' b' h => ⟨by simp, ⟨a', b', h, hs _⟩, fun k hk _ => by rw [List.getElem?_set_ne (Ne.symm hk)]⟩
  have m1 := Int.emod_nonneg a (show t ≠ 0 by omega)
  have m2 := Int.emod_lt_of_pos a ht.1
  simp! [F_law_take, ZaP, e]
  refine brS (fun h1 => ?_) (fun h1 => ?_)
  · simp! [e, ix0]
    exact q _ _ m1 m2 (gr _ _ (Int.ediv_nonneg ha (by omega)))
  · simp! [e, ix1]
    exact q _ _ (Int.emod_nonneg _ (by omega)) (Int.emod_lt_of_pos _ ht.1) (gr _ _ ha)
noncomputable def Ch : List Pt → Prop
  | a :: b :: r => X a b = 1 ∧ Ch (b :: r)
  | _ => True
theorem Zr1 : ∀ (n : Nat) (t b : Int) (a r v : Pt), b.toNat = n → 0 ≤ b → b < t → X a r = 1 → X a v = t → X r v = b → Int.gcd v.1 v.2 = 1 → Ch (a :: (btw a r (hj t b) ++ [v])) := by
  intro n
  induction n using Nat.strongRecOn with
  | ind n ih =>
    intro t b a r v hb h0 ht h1 h2 h3 gv
    unfold hj
    by_cases h : 0 < b
    · rw [dif_pos h]
      have nx := Zkd (t := t) h
      generalize hk : -((-t) / b) = k at *
      have q := ih (k * b - t).toNat (by omega) b (k * b - t) r (k * r.1 - a.1, k * r.2 - a.2) v rfl nx.1 nx.2 (by unfold X at *; simp only; grind) h3 (by unfold X at *; simp only; grind) gv
      rw [btw]
      exact ⟨h1, q⟩
    · rw [dif_neg h, btw]
      have b0 : b = 0 := by omega
      have e1 : v.1 = t * r.1 ∧ v.2 = t * r.2 := by unfold X at *; constructor <;> grind
      rw [e1.1, e1.2, Int.gcd_mul_left] at gv
      have t1 : t.natAbs = 1 := Nat.eq_one_of_mul_eq_one_right gv
      refine ⟨by rw [h2]; omega, trivial⟩
noncomputable def Tr (a b d : Pt) : Prop := ∃ k : Int, 2 ≤ k ∧ a.1 + d.1 = k * b.1 ∧ a.2 + d.2 = k * b.2
noncomputable def Cv : List Pt → Prop
  | a :: b :: d :: r => Tr a b d ∧ Cv (b :: d :: r)
  | _ => True
noncomputable def dt (f p : Pt) : Int := f.1 * p.1 + f.2 * p.2
end
section
variable {u v w : Pt}
end
end CB
end
section
set_option Elab.async false
set_option linter.all false
set_option maxRecDepth 100000
set_option maxHeartbeats 4000000
namespace CA
open PySem PySem.Spec L2 DL
noncomputable def Zg6 : Sv := (ZM (Zav (Za (e2 dAdd (e2 dIx (Zd 0) (eC (.int 0))) (e2 dIx (Zd 1) (eC (.int 0)))) (Za (e2 dAdd (e2 dIx (Zd 0) (eC (.int 1))) (e2 dIx (Zd 1) (eC (.int 1)))) aNil))))
noncomputable def ZdZ : List D → Sto → Out D := fnF Zg6 2 0
end CA
end
section
set_option Elab.async false
set_option linter.all false
set_option maxRecDepth 100000
set_option maxHeartbeats 4000000
namespace CA
open PySem PySem.Spec L2 DL
structure Tn (B a b c d : Int) : Prop where
  fa : -B ≤ a ∧ a ≤ B
  fb : -B ≤ b ∧ b ≤ B
  fc : -B ≤ c ∧ c ≤ B
  fd : -B ≤ d ∧ d ≤ B
  det : a * d - b * c = 1 ∨ a * d - b * c = -1
theorem Zhq {B C x y : Int} (hx : -B ≤ x ∧ x ≤ B) (hy : -C ≤ y ∧ y ≤ C) : -(B * C) ≤ x * y ∧ x * y ≤ B * C := by
  have h : (x * y).natAbs ≤ (B * C).natAbs := by
    rw [Int.natAbs_mul, Int.natAbs_mul]
    exact Nat.mul_le_mul (by omega) (by omega)
  have : 0 ≤ B * C := Int.mul_nonneg (by omega) (by omega)
  omega
section
variable {Q : D → Sto → Prop} {E : Str → Sto → Prop} {M : Sto} {a b c d i : Int} {n m : Nat} {rs : List Pt}
theorem Tn.mono {B B' : Int} (h : Tn B a b c d) (hb : B ≤ B') : Tn B' a b c d := by
  obtain ⟨h1, h2, h3, h4, h5⟩ := h
  exact ⟨by omega, by omega, by omega, by omega, h5⟩
theorem ZiU (h : rs ≠ []) (i : Int) : cy rs.reverse i = cy rs (-1 - i) := by
  have hl : rs.length ≠ 0 := by simpa using h
  have e1 : cy rs.reverse i = cy rs.reverse (i % rs.length) := by
    conv => rhs; rw [← List.length_reverse (as := rs), ZcO]
  have e2 : cy rs (-1 - i) = cy rs (-1 - i % rs.length) := by
    unfold cy
    congr 2
    rw [Int.sub_emod, Int.sub_emod (-1) (i % rs.length), Int.emod_emod_of_dvd _ (Int.dvd_refl _)]
  rw [e1, e2]
  obtain ⟨a, b⟩ := Zat (i := i) hl
  generalize i % (rs.length : Int) = m at *
  rw [Za7 (by rw [List.length_reverse]; omega), ← ZbO (rs := rs), Za7 (by omega)]
  rw [List.getD_eq_getElem?_getD, List.getD_eq_getElem?_getD, List.getElem?_reverse (by omega)]
  congr 2
  omega
theorem Zkf (hl : 3 ≤ rs.length) (h : ∀ i : Int, X (cy rs i) (cy rs (i + 1)) = -1) (hf : Fan rs.reverse) : Smo rs.reverse := by
  have ne : rs ≠ [] := by intro z; rw [z] at hl; simp at hl
  refine ⟨by rw [List.length_reverse]; exact hl, fun i => ?_, hf⟩
  rw [ZiU ne, ZiU ne, ZiT]
  have := h (-1 - (i + 1))
  rw [show -1 - (i + 1) + 1 = -1 - i by omega] at this
  omega
theorem Gr.up {k : Nat} {M M1 : Sto} {o : SO} (h : M[k]? = some o) (g : Gr n M M1) (hk : k ≠ n) : M1[k]? = some o := by
  rw [g.keep k hk (Zn h)]
  exact h
end
end CA
end
section
set_option Elab.async false
set_option linter.all false
set_option maxRecDepth 100000
set_option maxHeartbeats 4000000
namespace CY
open PySem PySem.Spec L2 DL CA
end CY
end
section
set_option Elab.async false
set_option linter.all false
set_option maxRecDepth 100000
set_option maxHeartbeats 4000000
namespace CY
open PySem PySem.Spec L2 DL
section
variable {Q : D → Sto → Prop} {E : Str → Sto → Prop} {M : Sto} {n m : Nat} {rs : List Pt}
theorem Gr.of {M M' : Sto} (hb : Bag n M) (l : M.length ≤ M'.length) (g : ∀ k, k < M.length → M'[k]? = M[k]?) : Gr n M M' := by
  refine ⟨l, ?_, fun k _ hk => g k hk⟩
  obtain ⟨a, b, h, e⟩ := id hb
  exact ⟨a, b, h, (g n hb.lt).trans e⟩
end
end CY
end
section
set_option Elab.async false
set_option linter.all false
set_option maxRecDepth 100000
set_option maxHeartbeats 4000000
namespace CR
open PySem PySem.Spec L2 DL
noncomputable def Zbk : Sv := (ZM (ZdG (ZfI "int" (Zd 0)) (Zek (ZfI "bool" (Zd 0)))))
noncomputable def F_is_whole : List D → Sto → Out D := fnF Zbk 1 0
noncomputable def ZQ : Sv := (Zc0 2 3 (Za (Zd 3) (Za (e2 dMod (Zd 2) (Zd 3)) aNil)))
noncomputable def Z7 : Sv := (Zs (Zc0 2 3 (Za (Zh bAbs (Za (Zd 0) aNil)) (Za (Zh bAbs (Za (Zd 1) aNil)) aNil)))
  (Zs (sWh (tv (e2 dNe (Zd 3) (eC (.int 0)))) ZQ)
  (ZM (Zd 2))))
noncomputable def F_greatest_divisor : List D → Sto → Out D := fnF Z7 2 2
noncomputable def Zde : Sv := (Zs (sIf (ZfG (ZbV (tv (Zh F_is_whole (Za (Zd 0) aNil)))) (ZbV (tv (Zh F_is_whole (Za (Zd 1) aNil))))) (Za3 (PySem.Str.ofString "NoRatio") (Za (eC (.str (PySem.Str.ofString "a ratio is made of two whole numbers"))) aNil)) sNil)
  (Zs (sIf (tv (e2 dEq (Zd 1) (eC (.int 0)))) (Za3 (PySem.Str.ofString "NoRatio") (Za (eC (.str (PySem.Str.ofString "the bottom of a ratio is not 0"))) aNil)) sNil)
  (Zs (ZI (gNm 2) (Zh F_greatest_divisor (Za (Zd 0) (Za (Zd 1) aNil))))
  (Zs (sIf (tv (e2 dLt (Zd 1) (eC (.int 0)))) (ZI (gNm 2) (ZcZ (Zd 2))) sNil)
  (ZM (Zav (Za (e2 dDiv (Zd 0) (Zd 2)) (Za (e2 dDiv (Zd 1) (Zd 2)) aNil))))))))
noncomputable def F_ratio : List D → Sto → Out D := fnF Zde 2 1
noncomputable def Zfa : Sv := (ZM (Zh F_ratio (Za (e2 dAdd (e2 dMul (e2 dIx (Zd 0) (eC (.int 0))) (e2 dIx (Zd 1) (eC (.int 1)))) (e2 dMul (e2 dIx (Zd 1) (eC (.int 0))) (e2 dIx (Zd 0) (eC (.int 1))))) (Za (e2 dMul (e2 dIx (Zd 0) (eC (.int 1))) (e2 dIx (Zd 1) (eC (.int 1)))) aNil))))
noncomputable def F_plus : List D → Sto → Out D := fnF Zfa 2 0
noncomputable def Zdf : Sv := (ZM (Zh F_ratio (Za (e2 dMul (e2 dIx (Zd 0) (eC (.int 0))) (e2 dIx (Zd 1) (eC (.int 0)))) (Za (e2 dMul (e2 dIx (Zd 0) (eC (.int 1))) (e2 dIx (Zd 1) (eC (.int 1)))) aNil))))
noncomputable def F_times : List D → Sto → Out D := fnF Zdf 2 0
noncomputable def Zb7 : Sv := (Zc0 2 3 (Za (Zd 3) (Za (e2 dMod (Zd 2) (Zd 3)) aNil)))
noncomputable def Zd0 : Sv := (Zs (Zc0 2 3 (Za (Zh bAbs (Za (Zd 0) aNil)) (Za (Zd 1) aNil)))
  (Zs (sWh (tv (e2 dGt (Zd 3) (eC (.int 0)))) Zb7)
  (ZM (Zav (Za (e2 dDiv (Zd 0) (Zd 2)) (Za (e2 dDiv (Zd 1) (Zd 2)) aNil))))))
noncomputable def F_law_low : List D → Sto → Out D := fnF Zd0 2 2
noncomputable def Zev : Sv := (ZM (ZdG (ZfI "int" (Zd 0)) (Zek (ZfI "bool" (Zd 0)))))
noncomputable def Zcv : List D → Sto → Out D := fnF Zev 1 0
end CR
end
section
set_option Elab.async false
set_option linter.all false
set_option maxRecDepth 100000
set_option maxHeartbeats 4000000
namespace CR
open PySem PySem.Spec L2 DL
noncomputable abbrev rt (q : Rat) : D := pr q.num (q.den : Int)
noncomputable def Sz (k : Nat) (q : Rat) : Prop := q.num.natAbs < 2 ^ k ∧ q.den < 2 ^ k
theorem Zpt : F_greatest_divisor = FGcd := rfl
section
variable {Q : D → Sto → Prop} {E : Str → Sto → Prop} {M : Sto} {k l : Nat} {p q : Rat}
theorem Zd1 {i j : Int} (h : 0 < j) (hk : j.natAbs < 2 ^ k) (hk2 : k ≤ 8000) : wO (dDiv (.int i) (.int j) M) Q E = Q (.int (i / j)) M := by
  have : ZaM j := ⟨by omega, by
    have : j.natAbs.log2 < k := (Nat.log2_lt (by omega)).mpr hk
    omega⟩
  show wO (if ZaM j then _ else _) Q E = _
  rw [if_pos this, Int.fdiv_eq_ediv_of_nonneg _ (by omega)]; rfl
theorem Zg7 {t : Int} {b : Nat} (hb : b ≠ 0) : rt (Rat.normalize t b hb) = pr (t / (Int.gcd t b : Nat)) ((b : Int) / (Int.gcd t b : Nat)) := by
  unfold rt
  rw [Rat.num_normalize, Rat.den_normalize, Int.natCast_ediv]
  rfl
theorem ZiV {t : Int} {b : Nat} (hb : b ≠ 0) (h : b < 2 ^ k) : 0 < Int.gcd t b ∧ Int.gcd t b < 2 ^ k := by
  have h1 : Int.gcd t b ∣ b := Int.gcd_dvd_natAbs_right t b
  have h2 := Nat.le_of_dvd (by omega) h1
  have h3 : Int.gcd t b ≠ 0 := fun z => by
    rw [z] at h1
    exact hb (Nat.eq_zero_of_zero_dvd h1)
  omega
theorem Zew {t : Int} {b : Nat} (hb : b ≠ 0) (h : b < 2 ^ k) (hk : k ≤ 8000) : wO (F_ratio [.int t, .int b] M) Q E = Q (rt (Rat.normalize t b hb)) M := by
  obtain ⟨g0, g1⟩ := ZiV (t := t) hb h
  have gw : ∀ {Q : D → Sto → Prop}, wO (FGcd [.int t, .int b] M) Q E = Q (.int (Int.gcd t b : Nat)) M := by
    intro Q
    rw [ZlL]
    rfl
  rw [Zg7 hb]
  generalize Int.gcd t b = g at *
  simp! [F_ratio, Zde, F_is_whole, Zbk, Zpt, gw]
  rw [Zd1 (k := k) (by omega) (by simpa using g1) hk]
  simp! [Zo]
  rw [Zd1 (k := k) (by omega) (by simpa using g1) hk]
  simp! [Zo]
theorem Zpu {t : Int} {b : Nat} (hb : b ≠ 0) (h : b < 2 ^ k) (hk : k ≤ 8000) (q' : Q (rt (Rat.normalize t b hb)) M) : wO (F_law_low [.int t, .int b] M) Q E := by
  obtain ⟨g0, g1⟩ := ZiV (t := t) hb h
  rw [Zg7 hb] at q'
  simp! [F_law_low, Zd0]
  refine Zpp (fun j ρ M' => M' = M ∧ ∃ a c : Nat, ρ = [some (.int t), some (.int b), some (.int a), some (.int c)] ∧ j = c ∧ Nat.gcd a c = Int.gcd t b) ?_ b _ _ ⟨rfl, t.natAbs, b, rfl, rfl, rfl⟩
  rintro j ρ M ⟨rfl, a, c, rfl, rfl, g⟩
  simp! [Zo]
  refine Zpq (fun h' => ?_) (fun h' => ?_)
  · simp! [Zb7]
    have hc : 0 < j := by omega
    refine ⟨a % j, Nat.mod_lt a hc, j, a % j, by rw [Int.natCast_emod], rfl, ?_⟩
    rw [← g, Nat.gcd_comm j, ← Nat.gcd_rec, Nat.gcd_comm]
  · have j0 : j = 0 := by omega
    subst j0
    rw [Nat.gcd_zero_right] at g
    rw [← g] at q' g0 g1
    simp! [Zo]
    rw [Zd1 (k := k) (by omega) (by simpa using g1) hk]
    simp! [Zo]
    rw [Zd1 (k := k) (by omega) (by simpa using g1) hk]
    simp! [Zo]
    exact q'
theorem Zcw {t : Int} {b : Nat} (hb : b ≠ 0) (ht : t.natAbs < 2 ^ k) (h : b < 2 ^ k) : Sz k (Rat.normalize t b hb) := by
  refine ⟨?_, ?_⟩
  · rw [Rat.num_normalize]
    exact Nat.lt_of_le_of_lt (Int.natAbs_ediv_le_natAbs _ _) ht
  · rw [Rat.den_normalize]
    exact Nat.lt_of_le_of_lt (Nat.div_le_self _ _) h
theorem Zbe {x y : Nat} (hx : x < 2 ^ k) (hy : y < 2 ^ l) : x * y < 2 ^ (k + l) := by
  rw [Nat.pow_add]
  exact Nat.mul_lt_mul'' hx hy
theorem Zg8 (hp : Sz k p) (hq : Sz l q) (hk : k + l ≤ 8000) : wO (F_plus [rt p, rt q] M) Q E = Q (rt (p + q)) M := by
  have nz : p.den * q.den ≠ 0 := Nat.mul_ne_zero p.den_nz q.den_nz
  have f1 : Zv p.num (q.den : Int) := ZH k l hp.1 (by simpa using hq.2) (by omega) (by omega)
  have f2 : Zv q.num (p.den : Int) := ZH l k hq.1 (by simpa using hp.2) (by omega) (by omega)
  have f3 : Zv (p.den : Int) (q.den : Int) := ZH k l (by simpa using hp.2) (by simpa using hq.2) (by omega) (by omega)
  simp! [F_plus, Zfa, ZaK f1, ZaK f2, ZaK f3]
  rw [show (p.den : Int) * (q.den : Int) = ((p.den * q.den : Nat) : Int) by simp, Zew nz (Zbe hp.2 hq.2) hk, ← Rat.add_def]
theorem Zdg (hp : Sz k p) (hq : Sz l q) (hk : k + l ≤ 8000) : wO (F_times [rt p, rt q] M) Q E = Q (rt (p * q)) M := by
  have nz : p.den * q.den ≠ 0 := Nat.mul_ne_zero p.den_nz q.den_nz
  have f1 : Zv p.num q.num := ZH k l hp.1 hq.1 (by omega) (by omega)
  have f3 : Zv (p.den : Int) (q.den : Int) := ZH k l (by simpa using hp.2) (by simpa using hq.2) (by omega) (by omega)
  simp! [F_times, Zdf, ZaK f1, ZaK f3]
  rw [show (p.den : Int) * (q.den : Int) = ((p.den * q.den : Nat) : Int) by simp, Zew nz (Zbe hp.2 hq.2) hk, ← Rat.mul_def]
theorem Zd2 (hp : Sz k p) (hq : Sz l q) : Sz (k + l) (p * q) := by
  rw [Rat.mul_def]
  exact Zcw _ (by rw [Int.natAbs_mul]; exact Zbe hp.1 hq.1) (Zbe hp.2 hq.2)
theorem ZiW (hp : Sz k p) (hq : Sz l q) : Sz (k + l + 1) (p + q) := by
  rw [Rat.add_def]
  have h1 := Zbe hp.1 hq.2
  have h2 := Zbe hq.1 hp.2
  have h3 := Zbe hp.2 hq.2
  rw [Nat.add_comm l k] at h2
  refine Zcw _ ?_ ?_
  · have e1 : (p.num * (q.den : Int)).natAbs = p.num.natAbs * q.den := by rw [Int.natAbs_mul]; rfl
    have e2 : (q.num * (p.den : Int)).natAbs = q.num.natAbs * p.den := by rw [Int.natAbs_mul]; rfl
    have := Int.natAbs_add_le (p.num * (q.den : Int)) (q.num * (p.den : Int))
    rw [Nat.pow_succ]
    omega
  · rw [Nat.pow_succ]
    omega
end
end CR
end
section
set_option Elab.async false
set_option linter.all false
set_option maxRecDepth 100000
set_option maxHeartbeats 4000000
namespace CH
open PySem PySem.Spec L2 DL CA CR
end CH
end
section
set_option Elab.async false
set_option linter.all false
set_option maxRecDepth 100000
set_option maxHeartbeats 4000000
namespace CH
open PySem PySem.Spec L2 DL
open CR (rt Sz)
noncomputable def rts (hs : List Rat) : List D := hs.map rt
theorem ZF {hs : List Rat} : (rts hs).length = hs.length := List.length_map _
theorem Zam {hs : List Rat} {q : Rat} : rts hs ++ [rt q] = rts (hs ++ [q]) := by simp [rts]
section
variable {Q : D → Sto → Prop} {E : Str → Sto → Prop} {M : Sto} {n : Nat}
end
end CH
end
section
set_option Elab.async false
set_option linter.all false
set_option maxRecDepth 100000
set_option maxHeartbeats 4000000
namespace CS
open PySem PySem.Spec L2 DL CC CR
noncomputable def Zdh : Sv := (ZM (Zh F_ratio (Za (e2 dSub (e2 dMul (e2 dIx (Zd 0) (eC (.int 0))) (e2 dIx (Zd 1) (eC (.int 1)))) (e2 dMul (e2 dIx (Zd 1) (eC (.int 0))) (e2 dIx (Zd 0) (eC (.int 1))))) (Za (e2 dMul (e2 dIx (Zd 0) (eC (.int 1))) (e2 dIx (Zd 1) (eC (.int 1)))) aNil))))
noncomputable def F_minus : List D → Sto → Out D := fnF Zdh 2 0
noncomputable def Zch : Sv := (ZM (Zh F_plus (Za (Zh F_times (Za (e2 dIx (Zd 0) (eC (.int 0))) (Za (Zav (Za (e2 dIx (Zd 1) (eC (.int 0))) (Za (eC (.int 1)) aNil))) aNil))) (Za (Zh F_times (Za (e2 dIx (Zd 0) (eC (.int 1))) (Za (Zav (Za (e2 dIx (Zd 1) (eC (.int 1))) (Za (eC (.int 1)) aNil))) aNil))) aNil))))
noncomputable def F_sloped : List D → Sto → Out D := fnF Zch 2 0
noncomputable def Zb8 : Sv := (sIf (tv (e2 dNe (Zh bLen (Za (Zd 1) aNil)) (Zh bLen (Za (Zd 0) aNil)))) (Za3 (PySem.Str.ofString "NoHeight") (Za (eFs (ZbB (eC (.str (PySem.Str.ofString "a height of "))) (ZbB (eFm (Zh bLen (Za (Zd 0) aNil))) (ZbB (eC (.str (PySem.Str.ofString " rays has not "))) (ZbB (eFm (Zh bLen (Za (Zd 1) aNil))) (ZbB (eC (.str (PySem.Str.ofString " ratios"))) jNil)))))) aNil)) sNil)
noncomputable def Zaq : List D → Sto → Out D := fnF Zb8 2 0
noncomputable def ZfA : Sv := (ZM (Zh F_law_low (Za (e2 dAdd (e2 dMul (e2 dIx (Zd 0) (eC (.int 0))) (e2 dIx (Zd 1) (eC (.int 1)))) (e2 dMul (e2 dIx (Zd 1) (eC (.int 0))) (e2 dIx (Zd 0) (eC (.int 1))))) (Za (e2 dMul (e2 dIx (Zd 0) (eC (.int 1))) (e2 dIx (Zd 1) (eC (.int 1)))) aNil))))
noncomputable def Zbl : List D → Sto → Out D := fnF ZfA 2 0
noncomputable def ZbF : Sv := (Zs (sIf (ZfG (ZbV (tv (ZfI "tuple" (Zd 0)))) (ZfG (tv (e2 dNe (Zh bLen (Za (Zd 0) aNil)) (eC (.int 2)))) (ZfG (ZbV (tv (Zh Zcv (Za (e2 dIx (Zd 0) (eC (.int 0))) aNil)))) (ZbV (tv (Zh Zcv (Za (e2 dIx (Zd 0) (eC (.int 1))) aNil))))))) (ZM (eC (.bl false))) sNil)
  (ZM (ZdG (e2 dGt (e2 dIx (Zd 0) (eC (.int 1))) (eC (.int 0))) (e2 dEq (Zh F_law_low (Za (e2 dIx (Zd 0) (eC (.int 0))) (Za (e2 dIx (Zd 0) (eC (.int 1))) aNil))) (Zd 0)))))
noncomputable def F_law_ratio : List D → Sto → Out D := fnF ZbF 1 0
end CS
end
section
set_option Elab.async false
set_option linter.all false
set_option maxRecDepth 100000
set_option maxHeartbeats 4000000
namespace CS
open PySem PySem.Spec L2 DL
open CR (rt Sz)
section
variable {Q : D → Sto → Prop} {E : Str → Sto → Prop} {M : Sto} {k l : Nat} {p q : Rat}
theorem Zfb (z : Int) : pr z 1 = rt (z : Rat) := by
  unfold rt
  rw [Rat.num_intCast, Rat.den_intCast]
  rfl
theorem Zb9 {z : Int} (h : z.natAbs < 2 ^ k) (hk : 1 ≤ k) : Sz k (z : Rat) := by
  refine ⟨by rw [Rat.num_intCast]; exact h, by rw [Rat.den_intCast]; exact Nat.one_lt_two_pow (by omega)⟩
theorem Zkg (hp : Sz k p) (hq : Sz l q) (hk : k + l ≤ 8000) : wO (F_minus [rt p, rt q] M) Q E = Q (rt (p - q)) M := by
  have nz : p.den * q.den ≠ 0 := Nat.mul_ne_zero p.den_nz q.den_nz
  have f1 : Zv p.num (q.den : Int) := ZH k l hp.1 (by simpa using hq.2) (by omega) (by omega)
  have f2 : Zv q.num (p.den : Int) := ZH l k hq.1 (by simpa using hp.2) (by omega) (by omega)
  have f3 : Zv (p.den : Int) (q.den : Int) := ZH k l (by simpa using hp.2) (by simpa using hq.2) (by omega) (by omega)
  simp! [F_minus, Zdh, ZaK f1, ZaK f2, ZaK f3]
  rw [show (p.den : Int) * (q.den : Int) = ((p.den * q.den : Nat) : Int) by simp, CR.Zew nz (CR.Zbe hp.2 hq.2) hk, ← Rat.sub_def]
theorem ZmW {t : Int} {b : Nat} (hb : b ≠ 0) (h : b < 2 ^ k) (hk : k ≤ 8000) : wO (CR.F_law_low [.int t, .int b] M) Q E = Q (rt (Rat.normalize t b hb)) M := by
  obtain ⟨d, M', e, e1, e2⟩ := ZgO (CR.Zpu (Q := fun d M' => d = rt (Rat.normalize t b hb) ∧ M' = M) (E := fun _ _ => False) (t := t) hb h hk ⟨rfl, rfl⟩)
  rw [e, e1, e2]
  rfl
theorem ZmX (hp : Sz k p) (hq : Sz l q) : Sz (k + l + 1) (p - q) := by
  rw [Rat.sub_def]
  have h1 := CR.Zbe hp.1 hq.2
  have h2 := CR.Zbe hq.1 hp.2
  have h3 := CR.Zbe hp.2 hq.2
  rw [Nat.add_comm l k] at h2
  refine CR.Zcw _ ?_ ?_
  · have e1 : (p.num * (q.den : Int)).natAbs = p.num.natAbs * q.den := by rw [Int.natAbs_mul]; rfl
    have e2 : (q.num * (p.den : Int)).natAbs = q.num.natAbs * p.den := by rw [Int.natAbs_mul]; rfl
    have := Int.natAbs_sub_le (p.num * (q.den : Int)) (q.num * (p.den : Int))
    rw [Nat.pow_succ]
    omega
  · rw [Nat.pow_succ]
    omega
noncomputable def slp (m : Rat × Rat) (r : Pt) : Rat := m.1 * (r.1 : Rat) + m.2 * (r.2 : Rat)
theorem Zii {m : Rat × Rat} {r : Pt} (h1 : Sz k m.1) (h2 : Sz k m.2) (hr : (-200 ≤ r.1 ∧ r.1 ≤ 200) ∧ -200 ≤ r.2 ∧ r.2 ≤ 200) (hk : k ≤ 3000) : wO (F_sloped [.tup [rt m.1, rt m.2], pr r.1 r.2] M) Q E = Q (rt (slp m r)) M := by
  have s1 : Sz 8 (r.1 : Rat) := Zb9 (by omega) (by decide)
  have s2 : Sz 8 (r.2 : Rat) := Zb9 (by omega) (by decide)
  simp! [F_sloped, Zch]
  rw [show D.tup [D.int r.1, D.int 1] = rt (r.1 : Rat) from Zfb r.1, CR.Zdg h1 s1 (by omega)]
  simp! [Zo]
  rw [show D.tup [D.int r.2, D.int 1] = rt (r.2 : Rat) from Zfb r.2, CR.Zdg h2 s2 (by omega)]
  simp! [Zo]
  rw [CR.Zg8 (CR.Zd2 h1 s1) (CR.Zd2 h2 s2) (by omega)]
  rfl
end
end CS
end
section
set_option Elab.async false
set_option linter.all false
set_option maxRecDepth 100000
set_option maxHeartbeats 4000000
namespace CN
open PySem PySem.Spec L2 DL
open CE (Zbd)
open CC (F_following)
open CR (F_plus F_times F_law_low)
open CS (Zaq Zbl)
open CA (ZdZ)
noncomputable def ZcS : Sv := (Zs (ZI (gNm 6) (Zh F_plus (Za (e2 dIx (Zd 1) (e2 dSub (Zd 4) (eC (.int 1)))) (Za (Zh F_following (Za (Zd 1) (Za (Zd 4) aNil))) aNil))))
  (Zby (ZfJ mApp (Zd 3) (Za (Zh F_plus (Za (Zd 6) (Za (Zh F_times (Za (Zav (Za (e2 dIx (Zd 2) (Zd 4)) (Za (eC (.int 1)) aNil))) (Za (Zd 5) aNil))) aNil))) aNil))))
noncomputable def Zg9 : Sv := (Zs (ZI (gNm 2) (Zh Zbd (Za (Zd 0) aNil)))
  (Zs (Zby (Zh Zaq (Za (Zd 0) (Za (Zd 1) aNil))))
  (Zs (ZI (gNm 3) (Za5 aNil))
  (Zs (Zc5 (gTp (gCs (gNm 4) (gCs (gNm 5) gNl))) (iEn (Za (Zd 1) aNil)) ZcS)
  (ZM (Zd 3))))))
noncomputable def Zha : List D → Sto → Out D := fnF Zg9 2 5
noncomputable def Zcc : Sv := (Zs (ZI (gNm 4) (Zh ZdZ (Za (e2 dIx (Zd 0) (e2 dSub (Zd 2) (eC (.int 1)))) (Za (e2 dIx (Zd 0) (e2 dMod (e2 dAdd (Zd 2) (eC (.int 1))) (Zh bLen (Za (Zd 0) aNil)))) aNil))))
  (Zs (ZI (gNm 5) (Zh bInt (Za (e2 dEq (e2 dIx (Zd 3) (eC (.int 0))) (eC (.int 0))) aNil)))
  (Zby (ZfJ mApp (Zd 1) (Za (e2 dSub (eC (.int 0)) (e2 dDiv (e2 dIx (Zd 4) (Zd 5)) (e2 dIx (Zd 3) (Zd 5)))) aNil)))))
noncomputable def Zdi : Sv := (Zs (ZI (gNm 1) (Za5 aNil))
  (Zs (Zc5 (gTp (gCs (gNm 2) (gCs (gNm 3) gNl))) (iEn (Za (Zd 0) aNil)) Zcc)
  (ZM (Zd 1))))
noncomputable def Zdj : List D → Sto → Out D := fnF Zdi 1 5
noncomputable def Zan : Sv := (Zs (ZI (gNm 5) (Zh Zbl (Za (e2 dIx (Zd 1) (e2 dSub (Zd 3) (eC (.int 1)))) (Za (e2 dIx (Zd 1) (e2 dMod (e2 dAdd (Zd 3) (eC (.int 1))) (Zh bLen (Za (Zd 0) aNil)))) aNil))))
  (Zby (ZfJ mApp (Zd 2) (Za (Zh Zbl (Za (Zd 5) (Za (Zh F_law_low (Za (e2 dMul (Zd 4) (e2 dIx (e2 dIx (Zd 1) (Zd 3)) (eC (.int 0)))) (Za (e2 dIx (e2 dIx (Zd 1) (Zd 3)) (eC (.int 1))) aNil))) aNil))) aNil))))
noncomputable def ZaX : Sv := (Zs (ZI (gNm 2) (Za5 aNil))
  (Zs (Zc5 (gTp (gCs (gNm 3) (gCs (gNm 4) gNl))) (iEn (Za (Zh Zdj (Za (Zd 0) aNil)) aNil)) Zan)
  (ZM (Zd 2))))
noncomputable def F_law_bends : List D → Sto → Out D := fnF ZaX 2 4
end CN
end
section
set_option Elab.async false
set_option linter.all false
set_option maxRecDepth 100000
set_option maxHeartbeats 4000000
namespace CN
open PySem PySem.Spec L2 DL
open CR (rt Sz)
open CH (rts ZF Zam)
noncomputable def cq (hs : List Rat) (i : Int) : Rat := hs.getD (i % hs.length).toNat 0
theorem Zhb {hs : List Rat} {i : Int} (h : -(hs.length : Int) ≤ i ∧ i < hs.length) : atI (rts hs) i = some (rt (cq hs i)) := by
  unfold atI
  rw [ZF, ZgU h]
  have hp : (i % hs.length).toNat < hs.length := by
    have := Int.emod_lt_of_pos i (show (0 : Int) < hs.length by omega)
    have := Int.emod_nonneg i (show (hs.length : Int) ≠ 0 by omega)
    omega
  simp [rts, cq, List.getElem?_eq_getElem hp]
theorem ZmY {hs : List Rat} {i : Int} : cq hs (i % hs.length) = cq hs i := by unfold cq; rw [Int.emod_emod_of_dvd _ (Int.dvd_refl _)]
theorem Zd3 {hs : List Rat} {k : Nat} (h : k < hs.length) : cq hs k = hs[k] := by
  unfold cq
  rw [Int.emod_eq_of_lt (by omega) (by omega)]
  simp [List.getElem?_eq_getElem h]
theorem Zkh {hs : List Rat} {k : Nat} {i : Int} (h : ∀ x ∈ hs, Sz k x) (hn : hs.length ≠ 0) : Sz k (cq hs i) := by
  unfold cq
  have := (Zat (i := i) hn).1
  rw [List.getD_eq_getElem?_getD, List.getElem?_eq_getElem this]
  exact h _ (List.getElem_mem this)
theorem Zex {hs : List Rat} {i : Nat} (h : i < (rts hs).length) : (rts hs)[i] = rt (cq hs i) := by
  rw [ZF] at h
  rw [Zd3 h]
  simp [rts]
noncomputable def bnd (rs : List Pt) (hs : List Rat) (i : Int) : Rat := cq hs (i - 1) + cq hs (i + 1) + (T rs i : Rat) * cq hs i
noncomputable def bds (rs : List Pt) (hs : List Rat) (n : Nat) : List Rat := (List.range n).map fun (i : Nat) => bnd rs hs i
theorem Zki {rs : List Pt} {hs : List Rat} {n : Nat} : (bds rs hs n).length = n := by simp [bds]
theorem Zij {rs : List Pt} {hs : List Rat} {n : Nat} : bds rs hs (n + 1) = bds rs hs n ++ [bnd rs hs n] := by simp [bds, List.range_succ]
section
variable {Q : D → Sto → Prop} {E : Str → Sto → Prop} {M : Sto} {k l : Nat} {p q : Rat} {n m : Nat} {rs : List Pt} {hs : List Rat} {i : Int}
theorem ZqE (hb : Nr 200 rs) (hn : rs ≠ []) : (T rs i).natAbs < 2 ^ 17 := by
  have a := hb _ (Zco (i := i - 1) hn)
  have b := hb _ (Zco (i := i + 1) hn)
  unfold T X
  have h (x y : Int) (hx : -200 ≤ x ∧ x ≤ 200) (hy : -200 ≤ y ∧ y ≤ 200) : -40000 ≤ x * y ∧ x * y ≤ 40000 := by
    have : (x * y).natAbs ≤ 200 * 200 := by rw [Int.natAbs_mul]; exact Nat.mul_le_mul (by omega) (by omega)
    omega
  have h1 := h _ _ a.1 b.2
  have h2 := h _ _ a.2 b.1
  have h3 := h _ _ b.1 a.2
  have h4 := h _ _ b.2 a.1
  omega
theorem ZmZ (h : M[n]? = some (.lst (rts hs))) (hi : 0 ≤ i ∧ i < hs.length) : wO (CC.F_following [.ref n, .int i] M) Q E = Q (rt (cq hs (i + 1))) M := by
  have e := Zat (i := i + 1) (m := hs.length) (by omega)
  simp! [CC.F_following, CC.ZW, h, Zhb, ZmY, ZF]
theorem Zd4 (h : M[n]? = some (.lst (prs rs))) (h' : M[m]? = some (.lst (rts hs))) (e : hs.length = rs.length) (q : Q .non M) : wO (CS.Zaq [.ref n, .ref m] M) Q E := by
  simp! [CS.Zaq, CS.Zb8, h, h', ZF, e]
  exact q
theorem Zhc (h : M[n]? = some (.lst (prs rs))) (hs' : Smo rs) (hl : rs.length ≤ 1000) (hb : Nr 200 rs) (h' : M[m]? = some (.lst (rts hs))) (e : hs.length = rs.length) (hz : ∀ x ∈ hs, Sz k x) (hk : k ≤ 2000) (q : ∀ m' M', M.length ≤ m' → M'[m']? = some (.lst (rts (bds rs hs rs.length))) → M.length ≤ M'.length → (∀ j < M.length, M'[j]? = M[j]?) → Q (.ref m') M') : wO (Zha [.ref n, .ref m] M) Q E := by
  have hn := Zn h
  have hm := Zn h'
  have hne := hs'.ne
  have h3 := hs'.len
  simp! [Zha, Zg9]
  refine CE.Zg5 h hs' (by omega) (fun p hp => by have := hb p hp; omega) ?_
  have g1 : (M ++ [SO.lst (nts (ZbE rs))])[n]? = some (.lst (prs rs)) := by rw [ZcC hn]; exact h
  have g2 : (M ++ [SO.lst (nts (ZbE rs))])[m]? = some (.lst (rts hs)) := by rw [ZcC hm]; exact h'
  simp! [Zo]
  refine Zd4 g1 g2 e ?_
  simp! [Zo]
  have r0 : (M ++ [SO.lst (nts (ZbE rs)), SO.lst []])[M.length + 1]? = some (.lst (rts (bds rs hs 0))) := by simp [rts, bds]
  have G0 : M.length + 2 ≤ (M ++ [SO.lst (nts (ZbE rs)), SO.lst []]).length ∧ (M ++ [SO.lst (nts (ZbE rs)), SO.lst []])[M.length]? = some (.lst (nts (ZbE rs))) ∧ ∀ j < M.length, (M ++ [SO.lst (nts (ZbE rs)), SO.lst []])[j]? = M[j]? := ⟨by simp, by simp, fun j hj => ZcC hj⟩
  generalize M ++ [SO.lst (nts (ZbE rs)), SO.lst []] = M1 at r0 G0 ⊢
  have hm1 := (G0.2.2 m hm).trans h'
  refine ZiN (fun i ρ M' => (∃ x4 x5 x6, ρ = [some (.ref n), some (.ref m), some (.ref M.length), some (.ref (M.length + 1)), x4, x5, x6]) ∧ M'[M.length + 1]? = some (.lst (rts (bds rs hs i))) ∧ M.length + 2 ≤ M'.length ∧ M'[M.length]? = some (.lst (nts (ZbE rs))) ∧ ∀ j < M.length, M'[j]? = M[j]?) hm1 ⟨⟨_, _, _, rfl⟩, r0, G0⟩ (fun i ρ M' hI => (hI.2.2.2.2 m hm).trans h') ?_ ?_
  · rintro i ρ M2 hi ⟨⟨x4, x5, x6, rfl⟩, r2, l2, t2, o2⟩
    have hm2 := (o2 m hm).trans h'
    rw [Zex hi]
    rw [ZF] at hi
    have hi' : i < rs.length := by omega
    have hh : hs.length ≠ 0 := by omega
    have ct : cn (ZbE rs) i = T rs i := by rw [ZdV (by rw [ZdW]; exact hi')]; simp [ZbE]
    have tl := ZdW (rs := rs)
    have z (i) := Zkh (i := i) hz hh
    simp! [ZcS, Zhb, ZmZ hm2, hm2, ZF]
    rw [CR.Zg8 (z _) (z _) (by omega)]
    simp! [t2, ZiL, ct]
    rw [show D.tup [D.int (T rs i), D.int 1] = rt (T rs i : Rat) from CS.Zfb _, CR.Zdg (CS.Zb9 (ZqE (i := i) hb hne) (by decide)) (z _) (by omega)]
    simp! [Zo]
    rw [CR.Zg8 (CR.ZiW (z _) (z _)) (CR.Zd2 (CS.Zb9 (ZqE (i := i) hb hne) (by decide)) (z _)) (by omega)]
    simp! [r2]
    exact ⟨by rw [ZF, Zki]; omega, ⟨_, _, _, rfl⟩, by rw [Zam, Zij]; rfl, by rw [List.length_set]; exact l2, t2, fun j hj => by rw [List.getElem?_set_ne (by omega)]; exact o2 j hj⟩
  · rintro ρ M2 ⟨⟨x4, x5, x6, rfl⟩, r2, l2, t2, o2⟩
    simp! [Zo]
    rw [ZF, e] at r2
    exact q _ _ (by omega) r2 (by omega) o2
end
end CN
end
section
set_option Elab.async false
set_option linter.all false
set_option maxRecDepth 100000
set_option maxHeartbeats 4000000
namespace CN
open PySem PySem.Spec L2 DL
open CR (rt Sz)
open CH (rts ZF Zam)
section
variable {Q : D → Sto → Prop} {E : Str → Sto → Prop} {M : Sto} {k l : Nat} {p q : Rat} {n m : Nat} {rs : List Pt} {hs : List Rat} {i : Int}
theorem Zkj {ts : List Int} {i : Nat} (h : i < (nts ts).length) : (nts ts)[i] = .int (cn ts i) := by
  rw [ZaU] at h
  rw [ZdV h]
  simp [nts]
end
end CN
end
section
set_option Elab.async false
set_option linter.all false
set_option maxRecDepth 100000
set_option maxHeartbeats 4000000
namespace CN
open PySem PySem.Spec L2 DL
open CR (rt Sz)
open CH (rts ZF Zam)
noncomputable def sm (f : Int → Rat) : Nat → Rat
  | 0 => 0
  | n + 1 => sm f n + f n
end CN
end
section
set_option Elab.async false
set_option linter.all false
set_option maxRecDepth 100000
set_option maxHeartbeats 4000000
namespace CU
open PySem PySem.Spec L2 DL
open CC (F_ask_smooth)
open CS (Zaq F_minus F_sloped Zbl)
open CR (F_law_low)
end CU
end
section
set_option Elab.async false
set_option linter.all false
set_option maxRecDepth 100000
set_option maxHeartbeats 4000000
namespace CU
open PySem PySem.Spec L2 DL
open CR (rt Sz)
open CH (rts ZF Zam)
open CN CS
noncomputable def thr (rs : List Pt) (hs : List Rat) : Rat × Rat := (cq hs 0 * (cy rs 1).2 - cq hs 1 * (cy rs 0).2, cq hs 1 * (cy rs 0).1 - cq hs 0 * (cy rs 1).1)
noncomputable abbrev rp (m : Rat × Rat) : D := .tup [rt m.1, rt m.2]
theorem Zm0 {p q : Rat} (h : rt p = rt q) : p = q := by
  unfold rt pr at h
  injection h with h
  injection h with h1 h
  injection h with h2
  injection h1 with h1
  injection h2 with h2
  exact Rat.ext h1 (by omega)
theorem Zkk {xs ys : List Rat} : rts xs = rts ys ↔ xs = ys := by
  refine ⟨fun h => ?_, fun h => by rw [h]⟩
  induction xs generalizing ys with
  | nil => cases ys with
    | nil => rfl
    | cons y ys => simp [rts] at h
  | cons x xs ih =>
    cases ys with
    | nil => simp [rts] at h
    | cons y ys =>
      simp only [rts, List.map_cons, List.cons.injEq] at h
      rw [Zm0 h.1, ih h.2]
theorem Zdk {hs : List Rat} : rts hs = prs (hs.map fun q => (q.num, (q.den : Int))) := by
  simp [rts, prs]
theorem Zm1 {xs ys : List Rat} : xs.map (fun q => (q.num, (q.den : Int))) = ys.map (fun q => (q.num, (q.den : Int))) ↔ xs = ys := by
  refine ⟨fun h => ?_, fun h => by rw [h]⟩
  rw [← Zkk, Zdk, Zdk, h]
section
variable {Q : D → Sto → Prop} {E : Str → Sto → Prop} {M : Sto} {k l : Nat} {p q : Rat} {n m o : Nat} {rs : List Pt} {hs xs ys : List Rat} {i : Int}
theorem Zm2 (h1 : M[n]? = some (.lst (rts xs))) (h2 : M[m]? = some (.lst (rts ys))) : eqF (k + 3) M (.ref n) (.ref m) = some (decide (xs = ys)) := by
  rw [ZgV h1 h2, Zdk, Zdk, Ze7]
  by_cases e : xs = ys
  · subst e; simp
  · rw [decide_eq_false e]
    split
    · rw [decide_eq_false (fun z => e (Zm1.mp z))]
    · rfl
theorem Zmb (h1 : M[n]? = some (.lst (prs rs))) {ss : List Pt} (h2 : M[m]? = some (.lst (prs ss))) : eqF (k + 3) M (.ref n) (.ref m) = some (decide (rs = ss)) := by
  rw [ZgV h1 h2, Ze7]
  by_cases e : rs = ss
  · subst e; simp
  · rw [decide_eq_false e]
    split <;> rfl
theorem ZiX {mm : Rat × Rat} {r : Pt} (h1 : Sz k mm.1) (h2 : Sz k mm.2) (hr : (-200 ≤ r.1 ∧ r.1 ≤ 200) ∧ -200 ≤ r.2 ∧ r.2 ≤ 200) : Sz (2 * k + 17) (slp mm r) := by
  have e : k + 8 + (k + 8) + 1 = 2 * k + 17 := by omega
  exact e ▸ CR.ZiW (CR.Zd2 h1 (Zb9 (k := 8) (by omega) (by decide))) (CR.Zd2 h2 (Zb9 (k := 8) (by omega) (by decide)))
theorem Zey {F : Nat → Rat} (h1 : xs.length = n) (h : ∀ i < n, F i = cq xs i) : (List.range n).map (fun (i : Nat) => rt (F i)) = rts xs := by
  apply List.ext_getElem
  · rw [ZF, h1]; simp
  · intro i hi hi'
    simp at hi
    rw [Zex]
    simp [h i hi]
end
end CU
end
section
set_option Elab.async false
set_option linter.all false
set_option maxRecDepth 100000
set_option maxHeartbeats 4000000
namespace CV
open PySem PySem.Spec L2 DL
open CR (rt Sz)
open CH (rts ZF Zam)
open CN CU CS
noncomputable def Kp (M M' : Sto) : Prop := M.length ≤ M'.length ∧ ∀ j < M.length, M'[j]? = M[j]?
section
variable {M M' M1 M2 : Sto} {o : SO} {j : Nat}
theorem Kp.of (l : M.length ≤ M'.length) (g : ∀ j < M.length, M'[j]? = M[j]?) : Kp M M' := ⟨l, g⟩
theorem Kp.get (k : Kp M M') (h : M[j]? = some o) : M'[j]? = some o := (k.2 _ (Zn h)).trans h
theorem Kp.refl : Kp M M := ⟨Nat.le_refl _, fun _ _ => rfl⟩
theorem Kp.trans (a : Kp M M1) (b : Kp M1 M2) : Kp M M2 := ⟨Nat.le_trans a.1 b.1, fun j h => (b.2 j (Nat.lt_of_lt_of_le h a.1)).trans (a.2 j h)⟩
theorem Kp.app {L : Sto} : Kp M (M ++ L) := ⟨by simp, fun j h => ZcC h⟩
theorem Kp.set (a : Kp M M1) (h : M.length ≤ j) : Kp M (M1.set j o) := ⟨by rw [List.length_set]; exact a.1, fun i hi => by rw [List.getElem?_set_ne (by omega)]; exact a.2 i hi⟩
theorem Kp.bag {n : Nat} (k : Kp M M') (b : Bag n M) : Bag n M' := (CY.Gr.of b k.1 k.2).bag
theorem Kp.gr {n : Nat} (k : Kp M M') (b : Bag n M) : Gr n M M' := CY.Gr.of b k.1 k.2
end
theorem Zpv {a b : Nat} {x : Rat} (h : Sz a x) (hab : a ≤ b) : Sz b x := ⟨Nat.lt_of_lt_of_le h.1 (Nat.pow_le_pow_right (by decide) hab), Nat.lt_of_lt_of_le h.2 (Nat.pow_le_pow_right (by decide) hab)⟩
section
variable {Q : D → Sto → Prop} {E : Str → Sto → Prop} {M : Sto} {k l : Nat} {p q : Rat} {n m o : Nat} {rs : List Pt} {hs xs ys zs u v : List Rat} {i : Int} {f : Ev} {ρ : Ro} {mu mv N : Nat}
end
end CV
end
section
set_option Elab.async false
set_option linter.all false
set_option maxRecDepth 100000
set_option maxHeartbeats 4000000
namespace CW
open PySem PySem.Spec L2 DL
open CE (Zbd)
end CW
end
section
set_option Elab.async false
set_option linter.all false
set_option maxRecDepth 100000
set_option maxHeartbeats 4000000
namespace CW
open PySem PySem.Spec L2 DL
open CV
noncomputable def fx (rs : List Pt) : Nat := ((ZbE rs).findIdx? (fun t => decide (t = -1))).getD 0
section
variable {Q : D → Sto → Prop} {E : Str → Sto → Prop} {M : Sto} {n m : Nat} {rs : List Pt}
end
end CW
end
section
set_option Elab.async false
set_option linter.all false
set_option maxRecDepth 100000
set_option maxHeartbeats 4000000
namespace CB
open PySem PySem.Spec L2 DL
theorem mid {a b p w : Pt} (h1 : 0 < X a p) (h2 : 0 < X p b) (h : 0 < X a b) : in1 w a b = in1 w a p + in1 w p b ∧ in2 w a b = in2 w a p + in2 w p b := by
  have e : X a b * X p w = X p b * X a w - X a p * X w b := by unfold X; grind
  have s := Zfy (p := w) (q := p)
  have k1 : 0 ≤ X a w → 0 ≤ X p b * X a w := fun z => Int.mul_nonneg (by omega) z
  have k2 : 0 < X a w → 0 < X p b * X a w := fun z => Int.mul_pos h2 z
  have k3 : X a w ≤ 0 → X p b * X a w ≤ 0 := fun z => Int.mul_nonpos_of_nonneg_of_nonpos (by omega) z
  have k3' : X a w < 0 → X p b * X a w < 0 := fun z => Int.mul_neg_of_pos_of_neg h2 z
  have l1 : 0 ≤ X w b → 0 ≤ X a p * X w b := fun z => Int.mul_nonneg (by omega) z
  have l2 : 0 < X w b → 0 < X a p * X w b := fun z => Int.mul_pos h1 z
  have l3 : X w b ≤ 0 → X a p * X w b ≤ 0 := fun z => Int.mul_nonpos_of_nonneg_of_nonpos (by omega) z
  have l3' : X w b < 0 → X a p * X w b < 0 := fun z => Int.mul_neg_of_pos_of_neg h1 z
  have m1 : 0 ≤ X p w → 0 ≤ X a b * X p w := fun z => Int.mul_nonneg (by omega) z
  have m2 : 0 < X p w → 0 < X a b * X p w := fun z => Int.mul_pos h z
  have m3 : X p w ≤ 0 → X a b * X p w ≤ 0 := fun z => Int.mul_nonpos_of_nonneg_of_nonpos (by omega) z
  have m3' : X p w < 0 → X a b * X p w < 0 := fun z => Int.mul_neg_of_pos_of_neg h z
  unfold in1 in2
  rw [s]
  generalize X a b * X p w = z at *
  generalize X p b * X a w = y at *
  generalize X a p * X w b = x at *
  generalize X a w = aw at *
  generalize X w b = wb at *
  generalize X p w = pw at *
  constructor
  all_goals
    repeat' split
    all_goals omega
noncomputable def Add (f : Pt → Pt → Nat) : Prop := ∀ a b p, 0 < X a p → 0 < X p b → 0 < X a b → f a b = f a p + f p b
end CB
end
section
set_option Elab.async false
set_option linter.all false
set_option maxRecDepth 100000
set_option maxHeartbeats 4000000
namespace CL
open PySem PySem.Spec L2 DL
open CC (F_following)
end CL
end
section
set_option Elab.async false
set_option linter.all false
set_option maxRecDepth 100000
set_option maxHeartbeats 4000000
namespace CL
open PySem PySem.Spec L2 DL
open CV CB
section
variable {Q : D → Sto → Prop} {E : Str → Sto → Prop} {M : Sto} {n : Nat}
end
end CL
end
section
set_option Elab.async false
set_option linter.all false
set_option maxRecDepth 100000
set_option maxHeartbeats 4000000
namespace TW
open DL
noncomputable def nx (b : Int) (p q : Pt) : Pt := (0 - b * q.1 - p.1, 0 - b * q.2 - p.2)
noncomputable def ng (p : Pt) : Pt := (0 - p.1, 0 - p.2)
noncomputable def run (p q : Pt) : List Int → Pt × Pt
  | [] => (p, q)
  | b :: bs => run q (nx b p q) bs
noncomputable def ew (p q : Pt) : Nat := in1 (1, 0) p q + in1 (-1, 0) p q
noncomputable def tot (p q : Pt) : List Int → Int
  | [] => 0
  | b :: bs => 6 * (ew p q : Int) - b - 3 + tot q (nx b p q) bs
theorem Zik {p q : Pt} {b : Int} (h : X p q = 1) : X q (nx b p q) = 1 := by unfold X nx at *; simp only; grind
theorem Zkl : ∀ (bs : List Int) {p q : Pt}, X p q = 1 → X (run p q bs).1 (run p q bs).2 = 1
  | [], _, _, h => h
  | b :: bs, _, _, h => Zkl bs (Zik h)
theorem Z8 : ∀ (xs ys : List Int) (p q : Pt), run p q (xs ++ ys) = run (run p q xs).1 (run p q xs).2 ys
  | [], _, _, _ => rfl
  | b :: xs, ys, p, q => Z8 xs ys q (nx b p q)
theorem Zad : ∀ (xs ys : List Int) (p q : Pt), tot p q (xs ++ ys) = tot p q xs + tot (run p q xs).1 (run p q xs).2 ys
  | [], _, _, _ => by simp [tot, run]
  | b :: xs, ys, p, q => by
    have := Zad xs ys q (nx b p q)
    simp only [List.cons_append, tot, run] at *
    omega
theorem Zm3 {b : Int} {p q : Pt} : nx b (ng p) (ng q) = ng (nx b p q) := by unfold nx ng; simp only [Prod.mk.injEq]; constructor <;> grind
theorem Zkm {p : Pt} : ng (ng p) = p := by unfold ng; ext <;> simp
theorem Zpw {p q : Pt} : ew (ng p) (ng q) = ew p q := by
  have e : ∀ (w a b : Pt), in1 w (ng a) (ng b) = in1 (ng w) a b := by
    intro w a b
    have h1 : X (ng a) w = X a (ng w) := by unfold X ng; simp only; grind
    have h2 : X w (ng b) = X (ng w) b := by unfold X ng; simp only; grind
    unfold in1
    rw [h1, h2]
  unfold ew
  rw [e, e, show ng (1, 0) = (-1, 0) from rfl, show ng (-1, 0) = (1, 0) from rfl, Nat.add_comm]
theorem Zfc : ∀ (bs : List Int) (p q : Pt), run (ng p) (ng q) bs = (ng (run p q bs).1, ng (run p q bs).2)
  | [], _, _ => rfl
  | b :: bs, p, q => by rw [run, run, Zm3, Zfc bs]
theorem Zfd : ∀ (bs : List Int) (p q : Pt), tot (ng p) (ng q) bs = tot p q bs
  | [], _, _ => rfl
  | b :: bs, p, q => by rw [tot, tot, Zm3, Zfd bs, Zpw]
noncomputable def Sg (s : Bool) (p : Pt) : Pt := if s = true then ng p else p
theorem Zm4 {s : Bool} {bs : List Int} {p q : Pt} : run (Sg s p) (Sg s q) bs = (Sg s (run p q bs).1, Sg s (run p q bs).2) := by
  cases s
  · rfl
  · exact Zfc bs p q
theorem Zm5 {s : Bool} {bs : List Int} {p q : Pt} : tot (Sg s p) (Sg s q) bs = tot p q bs := by
  cases s
  · rfl
  · exact Zfd bs p q
theorem Zez {a m : Pt} (h : 0 < X a m) : ew a m + ew m (ng a) = 1 := by
  have z : ¬ (a.2 = 0 ∧ m.2 = 0) := by
    intro z
    unfold X at h
    rw [z.1, z.2] at h
    simp at h
  have f : ∀ (w p q : Pt) (x y : Int), X p w = x → X w q = y → in1 w p q = if 0 ≤ x ∧ 0 < y then 1 else 0 := by
    intro w p q x y h1 h2
    unfold in1
    rw [h1, h2]
  unfold ew
  rw [f (1, 0) a m (0 - a.2) m.2 (by unfold X; simp) (by unfold X; simp), f (-1, 0) a m a.2 (0 - m.2) (by unfold X; simp) (by unfold X; simp), f (1, 0) m (ng a) (0 - m.2) (0 - a.2) (by unfold X; simp) (by unfold X ng; simp), f (-1, 0) m (ng a) m.2 a.2 (by unfold X; simp) (by unfold X ng; simp)]
  generalize a.2 = x at *
  generalize m.2 = y at *
  repeat' split
  all_goals omega
theorem ZiY {a b p : Pt} (h1 : 0 < X a p) (h2 : 0 < X p b) (h : 0 < X a b) : ew a b = ew a p + ew p b := by
  have m1 := (CB.mid (w := (1, 0)) h1 h2 h).1
  have m2 := (CB.mid (w := (-1, 0)) h1 h2 h).1
  unfold ew
  omega
theorem Zpx {p q : Pt} {c d : Int} (h : X p q = 1) : run p q [c, -1, d] = run p q [c + 1, d + 1] ∧ tot p q [c, -1, d] = tot p q [c + 1, d + 1] := by
  have e1 : nx (-1) q (nx c p q) = nx (c + 1) p q := by unfold nx; simp only [Prod.mk.injEq]; constructor <;> grind
  have e2 : nx d (nx c p q) (nx (-1) q (nx c p q)) = nx (d + 1) q (nx (c + 1) p q) := by unfold nx; simp only [Prod.mk.injEq]; constructor <;> grind
  have x1 : X q (nx c p q) = 1 := Zik h
  have x2 : X (nx c p q) (nx (c + 1) p q) = 1 := by rw [← e1]; exact Zik x1
  have x3 : X q (nx (c + 1) p q) = 1 := Zik h
  have k := ZiY (a := q) (b := nx (c + 1) p q) (p := nx c p q) (by omega) (by omega) (by omega)
  constructor
  · simp only [run]
    rw [e2, e1]
  · simp only [tot]
    rw [e1]
    omega
theorem Zpy {p q : Pt} {c d : Int} (h : X p q = 1) : run p q [c, 0, d] = (ng (run p q [c + d]).1, ng (run p q [c + d]).2) ∧ tot p q [c, 0, d] = tot p q [c + d] := by
  have e1 : nx 0 q (nx c p q) = ng q := by unfold nx ng; simp only [Prod.mk.injEq]; constructor <;> grind
  have e2 : nx d (nx c p q) (ng q) = ng (nx (c + d) p q) := by unfold nx ng; simp only [Prod.mk.injEq]; constructor <;> grind
  have x1 : X q (nx c p q) = 1 := Zik h
  have k := Zez (a := q) (m := nx c p q) (by omega)
  constructor
  · simp only [run]
    rw [e1, e2]
  · simp only [tot]
    rw [e1]
    omega
theorem Zpz {p q : Pt} {c d : Int} (h : X p q = 1) : run p q [c, 1, d] = (ng (run p q [c - 1, d - 1]).1, ng (run p q [c - 1, d - 1]).2) ∧ tot p q [c, 1, d] = tot p q [c - 1, d - 1] := by
  have e1 : nx 1 q (nx c p q) = ng (nx (c - 1) p q) := by unfold nx ng; simp only [Prod.mk.injEq]; constructor <;> grind
  have e2 : nx d (nx c p q) (ng (nx (c - 1) p q)) = ng (nx (d - 1) q (nx (c - 1) p q)) := by unfold nx ng; simp only [Prod.mk.injEq]; constructor <;> grind
  have x1 : X q (nx c p q) = 1 := Zik h
  have x3 : X q (nx (c - 1) p q) = 1 := Zik h
  have x2 : X (nx (c - 1) p q) (nx c p q) = 1 := by
    have : X (nx (c - 1) p q) (nx c p q) = X q (nx c p q) := by unfold X nx; simp only; grind
    omega
  have k1 := ZiY (a := q) (b := nx c p q) (p := nx (c - 1) p q) (by omega) (by omega) (by omega)
  have k2 := Zez (a := nx (c - 1) p q) (m := nx c p q) (by omega)
  constructor
  · simp only [run]
    rw [e1, e2]
  · simp only [tot]
    rw [e1]
    omega
theorem ZqF {p : Pt} : ∀ (bs : List Int) (u v : Pt), (∀ b ∈ bs, 2 ≤ b ∨ b ≤ -2) → (X p u).natAbs < (X p v).natAbs → (X p (run u v bs).1).natAbs < (X p (run u v bs).2).natAbs
  | [], _, _, _, h => h
  | b :: bs, u, v, hb, h => by
    refine ZqF bs v (nx b u v) (fun c hc => hb c (by simp [hc])) ?_
    have e : X p (nx b u v) = -(b * X p v) - X p u := by unfold X nx; simp only; grind
    have hb' := hb b (by simp)
    have m : 2 * (X p v).natAbs ≤ (b * X p v).natAbs := by
      rw [Int.natAbs_mul]
      exact Nat.mul_le_mul_right _ (by omega)
    rw [e]
    omega
theorem red {n : Nat} (ih : ∀ m, m < n → ∀ (bs : List Int) (p q : Pt) (s : Bool), bs.length = m → X p q = 1 → run p q bs = (Sg s p, Sg s q) → tot p q bs = 0) {xs Y : List Int} {c b d : Int} {p q : Pt} {s : Bool} (hn : (xs ++ ([c, b, d] ++ Y)).length = n) (hb : ¬ (2 ≤ b ∨ b ≤ -2)) (hX : X p q = 1) (hr : run p q (xs ++ ([c, b, d] ++ Y)) = (Sg s p, Sg s q)) : tot p q (xs ++ ([c, b, d] ++ Y)) = 0 := by
  simp at hn
  rw [Z8] at hr
  rw [Zad]
  have hx := Zkl xs hX
  have flip : ∀ (R : Pt × Pt), (ng R.1, ng R.2) = (Sg s p, Sg s q) → R = (Sg (!s) p, Sg (!s) q) := by
    intro R h
    have a1 := congrArg (fun x => ng x.1) h
    have a2 := congrArg (fun x => ng x.2) h
    simp only [Zkm] at a1 a2
    apply Prod.ext
    · simp only [a1]; cases s <;> simp [Sg, Zkm]
    · simp only [a2]; cases s <;> simp [Sg, Zkm]
  have : b = -1 ∨ b = 0 ∨ b = 1 := by omega
  rcases this with rfl | rfl | rfl
  · obtain ⟨c1, c2⟩ := Zpx (c := c) (d := d) hx
    rw [Z8, c1, ← Z8, ← Z8] at hr
    rw [Zad, c1, c2, ← Zad, ← Zad]
    exact ih (xs ++ ([c + 1, d + 1] ++ Y)).length (by simp; omega) _ _ _ s rfl hX hr
  · obtain ⟨c1, c2⟩ := Zpy (c := c) (d := d) hx
    rw [Z8, c1, Zfc, ← Z8, ← Z8] at hr
    rw [Zad, c1, c2, Zfd, ← Zad, ← Zad]
    exact ih (xs ++ ([c + d] ++ Y)).length (by simp; omega) _ _ _ (!s) rfl hX (flip _ hr)
  · obtain ⟨c1, c2⟩ := Zpz (c := c) (d := d) hx
    rw [Z8, c1, Zfc, ← Z8, ← Z8] at hr
    rw [Zad, c1, c2, Zfd, ← Zad, ← Zad]
    exact ih (xs ++ ([c - 1, d - 1] ++ Y)).length (by simp; omega) _ _ _ (!s) rfl hX (flip _ hr)
theorem Zm6 : ∀ (n : Nat) (bs : List Int) (p q : Pt) (s : Bool), bs.length = n → X p q = 1 → run p q bs = (Sg s p, Sg s q) → tot p q bs = 0 := by
  intro n
  induction n using Nat.strongRecOn with
  | ind n ih =>
    intro bs p q s hn hX hr
    rcases List.eq_nil_or_concat bs with rfl | ⟨L, z, rfl⟩
    · rfl
    rw [List.concat_eq_append] at hn hr ⊢
    have hr0 := hr
    rw [Z8] at hr
    have hq : (run p q L).2 = Sg s p := congrArg Prod.fst hr
    have hX' := Zkl L hX
    have xp : X p p = 0 := by unfold X; grind
    have key : ∃ b ∈ L, ¬ (2 ≤ b ∨ b ≤ -2) := by
      apply Classical.byContradiction
      intro c
      have := ZqF (p := p) L p q (fun b hb => Classical.byContradiction fun d => c ⟨b, hb, d⟩) (by rw [hX, xp]; decide)
      rw [hq] at this
      have z : X p (Sg s p) = 0 := by
        cases s
        · exact xp
        · have : X p (ng p) = -X p p := by unfold X ng; simp only; grind
          show X p (ng p) = 0
          omega
      rw [z] at this
      simp at this
    obtain ⟨b, hbL, hb⟩ := key
    obtain ⟨A, B, rfl⟩ := List.append_of_mem hbL
    rcases List.eq_nil_or_concat A with rfl | ⟨xs, c, rfl⟩
    · cases B with
      | cons d B =>
        have e1 : run (run p q ([] ++ b :: d :: B)).1 (run p q ([] ++ b :: d :: B)).2 ([z] ++ (b :: d :: B)) = (Sg s (run p q ([] ++ b :: d :: B)).1, Sg s (run p q ([] ++ b :: d :: B)).2) := by
          rw [Z8, hr, Zm4, List.nil_append]
        have e2 : tot (run p q ([] ++ b :: d :: B)).1 (run p q ([] ++ b :: d :: B)).2 ([z] ++ (b :: d :: B)) = tot p q (([] ++ b :: d :: B) ++ [z]) := by
          rw [Zad, hr, Zm5, Zad, List.nil_append]
          omega
        rw [← e2]
        exact red ih (xs := []) (c := z) (b := b) (d := d) (Y := B) (by simp at hn ⊢; omega) hb hX' e1
      | nil =>
        have h1 := congrArg Prod.fst hr0
        have h2 := congrArg Prod.snd hr0
        simp only [List.nil_append, List.cons_append, run] at h1 h2
        have b0 : b = 0 := by
          have := congrArg (X p) h1
          have e : X p (nx b p q) = -b * X p q := by unfold X nx; simp only; grind
          have z : X p (Sg s p) = 0 := by
            cases s
            · exact xp
            · have : X p (ng p) = -X p p := by unfold X ng; simp only; grind
              show X p (ng p) = 0
              omega
          rw [e, z, hX] at this
          omega
        subst b0
        have n1 : nx 0 p q = ng p := by unfold nx ng; simp only [Prod.mk.injEq]; constructor <;> grind
        rw [n1] at h1 h2
        have z0 : z = 0 := by
          cases s
          · exfalso
            have : X p q = X (ng p) q := by rw [h1]; rfl
            have e : X (ng p) q = -X p q := by unfold X ng; simp only; grind
            omega
          · have := congrArg (X q) h2
            have e : X q (nx z q (ng p)) = -z * X q (ng p) := by unfold X nx; simp only; grind
            have e2 : X q (ng p) = X p q := by unfold X ng; simp only; grind
            have e3 : X q (Sg true q) = 0 := by
              show X q (ng q) = 0
              unfold X ng; simp only; grind
            rw [e, e2, e3, hX] at this
            omega
        subst z0
        have k := Zez (a := p) (m := q) (by omega)
        simp only [List.nil_append, List.cons_append, tot]
        rw [n1]
        omega
    · rw [List.concat_eq_append] at hn hr0 ⊢
      obtain ⟨d, Y, hd⟩ : ∃ d Y, B ++ [z] = d :: Y := by cases B with | nil => exact ⟨_, _, rfl⟩ | cons d B => exact ⟨_, _, rfl⟩
      have er : (xs ++ [c] ++ b :: B) ++ [z] = xs ++ ([c, b, d] ++ Y) := by
        have : (xs ++ [c] ++ b :: B) ++ [z] = xs ++ c :: b :: (B ++ [z]) := by simp
        rw [this, hd]
        simp
      rw [er] at hn hr0 ⊢
      exact red ih hn hb hX hr0
noncomputable def st (a : Pt) : Int := if 0 < a.2 ∨ (a.2 = 0 ∧ a.1 < 0) then 1 else 0
theorem alt {a b : Pt} (h : 0 < X a b) : (in1 (1, 0) a b : Int) - in1 (-1, 0) a b = st b - st a := by
  have f : ∀ (w p q : Pt) (x y : Int), X p w = x → X w q = y → in1 w p q = if 0 ≤ x ∧ 0 < y then 1 else 0 := by
    intro w p q x y h1 h2
    unfold in1
    rw [h1, h2]
  rw [f (1, 0) a b (0 - a.2) b.2 (by unfold X; simp) (by unfold X; simp), f (-1, 0) a b a.2 (0 - b.2) (by unfold X; simp) (by unfold X; simp)]
  unfold st
  have h' := h
  unfold X at h'
  have k1 : a.2 = 0 → 0 < a.1 → 0 < b.2 := fun z p => by
    rw [z] at h'
    apply Classical.byContradiction
    intro c
    have := Int.mul_nonpos_of_nonneg_of_nonpos (a := a.1) (b := b.2) (by omega) (by omega)
    omega
  have k2 : a.2 = 0 → a.1 < 0 → b.2 < 0 := fun z p => by
    rw [z] at h'
    apply Classical.byContradiction
    intro c
    have := Int.mul_nonpos_of_nonpos_of_nonneg (a := a.1) (b := b.2) (by omega) (by omega)
    omega
  have k3 : b.2 = 0 → 0 < b.1 → a.2 < 0 := fun z p => by
    rw [z] at h'
    apply Classical.byContradiction
    intro c
    have := Int.mul_nonneg (a := a.2) (b := b.1) (by omega) (by omega)
    omega
  have k4 : b.2 = 0 → b.1 < 0 → 0 < a.2 := fun z p => by
    rw [z] at h'
    apply Classical.byContradiction
    intro c
    have := Int.mul_nonneg_of_nonpos_of_nonpos (a := a.2) (b := b.1) (by omega) (by omega)
    omega
  have z1 : ¬ (a.1 = 0 ∧ a.2 = 0) := fun z => by rw [z.1, z.2] at h'; simp at h'
  have z2 : ¬ (b.1 = 0 ∧ b.2 = 0) := fun z => by rw [z.1, z.2] at h'; simp at h'
  generalize a.1 = a1 at *
  generalize a.2 = a2 at *
  generalize b.1 = b1 at *
  generalize b.2 = b2 at *
  clear h h'
  have o1 : 0 < a1 ∨ a1 < 0 ∨ a1 = 0 := by omega
  have o2 : 0 < b1 ∨ b1 < 0 ∨ b1 = 0 := by omega
  repeat' split
  all_goals omega
noncomputable def ZiZ (p q : Pt) : List Int → Nat
  | [] => 0
  | b :: bs => in1 (1, 0) p q + ZiZ q (nx b p q) bs
noncomputable def ZfK (bs : List Int) : Int := bs.foldr (· + ·) 0
theorem Zi0 : ∀ (bs : List Int) {p q : Pt}, X p q = 1 → tot p q bs = 12 * (ZiZ p q bs : Int) - ZfK bs - 3 * bs.length - 6 * (st (run p q bs).1 - st p)
  | [], p, q, _ => by simp [tot, ZiZ, ZfK, run]
  | b :: bs, p, q, h => by
    have ih := Zi0 bs (Zik (b := b) h)
    have a := alt (a := p) (b := q) (by omega)
    simp only [tot, ZiZ, run, ZfK, List.foldr_cons, List.length_cons] at *
    unfold ew
    rw [ih]
    omega
theorem Zm7 {bs : List Int} {p q : Pt} (h : X p q = 1) (hr : run p q bs = (p, q)) : 12 * (ZiZ p q bs : Int) = ZfK bs + 3 * bs.length := by
  have t := Zm6 _ bs p q false rfl h hr
  have e := Zi0 bs h
  rw [t, hr] at e
  simp only at e
  omega
end TW
end
section
set_option Elab.async false
set_option linter.all false
set_option maxRecDepth 100000
set_option maxHeartbeats 4000000
namespace TW
open DL
section
variable {rs : List Pt}
noncomputable def sf (f : Pt → Pt → Nat) (rs : List Pt) : Int → Nat → Nat
  | _, 0 => 0
  | i, k + 1 => f (cy rs i) (cy rs (i + 1)) + sf f rs (i + 1) k
theorem ZpA {f : Pt → Pt → Nat} (hn : rs ≠ []) : ∀ (k i : Nat), i + k = rs.length → cc f ((rs ++ rs.take 1).drop i) = sf f rs i k := by
  have l0 : 0 < rs.length := List.length_pos_iff.mpr hn
  have ga : ∀ i : Nat, i ≤ rs.length → (rs ++ rs.take 1)[i]? = some (cy rs i) := by
    intro i hi
    by_cases c : i < rs.length
    · rw [List.getElem?_append_left c, Za7 (by omega), ZbP (by omega), List.getElem?_eq_getElem c]
      simp
    · have : i = rs.length := by omega
      subst this
      rw [List.getElem?_append_right (Nat.le_refl _), Nat.sub_self, ← ZcP, Int.sub_self, Za7 (by omega), ZbP (by omega)]
      rw [List.getElem?_take_of_lt (by decide), List.getElem?_eq_getElem (by omega)]
      simp
  have lch : (rs ++ rs.take 1).length = rs.length + 1 := by simp; omega
  have dr : ∀ i : Nat, i ≤ rs.length → (rs ++ rs.take 1).drop i = cy rs i :: (rs ++ rs.take 1).drop (i + 1) := by
    intro i hi
    rw [List.drop_eq_getElem_cons (by omega)]
    have := ga i hi
    rw [List.getElem?_eq_getElem (by omega)] at this
    rw [Option.some.inj this]
  intro k
  induction k with
  | zero =>
    intro i hi
    rw [dr i (by omega), List.drop_eq_nil_of_le (by omega)]
    rfl
  | succ k ih =>
    intro i hi
    have := ih (i + 1) (by omega)
    rw [dr i (by omega)]
    rw [dr (i + 1) (by omega)] at this ⊢
    rw [cc, this, sf]
    rfl
theorem Zi1 {f : Pt → Pt → Nat} (hn : rs ≠ []) : cyc f rs = sf f rs 0 rs.length := by
  have := ZpA (f := f) hn rs.length 0 (by omega)
  exact this
theorem Zdl : ∀ {L : List Int}, ZfK L = L.sum
  | [] => rfl
  | b :: L => by
    have := Zdl (L := L)
    unfold ZfK at *
    rw [List.foldr_cons, List.sum_cons, this]
end
end TW
end
section
set_option Elab.async false
set_option linter.all false
set_option maxRecDepth 100000
set_option maxHeartbeats 4000000
namespace SP
open PySem PySem.Spec L2 DL
open CB
section
noncomputable def ex (k : Nat) : Pt := if k = 0 then (1, 0) else if k = 1 then (0, 1) else if k = 2 then (-1, 0) else (0, -1)
noncomputable def qd (k : Nat) (p : Pt) : Pt := if k = 0 then (p.1, p.2) else if k = 1 then (0 - p.2, p.1) else if k = 2 then (0 - p.1, 0 - p.2) else (p.2, 0 - p.1)
noncomputable def op (o : Bool) (k : Nat) : List Pt := if o = true then [ex k] else []
end
end SP
end
section
set_option Elab.async false
set_option linter.all false
set_option maxRecDepth 100000
set_option maxHeartbeats 4000000
namespace CT
open PySem PySem.Spec L2 DL
noncomputable def ZaQ : Sv := (Zs (Zc0 3 4 (Za (e2 dIx (Zd 1) (ZcZ (eC (.int 2)))) (Za (e2 dIx (Zd 1) (ZcZ (eC (.int 1)))) aNil)))
  (Zby (ZfJ mApp (Zd 1) (Za (Zav (Za (e2 dSub (e2 dMul (ZcZ (Zd 2)) (e2 dIx (Zd 4) (eC (.int 0)))) (e2 dIx (Zd 3) (eC (.int 0)))) (Za (e2 dSub (e2 dMul (ZcZ (Zd 2)) (e2 dIx (Zd 4) (eC (.int 1)))) (e2 dIx (Zd 3) (eC (.int 1)))) aNil))) aNil))))
noncomputable def Zbx : Sv := (Zs (ZI (gNm 1) (Za5 (Za (Zav (Za (eC (.int 1)) (Za (eC (.int 0)) aNil))) (Za (Zav (Za (eC (.int 0)) (Za (eC (.int 1)) aNil))) aNil))))
  (Zs (ZkD (gNm 2) (Zd 0) ZaQ)
  (ZM (Zd 1))))
noncomputable def ZaN : List D → Sto → Out D := fnF Zbx 1 4
noncomputable def ZbQ : Sv := (Zs (sIf (tv (e2 dNe (eSl (Zh ZaN (Za (Zd 0) aNil)) (oSo (ZcZ (eC (.int 2)))) oNo) (Za5 (Za (Zav (Za (eC (.int 1)) (Za (eC (.int 0)) aNil))) (Za (Zav (Za (eC (.int 0)) (Za (eC (.int 1)) aNil))) aNil))))) (ZM (eC (.int 0))) sNil)
  (ZM (e2 dDiv (e2 dAdd (Zh (ZbN ZfK) (Za (Zd 0) aNil)) (e2 dMul (eC (.int 3)) (Zh bLen (Za (Zd 0) aNil)))) (eC (.int 12)))))
noncomputable def ZbR : List D → Sto → Out D := fnF ZbQ 1 0
end CT
end
section
set_option Elab.async false
set_option linter.all false
set_option maxRecDepth 100000
set_option maxHeartbeats 4000000
namespace CT
open PySem PySem.Spec L2 DL
open CV TW
noncomputable def rl0 (p q : Pt) : List Int → List Pt
  | [] => []
  | b :: bs => p :: rl0 q (nx b p q) bs
noncomputable def rl (p q : Pt) (bs : List Int) : List Pt := rl0 p q bs ++ [(run p q bs).1, (run p q bs).2]
theorem Zhd : ∀ {bs : List Int} {p q : Pt}, (rl0 p q bs).length = bs.length
  | [], _, _ => rfl
  | b :: bs, p, q => by simp [rl0, Zhd (bs := bs)]
theorem Zfe : ∀ {xs : List Int} {b : Int} {p q : Pt}, rl0 p q (xs ++ [b]) = rl0 p q xs ++ [(run p q xs).1]
  | [], b, p, q => rfl
  | x :: xs, b, p, q => by simp [rl0, TW.run, Zfe (xs := xs)]
theorem Zkn {xs : List Int} {b : Int} {p q : Pt} : rl p q (xs ++ [b]) = rl p q xs ++ [nx b (run p q xs).1 (run p q xs).2] := by
  unfold rl
  rw [Zfe, Z8]
  simp [TW.run]
theorem Zm8 {bs : List Int} {p q : Pt} : (rl p q bs).length = bs.length + 2 := by simp [rl, Zhd]
theorem ZqG {R : List Pt} {a b : Pt} : atI (prs (R ++ [a, b])) (-1) = some (pr b.1 b.2) ∧ atI (prs (R ++ [a, b])) (-2) = some (pr a.1 a.2) := by
  have l : (R ++ [a, b]).length = R.length + 2 := by simp
  constructor
  · rw [ZcN (by rw [l]; omega), ← ZbO, l, show (-1 : Int) + ((R.length + 2 : Nat) : Int) = R.length + 1 by omega, Zih]
  · rw [ZcN (by rw [l]; omega), ← ZbO, l, show (-2 : Int) + ((R.length + 2 : Nat) : Int) = R.length by omega, Zfz]
theorem Zm9 {R : List Pt} {a b : Pt} : Zdu (prs (R ++ [a, b])) (some (-2)) none = prs [a, b] ∧ Zdu (prs (R ++ [a, b])) none (some (-2)) = prs R := by
  have l : (prs (R ++ [a, b])).length = R.length + 2 := by rw [ZB]; simp
  unfold Zdu
  simp only [HT.sIx]
  rw [l]
  constructor
  · rw [if_pos (by decide), show (-2 + ((R.length + 2 : Nat) : Int)).toNat = R.length by omega, Ze6]
    simp [prs]
  · rw [if_pos (by decide), show (-2 + ((R.length + 2 : Nat) : Int)).toNat = R.length by omega]
    simp [prs]
noncomputable def Sm (L : List Int) : Prop := ∀ b ∈ L, -(1152921504606846976) ≤ b ∧ b ≤ 1152921504606846976
section
variable {Q : D → Sto → Prop} {E : Str → Sto → Prop} {M : Sto} {n m : Nat} {L : List Int}
theorem Zna (h : M[n]? = some (.lst (nts L))) (hb : Sm L) (hl : L.length ≤ 1000) (q : ∀ M', Kp M M' → M'[M.length]? = some (.lst (prs (rl (1, 0) (0, 1) L))) → Q (.ref M.length) M') : wO (ZaN [.ref n] M) Q E := by
  simp! [ZaN, Zbx]
  have K1 : Kp M (M ++ [SO.lst [D.tup [D.int 1, D.int 0], D.tup [D.int 0, D.int 1]]]) := Kp.app
  have r1 : (M ++ [SO.lst [D.tup [D.int 1, D.int 0], D.tup [D.int 0, D.int 1]]])[M.length]? = some (.lst (prs (rl (1, 0) (0, 1) (L.take 0)))) := by rw [ZdU]; rfl
  generalize M ++ [SO.lst [D.tup [D.int 1, D.int 0], D.tup [D.int 0, D.int 1]]] = M1 at *
  refine ZgS (fun i ρ M' => (∃ x2 x3 x4, ρ = [some (.ref n), some (.ref M.length), x2, x3, x4]) ∧ Kp M M' ∧ M'[M.length]? = some (.lst (prs (rl (1, 0) (0, 1) (L.take i))))) (K1.get h) ⟨⟨_, _, _, rfl⟩, K1, r1⟩ (fun i ρ M' hI => hI.2.1.get h) ?_ ?_
  · rintro i ρ M2 hi ⟨⟨x2, x3, x4, rfl⟩, K2, r2⟩
    rw [CN.Zkj]
    rw [ZaU] at hi
    rw [ZdV hi]
    have bd := hb _ (List.getElem_mem hi)
    have st : L.take (i + 1) = L.take i ++ [L[i]] := by rw [List.take_add_one, List.getElem?_eq_getElem hi]; rfl
    have lr := Zn r2
    have ll : (rl (1, 0) (0, 1) (L.take i)).length = i + 2 := by rw [Zm8, List.length_take]; omega
    have e := Zkn (xs := L.take i) (b := L[i]) (p := (1, 0)) (q := (0, 1))
    rw [st, e]
    have er : rl (1, 0) (0, 1) (L.take i) = rl0 (1, 0) (0, 1) (L.take i) ++ [(run (1, 0) (0, 1) (L.take i)).1, (run (1, 0) (0, 1) (L.take i)).2] := rfl
    rw [er] at r2 ll ⊢
    generalize (run (1, 0) (0, 1) (L.take i)).1 = a at *
    generalize (run (1, 0) (0, 1) (L.take i)).2 = b at *
    generalize rl0 (1, 0) (0, 1) (L.take i) = R at *
    generalize L[i] = c at *
    simp! [ZaQ, r2, ZqG.1, ZqG.2, ZB, ll]
    refine ⟨by omega, ⟨_, _, _, rfl⟩, K2.set (Nat.le_refl _), ?_⟩
    unfold nx
    rw [Int.neg_mul, Int.neg_mul, Int.zero_sub, Int.zero_sub]
  · rintro ρ M2 ⟨⟨x2, x3, x4, rfl⟩, K2, r2⟩
    simp! [Zo]
    rw [ZaU, List.take_of_length_le (Nat.le_refl _)] at r2
    exact q _ K2 r2
noncomputable def ZfB (L : List Int) : Prop := ∀ b ∈ L, -1000000 ≤ b ∧ b ≤ 1000000
theorem Zd5 : ∀ {L : List Int}, ZfB L → -(1000000 * (L.length : Int)) ≤ L.sum ∧ L.sum ≤ 1000000 * (L.length : Int)
  | [], _ => by simp
  | b :: L, h => by
    have ih := Zd5 (L := L) fun c hc => h c (by simp [hc])
    have hb := h b (by simp)
    simp only [List.sum_cons, List.length_cons]
    omega
theorem Zko (h : ZfB L) (hl : L.length ≤ 1000) : DL.ZfK L = some L.sum := by
  unfold DL.ZfK
  rw [if_pos]
  intro j hj
  have hm : L.getD j 0 = L[j] := by rw [List.getD_eq_getElem?_getD, List.getElem?_eq_getElem hj]; rfl
  have h1 := h _ (List.getElem_mem hj)
  have h2 := Zd5 (L := L.take (j + 1)) fun b hb => h b (List.mem_of_mem_take hb)
  have h3 : ((L.take (j + 1)).length : Int) ≤ 1000 := by rw [List.length_take]; omega
  rw [hm]
  refine ⟨by omega, by omega, by omega⟩
theorem Zdl : ∀ {L : List Int}, TW.ZfK L = L.sum
  | [] => rfl
  | b :: L => by
    have := Zdl (L := L)
    unfold TW.ZfK at *
    rw [List.foldr_cons, List.sum_cons, this]
theorem ZfB.sm (h : ZfB L) : Sm L := fun b hb => by have := h b hb; omega
noncomputable def Cl (L : List Int) : Prop := run (1, 0) (0, 1) L = ((1, 0), (0, 1))
noncomputable instance (L : List Int) : Decidable (Cl L) := by unfold Cl; infer_instance
theorem Zi2 {L : List Int} : Cl L ↔ [(run (1, 0) (0, 1) L).1, (run (1, 0) (0, 1) L).2] = [(1, 0), (0, 1)] := by
  unfold Cl
  constructor
  · intro h; rw [h]
  · intro h
    simp only [List.cons.injEq, and_true] at h
    exact Prod.ext h.1 h.2
theorem Zhe {L : List Int} (h : Cl L) : (L.sum + 3 * (L.length : Int)) = 12 * (ZiZ (1, 0) (0, 1) L : Int) := by
  have := Zm7 (bs := L) (p := (1, 0)) (q := (0, 1)) rfl h
  rw [Zdl] at this
  omega
theorem Zdg (h : M[n]? = some (.lst (nts L))) (hb : ZfB L) (hl : L.length ≤ 1000) (q : ∀ M', Kp M M' → Q (.int (if Cl L then (ZiZ (1, 0) (0, 1) L : Int) else 0)) M') : wO (ZbR [.ref n] M) Q E := by
  simp! [ZbR, ZbQ]
  refine Zna h hb.sm hl fun M1 K1 r1 => ?_
  have er : rl (1, 0) (0, 1) L = rl0 (1, 0) (0, 1) L ++ [(run (1, 0) (0, 1) L).1, (run (1, 0) (0, 1) L).2] := rfl
  rw [er] at r1
  have lr := Zn r1
  simp! [r1, Zm9.1]
  have K2 : Kp M1 (M1 ++ [SO.lst (prs [(run (1, 0) (0, 1) L).1, (run (1, 0) (0, 1) L).2]), SO.lst [D.tup [D.int 1, D.int 0], D.tup [D.int 0, D.int 1]]]) := Kp.app
  have q2 : eqF 12 (M1 ++ [SO.lst (prs [(run (1, 0) (0, 1) L).1, (run (1, 0) (0, 1) L).2]), SO.lst [D.tup [D.int 1, D.int 0], D.tup [D.int 0, D.int 1]]]) (.ref M1.length) (.ref (M1.length + 1)) = some (decide ([(run (1, 0) (0, 1) L).1, (run (1, 0) (0, 1) L).2] = [(1, 0), (0, 1)])) := DL.Zmb (by rw [ZdU]; rfl) (by rw [Zh8]; rfl)
  rw [q2]
  generalize M1 ++ [SO.lst (prs [(run (1, 0) (0, 1) L).1, (run (1, 0) (0, 1) L).2]), SO.lst [D.tup [D.int 1, D.int 0], D.tup [D.int 0, D.int 1]]] = M2 at *
  have K02 := K1.trans K2
  have h2 := K02.get h
  simp! [Zo]
  refine ZrG (fun z => ?_) (fun z => ?_)
  · simp! [Zo]
    have := q M2 K02
    rw [if_neg (fun c => z (Zi2.mp c))] at this
    exact this
  · have c := Zi2.mpr z
    simp! [h2, CC.ZaI, Zko hb hl, ZaU]
    have := q M2 K02
    rw [if_pos c] at this
    rw [Zhe c, Int.mul_comm, Int.mul_ediv_cancel _ (by decide)]
    exact this
end
end CT
end
section
set_option Elab.async false
set_option linter.all false
set_option maxRecDepth 100000
set_option maxHeartbeats 4000000
namespace CT
open PySem PySem.Spec L2 DL
open CV
open TW (nx ZiZ Zik)
section
variable {Q : D → Sto → Prop} {E : Str → Sto → Prop} {M : Sto} {n m : Nat} {L : List Int}
structure Ln (L : List Int) : Prop where
  sm : ∀ b ∈ L, -900000 ≤ b ∧ b ≤ 900000
  len : L.length ≤ 61
theorem Ln.small (h : Ln L) : ZfB L := fun b hb => by have := h.sm b hb; omega
noncomputable def Bg (k : Nat) (p : Pt) : Prop := p.1.natAbs < 2 ^ k ∧ p.2.natAbs < 2 ^ k
theorem Bg.up {k l : Nat} {p : Pt} (h : Bg k p) (hl : k ≤ l) : Bg l p := ⟨Nat.lt_of_lt_of_le h.1 (Nat.pow_le_pow_right (by decide) hl), Nat.lt_of_lt_of_le h.2 (Nat.pow_le_pow_right (by decide) hl)⟩
end
end CT
end
section
set_option Elab.async false
set_option linter.all false
set_option maxRecDepth 100000
set_option maxHeartbeats 4000000
namespace DL
open CB (mid Wg Bd)
section
variable {rs : List Pt} {k : Nat}
theorem Zil {f : Pt → Pt → Nat} (hl : rs ≠ []) (h : cyc f rs = 0) (i : Int) : f (cy rs i) (cy rs (i + 1)) = 0 := by
  have l0 : rs.length ≠ 0 := fun z => hl (List.length_eq_zero_iff.mp z)
  refine Zcp (P := fun a b => f a b = 0) l0 ?_ i
  intro i h0 h1
  rw [TW.Zi1 hl] at h
  have : ∀ (k : Nat) (j : Int), TW.sf f rs j k = 0 → ∀ m : Nat, m < k → f (cy rs (j + m)) (cy rs (j + m + 1)) = 0 := by
    intro k
    induction k with
    | zero => intro j _ m hm; omega
    | succ k ih =>
      intro j h m hm
      rw [TW.sf] at h
      cases m with
      | zero =>
        rw [show j + ((0 : Nat) : Int) = j by omega]
        omega
      | succ m =>
        have := ih (j + 1) (by omega) m (by omega)
        rw [show j + ((m + 1 : Nat) : Int) = j + 1 + m by omega]
        exact this
  have := this rs.length 0 h i.toNat (by omega)
  rw [show (0 : Int) + (i.toNat : Nat) = i by omega] at this
  exact this
theorem ZeA {f : Pt → Pt → Nat} (hk : k < rs.length) (h3 : 3 ≤ rs.length) (hf : f (cy rs (k - 1)) (cy rs (k + 1)) = f (cy rs (k - 1)) (cy rs k) + f (cy rs k) (cy rs (k + 1))) : cyc f (del rs k) = cyc f rs := by
  obtain ⟨L, p, R, e, hl⟩ : ∃ L a R, rs = L ++ a :: R ∧ L.length = k := ⟨rs.take k, rs[k], rs.drop (k + 1), by rw [List.getElem_cons_drop, List.take_append_drop], by simp; omega⟩
  have ed : DL.del rs k = L ++ R := by
    unfold DL.del
    rw [e, ← hl, List.take_append, List.drop_append, List.take_of_length_le (by omega), List.drop_eq_nil_of_le (by omega)]
    simp
  have lr : (R ++ L).length = rs.length - 1 := by rw [e]; simp; omega
  obtain ⟨b, Y, a, hY⟩ : ∃ b Y a, R ++ L = b :: (Y ++ [a]) := by
    match hRL : R ++ L, lr with
    | [], lr => simp at lr; omega
    | b :: r, lr =>
      have : r ≠ [] := by intro z; rw [z] at lr; simp at lr; omega
      exact ⟨b, r.dropLast, r.getLast this, by rw [List.dropLast_concat_getLast]⟩
  have er : rs.drop k ++ rs.take k = p :: (R ++ L) := by
    rw [e, ← hl, List.take_append, List.drop_append, List.take_of_length_le (by omega), List.drop_eq_nil_of_le (by omega)]
    simp
  have c0 : cy rs k = p := by rw [e, ← hl]; exact Zfz
  have cb : cy rs (k + 1) = b := by
    have := ZcR (rs := rs) (k := k) (i := 1) (by omega)
    rw [er, hY] at this
    rw [show (k : Int) + 1 = 1 + k by omega, ← this]
    exact Zih (L := []) (a := p) (b := b)
  have ca : cy rs (k - 1) = a := by
    have := ZcR (rs := rs) (k := k) (i := -1) (by omega)
    rw [er, hY] at this
    rw [show (k : Int) - 1 = -1 + k by omega, ← this, ← ZbO]
    have := Zfz (L := p :: b :: Y) (a := a) (R := [])
    rw [show (-1 : Int) + ((p :: b :: (Y ++ [a])).length : Nat) = ((p :: b :: Y).length : Nat) by simp; omega]
    simpa using this
  rw [c0, ca, cb] at hf
  rw [ed, Zet (p := p) hY hf, ← e]
noncomputable def nxp (a b : Pt) : Nat := if 0 < X a b then 0 else 1
theorem ZpB {a b : Pt} (h : nxp a b = 0) : 0 < X a b := by
  unfold nxp at h
  split at h
  · assumption
  · omega
theorem ZcT {a b : Pt} (h : 0 < X a b) : nxp a b = 0 := by unfold nxp; rw [if_pos h]
structure Rn (rs : List Pt) : Prop where
  len : 3 ≤ rs.length
  ps : cyc nxp rs = 0
  gc : ∀ p ∈ rs, Int.gcd p.1 p.2 = 1
  fan : Fan rs
theorem Rn.ne (h : Rn rs) : rs ≠ [] := by
  intro z
  have := h.len
  rw [z] at this
  simp at this
theorem Rn.pos (h : Rn rs) (i : Int) : 0 < X (cy rs i) (cy rs (i + 1)) := ZpB (Zil h.ne h.ps i)
theorem Rn.ins {w : Pt} (h : Rn rs) (hk : k < rs.length) (gw : Int.gcd w.1 w.2 = 1) (h1 : 0 < X (cy rs k) w) (h2 : 0 < X w (cy rs (k + 1))) : Rn (ins rs k w) := by
  have hp := h.pos k
  refine ⟨by rw [Zdb hk]; have := h.len; omega, ?_, ?_, ?_⟩
  · rw [Zcq hk (by rw [ZcT hp, ZcT h1, ZcT h2])]
    exact h.ps
  · intro p hp
    rcases List.mem_append.mp hp with hp | hp
    · exact h.gc p (List.mem_of_mem_take hp)
    · rcases List.mem_cons.mp hp with hp | hp
      · subst hp; exact gw
      · exact h.gc p (List.mem_of_mem_drop hp)
  · intro v hv
    rw [Zcq hk (mid h1 h2 hp).1, Zcq hk (mid h1 h2 hp).2]
    exact h.fan v hv
theorem Rn.del (h : Rn rs) (hk : k < rs.length) (h4 : 4 ≤ rs.length) (hx : 0 < X (cy rs (k - 1)) (cy rs (k + 1))) : Rn (DL.del rs k) := by
  have p1 := h.pos (k - 1)
  rw [show (k : Int) - 1 + 1 = k by omega] at p1
  have p2 := h.pos k
  refine ⟨by rw [Zdd hk]; omega, ?_, ?_, ?_⟩
  · rw [ZeA hk (by omega) (by rw [ZcT hx, ZcT p1, ZcT p2])]
    exact h.ps
  · intro p hp
    unfold DL.del at hp
    rcases List.mem_append.mp hp with hp | hp
    · exact h.gc p (List.mem_of_mem_take hp)
    · exact h.gc p (List.mem_of_mem_drop hp)
  · intro v hv
    rw [ZeA hk (by omega) (mid p1 p2 hx).1, ZeA hk (by omega) (mid p1 p2 hx).2]
    exact h.fan v hv
end
end DL
end
section
set_option Elab.async false
set_option linter.all false
set_option maxRecDepth 100000
set_option maxHeartbeats 4000000
namespace CZ
open PySem PySem.Spec L2 DL
section
variable {Q : D → Sto → Prop} {E : Str → Sto → Prop} {M : Sto} {n m : Nat} {rs : List Pt}
end
end CZ
end
section
set_option Elab.async false
set_option linter.all false
set_option maxRecDepth 100000
set_option maxHeartbeats 4000000
namespace DL
open TW
open CT (rl0 Cl)
section
variable {rs us : List Pt}
theorem Znb {f : Pt → Pt → Nat} : ∀ (k : Nat) (j : Int) (m : Nat), m < k → f (cy rs (j + m)) (cy rs (j + m + 1)) ≤ sf f rs j k
  | 0, _, _, h => absurd h (Nat.not_lt_zero _)
  | k + 1, j, 0, _ => by rw [sf]; simp
  | k + 1, j, m + 1, h => by
    have := Znb (f := f) k (j + 1) m (by omega)
    rw [sf, show j + ((m + 1 : Nat) : Int) = j + 1 + m by omega]
    omega
theorem Zi3 {f : Pt → Pt → Nat} : ∀ (k : Nat) (j : Int) (m l : Nat), m < l → l < k → f (cy rs (j + m)) (cy rs (j + m + 1)) + f (cy rs (j + l)) (cy rs (j + l + 1)) ≤ sf f rs j k
  | 0, _, _, _, _, h => absurd h (Nat.not_lt_zero _)
  | k + 1, j, 0, l + 1, _, h => by
    have := Znb (f := f) (rs := rs) k (j + 1) l (by omega)
    rw [sf, show j + ((l + 1 : Nat) : Int) = j + 1 + l by omega]
    simp
    omega
  | k + 1, j, m + 1, l + 1, h1, h => by
    have := Zi3 (f := f) k (j + 1) m l (by omega) (by omega)
    rw [sf, show j + ((m + 1 : Nat) : Int) = j + 1 + m by omega, show j + ((l + 1 : Nat) : Int) = j + 1 + l by omega]
    omega
theorem Rn.lt_ne (h : Rn rs) {i j : Nat} (hij : i < j) (hj : j < rs.length) : cy rs i ≠ cy rs j := by
  intro e
  have p1 := h.pos i
  have p2 := h.pos j
  have w0 : cy rs i ≠ (0, 0) := by
    intro z
    rw [z] at p1
    unfold X at p1
    simp at p1
  have := (h.fan (cy rs i) w0).1
  rw [Zi1 h.ne] at this
  have g := Zi3 (f := in1 (cy rs i)) (rs := rs) rs.length 0 i j hij hj
  rw [show (0 : Int) + i = i by omega, show (0 : Int) + j = j by omega] at g
  rw [Zg3 (by rw [XX]; omega) p1, Zg3 (by rw [e, XX]; omega) (by rw [e]; exact p2)] at g
  omega
theorem Rn.inj (h : Rn rs) {i j : Nat} (hi : i < rs.length) (hj : j < rs.length) (e : cy rs i = cy rs j) : i = j := by
  rcases Nat.lt_trichotomy i j with c | c | c
  · exact absurd e (h.lt_ne c hj)
  · exact c
  · exact absurd e.symm (h.lt_ne c hi)
theorem Zdm : (List.range us.length).map (fun (j : Nat) => cy us j) = us := by
  apply List.ext_getElem
  · simp
  · intro i h1 h2
    simp [ZcQ h2]
end
end DL
end
section
set_option Elab.async false
set_option linter.all false
set_option maxRecDepth 100000
set_option maxHeartbeats 4000000
namespace CB
open DL
section
variable {u v w : Pt}
noncomputable def kl : List Pt → List Int
  | a :: b :: d :: r => X a d :: kl (b :: d :: r)
  | _ => []
theorem Xvv (p : Pt) : X p p = 0 := by unfold X; grind
theorem ZpC : ∀ (r : List Pt) (a b : Pt) (v : Pt), Ch (a :: b :: r) → Cv (a :: b :: r) → (b :: r).getLast (by simp) = v → 0 ≤ X b v ∧ X b v < X a v
  | [], a, b, v, h, _, e => by
    have : b = v := e
    subst this
    rw [Xvv, h.1]
    omega
  | c :: r, a, b, v, h, k, e => by
    have ih := ZpC r b c v h.2 k.2 (by rw [← e]; simp [List.getLast_cons])
    obtain ⟨m, m2, e1, e2⟩ := k.1
    have ex : X a v + X c v = m * X b v := by unfold X; grind
    have : 2 * X b v ≤ m * X b v := Int.mul_le_mul_of_nonneg_right m2 (by omega)
    omega
theorem Zkp {t b k c : Int} (hb : 0 < b) (h0 : 0 ≤ c) (h1 : c < b) (e : t + c = k * b) : -((-t) / b) = k := by
  have : -t = c + b * (-k) := by grind
  rw [this, Int.add_mul_ediv_left _ _ (by omega), Int.ediv_eq_zero_of_lt h0 h1]
  omega
theorem only : ∀ (ws : List Pt) (u v w : Pt), Ch (u :: (ws ++ [v])) → Cv (u :: (ws ++ [v])) → Fb u v w → ws = btw u w (hj (X u v) (X w v)) ∧ kl (u :: (ws ++ [v])) = hj (X u v) (X w v)
  | [], u, v, w, h, k, f => by
    have h1 : X u v = 1 := h.1
    have l := f.lo
    have l2 := f.hi
    have w0 : X w v = 0 := by omega
    rw [w0]
    unfold hj
    rw [dif_neg (by decide)]
    exact ⟨rfl, rfl⟩
  | x :: ws, u, v, w, h, k, f => by
    have hl : (x :: (ws ++ [v])).getLast (by simp) = v := by simp [List.getLast_cons]
    have d := ZpC (ws ++ [v]) u x v h k hl
    have fx : Fb u v x := ⟨h.1, d.1, d.2⟩
    have ew := fx.uniq f
    subst ew
    obtain ⟨y, R, eR⟩ : ∃ y R, ws ++ [v] = y :: R := by
      cases ws with
      | nil => exact ⟨v, [], rfl⟩
      | cons y R => exact ⟨y, R ++ [v], rfl⟩
    have h' : Ch (x :: y :: R) := by rw [← eR]; exact h.2
    have kk : Cv (u :: x :: y :: R) := by rw [← eR]; exact k
    have hl2 : (y :: R).getLast (by simp) = v := by
      have : (ws ++ [v]).getLast (by simp) = v := by simp
      simpa [eR] using this
    have d2 := ZpC R x y v h' kk.2 hl2
    obtain ⟨m, m2, e1, e2⟩ := kk.1
    have ex : X u v + X y v = m * X x v := by unfold X; grind
    have hc := Zkp (by omega) d2.1 d2.2 ex
    have ey : (m * x.1 - u.1, m * x.2 - u.2) = y := by apply Prod.ext <;> simp only <;> omega
    have m3 : X u y = m := by
      have := h.1
      rw [← ey]
      unfold X at *
      simp only
      grind
    have fy : Fb x v y := ⟨h'.1, d2.1, d2.2⟩
    have ih := only ws x v y (by rw [eR]; exact h') (by rw [eR]; exact kk.2) fy
    have ej : hj (X u v) (X x v) = m :: hj (X x v) (X y v) := by
      rw [hj, dif_pos (by omega), hc]
      congr 2
      omega
    rw [ej]
    constructor
    · rw [btw, ey, ← ih.1]
    · show kl (u :: x :: (ws ++ [v])) = _
      rw [eR, kl, m3, ← eR, ih.2]
end
end CB
end
section
set_option Elab.async false
set_option linter.all false
set_option maxRecDepth 100000
set_option maxHeartbeats 4000000
namespace CD
open PySem PySem.Spec L2 DL
open CB (F_law_take)
open CC (F_ask_smooth)
open CS (F_minus F_sloped)
noncomputable def Z9 : Sv := (Zs (ZI (gNm 2) (e2 dIx (Zd 0) (e2 dMod (e2 dAdd (Zd 1) (eC (.int 1))) (Zh bLen (Za (Zd 0) aNil)))))
  (ZM (e2 dAdd (e2 dAdd (eSl (Zd 0) oNo (oSo (e2 dAdd (Zd 1) (eC (.int 1))))) (Za5 (Za (Zav (Za (e2 dAdd (e2 dIx (e2 dIx (Zd 0) (Zd 1)) (eC (.int 0))) (e2 dIx (Zd 2) (eC (.int 0)))) (Za (e2 dAdd (e2 dIx (e2 dIx (Zd 0) (Zd 1)) (eC (.int 1))) (e2 dIx (Zd 2) (eC (.int 1)))) aNil))) aNil))) (eSl (Zd 0) (oSo (e2 dAdd (Zd 1) (eC (.int 1)))) oNo))))
noncomputable def F_law_short_put : List D → Sto → Out D := fnF Z9 2 1
noncomputable def Zax : Sv := (Zs (ZI (gNm 6) (Zh F_law_short_put (Za (Zd 3) (Za (Zh F_law_take (Za (Zd 0) (Za (Zh bLen (Za (Zd 3) aNil)) aNil))) aNil))))
  (sIf (Zfr (tv (e2 dLt (Zh bLen (Za (Zd 3) aNil)) (Zd 4))) (tv (e2 dLt (Zh (ZbN List.max?) (Za (ZT (iSq (Zd 6)) 2 [] (gTp (gCs (gNm 0) (gCs (gNm 1) gNl))) (fun _ M => .ok true M) (Zh bMax (Za (Zh bAbs (Za (Zd 0) aNil)) (Za (Zh bAbs (Za (Zd 1) aNil)) aNil)))) aNil)) (eC (.int 8))))) (ZI (gNm 3) (Zd 6)) sNil))
noncomputable def Zbm : Sv := (Zs (ZI (gNm 2) (Zh F_law_take (Za (Zd 0) (Za (eC (.int 5)) aNil))))
  (Zs (ZI (gNm 3) (e2 dIx (Za5 (Za (Za5 (Za (Zav (Za (eC (.int 1)) (Za (eC (.int 0)) aNil))) (Za (Zav (Za (eC (.int 0)) (Za (eC (.int 1)) aNil))) (Za (Zav (Za (ZcZ (eC (.int 1))) (Za (ZcZ (eC (.int 1))) aNil))) aNil)))) (Za (Za5 (Za (Zav (Za (eC (.int 1)) (Za (eC (.int 0)) aNil))) (Za (Zav (Za (eC (.int 0)) (Za (eC (.int 1)) aNil))) (Za (Zav (Za (ZcZ (eC (.int 1))) (Za (e2 dSub (Zd 2) (eC (.int 1))) aNil))) (Za (Zav (Za (eC (.int 0)) (Za (ZcZ (eC (.int 1))) aNil))) aNil))))) aNil))) (Zh bInt (Za (e2 dGt (Zd 2) (eC (.int 0))) aNil))))
  (Zs (ZI (gNm 4) (e2 dIx (Za5 (Za (e2 dAdd (eC (.int 3)) (Zh F_law_take (Za (Zd 0) (Za (e2 dSub (Zd 1) (eC (.int 2))) aNil)))) (Za (Zd 1) aNil))) (Zh bInt (Za (e2 dEq (Zh F_law_take (Za (Zd 0) (Za (eC (.int 6)) aNil))) (eC (.int 3))) aNil))))
  (Zs (Zba (gNm 5) (Za (e2 dMul (eC (.int 4)) (Zd 1)) aNil) Zax)
  (ZM (Zd 3))))))
noncomputable def F_law_base : List D → Sto → Out D := fnF Zbm 2 5
noncomputable def Zao : Sv := (Zs (ZI (gNm 3) (e2 dIx (Za5 (Za (e2 dSub (Zh F_law_take (Za (Zd 0) (Za (eC (.int 5)) aNil))) (eC (.int 2))) (Za (e2 dSub (Zh F_law_take (Za (Zd 0) (Za (eC (.int 15)) aNil))) (eC (.int 7))) aNil))) (Zh bInt (Za (e2 dEq (Zh F_law_take (Za (Zd 0) (Za (eC (.int 8)) aNil))) (eC (.int 5))) aNil))))
  (sIf (tv (e2 dEq (Zh F_law_take (Za (Zd 0) (Za (eC (.int 2)) aNil))) (eC (.int 0)))) (ZI (gNm 1) (Za5 (Za (e2 dAdd (e2 dIx (Zd 1) (eC (.int 0))) (e2 dMul (Zd 3) (e2 dIx (Zd 1) (eC (.int 2))))) (Za (e2 dAdd (e2 dIx (Zd 1) (eC (.int 1))) (e2 dMul (Zd 3) (e2 dIx (Zd 1) (eC (.int 3))))) (Za (e2 dIx (Zd 1) (eC (.int 2))) (Za (e2 dIx (Zd 1) (eC (.int 3))) aNil)))))) (ZI (gNm 1) (Za5 (Za (e2 dIx (Zd 1) (eC (.int 0))) (Za (e2 dIx (Zd 1) (eC (.int 1))) (Za (e2 dAdd (e2 dIx (Zd 1) (eC (.int 2))) (e2 dMul (Zd 3) (e2 dIx (Zd 1) (eC (.int 0))))) (Za (e2 dAdd (e2 dIx (Zd 1) (eC (.int 3))) (e2 dMul (Zd 3) (e2 dIx (Zd 1) (eC (.int 1))))) aNil))))))))
noncomputable def ZaY : Sv := (Zs (ZI (gNm 1) (Za5 (Za (eC (.int 1)) (Za (eC (.int 0)) (Za (eC (.int 0)) (Za (eC (.int 1)) aNil))))))
  (Zs (Zba (gNm 2) (Za (Zh F_law_take (Za (Zd 0) (Za (eC (.int 4)) aNil))) aNil) Zao)
  (Zs (sIf (tv (e2 dEq (Zh F_law_take (Za (Zd 0) (Za (eC (.int 3)) aNil))) (eC (.int 0)))) (ZI (gNm 1) (Za5 (Za (e2 dIx (Zd 1) (eC (.int 2))) (Za (e2 dIx (Zd 1) (eC (.int 3))) (Za (e2 dIx (Zd 1) (eC (.int 0))) (Za (e2 dIx (Zd 1) (eC (.int 1))) aNil)))))) sNil)
  (Zs (sIf (tv (e2 dGt (Zh (ZbN List.max?) (Za (ZT (iSq (Zd 1)) 1 [] (gNm 0) (fun _ M => .ok true M) (Zh bAbs (Za (Zd 0) aNil))) aNil)) (eC (.int 14)))) (ZM (Za5 (Za (eC (.int 0)) (Za (eC (.int 1)) (Za (eC (.int 1)) (Za (eC (.int 0)) aNil)))))) sNil)
  (ZM (Zd 1))))))
noncomputable def F_law_table : List D → Sto → Out D := fnF ZaY 1 3
noncomputable def Zbn : Sv := (Zs (ZI (gNm 4) (ZT (iZp (Za (Zd 1) (Za (Zd 2) aNil))) 3 [0] (gTp (gCs (gTp (gCs (gNm 0) (gCs (gNm 1) gNl))) (gCs (gNm 2) gNl))) (fun _ M => .ok true M) (Zav (Za (Zav (Za (e2 dAdd (e2 dMul (e2 dIx (Zd 3) (eC (.int 0))) (Zd 0)) (e2 dMul (e2 dIx (Zd 3) (eC (.int 1))) (Zd 1))) (Za (e2 dAdd (e2 dMul (e2 dIx (Zd 3) (eC (.int 2))) (Zd 0)) (e2 dMul (e2 dIx (Zd 3) (eC (.int 3))) (Zd 1))) aNil))) (Za (Zd 2) aNil)))))
  (Zs (sIf (tv (e2 dLt (e2 dSub (e2 dMul (e2 dIx (Zd 0) (eC (.int 0))) (e2 dIx (Zd 0) (eC (.int 3)))) (e2 dMul (e2 dIx (Zd 0) (eC (.int 1))) (e2 dIx (Zd 0) (eC (.int 2))))) (eC (.int 0)))) (ZI (gNm 4) (Zh bLR (Za (Zd 4) aNil))) sNil)
  (Zs (ZI (gNm 4) (e2 dAdd (eSl (Zd 4) (oSo (Zd 3)) oNo) (eSl (Zd 4) oNo (oSo (Zd 3)))))
  (ZM (Zav (Za (ZT (iSq (Zd 4)) 2 [] (gTp (gCs (gNm 0) (gCs (gNm 1) gNl))) (fun _ M => .ok true M) (Zd 0)) (Za (ZT (iSq (Zd 4)) 2 [] (gTp (gCs (gNm 0) (gCs (gNm 1) gNl))) (fun _ M => .ok true M) (Zd 1)) aNil)))))))
noncomputable def F_law_spun : List D → Sto → Out D := fnF Zbn 4 1
noncomputable def Zff : Sv := (ZM (e2 dLt (e2 dMul (e2 dIx (Zd 0) (eC (.int 0))) (e2 dIx (Zd 1) (eC (.int 1)))) (e2 dMul (e2 dIx (Zd 1) (eC (.int 0))) (e2 dIx (Zd 0) (eC (.int 1))))))
noncomputable def F_less : List D → Sto → Out D := fnF Zff 2 0
noncomputable def Zay : Sv := (sIf (tv (Zh F_less (Za (Zd 1) (Za (Zd 2) aNil)))) (ZI (gNm 1) (Zd 2)) sNil)
noncomputable def Zbo : Sv := (Zs (ZI (gNm 1) (e2 dIx (Zd 0) (eC (.int 0))))
  (Zs (ZkD (gNm 2) (Zd 0) Zay)
  (ZM (Zd 1))))
noncomputable def F_greatest : List D → Sto → Out D := fnF Zbo 1 2
noncomputable def Zbp : Sv := (ZM (Zh F_minus (Za (Zav (Za (eC (.int 0)) (Za (eC (.int 1)) aNil))) (Za (Zd 0) aNil))))
noncomputable def F_contrary : List D → Sto → Out D := fnF Zbp 1 0
noncomputable def ZaZ : Sv := (Zs (Zby (Zh F_ask_smooth (Za (Zd 0) aNil)))
  (ZM (ZT (iSq (Zd 0)) 1 [1] (gNm 0) (fun _ M => .ok true M) (Zh F_greatest (Za (ZT (iSq (Zd 1)) 1 [0] (gNm 0) (fun _ M => .ok true M) (Zh F_contrary (Za (Zh F_sloped (Za (Zd 0) (Za (Zd 1) aNil))) aNil))) aNil)))))
noncomputable def F_height_of : List D → Sto → Out D := fnF ZaZ 2 0
noncomputable def Zbq : Sv := (ZM (ZT (iSq (Zd 0)) 1 [1] (gNm 0) (fun _ M => .ok true M) (Zh (ZbN List.max?) (Za (ZT (iSq (Zd 1)) 2 [0] (gTp (gCs (gNm 0) (gCs (gNm 1) gNl))) (fun _ M => .ok true M) (e2 dSub (e2 dSub (eC (.int 0)) (e2 dMul (Zd 0) (e2 dIx (Zd 2) (eC (.int 0))))) (e2 dMul (Zd 1) (e2 dIx (Zd 2) (eC (.int 1)))))) aNil))))
noncomputable def F_law_hull : List D → Sto → Out D := fnF Zbq 2 0
end CD
end
section
set_option Elab.async false
set_option linter.all false
set_option maxRecDepth 100000
set_option maxHeartbeats 4000000
namespace CD
open PySem PySem.Spec L2 DL
open CV
open CB (Bd)
open CA (Tn)
open CR (rt Sz)
open CH (rts ZF Zam)
section
variable {Q : D → Sto → Prop} {E : Str → Sto → Prop} {M : Sto} {n m p : Nat} {rs : List Pt} {a b c d : Int} {ρ : Ro} {k : Nat} {xs : List D} {tg : Tg} {f : Ev}
theorem ZqH {fr : List Nat} (I : Ro → Prop) (F : Nat → D) (hM : M[n]? = some (.lst xs)) (hl : xs.length < 10000000) (h0 : I (roB k fr ρ))
    (st : ∀ (i : Nat) (h : i < xs.length) (ρ : Ro) (M' : Sto), Kp M M' → I ρ → wG (tg xs[i] ρ) fun r => I r ∧ wO (f r M') (fun y M2 => y = F i ∧ Kp M' M2) (fun _ _ => False))
    (hq : ∀ M', Kp M M' → M'[M.length]? = some (.lst ((List.range xs.length).map F)) → Q (.ref M.length) M') :
    kCo tg (fun _ M => .ok true M) f k fr ρ Q (.sto n) M := by
  refine ZgT (xs := xs) (Q := fun M2 => Q (.ref M.length) M2) (fun i ρ M' => I ρ ∧ Kp M M' ∧ M'[M.length]? = some (.lst ((List.range i).map F))) _ 0 _ _ (by simp) (by rw [ZgW hM]; omega) ⟨h0, Kp.app, by simp⟩ (fun i ρ M' hi hI => by rw [ZiM]; exact hI.2.1.get hM) ?_ (fun ρ M' hI => hq M' hI.2.1 hI.2.2)
  rintro i ρ M' hi ⟨hI, K, r⟩
  have s := st i hi ρ M' K hI
  cases e : tg xs[i] ρ with
  | none => rw [e] at s; exact s.elim
  | some r' =>
    rw [e] at s
    obtain ⟨hr, s⟩ := s
    show Br true _ _
    rw [ZnE]
    refine Zc8 s (fun y M2 ⟨h1, h2⟩ => ?_) (fun _ _ z => z)
    subst h1
    rw [h2.get r]
    have hl2 := Zn (h2.get r)
    refine ⟨by simp; omega, hr, (K.trans h2).set (Nat.le_refl _), ?_⟩
    rw [List.getElem?_set_self hl2, List.range_succ, List.map_append]
    rfl
theorem ZeB {at' : Nat} (h : M[n]? = some (.lst (prs rs))) (hb : Nr 1000 rs) (ha : at' < rs.length) (hl : rs.length ≤ 1000) (q : ∀ m M', Kp M M' → M.length ≤ m → M'[m]? = some (.lst (prs (ins rs at' ((cy rs at').1 + (cy rs (at' + 1)).1, (cy rs at').2 + (cy rs (at' + 1)).2)))) → Q (.ref m) M') : wO (F_law_short_put [.ref n, .int at'] M) Q E := by
  have hn := Zn h
  have em := Zat (i := (at' : Int) + 1) (m := rs.length) (by omega)
  have le : ((at' : Int) + 1).toNat = at' + 1 := by omega
  simp! [F_law_short_put, Z9, h, ZcN, ZcO, le]
  refine ⟨by rw [List.length_take]; omega, by rw [List.length_take, List.length_drop]; omega, q _ _ Kp.app (by omega) ?_⟩
  rw [Zh8]
  simp [ins]
theorem Ze9 {L : List Int} (h : L ≠ []) : ∃ mx, L.max? = some mx ∧ ∀ x ∈ L, x ≤ mx := by
  cases e : L.max? with
  | none => exact absurd (List.max?_eq_none_iff.mp e) h
  | some mx => exact ⟨mx, rfl, fun x hx => (List.max?_eq_some_iff.mp e).2 x hx⟩
theorem ZaI : ∀ {L : List Int}, Za6 (nts L) = some L
  | [] => rfl
  | x :: L => by
    have := ZaI (L := L)
    show (match Za6 (nts L) with | some ns => some (x :: ns) | none => none) = _
    rw [this]
theorem ZpD {M1 : Sto} {f : Int} (f0 : 0 ≤ f) (f1 : f < 5) : ∃ p ss, atI [D.ref M1.length, D.ref (M1.length + 1)] (if decide (0 < f) = true then 1 else 0) = some (.ref p) ∧ Smo ss ∧ Nr 7 ss ∧ ss.length ≤ 4 ∧ (M1 ++ [SO.lst [D.tup [D.int 1, D.int 0], D.tup [D.int 0, D.int 1], D.tup [D.int (-1), D.int (-1)]], SO.lst [D.tup [D.int 1, D.int 0], D.tup [D.int 0, D.int 1], D.tup [D.int (-1), D.int (f - 1)], D.tup [D.int 0, D.int (-1)]], SO.lst [D.ref M1.length, D.ref (M1.length + 1)]])[p]? = some (.lst (prs ss)) ∧ M1.length ≤ p := by
    by_cases z : 0 < f
    · refine ⟨M1.length + 1, [(1, 0), (0, 1), (-1, f - 1), (0, -1)], by rw [if_pos (decide_eq_true z)]; rfl, CC.ZrZ (f - 1), ?_, by simp, by rw [Zh8]; rfl, by omega⟩
      intro x hx
      simp at hx
      rcases hx with rfl | rfl | rfl | rfl <;> simp <;> omega
    · refine ⟨M1.length, [(1, 0), (0, 1), (-1, -1)], by rw [if_neg (by simpa using z)]; rfl, CC.ZrY, ?_, by simp, by rw [ZdU]; rfl, by omega⟩
      intro x hx
      simp at hx
      rcases hx with rfl | rfl | rfl <;> simp
theorem Znc {most : Int} (hm : 4 ≤ most ∧ most ≤ 100) (hb : Bag n M) (q : ∀ ss m M', Smo ss → Nr 7 ss → ss.length ≤ most → M.length ≤ m → M'[m]? = some (.lst (prs ss)) → Gr n M M' → Q (.ref m) M') : wO (F_law_base [.ref n, .int most] M) Q E := by
  have hn := hb.lt
  simp! [F_law_base, Zbm]
  refine CB.ZaJ hb (by decide) fun f M1 f0 f1 g1 => ?_
  have hn1 := g1.bag.lt
  have B1 := g1.bag
  simp! [Zo]
  obtain ⟨p, ss, hp, s1, s2, s3, s4, s5⟩ := ZpD (M1 := M1) f0 f1
  have B2 := B1.app [SO.lst [D.tup [D.int 1, D.int 0], D.tup [D.int 0, D.int 1], D.tup [D.int (-1), D.int (-1)]], SO.lst [D.tup [D.int 1, D.int 0], D.tup [D.int 0, D.int 1], D.tup [D.int (-1), D.int (f - 1)], D.tup [D.int 0, D.int (-1)]], SO.lst [D.ref M1.length, D.ref (M1.length + 1)]]
  have G2 : Gr n M1 (M1 ++ [SO.lst [D.tup [D.int 1, D.int 0], D.tup [D.int 0, D.int 1], D.tup [D.int (-1), D.int (-1)]], SO.lst [D.tup [D.int 1, D.int 0], D.tup [D.int 0, D.int 1], D.tup [D.int (-1), D.int (f - 1)], D.tup [D.int 0, D.int (-1)]], SO.lst [D.ref M1.length, D.ref (M1.length + 1)]]) := Gr.app B1 _
  generalize M1 ++ [SO.lst [D.tup [D.int 1, D.int 0], D.tup [D.int 0, D.int 1], D.tup [D.int (-1), D.int (-1)]], SO.lst [D.tup [D.int 1, D.int 0], D.tup [D.int 0, D.int 1], D.tup [D.int (-1), D.int (f - 1)], D.tup [D.int 0, D.int (-1)]], SO.lst [D.ref M1.length, D.ref (M1.length + 1)]] = M2 at *
  have gl1 := g1.len
  simp! [hp]
  refine CB.ZaJ B2 (by omega) fun t1 M3 t10 t11 g3 => ?_
  simp! [Zo]
  refine CB.ZaJ (g3.bag.app _) (by decide) fun t2 M4 t20 t21 g4 => ?_
  have k4 := Gr.new g3.bag g4
  have r4 := CA.Gr.up (CA.Gr.up s4 g3 (by omega)) ((Gr.app g3.bag _).trans g4) (by omega)
  have G4 := ((g1.trans G2).trans g3).trans ((Gr.app g3.bag _).trans g4)
  obtain ⟨many, hmany, m0⟩ : ∃ many : Int, atI [D.int (3 + t1), D.int most] (if decide (t2 = 3) = true then 1 else 0) = some (.int many) ∧ many ≤ most := by
    by_cases z : t2 = 3
    · exact ⟨most, by rw [if_pos (decide_eq_true z)]; rfl, by omega⟩
    · exact ⟨3 + t1, by rw [if_neg (by simpa using z)]; rfl, by omega⟩
  simp! [k4, hmany]
  clear k4 hmany hp
  refine ⟨by omega, ?_⟩
  refine ZdR (fun i ρ M' => ∃ ss p x5 x6, ρ = [some (.ref n), some (.int most), some (.int f), some (.ref p), some (.int many), x5, x6] ∧ Smo ss ∧ Nr 7 ss ∧ ss.length ≤ most ∧ M.length ≤ p ∧ M'[p]? = some (.lst (prs ss)) ∧ Gr n M M') ⟨ss, p, _, _, rfl, s1, s2, by omega, by omega, r4, G4⟩ ?_ ?_
  · rintro i ρ M5 hi ⟨ss, p, x5, x6, rfl, s1, s2, s3, s4, s5, G⟩
    have sl := s1.len
    simp! [Zax, s5]
    refine CB.ZaJ G.bag (by omega) fun t M6 t0 t1 g6 => ?_
    have s6 := CA.Gr.up s5 g6 (by omega)
    have G6 := G.trans g6
    obtain ⟨at', rfl⟩ : ∃ k : Nat, t = k := ⟨t.toNat, by omega⟩
    simp! [Zo]
    refine ZeB s6 (fun x hx => by have := s2 x hx; omega) (by omega) (by omega) fun m M7 K7 m7 r7 => ?_
    have s7 := K7.get s6
    have G7 := G6.trans (K7.gr G6.bag)
    have l7 := Zn s7
    have sn := s1.ins (k := at') (by omega)
    have ln := Zdb (rs := ss) (k := at') (p := ((cy ss at').1 + (cy ss (at' + 1)).1, (cy ss at').2 + (cy ss (at' + 1)).2)) (by omega)
    generalize ins ss at' ((cy ss at').1 + (cy ss (at' + 1)).1, (cy ss at').2 + (cy ss (at' + 1)).2) = ns at *
    simp! [s7]
    refine Zrz (fun b M' => Kp M7 M' ∧ (b = true → (ss.length : Int) < many ∧ Nr 7 ns)) ?_ ?_
    · refine brO (fun z => ?_) (fun z => ?_)
      · simp! [Zo]
        refine ZiO (fun ρ => ∃ x y, ρ = [x, y]) (fun (i : Nat) => D.int (max (cy ns i).1.natAbs (cy ns i).2.natAbs : Int)) r7 (by rw [ZB]; omega) ⟨_, _, rfl⟩ ?_ ?_
        · rintro i hi ρ L ⟨x, y, rfl⟩
          rw [CC.ZbD]
          simp! [Zo]
          exact ⟨_, _, rfl⟩
        have ne : ns ≠ [] := fun z => by rw [z] at ln; simp at ln
        rw [ZB, Zda]
        obtain ⟨mx, hmx, hle⟩ := Ze9 (L := (List.range ns.length).map fun (i : Nat) => (max (cy ns i).1.natAbs (cy ns i).2.natAbs : Int)) (fun z => by
          have := congrArg List.length z
          rw [List.length_map, List.length_range, ln] at this
          simp at this)
        simp! [ZaI, hmx]
        refine ⟨Kp.app, fun u => ⟨z, fun x hx => ?_⟩⟩
        obtain ⟨i, hi, rfl⟩ := List.getElem_of_mem hx
        have := hle _ (List.mem_map.mpr ⟨i, List.mem_range.mpr hi, rfl⟩)
        simp only [ZcQ hi] at this
        have := of_decide_eq_true u
        omega
      · simp! [Zo]
        exact ⟨Kp.refl, fun u => by cases u⟩
    rintro b M8 ⟨K8, hb8⟩
    simp! [Zo]
    refine ZrH (fun z => ?_) (fun z => ?_)
    · obtain ⟨h1, h2⟩ := hb8 z
      simp! [Zo]
      exact ⟨ns, m, _, _, rfl, sn, h2, by omega, by have := G6.len; omega, K8.get r7, G7.trans (K8.gr G7.bag)⟩
    · simp! [Zo]
      exact ⟨ss, p, _, _, rfl, s1, s2, s3, s4, K8.get s7, G7.trans (K8.gr G7.bag)⟩
  · rintro ρ M5 ⟨ss, p, x5, x6, rfl, s1, s2, s3, s4, s5, G⟩
    simp! [Zo]
    exact q ss p M5 s1 s2 s3 s4 s5 G
noncomputable abbrev tb (a b c d : Int) : SO := .lst [.int a, .int b, .int c, .int d]
theorem Znd {B mm : Int} (t : Tn B a b c d) (hm : -7 ≤ mm ∧ mm ≤ 7) : Tn (8 * B) (a + mm * c) (b + mm * d) c d ∧ Tn (8 * B) a b (c + mm * a) (d + mm * b) := by
  obtain ⟨ta, tb', tc, td, te⟩ := t
  have m1 := CA.Zhq (B := 7) hm ta
  have m2 := CA.Zhq (B := 7) hm tb'
  have m3 := CA.Zhq (B := 7) hm tc
  have m4 := CA.Zhq (B := 7) hm td
  have d1 : (a + mm * c) * d - (b + mm * d) * c = a * d - b * c := by grind
  have d2 : a * (d + mm * b) - b * (c + mm * a) = a * d - b * c := by grind
  exact ⟨⟨by omega, by omega, by omega, by omega, by rw [d1]; exact te⟩, ⟨by omega, by omega, by omega, by omega, by rw [d2]; exact te⟩⟩
theorem Zkq (hb : Bag n M) (q : ∀ a b c d p M', Tn 14 a b c d → M.length ≤ p → M'[p]? = some (tb a b c d) → Gr n M M' → Q (.ref p) M') : wO (F_law_table [.ref n] M) Q E := by
  have hn := hb.lt
  simp! [F_law_table, ZaY]
  have B1 := hb.app [tb 1 0 0 1]
  have G1 : Gr n M (M ++ [tb 1 0 0 1]) := Gr.app hb _
  have r1 : (M ++ [tb 1 0 0 1])[M.length]? = some (tb 1 0 0 1) := by simp
  refine CB.ZaJ B1 (by decide) fun r M1 r0 r1' g1 => ?_
  have G2 := G1.trans g1
  have r2 := CA.Gr.up r1 g1 (by omega)
  simp! [Zo]
  refine ⟨by omega, ?_⟩
  refine ZdR (fun i ρ M' => ∃ a b c d p x2 x3, ρ = [some (.ref n), some (.ref p), x2, x3] ∧ Tn (8 ^ i) a b c d ∧ M.length ≤ p ∧ M'[p]? = some (tb a b c d) ∧ Gr n M M') ⟨1, 0, 0, 1, _, _, _, rfl, ⟨by decide, by decide, by decide, by decide, .inl (by decide)⟩, by omega, r2, G2⟩ ?_ ?_
  · rintro i ρ M2 hi ⟨a, b, c, d, p, x2, x3, rfl, tn, pl, v1, G⟩
    simp! [Zao]
    refine CB.ZaJ G.bag (by decide) fun s M3 s0 s1 g3 => ?_
    simp! [Zo]
    refine CB.ZaJ g3.bag (by decide) fun s' M4 s0' s1' g4 => ?_
    simp! [Zo]
    refine CB.ZaJ (g4.bag.app _) (by decide) fun t M5 t0 t1 g5 => ?_
    have k5 := Gr.new g4.bag g5
    obtain ⟨mm, hmm, m0⟩ : ∃ mm : Int, atI [D.int (s - 2), D.int (s' - 7)] (if decide (t = 5) = true then 1 else 0) = some (.int mm) ∧ (-7 ≤ mm ∧ mm ≤ 7) := by
      by_cases z : t = 5
      · exact ⟨s' - 7, by rw [if_pos (decide_eq_true z)]; rfl, by omega⟩
      · exact ⟨s - 2, by rw [if_neg (by simpa using z)]; rfl, by omega⟩
    simp! [k5, hmm]
    refine CB.ZaJ g5.bag (by decide) fun t' M6 t0' t1' g6 => ?_
    have G6 := (((G.trans g3).trans g4).trans ((Gr.app g4.bag _).trans g5)).trans g6
    have v6 := CA.Gr.up (CA.Gr.up (CA.Gr.up (CA.Gr.up v1 g3 (by omega)) g4 (by omega)) ((Gr.app g4.bag _).trans g5) (by omega)) g6 (by omega)
    have hp := Zn v6
    have gl := G6.len
    have p8 : (8 : Int) ^ (i + 1) = 8 * 8 ^ i := by rw [Int.pow_succ, Int.mul_comm]
    have ta := Znd tn m0
    rw [← p8] at ta
    have fc := tn.fa
    have fb := tn.fb
    have fcc := tn.fc
    have fd := tn.fd
    simp! [Zo]
    refine brS (fun z => ?_) (fun z => ?_)
    · simp! [v6]
      exact ⟨a + mm * c, b + mm * d, c, d, _, _, _, rfl, ta.1, gl, by simp, G6.app2 _⟩
    · simp! [v6]
      exact ⟨a, b, c + mm * a, d + mm * b, _, _, _, rfl, ta.2, gl, by simp, G6.app2 _⟩
  · rintro ρ M2 ⟨a, b, c, d, p, x2, x3, rfl, tn, pl, v1, G⟩
    simp! [Zo]
    refine CB.ZaJ G.bag (by decide) fun s M3 s0 s1 g3 => ?_
    have v3 := CA.Gr.up v1 g3 (by have := hb.lt; omega)
    have hp := Zn v3
    simp! [Zo]
    refine ZpZ (fun ρ M' => ∃ a b c d p, ρ = [some (.ref n), some (.ref p), x2, x3] ∧ (a * d - b * c = 1 ∨ a * d - b * c = -1) ∧ M.length ≤ p ∧ M'[p]? = some (tb a b c d) ∧ Gr n M M') ?_ ?_
    · refine brS (fun z => ?_) (fun z => ?_)
      · have dt : c * b - d * a = 1 ∨ c * b - d * a = -1 := by
          rcases tn.det with e | e
          · right; grind
          · left; grind
        simp! [v3]
        exact ⟨c, d, a, b, _, rfl, dt, by have := (G.trans g3).len; omega, by simp, (G.trans g3).app2 _⟩
      · simp! [Zo]
        exact ⟨a, b, c, d, p, rfl, tn.det, pl, v3, G.trans g3⟩
    · rintro _ M4 ⟨a, b, c, d, p, rfl, t4, l4, v4, G4⟩
      have hp4 := Zn v4
      simp! [Zo]
      refine ZiO (fun ρ => ∃ x, ρ = [x]) (fun (i : Nat) => D.int (([a, b, c, d].getD i 0).natAbs : Int)) v4 (by simp) ⟨_, rfl⟩ ?_ ?_
      · rintro i hi ρ L ⟨x, rfl⟩
        have : i = 0 ∨ i = 1 ∨ i = 2 ∨ i = 3 := by simp at hi; omega
        rcases this with rfl | rfl | rfl | rfl <;> simp only [List.getElem_cons_zero, List.getElem_cons_succ, List.getD_cons_zero, List.getD_cons_succ] <;> simp! [Zo] <;> exact ⟨_, rfl⟩
      have mp : ((List.range [D.int a, D.int b, D.int c, D.int d].length).map fun (i : Nat) => D.int (([a, b, c, d].getD i 0).natAbs : Int)) = nts [(a.natAbs : Int), b.natAbs, c.natAbs, d.natAbs] := rfl
      rw [mp]
      obtain ⟨mx, hmx, hle⟩ := Ze9 (L := [(a.natAbs : Int), b.natAbs, c.natAbs, d.natAbs]) (by simp)
      have h1 := hle a.natAbs (by simp)
      have h2 := hle b.natAbs (by simp)
      have h3 := hle c.natAbs (by simp)
      have h4 := hle d.natAbs (by simp)
      have K5 : Kp M4 (M4 ++ [SO.lst (nts [(a.natAbs : Int), b.natAbs, c.natAbs, d.natAbs])]) := Kp.app
      have id := ZaI (L := [(a.natAbs : Int), b.natAbs, c.natAbs, d.natAbs])
      generalize [(a.natAbs : Int), b.natAbs, c.natAbs, d.natAbs] = L4 at *
      simp! [id, hmx]
      generalize M4 ++ [SO.lst (nts L4)] = M5 at *
      have G5 := G4.trans (K5.gr G4.bag)
      refine brS (fun z => ?_) (fun z => ?_)
      · simp! [Zo]
        exact q 0 1 1 0 _ _ ⟨by decide, by decide, by decide, by decide, .inr (by decide)⟩ (by have := G5.len; omega) (by simp) (G5.app2 _)
      · simp! [Zo]
        exact q a b c d p M5 ⟨by omega, by omega, by omega, by omega, t4⟩ l4 (K5.get v4) G5
end
end CD
end
section
set_option Elab.async false
set_option linter.all false
set_option maxRecDepth 100000
set_option maxHeartbeats 4000000
namespace CD
open PySem PySem.Spec L2 DL
open CV
open CB (Bd)
open CA (Tn)
open CR (rt Sz)
open CH (rts ZF Zam)
noncomputable def gg (a b c d : Int) (p : Pt) : Pt := (a * p.1 + b * p.2, c * p.1 + d * p.2)
theorem ZpE {a b c d : Int} (u v : Pt) : X (gg a b c d u) (gg a b c d v) = (a * d - b * c) * X u v := by unfold X gg; simp only; grind
noncomputable def sg {α : Type} (neg : Bool) (k : Nat) (L : List α) : List α := (if neg then L.reverse else L).drop k ++ (if neg then L.reverse else L).take k
theorem Zhf {α : Type} {neg : Bool} {k : Nat} {L : List α} : (sg neg k L).length = L.length := by
  unfold sg
  rw [List.length_append, List.length_drop, List.length_take]
  cases neg <;> simp <;> omega
noncomputable def zp (us : List Pt) (xs : List D) : List D := List.zipWith (fun u x => D.tup [pr u.1 u.2, x]) us xs
theorem Zhg {us : List Pt} {xs : List D} (h : xs.length = us.length) : (zp us xs).length = us.length := by unfold zp; simp [h]
theorem Zhh {us : List Pt} {xs : List D} {i : Nat} (h : i < (zp us xs).length) (h1 : i < us.length) (h2 : i < xs.length) : (zp us xs)[i] = D.tup [pr us[i].1 us[i].2, xs[i]] := List.getElem_zipWith
theorem Zne {us : List Pt} {xs : List D} (h : xs.length = us.length) : (zp us xs).reverse = zp us.reverse xs.reverse := by
  unfold zp
  rw [List.reverse_zipWith h.symm]
theorem Znf {us : List Pt} {xs : List D} {k : Nat} (h : xs.length = us.length) : (zp us xs).drop k ++ (zp us xs).take k = zp (us.drop k ++ us.take k) (xs.drop k ++ xs.take k) := by
  unfold zp
  rw [List.zipWith_append (by simp [h]), List.drop_zipWith, List.take_zipWith]
theorem Zng {a b c d : Int} {rs : List Pt} {k : Nat} (hs : Smo rs) (hk : k ≤ rs.length) (hd : a * d - b * c = 1 ∨ a * d - b * c = -1) : Smo (sg (decide (a * d - b * c < 0)) k (rs.map (gg a b c d))) := by
  unfold sg
  have ml : (rs.map (gg a b c d)).length = rs.length := List.length_map _
  rcases hd with hd | hd
  · rw [hd, if_neg (by decide)]
    exact (hs.map (f := gg a b c d) fun p q => by rw [ZpE, hd, Int.one_mul]).rot (by rw [ml]; exact hk)
  · rw [hd, if_pos (by decide)]
    refine Smo.rot (CA.Zkf (by rw [ml]; exact hs.len) (fun i => ?_) ?_) (by rw [List.length_reverse, ml]; exact hk)
    · rw [Ze8 hs.ne, Ze8 hs.ne, ZpE, hd, hs.one]; rfl
    · exact hs.fan.flip (f := gg a b c d) fun p q => by rw [ZpE, hd]
theorem ZpF {a b c d : Int} {rs : List Pt} {neg : Bool} {k : Nat} (hr : Nr 7 rs) (t : Tn 14 a b c d) : Nr 200 (sg neg k (rs.map (gg a b c d))) := by
  intro p hp
  have : p ∈ rs.map (gg a b c d) := by
    unfold sg at hp
    cases neg
    · simp only [Bool.false_eq_true, if_false, List.mem_append] at hp
      rcases hp with hp | hp
      · exact List.mem_of_mem_drop hp
      · exact List.mem_of_mem_take hp
    · simp only [if_true, List.mem_append] at hp
      rcases hp with hp | hp
      · exact List.mem_reverse.mp (List.mem_of_mem_drop hp)
      · exact List.mem_reverse.mp (List.mem_of_mem_take hp)
  obtain ⟨x, hx, rfl⟩ := List.mem_map.mp this
  have h := hr x hx
  have m1 := CA.Zhq t.fa h.1
  have m2 := CA.Zhq t.fb h.2
  have m3 := CA.Zhq t.fc h.1
  have m4 := CA.Zhq t.fd h.2
  unfold gg
  simp only
  omega
section
variable {Q : D → Sto → Prop} {E : Str → Sto → Prop} {M : Sto} {n m p : Nat} {rs : List Pt} {a b c d : Int} {ρ : Ro} {k : Nat} {xs : List D} {tg : Tg} {f : Ev}
theorem Znh {st : Int} (h : M[n]? = some (.lst (prs rs))) (hx : M[m]? = some (.lst xs)) (lx : xs.length = rs.length) (ht : M[p]? = some (tb a b c d)) (t : Tn 14 a b c d) (hr : Nr 7 rs) (hl : rs.length ≤ 1000) (hst : 0 ≤ st ∧ st ≤ rs.length)
    (q : ∀ o1 o2 M', Kp M M' → M.length ≤ o1 → M.length ≤ o2 → o1 ≠ o2 → M'[o1]? = some (.lst (prs (sg (decide (a * d - b * c < 0)) st.toNat (rs.map (gg a b c d))))) → M'[o2]? = some (.lst (sg (decide (a * d - b * c < 0)) st.toNat xs)) → Q (.tup [.ref o1, .ref o2]) M') : wO (F_law_spun [.ref p, .ref n, .ref m, .int st] M) Q E := by
  have hn := Zn h
  have hm := Zn hx
  have hp := Zn ht
  obtain ⟨ta, tb', tc, td, te⟩ := t
  have zl : (List.zipWith (fun a b => D.tup [a, b]) (prs rs) xs).length = rs.length := by simp [ZB, lx]
  simp! [F_law_spun, Zbn]
  refine Zpr (xs := List.zipWith (fun a b => D.tup [a, b]) (prs rs) xs) (fun ρ => ∃ x y z, ρ = [x, y, z, some (.ref p)]) (fun (i : Nat) => D.tup [pr (gg a b c d (cy rs i)).1 (gg a b c d (cy rs i)).2, xs.getD i .non]) (by omega) (by rw [Zj5 h, zl, ZB]; omega) ⟨_, _, _, rfl⟩ (fun L i hi => ?_) ?_ ?_
  · rw [Zmu (by rw [ZcC hn]; exact h) (by rw [ZcC hm]; exact hx)]
  · rintro i hi ρ L ⟨x, y, z, rfl⟩
    rw [zl] at hi
    have hp' : (M ++ L)[p]? = some (tb a b c d) := by rw [ZcC hp]; exact ht
    rw [List.getElem_zipWith, CC.ZbD]
    simp! [hp']
    refine ⟨⟨_, _, _, rfl⟩, ?_⟩
    rw [List.getD_eq_getElem?_getD, List.getElem?_eq_getElem (by omega)]
    rfl
  have en : ((List.range (List.zipWith (fun a b => D.tup [a, b]) (prs rs) xs).length).map fun (i : Nat) => D.tup [pr (gg a b c d (cy rs i)).1 (gg a b c d (cy rs i)).2, xs.getD i .non]) = zp (rs.map (gg a b c d)) xs := by
    rw [zl]
    apply List.ext_getElem
    · rw [Zhg (by rw [List.length_map, lx])]; simp
    · intro i h1 h2
      simp at h1
      rw [List.getElem_map, List.getElem_range, Zhh h2 (by simp; omega) (by omega), List.getElem_map, ZcQ h1, List.getD_eq_getElem?_getD, List.getElem?_eq_getElem (by omega)]
      rfl
  rw [en]
  have K1 : Kp M (M ++ [SO.lst (zp (rs.map (gg a b c d)) xs)]) := Kp.app
  have r1 : (M ++ [SO.lst (zp (rs.map (gg a b c d)) xs)])[M.length]? = some (.lst (zp (rs.map (gg a b c d)) xs)) := by simp
  generalize M ++ [SO.lst (zp (rs.map (gg a b c d)) xs)] = M1 at *
  have ht1 := K1.get ht
  have hl1 := Zn r1
  have hp1 := Zn ht1
  generalize hus : rs.map (gg a b c d) = us at *
  have lu : xs.length = us.length := by rw [← hus, List.length_map, lx]
  have lur : us.length = rs.length := by omega
  clear en zl
  simp! [ht1]
  refine ZpZ (fun ρ M' => ∃ o us' xs', ρ = [some (.ref p), some (.ref n), some (.ref m), some (.int st), some (.ref o)] ∧ Kp M M' ∧ M'[o]? = some (.lst (zp us' xs')) ∧ us' = (if decide (a * d - b * c < 0) then us.reverse else us) ∧ xs' = (if decide (a * d - b * c < 0) then xs.reverse else xs)) ?_ ?_
  · refine brS (fun z => ?_) (fun z => ?_)
    · simp! [Zps, r1]
      refine ⟨_, us.reverse, xs.reverse, rfl, K1.trans Kp.app, by rw [ZdU, Zne lu]; rfl, by simp, by simp⟩
    · simp! [Zo]
      exact ⟨_, us, xs, rfl, K1, r1, by simp, by simp⟩
  · rintro _ M2 ⟨o, us', xs', rfl, K2, r2, e1, e2⟩
    have l2 := Zn r2
    have lu' : xs'.length = us'.length := by
      rw [e1, e2]
      split <;> simp [lu]
    have lur' : us'.length = rs.length := by
      rw [e1]
      split <;> simp [lur]
    have lz := Zhg lu'
    simp! [r2]
    refine ⟨by rw [List.length_take, List.length_drop]; omega, ?_⟩
    rw [Znf lu']
    have g1 : sg (decide (a * d - b * c < 0)) st.toNat us = us'.drop st.toNat ++ us'.take st.toNat := by rw [e1]; rfl
    have g2 : sg (decide (a * d - b * c < 0)) st.toNat xs = xs'.drop st.toNat ++ xs'.take st.toNat := by rw [e2]; rfl
    rw [← g1, ← g2]
    have lg1 : (sg (decide (a * d - b * c < 0)) st.toNat us).length = rs.length := by rw [Zhf, lur]
    have lg2 : (sg (decide (a * d - b * c < 0)) st.toNat xs).length = rs.length := by rw [Zhf, lx]
    generalize sg (decide (a * d - b * c < 0)) st.toNat us = vs at *
    generalize sg (decide (a * d - b * c < 0)) st.toNat xs = ys at *
    generalize hM3 : M2 ++ [SO.lst ((zp us' xs').drop st.toNat), SO.lst ((zp us' xs').take st.toNat), SO.lst (zp vs ys)] = M3
    have K3 : Kp M M3 := by rw [← hM3]; exact K2.trans Kp.app
    have r3 : M3[M2.length + 2]? = some (.lst (zp vs ys)) := by rw [← hM3, Zh8]; rfl
    have l3 : M3.length = M2.length + 3 := by rw [← hM3]; simp
    have lz3 := Zhg (us := vs) (xs := ys) (by omega)
    have kl := K2.1
    refine ZiO (fun ρ => ∃ x y, ρ = [x, y]) (fun (i : Nat) => pr (cy vs i).1 (cy vs i).2) r3 (by omega) ⟨_, _, rfl⟩ ?_ ?_
    · rintro i hi ρ L ⟨x, y, rfl⟩
      have hi' : i < vs.length := by omega
      have e : (zp vs ys)[i] = D.tup [pr vs[i].1 vs[i].2, ys[i]'(by omega)] := Zhh _ _ _
      rw [e, ZcQ hi']
      simp! [Zo]
      exact ⟨_, _, rfl⟩
    have en : ((List.range (zp vs ys).length).map fun (i : Nat) => pr (cy vs i).1 (cy vs i).2) = prs vs := by
      rw [lz3]
      conv => rhs; rw [← Zdm (us := vs)]
      unfold prs
      rw [List.map_map]
      rfl
    rw [en]
    have K4 : Kp M3 (M3 ++ [SO.lst (prs vs)]) := Kp.app
    have r4 : (M3 ++ [SO.lst (prs vs)])[M3.length]? = some (.lst (prs vs)) := by simp
    generalize M3 ++ [SO.lst (prs vs)] = M4 at *
    have r34 := K4.get r3
    have l4 := Zn r4
    simp! [Zo]
    refine ZiO (fun ρ => ∃ x y, ρ = [x, y]) (fun (i : Nat) => ys.getD i .non) r34 (by omega) ⟨_, _, rfl⟩ ?_ ?_
    · rintro i hi ρ L ⟨x, y, rfl⟩
      have hi' : i < vs.length := by omega
      have e : (zp vs ys)[i] = D.tup [pr vs[i].1 vs[i].2, ys[i]'(by omega)] := Zhh _ _ _
      rw [e, List.getD_eq_getElem?_getD, List.getElem?_eq_getElem (by omega)]
      simp! [Zo]
      exact ⟨⟨_, _, rfl⟩, rfl⟩
    have en2 : ((List.range (zp vs ys).length).map fun (i : Nat) => ys.getD i .non) = ys := by
      rw [lz3]
      apply List.ext_getElem
      · simp; omega
      · intro i h1 h2
        simp [List.getElem?_eq_getElem h2]
    rw [en2]
    simp! [Zo]
    exact q _ _ _ ((K3.trans K4).trans Kp.app) (by omega) (by omega) (by omega) (by rw [ZcC l4]; exact r4) (by simp)
end
end CD
end
section
set_option Elab.async false
set_option linter.all false
set_option maxRecDepth 100000
set_option maxHeartbeats 4000000
namespace CD
open PySem PySem.Spec L2 DL
open CV CN CU CS
open CR (rt Sz)
open CH (rts ZF Zam)
noncomputable def mxr (xs : List Rat) : Rat := xs.foldl (fun b x => if b < x then x else b) (xs.headD 0)
theorem Zdn : ∀ (xs : List Rat) (b : Rat), (xs.foldl (fun b x => if b < x then x else b) b = b ∨ xs.foldl (fun b x => if b < x then x else b) b ∈ xs) ∧ b ≤ xs.foldl (fun b x => if b < x then x else b) b ∧ ∀ x ∈ xs, x ≤ xs.foldl (fun b x => if b < x then x else b) b
  | [], b => ⟨.inl rfl, Rat.le_refl, fun x h => by cases h⟩
  | x :: xs, b => by
    rw [List.foldl_cons]
    by_cases h : b < x
    · rw [if_pos h]
      obtain ⟨h1, h2, h3⟩ := Zdn xs x
      refine ⟨.inr ?_, by grind, fun y hy => ?_⟩
      · rcases h1 with e | e
        · rw [e]; simp
        · exact List.mem_cons_of_mem _ e
      · rcases List.mem_cons.mp hy with rfl | hy
        · exact h2
        · exact h3 y hy
    · rw [if_neg h]
      obtain ⟨h1, h2, h3⟩ := Zdn xs b
      refine ⟨?_, h2, fun y hy => ?_⟩
      · rcases h1 with e | e
        · exact .inl e
        · exact .inr (List.mem_cons_of_mem _ e)
      · rcases List.mem_cons.mp hy with rfl | hy
        · grind
        · exact h3 y hy
theorem Zkr {xs : List Rat} (h : xs ≠ []) : mxr xs ∈ xs := by
  cases xs with
  | nil => exact absurd rfl h
  | cons x r =>
    rcases (Zdn (x :: r) x).1 with e | e
    · unfold mxr; rw [show (x :: r).headD 0 = x from rfl, e]; simp
    · exact e
theorem Zni {xs : List Rat} {x : Rat} (h : x ∈ xs) : x ≤ mxr xs := (Zdn xs _).2.2 x h
theorem Znj {xs : List Rat} {g : Rat} (h : g ∈ xs) (hl : ∀ x ∈ xs, x ≤ g) : mxr xs = g := by
  have h1 := Zni h
  have h2 := hl _ (Zkr (List.ne_nil_of_mem h))
  exact Rat.le_antisymm h2 h1
noncomputable def pts (ms : List (Rat × Rat)) : List D := ms.map fun m => D.tup [rt m.1, rt m.2]
theorem Zcx {ms : List (Rat × Rat)} : (pts ms).length = ms.length := List.length_map _
theorem Zks {ms : List (Rat × Rat)} {i : Nat} (h : i < (pts ms).length) : (pts ms)[i] = D.tup [rt (ms[i]'(by rw [Zcx] at h; exact h)).1, rt (ms[i]'(by rw [Zcx] at h; exact h)).2] := by simp [pts]
noncomputable def hts (rs : List Pt) (ms : List (Rat × Rat)) : List Rat := rs.map fun r => mxr (ms.map fun m => 0 - slp m r)
section
variable {Q : D → Sto → Prop} {E : Str → Sto → Prop} {M : Sto} {n m k l : Nat} {rs : List Pt} {p q : Rat} {xs : List Rat} {ms : List (Rat × Rat)}
theorem Znk (hp : Sz k p) (hq : Sz l q) (hk : k + l ≤ 8000) : wO (F_less [rt p, rt q] M) Q E = Q (.bl (decide (p < q))) M := by
  have f1 : Zv p.num (q.den : Int) := ZH k l hp.1 (by simpa using hq.2) (by omega) (by omega)
  have f2 : Zv q.num (p.den : Int) := ZH l k hq.1 (by simpa using hp.2) (by omega) (by omega)
  simp! [F_less, Zff, ZaK f1, ZaK f2]
  rw [show decide (p.num * (q.den : Int) < q.num * (p.den : Int)) = decide (p < q) from decide_eq_decide.mpr (Rat.lt_iff p q).symm]
theorem ZfC (h : M[n]? = some (.lst (rts xs))) (hx : xs ≠ []) (hz : ∀ x ∈ xs, Sz k x) (hk : k ≤ 4000) : wO (F_greatest [.ref n] M) Q E = Q (rt (mxr xs)) M := by
  have main (Q : D → Sto → Prop) (E : Str → Sto → Prop) (q : Q (rt (mxr xs)) M) : wO (F_greatest [.ref n] M) Q E := by
    have hn := Zn h
    have hl : xs.length ≠ 0 := by simpa using hx
    have c0 : cq xs 0 = xs.headD 0 := by
      cases xs with
      | nil => exact absurd rfl hx
      | cons a r => unfold cq; simp
    simp! [F_greatest, Zbo, h, Zhb, c0]
    refine ZgS (xs := rts xs) (fun i ρ M' => M' = M ∧ ∃ b x, ρ = [some (.ref n), some (rt b), x] ∧ Sz k b ∧ b = (xs.take i).foldl (fun b x => if b < x then x else b) (xs.headD 0)) h ⟨rfl, _, _, rfl, by rw [← c0]; exact Zkh hz hl, rfl⟩ (fun i ρ M' hI => hI.1 ▸ h) ?_ ?_
    · rintro i ρ _ hi ⟨rfl, b, x, rfl, hb, e⟩
      rw [Zex]
      have hi' : i < xs.length := by rw [ZF] at hi; exact hi
      have z := Zkh (i := i) hz hl
      simp! [Zay]
      rw [Znk hb z (by omega)]
      have tk : xs.take (i + 1) = xs.take i ++ [cq xs i] := by rw [List.take_succ_eq_append_getElem hi', Zd3 hi']
      refine brS (fun c => ?_) (fun c => ?_)
      · simp! [Zo]
        refine ⟨_, _, rfl, z, ?_⟩
        rw [tk, List.foldl_append, ← e, List.foldl_cons, List.foldl_nil, if_pos c]
      · simp! [Zo]
        refine ⟨_, _, rfl, hb, ?_⟩
        rw [tk, List.foldl_append, ← e, List.foldl_cons, List.foldl_nil, if_neg c]
    · rintro ρ _ ⟨rfl, b, x, rfl, hb, e⟩
      simp! [Zo]
      rw [ZF, List.take_length] at e
      rw [e]
      exact q
  obtain ⟨d, M', e, e1, e2⟩ := ZgO (main (fun d M' => d = rt (mxr xs) ∧ M' = M) (fun _ _ => False) ⟨rfl, rfl⟩)
  rw [e, e1, e2]
  rfl
theorem ZfD (hp : Sz k p) (hk : k ≤ 7000) : wO (F_contrary [rt p] M) Q E = Q (rt (0 - p)) M := by
  simp! [F_contrary, Zbp]
  rw [show D.tup [D.int 0, D.int 1] = rt ((0 : Int) : Rat) from CS.Zfb 0, CS.Zkg (CS.Zb9 (k := 1) (by decide) (by decide)) hp (by omega)]
  rfl
theorem Zcy (h : M[n]? = some (.lst (prs rs))) (hs : Smo rs) (hb : Nr 200 rs) (hl : rs.length ≤ 1000) (hm : M[m]? = some (.lst (pts ms))) (hne : ms ≠ []) (lm : ms.length ≤ 1000) (hz : ∀ x ∈ ms, Sz k x.1 ∧ Sz k x.2) (hk : k ≤ 1000)
    (q : ∀ M', Kp M M' → M'[M.length]? = some (.lst (rts (hts rs ms))) → Q (.ref M.length) M') : wO (F_height_of [.ref n, .ref m] M) Q E := by
  have hn := Zn h
  have hm' := Zn hm
  simp! [F_height_of, ZaZ]
  refine CC.Zb6 h hs (fun x hx => by have := hb x hx; omega) ?_
  simp! [Zo]
  refine ZqH (fun ρ => ∃ x, ρ = [x, some (.ref m)]) (fun (i : Nat) => rt (cq (hts rs ms) i)) h (by rw [ZB]; omega) ⟨_, rfl⟩ ?_ ?_
  · rintro i hi ρ M1 K1 ⟨x, rfl⟩
    rw [CC.ZbD]
    rw [ZB] at hi
    have hm1 := K1.get hm
    have hml := Zn hm1
    have hr := hb _ (Zco (i := i) hs.ne)
    simp! [Zo]
    refine ⟨⟨_, rfl⟩, ?_⟩
    have hxs : (hts rs ms).length = rs.length := List.length_map _
    have e : cq (hts rs ms) i = mxr (ms.map fun m => 0 - slp m (cy rs i)) := by
      rw [Zd3 (by omega), ZcQ hi]
      simp [hts]
    generalize hv : (ms.map fun m => 0 - slp m (cy rs i)) = vs at *
    have lv : vs.length = ms.length := by rw [← hv, List.length_map]
    have hzv : ∀ x ∈ vs, Sz (2 * k + 19) x := by
      intro x hx
      rw [← hv] at hx
      obtain ⟨mm, hmm, rfl⟩ := List.mem_map.mp hx
      have := CS.ZmX (CS.Zb9 (z := 0) (k := 1) (by decide) (by decide)) (ZiX (hz mm hmm).1 (hz mm hmm).2 hr)
      exact Zpv this (by omega)
    refine ZiO (fun ρ => ∃ y, ρ = [y, some (pr (cy rs i).1 (cy rs i).2)]) (fun (j : Nat) => rt (cq vs j)) hm1 (by rw [Zcx]; omega) ⟨_, rfl⟩ ?_ ?_
    · rintro j hj ρ L ⟨y, rfl⟩
      have hj' : j < ms.length := by rw [Zcx] at hj; exact hj
      rw [Zks]
      have hzj := hz _ (List.getElem_mem hj')
      have ev : cq vs j = 0 - slp ms[j] (cy rs i) := by
        rw [Zd3 (by omega)]
        simp [← hv]
      simp! [Zii hzj.1 hzj.2 hr (by omega), ZfD (ZiX hzj.1 hzj.2 hr) (by omega)]
      refine ⟨⟨_, rfl⟩, by rw [ev]⟩
    rw [Zcx, Zey lv (fun i hi => rfl)]
    have r2 : (M1 ++ [SO.lst (rts vs)])[M1.length]? = some (.lst (rts vs)) := by simp
    simp! [ZfC r2 (fun z => by rw [z] at lv; simp at lv; exact hne (List.length_eq_zero_iff.mp lv.symm)) hzv (by omega)]
    exact ⟨by rw [e], Kp.app⟩
  · intro M' K' r'
    rw [ZB, Zey (xs := hts rs ms) (List.length_map _) (fun i hi => rfl)] at r'
    exact q M' K' r'
end
end CD
end
section
set_option Elab.async false
set_option linter.all false
set_option maxRecDepth 100000
set_option maxHeartbeats 4000000
namespace K49
open PySem PySem.Spec L2 DL
noncomputable def top (i : Nat) : Stmt := PySem.Challenge.pw_rayround_k49_heights_of_points.main.body.getD i (.Pass ⟨0, 0, 0, 0⟩)
structure Txt (K : PySem.W.Frag) (mg : Str → Option Value) : Prop where
  gl : ∀ c v, PySem.W.nsIn K mainGlobals c = some (some v) → mg c = some v
  b_isinstance : mg "isinstance" = none
  b_int : mg "int" = none
  b_bool : mg "bool" = none
  b_abs : mg "abs" = none
  b_len : mg "len" = none
  b_enumerate : mg "enumerate" = none
  b_range : mg "range" = none
  b_max : mg "max" = none
  b_zip : mg "zip" = none
  b_list : mg "list" = none
  b_reversed : mg "reversed" = none
  b_min : mg "min" = none
  ex_NotSmooth : ZjB K "NotSmooth" = true
  ex_NoRatio : ZjB K "NoRatio" = true
section
variable {P : Program} {w : World} {K : PySem.W.Frag} {mg : Str → Option Value} {base : Heap}
noncomputable abbrev Zaz : Stmt := top 5
noncomputable def Zbk : Sv := (ZM (ZdG (ZfI "int" (Zd 0)) (Zek (ZfI "bool" (Zd 0)))))
noncomputable def F_is_whole : List D → Sto → Out D := fnF Zbk 1 0
theorem ZeC : FnScope ["thing"] ["thing"] (Zg Zaz) := ⟨rfl, rfl, rfl, by decide +kernel, rfl, by decide +kernel, by decide +kernel⟩
theorem ZeD {f : Addr} {fd : FuncData} (F : Fun K "is_whole" "is_whole" Zaz f fd) (T : Txt K mg) : FnOk P w K mg base (CXE P w) 1 f fd ["thing"] (spD K F_is_whole) :=
  Zas F ZeC rfl rfl fun cdv A outer s H E hr θ => (Zk (ZD (Zli (Zgm Zjv T.b_isinstance T.b_int ZcL (Zc 0)) (Zlh (Zlj (Zgm ZhL T.b_isinstance T.b_bool Zjx (Zc 0)))))))
noncomputable abbrev Zx : Stmt := top 6
noncomputable def ZQ : Sv := (Zc0 2 3 (Za (Zd 3) (Za (e2 dMod (Zd 2) (Zd 3)) aNil)))
noncomputable def Z7 : Sv := (Zs (Zc0 2 3 (Za (Zh bAbs (Za (Zd 0) aNil)) (Za (Zh bAbs (Za (Zd 1) aNil)) aNil)))
  (Zs (sWh (tv (e2 dNe (Zd 3) (eC (.int 0)))) ZQ)
  (ZM (Zd 2))))
noncomputable def F_greatest_divisor : List D → Sto → Out D := fnF Z7 2 2
theorem ZX : FnScope ["one", "other", "high", "low"] ["one", "other"] (Zg Zx) := ⟨rfl, rfl, rfl, by decide +kernel, rfl, by decide +kernel, by decide +kernel⟩
theorem ZbG {f : Addr} {fd : FuncData} (F : Fun K "greatest_divisor" "greatest_divisor" Zx f fd) (T : Txt K mg) : FnOk P w K mg base (CXE P w) 101 f fd ["one", "other"] (spD K F_greatest_divisor) :=
  Zas F ZX rfl rfl fun cdv A outer s H E hr θ => (Zi (ZdL 2 3 (ZE hr (by decide)) ZX.nd (Zb (Zr Zbh ZcJ T.b_abs ZcK (Zb (Zc 0) Zf)) (Zb (Zr Zbh ZcJ T.b_abs ZcK (Zb (Zc 1) Zf)) Zf)))
    (Zi (ZeZ θ.own (Zaa (ZdI hr.units) Zgh (Zc 3) Ze) (Zk (ZdL 2 3 (ZE hr (by decide)) ZX.nd (Zb (Zc 3) (Zb (Za2 (Zc 2) (Zc 3)) Zf)))))
    (Zk (ZD (Zc 2)))))
noncomputable abbrev ZaR : Stmt := top 8
noncomputable def ZV : Sv := (ZM (e2 dSub (e2 dMul (e2 dIx (Zd 0) (eC (.int 0))) (e2 dIx (Zd 1) (eC (.int 1)))) (e2 dMul (e2 dIx (Zd 0) (eC (.int 1))) (e2 dIx (Zd 1) (eC (.int 0))))))
noncomputable def F_crossed : List D → Sto → Out D := fnF ZV 2 0
theorem ZfE : FnScope ["one", "other"] ["one", "other"] (Zg ZaR) := ⟨rfl, rfl, rfl, by decide +kernel, rfl, by decide +kernel, by decide +kernel⟩
theorem ZfF {f : Addr} {fd : FuncData} (F : Fun K "crossed" "crossed" ZaR f fd) (T : Txt K mg) : FnOk P w K mg base (CXE P w) 1 f fd ["one", "other"] (spD K F_crossed) :=
  Zas F ZfE rfl rfl fun cdv A outer s H E hr θ => (Zk (ZD (ZaF (Zu (Zl (Zc 0) Ze) (Zl (Zc 1) Ze)) (Zu (Zl (Zc 0) Ze) (Zl (Zc 1) Ze)))))
noncomputable abbrev Zae : Stmt := top 10
noncomputable def ZW : Sv := (ZM (e2 dIx (Zd 0) (e2 dMod (e2 dAdd (Zd 1) (eC (.int 1))) (Zh bLen (Za (Zd 0) aNil)))))
noncomputable def F_following : List D → Sto → Out D := fnF ZW 2 0
theorem Zd6 : FnScope ["things", "at"] ["things", "at"] (Zg Zae) := ⟨rfl, rfl, rfl, by decide +kernel, rfl, by decide +kernel, by decide +kernel⟩
theorem Zd7 {f : Addr} {fd : FuncData} (F : Fun K "following" "following" Zae f fd) (T : Txt K mg) : FnOk P w K mg base (CXE P w) 1 f fd ["things", "at"] (spD K F_following) :=
  Zas F Zd6 rfl rfl fun cdv A outer s H E hr θ => (Zk (ZD (Zl (Zc 0) (Za2 (ZC (Zc 1) Ze) (Zr Zy Zbv T.b_len PySem.boot_len (Zb (Zc 0) Zf))))))
noncomputable abbrev Zaf : Stmt := top 11
noncomputable def ZN : Sv := (sIf (tv (e2 dNe (Zh F_crossed (Za (Zd 2) (Za (Zh F_following (Za (Zd 0) (Za (Zd 1) aNil))) aNil))) (eC (.int 1)))) (ZM (Zd 1)) sNil)
noncomputable def Zac : Sv := (Zs (Zc5 (gTp (gCs (gNm 1) (gCs (gNm 2) gNl))) (iEn (Za (Zd 0) aNil)) ZN)
  (ZM (eC .non)))
noncomputable def F_unspanned : List D → Sto → Out D := fnF Zac 1 2
theorem Zbf : FnScope ["rays", "at", "ray"] ["rays"] (Zg Zaf) := ⟨rfl, rfl, rfl, by decide +kernel, rfl, by decide +kernel, by decide +kernel⟩
theorem Zd8 {f : Addr} {fd : FuncData} (F : Fun K "unspanned" "unspanned" Zaf f fd) (T : Txt K mg) (C_following : Cal P w K mg base "following" 1 2 F_following) (C_crossed : Cal P w K mg base "crossed" 1 2 F_crossed) : FnOk P w K mg base (CXE P w) 101 f fd ["rays"] (spD K F_unspanned) :=
  Zas F Zbf rfl rfl fun cdv A outer s H E hr θ => (Zi (ZjG θ.own (ZjI (hr.hd (by decide)) T.b_enumerate (Zb (Zc 0) Zf)) (ZbK (ZE hr (by decide)) (ZA (Zt 1 Zbf.nd) (ZA (Zt 2 Zbf.nd) ZaS)) (hlen := (ZP (ZP (fun _ _ _ h => ZaT h))))) (Zk (Zbz (Zaa (ZdI hr.units) Zgh (Zj C_crossed θ (hr.mono (by decide)) (Zb (Zc 2) (Zb (Zj C_following θ (hr.mono (by decide)) (Zb (Zc 0) (Zb (Zc 1) Zf))) Zf))) Ze) (Zk (ZD (Zc 1))) Z5)))
    (Zk (ZD Zix)))
noncomputable abbrev Z2 : Stmt := top 12
noncomputable def Z1 : Sv := (Zs (ZI (gNm 1) (Zh F_unspanned (Za (Zd 0) aNil)))
  (sIf (tv (e2 dIsNot (Zd 1) (eC .non))) (Za3 (PySem.Str.ofString "NotSmooth") (Za (eFs (ZbB (eC (.str (PySem.Str.ofString "ray "))) (ZbB (eFm (Zd 1)) (ZbB (eC (.str (PySem.Str.ofString " does not cross the next one in 1"))) jNil)))) aNil)) sNil))
noncomputable def F_ask_smooth : List D → Sto → Out D := fnF Z1 1 1
theorem ZbS : FnScope ["rays", "at"] ["rays"] (Zg Z2) := ⟨rfl, rfl, rfl, by decide +kernel, rfl, by decide +kernel, by decide +kernel⟩
theorem Zdo {f : Addr} {fd : FuncData} (F : Fun K "ask_smooth" "ask_smooth" Z2 f fd) (T : Txt K mg) (C_unspanned : Cal P w K mg base "unspanned" 101 1 F_unspanned) : FnOk P w K mg base (CXE P w) 102 f fd ["rays"] (spD K F_ask_smooth) :=
  Zas F ZbS rfl rfl fun cdv A outer s H E hr θ => (Zi (Zw 1 ZbS.nd (Zj C_unspanned θ (hr.mono (by decide)) (Zb (Zc 0) Zf)))
    (Zk (Zbz (Zaa Zgj ZhK (Zc 1) Zix) (Zk (Zc4 θ T.ex_NotSmooth T.gl (hr.hd (by decide)) (Zb (Zn9 (Zep ZeT (Zep (Zn8 (Zc 1)) (Zep ZeT ZlI)))) Zf))) Z5)))
noncomputable abbrev ZbX : Stmt := top 14
noncomputable def Zde : Sv := (Zs (sIf (ZfG (ZbV (tv (Zh F_is_whole (Za (Zd 0) aNil)))) (ZbV (tv (Zh F_is_whole (Za (Zd 1) aNil))))) (Za3 (PySem.Str.ofString "NoRatio") (Za (eC (.str (PySem.Str.ofString "a ratio is made of two whole numbers"))) aNil)) sNil)
  (Zs (sIf (tv (e2 dEq (Zd 1) (eC (.int 0)))) (Za3 (PySem.Str.ofString "NoRatio") (Za (eC (.str (PySem.Str.ofString "the bottom of a ratio is not 0"))) aNil)) sNil)
  (Zs (ZI (gNm 2) (Zh F_greatest_divisor (Za (Zd 0) (Za (Zd 1) aNil))))
  (Zs (sIf (tv (e2 dLt (Zd 1) (eC (.int 0)))) (ZI (gNm 2) (ZcZ (Zd 2))) sNil)
  (ZM (Zav (Za (e2 dDiv (Zd 0) (Zd 2)) (Za (e2 dDiv (Zd 1) (Zd 2)) aNil))))))))
noncomputable def F_ratio : List D → Sto → Out D := fnF Zde 2 1
theorem Zdp : FnScope ["top", "bottom", "part"] ["top", "bottom"] (Zg ZbX) := ⟨rfl, rfl, rfl, by decide +kernel, rfl, by decide +kernel, by decide +kernel⟩
theorem Zim {f : Addr} {fd : FuncData} (F : Fun K "ratio" "ratio" ZbX f fd) (T : Txt K mg) (C_is_whole : Cal P w K mg base "is_whole" 1 1 F_is_whole) (C_greatest_divisor : Cal P w K mg base "greatest_divisor" 101 2 F_greatest_divisor) : FnOk P w K mg base (CXE P w) 102 f fd ["top", "bottom"] (spD K F_ratio) :=
  Zas F Zdp rfl rfl fun cdv A outer s H E hr θ => (Zi (Zbz (ZnZ (ZhF (Zge (ZeU (Zj C_is_whole θ (hr.mono (by decide)) (Zb (Zc 0) Zf)))) (Ziy (Zge (ZeU (Zj C_is_whole θ (hr.mono (by decide)) (Zb (Zc 1) Zf))))))) (Zk (Zc4 θ T.ex_NoRatio T.gl (hr.hd (by decide)) (Zb ZeT Zf))) Z5)
    (Zi (Zbz (Zaa (ZcI hr.units) Zfs (Zc 1) Ze) (Zk (Zc4 θ T.ex_NoRatio T.gl (hr.hd (by decide)) (Zb ZeT Zf))) Z5)
    (Zi (Zw 2 Zdp.nd (Zj C_greatest_divisor θ (hr.mono (by decide)) (Zb (Zc 0) (Zb (Zc 1) Zf))))
    (Zi (Zbz (Zaa Zeg Zel (Zc 1) Ze) (Zk (Zw 2 Zdp.nd (ZdH (Zc 2)))) Z5)
    (Zk (ZD (ZU (Zb (ZcH (Zc 0) (Zc 2)) (Zb (ZcH (Zc 1) (Zc 2)) Zf)))))))))
noncomputable abbrev ZcU : Stmt := top 15
noncomputable def Zfa : Sv := (ZM (Zh F_ratio (Za (e2 dAdd (e2 dMul (e2 dIx (Zd 0) (eC (.int 0))) (e2 dIx (Zd 1) (eC (.int 1)))) (e2 dMul (e2 dIx (Zd 1) (eC (.int 0))) (e2 dIx (Zd 0) (eC (.int 1))))) (Za (e2 dMul (e2 dIx (Zd 0) (eC (.int 1))) (e2 dIx (Zd 1) (eC (.int 1)))) aNil))))
noncomputable def F_plus : List D → Sto → Out D := fnF Zfa 2 0
theorem Zkt : FnScope ["one", "other"] ["one", "other"] (Zg ZcU) := ⟨rfl, rfl, rfl, by decide +kernel, rfl, by decide +kernel, by decide +kernel⟩
theorem Zku {f : Addr} {fd : FuncData} (F : Fun K "plus" "plus" ZcU f fd) (T : Txt K mg) (C_ratio : Cal P w K mg base "ratio" 102 2 F_ratio) : FnOk P w K mg base (CXE P w) 103 f fd ["one", "other"] (spD K F_plus) :=
  Zas F Zkt rfl rfl fun cdv A outer s H E hr θ => (Zk (ZD (Zj C_ratio θ (hr.mono (by decide)) (Zb (ZC (Zu (Zl (Zc 0) Ze) (Zl (Zc 1) Ze)) (Zu (Zl (Zc 1) Ze) (Zl (Zc 0) Ze))) (Zb (Zu (Zl (Zc 0) Ze) (Zl (Zc 1) Ze)) Zf)))))
noncomputable abbrev ZbY : Stmt := top 16
noncomputable def Zdh : Sv := (ZM (Zh F_ratio (Za (e2 dSub (e2 dMul (e2 dIx (Zd 0) (eC (.int 0))) (e2 dIx (Zd 1) (eC (.int 1)))) (e2 dMul (e2 dIx (Zd 1) (eC (.int 0))) (e2 dIx (Zd 0) (eC (.int 1))))) (Za (e2 dMul (e2 dIx (Zd 0) (eC (.int 1))) (e2 dIx (Zd 1) (eC (.int 1)))) aNil))))
noncomputable def F_minus : List D → Sto → Out D := fnF Zdh 2 0
theorem Zin : FnScope ["one", "other"] ["one", "other"] (Zg ZbY) := ⟨rfl, rfl, rfl, by decide +kernel, rfl, by decide +kernel, by decide +kernel⟩
theorem Zio {f : Addr} {fd : FuncData} (F : Fun K "minus" "minus" ZbY f fd) (T : Txt K mg) (C_ratio : Cal P w K mg base "ratio" 102 2 F_ratio) : FnOk P w K mg base (CXE P w) 103 f fd ["one", "other"] (spD K F_minus) :=
  Zas F Zin rfl rfl fun cdv A outer s H E hr θ => (Zk (ZD (Zj C_ratio θ (hr.mono (by decide)) (Zb (ZaF (Zu (Zl (Zc 0) Ze) (Zl (Zc 1) Ze)) (Zu (Zl (Zc 1) Ze) (Zl (Zc 0) Ze))) (Zb (Zu (Zl (Zc 0) Ze) (Zl (Zc 1) Ze)) Zf)))))
noncomputable abbrev ZbZ : Stmt := top 17
noncomputable def Zdf : Sv := (ZM (Zh F_ratio (Za (e2 dMul (e2 dIx (Zd 0) (eC (.int 0))) (e2 dIx (Zd 1) (eC (.int 0)))) (Za (e2 dMul (e2 dIx (Zd 0) (eC (.int 1))) (e2 dIx (Zd 1) (eC (.int 1)))) aNil))))
noncomputable def F_times : List D → Sto → Out D := fnF Zdf 2 0
theorem Zip : FnScope ["one", "other"] ["one", "other"] (Zg ZbZ) := ⟨rfl, rfl, rfl, by decide +kernel, rfl, by decide +kernel, by decide +kernel⟩
theorem Ziq {f : Addr} {fd : FuncData} (F : Fun K "times" "times" ZbZ f fd) (T : Txt K mg) (C_ratio : Cal P w K mg base "ratio" 102 2 F_ratio) : FnOk P w K mg base (CXE P w) 103 f fd ["one", "other"] (spD K F_times) :=
  Zas F Zip rfl rfl fun cdv A outer s H E hr θ => (Zk (ZD (Zj C_ratio θ (hr.mono (by decide)) (Zb (Zu (Zl (Zc 0) Ze) (Zl (Zc 1) Ze)) (Zb (Zu (Zl (Zc 0) Ze) (Zl (Zc 1) Ze)) Zf)))))
noncomputable abbrev ZcV : Stmt := top 18
noncomputable def Zff : Sv := (ZM (e2 dLt (e2 dMul (e2 dIx (Zd 0) (eC (.int 0))) (e2 dIx (Zd 1) (eC (.int 1)))) (e2 dMul (e2 dIx (Zd 1) (eC (.int 0))) (e2 dIx (Zd 0) (eC (.int 1))))))
noncomputable def F_less : List D → Sto → Out D := fnF Zff 2 0
theorem Zkv : FnScope ["one", "other"] ["one", "other"] (Zg ZcV) := ⟨rfl, rfl, rfl, by decide +kernel, rfl, by decide +kernel, by decide +kernel⟩
theorem Zkw {f : Addr} {fd : FuncData} (F : Fun K "less" "less" ZcV f fd) (T : Txt K mg) : FnOk P w K mg base (CXE P w) 1 f fd ["one", "other"] (spD K F_less) :=
  Zas F Zkv rfl rfl fun cdv A outer s H E hr θ => (Zk (ZD (ZcG Zeg Zel (Zu (Zl (Zc 0) Ze) (Zl (Zc 1) Ze)) (Zu (Zl (Zc 1) Ze) (Zl (Zc 0) Ze)))))
noncomputable abbrev ZaA : Stmt := top 19
noncomputable def Zay : Sv := (sIf (tv (Zh F_less (Za (Zd 1) (Za (Zd 2) aNil)))) (ZI (gNm 1) (Zd 2)) sNil)
noncomputable def Zbo : Sv := (Zs (ZI (gNm 1) (e2 dIx (Zd 0) (eC (.int 0))))
  (Zs (ZkD (gNm 2) (Zd 0) Zay)
  (ZM (Zd 1))))
noncomputable def F_greatest : List D → Sto → Out D := fnF Zbo 1 2
theorem Za0 : FnScope ["ones", "best", "one"] ["ones"] (Zg ZaA) := ⟨rfl, rfl, rfl, by decide +kernel, rfl, by decide +kernel, by decide +kernel⟩
theorem ZeE {f : Addr} {fd : FuncData} (F : Fun K "greatest" "greatest" ZaA f fd) (T : Txt K mg) (C_less : Cal P w K mg base "less" 1 2 F_less) : FnOk P w K mg base (CXE P w) 2 f fd ["ones"] (spD K F_greatest) :=
  Zas F Za0 rfl rfl fun cdv A outer s H E hr θ => (Zi (Zw 1 Za0.nd (Zl (Zc 0) Ze))
    (Zi (Zlx θ.own (Zc 0) (Zt 2 Za0.nd) (Zk (Zbz (ZeU (Zj C_less θ (hr.mono (by decide)) (Zb (Zc 1) (Zb (Zc 2) Zf)))) (Zk (Zw 1 Za0.nd (Zc 2))) Z5)))
    (Zk (ZD (Zc 1)))))
noncomputable abbrev Zbr : Stmt := top 21
noncomputable def Zch : Sv := (ZM (Zh F_plus (Za (Zh F_times (Za (e2 dIx (Zd 0) (eC (.int 0))) (Za (Zav (Za (e2 dIx (Zd 1) (eC (.int 0))) (Za (eC (.int 1)) aNil))) aNil))) (Za (Zh F_times (Za (e2 dIx (Zd 0) (eC (.int 1))) (Za (Zav (Za (e2 dIx (Zd 1) (eC (.int 1))) (Za (eC (.int 1)) aNil))) aNil))) aNil))))
noncomputable def F_sloped : List D → Sto → Out D := fnF Zch 2 0
theorem Zhi : FnScope ["m", "ray"] ["m", "ray"] (Zg Zbr) := ⟨rfl, rfl, rfl, by decide +kernel, rfl, by decide +kernel, by decide +kernel⟩
theorem Zhj {f : Addr} {fd : FuncData} (F : Fun K "sloped" "sloped" Zbr f fd) (T : Txt K mg) (C_times : Cal P w K mg base "times" 103 2 F_times) (C_plus : Cal P w K mg base "plus" 103 2 F_plus) : FnOk P w K mg base (CXE P w) 104 f fd ["m", "ray"] (spD K F_sloped) :=
  Zas F Zhi rfl rfl fun cdv A outer s H E hr θ => (Zk (ZD (Zj C_plus θ (hr.mono (by decide)) (Zb (Zj C_times θ (hr.mono (by decide)) (Zb (Zl (Zc 0) Ze) (Zb (ZU (Zb (Zl (Zc 1) Ze) (Zb Ze Zf))) Zf))) (Zb (Zj C_times θ (hr.mono (by decide)) (Zb (Zl (Zc 0) Ze) (Zb (ZU (Zb (Zl (Zc 1) Ze) (Zb Ze Zf))) Zf))) Zf)))))
noncomputable abbrev ZaB : Stmt := top 23
noncomputable def Zbp : Sv := (ZM (Zh F_minus (Za (Zav (Za (eC (.int 0)) (Za (eC (.int 1)) aNil))) (Za (Zd 0) aNil))))
noncomputable def F_contrary : List D → Sto → Out D := fnF Zbp 1 0
theorem ZeF : FnScope ["one"] ["one"] (Zg ZaB) := ⟨rfl, rfl, rfl, by decide +kernel, rfl, by decide +kernel, by decide +kernel⟩
theorem ZeG {f : Addr} {fd : FuncData} (F : Fun K "contrary" "contrary" ZaB f fd) (T : Txt K mg) (C_minus : Cal P w K mg base "minus" 103 2 F_minus) : FnOk P w K mg base (CXE P w) 104 f fd ["one"] (spD K F_contrary) :=
  Zas F ZeF rfl rfl fun cdv A outer s H E hr θ => (Zk (ZD (Zj C_minus θ (hr.mono (by decide)) (Zb (ZU (Zb Ze (Zb Ze Zf))) (Zb (Zc 0) Zf)))))
noncomputable abbrev ZR : Stmt := top 24
noncomputable def ZaZ : Sv := (Zs (Zby (Zh F_ask_smooth (Za (Zd 0) aNil)))
  (ZM (ZT (iSq (Zd 0)) 1 [1] (gNm 0) (fun _ M => .ok true M) (Zh F_greatest (Za (ZT (iSq (Zd 1)) 1 [0] (gNm 0) (fun _ M => .ok true M) (Zh F_contrary (Za (Zh F_sloped (Za (Zd 0) (Za (Zd 1) aNil))) aNil))) aNil)))))
noncomputable def F_height_of : List D → Sto → Out D := fnF ZaZ 2 0
theorem Zd9 : FnScope ["rays", "points"] ["rays", "points"] (Zg ZR) := ⟨rfl, rfl, rfl, by decide +kernel, rfl, by decide +kernel, by decide +kernel⟩
theorem Zea {f : Addr} {fd : FuncData} (F : Fun K "height_of" "height_of" ZR f fd) (T : Txt K mg) (C_ask_smooth : Cal P w K mg base "ask_smooth" 102 1 F_ask_smooth) (C_sloped : Cal P w K mg base "sloped" 104 2 F_sloped) (C_contrary : Cal P w K mg base "contrary" 104 1 F_contrary) (C_greatest : Cal P w K mg base "greatest" 2 1 F_greatest) : FnOk P w K mg base (CXE P w) 105 f fd ["rays", "points"] (spD K F_height_of) :=
  Zas F Zd9 rfl rfl fun cdv A outer s H E hr θ => (Zi (Zc1 (Zj C_ask_smooth θ (hr.mono (by decide)) (Zb (Zc 0) Zf)))
    (Zk (ZD (Ze2 (ZlB (XN := ["rays", "points"]) (dn := (Zg ZR).names) (N := ["ray", "points"]) (k := 1) (fr := [1]) rfl rfl rfl rfl (by decide +kernel)) (Zbw (Zc 0)) (fun _ _ _ _ => (Zt 0 (show List.Nodup (["ray", "points"] : List Str) by decide +kernel))) (fun _ _ _ _ => (Or.inl ⟨rfl, rfl⟩)) (fun B1 _ _ _ _ => (Zj C_greatest ZhT (hr.mono (by decide)) (Zb (ZbW (ZlC (dn := (Zg ZR).names) (N := ["m", "ray"]) (k := 1) (fr := [0]) B1 rfl rfl rfl (by decide +kernel)) (Zbw (Zc 1)) (fun _ _ _ _ => (Zt 0 (show List.Nodup (["m", "ray"] : List Str) by decide +kernel))) (fun _ _ _ _ => (Or.inl ⟨rfl, rfl⟩)) (fun _ _ _ _ => (Zj C_contrary Zck (hr.mono (by decide)) (Zb (Zj C_sloped Zck (hr.mono (by decide)) (Zb (Zc 0) (Zb (Zc 1) Zf))) Zf)))) Zf)))))))
noncomputable abbrev Zag : Stmt := top 26
noncomputable def ZaW : Sv := (Zs (ZI (gNm 2) (eC (.int 0)))
  (Zs (sIf (tv (e2 dLt (Zd 1) (Zh bLen (Za (Zd 0) aNil)))) (ZI (gNm 2) (e2 dIx (Zd 0) (Zd 1))) sNil)
  (Zs (ZI (gNm 3) (e2 dMod (Zd 2) (e2 dMul (e2 dPow (eC (.int 10)) (eC (.int 60))) (e2 dPow (eC (.int 10)) (eC (.int 30))))))
  (ZM (Za5 (Za (e2 dMul (Zd 3) (Zh bInt (Za (e2 dGe (Zd 3) (e2 dPow (eC (.int 10)) (eC (.int 18)))) aNil))) (Za (e2 dAdd (e2 dAdd (e2 dMod (Zd 2) (eC (.int 2147483647))) (e2 dMul (eC (.int 7919)) (Zd 1))) (eC (.int 1))) aNil)))))))
noncomputable def F_law_purse : List D → Sto → Out D := fnF ZaW 2 2
theorem ZaL : FnScope ["_law_script", "_law_k", "_law_cell", "_law_large"] ["_law_script", "_law_k"] (Zg Zag) := ⟨rfl, rfl, rfl, by decide +kernel, rfl, by decide +kernel, by decide +kernel⟩
theorem Zeb {f : Addr} {fd : FuncData} (F : Fun K "_law_purse" "_law_purse" Zag f fd) (T : Txt K mg) : FnOk P w K mg base (CXE P w) 1 f fd ["_law_script", "_law_k"] (spD K F_law_purse) :=
  Zas F ZaL rfl rfl fun cdv A outer s H E hr θ => (Zi (Zw 2 ZaL.nd Ze)
    (Zi (Zbz (Zaa Zeg Zel (Zc 1) (Zr Zy Zbv T.b_len PySem.boot_len (Zb (Zc 0) Zf))) (Zk (Zw 2 ZaL.nd (Zl (Zc 0) (Zc 1)))) Z5)
    (Zi (Zw 3 ZaL.nd (Za2 (Zc 2) (Zu (ZeV Ze Ze) (ZeV Ze Ze))))
    (Zk (ZD (ZaE (Zb (Zu (Zc 3) (ZaG Za9 ZdJ T.b_int ZcL (Zb (ZcG ZnT Zn1 (Zc 3) (ZeV Ze Ze)) Zf))) (Zb (ZC (ZC (Za2 (Zc 2) Ze) (Zu Ze (Zc 1))) Ze) Zf))))))))
noncomputable abbrev ZaC : Stmt := top 27
noncomputable def ZaP : Sv := (Zs (sIf (tv (e2 dGt (e2 dIx (Zd 0) (eC (.int 0))) (eC (.int 0)))) (Zs (ZI (gNm 2) (e2 dMod (e2 dIx (Zd 0) (eC (.int 0))) (Zd 1)))
  (Zs (ZhP (Zd 0) (eC (.int 0)) (e2 dDiv (e2 dIx (Zd 0) (eC (.int 0))) (Zd 1)))
  (ZM (Zd 2)))) sNil)
  (Zs (ZhP (Zd 0) (eC (.int 1)) (e2 dMod (e2 dAdd (e2 dMul (e2 dIx (Zd 0) (eC (.int 1))) (eC (.int 48271))) (eC (.int 12345))) (eC (.int 2147483647))))
  (ZM (e2 dMod (e2 dDiv (e2 dMod (e2 dMul (e2 dIx (Zd 0) (eC (.int 1))) (eC (.int 69621))) (eC (.int 2147483629))) (eC (.int 5))) (Zd 1)))))
noncomputable def F_law_take : List D → Sto → Out D := fnF ZaP 2 1
theorem Zcz : FnScope ["_law_purse_here", "_law_many", "_law_digit"] ["_law_purse_here", "_law_many"] (Zg ZaC) := ⟨rfl, rfl, rfl, by decide +kernel, rfl, by decide +kernel, by decide +kernel⟩
theorem ZeH {f : Addr} {fd : FuncData} (F : Fun K "_law_take" "_law_take" ZaC f fd) (T : Txt K mg) : FnOk P w K mg base (CXE P w) 1 f fd ["_law_purse_here", "_law_many"] (spD K F_law_take) :=
  Zas F Zcz rfl rfl fun cdv A outer s H E hr θ => (Zi (Zbz (Zaa Zhx ZhH (Zl (Zc 0) Ze) Ze) (Zi (Zw 2 Zcz.nd (Za2 (Zl (Zc 0) Ze) (Zc 1)))
    (Zi (ZiC (Zc 0) Ze (ZcH (Zl (Zc 0) Ze) (Zc 1)))
    (Zk (ZD (Zc 2))))) Z5)
    (Zi (ZiC (Zc 0) Ze (Za2 (ZC (Zu (Zl (Zc 0) Ze) Ze) Ze) Ze))
    (Zk (ZD (Za2 (ZcH (Za2 (Zu (Zl (Zc 0) Ze) Ze) Ze) Ze) (Zc 1))))))
noncomputable abbrev ZJ : Stmt := top 28
noncomputable def Z9 : Sv := (Zs (ZI (gNm 2) (e2 dIx (Zd 0) (e2 dMod (e2 dAdd (Zd 1) (eC (.int 1))) (Zh bLen (Za (Zd 0) aNil)))))
  (ZM (e2 dAdd (e2 dAdd (eSl (Zd 0) oNo (oSo (e2 dAdd (Zd 1) (eC (.int 1))))) (Za5 (Za (Zav (Za (e2 dAdd (e2 dIx (e2 dIx (Zd 0) (Zd 1)) (eC (.int 0))) (e2 dIx (Zd 2) (eC (.int 0)))) (Za (e2 dAdd (e2 dIx (e2 dIx (Zd 0) (Zd 1)) (eC (.int 1))) (e2 dIx (Zd 2) (eC (.int 1)))) aNil))) aNil))) (eSl (Zd 0) (oSo (e2 dAdd (Zd 1) (eC (.int 1)))) oNo))))
noncomputable def F_law_short_put : List D → Sto → Out D := fnF Z9 2 1
theorem Za4 : FnScope ["_law_rays", "_law_at", "_law_after"] ["_law_rays", "_law_at"] (Zg ZJ) := ⟨rfl, rfl, rfl, by decide +kernel, rfl, by decide +kernel, by decide +kernel⟩
theorem Zcd {f : Addr} {fd : FuncData} (F : Fun K "_law_short_put" "_law_short_put" ZJ f fd) (T : Txt K mg) : FnOk P w K mg base (CXE P w) 1 f fd ["_law_rays", "_law_at"] (spD K F_law_short_put) :=
  Zas F Za4 rfl rfl fun cdv A outer s H E hr θ => (Zi (Zw 2 Za4.nd (Zl (Zc 0) (Za2 (ZC (Zc 1) Ze) (Zr Zy Zbv T.b_len PySem.boot_len (Zb (Zc 0) Zf)))))
    (Zk (ZD (ZC (ZC (ZgB (Zc 0) Zgz (ZgA (ZC (Zc 1) Ze))) (ZaE (Zb (ZU (Zb (ZC (Zl (Zl (Zc 0) (Zc 1)) Ze) (Zl (Zc 2) Ze)) (Zb (ZC (Zl (Zl (Zc 0) (Zc 1)) Ze) (Zl (Zc 2) Ze)) Zf))) Zf))) (ZgB (Zc 0) (ZgA (ZC (Zc 1) Ze)) Zgz)))))
noncomputable abbrev ZaD : Stmt := top 29
noncomputable def Zax : Sv := (Zs (ZI (gNm 6) (Zh F_law_short_put (Za (Zd 3) (Za (Zh F_law_take (Za (Zd 0) (Za (Zh bLen (Za (Zd 3) aNil)) aNil))) aNil))))
  (sIf (Zfr (tv (e2 dLt (Zh bLen (Za (Zd 3) aNil)) (Zd 4))) (tv (e2 dLt (Zh (ZbN List.max?) (Za (ZT (iSq (Zd 6)) 2 [] (gTp (gCs (gNm 0) (gCs (gNm 1) gNl))) (fun _ M => .ok true M) (Zh bMax (Za (Zh bAbs (Za (Zd 0) aNil)) (Za (Zh bAbs (Za (Zd 1) aNil)) aNil)))) aNil)) (eC (.int 8))))) (ZI (gNm 3) (Zd 6)) sNil))
noncomputable def Zbm : Sv := (Zs (ZI (gNm 2) (Zh F_law_take (Za (Zd 0) (Za (eC (.int 5)) aNil))))
  (Zs (ZI (gNm 3) (e2 dIx (Za5 (Za (Za5 (Za (Zav (Za (eC (.int 1)) (Za (eC (.int 0)) aNil))) (Za (Zav (Za (eC (.int 0)) (Za (eC (.int 1)) aNil))) (Za (Zav (Za (ZcZ (eC (.int 1))) (Za (ZcZ (eC (.int 1))) aNil))) aNil)))) (Za (Za5 (Za (Zav (Za (eC (.int 1)) (Za (eC (.int 0)) aNil))) (Za (Zav (Za (eC (.int 0)) (Za (eC (.int 1)) aNil))) (Za (Zav (Za (ZcZ (eC (.int 1))) (Za (e2 dSub (Zd 2) (eC (.int 1))) aNil))) (Za (Zav (Za (eC (.int 0)) (Za (ZcZ (eC (.int 1))) aNil))) aNil))))) aNil))) (Zh bInt (Za (e2 dGt (Zd 2) (eC (.int 0))) aNil))))
  (Zs (ZI (gNm 4) (e2 dIx (Za5 (Za (e2 dAdd (eC (.int 3)) (Zh F_law_take (Za (Zd 0) (Za (e2 dSub (Zd 1) (eC (.int 2))) aNil)))) (Za (Zd 1) aNil))) (Zh bInt (Za (e2 dEq (Zh F_law_take (Za (Zd 0) (Za (eC (.int 6)) aNil))) (eC (.int 3))) aNil))))
  (Zs (Zba (gNm 5) (Za (e2 dMul (eC (.int 4)) (Zd 1)) aNil) Zax)
  (ZM (Zd 3))))))
noncomputable def F_law_base : List D → Sto → Out D := fnF Zbm 2 5
theorem ZY : FnScope ["_law_purse_here", "_law_most", "_law_lean", "_law_rays", "_law_many", "_law_turn", "_law_longer"] ["_law_purse_here", "_law_most"] (Zg ZaD) := ⟨rfl, rfl, rfl, by decide +kernel, rfl, by decide +kernel, by decide +kernel⟩
theorem ZeI {f : Addr} {fd : FuncData} (F : Fun K "_law_base" "_law_base" ZaD f fd) (T : Txt K mg) (C_law_take : Cal P w K mg base "_law_take" 1 2 F_law_take) (C_law_short_put : Cal P w K mg base "_law_short_put" 1 2 F_law_short_put) : FnOk P w K mg base (CXE P w) 101 f fd ["_law_purse_here", "_law_most"] (spD K F_law_base) :=
  Zas F ZY rfl rfl fun cdv A outer s H E hr θ => (Zi (Zw 2 ZY.nd (Zj C_law_take θ (hr.mono (by decide)) (Zb (Zc 0) (Zb Ze Zf))))
    (Zi (Zw 3 ZY.nd (Zl (ZaE (Zb (ZaE (Zb (ZU (Zb Ze (Zb Ze Zf))) (Zb (ZU (Zb Ze (Zb Ze Zf))) (Zb (ZU (Zb (ZdH Ze) (Zb (ZdH Ze) Zf))) Zf)))) (Zb (ZaE (Zb (ZU (Zb Ze (Zb Ze Zf))) (Zb (ZU (Zb Ze (Zb Ze Zf))) (Zb (ZU (Zb (ZdH Ze) (Zb (ZaF (Zc 2) Ze) Zf))) (Zb (ZU (Zb Ze (Zb (ZdH Ze) Zf))) Zf))))) Zf))) (ZaG Za9 ZdJ T.b_int ZcL (Zb (ZcG Zhx ZhH (Zc 2) Ze) Zf))))
    (Zi (Zw 4 ZY.nd (Zl (ZaE (Zb (ZC Ze (Zj C_law_take θ (hr.mono (by decide)) (Zb (Zc 0) (Zb (ZaF (Zc 1) Ze) Zf)))) (Zb (Zc 1) Zf))) (ZaG Za9 ZdJ T.b_int ZcL (Zb (ZcG (ZcI hr.units) Zfs (Zj C_law_take θ (hr.mono (by decide)) (Zb (Zc 0) (Zb Ze Zf))) Ze) Zf))))
    (Zi (ZbL θ.own T.b_range (Zb (Zu Ze (Zc 1)) Zf) (Zt 5 ZY.nd) (Zi (Zw 6 ZY.nd (Zj C_law_short_put θ (hr.mono (by decide)) (Zb (Zc 3) (Zb (Zj C_law_take θ (hr.mono (by decide)) (Zb (Zc 0) (Zb (Zr Zy Zbv T.b_len PySem.boot_len (Zb (Zc 3) Zf)) Zf))) Zf))))
    (Zk (Zbz (ZnZ (Zlg (Zaa Zeg Zel (Zr Zy Zbv T.b_len PySem.boot_len (Zb (Zc 3) Zf)) (Zc 4)) (Zjs (Zaa Zeg Zel (Zr (Zcn (ZE hr (by decide))) Zen T.b_max ZdO (Zb (ZbW (ZnA (N := ["_law_x", "_law_y"]) (k := 2) (by decide +kernel) rfl (by decide +kernel) rfl) (Zbw (Zc 6)) (fun _ _ _ _ => (ZbK (ZE hr (by decide)) (ZA (Zt 0 (show List.Nodup (["_law_x", "_law_y"] : List Str) by decide +kernel)) (ZA (Zt 1 (show List.Nodup (["_law_x", "_law_y"] : List Str) by decide +kernel)) ZaS)) (hlen := (ZP (ZP (fun _ _ _ h => ZaT h)))))) (fun _ _ _ _ => (Or.inl ⟨rfl, rfl⟩)) (fun _ _ _ _ => (Zr (Zdx (ZE hr (by decide))) ZiA T.b_max ZdO (Zb (Zr Zbh ZcJ T.b_abs ZcK (Zb (Zc 0) Zf)) (Zb (Zr Zbh ZcJ T.b_abs ZcK (Zb (Zc 1) Zf)) Zf))))) Zf)) Ze)))) (Zk (Zw 3 ZY.nd (Zc 6))) Z5))))
    (Zk (ZD (Zc 3)))))))
noncomputable abbrev Zah : Stmt := top 30
noncomputable def Zao : Sv := (Zs (ZI (gNm 3) (e2 dIx (Za5 (Za (e2 dSub (Zh F_law_take (Za (Zd 0) (Za (eC (.int 5)) aNil))) (eC (.int 2))) (Za (e2 dSub (Zh F_law_take (Za (Zd 0) (Za (eC (.int 15)) aNil))) (eC (.int 7))) aNil))) (Zh bInt (Za (e2 dEq (Zh F_law_take (Za (Zd 0) (Za (eC (.int 8)) aNil))) (eC (.int 5))) aNil))))
  (sIf (tv (e2 dEq (Zh F_law_take (Za (Zd 0) (Za (eC (.int 2)) aNil))) (eC (.int 0)))) (ZI (gNm 1) (Za5 (Za (e2 dAdd (e2 dIx (Zd 1) (eC (.int 0))) (e2 dMul (Zd 3) (e2 dIx (Zd 1) (eC (.int 2))))) (Za (e2 dAdd (e2 dIx (Zd 1) (eC (.int 1))) (e2 dMul (Zd 3) (e2 dIx (Zd 1) (eC (.int 3))))) (Za (e2 dIx (Zd 1) (eC (.int 2))) (Za (e2 dIx (Zd 1) (eC (.int 3))) aNil)))))) (ZI (gNm 1) (Za5 (Za (e2 dIx (Zd 1) (eC (.int 0))) (Za (e2 dIx (Zd 1) (eC (.int 1))) (Za (e2 dAdd (e2 dIx (Zd 1) (eC (.int 2))) (e2 dMul (Zd 3) (e2 dIx (Zd 1) (eC (.int 0))))) (Za (e2 dAdd (e2 dIx (Zd 1) (eC (.int 3))) (e2 dMul (Zd 3) (e2 dIx (Zd 1) (eC (.int 1))))) aNil))))))))
noncomputable def ZaY : Sv := (Zs (ZI (gNm 1) (Za5 (Za (eC (.int 1)) (Za (eC (.int 0)) (Za (eC (.int 0)) (Za (eC (.int 1)) aNil))))))
  (Zs (Zba (gNm 2) (Za (Zh F_law_take (Za (Zd 0) (Za (eC (.int 4)) aNil))) aNil) Zao)
  (Zs (sIf (tv (e2 dEq (Zh F_law_take (Za (Zd 0) (Za (eC (.int 3)) aNil))) (eC (.int 0)))) (ZI (gNm 1) (Za5 (Za (e2 dIx (Zd 1) (eC (.int 2))) (Za (e2 dIx (Zd 1) (eC (.int 3))) (Za (e2 dIx (Zd 1) (eC (.int 0))) (Za (e2 dIx (Zd 1) (eC (.int 1))) aNil)))))) sNil)
  (Zs (sIf (tv (e2 dGt (Zh (ZbN List.max?) (Za (ZT (iSq (Zd 1)) 1 [] (gNm 0) (fun _ M => .ok true M) (Zh bAbs (Za (Zd 0) aNil))) aNil)) (eC (.int 14)))) (ZM (Za5 (Za (eC (.int 0)) (Za (eC (.int 1)) (Za (eC (.int 1)) (Za (eC (.int 0)) aNil)))))) sNil)
  (ZM (Zd 1))))))
noncomputable def F_law_table : List D → Sto → Out D := fnF ZaY 1 3
theorem ZS : FnScope ["_law_purse_here", "_law_table_here", "_law_turn", "_law_many"] ["_law_purse_here"] (Zg Zah) := ⟨rfl, rfl, rfl, by decide +kernel, rfl, by decide +kernel, by decide +kernel⟩
theorem Zec {f : Addr} {fd : FuncData} (F : Fun K "_law_table" "_law_table" Zah f fd) (T : Txt K mg) (C_law_take : Cal P w K mg base "_law_take" 1 2 F_law_take) : FnOk P w K mg base (CXE P w) 101 f fd ["_law_purse_here"] (spD K F_law_table) :=
  Zas F ZS rfl rfl fun cdv A outer s H E hr θ => (Zi (Zw 1 ZS.nd (ZaE (Zb Ze (Zb Ze (Zb Ze (Zb Ze Zf))))))
    (Zi (ZbL θ.own T.b_range (Zb (Zj C_law_take θ (hr.mono (by decide)) (Zb (Zc 0) (Zb Ze Zf))) Zf) (Zt 2 ZS.nd) (Zi (Zw 3 ZS.nd (Zl (ZaE (Zb (ZaF (Zj C_law_take θ (hr.mono (by decide)) (Zb (Zc 0) (Zb Ze Zf))) Ze) (Zb (ZaF (Zj C_law_take θ (hr.mono (by decide)) (Zb (Zc 0) (Zb Ze Zf))) Ze) Zf))) (ZaG Za9 ZdJ T.b_int ZcL (Zb (ZcG (ZcI hr.units) Zfs (Zj C_law_take θ (hr.mono (by decide)) (Zb (Zc 0) (Zb Ze Zf))) Ze) Zf))))
    (Zk (Zbz (Zaa (ZcI hr.units) Zfs (Zj C_law_take θ (hr.mono (by decide)) (Zb (Zc 0) (Zb Ze Zf))) Ze) (Zk (Zw 1 ZS.nd (ZaE (Zb (ZC (Zl (Zc 1) Ze) (Zu (Zc 3) (Zl (Zc 1) Ze))) (Zb (ZC (Zl (Zc 1) Ze) (Zu (Zc 3) (Zl (Zc 1) Ze))) (Zb (Zl (Zc 1) Ze) (Zb (Zl (Zc 1) Ze) Zf))))))) (Zk (Zw 1 ZS.nd (ZaE (Zb (Zl (Zc 1) Ze) (Zb (Zl (Zc 1) Ze) (Zb (ZC (Zl (Zc 1) Ze) (Zu (Zc 3) (Zl (Zc 1) Ze))) (Zb (ZC (Zl (Zc 1) Ze) (Zu (Zc 3) (Zl (Zc 1) Ze))) Zf)))))))))))
    (Zi (Zbz (Zaa (ZcI hr.units) Zfs (Zj C_law_take θ (hr.mono (by decide)) (Zb (Zc 0) (Zb Ze Zf))) Ze) (Zk (Zw 1 ZS.nd (ZaE (Zb (Zl (Zc 1) Ze) (Zb (Zl (Zc 1) Ze) (Zb (Zl (Zc 1) Ze) (Zb (Zl (Zc 1) Ze) Zf))))))) Z5)
    (Zi (Zbz (Zaa Zhx ZhH (Zr (Zcn (ZE hr (by decide))) Zen T.b_max ZdO (Zb (ZbW (ZnA (N := ["_law_number"]) (k := 1) (by decide +kernel) rfl (by decide +kernel) rfl) (Zbw (Zc 1)) (fun _ _ _ _ => (Zt 0 (show List.Nodup (["_law_number"] : List Str) by decide +kernel))) (fun _ _ _ _ => (Or.inl ⟨rfl, rfl⟩)) (fun _ _ _ _ => (Zr Zbh ZcJ T.b_abs ZcK (Zb (Zc 0) Zf)))) Zf)) Ze) (Zk (ZD (ZaE (Zb Ze (Zb Ze (Zb Ze (Zb Ze Zf))))))) Z5)
    (Zk (ZD (Zc 1)))))))
noncomputable abbrev Zai : Stmt := top 31
noncomputable def Zbn : Sv := (Zs (ZI (gNm 4) (ZT (iZp (Za (Zd 1) (Za (Zd 2) aNil))) 3 [0] (gTp (gCs (gTp (gCs (gNm 0) (gCs (gNm 1) gNl))) (gCs (gNm 2) gNl))) (fun _ M => .ok true M) (Zav (Za (Zav (Za (e2 dAdd (e2 dMul (e2 dIx (Zd 3) (eC (.int 0))) (Zd 0)) (e2 dMul (e2 dIx (Zd 3) (eC (.int 1))) (Zd 1))) (Za (e2 dAdd (e2 dMul (e2 dIx (Zd 3) (eC (.int 2))) (Zd 0)) (e2 dMul (e2 dIx (Zd 3) (eC (.int 3))) (Zd 1))) aNil))) (Za (Zd 2) aNil)))))
  (Zs (sIf (tv (e2 dLt (e2 dSub (e2 dMul (e2 dIx (Zd 0) (eC (.int 0))) (e2 dIx (Zd 0) (eC (.int 3)))) (e2 dMul (e2 dIx (Zd 0) (eC (.int 1))) (e2 dIx (Zd 0) (eC (.int 2))))) (eC (.int 0)))) (ZI (gNm 4) (Zh bLR (Za (Zd 4) aNil))) sNil)
  (Zs (ZI (gNm 4) (e2 dAdd (eSl (Zd 4) (oSo (Zd 3)) oNo) (eSl (Zd 4) oNo (oSo (Zd 3)))))
  (ZM (Zav (Za (ZT (iSq (Zd 4)) 2 [] (gTp (gCs (gNm 0) (gCs (gNm 1) gNl))) (fun _ M => .ok true M) (Zd 0)) (Za (ZT (iSq (Zd 4)) 2 [] (gTp (gCs (gNm 0) (gCs (gNm 1) gNl))) (fun _ M => .ok true M) (Zd 1)) aNil)))))))
noncomputable def F_law_spun : List D → Sto → Out D := fnF Zbn 4 1
theorem Za1 : FnScope ["_law_table_here", "_law_rays", "_law_some", "_law_at", "_law_pairs"] ["_law_table_here", "_law_rays", "_law_some", "_law_at"] (Zg Zai) := ⟨rfl, rfl, rfl, by decide +kernel, rfl, by decide +kernel, by decide +kernel⟩
theorem ZeJ {f : Addr} {fd : FuncData} (F : Fun K "_law_spun" "_law_spun" Zai f fd) (T : Txt K mg) : FnOk P w K mg base (CXE P w) 101 f fd ["_law_table_here", "_law_rays", "_law_some", "_law_at"] (spD K F_law_spun) :=
  Zas F Za1 rfl rfl fun cdv A outer s H E hr θ => (Zi (Zeq 4 Za1.nd (Zn3 (XN := ["_law_table_here", "_law_rays", "_law_some", "_law_at", "_law_pairs"]) (dn := (Zg Zai).names) (N := ["_law_x", "_law_y", "_law_one", "_law_table_here"]) (k := 3) (fr := [0]) rfl rfl rfl rfl (by decide +kernel)) (ZlH (hr.hd (by decide)) T.b_zip (Zb (Zc 1) (Zb (Zc 2) Zf))) (fun _ _ _ _ => (ZbK (ZE hr (by decide)) (ZA (ZbK (ZE hr (by decide)) (ZA (Zt 0 (show List.Nodup (["_law_x", "_law_y", "_law_one", "_law_table_here"] : List Str) by decide +kernel)) (ZA (Zt 1 (show List.Nodup (["_law_x", "_law_y", "_law_one", "_law_table_here"] : List Str) by decide +kernel)) ZaS)) (hlen := (ZP (ZP (fun _ _ _ h => ZaT h))))) (ZA (Zt 2 (show List.Nodup (["_law_x", "_law_y", "_law_one", "_law_table_here"] : List Str) by decide +kernel)) ZaS)) (hlen := (ZP (ZP (fun _ _ _ h => ZaT h)))))) (fun _ _ _ _ => (Or.inl ⟨rfl, rfl⟩)) (fun _ _ _ _ => (ZU (Zb (ZU (Zb (ZC (Zu (Zl (Zc 3) Ze) (Zc 0)) (Zu (Zl (Zc 3) Ze) (Zc 1))) (Zb (ZC (Zu (Zl (Zc 3) Ze) (Zc 0)) (Zu (Zl (Zc 3) Ze) (Zc 1))) Zf))) (Zb (Zc 2) Zf)))))
    (Zi (Zbz (Zaa Zeg Zel (ZaF (Zu (Zl (Zc 0) Ze) (Zl (Zc 0) Ze)) (Zu (Zl (Zc 0) Ze) (Zl (Zc 0) Ze))) Ze) (Zk (Zw 4 Za1.nd (Zob (hr.hd (by decide)) T.b_list T.b_reversed (Zb (Zc 4) Zf)))) Z5)
    (Zi (Zw 4 Za1.nd (ZC (ZgB (Zc 4) (ZgA (Zc 3)) Zgz) (ZgB (Zc 4) Zgz (ZgA (Zc 3)))))
    (Zk (ZD (ZU (Zb (ZbW (ZnA (N := ["_law_ray", "_law_one"]) (k := 2) (by decide +kernel) rfl (by decide +kernel) rfl) (Zbw (Zc 4)) (fun _ _ _ _ => (ZbK (ZE hr (by decide)) (ZA (Zt 0 (show List.Nodup (["_law_ray", "_law_one"] : List Str) by decide +kernel)) (ZA (Zt 1 (show List.Nodup (["_law_ray", "_law_one"] : List Str) by decide +kernel)) ZaS)) (hlen := (ZP (ZP (fun _ _ _ h => ZaT h)))))) (fun _ _ _ _ => (Or.inl ⟨rfl, rfl⟩)) (fun _ _ _ _ => (Zc 0))) (Zb (ZbW (ZnA (N := ["_law_ray", "_law_one"]) (k := 2) (by decide +kernel) rfl (by decide +kernel) rfl) (Zbw (Zc 4)) (fun _ _ _ _ => (ZbK (ZE hr (by decide)) (ZA (Zt 0 (show List.Nodup (["_law_ray", "_law_one"] : List Str) by decide +kernel)) (ZA (Zt 1 (show List.Nodup (["_law_ray", "_law_one"] : List Str) by decide +kernel)) ZaS)) (hlen := (ZP (ZP (fun _ _ _ h => ZaT h)))))) (fun _ _ _ _ => (Or.inl ⟨rfl, rfl⟩)) (fun _ _ _ _ => (Zc 1))) Zf))))))))
noncomputable abbrev Zaj : Stmt := top 32
noncomputable def ZcD : Sv := (Zc0 2 3 (Za (Zd 3) (Za (e2 dMod (Zd 2) (Zd 3)) aNil)))
noncomputable def ZbF : Sv := (Zs (Zc0 2 3 (Za (Zh bAbs (Za (Zd 0) aNil)) (Za (Zd 1) aNil)))
  (Zs (sWh (tv (e2 dGt (Zd 3) (eC (.int 0)))) ZcD)
  (ZM (Zav (Za (e2 dDiv (Zd 0) (Zd 2)) (Za (e2 dDiv (Zd 1) (Zd 2)) aNil))))))
noncomputable def F_law_ratio : List D → Sto → Out D := fnF ZbF 2 2
theorem Zbg : FnScope ["_law_top", "_law_bottom", "_law_one", "_law_other"] ["_law_top", "_law_bottom"] (Zg Zaj) := ⟨rfl, rfl, rfl, by decide +kernel, rfl, by decide +kernel, by decide +kernel⟩
theorem Zed {f : Addr} {fd : FuncData} (F : Fun K "_law_ratio" "_law_ratio" Zaj f fd) (T : Txt K mg) : FnOk P w K mg base (CXE P w) 101 f fd ["_law_top", "_law_bottom"] (spD K F_law_ratio) :=
  Zas F Zbg rfl rfl fun cdv A outer s H E hr θ => (Zi (ZdL 2 3 (ZE hr (by decide)) Zbg.nd (Zb (Zr Zbh ZcJ T.b_abs ZcK (Zb (Zc 0) Zf)) (Zb (Zc 1) Zf)))
    (Zi (ZeZ θ.own (Zaa Zhx ZhH (Zc 3) Ze) (Zk (ZdL 2 3 (ZE hr (by decide)) Zbg.nd (Zb (Zc 3) (Zb (Za2 (Zc 2) (Zc 3)) Zf)))))
    (Zk (ZD (ZU (Zb (ZcH (Zc 0) (Zc 2)) (Zb (ZcH (Zc 1) (Zc 2)) Zf)))))))
noncomputable abbrev Z3 : Stmt := top 33
noncomputable def Zbq : Sv := (ZM (ZT (iSq (Zd 0)) 1 [1] (gNm 0) (fun _ M => .ok true M) (Zh (ZbN List.max?) (Za (ZT (iSq (Zd 1)) 2 [0] (gTp (gCs (gNm 0) (gCs (gNm 1) gNl))) (fun _ M => .ok true M) (e2 dSub (e2 dSub (eC (.int 0)) (e2 dMul (Zd 0) (e2 dIx (Zd 2) (eC (.int 0))))) (e2 dMul (Zd 1) (e2 dIx (Zd 2) (eC (.int 1)))))) aNil))))
noncomputable def F_law_hull : List D → Sto → Out D := fnF Zbq 2 0
theorem ZeK : FnScope ["_law_rays", "_law_points"] ["_law_rays", "_law_points"] (Zg Z3) := ⟨rfl, rfl, rfl, by decide +kernel, rfl, by decide +kernel, by decide +kernel⟩
theorem ZeL {f : Addr} {fd : FuncData} (F : Fun K "_law_hull" "_law_hull" Z3 f fd) (T : Txt K mg) : FnOk P w K mg base (CXE P w) 101 f fd ["_law_rays", "_law_points"] (spD K F_law_hull) :=
  Zas F ZeK rfl rfl fun cdv A outer s H E hr θ => (Zk (ZD (Ze2 (ZlB (XN := ["_law_rays", "_law_points"]) (dn := (Zg Z3).names) (N := ["_law_ray", "_law_points"]) (k := 1) (fr := [1]) rfl rfl rfl rfl (by decide +kernel)) (Zbw (Zc 0)) (fun _ _ _ _ => (Zt 0 (show List.Nodup (["_law_ray", "_law_points"] : List Str) by decide +kernel))) (fun _ _ _ _ => (Or.inl ⟨rfl, rfl⟩)) (fun B1 _ _ _ _ => (Zr (Zcn (ZE hr (by decide))) Zen T.b_max ZdO (Zb (ZbW (ZlC (dn := (Zg Z3).names) (N := ["_law_x", "_law_y", "_law_ray"]) (k := 2) (fr := [0]) B1 rfl rfl rfl (by decide +kernel)) (Zbw (Zc 1)) (fun _ _ _ _ => (ZbK (ZE hr (by decide)) (ZA (Zt 0 (show List.Nodup (["_law_x", "_law_y", "_law_ray"] : List Str) by decide +kernel)) (ZA (Zt 1 (show List.Nodup (["_law_x", "_law_y", "_law_ray"] : List Str) by decide +kernel)) ZaS)) (hlen := (ZP (ZP (fun _ _ _ h => ZaT h)))))) (fun _ _ _ _ => (Or.inl ⟨rfl, rfl⟩)) (fun _ _ _ _ => (ZaF (ZaF Ze (Zu (Zc 0) (Zl (Zc 2) Ze))) (Zu (Zc 1) (Zl (Zc 2) Ze))))) Zf))))))
noncomputable abbrev Zak : Stmt := top 34
noncomputable def Zan : Sv := (Zs (Zc0 4 5 (Za (e2 dIx (Zd 0) (e2 dSub (Zd 3) (eC (.int 1)))) (Za (e2 dIx (Zd 0) (e2 dMod (e2 dAdd (Zd 3) (eC (.int 1))) (Zh bLen (Za (Zd 0) aNil)))) aNil)))
  (Zs (ZI (gNm 6) (e2 dSub (eC (.int 0)) (e2 dSub (e2 dMul (e2 dIx (Zd 4) (eC (.int 0))) (e2 dIx (Zd 5) (eC (.int 1)))) (e2 dMul (e2 dIx (Zd 4) (eC (.int 1))) (e2 dIx (Zd 5) (eC (.int 0)))))))
  (Zs (ZI (gNm 7) (e2 dAdd (e2 dIx (Zd 1) (e2 dSub (Zd 3) (eC (.int 1)))) (e2 dIx (Zd 1) (e2 dMod (e2 dAdd (Zd 3) (eC (.int 1))) (Zh bLen (Za (Zd 0) aNil))))))
  (Zby (ZfJ mApp (Zd 2) (Za (e2 dAdd (Zd 7) (e2 dMul (Zd 6) (e2 dIx (Zd 1) (Zd 3)))) aNil))))))
noncomputable def ZaX : Sv := (Zs (ZI (gNm 2) (Za5 aNil))
  (Zs (Zba (gNm 3) (Za (Zh bLen (Za (Zd 0) aNil)) aNil) Zan)
  (ZM (Zd 2))))
noncomputable def F_law_bends : List D → Sto → Out D := fnF ZaX 2 6
theorem Z4 : FnScope ["_law_rays", "_law_heights", "_law_found", "_law_k", "_law_ahead", "_law_behind", "_law_number", "_law_beside"] ["_law_rays", "_law_heights"] (Zg Zak) := ⟨rfl, rfl, rfl, by decide +kernel, rfl, by decide +kernel, by decide +kernel⟩
theorem Zee {f : Addr} {fd : FuncData} (F : Fun K "_law_bends" "_law_bends" Zak f fd) (T : Txt K mg) : FnOk P w K mg base (CXE P w) 101 f fd ["_law_rays", "_law_heights"] (spD K F_law_bends) :=
  Zas F Z4 rfl rfl fun cdv A outer s H E hr θ => (Zi (Zw 2 Z4.nd (ZaE Zf))
    (Zi (ZbL θ.own T.b_range (Zb (Zr Zy Zbv T.b_len PySem.boot_len (Zb (Zc 0) Zf)) Zf) (Zt 3 Z4.nd) (Zi (ZdL 4 5 (ZE hr (by decide)) Z4.nd (Zb (Zl (Zc 0) (ZaF (Zc 3) Ze)) (Zb (Zl (Zc 0) (Za2 (ZC (Zc 3) Ze) (Zr Zy Zbv T.b_len PySem.boot_len (Zb (Zc 0) Zf)))) Zf)))
    (Zi (Zw 6 Z4.nd (ZaF Ze (ZaF (Zu (Zl (Zc 4) Ze) (Zl (Zc 5) Ze)) (Zu (Zl (Zc 4) Ze) (Zl (Zc 5) Ze)))))
    (Zi (Zw 7 Z4.nd (ZC (Zl (Zc 1) (ZaF (Zc 3) Ze)) (Zl (Zc 1) (Za2 (ZC (Zc 3) Ze) (Zr Zy Zbv T.b_len PySem.boot_len (Zb (Zc 0) Zf))))))
    (Zk (Zc1 (Zcm (Zc 2) (ZC (Zc 7) (Zu (Zc 6) (Zl (Zc 1) (Zc 3)))))))))))
    (Zk (ZD (Zc 2)))))
noncomputable abbrev ZcA : Stmt := top 35
noncomputable def Zfg : Sv := (Zby (ZfJ mApp (Zd 7) (Za (Zav (Za (e2 dSub (Zh F_law_take (Za (Zd 2) (Za (e2 dAdd (e2 dMul (eC (.int 2)) (Zd 8)) (eC (.int 1))) aNil))) (Zd 8)) (Za (e2 dSub (Zh F_law_take (Za (Zd 2) (Za (e2 dAdd (e2 dMul (eC (.int 2)) (Zd 8)) (eC (.int 1))) aNil))) (Zd 8)) aNil))) aNil)))
noncomputable def Zdq : Sv := (Zs (ZI (gNm 2) (Zh F_law_purse (Za (Zd 0) (Za (Zd 1) aNil))))
  (Zs (ZI (gNm 3) (Zh F_law_base (Za (Zd 2) (Za (eC (.int 14)) aNil))))
  (Zs (ZI (gTp (gCs (gNm 4) (gCs (gNm 5) gNl))) (Zh F_law_spun (Za (Zh F_law_table (Za (Zd 2) aNil)) (Za (Zd 3) (Za (Zd 3) (Za (Zh F_law_take (Za (Zd 2) (Za (Zh bLen (Za (Zd 3) aNil)) aNil))) aNil))))))
  (Zs (ZI (gNm 6) (e2 dAdd (eC (.int 1)) (Zh F_law_take (Za (Zd 2) (Za (eC (.int 4)) aNil)))))
  (Zs (ZI (gNm 7) (Za5 aNil))
  (Zs (ZI (gNm 8) (e2 dIx (Za5 (Za (e2 dMul (eC (.int 3)) (Zd 6)) (Za (e2 dPow (eC (.int 10)) (eC (.int 29))) aNil))) (Zh bInt (Za (e2 dEq (Zh F_law_take (Za (Zd 2) (Za (eC (.int 8)) aNil))) (eC (.int 5))) aNil))))
  (Zs (Zba (gNm 9) (Za (e2 dAdd (eC (.int 1)) (Zh F_law_take (Za (Zd 2) (Za (eC (.int 8)) aNil)))) aNil) Zfg)
  (Zs (ZI (gNm 7) (e2 dAdd (Zd 7) (eSl (Zd 7) oNo (oSo (Zh F_law_take (Za (Zd 2) (Za (eC (.int 2)) aNil)))))))
  (Zs (ZI (gNm 10) (ZT (iSq (Zd 7)) 2 [6] (gTp (gCs (gNm 0) (gCs (gNm 1) gNl))) (fun _ M => .ok true M) (Zav (Za (Zh F_law_ratio (Za (Zd 0) (Za (Zd 2) aNil))) (Za (Zh F_law_ratio (Za (Zd 1) (Za (Zd 2) aNil))) aNil)))))
  (Zs (ZI (gNm 11) (Zh F_law_hull (Za (Zd 4) (Za (Zd 7) aNil))))
  (Zs (ZI (gNm 12) (ZT (iSq (Zd 11)) 1 [6] (gNm 0) (fun _ M => .ok true M) (Zh F_law_ratio (Za (Zd 0) (Za (Zd 1) aNil)))))
  (Zs (ZI (gNm 13) (Zav (Za (Zh bList (Za (Zd 4) aNil)) (Za (Zh bList (Za (Zd 10) aNil)) aNil))))
  (Zs (ZI (gNm 14) (Zh F_height_of (Za (e2 dIx (Zd 13) (eC (.int 0))) (Za (e2 dIx (Zd 13) (eC (.int 1))) aNil))))
  (Zs (sIf (ZfG (ZbV (tv (ZfI "list" (Zd 14)))) (ZfG (tv (e2 dNe (Zd 14) (Zd 12))) (ZfG (tv (e2 dLt (Zh (ZbN List.min?) (Za (Zh F_law_bends (Za (Zd 4) (Za (Zd 11) aNil))) aNil)) (eC (.int 0)))) (tv (e2 dNe (Zd 13) (Zav (Za (Zd 4) (Za (Zd 10) aNil)))))))) (ZM (eC (.bl false))) sNil)
  (Zs (Zby (ZfJ mApp (Zd 14) (Za (Zav (Za (eC (.int 0)) (Za (eC (.int 1)) aNil))) aNil)))
  (sIf (tv (e2 dNe (Zh F_height_of (Za (e2 dIx (Zd 13) (eC (.int 0))) (Za (e2 dIx (Zd 13) (eC (.int 1))) aNil))) (Zd 12))) (ZM (eC (.bl false))) sNil))))))))))))))))
noncomputable def Znl : Sv := (Zs (Zba (gNm 1) (Za (Zh bMax (Za (eC (.int 1)) (Za (Zh bMin (Za (eC (.int 2)) (Za (Zh bLen (Za (Zd 0) aNil)) aNil))) aNil))) aNil) Zdq)
  (ZM (eC (.bl true))))
noncomputable def ZeM : List D → Sto → Out D := fnF Znl 1 14
theorem Zau : FnScope ["_law_script", "_law_k", "_law_purse_here", "_law_rays", "_law_led", "_law_owns", "_law_parts", "_law_units", "_law_far", "_law_turn", "_law_points", "_law_tops", "_law_due", "_law_handed", "_law_found"] ["_law_script"] (Zg ZcA) := ⟨rfl, rfl, rfl, by decide +kernel, rfl, by decide +kernel, by decide +kernel⟩
theorem Znm {f : Addr} {fd : FuncData} (F : Fun K "law" "law" ZcA f fd) (T : Txt K mg) (C_law_purse : Cal P w K mg base "_law_purse" 1 2 F_law_purse) (C_law_base : Cal P w K mg base "_law_base" 101 2 F_law_base) (C_law_take : Cal P w K mg base "_law_take" 1 2 F_law_take) (C_law_table : Cal P w K mg base "_law_table" 101 1 F_law_table) (C_law_spun : Cal P w K mg base "_law_spun" 101 4 F_law_spun) (C_law_ratio : Cal P w K mg base "_law_ratio" 101 2 F_law_ratio) (C_law_hull : Cal P w K mg base "_law_hull" 101 2 F_law_hull) (C_height_of : Cal P w K mg base "height_of" 105 2 F_height_of) (C_law_bends : Cal P w K mg base "_law_bends" 101 2 F_law_bends) : FnOk P w K mg base (CXE P w) 106 f fd ["_law_script"] (spD K ZeM) :=
  Zas F Zau rfl rfl fun cdv A outer s H E hr θ => (Zi (ZbL θ.own T.b_range (Zb (Zr (Zdx (ZE hr (by decide))) ZiA T.b_max ZdO (Zb Ze (Zb (Zr (ZfY (ZE hr (by decide))) Zls T.b_min ZiF (Zb Ze (Zb (Zr Zy Zbv T.b_len PySem.boot_len (Zb (Zc 0) Zf)) Zf))) Zf))) Zf) (Zt 1 Zau.nd) (Zi (Zw 2 Zau.nd (Zj C_law_purse θ (hr.mono (by decide)) (Zb (Zc 0) (Zb (Zc 1) Zf))))
    (Zi (Zw 3 Zau.nd (Zj C_law_base θ (hr.mono (by decide)) (Zb (Zc 2) (Zb Ze Zf))))
    (Zi (Zlv (Zj C_law_spun θ (hr.mono (by decide)) (Zb (Zj C_law_table θ (hr.mono (by decide)) (Zb (Zc 2) Zf)) (Zb (Zc 3) (Zb (Zc 3) (Zb (Zj C_law_take θ (hr.mono (by decide)) (Zb (Zc 2) (Zb (Zr Zy Zbv T.b_len PySem.boot_len (Zb (Zc 3) Zf)) Zf))) Zf))))) (ZbK (ZE hr (by decide)) (ZA (Zt 4 Zau.nd) (ZA (Zt 5 Zau.nd) ZaS)) (hlen := (ZP (ZP (fun _ _ _ h => ZaT h))))))
    (Zi (Zw 6 Zau.nd (ZC Ze (Zj C_law_take θ (hr.mono (by decide)) (Zb (Zc 2) (Zb Ze Zf)))))
    (Zi (Zw 7 Zau.nd (ZaE Zf))
    (Zi (Zw 8 Zau.nd (Zl (ZaE (Zb (Zu Ze (Zc 6)) (Zb (ZeV Ze Ze) Zf))) (ZaG Za9 ZdJ T.b_int ZcL (Zb (ZcG (ZcI hr.units) Zfs (Zj C_law_take θ (hr.mono (by decide)) (Zb (Zc 2) (Zb Ze Zf))) Ze) Zf))))
    (Zi (ZbL θ.own T.b_range (Zb (ZC Ze (Zj C_law_take θ (hr.mono (by decide)) (Zb (Zc 2) (Zb Ze Zf)))) Zf) (Zt 9 Zau.nd) (Zk (Zc1 (Zcm (Zc 7) (ZU (Zb (ZaF (Zj C_law_take θ (hr.mono (by decide)) (Zb (Zc 2) (Zb (ZC (Zu Ze (Zc 8)) Ze) Zf))) (Zc 8)) (Zb (ZaF (Zj C_law_take θ (hr.mono (by decide)) (Zb (Zc 2) (Zb (ZC (Zu Ze (Zc 8)) Ze) Zf))) (Zc 8)) Zf)))))))
    (Zi (Zw 7 Zau.nd (ZC (Zc 7) (ZgB (Zc 7) Zgz (ZgA (Zj C_law_take θ (hr.mono (by decide)) (Zb (Zc 2) (Zb Ze Zf)))))))
    (Zi (Zeq 10 Zau.nd (Zn3 (XN := ["_law_script", "_law_k", "_law_purse_here", "_law_rays", "_law_led", "_law_owns", "_law_parts", "_law_units", "_law_far", "_law_turn", "_law_points", "_law_tops", "_law_due", "_law_handed", "_law_found"]) (dn := (Zg ZcA).names) (N := ["_law_x", "_law_y", "_law_parts"]) (k := 2) (fr := [6]) rfl rfl rfl rfl (by decide +kernel)) (Zbw (Zc 7)) (fun _ _ _ _ => (ZbK (ZE hr (by decide)) (ZA (Zt 0 (show List.Nodup (["_law_x", "_law_y", "_law_parts"] : List Str) by decide +kernel)) (ZA (Zt 1 (show List.Nodup (["_law_x", "_law_y", "_law_parts"] : List Str) by decide +kernel)) ZaS)) (hlen := (ZP (ZP (fun _ _ _ h => ZaT h)))))) (fun _ _ _ _ => (Or.inl ⟨rfl, rfl⟩)) (fun _ _ _ _ => (ZU (Zb (Zj C_law_ratio Zck (hr.mono (by decide)) (Zb (Zc 0) (Zb (Zc 2) Zf))) (Zb (Zj C_law_ratio Zck (hr.mono (by decide)) (Zb (Zc 1) (Zb (Zc 2) Zf))) Zf)))))
    (Zi (Zw 11 Zau.nd (Zj C_law_hull θ (hr.mono (by decide)) (Zb (Zc 4) (Zb (Zc 7) Zf))))
    (Zi (Zeq 12 Zau.nd (Zn3 (XN := ["_law_script", "_law_k", "_law_purse_here", "_law_rays", "_law_led", "_law_owns", "_law_parts", "_law_units", "_law_far", "_law_turn", "_law_points", "_law_tops", "_law_due", "_law_handed", "_law_found"]) (dn := (Zg ZcA).names) (N := ["_law_top", "_law_parts"]) (k := 1) (fr := [6]) rfl rfl rfl rfl (by decide +kernel)) (Zbw (Zc 11)) (fun _ _ _ _ => (Zt 0 (show List.Nodup (["_law_top", "_law_parts"] : List Str) by decide +kernel))) (fun _ _ _ _ => (Or.inl ⟨rfl, rfl⟩)) (fun _ _ _ _ => (Zj C_law_ratio Zck (hr.mono (by decide)) (Zb (Zc 0) (Zb (Zc 1) Zf)))))
    (Zi (Zw 13 Zau.nd (ZU (Zb (ZaG Zb1 Zgl T.b_list Zc2 (Zb (Zc 4) Zf)) (Zb (ZaG Zb1 Zgl T.b_list Zc2 (Zb (Zc 10) Zf)) Zf))))
    (Zi (Zw 14 Zau.nd (Zj C_height_of θ (hr.mono (by decide)) (Zb (Zl (Zc 13) Ze) (Zb (Zl (Zc 13) Ze) Zf))))
    (Zi (Zbz (ZnZ (ZhF (Zge (ZeU (Zgm ZhM T.b_isinstance T.b_list Zc2 (Zc 14)))) (ZhF (Zaa (ZdI hr.units) Zgh (Zc 14) (Zc 12)) (ZhF (Zaa Zeg Zel (Zr (ZgF (ZE hr (by decide))) ZjJ T.b_min ZiF (Zb (Zj C_law_bends θ (hr.mono (by decide)) (Zb (Zc 4) (Zb (Zc 11) Zf))) Zf)) Ze) (Ziy (Zaa (ZdI hr.units) Zgh (Zc 13) (ZU (Zb (Zc 4) (Zb (Zc 10) Zf))))))))) (Zk (ZD Zjr)) Z5)
    (Zi (Zc1 (Zcm (Zc 14) (ZU (Zb Ze (Zb Ze Zf)))))
    (Zk (Zbz (Zaa (ZdI hr.units) Zgh (Zj C_height_of θ (hr.mono (by decide)) (Zb (Zl (Zc 13) Ze) (Zb (Zl (Zc 13) Ze) Zf))) (Zc 12)) (Zk (ZD Zjr)) Z5))))))))))))))))))
    (Zk (ZD Zjr)))
end
theorem Znn {l : PySem.W.OpenLaw} {w : World} {K : PySem.W.Frag} {h : Heap} {mg : Str → Option Value} {fa f1 f2 f3 f4 f5 f6 f7 f8 f9 f10 f11 f12 f13 f14 f15 f16 f17 f18 f19 f20 f21 f22 f23 f24 f25 : Addr} (X : K.In h) (G : h.Ns mainGlobals mg) (hfa : mg "law" = some (.ref fa))
    {od1 an1 od2 an2 od3 an3 od4 an4 od5 an5 od6 an6 od7 an7 od8 an8 od9 an9 od10 an10 od11 an11 od12 an12 od13 an13 od14 an14 od15 an15 od16 an16 od17 an17 od18 an18 od19 an19 od20 an20 od21 an21 od22 an22 od23 an23 od24 an24 od25 an25 : Option Addr} {sl1 sl2 sl3 sl4 sl5 sl6 sl7 sl8 sl9 sl10 sl11 sl12 sl13 sl14 sl15 sl16 sl17 sl18 sl19 sl20 sl21 sl22 sl23 sl24 sl25 : Array (Option Value)} {oc1 kV1 dc1 pm1 cd1 ct1 oc2 kV2 dc2 pm2 cd2 ct2 oc3 kV3 dc3 pm3 cd3 ct3 oc4 kV4 dc4 pm4 cd4 ct4 oc5 kV5 dc5 pm5 cd5 ct5 oc6 kV6 dc6 pm6 cd6 ct6 oc7 kV7 dc7 pm7 cd7 ct7 oc8 kV8 dc8 pm8 cd8 ct8 oc9 kV9 dc9 pm9 cd9 ct9 oc10 kV10 dc10 pm10 cd10 ct10 oc11 kV11 dc11 pm11 cd11 ct11 oc12 kV12 dc12 pm12 cd12 ct12 oc13 kV13 dc13 pm13 cd13 ct13 oc14 kV14 dc14 pm14 cd14 ct14 oc15 kV15 dc15 pm15 cd15 ct15 oc16 kV16 dc16 pm16 cd16 ct16 oc17 kV17 dc17 pm17 cd17 ct17 oc18 kV18 dc18 pm18 cd18 ct18 oc19 kV19 dc19 pm19 cd19 ct19 oc20 kV20 dc20 pm20 cd20 ct20 oc21 kV21 dc21 pm21 cd21 ct21 oc22 kV22 dc22 pm22 cd22 ct22 oc23 kV23 dc23 pm23 cd23 ct23 oc24 kV24 dc24 pm24 cd24 ct24 oc25 kV25 dc25 pm25 cd25 ct25 : Value}
    (a1 : PySem.W.nsIn K mainGlobals "is_whole" = some (some (.ref f1))) (l1 : K.lookup f1 = some ⟨oc1, od1, .func (PySem.W.fnOf "is_whole" "is_whole" (Zq Zaz) (Zm Zaz) (Zg Zaz) .none kV1 dc1 pm1 an1 cd1 ct1), sl1⟩) (c1 : PySem.W.codeIn K cd1 "is_whole" = true) (k1 : PySem.W.keepIn K (.ref f1) = true)
    (a2 : PySem.W.nsIn K mainGlobals "greatest_divisor" = some (some (.ref f2))) (l2 : K.lookup f2 = some ⟨oc2, od2, .func (PySem.W.fnOf "greatest_divisor" "greatest_divisor" (Zq Zx) (Zm Zx) (Zg Zx) .none kV2 dc2 pm2 an2 cd2 ct2), sl2⟩) (c2 : PySem.W.codeIn K cd2 "greatest_divisor" = true) (k2 : PySem.W.keepIn K (.ref f2) = true)
    (a3 : PySem.W.nsIn K mainGlobals "crossed" = some (some (.ref f3))) (l3 : K.lookup f3 = some ⟨oc3, od3, .func (PySem.W.fnOf "crossed" "crossed" (Zq ZaR) (Zm ZaR) (Zg ZaR) .none kV3 dc3 pm3 an3 cd3 ct3), sl3⟩) (c3 : PySem.W.codeIn K cd3 "crossed" = true) (k3 : PySem.W.keepIn K (.ref f3) = true)
    (a4 : PySem.W.nsIn K mainGlobals "following" = some (some (.ref f4))) (l4 : K.lookup f4 = some ⟨oc4, od4, .func (PySem.W.fnOf "following" "following" (Zq Zae) (Zm Zae) (Zg Zae) .none kV4 dc4 pm4 an4 cd4 ct4), sl4⟩) (c4 : PySem.W.codeIn K cd4 "following" = true) (k4 : PySem.W.keepIn K (.ref f4) = true)
    (a5 : PySem.W.nsIn K mainGlobals "unspanned" = some (some (.ref f5))) (l5 : K.lookup f5 = some ⟨oc5, od5, .func (PySem.W.fnOf "unspanned" "unspanned" (Zq Zaf) (Zm Zaf) (Zg Zaf) .none kV5 dc5 pm5 an5 cd5 ct5), sl5⟩) (c5 : PySem.W.codeIn K cd5 "unspanned" = true) (k5 : PySem.W.keepIn K (.ref f5) = true)
    (a6 : PySem.W.nsIn K mainGlobals "ask_smooth" = some (some (.ref f6))) (l6 : K.lookup f6 = some ⟨oc6, od6, .func (PySem.W.fnOf "ask_smooth" "ask_smooth" (Zq Z2) (Zm Z2) (Zg Z2) .none kV6 dc6 pm6 an6 cd6 ct6), sl6⟩) (c6 : PySem.W.codeIn K cd6 "ask_smooth" = true) (k6 : PySem.W.keepIn K (.ref f6) = true)
    (a7 : PySem.W.nsIn K mainGlobals "ratio" = some (some (.ref f7))) (l7 : K.lookup f7 = some ⟨oc7, od7, .func (PySem.W.fnOf "ratio" "ratio" (Zq ZbX) (Zm ZbX) (Zg ZbX) .none kV7 dc7 pm7 an7 cd7 ct7), sl7⟩) (c7 : PySem.W.codeIn K cd7 "ratio" = true) (k7 : PySem.W.keepIn K (.ref f7) = true)
    (a8 : PySem.W.nsIn K mainGlobals "plus" = some (some (.ref f8))) (l8 : K.lookup f8 = some ⟨oc8, od8, .func (PySem.W.fnOf "plus" "plus" (Zq ZcU) (Zm ZcU) (Zg ZcU) .none kV8 dc8 pm8 an8 cd8 ct8), sl8⟩) (c8 : PySem.W.codeIn K cd8 "plus" = true) (k8 : PySem.W.keepIn K (.ref f8) = true)
    (a9 : PySem.W.nsIn K mainGlobals "minus" = some (some (.ref f9))) (l9 : K.lookup f9 = some ⟨oc9, od9, .func (PySem.W.fnOf "minus" "minus" (Zq ZbY) (Zm ZbY) (Zg ZbY) .none kV9 dc9 pm9 an9 cd9 ct9), sl9⟩) (c9 : PySem.W.codeIn K cd9 "minus" = true) (k9 : PySem.W.keepIn K (.ref f9) = true)
    (a10 : PySem.W.nsIn K mainGlobals "times" = some (some (.ref f10))) (l10 : K.lookup f10 = some ⟨oc10, od10, .func (PySem.W.fnOf "times" "times" (Zq ZbZ) (Zm ZbZ) (Zg ZbZ) .none kV10 dc10 pm10 an10 cd10 ct10), sl10⟩) (c10 : PySem.W.codeIn K cd10 "times" = true) (k10 : PySem.W.keepIn K (.ref f10) = true)
    (a11 : PySem.W.nsIn K mainGlobals "less" = some (some (.ref f11))) (l11 : K.lookup f11 = some ⟨oc11, od11, .func (PySem.W.fnOf "less" "less" (Zq ZcV) (Zm ZcV) (Zg ZcV) .none kV11 dc11 pm11 an11 cd11 ct11), sl11⟩) (c11 : PySem.W.codeIn K cd11 "less" = true) (k11 : PySem.W.keepIn K (.ref f11) = true)
    (a12 : PySem.W.nsIn K mainGlobals "greatest" = some (some (.ref f12))) (l12 : K.lookup f12 = some ⟨oc12, od12, .func (PySem.W.fnOf "greatest" "greatest" (Zq ZaA) (Zm ZaA) (Zg ZaA) .none kV12 dc12 pm12 an12 cd12 ct12), sl12⟩) (c12 : PySem.W.codeIn K cd12 "greatest" = true) (k12 : PySem.W.keepIn K (.ref f12) = true)
    (a13 : PySem.W.nsIn K mainGlobals "sloped" = some (some (.ref f13))) (l13 : K.lookup f13 = some ⟨oc13, od13, .func (PySem.W.fnOf "sloped" "sloped" (Zq Zbr) (Zm Zbr) (Zg Zbr) .none kV13 dc13 pm13 an13 cd13 ct13), sl13⟩) (c13 : PySem.W.codeIn K cd13 "sloped" = true) (k13 : PySem.W.keepIn K (.ref f13) = true)
    (a14 : PySem.W.nsIn K mainGlobals "contrary" = some (some (.ref f14))) (l14 : K.lookup f14 = some ⟨oc14, od14, .func (PySem.W.fnOf "contrary" "contrary" (Zq ZaB) (Zm ZaB) (Zg ZaB) .none kV14 dc14 pm14 an14 cd14 ct14), sl14⟩) (c14 : PySem.W.codeIn K cd14 "contrary" = true) (k14 : PySem.W.keepIn K (.ref f14) = true)
    (a15 : PySem.W.nsIn K mainGlobals "height_of" = some (some (.ref f15))) (l15 : K.lookup f15 = some ⟨oc15, od15, .func (PySem.W.fnOf "height_of" "height_of" (Zq ZR) (Zm ZR) (Zg ZR) .none kV15 dc15 pm15 an15 cd15 ct15), sl15⟩) (c15 : PySem.W.codeIn K cd15 "height_of" = true) (k15 : PySem.W.keepIn K (.ref f15) = true)
    (a16 : PySem.W.nsIn K mainGlobals "_law_purse" = some (some (.ref f16))) (l16 : K.lookup f16 = some ⟨oc16, od16, .func (PySem.W.fnOf "_law_purse" "_law_purse" (Zq Zag) (Zm Zag) (Zg Zag) .none kV16 dc16 pm16 an16 cd16 ct16), sl16⟩) (c16 : PySem.W.codeIn K cd16 "_law_purse" = true) (k16 : PySem.W.keepIn K (.ref f16) = true)
    (a17 : PySem.W.nsIn K mainGlobals "_law_take" = some (some (.ref f17))) (l17 : K.lookup f17 = some ⟨oc17, od17, .func (PySem.W.fnOf "_law_take" "_law_take" (Zq ZaC) (Zm ZaC) (Zg ZaC) .none kV17 dc17 pm17 an17 cd17 ct17), sl17⟩) (c17 : PySem.W.codeIn K cd17 "_law_take" = true) (k17 : PySem.W.keepIn K (.ref f17) = true)
    (a18 : PySem.W.nsIn K mainGlobals "_law_short_put" = some (some (.ref f18))) (l18 : K.lookup f18 = some ⟨oc18, od18, .func (PySem.W.fnOf "_law_short_put" "_law_short_put" (Zq ZJ) (Zm ZJ) (Zg ZJ) .none kV18 dc18 pm18 an18 cd18 ct18), sl18⟩) (c18 : PySem.W.codeIn K cd18 "_law_short_put" = true) (k18 : PySem.W.keepIn K (.ref f18) = true)
    (a19 : PySem.W.nsIn K mainGlobals "_law_base" = some (some (.ref f19))) (l19 : K.lookup f19 = some ⟨oc19, od19, .func (PySem.W.fnOf "_law_base" "_law_base" (Zq ZaD) (Zm ZaD) (Zg ZaD) .none kV19 dc19 pm19 an19 cd19 ct19), sl19⟩) (c19 : PySem.W.codeIn K cd19 "_law_base" = true) (k19 : PySem.W.keepIn K (.ref f19) = true)
    (a20 : PySem.W.nsIn K mainGlobals "_law_table" = some (some (.ref f20))) (l20 : K.lookup f20 = some ⟨oc20, od20, .func (PySem.W.fnOf "_law_table" "_law_table" (Zq Zah) (Zm Zah) (Zg Zah) .none kV20 dc20 pm20 an20 cd20 ct20), sl20⟩) (c20 : PySem.W.codeIn K cd20 "_law_table" = true) (k20 : PySem.W.keepIn K (.ref f20) = true)
    (a21 : PySem.W.nsIn K mainGlobals "_law_spun" = some (some (.ref f21))) (l21 : K.lookup f21 = some ⟨oc21, od21, .func (PySem.W.fnOf "_law_spun" "_law_spun" (Zq Zai) (Zm Zai) (Zg Zai) .none kV21 dc21 pm21 an21 cd21 ct21), sl21⟩) (c21 : PySem.W.codeIn K cd21 "_law_spun" = true) (k21 : PySem.W.keepIn K (.ref f21) = true)
    (a22 : PySem.W.nsIn K mainGlobals "_law_ratio" = some (some (.ref f22))) (l22 : K.lookup f22 = some ⟨oc22, od22, .func (PySem.W.fnOf "_law_ratio" "_law_ratio" (Zq Zaj) (Zm Zaj) (Zg Zaj) .none kV22 dc22 pm22 an22 cd22 ct22), sl22⟩) (c22 : PySem.W.codeIn K cd22 "_law_ratio" = true) (k22 : PySem.W.keepIn K (.ref f22) = true)
    (a23 : PySem.W.nsIn K mainGlobals "_law_hull" = some (some (.ref f23))) (l23 : K.lookup f23 = some ⟨oc23, od23, .func (PySem.W.fnOf "_law_hull" "_law_hull" (Zq Z3) (Zm Z3) (Zg Z3) .none kV23 dc23 pm23 an23 cd23 ct23), sl23⟩) (c23 : PySem.W.codeIn K cd23 "_law_hull" = true) (k23 : PySem.W.keepIn K (.ref f23) = true)
    (a24 : PySem.W.nsIn K mainGlobals "_law_bends" = some (some (.ref f24))) (l24 : K.lookup f24 = some ⟨oc24, od24, .func (PySem.W.fnOf "_law_bends" "_law_bends" (Zq Zak) (Zm Zak) (Zg Zak) .none kV24 dc24 pm24 an24 cd24 ct24), sl24⟩) (c24 : PySem.W.codeIn K cd24 "_law_bends" = true) (k24 : PySem.W.keepIn K (.ref f24) = true)
    (a25 : PySem.W.nsIn K mainGlobals "law" = some (some (.ref f25))) (l25 : K.lookup f25 = some ⟨oc25, od25, .func (PySem.W.fnOf "law" "law" (Zq ZcA) (Zm ZcA) (Zg ZcA) .none kV25 dc25 pm25 an25 cd25 ct25), sl25⟩) (c25 : PySem.W.codeIn K cd25 "law" = true) (k25 : PySem.W.keepIn K (.ref f25) = true)
    (z_isinstance : PySem.W.nsIn K mainGlobals "isinstance" = some none)
    (z_int : PySem.W.nsIn K mainGlobals "int" = some none)
    (z_bool : PySem.W.nsIn K mainGlobals "bool" = some none)
    (z_abs : PySem.W.nsIn K mainGlobals "abs" = some none)
    (z_len : PySem.W.nsIn K mainGlobals "len" = some none)
    (z_enumerate : PySem.W.nsIn K mainGlobals "enumerate" = some none)
    (z_range : PySem.W.nsIn K mainGlobals "range" = some none)
    (z_max : PySem.W.nsIn K mainGlobals "max" = some none)
    (z_zip : PySem.W.nsIn K mainGlobals "zip" = some none)
    (z_list : PySem.W.nsIn K mainGlobals "list" = some none)
    (z_reversed : PySem.W.nsIn K mainGlobals "reversed" = some none)
    (z_min : PySem.W.nsIn K mainGlobals "min" = some none)
    (q_ex_NotSmooth : ZjB K "NotSmooth" = true)
    (q_ex_NoRatio : ZjB K "NoRatio" = true)
    : ∃ fd : FuncData, (∀ (s : Shared) (v : Value), BindsTo s fd ⟨[v], []⟩ [("_law_script", v)]) ∧ ∀ base : Heap, K.In base → base.Ns mainGlobals mg → FnOk l.prog w K mg base (CXE l.prog w) 106 fa fd ["_law_script"] (spD K ZeM) := by
  have e := hfa.symm.trans (PySem.W.mg_of X G a25)
  cases e
  have T : Txt K mg := ⟨fun c v e => PySem.W.mg_of X G e, PySem.W.mg_none_of X G z_isinstance, PySem.W.mg_none_of X G z_int, PySem.W.mg_none_of X G z_bool, PySem.W.mg_none_of X G z_abs, PySem.W.mg_none_of X G z_len, PySem.W.mg_none_of X G z_enumerate, PySem.W.mg_none_of X G z_range, PySem.W.mg_none_of X G z_max, PySem.W.mg_none_of X G z_zip, PySem.W.mg_none_of X G z_list, PySem.W.mg_none_of X G z_reversed, PySem.W.mg_none_of X G z_min, q_ex_NotSmooth, q_ex_NoRatio⟩
  have R1 := ZL (st := Zaz) l1 c1 k1
  have R2 := ZL (st := Zx) l2 c2 k2
  have R3 := ZL (st := ZaR) l3 c3 k3
  have R4 := ZL (st := Zae) l4 c4 k4
  have R5 := ZL (st := Zaf) l5 c5 k5
  have R6 := ZL (st := Z2) l6 c6 k6
  have R7 := ZL (st := ZbX) l7 c7 k7
  have R8 := ZL (st := ZcU) l8 c8 k8
  have R9 := ZL (st := ZbY) l9 c9 k9
  have R10 := ZL (st := ZbZ) l10 c10 k10
  have R11 := ZL (st := ZcV) l11 c11 k11
  have R12 := ZL (st := ZaA) l12 c12 k12
  have R13 := ZL (st := Zbr) l13 c13 k13
  have R14 := ZL (st := ZaB) l14 c14 k14
  have R15 := ZL (st := ZR) l15 c15 k15
  have R16 := ZL (st := Zag) l16 c16 k16
  have R17 := ZL (st := ZaC) l17 c17 k17
  have R18 := ZL (st := ZJ) l18 c18 k18
  have R19 := ZL (st := ZaD) l19 c19 k19
  have R20 := ZL (st := Zah) l20 c20 k20
  have R21 := ZL (st := Zai) l21 c21 k21
  have R22 := ZL (st := Zaj) l22 c22 k22
  have R23 := ZL (st := Z3) l23 c23 k23
  have R24 := ZL (st := Zak) l24 c24 k24
  have R25 := ZL (st := ZcA) l25 c25 k25
  refine ⟨PySem.W.fnOf "law" "law" (Zq ZcA) (Zm ZcA) (Zg ZcA) .none kV25 dc25 pm25 an25 cd25 ct25, fun s v => .of_eq rfl, fun base _ _ => ?_⟩
  have C1 : Cal l.prog w K mg base "is_whole" 1 1 F_is_whole := ⟨f1, _, ["thing"], ZeD R1 T, PySem.W.mg_of X G a1, k1, rfl, R1.binds (ps := ["thing"]) fun _ _ _ _ _ _ us hl => match us, hl with | [_], _ => rfl⟩
  have C2 : Cal l.prog w K mg base "greatest_divisor" 101 2 F_greatest_divisor := ⟨f2, _, ["one", "other"], ZbG R2 T, PySem.W.mg_of X G a2, k2, rfl, R2.binds (ps := ["one", "other"]) fun _ _ _ _ _ _ us hl => match us, hl with | [_, _], _ => rfl⟩
  have C3 : Cal l.prog w K mg base "crossed" 1 2 F_crossed := ⟨f3, _, ["one", "other"], ZfF R3 T, PySem.W.mg_of X G a3, k3, rfl, R3.binds (ps := ["one", "other"]) fun _ _ _ _ _ _ us hl => match us, hl with | [_, _], _ => rfl⟩
  have C4 : Cal l.prog w K mg base "following" 1 2 F_following := ⟨f4, _, ["things", "at"], Zd7 R4 T, PySem.W.mg_of X G a4, k4, rfl, R4.binds (ps := ["things", "at"]) fun _ _ _ _ _ _ us hl => match us, hl with | [_, _], _ => rfl⟩
  have C5 : Cal l.prog w K mg base "unspanned" 101 1 F_unspanned := ⟨f5, _, ["rays"], Zd8 R5 T C4 C3, PySem.W.mg_of X G a5, k5, rfl, R5.binds (ps := ["rays"]) fun _ _ _ _ _ _ us hl => match us, hl with | [_], _ => rfl⟩
  have C6 : Cal l.prog w K mg base "ask_smooth" 102 1 F_ask_smooth := ⟨f6, _, ["rays"], Zdo R6 T C5, PySem.W.mg_of X G a6, k6, rfl, R6.binds (ps := ["rays"]) fun _ _ _ _ _ _ us hl => match us, hl with | [_], _ => rfl⟩
  have C7 : Cal l.prog w K mg base "ratio" 102 2 F_ratio := ⟨f7, _, ["top", "bottom"], Zim R7 T C1 C2, PySem.W.mg_of X G a7, k7, rfl, R7.binds (ps := ["top", "bottom"]) fun _ _ _ _ _ _ us hl => match us, hl with | [_, _], _ => rfl⟩
  have C8 : Cal l.prog w K mg base "plus" 103 2 F_plus := ⟨f8, _, ["one", "other"], Zku R8 T C7, PySem.W.mg_of X G a8, k8, rfl, R8.binds (ps := ["one", "other"]) fun _ _ _ _ _ _ us hl => match us, hl with | [_, _], _ => rfl⟩
  have C9 : Cal l.prog w K mg base "minus" 103 2 F_minus := ⟨f9, _, ["one", "other"], Zio R9 T C7, PySem.W.mg_of X G a9, k9, rfl, R9.binds (ps := ["one", "other"]) fun _ _ _ _ _ _ us hl => match us, hl with | [_, _], _ => rfl⟩
  have C10 : Cal l.prog w K mg base "times" 103 2 F_times := ⟨f10, _, ["one", "other"], Ziq R10 T C7, PySem.W.mg_of X G a10, k10, rfl, R10.binds (ps := ["one", "other"]) fun _ _ _ _ _ _ us hl => match us, hl with | [_, _], _ => rfl⟩
  have C11 : Cal l.prog w K mg base "less" 1 2 F_less := ⟨f11, _, ["one", "other"], Zkw R11 T, PySem.W.mg_of X G a11, k11, rfl, R11.binds (ps := ["one", "other"]) fun _ _ _ _ _ _ us hl => match us, hl with | [_, _], _ => rfl⟩
  have C12 : Cal l.prog w K mg base "greatest" 2 1 F_greatest := ⟨f12, _, ["ones"], ZeE R12 T C11, PySem.W.mg_of X G a12, k12, rfl, R12.binds (ps := ["ones"]) fun _ _ _ _ _ _ us hl => match us, hl with | [_], _ => rfl⟩
  have C13 : Cal l.prog w K mg base "sloped" 104 2 F_sloped := ⟨f13, _, ["m", "ray"], Zhj R13 T C10 C8, PySem.W.mg_of X G a13, k13, rfl, R13.binds (ps := ["m", "ray"]) fun _ _ _ _ _ _ us hl => match us, hl with | [_, _], _ => rfl⟩
  have C14 : Cal l.prog w K mg base "contrary" 104 1 F_contrary := ⟨f14, _, ["one"], ZeG R14 T C9, PySem.W.mg_of X G a14, k14, rfl, R14.binds (ps := ["one"]) fun _ _ _ _ _ _ us hl => match us, hl with | [_], _ => rfl⟩
  have C15 : Cal l.prog w K mg base "height_of" 105 2 F_height_of := ⟨f15, _, ["rays", "points"], Zea R15 T C6 C13 C14 C12, PySem.W.mg_of X G a15, k15, rfl, R15.binds (ps := ["rays", "points"]) fun _ _ _ _ _ _ us hl => match us, hl with | [_, _], _ => rfl⟩
  have C16 : Cal l.prog w K mg base "_law_purse" 1 2 F_law_purse := ⟨f16, _, ["_law_script", "_law_k"], Zeb R16 T, PySem.W.mg_of X G a16, k16, rfl, R16.binds (ps := ["_law_script", "_law_k"]) fun _ _ _ _ _ _ us hl => match us, hl with | [_, _], _ => rfl⟩
  have C17 : Cal l.prog w K mg base "_law_take" 1 2 F_law_take := ⟨f17, _, ["_law_purse_here", "_law_many"], ZeH R17 T, PySem.W.mg_of X G a17, k17, rfl, R17.binds (ps := ["_law_purse_here", "_law_many"]) fun _ _ _ _ _ _ us hl => match us, hl with | [_, _], _ => rfl⟩
  have C18 : Cal l.prog w K mg base "_law_short_put" 1 2 F_law_short_put := ⟨f18, _, ["_law_rays", "_law_at"], Zcd R18 T, PySem.W.mg_of X G a18, k18, rfl, R18.binds (ps := ["_law_rays", "_law_at"]) fun _ _ _ _ _ _ us hl => match us, hl with | [_, _], _ => rfl⟩
  have C19 : Cal l.prog w K mg base "_law_base" 101 2 F_law_base := ⟨f19, _, ["_law_purse_here", "_law_most"], ZeI R19 T C17 C18, PySem.W.mg_of X G a19, k19, rfl, R19.binds (ps := ["_law_purse_here", "_law_most"]) fun _ _ _ _ _ _ us hl => match us, hl with | [_, _], _ => rfl⟩
  have C20 : Cal l.prog w K mg base "_law_table" 101 1 F_law_table := ⟨f20, _, ["_law_purse_here"], Zec R20 T C17, PySem.W.mg_of X G a20, k20, rfl, R20.binds (ps := ["_law_purse_here"]) fun _ _ _ _ _ _ us hl => match us, hl with | [_], _ => rfl⟩
  have C21 : Cal l.prog w K mg base "_law_spun" 101 4 F_law_spun := ⟨f21, _, ["_law_table_here", "_law_rays", "_law_some", "_law_at"], ZeJ R21 T, PySem.W.mg_of X G a21, k21, rfl, R21.binds (ps := ["_law_table_here", "_law_rays", "_law_some", "_law_at"]) fun _ _ _ _ _ _ us hl => match us, hl with | [_, _, _, _], _ => rfl⟩
  have C22 : Cal l.prog w K mg base "_law_ratio" 101 2 F_law_ratio := ⟨f22, _, ["_law_top", "_law_bottom"], Zed R22 T, PySem.W.mg_of X G a22, k22, rfl, R22.binds (ps := ["_law_top", "_law_bottom"]) fun _ _ _ _ _ _ us hl => match us, hl with | [_, _], _ => rfl⟩
  have C23 : Cal l.prog w K mg base "_law_hull" 101 2 F_law_hull := ⟨f23, _, ["_law_rays", "_law_points"], ZeL R23 T, PySem.W.mg_of X G a23, k23, rfl, R23.binds (ps := ["_law_rays", "_law_points"]) fun _ _ _ _ _ _ us hl => match us, hl with | [_, _], _ => rfl⟩
  have C24 : Cal l.prog w K mg base "_law_bends" 101 2 F_law_bends := ⟨f24, _, ["_law_rays", "_law_heights"], Zee R24 T, PySem.W.mg_of X G a24, k24, rfl, R24.binds (ps := ["_law_rays", "_law_heights"]) fun _ _ _ _ _ _ us hl => match us, hl with | [_, _], _ => rfl⟩
  exact Znm R25 T C16 C19 C17 C20 C21 C22 C23 C15 C24
end K49
end
section
set_option Elab.async false
set_option linter.all false
set_option maxRecDepth 100000
set_option maxHeartbeats 4000000
namespace K49
open PySem PySem.Spec L2 DL
open CV CN CU CS CD
open CA (Tn)
open CR (rt Sz)
open CH (rts ZF Zam)
theorem Zkx : F_law_purse = CB.F_law_purse := rfl
theorem Zfh : F_law_take = CB.F_law_take := rfl
theorem Zno : F_law_base = CD.F_law_base := rfl
theorem Zky : F_law_table = CD.F_law_table := rfl
theorem Znp : F_law_spun = CD.F_law_spun := rfl
theorem Zkz : F_law_ratio = CR.F_law_low := rfl
theorem Znq : F_law_hull = CD.F_law_hull := rfl
theorem ZnG : F_height_of = CD.F_height_of := rfl
theorem Zr2 {p : Rat} (h : 0 < p) : 0 ≤ p⁻¹ := by
  by_cases c : 0 ≤ p⁻¹
  · exact c
  · exfalso
    have h1 : p⁻¹ ≤ 0 := by grind
    have h2 := Rat.mul_le_mul_of_nonneg_right h1 (show 0 ≤ p by grind)
    grind
theorem Znr {x y p : Rat} (h : 0 < p) (a : x ≤ y) : x / p ≤ y / p := by
  rw [Rat.div_def, Rat.div_def]
  exact Rat.mul_le_mul_of_nonneg_right a (Zr2 h)
noncomputable def vU (r u : Pt) : Int := 0 - u.1 * r.1 - u.2 * r.2
noncomputable def Zhk (us : List Pt) (r : Pt) : Int := (us.map (vU r)).max?.getD 0
noncomputable def Zdr (rs us : List Pt) : List Int := rs.map (Zhk us)
theorem ZcB {us : List Pt} {r : Pt} (h : us ≠ []) : (∃ u ∈ us, Zhk us r = vU r u) ∧ (∀ u ∈ us, vU r u ≤ Zhk us r) ∧ (us.map (vU r)).max? = some (Zhk us r) := by
  cases e : (us.map (vU r)).max? with
  | none => exact absurd (List.map_eq_nil_iff.mp (List.max?_eq_none_iff.mp e)) h
  | some mx =>
    obtain ⟨h1, h2⟩ := List.max?_eq_some_iff.mp e
    have t : Zhk us r = mx := by unfold Zhk; rw [e]; rfl
    rw [t]
    obtain ⟨u, hu, eu⟩ := List.mem_map.mp h1
    exact ⟨⟨u, hu, eu.symm⟩, fun v hv => h2 _ (List.mem_map.mpr ⟨v, hv, rfl⟩), rfl⟩
theorem Zhl {rs : List Pt} {f : Pt → Int} (h : rs ≠ []) (i : Int) : cn (rs.map f) i = f (cy rs i) := by
  have hl : rs.length ≠ 0 := by simpa using h
  have := (Zat (i := i) hl).1
  unfold cn cy
  rw [List.length_map, List.getD_eq_getElem?_getD, List.getD_eq_getElem?_getD, List.getElem?_map, List.getElem?_eq_getElem this]
  rfl
noncomputable def bnd (rs : List Pt) (hs : List Int) : List Int := (List.range rs.length).map fun (i : Nat) => cn hs ((i : Int) - 1) + cn hs ((i : Int) + 1) + (0 - X (cy rs ((i : Int) - 1)) (cy rs ((i : Int) + 1))) * cn hs i
theorem Zns {p q r : Pt} (h1 : X p q = 1) (h2 : X q r = 1) : p.1 + r.1 = X p r * q.1 ∧ p.2 + r.2 = X p r * q.2 := by
  unfold X at *
  constructor <;> grind
theorem ZkA {rs us : List Pt} (hs : Smo rs) (hu : us ≠ []) : ∀ b ∈ bnd rs (Zdr rs us), 0 ≤ b := by
  intro b hb
  obtain ⟨i, hi, rfl⟩ := List.mem_map.mp hb
  have hne := hs.ne
  unfold Zdr
  rw [Zhl hne, Zhl hne, Zhl hne]
  have x1 := hs.one ((i : Int) - 1)
  rw [show (i : Int) - 1 + 1 = i by omega] at x1
  have x2 := hs.one (i : Int)
  generalize cy rs ((i : Int) - 1) = p at *
  generalize cy rs ((i : Int) + 1) = r at *
  generalize cy rs (i : Int) = q at *
  obtain ⟨b1, b2⟩ := Zns x1 x2
  obtain ⟨u, hu', e⟩ := (ZcB (r := q) hu).1
  have l1 := (ZcB (r := p) hu).2.1 u hu'
  have l2 := (ZcB (r := r) hu).2.1 u hu'
  rw [e]
  generalize Zhk us p = tp at *
  generalize Zhk us r = tr at *
  generalize X p r = N at *
  unfold vU at *
  have k : (0 - N) * (0 - u.1 * q.1 - u.2 * q.2) = u.1 * p.1 + u.1 * r.1 + (u.2 * p.2 + u.2 * r.2) := by grind
  rw [k]
  omega
theorem Zds {t : Int} {p : Nat} (hp : p ≠ 0) : Rat.normalize t p hp = (t : Rat) / (p : Rat) := by
  rw [Rat.normalize_eq_mkRat, Rat.mkRat_eq_div]
theorem Znt {rs us : List Pt} {p : Nat} (hu : us ≠ []) (hp : p ≠ 0) : hts rs (us.map fun u => (Rat.normalize u.1 p hp, Rat.normalize u.2 p hp)) = (Zdr rs us).map fun t => Rat.normalize t p hp := by
  unfold hts Zdr
  rw [List.map_map]
  refine List.map_congr_left fun r _ => ?_
  have p0 : (0 : Rat) < (p : Rat) := by
    have : (0 : Rat) ≤ (p : Rat) := Rat.natCast_nonneg
    have : (p : Rat) ≠ 0 := fun z => hp (Rat.natCast_eq_zero_iff.mp z)
    grind
  have v (u : Pt) : 0 - slp (Rat.normalize u.1 p hp, Rat.normalize u.2 p hp) r = (vU r u : Rat) / (p : Rat) := by
    unfold slp vU
    rw [Zds, Zds, Rat.intCast_sub, Rat.intCast_sub, Rat.intCast_mul, Rat.intCast_mul]
    simp only [Rat.div_def]
    grind
  have e := ZcB (r := r) hu
  obtain ⟨⟨u, hu1, hu2⟩, h2, _⟩ := e
  show _ = Rat.normalize (Zhk us r) p hp
  rw [Zds]
  refine Znj ?_ ?_
  · rw [List.map_map]
    refine List.mem_map.mpr ⟨u, hu1, ?_⟩
    show 0 - slp (Rat.normalize u.1 p hp, Rat.normalize u.2 p hp) r = _
    rw [v, hu2]
  · intro x hx
    rw [List.map_map] at hx
    obtain ⟨w, hw, rfl⟩ := List.mem_map.mp hx
    show 0 - slp (Rat.normalize w.1 p hp, Rat.normalize w.2 p hp) r ≤ _
    rw [v]
    exact Znr p0 (Rat.intCast_le_intCast.mpr (h2 w hw))
section
variable {Q : D → Sto → Prop} {E : Str → Sto → Prop} {M : Sto} {n m p : Nat} {rs us : List Pt} {hs : List Int}
theorem Zhm {t : Int} (hb : Bag n M) (ht : 0 < t ∧ t < 1606938044258990275541962092341162602522202993782792835301376) (q : ∀ r M', 0 ≤ r → r < t → Gr n M M' → Q (.int r) M') : wO (CB.F_law_take [.ref n, .int t] M) Q E := by
  obtain ⟨a, b, ha, e⟩ := hb
  have hl : n < M.length := Zn e
  have hs : ∀ x, (M.set n x)[n]? = some x := fun x => List.getElem?_set_self hl
  have gr : ∀ a' b', 0 ≤ a' → Gr n M (M.set n (.lst [.int a', .int b'])) := fun a' b' h => ⟨by simp, ⟨a', b', h, hs _⟩, fun k hk _ => by rw [List.getElem?_set_ne (Ne.symm hk)]⟩
  have m1 := Int.emod_nonneg a (show t ≠ 0 by omega)
  have m2 := Int.emod_lt_of_pos a ht.1
  have p200 : (2 : Nat) ^ 200 = 1606938044258990275541962092341162602522202993782792835301376 := by decide +kernel
  have dv {i : Int} {M : Sto} {Q : D → Sto → Prop} {E : Str → Sto → Prop} : wO (dDiv (.int i) (.int t) M) Q E = Q (.int (i / t)) M := CR.Zd1 (k := 200) ht.1 (by rw [p200]; omega) (by decide)
  simp! [CB.F_law_take, CB.ZaP, e]
  refine brS (fun h1 => ?_) (fun h1 => ?_)
  · simp! [e, ix0, dv]
    exact q _ _ m1 m2 (gr _ _ (Int.ediv_nonneg ha (by omega)))
  · simp! [e, ix1]
    exact q _ _ (Int.emod_nonneg _ (by omega)) (Int.emod_lt_of_pos _ ht.1) (gr _ _ ha)
theorem Znu (h : M[n]? = some (.lst (prs rs))) (hb : Nr 200 rs) (hne : rs ≠ []) (hl : rs.length ≤ 1000) (hm : M[m]? = some (.lst (prs us))) (hu : us ≠ []) (lm : us.length ≤ 1000)
    (q : ∀ M', Kp M M' → M'[M.length]? = some (.lst (nts (Zdr rs us))) → Q (.ref M.length) M') : wO (CD.F_law_hull [.ref n, .ref m] M) Q E := by
  have hn := Zn h
  have hm' := Zn hm
  simp! [CD.F_law_hull, CD.Zbq]
  refine ZqH (fun ρ => ∃ x, ρ = [x, some (.ref m)]) (fun (i : Nat) => D.int (Zhk us (cy rs i))) h (by rw [ZB]; omega) ⟨_, rfl⟩ ?_ ?_
  · rintro i hi ρ M1 K1 ⟨x, rfl⟩
    rw [CC.ZbD]
    have hm1 := K1.get hm
    have hml := Zn hm1
    have hr := hb _ (Zco (i := i) hne)
    generalize cy rs i = r at *
    simp! [Zo]
    refine ⟨⟨_, rfl⟩, ?_⟩
    refine ZiO (fun ρ => ∃ y z, ρ = [y, z, some (pr r.1 r.2)]) (fun (j : Nat) => D.int (vU r (cy us j))) hm1 (by rw [ZB]; omega) ⟨_, _, rfl⟩ ?_ ?_
    · rintro j hj ρ L ⟨y, z, rfl⟩
      rw [CC.ZbD]
      simp! [Zo]
      exact ⟨⟨_, _, rfl⟩, rfl⟩
    rw [ZB, Zda]
    have em : (List.range us.length).map (fun (j : Nat) => vU r (cy us j)) = us.map (vU r) := by
      conv => rhs; rw [← Zdm (us := us)]
      rw [List.map_map]
      rfl
    rw [em]
    simp! [CD.ZaI, (ZcB (r := r) hu).2.2]
    exact Kp.app
  · intro M' K' r'
    have em : (List.range (prs rs).length).map (fun (i : Nat) => D.int (Zhk us (cy rs i))) = nts (Zdr rs us) := by
      rw [ZB, Zda]
      unfold Zdr
      conv => rhs; rw [← Zdm (us := rs)]
      rw [List.map_map]
      rfl
    rw [em] at r'
    exact q M' K' r'
theorem Zhc (h : M[n]? = some (.lst (prs rs))) (hb : Nr 200 rs) (hne : rs ≠ []) (hl : rs.length ≤ 1000) (hm : M[m]? = some (.lst (nts hs))) (lh : hs.length = rs.length)
    (q : Q (.ref M.length) (M ++ [.lst (nts (bnd rs hs))])) : wO (F_law_bends [.ref n, .ref m] M) Q E := by
  have hn := Zn h
  have hm' := Zn hm
  have hl0 : rs.length ≠ 0 := by simpa using hne
  simp! [F_law_bends, ZaX, h]
  refine ⟨by omega, ?_⟩
  have bl : (bnd rs hs).length = rs.length := by simp [bnd]
  refine ZdR (fun i ρ M' => M' = M ++ [.lst (nts ((bnd rs hs).take i))] ∧ ∃ x3 x4 x5 x6 x7, ρ = [some (.ref n), some (.ref m), some (.ref M.length), x3, x4, x5, x6, x7]) ⟨rfl, _, _, _, _, _, rfl⟩ ?_ ?_
  · rintro i ρ _ hi ⟨rfl, x3, x4, x5, x6, x7, rfl⟩
    have hi' : i < rs.length := by omega
    have em := Zat (i := (i : Int) + 1) hl0
    have b1 := hb _ (Zco (i := (i : Int) - 1) hne)
    have b2 := hb _ (Zco (i := (i : Int) + 1) hne)
    rw [show (0 : Int) + (i : Int) = i by omega]
    have m1 := CA.Zhq b1.1 b2.2
    have m2 := CA.Zhq b1.2 b2.1
    have tk : (bnd rs hs).take (i + 1) = (bnd rs hs).take i ++ [cn hs ((i : Int) - 1) + cn hs ((i : Int) + 1) + (0 - X (cy rs ((i : Int) - 1)) (cy rs ((i : Int) + 1))) * cn hs i] := by
      rw [List.take_succ_eq_append_getElem (by omega)]
      simp [bnd]
    have cm := Zma (rs := hs) (i := (i : Int) + 1)
    rw [lh] at cm
    unfold X at tk
    simp! [Zan, h, hm, ZcN, ZiL, ZcO, cm, tk]
    exact ⟨by rw [List.length_take]; omega, _, _, _, _, _, rfl⟩
  · rintro ρ _ ⟨rfl, x3, x4, x5, x6, x7, rfl⟩
    simp! [Zo]
    rw [show ((rs.length : Int)).toNat = (bnd rs hs).length by omega, List.take_length]
    exact q
theorem ZkB {k : Nat} {o : SO} (h : Bag n M) (hk : k ≠ n) : Bag n (M.set k o) := by
  obtain ⟨a, b, ha, e⟩ := h
  exact ⟨a, b, ha, by rw [List.getElem?_set_ne hk]; exact e⟩
theorem Zdt {f : D → D → Option Bool} : ∀ {xs : List D}, (∀ x ∈ xs, f x x = some true) → eqL f xs xs = some true
  | [], _ => rfl
  | x :: xs, h => by
    rw [eqL, h x (by simp), Zdt fun y hy => h y (List.mem_cons_of_mem _ hy)]
    rfl
theorem Znv {a b : Nat} {ms : List (Rat × Rat)} (h1 : M[a]? = some (.lst (pts ms))) (h2 : M[b]? = some (.lst (pts ms))) : eqF 11 M (.ref a) (.ref b) = some true := by
  rw [ZgV h1 h2, if_pos rfl]
  refine Zdt fun x hx => ?_
  obtain ⟨m, _, rfl⟩ := List.mem_map.mp hx
  show eqL (eqF 9 M) [rt m.1, rt m.2] [rt m.1, rt m.2] = _
  refine Zdt fun y hy => ?_
  simp only [List.mem_cons, List.not_mem_nil, or_false] at hy
  rcases hy with rfl | rfl <;> rw [ZoC, decide_eq_true rfl]
theorem ZpG {a b a' b' : Nat} {ms : List (Rat × Rat)} (h1 : M[a]? = some (.lst (prs rs))) (h2 : M[b]? = some (.lst (pts ms))) (h3 : M[a']? = some (.lst (prs rs))) (h4 : M[b']? = some (.lst (pts ms))) : eqF 12 M (.tup [.ref a, .ref b]) (.tup [.ref a', .ref b']) = some true := by
  show eqL (eqF 11 M) [.ref a, .ref b] [.ref a', .ref b'] = _
  have s1 : eqF 11 M (.ref a) (.ref a') = some true := by rw [ZgV h1 h3, if_pos rfl, Ze7, decide_eq_true rfl]
  simp [eqL, s1, Znv h2 h4]
theorem ZkC {N : Ro → Sto → Prop} {R : D → Sto → Prop} {B C : Ro → Sto → Prop} {ns : List Int} {i : Nat} {x2 x3 x4 x5 x6 x7 x8 x9 x10 x11 x12 x13 x14 : Option D} (hi0 : i < 1000) (hN : ∀ x2 x3 x4 x5 x6 x7 x8 x9 x10 x11 x12 x13 x14 M', N [some (.rol (ns.map D.int)), some (.int i), x2, x3, x4, x5, x6, x7, x8, x9, x10, x11, x12, x13, x14] M') : wS (Zdq [some (.rol (ns.map D.int)), some (.int i), x2, x3, x4, x5, x6, x7, x8, x9, x10, x11, x12, x13, x14] M) N R B C E := by
  simp! [Zdq, Zkx]
  refine CB.Zke hi0 fun a b ha => ?_
  have B0 : Bag M.length (M ++ [.lst [.int a, .int b]]) := ⟨a, b, ha, by simp⟩
  generalize M ++ [SO.lst [.int a, .int b]] = M0 at *
  generalize M.length = n at *
  simp! [Zno]
  refine CD.Znc (by decide) B0 fun ss o M1 s1 s2 s3 s4 s5 g1 => ?_
  have sl := s1.len
  have hno : o ≠ n := by have := B0.lt; omega
  simp! [Zky]
  refine CD.Zkq g1.bag fun a b c d p M2 tn pl v2 g2 => ?_
  have r2 := CA.Gr.up s5 g2 hno
  have hpn : p ≠ n := by have := g1.bag.lt; omega
  have lo2 := Zn r2
  simp! [r2, Zfh]
  refine CB.ZaJ g2.bag (by omega) fun st M3 st0 st1 g3 => ?_
  have r3 := CA.Gr.up r2 g3 hno
  have v3 := CA.Gr.up v2 g3 hpn
  simp! [Znp]
  refine CD.Znh r3 r3 ZB v3 tn s2 (by omega) (by omega) fun o1 o2 M4 K4 ol1 ol2 on r4 r5 => ?_
  have S := CD.Zng (k := st.toNat) s1 (by omega) tn.det
  have Nr' := CD.ZpF (neg := decide (a * d - b * c < 0)) (k := st.toNat) s2 tn
  have ll : (CD.sg (decide (a * d - b * c < 0)) st.toNat (ss.map (CD.gg a b c d))).length = ss.length := by rw [CD.Zhf, List.length_map]
  generalize CD.sg (decide (a * d - b * c < 0)) st.toNat (ss.map (CD.gg a b c d)) = ls at *
  have B4 : Bag n M4 := K4.bag g3.bag
  have n1 : o1 ≠ n := by have := g3.bag.lt; omega
  clear r5 r2 r3 v2 v3 s5
  simp! [Zfh]
  refine CB.ZaJ B4 (by decide) fun pt M5 pt0 pt1 g5 => ?_
  have r6 := CA.Gr.up r4 g5 n1
  simp! [Zo]
  have B6 := g5.bag.app [SO.lst [], SO.lst [D.int (3 * (1 + pt)), D.int 100000000000000000000000000000]]
  have G6 : Gr n M5 (M5 ++ [SO.lst [], SO.lst [D.int (3 * (1 + pt)), D.int 100000000000000000000000000000]]) := Gr.app g5.bag _
  have u6 : (M5 ++ [SO.lst [], SO.lst [D.int (3 * (1 + pt)), D.int 100000000000000000000000000000]])[M5.length]? = some (.lst (prs [])) := by simp [prs]
  have w6 : (M5 ++ [SO.lst [], SO.lst [D.int (3 * (1 + pt)), D.int 100000000000000000000000000000]])[M5.length + 1]? = some (.lst [D.int (3 * (1 + pt)), D.int 100000000000000000000000000000]) := by rw [Zh8]; rfl
  have q6 := CA.Gr.up r6 G6 n1
  have n5 : M5.length ≠ n ∧ M5.length + 1 ≠ n := by have := g5.bag.lt; omega
  have no : o1 ≠ M5.length := by have := Zn r6; omega
  generalize M5 ++ [SO.lst [], SO.lst [D.int (3 * (1 + pt)), D.int 100000000000000000000000000000]] = M6 at *
  generalize M5.length = ou at *
  refine CB.ZaJ B6 (by decide) fun f8 M7 f80 f81 g7 => ?_
  have u7 := CA.Gr.up u6 g7 n5.1
  have q7 := CA.Gr.up q6 g7 n1
  have w7 := CA.Gr.up w6 g7 n5.2
  obtain ⟨far, hfar, far0⟩ : ∃ far : Int, atI [D.int (3 * (1 + pt)), D.int 100000000000000000000000000000] (if decide (f8 = 5) = true then 1 else 0) = some (.int far) ∧ (0 ≤ far ∧ far ≤ 100000000000000000000000000000) := by
    by_cases z : f8 = 5
    · exact ⟨100000000000000000000000000000, by rw [if_pos (decide_eq_true z)]; rfl, by omega⟩
    · exact ⟨3 * (1 + pt), by rw [if_neg (by simpa using z)]; rfl, by omega⟩
  simp! [w7, hfar]
  have B7 := g7.bag
  clear hfar w7 w6 u6 q6 B6 G6 g7
  refine CB.ZaJ B7 (by decide) fun tn8 M8 t80 t81 g8 => ?_
  have u8 := CA.Gr.up u7 g8 n5.1
  have q8 := CA.Gr.up q7 g8 n1
  simp! [Zo]
  refine ⟨by omega, ?_⟩
  refine ZdR (fun j ρ M' => ∃ us x9, ρ = [some (.rol (ns.map D.int)), some (.int i), some (.ref n), some (.ref o), some (.ref o1), some (.ref o2), some (.int (1 + pt)), some (.ref ou), some (.int far), x9, x10, x11, x12, x13, x14] ∧ us.length = j ∧ (∀ u ∈ us, (-100000000000000000000000000000 ≤ u.1 ∧ u.1 ≤ 100000000000000000000000000000) ∧ (-100000000000000000000000000000 ≤ u.2 ∧ u.2 ≤ 100000000000000000000000000000)) ∧ Bag n M' ∧ M'[ou]? = some (.lst (prs us)) ∧ M'[o1]? = some (.lst (prs ls))) ⟨[], _, rfl, rfl, by simp, g8.bag, u8, q8⟩ ?_ ?_
  · rintro j ρ M9 hj ⟨us, x9, rfl, lu, bu, B9, u9, q9⟩
    have l9 := Zn u9
    simp! [Zfg, Zfh, u9]
    refine Zhm B9 (by omega) fun r M10 r0 r1 g10 => ?_
    simp! [Zo]
    refine Zhm g10.bag (by omega) fun r' M11 r0' r1' g11 => ?_
    have u11 := CA.Gr.up (CA.Gr.up u9 g10 n5.1) g11 n5.1
    have q11 := CA.Gr.up (CA.Gr.up q9 g10 n1) g11 n1
    have B11 := g11.bag
    simp! [u11]
    have lt11 := Zn u11
    refine ⟨by omega, us ++ [(r - far, r' - far)], _, rfl, by simp; omega, fun u hu => ?_, ZkB B11 n5.1, by rw [ZiK lt11], q11⟩
    rcases List.mem_append.mp hu with hu | hu
    · exact bu u hu
    · rw [List.mem_singleton.mp hu]; simp only; omega
  · rintro ρ M9 ⟨us, x9, rfl, lu, bu, B9, u9, q9⟩
    have l9 := Zn u9
    simp! [Zfh]
    refine CB.ZaJ B9 (by decide) fun t M10 t0 t1 g10 => ?_
    have u10 := CA.Gr.up u9 g10 n5.1
    have q10 := CA.Gr.up q9 g10 n1
    have l10 := Zn u10
    simp! [u10]
    refine ⟨by rw [List.length_take]; omega, ?_⟩
    have u12 : (M10 ++ [SO.lst (prs (us.take t.toNat)), SO.lst (prs (us ++ us.take t.toNat))])[M10.length + 1]? = some (.lst (prs (us ++ us.take t.toNat))) := by rw [Zh8]; rfl
    have K12 : Kp M10 (M10 ++ [SO.lst (prs (us.take t.toNat)), SO.lst (prs (us ++ us.take t.toNat))]) := Kp.app
    have q12 := K12.get q10
    have bw : ∀ u ∈ us ++ us.take t.toNat, (-100000000000000000000000000000 ≤ u.1 ∧ u.1 ≤ 100000000000000000000000000000) ∧ (-100000000000000000000000000000 ≤ u.2 ∧ u.2 ≤ 100000000000000000000000000000) := fun u hu => by
      rcases List.mem_append.mp hu with hu | hu
      · exact bu u hu
      · exact bu u (List.mem_of_mem_take hu)
    have lw : (us ++ us.take t.toNat).length ≤ 1000 := by rw [List.length_append, List.length_take]; omega
    have nw : us ++ us.take t.toNat ≠ [] := by
      intro z
      have := congrArg List.length z
      rw [List.length_append, lu] at this
      simp at this
      omega
    generalize us ++ us.take t.toNat = ws at *
    generalize M10 ++ [SO.lst (prs (us.take t.toNat)), SO.lst (prs ws)] = M12 at *
    generalize M10.length + 1 = ow at *
    clear u9 q9 u10 q10 K12 l9 l10 g10 B9
    obtain ⟨pn, hpn', pz, ps⟩ : ∃ pn : Nat, (1 + pt : Int) = pn ∧ pn ≠ 0 ∧ pn < 2 ^ 100 := ⟨(1 + pt).toNat, by omega, by omega, by
      have : (1 + pt).toNat < 5 := by omega
      exact Nat.lt_trans this (by decide)⟩
    rw [hpn']
    have rw1 {z : Int} {M : Sto} {Q : D → Sto → Prop} {E : Str → Sto → Prop} : wO (F_law_ratio [.int z, .int pn] M) Q E = Q (rt (Rat.normalize z pn pz)) M := by
      rw [Zkz]
      exact CS.ZmW pz ps (by decide)
    have lw12 := Zn u12
    refine ZiO (fun ρ => ∃ x y, ρ = [x, y, some (.int pn)]) (fun (j : Nat) => D.tup [rt (Rat.normalize (cy ws j).1 pn pz), rt (Rat.normalize (cy ws j).2 pn pz)]) u12 (by rw [ZB]; omega) ⟨_, _, rfl⟩ ?_ ?_
    · rintro j hj ρ L ⟨x, y, rfl⟩
      rw [CC.ZbD]
      simp! [rw1]
      exact ⟨_, _, rfl⟩
    have em : (List.range (prs ws).length).map (fun (j : Nat) => D.tup [rt (Rat.normalize (cy ws j).1 pn pz), rt (Rat.normalize (cy ws j).2 pn pz)]) = pts (ws.map fun u => (Rat.normalize u.1 pn pz, Rat.normalize u.2 pn pz)) := by
      unfold pts
      conv => rhs; rw [← Zdm (us := ws)]
      rw [ZB, List.map_map, List.map_map]
      rfl
    rw [em]
    have hD := Znt (rs := ls) nw pz
    have zm : ∀ x ∈ ws.map (fun u => (Rat.normalize u.1 pn pz, Rat.normalize u.2 pn pz)), Sz 100 x.1 ∧ Sz 100 x.2 := by
      intro x hx
      obtain ⟨u, hu, rfl⟩ := List.mem_map.mp hx
      have := bw u hu
      have p100 : (2 : Nat) ^ 100 = 1267650600228229401496703205376 := by decide +kernel
      exact ⟨CR.Zcw pz (by rw [p100]; omega) ps, CR.Zcw pz (by rw [p100]; omega) ps⟩
    have lm : (ws.map fun u => (Rat.normalize u.1 pn pz, Rat.normalize u.2 pn pz)).length ≤ 1000 := by rw [List.length_map]; exact lw
    have nm : (ws.map fun u => (Rat.normalize u.1 pn pz, Rat.normalize u.2 pn pz)) ≠ [] := fun z => nw (List.map_eq_nil_iff.mp z)
    generalize (ws.map fun u => (Rat.normalize u.1 pn pz, Rat.normalize u.2 pn pz)) = ms at *
    have K13 : Kp M12 (M12 ++ [SO.lst (pts ms)]) := Kp.app
    have p13 : (M12 ++ [SO.lst (pts ms)])[M12.length]? = some (.lst (pts ms)) := by simp
    generalize M12 ++ [SO.lst (pts ms)] = M13 at *
    generalize M12.length = op at *
    have q13 := K13.get q12
    have u13 := K13.get u12
    clear K13 q12 u12
    simp! [Znq]
    refine Znu q13 Nr' S.ne (by omega) u13 nw lw fun M14 K14 t14 => ?_
    have q14 := K14.get q13
    have p14 := K14.get p13
    generalize M13.length = ot at *
    clear K14 q13 p13 u13
    have tl : (Zdr ls ws).length = ls.length := List.length_map _
    have lt14 := Zn t14
    simp! [Zo]
    refine ZiO (fun ρ => ∃ x, ρ = [x, some (.int pn)]) (fun (j : Nat) => rt (Rat.normalize (cn (Zdr ls ws) j) pn pz)) t14 (by rw [ZaU]; omega) ⟨_, rfl⟩ ?_ ?_
    · rintro j hj ρ L ⟨x, rfl⟩
      have e : (nts (Zdr ls ws))[j] = D.int (cn (Zdr ls ws) j) := by rw [ZdV (by rw [ZaU] at hj; exact hj)]; simp [nts]
      rw [e]
      simp! [rw1]
      exact ⟨_, rfl⟩
    have em2 : (List.range (nts (Zdr ls ws)).length).map (fun (j : Nat) => rt (Rat.normalize (cn (Zdr ls ws) j) pn pz)) = rts ((Zdr ls ws).map fun t => Rat.normalize t pn pz) := by
      rw [ZaU]
      refine Zey (by rw [List.length_map]) fun i hi => ?_
      rw [Zd3 (by rw [List.length_map]; exact hi), List.getElem_map, ZdV hi]
    rw [em2, ← hD]
    have K15 : Kp M14 (M14 ++ [SO.lst (rts (hts ls ms))]) := Kp.app
    have d15 : (M14 ++ [SO.lst (rts (hts ls ms))])[M14.length]? = some (.lst (rts (hts ls ms))) := by simp
    generalize M14 ++ [SO.lst (rts (hts ls ms))] = M15 at *
    generalize M14.length = od at *
    have q15 := K15.get q14
    have p15 := K15.get p14
    have t15 := K15.get t14
    have l15 := Zn q15
    have d15l := Zn d15
    have lp15 := Zn p15
    clear K15 q14 p14 t14
    simp! [q15, p15]
    refine CD.Zcy (ms := ms) (k := 100) (by rw [ZdU]; rfl) S Nr' (by omega) (by rw [Zh8]; rfl) nm lm zm (by decide) fun M16 K16 f16 => ?_
    have h16 : M16[M15.length]? = some (.lst (prs ls)) := K16.get (by rw [ZdU]; rfl)
    have i16 : M16[M15.length + 1]? = some (.lst (pts ms)) := K16.get (by rw [Zh8]; rfl)
    have KK : Kp M15 M16 := Kp.app.trans K16
    have q16 := KK.get q15
    have p16 := KK.get p15
    have t16 := KK.get t15
    have d16 := KK.get d15
    have fl : (M15 ++ [SO.lst (prs ls), SO.lst (pts ms)]).length = M15.length + 2 := by simp
    rw [fl] at f16
    generalize M15.length = oh at *
    clear K16 KK q15 p15 t15 d15
    simp! [fl, Zmf f16]
    have e1 : eqF 12 M16 (.ref (oh + 2)) (.ref od) = some true := by rw [CU.Zm2 (k := 9) f16 d16, decide_eq_true rfl]
    simp! [e1]
    refine Zhc q16 Nr' S.ne (by omega) t16 tl ?_
    have K17 : Kp M16 (M16 ++ [SO.lst (nts (bnd ls (Zdr ls ws)))]) := Kp.app
    have bp := ZkA (us := ws) S nw
    have bn : bnd ls (Zdr ls ws) ≠ [] := fun z => by
      have := congrArg List.length z
      simp [bnd] at this
      exact S.ne this
    obtain ⟨mn, hmn, mn0⟩ : ∃ mn, (bnd ls (Zdr ls ws)).min? = some mn ∧ 0 ≤ mn := by
      cases e : (bnd ls (Zdr ls ws)).min? with
      | none => exact absurd (List.min?_eq_none_iff.mp e) bn
      | some mn => exact ⟨mn, rfl, bp _ (List.min?_eq_some_iff.mp e).1⟩
    have e2 := ZpG (K17.get h16) (K17.get i16) (K17.get q16) (K17.get p16)
    have f17 := K17.get f16
    have q17 := K17.get q16
    have p17 := K17.get p16
    have d17 := K17.get d16
    have h17 := K17.get h16
    have i17 := K17.get i16
    simp! [CD.ZaI, hmn, e2]
    generalize M16 ++ [SO.lst (nts (bnd ls (Zdr ls ws)))] = M17 at *
    have lf17 := Zn f17
    simp! [f17, ZF]
    refine ⟨by have : (hts ls ms).length = ls.length := List.length_map _; omega, ?_⟩
    have hh : oh ≠ oh + 2 ∧ oh + 1 ≠ oh + 2 := by omega
    have od2 : od ≠ oh + 2 := by
      intro z
      rw [z] at d15l
      omega
    have h18 : (M17.set (oh + 2) (SO.lst (rts (hts ls ms) ++ [D.tup [D.int 0, D.int 1]])))[oh]? = some (.lst (prs ls)) := by rw [Ze5 hh.1]; exact h17
    have i18 : (M17.set (oh + 2) (SO.lst (rts (hts ls ms) ++ [D.tup [D.int 0, D.int 1]])))[oh + 1]? = some (.lst (pts ms)) := by rw [Ze5 hh.2]; exact i17
    have d18 : (M17.set (oh + 2) (SO.lst (rts (hts ls ms) ++ [D.tup [D.int 0, D.int 1]])))[od]? = some (.lst (rts (hts ls ms))) := by rw [Ze5 od2]; exact d17
    generalize M17.set (oh + 2) (SO.lst (rts (hts ls ms) ++ [D.tup [D.int 0, D.int 1]])) = M18 at *
    refine CD.Zcy (ms := ms) (k := 100) h18 S Nr' (by omega) i18 nm lm zm (by decide) fun M19 K19 f19 => ?_
    have e3 : eqF 12 M19 (.ref M18.length) (.ref od) = some true := by rw [CU.Zm2 (k := 9) f19 (K19.get d18), decide_eq_true rfl]
    simp! [e3]
    exact hN _ _ _ _ _ _ _ _ _ _ _ _ _ _
theorem law_true (ns : List Int) (h : ns.length ≤ 63) : ∃ M', ZeM [.rol (ns.map D.int)] [] = .ok (.bl true) M' := by
  have w : wO (ZeM [.rol (ns.map D.int)] []) (fun d _ => d = .bl true) (fun _ _ => False) := by
    simp! [ZeM, Znl]
    refine ⟨by omega, ?_⟩
    refine ZdR (fun _ ρ _ => ∃ x1 x2 x3 x4 x5 x6 x7 x8 x9 x10 x11 x12 x13 x14, ρ = [some (.rol (ns.map D.int)), x1, x2, x3, x4, x5, x6, x7, x8, x9, x10, x11, x12, x13, x14]) ⟨_, _, _, _, _, _, _, _, _, _, _, _, _, _, rfl⟩ ?_ ?_
    · rintro i ρ M hi ⟨x1, x2, x3, x4, x5, x6, x7, x8, x9, x10, x11, x12, x13, x14, rfl⟩
      rw [show (0 : Int) + (i : Int) = i by omega]
      simp! [Zo]
      exact ZkC (by omega) fun _ _ _ _ _ _ _ _ _ _ _ _ _ _ => ⟨_, _, _, _, _, _, _, _, _, _, _, _, _, _, rfl⟩
    · rintro ρ M ⟨x1, x2, x3, x4, x5, x6, x7, x8, x9, x10, x11, x12, x13, x14, rfl⟩
      simp! [Zo]
  obtain ⟨d, M', e, rfl⟩ := ZgO w
  exact ⟨M', e⟩
end
end K49
end
set_option Elab.async false
set_option linter.all false
set_option maxRecDepth 100000
set_option maxHeartbeats 4000000
namespace K49
open PySem PySem.Spec L2 DL
abbrev zz1 (P : Params) (s : String) (n : Nat) (v : Value) : DictEntry := { hash := PyData.keyHash P (Str.ofString s), key := Value.str (Str.ofString s) n, val := v }
abbrev zz2 (x : Array Value) : Obj := { cls := Value.type "code", data := Data.fields x }
abbrev zz3 (s : String) (n : Nat) : Value := Value.str (Str.ofString s) n
abbrev zz4 (n : Int) : Value := Value.int n 0
noncomputable def fO (n : Str) (st : Stmt) (cd : Nat) (m : Str) (t : Nat) : Obj := ⟨.type "function", none, .func (PySem.W.fnOf n n (Zq st) (Zm st) (Zg st) .none .none .none (.str m t) none (.ref cd) .none), #[]⟩
noncomputable def Zca (p : Program) (i : Nat) : Stmt := p.main.body.getD i (.Pass ⟨0, 0, 0, 0⟩)
noncomputable def Kf (p : Program) (P : Params) : PySem.W.Frag := [(3, { cls := Value.type "dict", data := Data.dict #[zz1 P "__name__" 165 (zz3 "law_rayround_k49_heights_of_points" 372), zz1 P "__doc__" 166 (Value.none), zz1 P "__package__" 167 (Value.none), zz1 P "__loader__" 168 (Value.builtin "__main__.__loader__#opaque"), zz1 P "__spec__" 169 (Value.none), zz1 P "__annotations__" 170 (Value.ref 6), zz1 P "__builtins__" 171 (Value.ref 4), zz1 P "__file__" 173 (zz3 "/claim/cut.py" 172), zz1 P "__cached__" 174 (Value.none), zz1 P "RayError" 206 (Value.ref 24), zz1 P "NoRatio" 222 (Value.ref 37), zz1 P "NotSmooth" 238 (Value.ref 49), zz1 P "is_whole" 247 (Value.ref 58), zz1 P "greatest_divisor" 257 (Value.ref 65), zz1 P "crossed" 267 (Value.ref 72), zz1 P "following" 277 (Value.ref 79), zz1 P "unspanned" 286 (Value.ref 86), zz1 P "ask_smooth" 294 (Value.ref 93), zz1 P "ratio" 305 (Value.ref 100), zz1 P "plus" 313 (Value.ref 107), zz1 P "minus" 321 (Value.ref 114), zz1 P "times" 329 (Value.ref 121), zz1 P "less" 337 (Value.ref 128), zz1 P "greatest" 346 (Value.ref 135), zz1 P "sloped" 356 (Value.ref 142), zz1 P "contrary" 365 (Value.ref 149), zz1 P "height_of" 371 (Value.ref 154), zz1 P "_law_purse" 383 (Value.ref 161), zz1 P "_law_take" 392 (Value.ref 168), zz1 P "_law_short_put" 401 (Value.ref 175), zz1 P "_law_base" 407 (Value.ref 180), zz1 P "_law_table" 413 (Value.ref 185), zz1 P "_law_spun" 419 (Value.ref 190), zz1 P "_law_ratio" 429 (Value.ref 197), zz1 P "_law_hull" 435 (Value.ref 202), zz1 P "_law_bends" 449 (Value.ref 209), zz1 P "law" 455 (Value.ref 214)] 37 }),
  (58, fO "is_whole" (Zca p 5) 57 "rayround.wholes" 239),
  (57, zz2 #[zz3 "is_whole" 241, zz3 "is_whole" 242, zz3 "/claim/cut.py" 243, zz4 9, zz4 1, zz4 0, zz4 0, zz4 3, Value.ref 52, Value.bool true, zz4 181, Value.ref 53, Value.none, Value.ref 54, Value.ref 55, Value.ref 56, zz4 245, zz4 9, zz3 "/claim/cut.py" 246]),
  (65, fO "greatest_divisor" (Zca p 6) 64 "rayround.wholes" 239),
  (64, zz2 #[zz3 "greatest_divisor" 248, zz3 "greatest_divisor" 249, zz3 "/claim/cut.py" 250, zz4 11, zz4 2, zz4 0, zz4 0, zz4 3, Value.ref 59, Value.bool true, zz4 181, Value.ref 60, Value.none, Value.ref 61, Value.ref 62, Value.ref 63, zz4 255, zz4 11, zz3 "/claim/cut.py" 256]),
  (72, fO "crossed" (Zca p 8) 71 "rayround.pairs" 258),
  (71, zz2 #[zz3 "crossed" 260, zz3 "crossed" 261, zz3 "/claim/cut.py" 262, zz4 17, zz4 2, zz4 0, zz4 0, zz4 3, Value.ref 66, Value.bool true, zz4 181, Value.ref 67, Value.none, Value.ref 68, Value.ref 69, Value.ref 70, zz4 265, zz4 17, zz3 "/claim/cut.py" 266]),
  (79, fO "following" (Zca p 10) 78 "rayround.rounds" 268),
  (78, zz2 #[zz3 "following" 270, zz3 "following" 271, zz3 "/claim/cut.py" 272, zz4 20, zz4 2, zz4 0, zz4 0, zz4 3, Value.ref 73, Value.bool true, zz4 181, Value.ref 74, Value.none, Value.ref 75, Value.ref 76, Value.ref 77, zz4 275, zz4 20, zz3 "/claim/cut.py" 276]),
  (86, fO "unspanned" (Zca p 11) 85 "rayround.rounds" 268),
  (85, zz2 #[zz3 "unspanned" 278, zz3 "unspanned" 279, zz3 "/claim/cut.py" 280, zz4 22, zz4 1, zz4 0, zz4 0, zz4 3, Value.ref 80, Value.bool true, zz4 181, Value.ref 81, Value.none, Value.ref 82, Value.ref 83, Value.ref 84, zz4 284, zz4 22, zz3 "/claim/cut.py" 285]),
  (93, fO "ask_smooth" (Zca p 12) 92 "rayround.rounds" 268),
  (92, zz2 #[zz3 "ask_smooth" 287, zz3 "ask_smooth" 288, zz3 "/claim/cut.py" 289, zz4 27, zz4 1, zz4 0, zz4 0, zz4 3, Value.ref 87, Value.bool true, zz4 181, Value.ref 88, Value.none, Value.ref 89, Value.ref 90, Value.ref 91, zz4 292, zz4 27, zz3 "/claim/cut.py" 293]),
  (100, fO "ratio" (Zca p 14) 99 "rayround.ratios" 295),
  (99, zz2 #[zz3 "ratio" 297, zz3 "ratio" 298, zz3 "/claim/cut.py" 299, zz4 32, zz4 2, zz4 0, zz4 0, zz4 3, Value.ref 94, Value.bool true, zz4 181, Value.ref 95, Value.none, Value.ref 96, Value.ref 97, Value.ref 98, zz4 303, zz4 32, zz3 "/claim/cut.py" 304]),
  (107, fO "plus" (Zca p 15) 106 "rayround.ratios" 295),
  (106, zz2 #[zz3 "plus" 306, zz3 "plus" 307, zz3 "/claim/cut.py" 308, zz4 41, zz4 2, zz4 0, zz4 0, zz4 3, Value.ref 101, Value.bool true, zz4 181, Value.ref 102, Value.none, Value.ref 103, Value.ref 104, Value.ref 105, zz4 311, zz4 41, zz3 "/claim/cut.py" 312]),
  (114, fO "minus" (Zca p 16) 113 "rayround.ratios" 295),
  (113, zz2 #[zz3 "minus" 314, zz3 "minus" 315, zz3 "/claim/cut.py" 316, zz4 43, zz4 2, zz4 0, zz4 0, zz4 3, Value.ref 108, Value.bool true, zz4 181, Value.ref 109, Value.none, Value.ref 110, Value.ref 111, Value.ref 112, zz4 319, zz4 43, zz3 "/claim/cut.py" 320]),
  (121, fO "times" (Zca p 17) 120 "rayround.ratios" 295),
  (120, zz2 #[zz3 "times" 322, zz3 "times" 323, zz3 "/claim/cut.py" 324, zz4 45, zz4 2, zz4 0, zz4 0, zz4 3, Value.ref 115, Value.bool true, zz4 181, Value.ref 116, Value.none, Value.ref 117, Value.ref 118, Value.ref 119, zz4 327, zz4 45, zz3 "/claim/cut.py" 328]),
  (128, fO "less" (Zca p 18) 127 "rayround.ratios" 295),
  (127, zz2 #[zz3 "less" 330, zz3 "less" 331, zz3 "/claim/cut.py" 332, zz4 47, zz4 2, zz4 0, zz4 0, zz4 3, Value.ref 122, Value.bool true, zz4 181, Value.ref 123, Value.none, Value.ref 124, Value.ref 125, Value.ref 126, zz4 335, zz4 47, zz3 "/claim/cut.py" 336]),
  (135, fO "greatest" (Zca p 19) 134 "rayround.ratios" 295),
  (134, zz2 #[zz3 "greatest" 338, zz3 "greatest" 339, zz3 "/claim/cut.py" 340, zz4 49, zz4 1, zz4 0, zz4 0, zz4 3, Value.ref 129, Value.bool true, zz4 181, Value.ref 130, Value.none, Value.ref 131, Value.ref 132, Value.ref 133, zz4 344, zz4 49, zz3 "/claim/cut.py" 345]),
  (142, fO "sloped" (Zca p 21) 141 "rayround.heights" 347),
  (141, zz2 #[zz3 "sloped" 349, zz3 "sloped" 350, zz3 "/claim/cut.py" 351, zz4 56, zz4 2, zz4 0, zz4 0, zz4 3, Value.ref 136, Value.bool true, zz4 181, Value.ref 137, Value.none, Value.ref 138, Value.ref 139, Value.ref 140, zz4 354, zz4 56, zz3 "/claim/cut.py" 355]),
  (149, fO "contrary" (Zca p 23) 148 "rayround.corners" 357),
  (148, zz2 #[zz3 "contrary" 359, zz3 "contrary" 360, zz3 "/claim/cut.py" 361, zz4 59, zz4 1, zz4 0, zz4 0, zz4 3, Value.ref 143, Value.bool true, zz4 181, Value.ref 144, Value.none, Value.ref 145, Value.ref 146, Value.ref 147, zz4 363, zz4 59, zz3 "/claim/cut.py" 364]),
  (154, fO "height_of" (Zca p 24) 153 "rayround.corners" 357),
  (153, zz2 #[zz3 "height_of" 366, zz3 "height_of" 367, zz3 "/claim/cut.py" 368, zz4 61, zz4 2, zz4 0, zz4 0, zz4 3, Value.ref 150, Value.bool true, zz4 181, Value.ref 151, Value.none, Value.none, Value.none, Value.ref 152, zz4 369, zz4 61, zz3 "/claim/cut.py" 370]),
  (161, fO "_law_purse" (Zca p 26) 160 "law_rayround_k49_heights_of_points" 372),
  (160, zz2 #[zz3 "_law_purse" 374, zz3 "_law_purse" 375, zz3 "/claim/cut.py" 376, zz4 65, zz4 2, zz4 0, zz4 0, zz4 3, Value.ref 155, Value.bool true, zz4 181, Value.ref 156, Value.none, Value.ref 157, Value.ref 158, Value.ref 159, zz4 381, zz4 65, zz3 "/claim/cut.py" 382]),
  (168, fO "_law_take" (Zca p 27) 167 "law_rayround_k49_heights_of_points" 372),
  (167, zz2 #[zz3 "_law_take" 384, zz3 "_law_take" 385, zz3 "/claim/cut.py" 386, zz4 71, zz4 2, zz4 0, zz4 0, zz4 3, Value.ref 162, Value.bool true, zz4 181, Value.ref 163, Value.none, Value.ref 164, Value.ref 165, Value.ref 166, zz4 390, zz4 71, zz3 "/claim/cut.py" 391]),
  (175, fO "_law_short_put" (Zca p 28) 174 "law_rayround_k49_heights_of_points" 372),
  (174, zz2 #[zz3 "_law_short_put" 393, zz3 "_law_short_put" 394, zz3 "/claim/cut.py" 395, zz4 78, zz4 2, zz4 0, zz4 0, zz4 3, Value.ref 169, Value.bool true, zz4 181, Value.ref 170, Value.none, Value.ref 171, Value.ref 172, Value.ref 173, zz4 399, zz4 78, zz3 "/claim/cut.py" 400]),
  (180, fO "_law_base" (Zca p 29) 179 "law_rayround_k49_heights_of_points" 372),
  (179, zz2 #[zz3 "_law_base" 402, zz3 "_law_base" 403, zz3 "/claim/cut.py" 404, zz4 81, zz4 2, zz4 0, zz4 0, zz4 3, Value.ref 176, Value.bool true, zz4 181, Value.ref 177, Value.none, Value.none, Value.none, Value.ref 178, zz4 405, zz4 81, zz3 "/claim/cut.py" 406]),
  (185, fO "_law_table" (Zca p 30) 184 "law_rayround_k49_heights_of_points" 372),
  (184, zz2 #[zz3 "_law_table" 408, zz3 "_law_table" 409, zz3 "/claim/cut.py" 410, zz4 90, zz4 1, zz4 0, zz4 0, zz4 3, Value.ref 181, Value.bool true, zz4 181, Value.ref 182, Value.none, Value.none, Value.none, Value.ref 183, zz4 411, zz4 90, zz3 "/claim/cut.py" 412]),
  (190, fO "_law_spun" (Zca p 31) 189 "law_rayround_k49_heights_of_points" 372),
  (189, zz2 #[zz3 "_law_spun" 414, zz3 "_law_spun" 415, zz3 "/claim/cut.py" 416, zz4 103, zz4 4, zz4 0, zz4 0, zz4 3, Value.ref 186, Value.bool true, zz4 181, Value.ref 187, Value.none, Value.none, Value.none, Value.ref 188, zz4 417, zz4 103, zz3 "/claim/cut.py" 418]),
  (197, fO "_law_ratio" (Zca p 32) 196 "law_rayround_k49_heights_of_points" 372),
  (196, zz2 #[zz3 "_law_ratio" 420, zz3 "_law_ratio" 421, zz3 "/claim/cut.py" 422, zz4 109, zz4 2, zz4 0, zz4 0, zz4 3, Value.ref 191, Value.bool true, zz4 181, Value.ref 192, Value.none, Value.ref 193, Value.ref 194, Value.ref 195, zz4 427, zz4 109, zz3 "/claim/cut.py" 428]),
  (202, fO "_law_hull" (Zca p 33) 201 "law_rayround_k49_heights_of_points" 372),
  (201, zz2 #[zz3 "_law_hull" 430, zz3 "_law_hull" 431, zz3 "/claim/cut.py" 432, zz4 114, zz4 2, zz4 0, zz4 0, zz4 3, Value.ref 198, Value.bool true, zz4 181, Value.ref 199, Value.none, Value.none, Value.none, Value.ref 200, zz4 433, zz4 114, zz3 "/claim/cut.py" 434]),
  (209, fO "_law_bends" (Zca p 34) 208 "law_rayround_k49_heights_of_points" 372),
  (208, zz2 #[zz3 "_law_bends" 436, zz3 "_law_bends" 437, zz3 "/claim/cut.py" 438, zz4 116, zz4 2, zz4 0, zz4 0, zz4 3, Value.ref 203, Value.bool true, zz4 181, Value.ref 204, Value.none, Value.ref 205, Value.ref 206, Value.ref 207, zz4 447, zz4 116, zz3 "/claim/cut.py" 448]),
  (214, fO "law" (Zca p 35) 213 "law_rayround_k49_heights_of_points" 372),
  (213, zz2 #[zz3 "law" 450, zz3 "law" 451, zz3 "/claim/cut.py" 452, zz4 124, zz4 1, zz4 0, zz4 0, zz4 3, Value.ref 210, Value.bool true, zz4 181, Value.ref 211, Value.none, Value.none, Value.none, Value.ref 212, zz4 453, zz4 124, zz3 "/claim/cut.py" 454]),
  (23, { cls := Value.type "dict", data := Data.dict #[zz1 P "__module__" 196 (zz3 "rayround.errors" 187), zz1 P "__firstlineno__" 200 (Value.int 2 199), zz1 P "__static_attributes__" 201 (Value.ref 22), zz1 P "__weakref__" 203 (Value.ref 25), zz1 P "__doc__" 204 (Value.none)] 3 }),
  (24, { cls := Value.type "type", data := Data.cls { name := Str.ofString "RayError", bases := [Value.type "ValueError"], mro := [Value.ref 24, Value.type "ValueError", Value.type "Exception", Value.type "BaseException", Value.type "object"], ns := 23, qualname := Str.ofString "RayError", subclasses := [Value.ref 37, Value.ref 49] }, slots := #[some (Value.ref 15), none, some (zz3 "RayError" 189), some (zz3 "RayError" 197), some (Value.builtin "ValueError.__new__"), some (Value.bool true)] }),
  (36, { cls := Value.type "dict", data := Data.dict #[zz1 P "__module__" 214 (zz3 "rayround.errors" 187), zz1 P "__firstlineno__" 218 (Value.int 4 217), zz1 P "__static_attributes__" 219 (Value.ref 35), zz1 P "__doc__" 220 (Value.none)] 2 }),
  (37, { cls := Value.type "type", data := Data.cls { name := Str.ofString "NoRatio", bases := [Value.ref 24], mro := [Value.ref 37, Value.ref 24, Value.type "ValueError", Value.type "Exception", Value.type "BaseException", Value.type "object"], ns := 36, qualname := Str.ofString "NoRatio" }, slots := #[some (Value.ref 28), none, some (zz3 "NoRatio" 207), some (zz3 "NoRatio" 215), some (Value.builtin "ValueError.__new__"), some (Value.bool true)] }),
  (48, { cls := Value.type "dict", data := Data.dict #[zz1 P "__module__" 230 (zz3 "rayround.errors" 187), zz1 P "__firstlineno__" 234 (Value.int 6 233), zz1 P "__static_attributes__" 235 (Value.ref 47), zz1 P "__doc__" 236 (Value.none)] 2 }),
  (49, { cls := Value.type "type", data := Data.cls { name := Str.ofString "NotSmooth", bases := [Value.ref 24], mro := [Value.ref 49, Value.ref 24, Value.type "ValueError", Value.type "Exception", Value.type "BaseException", Value.type "object"], ns := 48, qualname := Str.ofString "NotSmooth" }, slots := #[some (Value.ref 40), none, some (zz3 "NotSmooth" 223), some (zz3 "NotSmooth" 231), some (Value.builtin "ValueError.__new__"), some (Value.bool true)] })]
noncomputable def asK : List Addr := [3, 58, 57, 65, 64, 72, 71, 79, 78, 86, 85, 93, 92, 100, 99, 107, 106, 114, 113, 121, 120, 128, 127, 135, 134, 142, 141, 149, 148, 154, 153, 161, 160, 168, 167, 175, 174, 180, 179, 185, 184, 190, 189, 197, 196, 202, 201, 209, 208, 214, 213, 23, 24, 36, 37, 48, 49]
theorem Znw (p : Program) (P : Params) : asK = (Kf p P).map (·.1) := rfl
noncomputable def qf (p : Program) : Program := { p with main := { p.main with body := [Zca p 35] } }
noncomputable def lo : List Str := [("__name__" : Str), ("RayError" : Str), ("NoRatio" : Str), ("NotSmooth" : Str), ("is_whole" : Str), ("greatest_divisor" : Str), ("crossed" : Str), ("following" : Str), ("unspanned" : Str), ("ask_smooth" : Str), ("ratio" : Str), ("plus" : Str), ("minus" : Str), ("times" : Str), ("less" : Str), ("greatest" : Str), ("sloped" : Str), ("contrary" : Str), ("height_of" : Str), ("_law_purse" : Str), ("_law_take" : Str), ("_law_short_put" : Str), ("_law_base" : Str), ("_law_table" : Str), ("_law_spun" : Str), ("_law_ratio" : Str), ("_law_hull" : Str), ("_law_bends" : Str)]
theorem Zr3 {l : PySem.W.OpenLaw} {q : Program} {loose : List Str} {XP : (Str → Option Value) → Heap → Prop} {YP : World → Heap → Prop} {d : DefRec} {K : Params → PySem.W.Frag} (hn : l.most = some 63) (hdf : d.params.defaults = [])
    (hY : ∀ (w : World) (h : Heap), YP w h → (K w.params).In h)
    (F : ∀ (w : World) (mg : Str → Option Value) (fa : Addr) (h : Heap), (K w.params).In h → h.Ns mainGlobals mg → mg d.name = some (.ref fa) →
      ∃ fd : FuncData, (∀ (s : Shared) (u : Value), BindsTo s fd ⟨[u], []⟩ [("_law_script", u)]) ∧ ∀ base : Heap, (K w.params).In base → base.Ns mainGlobals mg → FnOk l.prog w (K w.params) mg base (CXE l.prog w) 106 fa fd ["_law_script"] (spD (K w.params) ZeM)) :
    PySem.W.WalkO q loose XP YP l.row.toRowW d [] (fun f vs => PySem.call f vs) :=
  L2.Zjq (n := 63) (k := 106) (x := "_law_script") (CX := fun w => CXE l.prog w) (sp := fun w => spD (K w.params) ZeM) hn (by decide) hdf ⟨fun _ => rfl, by decide, by decide⟩ hY F (fun _ _ a ns hl hO hS => DL.Zly hl hO hS (law_true ns hl)) fun _ _ _ _ _ ⟨_, _, _, _, _, _, _, _, _, _, _, _, _, q⟩ => q
end K49
open PySem PySem.W PyProof.Rows
lay_quick PySem.Challenge.pw_rayround_k49_heights_of_points
namespace K49
noncomputable abbrev Hk : Hook := kHook (Kf PySem.Challenge.pw_rayround_k49_heights_of_points) asK (Znw PySem.Challenge.pw_rayround_k49_heights_of_points)
noncomputable def Xs (s : Shared) : Bool := xlAt (qf PySem.Challenge.pw_rayround_k49_heights_of_points) [] s && recOk (RowW.records (OpenRow.toRowW (OpenLaw.row PySem.Challenge.rw_rayround_k49_heights_of_points))) s
set_option maxRecDepth 1000000 in
set_option maxHeartbeats 0 in
theorem Zoc (w : World) (os : OsState) : (HD.ZnD through (HD.Zh4 (stepOk 11 (some (.ref 6))) (stepT (denote treeTable) PySem.Challenge.pw_rayround_k49_heights_of_points w)) 1468 (HD.T0 w os) (topStub PySem.Challenge.pw_rayround_k49_heights_of_points)).map (fun s => ((staticsOk (importedModules PySem.Challenge.pw_rayround_k49_heights_of_points.main.body) (boot_heap w.params) s.abs.heap && namesBound PySem.Challenge.pw_rayround_k49_heights_of_points s.abs.heap && gensDone s.abs && laidKept (boot_heap w.params) s.abs.heap),
    openSeen (qf PySem.Challenge.pw_rayround_k49_heights_of_points) lo (importedModules PySem.Challenge.pw_rayround_k49_heights_of_points.main.body) (fun s => xlAt (qf PySem.Challenge.pw_rayround_k49_heights_of_points) [] s && recOk [] s) true s.abs, asK.map s.abs.heap.get?)) = some (true, openGood (qf PySem.Challenge.pw_rayround_k49_heights_of_points) lo, (Kf PySem.Challenge.pw_rayround_k49_heights_of_points w.params).map fun x => some x.2) := by
  rw [HD.Zod, HD.ZjN, HD.ZlN, HD.ZlO, HD.ZjO, HD.ZlP, PySem.W.Fast.te16109547985324817724]
  kernel_rfl
end K49
set_option maxRecDepth 1000000 in
set_option maxHeartbeats 0 in
theorem PySem.Challenge.cw_rayround_k49_heights_of_points_holds : PySem.Challenge.rw_rayround_k49_heights_of_points.Holds := by
  w_on; o_law
  refine holds_open (q := K49.qf PySem.Challenge.pw_rayround_k49_heights_of_points) (loose := K49.lo) (Xt := fun s => xlAt (K49.qf PySem.Challenge.pw_rayround_k49_heights_of_points) [] s && recOk [] s) (XP := XL (K49.qf PySem.Challenge.pw_rayround_k49_heights_of_points) []) (Yf := Hook.obs K49.Hk) (Ya := Hook.val K49.Hk) (YP := Hook.says K49.Hk) (N := 2068) ?hl (Hook.of K49.Hk) (Hook.keeps K49.Hk) (fun s e => xl_of s (Bool.and_eq_true_iff.mp e).1) XL.keeps (by rfl) (by rfl) (by rfl) (fun s e => recFacts_of (Bool.and_eq_true_iff.mp e).2) (by rfl) (by first | assumption | decide +kernel) (by decide +kernel) ⟨rfl, rfl, rfl, rfl, rfl, by decide +kernel⟩ ?hw ?hc
  case hl => exact HD.ZgN rfl (by decide) (fun s => rfl) (by decide) K49.Zoc
  case hw => w_witness2
  case hc =>
    refine K49.Zr3 (l := PySem.Challenge.rw_rayround_k49_heights_of_points) rfl rfl (fun w h Y => PySem.W.kIn_of Y) ?F
    intro w mg fa h KX G hmg
    refine K49.Znn (f1 := 58) (od1 := none) (an1 := none) (sl1 := #[]) (oc1 := .type "function") (kV1 := .none) (dc1 := .none) (pm1 := .str "rayround.wholes" 239) (cd1 := .ref 57) (ct1 := .none) (f2 := 65) (od2 := none) (an2 := none) (sl2 := #[]) (oc2 := .type "function") (kV2 := .none) (dc2 := .none) (pm2 := .str "rayround.wholes" 239) (cd2 := .ref 64) (ct2 := .none) (f3 := 72) (od3 := none) (an3 := none) (sl3 := #[]) (oc3 := .type "function") (kV3 := .none) (dc3 := .none) (pm3 := .str "rayround.pairs" 258) (cd3 := .ref 71) (ct3 := .none) (f4 := 79) (od4 := none) (an4 := none) (sl4 := #[]) (oc4 := .type "function") (kV4 := .none) (dc4 := .none) (pm4 := .str "rayround.rounds" 268) (cd4 := .ref 78) (ct4 := .none) (f5 := 86) (od5 := none) (an5 := none) (sl5 := #[]) (oc5 := .type "function") (kV5 := .none) (dc5 := .none) (pm5 := .str "rayround.rounds" 268) (cd5 := .ref 85) (ct5 := .none) (f6 := 93) (od6 := none) (an6 := none) (sl6 := #[]) (oc6 := .type "function") (kV6 := .none) (dc6 := .none) (pm6 := .str "rayround.rounds" 268) (cd6 := .ref 92) (ct6 := .none) (f7 := 100) (od7 := none) (an7 := none) (sl7 := #[]) (oc7 := .type "function") (kV7 := .none) (dc7 := .none) (pm7 := .str "rayround.ratios" 295) (cd7 := .ref 99) (ct7 := .none) (f8 := 107) (od8 := none) (an8 := none) (sl8 := #[]) (oc8 := .type "function") (kV8 := .none) (dc8 := .none) (pm8 := .str "rayround.ratios" 295) (cd8 := .ref 106) (ct8 := .none) (f9 := 114) (od9 := none) (an9 := none) (sl9 := #[]) (oc9 := .type "function") (kV9 := .none) (dc9 := .none) (pm9 := .str "rayround.ratios" 295) (cd9 := .ref 113) (ct9 := .none) (f10 := 121) (od10 := none) (an10 := none) (sl10 := #[]) (oc10 := .type "function") (kV10 := .none) (dc10 := .none) (pm10 := .str "rayround.ratios" 295) (cd10 := .ref 120) (ct10 := .none) (f11 := 128) (od11 := none) (an11 := none) (sl11 := #[]) (oc11 := .type "function") (kV11 := .none) (dc11 := .none) (pm11 := .str "rayround.ratios" 295) (cd11 := .ref 127) (ct11 := .none) (f12 := 135) (od12 := none) (an12 := none) (sl12 := #[]) (oc12 := .type "function") (kV12 := .none) (dc12 := .none) (pm12 := .str "rayround.ratios" 295) (cd12 := .ref 134) (ct12 := .none) (f13 := 142) (od13 := none) (an13 := none) (sl13 := #[]) (oc13 := .type "function") (kV13 := .none) (dc13 := .none) (pm13 := .str "rayround.heights" 347) (cd13 := .ref 141) (ct13 := .none) (f14 := 149) (od14 := none) (an14 := none) (sl14 := #[]) (oc14 := .type "function") (kV14 := .none) (dc14 := .none) (pm14 := .str "rayround.corners" 357) (cd14 := .ref 148) (ct14 := .none) (f15 := 154) (od15 := none) (an15 := none) (sl15 := #[]) (oc15 := .type "function") (kV15 := .none) (dc15 := .none) (pm15 := .str "rayround.corners" 357) (cd15 := .ref 153) (ct15 := .none) (f16 := 161) (od16 := none) (an16 := none) (sl16 := #[]) (oc16 := .type "function") (kV16 := .none) (dc16 := .none) (pm16 := .str "law_rayround_k49_heights_of_points" 372) (cd16 := .ref 160) (ct16 := .none) (f17 := 168) (od17 := none) (an17 := none) (sl17 := #[]) (oc17 := .type "function") (kV17 := .none) (dc17 := .none) (pm17 := .str "law_rayround_k49_heights_of_points" 372) (cd17 := .ref 167) (ct17 := .none) (f18 := 175) (od18 := none) (an18 := none) (sl18 := #[]) (oc18 := .type "function") (kV18 := .none) (dc18 := .none) (pm18 := .str "law_rayround_k49_heights_of_points" 372) (cd18 := .ref 174) (ct18 := .none) (f19 := 180) (od19 := none) (an19 := none) (sl19 := #[]) (oc19 := .type "function") (kV19 := .none) (dc19 := .none) (pm19 := .str "law_rayround_k49_heights_of_points" 372) (cd19 := .ref 179) (ct19 := .none) (f20 := 185) (od20 := none) (an20 := none) (sl20 := #[]) (oc20 := .type "function") (kV20 := .none) (dc20 := .none) (pm20 := .str "law_rayround_k49_heights_of_points" 372) (cd20 := .ref 184) (ct20 := .none) (f21 := 190) (od21 := none) (an21 := none) (sl21 := #[]) (oc21 := .type "function") (kV21 := .none) (dc21 := .none) (pm21 := .str "law_rayround_k49_heights_of_points" 372) (cd21 := .ref 189) (ct21 := .none) (f22 := 197) (od22 := none) (an22 := none) (sl22 := #[]) (oc22 := .type "function") (kV22 := .none) (dc22 := .none) (pm22 := .str "law_rayround_k49_heights_of_points" 372) (cd22 := .ref 196) (ct22 := .none) (f23 := 202) (od23 := none) (an23 := none) (sl23 := #[]) (oc23 := .type "function") (kV23 := .none) (dc23 := .none) (pm23 := .str "law_rayround_k49_heights_of_points" 372) (cd23 := .ref 201) (ct23 := .none) (f24 := 209) (od24 := none) (an24 := none) (sl24 := #[]) (oc24 := .type "function") (kV24 := .none) (dc24 := .none) (pm24 := .str "law_rayround_k49_heights_of_points" 372) (cd24 := .ref 208) (ct24 := .none) (f25 := 214) (od25 := none) (an25 := none) (sl25 := #[]) (oc25 := .type "function") (kV25 := .none) (dc25 := .none) (pm25 := .str "law_rayround_k49_heights_of_points" 372) (cd25 := .ref 213) (ct25 := .none) KX G hmg ?a1 ?l1 ?c1 ?k1 ?a2 ?l2 ?c2 ?k2 ?a3 ?l3 ?c3 ?k3 ?a4 ?l4 ?c4 ?k4 ?a5 ?l5 ?c5 ?k5 ?a6 ?l6 ?c6 ?k6 ?a7 ?l7 ?c7 ?k7 ?a8 ?l8 ?c8 ?k8 ?a9 ?l9 ?c9 ?k9 ?a10 ?l10 ?c10 ?k10 ?a11 ?l11 ?c11 ?k11 ?a12 ?l12 ?c12 ?k12 ?a13 ?l13 ?c13 ?k13 ?a14 ?l14 ?c14 ?k14 ?a15 ?l15 ?c15 ?k15 ?a16 ?l16 ?c16 ?k16 ?a17 ?l17 ?c17 ?k17 ?a18 ?l18 ?c18 ?k18 ?a19 ?l19 ?c19 ?k19 ?a20 ?l20 ?c20 ?k20 ?a21 ?l21 ?c21 ?k21 ?a22 ?l22 ?c22 ?k22 ?a23 ?l23 ?c23 ?k23 ?a24 ?l24 ?c24 ?k24 ?a25 ?l25 ?c25 ?k25 ?z_isinstance ?z_int ?z_bool ?z_abs ?z_len ?z_enumerate ?z_range ?z_max ?z_zip ?z_list ?z_reversed ?z_min ?q_ex_NotSmooth ?q_ex_NoRatio
    all_goals kernel_rfl
