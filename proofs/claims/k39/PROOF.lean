import PyProof.Rows.All
import Wide.All
import OpenK.AllK
import Wide.FinOn
import Lean
import PyProof.EqAt
import PyProof.EqKinds
import PyProof.TupleCall
import PySem.Challenge.RW_rayround_k39_bends
section
set_option Elab.async false
set_option linter.all false
set_option maxRecDepth 100000
namespace DQ
open PySem PySem.Spec PyProof.Rows
noncomputable def Zcq (A : Around) (h : Heap) : Prop := A.handled = none ∨ ∃ ea oe vs, A.handled = some (.ref ea) ∧ h.get? ea = some oe ∧ oe.data = .fields vs ∧ vs[2]? = some .none
theorem Zcq.keeps {A : Around} {h h' : Heap} (q : Zcq A h) (k : ∀ b o, h.get? b = some o → h'.get? b = some o) : Zcq A h' := by
  rcases q with q | ⟨ea, oe, vs, e1, e2, e3, e4⟩
  · exact .inl q
  · exact .inr ⟨ea, oe, vs, e1, k _ _ e2, e3, e4⟩
theorem Zee : entryFor table "proto.unchain" = some Builtin.«proto.unchain» := entryFor_of_fast (by kernel_rfl)
section
variable {prog : Program} {w : World} {A : Around} {E : Value → Shared → Prop} {s : Shared}
theorem ZfB {α : Type} {Q : α → Shared → Prop} {e : Addr} {oe : Obj} {vs : Array Value} (q : Zcq A s.heap) (he : s.heap.get? e = some oe) (hd : oe.data = .fields vs) (hz : 2 < vs.size)
    (h : ∀ h', (∀ b o, b ≠ e → s.heap.get? b = some o → h'.get? b = some o) → (∃ o, h'.get? e = some o ∧ o.cls = oe.cls) → E (.ref e) { s with heap := h' }) : wpAny (model prog w) A (raiseNew (.ref e) : Sem α) Q E s := by
  have same : E (.ref e) s := h s.heap (fun _ _ _ x => x) ⟨oe, he, rfl⟩
  unfold raiseNew
  refine wpAny_bind (wpAny_handled ?_)
  rcases q with q | ⟨ea, oa, ws, q1, q2, q3, q4⟩
  · rw [q]
    exact wpAny_bind (wpAny_pure (wpAny_throw same))
  · rw [q1]
    dsimp only
    by_cases c : (Value.ref ea != Value.ref e) = true
    · rw [if_pos c]
      refine wpAny_bind (wpAny_holding (wpAny_runValue (codeAny_builtin Zee ?_)))
      unfold Builtin.«proto.unchain»
      refine wpAny_bind (wpAny_field q2 q3 q4 ?_)
      refine wpAny_bind (wpAny_pure ?_)
      have sf : wpAny (model prog w) A (setField (.ref e) 2 (.ref ea)) (fun _ s' => wpAny (model prog w) A (throw (Value.ref e) : Sem α) Q E s') E s := by
        refine wpAny_setField he hd hz (wpAny_throw (h _ (fun b o hb x => ?_) ⟨_, Heap.get?_update_self _ he (Obj.isFreed_of_fields (Obj.data_mapFields hd _)), Obj.cls_mapFields _ _⟩))
        rw [Heap.get?_update_other _ _ (Ne.symm hb)]
        exact x
      exact wpAny_pure (wpAny_bind sf)
    · rw [if_neg c]
      exact wpAny_throw same
theorem Zc7 {α : Type} {Q : α → Shared → Prop} (q : Zcq A s.heap)
    (h : ∀ h' e, (∀ b o, s.heap.get? b = some o → h'.get? b = some o) → (∃ o, h'.get? e = some o ∧ o.cls = .type "StopIteration") → E (.ref e) { s with heap := h' }) :
    wpAny (model prog w) A (newExc (.type "StopIteration") [] >>= fun x => (raiseNew x : Sem α)) Q E s := by
  refine wpAny_bind ?_
  simp only [newExc, newTuple]
  refine wpAny_bind (wpAny_newObj_type ?_ (by size_fits))
  refine wpAny_bind (m := firstArgMember _ _) (wpAny_of_eq (a := Value.none) (by first | rfl | (simp only [firstArgMember]; rfl)) ?_)
  refine wpAny_newObj_type ?_ (by size_fits)
  refine ZfB (q.keeps fun b o x => Heap.get?_push_of_some _ (Heap.get?_push_of_some _ x)) (Heap.get?_push_size _ rfl) rfl (by rw [Array.size_append]; exact Nat.lt_of_lt_of_le (by decide : 2 < 6) (Nat.le_add_right _ _)) fun h' k he => ?_
  exact h h' _ (fun b o x => k b o (Nat.ne_of_lt (Nat.lt_of_lt_of_le (Heap.lt_size x) (by rw [Heap.size_push]; exact Nat.le_succ _))) (Heap.get?_push_of_some _ (Heap.get?_push_of_some _ x))) he
theorem Zkt {e : Addr} {Q : Bool → Shared → Prop} (he : ∃ o, s.heap.get? e = some o ∧ o.cls = .type "StopIteration") (h : Q true s) : wpAny (model prog w) A (isInstance (.ref e) (.type "StopIteration")) Q E s :=
  let ⟨o, e1, e2⟩ := he
  wpAny_isInstance (T := "StopIteration") (b := true) ⟨o, e1, e2⟩ isSubtype_stop h
theorem Zcq.in1 {h : Heap} (q : Zcq A h) : Zcq A.in1 h := q
noncomputable def Zhh (it : Addr) (s : Shared) (e : Value) (s' : Shared) : Prop := ∃ a, e = .ref a ∧ (∃ o, s'.heap.get? a = some o ∧ o.cls = .type "StopIteration") ∧ ∃ h', Heap.ExtBut it s.heap h' ∧ s' = { s with heap := h' }
theorem Zhi {it : Addr} {T id : String} {b : Builtin} {Q : Option Value → Shared → Prop} (hT : s.TypeIs (.ref it) T) (sl : Slot T (Str.ofString "__next__") id) (hb : entryFor table id = some b) (ha : argsOk id ⟨[.ref it], []⟩)
    (h : wpAny (model prog w) A.in1 (b ⟨[.ref it], []⟩) (fun _ _ => False) (Zhh it s) s) (hQ : ∀ h', Heap.ExtBut it s.heap h' → Q none { s with heap := h' }) : wpAny (model prog w) A (pyNext (.ref it)) Q E s := by
  unfold pyNext
  refine wpAny_bind (wpAny_attempt (wpAny_callSpecial?_slot (name := Str.ofString "__next__") hT sl (wpAny_call_entry sl hT hb (wpAny_mono h (fun _ _ z => z.elim) fun e s' z => ?_) ha)))
  obtain ⟨a, rfl, ho, h', eb, rfl⟩ := z
  exact wpAny_bind (Zkt ho (wpAny_pure (hQ h' eb)))
theorem Zhj {it : Addr} {x left step : Int} {Q : Option Value → Shared → Prop} (q : Zcq A s.heap) (hit : IsRangeIter s.heap it x left step) (hl : left ≤ 0)
    (hQ : ∀ h', Heap.ExtBut it s.heap h' → Q none { s with heap := h' }) : wpAny (model prog w) A (pyNext (.ref it)) Q E s := by
  refine Zhi ⟨_, hit, rfl⟩ F.slot_range_iterator_next F.entry_range_iterator_next (F.args_range_iterator_next_1 _) ?_ hQ
  refine wpAny_bind (m := field (.ref it) 0) (wpAny_field hit rfl (x := rawInt x) rfl ?_)
  refine wpAny_bind (m := field (.ref it) 1) (wpAny_field hit rfl (x := rawInt left) rfl ?_)
  refine wpAny_bind (m := field (.ref it) 2) (wpAny_field hit rfl (x := rawInt step) rfl ?_)
  dsimp only [rawInt]
  rw [if_pos hl]
  refine wpAny_bind (wpAny_rule (wpAny_bind ?_))
  exact Zc7 q.in1 fun h' e k ho => ⟨e, rfl, ho, h', fun b o _ z => k b o z, rfl⟩
theorem ZlY {it l : Addr} {i : Nat} {o ol : Obj} {items : Array Value} {n : Nat} (q : Zcq A s.heap) (ho : s.heap.get? it = some o) (hd : o.data = .fields #[.ref l, .int i 0]) (hol : s.heap.get? l = some ol) (hdl : ol.data = .seq items n) (hx : items[i]? = none) :
    wpAny (model prog w) A.in1 (Builtin.«list_iterator.__next__» ⟨[.ref it], []⟩) (fun _ _ => False) (Zhh it s) s := by
  refine wpAny_bind (m := field (.ref it) 0) (wpAny_field ho hd (x := .ref l) rfl ?_)
  dsimp only
  rw [if_neg (show ¬ ((Value.ref l == Value.none) = true) from Bool.false_ne_true)]
  refine wpAny_bind (m := field (.ref it) 1) (wpAny_field ho hd (x := .int i 0) rfl ?_)
  refine wpAny_bind (m := seqItems? (.ref l)) (wpAny_seqItems hol hdl ?_)
  simp only [Int.toNat_natCast, hx]
  refine wpAny_bind (wpAny_rule (wpAny_bind (wpAny_setField ho hd (by simp) ?_)))
  have q2 : Zcq A.in1 (s.heap.update it (Obj.mapFields (·.setIfInBounds 0 Value.none))) := by
    rcases q with q | ⟨ea, oe, vs, e1, e2, e3, e4⟩
    · exact .inl q
    · refine .inr ⟨ea, oe, vs, e1, ?_, e3, e4⟩
      rw [Heap.get?_update_other _ _ (fun z => ?_)]
      · exact e2
      · rw [← z, ho] at e2
        cases e2
        rw [hd] at e3
        cases e3
        simp at e4
  refine Zc7 q2 fun h' e k ho => ⟨e, rfl, ho, h', fun b o hb z => k b o ?_, rfl⟩
  rw [Heap.get?_update_other _ _ (Ne.symm hb)]
  exact z
theorem ZlZ {it l : Addr} {i : Nat} {o ol : Obj} {items : Array Value} {n : Nat} (q : Zcq A s.heap) (ho : s.heap.get? it = some o) (hd : o.data = .fields #[.ref l, .int i 0]) (hol : s.heap.get? l = some ol) (hdl : ol.data = .seq items n) (hx : items[i]? = none) :
    wpAny (model prog w) A.in1 (Builtin.«tuple_iterator.__next__» ⟨[.ref it], []⟩) (fun _ _ => False) (Zhh it s) s := by
  refine wpAny_bind (m := field (.ref it) 0) (wpAny_field ho hd (x := .ref l) rfl ?_)
  dsimp only
  rw [if_neg (show ¬ ((Value.ref l == Value.none) = true) from Bool.false_ne_true)]
  refine wpAny_bind (m := field (.ref it) 1) (wpAny_field ho hd (x := .int i 0) rfl ?_)
  refine wpAny_bind (m := seqItems? (.ref l)) (wpAny_seqItems hol hdl ?_)
  simp only [Int.toNat_natCast, hx]
  refine wpAny_bind (wpAny_rule (wpAny_bind (wpAny_setField ho hd (by simp) ?_)))
  have q2 : Zcq A.in1 (s.heap.update it (Obj.mapFields (·.setIfInBounds 0 Value.none))) := by
    rcases q with q | ⟨ea, oe, vs, e1, e2, e3, e4⟩
    · exact .inl q
    · refine .inr ⟨ea, oe, vs, e1, ?_, e3, e4⟩
      rw [Heap.get?_update_other _ _ (fun z => ?_)]
      · exact e2
      · rw [← z, ho] at e2
        cases e2
        rw [hd] at e3
        cases e3
        simp at e4
  refine Zc7 q2 fun h' e k ho => ⟨e, rfl, ho, h', fun b o hb z => k b o ?_, rfl⟩
  rw [Heap.get?_update_other _ _ (Ne.symm hb)]
  exact z
theorem ZiU {it l : Addr} {i : Nat} {items} {Q : Option Value → Shared → Prop} (q : Zcq A s.heap) (hit : s.heap.IsListIter it l i) (hl : s.heap.IsList l items) (hx : items[i]? = none)
    (hQ : ∀ h', Heap.ExtBut it s.heap h' → Q none { s with heap := h' }) : wpAny (model prog w) A (pyNext (.ref it)) Q E s := by
  obtain ⟨o, ho, hc, hd⟩ := id hit
  obtain ⟨ol, hol, _, nl, hdl⟩ := hl
  exact Zhi hit.typeIs slot_listiter_next entry_listiter_next (args_listiter_next _) (ZlY q ho hd hol hdl hx) hQ
theorem Zhk {it l : Addr} {i : Nat} {items} {Q : Option Value → Shared → Prop} (q : Zcq A s.heap) (hit : s.heap.IsTupleIter it l i) (hl : s.heap.IsTuple l items) (hx : items[i]? = none)
    (hQ : ∀ h', Heap.ExtBut it s.heap h' → Q none { s with heap := h' }) : wpAny (model prog w) A (pyNext (.ref it)) Q E s := by
  obtain ⟨o, ho, hc, hd⟩ := id hit
  obtain ⟨ol, hol, _, nl, hdl⟩ := hl
  exact Zhi hit.typeIs F.slot_tuple_iterator_next F.entry_tuple_iterator_next (F.args_tuple_iterator_next_1 _) (ZlZ q ho hd hol hdl hx) hQ
end
end DQ
end
section
set_option Elab.async false
set_option linter.all false
set_option maxRecDepth 100000
namespace L2
open PySem PySem.Spec PyProof.Rows
noncomputable abbrev Key := Sum Int Str
noncomputable def Zl0 : Key → Value → Bool
  | .inl k, v => Value.isInt k v
  | .inr x, v => Value.isStrOf x v
noncomputable def ZrO (w : World) : Key → Int
  | .inl k => hashInt k
  | .inr x => hashStr w x
theorem ZT : ∀ {k : Key} {v : Value}, Zl0 k v = true → (∃ i t, k = Sum.inl i ∧ v = Value.int i t) ∨ (∃ x t, k = Sum.inr x ∧ v = Value.str x t)
  | .inl i, v, h => by
    obtain ⟨t, e⟩ := Value.isInt_shape (k := i) (v := v) h
    exact .inl ⟨i, t, rfl, e⟩
  | .inr x, v, h => by
    obtain ⟨t, e⟩ := Value.isStrOf_shape (x := x) (v := v) h
    exact .inr ⟨x, t, rfl, e⟩
theorem Zl1 (a b : Int) : decide ((Sum.inl a : Key) = Sum.inl b) = (a == b) := by
  by_cases e : a = b
  · subst e; simp
  · have h : ¬ (Sum.inl a : Key) = Sum.inl b := fun q => e (Sum.inl.inj q)
    rw [decide_eq_false h]
    exact (beq_eq_false_iff_ne.mpr e).symm
theorem Zl2 (a b : Str) : decide ((Sum.inr a : Key) = Sum.inr b) = decide (a = b) := by
  by_cases e : a = b
  · subst e; simp
  · have h : ¬ (Sum.inr a : Key) = Sum.inr b := fun q => e (Sum.inr.inj q)
    rw [decide_eq_false h, decide_eq_false e]
theorem Zl3 (a : Int) (b : Str) : decide ((Sum.inl a : Key) = Sum.inr b) = false := decide_eq_false (fun q => nomatch q)
theorem Zl4 (a : Str) (b : Int) : decide ((Sum.inr a : Key) = Sum.inl b) = false := decide_eq_false (fun q => nomatch q)
noncomputable def Zhl (prog : Program) (w : World) : PySem.KeyKind prog w Key where
  is := Zl0
  hash := ZrO w
  inj := fun v a b ha hb => by
    rcases ZT ha with ⟨i, t, rfl, rfl⟩ | ⟨x, t, rfl, rfl⟩
    · rcases ZT hb with ⟨j, u, rfl, e⟩ | ⟨y, u, rfl, e⟩
      · injection e with e1 _; rw [e1]
      · exact nomatch e
    · rcases ZT hb with ⟨j, u, rfl, e⟩ | ⟨y, u, rfl, e⟩
      · exact nomatch e
      · injection e with e1 _; rw [e1]
  byValue := fun k v h => by
    rcases ZT h with ⟨i, t, rfl, rfl⟩ | ⟨x, t, rfl, rfl⟩ <;> rfl
  pyHash := fun hv h => by
    rcases ZT hv with ⟨i, t, rfl, rfl⟩ | ⟨x, t, rfl, rfl⟩
    · exact wpAny_pyHash_int h
    · exact wpAny_pyHash_str h
  eqBool := fun hu hv h => by
    rcases ZT hu with ⟨i, t, rfl, rfl⟩ | ⟨x, t, rfl, rfl⟩
    · rcases ZT hv with ⟨j, u, rfl, rfl⟩ | ⟨y, u, rfl, rfl⟩
      · rw [Zl1] at h; exact wpAny_eqBool_int h
      · rw [Zl3] at h; exact SeqAt.EqAt.int_str i t y u _ _ _ _ h
    · rcases ZT hv with ⟨j, u, rfl, rfl⟩ | ⟨y, u, rfl, rfl⟩
      · rw [Zl4] at h; exact SeqAt.EqAt.str_int x t j u _ _ _ _ h
      · rw [Zl2] at h; exact wpAny_eqBool_str h
  «strs» := fun k x t v h => by
    rcases ZT h with ⟨i, u, rfl, e⟩ | ⟨y, u, rfl, e⟩
    · exact nomatch e
    · injection e with e1 _
      subst e1
      cases v <;> rfl
end L2
namespace L2
open PySem PySem.Spec PyProof.Rows
inductive V where
  | non | bl (b : Bool) | int (i : Int) | str (x : Str) | byt (b : Array UInt8) | flt (b : UInt64) | ref (a : Addr) | ty (n : String)
  deriving DecidableEq
noncomputable def ZaE : V → Value → Prop
  | .non, u => u = Value.none
  | .bl b, u => u = Value.bool b
  | .int i, u => ∃ t, u = Value.int i t
  | .str x, u => ∃ t, u = Value.str x t
  | .byt b, u => ∃ t, u = Value.bytes b t
  | .flt b, u => ∃ t, u = Value.float b t
  | .ref a, u => u = Value.ref a
  | .ty n, u => u = Value.type n
noncomputable abbrev Z5 : List V → List Value → Prop := Paired ZaE
theorem Z5.length {xs : List V} {us : List Value} (r : Z5 xs us) : xs.length = us.length := Paired.length r
theorem Z5.get : ∀ {xs : List V} {us : List Value} {i : Nat} {x : V}, Z5 xs us → xs[i]? = some x → ∃ u, us[i]? = some u ∧ ZaE x u
  | _, _, _, _, .nil, e => by simp at e
  | _, _, 0, _, .cons r _, e => by simp at e; subst e; exact ⟨_, rfl, r⟩
  | _, _, i + 1, x, .cons _ t, e => by
    obtain ⟨u, h1, h2⟩ := Z5.get (i := i) (x := x) t (by simpa using e)
    exact ⟨u, by simpa using h1, h2⟩
theorem Z5.set {x : V} {u : Value} (r : ZaE x u) : ∀ {xs : List V} {us : List Value} (i : Nat), Z5 xs us → Z5 (xs.set i x) (us.set i u)
  | _, _, _, .nil => .nil
  | _, _, 0, .cons _ t => .cons r t
  | _, _, i + 1, .cons q t => .cons q (Z5.set r i t)
theorem Z5.append : ∀ {xs ys : List V} {us ws : List Value}, Z5 xs us → Z5 ys ws → Z5 (xs ++ ys) (us ++ ws)
  | _, _, _, _, .nil, s => s
  | _, _, _, _, .cons r t, s => .cons r (Z5.append t s)
theorem Z5.take : ∀ {xs : List V} {us : List Value} (n : Nat), Z5 xs us → Z5 (xs.take n) (us.take n)
  | _, _, 0, _ => .nil
  | _, _, _ + 1, .nil => .nil
  | _, _, n + 1, .cons r t => .cons r (Z5.take n t)
theorem Z5.drop : ∀ {xs : List V} {us : List Value} (n : Nat), Z5 xs us → Z5 (xs.drop n) (us.drop n)
  | _, _, 0, r => r
  | _, _, _ + 1, .nil => .nil
  | _, _, n + 1, .cons _ t => Z5.drop n t
noncomputable def ZqK : Option V → Option Value → Prop
  | some v, some u => ZaE v u
  | none, none => True
  | _, _ => False
noncomputable def KV {κ : Type} : List (κ × V) → List (κ × Value) → Prop := Paired fun (p : κ × V) (q : κ × Value) => p.1 = q.1 ∧ ZaE p.2 q.2
noncomputable def kV : Key → V
  | .inl i => .int i
  | .inr x => .str x
inductive HO where
  | lst (xs : List V)
  | tup (xs : List V)
  | dK (kvs : List (Key × V)) | dT (kvs : List (List Key × V))
  | set (S : Int → Bool) (n : Nat)
  | ins (C dx : Addr) (fs : List (Str × V))
  | own (x : Addr)
  | xd (fs : List (Str × V))
  | met (f x : Addr)
  | rng (lo hi : Int)
  | frz (o : Obj) (u : HO)
  | tbl (ps : Array Value)
  | ext (φ : Heap → Prop)
noncomputable abbrev Hp := Addr → Option HO
noncomputable def upd (H : Hp) (a : Addr) (o : HO) : Hp := fun b => if b = a then some o else H b
theorem ZaQ {H : Hp} {a : Addr} {o : HO} : upd H a o a = some o := by unfold upd; rw [if_pos rfl]
theorem ZS {H : Hp} {a b : Addr} {o : HO} (h : b ≠ a) : upd H a o b = H b := by unfold upd; rw [if_neg h]
theorem Zao {H : Hp} {a b : Addr} {o : HO} (h : H a = some o) (h' : H b = none) : a ≠ b := by
  intro e; subst e; rw [h] at h'; cases h'
section
variable (P : Program) (w : World)
noncomputable def ZcI (H : Hp) (h : Heap) (a : Addr) : HO → Prop
  | .lst xs => xs.length ≤ sizeLine ∧ ∃ (its : List Value) (n : Nat), Z5 xs its ∧ h.get? a = some { cls := .type "list", data := .seq its.toArray n }
  | .tup xs => xs.length ≤ sizeLine ∧ ∃ its : List Value, Z5 xs its ∧ IsTup h a its.toArray
  | .dK kvs => kvs.length ≤ sizeLine ∧ (a == sysModules) = false ∧ ∃ vs, KV kvs vs ∧ h.DictOf (Zhl P w) a vs
  | .dT kvs => kvs.length ≤ sizeLine ∧ (a == sysModules) = false ∧ ∃ xs : List (List Key × Addr × Value),
      Paired (fun (p : List Key × V) (q : List Key × Addr × Value) => p.1 = q.1 ∧ H q.2.1 = some (.tup (p.1.map kV)) ∧ ZaE p.2 q.2.2) kvs xs ∧
      ∃ o es ep, h.get? a = some o ∧ o.ExactDict ∧ o.data = .dict es ep ∧ es.toList = xs.map (entryOfKey (tupleKind (Zhl P w))) ∧ (xs.map (·.1)).Nodup
  | .set S n => h.SetOf (intKind P w) a S n
  | .ins C dx fs => H dx = some (.own a) ∧ fs.length ≤ 1000 ∧ dx ≠ a ∧ h.get? a = some (PySem.W.instObj C dx) ∧
      ∃ mA, h.Ns1 dx mA ∧ (∀ f, ZqK (fs.lookup f) (mA f)) ∧ PySem.Within mA (fs.map (·.1))
  | .own _ => ∃ o, h.get? a = some o
  | .xd fs => ∃ mA, h.Ns1 a mA ∧ ∀ f, ZqK (fs.lookup f) (mA f)
  | .rng lo hi => ∃ t u v, h.get? a = some { cls := .type "range", data := .fields #[.int lo t, .int hi u, .int 1 v] }
  | .frz o u => h.get? a = some o ∧ ZcI H h a u
  | .tbl ps => h.get? a = some { cls := .none, data := .fields ps }
  | .met f x => h.get? a = some (PySem.W.methodObj (.ref f) (.ref x))
  | .ext φ => φ h ∧ (∃ o, h.get? a = some o) ∧ ∀ h1 h2 : Heap, φ h1 → (∀ o, h1.get? a = some o → h2.get? a = some o) → φ h2
noncomputable def HOk (H : Hp) (h : Heap) : Prop := ∀ a o, H a = some o → ZcI P w H h a o
end
section
variable {P : Program} {w : World} {H H' : Hp} {h h' : Heap} {a : Addr} {o : HO}
theorem ZcI.lt (x : ZcI P w H h a o) : a < h.objs.size := by
  cases o with
  | lst xs => obtain ⟨_, _, _, _, e⟩ := x; exact Heap.lt_size e
  | tup xs => obtain ⟨_, _, _, p⟩ := x; exact p.lt
  | dK kvs => obtain ⟨_, _, _, _, o, _, _, e, _⟩ := x; exact Heap.lt_size e
  | dT kvs => obtain ⟨_, _, _, _, o, _, _, e, _⟩ := x; exact Heap.lt_size e
  | set S n => obtain ⟨o, _, _, _, e, _⟩ := x; exact Heap.lt_size e
  | ins C dx fs => obtain ⟨_, _, _, e, _⟩ := x; exact Heap.lt_size e
  | own y => obtain ⟨_, e⟩ := x; exact Heap.lt_size e
  | xd fs => obtain ⟨_, ⟨_, _, _, e, _⟩, _⟩ := x; exact Heap.lt_size e
  | rng lo hi => obtain ⟨_, _, _, e⟩ := x; exact Heap.lt_size e
  | frz ob u => obtain ⟨e, _⟩ := x; exact Heap.lt_size e
  | tbl ps => exact Heap.lt_size (show h.get? a = some _ from x)
  | met f y => exact Heap.lt_size (show h.get? a = some _ from x)
  | ext φ => obtain ⟨_, ⟨_, e⟩, _⟩ := x; exact Heap.lt_size e
theorem Paired.mapP {α β : Type} {F G : α → β → Prop} : ∀ {l₁ : List α} {l₂ : List β}, Paired F l₁ l₂ → (∀ a b, F a b → G a b) → Paired G l₁ l₂
  | _, _, .nil, _ => .nil
  | _, _, .cons r t, f => .cons (f _ _ r) (Paired.mapP t f)
theorem ZcI.stay (x : ZcI P w H h a o) (k : ∀ b u, (b = a ∨ H b = some (.own a)) → h.get? b = some u → h'.get? b = some u)
    (ho : ∀ b, H b = some (.own a) → H' b = some (.own a)) (ht : ∀ b xs, H b = some (.tup xs) → H' b = some (.tup xs)) : ZcI P w H' h' a o := by
  induction o with
  | lst xs => obtain ⟨z, its, n, r, e⟩ := x; exact ⟨z, its, n, r, k _ _ (.inl rfl) e⟩
  | tup xs => obtain ⟨z, its, r, ob, e, c⟩ := x; exact ⟨z, its, r, ob, k _ _ (.inl rfl) e, c⟩
  | dK kvs => obtain ⟨z, y, vs, r, ob, es, ep, e, c⟩ := x; exact ⟨z, y, vs, r, ob, es, ep, k _ _ (.inl rfl) e, c⟩
  | dT kvs =>
    obtain ⟨z, y, xs, r, ob, es, ep, e, c⟩ := x
    exact ⟨z, y, xs, Paired.mapP r fun p q z => ⟨z.1, ht _ _ z.2.1, z.2.2⟩, ob, es, ep, k _ _ (.inl rfl) e, c⟩
  | set S n => obtain ⟨ob, es, ep, t, e, c⟩ := x; exact ⟨ob, es, ep, t, k _ _ (.inl rfl) e, c⟩
  | ins C dx fs =>
    obtain ⟨d, z, ne, e, mA, ⟨od, es, ep, e2, c⟩, r⟩ := x
    exact ⟨ho _ d, z, ne, k _ _ (.inl rfl) e, mA, ⟨od, es, ep, k _ _ (.inr d) e2, c⟩, r⟩
  | own y => obtain ⟨ob, e⟩ := x; exact ⟨ob, k _ _ (.inl rfl) e⟩
  | xd fs => obtain ⟨mA, ⟨od, es, ep, e, c⟩, r⟩ := x; exact ⟨mA, ⟨od, es, ep, k _ _ (.inl rfl) e, c⟩, r⟩
  | rng lo hi => obtain ⟨t, u, v, e⟩ := x; exact ⟨t, u, v, k _ _ (.inl rfl) e⟩
  | frz ob u ih => obtain ⟨e, q⟩ := x; exact ⟨k _ _ (.inl rfl) e, ih q⟩
  | tbl ps =>
    have e : h.get? a = some { cls := .none, data := .fields ps } := x
    show h'.get? a = some { cls := .none, data := .fields ps }
    exact k a _ (.inl rfl) e
  | met f y =>
    have e : h.get? a = some (PySem.W.methodObj (.ref f) (.ref y)) := x
    show h'.get? a = some (PySem.W.methodObj (.ref f) (.ref y))
    exact k a _ (.inl rfl) e
  | ext φ => obtain ⟨p, ⟨o, e⟩, st⟩ := x; exact ⟨st _ _ p fun o q => k _ _ (.inl rfl) q, ⟨o, k _ _ (.inl rfl) e⟩, st⟩
theorem HOk.lt (x : HOk P w H h) (e : H a = some o) : a < h.objs.size := (x a o e).lt
theorem HOk.fresh (x : HOk P w H h) (e : h.objs.size ≤ a) : H a = none := by
  cases q : H a with
  | none => rfl
  | some u => exact absurd (Nat.lt_of_lt_of_le (x.lt q) e) (Nat.lt_irrefl _)
theorem HOk.kept (x : HOk P w H h) (k : ∀ b u, h.get? b = some u → h'.get? b = some u) : HOk P w H h' := fun a o e =>
  (x a o e).stay (fun b u _ q => k b u q) (fun _ q => q) fun _ _ q => q
theorem HOk.laid (x : HOk P w H h) (k : ∀ b u, h.get? b = some u → h'.get? b = some u) (hp : h.objs.size ≤ a) (new : ZcI P w (upd H a o) h' a o) : HOk P w (upd H a o) h' := fun b u e => by
  have hn := x.fresh hp
  by_cases hb : b = a
  · subst hb; rw [ZaQ] at e; cases e; exact new
  · rw [ZS hb] at e
    exact (x b u e).stay (fun c v _ q => k c v q) (fun c q => by rw [ZS (Zao q hn)]; exact q) fun c xs q => by rw [ZS (Zao q hn)]; exact q
end
noncomputable def Rd (H : Hp) (a : Addr) (u : HO) : Prop := H a = some u ∨ ∃ o, H a = some (.frz o u)
theorem Rd.of {H : Hp} {a : Addr} {u : HO} (h : H a = some u) : Rd H a u := .inl h
theorem Rd.ok {P : Program} {w : World} {H : Hp} {h : Heap} {a : Addr} {u : HO} (r : Rd H a u) (x : HOk P w H h) : ZcI P w H h a u := by
  rcases r with r | ⟨o, r⟩
  · exact x a u r
  · obtain ⟨_, q⟩ := x a _ r
    exact q
noncomputable def Mut : Option HO → Prop
  | some (.lst _) => True
  | some (.dK _) => True
  | some (.dT _) => True
  | some (.set _ _) => True
  | some (.ins _ _ _) => True
  | some (.ext _) => True
  | _ => False
section
variable {P : Program} {w : World} {H : Hp} {h h' : Heap} {x e : Addr} {o' : HO}
theorem HOk.write (ok : HOk P w H h) (mu : Mut (H x)) (he : e = x ∨ H e = some (.own x)) (k : ∀ b u, b ≠ e → h.get? b = some u → h'.get? b = some u) (heo : ∃ u, h'.get? e = some u)
    (new : ZcI P w (upd H x o') h' x o') : HOk P w (upd H x o') h' := fun b u q => by
  have nown : ∀ c y, H c = some (.own y) → c ≠ x := fun c y r z => by subst z; rw [r] at mu; exact mu
  have ntup : ∀ c xs, H c = some (.tup xs) → c ≠ x := fun c xs r z => by subst z; rw [r] at mu; exact mu
  by_cases hb : b = x
  · subst hb; rw [ZaQ] at q; cases q; exact new
  · rw [ZS hb] at q
    by_cases hbe : b = e
    · have q' : H b = some (.own x) := by
        rcases he with z | z
        · exact absurd (hbe.trans z) hb
        · rw [hbe]; exact z
      rw [q] at q'; cases q'
      obtain ⟨v, hv⟩ := heo
      exact ⟨v, by rw [hbe]; exact hv⟩
    · refine (ok b u q).stay (fun c v hc r => k c v ?_ r) (fun c r => by rw [ZS (nown c b r)]; exact r) fun c xs r => by rw [ZS (ntup c xs r)]; exact r
      rcases hc with rfl | hc
      · exact hbe
      · rintro rfl
        rcases he with z | z
        · exact nown c b hc z
        · rw [hc] at z; cases z; exact hb rfl
end
structure Un (fs ex : List Addr) (H H' : Hp) (h h' : Heap) : Prop where
  keep : ∀ b o, h.get? b = some o → H b = none → b ∉ fs → b ∉ ex → h'.get? b = some o
  slot : ∀ b o, h.get? b = some o → H b = none → b ∈ fs → b ∉ ex → ∃ sl, h'.get? b = some { o with slots := sl }
  free : ∀ b o, h.get? b = some o → H b = none → b ∉ ex → H' b = none
  there : ∀ b o, h.get? b = some o → b ∉ ex → ∃ o', h'.get? b = some o'
  tups : ∀ b xs, H b = some (.tup xs) → H' b = some (.tup xs)
  frzs : ∀ b o u, H b = some (.frz o u) → H' b = some (.frz o u)
  tbls : ∀ b ps, H b = some (.tbl ps) → ∃ more, H' b = some (.tbl (ps ++ more))
section
variable {fs fs' ex ex' : List Addr} {H H1 H2 : Hp} {h h1 h2 h' : Heap} {a x e : Addr} {o : HO}
theorem Un.any (u : Un fs ex H H1 h h1) {b : Addr} {ob : Obj} (q : h.get? b = some ob) (n : H b = none) (hx : b ∉ ex) : ∃ sl, h1.get? b = some { ob with slots := sl } := by
  by_cases hb : b ∈ fs
  · exact u.slot b ob q n hb hx
  · exact ⟨ob.slots, u.keep b ob q n hb hx⟩
theorem Un.trans (a : Un fs ex H H1 h h1) (b : Un fs ex H1 H2 h1 h2) : Un fs ex H H2 h h2 where
  keep := fun c ob q n hc hx => b.keep c ob (a.keep c ob q n hc hx) (a.free c ob q n hx) hc hx
  slot := fun c ob q n hc hx => by
    obtain ⟨sl, e1⟩ := a.slot c ob q n hc hx
    obtain ⟨sl', e2⟩ := b.slot c _ e1 (a.free c ob q n hx) hc hx
    exact ⟨sl', e2⟩
  free := fun c ob q n hx => by
    obtain ⟨o', e1⟩ := a.there c ob q hx
    exact b.free c o' e1 (a.free c ob q n hx) hx
  there := fun c ob q hx => by
    obtain ⟨o', e1⟩ := a.there c ob q hx
    exact b.there c o' e1 hx
  tups := fun c xs q => b.tups c xs (a.tups c xs q)
  frzs := fun c ob xs q => b.frzs c ob xs (a.frzs c ob xs q)
  tbls := fun c ps q => by
    obtain ⟨m1, e1⟩ := a.tbls c ps q
    obtain ⟨m2, e2⟩ := b.tbls c _ e1
    exact ⟨m1 ++ m2, by rw [e2, Array.append_assoc]⟩
theorem Un.kept (k : ∀ b u, h.get? b = some u → h'.get? b = some u) : Un fs ex H H h h' :=
  ⟨fun b ob q _ _ _ => k b ob q, fun b ob q _ _ _ => ⟨ob.slots, k b ob q⟩, fun _ _ _ n _ => n, fun b ob q _ => ⟨ob, k b ob q⟩, fun _ _ q => q, fun _ _ _ q => q, fun _ ps q => ⟨#[], by rw [q]; simp⟩⟩
theorem Un.refl : Un fs ex H H h h := Un.kept fun _ _ q => q
theorem Un.laid (k : ∀ b u, h.get? b = some u → h'.get? b = some u) (hp : h.objs.size ≤ a) (hn : H a = none) : Un fs ex H (upd H a o) h h' where
  keep := fun b u q _ _ _ => k b u q
  slot := fun b u q _ _ _ => ⟨u.slots, k b u q⟩
  free := fun b u q n _ => by rw [ZS (Nat.ne_of_lt (Nat.lt_of_lt_of_le (Heap.lt_size q) hp))]; exact n
  there := fun b u q _ => ⟨u, k b u q⟩
  tups := fun b xs q => by rw [ZS (Zao q hn)]; exact q
  frzs := fun b u xs q => by rw [ZS (Zao q hn)]; exact q
  tbls := fun b ps q => ⟨#[], by rw [ZS (Zao q hn), q]; simp⟩
theorem Un.write (mu : Mut (H x)) (he : e = x ∨ H e = some (.own x)) (k : ∀ b u, b ≠ e → h.get? b = some u → h'.get? b = some u) (heo : ∃ u, h'.get? e = some u) : Un fs ex H (upd H x o) h h' := by
  have hx : ∀ b, H b = none → b ≠ x := fun b n z => by subst z; rw [n] at mu; exact mu
  have hb : ∀ b, H b = none → b ≠ e := fun b n z => by
    subst z
    rcases he with r | r
    · exact hx b n r
    · rw [n] at r; cases r
  have hm : ∀ b u, H b = some u → ¬ Mut (some u) → b ≠ x := fun b u q nm z => by subst z; rw [q] at mu; exact nm mu
  refine ⟨fun b u q n _ _ => k b u (hb b n) q, fun b u q n _ _ => ⟨u.slots, k b u (hb b n) q⟩, fun b u q n _ => by rw [ZS (hx b n)]; exact n, fun b u q _ => ?_,
    fun b xs q => by rw [ZS (hm b _ q fun z => z)]; exact q, fun b u xs q => by rw [ZS (hm b _ q fun z => z)]; exact q, fun b ps q => ⟨#[], by rw [ZS (hm b _ q fun z => z), q]; simp⟩⟩
  by_cases hbe : b = e
  · subst hbe; exact heo
  · exact ⟨u, k b u hbe q⟩
theorem Un.mono (u : Un fs ex H H1 h h1) (hs : ∀ b ∈ fs, b ∈ fs') (hx : ∀ b ∈ ex, b ∈ ex') : Un fs' ex' H H1 h h1 :=
  ⟨fun b ob q n hb he => u.keep b ob q n (fun z => hb (hs b z)) fun z => he (hx b z), fun _ _ q n _ he => u.any q n fun z => he (hx _ z), fun b ob q n he => u.free b ob q n fun z => he (hx b z), fun b ob q he => u.there b ob q fun z => he (hx b z), u.tups, u.frzs, u.tbls⟩
end
noncomputable def trk (h : Heap) (H : Hp) : List Addr := (List.range h.objs.size).filter fun a => (H a).isSome
noncomputable def ZiQ (h : Heap) (H : Hp) : Heap := PySem.W.hideAll h (trk h H)
theorem Zhm (h : Heap) (H : Hp) : (ZiQ h H).objs.size = h.objs.size := PySem.W.hideAll_size _ _
theorem Zf9 {h : Heap} {H : Hp} {b : Addr} {o : Obj} (e : h.get? b = some o) (n : H b = none) : (ZiQ h H).get? b = some o :=
  PySem.W.hideAll_get _ e fun hm => by
    have q : (H b).isSome = true := (List.mem_filter.mp hm).2
    rw [n] at q; simp at q
theorem Zhn {h : Heap} {H : Hp} {b : Addr} {o : Obj} (e : (ZiQ h H).get? b = some o) : h.get? b = some o ∧ H b = none := by
  have e' : h.get? b = some o := PySem.W.of_hideAll (trk h H) e
  refine ⟨e', ?_⟩
  cases q : H b with
  | none => rfl
  | some x =>
    have hm : b ∈ trk h H := List.mem_filter.mpr ⟨List.mem_range.mpr (Heap.lt_size e'), by simp [q]⟩
    have z : (ZiQ h H).get? b = none := PySem.W.hideAll_none (trk h H) hm
    rw [z] at e; cases e
noncomputable def Zku (g h : Heap) (L : Addr) : List (Addr × Obj) := (List.range h.objs.size).filterMap fun a => if a = L ∨ (g.get? a).isSome = true then none else (h.get? a).map fun o => (a, o)
noncomputable def rest (g h : Heap) (L d : Addr) : List (Addr × Obj) := (Zku g h L).filter fun p => decide (p.1 ≠ d)
end L2
namespace L2
open PySem PySem.Spec PyProof.Rows
structure Mod (K : PySem.W.Frag) (mg : Str → Option Value) (base : Heap) : Prop where
  kin : K.In base
  glob : base.Ns mainGlobals mg
  blt : ∃ mb, base.Ns builtinsNs mb ∧ ∀ x : Str, x ≠ "__name__" → mb x = bootBuiltins x
  nolimit : base.NoLimit
structure Cx where
  prog : Program
  w : World
  K : PySem.W.Frag
  mg : Str → Option Value
  base : Heap
  A : Around
  N : List Str
  s₀ : Shared
  H₀ : Hp
  env : Env
  outer : List Env
  stack : List Env
  ex : List Addr
  fn : Str → Bool
  calm : Bool
  pn : List (Addr × Obj)
  xe : Value → Shared → Prop
noncomputable def frs (l : List Env) : List Addr := l.filterMap (·.frame)
noncomputable abbrev Cx.fs (X : Cx) : List Addr := frs X.outer
noncomputable def Vis (sc : Scope) (x : Str) : Prop := sc.names.lookup x = some .local ∨ sc.names.lookup x = some .cell ∨ sc.names.lookup x = some .free
noncomputable def Loc (sc : Scope) (x : Str) : Prop := sc.names.lookup x = some .local ∨ sc.names.lookup x = some .cell
noncomputable def ZrP (env : Env) (h : Heap) (m : Str → Option Value) (x : Str) (u : Value) : Prop :=
  (env.kindOf x = some .local ∧ m x = some u) ∨ ((env.kindOf x = some .cell ∨ env.kindOf x = some .free) ∧ ∃ c, env.cells.lookup x = some c ∧ h.IsCell c (some u))
structure Cx.Ok (X : Cx) : Prop where
  mod : Mod X.K X.mg X.base
  kind : X.env.scope.kind = .function
  glob : X.env.globals = mainGlobals
  blt : X.env.builtins = builtinsNs
  above : X.s₀.heap.objs.size ≤ X.env.locals
  inj : ∀ x y c, X.env.cells.lookup x = some c → X.env.cells.lookup y = some c → x = y
  has : ∀ x, (X.env.kindOf x = some .cell ∨ X.env.kindOf x = some .free) → ∃ c, X.env.cells.lookup x = some c
  cab : ∀ x c, X.fn x = true → X.env.cells.lookup x = some c → X.s₀.heap.objs.size ≤ c
  hd : X.calm = true → X.A.handled = none
  frames : X.A.frames = some X.stack
  stk : X.stack = X.outer ∨ (X.stack = X.env :: X.outer ∧ X.env.frame = some X.env.locals)
  exf : ∀ b ∈ X.ex, b ≠ X.env.locals ∧ ∀ x c, X.env.cells.lookup x = some c → c ≠ b
  bs : ∀ b o, X.base.get? b = some o → X.s₀.heap.get? b = some o ∧ X.H₀ b = none
  bsz : X.base.objs.size ≤ X.s₀.heap.objs.size
  noex : ∀ b o, X.base.get? b = some o → b ∉ X.ex
  exfs : ∀ b ∈ X.ex, b ∉ X.fs
  funs : X.s₀.heap.FunFrames X.base X.outer
  frf : ∀ b ∈ X.fs, X.H₀ b = none
noncomputable def Qd (A : Around) (H : Hp) : Prop := A.handled = none ∨ ∃ ea oe u vs, A.handled = some (.ref ea) ∧ H ea = some (.frz oe u) ∧ oe.data = .fields vs ∧ vs[2]? = some .none
theorem Qd.mono {A : Around} {H H' : Hp} (q : Qd A H) (k : ∀ b o u, H b = some (.frz o u) → H' b = some (.frz o u)) : Qd A H' := by
  rcases q with q | ⟨ea, oe, u, vs, e1, e2, e3, e4⟩
  · exact .inl q
  · exact .inr ⟨ea, oe, u, vs, e1, k _ _ _ e2, e3, e4⟩
structure Inv (X : Cx) (pins : List (Addr × Obj)) (σ : List (Option V)) (H : Hp) (s : Shared) : Prop where
  ok : X.Ok
  os : s.os = X.s₀.os
  bare : AllBare s.gens
  base : Un X.fs X.ex X.H₀ H X.s₀.heap s.heap
  loc : ∃ m, s.heap.Ns X.env.locals m ∧ ∀ (i : Nat) (x : Str) (v : V), X.N[i]? = some x → σ[i]? = some (some v) → Vis X.env.scope x → ∃ u, ZaE v u ∧ ZrP X.env s.heap m x u
  cell : ∀ x c, X.env.cells.lookup x = some c → ∃ v, s.heap.IsCell c v
  free : H X.env.locals = none
  freeC : ∀ x c, X.env.cells.lookup x = some c → H c = none
  pin : ∀ p ∈ X.pn ++ pins, s.heap.get? p.1 = some p.2 ∧ H p.1 = none ∧ p.1 ≠ X.env.locals ∧ p.1 ∉ X.fs ∧ ∀ v, p.2.data ≠ .cell v
  hok : HOk X.prog X.w H s.heap
  len : σ.length = X.N.length
  qd : Qd X.A H
section
variable {X : Cx} {pins : List (Addr × Obj)} {σ : List (Option V)} {H H' : Hp} {s : Shared} {h' : Heap}
theorem Cx.Ok.nofr (ok : X.Ok) {b : Addr} {o : Obj} (e : X.base.get? b = some o) : b ∉ X.fs := fun hb => by
  have := (ok.funs.mem hb).1
  rw [e] at this; cases this
theorem Inv.bs (I : Inv X pins σ H s) : ∀ b o, X.base.get? b = some o → s.heap.get? b = some o ∧ H b = none := fun b o e =>
  ⟨I.base.keep b o (I.ok.bs b o e).1 (I.ok.bs b o e).2 (I.ok.nofr e) (I.ok.noex b o e), I.base.free b o (I.ok.bs b o e).1 (I.ok.bs b o e).2 (I.ok.noex b o e)⟩
theorem Inv.qh (I : Inv X pins σ H s) : DQ.Zcq X.A s.heap := by
  rcases I.qd with q | ⟨ea, oe, u, vs, e1, e2, e3, e4⟩
  · exact .inl q
  · exact .inr ⟨ea, oe, vs, e1, (I.hok _ _ e2).1, e3, e4⟩
theorem Inv.bk (I : Inv X pins σ H s) : ∀ b o, X.base.get? b = some o → s.heap.get? b = some o := fun b o e => (I.bs b o e).1
theorem Inv.mod (I : Inv X pins σ H s) : Mod X.K X.mg X.base := I.ok.mod
theorem Inv.kIn (I : Inv X pins σ H s) : X.K.In s.heap := I.ok.mod.kin.keeps I.bk
theorem Inv.nolimit (I : Inv X pins σ H s) : s.heap.NoLimit := I.ok.mod.nolimit.keeps I.bk
theorem Inv.fr (I : Inv X pins σ H s) : ∃ m, Fr X.base X.env.locals s.heap m :=
  let ⟨m, hn, _⟩ := I.loc
  ⟨m, hn, I.bk, Nat.le_trans I.ok.bsz I.ok.above⟩
theorem Inv.lt (I : Inv X pins σ H s) : X.env.locals < s.heap.objs.size := let ⟨_, hn, _⟩ := I.loc; hn.lt
theorem Inv.sz (I : Inv X pins σ H s) : X.s₀.heap.objs.size ≤ s.heap.objs.size := Nat.le_trans I.ok.above (Nat.le_of_lt I.lt)
theorem Inv.nofs (I : Inv X pins σ H s) {a : Addr} (h : s.heap.objs.size ≤ a) : a ∉ X.fs := fun hb => by
  obtain ⟨_, o, ho, _⟩ := I.ok.funs.mem hb
  exact absurd (Nat.lt_of_lt_of_le (Heap.lt_size ho) (Nat.le_trans I.sz h)) (Nat.lt_irrefl _)
theorem Inv.cne (I : Inv X pins σ H s) : ∀ x c, X.env.cells.lookup x = some c → c ≠ X.env.locals := fun x c e z => by
  obtain ⟨v, o, ho, hd⟩ := I.cell x c e
  obtain ⟨m, ⟨o', es, ep, ho', hd', _⟩, _⟩ := I.loc
  rw [z, ho'] at ho; cases ho; rw [hd'] at hd; cases hd
theorem Inv.funs (I : Inv X pins σ H s) : s.heap.FunFrames X.base X.outer := by
  have all : ∀ (l : List Env), (∀ b ∈ frs l, b ∈ X.fs) → X.s₀.heap.FunFrames X.base l → s.heap.FunFrames X.base l := by
    intro l
    induction l with
    | nil => intro _ _; trivial
    | cons env r ih =>
      intro hs hl
      obtain ⟨hk, ⟨L, o, hf, hn, ho, hd⟩, hr⟩ := hl
      have hL : L ∈ X.fs := hs L (by unfold frs; rw [List.filterMap_cons, hf]; exact List.mem_cons_self)
      obtain ⟨sl, e⟩ := I.base.slot L o ho (I.ok.frf L hL) hL fun z => I.ok.exfs L z hL
      exact ⟨hk, ⟨L, _, hf, hn, e, hd⟩, ih (fun b hb => hs b (by unfold frs; rw [List.filterMap_cons, hf]; exact List.mem_cons_of_mem _ hb)) hr⟩
  exact all X.outer (fun _ hb => hb) I.ok.funs
theorem Inv.stack (I : Inv X pins σ H s) : s.heap.FunFrames X.base X.stack := by
  rcases I.ok.stk with e | ⟨e, hf⟩
  · rw [e]; exact I.funs
  · rw [e]
    obtain ⟨m, hn, _⟩ := I.loc
    refine .cons (by rw [I.ok.kind]; decide) hf hn ?_ I.funs
    exact Heap.get?_none_of_le (Nat.le_trans I.ok.bsz I.ok.above)
theorem Inv.stkSub (I : Inv X pins σ H s) : ∀ b ∈ frs X.stack, b ∈ X.env.locals :: X.fs := fun b hb => by
  rcases I.ok.stk with e | ⟨e, hf⟩
  · rw [e] at hb; exact List.mem_cons_of_mem _ hb
  · rw [e] at hb
    unfold frs at hb
    rw [List.filterMap_cons, hf] at hb
    exact hb
theorem Inv.stkFree (I : Inv X pins σ H s) : ∀ b ∈ frs X.stack, H b = none := fun b hb => by
  rcases List.mem_cons.mp (I.stkSub b hb) with e | hb
  · rw [e]; exact I.free
  · obtain ⟨_, o, ho, _⟩ := I.ok.funs.mem hb
    exact I.base.free b o ho (I.ok.frf b hb) fun z => I.ok.exfs b z hb
theorem Inv.step {g' : Array GenState} {t' : Nat} {d' : Drawn} {ch : List Addr} (I : Inv X pins σ H s)
    (hch : ∀ b ∈ ch, (b ∈ X.ex ∨ X.s₀.heap.objs.size ≤ b) ∧ b ≠ X.env.locals ∧ (∀ x c, X.env.cells.lookup x = some c → c ≠ b) ∧ ∀ p ∈ X.pn ++ pins, p.1 ≠ b)
    (keep : ∀ b o, b ≠ X.env.locals → b ∉ X.fs → b ∉ ch → s.heap.get? b = some o → H b = none → h'.get? b = some o)
    (slot : ∀ b o, b ≠ X.env.locals → b ∈ X.fs → b ∉ ch → s.heap.get? b = some o → H b = none → ∃ sl, h'.get? b = some { o with slots := sl }) (free : ∀ b o, b ∉ ch → s.heap.get? b = some o → H b = none → H' b = none)
    (there : ∀ b o, b ∉ ch → s.heap.get? b = some o → ∃ o', h'.get? b = some o')
    (tups : ∀ b xs, H b = some (.tup xs) → H' b = some (.tup xs)) (frzs : ∀ b o u, H b = some (.frz o u) → H' b = some (.frz o u)) (tbls : ∀ b ps, H b = some (.tbl ps) → ∃ more, H' b = some (.tbl (ps ++ more)))
    (ns : ∀ m, s.heap.Ns X.env.locals m → h'.Ns X.env.locals m) (hok : HOk X.prog X.w H' h') (hg : AllBare g') :
    Inv X pins σ H' { s with heap := h', gens := g', drawn := d', toks := t' } := by
  have neL : ∀ b o, X.s₀.heap.get? b = some o → b ≠ X.env.locals := fun b o e => Nat.ne_of_lt (Nat.lt_of_lt_of_le (Heap.lt_size e) I.ok.above)
  have neC : ∀ b o, X.s₀.heap.get? b = some o → b ∉ X.ex → b ∉ ch := fun b o e hx hb => by
    rcases (hch b hb).1 with z | z
    · exact hx z
    · exact absurd (Nat.lt_of_lt_of_le (Heap.lt_size e) z) (Nat.lt_irrefl _)
  have cellK : ∀ x c, X.env.cells.lookup x = some c → ∀ v, s.heap.IsCell c v → h'.IsCell c v := fun x c e v ⟨o, ho, hd⟩ => by
    have nch : c ∉ ch := fun z => (hch c z).2.2.1 x c e rfl
    by_cases hc : c ∈ X.fs
    · obtain ⟨sl, q⟩ := slot c o (I.cne x c e) hc nch ho (I.freeC x c e)
      exact ⟨_, q, hd⟩
    · exact ⟨o, keep c o (I.cne x c e) hc nch ho (I.freeC x c e), hd⟩
  refine ⟨I.ok, I.os, hg, ⟨fun b o e n hb hx => ?_, fun b o e n hb hx => ?_, fun b o e n hx => ?_, fun b o e hx => ?_, fun b xs e => tups b xs (I.base.tups b xs e), fun b o xs e => frzs b o xs (I.base.frzs b o xs e), fun b ps e => ?_⟩, ?_, fun x c e => ?_, ?_, fun x c e => ?_, fun p hp => ?_, hok, I.len, I.qd.mono frzs⟩
  · exact keep b o (neL b o e) hb (neC b o e hx) (I.base.keep b o e n hb hx) (I.base.free b o e n hx)
  · obtain ⟨sl, e1⟩ := I.base.slot b o e n hb hx
    obtain ⟨sl', e2⟩ := slot b _ (neL b o e) hb (neC b o e hx) e1 (I.base.free b o e n hx)
    exact ⟨sl', e2⟩
  · obtain ⟨o', e1⟩ := I.base.there b o e hx
    exact free b o' (neC b o e hx) e1 (I.base.free b o e n hx)
  · obtain ⟨o', e1⟩ := I.base.there b o e hx
    exact there b o' (neC b o e hx) e1
  · obtain ⟨m1, e1⟩ := I.base.tbls b ps e
    obtain ⟨m2, e2⟩ := tbls b _ e1
    exact ⟨m1 ++ m2, by rw [e2, Array.append_assoc]⟩
  · obtain ⟨m, hn, hl⟩ := I.loc
    refine ⟨m, ns m hn, fun i x v e1 e2 e3 => ?_⟩
    obtain ⟨u, r, l⟩ := hl i x v e1 e2 e3
    refine ⟨u, r, ?_⟩
    rcases l with l | ⟨k, c, e, z⟩
    · exact .inl l
    · exact .inr ⟨k, c, e, cellK x c e _ z⟩
  · obtain ⟨v, z⟩ := I.cell x c e
    exact ⟨v, cellK x c e v z⟩
  · obtain ⟨m, ⟨o, _, _, ho, _⟩, _⟩ := I.loc
    exact free _ o (fun z => (hch _ z).2.1 rfl) ho I.free
  · obtain ⟨v, o, ho, hd⟩ := I.cell x c e
    exact free c o (fun z => (hch c z).2.2.1 x c e rfl) ho (I.freeC x c e)
  · obtain ⟨e, n, ne, nf, d⟩ := I.pin p hp
    have nch : p.1 ∉ ch := fun z => (hch p.1 z).2.2.2 p hp rfl
    exact ⟨keep p.1 p.2 ne nf nch e n, free p.1 p.2 nch e n, ne, nf, d⟩
theorem Inv.un {t' : Nat} (I : Inv X pins σ H s) (u : Un X.fs [] H H' s.heap h') (hok : HOk X.prog X.w H' h') : Inv X pins σ H' { s with heap := h', toks := t' } := by
  obtain ⟨m, ⟨o, es, ep, ho, r⟩, _⟩ := id I.loc
  obtain ⟨sl, hL⟩ := u.any ho I.free (by simp)
  exact I.step (g' := s.gens) (d' := s.drawn) (ch := []) (fun _ z => nomatch z) (fun b o _ hb _ e n => u.keep b o e n hb (by simp)) (fun b o _ hb _ e n => u.slot b o e n hb (by simp)) (fun b o _ e n => u.free b o e n (by simp)) (fun b o _ e => u.there b o e (by simp)) u.tups u.frzs u.tbls (fun m' hm => by
    obtain ⟨o', es', ep', ho', r'⟩ := hm
    rw [ho] at ho'; cases ho'
    exact ⟨_, es', ep', hL, r'⟩) hok I.bare
theorem Inv.call {g' : Array GenState} {t' : Nat} {d' : Drawn} {ch : List Addr} (I : Inv X pins σ H s) (u : Un (frs X.stack) ch H H' s.heap h') (hok : HOk X.prog X.w H' h') (hg : AllBare g')
    (hch : ∀ b ∈ ch, (b ∈ X.ex ∨ X.s₀.heap.objs.size ≤ b) ∧ b ≠ X.env.locals ∧ (∀ x c, X.env.cells.lookup x = some c → c ≠ b) ∧ ∀ p ∈ X.pn ++ pins, p.1 ≠ b) :
    Inv X pins σ H' { s with heap := h', gens := g', drawn := d', toks := t' } := by
  obtain ⟨m, ⟨o, es, ep, ho, r⟩, _⟩ := id I.loc
  obtain ⟨sl, hL⟩ := u.any ho I.free fun z => (hch _ z).2.1 rfl
  exact I.step (ch := ch) hch (fun b o hL hb hc e n => u.keep b o e n (fun z => (List.mem_cons.mp (I.stkSub b z)).elim hL hb) hc) (fun b o _ _ hc e n => u.any e n hc) (fun b o hc e n => u.free b o e n hc) (fun b o hc e => u.there b o e hc) u.tups u.frzs u.tbls (fun m' hm => by
    obtain ⟨o', es', ep', ho', r'⟩ := hm
    rw [ho] at ho'; cases ho'
    exact ⟨_, es', ep', hL, r'⟩) hok hg
theorem Inv.turned {t' : Nat} {it : Addr} (I : Inv X pins σ H s) (k : ∀ b o, b ≠ it → s.heap.get? b = some o → h'.get? b = some o) (hn : H it = none) (hL : it ≠ X.env.locals)
    (h1 : it ∈ X.ex ∨ X.s₀.heap.objs.size ≤ it) (h2 : ∀ x c, X.env.cells.lookup x = some c → c ≠ it) (h3 : ∀ p ∈ X.pn ++ pins, p.1 ≠ it) : Inv X pins σ H { s with heap := h', toks := t' } := by
  have nit : ∀ b u, H b = some u → b ≠ it := fun b u e z => by rw [z, hn] at e; cases e
  refine I.step (g' := s.gens) (d' := s.drawn) (ch := [it]) (fun b hb => ?_) (fun b o _ _ hc e _ => k b o (fun z => hc (by simp [z])) e) (fun b o _ _ hc e _ => ⟨o.slots, k b o (fun z => hc (by simp [z])) e⟩) (fun _ _ _ _ n => n)
    (fun b o hc e => ⟨o, k b o (fun z => hc (by simp [z])) e⟩) (fun _ _ e => e) (fun _ _ _ e => e) (fun b ps e => ⟨#[], by rw [e]; simp⟩) (fun m hm => ?_) (fun b u e => ?_) I.bare
  · have e : b = it := by simpa using hb
    subst e
    exact ⟨h1, hL, h2, h3⟩
  · obtain ⟨o, es, ep, ho, r⟩ := hm
    exact ⟨o, es, ep, k _ o (Ne.symm hL) ho, r⟩
  · refine (I.hok b u e).stay (fun c v hc q => k c v ?_ q) (fun _ q => q) fun _ _ q => q
    rcases hc with z | z
    · rw [z]; exact nit b u e
    · exact nit c _ z
theorem Inv.tok (I : Inv X pins σ H s) (t : Nat) : Inv X pins σ H { s with toks := t } := I.un (h' := s.heap) (t' := t) Un.refl I.hok
theorem Inv.kept {t' : Nat} (I : Inv X pins σ H s) (k : ∀ b u, s.heap.get? b = some u → h'.get? b = some u) : Inv X pins σ H { s with heap := h', toks := t' } := I.un (Un.kept k) (I.hok.kept k)
theorem Inv.laid {a : Addr} {o : HO} {t' : Nat} (I : Inv X pins σ H s) (k : ∀ b u, s.heap.get? b = some u → h'.get? b = some u) (hp : s.heap.objs.size ≤ a) (new : ZcI X.prog X.w (upd H a o) h' a o) :
    Inv X pins σ (upd H a o) { s with heap := h', toks := t' } := I.un (Un.laid k hp (I.hok.fresh hp)) (I.hok.laid k hp new)
theorem Inv.write {x e : Addr} {o : HO} {t' : Nat} (I : Inv X pins σ H s) (mu : Mut (H x)) (he : e = x ∨ H e = some (.own x)) (k : ∀ b u, b ≠ e → s.heap.get? b = some u → h'.get? b = some u) (heo : ∃ u, h'.get? e = some u)
    (new : ZcI X.prog X.w (upd H x o) h' x o) : Inv X pins σ (upd H x o) { s with heap := h', toks := t' } := I.un (Un.write mu he k heo) (I.hok.write mu he k heo new)
theorem Inv.pins_of {pins' : List (Addr × Obj)} (I : Inv X pins σ H s) (h : ∀ p ∈ pins', s.heap.get? p.1 = some p.2 ∧ H p.1 = none ∧ p.1 ≠ X.env.locals ∧ p.1 ∉ X.fs ∧ ∀ v, p.2.data ≠ .cell v) : Inv X pins' σ H s :=
  ⟨I.ok, I.os, I.bare, I.base, I.loc, I.cell, I.free, I.freeC, fun p hp => (List.mem_append.mp hp).elim (fun z => I.pin p (List.mem_append_left _ z)) (h p), I.hok, I.len, I.qd⟩
theorem Zga {N : List Str} (hN : N.Nodup) {i j : Nat} {x : Str} (a : N[i]? = some x) (b : N[j]? = some x) : i = j := by
  obtain ⟨h1, e1⟩ := List.getElem?_eq_some_iff.mp a
  obtain ⟨h2, e2⟩ := List.getElem?_eq_some_iff.mp b
  exact (List.getElem_inj hN).mp (e1.trans e2.symm)
theorem ZeM {M : Model} {A : Around} {E : Value → Shared → Prop} {i : Nat} {x : Str} {v : V} {u : Value} {Q : Unit → Shared → Prop} (I : Inv X pins σ H s) (hN : X.N.Nodup) (hi : X.N[i]? = some x) (hx : Loc X.env.scope x) (r : ZaE v u)
    (h : ∀ s', Inv X pins (σ.set i (some v)) H s' → (∃ a, Heap.SameBut a s.heap s'.heap ∧ (a = X.env.locals ∨ X.env.cells.lookup x = some a)) → Q () s') (hf : X.fn x = true ∨ X.env.scope.names.lookup x = some .local := by first | exact .inl rfl | exact .inr rfl | assumption) : wpAny M A (storeName X.env x u) Q E s := by
  obtain ⟨m, hn, hl⟩ := id I.loc
  have hcls : (X.env.scope.kind == .class || (X.env.scope.kind == .module && X.env.locals != X.env.globals)) = false := by rw [I.ok.kind]; rfl
  have hiσ : i < σ.length := by rw [I.len]; exact (List.getElem?_eq_some_iff.mp hi).1
  have cne := I.cne
  have tracked : ∀ {a : Addr} {h' : Heap}, (∃ o, s.heap.get? a = some o ∧ H a = none) → Heap.SameBut a s.heap h' → HOk X.prog X.w H h' := fun {a h'} ha hs b ob e => by
    obtain ⟨_, _, hfree⟩ := ha
    refine (I.hok b ob e).stay (fun c w' hc q => (hs.2 c ?_).trans q) (fun _ q => q) fun _ _ q => q
    rintro rfl
    rcases hc with rfl | hc
    · rw [hfree] at e; cases e
    · rw [hfree] at hc; cases hc
  rcases hx with hk | hk
  · refine wpAny_storeName_local hk hn (fun h' hn' hs => ?_) hcls
    obtain ⟨oL, _, _, hoL, _⟩ := id hn
    refine h _ ⟨I.ok, I.os, I.bare, ⟨fun b o e n hb hx => ?_, fun b o e n hb hx => ?_, I.base.free, fun b o e hx => ?_, I.base.tups, I.base.frzs, I.base.tbls⟩, ⟨_, hn', fun j y v' e1 e2 e3 => ?_⟩, fun y c e => ?_, I.free, I.freeC, fun p hp => ?_, tracked ⟨oL, hoL, I.free⟩ hs, by simpa using I.len, I.qd⟩ ⟨_, hs, .inl rfl⟩
    · exact (hs.2 b (Nat.ne_of_lt (Nat.lt_of_lt_of_le (Heap.lt_size e) I.ok.above))).trans (I.base.keep b o e n hb hx)
    · obtain ⟨sl, e1⟩ := I.base.slot b o e n hb hx
      exact ⟨sl, (hs.2 b (Nat.ne_of_lt (Nat.lt_of_lt_of_le (Heap.lt_size e) I.ok.above))).trans e1⟩
    · obtain ⟨o', e1⟩ := I.base.there b o e hx
      exact ⟨o', (hs.2 b (Nat.ne_of_lt (Nat.lt_of_lt_of_le (Heap.lt_size e) I.ok.above))).trans e1⟩
    · by_cases hj : j = i
      · subst hj
        rw [hi] at e1; cases e1
        rw [List.getElem?_set_self hiσ] at e2
        cases e2
        exact ⟨u, r, .inl ⟨hk, by simp⟩⟩
      · rw [List.getElem?_set_ne (Ne.symm hj)] at e2
        obtain ⟨u', r', q⟩ := hl j y v' e1 e2 e3
        refine ⟨u', r', ?_⟩
        rcases q with ⟨k, e⟩ | ⟨k, c, e, z⟩
        · refine .inl ⟨k, ?_⟩
          have : y ≠ x := fun e => hj (Zga hN e1 (e ▸ hi))
          simp [this, e]
        · exact .inr ⟨k, c, e, z.sameBut hs (cne y c e)⟩
    · obtain ⟨w', z⟩ := I.cell y c e
      exact ⟨w', z.sameBut hs (cne y c e)⟩
    · obtain ⟨e, n, ne, nf, d⟩ := I.pin p hp
      exact ⟨(hs.2 p.1 ne).trans e, n, ne, nf, d⟩
  · have hfn : X.fn x = true := by
      rcases hf with z | z
      · exact z
      · rw [z] at hk; cases hk
    obtain ⟨c, hc⟩ := I.ok.has x (.inl hk)
    obtain ⟨w', z⟩ := I.cell x c hc
    refine wpAny_storeName_cell I.ok.kind hk hc z (fun h' hc' hs => ?_)
    obtain ⟨oc, hoc, hocd⟩ := id z
    refine h { s with heap := h' } ⟨I.ok, I.os, I.bare, ⟨fun b o e n hb hx => ?_, fun b o e n hb hx => ?_, I.base.free, fun b o e hx => ?_, I.base.tups, I.base.frzs, I.base.tbls⟩, ⟨m, hn.sameBut hs (Ne.symm (cne x c hc)), fun j y v' e1 e2 e3 => ?_⟩, fun y c' e => ?_, I.free, I.freeC, fun p hp => ?_, tracked ⟨oc, hoc, I.freeC x c hc⟩ hs, by simpa using I.len, I.qd⟩ ⟨c, hs, .inr hc⟩
    · exact (hs.2 b (Nat.ne_of_lt (Nat.lt_of_lt_of_le (Heap.lt_size e) (I.ok.cab x c hfn hc)))).trans (I.base.keep b o e n hb hx)
    · obtain ⟨sl, e1⟩ := I.base.slot b o e n hb hx
      exact ⟨sl, (hs.2 b (Nat.ne_of_lt (Nat.lt_of_lt_of_le (Heap.lt_size e) (I.ok.cab x c hfn hc)))).trans e1⟩
    · obtain ⟨o', e1⟩ := I.base.there b o e hx
      exact ⟨o', (hs.2 b (Nat.ne_of_lt (Nat.lt_of_lt_of_le (Heap.lt_size e) (I.ok.cab x c hfn hc)))).trans e1⟩
    · by_cases hj : j = i
      · subst hj
        rw [hi] at e1; cases e1
        rw [List.getElem?_set_self hiσ] at e2
        cases e2
        exact ⟨u, r, .inr ⟨.inl hk, c, hc, hc'⟩⟩
      · rw [List.getElem?_set_ne (Ne.symm hj)] at e2
        obtain ⟨u', r', q⟩ := hl j y v' e1 e2 e3
        refine ⟨u', r', ?_⟩
        rcases q with q | ⟨k, c', e, z'⟩
        · exact .inl q
        · refine .inr ⟨k, c', e, z'.sameBut hs ?_⟩
          rintro rfl
          exact hj (Zga hN e1 (I.ok.inj _ _ _ e hc ▸ hi))
    · by_cases hcc : c' = c
      · subst hcc; exact ⟨_, hc'⟩
      · obtain ⟨w2, z2⟩ := I.cell y c' e
        exact ⟨w2, z2.sameBut hs hcc⟩
    · obtain ⟨e, n, ne, nf, d⟩ := I.pin p hp
      refine ⟨(hs.2 p.1 ?_).trans e, n, ne, nf, d⟩
      intro q
      rw [q, hoc] at e
      have q' : oc = p.2 := Option.some.inj e
      exact d w' (by rw [← q']; exact hocd)
theorem Zdx {M : Model} {A : Around} {E : Value → Shared → Prop} {i : Nat} {x : Str} {v : V} {u : Value} {Q : Unit → Shared → Prop} (I : Inv X pins σ H s) (hN : X.N.Nodup) (hi : X.N[i]? = some x) (hx : Loc X.env.scope x) (r : ZaE v u)
    (h : ∀ s', Inv X pins (σ.set i (some v)) H s' → Q () s') (hf : X.fn x = true ∨ X.env.scope.names.lookup x = some .local := by first | exact .inl rfl | exact .inr rfl | assumption) : wpAny M A (storeName X.env x u) Q E s :=
  ZeM I hN hi hx r (fun s' I' _ => h s' I') hf
theorem Inv.call' {s' : Shared} {ch : List Addr} (I : Inv X pins σ H s) (ho : s'.os = s.os) (u : Un (frs X.stack) ch H H' s.heap s'.heap) (hok : HOk X.prog X.w H' s'.heap) (hg : AllBare s'.gens)
    (hch : ∀ b ∈ ch, (b ∈ X.ex ∨ X.s₀.heap.objs.size ≤ b) ∧ b ≠ X.env.locals ∧ (∀ x c, X.env.cells.lookup x = some c → c ≠ b) ∧ ∀ p ∈ X.pn ++ pins, p.1 ≠ b) : Inv X pins σ H' s' := by
  obtain ⟨h', g', d', t', o'⟩ := s'
  have e : o' = s.os := ho
  subst e
  exact I.call (g' := g') (t' := t') (d' := d') u hok hg hch
end
noncomputable abbrev XK := Value → Option Addr → Hp → Prop
noncomputable abbrev St := List (Option V)
noncomputable abbrev VK := V → Hp → Prop
noncomputable abbrev TE := St → Hp → VK → Prop
noncomputable abbrev TT := St → Hp → (Bool → Hp → Prop) → Prop
noncomputable abbrev TA := St → Hp → (List V → Hp → Prop) → Prop
structure Ends where
  nx : St → Hp → Prop
  rt : VK
  bk : St → Hp → Prop := fun _ _ => False
  ct : St → Hp → Prop := fun _ _ => False
noncomputable abbrev TS := Ends → St → Hp → Prop
noncomputable def EP (X : Cx) (pins : List (Addr × Obj)) (σ : St) (Q : VK) (u : Value) (s' : Shared) : Prop := ∃ v H', Inv X pins σ H' s' ∧ ZaE v u ∧ Q v H'
noncomputable def TP (X : Cx) (pins : List (Addr × Obj)) (σ : St) (Q : Bool → Hp → Prop) (b : Bool) (s' : Shared) : Prop := ∃ H', Inv X pins σ H' s' ∧ Q b H'
noncomputable def AP (X : Cx) (pins : List (Addr × Obj)) (σ : St) (Q : List V → Hp → Prop) (us : List Value) (s' : Shared) : Prop := ∃ vs H', Inv X pins σ H' s' ∧ Z5 vs us ∧ Q vs H'
noncomputable def SP (X : Cx) (pins : List (Addr × Obj)) (D : Ends) (f : Flow) (s' : Shared) : Prop :=
  match f with
  | .next => ∃ σ' H', Inv X pins σ' H' s' ∧ D.nx σ' H'
  | .brk => ∃ σ' H', Inv X pins σ' H' s' ∧ D.bk σ' H'
  | .cont => ∃ σ' H', Inv X pins σ' H' s' ∧ D.ct σ' H'
  | .ret u => ∃ v σ' H', Inv X pins σ' H' s' ∧ ZaE v u ∧ D.rt v H'
noncomputable def PE (X : Cx) (e : Expr) (t : TE) : Prop :=
  ∀ (pins : List (Addr × Obj)) (s : Shared) (σ : St) (H : Hp) (Q : VK), Inv X pins σ H s → t σ H Q → wpAny (model X.prog X.w) X.A (eval e X.env) (EP X pins σ Q) X.xe s
noncomputable def PT (X : Cx) (e : Expr) (t : TT) : Prop :=
  ∀ (pins : List (Addr × Obj)) (s : Shared) (σ : St) (H : Hp) (Q : Bool → Hp → Prop), Inv X pins σ H s → t σ H Q → wpAny (model X.prog X.w) X.A (isTrue e X.env (eval e X.env)) (TP X pins σ Q) X.xe s
noncomputable def PW (X : Cx) (e : Expr) (t : TT) : Prop :=
  ∀ (whole : Sem Value) (pins : List (Addr × Obj)) (s : Shared) (σ : St) (H : Hp) (Q : Bool → Hp → Prop), Inv X pins σ H s → t σ H Q → wpAny (model X.prog X.w) X.A (isTrue e X.env whole) (TP X pins σ Q) X.xe s
theorem PW.pt {X : Cx} {e : Expr} {t : TT} (h : PW X e t) : PT X e t := h _
noncomputable def PA (X : Cx) (es : List Expr) (t : TA) : Prop :=
  ∀ (pos : Pos) (pins : List (Addr × Obj)) (s : Shared) (σ : St) (H : Hp) (Q : List V → Hp → Prop), Inv X pins σ H s → t σ H Q → wpAny (model X.prog X.w) X.A (spliced (backTo pos (starEach es X.env))) (AP X pins σ Q) X.xe s
noncomputable def PS (X : Cx) (st : Stmt) (t : TS) : Prop :=
  ∀ (pins : List (Addr × Obj)) (s : Shared) (σ : St) (H : Hp) (D : Ends), Inv X pins σ H s → t D σ H → wpAny (model X.prog X.w) X.A (exec st X.env) (SP X pins D) X.xe s
noncomputable def PSs (X : Cx) (st : List Stmt) (t : TS) : Prop :=
  ∀ (pins : List (Addr × Obj)) (s : Shared) (σ : St) (H : Hp) (D : Ends), Inv X pins σ H s → t D σ H → wpAny (model X.prog X.w) X.A (execs st X.env) (SP X pins D) X.xe s
theorem thn {α : Type} {t : Sem α} {Q Q' : α → Shared → Prop} {M : Model} {A : Around} {E : Value → Shared → Prop} {s : Shared} (h : wpAny M A t Q E s) (hQ : ∀ a s, Q a s → Q' a s) : wpAny M A t Q' E s := wpAny_mono h hQ fun _ _ x => x
end L2
namespace L2
open PySem PySem.Spec PyProof.Rows
section
variable {X : Cx}
noncomputable def ZrQ (i : Nat) : TE := fun σ H Q => ∃ v, σ[i]? = some (some v) ∧ Q v H
noncomputable def tC (v : V) : TE := fun _ H Q => Q v H
theorem Zl5 {i : Nat} {x : Str} {pos : Pos} (hN : X.N[i]? = some x) (hv : Vis X.env.scope x) (hd : (x == ("__debug__" : Str)) = false := by decide) (hcd : (x == ("__classdict__" : Str)) = false := by decide) : PE X (.Name x pos) (ZrQ i) := by
  intro pins s σ H Q I h
  obtain ⟨v, e, h⟩ := h
  obtain ⟨m, hn, hl⟩ := I.loc
  obtain ⟨u, r, l⟩ := hl i x v hN e hv
  have fin : EP X pins σ Q u s := ⟨v, H, I, r, h⟩
  rcases l with ⟨hk, hm⟩ | ⟨hk, c, hc, hcell⟩
  · exact wpAny_Name (wpAny_loadName_local I.ok.kind hk hn hm fin) hd
  · rcases hk with hk | hk
    · exact wpAny_Name (wpAny_loadName_cell I.ok.kind hk hc hcell fin) hd
    · exact wpAny_Name (wpAny_loadName_free I.ok.kind hk hc hcell fin hcd) hd
theorem ZjM {i j pos} : PE X (.Constant (.int i) j pos) (tC (.int i)) := fun _ _ _ H _ I h => wpAny_Constant_int ⟨.int i, H, I.tok _, ⟨_, rfl⟩, h⟩
theorem ZoU {b j pos} : PE X (.Constant (.bool b) j pos) (tC (.bl b)) := fun _ _ _ H _ I h => Constant_bool ⟨.bl b, H, I, rfl, h⟩
theorem Zl6 {j pos} : PE X (.Constant .none j pos) (tC .non) := fun _ _ _ H _ I h => Constant_none ⟨.non, H, I, rfl, h⟩
theorem Zl7 {x j pos} : PE X (.Constant (.str x) j pos) (tC (.str x)) := fun _ _ _ H _ I h => Calls.Constant_str ⟨.str x, H, I.tok _, ⟨_, rfl⟩, h⟩
noncomputable def Gl (X : Cx) (x : Str) : Prop := X.env.kindOf x = some .globalImplicit
theorem Zho {E : Value → Shared → Prop} {pins : List (Addr × Obj)} {s : Shared} {σ : St} {H : Hp} {x : Str} {u : Value} {pos : Pos} {Q : Value → Shared → Prop} (I : Inv X pins σ H s) (hg : Gl X x) (hm : X.mg x = some u) (h : Q u s)
    (hd : (x == ("__debug__" : Str)) = false := by decide) : wpAny (model X.prog X.w) X.A (eval (.Name x pos) X.env) Q E s :=
  Calls.Name_function_global I.ok.kind hg (Calls.loadGlobal_global (by rw [I.ok.glob]; exact I.mod.glob.keeps I.bk) hm h) hd
theorem ZeN {E : Value → Shared → Prop} {pins : List (Addr × Obj)} {s : Shared} {σ : St} {H : Hp} {x : Str} {u : Value} {pos : Pos} {Q : Value → Shared → Prop} (I : Inv X pins σ H s) (hg : Gl X x) (hm : X.mg x = none) (hv : bootBuiltins x = some u) (h : Q u s)
    (hn : x ≠ "__name__" := by decide) (hd : (x == ("__debug__" : Str)) = false := by decide) : wpAny (model X.prog X.w) X.A (eval (.Name x pos) X.env) Q E s := by
  obtain ⟨mb, h1, h2⟩ := I.mod.blt
  exact Calls.Name_function_global I.ok.kind hg (Calls.loadGlobal_builtin (by rw [I.ok.glob]; exact I.mod.glob.keeps I.bk) hm (by rw [I.ok.blt]; exact h1.keeps I.bk) ((h2 x hn).trans hv) h) hd
theorem Zkv {x : Str} {v : V} {u : Value} {pos : Pos} (hg : Gl X x) (hm : X.mg x = none) (hv : bootBuiltins x = some u) (r : ZaE v u) (hn : x ≠ "__name__" := by decide) (hd : (x == ("__debug__" : Str)) = false := by decide) : PE X (.Name x pos) (tC v) :=
  fun _ _ _ H _ I h => ZeN I hg hm hv ⟨v, H, I, r, h⟩ hn hd
variable {a b : Expr} {ta tb : TE} {pos : Pos}
noncomputable def tB (t : TE) : TT := fun σ H Q => t σ H fun x H1 => ∃ c, x = .bl c ∧ Q c H1
theorem Zl8 {e : Expr} {t : TE} (h : PE X e t) (he : ∀ whole, isTrue e X.env whole = (do let v ← whole; standAt e.pos; holding [v] (truthy v)) := by intro _; rfl) : PT X e (tB t) := by
  intro pins s σ H Q I hw
  refine isTrue_plain (thn (h pins s σ H _ I hw) fun v s1 ⟨x, H1, I1, r1, q1⟩ => ?_) (he _)
  obtain ⟨d, rfl, q⟩ := q1
  cases r1
  exact wpAny_truthy_bool ⟨H1, I1, q⟩
variable {tA tB' : TT} {rest : List Expr}
noncomputable def ZrR (t u : TT) : TT := fun σ H Q => t σ H fun c H1 => if c = true then u σ H1 Q else Q false H1
noncomputable def tOr (t u : TT) : TT := fun σ H Q => t σ H fun c H1 => if c = true then Q true H1 else u σ H1 Q
noncomputable def ZrS (t : TT) : TT := fun σ H Q => t σ H fun c H1 => Q (!c) H1
theorem pw_and1 (ha : PT X a tA) : PW X (.BoolOp .And [a] pos) tA := by
  intro wh pins s σ H Q I h
  refine isTrue_and (thn (ha pins s σ H Q I h) fun c s1 e => ?_)
  cases c with
  | true => exact isTrue_and_nil e
  | false => exact e
theorem pw_or1 (ha : PT X a tA) : PW X (.BoolOp .Or [a] pos) tA := by
  intro wh pins s σ H Q I h
  refine isTrue_or (thn (ha pins s σ H Q I h) fun c s1 e => ?_)
  cases c with
  | false => exact isTrue_or_nil e
  | true => exact e
theorem pw_and (ha : PT X a tA) (hb : PW X (.BoolOp .And (b :: rest) pos) tB') : PW X (.BoolOp .And (a :: b :: rest) pos) (ZrR tA tB') := by
  intro wh pins s σ H Q I h
  refine isTrue_and (thn (ha pins s σ H _ I h) fun c s1 ⟨H1, I1, q1⟩ => ?_)
  cases c with
  | true => exact hb wh pins s1 σ H1 Q I1 q1
  | false => exact ⟨H1, I1, q1⟩
theorem pw_or (ha : PT X a tA) (hb : PW X (.BoolOp .Or (b :: rest) pos) tB') : PW X (.BoolOp .Or (a :: b :: rest) pos) (tOr tA tB') := by
  intro wh pins s σ H Q I h
  refine isTrue_or (thn (ha pins s σ H _ I h) fun c s1 ⟨H1, I1, q1⟩ => ?_)
  cases c with
  | true => exact ⟨H1, I1, q1⟩
  | false => exact hb wh pins s1 σ H1 Q I1 q1
theorem Zl9 (ha : PT X a tA) : PT X (.UnaryOp .Not a pos) (ZrS tA) := by
  intro pins s σ H Q I h
  exact isTrue_not (ha pins s σ H (fun c H1 => Q (!c) H1) I h)
noncomputable def ZoV (ta tb : TE) : TE := fun σ H Q => ta σ H fun x H1 => ∃ c, x = .bl c ∧ if c = true then tb σ H1 Q else Q (.bl false) H1
noncomputable def ZoW (ta : TE) : TE := fun σ H Q => ta σ H fun x H1 => ∃ c, x = .bl c ∧ Q (.bl (!c)) H1
theorem Zma {op} {t : TE} (h : PE X a t) : PE X (.BoolOp op [a] pos) t := fun pins s σ H Q I hw => BoolOp_one (h pins s σ H Q I hw)
theorem Zmb (ha : PE X a ta) (hb : PE X (.BoolOp .And (b :: rest) pos) tb) : PE X (.BoolOp .And (a :: b :: rest) pos) (ZoV ta tb) := by
  intro pins s σ H Q I h
  refine BoolOp_and (thn (ha pins s σ H _ I h) fun v s1 ⟨x, H1, I1, r1, q1⟩ => ?_)
  obtain ⟨c, rfl, q1⟩ := q1
  cases r1
  refine wpAny_truthy_bool ?_
  cases c with
  | true => exact hb pins s1 σ H1 Q I1 q1
  | false => exact ⟨.bl false, H1, I1, rfl, q1⟩
theorem Zmc (ha : PE X a ta) : PE X (.UnaryOp .Not a pos) (ZoW ta) := by
  intro pins s σ H Q I h
  refine UnaryOp_ (thn (ha pins s σ H _ I h) fun v s1 ⟨x, H1, I1, r1, q1⟩ => ?_)
  obtain ⟨c, rfl, q1⟩ := q1
  cases r1
  exact not_of (wpAny_truthy_bool ⟨.bl (!c), H1, I1, rfl, q1⟩)
end
end L2
namespace L2
open PySem PySem.Spec PyProof.Rows
noncomputable def SqL (K : PySem.W.Frag) (H : Hp) (a : Addr) (xs : List V) : Prop :=
  Rd H a (.lst xs) ∨
    ∃ (o : Obj) (its : Array Value) (n : Nat), K.lookup a = some o ∧ o.cls = .type "list" ∧ o.dict = none ∧ o.data = .seq its n ∧ its.size ≤ sizeLine ∧ Z5 xs its.toList
noncomputable def SqT (K : PySem.W.Frag) (H : Hp) (a : Addr) (xs : List V) : Prop :=
  Rd H a (.tup xs) ∨
    ∃ (o : Obj) (its : Array Value) (n : Nat), K.lookup a = some o ∧ o.cls = .type "tuple" ∧ o.data = .seq its n ∧ its.size ≤ sizeLine ∧ Z5 xs its.toList
noncomputable def ZrT : Value → Option V
  | .none => some .non
  | .bool b => some (.bl b)
  | .int i _ => some (.int i)
  | .str x _ => some (.str x)
  | .bytes b _ => some (.byt b)
  | .float b _ => some (.flt b)
  | .ref a => some (.ref a)
  | .type n => some (.ty n)
  | _ => none
theorem ZaE.abs {x : V} {u : Value} (r : ZaE x u) : ZrT u = some x := by
  cases x with
  | non => cases r; rfl
  | bl _ => cases r; rfl
  | int _ => obtain ⟨t, rfl⟩ := r; rfl
  | str _ => obtain ⟨t, rfl⟩ := r; rfl
  | byt _ => obtain ⟨t, rfl⟩ := r; rfl
  | flt _ => obtain ⟨t, rfl⟩ := r; rfl
  | ref _ => cases r; rfl
  | ty _ => cases r; rfl
theorem ZaE.inj {x y : V} {u : Value} (r : ZaE x u) (q : ZaE y u) : x = y := Option.some.inj (r.abs.symm.trans q.abs)
theorem Z5.inj : ∀ {xs ys : List V} {us : List Value}, Z5 xs us → Z5 ys us → xs = ys
  | _, _, _, .nil, .nil => rfl
  | _, _, _, .cons r t, .cons r' t' => by rw [r.inj r', Z5.inj t t']
section
variable {X : Cx} {pins : List (Addr × Obj)} {σ : St} {H : Hp} {s : Shared} {a : Addr} {xs ys : List V}
theorem SqL.of {K : PySem.W.Frag} (h : H a = some (.lst xs)) : SqL K H a xs := .inl (.inl h)
theorem SqT.of {K : PySem.W.Frag} (h : H a = some (.tup xs)) : SqT K H a xs := .inl (.inl h)
theorem Inv.list (I : Inv X pins σ H s) (h : SqL X.K H a xs) : ∃ its : List Value, Z5 xs its ∧ PlainL s.heap a its.toArray ∧ xs.length ≤ sizeLine := by
  rcases h with h | ⟨o, its, n, hk, hc, hd, hs, hz, r⟩
  · obtain ⟨z, its, n, r, e⟩ := h.ok I.hok
    exact ⟨its, r, ⟨_, n, e, rfl, rfl, rfl⟩, z⟩
  · refine ⟨its.toList, r, ⟨o, n, I.kIn a o hk, hc, hd, by simpa using hs⟩, ?_⟩
    have e := r.length
    simp only [Array.length_toList] at e
    omega
theorem Inv.tuple (I : Inv X pins σ H s) (h : SqT X.K H a xs) : ∃ its : List Value, Z5 xs its ∧ IsTup s.heap a its.toArray ∧ xs.length ≤ sizeLine := by
  rcases h with h | ⟨o, its, n, hk, hc, hs, hz, r⟩
  · obtain ⟨z, its, r, p⟩ := h.ok I.hok
    exact ⟨its, r, p, z⟩
  · refine ⟨its.toList, r, ⟨o, I.kIn a o hk, hc, n, by simpa using hs⟩, ?_⟩
    have e := r.length
    simp only [Array.length_toList] at e
    omega
theorem Inv.list_inj (I : Inv X pins σ H s) (h : SqL X.K H a xs) (h' : SqL X.K H a ys) : xs = ys := by
  obtain ⟨its, r, ⟨o, n, e, _, _, d⟩, _⟩ := I.list h
  obtain ⟨its', r', ⟨o', n', e', _, _, d'⟩, _⟩ := I.list h'
  rw [e] at e'; cases e'
  rw [d] at d'
  injection d' with d1 _
  have : its = its' := by simpa using congrArg Array.toList d1
  subst this
  exact r.inj r'
theorem Inv.tuple_inj (I : Inv X pins σ H s) (h : SqT X.K H a xs) (h' : SqT X.K H a ys) : xs = ys := by
  obtain ⟨its, r, ⟨o, e, _, n, d⟩, _⟩ := I.tuple h
  obtain ⟨its', r', ⟨o', e', _, n', d'⟩, _⟩ := I.tuple h'
  rw [e] at e'; cases e'
  rw [d] at d'
  injection d' with d1 _
  have : its = its' := by simpa using congrArg Array.toList d1
  subst this
  exact r.inj r'
end
noncomputable abbrev Cx.wish (X : Cx) (E : Value → Shared → Prop) : Cx := { X with xe := E }
noncomputable abbrev Cx.nox (X : Cx) : Cx := X.wish fun _ _ => False
theorem Cx.Ok.wish {X : Cx} (ok : X.Ok) (E : Value → Shared → Prop) : (X.wish E).Ok :=
  ⟨ok.mod, ok.kind, ok.glob, ok.blt, ok.above, ok.inj, ok.has, ok.cab, ok.hd, ok.frames, ok.stk, ok.exf, ok.bs, ok.bsz, ok.noex, ok.exfs, ok.funs, ok.frf⟩
theorem Cx.Ok.unwish {X : Cx} {E : Value → Shared → Prop} (ok : (X.wish E).Ok) : X.Ok :=
  ⟨ok.mod, ok.kind, ok.glob, ok.blt, ok.above, ok.inj, ok.has, ok.cab, ok.hd, ok.frames, ok.stk, ok.exf, ok.bs, ok.bsz, ok.noex, ok.exfs, ok.funs, ok.frf⟩
section
variable {X : Cx} {pins : List (Addr × Obj)} {σ : St} {H : Hp} {s : Shared} {E : Value → Shared → Prop}
theorem Inv.wish (I : Inv X pins σ H s) (E : Value → Shared → Prop) : Inv (X.wish E) pins σ H s := ⟨I.ok.wish E, I.os, I.bare, I.base, I.loc, I.cell, I.free, I.freeC, I.pin, I.hok, I.len, I.qd⟩
theorem Inv.unwish (I : Inv (X.wish E) pins σ H s) : Inv X pins σ H s := ⟨I.ok.unwish, I.os, I.bare, I.base, I.loc, I.cell, I.free, I.freeC, I.pin, I.hok, I.len, I.qd⟩
theorem SP.unwish {D : Ends} {f : Flow} {s' : Shared} (h : SP (X.wish E) pins D f s') : SP X pins D f s' := by
  cases f with
  | next => obtain ⟨σ', H', I, q⟩ := h; exact ⟨σ', H', I.unwish, q⟩
  | brk => obtain ⟨σ', H', I, q⟩ := h; exact ⟨σ', H', I.unwish, q⟩
  | cont => obtain ⟨σ', H', I, q⟩ := h; exact ⟨σ', H', I.unwish, q⟩
  | ret u => obtain ⟨v, σ', H', I, r, q⟩ := h; exact ⟨v, σ', H', I.unwish, r, q⟩
theorem PE.nox {e : Expr} {t : TE} (h : PE X.nox e t) : PE X e t := fun pins s σ H Q I hw =>
  wpAny_mono (h pins s σ H Q (I.wish _) hw) (fun _ _ ⟨v, H', I', r, q⟩ => ⟨v, H', I'.unwish, r, q⟩) fun _ _ z => False.elim z
theorem PT.nox {e : Expr} {t : TT} (h : PT X.nox e t) : PT X e t := fun pins s σ H Q I hw =>
  wpAny_mono (h pins s σ H Q (I.wish _) hw) (fun _ _ ⟨H', I', q⟩ => ⟨H', I'.unwish, q⟩) fun _ _ z => False.elim z
theorem PSs.nox {st : List Stmt} {t : TS} (h : PSs X.nox st t) : PSs X st t := fun pins s σ H D I hw =>
  wpAny_mono (h pins s σ H D (I.wish _) hw) (fun _ _ q => q.unwish) fun _ _ z => False.elim z
end
section
variable {X : Cx} {st : Stmt} {rest : List Stmt} {t u : TS} {e : Expr} {te : TE} {pos : Pos}
noncomputable def tNext : TS := fun D σ H => D.nx σ H
noncomputable def ZrU (t u : TS) : TS := fun D σ H => t { D with nx := u D } σ H
theorem Zkw : PSs X [] tNext := fun _ _ σ H _ I h => wpAny_execs_nil ⟨σ, H, I, h⟩
theorem ZiV (h1 : PS X st t) (h2 : PSs X rest u) : PSs X (st :: rest) (ZrU t u) := by
  intro pins s σ H D I h
  refine wpAny_execs_cons (thn (h1 pins s σ H { D with nx := u D } I h) fun f s1 q => ?_)
  cases f with
  | next =>
    obtain ⟨σ', H', I', q⟩ := q
    exact h2 pins s1 σ' H' D I' q
  | ret v => exact q
  | brk => exact q
  | cont => exact q
theorem Zkx (h1 : PS X st t) : PSs X [st] t := by
  intro pins s σ H D I h
  refine wpAny_execs_cons (thn (h1 pins s σ H D I h) fun f s1 q => ?_)
  cases f with
  | next => exact wpAny_execs_nil q
  | ret v => exact q
  | brk => exact q
  | cont => exact q
theorem Inv.quiet {pins : List (Addr × Obj)} {σ : St} {H : Hp} {s : Shared} (I : Inv X pins σ H s) : interactive X.env = false := by simp [interactive, I.ok.kind]
noncomputable def ZoX (te : TE) : TS := fun D σ H => te σ H fun _ H1 => D.nx σ H1
theorem Zky (he : PE X e te) (hs : swapsWith e none pos.line X.env = pure false := by rfl) : PS X (.Expr e pos) (ZoX te) := by
  intro pins s σ H D I h
  exact wpAny_Expr_any (thn (he pins s σ H _ I h) fun v s1 ⟨x, H1, I1, r1, q1⟩ => ⟨σ, H1, I1, q1⟩) I.quiet hs
noncomputable def ZrV (te : TE) : TS := fun D σ H => te σ H D.rt
theorem Zmd (he : PE X e te) : PS X (.Return (some e) pos) (ZrV te) := by
  intro pins s σ H D I h
  exact wpAny_Return_some (thn (he pins s σ H _ I h) fun v s1 ⟨x, H1, I1, r1, q1⟩ => ⟨x, σ, H1, I1, r1, q1⟩)
noncomputable def ZrW (c : TT) (t u : TS) : TS := fun D σ H => c σ H fun b H1 => if b = true then t D σ H1 else u D σ H1
theorem ZoY {c : Expr} {a b : List Stmt} {tc : TT} (hc : PT X c tc) (ha : PSs X a t) (hb : PSs X b u) : PS X (.If c a b pos) (ZrW tc t u) := by
  intro pins s σ H D I h
  refine wpAny_If (thn (hc pins s σ H _ I h) fun d s1 ⟨H1, I1, q1⟩ => ?_)
  cases d with
  | true => exact ha pins s1 σ H1 D I1 q1
  | false => exact hb pins s1 σ H1 D I1 q1
end
noncomputable abbrev TG := V → St → Hp → (St → Hp → Prop) → Prop
noncomputable abbrev TGs := List V → St → Hp → (St → Hp → Prop) → Prop
noncomputable def PG (X : Cx) (target : Expr) (t : TG) : Prop :=
  ∀ (pins : List (Addr × Obj)) (s : Shared) (σ : St) (H : Hp) (v : V) (u : Value) (Q : St → Hp → Prop), Inv X pins σ H s → ZaE v u → t v σ H Q →
    wpAny (model X.prog X.w) X.A (assign target X.env u) (fun _ s' => ∃ σ' H', Inv X pins σ' H' s' ∧ Q σ' H') X.xe s
noncomputable def PGs (X : Cx) (ts : List Expr) (t : TGs) : Prop :=
  ∀ (pins : List (Addr × Obj)) (s : Shared) (σ : St) (H : Hp) (vs : List V) (us : List Value) (Q : St → Hp → Prop), Inv X pins σ H s → Z5 vs us → t vs σ H Q →
    wpAny (model X.prog X.w) X.A (assignInOrder ((assignEach ts X.env).map (·.2)) us) (fun _ s' => ∃ σ' H', Inv X pins σ' H' s' ∧ Q σ' H') X.xe s
noncomputable abbrev ZoZ := V → V → V → Hp → (Hp → Prop) → Prop
noncomputable def ZqL (X : Cx) (t : ZoZ) : Prop :=
  ∀ (pins : List (Addr × Obj)) (s : Shared) (σ : St) (H : Hp) (o i v : V) (ov iv u : Value) (Q : Hp → Prop), Inv X pins σ H s → ZaE o ov → ZaE i iv → ZaE v u → t o i v H Q →
    wpAny (model X.prog X.w) X.A (setItem ov iv u) (fun _ s' => ∃ H', Inv X pins σ H' s' ∧ Q H') X.xe s
section
variable {X : Cx} {pos : Pos}
noncomputable def Zme (i : Nat) : TG := fun v σ H Q => Q (σ.set i (some v)) H
theorem Zkz {i : Nat} {x : Str} (hN : X.N.Nodup) (hi : X.N[i]? = some x) (hx : Loc X.env.scope x) (hf : X.fn x = true ∨ X.env.scope.names.lookup x = some .local := by first | exact .inl rfl | exact .inr rfl | assumption) : PG X (.Name x pos) (Zme i) := by
  intro pins s σ H v u Q I r h
  exact wpAny_assign_Name (Zdx I hN hi hx r (fun s' I' => ⟨_, H, I', h⟩) hf)
noncomputable def gNil : TGs := fun vs σ H Q => vs = [] ∧ Q σ H
noncomputable def Zo0 (t : TG) (u : TGs) : TGs := fun vs σ H Q => ∃ v r, vs = v :: r ∧ t v σ H fun σ' H' => u r σ' H' Q
theorem ZkA : PGs X [] gNil := by
  intro pins s σ H vs us Q I r h
  obtain ⟨e, h⟩ := h
  subst e
  cases r
  exact assignInOrder_nil ⟨σ, H, I, h⟩
theorem ZiW {e : Expr} {es : List Expr} {t : TG} {u : TGs} (h1 : PG X e t) (h2 : PGs X es u)
    (hs : (assignEach (e :: es) X.env).map (·.2) = assign e X.env :: (assignEach es X.env).map (·.2) := by rfl) : PGs X (e :: es) (Zo0 t u) := by
  intro pins s σ H vs us Q I r h
  obtain ⟨v, vr, e1, h⟩ := h
  subst e1
  cases r with
  | cons r rr =>
    rw [hs]
    refine assignInOrder_cons (thn (h1 pins s σ H _ _ _ I r h) fun _ s1 ⟨σ1, H1, I1, q1⟩ => ?_)
    exact h2 pins s1 σ1 H1 _ _ Q I1 rr q1
noncomputable def ZrX (K : PySem.W.Frag) (n : Nat) (t : TGs) : TG := fun v σ H Q => ∃ a xs, v = .ref a ∧ SqT K H a xs ∧ xs.length = n ∧ t xs σ H Q
theorem Zmf {es : List Expr} {k : Nat} {t : TGs} {n : Nat} (hc : X.calm = true) (h : PGs X es t)
    (hn : (assignEach es X.env).length = n := by rfl) (hst : (assignEach es X.env).findIdx? (·.1) = none := by rfl) : PG X (.Tuple es k pos) (ZrX X.K n t) := by
  intro pins s σ H v u Q I r hw
  obtain ⟨a, xs, e1, hq, hl, hw⟩ := hw
  subst e1
  cases r
  obtain ⟨its, rv, ht, hz⟩ := I.tuple hq
  refine assign_Tuple_tuple (I.ok.hd hc) ht (by simp [hn, ← hl, rv.length]) hst fun h' hx => ?_
  have I1 : Inv X pins σ H { s with heap := h' } := I.kept (t' := s.toks) fun b o e => hx b o (Nat.ne_of_lt (Heap.lt_size e)) e
  exact h pins _ σ H xs _ Q I1 (by simpa using rv) hw
noncomputable def ZrY (to ti : TE) (t : ZoZ) : TG := fun v σ H Q => to σ H fun o H1 => ti σ H1 fun i H2 => t o i v H2 fun H3 => Q σ H3
theorem Zmg {o i : Expr} {to ti : TE} {t : ZoZ} (ho : PE X o to) (hi : PE X i ti) (hs : ZqL X t)
    (ha : ∀ v, assign (.Subscript o i pos) X.env v = (do
      let ov ← holding [v] (eval o X.env)
      let iv ← holding [v, ov] (eval i X.env)
      standAt pos
      holding [v, ov, iv] (setItem ov iv v)
      release [v, ov, iv] []) := by intro _; rfl) : PG X (.Subscript o i pos) (ZrY to ti t) := by
  intro pins s σ H v u Q I r h
  rw [ha]
  refine wpAny_bind (wpAny_holding (thn (ho pins s σ H _ I h) fun ov s1 ⟨x, H1, I1, r1, q1⟩ => ?_))
  refine wpAny_bind (wpAny_holding (thn (hi pins s1 σ H1 _ I1 q1) fun iv s2 ⟨y, H2, I2, r2, q2⟩ => ?_))
  refine wpAny_bind (wpAny_standAt (wpAny_bind (wpAny_holding (thn (hs pins s2 σ H2 x y v ov iv u _ I2 r1 r2 r q2) fun _ s3 ⟨H3, I3, q3⟩ => ?_))))
  exact wpAny_release ⟨σ, H3, I3, q3⟩
noncomputable def ZqM (te : TE) (g : TG) : TS := fun D σ H => te σ H fun x H1 => g x σ H1 D.nx
theorem ZjN {tg e : Expr} {te : TE} {g : TG} (he : PE X e te) (hg : PG X tg g) (hs : swapsWithSole [tg] e pos.line X.env = pure false := by rfl) (hw : swappedStores [tg] e X.env = pure none := by rfl)
    (h1 : (assignEach [tg] X.env).map (·.2) = [assign tg X.env] := by rfl) : PS X (.Assign [tg] e pos) (ZqM te g) := by
  intro pins s σ H D I h
  refine wpAny_Assign_stores (thn (he pins s σ H _ I h) fun v s1 ⟨x, H1, I1, r1, q1⟩ => ?_) hs hw
  rw [h1]
  exact thn (hg pins s1 σ H1 x v _ I1 r1 q1) fun _ s2 q => q
theorem Zmh {i : Nat} {x : Str} {e : Expr} {te : TE} {pos' : Pos} (hN : X.N.Nodup) (hi : X.N[i]? = some x) (hx : Loc X.env.scope x) (he : PE X e te) (hs : swapsWith e (some (.Name x pos')) pos.line X.env = pure false := by rfl) (hf : X.fn x = true ∨ X.env.scope.names.lookup x = some .local := by first | exact .inl rfl | exact .inr rfl | assumption) :
    PS X (.Assign [.Name x pos'] e pos) (ZqM te (Zme i)) := by
  intro pins s σ H D I h
  refine wpAny_Assign_Name (thn (he pins s σ H _ I h) fun v s1 ⟨y, H1, I1, r1, q1⟩ => ?_) hs
  exact Zdx I1 hN hi hx r1 (fun s2 I2 => ⟨_, H1, I2, q1⟩) hf
noncomputable def ZrZ (i j : Nat) (ta : TA) : TS := fun D σ H => ta σ H fun vs H1 => ∃ v w, vs = [v, w] ∧ D.nx ((σ.set i (some v)).set j (some w)) H1
theorem Zmi {i j : Nat} {x y : Str} {a b : Expr} {ta : TA} {px py pt : Pos} {kt k2 pt2} (hc : X.calm = true) (hN : X.N.Nodup) (hi : X.N[i]? = some x) (hj : X.N[j]? = some y) (hij : i ≠ j)
    (hx : X.env.scope.names.lookup x = some .local) (hy : X.env.scope.names.lookup y = some .local) (ha : PA X [a, b] ta)
    (hw : swappedStores [.Tuple [.Name x px, .Name y py] kt pt] (.Tuple [a, b] k2 pt2) X.env = pure (some [x, y]))
    (hs : swapsWithSole [.Tuple [.Name x px, .Name y py] kt pt] (.Tuple [a, b] k2 pt2) pos.line X.env = pure false := by rfl) :
    PS X (.Assign [.Tuple [.Name x px, .Name y py] kt pt] (.Tuple [a, b] k2 pt2) pos) (ZrZ i j ta) := by
  intro pins s σ H D I h
  rw [exec_Assign_arm]
  refine wpAny_bind (wpAny_standAt ?_)
  rw [hs]
  refine wpAny_bind (wpAny_pure ?_)
  rw [if_neg (by decide)]
  refine wpAny_bind (Tuple_ (thn (ha _ pins s σ H _ I h) fun us s1 ⟨vs, H1, I1, r1, q1⟩ => ?_))
  obtain ⟨v, w, e1, q1⟩ := q1
  subst e1
  obtain ⟨u1, u2, rfl, rv, rw'⟩ : ∃ u1 u2, us = [u1, u2] ∧ ZaE v u1 ∧ ZaE w u2 := by
    cases r1 with
    | cons p q =>
      cases q with
      | cons p' q' =>
        cases q'
        exact ⟨_, _, rfl, p, p'⟩
  refine wpAny_newObj_type ?_ (by show 2 ≤ sizeLine; decide)
  have I2 : Inv X pins σ H1 { s1 with heap := s1.heap.push { cls := .type "tuple", data := .seq [u1, u2].toArray } } := I1.kept (t' := s1.toks) fun b o e => Heap.get?_push_of_some _ e
  rw [hw]
  refine wpAny_bind (wpAny_pure ?_)
  show wpAny (model X.prog X.w) X.A (do rule "assign.swapped-stores"; let items ← unpackItems (.ref s1.heap.objs.size) 2 none; assignInOrder [fun v => bindName X.env y v, fun v => bindName X.env x v] items.reverse; pure Flow.next) _ _ _
  refine wpAny_bind (wpAny_rule (wpAny_bind (unpackItems_tuple (items := #[u1, u2]) (I.ok.hd hc) (IsTup.new s1.heap _) fun h' hx' => ?_)))
  have I3 := I2.kept (h' := h') (t' := s1.toks) fun b o e => hx' b o (Nat.ne_of_lt (Heap.lt_size e)) e
  show wpAny _ _ (assignInOrder [fun v => bindName X.env y v, fun v => bindName X.env x v] [u2, u1] >>= fun _ => pure Flow.next) _ _ _
  refine wpAny_bind (assignInOrder_cons (wpAny_bindName (Zdx I3 hN hj (.inl hy) rw' (fun s2 I4 => ?_) (.inr hy))))
  refine assignInOrder_cons (wpAny_bindName (Zdx I4 hN hi (.inl hx) rv (fun s3 I5 => assignInOrder_nil (wpAny_pure ?_)) (.inr hx)))
  rw [List.set_comm _ _ (Ne.symm hij)] at I5
  exact ⟨_, H1, I5, q1⟩
end
section
variable {X : Cx} {pos : Pos}
noncomputable def Zmj (c : TT) (tb : TS) : TS := fun D σ H => ∃ W : Nat → St → Hp → Prop, (∃ m, W m σ H) ∧ ∀ m σ H, W m σ H →
  c σ H fun b H1 => if b = true then ∃ N : St → Hp → Prop, (∀ σ' H', N σ' H' → ∃ m', m' < m ∧ W m' σ' H') ∧ tb { D with nx := N, ct := N, bk := D.nx } σ H1 else D.nx σ H1
theorem ZiX {c : Expr} {body : List Stmt} {tc : TT} {tb : TS} (hp : PassesOwn (model X.prog X.w) X.A X.env X.xe) (hc : PT X c tc) (hb : PSs X body tb) : PS X (.While c body [] pos) (Zmj tc tb) := by
  intro pins s σ H D I h
  obtain ⟨W, ⟨m0, w0⟩, turn⟩ := h
  refine wpAny_While (codeAny_whileLoop (fun n s' => ∃ σ' H', Inv X pins σ' H' s' ∧ W n σ' H') ?_ m0 ⟨σ, H, I, w0⟩)
  rintro n s1 ⟨σ1, H1, I1, w1⟩
  refine wpAny_passesOwn hp (thn (hc pins s1 σ1 H1 _ I1 (turn n σ1 H1 w1)) fun b s2 ⟨H2, I2, q2⟩ => ?_)
  cases b with
  | true =>
    obtain ⟨N, hN, q2⟩ := q2
    rw [if_pos rfl]
    refine wpAny_passesOwn hp (thn (hb pins s2 σ1 H2 _ I2 q2) fun f s3 q3 => ?_)
    cases f with
    | next =>
      obtain ⟨σ3, H3, I3, n3⟩ := q3
      obtain ⟨m', hm, w3⟩ := hN σ3 H3 n3
      exact ⟨m', hm, σ3, H3, I3, w3⟩
    | cont =>
      obtain ⟨σ3, H3, I3, n3⟩ := q3
      obtain ⟨m', hm, w3⟩ := hN σ3 H3 n3
      exact ⟨m', hm, σ3, H3, I3, w3⟩
    | brk => exact q3
    | ret v => exact q3
  | false =>
    rw [if_neg Bool.false_ne_true]
    exact wpAny_execs_nil ⟨σ1, H2, I2, q2⟩
end
structure It where
  go : Nat → Hp → Prop
  yld : Nat → Hp → V → Hp → Prop
  stop : Nat → Hp → Prop
noncomputable def ZfC (X : Cx) (pins : List (Addr × Obj)) (H : Hp) (b : Addr) : Prop :=
  H b = none ∧ b ≠ X.env.locals ∧ b ∉ X.fs ∧ (b ∈ X.ex ∨ X.s₀.heap.objs.size ≤ b) ∧ (∀ x c, X.env.cells.lookup x = some c → c ≠ b) ∧ ∀ p ∈ X.pn ++ pins, p.1 ≠ b
theorem Inv.fpOk {X : Cx} {pins : List (Addr × Obj)} {σ : St} {H H' : Hp} {s : Shared} {b : Addr} (I : Inv X pins σ H s) (hb : s.heap.objs.size ≤ b) (hn : H' b = none) : ZfC X pins H' b := by
  refine ⟨hn, Nat.ne_of_gt (Nat.lt_of_lt_of_le I.lt hb), I.nofs hb, .inr (Nat.le_trans I.sz hb), fun x c e z => ?_, fun p hp z => ?_⟩
  · obtain ⟨v, q⟩ := I.cell x c e
    exact absurd (Nat.lt_of_lt_of_le q.lt (by rw [z]; exact hb)) (Nat.lt_irrefl _)
  · exact absurd (Nat.lt_of_lt_of_le (Heap.lt_size (I.pin p hp).1) (by rw [z]; exact hb)) (Nat.lt_irrefl _)
structure Turn (P : Program) (w : World) (K : PySem.W.Frag) (B : Around) (tg : Expr) (J : It) (fp : List Addr) (it : Addr) (tn : Nat → Heap → Prop) : Prop where
  mem : it ∈ fp
  obj : ∀ i h, tn i h → ∀ b ∈ fp, ∃ o, h.get? b = some o ∧ ∀ v, o.data ≠ .cell v
  keep : ∀ i h h', tn i h → (∀ b ∈ fp, ∀ o, h.get? b = some o → h'.get? b = some o) → tn i h'
  item : ∀ (X : Cx), X.prog = P → X.w = w → X.K = K → X.A = B → ∀ (i : Nat) (pins : List (Addr × Obj)) (s : Shared) (σ : St) (H : Hp) (E : Value → Shared → Prop), Inv X pins σ H s → (∀ b ∈ fp, ZfC X pins H b) → tn i s.heap → J.go i H →
    wpAny (model P w) X.A (pyNext (.ref it)) (fun r s1 => ∃ u, r = some u ∧
      wpAny (model P w) X.A (letOwnedTupleGo tg (.ref it) u) (fun _ s2 => ∃ x H', Inv X pins σ H' s2 ∧ ZaE x u ∧ J.yld i H x H' ∧ tn (i + 1) s2.heap ∧ ∀ b ∈ fp, H' b = none) E s1) E s
  done : ∀ (X : Cx), X.prog = P → X.w = w → X.K = K → X.A = B → ∀ (i : Nat) (pins : List (Addr × Obj)) (s : Shared) (σ : St) (H : Hp) (E : Value → Shared → Prop), Inv X pins σ H s → (∀ b ∈ fp, ZfC X pins H b) → tn i s.heap → J.stop i H →
    wpAny (model P w) X.A (pyNext (.ref it)) (fun r s1 => r = none ∧ Inv X pins σ H s1) E s
  self : ∀ (A : Around) (i : Nat) (s : Shared) (Q : Value → Shared → Prop) (E : Value → Shared → Prop), tn i s.heap → Q (.ref it) s → wpAny (model P w) A (pyIter (.ref it)) Q E s
noncomputable abbrev TI := St → Hp → (It → Hp → Prop) → Prop
noncomputable def PIE (X : Cx) (pins : List (Addr × Obj)) (σ : St) (tg : Expr) (R : It → Hp → Prop) (itv : Value) (s2 : Shared) : Prop :=
  ∃ (it : Addr) (fp : List Addr) (tn : Nat → Heap → Prop) (J : It) (H' : Hp), itv = .ref it ∧ Inv X pins σ H' s2 ∧ Turn X.prog X.w X.K X.A tg J fp it tn ∧ tn 0 s2.heap ∧ (∀ b ∈ fp, ZfC X pins H' b) ∧ R J H'
noncomputable def PI (X : Cx) (tg iter : Expr) (wi : TI) : Prop :=
  ∀ (pins : List (Addr × Obj)) (s : Shared) (σ : St) (H : Hp) (R : It → Hp → Prop), Inv X pins σ H s → wi σ H R →
    wpAny (model X.prog X.w) X.A (eval iter X.env) (fun v s1 => wpAny (model X.prog X.w) X.A (pyIter v) (PIE X pins σ tg R) X.xe s1) X.xe s
theorem ZkB {M : Model} {A : Around} {E : Value → Shared → Prop} {s : Shared} {tg : Expr} {it : Addr} {u : Value} {o : Obj} {n : String} {vs : Array Value} {Q : Unit → Shared → Prop} (ho : s.heap.get? it = some o) (hc : o.cls = .type n) (hd : o.data = .fields vs)
    (hn : ["enumerate", "zip", "dict_itemiterator", "dict_reverseitemiterator", "odict_iterator", "itertools.zip_longest", "itertools.pairwise"].contains n = false) (hQ : Q () s) : wpAny M A (letOwnedTupleGo tg (.ref it) u) Q E s := by
  unfold letOwnedTupleGo
  cases tg <;> first
    | exact wpAny_pure hQ
    | (cases u <;> first
        | exact wpAny_pure hQ
        | (refine wpAny_bind (wpAny_load ho ?_)
           rw [hc, hd]
           show wpAny M A (if (["enumerate", "zip", "dict_itemiterator", "dict_reverseitemiterator", "odict_iterator", "itertools.zip_longest", "itertools.pairwise"].contains n && vs[0]? == some (rawInt _)) = true then _ else _) Q E s
           rw [if_neg (by intro h; rw [hn, Bool.false_and] at h; cases h)]
           exact wpAny_pure hQ))
noncomputable def Itl (K : PySem.W.Frag) (a : Addr) : It :=
  ⟨fun i H => ∃ xs x, SqL K H a xs ∧ xs[i]? = some x, fun i H x H' => H' = H ∧ ∀ xs, SqL K H a xs → xs[i]? = some x, fun i H => ∃ xs, SqL K H a xs ∧ xs.length ≤ i⟩
noncomputable def Itt (K : PySem.W.Frag) (a : Addr) : It :=
  ⟨fun i H => ∃ xs x, SqT K H a xs ∧ xs[i]? = some x, fun i H x H' => H' = H ∧ ∀ xs, SqT K H a xs → xs[i]? = some x, fun i H => ∃ xs, SqT K H a xs ∧ xs.length ≤ i⟩
noncomputable def Itr (lo : Int) (n : Nat) : It := ⟨fun i _ => i < n, fun i H x H' => H' = H ∧ x = .int (lo + i), fun i _ => n ≤ i⟩
theorem Zhp {P : Program} {w : World} {K : PySem.W.Frag} {B : Around} {tg : Expr} (a it : Addr) : Turn P w K B tg (Itl K a) [it] it (fun i h => h.IsListIter it a i) where
  mem := by simp
  obj := fun i h st b hb => by
    have e : b = it := by simpa using hb
    subst e
    obtain ⟨o, e, c, d⟩ := st
    exact ⟨o, e, fun v z => by rw [d] at z; cases z⟩
  keep := fun i h h' st k => st.at fun o e => k it (by simp) o e
  item := by
    intro X hP hw hK hB i pins s σ H E I hf st hg
    subst hP hw hK
    obtain ⟨xs, x, hq, hx⟩ := hg
    obtain ⟨its, rv, p, hz⟩ := I.list hq
    obtain ⟨u, hu, ru⟩ := rv.get hx
    obtain ⟨f0, f1, f2, f3, f4, f5⟩ := hf it (by simp)
    refine wpAny_pyNext_list_item st p.isList (x := u) (by simpa using hu) fun h' st' sb => ?_
    have I1 : Inv X pins σ H { s with heap := h' } := I.turned (t' := s.toks) (fun b o hb e => (sb.2 b hb).trans e) f0 f1 f3 f4 f5
    obtain ⟨o, e, c, d⟩ := id st'
    exact ⟨u, rfl, ZkB (s := { s with heap := h' }) e c d (by decide) ⟨x, H, I1, ru, ⟨rfl, fun ys hy => by rw [I.list_inj hy hq]; exact hx⟩, st', fun b hb => (hf b hb).1⟩⟩
  done := by
    intro X hP hw hK hB i pins s σ H E I hf st hg
    subst hP hw hK
    obtain ⟨xs, hq, hx⟩ := hg
    obtain ⟨its, rv, p, hz⟩ := I.list hq
    obtain ⟨f0, f1, f2, f3, f4, f5⟩ := hf it (by simp)
    have hl := rv.length
    exact DQ.ZiU I.qh st p.isList (by simp; omega) fun h' eb => ⟨rfl, I.turned (t' := s.toks) (fun b o hb e => eb b o hb e) f0 f1 f3 f4 f5⟩
  self := fun _ _ _ _ _ st h => wpAny_pyIter_listiter st h
theorem ZgH {P : Program} {w : World} {K : PySem.W.Frag} {B : Around} {tg : Expr} (a it : Addr) : Turn P w K B tg (Itt K a) [it] it (fun i h => h.IsTupleIter it a i) where
  mem := by simp
  obj := fun i h st b hb => by
    have e : b = it := by simpa using hb
    subst e
    obtain ⟨o, e, c, d⟩ := st
    exact ⟨o, e, fun v z => by rw [d] at z; cases z⟩
  keep := fun i h h' st k => st.at fun o e => k it (by simp) o e
  item := by
    intro X hP hw hK hB i pins s σ H E I hf st hg
    subst hP hw hK
    obtain ⟨xs, x, hq, hx⟩ := hg
    obtain ⟨its, rv, p, hz⟩ := I.tuple hq
    obtain ⟨u, hu, ru⟩ := rv.get hx
    obtain ⟨f0, f1, f2, f3, f4, f5⟩ := hf it (by simp)
    refine wpAny_pyNext_tuple_item st (show s.heap.IsTuple a its.toArray from p) (x := u) (by simpa using hu) fun h' st' sb => ?_
    have I1 : Inv X pins σ H { s with heap := h' } := I.turned (t' := s.toks) (fun b o hb e => (sb.2 b hb).trans e) f0 f1 f3 f4 f5
    obtain ⟨o, e, c, d⟩ := id st'
    exact ⟨u, rfl, ZkB (s := { s with heap := h' }) e c d (by decide) ⟨x, H, I1, ru, ⟨rfl, fun ys hy => by rw [I.tuple_inj hy hq]; exact hx⟩, st', fun b hb => (hf b hb).1⟩⟩
  done := by
    intro X hP hw hK hB i pins s σ H E I hf st hg
    subst hP hw hK
    obtain ⟨xs, hq, hx⟩ := hg
    obtain ⟨its, rv, p, hz⟩ := I.tuple hq
    obtain ⟨f0, f1, f2, f3, f4, f5⟩ := hf it (by simp)
    have hl := rv.length
    exact DQ.Zhk I.qh st (show s.heap.IsTuple a its.toArray from p) (by simp; omega) fun h' eb => ⟨rfl, I.turned (t' := s.toks) (fun b o hb e => eb b o hb e) f0 f1 f3 f4 f5⟩
  self := fun _ _ _ _ _ st h => wpAny_pyIter_tupleiter st h
theorem ZgI {P : Program} {w : World} {K : PySem.W.Frag} {B : Around} {tg : Expr} (it : Addr) (lo : Int) (n : Nat) : Turn P w K B tg (Itr lo n) [it] it (fun i h => IsRangeIter h it (lo + (i : Nat) * 1) ((n : Int) - (i : Nat)) 1) where
  mem := by simp
  obj := fun i h st b hb => by
    have e : b = it := by simpa using hb
    subst e
    exact ⟨_, st, fun v z => by
      have z' : Data.fields _ = Data.cell v := z
      cases z'⟩
  keep := fun i h h' st k => k it (by simp) _ st
  item := by
    intro X hP hw hK hB i pins s σ H E I hf st hg
    subst hP hw hK
    obtain ⟨f0, f1, f2, f3, f4, f5⟩ := hf it (by simp)
    have hlt : i < n := hg
    refine wpAny_pyNext_range_item st (by omega) fun h' st' sb => ?_
    have I1 : Inv X pins σ H { s with heap := h', toks := s.toks + 1 } := I.turned (fun b o hb e => (sb.2 b hb).trans e) f0 f1 f3 f4 f5
    have st2 : IsRangeIter h' it (lo + ((i + 1 : Nat) : Int) * 1) ((n : Int) - ((i + 1 : Nat) : Int)) 1 := by
      have e1 : lo + ((i + 1 : Nat) : Int) * 1 = lo + (i : Nat) * 1 + 1 := by omega
      have e2 : (n : Int) - ((i + 1 : Nat) : Int) = (n : Int) - (i : Nat) - 1 := by omega
      rw [e1, e2]
      exact st'
    refine ⟨_, rfl, ZkB (s := { s with heap := h', toks := s.toks + 1 }) (n := "range_iterator") st2 rfl rfl (by decide) ⟨.int (lo + i), H, I1, ⟨s.toks, ?_⟩, ⟨rfl, rfl⟩, st2, fun b hb => (hf b hb).1⟩⟩
    rw [Int.mul_one]
  done := by
    intro X hP hw hK hB i pins s σ H E I hf st hg
    subst hP hw hK
    obtain ⟨f0, f1, f2, f3, f4, f5⟩ := hf it (by simp)
    exact DQ.Zhj I.qh st (by have : n ≤ i := hg; omega) fun h' eb => ⟨rfl, I.turned (t' := s.toks) (fun b o hb e => eb b o hb e) f0 f1 f3 f4 f5⟩
  self := fun _ _ _ _ _ st h => wpAny_pyIter_rangeiter st h
end L2
namespace L2
open PySem PySem.Spec PyProof.Rows
section
variable {X : Cx} {tg : Expr}
theorem ZiY {pins : List (Addr × Obj)} {σ : St} {H : Hp} {s : Shared} {R : It → Hp → Prop} {E : Value → Shared → Prop} {lo hi : Int} {t u v : Tok} {tk : Nat} (I : Inv X pins σ H s) (h1 : -(2 ^ 62) ≤ lo) (h2 : lo < 2 ^ 62) (h3 : -(2 ^ 62) ≤ hi) (h4 : hi < 2 ^ 62)
    (q : R (Itr lo (hi - lo).toNat) H) : wpAny (model X.prog X.w) X.A (pyIter (.ref s.heap.objs.size)) (PIE X pins σ tg R) E { s with heap := s.heap.push { cls := .type "range", data := .fields #[.int lo t, .int hi u, .int 1 v] }, toks := tk } := by
  refine wpAny_pyIter_range (IsRange.new ..) (small_one h1 h2 h3 h4) ?_
  have I1 : Inv X pins σ H { s with heap := s.heap.push { cls := .type "range", data := .fields #[.int lo t, .int hi u, .int 1 v] }, toks := tk } := I.kept fun b o e => Heap.get?_push_of_some _ e
  refine ⟨(s.heap.push { cls := .type "range", data := .fields #[.int lo t, .int hi u, .int 1 v] }).objs.size, [(s.heap.push { cls := .type "range", data := .fields #[.int lo t, .int hi u, .int 1 v] }).objs.size], _, _, H, rfl,
    I1.kept (t' := tk) fun b o e => Heap.get?_push_of_some _ e, ZgI _ lo (hi - lo).toNat, ?_, fun b hb => ?_, q⟩
  · have e1 : lo + ((0 : Nat) : Int) * 1 = lo := by simp
    have e2 : (((hi - lo).toNat : Nat) : Int) - ((0 : Nat) : Int) = Builtin.Range.rangeSize lo hi 1 := by rw [rangeSize_one]; split <;> omega
    show IsRangeIter _ _ (lo + ((0 : Nat) : Int) * 1) ((((hi - lo).toNat : Nat) : Int) - ((0 : Nat) : Int)) 1
    rw [e1, e2]
    exact Heap.get?_push_size _ rfl
  · have e : b = (s.heap.push { cls := .type "range", data := .fields #[.int lo t, .int hi u, .int 1 v] }).objs.size := by simpa using hb
    subst e
    exact I1.fpOk (Nat.le_refl _) (I1.hok.fresh (Nat.le_refl _))
noncomputable def Zo1 (ta : TA) : TI := fun σ H R => ta σ H fun vs H1 => ∃ j : Int, vs = [.int j] ∧ -(2 ^ 62) ≤ j ∧ j < 2 ^ 62 ∧ R (Itr 0 j.toNat) H1
theorem ZeO {a : Expr} {ta : TA} {p pos : Pos} (hg : Gl X "range") (hm : X.mg "range" = none) (ha : PA X [a] ta) (hs : starEach [a] X.env = [(false, eval a X.env)] := by rfl) : PI X tg (.Call (.Name "range" p) [a] [] pos) (Zo1 ta) := by
  intro pins s σ H R I h
  refine Call_ (ZeN I hg hm boot_range (PyProof.Rows.callWith_type1 (thn (ha pos pins s σ H _ I h) fun us s1 ⟨vs, H1, I1, r1, q1⟩ => ?_) hs rfl))
  obtain ⟨j, e, q1, q2, q⟩ := q1
  subst e
  cases r1 with
  | cons r rr =>
    cases rr
    obtain ⟨t, rfl⟩ := r
    exact call_range_1 (ZiY I1 (by omega) (by omega) q1 q2 (by simpa using q))
noncomputable def Zr0 (wi : TI) (g : TG) (tb : TS) : TS := fun D σ H => wi σ H fun J H1 => ∃ W : Nat → Nat → St → Hp → Prop, (∃ m, W 0 m σ H1) ∧ ∀ i m σ H, W i m σ H →
  (J.stop i H ∧ D.nx σ H) ∨ (J.go i H ∧ ∃ N : St → Hp → Prop, (∀ σ' H', N σ' H' → ∃ m', m' < m ∧ W (i + 1) m' σ' H') ∧ ∀ x H', J.yld i H x H' → g x σ H' fun σ2 H2 => tb { D with nx := N, ct := N, bk := D.nx } σ2 H2)
noncomputable def Zdk (fp : List Addr) (h : Heap) : List (Addr × Obj) := fp.filterMap fun b => (h.get? b).map fun o => (b, o)
theorem Zbf {fp : List Addr} {h : Heap} {b : Addr} {o : Obj} (hb : b ∈ fp) (e : h.get? b = some o) : (b, o) ∈ Zdk fp h := List.mem_filterMap.mpr ⟨b, hb, by rw [e]; rfl⟩
theorem Zhq {fp : List Addr} {h : Heap} {p : Addr × Obj} (hp : p ∈ Zdk fp h) : p.1 ∈ fp ∧ h.get? p.1 = some p.2 := by
  obtain ⟨b, hb, e⟩ := List.mem_filterMap.mp hp
  cases q : h.get? b with
  | none => rw [q] at e; cases e
  | some o =>
    rw [q] at e
    have e' : (b, o) = p := Option.some.inj e
    subst e'
    exact ⟨hb, q⟩
theorem Inv.pinned {pins : List (Addr × Obj)} {σ : St} {H : Hp} {s : Shared} {fp : List Addr} (I : Inv X pins σ H s) (hf : ∀ b ∈ fp, ZfC X pins H b) (ho : ∀ b ∈ fp, ∃ o, s.heap.get? b = some o ∧ ∀ v, o.data ≠ .cell v) : Inv X (pins ++ Zdk fp s.heap) σ H s :=
  I.pins_of fun p hp => (List.mem_append.mp hp).elim (fun z => I.pin p (List.mem_append_right _ z)) fun z => by
    obtain ⟨hb, e⟩ := Zhq z
    obtain ⟨f0, f1, f2, _⟩ := hf p.1 hb
    obtain ⟨o, e', d⟩ := ho p.1 hb
    rw [e] at e'; cases e'
    exact ⟨e, f0, f1, f2, d⟩
theorem Inv.unpinned {pins pl : List (Addr × Obj)} {σ : St} {H : Hp} {s : Shared} (I : Inv X (pins ++ pl) σ H s) : Inv X pins σ H s := I.pins_of fun p hp => I.pin p (List.mem_append_right _ (List.mem_append_left _ hp))
theorem Zhr {iter : Expr} {body : List Stmt} {wi : TI} {g : TG} {tb : TS} {pos : Pos} (hp : PassesOwn (model X.prog X.w) X.A X.env X.xe) (hi : PI X tg iter wi) (hg : PG X tg g) (hb : PSs X body tb)
    (hs : ∀ x, foldedSetIterable iter X.env x = pure x := by intro _; rfl) : PS X (.For tg iter body [] pos) (Zr0 wi g tb) := by
  intro pins s σ H D I h
  refine wpAny_For (thn (hi pins s σ H _ I h) fun v s1 h1 => thn h1 fun itv s2 h2 => ?_) hs
  obtain ⟨it, fp, tn, J, H2, e, I2, T, st2, f2, W, ⟨m0, w0⟩, turn⟩ := h2
  subst e
  have stat : ∀ {H' : Hp}, (∀ b ∈ fp, H' b = none) → ∀ b ∈ fp, ZfC X pins H' b := fun hn b hb => ⟨hn b hb, (f2 b hb).2⟩
  refine codeAny_forLoop_any (fun n s' => ∃ i σ' H', Inv X pins σ' H' s' ∧ tn i s'.heap ∧ (∀ b ∈ fp, H' b = none) ∧ W i n σ' H') ?_ m0 ⟨0, σ, H2, I2, st2, fun b hb => (f2 b hb).1, w0⟩
  rintro n s3 ⟨i, σ3, H3, I3, st3, fr3, w3⟩
  rcases turn i n σ3 H3 w3 with ⟨stop, qn⟩ | ⟨go, N, hN, step⟩
  · refine wpAny_passesOwn hp (thn (T.done X rfl rfl rfl rfl i pins s3 σ3 H3 X.xe I3 (stat fr3) st3 stop) fun r s4 ⟨hr, I4⟩ => ?_)
    subst hr
    exact wpAny_execs_nil ⟨σ3, H3, I4, qn⟩
  · refine wpAny_passesOwn hp (thn (T.item X rfl rfl rfl rfl i pins s3 σ3 H3 X.xe I3 (stat fr3) st3 go) fun r s4 ⟨u, hr, h4⟩ => ?_)
    subst hr
    refine wpAny_passesOwn hp (thn h4 fun _ s5 ⟨x, H5, I5, r5, y5, st5, fr5⟩ => ?_)
    have I5' := I5.pinned (stat fr5) (T.obj _ _ st5)
    refine wpAny_passesOwn hp (thn (hg _ s5 σ3 H5 x u _ I5' r5 (step x H5 y5)) fun _ s6 ⟨σ6, H6, I6, q6⟩ => ?_)
    refine wpAny_passesOwn hp (thn (hb _ s6 σ6 H6 _ I6 q6) fun f s7 q7 => ?_)
    have again : ∀ {σ7 : St} {H7 : Hp}, Inv X (pins ++ Zdk fp s5.heap) σ7 H7 s7 → N σ7 H7 → ∃ m, m < n ∧ ∃ i σ' H', Inv X pins σ' H' s7 ∧ tn i s7.heap ∧ (∀ b ∈ fp, H' b = none) ∧ W i m σ' H' := fun {σ7 H7} I7 n7 => by
      obtain ⟨m', hm, w7⟩ := hN σ7 H7 n7
      refine ⟨m', hm, i + 1, σ7, H7, I7.unpinned, T.keep _ _ _ st5 fun b hb o e => (I7.pin (b, o) (List.mem_append_right _ (List.mem_append_right _ (Zbf hb e)))).1, fun b hb => ?_, w7⟩
      obtain ⟨o, e, d⟩ := T.obj _ _ st5 b hb
      exact (I7.pin (b, o) (List.mem_append_right _ (List.mem_append_right _ (Zbf hb e)))).2.1
    cases f with
    | next => obtain ⟨σ7, H7, I7, n7⟩ := q7; exact again I7 n7
    | cont => obtain ⟨σ7, H7, I7, n7⟩ := q7; exact again I7 n7
    | brk => obtain ⟨σ7, H7, I7, q7⟩ := q7; exact ⟨σ7, H7, I7.unpinned, q7⟩
    | ret v => obtain ⟨x7, σ7, H7, I7, r7, q7⟩ := q7; exact ⟨x7, σ7, H7, I7.unpinned, r7, q7⟩
end
theorem ZiZ {K : PySem.W.Frag} {a : Addr} {xs : List V} {g : TG} {tb : TS} {D : Ends} {σ : St} {H : Hp} (Pv : Nat → St → Hp → Prop) (h0 : Pv 0 σ H) (hl : ∀ i σ H, i ≤ xs.length → Pv i σ H → SqL K H a xs)
    (hs : ∀ i x σ H, xs[i]? = some x → Pv i σ H → g x σ H fun σ2 H2 => tb { D with nx := Pv (i + 1), ct := Pv (i + 1), bk := D.nx } σ2 H2) (hd : ∀ σ H, Pv xs.length σ H → D.nx σ H) :
    ∃ W : Nat → Nat → St → Hp → Prop, (∃ m, W 0 m σ H) ∧ ∀ i m σ H, W i m σ H →
      ((Itl K a).stop i H ∧ D.nx σ H) ∨ ((Itl K a).go i H ∧ ∃ N : St → Hp → Prop, (∀ σ' H', N σ' H' → ∃ m', m' < m ∧ W (i + 1) m' σ' H') ∧ ∀ x H', (Itl K a).yld i H x H' → g x σ H' fun σ2 H2 => tb { D with nx := N, ct := N, bk := D.nx } σ2 H2) := by
  refine ⟨fun i m σ H => m = xs.length - i ∧ i ≤ xs.length ∧ Pv i σ H, ⟨xs.length, by simp, Nat.zero_le _, h0⟩, ?_⟩
  rintro i m σ H ⟨rfl, hi, p⟩
  have q := hl i σ H hi p
  by_cases hlt : i < xs.length
  · refine .inr ⟨⟨xs, xs[i], q, by simp [hlt]⟩, Pv (i + 1), fun σ' H' p' => ⟨xs.length - (i + 1), by omega, rfl, hlt, p'⟩, fun x H' y => ?_⟩
    obtain ⟨e, y⟩ := y
    subst e
    exact hs i x σ _ (y xs q) p
  · have e : i = xs.length := by omega
    subst e
    exact .inl ⟨⟨xs, q, Nat.le_refl _⟩, hd σ H p⟩
theorem ZkC {K : PySem.W.Frag} {a : Addr} {xs : List V} {g : TG} {tb : TS} {D : Ends} {σ : St} {H : Hp} (Pv : Nat → St → Hp → Prop) (h0 : Pv 0 σ H) (hl : ∀ i σ H, i ≤ xs.length → Pv i σ H → SqT K H a xs)
    (hs : ∀ i x σ H, xs[i]? = some x → Pv i σ H → g x σ H fun σ2 H2 => tb { D with nx := Pv (i + 1), ct := Pv (i + 1), bk := D.nx } σ2 H2) (hd : ∀ σ H, Pv xs.length σ H → D.nx σ H) :
    ∃ W : Nat → Nat → St → Hp → Prop, (∃ m, W 0 m σ H) ∧ ∀ i m σ H, W i m σ H →
      ((Itt K a).stop i H ∧ D.nx σ H) ∨ ((Itt K a).go i H ∧ ∃ N : St → Hp → Prop, (∀ σ' H', N σ' H' → ∃ m', m' < m ∧ W (i + 1) m' σ' H') ∧ ∀ x H', (Itt K a).yld i H x H' → g x σ H' fun σ2 H2 => tb { D with nx := N, ct := N, bk := D.nx } σ2 H2) := by
  refine ⟨fun i m σ H => m = xs.length - i ∧ i ≤ xs.length ∧ Pv i σ H, ⟨xs.length, by simp, Nat.zero_le _, h0⟩, ?_⟩
  rintro i m σ H ⟨rfl, hi, p⟩
  have q := hl i σ H hi p
  by_cases hlt : i < xs.length
  · refine .inr ⟨⟨xs, xs[i], q, by simp [hlt]⟩, Pv (i + 1), fun σ' H' p' => ⟨xs.length - (i + 1), by omega, rfl, hlt, p'⟩, fun x H' y => ?_⟩
    obtain ⟨e, y⟩ := y
    subst e
    exact hs i x σ _ (y xs q) p
  · have e : i = xs.length := by omega
    subst e
    exact .inl ⟨⟨xs, q, Nat.le_refl _⟩, hd σ H p⟩
theorem Zhs {lo : Int} {n : Nat} {g : TG} {tb : TS} {D : Ends} {σ : St} {H : Hp} (Pv : Nat → St → Hp → Prop) (h0 : Pv 0 σ H)
    (hs : ∀ i σ H, i < n → Pv i σ H → g (.int (lo + i)) σ H fun σ2 H2 => tb { D with nx := Pv (i + 1), ct := Pv (i + 1), bk := D.nx } σ2 H2) (hd : ∀ σ H, Pv n σ H → D.nx σ H) :
    ∃ W : Nat → Nat → St → Hp → Prop, (∃ m, W 0 m σ H) ∧ ∀ i m σ H, W i m σ H →
      ((Itr lo n).stop i H ∧ D.nx σ H) ∨ ((Itr lo n).go i H ∧ ∃ N : St → Hp → Prop, (∀ σ' H', N σ' H' → ∃ m', m' < m ∧ W (i + 1) m' σ' H') ∧ ∀ x H', (Itr lo n).yld i H x H' → g x σ H' fun σ2 H2 => tb { D with nx := N, ct := N, bk := D.nx } σ2 H2) := by
  refine ⟨fun i m σ H => m = n - i ∧ i ≤ n ∧ Pv i σ H, ⟨n, by simp, Nat.zero_le _, h0⟩, ?_⟩
  rintro i m σ H ⟨rfl, hi, p⟩
  by_cases hlt : i < n
  · refine .inr ⟨hlt, Pv (i + 1), fun σ' H' p' => ⟨n - (i + 1), by omega, rfl, hlt, p'⟩, fun x H' y => ?_⟩
    obtain ⟨e, y⟩ := y
    subst e y
    exact hs i σ _ hlt p
  · have e : i = n := by omega
    subst e
    exact .inl ⟨Nat.le_refl _, hd σ H p⟩
end L2
namespace L2
open PySem PySem.Spec PyProof.Rows
noncomputable abbrev R2 := V → V → Hp → VK → Prop
noncomputable def OpR (X : Cx) (f : Value → Value → Sem Value) (r : R2) : Prop :=
  ∀ (pins : List (Addr × Obj)) (s : Shared) (σ : St) (H : Hp) (x y : V) (v u : Value) (Q : VK), Inv X pins σ H s → ZaE x v → ZaE y u → r x y H Q →
    wpAny (model X.prog X.w) X.A (f v u) (EP X pins σ Q) X.xe s
noncomputable def UnR (X : Cx) (f : Value → Sem Value) (r : V → Hp → VK → Prop) : Prop :=
  ∀ (pins : List (Addr × Obj)) (s : Shared) (σ : St) (H : Hp) (x : V) (v : Value) (Q : VK), Inv X pins σ H s → ZaE x v → r x H Q →
    wpAny (model X.prog X.w) X.A (f v) (EP X pins σ Q) X.xe s
noncomputable def Zcr (X : Cx) (f : Value) (r : List V → Hp → VK → Prop) : Prop :=
  ∀ (pins : List (Addr × Obj)) (s : Shared) (σ : St) (H : Hp) (xs : List V) (us : List Value) (Q : VK), Inv X pins σ H s → Z5 xs us → r xs H Q →
    wpAny (model X.prog X.w) X.A (call f us) (EP X pins σ Q) X.xe s
noncomputable def tOp (r : R2) (ta tb : TE) : TE := fun σ H Q => ta σ H fun x H1 => tb σ H1 fun y H2 => r x y H2 Q
noncomputable def tUn (r : V → Hp → VK → Prop) (ta : TE) : TE := fun σ H Q => ta σ H fun x H1 => r x H1 Q
noncomputable def rI (C : Int → Int → Prop) (g : Int → Int → V) : R2 := fun x y H Q => ∃ i j, x = .int i ∧ y = .int j ∧ C i j ∧ Q (g i j) H
noncomputable def rI0 (g : Int → Int → V) : R2 := fun x y H Q => ∃ i j, x = .int i ∧ y = .int j ∧ Q (g i j) H
noncomputable def rU (g : Int → V) : V → Hp → VK → Prop := fun x H Q => ∃ i, x = .int i ∧ Q (g i) H
section
variable {X : Cx} {a b c : Expr} {ta tb tc : TE} {pos : Pos}
theorem Zo2 (ha : PE X a ta) (hb : PE X b tb) {pins : List (Addr × Obj)} {s : Shared} {σ : St} {H : Hp} {R : V → V → Hp → Prop} (I : Inv X pins σ H s)
    (h : ta σ H fun x H1 => tb σ H1 fun y H2 => R x y H2) {Q : Value → Shared → Prop} {f : Value → Value → Sem Value}
    (hf : ∀ v u s2 x y H2, Inv X pins σ H2 s2 → ZaE x v → ZaE y u → R x y H2 → wpAny (model X.prog X.w) X.A (f v u) Q X.xe s2) :
    wpAny (model X.prog X.w) X.A (eval a X.env) (fun v s₁ => wpAny (model X.prog X.w) X.A (eval b X.env) (fun u s₂ => wpAny (model X.prog X.w) X.A (f v u) Q X.xe s₂) X.xe s₁) X.xe s := by
  refine thn (ha pins s σ H _ I h) fun v s1 ⟨x, H1, I1, r1, q1⟩ => ?_
  refine thn (hb pins s1 σ H1 _ I1 q1) fun u s2 ⟨y, H2, I2, r2, q2⟩ => ?_
  exact hf v u s2 x y H2 I2 r1 r2 q2
theorem Zo3 {op : Operator} {r : R2} (ho : OpR X (binaryOp op) r) (ha : PE X a ta) (hb : PE X b tb) : PE X (.BinOp a op b pos) (tOp r ta tb) := by
  intro pins s σ H Q I h
  exact wpAny_BinOp (Zo2 ha hb I h fun v u s2 x y H2 I2 rx ry q => ho pins s2 σ H2 x y v u Q I2 rx ry q)
theorem Zmk {op : UnaryOp} {r : V → Hp → VK → Prop} (ho : UnR X (unaryOp op) r) (ha : PE X a ta) : PE X (.UnaryOp op a pos) (tUn r ta) := by
  intro pins s σ H Q I h
  exact UnaryOp_ (thn (ha pins s σ H _ I h) fun v s1 ⟨x, H1, I1, r1, q1⟩ => ho pins s1 σ H1 x v Q I1 r1 q1)
theorem opI {f : Value → Value → Sem Value} {C : Int → Int → Prop} {g : Int → Int → Int}
    (rule : ∀ (i j : Int) (t u : Tok) (s : Shared) (Q : Value → Shared → Prop) (E : Value → Shared → Prop), C i j → Q (.int (g i j) s.toks) { s with toks := s.toks + 1 } → wpAny (model X.prog X.w) X.A (f (.int i t) (.int j u)) Q E s) :
    OpR X f (rI C fun i j => .int (g i j)) := by
  intro pins s σ H x y v u Q I rx ry h
  obtain ⟨i, j, rfl, rfl, hc, q⟩ := h
  obtain ⟨t, rfl⟩ := rx
  obtain ⟨t', rfl⟩ := ry
  exact rule i j t t' s _ _ hc ⟨.int (g i j), H, I.tok _, ⟨_, rfl⟩, q⟩
theorem ZqN {f : Value → Value → Sem Value} {g : Int → Int → Int}
    (rule : ∀ (i j : Int) (t u : Tok) (s : Shared) (Q : Value → Shared → Prop) (E : Value → Shared → Prop), Q (.int (g i j) s.toks) { s with toks := s.toks + 1 } → wpAny (model X.prog X.w) X.A (f (.int i t) (.int j u)) Q E s) :
    OpR X f (rI0 fun i j => .int (g i j)) := by
  intro pins s σ H x y v u Q I rx ry h
  obtain ⟨i, j, rfl, rfl, q⟩ := h
  obtain ⟨t, rfl⟩ := rx
  obtain ⟨t', rfl⟩ := ry
  exact rule i j t t' s _ _ ⟨.int (g i j), H, I.tok _, ⟨_, rfl⟩, q⟩
theorem ZoN {f : Value → Value → Sem Value} {g : Int → Int → Bool}
    (rule : ∀ (i j : Int) (t u : Tok) (s : Shared) (Q : Value → Shared → Prop) (E : Value → Shared → Prop), Q (.bool (g i j)) s → wpAny (model X.prog X.w) X.A (f (.int i t) (.int j u)) Q E s) :
    OpR X f (rI0 fun i j => .bl (g i j)) := by
  intro pins s σ H x y v u Q I rx ry h
  obtain ⟨i, j, rfl, rfl, q⟩ := h
  obtain ⟨t, rfl⟩ := rx
  obtain ⟨t', rfl⟩ := ry
  exact rule i j t t' s _ _ ⟨.bl (g i j), H, I, rfl, q⟩
noncomputable def ZqO (i j : Int) : Prop := 0 ≤ j ∧ j ≤ 1000000 ∧ i.natAbs < 2 ^ 64
noncomputable def ZqP (i j : Int) : Prop := (-(2 ^ 64) < i ∧ i < 2 ^ 64) ∨ (-(2 ^ 64) < j ∧ j < 2 ^ 64)
theorem ZqP.ok {i j : Int} (h : ZqP i j) : IntMulOk i j := by
  rcases h with ⟨h1, h2⟩ | ⟨h1, h2⟩
  · exact .of_left (intBits_le_64 h1 h2)
  · exact .of_right (intBits_le_64 h1 h2)
theorem Zml : OpR X (binaryOp .Add) (rI0 fun i j => .int (i + j)) := ZqN fun _ _ _ _ _ _ _ q => add_int q
theorem Zmm : OpR X (binaryOp .Sub) (rI0 fun i j => .int (i - j)) := ZqN fun _ _ _ _ _ _ _ q => sub_int q
theorem ZkD : OpR X (binaryOp .Mod) (rI (fun _ j => j ≠ 0) fun i j => .int (i.fmod j)) := opI fun _ _ _ _ _ _ _ hc q => mod_int' hc q
theorem Zmn : OpR X (binaryOp .Pow) (rI ZqO fun i j => .int (i ^ j.toNat)) := opI fun _ _ _ _ _ _ _ hc q => pow_int_small hc.1 hc.2.1 hc.2.2 q
theorem unI {f : Value → Sem Value} {g : Int → Int}
    (rule : ∀ (i : Int) (t : Tok) (s : Shared) (Q : Value → Shared → Prop) (E : Value → Shared → Prop), Q (.int (g i) s.toks) { s with toks := s.toks + 1 } → wpAny (model X.prog X.w) X.A (f (.int i t)) Q E s) :
    UnR X f (rU fun i => .int (g i)) := by
  intro pins s σ H x v Q I rx h
  obtain ⟨i, rfl, q⟩ := h
  obtain ⟨t, rfl⟩ := rx
  exact rule i t s _ _ ⟨.int (g i), H, I.tok _, ⟨_, rfl⟩, q⟩
theorem ZjO : UnR X (unaryOp .USub) (rU fun i => .int (-i)) := unI fun _ _ _ _ _ q => neg_int q
end
section
variable {X : Cx} {a b c : Expr} {ta tb tc : TE} {pos : Pos}
theorem ZgJ : OpR X (compareOp .Lt) (rI0 fun i j => .bl (decide (i < j))) := ZoN fun _ _ _ _ _ _ _ q => lt_int q
theorem ZkE : OpR X (compareOp .LtE) (rI0 fun i j => .bl (decide (i ≤ j))) := ZoN fun _ _ _ _ _ _ _ q => le_int q
theorem ZeP : OpR X (compareOp .Gt) (rI0 fun i j => .bl (decide (j < i))) := ZoN fun _ _ _ _ _ _ _ q => gt_int q
theorem Zo4 : OpR X (compareOp .GtE) (rI0 fun i j => .bl (decide (j ≤ i))) := ZoN fun _ _ _ _ _ _ _ q => ge_int q
theorem OpR.or {f : Value → Value → Sem Value} {r r' : R2} (h : OpR X f r) (h' : OpR X f r') : OpR X f (fun x y H Q => r x y H Q ∨ r' x y H Q) := by
  intro pins s σ H x y v u Q I rx ry q
  rcases q with q | q
  · exact h pins s σ H x y v u Q I rx ry q
  · exact h' pins s σ H x y v u Q I rx ry q
theorem ZjP (b : Expr) {op : CmpOp} (h : op ≠ .In := by decide) (h2 : op ≠ .NotIn := by decide) : behindInMarks op b = false := by
  have e1 : (op == CmpOp.In) = false := by cases op <;> first | rfl | exact absurd rfl h
  have e2 : (op == CmpOp.NotIn) = false := by cases op <;> first | rfl | exact absurd rfl h2
  cases b <;> simp [behindInMarks, e1, e2]
theorem ZkF {op : CmpOp} {r : R2} (ho : OpR X (compareOp op) r) (ha : PE X a ta) (hb : PE X b tb) (hm : behindInMarks op b = false) : PE X (.Compare a [op] [b] pos) (tOp r ta tb) := by
  intro pins s σ H Q I h
  exact wpAny_Compare1 (Zo2 ha hb I h fun v u s2 x y H2 I2 rx ry q => ho pins s2 σ H2 x y v u Q I2 rx ry q) hm
noncomputable def Zmo (t : TE) : TT := fun σ H Q => t σ H fun x H' => ∃ k, x = .bl k ∧ Q k H'
theorem ZkG {op : CmpOp} {r : R2} (ho : OpR X (compareOp op) r) (ha : PE X a ta) (hb : PE X b tb) (hm : behindInMarks op b = false) : PT X (.Compare a [op] [b] pos) (Zmo (tOp r ta tb)) := by
  intro pins s σ H Q I h
  refine wpAny_isTrue_Compare1 (thn (ha pins s σ H _ I h) fun v s1 ⟨x, H1, I1, r1, q1⟩ => thn (hb pins s1 σ H1 _ I1 q1) fun u s2 ⟨y, H2, I2, r2, q2⟩ =>
    thn (ho pins s2 σ H2 x y v u _ I2 r1 r2 q2) fun c s3 ⟨z, H3, I3, r3, k, e, q3⟩ => ?_) hm
  subst e
  cases r3
  exact wpAny_truthy_bool ⟨H3, I3, q3⟩
theorem Zgb : (sizeLine : Nat) < 2 ^ 63 := by rw [sizeLine_eq]; decide
theorem ZgK : OpR X (binaryOp .Add) (fun x y H Q => ∃ i j, x = .str i ∧ y = .str j ∧ i.length + j.length ≤ sizeLine ∧ Q (.str (i ++ j)) H) := by
  intro pins s σ H x y v u Q I rx ry h
  obtain ⟨i, j, rfl, rfl, hz, q⟩ := h
  obtain ⟨t, rfl⟩ := rx
  obtain ⟨t', rfl⟩ := ry
  exact add_str (fun t' tk => ⟨.str (i ++ j), H, I.tok _, ⟨_, rfl⟩, q⟩) hz
theorem ZfD {x : V} {us : List Value} (r : Z5 [x] us) : ∃ u, us = [u] ∧ ZaE x u := by
  cases r with
  | cons r1 r2 => cases r2; exact ⟨_, rfl, r1⟩
theorem ZkH {x y : V} {us : List Value} (r : Z5 [x, y] us) : ∃ u w', us = [u, w'] ∧ ZaE x u ∧ ZaE y w' := by
  cases r with
  | cons r1 r2 =>
    cases r2 with
    | cons r3 r4 => cases r4; exact ⟨_, _, rfl, r1, r3⟩
theorem Zbu : Zcr X (.builtin "abs") (fun xs H Q => ∃ i, xs = [.int i] ∧ Q (.int (if i < 0 then -i else i)) H) := by
  intro pins s σ H xs us Q I r h
  obtain ⟨i, rfl, q⟩ := h
  obtain ⟨u, rfl, t, rfl⟩ := ZfD r
  exact call_abs_int fun u tk => ⟨.int (if i < 0 then -i else i), H, I.tok _, ⟨_, rfl⟩, q⟩
theorem ZeQ (hc : X.calm = true) : Zcr X (.builtin "max") (fun xs H Q => ∃ i j, xs = [.int i, .int j] ∧ Q (.int (if j > i then j else i)) H) := by
  intro pins s σ H xs us Q I r h
  obtain ⟨i, j, rfl, q⟩ := h
  obtain ⟨u, w', rfl, ⟨t, rfl⟩, ⟨t', rfl⟩⟩ := ZkH r
  refine max_two_ints (I.ok.hd hc) fun h' tk k => ⟨_, H, I.kept k, ?_, q⟩
  by_cases hj : j > i
  · rw [if_pos hj, if_pos hj]; exact ⟨_, rfl⟩
  · rw [if_neg hj, if_neg hj]; exact ⟨_, rfl⟩
theorem Zht (hc : X.calm = true) : Zcr X (.builtin "min") (fun xs H Q => ∃ i j, xs = [.int i, .int j] ∧ Q (.int (if j < i then j else i)) H) := by
  intro pins s σ H xs us Q I r h
  obtain ⟨i, j, rfl, q⟩ := h
  obtain ⟨u, w', rfl, ⟨t, rfl⟩, ⟨t', rfl⟩⟩ := ZkH r
  refine min_two_ints (I.ok.hd hc) fun h' tk k => ⟨_, H, I.kept k, ?_, q⟩
  by_cases hj : j < i
  · rw [if_pos hj, if_pos hj]; exact ⟨_, rfl⟩
  · rw [if_neg hj, if_neg hj]; exact ⟨_, rfl⟩
theorem ZcJ : Zcr X (.type "int") (fun xs H Q => (∃ i, xs = [.int i] ∧ Q (.int i) H) ∨ ∃ k, xs = [.bl k] ∧ Q (.int (if k then 1 else 0)) H) := by
  intro pins s σ H xs us Q I r h
  rcases h with ⟨i, rfl, q⟩ | ⟨k, rfl, q⟩
  · obtain ⟨u, rfl, t, rfl⟩ := ZfD r
    exact call_int_int ⟨.int i, H, I, ⟨_, rfl⟩, q⟩
  · obtain ⟨u, rfl, r1⟩ := ZfD r
    cases r1
    exact call_int_bool ⟨.int (if k then 1 else 0), H, I.tok _, ⟨_, rfl⟩, q⟩
end
end L2
namespace L2
open PySem PySem.Spec PyProof.Rows
section
variable {prog : Program} {w : World} {A : Around} {E : Value → Shared → Prop} {s : Shared} {K : PySem.W.Frag} {x dx C f : Addr} {mA : Str → Option Value} {name : Str} {v : Value}
end
section
variable {P : Program} {w : World} {H H' : Hp} {h h' : Heap} {a C dx : Addr} {fs fs' : List (Str × V)}
end
structure Cls (K : PySem.W.Frag) (C : Addr) : Prop where
  pg : PySem.W.plainGet K C Str.empty = true
  hd : PySem.W.hasDictIn K C = true
  po : PySem.W.plainOver K C = true
  sa : PySem.W.findIn K (.ref C) "__setattr__" = some (some (.builtin "object.__setattr__"))
theorem Cls.get {K : PySem.W.Frag} {C : Addr} (c : Cls K C) (f : Str) : PySem.W.plainGet K C f = true := c.pg
section
variable {X : Cx} {pins : List (Addr × Obj)} {σ : St} {H : Hp} {s : Shared} {a C dx : Addr} {fs : List (Str × V)} {f : Str} {v : V} {A : Around} {E : Value → Shared → Prop}
theorem Inv.made (I : Inv X pins σ H s) : Inv X pins σ (upd (upd H s.heap.objs.size (.own (s.heap.objs.size + 1))) (s.heap.objs.size + 1) (.ins C s.heap.objs.size []))
    { s with heap := (s.heap.push PySem.W.emptyDict).push (PySem.W.instObj C s.heap.objs.size) } := by
  have e1 : (s.heap.push PySem.W.emptyDict).get? s.heap.objs.size = some PySem.W.emptyDict := Heap.get?_push_size s.heap rfl
  have e2 : ((s.heap.push PySem.W.emptyDict).push (PySem.W.instObj C s.heap.objs.size)).get? (s.heap.objs.size + 1) = some (PySem.W.instObj C s.heap.objs.size) := by
    have := Heap.get?_push_size (s.heap.push PySem.W.emptyDict) (o := PySem.W.instObj C s.heap.objs.size) rfl
    rwa [Heap.size_push] at this
  have e3 : (s.heap.push PySem.W.emptyDict).Ns s.heap.objs.size (fun _ => none) := ⟨PySem.W.emptyDict, #[], _, e1, rfl, (fun e he => absurd he (by simp)), fun _ => rfl⟩
  have I1 := I.laid (a := s.heap.objs.size) (o := .own (s.heap.objs.size + 1)) (h' := s.heap.push PySem.W.emptyDict) (t' := s.toks) (fun b u q => Heap.get?_push_of_some _ q) (Nat.le_refl _) ⟨_, e1⟩
  refine I1.laid (a := s.heap.objs.size + 1) (o := .ins C s.heap.objs.size []) (t' := s.toks) (fun b u q => Heap.get?_push_of_some _ q) (Nat.le_of_eq (Heap.size_push _ _)) ?_
  have ne : s.heap.objs.size ≠ s.heap.objs.size + 1 := Nat.ne_of_lt (Nat.lt_succ_self _)
  refine ⟨by rw [ZS ne, ZaQ], Nat.zero_le _, ne, e2, fun _ => none, (Heap.Ns1.of_empty e3).at fun o q => Heap.get?_push_of_some _ q, fun _ => True.intro, fun y hy => absurd rfl hy⟩
end
section
variable {X : Cx} {o e value : Expr} {f : Str} {pos pos' tpos : Pos} {ta tv : TE}
end
section
variable {X : Cx} {pins : List (Addr × Obj)} {σ : St} {H : Hp} {s : Shared} {A : Around} {E : Value → Shared → Prop} {Q : Value → Shared → Prop} {c : Value} {b : Bool}
end
end L2
namespace L2
open PySem PySem.Spec PyProof.Rows
structure Room (k : Nat) (A : Around) : Prop where
  hd : 100 ≤ k → A.handled = none
  dp : A.depth + 3 * k + 5 < recursionLimit
  un : A.units + 16 * k + 200 < cLine
theorem Room.mono {j k : Nat} {A : Around} (r : Room k A) (h : j ≤ k) : Room j A := ⟨fun z => r.hd (Nat.le_trans z h), by have := r.dp; omega, by have := r.un; omega⟩
theorem Room.deeper {k : Nat} {A : Around} (r : Room (k + 1) A) (env : Env) : Room k (A.deeper env) :=
  ⟨fun z => r.hd (Nat.le_succ_of_le z), by have := r.dp; show A.depth + 1 + 3 * k + 5 < _; omega, by have := r.un; show A.units + 3 + 16 * k + 200 < _; omega⟩
theorem Room.in1 {k : Nat} {A : Around} (r : Room (k + 1) A) : Room k A.in1 :=
  ⟨fun z => r.hd (Nat.le_succ_of_le z), by have := r.dp; show A.depth + 3 * k + 5 < _; omega, by have := r.un; show A.units + 1 + 16 * k + 200 < _; omega⟩
theorem ZgL {A : Around} {C : Addr} {us : List Value} {kw : List (Str × Value)} : (A.under (.builtin "type.__call__" ⟨.ref C :: us, kw⟩)).depth = A.depth + 1 := by
  first | rfl | simp [Around.under, Code.weight, Code.isCreation, Code.isGuard, Code.isCaller, Code.frames, Code.isFrame, guardIds]
theorem ZgM {A : Around} {C : Addr} {us : List Value} {kw : List (Str × Value)} : (A.under (.builtin "type.__call__" ⟨.ref C :: us, kw⟩)).units = A.units + 1 := by
  first | rfl | simp [Around.under, Code.cUnits, Code.frames, Code.isFrame]
theorem Room.make {k : Nat} {A : Around} (r : Room (k + 1) A) (C : Addr) (us : List Value) (kw : List (Str × Value)) : Room k (A.under (.builtin "type.__call__" ⟨.ref C :: us, kw⟩)) :=
  ⟨fun z => r.hd (Nat.le_succ_of_le z), by have := r.dp; rw [ZgL]; omega, by have := r.un; rw [ZgM]; omega⟩
theorem Room.depth {k : Nat} {A : Around} (r : Room k A) : A.depth < recursionLimit := by have := r.dp; omega
theorem Room.units {k : Nat} {A : Around} (r : Room k A) : A.units + 64 < cLine := by have := r.un; omega
noncomputable def tNil : TA := fun _ H Q => Q [] H
noncomputable def Zo5 (ta : TE) (tr : TA) : TA := fun σ H Q => ta σ H fun x H1 => tr σ H1 fun xs H2 => Q (x :: xs) H2
section
variable {X : Cx} {e : Expr} {es : List Expr} {te : TE} {t : TA} {pos : Pos}
theorem ZjQ : PA X [] tNil := fun _ _ _ _ H Q I h => Calls.spliced_nil ⟨[], H, I, .nil, h⟩
theorem ZfE (ha : PE X e te) (hr : PA X es t) (hs : starEach (e :: es) X.env = (false, eval e X.env) :: starEach es X.env := by rfl) : PA X (e :: es) (Zo5 te t) := by
  intro pos pins s σ H Q I h
  rw [hs]
  show wpAny _ _ (spliced ((false, eval e X.env) :: backTo pos (starEach es X.env))) _ _ s
  refine Calls.spliced_cons (thn (ha pins s σ H _ I h) fun u s1 ⟨x, H1, I1, r1, q1⟩ => ?_)
  exact thn (hr pos pins s1 σ H1 _ I1 q1) fun us s2 ⟨xs, H2, I2, r2, q2⟩ => ⟨x :: xs, H2, I2, .cons r1 r2, q2⟩
noncomputable def Zr1 (t : TA) : TE := fun σ H Q => t σ H fun xs H1 => xs.length ≤ sizeLine ∧ ∀ p, H1 p = none → Q (.ref p) (upd H1 p (.tup xs))
noncomputable def Zr2 (t : TA) : TE := fun σ H Q => t σ H fun xs H1 => xs.length ≤ sizeLine ∧ ∀ p, H1 p = none → Q (.ref p) (upd H1 p (.lst xs))
theorem Zmp {x1} (h : PA X es t) : PE X (.Tuple es x1 pos) (Zr1 t) := by
  intro pins s σ H Q I hq
  refine wpAny_Tuple_spliced (thn (h pos pins s σ H _ I hq) fun us s1 ⟨xs, H1, I1, r, z, q⟩ => ⟨by rw [← r.length]; exact z, ?_⟩)
  have hf : H1 s1.heap.objs.size = none := I1.hok.fresh (Nat.le_refl _)
  refine ⟨.ref s1.heap.objs.size, upd H1 s1.heap.objs.size (.tup xs), I1.laid (t' := s1.toks) (fun b u e => Heap.get?_push_of_some _ e) (Nat.le_refl _) ?_, rfl, q _ hf⟩
  exact ⟨z, us, r, ⟨_, Heap.get?_push_size _ rfl, rfl, _, rfl⟩⟩
theorem Zmq (h : PA X es t) : PE X (.List es pos) (Zr2 t) := by
  intro pins s σ H Q I hq
  refine wpAny_List_spliced (thn (h pos pins s σ H _ I hq) fun us s1 ⟨xs, H1, I1, r, z, q⟩ => ⟨by rw [← r.length]; exact z, ?_⟩)
  have hf : H1 s1.heap.objs.size = none := I1.hok.fresh (Nat.le_refl _)
  refine ⟨.ref s1.heap.objs.size, upd H1 s1.heap.objs.size (.lst xs), I1.laid (t' := s1.toks) (fun b u e => Heap.get?_push_of_some _ e) (Nat.le_refl _) ?_, rfl, q _ hf⟩
  exact ⟨z, us, 0, r, Heap.get?_push_size _ rfl⟩
end
noncomputable abbrev Sp := List V → Hp → VK → XK → Prop
noncomputable abbrev CXT := List Env → Hp → Shared → XK → Value → Shared → Prop
structure Env0 (P : Program) (w : World) (K : PySem.W.Frag) (mg : Str → Option Value) (base : Heap) (A : Around) (outer : List Env) (s : Shared) (H : Hp) : Prop where
  frames : A.frames = some outer
  mod : Mod K mg base
  bs : ∀ b o, base.get? b = some o → s.heap.get? b = some o ∧ H b = none
  bsz : base.objs.size ≤ s.heap.objs.size
  funs : s.heap.FunFrames base outer
  frf : ∀ b ∈ frs outer, H b = none
  hok : HOk P w H s.heap
  bare : AllBare s.gens
  qd : Qd A H
noncomputable def CE (outer : List Env) (P : Program) (w : World) (H : Hp) (s : Shared) (Q : VK) (u : Value) (s' : Shared) : Prop :=
  ∃ v H', s'.os = s.os ∧ AllBare s'.gens ∧ Un (frs outer) [] H H' s.heap s'.heap ∧ HOk P w H' s'.heap ∧ ZaE v u ∧ Q v H'
noncomputable def CR (CX : CXT) (outer : List Env) (P : Program) (w : World) (H : Hp) (s : Shared) (Q : VK) (E : XK) (r : Result) (s' : Shared) : Prop :=
  match r with
  | .ok (.ret u) => CE outer P w H s Q u s'
  | .ok _ => False
  | .error e => CX outer H s E e s'
structure FnOk (P : Program) (w : World) (K : PySem.W.Frag) (mg : Str → Option Value) (base : Heap) (CX : CXT) (k : Nat) (f : Addr) (fd : FuncData) (ps : List Str) (sp : Sp) : Prop where
  len : ∀ vs H Q E, sp vs H Q E → vs.length = ps.length
  run : ∀ (A : Around) (outer : List Env) (s : Shared) (H : Hp) (args : Args) (us : List Value) (vs : List V) (Q : VK) (E : XK), Room k A → Env0 P w K mg base A outer s H → BindsTo s fd args (ps.zip us) → Z5 vs us → sp vs H Q E →
    codeAny (model P w) A (.call (.ref f) args) (CR CX outer P w H s Q E) s
theorem FnOk.mono {P : Program} {w : World} {K : PySem.W.Frag} {mg : Str → Option Value} {base : Heap} {CX : CXT} {j k : Nat} {f : Addr} {fd : FuncData} {ps : List Str} {sp : Sp} (F : FnOk P w K mg base CX j f fd ps sp) (h : j ≤ k) :
    FnOk P w K mg base CX k f fd ps sp := ⟨F.len, fun A outer s H args us vs Q E hr => F.run A outer s H args us vs Q E (hr.mono h)⟩
theorem Env0.make {P : Program} {w : World} {K : PySem.W.Frag} {mg : Str → Option Value} {base : Heap} {A : Around} {outer : List Env} {s : Shared} {H : Hp} (e : Env0 P w K mg base A outer s H) (C : Addr) (us : List Value) (kw : List (Str × Value)) :
    Env0 P w K mg base (A.under (.builtin "type.__call__" ⟨.ref C :: us, kw⟩)) outer s H := ⟨by first | exact e.frames | (simpa [Around.under, Code.envs, Code.isFrame, pushEnvs] using e.frames), e.mod, e.bs, e.bsz, e.funs, e.frf, e.hok, e.bare, e.qd⟩
theorem Env0.in1 {P : Program} {w : World} {K : PySem.W.Frag} {mg : Str → Option Value} {base : Heap} {A : Around} {outer : List Env} {s : Shared} {H : Hp} (e : Env0 P w K mg base A outer s H) :
    Env0 P w K mg base A.in1 outer s H := ⟨e.frames, e.mod, e.bs, e.bsz, e.funs, e.frf, e.hok, e.bare, e.qd⟩
section
variable {X : Cx} {pins : List (Addr × Obj)} {σ : St} {H : Hp} {s s' : Shared}
theorem Inv.env0 (I : Inv X pins σ H s) : Env0 X.prog X.w X.K X.mg X.base X.A X.stack s H :=
  ⟨I.ok.frames, I.ok.mod, I.bs, Nat.le_trans I.ok.bsz I.sz, I.stack, I.stkFree, I.hok, I.bare, I.qd⟩
theorem Inv.after {Q : VK} {u : Value} (I : Inv X pins σ H s) (h : CE X.stack X.prog X.w H s Q u s') : EP X pins σ Q u s' := by
  obtain ⟨v, H', os, bare, un, hok, r, q⟩ := h
  obtain ⟨hh, g, d, t, os'⟩ := s'
  obtain rfl : os' = s.os := os
  exact ⟨v, H', I.call (h' := hh) (g' := g) (d' := d) (t' := t) (ch := []) un hok bare (fun b z => absurd z (by simp)), r, q⟩
end
noncomputable def Zo6 (sp : Sp) (dvs : List V) (E : XK) (t : TA) : TE := fun σ H Q => t σ H fun vs H1 => sp (vs ++ dvs) H1 Q E
noncomputable def ZfF (K : PySem.W.Frag) (fd : FuncData) (ps : List Str) (ds : List Value) : Prop :=
  ∀ (s : Shared) (us : List Value), K.In s.heap → (us ++ ds).length = ps.length → BindsTo s fd ⟨us, []⟩ (ps.zip (us ++ ds))
theorem ZfF.all {K : PySem.W.Frag} {fd : FuncData} {ps : List Str} (h : ∀ us : List Value, us.length = ps.length → bindArgs fd ⟨us, []⟩ = pure (ps.zip us)) : ZfF K fd ps [] := fun s us _ hl => by
  rw [List.append_nil] at hl ⊢
  exact .of_eq (h us hl)
noncomputable def Zhu (CX : CXT) (X : Cx) (E : XK) : Prop := ∀ (pins : List (Addr × Obj)) (σ : St) (H : Hp) (s : Shared) (e : Value) (s' : Shared), Inv X pins σ H s → CX X.stack H s E e s' → X.xe e s'
section
variable {X : Cx} {CX : CXT} {k : Nat} {f C : Addr} {fd : FuncData} {ps : List Str} {sp : Sp} {dvs : List V} {ds : List Value} {E : XK} {x m : Str} {p pos apos : Pos} {e o : Expr} {es : List Expr} {ta : TE} {t : TA}
theorem Zmr {pins : List (Addr × Obj)} {σ : St} {H : Hp} {s : Shared} {Q : VK} {us : List Value} {vs : List V} (F : FnOk X.prog X.w X.K X.mg X.base CX k f fd ps sp) (hr : Room k X.A) (hb : ZfF X.K fd ps ds) (hd : Z5 dvs ds) (hx : Zhu CX X E)
    (I : Inv X pins σ H s) (r : Z5 vs us) (h : sp (vs ++ dvs) H Q E) : wpAny (model X.prog X.w) X.A (call (.ref f) us) (EP X pins σ Q) X.xe s := by
  have r2 : Z5 (vs ++ dvs) (us ++ ds) := r.append hd
  have hl : (us ++ ds).length = ps.length := by rw [← r2.length]; exact F.len _ _ _ _ h
  refine wpAny_call (codeAny_mono (F.run X.A X.stack s H ⟨us, []⟩ (us ++ ds) (vs ++ dvs) Q E hr I.env0 (hb s us I.kIn hl) r2 h) fun r s' hq => ?_)
  cases r with
  | error e => exact hx pins σ H s e s' I hq
  | ok fl =>
    cases fl with
    | ret u => exact I.after hq
    | next => exact False.elim hq
    | brk => exact False.elim hq
    | cont => exact False.elim hq
theorem ZkI (F : FnOk X.prog X.w X.K X.mg X.base CX k f fd ps sp) (hr : Room k X.A) (hg : Gl X x) (hm : X.mg x = some (.ref f)) (hk : PySem.W.keepIn X.K (.ref f) = true) (hb : ZfF X.K fd ps ds) (hd : Z5 dvs ds) (hx : Zhu CX X E)
    (ha : PA X (e :: es) t) (hdb : (x == ("__debug__" : Str)) = false := by decide) (he : starEach (e :: es) X.env = (false, eval e X.env) :: starEach es X.env := by rfl) (hpl : (backTo pos (starEach es X.env)).any (·.1) = false := by rfl) :
    PE X (.Call (.Name x p) (e :: es) [] pos) (Zo6 sp dvs E t) := by
  intro pins s σ H Q I h
  refine wpAny_Call_Name_kw (Zho I hg hm ?_ hdb)
  refine PySem.W.callWith_K (h₀ := X.base) I.ok.mod.kin hk (thn (ha pos pins s σ H _ I h) fun us s1 ⟨vs, H1, I1, r, q⟩ => ⟨I1.kIn, ?_⟩) he hpl
  exact Zmr F hr hb hd hx I1 r q
end
section
variable {X : Cx} {CX : CXT} {k : Nat} {f C : Addr} {fd : FuncData} {ps ks : List Str} {sp : Sp} {E : XK} {x m : Str} {p pos apos kpos : Pos} {e o : Expr} {es : List Expr} {kws : List Keyword} {te ta : TE} {t tk : TA} {nm : Option Str}
variable {g : List Value → List Value → List Value} {gV : List V → List V → List V}
end
structure FnScope (N P : List Str) (sc : Scope) : Prop where
  kind : sc.kind = .function
  co : sc.isCoroutine = false
  gen : sc.isGenerator = false
  nd : N.Nodup
  pre : N.take P.length = P
  par : ∀ x ∈ P, sc.names.lookup x = some .local ∨ sc.names.lookup x = some .cell
  nofree : ∀ y ∈ sc.names, y.2 ≠ .free
theorem ZeR {kindOf : Str → Option NameKind} {x : Str} : ∀ {binds : List (Str × Value)} {m : Str → Option Value}, (∀ v, (x, v) ∉ binds) → bindL kindOf binds m x = m x
  | [], _, _ => rfl
  | (n, v) :: r, m, h => by
    unfold bindL
    rw [ZeR fun w hw => h w (List.mem_cons_of_mem _ hw)]
    split
    · have : x ≠ n := by rintro rfl; exact h v List.mem_cons_self
      simp [this]
    · rfl
theorem ZeS {kindOf : Str → Option NameKind} {x : Str} : ∀ {binds : List (Str × Value)} {m : Str → Option Value}, (∀ v, (x, v) ∉ binds) → bindC kindOf binds m x = m x
  | [], _, _ => rfl
  | (n, v) :: r, m, h => by
    unfold bindC
    rw [ZeS fun w hw => h w (List.mem_cons_of_mem _ hw)]
    split
    · rfl
    · have : x ≠ n := by rintro rfl; exact h v List.mem_cons_self
      simp [this]
theorem ZeT {kindOf : Str → Option NameKind} {x : Str} {v : Value} : ∀ {P : List Str} {vs : List Value} {i : Nat} {m : Str → Option Value}, P.Nodup → P[i]? = some x → vs[i]? = some v → kindOf x = some .local →
    bindL kindOf (P.zip vs) m x = some v
  | [], _, _, _, _, h, _, _ => by simp at h
  | _ :: _, [], _, _, _, _, h, _ => by simp at h
  | p :: P, w :: vs, 0, m, nd, h1, h2, hk => by
    simp at h1 h2; subst h1; subst h2
    show bindL kindOf ((p, w) :: P.zip vs) m p = _
    unfold bindL
    rw [ZeR fun v hv => (List.nodup_cons.mp nd).1 (List.of_mem_zip hv).1, if_pos hk]
    simp
  | p :: P, w :: vs, i + 1, m, nd, h1, h2, hk => by
    show bindL kindOf ((p, w) :: P.zip vs) m x = _
    unfold bindL
    exact ZeT (i := i) (List.nodup_cons.mp nd).2 (by simpa using h1) (by simpa using h2) hk
theorem ZeU {kindOf : Str → Option NameKind} {x : Str} {v : Value} : ∀ {P : List Str} {vs : List Value} {i : Nat} {m : Str → Option Value}, P.Nodup → P[i]? = some x → vs[i]? = some v → kindOf x ≠ some .local →
    bindC kindOf (P.zip vs) m x = some v
  | [], _, _, _, _, h, _, _ => by simp at h
  | _ :: _, [], _, _, _, _, h, _ => by simp at h
  | p :: P, w :: vs, 0, m, nd, h1, h2, hk => by
    simp at h1 h2; subst h1; subst h2
    show bindC kindOf ((p, w) :: P.zip vs) m p = _
    unfold bindC
    rw [ZeS fun v hv => (List.nodup_cons.mp nd).1 (List.of_mem_zip hv).1, if_neg hk]
    simp
  | p :: P, w :: vs, i + 1, m, nd, h1, h2, hk => by
    show bindC kindOf ((p, w) :: P.zip vs) m x = _
    unfold bindC
    exact ZeU (i := i) (List.nodup_cons.mp nd).2 (by simpa using h1) (by simpa using h2) hk
noncomputable def start (N : List Str) (vs : List V) : St := vs.map some ++ List.replicate (N.length - vs.length) none
noncomputable def ZeV (CX : CXT) (P : Program) (w : World) (K : PySem.W.Frag) (mg : Str → Option Value) (base : Heap) (N : List Str) (qual : Str) (scope : Scope) (f : Addr) (cd : Value) (A : Around) (outer : List Env) (s : Shared) (H : Hp) (E : XK) : Cx where
  prog := P
  w := w
  K := K
  mg := mg
  base := base
  A := A.deeper (envOfC qual scope s.heap.objs.size f cd)
  N := N
  s₀ := s
  H₀ := H
  env := envOfC qual scope s.heap.objs.size f cd
  outer := outer
  stack := envOfC qual scope s.heap.objs.size f cd :: outer
  ex := []
  calm := A.handled.isNone
  fn := fun _ => true
  pn := []
  xe := fun e s' => wpAny (model P w) (A.deeper (envOfC qual scope s.heap.objs.size f cd)) (leaving (envOfC qual scope s.heap.objs.size f cd) e) (fun _ s'' => CX outer H s E e s'') (fun e' s'' => CX outer H s E e' s'') s'
theorem Zgc {sc : Scope} {n : Nat} {x : Str} (h : sc.names.lookup x = some .cell) : ∃ c, (cellsFrom n sc.names []).lookup x = some c := by
  have q := PySem.W.cellsFrom_some sc.names n [] (.inl h)
  exact Option.isSome_iff_exists.mp q
theorem Zhv {CX : CXT} {P : Program} {w : World} {K : PySem.W.Frag} {mg : Str → Option Value} {base : Heap} {N ps : List Str} {qual : Str} {scope : Scope} {f : Addr} {cd : Value} {A : Around} {outer : List Env} {s s1 : Shared} {H : Hp} {E : XK} {us : List Value} {vs : List V}
    (S : FnScope N ps scope) (e0 : Env0 P w K mg base A outer s H) (hl : vs.length = ps.length) (r : Z5 vs us)
    (x : InCallC s s.heap.objs.size (bindL (envOfC qual scope s.heap.objs.size f cd).kindOf (ps.zip us) fun _ => none) (cellsFrom (s.heap.objs.size + 1) scope.names []) (bindC (envOfC qual scope s.heap.objs.size f cd).kindOf (ps.zip us) fun _ => none) s1) :
    Inv (ZeV CX P w K mg base N qual scope f cd A outer s H E) [] (start N vs) H s1 := by
  have hpl : ps.length ≤ N.length := by have := congrArg List.length S.pre; rw [List.length_take] at this; omega
  obtain ⟨h1, tk, rfl, hk⟩ := x.done
  have noA : ∀ b : Addr, b ∉ (ZeV CX P w K mg base N qual scope f cd A outer s H E).ex := fun b z => absurd (show b ∈ ([] : List Addr) from z) (by simp)
  refine ⟨⟨e0.mod, S.kind, rfl, rfl, Nat.le_refl _, fun y z c h1 h2 => ?_, fun y hy => ?_, fun y c _ h => ?_, fun z => Option.isNone_iff_eq_none.mp z, Around.frames_deeper e0.frames, .inr ⟨rfl, rfl⟩, fun b z => absurd z (noA b), e0.bs, e0.bsz, fun b _ _ => noA b, fun b z => absurd z (noA b), e0.funs, e0.frf⟩,
    rfl, e0.bare, Un.kept hk, ⟨_, x.toInCall.ns, fun i y v h1 h2 h3 => ?_⟩, fun y c h => ⟨_, x.cell y c h⟩, e0.hok.fresh (Nat.le_refl _), fun y c h => ?_, fun p hp => absurd (show p ∈ ([] : List (Addr × Obj)) from hp) (by simp), e0.hok.kept hk, ?_, e0.qd⟩
  · exact name_of_addr x.apart (PySem.mem_of_lookup h1) (PySem.mem_of_lookup h2)
  · have hy : scope.names.lookup y = some .cell ∨ scope.names.lookup y = some .free := hy
    rcases hy with hy | hy
    · exact Zgc hy
    · exact absurd rfl (S.nofree _ (PySem.mem_of_lookup hy))
  · exact Nat.le_of_lt (x.above y c (PySem.mem_of_lookup h))
  · have hi : i < vs.length := by
      unfold start at h2
      by_cases hi : i < vs.length
      · exact hi
      · rw [List.getElem?_append_right (by simpa using hi)] at h2
        rw [List.getElem?_replicate] at h2
        split at h2 <;> cases h2
    have ha : vs[i]? = some v := by
      unfold start at h2
      rw [List.getElem?_append_left (by simpa using hi), List.getElem?_map] at h2
      cases e : vs[i]? with
      | none => rw [e] at h2; cases h2
      | some a => rw [e] at h2; cases h2; rfl
    obtain ⟨u, hu, rv⟩ := r.get ha
    have hp : ps[i]? = some y := by
      rw [← S.pre, List.getElem?_take_of_lt (by omega)]; exact h1
    have ndP : ps.Nodup := by rw [← S.pre]; exact S.nd.sublist (List.take_sublist _ _)
    refine ⟨u, rv, ?_⟩
    rcases S.par y (List.mem_of_getElem? hp) with k | k
    · exact .inl ⟨k, ZeT ndP hp hu k⟩
    · obtain ⟨c, e⟩ := Zgc (n := s.heap.objs.size + 1) k
      refine .inr ⟨.inl k, c, e, ?_⟩
      have q := x.cell y c e
      rw [ZeU ndP hp hu (by show scope.names.lookup y ≠ _; rw [k]; decide)] at q
      exact q
  · exact e0.hok.fresh (Nat.le_of_lt (x.above y c (PySem.mem_of_lookup h)))
  · unfold start
    show _ = N.length
    rw [List.length_append, List.length_map, List.length_replicate]
    omega
theorem Zms {CX : CXT} {P : Program} {w : World} {K : PySem.W.Frag} {mg : Str → Option Value} {base : Heap} {k : Nat} {f : Addr} {name qual : Str} {params : Arguments} {body : List Stmt} {scope : Scope} {dV kV doc pm cdv ct oc : Value} {an od : Option Addr}
    {osl : Array (Option Value)} {N ps : List Str} {sp : Sp} (lk : K.lookup f = some ⟨oc, od, .func (PySem.W.fnOf name qual params body scope dV kV doc pm an cdv ct), osl⟩) (hcd : PySem.W.codeIn K cdv qual = true) (S : FnScope N ps scope)
    (len : ∀ vs H Q E, sp vs H Q E → vs.length = ps.length)
    (hbody : ∀ (A : Around) (outer : List Env) (s : Shared) (H : Hp) (vs : List V) (Q : VK) (E : XK), Room k (A.deeper (envOfC qual scope s.heap.objs.size f cdv)) → sp vs H Q E →
      ∃ t, PSs (ZeV CX P w K mg base N qual scope f cdv A outer s H E) body t ∧ t { nx := fun _ H' => Q .non H', rt := Q } (start N vs) H) :
    FnOk P w K mg base CX (k + 1) f (PySem.W.fnOf name qual params body scope dV kV doc pm an cdv ct) ps sp := by
  refine ⟨len, fun A outer s H args us vs Q E hr e0 hb r hsp => ?_⟩
  have hl := len _ _ _ _ hsp
  have KX : K.In s.heap := e0.mod.kin.keeps fun b o e => (e0.bs b o e).1
  have lim : s.heap.NoLimit := e0.mod.nolimit.keeps fun b o e => (e0.bs b o e).1
  have hkind : ∀ y ∈ ps.zip us, scope.names.lookup y.1 = some .local ∨ (scope.names.lookup y.1 = some .cell ∧ ((cellsFrom (s.heap.objs.size + 1) scope.names []).lookup y.1).isSome = true) := fun ⟨n, v⟩ hy => by
    rcases S.par n (List.of_mem_zip hy).1 with q | q
    · exact .inl q
    · exact .inr ⟨q, PySem.W.cellsFrom_some _ _ _ (.inl q)⟩
  refine codeAny_call_function hr.depth (KX _ _ lk) rfl S.co S.gen rfl (PySem.W.codeRec_of KX hcd) (hb _ _ _ _ ?_)
  refine wpAny_newFunctionEnv_cells S.kind hkind fun env he s1 x => ?_
  subst he
  refine ⟨lim.keeps x.toInCall.keep, codeAny_func ?_⟩
  obtain ⟨t, ht, hq⟩ := hbody A outer s H vs Q E (hr.deeper _) hsp
  have I : Inv (ZeV CX P w K mg base N qual scope f cdv A outer s H E) [] (start N vs) H s1 := Zhv S e0 hl r x
  refine wpAny_mono (ht [] s1 (start N vs) H _ I hq) (fun fl s' hs => ?_) fun e s' hs => hs
  have fin : ∀ {σ' : St} {H' : Hp} {v : V} {u : Value}, Inv (ZeV CX P w K mg base N qual scope f cdv A outer s H E) [] σ' H' s' → ZaE v u → Q v H' → CE outer P w H s Q u s' :=
    fun {σ' H' v u} J rv q => ⟨v, H', J.os, J.bare, J.base, J.hok, rv, q⟩
  cases fl with
  | ret u =>
    obtain ⟨v, σ', H', J, rv, q⟩ := hs
    exact fin J rv q
  | next =>
    obtain ⟨σ', H', J, q⟩ := hs
    exact fin (v := V.non) (u := Value.none) J rfl q
  | brk =>
    obtain ⟨_, _, _, q⟩ := hs
    exact False.elim q
  | cont =>
    obtain ⟨_, _, _, q⟩ := hs
    exact False.elim q
end L2
namespace L2
open PySem PySem.Spec PyProof.Rows
section
variable {X : Cx} {x : Str} {p pos : Pos} {e : Expr} {es : List Expr} {t : TA} {id T : String} {r : List V → Hp → VK → Prop}
noncomputable def tCB (r : List V → Hp → VK → Prop) (t : TA) : TE := fun σ H Q => t σ H fun vs H1 => r vs H1 Q
theorem Zgd (hc : Zcr X (.builtin id) r) (hg : Gl X x) (hm : X.mg x = none) (hv : bootBuiltins x = some (.builtin id)) (ha : PA X (e :: es) t) (hn : x ≠ "__name__" := by decide) (hdb : (x == ("__debug__" : Str)) = false := by decide)
    (he : starEach (e :: es) X.env = (false, eval e X.env) :: starEach es X.env := by rfl) (hpl : (backTo pos (starEach es X.env)).any (·.1) = false := by rfl) : PE X (.Call (.Name x p) (e :: es) [] pos) (tCB r t) := by
  intro pins s σ H Q I h
  refine wpAny_Call_Name_kw (ZeN I hg hm hv ?_ hn hdb)
  exact PyProof.Rows.callWith_builtin1 (thn (ha pos pins s σ H _ I h) fun us s1 ⟨vs, H1, I1, r1, q1⟩ => hc pins s1 σ H1 vs us Q I1 r1 q1) he hpl
theorem Zhw (hc : Zcr X (.type T) r) (hg : Gl X x) (hm : X.mg x = none) (hv : bootBuiltins x = some (.type T)) (ha : PA X (e :: es) t) (hn : x ≠ "__name__" := by decide) (hdb : (x == ("__debug__" : Str)) = false := by decide)
    (he : starEach (e :: es) X.env = (false, eval e X.env) :: starEach es X.env := by rfl) (hpl : (backTo pos (starEach es X.env)).any (·.1) = false := by rfl) : PE X (.Call (.Name x p) (e :: es) [] pos) (tCB r t) := by
  intro pins s σ H Q I h
  refine wpAny_Call_Name_kw (ZeN I hg hm hv ?_ hn hdb)
  exact PyProof.Rows.callWith_type1 (thn (ha pos pins s σ H _ I h) fun us s1 ⟨vs, H1, I1, r1, q1⟩ => hc pins s1 σ H1 vs us Q I1 r1 q1) he hpl
end
end L2
namespace HT
open PySem PyProof.Rows
section
open PySem.SeqAt
open PySem.AutoSeq1 (wpAny_loadPart')
open PySem.MeetsSeq PySem.MeetsSeq2 PySem.MeetsSeq3
end
section
variable {prog : Program} {w : World} {A : Around} {E : Value → Shared → Prop} {s : Shared}
theorem ZkJ {t b : Addr} {vs ws : List Value} {Q : Value → Shared → Prop} (ht : IsTup s.heap t vs.toArray) (hb : IsTup s.heap b ws.toArray) (hv : vs ≠ [])
    (h1 : ws = [] → Q (.ref t) s) (h2 : ws ≠ [] → Q (.ref s.heap.objs.size) { s with heap := s.heap.push { cls := .type "tuple", data := .seq (vs ++ ws).toArray } })
    (hsz : vs.length + ws.length ≤ sizeLine) : wpAny (model prog w) A (binaryOp .Add (.ref t) (.ref b)) Q E s := by
  obtain ⟨⟨cls, dd, data, sl⟩, ho, hc, n, hd⟩ := id ht
  obtain ⟨⟨cls2, dd2, data2, sl2⟩, ho2, hc2, n2, hd2⟩ := id hb
  simp only at hc hd hc2 hd2
  subst hc hd hc2 hd2
  have e : vs.toArray ++ ws.toArray = (vs ++ ws).toArray := by simp
  by_cases hw : ws = []
  · exact concat_meets ⟨_, ho, rfl⟩ ⟨_, ho2, rfl⟩ noFill_tuple_add seq_tuple_add PySem.F.slot_tuple_add PySem.F.entry_tuple_add (PySem.F.args_tuple_add_2 _ _)
      (tuple_addW1 t b vs.toArray ws.toArray n n2 dd dd2 sl sl2 (by simpa using hv) (by simp [hw])) ⟨ho, ho2, h1 hw⟩
  · refine concat_meets ⟨_, ho, rfl⟩ ⟨_, ho2, rfl⟩ noFill_tuple_add seq_tuple_add PySem.F.slot_tuple_add PySem.F.entry_tuple_add (PySem.F.args_tuple_add_2 _ _)
      (tuple_addW2 t b vs.toArray ws.toArray n n2 dd dd2 sl sl2 (by simpa using hv) (by simpa using hw) (by rw [List.size_toArray, List.size_toArray]; exact hsz)) ⟨ho, ho2, ?_⟩
    rw [e]
    exact h2 hw
noncomputable def sIx (n d : Nat) : Option Int → Nat
  | none => d
  | some v => if v < 0 then (v + (n : Int)).toNat else min v.toNat n
theorem Zmt (n d : Nat) (hd : d ≤ n) (o : Option Int) : sIx n d o ≤ n := by
  cases o with
  | none => exact hd
  | some v =>
    show (if v < 0 then (v + (n : Int)).toNat else min v.toNat n) ≤ n
    by_cases hv : v < 0
    · rw [if_pos hv]; omega
    · rw [if_neg hv]; exact Nat.min_le_right _ _
theorem Zhx (v : Int) (n d : Nat) : (if v < 0 then max (v + (n : Int)) 0 else min v (n : Int)) = ((sIx n d (some v) : Nat) : Int) := by
  show (if v < 0 then max (v + (n : Int)) 0 else min v (n : Int)) = (((if v < 0 then (v + (n : Int)).toNat else min v.toNat n) : Nat) : Int)
  by_cases hv : v < 0
  · simp only [if_pos hv]; omega
  · simp only [if_neg hv]; omega
theorem ZgN (lo hi : Option Int) (n : Nat) : Builtin.Slice.sliceAdjust lo hi 1 (n : Int) = (((sIx n 0 lo : Nat) : Int), ((sIx n n hi : Nat) : Int)) := by
  have h1 : ¬ ((1 : Int) < 0) := by omega
  unfold Builtin.Slice.sliceAdjust
  simp only [h1, if_false]
  refine Prod.ext ?_ ?_
  · cases lo with
    | none => rfl
    | some v => exact Zhx v n 0
  · cases hi with
    | none => rfl
    | some v => exact Zhx v n n
theorem ZgO (i j : Nat) : Builtin.Slice.slicePlaces (i : Int) (j : Int) 1 = j - i := by
  unfold Builtin.Slice.slicePlaces
  have h1 : (1 : Int) > 0 := by omega
  simp only [h1, if_true, Int.ediv_one]
  split <;> omega
theorem ZbE {v : Value} {o : Option Int} {Q : Option Int → Shared → Prop} (p : IsPart v o) (h : Q o s) : wpAny (model prog w) A (Builtin.Slice.slicePartIndex v) Q E s := by
  cases p with
  | none => exact slicePart_none h
  | int i t => exact slicePart_int h
theorem Zdv {sl : Addr} {vl vu : Value} {lo hi : Option Int} {n : Nat} {Q : Int × Int × Nat → Shared → Prop} (hs : s.heap.IsSliceOf sl vl vu .none) (pl : IsPart vl lo) (pu : IsPart vu hi)
    (h : Q (((sIx n 0 lo : Nat) : Int), 1, sIx n n hi - sIx n 0 lo) s) : wpAny (model prog w) A (Builtin.Slice.sliceApplied (.ref sl) (pure (n : Int))) Q E s := by
  obtain ⟨os, hos, hcs, hds⟩ := id hs
  unfold Builtin.Slice.sliceApplied Builtin.Slice.sliceFields
  refine wpAny_bind (wpAny_bind (wpAny_field hos hds (x := vl) rfl (wpAny_bind (wpAny_field hos hds (x := vu) rfl (wpAny_bind (wpAny_field hos hds (x := .none) rfl (wpAny_pure ?_)))))))
  refine wpAny_bind (slicePart_none ?_)
  show wpAny _ _ (if ((1 : Int) == 0) = true then _ else _) _ _ s
  rw [if_neg (by decide)]
  refine wpAny_bind (ZbE pl (wpAny_bind (ZbE pu (wpAny_bind (wpAny_pure ?_)))))
  show wpAny _ _ (match Builtin.Slice.sliceAdjust lo hi 1 (n : Int) with | (lo, hi) => pure (lo, (1 : Int), Builtin.Slice.slicePlaces lo hi 1)) _ _ s
  rw [ZgN lo hi n]
  show wpAny _ _ (pure (((sIx n 0 lo : Nat) : Int), (1 : Int), Builtin.Slice.slicePlaces ((sIx n 0 lo : Nat) : Int) ((sIx n n hi : Nat) : Int) 1)) _ _ s
  rw [ZgO]
  exact wpAny_pure h
theorem Zi0 (xs : Array Value) (i k : Nat) : ((List.range k).filterMap fun (m : Nat) => xs[((i : Int) + (m : Int) * 1).toNat]?).toArray = ((xs.toList.drop i).take k).toArray := by
  have e : (fun (m : Nat) => xs[((i : Int) + (m : Int) * 1).toNat]?) = fun m => xs[i + m]? := by
    funext m
    have : ((i : Int) + (m : Int) * 1).toNat = i + m := by omega
    rw [this]
  rw [e]
  have := pick_run xs i k
  rw [List.filterMap_map] at this
  have e2 : ((fun x => xs[x]?) ∘ fun x => i + x) = fun m => xs[i + m]? := rfl
  rw [e2] at this
  rw [this]
theorem Zc8 {t sl : Addr} {items : Array Value} {vl vu : Value} {lo hi : Option Int} {Q : Value → Shared → Prop} (ht : IsTup s.heap t items) (hs : s.heap.IsSliceOf sl vl vu .none) (pl : IsPart vl lo) (pu : IsPart vu hi)
    (hw : ¬ (sIx items.size 0 lo = 0 ∧ sIx items.size items.size hi = items.size))
    (h : Q (.ref s.heap.objs.size) { s with heap := s.heap.push { cls := .type "tuple", data := .seq ((items.toList.drop (sIx items.size 0 lo)).take (sIx items.size items.size hi - sIx items.size 0 lo)).toArray } })
    (hsz : items.size ≤ sizeLine) : wpAny (model prog w) A (getItem (.ref t) (.ref sl)) Q E s := by
  have htake : sizeOk (.seq ((items.toList.drop (sIx items.size 0 lo)).take (sIx items.size items.size hi - sIx items.size 0 lo)).toArray) := by
    show ((items.toList.drop (sIx items.size 0 lo)).take (sIx items.size items.size hi - sIx items.size 0 lo)).toArray.size ≤ sizeLine
    rw [List.size_toArray, List.length_take, List.length_drop, Array.length_toList]
    omega
  have hj : sIx items.size items.size hi ≤ items.size := Zmt _ _ (Nat.le_refl _) hi
  obtain ⟨os, hos, hcs, hds⟩ := id hs
  have hTs : s.TypeIs (.ref sl) "slice" := ⟨os, hos, hcs⟩
  unfold getItem
  try with_reducible refine wpAny_holding ?_
  first | refine wpAny_bind (wpAny_pure ?_) | skip
  refine wpAny_bind (wpAny_sequenceKey ht.typeIs (by decide) ?_)
  refine wpAny_bind (wpAny_callSpecial?_slot (name := Str.ofString "__getitem__") ht.typeIs PyProof.Rows.slot_tuple_getitem
    (wpAny_call_entry PyProof.Rows.slot_tuple_getitem ht.typeIs entry_tuple_getitem ?_ (args_tuple_getitem _ _)))
  show wpAny _ _ (Builtin.Tuple.tupleItemsOf (.ref t) >>= _) _ _ s
  refine wpAny_bind (tupleItemsOf_ ht ?_)
  refine wpAny_bind (wpAny_typeOf hTs ?_)
  rw [if_pos (by decide)]
  refine wpAny_bind (Zdv hs pl pu ?_)
  have hno : ¬ ((((sIx items.size 0 lo : Nat) : Int) == 0 && (1 : Int) == 1 && (sIx items.size items.size hi - sIx items.size 0 lo) == items.size) = true) := by
    intro q
    rw [Bool.and_eq_true, Bool.and_eq_true] at q
    have q1 : ((sIx items.size 0 lo : Nat) : Int) = 0 := eq_of_beq q.1.1
    have q2 : sIx items.size items.size hi - sIx items.size 0 lo = items.size := eq_of_beq q.2
    exact hw ⟨by omega, by omega⟩
  show wpAny _ _ (if (((sIx items.size 0 lo : Nat) : Int) == 0 && (1 : Int) == 1 && (sIx items.size items.size hi - sIx items.size 0 lo) == items.size) = true then _ else _) _ _ s
  rw [if_neg hno, Zi0]
  first
    | exact wpAny_bind (m := Builtin.Tuple.tupleExact _) (wpAny_newObj_type (wpAny_pure ⟨_, rfl, wpAny_pure h⟩) htake)
    | exact wpAny_bind (m := Builtin.Tuple.tupleExact _) (wpAny_newObj_type (wpAny_bind (wpAny_pure (wpAny_pure ⟨_, rfl, wpAny_pure h⟩))) htake)
    | exact wpAny_bind (wpAny_bind (m := Builtin.Tuple.tupleExact _) (wpAny_newObj_type (wpAny_pure (wpAny_pure ⟨_, rfl, wpAny_pure h⟩)) htake))
    | exact wpAny_bind (wpAny_bind (m := Builtin.Tuple.tupleExact _) (wpAny_newObj_type (wpAny_pure ⟨_, rfl, wpAny_pure h⟩) htake))
end
end HT
namespace L2
open PySem PySem.Spec PyProof.Rows
noncomputable abbrev TO := St → Hp → (Option Int → Hp → Prop) → Prop
noncomputable def PO (X : Cx) (e : Option Expr) (t : TO) : Prop :=
  ∀ (pins : List (Addr × Obj)) (s : Shared) (σ : St) (H : Hp) (Q : Option Int → Hp → Prop), Inv X pins σ H s → t σ H Q →
    wpAny (model X.prog X.w) X.A (evalPart e X.env) (fun u s' => ∃ o H', Inv X pins σ H' s' ∧ IsPart u o ∧ Q o H') X.xe s
noncomputable def tNoPart : TO := fun _ H Q => Q none H
noncomputable def Zo7 (t : TE) : TO := fun σ H Q => t σ H fun x H1 => ∃ i, x = .int i ∧ Q (some i) H1
section
variable {X : Cx} {e : Expr} {te : TE} {lo hi : Option Expr} {tl th : TO} {pos p2 : Pos}
theorem ZkK : PO X none tNoPart := by
  intro pins s σ H Q I h
  rw [evalPart_none]
  exact wpAny_pure ⟨none, H, I, .none, h⟩
theorem ZkL (h : PE X e te) : PO X (some e) (Zo7 te) := by
  intro pins s σ H Q I hw
  rw [evalPart_some]
  refine thn (h pins s σ H _ I hw) fun u s1 ⟨x, H1, I1, r1, q1⟩ => ?_
  obtain ⟨i, rfl, q⟩ := q1
  obtain ⟨t, rfl⟩ := r1
  exact ⟨some i, H1, I1, .int i t, q⟩
noncomputable def SlR (X : Cx) (r : V → Option Int → Option Int → Hp → VK → Prop) : Prop :=
  ∀ (pins : List (Addr × Obj)) (s : Shared) (σ : St) (H : Hp) (x : V) (v vl vu : Value) (lo hi : Option Int) (sl : Addr) (Q : VK), Inv X pins σ H s → ZaE x v → s.heap.IsSliceOf sl vl vu .none → IsPart vl lo → IsPart vu hi → r x lo hi H Q →
    ∃ T id, typeLookup (.type T) "__getitem__" = pure (some (.builtin id)) ∧ s.TypeIs v T ∧ wpAny (model X.prog X.w) X.A (getItem v (.ref sl)) (EP X pins σ Q) X.xe s
theorem SlR.or {r r' : V → Option Int → Option Int → Hp → VK → Prop} (h : SlR X r) (h' : SlR X r') : SlR X (fun x lo hi H Q => r x lo hi H Q ∨ r' x lo hi H Q) := by
  intro pins s σ H x v vl vu lo hi sl Q I rx hs pl pu q
  rcases q with q | q
  · exact h pins s σ H x v vl vu lo hi sl Q I rx hs pl pu q
  · exact h' pins s σ H x v vl vu lo hi sl Q I rx hs pl pu q
noncomputable def tSl (r : V → Option Int → Option Int → Hp → VK → Prop) (te : TE) (tl th : TO) : TE := fun σ H Q => te σ H fun x H1 => tl σ H1 fun l H2 => th σ H2 fun u H3 => r x l u H3 Q
theorem Zi1 {r : V → Option Int → Option Int → Hp → VK → Prop} (hr : SlR X r) (he : PE X e te) (hl : PO X lo tl) (hu : PO X hi th) : PE X (.Subscript e (.Slice lo hi none p2) pos) (tSl r te tl th) := by
  intro pins s σ H Q I h
  refine Subscript_ (thn (he pins s σ H _ I h) fun v s1 ⟨x, H1, I1, r1, q1⟩ => ?_)
  refine wpAny_Slice (thn (hl pins s1 σ H1 _ I1 q1) fun vl s2 ⟨l, H2, I2, pl, q2⟩ => thn (hu pins s2 σ H2 _ I2 q2) fun vu s3 ⟨u, H3, I3, pu, q3⟩ => ?_)
  rw [evalPart_none]
  refine wpAny_pure ?_
  have I4 : Inv X pins σ H3 { s3 with heap := s3.heap.push { cls := .type "slice", data := .fields #[vl, vu, .none] } } := I3.kept (t' := s3.toks) fun b ob q => Heap.get?_push_of_some _ q
  obtain ⟨T, id, hT, ht, hg⟩ := hr pins { s3 with heap := s3.heap.push { cls := .type "slice", data := .fields #[vl, vu, .none] } } σ H3 x v vl vu l u s3.heap.objs.size Q I4 r1 (Heap.IsSliceOf.new ..) pl pu q3
  show wpAny (model X.prog X.w) X.A (subscriptTail e (.Slice lo hi none p2) v (.ref s3.heap.objs.size)) (EP X pins σ Q) X.xe { s3 with heap := s3.heap.push { cls := .type "slice", data := .fields #[vl, vu, .none] } }
  exact tail_any (ops := [.ref s3.heap.objs.size, v]) ht hT hg (by with_unfolding_all rfl)
noncomputable def ZjR (xs : List V) (lo hi : Option Int) : List V := (xs.drop (HT.sIx xs.length 0 lo)).take (HT.sIx xs.length xs.length hi - HT.sIx xs.length 0 lo)
theorem ZdB (xs : List V) (lo hi : Option Int) : (ZjR xs lo hi).length ≤ xs.length := by
  unfold ZjR
  rw [List.length_take, List.length_drop]
  omega
noncomputable def Zr3 (K : PySem.W.Frag) : V → Option Int → Option Int → Hp → VK → Prop := fun x lo hi H Q => ∃ a xs, x = .ref a ∧ SqT K H a xs ∧
  ¬ (HT.sIx xs.length 0 lo = 0 ∧ HT.sIx xs.length xs.length hi = xs.length) ∧ ∀ p, H p = none → Q (.ref p) (upd H p (.tup (ZjR xs lo hi)))
theorem Zmu : SlR X (Zr3 X.K) := by
  intro pins s σ H x v vl vu lo hi sl Q I rx hs pl pu h
  obtain ⟨a, xs, rfl, hx, hw, q⟩ := h
  cases rx
  obtain ⟨its, r, ht, hz⟩ := I.tuple hx
  have hlen : its.toArray.size = xs.length := by rw [List.size_toArray]; exact r.length.symm
  refine ⟨"tuple", _, PyProof.Rows.slot_tuple_getitem.lookup, ht.typeIs, ?_⟩
  refine HT.Zc8 ht hs pl pu (by rw [hlen]; exact hw) ?_ (by rw [hlen]; exact hz)
  rw [hlen]
  refine ⟨.ref s.heap.objs.size, _, I.laid (t' := s.toks) (o := .tup (ZjR xs lo hi)) (fun b ob q => Heap.get?_push_of_some _ q) (Nat.le_refl _) ?_, rfl, q _ (I.hok.fresh (Nat.le_refl _))⟩
  exact ⟨Nat.le_trans (ZdB xs lo hi) hz, _, (r.drop (HT.sIx xs.length 0 lo)).take (HT.sIx xs.length xs.length hi - HT.sIx xs.length 0 lo), IsTup.new _ _⟩
noncomputable def ZkM (K : PySem.W.Frag) : R2 := fun x y H Q => ∃ a b xs ys, x = .ref a ∧ y = .ref b ∧ SqT K H a xs ∧ SqT K H b ys ∧ xs ≠ [] ∧ xs.length + ys.length ≤ sizeLine ∧
  (ys = [] → Q (.ref a) H) ∧ (ys ≠ [] → ∀ p, H p = none → Q (.ref p) (upd H p (.tup (xs ++ ys))))
theorem Z5.nil_iff {xs : List V} {us : List Value} (r : Z5 xs us) : us = [] ↔ xs = [] := by
  cases r with
  | nil => simp
  | cons _ _ => simp
theorem ZkN : OpR X (binaryOp .Add) (ZkM X.K) := by
  intro pins s σ H x y v u Q I rx ry h
  obtain ⟨a, b, xs, ys, rfl, rfl, ha, hb, hx, hz, q1, q2⟩ := h
  cases rx
  cases ry
  obtain ⟨its, r1, p1, _⟩ := I.tuple ha
  obtain ⟨its2, r2, p2, _⟩ := I.tuple hb
  refine HT.ZkJ p1 p2 (fun z => hx (r1.nil_iff.mp z)) (fun z => ⟨.ref a, H, I, rfl, q1 (r2.nil_iff.mp z)⟩) (fun z => ?_) (by rw [← r1.length, ← r2.length]; exact hz)
  refine ⟨.ref s.heap.objs.size, _, I.laid (t' := s.toks) (o := .tup (xs ++ ys)) (fun b ob q => Heap.get?_push_of_some _ q) (Nat.le_refl _) ?_, rfl, q2 (fun w => z (r2.nil_iff.mpr w)) _ (I.hok.fresh (Nat.le_refl _))⟩
  exact ⟨by rw [List.length_append]; exact hz, _, r1.append r2, IsTup.new _ _⟩
end
end L2
namespace L2
open PySem PySem.Spec PyProof.Rows
noncomputable def ixN (n : Nat) (i : Int) : Option Nat := if 0 ≤ i then (if i < n then some i.toNat else none) else if -(n : Int) ≤ i then some (i + n).toNat else none
noncomputable def atI {α : Type} (xs : List α) (i : Int) : Option α := (ixN xs.length i).bind fun j => xs[j]?
theorem Zhy {n : Nat} {i : Int} {j : Nat} (h : ixN n i = some j) : seqIndex? i n = some j ∧ j < n ∧ -(n : Int) ≤ i ∧ i < n := by
  unfold ixN at h
  by_cases h0 : 0 ≤ i
  · rw [if_pos h0] at h
    by_cases h1 : i < n
    · rw [if_pos h1] at h
      have e : i.toNat = j := Option.some.inj h
      exact ⟨by rw [seqIndex_of h0 h1, e], by omega, by omega, h1⟩
    · rw [if_neg h1] at h; cases h
  · rw [if_neg h0] at h
    by_cases h1 : -(n : Int) ≤ i
    · rw [if_pos h1] at h
      have e : (i + n).toNat = j := Option.some.inj h
      exact ⟨by rw [seqIndex_neg (by omega) h1, e], by omega, h1, by omega⟩
    · rw [if_neg h1] at h; cases h
theorem Zhz {α : Type} {xs : List α} {i : Int} {v : α} (h : atI xs i = some v) : ∃ j, seqIndex? i xs.length = some j ∧ xs[j]? = some v ∧ j < xs.length ∧ -(xs.length : Int) ≤ i ∧ i < xs.length := by
  unfold atI at h
  cases e : ixN xs.length i with
  | none => rw [e] at h; cases h
  | some j =>
    rw [e] at h
    obtain ⟨h1, h2, h3, h4⟩ := Zhy e
    exact ⟨j, h1, h, h2, h3, h4⟩
theorem ZkO {α : Type} {xs : List α} {j : Nat} {v : α} (h : xs[j]? = some v) : atI xs (j : Int) = some v := by
  have hj : j < xs.length := (List.getElem?_eq_some_iff.mp h).1
  have e : ixN xs.length (j : Int) = some j := by
    unfold ixN
    rw [if_pos (by omega), if_pos (by omega)]; simp
  unfold atI; rw [e]; exact h
noncomputable def ZhA (b : Expr) : Prop := ∀ o i, subscripted b false o i = operate [o, i] (getItem o i)
noncomputable def IxR (X : Cx) (r : R2) : Prop :=
  ∀ (value slice : Expr) (pins : List (Addr × Obj)) (s : Shared) (σ : St) (H : Hp) (x y : V) (v u : Value) (Q : VK), Inv X pins σ H s → ZaE x v → ZaE y u → r x y H Q →
    subscripted slice false v u = operate [v, u] (getItem v u) → wpAny (model X.prog X.w) X.A (subscriptTail value slice v u) (EP X pins σ Q) X.xe s
noncomputable def MtR (X : Cx) (id : String) (r : V → List V → Hp → VK → Prop) : Prop :=
  ∀ (pins : List (Addr × Obj)) (s : Shared) (σ : St) (H : Hp) (x : V) (xs : List V) (v : Value) (us : List Value) (Q : VK), Inv X pins σ H s → ZaE x v → Z5 xs us → r x xs H Q →
    wpAny (model X.prog X.w) X.A (call (.builtin id) (v :: us)) (EP X pins σ Q) X.xe s
section
variable {X : Cx} {a b : Expr} {ta tb : TE} {pos : Pos}
theorem IxR.or {r r' : R2} (h : IxR X r) (h' : IxR X r') : IxR X (fun x y H Q => r x y H Q ∨ r' x y H Q) := by
  intro value slice pins s σ H x y v u Q I rx ry q hs
  rcases q with q | q
  · exact h value slice pins s σ H x y v u Q I rx ry q hs
  · exact h' value slice pins s σ H x y v u Q I rx ry q hs
theorem MtR.or {id : String} {r r' : V → List V → Hp → VK → Prop} (h : MtR X id r) (h' : MtR X id r') : MtR X id (fun x xs H Q => r x xs H Q ∨ r' x xs H Q) := by
  intro pins s σ H x xs v us Q I rx rs q
  rcases q with q | q
  · exact h pins s σ H x xs v us Q I rx rs q
  · exact h' pins s σ H x xs v us Q I rx rs q
theorem Zo8 {r : R2} (hr : IxR X r) (ha : PE X a ta) (hb : PE X b tb) (hs : ZhA b) : PE X (.Subscript a b pos) (tOp r ta tb) := by
  intro pins s σ H Q I h
  exact Subscript_ (Zo2 ha hb I h fun v u s2 x y H2 I2 rx ry q => hr a b pins s2 σ H2 x y v u Q I2 rx ry q (hs _ _))
noncomputable def ZqQ (K : PySem.W.Frag) : R2 := fun x y H Q => ∃ p xs i v, x = .ref p ∧ y = .int i ∧ SqL K H p xs ∧ atI xs i = some v ∧ Q v H
noncomputable def ZqR (K : PySem.W.Frag) : R2 := fun x y H Q => ∃ p xs i v, x = .ref p ∧ y = .int i ∧ SqT K H p xs ∧ atI xs i = some v ∧ Q v H
theorem ZkP : IxR X (ZqQ X.K) := by
  intro value slice pins s σ H x y v u Q I rx ry h hs
  obtain ⟨p, xs, i, z, rfl, rfl, hq, he, q⟩ := h
  cases rx
  obtain ⟨t, rfl⟩ := ry
  obtain ⟨its, r, pl, hz⟩ := I.list hq
  obtain ⟨j, h1, h2, h3, h4, h5⟩ := Zhz he
  obtain ⟨w, ew, rw'⟩ := r.get h2
  have hl := r.length
  have hn := Zgb
  have fin : EP X pins σ Q w s := ⟨z, H, I, rw', q⟩
  by_cases h0 : 0 ≤ i
  · have hj : i.toNat = j := by
      rw [seqIndex_of h0 h5] at h1
      exact Option.some.inj h1
    exact item_listR pl.isList h0 (by omega) (by rw [hj]; simpa using ew) fin hs
  · have hj : (i + (its.toArray.size : Int)).toNat = j := by
      rw [seqIndex_neg (by omega) h4] at h1
      rw [List.size_toArray, ← hl]
      exact Option.some.inj h1
    exact subscriptTail_builtinR (x := w) pl.isList.typeIs slot_list_getitem.lookup
      (wpAny_getItem_list_neg (Q := fun r s' => r = w ∧ EP X pins σ Q r s') pl.isList (by omega) (by rw [List.size_toArray] <;> omega) (by omega) (by rw [hj]; simpa using ew) ⟨rfl, fin⟩) hs
theorem Zmv : IxR X (ZqR X.K) := by
  intro value slice pins s σ H x y v u Q I rx ry h hs
  obtain ⟨p, xs, i, z, rfl, rfl, hq, he, q⟩ := h
  cases rx
  obtain ⟨t, rfl⟩ := ry
  obtain ⟨its, r, pl, hz⟩ := I.tuple hq
  obtain ⟨j, h1, h2, h3, h4, h5⟩ := Zhz he
  obtain ⟨w, ew, rw'⟩ := r.get h2
  have hl := r.length
  have hn := Zgb
  have fin : EP X pins σ Q w s := ⟨z, H, I, rw', q⟩
  exact subscriptTail_builtinR (x := w) pl.typeIs slot_tuple_getitem.lookup
    (getItem_tuple (j := j) (Q := fun r s' => r = w ∧ EP X pins σ Q r s') pl (by omega) (by omega) (by rw [List.size_toArray, ← hl]; exact h1) (by simpa using ew) ⟨rfl, fin⟩) hs
theorem ZgP (its : List Value) (n j : Nat) (u : Value) : Obj.mapSeq (·.setIfInBounds j u) { cls := .type "list", data := .seq its.toArray n } = { cls := .type "list", data := .seq (its.set j u).toArray n } := by
  simp [Obj.mapSeq]
theorem Inv.lst {pins : List (Addr × Obj)} {σ : St} {H : Hp} {s : Shared} {p : Addr} {xs : List V} (I : Inv X pins σ H s) (h : H p = some (.lst xs)) :
    ∃ (its : List Value) (n : Nat), Z5 xs its ∧ s.heap.get? p = some { cls := .type "list", data := .seq its.toArray n } ∧ xs.length ≤ sizeLine := by
  obtain ⟨z, its, n, r, e⟩ := I.hok p _ h
  exact ⟨its, n, r, e, z⟩
theorem Inv.lstUpd {pins : List (Addr × Obj)} {σ : St} {H : Hp} {s : Shared} {p : Addr} {xs ys : List V} {its its' : List Value} {n n' : Nat} {f : Obj → Obj} (I : Inv X pins σ H s) (h : H p = some (.lst xs))
    (ho : s.heap.get? p = some { cls := .type "list", data := .seq its.toArray n }) (hf : f { cls := .type "list", data := .seq its.toArray n } = { cls := .type "list", data := .seq its'.toArray n' }) (r : Z5 ys its') (hz : ys.length ≤ sizeLine) (t : Nat) :
    Inv X pins σ (upd H p (.lst ys)) { s with heap := s.heap.update p f, toks := t } := by
  have e : (s.heap.update p f).get? p = some { cls := .type "list", data := .seq its'.toArray n' } := by
    rw [Heap.get?_update_self f ho (by rw [hf] <;> rfl), hf]
  refine I.write (x := p) (e := p) (by rw [h]; trivial) (.inl rfl) (fun b u hb q => (Heap.get?_update_other _ _ (Ne.symm hb)).trans q) ⟨_, e⟩ ?_
  exact ⟨hz, its', n', r, e⟩
noncomputable def rSetL : V → V → V → Hp → (Hp → Prop) → Prop := fun o i v H Q => ∃ p xs k j, o = .ref p ∧ i = .int k ∧ H p = some (.lst xs) ∧ ixN xs.length k = some j ∧ Q (upd H p (.lst (xs.set j v)))
theorem Zi2 : ZqL X rSetL := by
  intro pins s σ H o i v ov iv u Q I ro ri rv h
  obtain ⟨p, xs, k, j, rfl, rfl, hp, hj, q⟩ := h
  cases ro
  obtain ⟨t, rfl⟩ := ri
  obtain ⟨its, n, r, ho, hz⟩ := I.lst hp
  obtain ⟨h1, h2, h3, h4⟩ := Zhy hj
  have hl := r.length
  have hn := Zgb
  have I' : Inv X pins σ (upd H p (.lst (xs.set j v))) { s with heap := s.heap.update p (Obj.mapSeq (·.setIfInBounds j u)) } :=
    I.lstUpd hp ho (ZgP its n j u) (r.set rv j) (by rw [List.length_set]; exact hz) s.toks
  by_cases h0 : 0 ≤ k
  · have hk : k.toNat = j := by
      rw [seqIndex_of h0 h4] at h1
      exact Option.some.inj h1
    exact PySem.W.ki_setAt ho h0 (by omega) (by rw [List.size_toArray, ← hl]; exact h4) (by rw [hk]; exact ⟨_, I', q⟩)
  · have hk : (k + (its.toArray.size : Int)).toNat = j := by
      rw [seqIndex_neg (by omega) h3] at h1
      rw [List.size_toArray, ← hl]
      exact Option.some.inj h1
    exact PySem.W.ki_setBack ho (by omega) (by rw [List.size_toArray, ← hl]; exact h3) (by omega) (by rw [hk]; exact ⟨_, I', q⟩)
theorem ZeW (lo hi : Option Int) (n : Nat) : (sliceBounds lo hi none n).1 = ((HT.sIx n 0 lo : Nat) : Int) ∧ (sliceBounds lo hi none n).2.1 = ((HT.sIx n n hi : Nat) : Int) ∧ (sliceBounds lo hi none n).2.2 = 1 := by
  refine ⟨?_, ?_, rfl⟩
  · cases lo with
    | none => simp [sliceBounds, HT.sIx]
    | some i =>
      simp only [sliceBounds, HT.sIx, Option.getD_none, show (1 : Int) > 0 by decide, if_true]
      by_cases h : i < 0
      · simp only [h, if_true] <;> omega
      · simp only [h, if_false] <;> omega
  · cases hi with
    | none => simp [sliceBounds, HT.sIx]
    | some i =>
      simp only [sliceBounds, HT.sIx, Option.getD_none, show (1 : Int) > 0 by decide, if_true]
      by_cases h : i < 0
      · simp only [h, if_true] <;> omega
      · simp only [h, if_false] <;> omega
theorem Zef (its : List Value) (lo hi : Option Int) : slicePick its.toArray lo hi none = ((its.drop (HT.sIx its.length 0 lo)).take (HT.sIx its.length its.length hi - HT.sIx its.length 0 lo)).toArray := by
  obtain ⟨h1, h2, h3⟩ := ZeW lo hi its.toArray.size
  unfold slicePick
  rw [h1, h2, h3]
  simp only [sliceRange_one, pick_run, List.size_toArray] <;> rfl
noncomputable def Zr4 (K : PySem.W.Frag) : V → Option Int → Option Int → Hp → VK → Prop := fun x lo hi H Q => ∃ a xs, x = .ref a ∧ SqL K H a xs ∧ ∀ p, H p = none → Q (.ref p) (upd H p (.lst (ZjR xs lo hi)))
theorem ZkQ : SlR X (Zr4 X.K) := by
  intro pins s σ H x v vl vu lo hi sl Q I rx hs pl pu h
  obtain ⟨a, xs, rfl, hx, q⟩ := h
  cases rx
  obtain ⟨its, r, ht, hz⟩ := I.list hx
  have hlen := r.length
  refine ⟨"list", _, slot_list_getitem.lookup, ht.isList.typeIs, ?_⟩
  refine wpAny_getItem_list_slice ht.isList hs pl pu .none (by simp) ?_ (by rw [List.size_toArray] <;> omega)
  rw [Zef, ← hlen]
  refine ⟨.ref s.heap.objs.size, _, I.laid (t' := s.toks) (o := .lst (ZjR xs lo hi)) (fun b ob q => Heap.get?_push_of_some _ q) (Nat.le_refl _) ?_, rfl, q _ (I.hok.fresh (Nat.le_refl _))⟩
  exact ⟨Nat.le_trans (ZdB xs lo hi) hz, _, 0, (r.drop (HT.sIx xs.length 0 lo)).take (HT.sIx xs.length xs.length hi - HT.sIx xs.length 0 lo), Heap.get?_push_size _ rfl⟩
theorem Zo : Zcr X (.builtin "len") (fun xs H Q => ∃ p ys, xs = [.ref p] ∧ (SqL X.K H p ys ∨ SqT X.K H p ys) ∧ Q (.int ys.length) H) := by
  intro pins s σ H xs us Q I r h
  obtain ⟨p, ys, rfl, hq, q⟩ := h
  obtain ⟨u, rfl, rx⟩ := ZfD r
  cases rx
  have hn := Zgb
  rcases hq with hq | hq
  · obtain ⟨its, r', pl, hz⟩ := I.list hq
    have hlen := r'.length
    exact Calls.call_len_list pl.isList (by simp only [List.size_toArray] <;> omega) ⟨.int ys.length, H, I.tok _, ⟨s.toks + 1, by rw [List.size_toArray, hlen]⟩, q⟩
  · obtain ⟨its, r', pl, hz⟩ := I.tuple hq
    have hlen := r'.length
    exact len_tuple pl (by simp only [List.size_toArray] <;> omega) ⟨.int ys.length, H, I.tok _, ⟨s.toks + 1, by rw [List.size_toArray, hlen]⟩, q⟩
theorem Zcr.or {f : Value} {r r' : List V → Hp → VK → Prop} (h : Zcr X f r) (h' : Zcr X f r') : Zcr X f (fun xs H Q => r xs H Q ∨ r' xs H Q) := by
  intro pins s σ H xs us Q I rs q
  rcases q with q | q
  · exact h pins s σ H xs us Q I rs q
  · exact h' pins s σ H xs us Q I rs q
theorem Zb8 : Zcr X (.type "list") (fun xs H Q => ∃ p ys, xs = [.ref p] ∧ (SqL X.K H p ys ∨ SqT X.K H p ys) ∧ ∀ l, H l = none → Q (.ref l) (upd H l (.lst ys))) := by
  intro pins s σ H xs us Q I r h
  obtain ⟨p, ys, rfl, hq, q⟩ := h
  obtain ⟨u, rfl, rx⟩ := ZfD r
  cases rx
  have fin : ∀ (its : List Value), Z5 ys its → ys.length ≤ sizeLine → ∀ (h' : Heap) (c' : Nat), (∀ b o', s.heap.get? b = some o' → h'.get? b = some o') →
      h'.get? s.heap.objs.size = some { cls := .type "list", dict := none, data := .seq its.toArray c', slots := #[] } → EP X pins σ Q (.ref s.heap.objs.size) { s with heap := h' } := fun its r' hz h' c' kp e =>
    ⟨.ref s.heap.objs.size, _, I.laid (t' := s.toks) kp (Nat.le_refl _) (show ZcI X.prog X.w _ h' _ (.lst ys) from ⟨hz, its, c', r', e⟩), rfl, q _ (I.hok.fresh (Nat.le_refl _))⟩
  rcases hq with hq | hq
  · obtain ⟨its, r', pl, hz⟩ := I.list hq
    have hlen := r'.length
    obtain ⟨o, ho, hc, n, hd⟩ := pl.isList
    exact call_list_seq p (.inl rfl) ho hc hd (fun h' c' kp e => fin its r' hz h' c' kp e) (by simp only [List.size_toArray] <;> omega)
  · obtain ⟨its, r', pl, hz⟩ := I.tuple hq
    have hlen := r'.length
    obtain ⟨o, ho, hc, n, hd⟩ := pl
    exact call_list_seq p (.inr rfl) ho hc hd (fun h' c' kp e => fin its r' hz h' c' kp e) (by simp only [List.size_toArray] <;> omega)
noncomputable def tyV (K : PySem.W.Frag) (T : String) (x : V) (H : Hp) : Prop := match x with
  | .str _ => T = "str"
  | .int _ => T = "int"
  | .ref p => (T = "list" ∧ ∃ xs, SqL K H p xs) ∨ (T = "tuple" ∧ ∃ o, K.lookup p = some o ∧ o.cls = .type "tuple" ∧ o.dict = none) ∨
      (T = "dict" ∧ ((∃ kvs, H p = some (.dK kvs)) ∨ ∃ kvs, H p = some (.dT kvs))) ∨ (T = "set" ∧ ∃ S n, H p = some (.set S n))
  | _ => False
theorem Zmw {pins : List (Addr × Obj)} {σ : St} {H : Hp} {s : Shared} {T : String} {x : V} {v : Value} (I : Inv X pins σ H s) (r : ZaE x v) (ty : tyV X.K T x H) :
    s.TypeIs v T ∧ ∀ a, v = .ref a → ∃ ob, s.heap.get? a = some ob ∧ ob.dict = none := by
  cases x with
  | str z =>
    obtain ⟨t, rfl⟩ := r
    cases (show T = "str" from ty)
    exact ⟨typeIs_str s z t, fun _ e => nomatch e⟩
  | int i =>
    obtain ⟨t, rfl⟩ := r
    cases (show T = "int" from ty)
    exact ⟨typeIs_int s i t, fun _ e => nomatch e⟩
  | ref p =>
    cases r
    rcases ty with ⟨rfl, xs, hq⟩ | ⟨rfl, o, hk, hc, hd⟩ | ⟨rfl, hk⟩ | ⟨rfl, S, n, hk⟩
    · obtain ⟨its, _, pl, _⟩ := I.list hq
      refine ⟨pl.isList.typeIs, fun a e => ?_⟩
      cases e
      obtain ⟨o, n, e, c, hd, _⟩ := pl
      exact ⟨o, e, hd⟩
    · refine ⟨⟨o, I.kIn p o hk, hc⟩, fun a e => ?_⟩
      cases e
      exact ⟨o, I.kIn _ o hk, hd⟩
    · have z : ∃ o, s.heap.get? p = some o ∧ o.ExactDict := by
        rcases hk with ⟨kvs, hk⟩ | ⟨kvs, hk⟩
        · obtain ⟨_, _, _, _, o, _, _, e, ex, _⟩ := I.hok p _ hk
          exact ⟨o, e, ex⟩
        · obtain ⟨_, _, _, _, o, _, _, e, ex, _⟩ := I.hok p _ hk
          exact ⟨o, e, ex⟩
      obtain ⟨o, e, ex⟩ := z
      refine ⟨⟨o, e, ex.1⟩, fun a e2 => ?_⟩
      cases e2
      exact ⟨o, e, ex.2.1⟩
    · obtain ⟨o, _, _, _, e, ex, _⟩ := I.hok p _ hk
      refine ⟨⟨o, e, ex.1⟩, fun a e2 => ?_⟩
      cases e2
      exact ⟨o, e, ex.2.1⟩
  | _ => exact False.elim ty
noncomputable def tBM (K : PySem.W.Frag) (T : String) (r : V → List V → Hp → VK → Prop) (to : TE) (t : TA) : TE := fun σ H Q => to σ H fun x H1 => tyV K T x H1 ∧ t σ H1 fun xs H2 => r x xs H2 Q
variable {o e : Expr} {es : List Expr} {to : TE} {t : TA} {name : Str} {apos cpos : Pos} {T id : String} {r : V → List V → Hp → VK → Prop}
theorem Zo9 (pa : PlainAttrs T) (slot : Slot T name id) (hty : typeOf (.builtin id) = pure (.type "method_descriptor")) (hm : MtR X id r) (ho : PE X o to) (ha : PA X (e :: es) t)
    (hbase : attributeBase o name X.env (eval o X.env) = eval o X.env := by rfl)
    (hfew : ((backTo cpos (starEach (e :: es) X.env)).all (fun x => !x.1) && (backToKw cpos (keywordEach [] X.env)).all (fun x => x.1.isSome)
      && decide ((e :: es).length + ([] : List Keyword).length + (if ([] : List Keyword).isEmpty then 0 else 1) < 30)) = true := by rfl)
    (hline : (apos.endLine == cpos.line) = true := by rfl) (hs : starEach (e :: es) X.env = (false, eval e X.env) :: starEach es X.env := by rfl) (hplain : (backTo cpos (starEach es X.env)).any (·.1) = false := by rfl) :
    PE X (.Call (.Attribute o name apos) (e :: es) [] cpos) (tBM X.K T r to t) := by
  intro pins s σ H Q I h
  refine wpAny_Call_method_late hbase hfew hline rfl (thn (ho pins s σ H _ I h) fun v s1 ⟨x, H1, I1, r1, ty, q1⟩ => ?_)
  obtain ⟨h1, h2⟩ := Zmw I1 r1 ty
  refine ⟨T, id, pa, slot, hty, h1, h2, ?_⟩
  have hA := ha cpos pins s1 σ H1 _ I1 q1
  rw [hs] at hA ⊢
  refine Calls.callWith_builtin (by show (false || (backTo cpos (starEach es X.env)).any (·.1)) = false; rw [hplain] <;> rfl) (Calls.evalArgs_plain ?_)
  exact thn hA fun us s2 ⟨vs, H2, I2, r2, q2⟩ => hm pins s2 σ H2 x vs v us Q I2 r1 r2 q2
end
end L2
namespace L2
open PySem PySem.Spec PyProof.Rows
noncomputable def MtM (X : Cx) (id : String) (r : V → List V → Hp → VK → Prop) : Prop :=
  ∀ (pins : List (Addr × Obj)) (s : Shared) (σ : St) (H : Hp) (x : V) (xs : List V) (v : Value) (us : List Value) (Q : VK), Inv X pins σ H s → ZaE x v → Z5 xs us → r x xs H Q →
    wpAny (model X.prog X.w) X.A (call (.builtin id) (v :: us)) (EP X pins σ Q) X.xe s
theorem Z5.one : ∀ {x : V} {us : List Value}, Z5 [x] us → ∃ u, us = [u] ∧ ZaE x u
  | _, _, .cons r .nil => ⟨_, rfl, r⟩
theorem Z5.two : ∀ {x y : V} {us : List Value}, Z5 [x, y] us → ∃ u v, us = [u, v] ∧ ZaE x u ∧ ZaE y v
  | _, _, _, .cons r (.cons q .nil) => ⟨_, _, rfl, r, q⟩
theorem Z5.zero : ∀ {us : List Value}, Z5 [] us → us = []
  | _, .nil => rfl
theorem Z5.dropLast {xs : List V} {us : List Value} (h : Z5 xs us) : Z5 xs.dropLast us.dropLast := by
  induction h with
  | nil => exact .nil
  | cons r t ih =>
    cases t with
    | nil => exact .nil
    | cons q t' => exact .cons r ih
theorem Z5.reverse {xs : List V} {us : List Value} (h : Z5 xs us) : Z5 xs.reverse us.reverse := by
  induction h with
  | nil => exact .nil
  | cons r t ih => rw [List.reverse_cons, List.reverse_cons]; exact Z5.append ih (.cons r .nil)
section
variable {X : Cx} {pins : List (Addr × Obj)} {σ : St} {H : Hp} {s : Shared} {l b : Addr} {xs ys zs : List V}
theorem Inv.lset {its its' : List Value} {n : Nat} {f : Array Value → Array Value} {t' : Nat} (I : Inv X pins σ H s) (hH : H l = some (.lst xs))
    (e : s.heap.get? l = some { cls := .type "list", data := .seq its.toArray n }) (hf : f its.toArray = its'.toArray) (hv : Z5 ys its') (hz : ys.length ≤ sizeLine) :
    Inv X pins σ (upd H l (.lst ys)) { s with heap := s.heap.update l (Obj.mapSeq f), toks := t' } := by
  have q := PySem.IsL.update e f
  rw [hf] at q
  refine I.write (x := l) (e := l) (by rw [hH]; exact trivial) (.inl rfl) (fun b' u hb hu => (Heap.get?_update_other s.heap (Obj.mapSeq f) (Ne.symm hb)).trans hu) ⟨_, q⟩ ?_
  exact ⟨hz, its', _, hv, q⟩
theorem Inv.lnew {its : List Value} {t' : Nat} (I : Inv X pins σ H s) (hv : Z5 ys its) (hz : ys.length ≤ sizeLine) :
    Inv X pins σ (upd H s.heap.objs.size (.lst ys)) { s with heap := s.heap.push { cls := .type "list", data := .seq its.toArray }, toks := t' } :=
  I.laid (fun _ _ q => Heap.get?_push_of_some _ q) (Nat.le_refl _) ⟨hz, its, 0, hv, Heap.get?_push_size _ rfl⟩
theorem Inv.fresh (I : Inv X pins σ H s) : H s.heap.objs.size = none := I.hok.fresh (Nat.le_refl _)
theorem Inv.lstM (I : Inv X pins σ H s) (hH : H l = some (.lst xs)) : xs.length ≤ sizeLine ∧ ∃ (its : List Value) (n : Nat), Z5 xs its ∧ xs.length = its.length ∧ s.heap.get? l = some { cls := .type "list", data := .seq its.toArray n } := by
  obtain ⟨z, its, n, r, e⟩ := I.hok l _ hH
  exact ⟨z, its, n, r, r.length, e⟩
theorem Zi3 {n : Nat} (h : n ≤ sizeLine) : Builtin.List.listTooLong n = false := by
  unfold Builtin.List.listTooLong
  exact decide_eq_false (by omega)
end
section
variable {X : Cx}
noncomputable def rAppend : V → List V → Hp → VK → Prop := fun x vs H Q => ∃ l xs y, x = .ref l ∧ vs = [y] ∧ H l = some (.lst xs) ∧ xs.length < sizeLine ∧ Q .non (upd H l (.lst (xs ++ [y])))
theorem ZdC : MtM X "list.append" rAppend := by
  intro pins s σ H x vs v us Q I rx rv h
  obtain ⟨l, xs, y, rfl, rfl, hH, hz, q⟩ := h
  cases rx
  obtain ⟨u, rfl, ru⟩ := rv.one
  obtain ⟨z, its, n, r, hl, e⟩ := I.lstM hH
  refine call_meets F.slot_list_append ⟨_, e, rfl⟩ F.entry_list_append (F.args_list_append_2 _ _) (PySem.list_append l its.toArray n u (by rw [List.size_toArray]; omega)) ⟨e, ?_⟩
  refine ⟨.non, _, I.lset (its' := its ++ [u]) hH e (by simp) (r.append (.cons ru .nil)) ?_, rfl, q⟩
  rw [List.length_append, List.length_singleton]
  omega
noncomputable def rExtend : V → List V → Hp → VK → Prop := fun x vs H Q => ∃ l b xs zs, x = .ref l ∧ vs = [.ref b] ∧ H l = some (.lst xs) ∧ H b = some (.lst zs) ∧ xs.length + zs.length ≤ sizeLine ∧ Q .non (upd H l (.lst (xs ++ zs)))
theorem ZhB : MtM X "list.extend" rExtend := by
  intro pins s σ H x vs v us Q I rx rv h
  obtain ⟨l, b, xs, zs, rfl, rfl, hH, hB, hz, q⟩ := h
  cases rx
  obtain ⟨u, rfl, ru⟩ := rv.one
  cases ru
  obtain ⟨z, its, n, r, hl, e⟩ := I.lstM hH
  obtain ⟨z2, its2, n2, r2, hl2, e2⟩ := I.lstM hB
  have hsz : its.toArray.size + its2.toArray.size ≤ sizeLine := by rw [List.size_toArray, List.size_toArray]; omega
  have hlong : ¬ (!its.toArray.isEmpty && Builtin.List.listTooLong (its.toArray.size + its2.toArray.size)) = true := by
    rw [Zi3 hsz, Bool.and_false]
    exact Bool.false_ne_true
  refine call_meets F.slot_list_extend ⟨_, e, rfl⟩ F.entry_list_extend (F.args_list_extend_2 _ _)
    (AutoSeq1.list_extend_list_list_0 l its.toArray n b its2.toArray n2 hlong (by rw [List.size_toArray]; omega) (by omega)) ⟨e, e2, ?_⟩
  refine ⟨.non, _, I.lset (its' := its ++ its2) hH e (by simp) (r.append r2) ?_, rfl, q⟩
  rw [List.length_append]
  omega
noncomputable def rCat : R2 := fun x y H Q => ∃ l b xs zs, x = .ref l ∧ y = .ref b ∧ H l = some (.lst xs) ∧ H b = some (.lst zs) ∧ xs.length + zs.length ≤ sizeLine ∧ ∀ p, H p = none → Q (.ref p) (upd H p (.lst (xs ++ zs)))
theorem Zmx : OpR X (binaryOp .Add) rCat := by
  intro pins s σ H x y v u Q I rx ry h
  obtain ⟨l, b, xs, zs, rfl, rfl, hH, hB, hz, q⟩ := h
  cases rx
  cases ry
  obtain ⟨z, its, n, r, hl, e⟩ := I.lstM hH
  obtain ⟨z2, its2, n2, r2, hl2, e2⟩ := I.lstM hB
  refine PySem.P.add_list e e2 ?_ (by rw [List.size_toArray, List.size_toArray]; omega)
  have ea : its.toArray ++ its2.toArray = (its ++ its2).toArray := by simp
  rw [ea]
  exact ⟨.ref _, _, I.lnew (t' := s.toks) (r.append r2) (by rw [List.length_append]; omega), rfl, q _ I.fresh⟩
end
section
variable {prog : Program} {w : World} {A : Around} {E : Value → Shared → Prop} {s : Shared}
end
section
variable {X : Cx}
end
end L2
namespace Att
open PySem PySem.W PySem.Calls PyProof.Rows
theorem ZdD {P : Params} {h : Heap} : ∀ (ns : List Int) (vs : List Value), WellAll P h vs (ns.map WData.int) → IntsAre vs ns := by
  intro ns
  induction ns with
  | nil =>
    intro vs w
    rw [List.map_nil] at w
    cases w
    exact .nil
  | cons n ns ih =>
    intro vs w
    rw [List.map_cons] at w
    cases w with
    | cons a b =>
      cases a
      exact .cons _ _ (ih _ b)
theorem ZhC {l : OpenLaw} {n : Nat} (hn : l.most = some n) {P : Params} {h : Heap} {args : List WData} {vals : List Value}
    (hpre : l.row.toRowW.claim.pre args = true) (hwl : WellAll P h vals args) :
    ∃ a vs ns, vals = [Value.ref a] ∧ args = [WData.list (ns.map WData.int)] ∧ h.get? a = some { cls := .type "list", data := .seq vs.toArray } ∧ IntsAre vs ns ∧ ns.length ≤ n := by
  have hsh : WShape.hasAll [] args [.list .int] = true := (pre_splitW hpre).1
  have hc : l.pre.holds [] { args := args } = true := (pre_splitW hpre).2
  obtain ⟨d, r, rfl, h1, h2⟩ := hasAllW_cons hsh
  obtain rfl := hasAllW_nil h2
  obtain ⟨xs, rfl, h3⟩ := hasW_list h1
  obtain ⟨ns, rfl⟩ := items_int h3
  have hlen : ns.length ≤ n := by
    unfold OpenLaw.pre at hc
    have h4 : (WTm.not (.lt (.lit (.int (n : Int))) (.len (.arg 0)))).holds [] { args := [.list (ns.map .int)] } = true := by
      have h4 := (holds_andW hc).1
      rw [hn] at h4
      exact h4
    have h5 := condW_of h4 (w_not (w_lt w_lit (w_len_list (w_arg rfl))))
    rw [List.length_map] at h5
    refine Nat.le_of_not_lt fun q => ?_
    have q' : (n : Int) < ((ns.length : Nat) : Int) := by omega
    first
      | (rw [decide_eq_true q'] at h5; exact absurd h5 (by decide))
      | (simp at h5; omega)
  cases hwl with
  | cons w1 w2 =>
    cases w2
    cases w1 with
    | list ho hall => exact ⟨_, _, ns, rfl, rfl, ho, ZdD ns _ hall, hlen⟩
theorem ZhD (l : OpenLaw) (args : List WData) : l.row.toRowW.claim.post args (.bool true) args = true :=
  postW_of (r := l.row.toRowW) (X := (true == true))
    (show WShape.has [] (.bool true) .bool = true by first | rfl | decide | simp [WShape.has, WShape.arms, WShape.armsAll])
    (show (WTm.eq .res (.lit (.bool true))).value [] { args := args, res := some (.bool true), after := args } = some (.bool (true == true)) from w_eq_bool (w_res rfl) w_lit) rfl
theorem ZfG {l : OpenLaw} {n : Nat} {q : Program} {loose : List Str} {XP : (Str → Option Value) → Heap → Prop} {YP : World → Heap → Prop} {d : DefRec}
    (hn : l.most = some n) (hdf : d.params.defaults = [])
    (call : ∀ (w : World) (s₀ s₁ : Shared) (mg mb : Str → Option Value) (fa : Addr) (o : Obj) (pm cd doc : Value) (a : Addr) (vs : List Value) (ns : List Int),
      Ground q loose [] XP w s₀ mg mb s₁.heap → YP w s₁.heap →
      s₁.heap.get? fa = some o → o.data = .func (docDef d.name d.params d.body d.scope pm cd doc) → s₁.heap.CodeRec cd d.name → mg d.name = some (.ref fa) →
      s₁.heap.get? a = some { cls := .type "list", data := .seq vs.toArray } → IntsAre vs ns → ns.length ≤ n → s₁.gens = #[] →
      codeAny (model l.prog w) callerA (.call (.ref fa) ⟨[.ref a], []⟩) (fun r s' => r = .ok (.ret (.bool true)) ∧ OldK s₁.heap s'.heap ∧ s'.os = s₁.os ∧ AllBare s'.gens) s₁) :
    WalkO q loose XP YP l.row.toRowW d [] (fun f vs => PySem.call f vs) := by
  intro w s₀ s₁ mg mb G Y fa o pm cd doc dV kV ho hd hcd hD hmg hg args vals as hpre hlay hrd hwl hlo
  obtain rfl : dV = .none := Dflts.none hD hdf
  obtain rfl : kV = .none := Dflts.noKw hD
  obtain ⟨a, vs, ns, rfl, rfl, hobj, hints, hlen⟩ := ZhC hn hpre hwl
  refine enter_call (codeAny_mono (call w s₀ s₁ mg mb fa o pm cd doc a vs ns G Y ho (fd_plain hd) hcd hmg hobj hints hlen hg) fun r s' hq => ?_)
  obtain ⟨rfl, h2, h3, h4⟩ := hq
  exact ⟨.inl ⟨.bool true, .bool true, [], rfl, fun _ => rfl, .bool true, ZhD l _, fun _ => ⟨List.Pairwise.nil, fun _ hm => (nomatch hm)⟩⟩, h2, h3, h4⟩
section
variable {prog : Program} {w : World} {A : Around} {E : Value → Shared → Prop} {s : Shared} {K : Frag}
end
end Att
namespace L2
open PySem PySem.Spec PyProof.Rows
theorem ZeX : ∀ {vs : List Value} {ns : List Int}, IntsAre vs ns → Z5 (ns.map V.int) vs
  | _, _, .nil => .nil
  | _, _, .cons n t h => .cons ⟨t, rfl⟩ (ZeX h)
noncomputable def ZoO (H : Hp) : Prop := ∀ b, H b = none ∨ ∃ o xs, H b = some (.frz o (.lst xs))
theorem Zi4 {P : Program} {w : World} {K : PySem.W.Frag} {mg mb : Str → Option Value} {CX : CXT} {k : Nat} {fa a : Addr} {fd : FuncData} {x : Str} {sp : Sp} {s₁ : Shared} {vs : List Value} {ns : List Int}
    (KX : K.In s₁.heap) (hns : s₁.heap.Ns mainGlobals mg) (hb : s₁.heap.Ns builtinsNs mb) (hbb : ∀ x : Str, x ≠ "__name__" → mb x = bootBuiltins x) (hlim : s₁.heap.NoLimit) (hg : s₁.gens = #[])
    (ha : s₁.heap.get? a = some { cls := .type "list", data := .seq vs.toArray }) (hi : IntsAre vs ns) (hl : ns.length ≤ sizeLine) (hr : Room k callerA)
    (F : ∀ base : Heap, K.In base → base.Ns mainGlobals mg → FnOk P w K mg base CX k fa fd [x] sp) (hbind : ∀ (s : Shared) (u : Value), BindsTo s fd ⟨[u], []⟩ [(x, u)])
    (hsp : ∀ H : Hp, ZoO H → SqL K H a (ns.map V.int) → sp [.ref a] H (fun v _ => v = .bl true) fun _ _ _ => False)
    (hCX : ∀ H e s', CX [] H s₁ (fun _ _ _ => False) e s' → False) :
    codeAny (model P w) callerA (.call (.ref fa) ⟨[.ref a], []⟩) (fun r s' => r = .ok (.ret (.bool true)) ∧ OldK s₁.heap s'.heap ∧ s'.os = s₁.os ∧ AllBare s'.gens) s₁ := by
  have rv := ZeX hi
  have lenV := hi.length
  have core : ∀ H : Hp, ZoO H → SqL K H a (ns.map V.int) → HOk P w H s₁.heap → (∀ b, H b ≠ none → b = a) → (H a ≠ none → K.lookup a = none) →
      codeAny (model P w) callerA (.call (.ref fa) ⟨[.ref a], []⟩) (fun r s' => r = .ok (.ret (.bool true)) ∧ OldK s₁.heap s'.heap ∧ s'.os = s₁.os ∧ AllBare s'.gens) s₁ := by
    intro H hO hS hok hA hK
    have base_of : ∀ {b : Addr} {o : Obj}, s₁.heap.get? b = some o → H b = none → (ZiQ s₁.heap H).get? b = some o := fun e n => Zf9 e n
    have noA : ∀ {b : Addr} {o : Obj} {es : Array DictEntry} {ep : Nat}, s₁.heap.get? b = some o → o.data = .dict es ep → H b = none := fun {b o es ep} e d => by
      cases q : H b with
      | none => rfl
      | some u =>
        have e' : b = a := hA b (by rw [q]; simp)
        subst e'
        rw [ha] at e; cases e
        have d' : Data.seq vs.toArray _ = Data.dict es ep := d
        cases d'
    have nsK : ∀ {b : Addr} {m : Str → Option Value}, s₁.heap.Ns b m → (ZiQ s₁.heap H).Ns b m := fun {b m} ⟨o, es, ep, e, d, r⟩ => ⟨o, es, ep, base_of e (noA e d), d, r⟩
    have hKb : K.In (ZiQ s₁.heap H) := fun b o e => base_of (KX b o e) (by
      cases q : H b with
      | none => rfl
      | some u =>
        have e' : b = a := hA b (by rw [q]; simp)
        subst e'
        rw [hK (by rw [q]; simp)] at e; cases e)
    have hM : Mod K mg (ZiQ s₁.heap H) := ⟨hKb, nsK hns, ⟨mb, nsK hb, hbb⟩, let ⟨mc, h1, h2⟩ := hlim; ⟨mc, nsK h1, h2⟩⟩
    have e0 : Env0 P w K mg (ZiQ s₁.heap H) callerA [] s₁ H := ⟨rfl, hM, fun b o e => Zhn e, Nat.le_of_eq (Zhm _ _), trivial, fun b hb => absurd (show b ∈ ([] : List Addr) from hb) (by simp), hok, .of_eq hg, .inl rfl⟩
    refine codeAny_mono ((F _ hKb (nsK hns)).run callerA [] s₁ H ⟨[.ref a], []⟩ [.ref a] [.ref a] _ _ hr e0 (hbind s₁ (.ref a)) (.cons rfl .nil) (hsp H hO hS)) fun r s' h => ?_
    cases r with
    | error e => exact (hCX H e s' h).elim
    | ok fl =>
      cases fl with
      | next => exact False.elim h
      | brk => exact False.elim h
      | cont => exact False.elim h
      | ret u =>
        obtain ⟨v, H', os, bare, un, hok', r', q⟩ := h
        have q' : v = .bl true := q
        subst q'
        obtain rfl : u = Value.bool true := r'
        refine ⟨rfl, OldK.of_keep fun b o e => ?_, os, bare⟩
        cases q : H b with
        | none => exact un.keep b o e q (by intro z; exact absurd (show b ∈ ([] : List Addr) from z) (by simp)) (by simp)
        | some u =>
          rcases hO b with z | ⟨ob, xs, z⟩
          · rw [q] at z; cases z
          · have z2 := un.frzs b ob _ z
            obtain ⟨e1, _⟩ := hok b _ z
            obtain ⟨e2, _⟩ := hok' b _ z2
            rw [e] at e1; cases e1
            exact e2
  cases hk : K.lookup a with
  | some o =>
    have e := KX a o hk
    rw [ha] at e
    cases e
    refine core (fun _ => none) (fun _ => .inl rfl) (.inr ⟨_, vs.toArray, _, hk, rfl, rfl, rfl, by rw [List.size_toArray, lenV]; exact hl, by simpa using rv⟩) (fun b u z => by have z' : (none : Option HO) = some u := z; cases z') (fun b z => absurd rfl z) fun z => absurd rfl z
  | none =>
    refine core (fun b => if b = a then some (.frz { cls := .type "list", data := .seq vs.toArray } (.lst (ns.map V.int))) else none) (fun b => ?_) (.inl (.inr ⟨{ cls := .type "list", data := .seq vs.toArray }, if_pos rfl⟩)) (fun b u z => ?_) (fun b z => ?_) fun _ => hk
    · by_cases hb : b = a
      · exact .inr ⟨_, _, if_pos hb⟩
      · exact .inl (if_neg hb)
    · by_cases hb : b = a
      · have z' := (if_pos hb).symm.trans z
        cases z'
        subst hb
        exact ⟨ha, by rw [List.length_map]; exact hl, vs, _, rv, ha⟩
      · have z' := (if_neg hb).symm.trans z
        cases z'
    · by_cases hb : b = a
      · exact hb
      · exact absurd (if_neg hb) z
end L2
namespace L2
open PySem PySem.Spec PyProof.Rows
theorem ZkR {l : PySem.W.OpenLaw} {n k : Nat} {q : Program} {loose : List Str} {XP : (Str → Option Value) → Heap → Prop} {YP : World → Heap → Prop} {d : DefRec} {K : Params → PySem.W.Frag} {CX : World → CXT} {sp : World → Sp} {x : Str}
    (hn : l.most = some n) (hn2 : n ≤ sizeLine) (hdf : d.params.defaults = []) (hr : Room k callerA)
    (hY : ∀ (w : World) (h : Heap), YP w h → (K w.params).In h)
    (F : ∀ (w : World) (mg : Str → Option Value) (fa : Addr) (h : Heap), (K w.params).In h → h.Ns mainGlobals mg → mg d.name = some (.ref fa) →
      ∃ fd : FuncData, (∀ (s : Shared) (u : Value), BindsTo s fd ⟨[u], []⟩ [(x, u)]) ∧
        ∀ base : Heap, (K w.params).In base → base.Ns mainGlobals mg → FnOk l.prog w (K w.params) mg base (CX w) k fa fd [x] (sp w))
    (hsp : ∀ (w : World) (H : Hp) (a : Addr) (ns : List Int), ns.length ≤ n → ZoO H → SqL (K w.params) H a (ns.map V.int) → sp w [.ref a] H (fun v _ => v = .bl true) fun _ _ _ => False)
    (hCX : ∀ (w : World) (H : Hp) (s : Shared) (e : Value) (s' : Shared), CX w [] H s (fun _ _ _ => False) e s' → False) :
    PySem.W.WalkO q loose XP YP l.row.toRowW d [] (fun f vs => PySem.call f vs) := by
  refine Att.ZfG hn hdf fun w s₀ s₁ mg mb fa o pm cd doc a vs ns G Y ho hd hcd hmg hobj hints hlen hg => ?_
  have KX := hY w _ Y
  obtain ⟨fd, hb, hF⟩ := F w mg fa _ KX G.T.g hmg
  exact Zi4 KX G.T.g G.T.b G.T.builtins G.T.nolimit hg hobj hints (Nat.le_trans hlen hn2) hr hF hb (fun H hO hS => hsp w H a ns hlen hO hS) fun H e s' => hCX w H s₁ e s'
end L2
namespace L2
open PySem PySem.Spec PyProof.Rows
noncomputable def Zs (s : Stmt) : Arguments := match s with
  | .FunctionDef _ a _ _ _ _ _ _ _ _ => a
  | _ => { posonlyargs := [], args := [], vararg := none, kwonlyargs := [], kw_defaults := [], kwarg := none, defaults := [] }
noncomputable def Zq (s : Stmt) : List Stmt := match s with
  | .FunctionDef _ _ b _ _ _ _ _ _ _ => b
  | _ => []
noncomputable def Zj (s : Stmt) : Scope := match s with
  | .FunctionDef _ _ _ _ _ _ sc _ _ _ => sc
  | _ => { kind := .function, names := [], isGenerator := false, isCoroutine := false }
noncomputable abbrev CX0 : CXT := fun _ _ _ _ _ _ => False
noncomputable abbrev E0 : XK := fun _ _ _ => False
structure Fun (K : PySem.W.Frag) (x qual : Str) (st : Stmt) (f : Addr) (fd : FuncData) : Prop where
  ex : ∃ (oc : Value) (od : Option Addr) (kV doc pm : Value) (an : Option Addr) (cdv ct : Value) (osl : Array (Option Value)),
    fd = PySem.W.fnOf x qual (Zs st) (Zq st) (Zj st) .none kV doc pm an cdv ct ∧ K.lookup f = some ⟨oc, od, .func fd, osl⟩ ∧ PySem.W.codeIn K cdv qual = true
  kp : PySem.W.keepIn K (.ref f) = true
section
variable {P : Program} {w : World} {K : PySem.W.Frag} {mg : Str → Option Value} {base : Heap}
theorem Fun.ok {x qual : Str} {st : Stmt} {f : Addr} {fd : FuncData} {N ps : List Str} {k : Nat} {sp : Sp} (F : Fun K x qual st f fd) (S : FnScope N ps (Zj st)) (len : ∀ vs H Q E, sp vs H Q E → vs.length = ps.length)
    (hbody : ∀ (cdv : Value) (A : Around) (outer : List Env) (s : Shared) (H : Hp) (vs : List V) (Q : VK) (E : XK), Room k (A.deeper (envOfC qual (Zj st) s.heap.objs.size f cdv)) → sp vs H Q E →
      ∃ t, PSs (ZeV CX0 P w K mg base N qual (Zj st) f cdv A outer s H E).nox (Zq st) t ∧ t { nx := fun _ H' => Q .non H', rt := Q } (start N vs) H) : FnOk P w K mg base CX0 (k + 1) f fd ps sp := by
  obtain ⟨oc, od, kV, doc, pm, an, cdv, ct, osl, rfl, lk, hcd⟩ := F.ex
  refine Zms lk hcd S len fun A outer s H vs Q E hr hsp => ?_
  obtain ⟨t, h, q⟩ := hbody cdv A outer s H vs Q E hr hsp
  exact ⟨t, h.nox, q⟩
theorem Fun.binds {x qual : Str} {st : Stmt} {f : Addr} {fd : FuncData} {ps : List Str} (F : Fun K x qual st f fd)
    (h : ∀ (kV doc pm : Value) (an : Option Addr) (cdv ct : Value) (us : List Value), us.length = ps.length → bindArgs (PySem.W.fnOf x qual (Zs st) (Zq st) (Zj st) .none kV doc pm an cdv ct) ⟨us, []⟩ = pure (ps.zip us)) : ZfF K fd ps [] := by
  obtain ⟨oc, od, kV, doc, pm, an, cdv, ct, osl, rfl, lk, hcd⟩ := F.ex
  exact .all (h kV doc pm an cdv ct)
theorem ZB {x qual : Str} {st : Stmt} {f : Addr} {oc : Value} {od an : Option Addr} {osl : Array (Option Value)} {kV doc pm cdv ct : Value} (l : K.lookup f = some ⟨oc, od, .func (PySem.W.fnOf x qual (Zs st) (Zq st) (Zj st) .none kV doc pm an cdv ct), osl⟩)
    (c : PySem.W.codeIn K cdv qual = true) (k : PySem.W.keepIn K (.ref f) = true) : Fun K x qual st f (PySem.W.fnOf x qual (Zs st) (Zq st) (Zj st) .none kV doc pm an cdv ct) := ⟨⟨oc, od, kV, doc, pm, an, cdv, ct, osl, rfl, l, c⟩, k⟩
end
theorem ZhE {n : Nat} (h : n ≤ 1000) : n < sizeLine := Nat.lt_of_le_of_lt h (by decide)
section
variable {X : Cx}
end
theorem ZkS {A B : Prop} (h : B) : if false = true then A else B := by
  rw [if_neg Bool.false_ne_true]
  exact h
theorem ZkT {A B : Prop} (h : A) : if true = true then A else B := by
  rw [if_pos rfl]
  exact h
noncomputable def ZiR (H H' : Hp) : Prop := ∀ b o, H b = some o → H' b = some o
theorem ZiR.refl (H : Hp) : ZiR H H := fun _ _ h => h
theorem ZiR.trans {H H1 H2 : Hp} (a : ZiR H H1) (b : ZiR H1 H2) : ZiR H H2 := fun c o h => b c o (a c o h)
theorem ZiR.free {H H' : Hp} (e : ZiR H H') {l : Addr} (h : H' l = Option.none) : H l = Option.none := by
  cases q : H l with
  | none => rfl
  | some o =>
    rw [e l o q] at h
    cases h
theorem ZiR.seq {K : PySem.W.Frag} {H H' : Hp} {a : Addr} {xs : List V} (e : ZiR H H') (h : SqL K H a xs) : SqL K H' a xs := by
  rcases h with (h | ⟨o, h⟩) | h
  · exact .inl (.inl (e _ _ h))
  · exact .inl (.inr ⟨o, e _ _ h⟩)
  · exact .inr h
end L2
end
section
set_option Elab.async false
set_option linter.all false
set_option maxRecDepth 100000
namespace DQ
open PySem PySem.Spec PyProof.Rows
structure Fly (B : Heap) (l : List Env) (e : Addr) (cls : Value) (dct : Option Addr) (fl : Value) (h : Heap) : Prop where
  stay : B.StaysIn h
  new : B.get? e = none
  frames : h.FunFrames B l
  obj : ∃ oe vs T oT ts, h.get? e = some oe ∧ oe.cls = cls ∧ oe.dict = dct ∧ oe.data = .fields vs ∧ vs[2]? = some .none ∧ vs[1]? = some (.ref T) ∧ B.get? T = none ∧ T ≠ e ∧ h.get? T = some oT ∧ oT.data = .fields ts ∧ ts[3]? = some fl
theorem Fly.tail {B : Heap} {env : Env} {l : List Env} {e : Addr} {cls : Value} {dct : Option Addr} {fl : Value} {h : Heap} (f : Fly B (env :: l) e cls dct fl h) : Fly B l e cls dct fl h := ⟨f.stay, f.new, f.frames.2.2, f.obj⟩
section
variable {M : Model} {A : Around} {E : Value → Shared → Prop} {s : Shared} {B : Heap} {env : Env} {outer l : List Env} {L e : Addr} {cls : Value} {dct : Option Addr} {fl : Value}
theorem apart {h : Heap} {oe : Obj} {vs : Array Value} (hl : h.FunFrames B l) (he : h.get? e = some oe) (hd : oe.data = .fields vs) : e ∉ l.filterMap (·.frame) := fun z => by
  obtain ⟨_, o, h1, h2⟩ := hl.mem z
  rw [he] at h1
  cases h1
  exact h2 vs hd
theorem ZeY {oe : Obj} {vs : Array Value} {head : Value} {hn : Bool} {Q : Unit → Shared → Prop} (hfr : A.frames = some (env :: outer)) (hl : s.heap.FunFrames B (env :: outer)) (hf : env.frame = some L)
    (he : s.heap.get? e = some oe) (hs : B.StaysIn s.heap) (hb : B.get? e = none) (hd : oe.data = .fields vs) (hz : 2 < vs.size) (h2 : vs[2]? = some .none)
    (h : ∀ h', Fly B (env :: outer) e oe.cls oe.dict (rawInt L) h' → s.heap.UpToSlots h' → Q () { s with heap := h' }) :
    wpAny M A (frameOf env >>= fun a => entryPlaceOf L hn >>= fun pl => EntryCells.newEntry head a .none (rawInt L) .none pl >>= fun b => setField (.ref e) 1 b) Q E s := by
  have ne := apart hl he hd
  refine wpAny_bind (wpAny_frameOf_fun hfr hl hf fun h1 k1 => wpAny_bind (wpAny_entryPlaceOf fun pl hpl => wpAny_bind ?_))
  unfold EntryCells.newEntry newFields
  refine wpAny_newObj_type ?_ (hpl.sizeOk5 _ _ _ _ _)
  generalize hT : ([head, Value.ref L, Value.none, rawInt L, Value.none] ++ (if pl.isEmpty then List.replicate 6 Value.none else pl)).toArray = ts
  have h3 : ts[3]? = some (rawInt L) := by
    rw [← hT]
    rcases hpl with rfl | ⟨_, _, _, _, _, _, _, rfl⟩ <;> simp
  have e1 : h1.get? e = some oe := (k1.2.1 e ne).trans he
  have s1 : B.StaysIn h1 := fun b o hbo => (k1.2.1 b fun z => by rw [(hl.mem z).1] at hbo; cases hbo).trans (hs b o hbo)
  generalize hoT : ({ cls := .type "traceback", dict := none, data := .fields ts } : Obj) = oT
  have dT : oT.data = .fields ts := by rw [← hoT]
  have fT : oT.isFreed = false := Obj.isFreed_of_fields dT
  have e2 : (h1.push oT).get? e = some oe := Heap.get?_push_of_some _ e1
  have nT : h1.objs.size ≠ e := Nat.ne_of_gt (Heap.lt_size e1)
  refine wpAny_setField e2 hd (Nat.lt_trans (by decide) hz) (h _ ?_ ?_)
  · have d3 := Obj.data_mapFields hd (·.setIfInBounds 1 (Value.ref h1.objs.size))
    have e3 := Heap.get?_update_self (Obj.mapFields (·.setIfInBounds 1 (Value.ref h1.objs.size))) e2 (Obj.isFreed_of_fields d3)
    have keep : ∀ b o, b ≠ e → h1.get? b = some o → ((h1.push oT).update e (Obj.mapFields (·.setIfInBounds 1 (Value.ref h1.objs.size)))).get? b = some o := fun b o hbe x => by
      rw [Heap.get?_update_other _ _ (Ne.symm hbe)]
      exact Heap.get?_push_of_some _ x
    have gT : (h1.push oT).get? h1.objs.size = some oT := Heap.get?_push_size _ fT
    refine ⟨fun b o x => keep b o (fun z => by rw [z, hb] at x; cases x) (s1 b o x), hb, hl.of_keeps fun b o x y => ?_, _, _, h1.objs.size, oT, ts, e3, Obj.cls_mapFields _ _, ?_, d3, ?_, ?_, s1.fresh, nT, ?_, dT, h3⟩
    · obtain ⟨sl, z⟩ := k1.2.2 b o x
      exact ⟨_, keep b _ (fun w => y vs (by rw [w, he] at x; cases x; exact hd)) z, rfl⟩
    · obtain ⟨c, d, dd, sl⟩ := oe
      cases hd
      rfl
    · rw [Array.getElem?_setIfInBounds_ne (by decide)]
      exact h2
    · rw [Array.getElem?_setIfInBounds_self_of_lt (Nat.lt_trans (by decide) hz)]
    · rw [Heap.get?_update_other _ _ (Ne.symm nT)]
      exact gT
  · intro b o x y
    obtain ⟨sl, z⟩ := k1.2.2 b o x
    refine ⟨sl, ?_⟩
    rw [Heap.get?_update_other _ _ (fun w => y vs (by rw [← w, he] at x; cases x; exact hd))]
    exact Heap.get?_push_of_some _ z
theorem Zge {Q : Unit → Shared → Prop} (f : Fly B l e cls dct fl s.heap) (h : ∀ h', Fly B l e cls dct .none h' → s.heap.UpToSlots h' → Q () { s with heap := h' }) : wpAny M A (setFlight (.ref e) none) Q E s := by
  obtain ⟨st, nw, fr, oe, vs, T, oT, ts, g1, g2, g3, g4, g5, g6, g7, g8, g9, g10, g11⟩ := f
  have hz : 3 < ts.size := (Array.getElem?_eq_some_iff.mp g11).1
  unfold setFlight
  refine wpAny_bind (wpAny_field g1 g4 g6 ?_)
  rw [if_pos (by simp)]
  have oth : ∀ b o, b ≠ T → s.heap.get? b = some o → (s.heap.update T (Obj.mapFields (·.setIfInBounds 3 Value.none))).get? b = some o := fun b o hb x => by
    rw [Heap.get?_update_other _ _ (Ne.symm hb)]
    exact x
  have nr : ∀ b o, s.heap.get? b = some o → (∀ vs, o.data ≠ .fields vs) → b ≠ T := fun b o x y z => by
    rw [z, g9] at x
    cases x
    exact y ts g10
  refine wpAny_setField g9 g10 hz (h _ ⟨fun b o x => oth b o (fun z => by rw [z, g7] at x; cases x) (st b o x), nw, fr.of_keeps fun b o x y => ⟨o, oth b o (nr b o x y) x, rfl⟩, ?_⟩ fun b o x y => ⟨o.slots, oth b o (nr b o x y) x⟩)
  exact ⟨oe, vs, T, _, _, oth e oe (Ne.symm g8) g1, g2, g3, g4, g5, g6, g7, g8, Heap.get?_update_self _ g9 (Obj.isFreed_of_fields (Obj.data_mapFields g10 _)), Obj.data_mapFields g10 _, by rw [Array.getElem?_setIfInBounds_self_of_lt hz]; rfl⟩
theorem Zi5 {Q : Unit → Shared → Prop} (hfr : A.frames = some (env :: outer)) (hf : env.frame = some L) (f : Fly B (env :: outer) e cls dct .none s.heap)
    (h : ∀ h', Fly B (env :: outer) e cls dct (rawInt L) h' → s.heap.UpToSlots h' → Q () { s with heap := h' }) : wpAny M A (noteFrame (.ref e) env) Q E s := by
  obtain ⟨st, nw, fr, oe, vs, T, oT, ts, g1, g2, g3, g4, g5, g6, g7, g8, g9, g10, g11⟩ := f
  unfold noteFrame
  simp only [hf]
  refine wpAny_bind (wpAny_field g1 g4 g6 ?_)
  rw [if_pos (by simp)]
  refine wpAny_bind (wpAny_field g9 g10 g11 ?_)
  rw [if_neg (by simp [rawInt])]
  have oth : ∀ b o, b ≠ T → s.heap.get? b = some o → (s.heap.update T (Obj.mapFields (·.setIfInBounds 3 Value.none))).get? b = some o := fun b o hb x => by
    rw [Heap.get?_update_other _ _ (Ne.symm hb)]
    exact x
  have nr : ∀ b o, s.heap.get? b = some o → (∀ vs, o.data ≠ .fields vs) → b ≠ T := fun b o x y z => by
    rw [z, g9] at x
    cases x
    exact y ts g10
  refine wpAny_bind (wpAny_setField g9 g10 (Array.getElem?_eq_some_iff.mp g11).1 ?_)
  refine ZeY hfr (fr.of_keeps fun b o x y => ⟨o, oth b o (nr b o x y) x, rfl⟩) hf (oth e oe (Ne.symm g8) g1) (fun b o x => oth b o (fun z => by rw [z, g7] at x; cases x) (st b o x)) nw g4 (Array.getElem?_eq_some_iff.mp g5).1 g5 fun h' k1 k2 => h h' (g2 ▸ g3 ▸ k1) ?_
  intro b o x y
  exact k2 b o (oth b o (nr b o x y) x) y
theorem ZhF {Q : Unit → Shared → Prop} (hfr : A.frames = some (env :: outer)) (hf : env.frame = some L) (f : Fly B (env :: outer) e cls dct .none s.heap)
    (h : ∀ h', Fly B outer e cls dct .none h' → s.heap.UpToSlots h' → Q () { s with heap := h' }) : wpAny M A (leaving env (.ref e)) Q E s := by
  unfold leaving
  refine wpAny_bind (Zi5 hfr hf f fun h1 k1 u1 => ?_)
  exact Zge (s := { s with heap := h1 }) k1 fun h2 k2 u2 => h h2 k2.tail (u1.trans u2)
theorem ZhG {oe : Obj} {vs : Array Value} {Q : Unit → Shared → Prop} (hfr : A.frames = some (env :: outer)) (hf : env.frame = some L) (hl : s.heap.FunFrames B (env :: outer)) (he : s.heap.get? e = some oe) (hs : B.StaysIn s.heap) (hb : B.get? e = none) (hd : oe.data = .fields vs) (h1 : vs[1]? = some .none) (h2 : vs[2]? = some .none)
    (h : ∀ h', Fly B outer e oe.cls oe.dict .none h' → s.heap.UpToSlots h' → Q () { s with heap := h' }) : wpAny M A (leaving env (.ref e)) Q E s := by
  unfold leaving noteFrame
  simp only [hf]
  refine wpAny_bind (wpAny_bind (wpAny_field he hd h1 ?_))
  rw [if_neg (by decide)]
  refine ZeY hfr hl hf he hs hb hd (Array.getElem?_eq_some_iff.mp h2).1 h2 fun h' k1 u1 => ?_
  exact Zge (s := { s with heap := h' }) k1 fun h2 k2 u2 => h h2 k2.tail (u1.trans u2)
end
end DQ
end
section
set_option Elab.async false
set_option linter.all false
set_option maxRecDepth 100000
namespace DQ
open PySem PySem.Spec PyProof.Rows
open PySem.W (Looks findIn mroIn specialIn takesIn clsIn looks_findIn looks_mroIn looks_find findObj KitX)
structure ExcC (K : PySem.W.Frag) (C : Addr) : Prop where
  ga : findIn K (.ref C) "__getattribute__" = some (some (.builtin "BaseException.__getattribute__"))
  gt : findIn K (.ref C) "__getattr__" = some none
  cl : findIn K (.ref C) "__class__" = some (some (.builtin "object.__class__"))
  gs : specialIn K (.builtin "object.__class__") "__get__" = some (some (.builtin "getset_descriptor.__get__"))
  tk : takesIn K (.builtin "object.__class__") = some true
  bx : mroIn K C (.type "BaseException") = some true
  ob : mroIn K C (.type "object") = some true
  is : (clsIn K C).isSome = true
section
variable {prog : Program} {w : World} {A : Around} {E : Value → Shared → Prop} {s : Shared} {K : PySem.W.Frag} {e C : Addr} {oe : Obj} {od : Option Obj}
end
end DQ
end
section
set_option Elab.async false
set_option linter.all false
set_option maxRecDepth 100000
set_option maxHeartbeats 4000000
namespace DL
open PySem PySem.Spec PyProof.Rows L2
inductive D where
  | non
  | bl (b : Bool)
  | int (i : Int)
  | str (x : Str)
  | tup (xs : List D)
  | rol (xs : List D)
  | ref (n : Nat)
  | err (c : Str) (xs : List D)
inductive SO where
  | lst (xs : List D)
noncomputable abbrev Sto := List SO
noncomputable abbrev Ro := List (Option D)
noncomputable def SqF (K : PySem.W.Frag) (H : Hp) (a : Addr) (xs : List V) : Prop :=
  (∃ o, H a = some (.frz o (.lst xs))) ∨ ∃ (o : Obj) (its : Array Value) (n : Nat), K.lookup a = some o ∧ o.cls = .type "list" ∧ o.dict = none ∧ o.data = .seq its n ∧ its.size ≤ sizeLine ∧ Z5 xs its.toList
theorem SqF.sq {K : PySem.W.Frag} {H : Hp} {a : Addr} {xs : List V} (h : SqF K H a xs) : SqL K H a xs := by
  rcases h with ⟨o, h⟩ | h
  · exact .inl (.inr ⟨o, h⟩)
  · exact .inr h
noncomputable def EOk (H : Hp) (p C : Addr) (xs : List V) : Prop := ∃ oe u vs, H p = some (.frz oe u) ∧ oe.cls = .ref C ∧ oe.data = .fields vs ∧ vs[2]? = some .none ∧ ((xs = [] ∧ oe.dict = none) ∨ ∃ dx fs, oe.dict = some dx ∧ H dx = some (.xd fs) ∧ fs.map (·.2) = xs)
mutual
inductive Rep (K : PySem.W.Frag) (H : Hp) (α : List Addr) : V → D → Prop where
  | non : Rep K H α .non .non
  | bl (b : Bool) : Rep K H α (.bl b) (.bl b)
  | int (i : Int) : Rep K H α (.int i) (.int i)
  | str (x : Str) : Rep K H α (.str x) (.str x)
  | tup {p : Addr} {xs : List V} {ds : List D} : SqT K H p xs → Reps K H α xs ds → Rep K H α (.ref p) (.tup ds)
  | rol {p : Addr} {xs : List V} {ds : List D} : SqF K H p xs → Reps K H α xs ds → Rep K H α (.ref p) (.rol ds)
  | ref {p : Addr} {n : Nat} : α[n]? = some p → Rep K H α (.ref p) (.ref n)
  | err {p C : Addr} {c : Str} {xs : List V} {ds : List D} : PySem.W.nsIn K mainGlobals c = some (some (.ref C)) → EOk H p C xs → Reps K H α xs ds → Rep K H α (.ref p) (.err c ds)
inductive Reps (K : PySem.W.Frag) (H : Hp) (α : List Addr) : List V → List D → Prop where
  | nil : Reps K H α [] []
  | cons {v : V} {d : D} {vs : List V} {ds : List D} : Rep K H α v d → Reps K H α vs ds → Reps K H α (v :: vs) (d :: ds)
end
structure Ext (K : PySem.W.Frag) (H H' : Hp) (α α' : List Addr) : Prop where
  tup : ∀ p xs, SqT K H p xs → SqT K H' p xs
  rol : ∀ p xs, SqF K H p xs → SqF K H' p xs
  err : ∀ p C xs, EOk H p C xs → EOk H' p C xs
  al : ∃ β, α' = α ++ β
section
variable {K : PySem.W.Frag} {H H1 H2 H' : Hp} {α α1 α2 α' : List Addr}
theorem Ext.refl : Ext K H H α α := ⟨fun _ _ h => h, fun _ _ h => h, fun _ _ _ h => h, [], (List.append_nil _).symm⟩
theorem Ext.trans (a : Ext K H H1 α α1) (b : Ext K H1 H2 α1 α2) : Ext K H H2 α α2 := by
  obtain ⟨b1, e1⟩ := a.al
  obtain ⟨b2, e2⟩ := b.al
  exact ⟨fun p xs h => b.tup p xs (a.tup p xs h), fun p xs h => b.rol p xs (a.rol p xs h), fun p C xs h => b.err p C xs (a.err p C xs h), b1 ++ b2, by rw [e2, e1, List.append_assoc]⟩
theorem Ext.get (e : Ext K H H' α α') {n : Nat} {p : Addr} (h : α[n]? = some p) : α'[n]? = some p := by
  obtain ⟨β, e1⟩ := e.al
  have hl : n < α.length := (List.getElem?_eq_some_iff.mp h).1
  rw [e1, List.getElem?_append_left hl]
  exact h
mutual
theorem Rep.mono (e : Ext K H H' α α') : ∀ {v : V} {d : D}, Rep K H α v d → Rep K H' α' v d
  | _, _, .non => .non
  | _, _, .bl b => .bl b
  | _, _, .int i => .int i
  | _, _, .str x => .str x
  | _, _, .tup h r => .tup (e.tup _ _ h) (Reps.mono e r)
  | _, _, .rol h r => .rol (e.rol _ _ h) (Reps.mono e r)
  | _, _, .ref h => .ref (e.get h)
  | _, _, .err n h r => .err n (e.err _ _ _ h) (Reps.mono e r)
theorem Reps.mono (e : Ext K H H' α α') : ∀ {vs : List V} {ds : List D}, Reps K H α vs ds → Reps K H' α' vs ds
  | _, _, .nil => .nil
  | _, _, .cons r t => .cons (Rep.mono e r) (Reps.mono e t)
end
theorem Reps.length : ∀ {vs : List V} {ds : List D}, Reps K H α vs ds → vs.length = ds.length
  | _, _, .nil => rfl
  | _, _, .cons _ t => by rw [List.length_cons, List.length_cons, Reps.length t]
theorem Reps.get : ∀ {vs : List V} {ds : List D} {i : Nat} {d : D}, Reps K H α vs ds → ds[i]? = some d → ∃ v, vs[i]? = some v ∧ Rep K H α v d
  | _, _, _, _, .nil, e => by simp at e
  | _, _, 0, _, .cons r _, e => by simp at e; subst e; exact ⟨_, rfl, r⟩
  | _, _, i + 1, d, .cons _ t, e => by
    obtain ⟨u, h1, h2⟩ := Reps.get (i := i) (d := d) t (by simpa using e)
    exact ⟨u, by simpa using h1, h2⟩
theorem Reps.set {v : V} {d : D} (r : Rep K H α v d) : ∀ {vs : List V} {ds : List D} (i : Nat), Reps K H α vs ds → Reps K H α (vs.set i v) (ds.set i d)
  | _, _, _, .nil => .nil
  | _, _, 0, .cons _ t => .cons r t
  | _, _, i + 1, .cons q t => .cons q (Reps.set r i t)
theorem Reps.append : ∀ {vs ws : List V} {ds es : List D}, Reps K H α vs ds → Reps K H α ws es → Reps K H α (vs ++ ws) (ds ++ es)
  | _, _, _, _, .nil, s => s
  | _, _, _, _, .cons r t, s => .cons r (Reps.append t s)
theorem Reps.ints : ∀ (ns : List Int), Reps K H α (ns.map V.int) (ns.map D.int)
  | [] => .nil
  | n :: r => .cons (.int n) (Reps.ints r)
theorem ZhH {p q : Addr} {xs : List V} {o : HO} (h : SqT K H q xs) (hp : ∀ u, H p = some u → (∀ ys, u ≠ .tup ys) ∧ ∀ ob w, u ≠ .frz ob w) : SqT K (upd H p o) q xs := by
  rcases h with (h | ⟨ob, h⟩) | h
  · refine .inl (.inl ?_)
    rw [ZS (fun e => (hp _ (e ▸ h)).1 _ rfl)]
    exact h
  · refine .inl (.inr ⟨ob, ?_⟩)
    rw [ZS (fun e => (hp _ (e ▸ h)).2 _ _ rfl)]
    exact h
  · exact .inr h
theorem ZhI {p q : Addr} {xs : List V} {o : HO} (h : SqF K H q xs) (hp : ∀ u, H p = some u → ∀ ob w, u ≠ .frz ob w) : SqF K (upd H p o) q xs := by
  rcases h with ⟨ob, h⟩ | h
  · refine .inl ⟨ob, ?_⟩
    rw [ZS (fun e => hp _ (e ▸ h) _ _ rfl)]
    exact h
  · exact .inr h
theorem ZhJ {p q C : Addr} {xs : List V} {o : HO} (h : EOk H q C xs) (hp : ∀ u, H p = some u → (∀ ob w, u ≠ .frz ob w) ∧ ∀ fs, u ≠ .xd fs) : EOk (upd H p o) q C xs := by
  obtain ⟨oe, u, vs, h1, h2, h3, h4, h5⟩ := h
  refine ⟨oe, u, vs, ?_, h2, h3, h4, ?_⟩
  · rw [ZS (fun e => (hp _ (e ▸ h1)).1 _ _ rfl)]
    exact h1
  · rcases h5 with h5 | ⟨dx, fs, k1, k2, k3⟩
    · exact .inl h5
    · refine .inr ⟨dx, fs, k1, ?_, k3⟩
      rw [ZS (fun e => (hp _ (e ▸ k2)).2 _ rfl)]
      exact k2
theorem Ext.new {p : Addr} {o : HO} (h : H p = none) {β : List Addr} : Ext K H (upd H p o) α (α ++ β) :=
  ⟨fun q xs z => ZhH z (fun u e => (by rw [h] at e; cases e)), fun q xs z => ZhI z (fun u e => (by rw [h] at e; cases e)), fun q C xs z => ZhJ z (fun u e => (by rw [h] at e; cases e)), β, rfl⟩
theorem Ext.new0 {p : Addr} {o : HO} (h : H p = none) : Ext K H (upd H p o) α α := by
  have e := Ext.new (K := K) (H := H) (α := α) (o := o) h (β := [])
  rw [List.append_nil] at e
  exact e
theorem Ext.wr {p : Addr} {o : HO} {xs : List V} (h : H p = some (.lst xs)) : Ext K H (upd H p o) α α :=
  ⟨fun q xs z => ZhH z (fun u e => (by rw [h] at e; cases e; exact ⟨fun ys z => (nomatch z), fun ob w z => (nomatch z)⟩)), fun q xs z => ZhI z (fun u e => (by rw [h] at e; cases e; exact fun ob w z => (nomatch z))), fun q C xs z => ZhJ z (fun u e => (by rw [h] at e; cases e; exact ⟨fun ob w z => (nomatch z), fun fs z => (nomatch z)⟩)), [], (List.append_nil _).symm⟩
noncomputable def SOk (K : PySem.W.Frag) (H : Hp) (α : List Addr) (p : Addr) : SO → Prop
  | .lst ds => ∃ xs, H p = some (.lst xs) ∧ Reps K H α xs ds
structure HR (K : PySem.W.Frag) (H : Hp) (α : List Addr) (M : Sto) : Prop where
  len : α.length = M.length
  nd : α.Nodup
  ob : ∀ (n : Nat) (p : Addr) (o : SO), α[n]? = some p → M[n]? = some o → SOk K H α p o
theorem HR.nil : HR K H [] [] := ⟨rfl, List.nodup_nil, fun n p o h => by simp at h⟩
theorem HR.at (h : HR K H α M) {n : Nat} {p : Addr} {ds : List D} (e : α[n]? = some p) (m : M[n]? = some (.lst ds)) : ∃ xs, H p = some (.lst xs) ∧ Reps K H α xs ds := h.ob n p _ e m
theorem HR.some_at {M : Sto} (h : HR K H α M) {n : Nat} {p : Addr} (e : α[n]? = some p) : ∃ xs, H p = some (.lst xs) := by
  have hl : n < α.length := (List.getElem?_eq_some_iff.mp e).1
  have hm : n < M.length := by rw [← h.len]; exact hl
  have q := h.ob n p M[n] e (List.getElem?_eq_getElem hm)
  cases r : M[n] with
  | lst ds =>
    rw [r] at q
    obtain ⟨xs, q, _⟩ := q
    exact ⟨xs, q⟩
theorem HR.tup {M : Sto} {p : Addr} {o : HO} (h : HR K H α M) (hp : H p = none) : HR K (upd H p o) α M :=
  ⟨h.len, h.nd, fun n q so e m => by
    cases so with
    | lst ds =>
      obtain ⟨xs, h1, h2⟩ := h.ob n q _ e m
      exact ⟨xs, by rw [ZS (Zao h1 hp)]; exact h1, Reps.mono (Ext.new0 hp) h2⟩⟩
theorem HR.new {M : Sto} {p : Addr} {xs : List V} {ds : List D} (h : HR K H α M) (hp : H p = none) (r : Reps K H α xs ds) : HR K (upd H p (.lst xs)) (α ++ [p]) (M ++ [.lst ds]) := by
  have ex : Ext K H (upd H p (.lst xs)) α (α ++ [p]) := Ext.new hp
  refine ⟨by rw [List.length_append, List.length_append, h.len]; rfl, ?_, fun n q so e m => ?_⟩
  · refine List.nodup_append.mpr ⟨h.nd, by simp, fun a ha b hb => ?_⟩
    have hb' : b = p := by simpa using hb
    obtain ⟨n, hn, e⟩ := List.getElem_of_mem ha
    obtain ⟨xs, z⟩ := h.some_at (n := n) (p := a) (by rw [List.getElem?_eq_getElem hn, e])
    rw [hb']
    exact Zao z hp
  · by_cases hn : n < α.length
    · rw [List.getElem?_append_left hn] at e
      rw [List.getElem?_append_left (by rw [← h.len]; exact hn)] at m
      cases so with
      | lst es =>
        obtain ⟨ys, h1, h2⟩ := h.ob n q _ e m
        exact ⟨ys, by rw [ZS (Zao h1 hp)]; exact h1, Reps.mono ex h2⟩
    · have en : n = α.length := by
        have : n < (α ++ [p]).length := (List.getElem?_eq_some_iff.mp e).1
        rw [List.length_append, List.length_singleton] at this
        omega
      subst en
      rw [List.getElem?_append_right (Nat.le_refl _), Nat.sub_self] at e
      rw [h.len, List.getElem?_append_right (Nat.le_refl _), Nat.sub_self] at m
      cases e
      cases m
      exact ⟨xs, ZaQ, Reps.mono ex r⟩
theorem Zi6 {n m : Nat} {p : Addr} (h : α.Nodup) (a : α[n]? = some p) (b : α[m]? = some p) : n = m := by
  obtain ⟨h1, e1⟩ := List.getElem?_eq_some_iff.mp a
  obtain ⟨h2, e2⟩ := List.getElem?_eq_some_iff.mp b
  exact (List.getElem_inj h).mp (e1.trans e2.symm)
theorem HR.wr {M : Sto} {n : Nat} {p : Addr} {xs ys : List V} {ds : List D} (h : HR K H α M) (e : α[n]? = some p) (hp : H p = some (.lst ys)) (r : Reps K H α xs ds) : HR K (upd H p (.lst xs)) α (M.set n (.lst ds)) := by
  have ex : Ext K H (upd H p (.lst xs)) α α := Ext.wr hp
  have hn : n < M.length := by rw [← h.len]; exact (List.getElem?_eq_some_iff.mp e).1
  refine ⟨by rw [List.length_set]; exact h.len, h.nd, fun k q so e' m => ?_⟩
  by_cases hk : k = n
  · subst hk
    rw [e] at e'
    cases e'
    rw [List.getElem?_set_self hn] at m
    cases m
    exact ⟨xs, ZaQ, Reps.mono ex r⟩
  · rw [List.getElem?_set_ne (Ne.symm hk)] at m
    cases so with
    | lst es =>
      obtain ⟨zs, h1, h2⟩ := h.ob k q _ e' m
      have hq : q ≠ p := fun z => hk (Zi6 h.nd (z ▸ e') e)
      exact ⟨zs, by rw [ZS hq]; exact h1, Reps.mono ex h2⟩
end
inductive Out (β : Type) where
  | ok (a : β) (M : Sto)
  | exc (c : Str) (M : Sto)
  | bad
noncomputable def Out.bind {β γ : Type} (o : Out β) (f : β → Sto → Out γ) : Out γ := match o with
  | .ok a M => f a M
  | .exc c M => .exc c M
  | .bad => .bad
inductive Fl where
  | nx (ρ : Ro) (M : Sto)
  | ret (d : D) (M : Sto)
  | brk (ρ : Ro) (M : Sto)
  | cnt (ρ : Ro) (M : Sto)
  | exc (c : Str) (M : Sto)
  | bad
noncomputable def OG {β γ : Type} (K : PySem.W.Frag) (R : Hp → List Addr → γ → β → Prop) (H : Hp) (α : List Addr) (ξ : XK) (Q : γ → Hp → Prop) : Out β → Prop
  | .ok d M' => ∀ v H' α', Ext K H H' α α' → HR K H' α' M' → R H' α' v d → Q v H'
  | .exc c M' => ∀ C H' α', PySem.W.nsIn K mainGlobals c = some (some (.ref C)) → Ext K H H' α α' → HR K H' α' M' → ξ (.ref C) none H'
  | .bad => False
theorem OG.ext {β γ : Type} {K : PySem.W.Frag} {R : Hp → List Addr → γ → β → Prop} {H H1 : Hp} {α α1 : List Addr} {ξ : XK} {Q : γ → Hp → Prop} {o : Out β} (h : OG K R H α ξ Q o) (e : Ext K H H1 α α1) : OG K R H1 α1 ξ Q o := by
  cases o with
  | ok d M' => exact fun v H' α' e' => h v H' α' (e.trans e')
  | exc c M' => exact fun C H' α' n e' => h C H' α' n (e.trans e')
  | bad => exact h
noncomputable abbrev OP (K : PySem.W.Frag) := OG K (Rep K)
noncomputable abbrev OT (K : PySem.W.Frag) := OG (β := Bool) (γ := Bool) K (fun _ _ v d => v = d)
noncomputable abbrev OA (K : PySem.W.Frag) := OG K (Reps K)
noncomputable def SR (K : PySem.W.Frag) (H : Hp) (α : List Addr) (σ : L2.St) (ρ : Ro) : Prop := σ.length = ρ.length ∧ ∀ (i : Nat) (d : D), ρ[i]? = some (some d) → ∃ v, σ[i]? = some (some v) ∧ Rep K H α v d
theorem SR.mono {K : PySem.W.Frag} {H H' : Hp} {α α' : List Addr} {σ : L2.St} {ρ : Ro} (h : SR K H α σ ρ) (e : Ext K H H' α α') : SR K H' α' σ ρ :=
  ⟨h.1, fun i d q => let ⟨v, a, b⟩ := h.2 i d q; ⟨v, a, Rep.mono e b⟩⟩
theorem SR.set {K : PySem.W.Frag} {H : Hp} {α : List Addr} {σ : L2.St} {ρ : Ro} {v : V} {d : D} (h : SR K H α σ ρ) (i : Nat) (r : Rep K H α v d) : SR K H α (σ.set i (some v)) (ρ.set i (some d)) := by
  refine ⟨by rw [List.length_set, List.length_set]; exact h.1, fun j e q => ?_⟩
  by_cases hj : j = i
  · subst hj
    have hl : j < ρ.length := by
      have := (List.getElem?_eq_some_iff.mp q).1
      rw [List.length_set] at this
      exact this
    rw [List.getElem?_set_self hl] at q
    cases q
    exact ⟨v, by rw [List.getElem?_set_self (by rw [h.1]; exact hl)], r⟩
  · rw [List.getElem?_set_ne (Ne.symm hj)] at q
    rw [List.getElem?_set_ne (Ne.symm hj)]
    exact h.2 j e q
noncomputable abbrev Ev := Ro → Sto → Out D
noncomputable abbrev Tv := Ro → Sto → Out Bool
noncomputable abbrev Av := Ro → Sto → Out (List D)
noncomputable abbrev Sv := Ro → Sto → Fl
noncomputable def DE (X : Cx) (ξ : XK) (e : Expr) (f : Ev) : Prop := ∃ t : TE, PE X e t ∧ ∀ σ ρ H α M Q, SR X.K H α σ ρ → HR X.K H α M → OP X.K H α ξ Q (f ρ M) → t σ H Q
noncomputable def DT (X : Cx) (ξ : XK) (e : Expr) (f : Tv) : Prop := ∃ t : TT, PT X e t ∧ ∀ σ ρ H α M Q, SR X.K H α σ ρ → HR X.K H α M → OT X.K H α ξ Q (f ρ M) → t σ H Q
noncomputable def DW (X : Cx) (ξ : XK) (e : Expr) (f : Tv) : Prop := ∃ t : TT, PW X e t ∧ ∀ σ ρ H α M Q, SR X.K H α σ ρ → HR X.K H α M → OT X.K H α ξ Q (f ρ M) → t σ H Q
noncomputable def DA (X : Cx) (ξ : XK) (es : List Expr) (f : Av) : Prop := ∃ t : TA, PA X es t ∧ ∀ σ ρ H α M Q, SR X.K H α σ ρ → HR X.K H α M → OA X.K H α ξ Q (f ρ M) → t σ H Q
theorem OG.seq {β γ β' γ' : Type} {K : PySem.W.Frag} {R : Hp → List Addr → γ → β → Prop} {R' : Hp → List Addr → γ' → β' → Prop} {H : Hp} {α : List Addr} {ξ : XK} {Q : γ' → Hp → Prop} {Q1 : γ → Hp → Prop} {o : Out β} {f : β → Sto → Out β'}
    (h : OG K R' H α ξ Q (o.bind f)) (k : ∀ d M' v H' α', Ext K H H' α α' → HR K H' α' M' → R H' α' v d → OG K R' H' α' ξ Q (f d M') → Q1 v H') : OG K R H α ξ Q1 o := by
  cases o with
  | ok d M' => exact fun v H' α' e hr r => k d M' v H' α' e hr r (OG.ext (o := f d M') h e)
  | exc c M' => exact h
  | bad => exact h
section
variable {X : Cx} {ξ : XK} {a b e : Expr} {fa fb : Ev} {pos : Pos}
noncomputable def Zd (i : Nat) : Ev := fun ρ M => match ρ[i]? with | some (some d) => .ok d M | _ => .bad
noncomputable def eC (d : D) : Ev := fun _ M => .ok d M
theorem Zc (i : Nat) {x : Str} (hN : X.N[i]? = some x := by rfl) (hv : Vis X.env.scope x := by first | exact Or.inl rfl | exact Or.inr (Or.inl rfl) | exact Or.inr (Or.inr rfl)) (hd : (x == ("__debug__" : Str)) = false := by decide)
    (hcd : (x == ("__classdict__" : Str)) = false := by decide) : DE X ξ (.Name x pos) (Zd i) := by
  refine ⟨_, Zl5 hN hv hd hcd, fun σ ρ H α M Q s h q => ?_⟩
  unfold Zd at q
  cases e : ρ[i]? with
  | none => rw [e] at q; exact q.elim
  | some o =>
    cases o with
    | none => rw [e] at q; exact q.elim
    | some d =>
      rw [e] at q
      obtain ⟨v, h1, h2⟩ := s.2 i d e
      exact ⟨v, h1, q v H α Ext.refl h h2⟩
theorem Ze {i : Int} {j pos} : DE X ξ (.Constant (.int i) j pos) (eC (.int i)) := ⟨_, ZjM, fun _ _ H α M _ _ h q => q _ H α Ext.refl h (.int i)⟩
theorem ZhK {i : Bool} {j pos} : DE X ξ (.Constant (.bool i) j pos) (eC (.bl i)) := ⟨_, ZoU, fun _ _ H α M _ _ h q => q _ H α Ext.refl h (.bl i)⟩
theorem ZjS {j pos} : DE X ξ (.Constant .none j pos) (eC .non) := ⟨_, Zl6, fun _ _ H α M _ _ h q => q _ H α Ext.refl h .non⟩
theorem Zdl {x : Str} {j pos} : DE X ξ (.Constant (.str x) j pos) (eC (.str x)) := ⟨_, Zl7, fun _ _ H α M _ _ h q => q _ H α Ext.refl h (.str x)⟩
noncomputable abbrev Bo := D → D → Sto → Out D
noncomputable def e2 (f : Bo) (fa fb : Ev) : Ev := fun ρ M => (fa ρ M).bind fun x M1 => (fb ρ M1).bind fun y M2 => f x y M2
noncomputable def BO (X : Cx) (ξ : XK) (r : R2) (f : Bo) : Prop := ∀ H α M v w x y Q, HR X.K H α M → Rep X.K H α v x → Rep X.K H α w y → OP X.K H α ξ Q (f x y M) → r v w H Q
theorem two {r : R2} {f : Bo} (hb : BO X ξ r f) {ta tb : TE} (qa : ∀ σ ρ H α M Q, SR X.K H α σ ρ → HR X.K H α M → OP X.K H α ξ Q (fa ρ M) → ta σ H Q)
    (qb : ∀ σ ρ H α M Q, SR X.K H α σ ρ → HR X.K H α M → OP X.K H α ξ Q (fb ρ M) → tb σ H Q) : ∀ σ ρ H α M Q, SR X.K H α σ ρ → HR X.K H α M → OP X.K H α ξ Q (e2 f fa fb ρ M) → tOp r ta tb σ H Q := by
  intro σ ρ H α M Q s h q
  refine qa σ ρ H α M _ s h (OG.seq q fun x M1 v H1 α1 e1 h1 r1 q1 => ?_)
  refine qb σ ρ H1 α1 M1 _ (s.mono e1) h1 (OG.seq q1 fun y M2 w H2 α2 e2 h2 r2 q2 => ?_)
  exact hb H2 α2 M2 v w x y Q h2 (Rep.mono e2 r1) r2 q2
theorem ZgQ {op : Operator} {r : R2} {f : Bo} (ho : OpR X (binaryOp op) r) (hf : BO X ξ r f) (ha : DE X ξ a fa) (hb : DE X ξ b fb) : DE X ξ (.BinOp a op b pos) (e2 f fa fb) := by
  obtain ⟨ta, ha, qa⟩ := ha
  obtain ⟨tb, hb, qb⟩ := hb
  exact ⟨_, Zo3 ho ha hb, two hf qa qb⟩
theorem Zdm {op : CmpOp} {r : R2} {f : Bo} (ho : OpR X (compareOp op) r) (hf : BO X ξ r f) (ha : DE X ξ a fa) (hb : DE X ξ b fb) (hm : behindInMarks op b = false := by first | exact ZjP _ | with_unfolding_all rfl) : DE X ξ (.Compare a [op] [b] pos) (e2 f fa fb) := by
  obtain ⟨ta, ha, qa⟩ := ha
  obtain ⟨tb, hb, qb⟩ := hb
  exact ⟨_, ZkF ho ha hb hm, two hf qa qb⟩
noncomputable def tv (f : Ev) : Tv := fun ρ M => (f ρ M).bind fun x M1 => match x with | .bl k => .ok k M1 | _ => .bad
theorem Zmy {t : TE} {f : Ev} (qa : ∀ σ ρ H α M Q, SR X.K H α σ ρ → HR X.K H α M → OP X.K H α ξ Q (f ρ M) → t σ H Q) : ∀ σ ρ H α M Q, SR X.K H α σ ρ → HR X.K H α M → OT X.K H α ξ Q (tv f ρ M) → Zmo t σ H Q := by
  intro σ ρ H α M Q s h q
  refine qa σ ρ H α M _ s h (OG.seq q fun x M1 v H1 α1 e1 h1 r1 q1 => ?_)
  cases r1 with
  | bl k => exact ⟨k, rfl, q1 k H1 α1 Ext.refl h1 rfl⟩
  | _ => exact q1.elim
theorem ZM {op : CmpOp} {r : R2} {f : Bo} (ho : OpR X (compareOp op) r) (hf : BO X ξ r f) (ha : DE X ξ a fa) (hb : DE X ξ b fb) (hm : behindInMarks op b = false := by first | exact ZjP _ | with_unfolding_all rfl) : DT X ξ (.Compare a [op] [b] pos) (tv (e2 f fa fb)) := by
  obtain ⟨ta, ha, qa⟩ := ha
  obtain ⟨tb, hb, qb⟩ := hb
  exact ⟨_, ZkG ho ha hb hm, Zmy (two hf qa qb)⟩
theorem Zct (h : DE X ξ e fa) (he : ∀ whole, isTrue e X.env whole = (do let v ← whole; standAt e.pos; holding [v] (truthy v)) := by intro _; rfl) : DT X ξ e (tv fa) := by
  obtain ⟨ta, ha, qa⟩ := h
  exact ⟨_, Zl8 ha he, Zmy qa⟩
variable {ga gb : Tv} {rest : List Expr}
noncomputable def ZbF (f g : Tv) : Tv := fun ρ M => (f ρ M).bind fun k M1 => if k = true then g ρ M1 else .ok false M1
noncomputable def ZdE (f g : Tv) : Tv := fun ρ M => (f ρ M).bind fun k M1 => if k = true then .ok true M1 else g ρ M1
noncomputable def ZaY (f : Tv) : Tv := fun ρ M => (f ρ M).bind fun k M1 => .ok (!k) M1
theorem Zeg (ha : DT X ξ a ga) : DW X ξ (.BoolOp .And [a] pos) ga := let ⟨_, h, q⟩ := ha; ⟨_, pw_and1 h, q⟩
theorem Zd5 (ha : DT X ξ a ga) : DW X ξ (.BoolOp .Or [a] pos) ga := let ⟨_, h, q⟩ := ha; ⟨_, pw_or1 h, q⟩
theorem Zgf (ha : DT X ξ a ga) (hb : DW X ξ (.BoolOp .And (b :: rest) pos) gb) : DW X ξ (.BoolOp .And (a :: b :: rest) pos) (ZbF ga gb) := by
  obtain ⟨ta, ha, qa⟩ := ha
  obtain ⟨tb, hb, qb⟩ := hb
  refine ⟨_, pw_and ha hb, fun σ ρ H α M Q s h q => ?_⟩
  refine qa σ ρ H α M _ s h (OG.seq q fun k M1 v H1 α1 e1 h1 r1 q1 => ?_)
  cases r1
  cases k with
  | true => exact ZkT (qb σ ρ H1 α1 M1 Q (s.mono e1) h1 q1)
  | false => exact ZkS (q1 false H1 α1 Ext.refl h1 rfl)
theorem ZeZ (ha : DT X ξ a ga) (hb : DW X ξ (.BoolOp .Or (b :: rest) pos) gb) : DW X ξ (.BoolOp .Or (a :: b :: rest) pos) (ZdE ga gb) := by
  obtain ⟨ta, ha, qa⟩ := ha
  obtain ⟨tb, hb, qb⟩ := hb
  refine ⟨_, pw_or ha hb, fun σ ρ H α M Q s h q => ?_⟩
  refine qa σ ρ H α M _ s h (OG.seq q fun k M1 v H1 α1 e1 h1 r1 q1 => ?_)
  cases r1
  cases k with
  | true => exact ZkT (q1 true H1 α1 Ext.refl h1 rfl)
  | false => exact ZkS (qb σ ρ H1 α1 M1 Q (s.mono e1) h1 q1)
theorem ZiS (h : DW X ξ e ga) : DT X ξ e ga := let ⟨_, h, q⟩ := h; ⟨_, h.pt, q⟩
theorem ZcK (ha : DT X ξ a ga) : DT X ξ (.UnaryOp .Not a pos) (ZaY ga) := by
  obtain ⟨ta, ha, qa⟩ := ha
  refine ⟨_, Zl9 ha, fun σ ρ H α M Q s h q => ?_⟩
  refine qa σ ρ H α M _ s h (OG.seq q fun k M1 v H1 α1 e1 h1 r1 q1 => ?_)
  cases r1
  exact q1 (!k) H1 α1 Ext.refl h1 rfl
noncomputable def ZbU (f g : Ev) : Ev := fun ρ M => (f ρ M).bind fun x M1 => match x with | .bl k => if k = true then g ρ M1 else .ok (.bl false) M1 | _ => .bad
noncomputable def Zi7 (f g : Ev) : Ev := fun ρ M => (f ρ M).bind fun x M1 => match x with | .bl k => if k = true then .ok (.bl true) M1 else g ρ M1 | _ => .bad
noncomputable def ZcL (f : Ev) : Ev := fun ρ M => (f ρ M).bind fun x M1 => match x with | .bl k => .ok (.bl (!k)) M1 | _ => .bad
theorem Ze0 {op} (ha : DE X ξ a fa) : DE X ξ (.BoolOp op [a] pos) fa := let ⟨_, h, q⟩ := ha; ⟨_, Zma h, q⟩
theorem Ze1 (ha : DE X ξ a fa) (hb : DE X ξ (.BoolOp .And (b :: rest) pos) fb) : DE X ξ (.BoolOp .And (a :: b :: rest) pos) (ZbU fa fb) := by
  obtain ⟨ta, ha, qa⟩ := ha
  obtain ⟨tb, hb, qb⟩ := hb
  refine ⟨_, Zmb ha hb, fun σ ρ H α M Q s h q => ?_⟩
  refine qa σ ρ H α M _ s h (OG.seq q fun x M1 v H1 α1 e1 h1 r1 q1 => ?_)
  cases r1 with
  | bl k =>
    refine ⟨k, rfl, ?_⟩
    cases k with
    | true => exact ZkT (qb σ ρ H1 α1 M1 Q (s.mono e1) h1 q1)
    | false => exact ZkS (q1 _ H1 α1 Ext.refl h1 (.bl false))
  | _ => exact q1.elim
theorem ZjT (ha : DE X ξ a fa) : DE X ξ (.UnaryOp .Not a pos) (ZcL fa) := by
  obtain ⟨ta, ha, qa⟩ := ha
  refine ⟨_, Zmc ha, fun σ ρ H α M Q s h q => ?_⟩
  refine qa σ ρ H α M _ s h (OG.seq q fun x M1 v H1 α1 e1 h1 r1 q1 => ?_)
  cases r1 with
  | bl k => exact ⟨k, rfl, q1 _ H1 α1 Ext.refl h1 (.bl (!k))⟩
  | _ => exact q1.elim
noncomputable def eIf (c : Tv) (f g : Ev) : Ev := fun ρ M => (c ρ M).bind fun k M1 => if k = true then f ρ M1 else g ρ M1
variable {es : List Expr} {fs : Av}
noncomputable def aNil : Av := fun _ M => .ok [] M
noncomputable def Za (f : Ev) (g : Av) : Av := fun ρ M => (f ρ M).bind fun x M1 => (g ρ M1).bind fun xs M2 => .ok (x :: xs) M2
theorem Zf : DA X ξ [] aNil := ⟨_, ZjQ, fun _ _ H α M _ _ h q => q _ H α Ext.refl h .nil⟩
theorem Zb (ha : DE X ξ e fa) (hr : DA X ξ es fs) (hs : starEach (e :: es) X.env = (false, eval e X.env) :: starEach es X.env := by rfl) : DA X ξ (e :: es) (Za fa fs) := by
  obtain ⟨ta, ha, qa⟩ := ha
  obtain ⟨tb, hb, qb⟩ := hr
  refine ⟨_, ZfE ha hb hs, fun σ ρ H α M Q s h q => ?_⟩
  refine qa σ ρ H α M _ s h (OG.seq q fun x M1 v H1 α1 e1 h1 r1 q1 => ?_)
  refine qb σ ρ H1 α1 M1 _ (s.mono e1) h1 (OG.seq q1 fun y M2 w H2 α2 e2 h2 r2 q2 => ?_)
  exact q2 _ H2 α2 Ext.refl h2 (.cons (Rep.mono e2 r1) r2)
noncomputable def ZC (f : Av) : Ev := fun ρ M => (f ρ M).bind fun xs M1 => if xs.length ≤ 1000 then .ok (.tup xs) M1 else .bad
noncomputable def Zag (f : Av) : Ev := fun ρ M => (f ρ M).bind fun xs M1 => if xs.length ≤ 1000 then .ok (.ref M1.length) (M1 ++ [.lst xs]) else .bad
theorem small {n : Nat} (h : n ≤ 1000) : n ≤ sizeLine := Nat.le_of_lt (ZhE h)
theorem Zu {x1} (ha : DA X ξ es fs) : DE X ξ (.Tuple es x1 pos) (ZC fs) := by
  obtain ⟨ta, ha, qa⟩ := ha
  refine ⟨_, Zmp ha, fun σ ρ H α M Q s h q => ?_⟩
  refine qa σ ρ H α M _ s h (OG.seq q fun xs M1 vs H1 α1 e1 h1 r1 q1 => ?_)
  by_cases hl : xs.length ≤ 1000
  · rw [if_pos hl] at q1
    refine ⟨by rw [r1.length]; exact small hl, fun p hp => q1 _ _ α1 (Ext.new0 hp) (h1.tup hp) (.tup (.inl (.inl ZaQ)) (Reps.mono (Ext.new0 hp) r1))⟩
  · rw [if_neg hl] at q1
    exact q1.elim
theorem HR.last {K : PySem.W.Frag} {H : Hp} {α : List Addr} {M : Sto} (h : HR K H α M) (p : Addr) : (α ++ [p])[M.length]? = some p := by
  rw [← h.len, List.getElem?_append_right (Nat.le_refl _), Nat.sub_self]
  rfl
theorem Z6 (ha : DA X ξ es fs) : DE X ξ (.List es pos) (Zag fs) := by
  obtain ⟨ta, ha, qa⟩ := ha
  refine ⟨_, Zmq ha, fun σ ρ H α M Q s h q => ?_⟩
  refine qa σ ρ H α M _ s h (OG.seq q fun xs M1 vs H1 α1 e1 h1 r1 q1 => ?_)
  by_cases hl : xs.length ≤ 1000
  · rw [if_pos hl] at q1
    refine ⟨by rw [r1.length]; exact small hl, fun p hp => q1 _ _ (α1 ++ [p]) (Ext.new hp) (h1.new hp r1) (.ref (h1.last p))⟩
  · rw [if_neg hl] at q1
    exact q1.elim
end
end DL
end
section
set_option Elab.async false
set_option linter.all false
set_option maxRecDepth 100000
set_option maxHeartbeats 4000000
namespace DL
open PySem PySem.Spec PyProof.Rows L2
open PySem.SeqAt (EqAt RcAt RcNeAt)
noncomputable def Zz (i j : Int) : Prop := Builtin.Int.intBits i ≤ 64 ∨ Builtin.Int.intBits j ≤ 64 ∨ (Builtin.Int.intBits i ≤ 60000000 ∧ Builtin.Int.intBits j ≤ 60000000)
instance (i j : Int) : Decidable (Zz i j) := by unfold Zz; infer_instance
theorem Zz.ok {i j : Int} (h : Zz i j) : IntMulOk i j := by
  rcases h with h | h | ⟨h1, h2⟩
  · exact .of_left h
  · exact .of_right h
  · exact .of_le h1 h2 (by decide)
theorem Zab {i j : Int} (m n : Nat) (h1 : i.natAbs < 2 ^ m) (h2 : j.natAbs < 2 ^ n) (hm : m ≤ 60000000 := by decide) (hn : n ≤ 60000000 := by decide) : Zz i j :=
  .inr (.inr ⟨Nat.le_trans (intBits_le_iff.mpr h1) hm, Nat.le_trans (intBits_le_iff.mpr h2) hn⟩)
noncomputable def Z7 (j : Int) : Prop := j ≠ 0 ∧ j.natAbs.log2 < 9000
instance (j : Int) : Decidable (Z7 j) := by unfold Z7; infer_instance
theorem ZgR {j : Int} (h0 : j ≠ 0) (h : j.natAbs < 2 ^ 9000) : Z7 j := ⟨h0, (Nat.log2_lt (by omega)).mpr h⟩
section
variable {X : Cx}
theorem ZkU : OpR X (binaryOp .Mult) (rI Zz fun i j => .int (i * j)) := opI fun _ _ _ _ _ _ _ hc q => mul_int q hc.ok
theorem Zi8 : OpR X (binaryOp .FloorDiv) (rI (fun _ j => Z7 j) fun i j => .int (i.fdiv j)) := opI fun _ _ _ _ _ _ _ hc q => floordiv_int hc.1 q (.inl (PyProof.noPylong_of_log2 hc.2))
end
noncomputable def dAdd : Bo := fun x y M => match x, y with
  | .int i, .int j => .ok (.int (i + j)) M
  | .str i, .str j => if i.length + j.length ≤ 100000 then .ok (.str (i ++ j)) M else .bad
  | .ref n, .ref m => match M[n]?, M[m]? with
    | some (.lst xs), some (.lst ys) => if xs.length + ys.length ≤ 10000000 then .ok (.ref M.length) (M ++ [.lst (xs ++ ys)]) else .bad
    | _, _ => .bad
  | .tup xs, .tup ys => if xs.length + ys.length ≤ 100000 ∧ xs ≠ [] then .ok (.tup (xs ++ ys)) M else .bad
  | _, _ => .bad
noncomputable def dSub : Bo := fun x y M => match x, y with | .int i, .int j => .ok (.int (i - j)) M | _, _ => .bad
noncomputable def dMul : Bo := fun x y M => match x, y with | .int i, .int j => if Zz i j then .ok (.int (i * j)) M else .bad | _, _ => .bad
noncomputable def dDiv : Bo := fun x y M => match x, y with | .int i, .int j => if Z7 j then .ok (.int (i.fdiv j)) M else .bad | _, _ => .bad
noncomputable def dMod : Bo := fun x y M => match x, y with | .int i, .int j => if j ≠ 0 then .ok (.int (i.fmod j)) M else .bad | _, _ => .bad
noncomputable def dPow : Bo := fun x y M => match x, y with | .int i, .int j => if 0 ≤ j ∧ j ≤ 1000000 ∧ i.natAbs < 2 ^ 64 then .ok (.int (i ^ j.toNat)) M else .bad | _, _ => .bad
noncomputable def dLt : Bo := fun x y M => match x, y with | .int i, .int j => .ok (.bl (decide (i < j))) M | _, _ => .bad
noncomputable def dLe : Bo := fun x y M => match x, y with | .int i, .int j => .ok (.bl (decide (i ≤ j))) M | _, _ => .bad
noncomputable def dGt : Bo := fun x y M => match x, y with | .int i, .int j => .ok (.bl (decide (j < i))) M | _, _ => .bad
noncomputable def dGe : Bo := fun x y M => match x, y with | .int i, .int j => .ok (.bl (decide (j ≤ i))) M | _, _ => .bad
theorem Zmz {n : Nat} (h : n ≤ 100000) : n ≤ sizeLine := Nat.le_trans h (by decide)
section
variable {X : Cx} {ξ : XK}
theorem ZcM {r : R2} {f : Bo} {C : Int → Int → Prop} [∀ i j, Decidable (C i j)] {g : Int → Int → D} {gV : Int → Int → V} (hg : ∀ H α i j, Rep X.K H α (gV i j) (g i j))
    (hf : ∀ x y M, f x y M = match x, y with | .int i, .int j => if C i j then .ok (g i j) M else .bad | _, _ => .bad) (hr : ∀ i j H Q, C i j → Q (gV i j) H → r (.int i) (.int j) H Q) : BO X ξ r f := by
  intro H α M v w x y Q h rv rw' q
  rw [hf] at q
  cases rv <;> first | exact q.elim | skip
  cases rw' <;> first | exact q.elim | skip
  rename_i i j
  by_cases c : C i j
  · simp only [if_pos c] at q
    exact hr i j H Q c (q _ H α Ext.refl h (hg H α i j))
  · simp only [if_neg c] at q
    exact q.elim
theorem ZmA : BO X ξ (rI0 fun i j => .int (i - j)) dSub := ZcM (C := fun _ _ => True) (fun _ _ i j => .int (i - j)) (fun x y M => by cases x <;> cases y <;> simp [dSub]) fun i j H Q _ q => ⟨i, j, rfl, rfl, q⟩
theorem ZmB : BO X ξ (rI Zz fun i j => .int (i * j)) dMul := ZcM (C := Zz) (fun _ _ i j => .int (i * j)) (fun x y M => by cases x <;> cases y <;> rfl) fun i j H Q c q => ⟨i, j, rfl, rfl, c, q⟩
theorem ZmC : BO X ξ (rI (fun _ j => Z7 j) fun i j => .int (i.fdiv j)) dDiv := ZcM (C := fun _ j => Z7 j) (fun _ _ i j => .int (i.fdiv j)) (fun x y M => by cases x <;> cases y <;> rfl) fun i j H Q c q => ⟨i, j, rfl, rfl, c, q⟩
theorem ZmD : BO X ξ (rI (fun _ j => j ≠ 0) fun i j => .int (i.fmod j)) dMod := ZcM (C := fun _ j => j ≠ 0) (fun _ _ i j => .int (i.fmod j)) (fun x y M => by cases x <;> cases y <;> rfl) fun i j H Q c q => ⟨i, j, rfl, rfl, c, q⟩
theorem ZmE : BO X ξ (rI ZqO fun i j => .int (i ^ j.toNat)) dPow := ZcM (C := fun i j => 0 ≤ j ∧ j ≤ 1000000 ∧ i.natAbs < 2 ^ 64) (fun _ _ i j => .int (i ^ j.toNat)) (fun x y M => by cases x <;> cases y <;> rfl) fun i j H Q c q => ⟨i, j, rfl, rfl, c, q⟩
theorem ZgS : BO X ξ (rI0 fun i j => .bl (decide (i < j))) dLt := ZcM (C := fun _ _ => True) (fun _ _ i j => .bl _) (fun x y M => by cases x <;> cases y <;> simp [dLt]) fun i j H Q _ q => ⟨i, j, rfl, rfl, q⟩
theorem ZkV : BO X ξ (rI0 fun i j => .bl (decide (i ≤ j))) dLe := ZcM (C := fun _ _ => True) (fun _ _ i j => .bl _) (fun x y M => by cases x <;> cases y <;> simp [dLe]) fun i j H Q _ q => ⟨i, j, rfl, rfl, q⟩
theorem Ze2 : BO X ξ (rI0 fun i j => .bl (decide (j < i))) dGt := ZcM (C := fun _ _ => True) (fun _ _ i j => .bl _) (fun x y M => by cases x <;> cases y <;> simp [dGt]) fun i j H Q _ q => ⟨i, j, rfl, rfl, q⟩
theorem Zpa : BO X ξ (rI0 fun i j => .bl (decide (j ≤ i))) dGe := ZcM (C := fun _ _ => True) (fun _ _ i j => .bl _) (fun x y M => by cases x <;> cases y <;> simp [dGe]) fun i j H Q _ q => ⟨i, j, rfl, rfl, q⟩
theorem ZkW : OpR X (binaryOp .Add) (fun x y H Q => (rI0 (fun i j => .int (i + j)) x y H Q ∨ (∃ i j, x = .str i ∧ y = .str j ∧ i.length + j.length ≤ sizeLine ∧ Q (.str (i ++ j)) H)) ∨ (rCat x y H Q ∨ ZkM X.K x y H Q)) :=
  OpR.or (OpR.or Zml ZgK) (OpR.or Zmx ZkN)
theorem ZmF : BO X ξ (fun x y H Q => (rI0 (fun i j => .int (i + j)) x y H Q ∨ (∃ i j, x = .str i ∧ y = .str j ∧ i.length + j.length ≤ sizeLine ∧ Q (.str (i ++ j)) H)) ∨ (rCat x y H Q ∨ ZkM X.K x y H Q)) dAdd := by
  intro H α M v w x y Q h rv rw' q
  cases rv with
  | int i =>
    cases rw' with
    | int j => exact .inl (.inl ⟨i, j, rfl, rfl, q _ H α Ext.refl h (.int (i + j))⟩)
    | _ => exact q.elim
  | str i =>
    cases rw' with
    | str j =>
      by_cases c : i.length + j.length ≤ 100000
      · simp only [dAdd, if_pos c] at q
        exact .inl (.inr ⟨i, j, rfl, rfl, Zmz c, q _ H α Ext.refl h (.str _)⟩)
      · simp only [dAdd, if_neg c] at q
        exact q.elim
    | _ => exact q.elim
  | @tup p xs ds hp rp =>
    cases rw' with
    | @tup p2 xs2 ds2 hp2 rp2 =>
      by_cases c : ds.length + ds2.length ≤ 100000 ∧ ds ≠ []
      · simp only [dAdd, if_pos c] at q
        have nx : xs ≠ [] := fun z => c.2 (by have := rp.length; rw [z] at this; exact List.eq_nil_of_length_eq_zero this.symm)
        refine .inr (.inr ⟨p, p2, xs, xs2, rfl, rfl, hp, hp2, nx, by rw [rp.length, rp2.length]; exact Zmz c.1, fun z => ?_, fun _ l hl => ?_⟩)
        · subst z
          cases rp2
          rw [List.append_nil] at q
          exact q _ H α Ext.refl h (.tup hp rp)
        · exact q _ _ α (Ext.new0 hl) (h.tup hl) (.tup (.inl (.inl ZaQ)) (Reps.mono (Ext.new0 hl) (rp.append rp2)))
      · simp only [dAdd, if_neg c] at q
        exact q.elim
    | _ => exact q.elim
  | @ref p n hp =>
    cases rw' with
    | @ref p2 n2 hp2 =>
      cases e1 : M[n]? with
      | none => simp only [dAdd, e1] at q; exact q.elim
      | some o1 =>
        cases e2 : M[n2]? with
        | none => cases o1; simp only [dAdd, e1, e2] at q; exact q.elim
        | some o2 =>
          cases o1 with
          | lst ds =>
            cases o2 with
            | lst ds2 =>
              by_cases c : ds.length + ds2.length ≤ 10000000
              · simp only [dAdd, e1, e2, if_pos c] at q
                obtain ⟨xs, g1, r1⟩ := h.at hp e1
                obtain ⟨ys, g2, r2⟩ := h.at hp2 e2
                refine .inr (.inl ⟨p, p2, xs, ys, rfl, rfl, g1, g2, by rw [r1.length, r2.length]; exact Nat.le_trans c (by decide), fun l hl => ?_⟩)
                exact q _ _ (α ++ [l]) (Ext.new hl) (h.new hl (r1.append r2)) (.ref (h.last l))
              · simp only [dAdd, e1, e2, if_neg c] at q
                exact q.elim
    | _ => exact q.elim
  | _ => exact q.elim
variable {a b e : Expr} {fa fb : Ev} {pos : Pos}
theorem ZN (ha : DE X ξ a fa) (hb : DE X ξ b fb) : DE X ξ (.BinOp a .Add b pos) (e2 dAdd fa fb) := ZgQ ZkW ZmF ha hb
theorem ZV (ha : DE X ξ a fa) (hb : DE X ξ b fb) : DE X ξ (.BinOp a .Sub b pos) (e2 dSub fa fb) := ZgQ Zmm ZmA ha hb
theorem ZE (ha : DE X ξ a fa) (hb : DE X ξ b fb) : DE X ξ (.BinOp a .Mult b pos) (e2 dMul fa fb) := ZgQ ZkU ZmB ha hb
theorem Zbv (ha : DE X ξ a fa) (hb : DE X ξ b fb) : DE X ξ (.BinOp a .FloorDiv b pos) (e2 dDiv fa fb) := ZgQ Zi8 ZmC ha hb
theorem Za7 (ha : DE X ξ a fa) (hb : DE X ξ b fb) : DE X ξ (.BinOp a .Mod b pos) (e2 dMod fa fb) := ZgQ ZkD ZmD ha hb
theorem Zcu (ha : DE X ξ a fa) (hb : DE X ξ b fb) : DE X ξ (.BinOp a .Pow b pos) (e2 dPow fa fb) := ZgQ Zmn ZmE ha hb
noncomputable def ZbC (f : Ev) : Ev := fun ρ M => (f ρ M).bind fun x M1 => match x with | .int i => .ok (.int (-i)) M1 | _ => .bad
theorem Zb4 (ha : DE X ξ a fa) : DE X ξ (.UnaryOp .USub a pos) (ZbC fa) := by
  obtain ⟨ta, ha, qa⟩ := ha
  refine ⟨_, Zmk ZjO ha, fun σ ρ H α M Q s h q => ?_⟩
  refine qa σ ρ H α M _ s h (OG.seq q fun x M1 v H1 α1 e1 h1 r1 q1 => ?_)
  cases r1 with
  | int i => exact ⟨i, rfl, q1 _ H1 α1 Ext.refl h1 (.int (-i))⟩
  | _ => exact q1.elim
noncomputable def atD (xs : List D) (i : Int) (M : Sto) : Out D := match atI xs i with | some d => .ok d M | none => .bad
noncomputable def dIx : Bo := fun x y M => match x, y with
  | .tup xs, .int i => atD xs i M
  | .rol xs, .int i => atD xs i M
  | .ref n, .int i => match M[n]? with | some (.lst xs) => atD xs i M | _ => .bad
  | _, _ => .bad
theorem Reps.atI {K : PySem.W.Frag} {H : Hp} {α : List Addr} {vs : List V} {ds : List D} {i : Int} {d : D} (r : Reps K H α vs ds) (h : L2.atI ds i = some d) : ∃ v, L2.atI vs i = some v ∧ Rep K H α v d := by
  unfold L2.atI at h ⊢
  rw [r.length]
  cases e : ixN ds.length i with
  | none => rw [e] at h; cases h
  | some j =>
    rw [e] at h
    exact r.get h
theorem Zpb : BO X ξ (fun x y H Q => ZqQ X.K x y H Q ∨ ZqR X.K x y H Q) dIx := by
  intro H α M v w x y Q h rv rw' q
  cases rw' with
  | int i =>
    cases rv with
    | @tup p xs ds hp rp =>
      have q' : OP X.K H α ξ Q (atD ds i M) := q
      unfold atD at q'
      cases e : L2.atI ds i with
      | none => rw [e] at q'; exact q'.elim
      | some d =>
        rw [e] at q'
        obtain ⟨v, h1, h2⟩ := rp.atI e
        exact .inr ⟨p, xs, i, v, rfl, rfl, hp, h1, q' v H α Ext.refl h h2⟩
    | @rol p xs ds hp rp =>
      have q' : OP X.K H α ξ Q (atD ds i M) := q
      unfold atD at q'
      cases e : L2.atI ds i with
      | none => rw [e] at q'; exact q'.elim
      | some d =>
        rw [e] at q'
        obtain ⟨v, h1, h2⟩ := rp.atI e
        exact .inl ⟨p, xs, i, v, rfl, rfl, hp.sq, h1, q' v H α Ext.refl h h2⟩
    | @ref p n hp =>
      cases e1 : M[n]? with
      | none => simp only [dIx, e1] at q; exact q.elim
      | some o1 =>
        cases o1 with
        | lst ds =>
          simp only [dIx, e1, atD] at q
          obtain ⟨xs, g1, r1⟩ := h.at hp e1
          cases e : L2.atI ds i with
          | none => rw [e] at q; exact q.elim
          | some d =>
            rw [e] at q
            obtain ⟨v, h1, h2⟩ := r1.atI e
            exact .inl ⟨p, xs, i, v, rfl, rfl, SqL.of g1, h1, q v H α Ext.refl h h2⟩
    | _ => exact q.elim
  | _ => cases rv <;> exact q.elim
theorem Zm (ha : DE X ξ a fa) (hb : DE X ξ b fb) (hs : ZhA b := by exact fun _ _ => rfl) : DE X ξ (.Subscript a b pos) (e2 dIx fa fb) := by
  obtain ⟨ta, ha, qa⟩ := ha
  obtain ⟨tb, hb, qb⟩ := hb
  exact ⟨_, Zo8 (IxR.or ZkP Zmv) ha hb hs, two Zpb qa qb⟩
end
inductive Kd where
  | non | bl (b : Bool) | int (i : Int) | str (x : Str) | tup (xs : List D) | lst (xs : List D)
noncomputable def kd (M : Sto) : D → Option Kd
  | .non => some .non
  | .bl b => some (.bl b)
  | .int i => some (.int i)
  | .str x => some (.str x)
  | .tup xs => some (.tup xs)
  | .rol xs => some (.lst xs)
  | .ref n => match M[n]? with | some (.lst xs) => some (.lst xs) | _ => none
  | .err _ _ => none
noncomputable def eqL (f : D → D → Option Bool) : List D → List D → Option Bool
  | [], [] => some true
  | x :: xs, y :: ys => match f x y with | some a => (match eqL f xs ys with | some b => some (a && b) | none => none) | none => none
  | _, _ => some false
noncomputable def eqK (f : D → D → Option Bool) : Kd → Kd → Option Bool
  | .non, .non => some true
  | .bl a, .bl b => some (a == b)
  | .bl a, .int b => some ((if a then 1 else 0) == b)
  | .int a, .bl b => some (a == (if b then 1 else 0))
  | .int a, .int b => some (a == b)
  | .str a, .str b => some (a == b)
  | .tup xs, .tup ys => eqL f xs ys
  | .lst xs, .lst ys => if xs.length = ys.length then eqL f xs ys else some false
  | _, _ => some false
noncomputable def eqF : Nat → Sto → D → D → Option Bool
  | 0, _, _, _ => none
  | n + 1, M, x, y => match kd M x, kd M y with | some a, some b => eqK (eqF n M) a b | _, _ => none
inductive Vw (X : Cx) (H : Hp) (α : List Addr) (s : Shared) : Kd → Value → Prop where
  | non : Vw X H α s .non .none
  | bl (b : Bool) : Vw X H α s (.bl b) (.bool b)
  | int (i : Int) (t : Tok) : Vw X H α s (.int i) (.int i t)
  | str (x : Str) (t : Tok) : Vw X H α s (.str x) (.str x t)
  | tup {p : Addr} {xs : List V} {ds : List D} {its : List Value} : s.heap.IsTuple p its.toArray → Z5 xs its → Reps X.K H α xs ds → Vw X H α s (.tup ds) (.ref p)
  | lst {p : Addr} {xs : List V} {ds : List D} {its : List Value} : s.heap.IsList p its.toArray → Z5 xs its → Reps X.K H α xs ds → Vw X H α s (.lst ds) (.ref p)
section
variable {X : Cx} {ξ : XK} {pins : List (Addr × Obj)} {σ : L2.St} {H : Hp} {s : Shared} {α : List Addr} {M : Sto}
theorem vw (I : Inv X pins σ H s) (h : HR X.K H α M) {v : V} {x : D} {u : Value} {k : Kd} (r : Rep X.K H α v x) (ru : ZaE v u) (e : kd M x = some k) : Vw X H α s k u := by
  cases r with
  | non => cases e; cases ru; exact .non
  | bl b => cases e; cases ru; exact .bl b
  | int i => cases e; obtain ⟨t, rfl⟩ := ru; exact .int i t
  | str x => cases e; obtain ⟨t, rfl⟩ := ru; exact .str x t
  | err _ _ _ => cases e
  | @tup p xs ds hp rp =>
    cases e; cases ru
    obtain ⟨its, h1, h2, _⟩ := I.tuple hp
    exact .tup h2 h1 rp
  | @rol p xs ds hp rp =>
    cases e; cases ru
    obtain ⟨its, h1, h2, _⟩ := I.list hp.sq
    exact .lst h2.isList h1 rp
  | @ref p n hp =>
    cases ru
    cases e1 : M[n]? with
    | none => simp only [kd, e1] at e; cases e
    | some o =>
      cases o with
      | lst ds =>
        simp only [kd, e1] at e
        cases e
        obtain ⟨xs, g1, r1⟩ := h.at hp e1
        obtain ⟨its, h1, h2, _⟩ := I.list (SqL.of g1)
        exact .lst h2.isList h1 r1
noncomputable def Eq3 (A : Around) (s : Shared) (u z : Value) (b : Bool) : Prop := EqAt A s u z b ∧ RcAt A s u z b ∧ RcNeAt A s u z (!b)
theorem ZhL {f : D → D → Option Bool} : ∀ {xs ys : List D} {b : Bool}, eqL f xs ys = some b →
    (∀ (j : Nat) x y, xs[j]? = some x → ys[j]? = some y → ∃ c, f x y = some c) ∧
    b = ((List.range (min xs.length ys.length)).all (fun j => match xs[j]?, ys[j]? with | some x, some y => (f x y).getD false | _, _ => false) && xs.length == ys.length)
  | [], [], b, e => by
    simp only [eqL, Option.some.injEq] at e
    subst e
    exact ⟨fun j x y h => (by simp at h), (by simp)⟩
  | x :: xs, [], b, e => by
    simp only [eqL, Option.some.injEq] at e
    subst e
    exact ⟨fun j x y h1 h2 => (by simp at h2), (by simp)⟩
  | [], y :: ys, b, e => by
    simp only [eqL, Option.some.injEq] at e
    subst e
    exact ⟨fun j x y h1 h2 => (by simp at h1), (by simp)⟩
  | x :: xs, y :: ys, b, e => by
    cases e1 : f x y with
    | none => simp only [eqL, e1] at e; cases e
    | some a =>
      cases e2 : eqL f xs ys with
      | none => simp only [eqL, e1, e2] at e; cases e
      | some c =>
        simp only [eqL, e1, e2, Option.some.injEq] at e
        subst e
        obtain ⟨h1, h2⟩ := ZhL e2
        refine ⟨fun j x' y' g1 g2 => ?_, ?_⟩
        · cases j with
          | zero =>
            simp at g1 g2
            subst g1 g2
            exact ⟨a, e1⟩
          | succ j =>
            simp at g1 g2
            exact h1 j x' y' g1 g2
        · have em : min (x :: xs).length (y :: ys).length = min xs.length ys.length + 1 := by simp only [List.length_cons]; omega
          rw [em, List.range_succ_eq_map, List.all_cons, List.all_map, h2]
          simp [e1, Bool.and_assoc, Function.comp_def]
theorem Zi9 (I : Inv X pins σ H s) (h : HR X.K H α M) : ∀ (n : Nat) {v : V} {x y : D} {b : Bool}, Rep X.K H α v x → Rep X.K H α v y → eqF n M x y = some b → b = true := by
  intro n
  induction n with
  | zero => intro v x y b _ _ e; simp only [eqF] at e; cases e
  | succ n ih =>
    have lists : ∀ (vs : List V) (xs ys : List D) (b : Bool), Reps X.K H α vs xs → Reps X.K H α vs ys → eqL (eqF n M) xs ys = some b → b = true := by
      intro vs
      induction vs with
      | nil =>
        intro xs ys b r1 r2 e
        cases r1; cases r2
        simp only [eqL, Option.some.injEq] at e
        exact e.symm
      | cons v vs iv =>
        intro xs ys b r1 r2 e
        cases r1 with
        | cons p1 t1 =>
          cases r2 with
          | cons p2 t2 =>
            rename_i d1 ds1 d2 ds2
            cases e1 : eqF n M d1 d2 with
            | none => simp only [eqL, e1] at e; cases e
            | some a =>
              cases e2 : eqL (eqF n M) ds1 ds2 with
              | none => simp only [eqL, e1, e2] at e; cases e
              | some c =>
                simp only [eqL, e1, e2, Option.some.injEq] at e
                rw [← e, ih p1 p2 e1, iv _ _ _ t1 t2 e2]
                rfl
    intro v x y b r1 r2 e
    have nl : ∀ {p : Addr} {xs ys : List V}, SqT X.K H p xs → SqL X.K H p ys → False := fun {p xs ys} a c => by
      obtain ⟨i1, _, ⟨o1, g1, c1, _⟩, _⟩ := I.tuple a
      obtain ⟨i2, _, ⟨o2, _, g2, c2, _⟩, _⟩ := I.list c
      rw [g1] at g2
      cases g2
      rw [c1] at c2
      exact absurd c2 (by decide)
    have ll : ∀ {p : Addr} {n : Nat} {ds : List D}, α[n]? = some p → M[n]? = some (.lst ds) → ∃ vs, SqL X.K H p vs ∧ Reps X.K H α vs ds := fun {p n ds} a c => by
      obtain ⟨xs, g1, r1⟩ := h.at a c
      exact ⟨xs, SqL.of g1, r1⟩
    cases r1 with
    | non => cases r2; simp only [eqF, kd, eqK, Option.some.injEq] at e; exact e.symm
    | bl c => cases r2; simp only [eqF, kd, eqK, Option.some.injEq, beq_self_eq_true] at e; exact e.symm
    | int c => cases r2; simp only [eqF, kd, eqK, Option.some.injEq, beq_self_eq_true] at e; exact e.symm
    | str c => cases r2; simp only [eqF, kd, eqK, Option.some.injEq, beq_self_eq_true] at e; exact e.symm
    | err _ _ _ => simp [eqF, kd] at e
    | @tup p xs ds hp rp =>
      cases r2 with
      | @tup _ xs2 ds2 hp2 rp2 =>
        cases I.tuple_inj hp hp2
        simp only [eqF, kd, eqK] at e
        exact lists _ _ _ _ rp rp2 e
      | @rol _ xs2 ds2 hp2 rp2 => exact (nl hp hp2.sq).elim
      | err _ _ _ => simp [eqF, kd] at e
      | @ref _ n2 hp2 =>
        obtain ⟨ys, g⟩ := h.some_at hp2
        exact (nl hp (SqL.of g)).elim
    | @rol p xs ds hp rp =>
      cases r2 with
      | @tup _ xs2 ds2 hp2 rp2 => exact (nl hp2 hp.sq).elim
      | err _ _ _ => simp [eqF, kd] at e
      | @rol _ xs2 ds2 hp2 rp2 =>
        cases I.list_inj hp.sq hp2.sq
        simp only [eqF, kd, eqK, if_pos (rp.length.symm.trans rp2.length)] at e
        exact lists _ _ _ _ rp rp2 e
      | @ref _ n2 hp2 =>
        cases e1 : M[n2]? with
        | none => simp only [eqF, kd, e1] at e; cases e
        | some o =>
          cases o with
          | lst ds2 =>
            obtain ⟨ys, g, r⟩ := ll hp2 e1
            cases I.list_inj hp.sq g
            simp only [eqF, kd, e1, eqK, if_pos (rp.length.symm.trans r.length)] at e
            exact lists _ _ _ _ rp r e
    | @ref p n1 hp =>
      cases e0 : M[n1]? with
      | none => simp only [eqF, kd, e0] at e; cases e
      | some o0 =>
        cases o0 with
        | lst ds =>
          obtain ⟨xs, g0, rp⟩ := ll hp e0
          cases r2 with
          | @tup _ xs2 ds2 hp2 rp2 => exact (nl hp2 g0).elim
          | err _ _ _ => simp [eqF, kd, e0] at e
          | @rol _ xs2 ds2 hp2 rp2 =>
            cases I.list_inj g0 hp2.sq
            simp only [eqF, kd, e0, eqK, if_pos (rp.length.symm.trans rp2.length)] at e
            exact lists _ _ _ _ rp rp2 e
          | @ref _ n2 hp2 =>
            cases e1 : M[n2]? with
            | none => simp only [eqF, kd, e0, e1] at e; cases e
            | some o =>
              cases o with
              | lst ds2 =>
                obtain ⟨ys, g, r⟩ := ll hp2 e1
                cases I.list_inj g0 g
                simp only [eqF, kd, e0, e1, eqK, if_pos (rp.length.symm.trans r.length)] at e
                exact lists _ _ _ _ rp r e
end
end DL
end
section
set_option Elab.async false
set_option linter.all false
set_option maxRecDepth 100000
set_option maxHeartbeats 4000000
namespace DL
open PySem PySem.Spec PyProof.Rows L2
open PySem.SeqAt (EqAt RcAt RcNeAt)
section
variable {X : Cx} {ξ : XK} {pins : List (Addr × Obj)} {σ : L2.St} {H : Hp} {s : Shared} {α : List Addr} {M : Sto}
theorem Zgg {A : Around} {n : Nat} {xs1 xs2 : List V} {ds1 ds2 : List D} {i1 i2 : List Value} {b : Bool} (v1 : Z5 xs1 i1) (v2 : Z5 xs2 i2) (r1 : Reps X.K H α xs1 ds1) (r2 : Reps X.K H α xs2 ds2)
    (ih : ∀ (x y : D) (v w : V) (u z : Value) (b : Bool), eqF n M x y = some b → Rep X.K H α v x → Rep X.K H α w y → ZaE v u → ZaE w z → EqAt A s u z b) (e : eqL (eqF n M) ds1 ds2 = some b) :
    ∃ f : Nat → Bool, (∀ (j : Nat) (h1 : j < i1.toArray.size) (h2 : j < i2.toArray.size), EqAt A s i1.toArray[j] i2.toArray[j] (f j)) ∧ b = ((List.range (min i1.toArray.size i2.toArray.size)).all f && i1.toArray.size == i2.toArray.size) := by
  obtain ⟨g1, g2⟩ := ZhL e
  have l1 : i1.toArray.size = ds1.length := by rw [List.size_toArray, ← v1.length, r1.length]
  have l2 : i2.toArray.size = ds2.length := by rw [List.size_toArray, ← v2.length, r2.length]
  refine ⟨_, fun j h1 h2 => ?_, by rw [l1, l2]; exact g2⟩
  have k1 : j < ds1.length := by rw [← l1]; exact h1
  have k2 : j < ds2.length := by rw [← l2]; exact h2
  obtain ⟨c, hc⟩ := g1 j _ _ (List.getElem?_eq_getElem k1) (List.getElem?_eq_getElem k2)
  obtain ⟨v, a1, a2⟩ := r1.get (List.getElem?_eq_getElem k1)
  obtain ⟨w, b1, b2⟩ := r2.get (List.getElem?_eq_getElem k2)
  obtain ⟨u, a3, a4⟩ := v1.get a1
  obtain ⟨z, b3, b4⟩ := v2.get b1
  have q := ih _ _ v w u z c hc a2 b2 a4 b4
  simp only [List.getElem?_eq_getElem k1, List.getElem?_eq_getElem k2, hc, Option.getD_some]
  have e1 : i1.toArray[j] = u := by
    have := List.getElem?_eq_some_iff.mp a3
    obtain ⟨_, z⟩ := this
    simpa using z
  have e2 : i2.toArray[j] = z := by
    have := List.getElem?_eq_some_iff.mp b3
    obtain ⟨_, z⟩ := this
    simpa using z
  rw [e1, e2]
  exact q
theorem ZhM (I : Inv X pins σ H s) (h : HR X.K H α M) {n : Nat} {x y : D} {v w : V} {p q : Addr} {b : Bool} {A : Around} (e : eqF n M x y = some b) (rx : Rep X.K H α v x) (ry : Rep X.K H α w y) (rv : ZaE v (.ref p)) (rw' : ZaE w (.ref q))
    (k : RcAt A s (.ref p) (.ref q) b) (k' : RcNeAt A s (.ref p) (.ref q) (!b)) : Eq3 A s (.ref p) (.ref q) b := by
  refine ⟨?_, k, k'⟩
  by_cases c : p = q
  · subst c
    cases ZaE.inj rv rw'
    rw [Zi9 I h n rx ry e]
    exact EqAt.same _
  · exact EqAt.of_refs c k
theorem eq3 (I : Inv X pins σ H s) (h : HR X.K H α M) : ∀ (n : Nat) (x y : D) (v w : V) (u z : Value) (b : Bool) (A : Around), A.units + n < cLine → eqF n M x y = some b → Rep X.K H α v x → Rep X.K H α w y → ZaE v u → ZaE w z → Eq3 A s u z b := by
  intro n
  induction n with
  | zero => intro x y v w u z b A _ e; simp only [eqF] at e; cases e
  | succ n ih =>
    intro x y v w u z b A hn e rx ry rv rw'
    have hu : A.units < cLine := by omega
    have e0 := e
    unfold eqF at e
    cases ka : kd M x with
    | none => rw [ka] at e; cases e
    | some ka' =>
      cases kb : kd M y with
      | none => rw [ka, kb] at e; cases e
      | some kb' =>
        rw [ka, kb] at e
        have va := vw I h rx rv ka
        have vb := vw I h ry rw' kb
        have deep : ∀ (x y : D) (v w : V) (u z : Value) (b : Bool), eqF n M x y = some b → Rep X.K H α v x → Rep X.K H α w y → ZaE v u → ZaE w z → EqAt A.in1 s u z b := fun x y v w u z b e a1 a2 a3 a4 =>
          (ih x y v w u z b A.in1 (by rw [Around.in1_units]; omega) e a1 a2 a3 a4).1
        cases va with
        | non =>
          cases vb <;> simp only [eqK, Option.some.injEq] at e <;> subst e
          · exact ⟨EqAt.same _, .none_none, .none_none⟩
          · exact ⟨.none_bool _, .none_bool _, .none_bool _⟩
          · exact ⟨.none_int _ _, .none_int _ _, .none_int _ _⟩
          · exact ⟨.none_str _ _, .none_str _ _, .none_str _ _⟩
          · rename_i g _ _; exact ⟨.none_tuple g hu, .none_tuple g hu, .none_tuple g hu⟩
          · rename_i g _ _; exact ⟨.none_list g hu, .none_list g hu, .none_list g hu⟩
        | bl c =>
          cases vb <;> simp only [eqK, Option.some.injEq] at e <;> subst e
          · exact ⟨.bool_none _, .bool_none _, .bool_none _⟩
          · exact ⟨.bool_bool _ _, .bool_bool _ _, .bool_bool _ _⟩
          · exact ⟨.bool_int _ _ _, .bool_int _ _ _, .bool_int _ _ _⟩
          · exact ⟨.bool_str _ _ _, .bool_str _ _ _, .bool_str _ _ _⟩
          · rename_i g _ _; exact ⟨.bool_tuple _ g hu, .bool_tuple _ g hu, .bool_tuple _ g hu⟩
          · rename_i g _ _; exact ⟨.bool_list _ g hu, .bool_list _ g hu, .bool_list _ g hu⟩
        | int c t =>
          cases vb <;> simp only [eqK, Option.some.injEq] at e <;> subst e
          · exact ⟨.int_none _ _, .int_none _ _, .int_none _ _⟩
          · exact ⟨.int_bool _ _ _, .int_bool _ _ _, .int_bool _ _ _⟩
          · exact ⟨.int_int _ _ _ _, .int_int _ _ _ _, .int_int _ _ _ _⟩
          · exact ⟨.int_str _ _ _ _, .int_str _ _ _ _, .int_str _ _ _ _⟩
          · rename_i g _ _; exact ⟨.int_tuple _ _ g hu, .int_tuple _ _ g hu, .int_tuple _ _ g hu⟩
          · rename_i g _ _; exact ⟨.int_list _ _ g hu, .int_list _ _ g hu, .int_list _ _ g hu⟩
        | str c t =>
          cases vb <;> simp only [eqK, Option.some.injEq] at e <;> subst e
          · exact ⟨.str_none _ _, .str_none _ _, .str_none _ _⟩
          · exact ⟨.str_bool _ _ _, .str_bool _ _ _, .str_bool _ _ _⟩
          · exact ⟨.str_int _ _ _ _, .str_int _ _ _ _, .str_int _ _ _ _⟩
          · exact ⟨.str_str _ _ _ _, .str_str _ _ _ _, .str_str _ _ _ _⟩
          · rename_i g _ _; exact ⟨.str_tuple _ _ g hu, .str_tuple _ _ g hu, .str_tuple _ _ g hu⟩
          · rename_i g _ _; exact ⟨.str_list _ _ g hu, .str_list _ _ g hu, .str_list _ _ g hu⟩
        | @tup p xs ds its g1 w1 q1 =>
          cases vb with
          | @tup p2 xs2 ds2 its2 g2 w2 q2 =>
            simp only [eqK] at e
            obtain ⟨f, hf, hb⟩ := Zgg w1 w2 q1 q2 deep e
            subst hb
            exact ZhM I h e0 rx ry rv rw' (.tuples g1 g2 hu hf) (.tuples g1 g2 hu hf)
          | @lst p2 xs2 ds2 its2 g2 w2 q2 =>
            simp only [eqK, Option.some.injEq] at e
            subst e
            exact ZhM I h e0 rx ry rv rw' (.tuple_list g1 g2 hu) (.tuple_list g1 g2 hu)
          | non => simp only [eqK, Option.some.injEq] at e; subst e; exact ⟨.tuple_none g1 hu, .tuple_none g1 hu, .tuple_none g1 hu⟩
          | bl c => simp only [eqK, Option.some.injEq] at e; subst e; exact ⟨.tuple_bool _ g1 hu, .tuple_bool _ g1 hu, .tuple_bool _ g1 hu⟩
          | int c t => simp only [eqK, Option.some.injEq] at e; subst e; exact ⟨.tuple_int _ _ g1 hu, .tuple_int _ _ g1 hu, .tuple_int _ _ g1 hu⟩
          | str c t => simp only [eqK, Option.some.injEq] at e; subst e; exact ⟨.tuple_str _ _ g1 hu, .tuple_str _ _ g1 hu, .tuple_str _ _ g1 hu⟩
        | @lst p xs ds its g1 w1 q1 =>
          cases vb with
          | @lst p2 xs2 ds2 its2 g2 w2 q2 =>
            simp only [eqK] at e
            have l1 : its.toArray.size = ds.length := by rw [List.size_toArray, ← w1.length, q1.length]
            have l2 : its2.toArray.size = ds2.length := by rw [List.size_toArray, ← w2.length, q2.length]
            by_cases c : ds.length = ds2.length
            · rw [if_pos c] at e
              have hs : its.toArray.size = its2.toArray.size := by rw [l1, l2, c]
              obtain ⟨f, hf, hb⟩ := Zgg w1 w2 q1 q2 deep e
              rw [hs, Nat.min_self, beq_self_eq_true, Bool.and_true, ← hs] at hb
              subst hb
              exact ZhM I h e0 rx ry rv rw' (.lists g1 g2 hs hu hf) (.lists g1 g2 hs hu hf)
            · rw [if_neg c] at e
              have e' : false = b := Option.some.inj e
              subst e'
              have hs : (its.toArray.size != its2.toArray.size) = true := by rw [l1, l2]; simpa using c
              exact ZhM I h e0 rx ry rv rw' (.lists_lengths g1 g2 hs hu) (.lists_lengths g1 g2 hs hu)
          | @tup p2 xs2 ds2 its2 g2 w2 q2 =>
            simp only [eqK, Option.some.injEq] at e
            subst e
            exact ZhM I h e0 rx ry rv rw' (.list_tuple g1 g2 hu) (.list_tuple g1 g2 hu)
          | non => simp only [eqK, Option.some.injEq] at e; subst e; exact ⟨.list_none g1 hu, .list_none g1 hu, .list_none g1 hu⟩
          | bl c => simp only [eqK, Option.some.injEq] at e; subst e; exact ⟨.list_bool _ g1 hu, .list_bool _ g1 hu, .list_bool _ g1 hu⟩
          | int c t => simp only [eqK, Option.some.injEq] at e; subst e; exact ⟨.list_int _ _ g1 hu, .list_int _ _ g1 hu, .list_int _ _ g1 hu⟩
          | str c t => simp only [eqK, Option.some.injEq] at e; subst e; exact ⟨.list_str _ _ g1 hu, .list_str _ _ g1 hu, .list_str _ _ g1 hu⟩
end
section
variable {X : Cx} {ξ : XK}
noncomputable def ZoP (X : Cx) (neg : Bool) : R2 := fun v w H Q => ∃ α M x y b, HR X.K H α M ∧ Rep X.K H α v x ∧ Rep X.K H α w y ∧ eqF 12 M x y = some b ∧ Q (.bl (neg ^^ b)) H
theorem Zb9 (hu : X.A.units + 64 < cLine) : OpR X (compareOp .Eq) (ZoP X false) := by
  intro pins s σ H v w u z Q I rv rw' ⟨α, M, x, y, b, h, rx, ry, e, q⟩
  refine (eq3 I h 12 x y v w u z b X.A (by omega) e rx ry rv rw').2.1 _ _ _ _ ⟨.bl b, H, I, rfl, ?_⟩
  simpa using q
theorem Zcv (hu : X.A.units + 64 < cLine) : OpR X (compareOp .NotEq) (ZoP X true) := by
  intro pins s σ H v w u z Q I rv rw' ⟨α, M, x, y, b, h, rx, ry, e, q⟩
  refine (eq3 I h 12 x y v w u z b X.A (by omega) e rx ry rv rw').2.2 _ _ _ _ ⟨.bl (!b), H, I, rfl, ?_⟩
  simpa using q
noncomputable def dEq : Bo := fun x y M => match eqF 12 M x y with | some b => .ok (.bl b) M | none => .bad
noncomputable def dNe : Bo := fun x y M => match eqF 12 M x y with | some b => .ok (.bl (!b)) M | none => .bad
theorem ZdF : BO X ξ (ZoP X false) dEq := by
  intro H α M v w x y Q h rv rw' q
  unfold dEq at q
  cases e : eqF 12 M x y with
  | none => rw [e] at q; exact q.elim
  | some b => rw [e] at q; exact ⟨α, M, x, y, b, h, rv, rw', e, by simpa using q _ H α Ext.refl h (.bl b)⟩
theorem ZdX : BO X ξ (ZoP X true) dNe := by
  intro H α M v w x y Q h rv rw' q
  unfold dNe at q
  cases e : eqF 12 M x y with
  | none => rw [e] at q; exact q.elim
  | some b => rw [e] at q; exact ⟨α, M, x, y, b, h, rv, rw', e, by simpa using q _ H α Ext.refl h (.bl (!b))⟩
noncomputable def ZhN : V → Bool
  | .non => true
  | .bl _ => true
  | _ => false
noncomputable def rIs (neg : Bool) : R2 := fun v w H Q => ZhN w = true ∧ Q (.bl (neg ^^ decide (v = w))) H
theorem Zja {v w : V} {u z : Value} (rv : ZaE v u) (rw' : ZaE w z) (p : ZhN w = true) : plainIs u z = true ∧ (u == z) = decide (v = w) := by
  cases w with
  | non =>
    cases rw'
    cases v with
    | non => cases rv; exact ⟨rfl, rfl⟩
    | bl b => cases rv; exact ⟨rfl, by rw [decide_eq_false (fun z => (nomatch z))]; rfl⟩
    | int b => obtain ⟨t, rfl⟩ := rv; exact ⟨rfl, by rw [decide_eq_false (fun z => (nomatch z))]; rfl⟩
    | str b => obtain ⟨t, rfl⟩ := rv; exact ⟨rfl, by rw [decide_eq_false (fun z => (nomatch z))]; rfl⟩
    | byt b => obtain ⟨t, rfl⟩ := rv; exact ⟨rfl, by rw [decide_eq_false (fun z => (nomatch z))]; rfl⟩
    | flt b => obtain ⟨t, rfl⟩ := rv; exact ⟨rfl, by rw [decide_eq_false (fun z => (nomatch z))]; rfl⟩
    | ref b => cases rv; exact ⟨rfl, by rw [decide_eq_false (fun z => (nomatch z))]; rfl⟩
    | ty b => cases rv; exact ⟨rfl, by rw [decide_eq_false (fun z => (nomatch z))]; rfl⟩
  | bl c =>
    cases rw'
    cases v with
    | non => cases rv; exact ⟨rfl, by rw [decide_eq_false (fun z => (nomatch z))]; rfl⟩
    | bl b => cases rv; refine ⟨rfl, ?_⟩; cases b <;> cases c <;> rfl
    | int b => obtain ⟨t, rfl⟩ := rv; exact ⟨rfl, by rw [decide_eq_false (fun z => (nomatch z))]; rfl⟩
    | str b => obtain ⟨t, rfl⟩ := rv; exact ⟨rfl, by rw [decide_eq_false (fun z => (nomatch z))]; rfl⟩
    | byt b => obtain ⟨t, rfl⟩ := rv; exact ⟨rfl, by rw [decide_eq_false (fun z => (nomatch z))]; rfl⟩
    | flt b => obtain ⟨t, rfl⟩ := rv; exact ⟨rfl, by rw [decide_eq_false (fun z => (nomatch z))]; rfl⟩
    | ref b => cases rv; exact ⟨rfl, by rw [decide_eq_false (fun z => (nomatch z))]; rfl⟩
    | ty b => cases rv; exact ⟨rfl, by rw [decide_eq_false (fun z => (nomatch z))]; rfl⟩
  | _ => cases p
theorem ZhO : OpR X (compareOp .IsNot) (rIs true) := by
  intro pins s σ H v w u z Q I rv rw' ⟨p, q⟩
  obtain ⟨h1, h2⟩ := Zja rv rw' p
  refine wpAny_isNot_plain h1 ⟨.bl (!(u == z)), H, I, rfl, ?_⟩
  rw [h2]
  simpa using q
noncomputable def isP : D → D → Option Bool
  | .non, .non => some true
  | .bl a, .bl b => some (a == b)
  | _, .non => some false
  | _, .bl _ => some false
  | _, _ => none
noncomputable def dIs : Bo := fun x y M => match isP x y with | some b => .ok (.bl b) M | none => .bad
noncomputable def dIsNot : Bo := fun x y M => match isP x y with | some b => .ok (.bl (!b)) M | none => .bad
theorem ZmG {K : PySem.W.Frag} {H : Hp} {α : List Addr} {v w : V} {x y : D} {b : Bool} (rv : Rep K H α v x) (rw' : Rep K H α w y) (e : isP x y = some b) : ZhN w = true ∧ decide (v = w) = b := by
  cases rw' with
  | non => cases rv <;> cases e <;> exact ⟨rfl, by first | rfl | exact decide_eq_false (fun z => (nomatch z))⟩
  | bl c =>
    cases rv with
    | bl d => cases e; refine ⟨rfl, ?_⟩; cases c <;> cases d <;> rfl
    | _ => cases e; exact ⟨rfl, decide_eq_false (fun z => (nomatch z))⟩
  | _ => cases rv <;> cases e
theorem Zjb : BO X ξ (rIs true) dIsNot := by
  intro H α M v w x y Q h rv rw' q
  unfold dIsNot at q
  cases e : isP x y with
  | none => rw [e] at q; exact q.elim
  | some b =>
    rw [e] at q
    obtain ⟨p, d⟩ := ZmG rv rw' e
    exact ⟨p, by rw [d]; simpa using q _ H α Ext.refl h (.bl (!b))⟩
noncomputable def Zfz (M : Sto) : D → Option (List D)
  | .tup xs => some xs
  | .rol xs => some xs
  | .ref n => match M[n]? with | some (.lst xs) => some xs | _ => none
  | _ => none
theorem ZhP {K : PySem.W.Frag} {H : Hp} {α : List Addr} {M : Sto} (h : HR K H α M) {v : V} {x : D} {ds : List D} (r : Rep K H α v x) (e : Zfz M x = some ds) : ∃ p xs, v = .ref p ∧ (SqL K H p xs ∨ SqT K H p xs) ∧ Reps K H α xs ds := by
  cases r with
  | @tup p xs ds hp rp => cases e; exact ⟨p, xs, rfl, .inr hp, rp⟩
  | @rol p xs ds hp rp => cases e; exact ⟨p, xs, rfl, .inl hp.sq, rp⟩
  | @ref p n hp =>
    cases e1 : M[n]? with
    | none => simp only [Zfz, e1] at e; cases e
    | some o =>
      cases o with
      | lst es =>
        simp only [Zfz, e1] at e
        cases e
        obtain ⟨xs, g1, r1⟩ := h.at hp e1
        exact ⟨p, xs, rfl, .inl (SqL.of g1), r1⟩
  | _ => cases e
variable {e : Expr} {es : List Expr} {fs : Av} {fa : Ev} {p pos : Pos} {x : Str} {id T : String} {r : List V → Hp → VK → Prop} {f : List D → Sto → Out D}
noncomputable def Zg (f : List D → Sto → Out D) (fs : Av) : Ev := fun ρ M => (fs ρ M).bind f
noncomputable def CO (X : Cx) (ξ : XK) (r : List V → Hp → VK → Prop) (f : List D → Sto → Out D) : Prop := ∀ H α M vs ds Q, HR X.K H α M → Reps X.K H α vs ds → OP X.K H α ξ Q (f ds M) → r vs H Q
theorem Zr (hc : Zcr X (.builtin id) r) (hf : CO X ξ r f) (hm : X.mg x = none) (hv : bootBuiltins x = some (.builtin id)) (ha : DA X ξ (e :: es) fs) (hg : Gl X x := by rfl) (hn : x ≠ "__name__" := by decide) (hdb : (x == ("__debug__" : Str)) = false := by decide)
    (he : starEach (e :: es) X.env = (false, eval e X.env) :: starEach es X.env := by rfl) (hpl : (backTo pos (starEach es X.env)).any (·.1) = false := by rfl) : DE X ξ (.Call (.Name x p) (e :: es) [] pos) (Zg f fs) := by
  obtain ⟨ta, ha, qa⟩ := ha
  refine ⟨_, Zgd hc hg hm hv ha hn hdb he hpl, fun σ ρ H α M Q s h q => ?_⟩
  exact qa σ ρ H α M _ s h (OG.seq q fun ds M1 vs H1 α1 e1 h1 r1 q1 => hf H1 α1 M1 vs ds Q h1 r1 q1)
theorem Zbm (hc : Zcr X (.type T) r) (hf : CO X ξ r f) (hm : X.mg x = none) (hv : bootBuiltins x = some (.type T)) (ha : DA X ξ (e :: es) fs) (hg : Gl X x := by rfl) (hn : x ≠ "__name__" := by decide) (hdb : (x == ("__debug__" : Str)) = false := by decide)
    (he : starEach (e :: es) X.env = (false, eval e X.env) :: starEach es X.env := by rfl) (hpl : (backTo pos (starEach es X.env)).any (·.1) = false := by rfl) : DE X ξ (.Call (.Name x p) (e :: es) [] pos) (Zg f fs) := by
  obtain ⟨ta, ha, qa⟩ := ha
  refine ⟨_, Zhw hc hg hm hv ha hn hdb he hpl, fun σ ρ H α M Q s h q => ?_⟩
  exact qa σ ρ H α M _ s h (OG.seq q fun ds M1 vs H1 α1 e1 h1 r1 q1 => hf H1 α1 M1 vs ds Q h1 r1 q1)
noncomputable def bLen : List D → Sto → Out D := fun ds M => match ds with
  | [x] => match Zfz M x with | some xs => .ok (.int xs.length) M | none => .bad
  | _ => .bad
theorem ZW : CO X ξ (fun xs H Q => ∃ p ys, xs = [.ref p] ∧ (SqL X.K H p ys ∨ SqT X.K H p ys) ∧ Q (.int ys.length) H) bLen := by
  intro H α M vs ds Q h rs q
  unfold bLen at q
  match rs with
  | .nil => exact q.elim
  | .cons (.non) (.cons _ _) => exact q.elim
  | .cons _ (.cons _ _) => exact q.elim
  | .cons (d := x) r .nil =>
    cases e : Zfz M x with
    | none => simp only [e] at q; exact q.elim
    | some ys =>
      simp only [e] at q
      obtain ⟨p, xs, rfl, h2, h3⟩ := ZhP h r e
      exact ⟨p, xs, rfl, h2, by rw [h3.length]; exact q _ H α Ext.refl h (.int _)⟩
noncomputable def bAbs : List D → Sto → Out D := fun ds M => match ds with | [.int i] => .ok (.int (if i < 0 then -i else i)) M | _ => .bad
theorem Zdn : CO X ξ (fun xs H Q => ∃ i, xs = [.int i] ∧ Q (.int (if i < 0 then -i else i)) H) bAbs := by
  intro H α M vs ds Q h rs q
  match rs with
  | .nil => exact q.elim
  | .cons r (.cons _ _) => cases r <;> exact q.elim
  | .cons r .nil =>
    cases r with
    | int i => exact ⟨i, rfl, q _ H α Ext.refl h (.int _)⟩
    | _ => exact q.elim
noncomputable def bMax : List D → Sto → Out D := fun ds M => match ds with | [.int i, .int j] => .ok (.int (if j > i then j else i)) M | _ => .bad
noncomputable def bMin : List D → Sto → Out D := fun ds M => match ds with | [.int i, .int j] => .ok (.int (if j < i then j else i)) M | _ => .bad
theorem ZjU {g : Int → Int → Int} {f : List D → Sto → Out D} (hf : ∀ ds M, f ds M = match ds with | [.int i, .int j] => .ok (.int (g i j)) M | _ => .bad) : CO X ξ (fun xs H Q => ∃ i j, xs = [.int i, .int j] ∧ Q (.int (g i j)) H) f := by
  intro H α M vs ds Q h rs q
  rw [hf] at q
  match rs with
  | .nil => exact q.elim
  | .cons r .nil => cases r <;> exact q.elim
  | .cons r (.cons r' (.cons _ _)) => cases r <;> cases r' <;> exact q.elim
  | .cons r (.cons r' .nil) =>
    cases r with
    | int i =>
      cases r' with
      | int j => exact ⟨i, j, rfl, q _ H α Ext.refl h (.int _)⟩
      | _ => exact q.elim
    | _ => cases r' <;> exact q.elim
theorem ZjV : CO X ξ (fun xs H Q => ∃ i j, xs = [.int i, .int j] ∧ Q (.int (if j > i then j else i)) H) bMax := ZjU (g := fun i j => if j > i then j else i) fun ds M => rfl
theorem ZmH : CO X ξ (fun xs H Q => ∃ i j, xs = [.int i, .int j] ∧ Q (.int (if j < i then j else i)) H) bMin := ZjU (g := fun i j => if j < i then j else i) fun ds M => rfl
noncomputable def bInt : List D → Sto → Out D := fun ds M => match ds with | [.int i] => .ok (.int i) M | [.bl k] => .ok (.int (if k then 1 else 0)) M | _ => .bad
theorem Zgh : CO X ξ (fun xs H Q => (∃ i, xs = [.int i] ∧ Q (.int i) H) ∨ ∃ k, xs = [.bl k] ∧ Q (.int (if k then 1 else 0)) H) bInt := by
  intro H α M vs ds Q h rs q
  match rs with
  | .nil => exact q.elim
  | .cons r (.cons _ _) => cases r <;> exact q.elim
  | .cons r .nil =>
    cases r with
    | int i => exact .inl ⟨i, rfl, q _ H α Ext.refl h (.int _)⟩
    | bl k => exact .inr ⟨k, rfl, q _ H α Ext.refl h (.int _)⟩
    | _ => exact q.elim
noncomputable def bList : List D → Sto → Out D := fun ds M => match ds with
  | [x] => match Zfz M x with | some xs => .ok (.ref M.length) (M ++ [.lst xs]) | none => .bad
  | _ => .bad
theorem ZfH : CO X ξ (fun xs H Q => ∃ p ys, xs = [.ref p] ∧ (SqL X.K H p ys ∨ SqT X.K H p ys) ∧ ∀ l, H l = none → Q (.ref l) (upd H l (.lst ys))) bList := by
  intro H α M vs ds Q h rs q
  unfold bList at q
  match rs with
  | .nil => exact q.elim
  | .cons _ (.cons _ _) => exact q.elim
  | .cons (d := x) r .nil =>
    cases e : Zfz M x with
    | none => simp only [e] at q; exact q.elim
    | some ys =>
      simp only [e] at q
      obtain ⟨p, xs, rfl, h2, h3⟩ := ZhP h r e
      exact ⟨p, xs, rfl, h2, fun l hl => q _ _ (α ++ [l]) (Ext.new hl) (h.new hl h3) (.ref (h.last l))⟩
noncomputable def Zaw (M : Sto) (x : D) : Option String := match kd M x with
  | some .non => some "NoneType"
  | some (.bl _) => some "bool"
  | some (.int _) => some "int"
  | some (.str _) => some "str"
  | some (.tup _) => some "tuple"
  | some (.lst _) => some "list"
  | none => none
noncomputable def ZcH (t T : String) : Bool := t == T || (t == "bool" && T == "int")
noncomputable def ZdY (T : String) (f : Ev) : Ev := fun ρ M => (f ρ M).bind fun x M1 => match Zaw M1 x with | some t => .ok (.bl (ZcH t T)) M1 | none => .bad
noncomputable def Zr5 (X : Cx) (T : String) : List V → Hp → VK → Prop := fun vs H Q => ∃ v α M x t, vs = [v, .ty T] ∧ HR X.K H α M ∧ Rep X.K H α v x ∧ Zaw M x = some t ∧ Q (.bl (ZcH t T)) H
structure Kit (K : PySem.W.Frag) (T : String) : Prop where
  non : PySem.W.kitOne K (.type "NoneType") (.type T) = some (ZcH "NoneType" T)
  bl : PySem.W.kitOne K (.type "bool") (.type T) = some (ZcH "bool" T)
  int : PySem.W.kitOne K (.type "int") (.type T) = some (ZcH "int" T)
  str : PySem.W.kitOne K (.type "str") (.type T) = some (ZcH "str" T)
  tup : PySem.W.kitOne K (.type "tuple") (.type T) = some (ZcH "tuple" T)
  lst : PySem.W.kitOne K (.type "list") (.type T) = some (ZcH "list" T)
theorem ZhQ {K : PySem.W.Frag} : Kit K "int" := ⟨rfl, rfl, rfl, rfl, rfl, rfl⟩
theorem Zgi {K : PySem.W.Frag} : Kit K "bool" := ⟨rfl, rfl, rfl, rfl, rfl, rfl⟩
theorem ZhR {K : PySem.W.Frag} : Kit K "tuple" := ⟨rfl, rfl, rfl, rfl, rfl, rfl⟩
theorem Zjc {K : PySem.W.Frag} : Kit K "list" := ⟨rfl, rfl, rfl, rfl, rfl, rfl⟩
theorem Zjd (kt : Kit X.K T) : Zcr X (.builtin "isinstance") (Zr5 X T) := by
  intro pins s σ H vs us Q I rs ⟨v, α, M, x, t, e1, h, rx, et, q⟩
  subst e1
  obtain ⟨u, w, rfl, ru, rw'⟩ := ZkH rs
  cases rw'
  unfold Zaw at et
  cases ek : kd M x with
  | none => rw [ek] at et; cases et
  | some k =>
    rw [ek] at et
    have va := vw I h rx ru ek
    have fin : ∀ tk, EP X pins σ Q (.bool (ZcH t T)) { s with toks := tk } := fun tk => ⟨.bl _, H, I.tok tk, rfl, q⟩
    cases va with
    | non => cases et; exact PySem.W.kia_one PySem.W.kitx_none I.kIn True.intro kt.non (fun z => nomatch z) fin
    | bl b => cases et; exact PySem.W.kia_one PySem.W.kitx_bool I.kIn True.intro kt.bl (fun z => nomatch z) fin
    | int i t => cases et; exact PySem.W.kia_one PySem.W.kitx_int I.kIn True.intro kt.int (fun z => nomatch z) fin
    | str i t => cases et; exact PySem.W.kia_one PySem.W.kitx_str I.kIn True.intro kt.str (fun z => nomatch z) fin
    | tup g _ _ => cases et; obtain ⟨o, h1, h2, _⟩ := g; exact PySem.W.kia_one PySem.W.kitx_tuple I.kIn ⟨o, h1, h2⟩ kt.tup (fun z => nomatch z) fin
    | lst g _ _ => cases et; obtain ⟨o, h1, h2, _⟩ := g; exact PySem.W.kia_one PySem.W.kitx_list I.kIn ⟨o, h1, h2⟩ kt.lst (fun z => nomatch z) fin
theorem Zd6 {y : Str} {p2 : Pos} (kt : Kit X.K T) (hm : X.mg "isinstance" = none) (hmT : X.mg y = none) (hvT : bootBuiltins y = some (.type T)) (ha : DE X ξ e fa) (hg : Gl X "isinstance" := by rfl) (hgT : Gl X y := by rfl) (hn : y ≠ "__name__" := by decide) (hdb : (y == ("__debug__" : Str)) = false := by decide)
    (he : starEach [e, .Name y p2] X.env = (false, eval e X.env) :: starEach [.Name y p2] X.env := by rfl) (he2 : starEach [.Name y p2] X.env = (false, eval (.Name y p2) X.env) :: starEach [] X.env := by rfl) (hpl : (backTo pos (starEach [.Name y p2] X.env)).any (·.1) = false := by rfl) : DE X ξ (.Call (.Name "isinstance" p) [e, .Name y p2] [] pos) (ZdY T fa) := by
  obtain ⟨ta, ha, qa⟩ := ha
  refine ⟨_, Zgd (Zjd kt) hg hm (by with_unfolding_all rfl) (ZfE ha (ZfE (Zkv hgT hmT hvT (v := .ty T) rfl hn hdb) ZjQ he2) he) (by decide) (by decide) he hpl, fun σ ρ H α M Q s h q => ?_⟩
  refine qa σ ρ H α M _ s h (OG.seq q fun x M1 v H1 α1 e1 h1 r1 q1 => ?_)
  cases et : Zaw M1 x with
  | none => simp only [et] at q1; exact q1.elim
  | some t =>
    simp only [et] at q1
    exact ⟨v, α1, M1, x, t, rfl, h1, r1, et, q1 _ H1 α1 Ext.refl h1 (.bl _)⟩
end
end DL
end
section
set_option Elab.async false
set_option linter.all false
set_option maxRecDepth 100000
set_option maxHeartbeats 4000000
namespace DL
open PySem PySem.Spec PyProof.Rows L2
noncomputable def CXE (P : Program) (w : World) : CXT := fun outer H s E e s' => ∃ (ea C : Addr) (dct : Option Addr) (B : Heap) (H' : Hp), e = .ref ea ∧ s'.os = s.os ∧ AllBare s'.gens ∧ Un (frs outer) [] H H' s.heap s'.heap ∧ HOk P w H' s'.heap ∧
  DQ.Fly B outer ea (.ref C) dct .none s'.heap ∧ (∀ b u, H' b = some u → ∃ o, B.get? b = some o) ∧ (∀ b o, s.heap.get? b = some o → b ∉ frs outer → ∃ o', B.get? b = some o') ∧ E (.ref C) dct H'
structure Thr (X : Cx) (ξ : XK) : Prop where
  own : PassesOwn (model X.prog X.w) X.A X.env X.xe
  ps : Zhu (CXE X.prog X.w) X ξ
  mak : ∀ (pins : List (Addr × Obj)) (σ : L2.St) (H : Hp) (s : Shared) (h' : Heap) (e : Addr) (oe : Obj) (vs : Array Value) (C : Addr), Inv X pins σ H s → (∀ b o, s.heap.get? b = some o → h'.get? b = some o) → s.heap.get? e = none → h'.get? e = some oe → oe.cls = .ref C → oe.dict = none →
    oe.data = .fields vs → vs[1]? = some .none → vs[2]? = some .none → ξ (.ref C) none H → X.xe (.ref e) { s with heap := h' }
theorem Ze3 {h b1 b2 : Heap} : ∀ {l : List Env}, h.FunFrames b1 l → (∀ b ∈ frs l, b2.get? b = none) → h.FunFrames b2 l
  | [], _, _ => trivial
  | env :: r, ⟨h1, ⟨L, o, h2, h3, h4, h5⟩, h6⟩, k => ⟨h1, ⟨L, o, h2, k L (by unfold frs; rw [List.filterMap_cons, h2]; exact List.mem_cons_self), h4, h5⟩, Ze3 h6 fun b hb => k b (by
      unfold frs
      rw [List.filterMap_cons, h2]
      exact List.mem_cons_of_mem _ hb)⟩
section
variable {X : Cx} {pins : List (Addr × Obj)} {σ : L2.St} {H H' : Hp} {s : Shared} {h1 h2 B : Heap}
theorem ZjW (hx : X.ex = []) (I : Inv X pins σ H s) (u : Un (frs X.stack) [] H H' s.heap h1) (hok : HOk X.prog X.w H' h1) (t1 : ∀ b q, H' b = some q → ∃ o, B.get? b = some o) (t2 : ∀ b o, s.heap.get? b = some o → b ∉ frs X.stack → ∃ o', B.get? b = some o')
    (st1 : B.StaysIn h1) (st2 : B.StaysIn h2) (up : h1.UpToSlots h2) : Un X.fs [] X.H₀ H' X.s₀.heap h2 ∧ HOk X.prog X.w H' h2 ∧ ∀ b o, X.s₀.heap.get? b = some o → b ∉ X.fs → ∃ o', B.get? b = some o' := by
  have kB : ∀ b ob o, B.get? b = some ob → h1.get? b = some o → h2.get? b = some o := fun b ob o e x => by
    have z := st1 b ob e
    rw [x] at z
    cases z
    exact st2 b _ e
  have nx : ∀ b, b ∉ X.ex := fun b => by rw [hx]; simp
  have nL : ∀ b o, X.s₀.heap.get? b = some o → b ∉ X.fs → b ∉ frs X.stack := fun b o e n z => by
    rcases List.mem_cons.mp (I.stkSub b z) with q | q
    · exact absurd (Heap.lt_size e) (by rw [q]; exact Nat.not_lt_of_le I.ok.above)
    · exact n q
  have th : ∀ b o, X.s₀.heap.get? b = some o → b ∉ X.fs → ∃ o', B.get? b = some o' := fun b o e n => by
    obtain ⟨o', e'⟩ := I.base.there b o e (nx b)
    exact t2 b o' e' (nL b o e n)
  have sl : ∀ b o, X.s₀.heap.get? b = some o → X.H₀ b = none → b ∈ X.fs → ∃ sl, h2.get? b = some { o with slots := sl } := fun b o e n hb => by
    obtain ⟨s1, e1⟩ := I.base.slot b o e n hb (nx b)
    obtain ⟨s2, e2⟩ := u.any e1 (I.base.free b o e n (nx b)) (by simp)
    obtain ⟨_, o', g1, g2⟩ := I.ok.funs.mem hb
    rw [e] at g1
    cases g1
    obtain ⟨s3, e3⟩ := up b _ e2 g2
    exact ⟨s3, e3⟩
  refine ⟨⟨fun b o e n hb _ => ?_, fun b o e n hb _ => sl b o e n hb, fun b o e n _ => ?_, fun b o e _ => ?_, fun b xs e => u.tups b xs (I.base.tups b xs e), fun b o xs e => u.frzs b o xs (I.base.frzs b o xs e), fun b ps e => ?_⟩, fun a o e => ?_, th⟩
  · obtain ⟨ob, g⟩ := th b o e hb
    exact kB b ob o g (u.keep b o (I.base.keep b o e n hb (nx b)) (I.base.free b o e n (nx b)) (nL b o e hb) (by simp))
  · obtain ⟨o', e'⟩ := I.base.there b o e (nx b)
    exact u.free b o' e' (I.base.free b o e n (nx b)) (by simp)
  · by_cases hb : b ∈ X.fs
    · obtain ⟨s1, e1⟩ := sl b o e (I.ok.frf b hb) hb
      exact ⟨_, e1⟩
    · obtain ⟨ob, g⟩ := th b o e hb
      exact ⟨ob, st2 b ob g⟩
  · obtain ⟨m1, e1⟩ := I.base.tbls b ps e
    obtain ⟨m2, e2⟩ := u.tbls b _ e1
    exact ⟨m1 ++ m2, by rw [e2, Array.append_assoc]⟩
  · refine (hok a o e).stay (fun b q hb x => ?_) (fun _ q => q) fun _ _ q => q
    have tr : ∃ q, H' b = some q := by
      rcases hb with z | z
      · exact ⟨o, z ▸ e⟩
      · exact ⟨_, z⟩
    obtain ⟨q', z⟩ := tr
    obtain ⟨ob, g⟩ := t1 b q' z
    exact kB b ob q g x
end
theorem Zje {P : Program} {w : World} {H : Hp} {h : Heap} {a : Addr} {o : HO} (x : ZcI P w H h a o) : ∃ ob, h.get? a = some ob := by
  cases o with
  | lst xs => obtain ⟨_, _, _, _, e⟩ := x; exact ⟨_, e⟩
  | tup xs => obtain ⟨_, _, _, ob, e, _⟩ := x; exact ⟨_, e⟩
  | dK kvs => obtain ⟨_, _, _, _, o, _, _, e, _⟩ := x; exact ⟨_, e⟩
  | dT kvs => obtain ⟨_, _, _, _, o, _, _, e, _⟩ := x; exact ⟨_, e⟩
  | set S n => obtain ⟨o, _, _, _, e, _⟩ := x; exact ⟨_, e⟩
  | ins C dx fs => obtain ⟨_, _, _, e, _⟩ := x; exact ⟨_, e⟩
  | own y => exact x
  | xd fs => obtain ⟨_, ⟨_, _, _, e, _⟩, _⟩ := x; exact ⟨_, e⟩
  | rng lo hi => obtain ⟨_, _, _, e⟩ := x; exact ⟨_, e⟩
  | frz ob u => obtain ⟨e, _⟩ := x; exact ⟨_, e⟩
  | tbl ps => exact ⟨_, (show h.get? a = some _ from x)⟩
  | met f y => exact ⟨_, (show h.get? a = some _ from x)⟩
  | ext φ => obtain ⟨_, e, _⟩ := x; exact e
noncomputable def ZiT (h : Heap) (l : List Addr) : Heap := ZiQ h fun b => if b ∈ l then some (.own 0) else none
theorem Zgj {h : Heap} {l : List Addr} {b : Addr} {o : Obj} (e : h.get? b = some o) (n : b ∉ l) : (ZiT h l).get? b = some o := Zf9 e (if_neg n)
theorem ZfI {h : Heap} {l : List Addr} {b : Addr} {o : Obj} (e : (ZiT h l).get? b = some o) : h.get? b = some o ∧ b ∉ l := by
  obtain ⟨a, n⟩ := Zhn e
  refine ⟨a, fun z => ?_⟩
  simp only [if_pos z] at n
  cases n
theorem ZhS {h : Heap} {l : List Addr} {b : Addr} (n : b ∈ l) : (ZiT h l).get? b = none := by
  cases q : (ZiT h l).get? b with
  | none => rfl
  | some o => exact absurd n (ZfI q).2
theorem ZmI {P : Program} {w : World} {K : PySem.W.Frag} {mg : Str → Option Value} {base : Heap} {N : List Str} {qual : Str} {scope : Scope} {f : Addr} {cd : Value} {A : Around} {outer : List Env} {s : Shared} {H : Hp} {E : XK} :
    Thr (ZeV (CXE P w) P w K mg base N qual scope f cd A outer s H E) E := by
  refine ⟨PassesOwn.leaving, fun pins σ H1 s1 e s2 I h => ?_, fun pins σ H1 s1 h' e oe vs C I k hn he hc hdi hd v1 v2 q => ?_⟩
  · obtain ⟨ea, C, dct, B, H2, rfl, os, bare, un, hok, fl, t1, t2, q⟩ := h
    refine DQ.ZhF (outer := outer) I.ok.frames rfl fl fun h3 f3 up => ?_
    obtain ⟨a1, a2, a3⟩ := ZjW rfl I un hok t1 t2 fl.stay f3.stay up
    exact ⟨ea, C, dct, B, H2, rfl, os.trans I.os, bare, a1, a2, f3, t1, a3, q⟩
  · have st := I.stack
    have t2 : ∀ b o, s1.heap.get? b = some o → b ∉ frs (ZeV (CXE P w) P w K mg base N qual scope f cd A outer s H E).stack → ∃ o', (ZiT s1.heap (frs (ZeV (CXE P w) P w K mg base N qual scope f cd A outer s H E).stack)).get? b = some o' := fun b o x n => ⟨o, Zgj x n⟩
    have hs : (ZiT s1.heap (frs (ZeV (CXE P w) P w K mg base N qual scope f cd A outer s H E).stack)).StaysIn h' := fun b o x => k b o (ZfI x).1
    have hl : h'.FunFrames (ZiT s1.heap (frs (ZeV (CXE P w) P w K mg base N qual scope f cd A outer s H E).stack)) (ZeV (CXE P w) P w K mg base N qual scope f cd A outer s H E).stack :=
      (Ze3 st fun b hb => ZhS hb).of_keeps fun b o x _ => ⟨o, k b o x, rfl⟩
    have hb : (ZiT s1.heap (frs (ZeV (CXE P w) P w K mg base N qual scope f cd A outer s H E).stack)).get? e = none := by
      cases z : (ZiT s1.heap (frs (ZeV (CXE P w) P w K mg base N qual scope f cd A outer s H E).stack)).get? e with
      | none => rfl
      | some o =>
        have := (ZfI z).1
        rw [hn] at this
        cases this
    have t1 : ∀ b u, H1 b = some u → ∃ o, (ZiT s1.heap (frs (ZeV (CXE P w) P w K mg base N qual scope f cd A outer s H E).stack)).get? b = some o := fun b u x => by
      obtain ⟨o, g⟩ := Zje (I.hok b u x)
      exact ⟨o, Zgj g fun z => by rw [I.stkFree b z] at x; cases x⟩
    refine DQ.ZhG (s := { s1 with heap := h' }) (outer := outer) I.ok.frames rfl hl he hs hb hd v1 v2 fun h3 f3 up => ?_
    obtain ⟨a1, a2, a3⟩ := ZjW rfl I (Un.kept k) (I.hok.kept k) t1 t2 hs f3.stay up
    rw [hc, hdi] at f3
    exact ⟨e, C, none, _, H1, rfl, I.os, I.bare, a1, a2, f3, t1, a3, q⟩
end DL
end
section
set_option Elab.async false
set_option linter.all false
set_option maxRecDepth 100000
set_option maxHeartbeats 4000000
namespace DL
open PySem PySem.Spec PyProof.Rows L2
noncomputable def FP (K : PySem.W.Frag) (H : Hp) (α : List Addr) (ξ : XK) (Dn : Ends) : Fl → Prop
  | .nx ρ' M' => ∀ σ' H' α', Ext K H H' α α' → HR K H' α' M' → SR K H' α' σ' ρ' → Dn.nx σ' H'
  | .brk ρ' M' => ∀ σ' H' α', Ext K H H' α α' → HR K H' α' M' → SR K H' α' σ' ρ' → Dn.bk σ' H'
  | .cnt ρ' M' => ∀ σ' H' α', Ext K H H' α α' → HR K H' α' M' → SR K H' α' σ' ρ' → Dn.ct σ' H'
  | .ret d M' => ∀ v H' α', Ext K H H' α α' → HR K H' α' M' → Rep K H' α' v d → Dn.rt v H'
  | .exc c M' => ∀ C H' α', PySem.W.nsIn K mainGlobals c = some (some (.ref C)) → Ext K H H' α α' → HR K H' α' M' → ξ (.ref C) none H'
  | .bad => False
theorem FP.ext {K : PySem.W.Frag} {H H1 : Hp} {α α1 : List Addr} {ξ : XK} {Dn : Ends} {o : Fl} (h : FP K H α ξ Dn o) (e : Ext K H H1 α α1) : FP K H1 α1 ξ Dn o := by
  cases o with
  | nx ρ M => exact fun σ' H' α' e' => h σ' H' α' (e.trans e')
  | brk ρ M => exact fun σ' H' α' e' => h σ' H' α' (e.trans e')
  | cnt ρ M => exact fun σ' H' α' e' => h σ' H' α' (e.trans e')
  | ret d M => exact fun v H' α' e' => h v H' α' (e.trans e')
  | exc c M => exact fun C H' α' n e' => h C H' α' n (e.trans e')
  | bad => exact h
noncomputable def DS (X : Cx) (ξ : XK) (st : Stmt) (g : Sv) : Prop := ∃ t : TS, PS X st t ∧ ∀ σ ρ H α M Dn, SR X.K H α σ ρ → HR X.K H α M → FP X.K H α ξ Dn (g ρ M) → t Dn σ H
noncomputable def DSs (X : Cx) (ξ : XK) (st : List Stmt) (g : Sv) : Prop := ∃ t : TS, PSs X st t ∧ ∀ σ ρ H α M Dn, SR X.K H α σ ρ → HR X.K H α M → FP X.K H α ξ Dn (g ρ M) → t Dn σ H
noncomputable def Zal {β : Type} (o : Out β) (k : β → Sto → Fl) : Fl := match o with
  | .ok a M => k a M
  | .exc c M => .exc c M
  | .bad => .bad
theorem FP.seq {β γ : Type} {K : PySem.W.Frag} {R : Hp → List Addr → γ → β → Prop} {H : Hp} {α : List Addr} {ξ : XK} {Dn : Ends} {Q1 : γ → Hp → Prop} {o : Out β} {f : β → Sto → Fl}
    (h : FP K H α ξ Dn (Zal o f)) (k : ∀ d M' v H' α', Ext K H H' α α' → HR K H' α' M' → R H' α' v d → FP K H' α' ξ Dn (f d M') → Q1 v H') : OG K R H α ξ Q1 o := by
  cases o with
  | ok d M' => exact fun v H' α' e hr r => k d M' v H' α' e hr r (FP.ext (o := f d M') h e)
  | exc c M' => exact h
  | bad => exact h
noncomputable def Zn (g h : Sv) : Sv := fun ρ M => match g ρ M with
  | .nx ρ1 M1 => h ρ1 M1
  | o => o
noncomputable def sNil : Sv := fun ρ M => .nx ρ M
noncomputable def ZF (f : Ev) : Sv := fun ρ M => Zal (f ρ M) fun d M1 => .ret d M1
noncomputable def Ze4 : Sv := fun _ M => .ret .non M
noncomputable def Z3 (f : Ev) : Sv := fun ρ M => Zal (f ρ M) fun _ M1 => .nx ρ M1
noncomputable def sIf (c : Tv) (g h : Sv) : Sv := fun ρ M => Zal (c ρ M) fun k M1 => if k = true then g ρ M1 else h ρ M1
noncomputable def Zr6 : Sv := fun ρ M => .brk ρ M
noncomputable def Zr7 : Sv := fun ρ M => .cnt ρ M
noncomputable abbrev Tg := D → Ro → Option Ro
noncomputable abbrev Tgs := List D → Ro → Option Ro
noncomputable def gNm (i : Nat) : Tg := fun d ρ => some (ρ.set i (some d))
noncomputable def gNl : Tgs := fun ds ρ => match ds with | [] => some ρ | _ => none
noncomputable def gCs (g : Tg) (gs : Tgs) : Tgs := fun ds ρ => match ds with | d :: r => (match g d ρ with | some ρ1 => gs r ρ1 | none => none) | [] => none
noncomputable def gTp (gs : Tgs) : Tg := fun d ρ => match d with | .tup ds => gs ds ρ | _ => none
noncomputable def Zt (g : Tg) (f : Ev) : Sv := fun ρ M => Zal (f ρ M) fun d M1 => match g d ρ with | some ρ1 => .nx ρ1 M1 | none => .bad
noncomputable def Zb5 (i j : Nat) (fs : Av) : Sv := fun ρ M => Zal (fs ρ M) fun ds M1 => match ds with | [v, w] => .nx ((ρ.set i (some v)).set j (some w)) M1 | _ => .bad
noncomputable def ZeK (fo fi fe : Ev) : Sv := fun ρ M => Zal (fe ρ M) fun d M1 => Zal (fo ρ M1) fun o M2 => Zal (fi ρ M2) fun i M3 => match o, i with
  | .ref n, .int k => (match M3[n]? with
    | some (.lst xs) => (match ixN xs.length k with | some j => .nx ρ (M3.set n (.lst (xs.set j d))) | none => .bad)
    | _ => .bad)
  | _, _ => .bad
section
variable {X : Cx} {ξ : XK} {st : Stmt} {sts : List Stmt} {g h : Sv} {e : Expr} {f : Ev} {pos : Pos} {c : Expr} {fc : Tv}
theorem ZK : DSs X ξ [] sNil := ⟨_, Zkw, fun σ ρ H α M Dn s h q => q σ H α Ext.refl h s⟩
theorem Zh (h1 : DS X ξ st g) (h2 : DSs X ξ sts h) : DSs X ξ (st :: sts) (Zn g h) := by
  obtain ⟨t1, p1, q1⟩ := h1
  obtain ⟨t2, p2, q2⟩ := h2
  refine ⟨_, ZiV p1 p2, fun σ ρ H α M Dn s hh q => q1 σ ρ H α M { Dn with nx := t2 Dn } s hh ?_⟩
  unfold Zn at q
  cases e : g ρ M with
  | nx ρ1 M1 => rw [e] at q; exact fun σ' H' α' ex hr sr => q2 σ' ρ1 H' α' M1 Dn sr hr (FP.ext q ex)
  | brk ρ1 M1 => rw [e] at q; exact q
  | cnt ρ1 M1 => rw [e] at q; exact q
  | ret d M1 => rw [e] at q; exact q
  | exc c M1 => rw [e] at q; exact q
  | bad => rw [e] at q; exact q
theorem Zk (h1 : DS X ξ st g) : DSs X ξ [st] g := let ⟨_, p, q⟩ := h1; ⟨_, Zkx p, q⟩
theorem Zv (he : DE X ξ e f) : DS X ξ (.Return (some e) pos) (ZF f) := by
  obtain ⟨t, p, q⟩ := he
  exact ⟨_, Zmd p, fun σ ρ H α M Dn s hh w => q σ ρ H α M _ s hh (FP.seq w fun d M1 v H1 α1 e1 h1 r1 w1 => w1 v H1 α1 Ext.refl h1 r1)⟩
theorem Za5 (he : DE X ξ e f) (hs : swapsWith e none pos.line X.env = pure false := by rfl) : DS X ξ (.Expr e pos) (Z3 f) := by
  obtain ⟨t, p, q⟩ := he
  exact ⟨_, Zky p hs, fun σ ρ H α M Dn s hh w => q σ ρ H α M _ s hh (FP.seq w fun d M1 v H1 α1 e1 h1 r1 w1 => w1 σ H1 α1 Ext.refl h1 (s.mono e1))⟩
theorem Za6 {a b : List Stmt} (hc : DT X ξ c fc) (ha : DSs X ξ a g) (hb : DSs X ξ b h) : DS X ξ (.If c a b pos) (sIf fc g h) := by
  obtain ⟨tc, pc, qc⟩ := hc
  obtain ⟨ta, pa, qa⟩ := ha
  obtain ⟨tb, pb, qb⟩ := hb
  refine ⟨_, ZoY pc pa pb, fun σ ρ H α M Dn s hh w => qc σ ρ H α M _ s hh (FP.seq w fun k M1 v H1 α1 e1 h1 r1 w1 => ?_)⟩
  cases r1
  cases k with
  | true => exact ZkT (qa σ ρ H1 α1 M1 Dn (s.mono e1) h1 w1)
  | false => exact ZkS (qb σ ρ H1 α1 M1 Dn (s.mono e1) h1 w1)
noncomputable def DG (X : Cx) (tg : Expr) (g : Tg) : Prop := ∃ t : TG, PG X tg t ∧ ∀ v d σ ρ H α ρ' Q, SR X.K H α σ ρ → Rep X.K H α v d → g d ρ = some ρ' → (∀ σ', SR X.K H α σ' ρ' → Q σ' H) → t v σ H Q
noncomputable def DGs (X : Cx) (tgs : List Expr) (g : Tgs) : Prop := ∃ t : TGs, PGs X tgs t ∧ ∀ vs ds σ ρ H α ρ' Q, SR X.K H α σ ρ → Reps X.K H α vs ds → g ds ρ = some ρ' → (∀ σ', SR X.K H α σ' ρ' → Q σ' H) → t vs σ H Q
theorem ZA (i : Nat) {x : Str} (hN : X.N.Nodup) (hi : X.N[i]? = some x := by rfl) (hx : Loc X.env.scope x := by first | exact Or.inl rfl | exact Or.inr rfl) (hf : X.fn x = true ∨ X.env.scope.names.lookup x = some .local := by first | exact .inl rfl | exact .inr rfl | assumption) : DG X (.Name x pos) (gNm i) := by
  refine ⟨_, Zkz hN hi hx hf, fun v d σ ρ H α ρ' Q s r e k => ?_⟩
  cases e
  exact k _ (s.set i r)
theorem ZbV : DGs X [] gNl := by
  refine ⟨_, ZkA, fun vs ds σ ρ H α ρ' Q s r e k => ?_⟩
  cases r with
  | nil => cases e; exact ⟨rfl, k _ s⟩
  | cons _ _ => cases e
theorem ZP {es : List Expr} {g : Tg} {gs : Tgs} (h1 : DG X e g) (h2 : DGs X es gs) (hs : (assignEach (e :: es) X.env).map (·.2) = assign e X.env :: (assignEach es X.env).map (·.2) := by rfl) : DGs X (e :: es) (gCs g gs) := by
  obtain ⟨t1, p1, q1⟩ := h1
  obtain ⟨t2, p2, q2⟩ := h2
  refine ⟨_, ZiW p1 p2 hs, fun vs ds σ ρ H α ρ' Q s r e k => ?_⟩
  cases r with
  | nil => cases e
  | cons r rr =>
    rename_i v d vs ds
    cases e1 : g d ρ with
    | none => simp only [gCs, e1] at e; cases e
    | some ρ1 =>
      simp only [gCs, e1] at e
      exact ⟨v, vs, rfl, q1 v d σ ρ H α ρ1 _ s r e1 fun σ' s' => q2 vs ds σ' ρ1 H α ρ' Q s' rr e k⟩
theorem ZcN {es : List Expr} {k : Nat} {gs : Tgs} {n : Nat} (hc : X.calm = true) (h : DGs X es gs) (hn : (assignEach es X.env).length = n := by rfl) (hlen : ∀ ds ρ ρ', gs ds ρ = some ρ' → ds.length = n) (hst : (assignEach es X.env).findIdx? (·.1) = none := by rfl) : DG X (.Tuple es k pos) (gTp gs) := by
  obtain ⟨t, p, q⟩ := h
  refine ⟨_, Zmf hc p hn hst, fun v d σ ρ H α ρ' Q s r e k => ?_⟩
  cases r with
  | @tup a xs ds hp rp =>
    have e' : gs ds ρ = some ρ' := e
    exact ⟨a, xs, rfl, hp, by rw [rp.length]; exact hlen ds ρ ρ' e', q xs ds σ ρ H α ρ' Q s rp e' k⟩
  | _ => cases e
theorem ZbW {ds : List D} {ρ ρ' : Ro} (h : gNl ds ρ = some ρ') : ds.length = 0 := by cases ds with | nil => rfl | cons _ _ => cases h
theorem Z4 {g : Tg} {gs : Tgs} {n : Nat} (h : ∀ ds ρ ρ', gs ds ρ = some ρ' → ds.length = n) (ds : List D) (ρ ρ' : Ro) (e : gCs g gs ds ρ = some ρ') : ds.length = n + 1 := by
  cases ds with
  | nil => cases e
  | cons d r =>
    cases e1 : g d ρ with
    | none => simp only [gCs, e1] at e; cases e
    | some ρ1 => simp only [gCs, e1] at e; rw [List.length_cons, h r ρ1 ρ' e]
theorem Zp (i : Nat) {x : Str} {pos' : Pos} (hN : X.N.Nodup) (he : DE X ξ e f) (hi : X.N[i]? = some x := by rfl) (hx : Loc X.env.scope x := by first | exact Or.inl rfl | exact Or.inr rfl) (hs : swapsWith e (some (.Name x pos')) pos.line X.env = pure false := by rfl) (hf : X.fn x = true ∨ X.env.scope.names.lookup x = some .local := by first | exact .inl rfl | exact .inr rfl | assumption) :
    DS X ξ (.Assign [.Name x pos'] e pos) (Zt (gNm i) f) := by
  obtain ⟨t, p, q⟩ := he
  exact ⟨_, Zmh hN hi hx p hs hf, fun σ ρ H α M Dn s hh w => q σ ρ H α M _ s hh (FP.seq w fun d M1 v H1 α1 e1 h1 r1 w1 => w1 _ H1 α1 Ext.refl h1 ((s.mono e1).set i r1))⟩
theorem Zgk {tg : Expr} {gt : Tg} (he : DE X ξ e f) (hg : DG X tg gt) (hs : swapsWithSole [tg] e pos.line X.env = pure false := by rfl) (hw : swappedStores [tg] e X.env = pure none := by rfl)
    (h1 : (assignEach [tg] X.env).map (·.2) = [assign tg X.env] := by rfl) : DS X ξ (.Assign [tg] e pos) (Zt gt f) := by
  obtain ⟨t, p, q⟩ := he
  obtain ⟨tt, pt, qt⟩ := hg
  refine ⟨_, ZjN p pt hs hw h1, fun σ ρ H α M Dn s hh w => q σ ρ H α M _ s hh (FP.seq w fun d M1 v H1 α1 e1 h1 r1 w1 => ?_)⟩
  cases eg : gt d ρ with
  | none => simp only [eg] at w1; exact w1.elim
  | some ρ1 =>
    simp only [eg] at w1
    exact qt v d σ ρ H1 α1 ρ1 _ (s.mono e1) r1 eg fun σ' s' => w1 σ' H1 α1 Ext.refl h1 s'
theorem Zca (i j : Nat) {x y : Str} {a b : Expr} {fs : Av} {px py pt : Pos} {kt k2 pt2} (hc : X.calm = true) (hN : X.N.Nodup) (ha : DA X ξ [a, b] fs) (hi : X.N[i]? = some x := by rfl) (hj : X.N[j]? = some y := by rfl) (hij : i ≠ j := by decide)
    (hx : X.env.scope.names.lookup x = some .local := by rfl) (hy : X.env.scope.names.lookup y = some .local := by rfl)
    (hw : swappedStores [.Tuple [.Name x px, .Name y py] kt pt] (.Tuple [a, b] k2 pt2) X.env = pure (some [x, y]) := by rfl)
    (hs : swapsWithSole [.Tuple [.Name x px, .Name y py] kt pt] (.Tuple [a, b] k2 pt2) pos.line X.env = pure false := by rfl) :
    DS X ξ (.Assign [.Tuple [.Name x px, .Name y py] kt pt] (.Tuple [a, b] k2 pt2) pos) (Zb5 i j fs) := by
  obtain ⟨t, p, q⟩ := ha
  refine ⟨_, Zmi hc hN hi hj hij hx hy p hw hs, fun σ ρ H α M Dn s hh w => q σ ρ H α M _ s hh (FP.seq w fun ds M1 vs H1 α1 e1 h1 r1 w1 => ?_)⟩
  match r1 with
  | .nil => exact w1.elim
  | .cons _ .nil => exact w1.elim
  | .cons _ (.cons _ (.cons _ _)) => exact w1.elim
  | .cons r (.cons r' .nil) => exact ⟨_, _, rfl, w1 _ H1 α1 Ext.refl h1 (((s.mono e1).set i r).set j r')⟩
theorem ZhT {o i : Expr} {fo fi : Ev} {pos' : Pos} (ho : DE X ξ o fo) (hi : DE X ξ i fi) (he : DE X ξ e f)
    (ha : ∀ v, assign (.Subscript o i pos') X.env v = (do
      let ov ← holding [v] (eval o X.env)
      let iv ← holding [v, ov] (eval i X.env)
      standAt pos'
      holding [v, ov, iv] (setItem ov iv v)
      release [v, ov, iv] []) := by intro _; rfl) (hs : swapsWithSole [.Subscript o i pos'] e pos.line X.env = pure false := by rfl) (hw : swappedStores [.Subscript o i pos'] e X.env = pure none := by rfl)
    (h1 : (assignEach [.Subscript o i pos'] X.env).map (·.2) = [assign (.Subscript o i pos') X.env] := by rfl) : DS X ξ (.Assign [.Subscript o i pos'] e pos) (ZeK fo fi f) := by
  obtain ⟨t, p, q⟩ := he
  obtain ⟨to, po, qo⟩ := ho
  obtain ⟨ti, pi, qi⟩ := hi
  refine ⟨_, ZjN p (Zmg po pi Zi2 ha) hs hw h1, fun σ ρ H α M Dn s hh w => q σ ρ H α M _ s hh (FP.seq w fun d M1 v H1 α1 e1 h1 r1 w1 => ?_)⟩
  refine qo σ ρ H1 α1 M1 _ (s.mono e1) h1 (FP.seq w1 fun od M2 ov H2 α2 e2 h2 r2 w2 => ?_)
  refine qi σ ρ H2 α2 M2 _ ((s.mono e1).mono e2) h2 (FP.seq w2 fun kd M3 kv H3 α3 e3 h3 r3 w3 => ?_)
  cases Rep.mono e3 r2 with
  | @ref p n hp =>
    cases r3 with
    | int k =>
      cases em : M3[n]? with
      | none => simp only [em] at w3; exact w3.elim
      | some so =>
        cases so with
        | lst ds =>
          cases ej : ixN ds.length k with
          | none => simp only [em, ej] at w3; exact w3.elim
          | some j =>
            simp only [em, ej] at w3
            obtain ⟨xs, g1, g2⟩ := h3.at hp em
            refine ⟨p, xs, k, j, rfl, rfl, g1, by rw [g2.length]; exact ej, ?_⟩
            exact w3 σ _ α3 (Ext.wr g1) (h3.wr hp g1 (Reps.set (Rep.mono e3 (Rep.mono e2 r1)) j g2)) ((((s.mono e1).mono e2).mono e3).mono (Ext.wr g1))
    | _ => exact w3.elim
  | _ => exact w3.elim
noncomputable def whN (c : Tv) (g : Sv) : Nat → Ro → Sto → Option Fl
  | 0, _, _ => none
  | n + 1, ρ, M => match c ρ M with
    | .ok true M1 => (match g ρ M1 with
      | .nx ρ2 M2 => whN c g n ρ2 M2
      | .cnt ρ2 M2 => whN c g n ρ2 M2
      | .brk ρ2 M2 => some (.nx ρ2 M2)
      | o => some o)
    | .ok false M1 => some (.nx ρ M1)
    | .exc e M1 => some (.exc e M1)
    | .bad => some .bad
theorem Zdy {c : Tv} {g : Sv} : ∀ {n : Nat} {ρ : Ro} {M : Sto} {o : Fl}, whN c g n ρ M = some o → ∀ k, whN c g (n + k) ρ M = some o
  | 0, _, _, _, e, _ => by simp only [whN] at e; cases e
  | n + 1, ρ, M, o, e, k => by
    have ek : n + 1 + k = (n + k) + 1 := by omega
    rw [ek]
    unfold whN at e ⊢
    cases ec : c ρ M with
    | bad => rw [ec] at e; exact e
    | exc x M1 => rw [ec] at e; exact e
    | ok b M1 =>
      rw [ec] at e
      cases b with
      | false => exact e
      | true =>
        cases eg : g ρ M1 with
        | nx ρ2 M2 => simp only [eg] at e ⊢; exact Zdy e k
        | cnt ρ2 M2 => simp only [eg] at e ⊢; exact Zdy e k
        | brk ρ2 M2 => simp only [eg] at e ⊢; exact e
        | ret d M2 => simp only [eg] at e ⊢; exact e
        | exc x M2 => simp only [eg] at e ⊢; exact e
        | bad => simp only [eg] at e ⊢; exact e
open Classical in
noncomputable def sWh (c : Tv) (g : Sv) : Sv := fun ρ M => if h : ∃ o n, whN c g n ρ M = some o then Classical.choose h else .bad
theorem Zdo {c : Tv} {g : Sv} {n : Nat} {ρ : Ro} {M : Sto} {o : Fl} (e : whN c g n ρ M = some o) : sWh c g ρ M = o := by
  have hx : ∃ o n, whN c g n ρ M = some o := ⟨o, n, e⟩
  unfold sWh
  rw [dif_pos hx]
  obtain ⟨m, em⟩ := Classical.choose_spec hx
  have h1 := Zdy em n
  have h2 := Zdy e m
  rw [Nat.add_comm] at h2
  rw [h1] at h2
  exact Option.some.inj h2
theorem ZhU {c : Tv} {g : Sv} {ρ : Ro} {M : Sto} (e : sWh c g ρ M ≠ .bad) : ∃ n, whN c g n ρ M = some (sWh c g ρ M) := by
  by_cases hx : ∃ o n, whN c g n ρ M = some o
  · obtain ⟨o, n, h⟩ := hx
    exact ⟨n, by rw [Zdo h]; exact h⟩
  · unfold sWh at e
    rw [dif_neg hx] at e
    exact absurd rfl e
theorem Ze5 {c : Tv} {g : Sv} {ρ : Ro} {M M1 : Sto} (h : c ρ M = .ok false M1) : sWh c g ρ M = .nx ρ M1 := Zdo (n := 1) (by simp only [whN, h])
theorem Zgl {c : Tv} {g : Sv} {ρ ρ2 : Ro} {M M1 M2 : Sto} (h : c ρ M = .ok true M1) (h2 : g ρ M1 = .nx ρ2 M2) (hb : sWh c g ρ2 M2 ≠ .bad) : sWh c g ρ M = sWh c g ρ2 M2 := by
  obtain ⟨n, e⟩ := ZhU hb
  exact Zdo (n := n + 1) (by simp only [whN, h, h2]; exact e)
theorem ZcO {body : List Stmt} (hp : PassesOwn (model X.prog X.w) X.A X.env X.xe) (hc : DT X ξ c fc) (hb : DSs X ξ body g) : DS X ξ (.While c body [] pos) (sWh fc g) := by
  obtain ⟨tc, pc, qc⟩ := hc
  obtain ⟨tb, pb, qb⟩ := hb
  refine ⟨_, ZiX hp pc pb, fun σ ρ H α M Dn s hh w => ?_⟩
  have nb : sWh fc g ρ M ≠ .bad := fun z => by rw [z] at w; exact w
  obtain ⟨n, en⟩ := ZhU nb
  generalize sWh fc g ρ M = o at w en
  refine ⟨fun m σ' H' => ∃ ρ' α' M', Ext X.K H H' α α' ∧ SR X.K H' α' σ' ρ' ∧ HR X.K H' α' M' ∧ whN fc g m ρ' M' = some o, ⟨n, ρ, α, M, Ext.refl, s, hh, en⟩, ?_⟩
  rintro m σ1 H1 ⟨ρ1, α1, M1, e1, s1, h1, en1⟩
  cases m with
  | zero => simp only [whN] at en1; cases en1
  | succ m =>
    refine qc σ1 ρ1 H1 α1 M1 _ s1 h1 ?_
    unfold whN at en1
    cases ec : fc ρ1 M1 with
    | bad => rw [ec] at en1; cases en1; exact w.elim
    | exc x M2 =>
      rw [ec] at en1; cases en1
      exact fun C H' α' nn ex hr => w C H' α' nn (e1.trans ex) hr
    | ok b M2 =>
      rw [ec] at en1
      intro v H2 α2 e2 h2 ev
      cases ev
      cases b with
      | false =>
        cases en1
        exact ZkS (w σ1 H2 α2 (e1.trans e2) h2 (s1.mono e2))
      | true =>
        refine ZkT ⟨fun σ' H' => ∃ ρ' α' M', Ext X.K H H' α α' ∧ SR X.K H' α' σ' ρ' ∧ HR X.K H' α' M' ∧ whN fc g m ρ' M' = some o, fun σ' H' z => ⟨m, Nat.lt_succ_self m, z⟩, ?_⟩
        refine qb σ1 ρ1 H2 α2 M2 _ (s1.mono e2) h2 ?_
        have e12 := e1.trans e2
        cases eg : g ρ1 M2 with
        | nx ρ2 M3 => simp only [eg] at en1; exact fun σ' H' α' ex hr sr => ⟨ρ2, α', M3, e12.trans ex, sr, hr, en1⟩
        | cnt ρ2 M3 => simp only [eg] at en1; exact fun σ' H' α' ex hr sr => ⟨ρ2, α', M3, e12.trans ex, sr, hr, en1⟩
        | brk ρ2 M3 => simp only [eg] at en1; cases en1; exact fun σ' H' α' ex hr sr => w σ' H' α' (e12.trans ex) hr sr
        | ret d M3 => simp only [eg] at en1; cases en1; exact fun v H' α' ex hr sr => w v H' α' (e12.trans ex) hr sr
        | exc x M3 => simp only [eg] at en1; cases en1; exact fun C H' α' nn ex hr => w C H' α' nn (e12.trans ex) hr
        | bad => simp only [eg] at en1; cases en1; exact w.elim
noncomputable def Zcs (tg : Tg) (g : Sv) : List D → Ro → Sto → Fl
  | [], ρ, M => .nx ρ M
  | d :: r, ρ, M => match tg d ρ with
    | none => .bad
    | some ρ1 => (match g ρ1 M with
      | .nx ρ2 M2 => Zcs tg g r ρ2 M2
      | .cnt ρ2 M2 => Zcs tg g r ρ2 M2
      | .brk ρ2 M2 => .nx ρ2 M2
      | o => o)
noncomputable def ZhV (tg : Tg) (g : Sv) (n : Nat) : Nat → Nat → Ro → Sto → Fl
  | f, i, ρ, M => match M[n]? with
    | some (.lst xs) => (match xs[i]? with
      | none => .nx ρ M
      | some d => (match f with
        | 0 => .bad
        | f + 1 => (match tg d ρ with
          | none => .bad
          | some ρ1 => (match g ρ1 M with
            | .nx ρ2 M2 => ZhV tg g n f (i + 1) ρ2 M2
            | .cnt ρ2 M2 => ZhV tg g n f (i + 1) ρ2 M2
            | .brk ρ2 M2 => .nx ρ2 M2
            | o => o))))
    | none => .bad
noncomputable def Zb7 (lo : Int) (n : Nat) : List D := (List.range n).map fun (i : Nat) => D.int (lo + i)
noncomputable def ZjX (tg : Tg) (g : Sv) (d : D) (ρ : Ro) (M : Sto) : Fl := match d with
  | .tup xs => Zcs tg g xs ρ M
  | .rol xs => Zcs tg g xs ρ M
  | .ref n => (match M[n]? with | some (.lst xs) => ZhV tg g n xs.length 0 ρ M | none => .bad)
  | _ => .bad
noncomputable def ZjY (tg : Tg) (f : Ev) (g : Sv) : Sv := fun ρ M => Zal (f ρ M) fun d M1 => ZjX tg g d ρ M1
noncomputable def Zax (tg : Tg) (fs : Av) (g : Sv) : Sv := fun ρ M => Zal (fs ρ M) fun ds M1 => match ds with
  | [.int j] => if -(2 ^ 62) ≤ j ∧ j < 2 ^ 62 then Zcs tg g (Zb7 0 j.toNat) ρ M1 else .bad
  | _ => .bad
noncomputable def ZhW (tg : Tg) (fs : Av) (g : Sv) : Sv := fun ρ M => Zal (fs ρ M) fun ds M1 => match ds with
  | [.int i, .int j] => if -(2 ^ 62) ≤ i ∧ i < 2 ^ 62 ∧ -(2 ^ 62) ≤ j ∧ j < 2 ^ 62 then Zcs tg g (Zb7 i (j - i).toNat) ρ M1 else .bad
  | _ => .bad
theorem Zgm {lo : Int} {n i : Nat} (h : i < n) : (Zb7 lo n)[i]? = some (.int (lo + i)) := by
  unfold Zb7
  rw [List.getElem?_map, List.getElem?_range h]
  rfl
theorem Zeh {lo : Int} {n : Nat} : (Zb7 lo n).length = n := by unfold Zb7; rw [List.length_map, List.length_range]
theorem ZhX {lo : Int} {n i : Nat} (h : i < n) : (Zb7 lo n).drop i = .int (lo + i) :: (Zb7 lo n).drop (i + 1) := by
  have hl : i < (Zb7 lo n).length := by rw [Zeh]; exact h
  have e := Zgm (lo := lo) h
  rw [List.getElem?_eq_getElem hl] at e
  rw [List.drop_eq_getElem_cons hl, Option.some.inj e]
theorem Zjf {tg : Expr} {gt : Tg} {tt : TG} {tb : TS} {Dn : Ends} {H H1 : Hp} {α α1 : List Addr} {o : Fl} {k : Ro → Sto → Fl} (w : FP X.K H α ξ Dn o)
    (qt : ∀ v d σ ρ H α ρ' Q, SR X.K H α σ ρ → Rep X.K H α v d → gt d ρ = some ρ' → (∀ σ', SR X.K H α σ' ρ' → Q σ' H) → tt v σ H Q) (qb : ∀ σ ρ H α M Dn, SR X.K H α σ ρ → HR X.K H α M → FP X.K H α ξ Dn (g ρ M) → tb Dn σ H)
    {v : V} {d : D} {σ1 : L2.St} {ρ1 : Ro} {M1 : Sto} (e1 : Ext X.K H H1 α α1) (s1 : SR X.K H1 α1 σ1 ρ1) (h1 : HR X.K H1 α1 M1) (r : Rep X.K H1 α1 v d)
    (en : (match gt d ρ1 with | none => Fl.bad | some ρ2 => (match g ρ2 M1 with | .nx ρ3 M3 => k ρ3 M3 | .cnt ρ3 M3 => k ρ3 M3 | .brk ρ3 M3 => .nx ρ3 M3 | o => o)) = o)
    {N : L2.St → Hp → Prop} (hN : ∀ σ' H', (∃ ρ' α' M', Ext X.K H H' α α' ∧ SR X.K H' α' σ' ρ' ∧ HR X.K H' α' M' ∧ k ρ' M' = o) → N σ' H') : tt v σ1 H1 fun σ2 H2 => tb { Dn with nx := N, ct := N, bk := Dn.nx } σ2 H2 := by
  cases eg : gt d ρ1 with
  | none => rw [eg] at en; cases en; exact w.elim
  | some ρ2 =>
    simp only [eg] at en
    refine qt v d σ1 ρ1 H1 α1 ρ2 _ s1 r eg fun σ2 s2 => qb σ2 ρ2 H1 α1 M1 _ s2 h1 ?_
    cases ex : g ρ2 M1 with
    | nx ρ3 M3 => simp only [ex] at en; exact fun σ' H' α' e2 hr sr => hN _ _ ⟨ρ3, α', M3, e1.trans e2, sr, hr, en⟩
    | cnt ρ3 M3 => simp only [ex] at en; exact fun σ' H' α' e2 hr sr => hN _ _ ⟨ρ3, α', M3, e1.trans e2, sr, hr, en⟩
    | brk ρ3 M3 => simp only [ex] at en; cases en; exact fun σ' H' α' e2 hr sr => w σ' H' α' (e1.trans e2) hr sr
    | ret d M3 => simp only [ex] at en; cases en; exact fun v H' α' e2 hr sr => w v H' α' (e1.trans e2) hr sr
    | exc x M3 => simp only [ex] at en; cases en; exact fun C H' α' nn e2 hr => w C H' α' nn (e1.trans e2) hr
    | bad => simp only [ex] at en; cases en; exact w.elim
theorem ZmJ {tg : Expr} {gt : Tg} {tt : TG} {tb : TS} {Dn : Ends} {H : Hp} {α : List Addr} {lo : Int} {n : Nat} {σ : L2.St} {ρ : Ro} {M : Sto}
    (qt : ∀ v d σ ρ H α ρ' Q, SR X.K H α σ ρ → Rep X.K H α v d → gt d ρ = some ρ' → (∀ σ', SR X.K H α σ' ρ' → Q σ' H) → tt v σ H Q) (qb : ∀ σ ρ H α M Dn, SR X.K H α σ ρ → HR X.K H α M → FP X.K H α ξ Dn (g ρ M) → tb Dn σ H)
    (s : SR X.K H α σ ρ) (hh : HR X.K H α M) (w : FP X.K H α ξ Dn (Zcs gt g (Zb7 lo n) ρ M)) :
    ∃ W : Nat → Nat → L2.St → Hp → Prop, (∃ m, W 0 m σ H) ∧ ∀ i m σ H, W i m σ H →
      ((Itr lo n).stop i H ∧ Dn.nx σ H) ∨ ((Itr lo n).go i H ∧ ∃ N : L2.St → Hp → Prop, (∀ σ' H', N σ' H' → ∃ m', m' < m ∧ W (i + 1) m' σ' H') ∧ ∀ x H', (Itr lo n).yld i H x H' → tt x σ H' fun σ2 H2 => tb { Dn with nx := N, ct := N, bk := Dn.nx } σ2 H2) := by
  generalize ho : Zcs gt g (Zb7 lo n) ρ M = o at w
  refine Zhs (fun i σ' H' => ∃ ρ' α' M', Ext X.K H H' α α' ∧ SR X.K H' α' σ' ρ' ∧ HR X.K H' α' M' ∧ Zcs gt g ((Zb7 lo n).drop i) ρ' M' = o) ⟨ρ, α, M, Ext.refl, s, hh, ho⟩ ?_ ?_
  · rintro i σ1 H1 hi ⟨ρ1, α1, M1, e1, s1, h1, en⟩
    rw [ZhX hi] at en
    exact Zjf (tg := tg) w qt qb e1 s1 h1 (.int (lo + i)) en (fun σ' H' z => z)
  · rintro σ1 H1 ⟨ρ1, α1, M1, e1, s1, h1, en⟩
    rw [List.drop_eq_nil_of_le (by rw [Zeh]; exact Nat.le_refl _)] at en
    cases en
    exact w σ1 H1 α1 e1 h1 s1
theorem ZbX {tg a : Expr} {gt : Tg} {fs : Av} {body : List Stmt} {p p2 : Pos} (hp : PassesOwn (model X.prog X.w) X.A X.env X.xe) (hm : X.mg "range" = none) (ha : DA X ξ [a] fs) (hg : DG X tg gt) (hb : DSs X ξ body g)
    (hgl : Gl X "range" := by rfl) (hs : starEach [a] X.env = [(false, eval a X.env)] := by rfl) (hf : ∀ x, foldedSetIterable (.Call (.Name "range" p) [a] [] p2) X.env x = pure x := by intro _; rfl) : DS X ξ (.For tg (.Call (.Name "range" p) [a] [] p2) body [] pos) (Zax gt fs g) := by
  obtain ⟨ta, pa, qa⟩ := ha
  obtain ⟨tt, pt, qt⟩ := hg
  obtain ⟨tb, pb, qb⟩ := hb
  refine ⟨_, Zhr hp (ZeO hgl hm pa hs) pt pb hf, fun σ ρ H α M Dn s hh w => qa σ ρ H α M _ s hh (FP.seq w fun ds M1 vs H1 α1 e1 h1 r1 w1 => ?_)⟩
  match r1 with
  | .nil => exact w1.elim
  | .cons r (.cons _ _) => cases r <;> exact w1.elim
  | .cons r .nil =>
    cases r with
    | int j =>
      by_cases c : -(2 ^ 62) ≤ j ∧ j < 2 ^ 62
      · simp only [if_pos c] at w1
        exact ⟨j, rfl, c.1, c.2, ZmJ (tg := tg) qt qb (s.mono e1) h1 w1⟩
      · simp only [if_neg c] at w1
        exact w1.elim
    | _ => exact w1.elim
noncomputable def Zr8 (K : PySem.W.Frag) (tl : TE) : TI := fun σ H R => tl σ H fun x H1 => ∃ a, x = .ref a ∧ (((∃ xs, SqL K H1 a xs) ∧ R (Itl K a) H1) ∨ ((∃ xs, SqT K H1 a xs) ∧ R (Itt K a) H1))
theorem ZjZ {tg l : Expr} {tl : TE} (hl : PE X l tl) : PI X tg l (Zr8 X.K tl) := by
  intro pins s σ H R I h
  refine thn (hl pins s σ H _ I h) fun v s1 ⟨x, H1, I1, r1, q1⟩ => ?_
  obtain ⟨a, e, q⟩ := q1
  subst e
  cases r1
  have fp : ∀ b ∈ [s1.heap.objs.size], ZfC X pins H1 b := fun b hb => by
    have e : b = s1.heap.objs.size := by simpa using hb
    subst e
    exact I1.fpOk (Nat.le_refl _) (I1.hok.fresh (Nat.le_refl _))
  rcases q with ⟨⟨xs, hq⟩, q⟩ | ⟨⟨xs, hq⟩, q⟩
  · obtain ⟨its, rv, p, hz⟩ := I1.list hq
    refine wpAny_pyIter_list p.isList ?_
    exact ⟨s1.heap.objs.size, [s1.heap.objs.size], _, _, H1, rfl, I1.kept (t' := s1.toks) fun b o e => Heap.get?_push_of_some _ e, Zhp a _, ⟨_, Heap.get?_push_size _ rfl, rfl, rfl⟩, fp, q⟩
  · obtain ⟨its, rv, p, hz⟩ := I1.tuple hq
    refine wpAny_pyIter_tuple (show s1.heap.IsTuple a its.toArray from p) ?_
    exact ⟨s1.heap.objs.size, [s1.heap.objs.size], _, _, H1, rfl, I1.kept (t' := s1.toks) fun b o e => Heap.get?_push_of_some _ e, ZgH a _, ⟨_, Heap.get?_push_size _ rfl, rfl, rfl⟩, fp, q⟩
theorem Zj0 {tg l : Expr} {gt : Tg} {f : Ev} {body : List Stmt} (hp : PassesOwn (model X.prog X.w) X.A X.env X.xe) (hl : DE X ξ l f) (hg : DG X tg gt) (hb : DSs X ξ body g)
    (hf : ∀ x, foldedSetIterable l X.env x = pure x := by intro _; rfl) : DS X ξ (.For tg l body [] pos) (ZjY gt f g) := by
  obtain ⟨ta, pa, qa⟩ := hl
  obtain ⟨tt, pt, qt⟩ := hg
  obtain ⟨tb, pb, qb⟩ := hb
  refine ⟨_, Zhr hp (ZjZ pa) pt pb hf, fun σ ρ H α M Dn s hh w => qa σ ρ H α M _ s hh (FP.seq w fun d M1 v H1 α1 e1 h1 r1 w1 => ?_)⟩
  have s1 := s.mono e1
  have pure_ : ∀ (ds : List D) (xs : List V), Reps X.K H1 α1 xs ds → FP X.K H1 α1 ξ Dn (Zcs gt g ds ρ M1) → ∀ (i : Nat) σ' H', (∃ ρ' α' M', Ext X.K H1 H' α1 α' ∧ SR X.K H' α' σ' ρ' ∧ HR X.K H' α' M' ∧ Zcs gt g (ds.drop i) ρ' M' = Zcs gt g ds ρ M1) →
      (∀ x, xs[i]? = some x → tt x σ' H' fun σ2 H2 => tb { Dn with nx := fun σ H => ∃ ρ' α' M', Ext X.K H1 H α1 α' ∧ SR X.K H α' σ ρ' ∧ HR X.K H α' M' ∧ Zcs gt g (ds.drop (i + 1)) ρ' M' = Zcs gt g ds ρ M1, ct := fun σ H => ∃ ρ' α' M', Ext X.K H1 H α1 α' ∧ SR X.K H α' σ ρ' ∧ HR X.K H α' M' ∧ Zcs gt g (ds.drop (i + 1)) ρ' M' = Zcs gt g ds ρ M1, bk := Dn.nx } σ2 H2) ∧
      (i = xs.length → Dn.nx σ' H') := by
    intro ds xs r w1 i σ' H' ⟨ρ', α', M', ex, sr, hr, en⟩
    refine ⟨fun x hx => ?_, fun hi => ?_⟩
    · have hi : i < ds.length := by rw [← r.length]; exact (List.getElem?_eq_some_iff.mp hx).1
      obtain ⟨v, g1, g2⟩ := r.get (List.getElem?_eq_getElem hi)
      rw [hx] at g1
      cases g1
      rw [List.drop_eq_getElem_cons hi] at en
      exact Zjf (tg := tg) w1 qt qb ex sr hr (Rep.mono ex g2) en (fun σ' H' z => z)
    · rw [hi, r.length, List.drop_length] at en
      have en' : Fl.nx ρ' M' = Zcs gt g ds ρ M1 := en
      rw [← en'] at w1
      exact w1 σ' H' α' ex hr sr
  cases r1 with
  | @tup p xs ds hp rp =>
    have w2 : FP X.K H1 α1 ξ Dn (Zcs gt g ds ρ M1) := w1
    refine ⟨p, rfl, .inr ⟨⟨xs, hp⟩, ZkC (K := X.K) (a := p) (xs := xs) (fun i σ' H' => ∃ ρ' α' M', Ext X.K H1 H' α1 α' ∧ SR X.K H' α' σ' ρ' ∧ HR X.K H' α' M' ∧ Zcs gt g (ds.drop i) ρ' M' = Zcs gt g ds ρ M1) ⟨ρ, α1, M1, Ext.refl, s1, h1, rfl⟩ ?_ ?_ ?_⟩⟩
    · rintro i σ' H' _ ⟨ρ', α', M', ex, _⟩
      exact ex.tup _ _ hp
    · intro i x σ' H' hx z
      exact (pure_ ds xs rp w2 i σ' H' z).1 x hx
    · intro σ' H' z
      exact (pure_ ds xs rp w2 _ σ' H' z).2 rfl
  | @rol p xs ds hp rp =>
    have w2 : FP X.K H1 α1 ξ Dn (Zcs gt g ds ρ M1) := w1
    refine ⟨p, rfl, .inl ⟨⟨xs, hp.sq⟩, ZiZ (K := X.K) (a := p) (xs := xs) (fun i σ' H' => ∃ ρ' α' M', Ext X.K H1 H' α1 α' ∧ SR X.K H' α' σ' ρ' ∧ HR X.K H' α' M' ∧ Zcs gt g (ds.drop i) ρ' M' = Zcs gt g ds ρ M1) ⟨ρ, α1, M1, Ext.refl, s1, h1, rfl⟩ ?_ ?_ ?_⟩⟩
    · rintro i σ' H' _ ⟨ρ', α', M', ex, _⟩
      exact (ex.rol _ _ hp).sq
    · intro i x σ' H' hx z
      exact (pure_ ds xs rp w2 i σ' H' z).1 x hx
    · intro σ' H' z
      exact (pure_ ds xs rp w2 _ σ' H' z).2 rfl
  | @ref p n hp =>
    cases em : M1[n]? with
    | none => simp only [ZjX, em] at w1; exact w1.elim
    | some so =>
      cases so with
      | lst ds =>
        simp only [ZjX, em] at w1
        obtain ⟨xs0, g0, r0⟩ := h1.at hp em
        generalize eo : ZhV gt g n ds.length 0 ρ M1 = o at w1
        refine ⟨p, rfl, .inl ⟨⟨xs0, SqL.of g0⟩, fun i m σ' H' => ∃ ρ' α' M', Ext X.K H1 H' α1 α' ∧ SR X.K H' α' σ' ρ' ∧ HR X.K H' α' M' ∧ ZhV gt g n m i ρ' M' = o, ⟨ds.length, ρ, α1, M1, Ext.refl, s1, h1, eo⟩, ?_⟩⟩
        rintro i m σ' H' ⟨ρ', α', M', ex, sr, hr, en⟩
        unfold ZhV at en
        cases em2 : M'[n]? with
        | none => simp only [em2] at en; cases en; exact w1.elim
        | some so2 =>
          cases so2 with
          | lst ds2 =>
            simp only [em2] at en
            obtain ⟨xs, g1, g2⟩ := hr.at (ex.get hp) em2
            cases ei : ds2[i]? with
            | none =>
              simp only [ei] at en
              cases en
              refine .inl ⟨⟨xs, SqL.of g1, ?_⟩, w1 σ' H' α' ex hr sr⟩
              rw [g2.length]
              exact List.getElem?_eq_none_iff.mp ei
            | some d =>
              simp only [ei] at en
              obtain ⟨v, k1, k2⟩ := g2.get ei
              cases m with
              | zero => cases en; exact w1.elim
              | succ m =>
                refine .inr ⟨⟨xs, v, SqL.of g1, k1⟩, fun σ2 H2 => ∃ ρ' α' M', Ext X.K H1 H2 α1 α' ∧ SR X.K H2 α' σ2 ρ' ∧ HR X.K H2 α' M' ∧ ZhV gt g n m (i + 1) ρ' M' = o, fun σ2 H2 z => ⟨m, Nat.lt_succ_self m, z⟩, fun x H2 y => ?_⟩
                obtain ⟨ey, y⟩ := y
                subst ey
                have ev := y xs (SqL.of g1)
                rw [k1] at ev
                cases ev
                exact Zjf (tg := tg) w1 qt qb ex sr hr k2 en (fun σ' H' z => z)
  | _ => exact w1.elim
end
noncomputable def fnF (g : Sv) (n k : Nat) : List D → Sto → Out D := fun ds M => if ds.length = n then (match g (ds.map some ++ List.replicate k none) M with
  | .ret d M' => .ok d M'
  | .nx _ M' => .ok .non M'
  | .exc c M' => .exc c M'
  | _ => .bad) else .bad
noncomputable def spD (K : PySem.W.Frag) (F : List D → Sto → Out D) : Sp := fun vs H Q E => ∃ ds α M, Reps K H α vs ds ∧ HR K H α M ∧ OP K H α E Q (F ds M)
theorem Ze6 : ∀ {ds : List D} {k i : Nat} {d : D}, (ds.map some ++ List.replicate k none)[i]? = some (some d) → ds[i]? = some d
  | [], k, i, d, h => by
    rw [List.map_nil, List.nil_append] at h
    have := List.mem_of_getElem? h
    rw [List.mem_replicate] at this
    cases this.2
  | x :: r, k, 0, d, h => by simpa using h
  | x :: r, k, i + 1, d, h => by
    rw [List.map_cons, List.cons_append, List.getElem?_cons_succ] at h
    rw [List.getElem?_cons_succ]
    exact Ze6 h
theorem SR.start {K : PySem.W.Frag} {H : Hp} {α : List Addr} {N : List Str} {vs : List V} {ds : List D} {k : Nat} (r : Reps K H α vs ds) (hk : k = N.length - ds.length) : SR K H α (start N vs) (ds.map some ++ List.replicate k none) := by
  unfold L2.start
  refine ⟨by simp only [List.length_append, List.length_map, List.length_replicate, r.length, hk], fun i d h => ?_⟩
  obtain ⟨v, h1, h2⟩ := r.get (Ze6 h)
  refine ⟨v, ?_, h2⟩
  have hl : i < vs.length := (List.getElem?_eq_some_iff.mp h1).1
  rw [List.getElem?_append_left (by rw [List.length_map]; exact hl), List.getElem?_map, h1]
  rfl
section
variable {P : Program} {w : World} {K : PySem.W.Frag} {mg : Str → Option Value} {base : Heap}
theorem ZR {x qual : Str} {st : Stmt} {f : Addr} {fd : FuncData} {N ps : List Str} {k n m : Nat} {g : Sv} (F : Fun K x qual st f fd) (S : FnScope N ps (Zj st)) (hn : n = ps.length) (hm : m = N.length - n)
    (hb : ∀ (cdv : Value) (A : Around) (outer : List Env) (s : Shared) (H : Hp) (E : XK), Room k (A.deeper (envOfC qual (Zj st) s.heap.objs.size f cdv)) → Thr (ZeV (CXE P w) P w K mg base N qual (Zj st) f cdv A outer s H E) E → DSs (ZeV (CXE P w) P w K mg base N qual (Zj st) f cdv A outer s H E) E (Zq st) g) :
    FnOk P w K mg base (CXE P w) (k + 1) f fd ps (spD K (fnF g n m)) := by
  obtain ⟨oc, od, kV, doc, pm, an, cdv, ct, osl, rfl, lk, hcd⟩ := F.ex
  refine Zms lk hcd S (fun vs H Q E h => ?_) (fun A outer s H vs Q E hr h => ?_)
  · obtain ⟨ds, α, M, r, _, q⟩ := h
    by_cases c : ds.length = n
    · rw [r.length, c, hn]
    · simp only [fnF, if_neg c] at q
      exact q.elim
  · obtain ⟨ds, α, M, r, hh, q⟩ := h
    obtain ⟨t, p, w'⟩ := hb cdv A outer s H E hr ZmI
    by_cases c : ds.length = n
    · simp only [fnF, if_pos c] at q
      refine ⟨t, p, w' _ _ H α M _ (SR.start (N := N) r (k := m) (by rw [hm, c])) hh ?_⟩
      cases e : g (ds.map some ++ List.replicate m none) M with
      | nx ρ' M' => simp only [e] at q; exact fun σ' H' α' ex hr sr => q _ H' α' ex hr .non
      | ret d M' => simp only [e] at q; exact q
      | exc x M' => simp only [e] at q; exact q
      | brk ρ' M' => simp only [e] at q; exact q.elim
      | cnt ρ' M' => simp only [e] at q; exact q.elim
      | bad => simp only [e] at q; exact q.elim
    · simp only [fnF, if_neg c] at q
      exact q.elim
end
section
variable {X : Cx} {ξ : XK} {k : Nat} {f : Addr} {fd : FuncData} {ps : List Str} {F : List D → Sto → Out D} {x : Str} {p pos : Pos} {e : Expr} {es : List Expr} {fs : Av}
theorem ZkX (G : FnOk X.prog X.w X.K X.mg X.base (CXE X.prog X.w) k f fd ps (spD X.K F)) (T : Thr X ξ) (hr : Room k X.A) (hm : X.mg x = some (.ref f)) (hk : PySem.W.keepIn X.K (.ref f) = true) (hb : ZfF X.K fd ps []) (ha : DA X ξ (e :: es) fs) (hg : Gl X x := by rfl)
    (hdb : (x == ("__debug__" : Str)) = false := by decide) (he : starEach (e :: es) X.env = (false, eval e X.env) :: starEach es X.env := by rfl) (hpl : (backTo pos (starEach es X.env)).any (·.1) = false := by rfl) : DE X ξ (.Call (.Name x p) (e :: es) [] pos) (Zg F fs) := by
  obtain ⟨t, pa, qa⟩ := ha
  refine ⟨_, ZkI G hr hg hm hk hb .nil T.ps pa hdb he hpl, fun σ ρ H α M Q s hh q => qa σ ρ H α M _ s hh (OG.seq q fun ds M1 vs H1 α1 e1 h1 r1 q1 => ?_)⟩
  rw [List.append_nil]
  exact ⟨ds, α1, M1, r1, h1, q1⟩
end
end DL
end
section
set_option Elab.async false
set_option linter.all false
set_option maxRecDepth 100000
set_option maxHeartbeats 4000000
namespace DL
open PySem PySem.Spec PyProof.Rows L2
theorem Zdp : bootBuiltins "abs" = some (.builtin "abs") := by decide +kernel
theorem Zd7 : bootBuiltins "int" = some (.type "int") := by decide +kernel
theorem ZhY : bootBuiltins "bool" = some (.type "bool") := by decide +kernel
theorem Zei : bootBuiltins "list" = some (.type "list") := by decide +kernel
theorem Zjg : bootBuiltins "tuple" = some (.type "tuple") := by decide +kernel
theorem Zj1 : bootBuiltins "max" = some (.builtin "max") := by decide +kernel
theorem ZmK : bootBuiltins "min" = some (.builtin "min") := by decide +kernel
theorem Zj2 : bootBuiltins "all" = some (.builtin "all") := by decide +kernel
noncomputable def Cal (P : Program) (w : World) (K : PySem.W.Frag) (mg : Str → Option Value) (base : Heap) (x : Str) (k n : Nat) (F : List D → Sto → Out D) : Prop :=
  ∃ (f : Addr) (fd : FuncData) (ps : List Str), FnOk P w K mg base (CXE P w) k f fd ps (spD K F) ∧ mg x = some (.ref f) ∧ PySem.W.keepIn K (.ref f) = true ∧ ps.length = n ∧ ZfF K fd ps []
theorem Zi {X : Cx} {ξ : XK} {k n : Nat} {F : List D → Sto → Out D} {x : Str} {p pos : Pos} {e : Expr} {es : List Expr} {fs : Av} (C : Cal X.prog X.w X.K X.mg X.base x k n F) (T : Thr X ξ) (hr : Room k X.A) (ha : DA X ξ (e :: es) fs) (hg : Gl X x := by rfl)
    (hdb : (x == ("__debug__" : Str)) = false := by decide) (he : starEach (e :: es) X.env = (false, eval e X.env) :: starEach es X.env := by rfl) (hpl : (backTo pos (starEach es X.env)).any (·.1) = false := by rfl) : DE X ξ (.Call (.Name x p) (e :: es) [] pos) (Zg F fs) := by
  obtain ⟨f, fd, ps, G, hm, hk, _, hb⟩ := C
  exact ZkX G T hr hm hk hb ha hg hdb he hpl
theorem ZmL {K : PySem.W.Frag} {H : Hp} {a : Addr} {ns : List Int} {n : Nat} {F : List D → Sto → Out D} (hl : ns.length ≤ n) (hO : ZoO H) (hS : SqL K H a (ns.map V.int)) (h : ∃ M', F [.rol (ns.map D.int)] [] = .ok (.bl true) M') :
    spD K F [.ref a] H (fun v _ => v = .bl true) (fun _ _ _ => False) := by
  obtain ⟨M', e⟩ := h
  have hF : SqF K H a (ns.map V.int) := by
    rcases hS with (h | ⟨o, h⟩) | h
    · rcases hO a with z | ⟨o, xs, z⟩
      · rw [h] at z; cases z
      · rw [h] at z; cases z
    · exact .inl ⟨o, h⟩
    · exact .inr h
  refine ⟨[.rol (ns.map D.int)], [], [], .cons (.rol hF (Reps.ints ns)) .nil, HR.nil, ?_⟩
  rw [e]
  intro v H' α' _ _ r
  cases r
  rfl
end DL
end
section
set_option Elab.async false
set_option linter.all false
set_option maxRecDepth 100000
set_option maxHeartbeats 4000000
namespace DL
open PySem PySem.Spec PyProof.Rows L2
inductive Src where
  | pur (ds : List D)
  | sto (n : Nat)
  | zip (n m : Nat)
  | enu (n : Nat)
  | rev (n l : Nat)
noncomputable def nxt (src : Src) (i : Nat) (M : Sto) : Option (Option D) := match src with
  | .pur ds => some ds[i]?
  | .sto n => match M[n]? with | some (.lst xs) => some xs[i]? | none => none
  | .zip n m => match M[n]?, M[m]? with
    | some (.lst xs), some (.lst ys) => (match xs[i]?, ys[i]? with | some x, some y => some (some (.tup [x, y])) | _, _ => some none)
    | _, _ => none
  | .enu n => match M[n]? with | some (.lst xs) => (match xs[i]? with | some x => some (some (.tup [.int i, x])) | none => some none) | none => none
  | .rev n l => match M[n]? with | some (.lst xs) => if i < l then (match xs[l - 1 - i]? with | some x => some (some x) | none => none) else (if i = l then some none else none) | none => none
noncomputable def cnt (src : Src) (M : Sto) : Nat := match src with
  | .pur ds => ds.length
  | .sto n => match M[n]? with | some (.lst xs) => xs.length | none => 0
  | .zip n _ => match M[n]? with | some (.lst xs) => xs.length | none => 0
  | .enu n => match M[n]? with | some (.lst xs) => xs.length | none => 0
  | .rev _ l => l
noncomputable def ZoQ (K : PySem.W.Frag) (H : Hp) (α : List Addr) (J : It) (src : Src) : Prop := ∀ (i : Nat) H' α' M', Ext K H H' α α' → HR K H' α' M' → match nxt src i M' with
  | some none => J.stop i H'
  | some (some d) => J.go i H' ∧ ∀ x H'', J.yld i H' x H'' → Ext K H' H'' α' α' ∧ HR K H'' α' M' ∧ Rep K H'' α' x d
  | none => True
noncomputable def DI (X : Cx) (ξ : XK) (tg iter : Expr) (f : Ro → Sto → Out Src) : Prop := ∃ wi : TI, PI X tg iter wi ∧ ∀ σ ρ H α M R, SR X.K H α σ ρ → HR X.K H α M → OG X.K (ZoQ X.K) H α ξ R (f ρ M) → wi σ H R
section
variable {X : Cx} {ξ : XK} {tg iter a b : Expr} {fs : Av} {f : Ev} {p pos : Pos}
noncomputable def iR1 (fs : Av) : Ro → Sto → Out Src := fun ρ M => (fs ρ M).bind fun ds M1 => match ds with
  | [.int j] => if -(2 ^ 62) ≤ j ∧ j < 2 ^ 62 then .ok (.pur (Zb7 0 j.toNat)) M1 else .bad
  | _ => .bad
theorem ZgT {K : PySem.W.Frag} {H : Hp} {α : List Addr} {lo : Int} {n : Nat} : ZoQ K H α (Itr lo n) (.pur (Zb7 lo n)) := by
  intro i H' α' M' ex hr
  show match some (Zb7 lo n)[i]? with | some none => _ | some (some d) => _ | none => True
  by_cases h : i < n
  · rw [Zgm h]
    refine ⟨h, fun x H'' y => ?_⟩
    obtain ⟨e1, e2⟩ := y
    subst e1 e2
    exact ⟨Ext.refl, hr, .int _⟩
  · rw [List.getElem?_eq_none (by rw [Zeh]; omega)]
    exact Nat.le_of_not_lt h
theorem ZhZ (hm : X.mg "range" = none) (ha : DA X ξ [a] fs) (hgl : Gl X "range" := by rfl) (hs : starEach [a] X.env = [(false, eval a X.env)] := by rfl) : DI X ξ tg (.Call (.Name "range" p) [a] [] pos) (iR1 fs) := by
  obtain ⟨ta, pa, qa⟩ := ha
  refine ⟨_, ZeO hgl hm pa hs, fun σ ρ H α M R s hh q => qa σ ρ H α M _ s hh (OG.seq q fun ds M1 vs H1 α1 e1 h1 r1 w1 => ?_)⟩
  match r1 with
  | .nil => exact w1.elim
  | .cons r (.cons _ _) => cases r <;> exact w1.elim
  | .cons r .nil =>
    cases r with
    | int j =>
      by_cases c : -(2 ^ 62) ≤ j ∧ j < 2 ^ 62
      · simp only [if_pos c] at w1
        exact ⟨j, rfl, c.1, c.2, w1 _ H1 α1 Ext.refl h1 ZgT⟩
      · simp only [if_neg c] at w1
        exact w1.elim
    | _ => exact w1.elim
noncomputable def iSq (f : Ev) : Ro → Sto → Out Src := fun ρ M => (f ρ M).bind fun d M1 => match d with
  | .tup ds => .ok (.pur ds) M1
  | .rol ds => .ok (.pur ds) M1
  | .ref n => .ok (.sto n) M1
  | _ => .bad
theorem Zh0 (ha : DE X ξ a f) : DI X ξ tg a (iSq f) := by
  obtain ⟨ta, pa, qa⟩ := ha
  refine ⟨_, ZjZ pa, fun σ ρ H α M R s hh q => qa σ ρ H α M _ s hh (OG.seq q fun d M1 v H1 α1 e1 h1 r1 w1 => ?_)⟩
  cases r1 with
  | @tup p xs ds hp rp =>
    refine ⟨p, rfl, .inr ⟨⟨xs, hp⟩, w1 (Itt X.K p) H1 α1 Ext.refl h1 ?_⟩⟩
    intro i H' α' M' ex hr
    show match some ds[i]? with | some none => _ | some (some d) => _ | none => True
    cases ei : ds[i]? with
    | none => exact ⟨xs, ex.tup _ _ hp, by rw [rp.length]; exact List.getElem?_eq_none_iff.mp ei⟩
    | some d =>
      obtain ⟨v, k1, k2⟩ := rp.get ei
      refine ⟨⟨xs, v, ex.tup _ _ hp, k1⟩, fun x H'' y => ?_⟩
      obtain ⟨ey, y⟩ := y
      have z := y xs (ex.tup _ _ hp)
      rw [k1] at z
      cases z
      subst ey
      exact ⟨Ext.refl, hr, Rep.mono ex k2⟩
  | @rol p xs ds hp rp =>
    refine ⟨p, rfl, .inl ⟨⟨xs, hp.sq⟩, w1 (Itl X.K p) H1 α1 Ext.refl h1 ?_⟩⟩
    intro i H' α' M' ex hr
    show match some ds[i]? with | some none => _ | some (some d) => _ | none => True
    have hq := (ex.rol _ _ hp).sq
    cases ei : ds[i]? with
    | none => exact ⟨xs, hq, by rw [rp.length]; exact List.getElem?_eq_none_iff.mp ei⟩
    | some d =>
      obtain ⟨v, k1, k2⟩ := rp.get ei
      refine ⟨⟨xs, v, hq, k1⟩, fun x H'' y => ?_⟩
      obtain ⟨ey, y⟩ := y
      have z := y xs hq
      rw [k1] at z
      cases z
      subst ey
      exact ⟨Ext.refl, hr, Rep.mono ex k2⟩
  | @ref p n hp =>
    obtain ⟨xs0, g0⟩ := h1.some_at hp
    refine ⟨p, rfl, .inl ⟨⟨xs0, SqL.of g0⟩, w1 (Itl X.K p) H1 α1 Ext.refl h1 ?_⟩⟩
    intro i H' α' M' ex hr
    show match (match M'[n]? with | some (.lst xs) => some xs[i]? | none => none) with | some none => _ | some (some d) => _ | none => True
    cases em : M'[n]? with
    | none => exact True.intro
    | some so =>
      cases so with
      | lst ds =>
        obtain ⟨xs, g1, g2⟩ := hr.at (ex.get hp) em
        show match some ds[i]? with | some none => _ | some (some d) => _ | none => True
        cases ei : ds[i]? with
        | none => exact ⟨xs, SqL.of g1, by rw [g2.length]; exact List.getElem?_eq_none_iff.mp ei⟩
        | some d =>
          obtain ⟨v, k1, k2⟩ := g2.get ei
          refine ⟨⟨xs, v, SqL.of g1, k1⟩, fun x H'' y => ?_⟩
          obtain ⟨ey, y⟩ := y
          have z := y xs (SqL.of g1)
          rw [k1] at z
          cases z
          subst ey
          exact ⟨Ext.refl, hr, k2⟩
  | _ => exact w1.elim
end
noncomputable def blk (X : Cx) (scope : Scope) (cl : List (Str × Addr)) (N : List Str) (C : Addr) (fp : List Addr) (s : Shared) (H : Hp) : Cx :=
  { X with N := N, s₀ := s, H₀ := H, env := compEnvC scope cl C X.env, outer := X.stack, stack := X.stack, ex := fp, fn := fun _ => false, pn := [], xe := fun _ _ => False }
theorem ZdG {X : Cx} {scope : Scope} {cl : List (Str × Addr)} {N : List Str} {C : Addr} {fp : List Addr} {s : Shared} {H : Hp} : Thr (blk X scope cl N C fp s H) E0 :=
  ⟨PassesOwn.never, fun _ _ _ _ _ _ _ ⟨_, _, _, _, _, _, _, _, _, _, _, _, _, q⟩ => q, fun _ _ _ _ _ _ _ _ _ _ _ _ _ _ _ _ _ _ q => q⟩
noncomputable def Zdz (src : Src) (tg : Tg) (c : Tv) (f : Ev) (n : Nat) : Nat → Nat → Ro → Sto → Out Unit
  | fuel, i, ρ, M => match nxt src i M with
    | none => .bad
    | some none => .ok () M
    | some (some d) => (match fuel with
      | 0 => .bad
      | fuel + 1 => (match tg d ρ with
        | none => .bad
        | some ρ1 => (match c ρ1 M with
          | .ok true M1 => (match f ρ1 M1 with
            | .ok x M2 => (match M2[n]? with
              | some (.lst xs) => if xs.length < 10000000 then Zdz src tg c f n fuel (i + 1) ρ1 (M2.set n (.lst (xs ++ [x]))) else .bad
              | none => .bad)
            | _ => .bad)
          | .ok false M1 => Zdz src tg c f n fuel (i + 1) ρ1 M1
          | _ => .bad)))
noncomputable def roB (k : Nat) (fr : List Nat) (ρ : Ro) : Ro := List.replicate k none ++ fr.map fun i => (ρ[i]?).join
noncomputable def Zb6 (fi : Ro → Sto → Out Src) (k : Nat) (fr : List Nat) (tg : Tg) (c : Tv) (f : Ev) : Ev := fun ρ M => (fi ρ M).bind fun src M1 => match Zdz src tg c f M1.length (cnt src M1) 0 (roB k fr ρ) (M1 ++ [.lst []]) with
  | .ok _ M2 => .ok (.ref M1.length) M2
  | _ => .bad
structure Blk (X : Cx) (scope : Scope) (cl : List (Str × Addr)) (N : List Str) (k : Nat) (fr : List Nat) : Prop where
  clos : closureFor scope X.env = pure cl
  kind : scope.kind = .function
  cell : ∀ y ∈ scope.names, y.2 ≠ .cell
  names : ∀ y ∈ scope.names, y.2 = .local → scope.names.lookup y.1 = some .local
  sub : ∀ x c, cl.lookup x = some c → X.env.cells.lookup x = some c
  has : ∀ x, ((relabel scope X.env).names.lookup x = some .cell ∨ (relabel scope X.env).names.lookup x = some .free) → ∃ c, cl.lookup x = some c
  len : N.length = k + fr.length
  at_ : ∀ (j i : Nat), fr[j]? = some i → ∃ x, N[k + j]? = some x ∧ X.N[i]? = some x ∧ X.env.kindOf x = some .cell ∧ ((relabel scope X.env).names.lookup x = some .cell ∨ (relabel scope X.env).names.lookup x = some .free) ∧ cl.lookup x = X.env.cells.lookup x
theorem Zdq {prog : Program} {w : World} {A : Around} {R : Result → Shared → Prop} {s : Shared} {elt target iter : Expr} {ifs : List Expr} {scope : Scope} {pos : Pos} {it acc : Value} {env : Env} (I : Nat → Shared → Prop)
    (turn : ∀ n s, I n s → wpAny (model prog w) A (pyNext it) (fun r s₁ => match r with
      | none => R (.ok .next) s₁
      | some v => wpAny (model prog w) A (letOwnedTupleGo target it v) (fun _ s₁ => wpAny (model prog w) A (assign target env v) (fun _ s₂ =>
          wpAny (model prog w) A (forIn ifs true fun c r => if r = true then do let ok ← isTrue c env (eval c env); pure (ForInStep.yield ok) else pure (ForInStep.yield r)) (fun ok s₃ =>
            if ok = true then wpAny (model prog w) A (eval elt env) (fun x s₄ =>
              wpAny (model prog w) A (call (.builtin "list.append") [acc, x]) (fun _ s₅ => ∃ m, m < n ∧ I m s₅) (fun _ _ => False) s₄) (fun _ _ => False) s₃
            else ∃ m, m < n ∧ I m s₃) (fun _ _ => False) s₂) (fun _ _ => False) s₁) (fun _ _ => False) s₁) (fun _ _ => False) s)
    (n : Nat) (h : I n s) :
    codeAny (model prog w) A (.compLoop (.ListComp elt [⟨target, iter, ifs, 0⟩] scope pos) 0 it acc env) R s := by
  refine codeAny_loop rfl I (fun n s hI => ?_) n h
  show wpAny _ A ((compTurn (.ListComp elt [⟨target, iter, ifs, 0⟩] scope pos) 0 it acc env).onRaise (fun x => do noteFrame x env; theTreesLotGoes x)) _ _ s
  refine wpAny_noted ?_
  rw [compTurn_list]
  refine wpAny_bind (wpAny_standAt (wpAny_bind (wpAny_mono (turn n s hI) (fun r s₁ h₁ => ?_) fun _ _ h' => h'.elim)))
  cases r with
  | none => exact wpAny_pure h₁
  | some v =>
    refine wpAny_bind (wpAny_mono h₁ (fun _ s₁ h₁ => ?_) fun _ _ h' => h'.elim)
    refine wpAny_bind (wpAny_mono h₁ (fun _ s₂ h₂ => wpAny_bind (wpAny_mono h₂ (fun ok s₃ h₃ => ?_) fun _ _ h' => h'.elim)) fun _ _ h' => h'.elim)
    cases ok with
    | false => exact wpAny_pure ⟨rfl, h₃⟩
    | true =>
      exact wpAny_bind (wpAny_bind (wpAny_mono h₃ (fun x s₄ h₄ => wpAny_bind (wpAny_mono h₄ (fun _ s₅ h₅ => wpAny_pure (wpAny_pure ⟨rfl, h₅⟩)) fun _ _ h' => h'.elim)) fun _ _ h' => h'.elim))
noncomputable def DC (X : Cx) (ifs : List Expr) (c : Tv) : Prop := (ifs = [] ∧ c = fun _ M => .ok true M) ∨ ∃ e, ifs = [e] ∧ DT X E0 e c
section
variable {X : Cx} {ξ : XK} {tg iter elt : Expr} {ifs : List Expr} {scope : Scope} {cl : List (Str × Addr)} {N : List Str} {k : Nat} {fr : List Nat} {fi : Ro → Sto → Out Src} {gt : Tg} {c : Tv} {f : Ev} {pos : Pos}
theorem Zh1 (B : Blk X scope cl N k fr) {pins : List (Addr × Obj)} {σ : L2.St} {H : Hp} {s : Shared} {fp : List Addr} (I : Inv X pins σ H s) (hf : ∀ b ∈ fp, ZfC X pins H b) (hlt : ∀ b ∈ fp, b < s.heap.objs.size) : (blk X scope cl N s.heap.objs.size fp s H).Ok where
  mod := I.ok.mod
  kind := B.kind
  glob := I.ok.glob
  blt := I.ok.blt
  above := Nat.le_refl _
  inj := fun x y c h1 h2 => I.ok.inj x y c (B.sub x c h1) (B.sub y c h2)
  has := fun x h => B.has x h
  cab := fun x c h => (by cases h)
  hd := I.ok.hd
  frames := I.ok.frames
  stk := .inl rfl
  exf := fun b hb => ⟨Nat.ne_of_lt (hlt b hb), fun x c h => (hf b hb).2.2.2.2.1 x c (B.sub x c h)⟩
  bs := I.bs
  bsz := Nat.le_trans I.ok.bsz I.sz
  noex := fun b o e hb => by
    rcases (hf b hb).2.2.2.1 with z | z
    · exact I.ok.noex b o e z
    · exact absurd (Nat.lt_of_lt_of_le (Heap.lt_size (I.ok.bs b o e).1) z) (Nat.lt_irrefl _)
  exfs := fun b hb z => by
    rcases List.mem_cons.mp (I.stkSub b z) with e | e
    · exact (hf b hb).2.1 e
    · exact (hf b hb).2.2.1 e
  funs := I.stack
  frf := I.stkFree
theorem join_some {α : Type} {o : Option (Option α)} {v : α} (h : o.join = some v) : o = some (some v) := by
  cases o with
  | none => cases h
  | some x => cases x with
    | none => cases h
    | some y => cases h; rfl
theorem ZkY {ρ : Ro} {i : Nat} {d : D} (h : (roB k fr ρ)[i]? = some (some d)) : ∃ j r, i = k + j ∧ fr[j]? = some r ∧ ρ[r]? = some (some d) := by
  unfold roB at h
  by_cases hi : i < k
  · rw [List.getElem?_append_left (by rw [List.length_replicate]; exact hi)] at h
    have := List.mem_of_getElem? h
    rw [List.mem_replicate] at this
    cases this.2
  · rw [List.getElem?_append_right (by rw [List.length_replicate]; omega), List.length_replicate, List.getElem?_map] at h
    cases e : fr[i - k]? with
    | none => rw [e] at h; cases h
    | some r =>
      rw [e] at h
      exact ⟨i - k, r, by omega, e, join_some (Option.some.inj h)⟩
noncomputable def stB (k : Nat) (fr : List Nat) (σ : L2.St) : L2.St := List.replicate k none ++ fr.map fun i => (σ[i]?).join
theorem ZkZ {σ : L2.St} {i : Nat} {d : V} (h : (stB k fr σ)[i]? = some (some d)) : ∃ j r, i = k + j ∧ fr[j]? = some r ∧ σ[r]? = some (some d) := by
  unfold stB at h
  by_cases hi : i < k
  · rw [List.getElem?_append_left (by rw [List.length_replicate]; exact hi)] at h
    have := List.mem_of_getElem? h
    rw [List.mem_replicate] at this
    cases this.2
  · rw [List.getElem?_append_right (by rw [List.length_replicate]; omega), List.length_replicate, List.getElem?_map] at h
    cases e : fr[i - k]? with
    | none => rw [e] at h; cases h
    | some r =>
      rw [e] at h
      exact ⟨i - k, r, by omega, e, join_some (Option.some.inj h)⟩
theorem SR.blk {K : PySem.W.Frag} {H : Hp} {α : List Addr} {σ : L2.St} {ρ : Ro} (h : SR K H α σ ρ) : SR K H α (stB k fr σ) (roB k fr ρ) := by
  refine ⟨by simp [stB, roB], fun i d e => ?_⟩
  obtain ⟨j, r, rfl, e1, e2⟩ := ZkY e
  obtain ⟨v, e3, e4⟩ := h.2 r d e2
  refine ⟨v, ?_, e4⟩
  unfold stB
  rw [List.getElem?_append_right (by rw [List.length_replicate]; omega), List.length_replicate, List.getElem?_map, Nat.add_sub_cancel_left, e1]
  show some (σ[r]?).join = _
  rw [e3]
  rfl
theorem Zh2 (B : Blk X scope cl N k fr) {pins : List (Addr × Obj)} {σ : L2.St} {H : Hp} {s : Shared} {fp : List Addr} {h1 : Heap} {tk : Nat} {m : Str → Option Value} (I : Inv X pins σ H s) (hf : ∀ b ∈ fp, ZfC X pins H b) (hlt : ∀ b ∈ fp, b < s.heap.objs.size)
    (hn : h1.Ns s.heap.objs.size m) (hk : ∀ b o, s.heap.get? b = some o → h1.get? b = some o) : Inv (blk X scope cl N s.heap.objs.size fp s H) [] (stB k fr σ) H { s with heap := h1, toks := tk } where
  ok := Zh1 B I hf hlt
  os := rfl
  bare := I.bare
  base := Un.kept hk
  loc := by
    refine ⟨m, hn, fun i x v e1 e2 e3 => ?_⟩
    obtain ⟨j, r, rfl, g1, g2⟩ := ZkZ e2
    obtain ⟨y, k1, k2, k3, k4, k5⟩ := B.at_ j r g1
    have exy : x = y := Option.some.inj (e1.symm.trans k1)
    subst exy
    obtain ⟨m0, hm0, hl⟩ := I.loc
    obtain ⟨u, ru, lk⟩ := hl r x v k2 g2 (.inr (.inl k3))
    refine ⟨u, ru, ?_⟩
    rcases lk with ⟨z, _⟩ | ⟨_, c, z1, ⟨o, z2, z3⟩⟩
    · rw [k3] at z; cases z
    · exact .inr ⟨k4, c, k5.trans z1, ⟨o, hk _ _ z2, z3⟩⟩
  cell := fun x c h => by
    obtain ⟨v, o, e1, e2⟩ := I.cell x c (B.sub x c h)
    exact ⟨v, o, hk _ _ e1, e2⟩
  free := I.fresh
  freeC := fun x c h => I.freeC x c (B.sub x c h)
  pin := fun p hp => (by simp [blk] at hp)
  hok := I.hok.kept hk
  len := by
    show (stB k fr σ).length = N.length
    rw [B.len]
    simp [stB]
  qd := I.qd
theorem ZfJ (B : Blk X scope cl N k fr) (hi : DI X ξ tg iter fi) (hg : ∀ C fp s H, DG (blk X scope cl N C fp s H) tg gt) (ht : ∀ C fp s H, DC (blk X scope cl N C fp s H) ifs c) (he : ∀ C fp s H, DE (blk X scope cl N C fp s H) E0 elt f)
    (hs : ∀ x, foldedSetIterable iter X.env x = pure x := by intro _; rfl) : DE X ξ (.ListComp elt [⟨tg, iter, ifs, 0⟩] scope pos) (Zb6 fi k fr gt c f) := by
  obtain ⟨wi, pi, qi⟩ := hi
  refine ⟨fun σ H Q => ∃ ρ α M, SR X.K H α σ ρ ∧ HR X.K H α M ∧ OP X.K H α ξ Q (Zb6 fi k fr gt c f ρ M), ?_, fun σ ρ H α M Q s h q => ⟨ρ, α, M, s, h, q⟩⟩
  rintro pins s σ H Q I ⟨ρ, α, M, sr, hr, op⟩
  rw [eval_ListComp]
  refine wpAny_comprehension_free (use := none) rfl hs B.clos B.kind B.names ?_
  refine thn (pi pins s σ H (fun J H2 => ∃ α2 M2 src, Ext X.K H H2 α α2 ∧ HR X.K H2 α2 M2 ∧ ZoQ X.K H2 α2 J src ∧ OP X.K H2 α2 ξ Q (match Zdz src gt c f M2.length (cnt src M2) 0 (roB k fr ρ) (M2 ++ [.lst []]) with | .ok _ M2' => .ok (.ref M2.length) M2' | _ => .bad)) I
    (qi σ ρ H α M _ sr hr (OG.seq op fun src M1 J H1 α1 e1 h1 r1 q1 => ⟨α1, M1, src, e1, h1, r1, q1⟩))) fun v s1 w1 => thn w1 fun itv s2 w2 => ?_
  obtain ⟨it, fp, tn, J, H2, rfl, I2, T, st2, f2, α2, M2, src, e2, h2, sc, op2⟩ := w2
  have srI := sr.mono e2
  refine wpAny_newObj_type ?_
  have I3 : Inv X pins σ (upd H2 s2.heap.objs.size (.lst [])) { s2 with heap := s2.heap.push { cls := .type "list", data := .seq ([] : List Value).toArray } } := I2.lnew (its := []) (t' := s2.toks) .nil (Nat.zero_le _)
  have fD : H2 s2.heap.objs.size = none := I2.fresh
  generalize hD : s2.heap.objs.size = D at I3 fD
  generalize hs3 : ({ s2 with heap := s2.heap.push { cls := .type "list", data := .seq ([] : List Value).toArray } } : Shared) = s3 at I3
  generalize hH3 : upd H2 D (.lst []) = H3 at I3
  have h3 : HR X.K H3 (α2 ++ [D]) (M2 ++ [.lst []]) := by rw [← hH3]; exact h2.new fD .nil
  have e3 : Ext X.K H2 H3 α2 (α2 ++ [D]) := by rw [← hH3]; exact Ext.new fD
  have aD : (α2 ++ [D])[M2.length]? = some D := h2.last D
  have lt2 : ∀ b ∈ fp, b < s2.heap.objs.size := fun b hb => let ⟨o, e, _⟩ := T.obj _ _ st2 b hb; Heap.lt_size e
  have keep3 : ∀ b o, s2.heap.get? b = some o → s3.heap.get? b = some o := fun b o e => by rw [← hs3]; exact Heap.get?_push_of_some _ e
  have f3 : ∀ b ∈ fp, ZfC X pins H3 b := fun b hb => ⟨by rw [← hH3, ZS (by rw [← hD]; exact Nat.ne_of_lt (lt2 b hb))]; exact (f2 b hb).1, (f2 b hb).2⟩
  have lt3 : ∀ b ∈ fp, b < s3.heap.objs.size := fun b hb => let ⟨o, e, _⟩ := T.obj _ _ st2 b hb; Heap.lt_size (keep3 b o e)
  have st3 : tn 0 s3.heap := T.keep _ _ _ st2 fun b _ o e => keep3 b o e
  refine wpAny_newFunctionEnv B.cell (by intro y hy; simp at hy) (fun h₁ hns₁ hsb₁ => ?_) B.kind
  have keep4 : ∀ b o, s3.heap.get? b = some o → h₁.get? b = some o := fun b o e => hsb₁.extBut b o (Nat.ne_of_lt (Heap.lt_size e)) (Heap.get?_push_of_some _ e)
  have I4 := Zh2 (tk := s3.toks + ([] : List (Str × Value)).length) B I3 f3 lt3 hns₁ keep4
  have st4 : tn 0 h₁ := T.keep _ _ _ st3 fun b _ o e => keep4 b o e
  generalize hX : blk X scope cl N s3.heap.objs.size fp s3 H3 = Y at I4
  have YK : Y.K = X.K := by rw [← hX]; rfl
  have Yp : Y.prog = X.prog := by rw [← hX]; rfl
  have Yw : Y.w = X.w := by rw [← hX]; rfl
  have YA : Y.A = X.A := by rw [← hX]; rfl
  have Ye : Y.env = compEnvC scope cl s3.heap.objs.size X.env := by rw [← hX]; rfl
  obtain ⟨tt, pt, qt⟩ := hg s3.heap.objs.size fp s3 H3
  obtain ⟨te, pe, qe⟩ := he s3.heap.objs.size fp s3 H3
  have tst := ht s3.heap.objs.size fp s3 H3
  rw [hX] at pt qt pe qe tst
  cases er : Zdz src gt c f M2.length (cnt src M2) 0 (roB k fr ρ) (M2 ++ [.lst []]) with
  | exc x M9 => rw [er] at op2; exact op2.elim
  | bad => rw [er] at op2; exact op2.elim
  | ok u9 M9 =>
    rw [er] at op2
    have loop : codeAny (model X.prog X.w) X.A (.compLoop (.ListComp elt [⟨tg, iter, ifs, 0⟩] scope pos) 0 (.ref it) (.ref D) (compEnvC scope cl s3.heap.objs.size X.env)) (compPost (model X.prog X.w) X.A X.xe none (EP X pins σ Q) (.ref D) s3.heap.objs.size) { s3 with heap := h₁, toks := s3.toks + ([] : List (Str × Value)).length } := by
      refine Zdq (fun n s' => ∃ i σ' ρ' H' α' M', Inv Y [] σ' H' s' ∧ tn i s'.heap ∧ (∀ b ∈ fp, H' b = none) ∧ SR X.K H' α' σ' ρ' ∧ HR X.K H' α' M' ∧ Ext X.K H3 H' (α2 ++ [D]) α' ∧ Zdz src gt c f M2.length n i ρ' M' = .ok u9 M9) ?_ (cnt src M2)
        ⟨0, stB k fr σ, roB k fr ρ, H3, α2 ++ [D], M2 ++ [.lst []], I4, st4, fun b hb => (f3 b hb).1, (srI.blk).mono e3, h3, Ext.refl, er⟩
      rintro n s5 ⟨i, σ5, ρ5, H5, α5, M5, I5, st5, fr5, sr5, hr5, ex5, en⟩
      have fp5 : ∀ {H' : Hp}, (∀ b ∈ fp, H' b = none) → ∀ b ∈ fp, ZfC Y [] H' b := fun hn b hb => ⟨hn b hb, by rw [Ye]; exact Nat.ne_of_lt (lt3 b hb), by
        have := (Zh1 B I3 f3 lt3).exfs b hb
        rw [hX] at this; exact this, .inl (by rw [← hX]; exact hb), fun x c h => (by rw [Ye] at h; exact (f3 b hb).2.2.2.2.1 x c (B.sub x c h)), fun p hp => (by rw [← hX] at hp; simp [blk] at hp)⟩
      have src5 := sc i H5 α5 M5 (e3.trans ex5) hr5
      rw [Zdz] at en
      cases ex : nxt src i M5 with
      | none => rw [ex] at en; cases en
      | some od =>
        rw [ex] at src5 en
        cases od with
        | none =>
          cases en
          have fin := T.done Y Yp Yw YK YA i [] s5 σ5 H5 (fun _ _ => False) I5 (fp5 fr5) st5 src5
          rw [YA] at fin
          refine thn fin fun r s6 ⟨hr6, I6⟩ => ?_
          subst hr6
          obtain ⟨m6, hm6, _⟩ := id I6.loc
          rw [Ye] at hm6
          refine ⟨m6, hm6, fun h' sb => ?_⟩
          have un := I6.base
          have hok6 := I6.hok
          have I7 : Inv X pins σ H5 s6 := by
            refine I3.call' (s' := s6) (ch := fp) ?_ ?_ ?_ I6.bare fun b hb => ?_
            · have := I6.os
              rw [this, ← hX]; rfl
            · rw [← hX] at un
              exact un
            · rw [Yp, Yw] at hok6
              exact hok6
            · obtain ⟨_, z1, z2, z3, z4, z5⟩ := f3 b hb
              exact ⟨z3, z1, z4, z5⟩
          have hC : H5 s3.heap.objs.size = none := by have := I6.free; rw [Ye] at this; exact this
          have I8 : Inv X pins σ H5 { s6 with heap := h', toks := s6.toks } := I7.turned (it := s3.heap.objs.size) (fun b o hb e => (sb.2 b hb).trans e) hC (Nat.ne_of_gt I3.lt) (.inr I3.sz)
            (fun x c h z => by
              obtain ⟨v, o, e, _⟩ := I3.cell x c h
              exact absurd (Heap.lt_size e) (by rw [z]; exact Nat.lt_irrefl _)) (fun p hp z => by
              have := (I3.pin p hp).1
              exact absurd (Heap.lt_size this) (by rw [z]; exact Nat.lt_irrefl _))
          exact ⟨.ref D, H5, I8, rfl, op2 _ H5 α5 (e3.trans ex5) hr5 (.ref (ex5.get aD))⟩
        | some d =>
          obtain ⟨go, yl⟩ := src5
          cases n with
          | zero => cases en
          | succ n =>
            simp only at en
            have itm := T.item Y Yp Yw YK YA i [] s5 σ5 H5 (fun _ _ => False) I5 (fp5 fr5) st5 go
            rw [YA] at itm
            refine thn itm fun r s6 ⟨u, hr6, w6⟩ => ?_
            subst hr6
            refine thn w6 fun _ s7 ⟨x, H7, I7, r7, y7, st7, fr7⟩ => ?_
            obtain ⟨ex7, hr7, rp7⟩ := yl x H7 y7
            have sr5 := sr5.mono ex7
            have hr5 := hr7
            have ex5 := ex5.trans ex7
            have I7' := I7.pinned (fp5 fr7) (T.obj _ _ st7)
            cases eg : gt d ρ5 with
            | none => rw [eg] at en; cases en
            | some ρ6 =>
              rw [eg] at en
              simp only at en
              have asg := pt _ s7 σ5 H7 x u _ I7' r7 (qt x d σ5 ρ5 H7 α5 ρ6 (fun σ' H' => H' = H7 ∧ SR X.K H7 α5 σ' ρ6) (by rw [YK]; exact sr5) (by rw [YK]; exact rp7) eg fun σ' s' => ⟨rfl, by rw [YK] at s'; exact s'⟩)
              rw [Yp, Yw, YA, Ye] at asg
              refine wpAny_mono asg (fun _ s8 ⟨σ8, H8, I8, z8, sr8⟩ => ?_) (fun _ _ z => by rw [← hX] at z; exact z)
              subst z8
              have again : ∀ {σ9 : L2.St} {H9 : Hp} {s9 : Shared}, Inv Y ([] ++ Zdk fp s7.heap) σ9 H9 s9 → Inv Y [] σ9 H9 s9 ∧ tn (i + 1) s9.heap ∧ ∀ b ∈ fp, H9 b = none := fun {σ9 H9 s9} I9 => by
                refine ⟨I9.unpinned, T.keep _ _ _ st7 fun b hb o e => (I9.pin (b, o) (List.mem_append_right _ (List.mem_append_right _ (Zbf hb e)))).1, fun b hb => ?_⟩
                obtain ⟨o, e, _⟩ := T.obj _ _ st7 b hb
                exact (I9.pin (b, o) (List.mem_append_right _ (List.mem_append_right _ (Zbf hb e)))).2.1
              have after : ∀ (kk : Bool) (M8 : Sto) (H9 : Hp) (α9 : List Addr) (s9 : Shared), Inv Y ([] ++ Zdk fp s7.heap) σ8 H9 s9 → Ext X.K H8 H9 α5 α9 → HR X.K H9 α9 M8 → c ρ6 M5 = .ok kk M8 →
                  (if kk = true then wpAny (model X.prog X.w) X.A (eval elt (compEnvC scope cl s3.heap.objs.size X.env)) (fun x s₄ => wpAny (model X.prog X.w) X.A (call (.builtin "list.append") [.ref D, x]) (fun _ s₅ => ∃ m, m < n + 1 ∧ ∃ i σ' ρ' H' α' M', Inv Y [] σ' H' s₅ ∧ tn i s₅.heap ∧ (∀ b ∈ fp, H' b = none) ∧ SR X.K H' α' σ' ρ' ∧ HR X.K H' α' M' ∧ Ext X.K H3 H' (α2 ++ [D]) α' ∧ Zdz src gt c f M2.length m i ρ' M' = .ok u9 M9) (fun _ _ => False) s₄) (fun _ _ => False) s9
                   else ∃ m, m < n + 1 ∧ ∃ i σ' ρ' H' α' M', Inv Y [] σ' H' s9 ∧ tn i s9.heap ∧ (∀ b ∈ fp, H' b = none) ∧ SR X.K H' α' σ' ρ' ∧ HR X.K H' α' M' ∧ Ext X.K H3 H' (α2 ++ [D]) α' ∧ Zdz src gt c f M2.length m i ρ' M' = .ok u9 M9) := by
                intro kk M8 H9 α9 s9 I9 ex9 hr9 ec
                rw [ec] at en
                cases kk with
                | false =>
                  obtain ⟨a1, a2, a3⟩ := again I9
                  exact ZkS ⟨n, Nat.lt_succ_self n, i + 1, σ8, ρ6, H9, α9, M8, a1, a2, a3, sr8.mono ex9, hr9, ex5.trans ex9, en⟩
                | true =>
                  simp only at en
                  refine ZkT ?_
                  cases ef : f ρ6 M8 with
                  | exc x9 M10 => rw [ef] at en; cases en
                  | bad => rw [ef] at en; cases en
                  | ok y M10 =>
                    rw [ef] at en
                    simp only at en
                    have ev := pe _ s9 σ8 H9 (fun v H' => ∃ α', Ext X.K H9 H' α9 α' ∧ HR X.K H' α' M10 ∧ Rep X.K H' α' v y) I9 (qe σ8 ρ6 H9 α9 M8 _ (by rw [YK]; exact sr8.mono ex9) (by rw [YK]; exact hr9) (by
                      rw [ef, YK]
                      exact fun v H' α' e h r => ⟨α', e, h, r⟩))
                    rw [Yp, Yw, YA, Ye] at ev
                    refine wpAny_mono ev (fun yv s10 ⟨v, H10, I10, r10, α10, ex10, hr10, rp10⟩ => ?_) (fun _ _ z => by rw [← hX] at z; exact z)
                    cases em : M10[M2.length]? with
                    | none => rw [em] at en; cases en
                    | some so =>
                      cases so with
                      | lst ds =>
                        rw [em] at en
                        simp only at en
                        by_cases cz : ds.length < 10000000
                        · rw [if_pos cz] at en
                          have aD10 := ex10.get (ex9.get (ex5.get aD))
                          obtain ⟨xs, g1, g2⟩ := hr10.at aD10 em
                          have ap := ZdC (X := Y) _ s10 σ8 H10 (.ref D) [v] (.ref D) [yv] (fun _ H' => H' = upd H10 D (.lst (xs ++ [v]))) I10 rfl (.cons r10 .nil) ⟨D, xs, v, rfl, rfl, g1, by rw [g2.length]; exact Nat.lt_of_lt_of_le cz (by decide), rfl⟩
                          rw [Yp, Yw, YA] at ap
                          refine wpAny_mono ap (fun _ s11 ⟨v11, H11, I11, _, z11⟩ => ?_) (fun _ _ z => by rw [← hX] at z; exact z)
                          subst z11
                          obtain ⟨a1, a2, a3⟩ := again I11
                          have exw : Ext X.K H10 (upd H10 D (.lst (xs ++ [v]))) α10 α10 := Ext.wr g1
                          exact ⟨n, Nat.lt_succ_self n, i + 1, σ8, ρ6, _, α10, _, a1, a2, a3, ((sr8.mono ex9).mono ex10).mono exw, hr10.wr aD10 g1 (g2.append (.cons rp10 .nil)), ((ex5.trans ex9).trans ex10).trans exw, en⟩
                        · rw [if_neg cz] at en
                          cases en
              rcases tst with ⟨rfl, ec⟩ | ⟨e, rfl, tt', ptt, qtt⟩
              · refine wpAny_tests_nil ?_
                exact after true M5 H8 α5 s8 I8 Ext.refl hr5 (by rw [ec])
              · refine wpAny_tests_one ?_
                cases ec : c ρ6 M5 with
                | exc x9 M10 => rw [ec] at en; cases en
                | bad => rw [ec] at en; cases en
                | ok kk M8 =>
                  have tv' := ptt _ s8 σ8 H8 (fun b H' => b = kk ∧ ∃ α', Ext X.K H8 H' α5 α' ∧ HR X.K H' α' M8) I8 (qtt σ8 ρ6 H8 α5 M5 _ (by rw [YK]; exact sr8) (by rw [YK]; exact hr5) (by
                    rw [ec, YK]
                    exact fun v H' α' e h r => ⟨r, α', e, h⟩))
                  rw [Yp, Yw, YA, Ye] at tv'
                  refine wpAny_mono tv' (fun b s9 ⟨H9, I9, zb, α9, ex9, hr9⟩ => ?_) (fun _ _ z => by rw [← hX] at z; exact z)
                  subst zb
                  exact after b M8 H9 α9 s9 I9 ex9 hr9 ec
    exact codeAny_compStart_list loop (T.self X.A 0 _ _ _ st4 loop)
end
end DL
end
section
set_option Elab.async false
set_option linter.all false
set_option maxRecDepth 100000
set_option maxHeartbeats 4000000
namespace DL
open PySem PySem.Spec PyProof.Rows L2
theorem ZmM {names : List (Str × NameKind)} (h : names.all (fun y => y.2 != .cell && y.2 != .free) = true) (x : Str) : ¬ (names.lookup x = some .cell ∨ names.lookup x = some .free) := by
  induction names with
  | nil => intro z; rcases z with z | z <;> simp at z
  | cons y r ih =>
    rw [List.all_cons, Bool.and_eq_true] at h
    obtain ⟨n, kd⟩ := y
    rw [List.lookup_cons]
    cases e : x == n with
    | true =>
      simp only
      intro z
      have h1 := h.1
      rcases z with z | z <;> (cases z; simp at h1)
    | false => exact ih h.2
theorem Zjh {names : List (Str × NameKind)} {env : Env} (h : names.all (fun y => y.2 != .cell && y.2 != .free) = true) :
    (names.map fun (n, k) => if (k == NameKind.free && env.scope.kind == .function && env.kindOf n == some .cell) then (n, NameKind.cell) else (n, k)) = names := by
  induction names with
  | nil => rfl
  | cons y r ih =>
    rw [List.all_cons, Bool.and_eq_true] at h
    obtain ⟨n, kd⟩ := y
    have hk : (kd == NameKind.free) = false := by
      have h1 := h.1
      rw [Bool.and_eq_true] at h1
      have h2 := h1.2
      cases kd <;> first | rfl | simp at h2
    rw [List.map_cons, ih h.2]
    simp [hk]
theorem ZqS {X : Cx} {scope : Scope} {N : List Str} {k : Nat} (h : scope.names.all (fun y => y.2 != .cell && y.2 != .free) = true) (hk : scope.kind = .function) (hn : ∀ y ∈ scope.names, y.2 = .local → scope.names.lookup y.1 = some .local) (hl : N.length = k) : Blk X scope [] N k [] where
  clos := closureFor_none fun y hy z => by
    have := List.all_eq_true.mp h y hy
    rw [z] at this
    simp at this
  kind := hk
  cell := fun y hy z => by
    have := List.all_eq_true.mp h y hy
    rw [z] at this
    simp at this
  names := hn
  sub := fun x c z => (by cases z)
  has := fun x z => by
    have e : (relabel scope X.env).names = scope.names := Zjh h
    rw [e] at z
    exact absurd z (ZmM h x)
  len := hl
  at_ := fun j i z => (by simp at z)
theorem ZfK {env : Env} : ∀ (names : List (Str × NameKind)) (acc : List (Str × Addr)), (∀ y ∈ names, y.2 = .free → ∃ c, env.cells.lookup y.1 = some c) →
    (forIn names acc fun (x : Str × NameKind) (cs : List (Str × Addr)) => if x.2 == NameKind.free then (do let a ← cellOf env x.1; pure (ForInStep.yield ((x.1, a) :: cs))) else (pure (ForInStep.yield cs) : Sem _)) =
      (pure (((names.filter fun y => y.2 == .free).map fun y => (y.1, (env.cells.lookup y.1).getD 0)).reverse ++ acc) : Sem (List (Str × Addr)))
  | [], acc, _ => by simp
  | (n, kd) :: r, acc, h => by
    rw [List.forIn_cons]
    by_cases hk : (kd == NameKind.free) = true
    · obtain ⟨c, hc⟩ := h (n, kd) List.mem_cons_self (by simpa using hk)
      have e1 : cellOf env n = pure c := by unfold cellOf; rw [hc]
      have ih := ZfK r ((n, c) :: acc) fun y hy => h y (List.mem_cons_of_mem _ hy)
      simp only [hk, if_true, e1, pure_bind]
      refine Eq.trans ih ?_
      simp [List.filter_cons, hk, hc]
    · have ih := ZfK r acc fun y hy => h y (List.mem_cons_of_mem _ hy)
      simp only [hk, if_false, pure_bind]
      refine Eq.trans ih ?_
      simp [List.filter_cons, hk]
noncomputable def clF (scope : Scope) (env : Env) : List (Str × Addr) := ((scope.names.filter fun y => y.2 == .free).map fun y => (y.1, (env.cells.lookup y.1).getD 0)).reverse
theorem Zd8 {env : Env} : ∀ {l : List (Str × NameKind)} {x : Str} {c : Addr}, (l.map fun y => (y.1, (env.cells.lookup y.1).getD 0)).lookup x = some c → c = (env.cells.lookup x).getD 0 ∧ ∃ y ∈ l, y.1 = x
  | [], x, c, h => by simp at h
  | y :: r, x, c, h => by
    rw [List.map_cons, List.lookup_cons] at h
    cases e : x == y.1 with
    | true =>
      rw [e] at h
      have ex : x = y.1 := by simpa using e
      cases h
      exact ⟨by rw [ex], y, List.mem_cons_self, ex.symm⟩
    | false =>
      rw [e] at h
      obtain ⟨h1, z, h2, h3⟩ := Zd8 h
      exact ⟨h1, z, List.mem_cons_of_mem _ h2, h3⟩
theorem ZcP {α : Type} : ∀ {l : List (Str × α)} {x : Str}, (∃ y ∈ l, y.1 = x) → ∃ c, l.lookup x = some c
  | [], x, h => by obtain ⟨y, h1, _⟩ := h; simp at h1
  | z :: r, x, h => by
    rw [List.lookup_cons]
    cases e : x == z.1 with
    | true => exact ⟨_, rfl⟩
    | false =>
      obtain ⟨y, h1, h2⟩ := h
      rcases List.mem_cons.mp h1 with q | q
      · subst q; rw [h2] at e; simp at e
      · exact ZcP ⟨y, q, h2⟩
theorem ZaR {env : Env} (nc : ∀ n, env.scope.names.lookup n = env.kindOf n) : ∀ {names : List (Str × NameKind)} {x : Str} {kd : NameKind}, (names.map fun (n, k) => if (k == NameKind.free && env.scope.kind == .function && env.kindOf n == some .cell) then (n, NameKind.cell) else (n, k)).lookup x = some kd →
    names.lookup x = some kd ∨ (names.lookup x = some .free ∧ kd = .cell)
  | [], x, kd, h => by simp at h
  | (n, q) :: r, x, kd, h => by
    rw [List.map_cons, List.lookup_cons] at h
    rw [List.lookup_cons]
    dsimp only at h ⊢
    by_cases c : (q == NameKind.free && env.scope.kind == .function && env.kindOf n == some .cell) = true
    · rw [if_pos c] at h
      dsimp only at h
      cases e : x == n with
      | true =>
        rw [e] at h
        cases h
        simp only [Bool.and_eq_true, beq_iff_eq] at c
        exact .inr ⟨by rw [c.1.1], rfl⟩
      | false => rw [e] at h; exact ZaR nc h
    · rw [if_neg c] at h
      dsimp only at h
      cases e : x == n with
      | true => rw [e] at h; exact .inl h
      | false => rw [e] at h; exact ZaR nc h
theorem Zcb {env : Env} : ∀ {names : List (Str × NameKind)} {x : Str}, names.lookup x = some .free → (∃ kd, (kd = NameKind.cell ∨ kd = NameKind.free) ∧ (names.map fun (n, k) => if (k == NameKind.free && env.scope.kind == .function && env.kindOf n == some .cell) then (n, NameKind.cell) else (n, k)).lookup x = some kd)
  | [], x, h => by simp at h
  | (n, q) :: r, x, h => by
    rw [List.lookup_cons] at h
    rw [List.map_cons, List.lookup_cons]
    by_cases c : (q == NameKind.free && env.scope.kind == .function && env.kindOf n == some .cell) = true
    · dsimp only
      rw [if_pos c]
      cases e : x == n with
      | true => exact ⟨_, .inl rfl, rfl⟩
      | false => rw [e] at h; exact Zcb h
    · dsimp only
      rw [if_neg c]
      cases e : x == n with
      | true => rw [e] at h; exact ⟨q, .inr (Option.some.inj h), rfl⟩
      | false => rw [e] at h; exact Zcb h
noncomputable def ZqT (XN N : List Str) (dn sn : List (Str × NameKind)) (k : Nat) (fr : List Nat) : Bool :=
  (sn.all fun y => y.2 != .cell && (y.2 != .free || dn.lookup y.1 == some .cell) && (y.2 != .local || sn.lookup y.1 == some .local)) && N.length == k + fr.length &&
    (List.range fr.length).all fun j => match fr[j]? with
      | some i => (match N[k + j]?, XN[i]? with | some x, some y => x == y && dn.lookup x == some .cell && sn.lookup x == some .free | _, _ => false)
      | none => false
theorem ZqU {X : Cx} {scope : Scope} {N : List Str} {k n : Nat} {fr : List Nat} {XN : List Str} {dn : List (Str × NameKind)} (hN : X.N = XN) (hd : X.env.scope.names = dn) (hc : X.env.cells = cellsFrom n dn []) (hk : scope.kind = .function) (h : ZqT XN N dn scope.names k fr = true) : Blk X scope (clF scope X.env) N k fr := by
  unfold ZqT at h
  simp only [Bool.and_eq_true, List.all_eq_true, bne_iff_ne, ne_eq, Bool.or_eq_true, beq_iff_eq] at h
  obtain ⟨⟨h1, h2⟩, h3⟩ := h
  have kind : ∀ x, X.env.kindOf x = dn.lookup x := fun x => by rw [← hd]; rfl
  have cel : ∀ x, dn.lookup x = some .cell → ∃ c, X.env.cells.lookup x = some c := fun x e => by
    have := PySem.W.cellsFrom_some dn n [] (.inl e)
    rw [hc]
    exact Option.isSome_iff_exists.mp this
  have frc : ∀ y ∈ scope.names, y.2 = .free → ∃ c, X.env.cells.lookup y.1 = some c := fun y hy e => by
    rcases (h1 y hy).1.2 with z | z
    · exact absurd e z
    · exact cel _ z
  have sub : ∀ x c, (clF scope X.env).lookup x = some c → X.env.cells.lookup x = some c := fun x c e => by
    unfold clF at e
    rw [← List.map_reverse] at e
    obtain ⟨e1, y, e2, e3⟩ := Zd8 e
    have e4 := List.mem_filter.mp (List.mem_reverse.mp e2)
    obtain ⟨c', g⟩ := frc y e4.1 (by simpa using e4.2)
    rw [e3] at g
    rw [g] at e1 ⊢
    rw [e1]
    rfl
  have has : ∀ x, scope.names.lookup x = some .free → ∃ c, (clF scope X.env).lookup x = some c := fun x e => by
    refine ZcP ?_
    have m := PySem.mem_of_lookup e
    exact ⟨(x, (X.env.cells.lookup x).getD 0), List.mem_reverse.mpr (List.mem_map.mpr ⟨(x, .free), List.mem_filter.mpr ⟨m, by simp⟩, rfl⟩), rfl⟩
  refine ⟨?_, hk, fun y hy => (h1 y hy).1.1, fun y hy e => ?_, sub, fun x z => ?_, h2, fun j i e => ?_⟩
  · have := ZfK (env := X.env) scope.names [] frc
    rw [List.append_nil] at this
    unfold closureFor
    exact (congrArg (fun (m : Sem (List (Str × Addr))) => m >>= fun cs => (pure cs : Sem (List (Str × Addr)))) this).trans (pure_bind _ _)
  · rcases (h1 y hy).2 with z | z
    · exact absurd e z
    · exact z
  · have nc : ∀ m, X.env.scope.names.lookup m = X.env.kindOf m := fun m => rfl
    refine has x ?_
    rcases z with z | z
    · rcases ZaR nc z with q | q
      · exact absurd rfl (h1 _ (PySem.mem_of_lookup q)).1.1
      · exact q.1
    · rcases ZaR nc z with q | q
      · exact q
      · cases q.2
  · have hj : j < fr.length := (List.getElem?_eq_some_iff.mp e).1
    have q := h3 j (List.mem_range.mpr hj)
    rw [e] at q
    dsimp only at q
    cases e1 : N[k + j]? with
    | none => rw [e1] at q; cases q
    | some x =>
      cases e2 : XN[i]? with
      | none => rw [e1, e2] at q; cases q
      | some y =>
        rw [e1, e2] at q
        simp only [Bool.and_eq_true, beq_iff_eq] at q
        obtain ⟨⟨q1, q2⟩, q3⟩ := q
        subst q1
        obtain ⟨kd, r1, r2⟩ := Zcb (env := X.env) q3
        obtain ⟨c, r3⟩ := has x q3
        refine ⟨x, rfl, by rw [hN]; exact e2, by rw [kind]; exact q2, ?_, r3.trans (sub x c r3).symm⟩
        rcases r1 with r1 | r1
        · exact .inl (r1 ▸ r2)
        · exact .inr (r1 ▸ r2)
section
variable {X : Cx} {ξ : XK}
noncomputable def ZqV (X : Cx) : List V → Hp → VK → Prop := fun vs H Q => ∃ (p : Addr) (bs : List Bool), vs = [.ref p] ∧ SqL X.K H p (bs.map V.bl) ∧ Q (.bl (bs.all id)) H
theorem Ze7 : ∀ {bs : List Bool} {us : List Value} {i : Nat} {u : Value}, Z5 (bs.map V.bl) us → us[i]? = some u → ∃ b, bs[i]? = some b ∧ u = .bool b
  | [], us, i, u, h, e => by cases h; simp at e
  | b :: r, us, i, u, h, e => by
    cases h with
    | cons h1 h2 =>
      cases i with
      | zero => simp at e; subst e; exact ⟨b, rfl, h1⟩
      | succ i => simp at e; obtain ⟨b', g1, g2⟩ := Ze7 h2 e; exact ⟨b', by simpa using g1, g2⟩
theorem ZgU (bs : List Bool) : ((List.range bs.length).all fun i => (bs[i]?).getD true) = bs.all id := by
  rw [Bool.eq_iff_iff, List.all_eq_true, List.all_eq_true]
  constructor
  · intro h b hb
    obtain ⟨i, hi, e⟩ := List.getElem_of_mem hb
    have := h i (List.mem_range.mpr hi)
    simp only [List.getElem?_eq_getElem hi, Option.getD_some, e] at this
    exact this
  · intro h i hi
    have hi' := List.mem_range.mp hi
    simp only [List.getElem?_eq_getElem hi', Option.getD_some]
    exact h _ (List.getElem_mem hi')
theorem Zgn (hc : X.calm = true) : Zcr X (.builtin "all") (ZqV X) := by
  intro pins s σ H vs us Q I rs ⟨p, bs, e, hl, q⟩
  subst e
  obtain ⟨u, rfl, ru⟩ := ZfD rs
  cases ru
  obtain ⟨its, hv, hp, hz⟩ := I.list hl
  have hlt : p < s.heap.objs.size := by obtain ⟨_, e, _⟩ := hp.isList; exact Heap.lt_size e
  refine call_all_walk (wpAny_pyIter_list hp.isList ?_)
  refine ⟨s.heap.objs.size, [s.heap.objs.size, p], [s.heap.objs.size], its.toArray.size, _, _, fun i => (bs[i]?).getD true, rfl, Walks.list (A := X.A.in1) (I.ok.hd hc) _ p (Nat.ne_of_lt hlt) its.toArray,
    ⟨⟨_, Heap.get?_push_size _ rfl, rfl, rfl⟩, hp.isList.push _⟩, fun i v s' Q' E' hP hQ => ?_, fun h' tk hk => ?_⟩
  · obtain ⟨b, e, rfl⟩ := Ze7 (i := i) (u := v) hv (by simpa using hP)
    simp only [e, Option.getD_some] at hQ
    exact wpAny_truthy_bool hQ
  · have e : ((List.range its.toArray.size).all fun i => (bs[i]?).getD true) = bs.all id := by
      rw [List.size_toArray, ← hv.length, List.length_map]; exact ZgU bs
    rw [e]
    exact ⟨.bl (bs.all id), H, I.kept fun b o e => hk b o (fun hm => by rw [List.mem_singleton.mp hm] at e; exact Nat.lt_irrefl _ (Heap.lt_size e)) (Heap.get?_push_of_some _ e), rfl, q⟩
noncomputable def ZaD : List D → Option (List Bool)
  | [] => some []
  | .bl b :: r => match ZaD r with | some bs => some (b :: bs) | none => none
  | _ :: _ => none
theorem Ze8 {K : PySem.W.Frag} {H : Hp} {α : List Addr} : ∀ {vs : List V} {ds : List D} {bs : List Bool}, Reps K H α vs ds → ZaD ds = some bs → vs = bs.map V.bl
  | _, _, _, .nil, e => by cases e; rfl
  | _, _, bs, .cons (d := d) (ds := ds) r t, e => by
    cases r with
    | bl b =>
      cases e1 : ZaD ds with
      | none => simp only [ZaD, e1] at e; cases e
      | some cs =>
        simp only [ZaD, e1, Option.some.injEq] at e
        subst e
        rw [Ze8 t e1]
        rfl
    | _ => cases e
noncomputable def bAll : List D → Sto → Out D := fun ds M => match ds with
  | [.ref n] => (match M[n]? with | some (.lst xs) => (match ZaD xs with | some bs => .ok (.bl (bs.all id)) M | none => .bad) | none => .bad)
  | _ => .bad
theorem Zj3 : CO X ξ (ZqV X) bAll := by
  intro H α M vs ds Q h rs q
  match rs with
  | .nil => exact q.elim
  | .cons r (.cons _ _) => cases r <;> exact q.elim
  | .cons r .nil =>
    cases r with
    | @ref p n hp =>
      cases e1 : M[n]? with
      | none => simp only [bAll, e1] at q; exact q.elim
      | some so =>
        cases so with
        | lst es =>
          cases e2 : ZaD es with
          | none => simp only [bAll, e1, e2] at q; exact q.elim
          | some bs =>
            simp only [bAll, e1, e2] at q
            obtain ⟨xs, g1, g2⟩ := h.at hp e1
            have := Ze8 g2 e2
            subst this
            exact ⟨p, bs, rfl, SqL.of g1, q _ H α Ext.refl h (.bl _)⟩
    | _ => exact q.elim
end
section
variable {prog : Program} {w : World} {A : Around} {E : Value → Shared → Prop} {s : Shared}
theorem Zdw {sl : Addr} {t : Tok} {n : Nat} {Q : Int × Int × Nat → Shared → Prop} (hs : s.heap.IsSliceOf sl .none .none (.int (-1) t)) (h : Q ((n : Int) - 1, -1, n) s) : wpAny (model prog w) A (Builtin.Slice.sliceApplied (.ref sl) (pure (n : Int))) Q E s := by
  obtain ⟨os, hos, hcs, hds⟩ := id hs
  unfold Builtin.Slice.sliceApplied Builtin.Slice.sliceFields
  refine wpAny_bind (wpAny_bind (wpAny_field hos hds (x := .none) rfl (wpAny_bind (wpAny_field hos hds (x := .none) rfl (wpAny_bind (wpAny_field hos hds (x := .int (-1) t) rfl (wpAny_pure ?_)))))))
  refine wpAny_bind (HT.ZbE (.int (-1) t) ?_)
  show wpAny _ _ (if ((-1 : Int) == 0) = true then _ else _) _ _ s
  rw [if_neg (by decide)]
  refine wpAny_bind (HT.ZbE .none (wpAny_bind (HT.ZbE .none (wpAny_bind (wpAny_pure ?_)))))
  have e1 : Builtin.Slice.sliceAdjust none none (-1) (n : Int) = ((n : Int) - 1, -1) := rfl
  have e2 : Builtin.Slice.slicePlaces ((n : Int) - 1) (-1) (-1) = n := by
    unfold Builtin.Slice.slicePlaces
    rw [if_neg (by decide)]
    by_cases c : 0 < n
    · rw [if_pos (by omega)]
      have : ((n : Int) - 1 - -1 - 1) / (- -1) + 1 = n := by
        rw [show (- -1 : Int) = 1 from rfl, Int.ediv_one]; omega
      rw [this]
      omega
    · rw [if_neg (by omega)]
      omega
  show wpAny _ _ (match Builtin.Slice.sliceAdjust none none (-1) (n : Int) with | (lo, hi) => pure (lo, (-1 : Int), Builtin.Slice.slicePlaces lo hi (-1))) _ _ s
  rw [e1]
  show wpAny _ _ (pure ((n : Int) - 1, (-1 : Int), Builtin.Slice.slicePlaces ((n : Int) - 1) (-1) (-1))) _ _ s
  rw [e2]
  exact wpAny_pure h
theorem Zej {α β : Type} {f g : α → Option β} : ∀ {l : List α}, (∀ m ∈ l, f m = g m) → l.filterMap f = l.filterMap g
  | [], _ => rfl
  | x :: r, h => by
    rw [List.filterMap_cons, List.filterMap_cons, h x List.mem_cons_self, Zej fun m hm => h m (List.mem_cons_of_mem _ hm)]
theorem Zgo (xs : Array Value) : ((List.range xs.size).filterMap fun (m : Nat) => xs[((xs.size : Int) - 1 + (m : Int) * (-1)).toNat]?).toArray = xs.toList.reverse.toArray := by
  congr 1
  apply List.ext_getElem?
  intro i
  have all : (List.range xs.size).filterMap (fun (m : Nat) => xs[((xs.size : Int) - 1 + (m : Int) * (-1)).toNat]?) = (List.range xs.size).map fun m => xs[xs.size - 1 - m]?.getD .none := by
    rw [← List.filterMap_eq_map]
    refine Zej fun m hm => ?_
    have hm' := List.mem_range.mp hm
    have e : ((xs.size : Int) - 1 + (m : Int) * (-1)).toNat = xs.size - 1 - m := by omega
    rw [e]
    have hlt : xs.size - 1 - m < xs.size := by omega
    simp [hlt]
  rw [all]
  by_cases hi : i < xs.size
  · have hlt : xs.size - 1 - i < xs.size := by omega
    rw [List.getElem?_map, List.getElem?_range hi, List.getElem?_reverse (by simpa using hi)]
    simp [hlt]
  · rw [List.getElem?_eq_none (by simpa using hi), List.getElem?_eq_none (by simpa using hi)]
theorem Zc9 {t sl : Addr} {items : Array Value} {u : Tok} {Q : Value → Shared → Prop} (ht : IsTup s.heap t items) (hs : s.heap.IsSliceOf sl .none .none (.int (-1) u))
    (h : Q (.ref s.heap.objs.size) { s with heap := s.heap.push { cls := .type "tuple", data := .seq items.toList.reverse.toArray } }) (hsz : items.size ≤ sizeLine) : wpAny (model prog w) A (getItem (.ref t) (.ref sl)) Q E s := by
  have htake : sizeOk (.seq items.toList.reverse.toArray) := by
    show items.toList.reverse.toArray.size ≤ sizeLine
    rw [List.size_toArray, List.length_reverse, Array.length_toList]
    exact hsz
  obtain ⟨os, hos, hcs, hds⟩ := id hs
  have hTs : s.TypeIs (.ref sl) "slice" := ⟨os, hos, hcs⟩
  unfold getItem
  try with_reducible refine wpAny_holding ?_
  first | refine wpAny_bind (wpAny_pure ?_) | skip
  refine wpAny_bind (wpAny_sequenceKey ht.typeIs (by decide) ?_)
  refine wpAny_bind (wpAny_callSpecial?_slot (name := Str.ofString "__getitem__") ht.typeIs PyProof.Rows.slot_tuple_getitem
    (wpAny_call_entry PyProof.Rows.slot_tuple_getitem ht.typeIs entry_tuple_getitem ?_ (args_tuple_getitem _ _)))
  show wpAny _ _ (Builtin.Tuple.tupleItemsOf (.ref t) >>= _) _ _ s
  refine wpAny_bind (tupleItemsOf_ ht ?_)
  refine wpAny_bind (wpAny_typeOf hTs ?_)
  rw [if_pos (by decide)]
  refine wpAny_bind (Zdw hs ?_)
  have hno : ¬ ((((items.size : Int) - 1) == 0 && (-1 : Int) == 1 && items.size == items.size) = true) := by
    intro q
    rw [Bool.and_eq_true, Bool.and_eq_true] at q
    exact absurd q.1.2 (by decide)
  show wpAny _ _ (if (((items.size : Int) - 1) == 0 && (-1 : Int) == 1 && items.size == items.size) = true then _ else _) _ _ s
  rw [if_neg hno, Zgo]
  first
    | exact wpAny_bind (m := Builtin.Tuple.tupleExact _) (wpAny_newObj_type (wpAny_pure ⟨_, rfl, wpAny_pure h⟩) htake)
    | exact wpAny_bind (m := Builtin.Tuple.tupleExact _) (wpAny_newObj_type (wpAny_bind (wpAny_pure (wpAny_pure ⟨_, rfl, wpAny_pure h⟩))) htake)
    | exact wpAny_bind (wpAny_bind (m := Builtin.Tuple.tupleExact _) (wpAny_newObj_type (wpAny_pure (wpAny_pure ⟨_, rfl, wpAny_pure h⟩)) htake))
    | exact wpAny_bind (wpAny_bind (m := Builtin.Tuple.tupleExact _) (wpAny_newObj_type (wpAny_pure ⟨_, rfl, wpAny_pure h⟩) htake))
end
section
variable {X : Cx} {ξ : XK} {e : Expr} {f : Ev} {p2 p3 p4 pos : Pos} {j : Nat}
theorem Reps.rev {K : PySem.W.Frag} {H : Hp} {α : List Addr} : ∀ {vs : List V} {ds : List D}, Reps K H α vs ds → Reps K H α vs.reverse ds.reverse
  | _, _, .nil => .nil
  | _, _, .cons r t => by
    rw [List.reverse_cons, List.reverse_cons]
    exact (Reps.rev t).append (.cons r .nil)
end
end DL
end
section
set_option Elab.async false
set_option linter.all false
set_option maxRecDepth 100000
set_option maxHeartbeats 4000000
namespace DL
open PySem PySem.Spec PyProof.Rows L2
open PySem.W (nsIn excIn tailIn nsOkIn mroIn clsIn typeIn findIn specialIn takesIn kitOne Looks)
noncomputable abbrev bmV : List Value := [.type "ValueError", .type "Exception", .type "BaseException", .type "object"]
noncomputable def Zk0 (K : PySem.W.Frag) (c : Str) : Option Addr := match nsIn K mainGlobals c with | some (some (.ref C)) => some C | _ => none
theorem Zji {K : PySem.W.Frag} {c : Str} {C : Addr} (h : Zk0 K c = some C) : nsIn K mainGlobals c = some (some (.ref C)) := by
  unfold Zk0 at h
  split at h
  · rename_i C' e; cases h; exact e
  · cases h
noncomputable def Zh3 (K : PySem.W.Frag) (c : Str) : Bool := match Zk0 K c with
  | some C => excIn K C bmV "ValueError.__new__" && findIn K (.ref C) "__getattribute__" == some (some (.builtin "BaseException.__getattribute__")) && findIn K (.ref C) "__getattr__" == some none && findIn K (.ref C) "__class__" == some (some (.builtin "object.__class__")) &&
    specialIn K (.builtin "object.__class__") "__get__" == some (some (.builtin "getset_descriptor.__get__")) && takesIn K (.builtin "object.__class__") == some true && mroIn K C (.type "BaseException") == some true && mroIn K C (.type "object") == some true && (clsIn K C).isSome
  | none => false
theorem Zk1 {K : PySem.W.Frag} {c : Str} (h : Zh3 K c = true) : ∃ C, nsIn K mainGlobals c = some (some (.ref C)) ∧ excIn K C bmV "ValueError.__new__" = true ∧ DQ.ExcC K C := by
  unfold Zh3 at h
  split at h
  · rename_i C e
    simp only [Bool.and_eq_true, beq_iff_eq] at h
    obtain ⟨⟨⟨⟨⟨⟨⟨⟨h1, h2⟩, h3⟩, h4⟩, h5⟩, h6⟩, h7⟩, h8⟩, h9⟩ := h
    exact ⟨C, Zji e, h1, h2, h3, h4, h5, h6, h7, h8, h9⟩
  · cases h
theorem Zk2 {K : PySem.W.Frag} {h : Heap} {C : Addr} {bmB : List Value} {newId : String} (X : K.In h) (q : excIn K C bmB newId = true) :
    ∃ bm N nm q bs hdct sn sub ab col dd k0 k1 k2 k3 k5 mN, h.get? C = some (excClassObj nm q C N bs bm hdct sn sub ab col dd k0 k1 k2 k3 k5 newId) ∧ h.Ns N mN ∧ mN "__init__" = none ∧ OwnTail h bmB bm := by
  unfold excIn at q
  split at q
  · rename_i dd cd sl ho
    split at q
    · rename_i C' bm k0 k1 k2 k3 n k5 hm hs
      simp only [Bool.and_eq_true, beq_iff_eq, Bool.not_eq_true'] at q
      obtain ⟨⟨⟨⟨⟨rfl, rfl⟩, hdel⟩, ht⟩, hok⟩, hni⟩ := q
      obtain ⟨nm, bs, mro, ns, qn, hd, sn, sub, ab, col, del⟩ := cd
      dsimp only at hm hdel hok hni
      subst hm hdel
      obtain ⟨l⟩ := sl
      simp only at hs
      subst hs
      exact ⟨bm, ns, nm, qn, bs, hd, sn, sub, ab, col, dd, k0, k1, k2, k3, k5, _, X _ _ ho, .of_isNs (PySem.W.isNs_of_in X hok), PySem.W.nsMap_none_of_in X hok hni, PySem.W.tail_of_in X ht⟩
    · cases q
  · cases q
noncomputable def ZqW (tab : List (Str × Bool)) (f : Ev) : Ev := fun ρ M => (f ρ M).bind fun x M1 => match x with | .err c _ => (match tab.lookup c with | some b => .ok (.bl b) M1 | none => .bad) | _ => .bad
section
variable {X : Cx} {ξ : XK} {e : Expr} {fa : Ev} {p pos : Pos} {tab : List (Str × Bool)}
noncomputable def Zbn (c : Str) (fs : Av) : Sv := fun ρ M => Zal (fs ρ M) fun ds M1 => if ds.length ≤ 1000 then .exc c M1 else .bad
theorem ZcQ {x : Str} {np cpos : Pos} {a : Expr} {as : List Expr} {fs : Av} (T : Thr X ξ) (hx : Zh3 X.K x = true) (gl : ∀ c v, nsIn X.K mainGlobals c = some (some v) → X.mg c = some v) (hh : X.A.handled = none) (ha : DA X ξ (a :: as) fs) (hg : Gl X x := by rfl) (hdb : (x == ("__debug__" : Str)) = false := by decide)
    (he : starEach (a :: as) X.env = (false, eval a X.env) :: starEach as X.env := by rfl) (hpl : (backTo cpos (starEach as X.env)).any (·.1) = false := by rfl) : DS X ξ (.Raise (some (.Call (.Name x np) (a :: as) [] cpos)) none pos) (Zbn x fs) := by
  obtain ⟨ta, pa, qa⟩ := ha
  obtain ⟨C, hC, hq, _⟩ := Zk1 hx
  refine ⟨fun Dn σ H => ta σ H fun vs H1 => vs.length ≤ sizeLine ∧ ξ (.ref C) none H1, fun pins s σ H Dn I h => ?_, fun σ ρ H α M Dn s h q => ?_⟩
  · obtain ⟨tl, N, nm, q, bs, hdct, sn, sub, ab, col, dd, k0, k1, k2, k3, k5, mN, gC, hN, hni, TL⟩ := Zk2 I.ok.mod.kin hq
    refine wpAny_Raise_call_subT (C := C) (nm := nm) (q := q) (N := N) (bs := bs) (bm := tl) (hdct := hdct) (sn := sn) (sub := sub) (ab := ab) (col := col) (dd := dd) (k0 := k0) (k1 := k1) (k2 := k2) (k3 := k3) (k5 := k5) F.excBase_ValueError (mN := mN)
      (TL.hasType F.excBase_ValueError.hasBase) hh (by rw [he]; show (false || (backTo cpos (starEach as X.env)).any (·.1)) = false; rw [hpl]; rfl) hni (Zho I hg (gl x _ hC) ⟨rfl, ?_⟩ hdb)
    have hs := pa cpos pins s σ H _ I h
    rw [he] at hs ⊢
    refine Calls.evalArgs_plain (wpAny_mono hs (fun us s2 ⟨vs, H1, I1, r1, z1, z2⟩ => ⟨rfl, by rw [← r1.length]; exact z1, I1.bk _ _ gC, hN.keeps I1.bk, TL.keeps I1.bk, fun h' e m => ?_⟩) fun _ _ y => y)
    obtain ⟨t, g1, g2, g3⟩ := m.there
    exact T.mak pins σ H1 s2 h' e _ _ C I1 m.keeps m.new g1 rfl rfl rfl rfl rfl z2
  · refine qa σ ρ H α M _ s h (FP.seq q fun ds M1 vs H1 α1 e1 h1 r1 w1 => ?_)
    by_cases hl : ds.length ≤ 1000
    · rw [if_pos hl] at w1
      exact ⟨by rw [r1.length]; exact small hl, w1 C H1 α1 hC Ext.refl h1⟩
    · rw [if_neg hl] at w1
      exact w1.elim
end
end DL
end
section
set_option Elab.async false
set_option linter.all false
set_option maxRecDepth 100000
set_option maxHeartbeats 4000000
namespace DL
open PySem PySem.Spec PyProof.Rows L2
open PySem.W (nsIn excIn tailIn nsOkIn mroIn clsIn typeIn findIn specialIn takesIn kitOne Looks looks_mroIn looks_typeIn)
section
variable {X : Cx} {pins pins' pn : List (Addr × Obj)} {σ : L2.St} {H H' : Hp} {s : Shared} {xe : Value → Shared → Prop} {e : Addr}
end
noncomputable def ZqX (gb : Sv) (cs : List Str) (i : Nat) (gh : Sv) : Sv := fun ρ M => match gb ρ M with
  | .exc c M1 => if cs.contains c = true then (match gh ((List.replicate ρ.length none).set i (some (.err c []))) M1 with
    | .ret d M2 => .ret d M2
    | .nx _ M2 => .nx (List.replicate ρ.length none) M2
    | _ => .bad) else .bad
  | o => o
section
variable {X : Cx} {ξ : XK} {d n : Str} {cs : List Str} {i : Nat} {body suite : List Stmt} {b0 : Stmt} {gb gh : Sv} {pos hpos np : Pos}
end
theorem ZI {k : Nat} {A : Around} {env : Env} (hr : Room k (A.deeper env)) (h : 100 ≤ k) : A.handled.isNone = true := by
  have e : A.handled = none := hr.hd h
  rw [e]
  rfl
end DL
end
section
set_option Elab.async false
set_option linter.all false
set_option maxRecDepth 100000
set_option maxHeartbeats 4000000
namespace DL
open PySem PySem.Spec PyProof.Rows L2
noncomputable abbrev Me := D → List D → Sto → Out D
noncomputable def MO (X : Cx) (ξ : XK) (r : V → List V → Hp → VK → Prop) (g : Me) : Prop := ∀ H α M v vs x ds Q, HR X.K H α M → Rep X.K H α v x → Reps X.K H α vs ds → OP X.K H α ξ Q (g x ds M) → r v vs H Q
theorem HR.wrE {K : PySem.W.Frag} {H : Hp} {α : List Addr} {M : Sto} {n : Nat} {p : Addr} {xs ys : List V} {ds : List D} (h : HR K H α M) (e : α[n]? = some p) (hp : H p = some (.lst ys)) (r : Reps K H α xs ds) : Ext K H (upd H p (.lst xs)) α α ∧ HR K (upd H p (.lst xs)) α (M.set n (.lst ds)) :=
  ⟨Ext.wr hp, h.wr e hp r⟩
section
variable {X : Cx} {ξ : XK} {o e : Expr} {es : List Expr} {fo fa : Ev} {fs : Av} {name : Str} {apos cpos pos : Pos} {T id : String} {r : V → List V → Hp → VK → Prop} {g : Me}
noncomputable def Zk3 (x : D) (M : Sto) : Bool := match x with | .ref n => M[n]?.isSome | _ => false
noncomputable def Zc6 (g : Me) (fo : Ev) (fs : Av) : Ev := fun ρ M => (fo ρ M).bind fun x M1 => if Zk3 x M1 = true then (fs ρ M1).bind fun ds M2 => g x ds M2 else .bad
theorem Zk4 {K : PySem.W.Frag} {H : Hp} {α : List Addr} {M : Sto} {v : V} {x : D} (h : HR K H α M) (rx : Rep K H α v x) (k : Zk3 x M = true) : tyV K "list" v H := by
  cases rx with
  | @ref p n hp =>
    obtain ⟨xs, g⟩ := h.some_at hp
    exact .inl ⟨rfl, _, SqL.of g⟩
  | _ => cases k
theorem ZmN (slot : Slot "list" name id) (hty : typeOf (.builtin id) = pure (.type "method_descriptor")) (hm : MtR X id r) (hf : MO X ξ r g) (ho : DE X ξ o fo) (ha : DA X ξ (e :: es) fs)
    (hbase : attributeBase o name X.env (eval o X.env) = eval o X.env := by rfl)
    (hfew : ((backTo cpos (starEach (e :: es) X.env)).all (fun x => !x.1) && (backToKw cpos (keywordEach [] X.env)).all (fun x => x.1.isSome)
      && decide ((e :: es).length + ([] : List Keyword).length + (if ([] : List Keyword).isEmpty then 0 else 1) < 30)) = true := by rfl)
    (hline : (apos.endLine == cpos.line) = true := by rfl) (hs : starEach (e :: es) X.env = (false, eval e X.env) :: starEach es X.env := by rfl) (hplain : (backTo cpos (starEach es X.env)).any (·.1) = false := by rfl) :
    DE X ξ (.Call (.Attribute o name apos) (e :: es) [] cpos) (Zc6 g fo fs) := by
  obtain ⟨to, po, qo⟩ := ho
  obtain ⟨ta, pa, qa⟩ := ha
  refine ⟨_, Zo9 PySem.F.plainAttrs_list slot hty hm po pa hbase hfew hline hs hplain, fun σ ρ H α M Q s h q => ?_⟩
  refine qo σ ρ H α M _ s h (OG.seq q fun x M1 v H1 α1 e1 h1 r1 q1 => ?_)
  by_cases k : Zk3 x M1 = true
  · rw [if_pos k] at q1
    exact ⟨Zk4 h1 r1 k, qa σ ρ H1 α1 M1 _ (s.mono e1) h1 (OG.seq q1 fun ds M2 vs H2 α2 e2 h2 r2 q2 => hf H2 α2 M2 v vs x ds Q h2 (Rep.mono e2 r1) r2 q2)⟩
  · rw [if_neg k] at q1
    exact q1.elim
noncomputable def mApp : Me := fun x ds M => match x, ds with
  | .ref n, [d] => (match M[n]? with | some (.lst xs) => if xs.length < 10000000 then .ok .non (M.set n (.lst (xs ++ [d]))) else .bad | none => .bad)
  | _, _ => .bad
theorem ZmO : MO X ξ rAppend mApp := by
  intro H α M v vs x ds Q h rx rs q
  cases rx with
  | @ref p n hp =>
    match rs with
    | .nil => exact q.elim
    | .cons _ (.cons _ _) => exact q.elim
    | .cons (v := u) (d := d) ru .nil =>
      cases em : M[n]? with
      | none => simp only [mApp, em] at q; exact q.elim
      | some so =>
        cases so with
        | lst es =>
          obtain ⟨xs, g1, g2⟩ := h.at hp em
          by_cases c : es.length < 10000000
          · simp only [mApp, em, if_pos c] at q
            obtain ⟨k1, k2⟩ := h.wrE hp g1 (g2.append (.cons ru .nil))
            exact ⟨p, xs, u, rfl, rfl, g1, by rw [g2.length]; exact Nat.lt_of_lt_of_le c (by decide), q _ _ α k1 k2 .non⟩
          · simp only [mApp, em, if_neg c] at q
            exact q.elim
  | _ => cases rs <;> exact q.elim
noncomputable def ZqY : Me := fun x ds M => match x, ds with
  | .ref n, [] => (match M[n]? with | some (.lst _) => .ok .non (M.set n (.lst [])) | none => .bad)
  | _, _ => .bad
noncomputable def mExt : Me := fun x ds M => match x, ds with
  | .ref n, [.ref m] => (match M[n]?, M[m]? with | some (.lst xs), some (.lst ys) => if xs.length + ys.length ≤ 10000000 then .ok .non (M.set n (.lst (xs ++ ys))) else .bad | _, _ => .bad)
  | _, _ => .bad
theorem ZmP : MO X ξ rExtend mExt := by
  intro H α M v vs x ds Q h rx rs q
  cases rx with
  | @ref p n hp =>
    match rs with
    | .nil => exact q.elim
    | .cons ru (.cons _ _) => cases ru <;> exact q.elim
    | .cons ru .nil =>
      cases ru with
      | @ref p2 m hp2 =>
        cases em : M[n]? with
        | none => simp only [mExt, em] at q; exact q.elim
        | some so =>
          cases em2 : M[m]? with
          | none => cases so; simp only [mExt, em, em2] at q; exact q.elim
          | some so2 =>
            cases so with
            | lst es =>
              cases so2 with
              | lst es2 =>
                obtain ⟨xs, g1, g2⟩ := h.at hp em
                obtain ⟨ys, g3, g4⟩ := h.at hp2 em2
                by_cases c : es.length + es2.length ≤ 10000000
                · simp only [mExt, em, em2, if_pos c] at q
                  obtain ⟨k1, k2⟩ := h.wrE hp g1 (g2.append g4)
                  exact ⟨p, p2, xs, ys, rfl, rfl, g1, g3, by rw [g2.length, g4.length]; exact Nat.le_trans c (by decide), q _ _ α k1 k2 .non⟩
                · simp only [mExt, em, em2, if_neg c] at q
                  exact q.elim
      | _ => exact q.elim
  | _ => cases rs with
    | nil => exact q.elim
    | cons ru rt => cases ru <;> cases rt <;> exact q.elim
theorem Zay (ho : DE X ξ o fo) (ha : DE X ξ e fa) (hbase : attributeBase o "append" X.env (eval o X.env) = eval o X.env := by rfl)
    (hfew : ((backTo cpos (starEach [e] X.env)).all (fun x => !x.1) && (backToKw cpos (keywordEach [] X.env)).all (fun x => x.1.isSome)
      && decide ([e].length + ([] : List Keyword).length + (if ([] : List Keyword).isEmpty then 0 else 1) < 30)) = true := by rfl)
    (hline : (apos.endLine == cpos.line) = true := by rfl) (hs : starEach [e] X.env = (false, eval e X.env) :: starEach [] X.env := by rfl) (hplain : (backTo cpos (starEach [] X.env)).any (·.1) = false := by rfl) :
    DE X ξ (.Call (.Attribute o "append" apos) [e] [] cpos) (Zc6 mApp fo (Za fa aNil)) := ZmN PySem.F.slot_list_append PySem.F.type_list_append ZdC ZmO ho (Zb ha Zf hs) hbase hfew hline hs hplain
noncomputable def DO (X : Cx) (ξ : XK) (e : Option Expr) (f : Ro → Sto → Out (Option Int)) : Prop := ∃ t : TO, PO X e t ∧ ∀ σ ρ H α M (Q : Option Int → Hp → Prop), SR X.K H α σ ρ → HR X.K H α M → OG X.K (fun _ _ v d => v = d) H α ξ Q (f ρ M) → t σ H Q
noncomputable def oNo : Ro → Sto → Out (Option Int) := fun _ M => .ok none M
noncomputable def oSo (f : Ev) : Ro → Sto → Out (Option Int) := fun ρ M => (f ρ M).bind fun x M1 => match x with | .int i => .ok (some i) M1 | _ => .bad
theorem Zek : DO X ξ none oNo := ⟨_, ZkK, fun σ ρ H α M Q s h q => q none H α Ext.refl h rfl⟩
theorem Zel (ha : DE X ξ e fa) : DO X ξ (some e) (oSo fa) := by
  obtain ⟨ta, pa, qa⟩ := ha
  refine ⟨_, ZkL pa, fun σ ρ H α M Q s h q => ?_⟩
  refine qa σ ρ H α M _ s h (OG.seq q fun x M1 v H1 α1 e1 h1 r1 q1 => ?_)
  cases r1 with
  | int i => exact ⟨i, rfl, q1 (some i) H1 α1 Ext.refl h1 rfl⟩
  | _ => exact q1.elim
noncomputable def ZeL (xs : List D) (lo hi : Option Int) : List D := (xs.drop (HT.sIx xs.length 0 lo)).take (HT.sIx xs.length xs.length hi - HT.sIx xs.length 0 lo)
theorem Reps.drop {K : PySem.W.Frag} {H : Hp} {α : List Addr} : ∀ (n : Nat) {vs : List V} {ds : List D}, Reps K H α vs ds → Reps K H α (vs.drop n) (ds.drop n)
  | 0, _, _, h => h
  | _ + 1, _, _, .nil => .nil
  | n + 1, _, _, .cons _ t => Reps.drop n t
theorem Reps.take {K : PySem.W.Frag} {H : Hp} {α : List Addr} : ∀ (n : Nat) {vs : List V} {ds : List D}, Reps K H α vs ds → Reps K H α (vs.take n) (ds.take n)
  | 0, _, _, _ => .nil
  | _ + 1, _, _, .nil => .nil
  | n + 1, _, _, .cons r t => .cons r (Reps.take n t)
theorem Reps.cut {K : PySem.W.Frag} {H : Hp} {α : List Addr} {vs : List V} {ds : List D} (r : Reps K H α vs ds) (lo hi : Option Int) : Reps K H α (ZjR vs lo hi) (ZeL ds lo hi) := by
  unfold ZjR ZeL
  rw [r.length]
  exact (r.drop _).take _
noncomputable def eSl (f : Ev) (lo hi : Ro → Sto → Out (Option Int)) : Ev := fun ρ M => (f ρ M).bind fun x M1 => (lo ρ M1).bind fun l M2 => (hi ρ M2).bind fun u M3 => match x with
  | .ref n => (match M3[n]? with | some (.lst xs) => .ok (.ref M3.length) (M3 ++ [.lst (ZeL xs l u)]) | none => .bad)
  | .rol xs => .ok (.ref M3.length) (M3 ++ [.lst (ZeL xs l u)])
  | .tup xs => if HT.sIx xs.length 0 l = 0 ∧ HT.sIx xs.length xs.length u = xs.length then .bad else .ok (.tup (ZeL xs l u)) M3
  | _ => .bad
theorem Zem {lo hi : Option Expr} {fl fh : Ro → Sto → Out (Option Int)} {p2 : Pos} (he : DE X ξ e fa) (hl : DO X ξ lo fl) (hh : DO X ξ hi fh) : DE X ξ (.Subscript e (.Slice lo hi none p2) pos) (eSl fa fl fh) := by
  obtain ⟨ta, pa, qa⟩ := he
  obtain ⟨tl, pl, ql⟩ := hl
  obtain ⟨th, ph, qh⟩ := hh
  refine ⟨_, Zi1 (SlR.or ZkQ Zmu) pa pl ph, fun σ ρ H α M Q s h q => ?_⟩
  refine qa σ ρ H α M _ s h (OG.seq q fun x M1 v H1 α1 e1 h1 r1 q1 => ?_)
  refine ql σ ρ H1 α1 M1 _ (s.mono e1) h1 (OG.seq q1 fun l M2 l' H2 α2 e2 h2 r2 q2 => ?_)
  refine qh σ ρ H2 α2 M2 _ ((s.mono e1).mono e2) h2 (OG.seq q2 fun u M3 u' H3 α3 e3 h3 r3 q3 => ?_)
  cases r2
  cases r3
  cases Rep.mono e3 (Rep.mono e2 r1) with
  | @ref p n hp =>
    cases em : M3[n]? with
    | none => simp only [em] at q3; exact q3.elim
    | some so =>
      cases so with
      | lst es =>
        simp only [em] at q3
        obtain ⟨xs, g1, g2⟩ := h3.at hp em
        exact .inl ⟨p, xs, rfl, SqL.of g1, fun a ha => q3 _ _ (α3 ++ [a]) (Ext.new ha) (h3.new ha (g2.cut l u)) (.ref (h3.last a))⟩
  | @rol p xs ds hp rp =>
    have q4 : OP X.K H3 α3 ξ Q (.ok (.ref M3.length) (M3 ++ [.lst (ZeL ds l u)])) := q3
    exact .inl ⟨p, xs, rfl, hp.sq, fun a ha => q4 _ _ (α3 ++ [a]) (Ext.new ha) (h3.new ha (rp.cut l u)) (.ref (h3.last a))⟩
  | @tup p xs ds hp rp =>
    by_cases c : HT.sIx ds.length 0 l = 0 ∧ HT.sIx ds.length ds.length u = ds.length
    · simp only [if_pos c] at q3
      exact q3.elim
    · simp only [if_neg c] at q3
      exact .inr ⟨p, xs, rfl, hp, by rw [rp.length]; exact c, fun a ha => q3 _ _ α3 (Ext.new0 ha) (h3.tup ha) (.tup (.inl (.inl ZaQ)) (Reps.mono (Ext.new0 ha) (rp.cut l u)))⟩
  | _ => exact q3.elim
noncomputable def iR2 (fs : Av) : Ro → Sto → Out Src := fun ρ M => (fs ρ M).bind fun ds M1 => match ds with
  | [.int i, .int j] => if -(2 ^ 62) ≤ i ∧ i < 2 ^ 62 ∧ -(2 ^ 62) ≤ j ∧ j < 2 ^ 62 then .ok (.pur (Zb7 i (j - i).toNat)) M1 else .bad
  | _ => .bad
end
theorem Zjj (its : List Value) : slicePick its.toArray none none (some (-1)) = its.reverse.toArray := by
  have h := Zgo its.toArray
  have e : slicePick its.toArray none none (some (-1)) = ((List.range its.toArray.size).filterMap fun (m : Nat) => its.toArray[((its.toArray.size : Int) - 1 + (m : Int) * (-1)).toNat]?).toArray := by
    unfold slicePick sliceBounds sliceRange
    simp only [Option.getD_some]
    congr 1
    rw [List.filterMap_map]
    have hc : (if (-1 : Int) > 0 then (if (if (-1 : Int) > 0 then (0 : Int) else (its.toArray.size : Int) - 1) < (if (-1 : Int) > 0 then (its.toArray.size : Int) else -1) then ((if (-1 : Int) > 0 then (its.toArray.size : Int) else -1) - (if (-1 : Int) > 0 then (0 : Int) else (its.toArray.size : Int) - 1) + -1 - 1) / -1 else 0) else (if (if (-1 : Int) > 0 then (0 : Int) else (its.toArray.size : Int) - 1) > (if (-1 : Int) > 0 then (its.toArray.size : Int) else -1) then ((if (-1 : Int) > 0 then (0 : Int) else (its.toArray.size : Int) - 1) - (if (-1 : Int) > 0 then (its.toArray.size : Int) else -1) - -1 - 1) / (- -1) else 0)).toNat = its.toArray.size := by
      simp
      split <;> omega
    rw [hc]
    refine Zej fun m hm => ?_
    simp only [Function.comp]
    have e2 : ((if (-1 : Int) > 0 then (0 : Int) else (its.toArray.size : Int) - 1) + -1 * (m : Int)) = (its.toArray.size : Int) - 1 + (m : Int) * (-1) := by
      rw [if_neg (by decide)]
      omega
    rw [e2]
  rw [e, h]
noncomputable def eRv (f : Ev) : Ev := fun ρ M => (f ρ M).bind fun x M1 => match x with
  | .tup xs => .ok (.tup xs.reverse) M1
  | .ref n => (match M1[n]? with | some (.lst xs) => .ok (.ref M1.length) (M1 ++ [.lst xs.reverse]) | none => .bad)
  | .rol xs => .ok (.ref M1.length) (M1 ++ [.lst xs.reverse])
  | _ => .bad
noncomputable def tRv (K : PySem.W.Frag) (te : TE) : TE := fun σ H Q => te σ H fun x H1 => (∃ a xs, x = .ref a ∧ SqT K H1 a xs ∧ ∀ p, H1 p = none → Q (.ref p) (upd H1 p (.tup xs.reverse))) ∨ ∃ a xs, x = .ref a ∧ SqL K H1 a xs ∧ ∀ p, H1 p = none → Q (.ref p) (upd H1 p (.lst xs.reverse))
theorem Zpc {X : Cx} {e : Expr} {p2 p3 p4 pos : Pos} {j : Nat} {te : TE} (he : PE X e te) : PE X (.Subscript e (.Slice none none (some (.UnaryOp .USub (.Constant (.int 1) j p3) p4)) p2) pos) (tRv X.K te) := by
  intro pins s σ H Q I h
  refine Subscript_ (thn (he pins s σ H _ I h) fun v s1 ⟨x, H1, I1, r1, q1⟩ => ?_)
  refine wpAny_Slice ?_
  rw [evalPart_none]
  refine wpAny_pure (wpAny_pure ?_)
  rw [evalPart_some]
  refine thn (Zmk ZjO ZjM pins s1 σ H1 (fun v H' => v = .int (-1) ∧ H' = H1) I1 ⟨1, rfl, rfl, rfl⟩) fun u s2 ⟨y, H2, I2, r2, ey, eH⟩ => ?_
  subst ey eH
  obtain ⟨t, rfl⟩ := r2
  have I4 : Inv X pins σ H2 { s2 with heap := s2.heap.push { cls := .type "slice", data := .fields #[.none, .none, .int (-1) t] } } := I2.kept (t' := s2.toks) fun b ob q => Heap.get?_push_of_some _ q
  show wpAny (model X.prog X.w) X.A (subscriptTail e (.Slice none none (some (.UnaryOp .USub (.Constant (.int 1) j p3) p4)) p2) v (.ref s2.heap.objs.size)) (EP X pins σ Q) X.xe { s2 with heap := s2.heap.push { cls := .type "slice", data := .fields #[.none, .none, .int (-1) t] } }
  rcases q1 with ⟨a, xs, rfl, hq, q⟩ | ⟨a, xs, rfl, hq, q⟩
  · cases r1
    obtain ⟨its, rv, ht, hz⟩ := I4.tuple hq
    have hsz : its.toArray.size ≤ sizeLine := by rw [List.size_toArray, ← rv.length]; exact hz
    refine tail_any (ops := [.ref a, .ref s2.heap.objs.size]) ht.typeIs PyProof.Rows.slot_tuple_getitem.lookup (Zc9 ht (Heap.IsSliceOf.new ..) ?_ hsz) (by with_unfolding_all rfl)
    have fr := I4.fresh
    refine ⟨.ref _, _, I4.laid (t' := s2.toks) (fun _ _ q => Heap.get?_push_of_some _ q) (Nat.le_refl _) ?_, rfl, q _ fr⟩
    exact ⟨by rw [List.length_reverse]; exact hz, its.reverse, rv.reverse, _, Heap.get?_push_size _ rfl, rfl, _, rfl⟩
  · cases r1
    obtain ⟨its, rv, ht, hz⟩ := I4.list hq
    have hsz : its.toArray.size ≤ sizeLine := by rw [List.size_toArray, ← rv.length]; exact hz
    refine tail_any (ops := [.ref a, .ref s2.heap.objs.size]) ht.isList.typeIs slot_list_getitem.lookup (wpAny_getItem_list_slice ht.isList (Heap.IsSliceOf.new ..) .none .none (.int (-1) t) (by decide) ?_ hsz) (by with_unfolding_all rfl)
    rw [Zjj]
    refine ⟨.ref _, _, I4.laid (t' := s2.toks) (o := .lst xs.reverse) (fun _ _ q => Heap.get?_push_of_some _ q) (Nat.le_refl _) ?_, rfl, q _ (I4.hok.fresh (Nat.le_refl _))⟩
    exact ⟨by rw [List.length_reverse]; exact hz, its.reverse, 0, rv.reverse, Heap.get?_push_size _ rfl⟩
theorem Zpd {X : Cx} {ξ : XK} {e : Expr} {f : Ev} {p2 p3 p4 pos : Pos} {j : Nat} (he : DE X ξ e f) : DE X ξ (.Subscript e (.Slice none none (some (.UnaryOp .USub (.Constant (.int 1) j p3) p4)) p2) pos) (eRv f) := by
  obtain ⟨t, p, q⟩ := he
  refine ⟨_, Zpc p, fun σ ρ H α M Q s h w => q σ ρ H α M _ s h (OG.seq w fun x M1 v H1 α1 e1 h1 r1 w1 => ?_)⟩
  cases r1 with
  | @tup a xs ds hp rp => exact .inl ⟨a, xs, rfl, hp, fun l hl => w1 _ _ α1 (Ext.new0 hl) (h1.tup hl) (.tup (.inl (.inl ZaQ)) (Reps.mono (Ext.new0 hl) rp.rev))⟩
  | @rol a xs ds hp rp =>
    have w2 : OP X.K H1 α1 ξ Q (.ok (.ref M1.length) (M1 ++ [.lst ds.reverse])) := w1
    exact .inr ⟨a, xs, rfl, hp.sq, fun l hl => w2 _ _ (α1 ++ [l]) (Ext.new hl) (h1.new hl rp.rev) (.ref (h1.last l))⟩
  | @ref a n hp =>
    cases em : M1[n]? with
    | none => simp only [em] at w1; exact w1.elim
    | some so =>
      cases so with
      | lst es =>
        simp only [em] at w1
        obtain ⟨xs, g1, g2⟩ := h1.at hp em
        exact .inr ⟨a, xs, rfl, SqL.of g1, fun l hl => w1 _ _ (α1 ++ [l]) (Ext.new hl) (h1.new hl g2.rev) (.ref (h1.last l))⟩
  | _ => exact w1.elim
end DL
end
section
set_option Elab.async false
set_option linter.all false
set_option maxRecDepth 100000
set_option maxHeartbeats 4000000
namespace DL
open PySem PySem.Spec PyProof.Rows L2
noncomputable def ZgV (tg : Tg) (g : Sv) (src : Src) : Nat → Nat → Ro → Sto → Fl
  | f, i, ρ, M => match nxt src i M with
    | none => .bad
    | some none => .nx ρ M
    | some (some d) => (match f with
      | 0 => .bad
      | f + 1 => (match tg d ρ with
        | none => .bad
        | some ρ1 => (match g ρ1 M with
          | .nx ρ2 M2 => ZgV tg g src f (i + 1) ρ2 M2
          | .cnt ρ2 M2 => ZgV tg g src f (i + 1) ρ2 M2
          | .brk ρ2 M2 => .nx ρ2 M2
          | o => o)))
noncomputable def ZcR (tg : Tg) (fi : Ro → Sto → Out Src) (g : Sv) : Sv := fun ρ M => Zal (fi ρ M) fun src M1 => ZgV tg g src (cnt src M1) 0 ρ M1
section
variable {X : Cx} {ξ : XK} {tg iter a b : Expr} {gt : Tg} {fi : Ro → Sto → Out Src} {g : Sv} {body : List Stmt} {f fa fb : Ev} {fs : Av} {p pos : Pos}
theorem ZdH (hp : PassesOwn (model X.prog X.w) X.A X.env X.xe) (hi : DI X ξ tg iter fi) (hg : DG X tg gt) (hb : DSs X ξ body g) (hf : ∀ x, foldedSetIterable iter X.env x = pure x := by intro _; rfl) : DS X ξ (.For tg iter body [] pos) (ZcR gt fi g) := by
  obtain ⟨wi, pi, qi⟩ := hi
  obtain ⟨tt, pt, qt⟩ := hg
  obtain ⟨tb, pb, qb⟩ := hb
  refine ⟨_, Zhr hp pi pt pb hf, fun σ ρ H α M Dn s hh w => qi σ ρ H α M _ s hh (FP.seq w fun src M1 J H1 α1 e1 h1 sc w1 => ?_)⟩
  generalize eo : ZgV gt g src (cnt src M1) 0 ρ M1 = o at w1
  refine ⟨fun i m σ' H' => ∃ ρ' α' M', Ext X.K H1 H' α1 α' ∧ SR X.K H' α' σ' ρ' ∧ HR X.K H' α' M' ∧ ZgV gt g src m i ρ' M' = o, ⟨cnt src M1, ρ, α1, M1, Ext.refl, s.mono e1, h1, eo⟩, ?_⟩
  rintro i m σ' H' ⟨ρ', α', M', ex, sr, hr, en⟩
  have s5 := sc i H' α' M' ex hr
  unfold ZgV at en
  cases en1 : nxt src i M' with
  | none => rw [en1] at en; cases en; exact w1.elim
  | some od =>
    rw [en1] at en s5
    cases od with
    | none => cases en; exact .inl ⟨s5, w1 σ' H' α' ex hr sr⟩
    | some d =>
      obtain ⟨go, yl⟩ := s5
      cases m with
      | zero => cases en; exact w1.elim
      | succ m =>
        simp only at en
        refine .inr ⟨go, fun σ2 H2 => ∃ ρ' α' M', Ext X.K H1 H2 α1 α' ∧ SR X.K H2 α' σ2 ρ' ∧ HR X.K H2 α' M' ∧ ZgV gt g src m (i + 1) ρ' M' = o, fun σ2 H2 z => ⟨m, Nat.lt_succ_self m, z⟩, fun x H2 y => ?_⟩
        obtain ⟨ex7, hr7, rp7⟩ := yl x H2 y
        exact Zjf (tg := tg) w1 qt qb (ex.trans ex7) (sr.mono ex7) hr7 rp7 en (fun σ' H' z => z)
end
theorem Zk5 {X : Cx} {pins : List (Addr × Obj)} {σ : L2.St} {H : Hp} {s : Shared} {h' : Heap} {t' : Nat} {ch : List Addr} (I : Inv X pins σ H s) (k : ∀ b o, b ∉ ch → s.heap.get? b = some o → h'.get? b = some o) (hf : ∀ b ∈ ch, ZfC X pins H b) : Inv X pins σ H { s with heap := h', toks := t' } := by
  have nit : ∀ b u, H b = some u → b ∉ ch := fun b u e z => by rw [(hf b z).1] at e; cases e
  have hL : X.env.locals ∉ ch := fun z => (hf _ z).2.1 rfl
  refine I.step (g' := s.gens) (d' := s.drawn) (ch := ch) (fun b hb => ?_) (fun b o _ _ hc e _ => k b o hc e) (fun b o _ _ hc e _ => ⟨o.slots, k b o hc e⟩) (fun _ _ _ _ n => n)
    (fun b o hc e => ⟨o, k b o hc e⟩) (fun _ _ e => e) (fun _ _ _ e => e) (fun b ps e => ⟨#[], by rw [e]; simp⟩) (fun m hm => ?_) (fun b u e => ?_) I.bare
  · obtain ⟨_, z1, _, z3, z4, z5⟩ := hf b hb
    exact ⟨z3, z1, z4, z5⟩
  · obtain ⟨o, es, ep, ho, r⟩ := hm
    exact ⟨o, es, ep, k _ o hL ho, r⟩
  · refine (I.hok b u e).stay (fun c v hc q => k c v ?_ q) (fun _ q => q) fun _ _ q => q
    rcases hc with z | z
    · rw [z]; exact nit b u e
    · exact nit c _ z
theorem ZmQ {X : Cx} {pins : List (Addr × Obj)} {σ : L2.St} {H : Hp} {s : Shared} {h' : Heap} {t' : Nat} {ch : List Addr} {vs : List V} {us : List Value} (I : Inv X pins σ H s) (hf : ∀ b ∈ ch, ZfC X pins H b) (hlt : ∀ b ∈ ch, b < s.heap.objs.size) (rv : Z5 vs us) (hz : vs.length ≤ sizeLine)
    (k : ∀ b o, b ∉ ch → s.heap.get? b = some o → h'.get? b = some o) (ht : h'.get? s.heap.objs.size = some { cls := .type "tuple", data := .seq us.toArray }) :
    Inv X pins σ (upd H s.heap.objs.size (.tup vs)) { s with heap := h', toks := t' } ∧ H s.heap.objs.size = none ∧ ∀ b ∈ ch, upd H s.heap.objs.size (.tup vs) b = none := by
  have fr : H s.heap.objs.size = none := I.hok.fresh (Nat.le_refl _)
  have hn : ∀ b ∈ ch, upd H s.heap.objs.size (.tup vs) b = none := fun b hb => by rw [ZS (Nat.ne_of_lt (hlt b hb))]; exact (hf b hb).1
  have I1 : Inv X pins σ (upd H s.heap.objs.size (.tup vs)) { s with heap := s.heap.push { cls := .type "tuple", data := .seq us.toArray }, toks := t' } :=
    I.laid (t' := t') (o := .tup vs) (fun _ _ q => Heap.get?_push_of_some _ q) (Nat.le_refl _) ⟨hz, us, rv, _, Heap.get?_push_size _ rfl, rfl, _, rfl⟩
  refine ⟨Zk5 (s := { s with heap := s.heap.push { cls := .type "tuple", data := .seq us.toArray }, toks := t' }) (t' := t') (ch := ch) I1 (fun b o hb e => ?_) (fun b hb => ⟨hn b hb, (hf b hb).2⟩), fr, hn⟩
  by_cases c : b = s.heap.objs.size
  · subst c
    have e' : (s.heap.push { cls := .type "tuple", data := .seq us.toArray }).get? s.heap.objs.size = some o := e
    rw [Heap.get?_push_size _ rfl] at e'
    cases e'
    exact ht
  · refine k b o hb ?_
    have e' : (s.heap.push { cls := .type "tuple", data := .seq us.toArray }).get? b = some o := e
    have hl : b < s.heap.objs.size := by
      have q : b < s.heap.objs.size + 1 := by
        have z := Heap.lt_size e'
        rwa [Heap.size_push] at z
      exact Nat.lt_of_le_of_ne (Nat.le_of_lt_succ q) c
    have q : (s.heap.push { cls := .type "tuple", data := .seq us.toArray }).get? b = s.heap.get? b := by
      unfold Heap.get? Heap.push
      simp only [Array.getElem?_push]
      rw [if_neg (Nat.ne_of_lt hl)]
    rwa [q] at e'
noncomputable def Ite (K : PySem.W.Frag) (a : Addr) : It :=
  ⟨fun i H => ∃ xs x, SqL K H a xs ∧ xs[i]? = some x, fun i H y H' => ∃ p, H p = none ∧ y = .ref p ∧ ∀ xs x, SqL K H a xs → xs[i]? = some x → H' = upd H p (.tup [.int i, x]), fun i H => ∃ xs, SqL K H a xs ∧ xs.length ≤ i⟩
theorem Zh4 {P : Program} {w : World} {K : PySem.W.Frag} {B : Around} {elts : List Expr} {k0 : Nat} {tp : Pos} (hB : B.handled = none) (a e it : Addr) (hne : e ≠ it) :
    Turn P w K B (.Tuple elts k0 tp) (Ite K a) [e, it] e (fun i h => (∃ old, IsEnum h e it (i : Int) old) ∧ h.IsListIter it a i) where
  mem := by simp
  obj := fun i h st b hb => by
    obtain ⟨⟨old, h1⟩, o, e2, c2, d2⟩ := st
    rcases List.mem_cons.mp hb with z | z
    · subst z; exact ⟨_, h1, fun v z => by cases z⟩
    · have z' : b = it := by simpa using z
      subst z'
      exact ⟨o, e2, fun v z => by rw [d2] at z; cases z⟩
  keep := fun i h h' st k => ⟨let ⟨old, z⟩ := st.1; ⟨old, k e (by simp) _ z⟩, st.2.at fun o z => k it (by simp) o z⟩
  item := by
    intro X hP hw hK hA i pins s σ H E I hf st hg
    subst hP hw hK hA
    obtain ⟨⟨old, h1⟩, h2⟩ := st
    obtain ⟨xs, x, hq, hx⟩ := hg
    obtain ⟨its, rv, p, hz⟩ := I.list hq
    obtain ⟨u, hu, ru⟩ := rv.get hx
    have lt : ∀ b ∈ [e, it], b < s.heap.objs.size := fun b hb => by
      rcases List.mem_cons.mp hb with z | z
      · subst z; exact Heap.lt_size h1
      · have z' : b = it := by simpa using z
        subst z'
        obtain ⟨o, e2, _⟩ := h2
        exact Heap.lt_size e2
    refine wpAny_pyNext_enum_item h1 h2 p.isList (x := u) (by simpa using hu) hne fun h' o1 o2 o3 o4 o5 => ⟨_, rfl, ?_⟩
    refine wpAny_letOwnedTupleGo_enum (s := { s with heap := h', toks := s.toks + 1 }) o1 fun h'' q1 q2 => ?_
    have pe : s.heap.objs.size ≠ e := Nat.ne_of_gt (lt e (by simp))
    have ie : it ≠ e := Ne.symm hne
    obtain ⟨J1, J2, J3⟩ := ZmQ (h' := h'') (t' := s.toks + 1) (ch := [e, it]) (vs := [.int i, x]) (us := [.int i s.toks, u]) I hf lt (.cons ⟨_, rfl⟩ (.cons ru .nil)) (by show 2 ≤ sizeLine; decide)
      (fun b o hb z => by
        have n1 : b ≠ e := fun y => hb (by simp [y])
        have n2 : b ≠ it := fun y => hb (by simp [y])
        exact (q2.2 b n1).trans (o5 b o n1 n2 z)) ((q2.2 _ pe).trans o3)
    refine ⟨.ref s.heap.objs.size, _, J1, rfl, ⟨_, J2, rfl, fun ys y hy hy2 => ?_⟩, ⟨⟨u, by simpa using q1⟩, o2.at fun o z => (q2.2 it ie).trans z⟩, J3⟩
    rw [I.list_inj hy hq, hx] at hy2
    cases hy2
    rfl
  done := by
    intro X hP hw hK hA i pins s σ H E I hf st hg
    subst hP hw hK hA
    obtain ⟨⟨old, h1⟩, h2⟩ := st
    obtain ⟨xs, hq, hx⟩ := hg
    obtain ⟨its, rv, p, hz⟩ := I.list hq
    obtain ⟨f0, f1, f2, f3, f4, f5⟩ := hf it (by simp)
    refine wpAny_pyNext_enum_end hB h1 h2 p.isList (by simp only [List.getElem?_toArray]; exact List.getElem?_eq_none (by rw [← rv.length]; exact hx)) fun h' ext => ⟨rfl, ?_⟩
    exact I.turned (t' := s.toks) (it := it) (fun b o hb z => ext b o hb z) f0 f1 f3 f4 f5
  self := fun A i s Q E st q => by
    obtain ⟨⟨old, h1⟩, _⟩ := st
    have hT : s.TypeIs (.ref e) "enumerate" := ⟨_, h1, rfl⟩
    refine wpAny_pyIter_slot hT F.slot_enumerate_iter (wpAny_call_entry F.slot_enumerate_iter hT F.entry_enumerate_iter ?_ (F.args_enumerate_iter_1 _))
    show wpAny _ _ (ret (.ref e)) _ _ s
    exact wpAny_pure ⟨_, rfl, "enumerate", _, hT, F.slot_enumerate_next.lookup, q⟩
theorem Ze9 : bootBuiltins "enumerate" = some (.type "enumerate") := by decide +kernel
section
variable {X : Cx} {ξ : XK} {a b : Expr} {elts : List Expr} {k0 : Nat} {tp : Pos} {fa : Ev} {fs : Av} {p pos : Pos} {ta : TA}
noncomputable def Zpe (K : PySem.W.Frag) (t : TA) : TI := fun σ H R => t σ H fun vs H1 => ∃ l xs, vs = [.ref l] ∧ SqL K H1 l xs ∧ R (Ite K l) H1
theorem Zk6 (hc : X.A.handled = none) (hg : Gl X "enumerate") (hm : X.mg "enumerate" = none) (ha : PA X [a] ta) (hs : starEach [a] X.env = (false, eval a X.env) :: starEach [] X.env := by rfl) (hpl : (backTo pos (starEach [] X.env)).any (·.1) = false := by rfl) :
    PI X (.Tuple elts k0 tp) (.Call (.Name "enumerate" p) [a] [] pos) (Zpe X.K ta) := by
  intro pins s σ H R I h
  refine wpAny_Call_Name_kw (ZeN I hg hm Ze9 (PyProof.Rows.callWith_type1 (thn (ha pos pins s σ H _ I h) fun us s1 ⟨vs, H1, I1, r1, q1⟩ => ?_) hs hpl) (by decide) (by decide))
  obtain ⟨l, xs, rfl, hq, q⟩ := q1
  obtain ⟨u, rfl, ru⟩ := ZfD r1
  cases ru
  obtain ⟨its, rv, pl, hz⟩ := I1.list hq
  refine call_enumerate_list pl.isList fun h' e1 e2 e3 e4 => ?_
  have T := Zh4 (P := X.prog) (w := X.w) (K := X.K) (B := X.A) (elts := elts) (k0 := k0) (tp := tp) hc l (s1.heap.objs.size + 1) s1.heap.objs.size (Nat.ne_of_gt (Nat.lt_succ_self _))
  have I2 : Inv X pins σ H1 { s1 with heap := h', toks := s1.toks } := I1.kept (t' := s1.toks) e4
  refine T.self X.A 0 { s1 with heap := h' } _ _ ⟨⟨_, e1⟩, e2⟩ ⟨_, _, _, _, H1, rfl, I2, T, ⟨⟨_, e1⟩, e2⟩, fun b hb => ?_, q⟩
  have hb' : s1.heap.objs.size ≤ b := by
    simp only [List.mem_cons, List.not_mem_nil, or_false] at hb
    rcases hb with rfl | rfl <;> omega
  exact I1.fpOk hb' (I1.hok.fresh hb')
noncomputable def iEn (fs : Av) : Ro → Sto → Out Src := fun ρ M => (fs ρ M).bind fun ds M1 => match ds with | [.ref n] => .ok (.enu n) M1 | _ => .bad
noncomputable def iZp (fs : Av) : Ro → Sto → Out Src := fun ρ M => (fs ρ M).bind fun ds M1 => match ds with | [.ref n, .ref m] => .ok (.zip n m) M1 | _ => .bad
theorem ZdI (hc : X.A.handled = none) (hm : X.mg "enumerate" = none) (ha : DA X ξ [a] fs) (hg : Gl X "enumerate" := by rfl) (hs : starEach [a] X.env = (false, eval a X.env) :: starEach [] X.env := by rfl) (hpl : (backTo pos (starEach [] X.env)).any (·.1) = false := by rfl) :
    DI X ξ (.Tuple elts k0 tp) (.Call (.Name "enumerate" p) [a] [] pos) (iEn fs) := by
  obtain ⟨ta, pa, qa⟩ := ha
  refine ⟨_, Zk6 hc hg hm pa hs hpl, fun σ ρ H α M R s hh q => qa σ ρ H α M _ s hh (OG.seq q fun ds M1 vs H1 α1 e1 h1 r1 w1 => ?_)⟩
  match r1 with
  | .nil => exact w1.elim
  | .cons r (.cons _ _) => cases r <;> exact w1.elim
  | .cons r .nil =>
    cases r with
    | @ref l n hp =>
      obtain ⟨xs0, g0⟩ := h1.some_at hp
      refine ⟨l, xs0, rfl, SqL.of g0, w1 _ H1 α1 Ext.refl h1 fun i H' α' M' ex hr => ?_⟩
      cases em : M'[n]? with
      | none => rw [show nxt (.enu n) i M' = none by simp only [nxt, em]]; exact True.intro
      | some so =>
        cases so with
        | lst es =>
          obtain ⟨xs, g1, g2⟩ := hr.at (ex.get hp) em
          cases ei : es[i]? with
          | none => rw [show nxt (.enu n) i M' = some none by simp only [nxt, em, ei]]; exact ⟨xs, SqL.of g1, by rw [g2.length]; exact List.getElem?_eq_none_iff.mp ei⟩
          | some d =>
            obtain ⟨v, k1, k2⟩ := g2.get ei
            rw [show nxt (.enu n) i M' = some (some (D.tup [D.int i, d])) by simp only [nxt, em, ei]]
            refine ⟨⟨xs, v, SqL.of g1, k1⟩, fun x H'' y => ?_⟩
            obtain ⟨pp, y1, rfl, y3⟩ := y
            have y4 := y3 xs v (SqL.of g1) k1
            subst y4
            exact ⟨Ext.new0 y1, hr.tup y1, .tup (.inl (.inl ZaQ)) (.cons (.int i) (.cons (Rep.mono (Ext.new0 y1) k2) .nil))⟩
    | _ => exact w1.elim
end
end DL
end
section
set_option Elab.async false
set_option linter.all false
set_option maxRecDepth 100000
set_option maxHeartbeats 4000000
namespace DL
open PySem PySem.Spec PyProof.Rows L2
open PySem.SeqAt (EqAt RcAt RcNeAt)
section
variable {X : Cx} {ξ : XK} {pins : List (Addr × Obj)} {σ : L2.St} {H : Hp} {s : Shared} {α : List Addr} {M : Sto}
noncomputable def eqs (M : Sto) (d : D) : List D → Option (List Bool)
  | [] => some []
  | x :: r => match eqF 12 M x d with | some b => (match eqs M d r with | some bs => some (b :: bs) | none => none) | none => none
end
section
variable {X : Cx} {ξ : XK}
noncomputable def inE (x y : D) (M : Sto) : Option Bool := match Zfz M y with | some ds => (match eqs M x ds with | some bs => some (bs.any id) | none => none) | none => none
noncomputable def ZqZ : Bo := fun x y M => match inE x y M with | some b => .ok (.bl b) M | none => .bad
noncomputable def Zh5 : Bo := fun x y M => match inE x y M with | some b => .ok (.bl (!b)) M | none => .bad
noncomputable def Zr9 : Me := fun x ds M => match x, ds with
  | .ref n, [d] => (match M[n]? with | some (.lst xs) => (match eqs M d xs with | some bs => (match bs.findIdx? id with | some j => .ok (.int (j : Nat)) M | none => .bad) | none => .bad) | none => .bad)
  | _, _ => .bad
noncomputable def Zsa : Me := fun x ds M => match x, ds with
  | .ref n, [d] => (match M[n]? with | some (.lst xs) => (match eqs M d xs with | some bs => .ok (.int (bs.countP id : Nat)) M | none => .bad) | none => .bad)
  | _, _ => .bad
noncomputable def ZdZ : List D → Option (List Int)
  | [] => some []
  | .int b :: r => match ZdZ r with | some bs => some (b :: bs) | none => none
  | _ :: _ => none
noncomputable def Zjk (g : List Int → Option Int) : List D → Sto → Out D := fun ds M => match ds with
  | [x] => (match Zfz M x with | some xs => (match x with | .tup _ => .bad | _ => (match ZdZ xs with | some ns => (match g ns with | some i => .ok (.int i) M | none => .bad) | none => .bad)) | none => .bad)
  | _ => .bad
noncomputable def Zhg (ns : List Int) : Option Int := if ∀ j, j < ns.length → (-(2 ^ 63) ≤ ns.getD j 0 ∧ ns.getD j 0 < 2 ^ 63) ∧ -(2 ^ 63) ≤ (ns.take (j + 1)).sum ∧ (ns.take (j + 1)).sum < 2 ^ 63 then some ns.sum else none
end
end DL
end
section
set_option Elab.async false
set_option linter.all false
set_option maxRecDepth 100000
set_option maxHeartbeats 4000000
namespace DL
open PySem PySem.Spec PyProof.Rows L2
section
variable {X : Cx} {ξ : XK} {tg a : Expr} {fs : Av} {p pos : Pos} {ta : TA}
noncomputable def iRv (fs : Av) : Ro → Sto → Out Src := fun ρ M => (fs ρ M).bind fun ds M1 => match ds with | [.ref n] => (match M1[n]? with | some (.lst xs) => .ok (.rev n xs.length) M1 | none => .bad) | _ => .bad
end
end DL
end
section
set_option Elab.async false
set_option linter.all false
set_option maxRecDepth 100000
set_option maxHeartbeats 4000000
namespace DL
open PySem PySem.Spec PyProof.Rows L2
section
variable {X : Cx} {ξ : XK} {e e1 e2 : Expr} {es : List Expr} {f : Ev} {pos : Pos}
noncomputable def eFm (f : Ev) : Ev := fun ρ M => (f ρ M).bind fun x M1 => match x with
  | .int i => if i.natAbs.log2 < 1900 then .ok (.str (Str.ofString (toString i))) M1 else .bad
  | .str y => if y.length ≤ 100000 then .ok (.str y) M1 else .bad
  | _ => .bad
theorem Zk7 (ha : DE X ξ e f) : DE X ξ (.FormattedValue e (-1) none pos) (eFm f) := by
  obtain ⟨ta, pa, qa⟩ := ha
  refine ⟨fun σ H Q => ta σ H fun x H1 => (∃ i, x = .int i ∧ i.natAbs.log2 < 1900 ∧ Q (.str (Str.ofString (toString i))) H1) ∨ ∃ y, x = .str y ∧ y.length ≤ 100000 ∧ Q (.str y) H1, fun pins s σ H Q I h => ?_, fun σ ρ H α M Q s h q => ?_⟩
  · refine wpAny_FormattedValue_plain (wpAny_mono (pa pins s σ H _ I h) (fun v s1 ⟨x, H1, I1, r1, q1⟩ => ?_) fun _ _ z => z)
    rcases q1 with ⟨i, rfl, hi, q⟩ | ⟨y, rfl, hy, q⟩
    · obtain ⟨t, rfl⟩ := r1
      exact wpAny_formatField_int (by omega) ⟨.str (Str.ofString (toString i)), H1, I1.tok _, ⟨_, rfl⟩, q⟩
    · obtain ⟨t, rfl⟩ := r1
      exact wpAny_formatField_str ⟨.str y, H1, I1, ⟨_, rfl⟩, q⟩ ⟨.str y, H1, I1.tok _, ⟨_, rfl⟩, q⟩ (Nat.le_trans hy (by rw [sizeLine_eq]; decide))
  · refine qa σ ρ H α M _ s h (OG.seq q fun x M1 v H1 α1 e1 h1 r1 q1 => ?_)
    cases r1 with
    | int i =>
      by_cases hi : i.natAbs.log2 < 1900
      · simp only [hi, if_true] at q1
        exact .inl ⟨i, rfl, hi, q1 _ H1 α1 Ext.refl h1 (.str _)⟩
      · simp only [hi, if_false] at q1
        exact q1.elim
    | str y =>
      by_cases hi : y.length ≤ 100000
      · simp only [hi, if_true] at q1
        exact .inr ⟨y, rfl, hi, q1 _ H1 α1 Ext.refl h1 (.str _)⟩
      · simp only [hi, if_false] at q1
        exact q1.elim
    | _ => exact q1.elim
noncomputable abbrev Jv := Str → Ro → Sto → Out Str
noncomputable def PJ (X : Cx) (es : List Expr) (t : L2.St → Hp → Str → (Str → Hp → Prop) → Prop) : Prop :=
  ∀ (pins : List (Addr × Obj)) (s : Shared) (σ : L2.St) (H : Hp) (acc : Str) (Q : Str → Hp → Prop), Inv X pins σ H s → t σ H acc Q → Joins (model X.prog X.w) X.A X.xe (evalEach es X.env) acc (fun out s1 => out.length ≤ 100000 ∧ ∃ H', Inv X pins σ H' s1 ∧ Q out H') s
noncomputable def DJ (X : Cx) (ξ : XK) (es : List Expr) (g : Jv) : Prop := ∃ t, PJ X es t ∧ ∀ σ ρ H α M acc (Q : Str → Hp → Prop), SR X.K H α σ ρ → HR X.K H α M → OG X.K (fun _ _ v d => v = d) H α ξ Q (g acc ρ M) → t σ H acc Q
noncomputable def jNil : Jv := fun acc _ M => if acc.length ≤ 100000 then .ok acc M else .bad
noncomputable def ZbG (f : Ev) (g : Jv) : Jv := fun acc ρ M => (f ρ M).bind fun x M1 => match x with
  | .str y => if (acc ++ y).length ≤ 100000 then g (acc ++ y) ρ M1 else .bad
  | _ => .bad
noncomputable def eFs (g : Jv) : Ev := fun ρ M => (g Str.empty ρ M).bind fun x M1 => .ok (.str x) M1
theorem Zj4 : DJ X ξ [] jNil := by
  refine ⟨fun σ H acc Q => acc.length ≤ 100000 ∧ Q acc H, fun pins s σ H acc Q I h => ⟨h.1, H, I, h.2⟩, fun σ ρ H α M acc Q s h q => ?_⟩
  unfold jNil at q
  by_cases hl : acc.length ≤ 100000
  · rw [if_pos hl] at q
    exact ⟨hl, q acc H α Ext.refl h rfl⟩
  · rw [if_neg hl] at q
    exact q.elim
theorem Zcc {g : Jv} (ha : DE X ξ e f) (hr : DJ X ξ es g) : DJ X ξ (e :: es) (ZbG f g) := by
  obtain ⟨ta, pa, qa⟩ := ha
  obtain ⟨tr, pr', qr⟩ := hr
  refine ⟨fun σ H acc Q => ta σ H fun x H1 => ∃ y, x = .str y ∧ (acc ++ y).length ≤ 100000 ∧ tr σ H1 (acc ++ y) Q, fun pins s σ H acc Q I h => ?_, fun σ ρ H α M acc Q s h q => ?_⟩
  · show wpAny _ _ (eval e X.env) _ _ s
    refine wpAny_mono (pa pins s σ H _ I h) (fun v s1 ⟨x, H1, I1, r1, q1⟩ => ?_) fun _ _ z => z
    obtain ⟨y, rfl, hy, q⟩ := q1
    obtain ⟨t, rfl⟩ := r1
    exact ⟨y, t, rfl, Nat.le_trans hy (by rw [sizeLine_eq]; decide), pr' pins s1 σ H1 (acc ++ y) Q I1 q⟩
  · refine qa σ ρ H α M _ s h (OG.seq q fun x M1 v H1 α1 e1 h1 r1 q1 => ?_)
    cases r1 with
    | str y =>
      by_cases hi : (acc ++ y).length ≤ 100000
      · simp only [hi, if_true] at q1
        exact ⟨y, rfl, hi, qr σ ρ H1 α1 M1 (acc ++ y) Q (s.mono e1) h1 q1⟩
      · simp only [hi, if_false] at q1
        exact q1.elim
    | _ => exact q1.elim
theorem ZmR {g : Jv} (h : DJ X ξ (e1 :: e2 :: es) g) : DE X ξ (.JoinedStr (e1 :: e2 :: es) pos) (eFs g) := by
  obtain ⟨t, pj, qj⟩ := h
  refine ⟨fun σ H Q => t σ H Str.empty fun x H1 => Q (.str x) H1, fun pins s σ H Q I h => ?_, fun σ ρ H α M Q s h q => ?_⟩
  · refine wpAny_JoinedStr ?_
    have := pj pins s σ H Str.empty _ I h
    have mono : ∀ (ms : List (Sem Value)) (acc : Str) (P R : Str → Shared → Prop) (s : Shared), (∀ o s, P o s → R o s) → Joins (model X.prog X.w) X.A X.xe ms acc P s → Joins (model X.prog X.w) X.A X.xe ms acc R s := by
      intro ms
      induction ms with
      | nil => intro acc P R s hp hj; exact hp _ _ hj
      | cons m r ih =>
        intro acc P R s hp hj
        exact wpAny_mono hj (fun v s1 ⟨y, t, e, l, k⟩ => ⟨y, t, e, l, ih _ P R s1 hp k⟩) fun _ _ z => z
    refine mono _ _ _ _ s (fun o s1 ⟨hl, H', I', q⟩ => ?_) this
    exact ⟨Nat.le_trans hl (by rw [sizeLine_eq]; decide), .str o, H', I'.tok _, ⟨_, rfl⟩, q⟩
  · refine qj σ ρ H α M Str.empty _ s h (OG.seq q fun x M1 v H1 α1 e1 h1 r1 q1 => ?_)
    cases r1
    exact q1 _ H1 α1 Ext.refl h1 (.str x)
end
end DL
end
section
set_option Elab.async false
set_option linter.all false
set_option maxRecDepth 100000
set_option maxHeartbeats 4000000
namespace DL
open PySem PySem.Spec PyProof.Rows L2
theorem ZgW {β γ : Type} {o : Out β} {f : β → Sto → Out γ} {g : γ → Sto → Fl} : Zal (o.bind f) g = Zal o fun x M => Zal (f x M) g := by cases o <;> rfl
section
variable {X : Cx} {ξ : XK} {tg iter elt : Expr} {ifs : List Expr} {scope : Scope} {cl : List (Str × Addr)} {N : List Str} {k : Nat} {fr : List Nat} {fi : Ro → Sto → Out Src} {gt : Tg} {c : Tv} {f : Ev} {pos : Pos}
theorem Zk8 (iv : Nat) {x : Str} {pos' spos : Pos} (hN : X.N.Nodup) (B : Blk X scope cl N k fr) (hi : DI X ξ tg iter fi) (hg : ∀ C fp s H, DG (blk X scope cl N C fp s H) tg gt) (ht : ∀ C fp s H, DC (blk X scope cl N C fp s H) ifs c) (he : ∀ C fp s H, DE (blk X scope cl N C fp s H) E0 elt f)
    (hiv : X.N[iv]? = some x := by rfl) (hxl : Loc X.env.scope x := by first | exact Or.inl rfl | exact Or.inr rfl) (hsw : swapsWith (.ListComp elt [⟨tg, iter, ifs, 0⟩] scope pos) (some (.Name x pos')) spos.line X.env = pure true := by rfl) (hf : X.fn x = true ∨ X.env.scope.names.lookup x = some .local := by first | exact .inl rfl | exact .inr rfl | assumption)
    (hs : ∀ x, foldedSetIterable iter X.env x = pure x := by intro _; rfl) : DS X ξ (.Assign [.Name x pos'] (.ListComp elt [⟨tg, iter, ifs, 0⟩] scope pos) spos) (Zt (gNm iv) (Zb6 fi k fr gt c f)) := by
  obtain ⟨wi, pi, qi⟩ := hi
  refine ⟨fun Dn σ H => ∃ ρ α M, SR X.K H α σ ρ ∧ HR X.K H α M ∧ FP X.K H α ξ Dn (Zt (gNm iv) (Zb6 fi k fr gt c f) ρ M), ?_, fun σ ρ H α M Dn s h q => ⟨ρ, α, M, s, h, q⟩⟩
  rintro pins s σ H Dn I ⟨ρ, α, M, sr, hr, op⟩
  rw [exec_Assign_Name_used _ _ _ _ hsw]
  refine wpAny_bind (wpAny_standAt (wpAny_bind ?_))
  show wpAny _ X.A (do let _ ← comprehension (.ListComp elt [⟨tg, iter, ifs, 0⟩] scope pos) scope X.env _ (newList []) false (eval iter X.env) (some (assign (.Name x pos') X.env))) _ _ s
  have op : FP X.K H α ξ Dn (Zal (fi ρ M) fun src M1 => Zal (match Zdz src gt c f M1.length (cnt src M1) 0 (roB k fr ρ) (M1 ++ [.lst []]) with | .ok _ M2' => .ok (.ref M1.length) M2' | _ => .bad) fun d M1 => Fl.nx (ρ.set iv (some d)) M1) := by
    have e : Zt (gNm iv) (Zb6 fi k fr gt c f) ρ M = (Zal (fi ρ M) fun src M1 => Zal (match Zdz src gt c f M1.length (cnt src M1) 0 (roB k fr ρ) (M1 ++ [.lst []]) with | .ok _ M2' => .ok (.ref M1.length) M2' | _ => .bad) fun d M1 => Fl.nx (ρ.set iv (some d)) M1) := by
      unfold Zt Zb6
      rw [ZgW]
      rfl
    rw [← e]
    exact op
  refine wpAny_bind (wpAny_mono (wpAny_comprehension_free (Q := fun _ s' => SP X pins Dn .next s') (use := some (assign (.Name x pos') X.env)) rfl hs B.clos B.kind B.names ?_) (fun _ s' hq => wpAny_pure (wpAny_pure hq)) fun _ _ e => e)
  refine thn (pi pins s σ H (fun J H2 => ∃ α2 M2 src, Ext X.K H H2 α α2 ∧ HR X.K H2 α2 M2 ∧ ZoQ X.K H2 α2 J src ∧ FP X.K H2 α2 ξ Dn (Zal (match Zdz src gt c f M2.length (cnt src M2) 0 (roB k fr ρ) (M2 ++ [.lst []]) with | .ok _ M2' => .ok (.ref M2.length) M2' | _ => .bad) fun d M1 => Fl.nx (ρ.set iv (some d)) M1)) I
    (qi σ ρ H α M _ sr hr (FP.seq op fun src M1 J H1 α1 e1 h1 r1 q1 => ⟨α1, M1, src, e1, h1, r1, q1⟩))) fun v s1 w1 => thn w1 fun itv s2 w2 => ?_
  obtain ⟨it, fp, tn, J, H2, rfl, I2, T, st2, f2, α2, M2, src, e2, h2, sc, op2⟩ := w2
  have srI := sr.mono e2
  refine wpAny_newObj_type ?_
  have I3 : Inv X pins σ (upd H2 s2.heap.objs.size (.lst [])) { s2 with heap := s2.heap.push { cls := .type "list", data := .seq ([] : List Value).toArray } } := I2.lnew (its := []) (t' := s2.toks) .nil (Nat.zero_le _)
  have fD : H2 s2.heap.objs.size = none := I2.fresh
  generalize hD : s2.heap.objs.size = D at I3 fD
  generalize hs3 : ({ s2 with heap := s2.heap.push { cls := .type "list", data := .seq ([] : List Value).toArray } } : Shared) = s3 at I3
  generalize hH3 : upd H2 D (.lst []) = H3 at I3
  have h3 : HR X.K H3 (α2 ++ [D]) (M2 ++ [.lst []]) := by rw [← hH3]; exact h2.new fD .nil
  have e3 : Ext X.K H2 H3 α2 (α2 ++ [D]) := by rw [← hH3]; exact Ext.new fD
  have aD : (α2 ++ [D])[M2.length]? = some D := h2.last D
  have lt2 : ∀ b ∈ fp, b < s2.heap.objs.size := fun b hb => let ⟨o, e, _⟩ := T.obj _ _ st2 b hb; Heap.lt_size e
  have keep3 : ∀ b o, s2.heap.get? b = some o → s3.heap.get? b = some o := fun b o e => by rw [← hs3]; exact Heap.get?_push_of_some _ e
  have f3 : ∀ b ∈ fp, ZfC X pins H3 b := fun b hb => ⟨by rw [← hH3, ZS (by rw [← hD]; exact Nat.ne_of_lt (lt2 b hb))]; exact (f2 b hb).1, (f2 b hb).2⟩
  have lt3 : ∀ b ∈ fp, b < s3.heap.objs.size := fun b hb => let ⟨o, e, _⟩ := T.obj _ _ st2 b hb; Heap.lt_size (keep3 b o e)
  have st3 : tn 0 s3.heap := T.keep _ _ _ st2 fun b _ o e => keep3 b o e
  refine wpAny_newFunctionEnv B.cell (by intro y hy; simp at hy) (fun h₁ hns₁ hsb₁ => ?_) B.kind
  have keep4 : ∀ b o, s3.heap.get? b = some o → h₁.get? b = some o := fun b o e => hsb₁.extBut b o (Nat.ne_of_lt (Heap.lt_size e)) (Heap.get?_push_of_some _ e)
  have I4 := Zh2 (tk := s3.toks + ([] : List (Str × Value)).length) B I3 f3 lt3 hns₁ keep4
  have st4 : tn 0 h₁ := T.keep _ _ _ st3 fun b _ o e => keep4 b o e
  generalize hX : blk X scope cl N s3.heap.objs.size fp s3 H3 = Y at I4
  have YK : Y.K = X.K := by rw [← hX]; rfl
  have Yp : Y.prog = X.prog := by rw [← hX]; rfl
  have Yw : Y.w = X.w := by rw [← hX]; rfl
  have YA : Y.A = X.A := by rw [← hX]; rfl
  have Ye : Y.env = compEnvC scope cl s3.heap.objs.size X.env := by rw [← hX]; rfl
  obtain ⟨tt, pt, qt⟩ := hg s3.heap.objs.size fp s3 H3
  obtain ⟨te, pe, qe⟩ := he s3.heap.objs.size fp s3 H3
  have tst := ht s3.heap.objs.size fp s3 H3
  rw [hX] at pt qt pe qe tst
  cases er : Zdz src gt c f M2.length (cnt src M2) 0 (roB k fr ρ) (M2 ++ [.lst []]) with
  | exc x M9 => rw [er] at op2; exact op2.elim
  | bad => rw [er] at op2; exact op2.elim
  | ok u9 M9 =>
    rw [er] at op2
    have loop : codeAny (model X.prog X.w) X.A (.compLoop (.ListComp elt [⟨tg, iter, ifs, 0⟩] scope pos) 0 (.ref it) (.ref D) (compEnvC scope cl s3.heap.objs.size X.env)) (compPost (model X.prog X.w) X.A X.xe (some (assign (.Name x pos') X.env)) (fun _ s' => SP X pins Dn .next s') (.ref D) s3.heap.objs.size) { s3 with heap := h₁, toks := s3.toks + ([] : List (Str × Value)).length } := by
      refine Zdq (fun n s' => ∃ i σ' ρ' H' α' M', Inv Y [] σ' H' s' ∧ tn i s'.heap ∧ (∀ b ∈ fp, H' b = none) ∧ SR X.K H' α' σ' ρ' ∧ HR X.K H' α' M' ∧ Ext X.K H3 H' (α2 ++ [D]) α' ∧ Zdz src gt c f M2.length n i ρ' M' = .ok u9 M9) ?_ (cnt src M2)
        ⟨0, stB k fr σ, roB k fr ρ, H3, α2 ++ [D], M2 ++ [.lst []], I4, st4, fun b hb => (f3 b hb).1, (srI.blk).mono e3, h3, Ext.refl, er⟩
      rintro n s5 ⟨i, σ5, ρ5, H5, α5, M5, I5, st5, fr5, sr5, hr5, ex5, en⟩
      have fp5 : ∀ {H' : Hp}, (∀ b ∈ fp, H' b = none) → ∀ b ∈ fp, ZfC Y [] H' b := fun hn b hb => ⟨hn b hb, by rw [Ye]; exact Nat.ne_of_lt (lt3 b hb), by
        have := (Zh1 B I3 f3 lt3).exfs b hb
        rw [hX] at this; exact this, .inl (by rw [← hX]; exact hb), fun x c h => (by rw [Ye] at h; exact (f3 b hb).2.2.2.2.1 x c (B.sub x c h)), fun p hp => (by rw [← hX] at hp; simp [blk] at hp)⟩
      have src5 := sc i H5 α5 M5 (e3.trans ex5) hr5
      rw [Zdz] at en
      cases ex : nxt src i M5 with
      | none => rw [ex] at en; cases en
      | some od =>
        rw [ex] at src5 en
        cases od with
        | none =>
          cases en
          have fin := T.done Y Yp Yw YK YA i [] s5 σ5 H5 (fun _ _ => False) I5 (fp5 fr5) st5 src5
          rw [YA] at fin
          refine thn fin fun r s6 ⟨hr6, I6⟩ => ?_
          subst hr6
          obtain ⟨m6, hm6, _⟩ := id I6.loc
          rw [Ye] at hm6
          have un := I6.base
          have hok6 := I6.hok
          have I7 : Inv X pins σ H5 s6 := by
            refine I3.call' (s' := s6) (ch := fp) ?_ ?_ ?_ I6.bare fun b hb => ?_
            · have := I6.os
              rw [this, ← hX]; rfl
            · rw [← hX] at un
              exact un
            · rw [Yp, Yw] at hok6
              exact hok6
            · obtain ⟨_, z1, z2, z3, z4, z5⟩ := f3 b hb
              exact ⟨z3, z1, z4, z5⟩
          have hC : H5 s3.heap.objs.size = none := by have := I6.free; rw [Ye] at this; exact this
          refine wpAny_assign_Name (ZeM (v := .ref D) I7 hN hiv hxl rfl (fun s8 I8 ⟨a, sb8, ha⟩ => ?_) hf)
          have nca : s3.heap.objs.size ≠ a := by
            rcases ha with e | e
            · rw [e]; exact Nat.ne_of_gt I3.lt
            · intro z
              obtain ⟨v, o, e', _⟩ := I3.cell x a e
              exact absurd (Heap.lt_size e') (by rw [← z]; exact Nat.lt_irrefl _)
          refine ⟨m6, hm6.sameBut sb8 nca, fun h' sb => ?_⟩
          have I9 : Inv X pins (σ.set iv (some (.ref D))) H5 { s8 with heap := h', toks := s8.toks } := I8.turned (it := s3.heap.objs.size) (fun b o hb e => (sb.2 b hb).trans e) hC (Nat.ne_of_gt I3.lt) (.inr I3.sz)
            (fun x c h z => by
              obtain ⟨v, o, e, _⟩ := I3.cell x c h
              exact absurd (Heap.lt_size e) (by rw [z]; exact Nat.lt_irrefl _)) (fun p hp z => by
              have := (I3.pin p hp).1
              exact absurd (Heap.lt_size this) (by rw [z]; exact Nat.lt_irrefl _))
          exact ⟨_, H5, I9, op2 _ H5 α5 (e3.trans ex5) hr5 ((srI.mono (e3.trans ex5)).set iv (.ref (ex5.get aD)))⟩
        | some d =>
          obtain ⟨go, yl⟩ := src5
          cases n with
          | zero => cases en
          | succ n =>
            simp only at en
            have itm := T.item Y Yp Yw YK YA i [] s5 σ5 H5 (fun _ _ => False) I5 (fp5 fr5) st5 go
            rw [YA] at itm
            refine thn itm fun r s6 ⟨u, hr6, w6⟩ => ?_
            subst hr6
            refine thn w6 fun _ s7 ⟨x, H7, I7, r7, y7, st7, fr7⟩ => ?_
            obtain ⟨ex7, hr7, rp7⟩ := yl x H7 y7
            have sr5 := sr5.mono ex7
            have hr5 := hr7
            have ex5 := ex5.trans ex7
            have I7' := I7.pinned (fp5 fr7) (T.obj _ _ st7)
            cases eg : gt d ρ5 with
            | none => rw [eg] at en; cases en
            | some ρ6 =>
              rw [eg] at en
              simp only at en
              have asg := pt _ s7 σ5 H7 x u _ I7' r7 (qt x d σ5 ρ5 H7 α5 ρ6 (fun σ' H' => H' = H7 ∧ SR X.K H7 α5 σ' ρ6) (by rw [YK]; exact sr5) (by rw [YK]; exact rp7) eg fun σ' s' => ⟨rfl, by rw [YK] at s'; exact s'⟩)
              rw [Yp, Yw, YA, Ye] at asg
              refine wpAny_mono asg (fun _ s8 ⟨σ8, H8, I8, z8, sr8⟩ => ?_) (fun _ _ z => by rw [← hX] at z; exact z)
              subst z8
              have again : ∀ {σ9 : L2.St} {H9 : Hp} {s9 : Shared}, Inv Y ([] ++ Zdk fp s7.heap) σ9 H9 s9 → Inv Y [] σ9 H9 s9 ∧ tn (i + 1) s9.heap ∧ ∀ b ∈ fp, H9 b = none := fun {σ9 H9 s9} I9 => by
                refine ⟨I9.unpinned, T.keep _ _ _ st7 fun b hb o e => (I9.pin (b, o) (List.mem_append_right _ (List.mem_append_right _ (Zbf hb e)))).1, fun b hb => ?_⟩
                obtain ⟨o, e, _⟩ := T.obj _ _ st7 b hb
                exact (I9.pin (b, o) (List.mem_append_right _ (List.mem_append_right _ (Zbf hb e)))).2.1
              have after : ∀ (kk : Bool) (M8 : Sto) (H9 : Hp) (α9 : List Addr) (s9 : Shared), Inv Y ([] ++ Zdk fp s7.heap) σ8 H9 s9 → Ext X.K H8 H9 α5 α9 → HR X.K H9 α9 M8 → c ρ6 M5 = .ok kk M8 →
                  (if kk = true then wpAny (model X.prog X.w) X.A (eval elt (compEnvC scope cl s3.heap.objs.size X.env)) (fun x s₄ => wpAny (model X.prog X.w) X.A (call (.builtin "list.append") [.ref D, x]) (fun _ s₅ => ∃ m, m < n + 1 ∧ ∃ i σ' ρ' H' α' M', Inv Y [] σ' H' s₅ ∧ tn i s₅.heap ∧ (∀ b ∈ fp, H' b = none) ∧ SR X.K H' α' σ' ρ' ∧ HR X.K H' α' M' ∧ Ext X.K H3 H' (α2 ++ [D]) α' ∧ Zdz src gt c f M2.length m i ρ' M' = .ok u9 M9) (fun _ _ => False) s₄) (fun _ _ => False) s9
                   else ∃ m, m < n + 1 ∧ ∃ i σ' ρ' H' α' M', Inv Y [] σ' H' s9 ∧ tn i s9.heap ∧ (∀ b ∈ fp, H' b = none) ∧ SR X.K H' α' σ' ρ' ∧ HR X.K H' α' M' ∧ Ext X.K H3 H' (α2 ++ [D]) α' ∧ Zdz src gt c f M2.length m i ρ' M' = .ok u9 M9) := by
                intro kk M8 H9 α9 s9 I9 ex9 hr9 ec
                rw [ec] at en
                cases kk with
                | false =>
                  obtain ⟨a1, a2, a3⟩ := again I9
                  exact ZkS ⟨n, Nat.lt_succ_self n, i + 1, σ8, ρ6, H9, α9, M8, a1, a2, a3, sr8.mono ex9, hr9, ex5.trans ex9, en⟩
                | true =>
                  simp only at en
                  refine ZkT ?_
                  cases ef : f ρ6 M8 with
                  | exc x9 M10 => rw [ef] at en; cases en
                  | bad => rw [ef] at en; cases en
                  | ok y M10 =>
                    rw [ef] at en
                    simp only at en
                    have ev := pe _ s9 σ8 H9 (fun v H' => ∃ α', Ext X.K H9 H' α9 α' ∧ HR X.K H' α' M10 ∧ Rep X.K H' α' v y) I9 (qe σ8 ρ6 H9 α9 M8 _ (by rw [YK]; exact sr8.mono ex9) (by rw [YK]; exact hr9) (by
                      rw [ef, YK]
                      exact fun v H' α' e h r => ⟨α', e, h, r⟩))
                    rw [Yp, Yw, YA, Ye] at ev
                    refine wpAny_mono ev (fun yv s10 ⟨v, H10, I10, r10, α10, ex10, hr10, rp10⟩ => ?_) (fun _ _ z => by rw [← hX] at z; exact z)
                    cases em : M10[M2.length]? with
                    | none => rw [em] at en; cases en
                    | some so =>
                      cases so with
                      | lst ds =>
                        rw [em] at en
                        simp only at en
                        by_cases cz : ds.length < 10000000
                        · rw [if_pos cz] at en
                          have aD10 := ex10.get (ex9.get (ex5.get aD))
                          obtain ⟨xs, g1, g2⟩ := hr10.at aD10 em
                          have ap := ZdC (X := Y) _ s10 σ8 H10 (.ref D) [v] (.ref D) [yv] (fun _ H' => H' = upd H10 D (.lst (xs ++ [v]))) I10 rfl (.cons r10 .nil) ⟨D, xs, v, rfl, rfl, g1, by rw [g2.length]; exact Nat.lt_of_lt_of_le cz (by decide), rfl⟩
                          rw [Yp, Yw, YA] at ap
                          refine wpAny_mono ap (fun _ s11 ⟨v11, H11, I11, _, z11⟩ => ?_) (fun _ _ z => by rw [← hX] at z; exact z)
                          subst z11
                          obtain ⟨a1, a2, a3⟩ := again I11
                          have exw : Ext X.K H10 (upd H10 D (.lst (xs ++ [v]))) α10 α10 := Ext.wr g1
                          exact ⟨n, Nat.lt_succ_self n, i + 1, σ8, ρ6, _, α10, _, a1, a2, a3, ((sr8.mono ex9).mono ex10).mono exw, hr10.wr aD10 g1 (g2.append (.cons rp10 .nil)), ((ex5.trans ex9).trans ex10).trans exw, en⟩
                        · rw [if_neg cz] at en
                          cases en
              rcases tst with ⟨rfl, ec⟩ | ⟨e, rfl, tt', ptt, qtt⟩
              · refine wpAny_tests_nil ?_
                exact after true M5 H8 α5 s8 I8 Ext.refl hr5 (by rw [ec])
              · refine wpAny_tests_one ?_
                cases ec : c ρ6 M5 with
                | exc x9 M10 => rw [ec] at en; cases en
                | bad => rw [ec] at en; cases en
                | ok kk M8 =>
                  have tv' := ptt _ s8 σ8 H8 (fun b H' => b = kk ∧ ∃ α', Ext X.K H8 H' α5 α' ∧ HR X.K H' α' M8) I8 (qtt σ8 ρ6 H8 α5 M5 _ (by rw [YK]; exact sr8) (by rw [YK]; exact hr5) (by
                    rw [ec, YK]
                    exact fun v H' α' e h r => ⟨r, α', e, h⟩))
                  rw [Yp, Yw, YA, Ye] at tv'
                  refine wpAny_mono tv' (fun b s9 ⟨H9, I9, zb, α9, ex9, hr9⟩ => ?_) (fun _ _ z => by rw [← hX] at z; exact z)
                  subst zb
                  exact after b M8 H9 α9 s9 I9 ex9 hr9 ec
    exact codeAny_compStart_list loop (T.self X.A 0 _ _ _ st4 loop)
end
end DL
end
section
set_option Elab.async false
set_option linter.all false
set_option maxRecDepth 100000
set_option maxHeartbeats 4000000
namespace DL
open PySem PySem.Spec PyProof.Rows L2
noncomputable def Zsb : Bo := fun x y M => match x, y with
  | .ref n, .int k => match M[n]? with
    | some (.lst xs) => if (-9223372036854775808 ≤ k ∧ k < 9223372036854775808) ∧ xs.length * k.toNat ≤ 100000 then .ok (.ref M.length) (M ++ [.lst (List.replicate k.toNat xs).flatten]) else .bad
    | none => .bad
  | _, _ => .bad
section
variable {X : Cx} {ξ : XK} {a b : Expr} {fa fb : Ev} {pos : Pos}
end
end DL
end
set_option Elab.async false
set_option linter.all false
set_option maxRecDepth 100000
set_option maxHeartbeats 4000000
namespace DL
open PySem PySem.Spec L2
open PySem.W
section
variable {prog : Program} {w : World} {A : Around} {E : Value → Shared → Prop} {s : Shared}
end
section
variable {prog : Program} {w : World} {A : Around} {s : Shared} {R : Result → Shared → Prop}
variable {I : Addr} {fp wr : List Addr} {G : Array GenState → Array GenState → Prop} {n : Nat} {P : Nat → Value → Prop} {St : Nat → Shared → Prop}
end
section
variable {prog : Program} {w : World} {A : Around} {E : Value → Shared → Prop} {s : Shared}
variable {I : Addr} {fp wr : List Addr} {G : Array GenState → Array GenState → Prop} {n : Nat} {P : Nat → Value → Prop} {St : Nat → Shared → Prop}
end
section
variable {X : Cx} {ξ : XK} {a : Expr} {fs : Av} {p1 p2 p3 pos : Pos} {ta : TA}
end
end DL
section
set_option Elab.async false
set_option linter.all false
set_option maxRecDepth 100000
set_option maxHeartbeats 4000000
namespace DL
open PySem PySem.Spec PyProof.Rows L2
noncomputable def Zh6 : Sv := (Zn (sIf (tv (e2 dGt (e2 dIx (Zd 0) (eC (.int 0))) (eC (.int 0)))) (Zn (Zt (gNm 2) (e2 dMod (e2 dIx (Zd 0) (eC (.int 0))) (Zd 1)))
  (Zn (ZeK (Zd 0) (eC (.int 0)) (e2 dDiv (e2 dIx (Zd 0) (eC (.int 0))) (Zd 1)))
  (ZF (Zd 2)))) sNil)
  (Zn (ZeK (Zd 0) (eC (.int 1)) (e2 dMod (e2 dMul (e2 dIx (Zd 0) (eC (.int 1))) (eC (.int 48271))) (eC (.int 2147483647))))
  (ZF (e2 dMod (e2 dDiv (e2 dMod (e2 dMul (e2 dIx (Zd 0) (eC (.int 1))) (eC (.int 16807))) (eC (.int 2147483647))) (eC (.int 32))) (Zd 1)))))
noncomputable def FDigit : List D → Sto → Out D := fnF Zh6 2 1
noncomputable def Bag (n : Nat) (M : Sto) : Prop := ∃ a b : Int, 0 ≤ a ∧ M[n]? = some (.lst [.int a, .int b])
structure Gr (n : Nat) (M M' : Sto) : Prop where
  len : M.length ≤ M'.length
  bag : Bag n M'
  keep : ∀ k, k ≠ n → k < M.length → M'[k]? = M[k]?
theorem ZfL {g : Sv} {n k : Nat} {ds : List D} {M M' : Sto} {d : D} (hl : ds.length = n) (h : g (ds.map some ++ List.replicate k none) M = .ret d M') : fnF g n k ds M = .ok d M' := by
  unfold fnF
  rw [if_pos hl, h]
theorem Zda {g h : Sv} {ρ ρ1 : Ro} {M M1 : Sto} (e : g ρ M = .nx ρ1 M1) : Zn g h ρ M = h ρ1 M1 := by
  unfold Zn
  rw [e]
theorem ZbH {i j : Int} (h1 : -(2 ^ 64) < j) (h2 : j < 2 ^ 64) : Zz i j := .inr (.inl (intBits_le_64 h1 h2))
theorem ZdJ {i j : Int} (h1 : -(2 ^ 64) < i) (h2 : i < 2 ^ 64) : Zz i j := .inl (intBits_le_64 h1 h2)
theorem at0 {x : D} {r : List D} : atI (x :: r) 0 = some x := by
  show (ixN (r.length + 1) 0).bind _ = _
  unfold ixN
  rw [if_pos (by decide), if_pos (by omega)]
  rfl
theorem at1 {x y : D} {r : List D} : atI (x :: y :: r) 1 = some y := by
  show (ixN (r.length + 2) 1).bind _ = _
  unfold ixN
  rw [if_pos (by decide), if_pos (by omega)]
  rfl
theorem ix0 {n : Nat} : ixN (n + 1) 0 = some 0 := by
  unfold ixN
  rw [if_pos (by decide), if_pos (by omega)]
  rfl
theorem ix1 {n : Nat} : ixN (n + 2) 1 = some 1 := by
  unfold ixN
  rw [if_pos (by decide), if_pos (by omega)]
  rfl
theorem Zgp {n : Nat} {m : Int} {M : Sto} (hb : Bag n M) (hm : 0 < m) (hd : Z7 m) : ∃ r M', FDigit [.ref n, .int m] M = .ok (.int r) M' ∧ 0 ≤ r ∧ r < m ∧ Gr n M M' := by
  obtain ⟨a, b, ha, e⟩ := hb
  have hl : n < M.length := (List.getElem?_eq_some_iff.mp e).1
  have hs : ∀ x, (M.set n x)[n]? = some x := fun x => List.getElem?_set_self hl
  have gr : ∀ a' b', 0 ≤ a' → Gr n M (M.set n (.lst [.int a', .int b'])) := fun a' b' h => ⟨by simp, ⟨a', b', h, hs _⟩, fun k hk _ => by rw [List.getElem?_set_ne (Ne.symm hk)]⟩
  by_cases c : 0 < a
  · refine ⟨a.fmod m, M.set n (.lst [.int (a.fdiv m), .int b]), ?_, ?_, ?_, gr _ _ ?_⟩
    · simp [FDigit, Zh6, fnF, Zn, sNil, ZF, Ze4, Z3, sIf, Zt, Zb5, ZeK, Zal, gNm, gNl, gCs, gTp, DL.e2, Zd, eC, ZC, Zag, Zg, Za, aNil, tv, ZbF, ZdE, ZaY, ZbU, Zi7, ZcL, eIf, ZbC, ZdY, Out.bind, dAdd, dSub, dMul, dDiv, dMod, dPow, dLt, dLe, dGt, dGe, dIx, atD, at0, at1, ix0, ix1, bLen, bAbs, bMax, bMin, bInt, bList, Zfz, Zaw, kd, ZcH, dIs, dIsNot, isP, e, c, hd, Int.ne_of_gt hm]
    · rw [Int.fmod_eq_emod_of_nonneg _ (by omega)]; exact Int.emod_nonneg _ (by omega)
    · rw [Int.fmod_eq_emod_of_nonneg _ (by omega)]; exact Int.emod_lt_of_pos _ hm
    · rw [Int.fdiv_eq_ediv_of_nonneg _ (by omega)]; exact Int.ediv_nonneg ha (by omega)
  · refine ⟨(((b * 48271).fmod 2147483647 * 16807).fmod 2147483647 |>.fdiv 32).fmod m, M.set n (.lst [.int a, .int ((b * 48271).fmod 2147483647)]), ?_, ?_, ?_, gr _ _ ha⟩
    · have f1 : Zz b 48271 := ZbH (by decide) (by decide)
      have f2 : Zz ((b * 48271).fmod 2147483647) 16807 := ZbH (by decide) (by decide)
      have f3 : Z7 32 := by decide +kernel
      simp [FDigit, Zh6, fnF, Zn, sNil, ZF, Ze4, Z3, sIf, Zt, Zb5, ZeK, Zal, gNm, gNl, gCs, gTp, DL.e2, Zd, eC, ZC, Zag, Zg, Za, aNil, tv, ZbF, ZdE, ZaY, ZbU, Zi7, ZcL, eIf, ZbC, ZdY, Out.bind, dAdd, dSub, dMul, dDiv, dMod, dPow, dLt, dLe, dGt, dGe, dIx, atD, at0, at1, ix0, ix1, bLen, bAbs, bMax, bMin, bInt, bList, Zfz, Zaw, kd, ZcH, dIs, dIsNot, isP, e, c, hs, f1, f2, f3, Int.ne_of_gt hm]
    · rw [Int.fmod_eq_emod_of_nonneg _ (by omega)]; exact Int.emod_nonneg _ (by omega)
    · rw [Int.fmod_eq_emod_of_nonneg _ (by omega)]; exact Int.emod_lt_of_pos _ hm
theorem Bag.lt {n : Nat} {M : Sto} (h : Bag n M) : n < M.length := let ⟨_, _, _, e⟩ := h; (List.getElem?_eq_some_iff.mp e).1
theorem Bag.app {n : Nat} {M : Sto} (h : Bag n M) (L : Sto) : Bag n (M ++ L) := by
  have hl := h.lt
  obtain ⟨a, b, h1, h2⟩ := h
  exact ⟨a, b, h1, by rw [List.getElem?_append_left hl]; exact h2⟩
theorem Gr.refl {n : Nat} {M : Sto} (h : Bag n M) : Gr n M M := ⟨Nat.le_refl _, h, fun _ _ _ => rfl⟩
theorem Gr.trans {n : Nat} {M M1 M2 : Sto} (a : Gr n M M1) (b : Gr n M1 M2) : Gr n M M2 :=
  ⟨Nat.le_trans a.len b.len, b.bag, fun k h1 h2 => (b.keep k h1 (Nat.lt_of_lt_of_le h2 a.len)).trans (a.keep k h1 h2)⟩
theorem Gr.app {n : Nat} {M : Sto} (h : Bag n M) (L : Sto) : Gr n M (M ++ L) := ⟨by simp, h.app L, fun k _ hk => by rw [List.getElem?_append_left hk]⟩
theorem Gr.app2 {n : Nat} {M M1 : Sto} (h : Gr n M M1) (L : Sto) : Gr n M (M1 ++ L) := h.trans (.app h.bag L)
theorem Gr.new {n : Nat} {M M1 : Sto} {o : SO} {L : Sto} (hb : Bag n M) (h : Gr n (M ++ o :: L) M1) : M1[M.length]? = some o := by
  rw [h.keep _ (Nat.ne_of_gt hb.lt) (by simp)]
  simp
noncomputable def Zsc : Sv := (Zn (Zt (gNm 2) (eC (.int 0)))
  (Zn (sIf (tv (e2 dLt (Zd 1) (Zg bLen (Za (Zd 0) aNil)))) (Zt (gNm 2) (Zg bAbs (Za (e2 dIx (Zd 0) (Zd 1)) aNil))) sNil)
  (Zn (Zt (gNm 3) (e2 dAdd (eC (.int 1)) (e2 dMod (e2 dAdd (e2 dAdd (e2 dAdd (e2 dMod (Zd 2) (eC (.int 2147483647))) (e2 dMul (e2 dMul (eC (.int 7919)) (Zd 1)) (Zd 1))) (e2 dMul (eC (.int 11)) (Zd 1))) (eC (.int 5))) (eC (.int 2147483646)))))
  (ZF (Zag (Za (e2 dMul (Zd 2) (Zg bInt (Za (e2 dGe (Zd 2) (e2 dPow (eC (.int 10)) (eC (.int 18)))) aNil))) (Za (Zd 3) aNil)))))))
noncomputable def FBag : List D → Sto → Out D := fnF Zsc 2 2
theorem Zjl {ns : List Int} {k : Nat} (h : k < ns.length) : atI (ns.map D.int) (k : Int) = some (.int ns[k]) := ZkO (by rw [List.getElem?_map, List.getElem?_eq_getElem h]; rfl)
theorem ZmS {ns : List Int} {k : Nat} {M : Sto} (hk : k < 1000) : ∃ a b : Int, 0 ≤ a ∧ FBag [.rol (ns.map D.int), .int k] M = .ok (.ref M.length) (M ++ [.lst [.int a, .int b]]) := by
  have f2 : Zz 7919 (k : Int) := ZdJ (by decide) (by decide)
  have f3 : Zz (7919 * (k : Int)) (k : Int) := ZbH (by omega) (by omega)
  have f4 : Zz 11 (k : Int) := ZdJ (by decide) (by decide)
  have body : ∀ cell : Int, 0 ≤ cell → ∃ a b : Int, 0 ≤ a ∧ ∀ M, Zn (Zt (gNm 3) (e2 dAdd (eC (.int 1)) (e2 dMod (e2 dAdd (e2 dAdd (e2 dAdd (e2 dMod (Zd 2) (eC (.int 2147483647))) (e2 dMul (e2 dMul (eC (.int 7919)) (Zd 1)) (Zd 1))) (e2 dMul (eC (.int 11)) (Zd 1))) (eC (.int 5))) (eC (.int 2147483646)))))
      (ZF (Zag (Za (e2 dMul (Zd 2) (Zg bInt (Za (e2 dGe (Zd 2) (e2 dPow (eC (.int 10)) (eC (.int 18)))) aNil))) (Za (Zd 3) aNil)))) [some (.rol (ns.map D.int)), some (.int k), some (.int cell), none] M = .ret (.ref M.length) (M ++ [.lst [.int a, .int b]]) := by
    intro cell hc
    have f5 : Zz cell 1 := ZbH (by decide) (by decide)
    have f6 : Zz cell 0 := ZbH (by decide) (by decide)
    by_cases c : (10 ^ 18 : Int) ≤ cell
    · refine ⟨cell * 1, 1 + (cell.fmod 2147483647 + 7919 * (k : Int) * k + 11 * k + 5).fmod 2147483646, by omega, fun M => ?_⟩
      have c' : (1000000000000000000 : Int) ≤ cell := by omega
      simp [fnF, Zn, sNil, ZF, Ze4, Z3, sIf, Zt, Zb5, ZeK, Zal, gNm, gNl, gCs, gTp, DL.e2, Zd, eC, ZC, Zag, Zg, Za, aNil, tv, ZbF, ZdE, ZaY, ZbU, Zi7, ZcL, eIf, ZbC, ZdY, Out.bind, dAdd, dSub, dMul, dDiv, dMod, dPow, dLt, dLe, dGt, dGe, dIx, atD, at0, at1, ix0, ix1, bLen, bAbs, bMax, bMin, bInt, bList, Zfz, Zaw, kd, ZcH, dIs, dIsNot, isP, f2, f3, f4, f5, f6, c']
    · refine ⟨cell * 0, 1 + (cell.fmod 2147483647 + 7919 * (k : Int) * k + 11 * k + 5).fmod 2147483646, by omega, fun M => ?_⟩
      have c' : ¬ (1000000000000000000 : Int) ≤ cell := by omega
      simp [fnF, Zn, sNil, ZF, Ze4, Z3, sIf, Zt, Zb5, ZeK, Zal, gNm, gNl, gCs, gTp, DL.e2, Zd, eC, ZC, Zag, Zg, Za, aNil, tv, ZbF, ZdE, ZaY, ZbU, Zi7, ZcL, eIf, ZbC, ZdY, Out.bind, dAdd, dSub, dMul, dDiv, dMod, dPow, dLt, dLe, dGt, dGe, dIx, atD, at0, at1, ix0, ix1, bLen, bAbs, bMax, bMin, bInt, bList, Zfz, Zaw, kd, ZcH, dIs, dIsNot, isP, f2, f3, f4, f5, f6, c']
  by_cases c : k < ns.length
  · obtain ⟨a, b, h, e⟩ := body (if ns[k] < 0 then -ns[k] else ns[k]) (by split <;> omega)
    refine ⟨a, b, h, ZfL rfl ?_⟩
    have c' : (k : Int) < (ns.length : Int) := by omega
    refine (Zda (ρ1 := [some (.rol (ns.map D.int)), some (.int k), some (.int 0), none]) (M1 := M) rfl).trans ?_
    refine (Zda (ρ1 := [some (.rol (ns.map D.int)), some (.int k), some (.int (if ns[k] < 0 then -ns[k] else ns[k])), none]) (M1 := M) ?_).trans (e M)
    simp [fnF, Zn, sNil, ZF, Ze4, Z3, sIf, Zt, Zb5, ZeK, Zal, gNm, gNl, gCs, gTp, DL.e2, Zd, eC, ZC, Zag, Zg, Za, aNil, tv, ZbF, ZdE, ZaY, ZbU, Zi7, ZcL, eIf, ZbC, ZdY, Out.bind, dAdd, dSub, dMul, dDiv, dMod, dPow, dLt, dLe, dGt, dGe, dIx, atD, at0, at1, ix0, ix1, bLen, bAbs, bMax, bMin, bInt, bList, Zfz, Zaw, kd, ZcH, dIs, dIsNot, isP, Zjl c, c']
  · obtain ⟨a, b, h, e⟩ := body 0 (by omega)
    refine ⟨a, b, h, ZfL rfl ?_⟩
    have c' : ¬ (k : Int) < (ns.length : Int) := by omega
    refine (Zda (ρ1 := [some (.rol (ns.map D.int)), some (.int k), some (.int 0), none]) (M1 := M) rfl).trans ?_
    refine (Zda (ρ1 := [some (.rol (ns.map D.int)), some (.int k), some (.int 0), none]) (M1 := M) ?_).trans (e M)
    simp [fnF, Zn, sNil, ZF, Ze4, Z3, sIf, Zt, Zb5, ZeK, Zal, gNm, gNl, gCs, gTp, DL.e2, Zd, eC, ZC, Zag, Zg, Za, aNil, tv, ZbF, ZdE, ZaY, ZbU, Zi7, ZcL, eIf, ZbC, ZdY, Out.bind, dAdd, dSub, dMul, dDiv, dMod, dPow, dLt, dLe, dGt, dGe, dIx, atD, at0, at1, ix0, ix1, bLen, bAbs, bMax, bMin, bInt, bList, Zfz, Zaw, kd, ZcH, dIs, dIsNot, isP, c', c]
theorem Zgq {ρ : Ro} {i : Nat} {x : Option D} (h : ρ[i]? = some x) : ρ.set i x = ρ := by
  apply List.ext_getElem?
  intro k
  by_cases hk : k = i
  · subst hk
    rw [List.getElem?_set_self (List.getElem?_eq_some_iff.mp h).1, h]
  · rw [List.getElem?_set_ne (Ne.symm hk)]
noncomputable def cEu (i j : Nat) : Sv := Zb5 i j (Za (Zd j) (Za (e2 dMod (Zd i) (Zd j)) aNil))
theorem ZmT {c : Tv} {i j : Nat} {M : Sto} (hij : i ≠ j) (hc : ∀ (ρ : Ro) (b : Nat), ρ[j]? = some (some (.int b)) → c ρ M = .ok (decide (b ≠ 0)) M) : ∀ (b a : Nat) (ρ : Ro), ρ[i]? = some (some (.int a)) → ρ[j]? = some (some (.int b)) →
    sWh c (cEu i j) ρ M = .nx ((ρ.set i (some (.int (Nat.gcd a b : Nat)))).set j (some (.int 0))) M := by
  intro b
  induction b using Nat.strongRecOn with
  | ind b ih =>
    intro a ρ hi hj
    by_cases h0 : b = 0
    · subst h0
      rw [Ze5 (M1 := M) (by rw [hc ρ 0 hj]; rfl), Nat.gcd_zero_right, Zgq hi, Zgq (x := some (.int 0)) hj]
    · have hl : i < ρ.length := (List.getElem?_eq_some_iff.mp hi).1
      have hl2 : j < ρ.length := (List.getElem?_eq_some_iff.mp hj).1
      have ht : c ρ M = .ok true M := by rw [hc ρ b hj, decide_eq_true h0]
      have hb : cEu i j ρ M = .nx ((ρ.set i (some (.int b))).set j (some (.int (a % b : Nat)))) M := by
        have hb0 : ¬ (b : Int) = 0 := by omega
        have hm : (a : Int).fmod (b : Int) = ((a % b : Nat) : Int) := by rw [Int.fmod_eq_emod_of_nonneg _ (by omega)]; rfl
        simp [cEu, Zb5, Za, aNil, Zd, e2, dMod, Out.bind, Zal, hi, hj, hb0, hm, h0]
      have g1 : ((ρ.set i (some (.int b))).set j (some (.int (a % b : Nat))))[i]? = some (some (.int b)) := by
        rw [List.getElem?_set_ne (Ne.symm hij), List.getElem?_set_self hl]
      have g2 : ((ρ.set i (some (.int b))).set j (some (.int (a % b : Nat))))[j]? = some (some (.int (a % b : Nat))) := by
        rw [List.getElem?_set_self (by simpa using hl2)]
      have q := ih (a % b) (Nat.mod_lt _ (by omega)) b _ g1 g2
      rw [Zgl ht hb (by rw [q]; intro z; cases z), q]
      have eg : Nat.gcd b (a % b) = Nat.gcd a b := by rw [Nat.gcd_comm b, ← Nat.gcd_rec, Nat.gcd_comm]
      rw [eg, List.set_comm _ _ (Ne.symm hij), List.set_set, List.set_set]
theorem ZmU {M : Sto} {a b : Int} : eqF 12 M (.int a) (.int b) = some (a == b) := rfl
theorem ne0 {j : Nat} {M : Sto} (ρ : Ro) (b : Nat) (h : ρ[j]? = some (some (.int b))) : tv (e2 dNe (Zd j) (eC (.int 0))) ρ M = .ok (decide (b ≠ 0)) M := by
  simp [tv, e2, Zd, eC, h, Out.bind, dNe, ZmU]
  by_cases c : b = 0
  · subst c; rfl
  · have : ¬ (b : Int) = 0 := by omega
    simp [c, this]
theorem Zh7 (a : Int) : (if a < 0 then -a else a) = (a.natAbs : Int) := by split <;> omega
noncomputable def Zsd : Sv := (Zn (Zb5 2 3 (Za (Zg bAbs (Za (Zd 0) aNil)) (Za (Zg bAbs (Za (Zd 1) aNil)) aNil)))
  (Zn (sWh (tv (e2 dNe (Zd 3) (eC (.int 0)))) (Zb5 2 3 (Za (Zd 3) (Za (e2 dMod (Zd 2) (Zd 3)) aNil))))
  (ZF (Zd 2))))
noncomputable def FGcd : List D → Sto → Out D := fnF Zsd 2 2
theorem ZmV (a b : Int) (M : Sto) : FGcd [.int a, .int b] M = .ok (.int (Int.gcd a b : Nat)) M := by
  refine ZfL rfl ?_
  refine (Zda (ρ1 := [some (.int a), some (.int b), some (.int (a.natAbs : Nat)), some (.int (b.natAbs : Nat))]) (M1 := M) ?_).trans ?_
  · simp [fnF, Zn, sNil, ZF, Ze4, Z3, sIf, Zt, Zb5, ZeK, Zal, gNm, gNl, gCs, gTp, DL.e2, Zd, eC, ZC, Zag, Zg, Za, aNil, tv, ZbF, ZdE, ZaY, ZbU, Zi7, ZcL, eIf, ZbC, ZdY, Out.bind, dAdd, dSub, dMul, dDiv, dMod, dPow, dLt, dLe, dGt, dGe, dIx, atD, at0, at1, ix0, ix1, bLen, bAbs, bMax, bMin, bInt, bList, Zfz, Zaw, kd, ZcH, dIs, dIsNot, isP, Zh7]
  · have q := ZmT (c := tv (e2 dNe (Zd 3) (eC (.int 0)))) (i := 2) (j := 3) (M := M) (by decide) ne0 b.natAbs a.natAbs [some (.int a), some (.int b), some (.int (a.natAbs : Nat)), some (.int (b.natAbs : Nat))] rfl rfl
    refine (Zda q).trans ?_
    rfl
end DL
end
section
set_option Elab.async false
set_option linter.all false
set_option maxRecDepth 100000
set_option maxHeartbeats 4000000
namespace DL
open PySem PySem.Spec PyProof.Rows L2
end DL
end
section
set_option Elab.async false
set_option linter.all false
set_option maxRecDepth 100000
set_option maxHeartbeats 4000000
namespace HD
open PySem PySem.W PyProof.Rows
noncomputable def ZoR (thr : Thread → Bool) (stp : SharedT → Thread → Option (SharedT × Thread)) (n : Nat) : SharedT → Thread → Option SharedT :=
  Nat.rec (motive := fun _ => SharedT → Thread → Option SharedT) (fun _ _ => none) (fun _ ih s t => Bool.rec (motive := fun _ => Option SharedT) (Option.rec (motive := fun _ => Option SharedT) none (fun r => ih r.1 r.2) (stp s t)) (some s) (thr t)) n
noncomputable def Zjm (ok : Thread → Bool) (stp : SharedT → Thread → Option (SharedT × Thread)) (s : SharedT) (t : Thread) : Option (SharedT × Thread) := Bool.rec (motive := fun _ => Option (SharedT × Thread)) none (stp s t) (ok t)
section
variable {tb : String → Option Builtin} {p : Program} {w : World} {n₀ : Nat} {ann : Option Value}
theorem Zj5 : ∀ {n : Nat} {s s' : SharedT} {t : Thread}, ZoR through (Zjm (stepOk n₀ ann) (stepT (denote tb) p w)) n s t = some s' → topRun tb p w n₀ ann n s.abs t = some s'.abs
  | 0, s, s', t, h => by cases h
  | n + 1, s, s', t, h => by
    unfold topRun
    change Bool.rec (motive := fun _ => Option SharedT) (Option.rec (motive := fun _ => Option SharedT) none (fun r => ZoR through (Zjm (stepOk n₀ ann) (stepT (denote tb) p w)) n r.1 r.2) (Zjm (stepOk n₀ ann) (stepT (denote tb) p w) s t)) (some s) (through t) = some s' at h
    cases ht : through t with
    | true =>
      rw [ht] at h
      have h' : some s = some s' := h
      cases h'
      rfl
    | false =>
      rw [ht] at h
      cases hk : stepOk n₀ ann t with
      | false =>
        have e : Zjm (stepOk n₀ ann) (stepT (denote tb) p w) s t = none := by unfold Zjm; rw [hk]
        rw [e] at h
        cases h
      | true =>
        have e : Zjm (stepOk n₀ ann) (stepT (denote tb) p w) s t = stepT (denote tb) p w s t := by unfold Zjm; rw [hk]
        rw [e] at h
        cases hs : stepT (denote tb) p w s t with
        | none => rw [hs] at h; cases h
        | some r =>
          obtain ⟨s2, t2⟩ := r
          rw [hs] at h
          have := stepT_spec hs
          rw [this]
          exact Zj5 (n := n) h
end
noncomputable def T0 (w : World) (os : OsState) : SharedT :=
  ⟨[boot_o_0, boot_o_1, boot_o_2, boot_o_3, boot_o_4, boot_o_5, boot_o_6, boot_o_7, boot_o_8, boot_o_9, boot_o_10].foldl (fun (r : Nat × BT) o => (r.1 + 1, r.2.ins r.1 (o w.params))) (0, .nil) |>.2, 11, (boot_heap w.params).life, #[], boot_drawn, boot_toks, os⟩
theorem ZmW (w : World) (os : OsState) : (T0 w os).abs = ⟨boot_heap w.params, #[], boot_drawn, boot_toks, os⟩ := by kernel_rfl
theorem Zk9 : Str.ofString "__annotations__" = ⟨#[95, 95, 97, 110, 110, 111, 116, 97, 116, 105, 111, 110, 115, 95, 95]⟩ := by decide +kernel
theorem Zh8 {p q : Program} {loose : List Str} {Xt : Shared → Bool} {α : Type} {Yf : Shared → α} {Ya : World → α} {N M : Nat} (e : opening p = plainProg p.main.scope.names) (hN : Nat.ble 600 N = true) (f : ∀ s, fenceModules? p s = some s) (le : Nat.ble M N = true)
    (Zpf : ∀ (w : World) (os : OsState), (ZoR through (Zjm (stepOk 11 (some (.ref 6))) (stepT (denote treeTable) p w)) M (T0 w os) (topStub p)).map (fun s => ((staticsOk (importedModules p.main.body) (boot_heap w.params) s.abs.heap && namesBound p s.abs.heap && gensDone s.abs && laidKept (boot_heap w.params) s.abs.heap),
        openSeen q loose (importedModules p.main.body) Xt true s.abs, Yf s.abs)) = some (true, openGood q loose, Ya w)) : LeftO p q loose Xt Yf Ya N := fun w => by
  obtain ⟨⟨h, gs, d, k, os⟩, e1, e2⟩ := Option.map_eq_some_iff.mp (boot_open e hN f w)
  obtain ⟨rfl, rfl, rfl, rfl⟩ : h = boot_heap w.params ∧ gs = Array.mk [] ∧ d = boot_drawn ∧ k = boot_toks := by simpa using e2
  obtain ⟨s', r1, r2⟩ := Option.map_eq_some_iff.mp (Zpf w os)
  obtain ⟨l1, l2, l3⟩ : _ ∧ _ ∧ _ := by simpa only [Prod.mk.injEq] using r2
  have r := Zj5 r1
  rw [ZmW] at r
  have r := topRun_mono (N - M) _ _ _ _ r
  rw [show M + (N - M) = N by have := Nat.le_of_ble_eq_true le; omega] at r
  have z1 : ((boot_heap w.params).isNs mainGlobals && (Array.mk [] : Array GenState).size == 0) = true := by kernel_rfl
  have z2 : (boot_heap w.params).objs.size = 11 := rfl
  have z3 : (boot_heap w.params).nsMap mainGlobals "__annotations__" = some (.ref 6) := by
    rw [Zk9]
    kernel_rfl
  have t : topFrom treeTable p w N ⟨boot_heap w.params, Array.mk [], boot_drawn, boot_toks, os⟩ = some s'.abs := by
    unfold topFrom
    dsimp only
    rw [z1, z2, z3, r]
    show (match staticsOk (importedModules p.main.body) (boot_heap w.params) s'.abs.heap && namesBound p s'.abs.heap && gensDone s'.abs && laidKept (boot_heap w.params) s'.abs.heap with | true => _ | false => _) = _
    rw [l1]
  unfold openEnds
  rw [e1]
  show (topFrom treeTable p w N _).map _ = _
  rw [t]
  exact congrArg some (Prod.ext l2 l3)
end HD
namespace HD
open PySem PySem.W
theorem Zpg : @stepOk = @PySem.W.Fast.tw6613529449190102663 := PySem.W.Fast.te6613529449190102663
theorem Zla : @stepT = @PySem.W.Fast.tw10156331382660048174 := PySem.W.Fast.te10156331382660048174
theorem ZmX : @denote = @PySem.W.Fast.tw11892475500146522536 := PySem.W.Fast.te11892475500146522536
theorem ZmY : @treeTable = @PySem.W.Fast.tw14364793385576792824 := PySem.W.Fast.te14364793385576792824
theorem Zlb : @openSeen = @PySem.W.Fast.tw4187177175401517315 := PySem.W.Fast.te4187177175401517315
theorem ZmZ : @importedModules = @PySem.W.Fast.tw5923862056798008813 := PySem.W.Fast.te5923862056798008813
end HD
end
section
set_option Elab.async false
set_option linter.all false
set_option maxRecDepth 100000
set_option maxHeartbeats 4000000
namespace DL
open PySem PySem.Spec PyProof.Rows L2
noncomputable def wO {β : Type} (o : Out β) (Q : β → Sto → Prop) (E : Str → Sto → Prop) : Prop := match o with
  | .ok a M => Q a M
  | .exc c M => E c M
  | .bad => False
noncomputable def wS (f : Fl) (N : Ro → Sto → Prop) (R : D → Sto → Prop) (B C : Ro → Sto → Prop) (E : Str → Sto → Prop) : Prop := match f with
  | .nx ρ M => N ρ M
  | .ret d M => R d M
  | .brk ρ M => B ρ M
  | .cnt ρ M => C ρ M
  | .exc c M => E c M
  | .bad => False
noncomputable def Br (k : Bool) (A B : Prop) : Prop := (k = true → A) ∧ (k = false → B)
noncomputable def wG {β : Type} (o : Option β) (N : β → Prop) : Prop := match o with | some ρ => N ρ | none => False
noncomputable def wV (o : Option (Option D)) (Q : D → Prop) : Prop := match o with | some (some d) => Q d | _ => False
noncomputable def wI (x : D) (Q : Int → Prop) : Prop := match x with | .int i => Q i | _ => False
noncomputable def wB (x : D) (Q : Bool → Prop) : Prop := match x with | .bl i => Q i | _ => False
noncomputable def wR (x : D) (Q : Nat → Prop) : Prop := match x with | .ref i => Q i | _ => False
noncomputable def w1 (x : List D) (Q : D → Prop) : Prop := match x with | [v] => Q v | _ => False
noncomputable def w2 (x : List D) (Q : D → D → Prop) : Prop := match x with | [v, w] => Q v w | _ => False
noncomputable def wL (o : Option SO) (Q : List D → Prop) : Prop := match o with | some (.lst xs) => Q xs | none => False
section
variable {β : Type} {o o' : Option (Option D)} {x x' : D} {Q : D → Prop} {QI : Int → Prop} {QB : Bool → Prop} {QR : Nat → Prop} {QL : List D → Prop} {l l' : Option SO} {d : D} {i : Int} {k : Bool} {n : Nat} {xs : List D} {g g' : Option β} {QG : β → Prop} {y : β}
theorem Zse : w1 [d] Q = Q d := rfl
theorem Zsf {Q2 : D → D → Prop} : w2 [d, x] Q2 = Q2 d x := rfl
theorem Zsg : wV (some (some d)) Q = Q d := rfl
theorem Zsh : wI (.int i) QI = QI i := rfl
theorem Zsi : wB (.bl k) QB = QB k := rfl
theorem Zsj : wR (.ref n) QR = QR n := rfl
theorem Zsk : wL (some (.lst xs)) QL = QL xs := rfl
theorem Zsl : wG (some y) QG = QG y := rfl
end
section
variable {β : Type} {Q : β → Sto → Prop} {E : Str → Sto → Prop} {N B C : Ro → Sto → Prop} {R : D → Sto → Prop} {ρ : Ro} {M : Sto} {A A' : Prop}
theorem Zl {d : β} : wO (.ok d M) Q E = Q d M := rfl
theorem Zm0 {c : Str} : wO (.exc c M : Out β) Q E = E c M := rfl
theorem Zph : Br true A A' = A := by simp [Br]
theorem Zq0 : Br false A A' = A' := by simp [Br]
theorem brD {p : Prop} [Decidable p] (h1 : p → A) (h2 : ¬ p → A') : Br (decide p) A A' := ⟨fun h => h1 (of_decide_eq_true h), fun h => h2 (of_decide_eq_false h)⟩
theorem brN {p : Prop} [Decidable p] (h1 : ¬ p → A) (h2 : p → A') : Br (!decide p) A A' := ⟨fun h => h1 (by simpa using h), fun h => h2 (by simpa using h)⟩
theorem ZfM {o : Out β} {Q' : β → Sto → Prop} {E' : Str → Sto → Prop} (h : wO o Q E) (hq : ∀ d M, Q d M → Q' d M) (he : ∀ c M, E c M → E' c M) : wO o Q' E' := by
  cases o with
  | ok d M => exact hq d M h
  | exc c M => exact he c M h
  | bad => exact h
theorem Zgr {o : Out β} (h : wO o Q (fun _ _ => False)) : ∃ d M', o = .ok d M' ∧ Q d M' := by
  cases o with
  | ok d M => exact ⟨d, M, rfl, h⟩
  | exc c M => exact h.elim
  | bad => exact h.elim
theorem Zw {γ : Type} {o : Out γ} {f : γ → Sto → Out β} : wO (o.bind f) Q E = wO o (fun x M1 => wO (f x M1) Q E) E := by cases o <;> rfl
end
section
variable {Q : D → Sto → Prop} {E : Str → Sto → Prop} {N B C : Ro → Sto → Prop} {R : D → Sto → Prop} {ρ : Ro} {M : Sto} {e f g : Ev} {fs : Av}
theorem Zpi {op : Bo} : wO (e2 op f g ρ M) Q E = wO (f ρ M) (fun x M1 => wO (g ρ M1) (fun y M2 => wO (op x y M2) Q E) E) E := by
  unfold e2
  rw [Zw]
  congr 1
  funext x M1
  rw [Zw]
theorem Zsm {i : Nat} : wO (Zd i ρ M) Q E = wV ρ[i]? (fun d => Q d M) := by
  unfold Zd
  cases ρ[i]? with
  | none => rfl
  | some o => cases o <;> rfl
theorem Zlc {F : List D → Sto → Out D} : wO (Zg F fs ρ M) Q E = wO (fs ρ M) (fun ds M1 => wO (F ds M1) Q E) E := Zw
theorem Zld {Q : List D → Sto → Prop} : wO (Za f fs ρ M) Q E = wO (f ρ M) (fun x M1 => wO (fs ρ M1) (fun xs M2 => Q (x :: xs) M2) E) E := by
  unfold Za
  rw [Zw]
  congr 1
  funext x M1
  rw [Zw]
  congr 1
theorem Zm1 : wO (ZC fs ρ M) Q E = wO (fs ρ M) (fun xs M1 => xs.length ≤ 1000 ∧ Q (.tup xs) M1) E := by
  unfold ZC
  rw [Zw]
  congr 1
  funext x M1
  by_cases h : x.length ≤ 1000
  · rw [if_pos h]; simp [h, wO]
  · rw [if_neg h]; simp [h, wO]
theorem Zm2 : wO (Zag fs ρ M) Q E = wO (fs ρ M) (fun xs M1 => xs.length ≤ 1000 ∧ Q (.ref M1.length) (M1 ++ [.lst xs])) E := by
  unfold Zag
  rw [Zw]
  congr 1
  funext x M1
  by_cases h : x.length ≤ 1000
  · rw [if_pos h]; simp [h, wO]
  · rw [if_neg h]; simp [h, wO]
variable {t u : Tv}
theorem Zm3 {Q : Bool → Sto → Prop} : wO (ZaY t ρ M) Q E = wO (t ρ M) (fun k M1 => Q (!k) M1) E := by
  unfold ZaY
  rw [Zw]
  congr 1
variable {a b : Sv}
theorem Zm4 : wS (Zn a b ρ M) N R B C E = wS (a ρ M) (fun ρ1 M1 => wS (b ρ1 M1) N R B C E) R B C E := by
  unfold Zn
  cases a ρ M <;> rfl
theorem Zaz {β : Type} {o : Out β} {k : β → Sto → Fl} : wS (Zal o k) N R B C E = wO o (fun x M1 => wS (k x M1) N R B C E) E := by cases o <;> rfl
theorem Zm5 : wS (ZF f ρ M) N R B C E = wO (f ρ M) R E := Zaz
theorem Zle : wS (Z3 f ρ M) N R B C E = wO (f ρ M) (fun _ M1 => N ρ M1) E := Zaz
theorem Zm6 {i : Nat} : wS (Zt (gNm i) f ρ M) N R B C E = wO (f ρ M) (fun d M1 => N (ρ.set i (some d)) M1) E := Zaz
theorem Zlf {gs : Tgs} : wS (Zt (gTp gs) f ρ M) N R B C E = wO (f ρ M) (fun d M1 => wG (gTp gs d ρ) (fun r => N r M1)) E := by
  unfold Zt
  rw [Zaz]
  congr 1
  funext d M1
  cases gTp gs d ρ <;> rfl
theorem Zm7 {i j : Nat} : wS (Zb5 i j fs ρ M) N R B C E = wO (fs ρ M) (fun ds M1 => w2 ds fun v w => N ((ρ.set i (some v)).set j (some w)) M1) E := by
  unfold Zb5
  rw [Zaz]
  congr 1
  funext ds M1
  rcases ds with _ | ⟨v, _ | ⟨w, _ | ⟨z, r⟩⟩⟩ <;> rfl
theorem Zm8 {fo fi : Ev} : wS (ZeK fo fi f ρ M) N R B C E = wO (f ρ M) (fun d M1 => wO (fo ρ M1) (fun o M2 => wO (fi ρ M2) (fun i M3 => wR o fun n => wI i fun k => wL M3[n]? fun xs => wG (ixN xs.length k) fun j => N ρ (M3.set n (.lst (xs.set j d)))) E) E) E := by
  unfold ZeK
  rw [Zaz]
  congr 1
  funext d M1
  rw [Zaz]
  congr 1
  funext o M2
  rw [Zaz]
  congr 1
  funext i M3
  cases o <;> cases i <;> try rfl
  rename_i n k
  cases e : M3[n]? with
  | none => simp only [e, wR, wI, wL, wS]
  | some s =>
    cases s with
    | lst xs =>
      cases e2 : ixN xs.length k <;> simp only [e, e2, wR, wI, wL, wG, wS]
theorem Zjn {c : Str} : wS (Zbn c fs ρ M) N R B C E = wO (fs ρ M) (fun ds M1 => ds.length ≤ 1000 ∧ E c M1) E := by
  unfold Zbn
  rw [Zaz]
  congr 1
  funext ds M1
  by_cases h : ds.length ≤ 1000
  · rw [if_pos h]; simp [h, wS]
  · rw [if_neg h]; simp [h, wS]
theorem wF {n k : Nat} {ds : List D} (hl : ds.length = n) : wO (fnF a n k ds M) Q E = wS (a (ds.map some ++ List.replicate k none) M) (fun _ M1 => Q .non M1) Q (fun _ _ => False) (fun _ _ => False) E := by
  unfold fnF
  rw [if_pos hl]
  cases a (ds.map some ++ List.replicate k none) M <;> rfl
theorem Zh9 {o : Fl} {N' B' C' : Ro → Sto → Prop} {R' : D → Sto → Prop} {E' : Str → Sto → Prop} (h : wS o N R B C E) (hn : ∀ ρ M, N ρ M → N' ρ M) (hr : ∀ d M, R d M → R' d M) (hb : ∀ ρ M, B ρ M → B' ρ M) (hc : ∀ ρ M, C ρ M → C' ρ M) (he : ∀ c M, E c M → E' c M) : wS o N' R' B' C' E' := by
  cases o with
  | nx ρ M => exact hn _ _ h
  | ret ρ M => exact hr _ _ h
  | brk ρ M => exact hb _ _ h
  | cnt ρ M => exact hc _ _ h
  | exc ρ M => exact he _ _ h
  | bad => exact h
variable {tg : Tg} {bd : Sv} {fi : Ro → Sto → Out Src}
theorem Zia (I : Nat → Ro → Sto → Prop) : ∀ (xs : List D) (k : Nat) (ρ : Ro) (M : Sto), I k ρ M → (∀ i ρ M (h : i < xs.length), I (k + i) ρ M → wG (tg xs[i] ρ) fun r => wS (bd r M) (I (k + i + 1)) R N (I (k + i + 1)) E) → (∀ ρ M, I (k + xs.length) ρ M → N ρ M) → wS (Zcs tg bd xs ρ M) N R B C E
  | [], k, ρ, M, h, _, hn => hn ρ M h
  | x :: xs, k, ρ, M, h, st, hn => by
    have s := st 0 ρ M (by simp) h
    unfold Zcs
    simp only [List.getElem_cons_zero, Nat.add_zero] at s
    cases e : tg x ρ with
    | none => rw [e] at s; exact s.elim
    | some ρ1 =>
      rw [e] at s
      simp only [wG] at s
      have rc : ∀ ρ2 M2, I (k + 1) ρ2 M2 → wS (Zcs tg bd xs ρ2 M2) N R B C E := fun ρ2 M2 h2 => Zia I xs (k + 1) ρ2 M2 h2 (fun i ρ M hi hI => by
        have z := st (i + 1) ρ M (by simp; omega) (by rw [show k + (i + 1) = k + 1 + i by omega]; exact hI)
        simp only [List.getElem_cons_succ] at z
        rw [show k + (i + 1) + 1 = k + 1 + i + 1 by omega] at z
        exact z) (fun ρ M hI => hn ρ M (by rw [show k + (x :: xs).length = k + 1 + xs.length by simp; omega]; exact hI))
      cases eg : bd ρ1 M <;> rw [eg] at s <;> simp only [eg]
      · exact rc _ _ s
      · exact s
      · exact s
      · exact rc _ _ s
      · exact s
      · exact s
theorem Zlg : wS (Zax tg fs bd ρ M) N R B C E = wO (fs ρ M) (fun ds M1 => w1 ds fun d => wI d fun j => (-(2 ^ 62) ≤ j ∧ j < 2 ^ 62) ∧ wS (Zcs tg bd (Zb7 0 j.toNat) ρ M1) N R B C E) E := by
  unfold Zax
  rw [Zaz]
  congr 1
  funext ds M1
  rcases ds with _ | ⟨v, _ | ⟨w, r⟩⟩
  · rfl
  · cases v <;> try rfl
    rename_i j
    by_cases h : -(2 ^ 62) ≤ j ∧ j < 2 ^ 62
    · simp only [w1, wI, eq_true h, true_and, if_true]
    · simp only [w1, wI, eq_false h, false_and, if_false]
      rfl
  · cases v <;> rfl
theorem ZcS (I : Nat → Ro → Sto → Prop) {n : Nat} {lo : Int} (h0 : I 0 ρ M) (st : ∀ i ρ M, i < n → I i ρ M → wG (tg (.int (lo + i)) ρ) fun r => wS (bd r M) (I (i + 1)) R N (I (i + 1)) E) (hn : ∀ ρ M, I n ρ M → N ρ M) : wS (Zcs tg bd (Zb7 lo n) ρ M) N R B C E := by
  have hl : (Zb7 lo n).length = n := by simp [Zb7]
  refine Zia I _ 0 ρ M h0 (fun i ρ M h hI => ?_) (fun ρ M hI => hn ρ M (by rw [hl, Nat.zero_add] at hI; exact hI))
  have : (Zb7 lo n)[i] = .int (lo + i) := by simp [Zb7]
  rw [this]
  rw [Nat.zero_add] at *
  exact st i ρ M (by rw [hl] at h; exact h) hI
theorem Zm9 : wS (ZjY tg f bd ρ M) N R B C E = wO (f ρ M) (fun d M1 => wS (ZjX tg bd d ρ M1) N R B C E) E := Zaz
theorem Zib (I : Nat → Ro → Sto → Prop) {n : Nat} {xs : List D} : ∀ (f i : Nat) (ρ : Ro) (M : Sto), i + f = xs.length → I i ρ M → (∀ i ρ M, I i ρ M → M[n]? = some (.lst xs)) → (∀ i ρ M (h : i < xs.length), I i ρ M → wG (tg xs[i] ρ) fun r => wS (bd r M) (I (i + 1)) R N (I (i + 1)) E) → (∀ ρ M, I xs.length ρ M → N ρ M) → wS (ZhV tg bd n f i ρ M) N R B C E
  | f, i, ρ, M, e, h, hm, st, hn => by
    have hx := hm _ _ _ h
    unfold ZhV
    rw [hx]
    cases f with
    | zero =>
      have : xs[i]? = none := List.getElem?_eq_none (by omega)
      simp only [this]
      exact hn ρ M (by rw [show xs.length = i by omega]; exact h)
    | succ f =>
      have hi : i < xs.length := by omega
      have : xs[i]? = some xs[i] := List.getElem?_eq_getElem hi
      simp only [this]
      have s := st i ρ M hi h
      cases e : tg xs[i] ρ with
      | none => rw [e] at s; exact s.elim
      | some ρ1 =>
        rw [e] at s
        simp only [wG] at s
        have rc : ∀ ρ2 M2, I (i + 1) ρ2 M2 → wS (ZhV tg bd n f (i + 1) ρ2 M2) N R B C E := fun ρ2 M2 h2 => Zib I f (i + 1) ρ2 M2 (by omega) h2 hm st hn
        cases eg : bd ρ1 M <;> rw [eg] at s <;> simp only [eg]
        · exact rc _ _ s
        · exact s
        · exact s
        · exact rc _ _ s
        · exact s
        · exact s
theorem Zen (I : Nat → Ro → Sto → Prop) {n : Nat} {xs : List D} (hM : M[n]? = some (.lst xs)) (h0 : I 0 ρ M) (hm : ∀ i ρ M, I i ρ M → M[n]? = some (.lst xs)) (st : ∀ i ρ M (h : i < xs.length), I i ρ M → wG (tg xs[i] ρ) fun r => wS (bd r M) (I (i + 1)) R N (I (i + 1)) E) (hn : ∀ ρ M, I xs.length ρ M → N ρ M) : wS (ZjX tg bd (.ref n) ρ M) N R B C E := by
  show wS (match M[n]? with | some (.lst xs) => ZhV tg bd n xs.length 0 ρ M | none => .bad) N R B C E
  rw [hM]
  exact Zib I xs.length 0 ρ M (by omega) h0 hm st hn
theorem Zlh : wS (ZcR tg fi bd ρ M) N R B C E = wO (fi ρ M) (fun src M1 => wS (ZgV tg bd src (cnt src M1) 0 ρ M1) N R B C E) E := Zaz
theorem Zj6 (I : Nat → Ro → Sto → Prop) {src : Src} {xs : List D} : ∀ (f i : Nat) (ρ : Ro) (M : Sto), i ≤ xs.length → xs.length ≤ i + f → I i ρ M → (∀ i ρ M, i ≤ xs.length → I i ρ M → nxt src i M = some xs[i]?) → (∀ i ρ M (h : i < xs.length), I i ρ M → wG (tg xs[i] ρ) fun r => wS (bd r M) (I (i + 1)) R N (I (i + 1)) E) → (∀ ρ M, I xs.length ρ M → N ρ M) → wS (ZgV tg bd src f i ρ M) N R B C E
  | f, i, ρ, M, le, e, h, hm, st, hn => by
    have hx := hm _ _ _ le h
    unfold ZgV
    rw [hx]
    by_cases hi : i < xs.length
    · have : xs[i]? = some xs[i] := List.getElem?_eq_getElem hi
      simp only [this]
      cases f with
      | zero => omega
      | succ f =>
        have s := st i ρ M hi h
        simp only []
        cases e : tg xs[i] ρ with
        | none => rw [e] at s; exact s.elim
        | some ρ1 =>
          rw [e] at s
          simp only [wG] at s
          have rc : ∀ ρ2 M2, I (i + 1) ρ2 M2 → wS (ZgV tg bd src f (i + 1) ρ2 M2) N R B C E := fun ρ2 M2 h2 => Zj6 I f (i + 1) ρ2 M2 (by omega) (by omega) h2 hm st hn
          cases eg : bd ρ1 M <;> rw [eg] at s <;> simp only [eg]
          · exact rc _ _ s
          · exact s
          · exact s
          · exact rc _ _ s
          · exact s
          · exact s
    · have : xs[i]? = none := List.getElem?_eq_none (by omega)
      simp only [this]
      exact hn ρ M (by rw [show xs.length = i by omega]; exact h)
theorem Zjo {c : Tv} (I : Nat → Ro → Sto → Prop) (st : ∀ n ρ M, I n ρ M → wO (c ρ M) (fun k M1 => Br k (wS (bd ρ M1) (fun ρ2 M2 => ∃ m, m < n ∧ I m ρ2 M2) R N (fun ρ2 M2 => ∃ m, m < n ∧ I m ρ2 M2) E) (N ρ M1)) E) : ∀ (n : Nat) (ρ : Ro) (M : Sto), I n ρ M → wS (sWh c bd ρ M) N R B C E := by
  intro n
  induction n using Nat.strongRecOn with
  | ind n ih =>
    intro ρ M h
    have s := st n ρ M h
    cases ec : c ρ M with
    | bad => rw [ec] at s; exact s.elim
    | exc x M1 => rw [ec] at s; rw [Zdo (n := 1) (o := .exc x M1) (by simp only [whN, ec])]; exact s
    | ok k M1 =>
      rw [ec] at s
      cases k with
      | false =>
        rw [Zl, Zq0] at s
        rw [Ze5 ec]
        exact s
      | true =>
        rw [Zl, Zph] at s
        cases eg : bd ρ M1 with
        | nx ρ2 M2 =>
          rw [eg] at s
          obtain ⟨m, hm, hI⟩ := s
          have r := ih m hm ρ2 M2 hI
          rw [Zgl ec eg (by intro z; rw [z] at r; exact r)]
          exact r
        | cnt ρ2 M2 =>
          rw [eg] at s
          obtain ⟨m, hm, hI⟩ := s
          have r := ih m hm ρ2 M2 hI
          have nb : sWh c bd ρ2 M2 ≠ .bad := by intro z; rw [z] at r; exact r
          obtain ⟨j, ej⟩ := ZhU nb
          rw [Zdo (n := j + 1) (o := sWh c bd ρ2 M2) (by simp only [whN, ec, eg]; exact ej)]
          exact r
        | brk ρ2 M2 => rw [eg] at s; rw [Zdo (n := 1) (o := .nx ρ2 M2) (by simp only [whN, ec, eg])]; exact s
        | ret d M2 => rw [eg] at s; rw [Zdo (n := 1) (o := .ret d M2) (by simp only [whN, ec, eg])]; exact s
        | exc d M2 => rw [eg] at s; rw [Zdo (n := 1) (o := .exc d M2) (by simp only [whN, ec, eg])]; exact s
        | bad => rw [eg] at s; exact s.elim
theorem Zli {fi : Ro → Sto → Out Src} {k : Nat} {fr : List Nat} {c : Tv} : wO (Zb6 fi k fr tg c f ρ M) Q E = wO (fi ρ M) (fun src M1 => wO (Zdz src tg c f M1.length (cnt src M1) 0 (roB k fr ρ) (M1 ++ [.lst []])) (fun _ M2 => Q (.ref M1.length) M2) (fun _ _ => False)) E := by
  unfold Zb6
  rw [Zw]
  congr 1
  funext src M1
  cases Zdz src tg c f M1.length (cnt src M1) 0 (roB k fr ρ) (M1 ++ [.lst []]) <;> rfl
theorem Zj7 (I : Nat → Ro → Sto → Prop) {src : Src} {xs : List D} {c : Tv} {m : Nat} {Q : Sto → Prop} : ∀ (fu i : Nat) (ρ : Ro) (M : Sto), i ≤ xs.length → xs.length ≤ i + fu → I i ρ M → (∀ i ρ M, i ≤ xs.length → I i ρ M → nxt src i M = some xs[i]?) →
    (∀ i ρ M (h : i < xs.length), I i ρ M → wG (tg xs[i] ρ) fun r => wO (c r M) (fun k M1 => Br k (wO (f r M1) (fun y M2 => wL M2[m]? fun ys => ys.length < 10000000 ∧ I (i + 1) r (M2.set m (.lst (ys ++ [y])))) (fun _ _ => False)) (I (i + 1) r M1)) (fun _ _ => False)) →
    (∀ ρ M, I xs.length ρ M → Q M) → wO (Zdz src tg c f m fu i ρ M) (fun _ M2 => Q M2) (fun _ _ => False)
  | fu, i, ρ, M, le, e, h, hm, st, hn => by
    have hx := hm _ _ _ le h
    unfold Zdz
    rw [hx]
    by_cases hi : i < xs.length
    · have : xs[i]? = some xs[i] := List.getElem?_eq_getElem hi
      simp only [this]
      cases fu with
      | zero => omega
      | succ fu =>
        have s := st i ρ M hi h
        simp only []
        cases e : tg xs[i] ρ with
        | none => rw [e] at s; exact s.elim
        | some ρ1 =>
          rw [e] at s
          simp only [wG] at s
          have rc : ∀ ρ2 M2, I (i + 1) ρ2 M2 → wO (Zdz src tg c f m fu (i + 1) ρ2 M2) (fun _ M2 => Q M2) (fun _ _ => False) := fun ρ2 M2 h2 => Zj7 I fu (i + 1) ρ2 M2 (by omega) (by omega) h2 hm st hn
          cases ec : c ρ1 M with
          | bad => rw [ec] at s; exact s.elim
          | exc _ _ => rw [ec] at s; exact s.elim
          | ok k M1 =>
            rw [ec] at s
            rw [Zl] at s
            cases k with
            | false =>
              rw [Zq0] at s
              simp only [ec]
              exact rc _ _ s
            | true =>
              rw [Zph] at s
              simp only [ec]
              cases ef : f ρ1 M1 with
              | bad => rw [ef] at s; exact s.elim
              | exc _ _ => rw [ef] at s; exact s.elim
              | ok y M2 =>
                rw [ef, Zl] at s
                simp only [ef]
                cases ey : M2[m]? with
                | none => rw [ey] at s; exact s.elim
                | some o =>
                  cases o with
                  | lst ys =>
                    rw [ey] at s
                    simp only [wL, ey] at s ⊢
                    rw [if_pos s.1]
                    exact rc _ _ s.2
    · have : xs[i]? = none := List.getElem?_eq_none (by omega)
      simp only [this]
      exact hn ρ M (by rw [show xs.length = i by omega]; exact h)
end
end DL
end
section
set_option Elab.async false
set_option linter.all false
set_option maxRecDepth 100000
set_option maxHeartbeats 4000000
namespace DL
open PySem PySem.Spec PyProof.Rows L2
section
variable {Q : D → Sto → Prop} {E : Str → Sto → Prop} {N B C : Ro → Sto → Prop} {R : D → Sto → Prop} {ρ : Ro} {M : Sto} {f : Ev} {fs : Av} {i j : Int} {n m k : Nat} {x y d : D} {xs ys ds : List D} {lo hi : Ro → Sto → Out (Option Int)}
theorem Zfa (h : -(18446744073709551616) < i ∧ i < 18446744073709551616) : Zz i j := ZdJ h.1 h.2
theorem Zeo (h : -(18446744073709551616) < j ∧ j < 18446744073709551616) : Zz i j := ZbH h.1 h.2
theorem Zdr (h : 0 < j ∧ j < 18446744073709551616) : Z7 j := by
  refine ⟨by omega, ?_⟩
  have : j.natAbs.log2 < 64 := (Nat.log2_lt (by omega)).mpr (by omega)
  omega
theorem Zpj : wO (dAdd (.int i) (.int j) M) Q E = Q (.int (i + j)) M := rfl
theorem Zpk : wO (dSub (.int i) (.int j) M) Q E = Q (.int (i - j)) M := rfl
theorem Zcd (h : Zz i j) : wO (dMul (.int i) (.int j) M) Q E = Q (.int (i * j)) M := by
  show wO (if Zz i j then _ else _) Q E = _
  rw [if_pos h]; rfl
theorem Zpl (h : -(18446744073709551616) < i ∧ i < 18446744073709551616) : wO (dMul (.int i) (.int j) M) Q E = Q (.int (i * j)) M := Zcd (Zfa h)
theorem Zna (h : -(18446744073709551616) < j ∧ j < 18446744073709551616) : wO (dMul (.int i) (.int j) M) Q E = Q (.int (i * j)) M := Zcd (Zeo h)
theorem Zpm (h : 0 < j ∧ j < 18446744073709551616) : wO (dDiv (.int i) (.int j) M) Q E = Q (.int (i / j)) M := by
  show wO (if Z7 j then _ else _) Q E = _
  rw [if_pos (Zdr h), Int.fdiv_eq_ediv_of_nonneg _ (by omega)]; rfl
theorem Zpn (h : 0 < j) : wO (dMod (.int i) (.int j) M) Q E = Q (.int (i % j)) M := by
  show wO (if j ≠ 0 then _ else _) Q E = _
  rw [if_pos (by omega), Int.fmod_eq_emod_of_nonneg _ (by omega)]; rfl
theorem Zpo (h : 0 ≤ j ∧ j ≤ 1000000 ∧ i.natAbs < 18446744073709551616) : wO (dPow (.int i) (.int j) M) Q E = Q (.int (i ^ j.toNat)) M := by
  show wO (if 0 ≤ j ∧ j ≤ 1000000 ∧ i.natAbs < 2 ^ 64 then _ else _) Q E = _
  rw [if_pos ⟨h.1, h.2.1, by omega⟩]; rfl
theorem Zsn : wO (dLt (.int i) (.int j) M) Q E = Q (.bl (decide (i < j))) M := rfl
theorem Zso : wO (dLe (.int i) (.int j) M) Q E = Q (.bl (decide (i ≤ j))) M := rfl
theorem Zsp : wO (dGt (.int i) (.int j) M) Q E = Q (.bl (decide (j < i))) M := rfl
theorem Zsq : wO (dGe (.int i) (.int j) M) Q E = Q (.bl (decide (j ≤ i))) M := rfl
theorem Zpp : wO (dAdd (.ref n) (.ref m) M) Q E = wL M[n]? fun xs => wL M[m]? fun ys => xs.length + ys.length ≤ 10000000 ∧ Q (.ref M.length) (M ++ [.lst (xs ++ ys)]) := by
  show wO (match M[n]?, M[m]? with | some (.lst xs), some (.lst ys) => _ | _, _ => _) Q E = _
  cases e1 : M[n]? with
  | none => rfl
  | some o =>
    cases o with
    | lst xs =>
      cases e2 : M[m]? with
      | none => rfl
      | some p =>
        cases p with
        | lst ys =>
          by_cases h : xs.length + ys.length ≤ 10000000
          · simp [wL, h, wO]
          · simp [wL, h, wO]
theorem Znb (h : xs.length + ys.length ≤ 100000 ∧ xs ≠ []) : wO (dAdd (.tup xs) (.tup ys) M) Q E = Q (.tup (xs ++ ys)) M := by
  show wO (if xs.length + ys.length ≤ 100000 ∧ xs ≠ [] then _ else _) Q E = _
  rw [if_pos h]; rfl
theorem Zsr : wO (dEq x y M) Q E = wG (eqF 12 M x y) fun b => Q (.bl b) M := by
  show wO (match eqF 12 M x y with | some b => _ | none => _) Q E = _
  cases eqF 12 M x y <;> rfl
theorem Zss : wO (dNe x y M) Q E = wG (eqF 12 M x y) fun b => Q (.bl (!b)) M := by
  show wO (match eqF 12 M x y with | some b => _ | none => _) Q E = _
  cases eqF 12 M x y <;> rfl
theorem Zst : wO (dIs x y M) Q E = wG (isP x y) fun b => Q (.bl b) M := by
  show wO (match isP x y with | some b => _ | none => _) Q E = _
  cases isP x y <;> rfl
theorem Zpq : wO (dIsNot x y M) Q E = wG (isP x y) fun b => Q (.bl (!b)) M := by
  show wO (match isP x y with | some b => _ | none => _) Q E = _
  cases isP x y <;> rfl
theorem Zlj : wO (atD xs i M) Q E = wG (atI xs i) fun d => Q d M := by
  unfold atD
  cases atI xs i <;> rfl
theorem Zpr : wO (dIx (.tup xs) (.int i) M) Q E = wG (atI xs i) fun d => Q d M := Zlj
theorem Zps : wO (dIx (.rol xs) (.int i) M) Q E = wG (atI xs i) fun d => Q d M := Zlj
theorem Zpt : wO (dIx (.ref n) (.int i) M) Q E = wL M[n]? fun xs => wG (atI xs i) fun d => Q d M := by
  show wO (match M[n]? with | some (.lst xs) => atD xs i M | _ => .bad) Q E = _
  cases e1 : M[n]? with
  | none => rfl
  | some o => cases o with | lst xs => exact Zlj
theorem Znc : wO (bLen [.ref n] M) Q E = wL M[n]? fun xs => Q (.int xs.length) M := by
  show wO (match (match M[n]? with | some (.lst xs) => some xs | _ => none) with | some xs => _ | none => _) Q E = _
  cases e1 : M[n]? with
  | none => rfl
  | some o => cases o with | lst xs => rfl
theorem Znd : wO (bLen [.tup xs] M) Q E = Q (.int xs.length) M := rfl
theorem Zne : wO (bLen [.rol xs] M) Q E = Q (.int xs.length) M := rfl
theorem Zpu : wO (bAbs [.int i] M) Q E = Q (.int (i.natAbs : Int)) M := by rw [← Zh7]; rfl
theorem Zpv : wO (bMax [.int i, .int j] M) Q E = Q (.int (max i j)) M := by
  have : max i j = if j > i then j else i := by split <;> omega
  rw [this]; rfl
theorem Zpw : wO (bMin [.int i, .int j] M) Q E = Q (.int (min i j)) M := by
  have : min i j = if j < i then j else i := by split <;> omega
  rw [this]; rfl
theorem Znf {k : Bool} : wO (bInt [.bl k] M) Q E = Q (.int (if k then 1 else 0)) M := rfl
theorem Zng : wO (bInt [.int i] M) Q E = Q (.int i) M := rfl
theorem Zlk : wO (bList [.ref n] M) Q E = wL M[n]? fun xs => Q (.ref M.length) (M ++ [.lst xs]) := by
  show wO (match (match M[n]? with | some (.lst xs) => some xs | _ => none) with | some xs => _ | none => _) Q E = _
  cases e1 : M[n]? with
  | none => rfl
  | some o => cases o with | lst xs => rfl
theorem Zll : wO (bList [.tup xs] M) Q E = Q (.ref M.length) (M ++ [.lst xs]) := rfl
theorem Zpx : wO (bAll [.ref n] M) Q E = wL M[n]? fun xs => wG (ZaD xs) fun bs => Q (.bl (bs.all id)) M := by
  show wO (match M[n]? with | some (.lst xs) => (match ZaD xs with | some bs => Out.ok (.bl (bs.all id)) M | none => .bad) | none => .bad) Q E = _
  cases e1 : M[n]? with
  | none => rfl
  | some o =>
    cases o with
    | lst xs =>
      show wO (match ZaD xs with | some bs => Out.ok (.bl (bs.all id)) M | none => .bad) Q E = wG (ZaD xs) _
      cases ZaD xs <;> rfl
theorem Znh {g : List Int → Option Int} : wO (Zjk g [.ref n] M) Q E = wL M[n]? fun xs => wG (ZdZ xs) fun ns => wG (g ns) fun i => Q (.int i) M := by
  show wO (match (match M[n]? with | some (.lst xs) => some xs | _ => none) with | some xs => (match ZdZ xs with | some ns => (match g ns with | some i => Out.ok (.int i) M | none => .bad) | none => .bad) | none => .bad) Q E = _
  cases e1 : M[n]? with
  | none => rfl
  | some o =>
    cases o with
    | lst xs =>
      show wO (match ZdZ xs with | some ns => (match g ns with | some i => Out.ok (.int i) M | none => .bad) | none => .bad) Q E = wG (ZdZ xs) _
      cases ZdZ xs with
      | none => rfl
      | some ns =>
        show wO (match g ns with | some i => Out.ok (.int i) M | none => .bad) Q E = wG (g ns) _
        cases g ns <;> rfl
theorem Zsu {g : Me} {fo : Ev} : wO (Zc6 g fo fs ρ M) Q E = wO (fo ρ M) (fun x M1 => Zk3 x M1 = true ∧ wO (fs ρ M1) (fun ds M2 => wO (g x ds M2) Q E) E) E := by
  unfold Zc6
  rw [Zw]
  congr 1
  funext x M1
  by_cases h : Zk3 x M1 = true
  · simp only [h, if_true, true_and]; rw [Zw]
  · simp [h, wO]
theorem Zni : Zk3 (.ref n) M = M[n]?.isSome := rfl
theorem Zpy : wO (mApp (.ref n) [d] M) Q E = wL M[n]? fun xs => xs.length < 10000000 ∧ Q .non (M.set n (.lst (xs ++ [d]))) := by
  show wO (match M[n]? with | some (.lst xs) => if xs.length < 10000000 then _ else _ | none => _) Q E = _
  cases e1 : M[n]? with
  | none => rfl
  | some o =>
    cases o with
    | lst xs =>
      by_cases h : xs.length < 10000000
      · simp [wL, h, wO]
      · simp [wL, h, wO]
theorem Zpz : wO (ZqY (.ref n) [] M) Q E = wL M[n]? fun xs => Q .non (M.set n (.lst [])) := by
  show wO (match M[n]? with | some (.lst xs) => _ | none => _) Q E = _
  cases e1 : M[n]? with
  | none => rfl
  | some o => cases o with | lst xs => rfl
theorem ZpA : wO (mExt (.ref n) [.ref m] M) Q E = wL M[n]? fun xs => wL M[m]? fun ys => xs.length + ys.length ≤ 10000000 ∧ Q .non (M.set n (.lst (xs ++ ys))) := by
  show wO (match M[n]?, M[m]? with | some (.lst xs), some (.lst ys) => if xs.length + ys.length ≤ 10000000 then _ else _ | _, _ => _) Q E = _
  cases e1 : M[n]? with
  | none => rfl
  | some o =>
    cases o with
    | lst xs =>
      cases e2 : M[m]? with
      | none => rfl
      | some p =>
        cases p with
        | lst ys =>
          by_cases h : xs.length + ys.length ≤ 10000000
          · simp [wL, h, wO]
          · simp [wL, h, wO]
noncomputable def slR (x : D) (l u : Option Int) (M3 : Sto) : Out D := match x with
  | .ref n => (match M3[n]? with | some (.lst xs) => .ok (.ref M3.length) (M3 ++ [.lst (ZeL xs l u)]) | none => .bad)
  | .rol xs => .ok (.ref M3.length) (M3 ++ [.lst (ZeL xs l u)])
  | .tup xs => if HT.sIx xs.length 0 l = 0 ∧ HT.sIx xs.length xs.length u = xs.length then .bad else .ok (.tup (ZeL xs l u)) M3
  | _ => .bad
theorem ZpB : wO (eSl f lo hi ρ M) Q E = wO (f ρ M) (fun x M1 => wO (lo ρ M1) (fun l M2 => wO (hi ρ M2) (fun u M3 => wO (slR x l u M3) Q E) E) E) E := by
  unfold eSl
  rw [Zw]
  congr 1
  funext x M1
  rw [Zw]
  congr 1
  funext l M2
  rw [Zw]
  congr 1
theorem ZpC {l u : Option Int} : wO (slR (.ref n) l u M) Q E = wL M[n]? fun xs => Q (.ref M.length) (M ++ [.lst (ZeL xs l u)]) := by
  unfold slR
  cases e1 : M[n]? with
  | none => simp only [e1]; rfl
  | some o => cases o with | lst xs => simp only [e1]; rfl
theorem ZpD {Q : Option Int → Sto → Prop} : wO (oSo f ρ M) Q E = wO (f ρ M) (fun x M1 => wI x fun i => Q (some i) M1) E := by
  unfold oSo
  rw [Zw]
  congr 1
  funext x M1
  cases x <;> rfl
theorem Znj (h : 0 ≤ i) : ZeL xs none (some i) = xs.take i.toNat := by
  unfold ZeL
  simp only [HT.sIx]
  rw [if_neg (by omega), List.drop_zero, Nat.sub_zero]
  by_cases c : i.toNat ≤ xs.length
  · rw [Nat.min_eq_left c]
  · rw [Nat.min_eq_right (by omega), List.take_of_length_le (Nat.le_refl _), List.take_of_length_le (by omega)]
theorem Zjp (h : 0 ≤ i) : ZeL xs (some i) none = xs.drop i.toNat := by
  unfold ZeL
  simp only [HT.sIx]
  rw [if_neg (by omega)]
  by_cases c : i.toNat ≤ xs.length
  · rw [Nat.min_eq_left c, List.take_of_length_le (by simp)]
  · rw [Nat.min_eq_right (by omega), List.drop_eq_nil_of_le (Nat.le_refl _), List.drop_eq_nil_of_le (by omega), List.take_nil]
theorem Zd0 {L : Sto} : (M ++ L)[M.length]? = L[0]? := by rw [List.getElem?_append_right (Nat.le_refl _), Nat.sub_self]
theorem ZfA {L : Sto} {i : Nat} : (M ++ L)[M.length + i]? = L[i]? := by rw [List.getElem?_append_right (by omega)]; congr 1; omega
theorem ZaF {L : Sto} (h : n < M.length) : (M ++ L)[n]? = M[n]? := List.getElem?_append_left h
theorem Zj8 {L : Sto} {o : SO} : (M ++ L).set M.length o = M ++ L.set 0 o := by rw [List.set_append_right _ _ (Nat.le_refl _), Nat.sub_self]
theorem ZpE {L : Sto} {o : SO} {i : Nat} : (M ++ L).set (M.length + i) o = M ++ L.set i o := by rw [List.set_append_right _ _ (by omega)]; congr 2; omega
theorem Znk {o : SO} (h : k ≠ n) : (M.set n o)[k]? = M[k]? := List.getElem?_set_ne (Ne.symm h)
theorem Znl {o : SO} (h : n < M.length) : (M.set n o)[n]? = some o := List.getElem?_set_self h
theorem Zy {o : SO} (h : M[n]? = some o) : n < M.length := (List.getElem?_eq_some_iff.mp h).1
noncomputable abbrev pr (x y : Int) : D := .tup [.int x, .int y]
noncomputable def prs (rs : List (Int × Int)) : List D := rs.map fun p => pr p.1 p.2
noncomputable def nts (ns : List Int) : List D := ns.map D.int
theorem ZJ {rs : List (Int × Int)} : (prs rs).length = rs.length := List.length_map _
theorem Zbo {rs : List Int} : (nts rs).length = rs.length := List.length_map _
theorem ZfN {a b : List (Int × Int)} : prs a ++ prs b = prs (a ++ b) := (List.map_append).symm
theorem Zic {a b : List Int} : nts a ++ nts b = nts (a ++ b) := (List.map_append).symm
theorem Zep {a : List (Int × Int)} : (prs a).take n = prs (a.take n) := List.map_take.symm
theorem ZdA {a : List (Int × Int)} : (prs a).drop n = prs (a.drop n) := List.map_drop.symm
theorem Zjq {a : List Int} : (nts a).take n = nts (a.take n) := List.map_take.symm
theorem Zjr {a : List Int} : (nts a).drop n = nts (a.drop n) := List.map_drop.symm
theorem Zjs {a b : Int} {r : List (Int × Int)} : pr a b :: prs r = prs ((a, b) :: r) := rfl
theorem Zlm {a : List (Int × Int)} {b c : Int} : (prs a).set n (pr b c) = prs (a.set n (b, c)) := by unfold prs; rw [List.map_set]
theorem Zln {a : List Int} {b : Int} : (nts a).set n (.int b) = nts (a.set n b) := by unfold nts; rw [List.map_set]
noncomputable def cy (rs : List (Int × Int)) (i : Int) : Int × Int := rs.getD (i % rs.length).toNat (0, 0)
noncomputable def cn (rs : List Int) (i : Int) : Int := rs.getD (i % rs.length).toNat 0
theorem Zid {i : Int} {n : Nat} (h : -(n : Int) ≤ i ∧ i < n) : ixN n i = some (i % n).toNat := by
  unfold ixN
  by_cases c : 0 ≤ i
  · rw [if_pos c, if_pos h.2, Int.emod_eq_of_lt c h.2]
  · rw [if_neg c, if_pos h.1]
    have : i % n = i + n := by
      rw [← Int.add_emod_right, Int.emod_eq_of_lt (by omega) (by omega)]
    rw [this]
theorem Zce {rs : List (Int × Int)} (h : -(rs.length : Int) ≤ i ∧ i < rs.length) : atI (prs rs) i = some (pr (cy rs i).1 (cy rs i).2) := by
  unfold atI
  rw [ZJ, Zid h]
  have hp : (i % rs.length).toNat < rs.length := by
    have := Int.emod_lt_of_pos i (show (0 : Int) < rs.length by omega)
    have := Int.emod_nonneg i (show (rs.length : Int) ≠ 0 by omega)
    omega
  simp [prs, cy, List.getElem?_eq_getElem hp]
theorem Znm {rs : List Int} (h : -(rs.length : Int) ≤ i ∧ i < rs.length) : atI (nts rs) i = some (.int (cn rs i)) := by
  unfold atI
  rw [Zbo, Zid h]
  have hp : (i % rs.length).toNat < rs.length := by
    have := Int.emod_lt_of_pos i (show (0 : Int) < rs.length by omega)
    have := Int.emod_nonneg i (show (rs.length : Int) ≠ 0 by omega)
    omega
  simp [nts, cn, List.getElem?_eq_getElem hp]
theorem ZcT {rs : List (Int × Int)} : cy rs (i % rs.length) = cy rs i := by unfold cy; rw [Int.emod_emod_of_dvd _ (Int.dvd_refl _)]
theorem ZcU {rs : List (Int × Int)} : cy rs (i + rs.length) = cy rs i := by unfold cy; rw [Int.add_emod_right]
theorem ZdK {rs : List (Int × Int)} : cy rs (i - rs.length) = cy rs i := by unfold cy; rw [Int.sub_emod_right]
theorem ZdL {rs : List (Int × Int)} {k : Nat} (h : k < rs.length) : cy rs k = rs[k] := by
  unfold cy
  rw [Int.emod_eq_of_lt (by omega) (by omega)]
  simp [List.getElem?_eq_getElem h]
theorem Zgs {rs : List Int} {k : Nat} (h : k < rs.length) : cn rs k = rs[k] := by
  unfold cn
  rw [Int.emod_eq_of_lt (by omega) (by omega)]
  simp [List.getElem?_eq_getElem h]
theorem ZpF {a b : Int} : eqF (n + 1) M (.int a) (.int b) = some (decide (a = b)) := rfl
theorem Zsv {a b : Bool} : eqF (n + 1) M (.bl a) (.bl b) = some (a == b) := rfl
theorem Zq1 {a b c d : Int} : eqF (n + 2) M (pr a b) (pr c d) = some (decide ((a, b) = (c, d))) := by
  show some ((a == c) && ((b == d) && true)) = _
  congr 1
  rw [Bool.eq_iff_iff]
  simp
theorem Zie {rs ss : List (Int × Int)} : eqL (eqF (n + 2) M) (prs rs) (prs ss) = some (decide (rs = ss)) := by
  induction rs generalizing ss with
  | nil => cases ss <;> rfl
  | cons r rs ih =>
    cases ss with
    | nil => rfl
    | cons s ss =>
      show (match eqF (n + 2) M (pr r.1 r.2) (pr s.1 s.2) with | some a => (match eqL _ (prs rs) (prs ss) with | some b => some (a && b) | none => none) | none => none) = _
      rw [Zq1, ih]
      simp only []
      congr 1
      rw [Bool.eq_iff_iff]
      obtain ⟨r1, r2⟩ := r
      obtain ⟨s1, s2⟩ := s
      simp
theorem Zjt {xs ys : List D} (h1 : M[n]? = some (.lst xs)) (h2 : M[m]? = some (.lst ys)) : eqF (k + 1) M (.ref n) (.ref m) = if xs.length = ys.length then eqL (eqF k M) xs ys else some false := by
  show (match kd M (.ref n), kd M (.ref m) with | some a, some b => eqK (eqF k M) a b | _, _ => none) = _
  have e1 : kd M (.ref n) = some (.lst xs) := by show (match M[n]? with | some (.lst xs) => some (Kd.lst xs) | _ => none) = _; rw [h1]
  have e2 : kd M (.ref m) = some (.lst ys) := by show (match M[m]? with | some (.lst xs) => some (Kd.lst xs) | _ => none) = _; rw [h2]
  rw [e1, e2]
  rfl
theorem Zlo {rs ss : List (Int × Int)} (h1 : M[n]? = some (.lst (prs rs))) (h2 : M[m]? = some (.lst (prs ss))) : eqF 12 M (.ref n) (.ref m) = some (decide (rs = ss)) := by
  rw [Zjt h1 h2, ZJ, ZJ]
  by_cases c : rs.length = ss.length
  · rw [if_pos c, Zie]
  · rw [if_neg c]
    congr 1
    symm
    exact decide_eq_false fun z => c (by rw [z])
theorem Znn : Zaw M (.int i) = some "int" := rfl
theorem ZpG {b : Bool} : Zaw M (.bl b) = some "bool" := rfl
theorem Zno : Zaw M (.tup xs) = some "tuple" := rfl
theorem Znp : Zaw M .non = some "NoneType" := rfl
theorem Znq (h : M[n]? = some (.lst xs)) : Zaw M (.ref n) = some "list" := by
  show (match (match M[n]? with | some (.lst xs) => some (Kd.lst xs) | _ => none) with | some .non => _ | some (.bl _) => _ | some (.int _) => _ | some (.str _) => _ | some (.tup _) => _ | some (.lst _) => _ | none => _) = _
  rw [h]
end
end DL
end
section
set_option Elab.async false
set_option linter.all false
set_option maxRecDepth 100000
set_option maxHeartbeats 4000000
namespace DL
open PySem PySem.Spec PyProof.Rows L2
section
variable {Q : D → Sto → Prop} {E : Str → Sto → Prop} {N B C : Ro → Sto → Prop} {R : D → Sto → Prop} {ρ : Ro} {M : Sto} {f : Ev} {fs : Av} {i j : Int} {n m k : Nat} {x y z d : D} {xs ys ds : List D} {QS : Src → Sto → Prop} {tg : Tg} {bd : Sv} {b : Bool}
theorem Zlp : wS (ZhW tg fs bd ρ M) N R B C E = wO (fs ρ M) (fun ds M1 => w2 ds fun x y => wI x fun i => wI y fun j => (-(2 ^ 62) ≤ i ∧ i < 2 ^ 62 ∧ -(2 ^ 62) ≤ j ∧ j < 2 ^ 62) ∧ wS (Zcs tg bd (Zb7 i (j - i).toNat) ρ M1) N R B C E) E := by
  unfold ZhW
  rw [Zaz]
  congr 1
  funext ds M1
  rcases ds with _ | ⟨v, _ | ⟨w, _ | ⟨w', r⟩⟩⟩
  · rfl
  · cases v <;> rfl
  · cases v <;> try rfl
    cases w <;> try rfl
    rename_i i j
    by_cases h : -(2 ^ 62) ≤ i ∧ i < 2 ^ 62 ∧ -(2 ^ 62) ≤ j ∧ j < 2 ^ 62
    · simp only [w2, wI, eq_true h, true_and, if_true]
    · simp only [w2, wI, eq_false h, false_and, if_false]
      rfl
  · cases v <;> cases w <;> rfl
theorem Zsw : wO (iR1 fs ρ M) QS E = wO (fs ρ M) (fun ds M1 => w1 ds fun d => wI d fun j => (-(2 ^ 62) ≤ j ∧ j < 2 ^ 62) ∧ QS (.pur (Zb7 0 j.toNat)) M1) E := by
  unfold iR1
  rw [Zw]
  congr 1
  funext ds M1
  rcases ds with _ | ⟨v, _ | ⟨w, r⟩⟩
  · rfl
  · cases v <;> try rfl
    rename_i j
    by_cases h : -(2 ^ 62) ≤ j ∧ j < 2 ^ 62
    · simp only [w1, wI, eq_true h, true_and, if_true, Zl]
    · simp only [w1, wI, eq_false h, false_and, if_false]
      rfl
  · cases v <;> rfl
theorem Zsx : wO (iR2 fs ρ M) QS E = wO (fs ρ M) (fun ds M1 => w2 ds fun x y => wI x fun i => wI y fun j => (-(2 ^ 62) ≤ i ∧ i < 2 ^ 62 ∧ -(2 ^ 62) ≤ j ∧ j < 2 ^ 62) ∧ QS (.pur (Zb7 i (j - i).toNat)) M1) E := by
  unfold iR2
  rw [Zw]
  congr 1
  funext ds M1
  rcases ds with _ | ⟨v, _ | ⟨w, _ | ⟨w', r⟩⟩⟩
  · rfl
  · cases v <;> rfl
  · cases v <;> try rfl
    cases w <;> try rfl
    rename_i i j
    by_cases h : -(2 ^ 62) ≤ i ∧ i < 2 ^ 62 ∧ -(2 ^ 62) ≤ j ∧ j < 2 ^ 62
    · simp only [w2, wI, eq_true h, true_and, if_true, Zl]
    · simp only [w2, wI, eq_false h, false_and, if_false]
      rfl
  · cases v <;> cases w <;> rfl
theorem Zsy : wO (iEn fs ρ M) QS E = wO (fs ρ M) (fun ds M1 => w1 ds fun d => wR d fun n => QS (.enu n) M1) E := by
  unfold iEn
  rw [Zw]
  congr 1
  funext ds M1
  rcases ds with _ | ⟨v, _ | ⟨w, r⟩⟩ <;> try rfl
  · cases v <;> rfl
  · cases v <;> rfl
theorem Zsz : wO (iZp fs ρ M) QS E = wO (fs ρ M) (fun ds M1 => w2 ds fun x y => wR x fun n => wR y fun m => QS (.zip n m) M1) E := by
  unfold iZp
  rw [Zw]
  congr 1
  funext ds M1
  rcases ds with _ | ⟨v, _ | ⟨w, _ | ⟨w', r⟩⟩⟩ <;> try rfl
  · cases v <;> rfl
  · cases v <;> cases w <;> rfl
  · cases v <;> cases w <;> rfl
theorem ZsA : wO (iRv fs ρ M) QS E = wO (fs ρ M) (fun ds M1 => w1 ds fun d => wR d fun n => wL M1[n]? fun xs => QS (.rev n xs.length) M1) E := by
  unfold iRv
  rw [Zw]
  congr 1
  funext ds M1
  rcases ds with _ | ⟨v, _ | ⟨w, r⟩⟩ <;> try rfl
  · cases v <;> try rfl
    rename_i n
    cases e : M1[n]? with
    | none => simp only [e]; simp only [w1, wR, e]; rfl
    | some o => cases o with | lst xs => simp only [e, w1, wR]; rfl
  · cases v <;> rfl
noncomputable def Znr (Q : D → Sto → Prop) (ρ : Ro) (M : Sto) : Prop := Q .non M
theorem wF1 : wO (fnF bd 1 k [x] M) Q E = wS (bd (some x :: List.replicate k none) M) (Znr Q) Q (fun _ _ => False) (fun _ _ => False) E := wF rfl
theorem wF2 : wO (fnF bd 2 k [x, y] M) Q E = wS (bd (some x :: some y :: List.replicate k none) M) (Znr Q) Q (fun _ _ => False) (fun _ _ => False) E := wF rfl
theorem wF3 : wO (fnF bd 3 k [x, y, z] M) Q E = wS (bd (some x :: some y :: some z :: List.replicate k none) M) (Znr Q) Q (fun _ _ => False) (fun _ _ => False) E := wF rfl
theorem wF4 : wO (fnF bd 4 k [x, y, z, d] M) Q E = wS (bd (some x :: some y :: some z :: some d :: List.replicate k none) M) (Znr Q) Q (fun _ _ => False) (fun _ _ => False) E := wF rfl
theorem Zgt {a : List (Int × Int)} {b c : Int} : prs a ++ [pr b c] = prs (a ++ [(b, c)]) := by simp [prs]
theorem Zju {a : List Int} {b : Int} : nts a ++ [D.int b] = nts (a ++ [b]) := by simp [nts]
theorem Zjv {b : Int} {r : List Int} : D.int b :: nts r = nts (b :: r) := rfl
theorem ZpH : isP .non .non = some true := rfl
theorem ZpI : isP (.int i) .non = some false := rfl
theorem ZpJ : isP (.tup xs) .non = some false := rfl
theorem ZpK : isP (.ref n) .non = some false := rfl
theorem Zlq (h : M[n]? = some (.lst xs)) : cnt (.sto n) M = xs.length := by show (match M[n]? with | some (.lst xs) => xs.length | none => 0) = _; rw [h]
theorem Zlr (h : M[n]? = some (.lst xs)) : cnt (.enu n) M = xs.length := by show (match M[n]? with | some (.lst xs) => xs.length | none => 0) = _; rw [h]
theorem at2 {r : List D} : atI (x :: y :: z :: r) 2 = some z := by
  show (ixN (r.length + 3) 2).bind _ = _
  unfold ixN
  rw [if_pos (by decide), if_pos (by omega)]
  rfl
theorem at3 {r : List D} : atI (x :: y :: z :: d :: r) 3 = some d := by
  show (ixN (r.length + 4) 3).bind _ = _
  unfold ixN
  rw [if_pos (by decide), if_pos (by omega)]
  rfl
theorem Zns : ZcH "int" "int" = true := rfl
theorem Znt : ZcH "int" "bool" = false := rfl
theorem Znu : ZcH "bool" "int" = true := rfl
theorem Znv : ZcH "bool" "bool" = true := rfl
theorem Znw : ZcH "tuple" "tuple" = true := rfl
theorem Znx : ZcH "list" "list" = true := rfl
theorem Zny : ZcH "tuple" "int" = false := rfl
theorem Znz : ZcH "tuple" "list" = false := rfl
theorem ZnA : ZcH "list" "tuple" = false := rfl
theorem ZnB : ZcH "list" "int" = false := rfl
theorem ZnC : ZcH "NoneType" "tuple" = false := rfl
theorem ZnD : ZcH "NoneType" "list" = false := rfl
theorem ZnE (h : M[n]? = some (.lst xs)) : nxt (.enu n) k M = some ((xs[k]?).map fun d => D.tup [.int k, d]) := by
  show (match M[n]? with | some (.lst xs) => (match xs[k]? with | some x => some (some (D.tup [.int k, x])) | none => some none) | none => none) = _
  rw [h]
  simp only []
  cases xs[k]? <;> rfl
theorem ZnF (h : M[n]? = some (.lst xs)) : nxt (.sto n) k M = some xs[k]? := by
  show (match M[n]? with | some (.lst xs) => some xs[k]? | none => none) = _
  rw [h]
section
variable {g : Jv} {bb : Nat}
end
theorem Zfb (I : Nat → Ro → Sto → Prop) (hM : M[n]? = some (.lst xs)) (h0 : I 0 ρ M) (hm : ∀ i ρ M, I i ρ M → M[n]? = some (.lst xs)) (st : ∀ (i : Nat) ρ M (h : i < xs.length), I i ρ M → wG (tg (.tup [.int i, xs[i]]) ρ) fun r => wS (bd r M) (I (i + 1)) R N (I (i + 1)) E) (hn : ∀ ρ M, I xs.length ρ M → N ρ M) : wS (ZgV tg bd (.enu n) (cnt (.enu n) M) 0 ρ M) N R B C E := by
  rw [Zlr hM]
  have hl : (xs.mapIdx fun (k : Nat) d => D.tup [.int k, d]).length = xs.length := by simp
  refine Zj6 I (xs := xs.mapIdx fun (k : Nat) d => D.tup [.int k, d]) _ 0 ρ M (by simp) (by simp) h0 (fun i ρ M _ hI => ?_) (fun i ρ M h hI => ?_) (fun ρ M hI => hn ρ M (by rw [hl] at hI; exact hI))
  · rw [ZnE (hm _ _ _ hI), List.getElem?_mapIdx]
  · rw [List.getElem_mapIdx]
    exact st i ρ M (by rw [hl] at h; exact h) hI
theorem Zls {src : Src} (Inv : Ro → Prop) (F : Nat → D) {Q : Sto → Prop} (hl : xs.length < 10000000) (hcnt : xs.length ≤ cnt src M) (h0 : Inv ρ) (hs : ∀ (L : Sto) (i : Nat), i ≤ xs.length → nxt src i (M ++ L) = some xs[i]?)
    (st : ∀ (i : Nat) (h : i < xs.length) (ρ : Ro) (L : Sto), Inv ρ → wG (tg xs[i] ρ) fun r => Inv r ∧ wO (f r (M ++ L)) (fun y M2 => y = F i ∧ M2 = M ++ L) (fun _ _ => False)) (hq : Q (M ++ [.lst ((List.range xs.length).map F)])) :
    wO (Zdz src tg (fun _ M => .ok true M) f M.length (cnt src M) 0 ρ (M ++ [.lst []])) (fun _ M2 => Q M2) (fun _ _ => False) := by
  refine Zj7 (fun i ρ M' => Inv ρ ∧ M' = M ++ [.lst ((List.range i).map F)]) (xs := xs) _ 0 ρ _ (by simp) (by omega) ⟨h0, rfl⟩ (fun i ρ M' hi hI => by rw [hI.2]; exact hs _ i hi) (fun i ρ M' h hI => ?_) (fun ρ M' hI => by rw [hI.2]; exact hq)
  obtain ⟨hI, rfl⟩ := hI
  have s := st i h ρ [.lst ((List.range i).map F)] hI
  cases e : tg xs[i] ρ with
  | none => rw [e] at s; exact s.elim
  | some r =>
    rw [e] at s
    obtain ⟨hr, s⟩ := s
    show Br true _ _
    rw [Zph]
    refine ZfM s (fun y M2 ⟨h1, h2⟩ => ?_) (fun _ _ z => z)
    subst h1 h2
    rw [Zd0]
    refine ⟨by simp; omega, hr, ?_⟩
    rw [Zj8, List.range_succ, List.map_append]
    rfl
theorem ZfO {lo : Int} : (Zb7 lo n).length = n := by simp [Zb7]
theorem Zlt {lo : Int} (h : k < (Zb7 lo n).length) : (Zb7 lo n)[k] = .int (lo + k) := by simp [Zb7]
theorem Zif {F : Nat → Int} : (List.range n).map (fun i => D.int (F i)) = nts ((List.range n).map F) := by simp [nts]
theorem Zjw {F G : Nat → Int} : (List.range n).map (fun i => pr (F i) (G i)) = prs ((List.range n).map fun i => (F i, G i)) := by simp [prs]
end
end DL
end
section
set_option Elab.async false
set_option linter.all false
set_option maxRecDepth 100000
set_option maxHeartbeats 4000000
namespace DL
open PySem PySem.Spec PyProof.Rows L2
section
variable {Q : D → Sto → Prop} {E : Str → Sto → Prop} {N B C : Ro → Sto → Prop} {R : D → Sto → Prop} {ρ : Ro} {M : Sto} {f g : Ev} {fs : Av} {i j : Int} {n m k : Nat} {x y z d : D} {xs ys ds : List D} {QL : List D → Sto → Prop} {QB : Bool → Sto → Prop} {QS : Src → Sto → Prop} {tg : Tg} {a bd : Sv} {b : Bool} {t u : Tv}
noncomputable def kU {β γ : Type} (u : β → Sto → Out γ) (Q : γ → Sto → Prop) (E : Str → Sto → Prop) (x : β) (M : Sto) : Prop := wO (u x M) Q E
noncomputable def kQ {β γ : Type} (Q : γ → Sto → Prop) (c : β → γ) (M : Sto) (x : β) : Prop := Q (c x) M
noncomputable def kB2 (op : Bo) (x : D) (Q : D → Sto → Prop) (E : Str → Sto → Prop) (y : D) (M : Sto) : Prop := wO (op x y M) Q E
noncomputable def kB1 (op : Bo) (g : Ev) (ρ : Ro) (Q : D → Sto → Prop) (E : Str → Sto → Prop) (x : D) (M : Sto) : Prop := wO (g ρ M) (kB2 op x Q E) E
theorem ZsB {op : Bo} : wO (e2 op f g ρ M) Q E = wO (f ρ M) (kB1 op g ρ Q E) E := Zpi
theorem y_c  : wO (eC d ρ M) Q E = Q d M := rfl
theorem y_v  : wO (Zd k ρ M) Q E = wV ρ[k]? (kQ Q id M) := Zsm
theorem ZnG {F : List D → Sto → Out D} : wO (Zg F fs ρ M) Q E = wO (fs ρ M) (kU F Q E) E := Zlc
noncomputable def kA2 (x : D) (Q : List D → Sto → Prop) (xs : List D) (M : Sto) : Prop := Q (x :: xs) M
noncomputable def kA1 (fs : Av) (ρ : Ro) (Q : List D → Sto → Prop) (E : Str → Sto → Prop) (x : D) (M : Sto) : Prop := wO (fs ρ M) (kA2 x Q) E
theorem ZpL  : wO (aNil ρ M) QL E = QL [] M := rfl
theorem ZnH  : wO (Za f fs ρ M) QL E = wO (f ρ M) (kA1 fs ρ QL E) E := Zld
noncomputable def kTu (Q : D → Sto → Prop) (xs : List D) (M : Sto) : Prop := xs.length ≤ 1000 ∧ Q (.tup xs) M
noncomputable def kLs (Q : D → Sto → Prop) (xs : List D) (M : Sto) : Prop := xs.length ≤ 1000 ∧ Q (.ref M.length) (M ++ [.lst xs])
theorem ZpM  : wO (ZC fs ρ M) Q E = wO (fs ρ M) (kTu Q) E := Zm1
theorem ZpN  : wO (Zag fs ρ M) Q E = wO (fs ρ M) (kLs Q) E := Zm2
noncomputable def Zq2 (x : D) (M : Sto) : Out D := match x with | .int i => .ok (.int (-i)) M | _ => .bad
theorem ZpO  : wO (ZbC f ρ M) Q E = wO (f ρ M) (kU Zq2 Q E) E := by unfold ZbC; exact Zw
theorem ZnI  : wO (Zq2 (.int i) M) Q E = Q (.int (-i)) M := rfl
noncomputable def ZpP (T : String) (x : D) (M : Sto) : Out D := match Zaw M x with | some t => .ok (.bl (ZcH t T)) M | none => .bad
theorem ZpQ {T : String} : wO (ZdY T f ρ M) Q E = wO (f ρ M) (kU (ZpP T) Q E) E := by unfold ZdY; exact Zw
noncomputable def kTy (T : String) (Q : D → Sto → Prop) (M : Sto) (t : String) : Prop := Q (.bl (ZcH t T)) M
theorem ZnJ {T : String} : wO (ZpP T x M) Q E = wG (Zaw M x) (kTy T Q M) := by unfold ZpP; cases Zaw M x <;> rfl
noncomputable def tC (b : Bool) : Tv := fun _ M => .ok b M
noncomputable def BrO {β : Type} (k : Bool) (f g : Ro → Sto → Out β) (ρ : Ro) (M : Sto) (Q : β → Sto → Prop) (E : Str → Sto → Prop) : Prop := wO ((if k = true then f else g) ρ M) Q E
theorem ZsC {β : Type} {fO gO : Ro → Sto → Out β} {QO : β → Sto → Prop} : BrO true fO gO ρ M QO E = wO (fO ρ M) QO E := rfl
theorem ZsD {β : Type} {fO gO : Ro → Sto → Out β} {QO : β → Sto → Prop} : BrO false fO gO ρ M QO E = wO (gO ρ M) QO E := rfl
theorem brO {β : Type} {fO gO : Ro → Sto → Out β} {QO : β → Sto → Prop} {p : Prop} [Decidable p] (h1 : p → wO (fO ρ M) QO E) (h2 : ¬ p → wO (gO ρ M) QO E) : BrO (decide p) fO gO ρ M QO E := by
  by_cases h : p
  · rw [decide_eq_true h]; exact h1 h
  · rw [decide_eq_false h]; exact h2 h
theorem ZsE {β : Type} {fO gO : Ro → Sto → Out β} {QO : β → Sto → Prop} {p : Prop} [Decidable p] (h1 : ¬ p → wO (fO ρ M) QO E) (h2 : p → wO (gO ρ M) QO E) : BrO (!decide p) fO gO ρ M QO E := by
  by_cases h : p
  · rw [decide_eq_true h]; exact h2 h
  · rw [decide_eq_false h]; exact h1 h
theorem Zlu {β : Type} {fO gO : Ro → Sto → Out β} {QO : β → Sto → Prop} (P : β → Sto → Prop) (h : BrO b fO gO ρ M P E) (hn : ∀ x M, P x M → QO x M) : BrO b fO gO ρ M QO E := by
  cases b
  · exact ZfM h hn (fun _ _ z => z)
  · exact ZfM h hn (fun _ _ z => z)
noncomputable def kIf (f g : Ev) (ρ : Ro) (Q : D → Sto → Prop) (E : Str → Sto → Prop) (k : Bool) (M : Sto) : Prop := BrO k f g ρ M Q E
theorem ZsF  : wO (eIf t f g ρ M) Q E = wO (t ρ M) (kIf f g ρ Q E) E := by unfold eIf; rw [Zw]; congr 1; funext k M1; cases k <;> rfl
noncomputable def Zq3 (g : Ev) (ρ : Ro) (x : D) (M : Sto) : Out D := match x with | .bl k => if k = true then g ρ M else .ok (.bl false) M | _ => .bad
noncomputable def oOr (g : Ev) (ρ : Ro) (x : D) (M : Sto) : Out D := match x with | .bl k => if k = true then .ok (.bl true) M else g ρ M | _ => .bad
noncomputable def Zq4 (x : D) (M : Sto) : Out D := match x with | .bl k => .ok (.bl (!k)) M | _ => .bad
noncomputable def oTv (x : D) (M : Sto) : Out Bool := match x with | .bl k => .ok k M | _ => .bad
theorem ZpR  : wO (ZbU f g ρ M) Q E = wO (f ρ M) (kU (Zq3 g ρ) Q E) E := by unfold ZbU; exact Zw
theorem ZsG  : wO (Zi7 f g ρ M) Q E = wO (f ρ M) (kU (oOr g ρ) Q E) E := by unfold Zi7; exact Zw
theorem ZpS  : wO (ZcL f ρ M) Q E = wO (f ρ M) (kU Zq4 Q E) E := by unfold ZcL; exact Zw
theorem ZnK  : wO (Zq3 g ρ (.bl b) M) Q E = BrO b g (eC (.bl false)) ρ M Q E := by cases b <;> rfl
theorem ZpT  : wO (oOr g ρ (.bl b) M) Q E = BrO b (eC (.bl true)) g ρ M Q E := by cases b <;> rfl
theorem ZnL  : wO (Zq4 (.bl b) M) Q E = Q (.bl (!b)) M := rfl
theorem ZsH  : wO (tv f ρ M) QB E = wO (f ρ M) (kU oTv QB E) E := by unfold tv; exact Zw
theorem ZpU  : wO (oTv (.bl b) M) QB E = QB b M := rfl
noncomputable def kTA (u : Tv) (ρ : Ro) (Q : Bool → Sto → Prop) (E : Str → Sto → Prop) (k : Bool) (M : Sto) : Prop := BrO k u (tC false) ρ M Q E
noncomputable def kTO (u : Tv) (ρ : Ro) (Q : Bool → Sto → Prop) (E : Str → Sto → Prop) (k : Bool) (M : Sto) : Prop := BrO k (tC true) u ρ M Q E
noncomputable def kTN (Q : Bool → Sto → Prop) (k : Bool) (M : Sto) : Prop := Q (!k) M
theorem ZsI  : wO (tC b ρ M) QB E = QB b M := rfl
theorem ZnM  : wO (ZbF t u ρ M) QB E = wO (t ρ M) (kTA u ρ QB E) E := by unfold ZbF; rw [Zw]; congr 1; funext k M1; cases k <;> rfl
theorem ZpV  : wO (ZdE t u ρ M) QB E = wO (t ρ M) (kTO u ρ QB E) E := by unfold ZdE; rw [Zw]; congr 1; funext k M1; cases k <;> rfl
theorem ZnN  : wO (ZaY t ρ M) QB E = wO (t ρ M) (kTN QB) E := Zm3
noncomputable def kSq (b : Sv) (N : Ro → Sto → Prop) (R : D → Sto → Prop) (B C : Ro → Sto → Prop) (E : Str → Sto → Prop) (ρ : Ro) (M : Sto) : Prop := wS (b ρ M) N R B C E
theorem ZpW  : wS (Zn a bd ρ M) N R B C E = wS (a ρ M) (kSq bd N R B C E) R B C E := Zm4
theorem ZnO  : wS (sNil ρ M) N R B C E = N ρ M := rfl
theorem ZpX  : wS (Zr6 ρ M) N R B C E = B ρ M := rfl
theorem ZpY  : wS (Zr7 ρ M) N R B C E = C ρ M := rfl
theorem ZpZ  : wS (ZF f ρ M) N R B C E = wO (f ρ M) R E := Zm5
theorem ZnP  : wS (Ze4 ρ M) N R B C E = R .non M := rfl
noncomputable def kDr (ρ : Ro) (N : Ro → Sto → Prop) (d : D) (M : Sto) : Prop := N ρ M
theorem ZnQ  : wS (Z3 f ρ M) N R B C E = wO (f ρ M) (kDr ρ N) E := Zle
noncomputable def BrS (k : Bool) (a b : Sv) (ρ : Ro) (M : Sto) (N : Ro → Sto → Prop) (R : D → Sto → Prop) (B C : Ro → Sto → Prop) (E : Str → Sto → Prop) : Prop := wS ((if k = true then a else b) ρ M) N R B C E
theorem ZsJ  : BrS true a bd ρ M N R B C E = wS (a ρ M) N R B C E := rfl
theorem ZsK  : BrS false a bd ρ M N R B C E = wS (bd ρ M) N R B C E := rfl
theorem brS {p : Prop} [Decidable p] (h1 : p → wS (a ρ M) N R B C E) (h2 : ¬ p → wS (bd ρ M) N R B C E) : BrS (decide p) a bd ρ M N R B C E := by
  by_cases h : p
  · rw [decide_eq_true h]; exact h1 h
  · rw [decide_eq_false h]; exact h2 h
theorem ZsL {p : Prop} [Decidable p] (h1 : ¬ p → wS (a ρ M) N R B C E) (h2 : p → wS (bd ρ M) N R B C E) : BrS (!decide p) a bd ρ M N R B C E := by
  by_cases h : p
  · rw [decide_eq_true h]; exact h2 h
  · rw [decide_eq_false h]; exact h1 h
theorem Zj9 (h1 : b = true → wS (a ρ M) N R B C E) (h2 : b = false → wS (bd ρ M) N R B C E) : BrS b a bd ρ M N R B C E := by
  cases b
  · exact h2 rfl
  · exact h1 rfl
theorem Zka (P : Ro → Sto → Prop) (h : BrS b a bd ρ M P R B C E) (hn : ∀ ρ M, P ρ M → N ρ M) : BrS b a bd ρ M N R B C E := by
  cases b
  · exact Zh9 h hn (fun _ _ z => z) (fun _ _ z => z) (fun _ _ z => z) (fun _ _ z => z)
  · exact Zh9 h hn (fun _ _ z => z) (fun _ _ z => z) (fun _ _ z => z) (fun _ _ z => z)
noncomputable def kSi (a b : Sv) (ρ : Ro) (N : Ro → Sto → Prop) (R : D → Sto → Prop) (B C : Ro → Sto → Prop) (E : Str → Sto → Prop) (k : Bool) (M : Sto) : Prop := BrS k a b ρ M N R B C E
theorem Zp0  : wS (sIf t a bd ρ M) N R B C E = wO (t ρ M) (kSi a bd ρ N R B C E) E := by unfold sIf; rw [Zaz]; congr 1; funext k M1; cases k <;> rfl
noncomputable def kAs (i : Nat) (ρ : Ro) (N : Ro → Sto → Prop) (d : D) (M : Sto) : Prop := N (ρ.set i (some d)) M
theorem Zp1  : wS (Zt (gNm k) f ρ M) N R B C E = wO (f ρ M) (kAs k ρ N) E := Zm6
noncomputable def kAt (gs : Tgs) (ρ : Ro) (N : Ro → Sto → Prop) (d : D) (M : Sto) : Prop := wG (gTp gs d ρ) (kQ N id M)
theorem ZnR {gs : Tgs} : wS (Zt (gTp gs) f ρ M) N R B C E = wO (f ρ M) (kAt gs ρ N) E := Zlf
noncomputable def Zq5 (i j : Nat) (ρ : Ro) (N : Ro → Sto → Prop) (M : Sto) (v w : D) : Prop := N ((ρ.set i (some v)).set j (some w)) M
noncomputable def kPa (i j : Nat) (ρ : Ro) (N : Ro → Sto → Prop) (ds : List D) (M : Sto) : Prop := w2 ds (Zq5 i j ρ N M)
theorem Zp2  : wS (Zb5 k m fs ρ M) N R B C E = wO (fs ρ M) (kPa k m ρ N) E := Zm7
noncomputable def Zq6 (n : Nat) (d : D) (xs : List D) (ρ : Ro) (N : Ro → Sto → Prop) (M : Sto) (j : Nat) : Prop := N ρ (M.set n (.lst (xs.set j d)))
noncomputable def Zq7 (n : Nat) (k : Int) (d : D) (ρ : Ro) (N : Ro → Sto → Prop) (M : Sto) (xs : List D) : Prop := wG (ixN xs.length k) (Zq6 n d xs ρ N M)
noncomputable def Zq8 (n : Nat) (d : D) (ρ : Ro) (N : Ro → Sto → Prop) (M : Sto) (k : Int) : Prop := wL M[n]? (Zq7 n k d ρ N M)
noncomputable def Zq9 (i : D) (d : D) (ρ : Ro) (N : Ro → Sto → Prop) (M : Sto) (n : Nat) : Prop := wI i (Zq8 n d ρ N M)
noncomputable def Zra (o : D) (d : D) (ρ : Ro) (N : Ro → Sto → Prop) (i : D) (M : Sto) : Prop := wR o (Zq9 i d ρ N M)
noncomputable def Zrb (fi : Ev) (d : D) (ρ : Ro) (N : Ro → Sto → Prop) (E : Str → Sto → Prop) (o : D) (M : Sto) : Prop := wO (fi ρ M) (Zra o d ρ N) E
noncomputable def kPu (fo fi : Ev) (ρ : Ro) (N : Ro → Sto → Prop) (E : Str → Sto → Prop) (d : D) (M : Sto) : Prop := wO (fo ρ M) (Zrb fi d ρ N E) E
theorem Zp3 {fo fi : Ev} : wS (ZeK fo fi f ρ M) N R B C E = wO (f ρ M) (kPu fo fi ρ N E) E := Zm8
noncomputable def kRa (c : Str) (E : Str → Sto → Prop) (ds : List D) (M : Sto) : Prop := ds.length ≤ 1000 ∧ E c M
theorem Zlv {c : Str} : wS (Zbn c fs ρ M) N R B C E = wO (fs ρ M) (kRa c E) E := Zjn
noncomputable def Zrc (tg : Tg) (bd : Sv) (ρ : Ro) (N : Ro → Sto → Prop) (R : D → Sto → Prop) (B C : Ro → Sto → Prop) (E : Str → Sto → Prop) (M : Sto) (j : Int) : Prop := (-(2 ^ 62) ≤ j ∧ j < 2 ^ 62) ∧ wS (Zcs tg bd (Zb7 0 j.toNat) ρ M) N R B C E
noncomputable def Zrd (tg : Tg) (bd : Sv) (ρ : Ro) (N : Ro → Sto → Prop) (R : D → Sto → Prop) (B C : Ro → Sto → Prop) (E : Str → Sto → Prop) (M : Sto) (d : D) : Prop := wI d (Zrc tg bd ρ N R B C E M)
noncomputable def kR1 (tg : Tg) (bd : Sv) (ρ : Ro) (N : Ro → Sto → Prop) (R : D → Sto → Prop) (B C : Ro → Sto → Prop) (E : Str → Sto → Prop) (ds : List D) (M : Sto) : Prop := w1 ds (Zrd tg bd ρ N R B C E M)
theorem ZnS  : wS (Zax tg fs bd ρ M) N R B C E = wO (fs ρ M) (kR1 tg bd ρ N R B C E) E := Zlg
noncomputable def Zre (tg : Tg) (bd : Sv) (ρ : Ro) (N : Ro → Sto → Prop) (R : D → Sto → Prop) (B C : Ro → Sto → Prop) (E : Str → Sto → Prop) (M : Sto) (i : Int) (j : Int) : Prop := (-(2 ^ 62) ≤ i ∧ i < 2 ^ 62 ∧ -(2 ^ 62) ≤ j ∧ j < 2 ^ 62) ∧ wS (Zcs tg bd (Zb7 i (j - i).toNat) ρ M) N R B C E
noncomputable def Zrf (tg : Tg) (bd : Sv) (ρ : Ro) (N : Ro → Sto → Prop) (R : D → Sto → Prop) (B C : Ro → Sto → Prop) (E : Str → Sto → Prop) (M : Sto) (y : D) (i : Int) : Prop := wI y (Zre tg bd ρ N R B C E M i)
noncomputable def Zrg (tg : Tg) (bd : Sv) (ρ : Ro) (N : Ro → Sto → Prop) (R : D → Sto → Prop) (B C : Ro → Sto → Prop) (E : Str → Sto → Prop) (M : Sto) (x y : D) : Prop := wI x (Zrf tg bd ρ N R B C E M y)
noncomputable def kR2 (tg : Tg) (bd : Sv) (ρ : Ro) (N : Ro → Sto → Prop) (R : D → Sto → Prop) (B C : Ro → Sto → Prop) (E : Str → Sto → Prop) (ds : List D) (M : Sto) : Prop := w2 ds (Zrg tg bd ρ N R B C E M)
theorem ZnT  : wS (ZhW tg fs bd ρ M) N R B C E = wO (fs ρ M) (kR2 tg bd ρ N R B C E) E := Zlp
noncomputable def kFo (tg : Tg) (bd : Sv) (ρ : Ro) (N : Ro → Sto → Prop) (R : D → Sto → Prop) (B C : Ro → Sto → Prop) (E : Str → Sto → Prop) (d : D) (M : Sto) : Prop := wS (ZjX tg bd d ρ M) N R B C E
theorem Zp4  : wS (ZjY tg f bd ρ M) N R B C E = wO (f ρ M) (kFo tg bd ρ N R B C E) E := Zm9
theorem ZnU  : wS (ZjX tg bd (.tup xs) ρ M) N R B C E = wS (Zcs tg bd xs ρ M) N R B C E := rfl
theorem ZnV  : wS (ZjX tg bd (.rol xs) ρ M) N R B C E = wS (Zcs tg bd xs ρ M) N R B C E := rfl
noncomputable def kFs (tg : Tg) (bd : Sv) (ρ : Ro) (N : Ro → Sto → Prop) (R : D → Sto → Prop) (B C : Ro → Sto → Prop) (E : Str → Sto → Prop) (src : Src) (M : Sto) : Prop := wS (ZgV tg bd src (cnt src M) 0 ρ M) N R B C E
theorem ZnW {fi : Ro → Sto → Out Src} : wS (ZcR tg fi bd ρ M) N R B C E = wO (fi ρ M) (kFs tg bd ρ N R B C E) E := Zlh
noncomputable def hT (cs : List Str) (gh : Sv) (i : Nat) (ρ : Ro) (c : Str) (M : Sto) : Fl := if cs.contains c = true then (match gh ((List.replicate ρ.length none).set i (some (.err c []))) M with | .ret d M2 => .ret d M2 | .nx _ M2 => .nx (List.replicate ρ.length none) M2 | _ => .bad) else .bad
noncomputable def kTr (cs : List Str) (gh : Sv) (i : Nat) (ρ : Ro) (N : Ro → Sto → Prop) (R : D → Sto → Prop) (B C : Ro → Sto → Prop) (E : Str → Sto → Prop) (c : Str) (M : Sto) : Prop := cs.contains c = true ∧ wS (gh ((List.replicate ρ.length none).set i (some (.err c []))) M) (fun _ M2 => N (List.replicate ρ.length none) M2) R (fun _ _ => False) (fun _ _ => False) (fun _ _ => False)
theorem Zp5 {cs : List Str} {gh : Sv} : wS (ZqX a cs k gh ρ M) N R B C E = wS (a ρ M) N R B C (kTr cs gh k ρ N R B C E) := by
  unfold ZqX
  cases e : a ρ M <;> try rfl
  rename_i c M1
  show wS (if cs.contains c = true then _ else _) N R B C E = kTr cs gh k ρ N R B C E c M1
  unfold kTr
  by_cases h : cs.contains c = true
  · rw [if_pos h]
    simp only [h, true_and]
    cases gh ((List.replicate ρ.length none).set k (some (.err c []))) M1 <;> rfl
  · rw [if_neg h]
    simp only [h, Bool.false_eq_true, false_and]
    rfl
noncomputable def ZsM (Q : D → Sto → Prop) (M1 : Sto) (u : Unit) (M : Sto) : Prop := Q (.ref M1.length) M
noncomputable def kCo (tg : Tg) (c : Tv) (f : Ev) (k : Nat) (fr : List Nat) (ρ : Ro) (Q : D → Sto → Prop) (src : Src) (M : Sto) : Prop := wO (Zdz src tg c f M.length (cnt src M) 0 (roB k fr ρ) (M ++ [.lst []])) (ZsM Q M) (fun _ _ => False)
theorem ZnX {fi : Ro → Sto → Out Src} {fr : List Nat} : wO (Zb6 fi k fr tg t f ρ M) Q E = wO (fi ρ M) (kCo tg t f k fr ρ Q) E := Zli
noncomputable def Zrh (QS : Src → Sto → Prop) (M : Sto) (j : Int) : Prop := (-(2 ^ 62) ≤ j ∧ j < 2 ^ 62) ∧ QS (.pur (Zb7 0 j.toNat)) M
noncomputable def Zri (QS : Src → Sto → Prop) (M : Sto) (d : D) : Prop := wI d (Zrh QS M)
noncomputable def kS1 (QS : Src → Sto → Prop) (ds : List D) (M : Sto) : Prop := w1 ds (Zri QS M)
theorem ZsN  : wO (iR1 fs ρ M) QS E = wO (fs ρ M) (kS1 QS) E := Zsw
noncomputable def Zrj (QS : Src → Sto → Prop) (M : Sto) (i : Int) (j : Int) : Prop := (-(2 ^ 62) ≤ i ∧ i < 2 ^ 62 ∧ -(2 ^ 62) ≤ j ∧ j < 2 ^ 62) ∧ QS (.pur (Zb7 i (j - i).toNat)) M
noncomputable def Zrk (QS : Src → Sto → Prop) (M : Sto) (y : D) (i : Int) : Prop := wI y (Zrj QS M i)
noncomputable def Zrl (QS : Src → Sto → Prop) (M : Sto) (x y : D) : Prop := wI x (Zrk QS M y)
noncomputable def kS2 (QS : Src → Sto → Prop) (ds : List D) (M : Sto) : Prop := w2 ds (Zrl QS M)
theorem ZsO  : wO (iR2 fs ρ M) QS E = wO (fs ρ M) (kS2 QS) E := Zsx
noncomputable def oSq (d : D) (M : Sto) : Out Src := match d with | .tup ds => .ok (.pur ds) M | .rol ds => .ok (.pur ds) M | .ref n => .ok (.sto n) M | _ => .bad
theorem ZsP  : wO (iSq f ρ M) QS E = wO (f ρ M) (kU oSq QS E) E := by unfold iSq; exact Zw
theorem Zp6  : wO (oSq (.tup xs) M) QS E = QS (.pur xs) M := rfl
theorem Zp7  : wO (oSq (.rol xs) M) QS E = QS (.pur xs) M := rfl
theorem Zp8  : wO (oSq (.ref n) M) QS E = QS (.sto n) M := rfl
noncomputable def Zrm (QS : Src → Sto → Prop) (M : Sto) (d : D) : Prop := wR d (kQ QS .enu M)
noncomputable def kEn (QS : Src → Sto → Prop) (ds : List D) (M : Sto) : Prop := w1 ds (Zrm QS M)
theorem ZsQ  : wO (iEn fs ρ M) QS E = wO (fs ρ M) (kEn QS) E := Zsy
noncomputable def Zrn (QS : Src → Sto → Prop) (M : Sto) (y : D) (n : Nat) : Prop := wR y (kQ QS (.zip n) M)
noncomputable def Zro (QS : Src → Sto → Prop) (M : Sto) (x y : D) : Prop := wR x (Zrn QS M y)
noncomputable def kZp (QS : Src → Sto → Prop) (ds : List D) (M : Sto) : Prop := w2 ds (Zro QS M)
theorem ZsR  : wO (iZp fs ρ M) QS E = wO (fs ρ M) (kZp QS) E := Zsz
noncomputable def Zrp (QS : Src → Sto → Prop) (n : Nat) (M : Sto) (xs : List D) : Prop := QS (.rev n xs.length) M
noncomputable def Zrq (QS : Src → Sto → Prop) (M : Sto) (n : Nat) : Prop := wL M[n]? (Zrp QS n M)
noncomputable def Zrr (QS : Src → Sto → Prop) (M : Sto) (d : D) : Prop := wR d (Zrq QS M)
noncomputable def kRv (QS : Src → Sto → Prop) (ds : List D) (M : Sto) : Prop := w1 ds (Zrr QS M)
theorem ZsS  : wO (iRv fs ρ M) QS E = wO (fs ρ M) (kRv QS) E := ZsA
noncomputable def ZnY (xs : List D) (M : Sto) (Q : D → Sto → Prop) (ys : List D) : Prop := xs.length + ys.length ≤ 10000000 ∧ Q (.ref M.length) (M ++ [.lst (xs ++ ys)])
noncomputable def Zrs (m : Nat) (M : Sto) (Q : D → Sto → Prop) (xs : List D) : Prop := wL M[m]? (ZnY xs M Q)
theorem Zp9  : wO (dAdd (.ref n) (.ref m) M) Q E = wL M[n]? (Zrs m M Q) := Zpp
noncomputable def ZoS (i : Int) (M : Sto) (Q : D → Sto → Prop) (xs : List D) : Prop := ((-9223372036854775808 ≤ i ∧ i < 9223372036854775808) ∧ xs.length * i.toNat ≤ 100000) ∧ Q (.ref M.length) (M ++ [.lst (List.replicate i.toNat xs).flatten])
theorem Zqa : wO (Zsb (.ref n) (.int i) M) Q E = wL M[n]? (ZoS i M Q) := by
  show wO (match M[n]? with | some (.lst xs) => if (-9223372036854775808 ≤ i ∧ i < 9223372036854775808) ∧ xs.length * i.toNat ≤ 100000 then Out.ok (.ref M.length) (M ++ [.lst (List.replicate i.toNat xs).flatten]) else .bad | none => .bad) Q E = _
  cases e1 : M[n]? with
  | none => rfl
  | some o =>
    cases o with
    | lst xs =>
      show wO (if (-9223372036854775808 ≤ i ∧ i < 9223372036854775808) ∧ xs.length * i.toNat ≤ 100000 then Out.ok (.ref M.length) (M ++ [.lst (List.replicate i.toNat xs).flatten]) else .bad) Q E = ZoS i M Q xs
      unfold ZoS
      by_cases h : (-9223372036854775808 ≤ i ∧ i < 9223372036854775808) ∧ xs.length * i.toNat ≤ 100000
      · rw [if_pos h]; simp only [eq_true h, true_and]; rfl
      · rw [if_neg h]; simp only [eq_false h, false_and]; rfl
noncomputable def kEq (Q : D → Sto → Prop) (M : Sto) (b : Bool) : Prop := Q (.bl b) M
noncomputable def kNe (Q : D → Sto → Prop) (M : Sto) (b : Bool) : Prop := Q (.bl (!b)) M
theorem ZsT  : wO (dEq x y M) Q E = wG (eqF 12 M x y) (kEq Q M) := Zsr
theorem ZsU  : wO (dNe x y M) Q E = wG (eqF 12 M x y) (kNe Q M) := Zss
theorem ZsV  : wO (dIs x y M) Q E = wG (isP x y) (kEq Q M) := Zst
theorem Zqb  : wO (dIsNot x y M) Q E = wG (isP x y) (kNe Q M) := Zpq
theorem Zqc  : wO (ZqZ x y M) Q E = wG (inE x y M) (kEq Q M) := by unfold ZqZ; cases inE x y M <;> rfl
theorem Zjx  : wO (Zh5 x y M) Q E = wG (inE x y M) (kNe Q M) := by unfold Zh5; cases inE x y M <;> rfl
theorem Zqd  : wO (dIx (.tup xs) (.int i) M) Q E = wG (atI xs i) (kQ Q id M) := Zpr
theorem Zqe  : wO (dIx (.rol xs) (.int i) M) Q E = wG (atI xs i) (kQ Q id M) := Zps
noncomputable def kIx (i : Int) (Q : D → Sto → Prop) (M : Sto) (xs : List D) : Prop := wG (atI xs i) (kQ Q id M)
theorem Zqf  : wO (dIx (.ref n) (.int i) M) Q E = wL M[n]? (kIx i Q M) := Zpt
noncomputable def Zrt (Q : D → Sto → Prop) (M : Sto) (xs : List D) : Prop := Q (.int xs.length) M
theorem ZnZ  : wO (bLen [.ref n] M) Q E = wL M[n]? (Zrt Q M) := Znc
noncomputable def kLi (Q : D → Sto → Prop) (M : Sto) (xs : List D) : Prop := Q (.ref M.length) (M ++ [.lst xs])
theorem Zlw  : wO (bList [.ref n] M) Q E = wL M[n]? (kLi Q M) := Zlk
noncomputable def Zru (Q : D → Sto → Prop) (M : Sto) (bs : List Bool) : Prop := Q (.bl (bs.all id)) M
noncomputable def kAl (Q : D → Sto → Prop) (M : Sto) (xs : List D) : Prop := wG (ZaD xs) (Zru Q M)
theorem Zqg  : wO (bAll [.ref n] M) Q E = wL M[n]? (kAl Q M) := Zpx
noncomputable def Zrv (g : List Int → Option Int) (Q : D → Sto → Prop) (M : Sto) (ns : List Int) : Prop := wG (g ns) (kQ Q .int M)
noncomputable def Zrw (g : List Int → Option Int) (Q : D → Sto → Prop) (M : Sto) (xs : List D) : Prop := wG (ZdZ xs) (Zrv g Q M)
theorem Zn0 {gi : List Int → Option Int} : wO (Zjk gi [.ref n] M) Q E = wL M[n]? (Zrw gi Q M) := Znh
noncomputable def kMt (g : Me) (fs : Av) (ρ : Ro) (Q : D → Sto → Prop) (E : Str → Sto → Prop) (x : D) (M : Sto) : Prop := Zk3 x M = true ∧ wO (fs ρ M) (kU (g x) Q E) E
theorem ZsW {me : Me} {fo : Ev} : wO (Zc6 me fo fs ρ M) Q E = wO (fo ρ M) (kMt me fs ρ Q E) E := Zsu
noncomputable def Zrx (n : Nat) (d : D) (Q : D → Sto → Prop) (M : Sto) (xs : List D) : Prop := xs.length < 10000000 ∧ Q .non (M.set n (.lst (xs ++ [d])))
theorem Zqh  : wO (mApp (.ref n) [d] M) Q E = wL M[n]? (Zrx n d Q M) := Zpy
noncomputable def Zry (n : Nat) (Q : D → Sto → Prop) (M : Sto) (xs : List D) : Prop := Q .non (M.set n (.lst []))
theorem Zqi  : wO (ZqY (.ref n) [] M) Q E = wL M[n]? (Zry n Q M) := Zpz
noncomputable def Zn1 (n : Nat) (xs : List D) (Q : D → Sto → Prop) (M : Sto) (ys : List D) : Prop := xs.length + ys.length ≤ 10000000 ∧ Q .non (M.set n (.lst (xs ++ ys)))
noncomputable def Zrz (n m : Nat) (Q : D → Sto → Prop) (M : Sto) (xs : List D) : Prop := wL M[m]? (Zn1 n xs Q M)
theorem Zqj  : wO (mExt (.ref n) [.ref m] M) Q E = wL M[n]? (Zrz n m Q M) := ZpA
noncomputable def Zlx (Q : D → Sto → Prop) (M : Sto) (bs : List Bool) : Prop := wG (bs.findIdx? id) (kQ Q (fun (j : Nat) => .int j) M)
noncomputable def ZrA (d : D) (Q : D → Sto → Prop) (M : Sto) (xs : List D) : Prop := wG (eqs M d xs) (Zlx Q M)
theorem Zqk : wO (Zr9 (.ref n) [d] M) Q E = wL M[n]? (ZrA d Q M) := by
  show wO (match M[n]? with | some (.lst xs) => (match eqs M d xs with | some bs => (match bs.findIdx? id with | some j => Out.ok (.int (j : Nat)) M | none => .bad) | none => .bad) | none => .bad) Q E = _
  cases e1 : M[n]? with
  | none => rfl
  | some o =>
    cases o with
    | lst xs =>
      show wO (match eqs M d xs with | some bs => (match bs.findIdx? id with | some j => Out.ok (.int (j : Nat)) M | none => .bad) | none => .bad) Q E = wG (eqs M d xs) (Zlx Q M)
      cases eqs M d xs with
      | none => rfl
      | some bs =>
        show wO (match bs.findIdx? id with | some j => Out.ok (.int (j : Nat)) M | none => .bad) Q E = wG (bs.findIdx? id) _
        cases bs.findIdx? id <;> rfl
noncomputable def kCn (Q : D → Sto → Prop) (M : Sto) (bs : List Bool) : Prop := Q (.int (bs.countP id : Nat)) M
noncomputable def ZrB (d : D) (Q : D → Sto → Prop) (M : Sto) (xs : List D) : Prop := wG (eqs M d xs) (kCn Q M)
theorem Zn2 : wO (Zsa (.ref n) [d] M) Q E = wL M[n]? (ZrB d Q M) := by
  show wO (match M[n]? with | some (.lst xs) => (match eqs M d xs with | some bs => Out.ok (.int (bs.countP id : Nat)) M | none => .bad) | none => .bad) Q E = _
  cases e1 : M[n]? with
  | none => rfl
  | some o =>
    cases o with
    | lst xs =>
      show wO (match eqs M d xs with | some bs => Out.ok (.int (bs.countP id : Nat)) M | none => .bad) Q E = wG (eqs M d xs) (kCn Q M)
      cases eqs M d xs <;> rfl
noncomputable def ZrC (l u : Option Int) (Q : D → Sto → Prop) (M : Sto) (xs : List D) : Prop := Q (.ref M.length) (M ++ [.lst (ZeL xs l u)])
noncomputable def ZrD (x : D) (l : Option Int) (Q : D → Sto → Prop) (E : Str → Sto → Prop) (u : Option Int) (M : Sto) : Prop := wO (slR x l u M) Q E
noncomputable def ZrE (x : D) (hi : Ro → Sto → Out (Option Int)) (ρ : Ro) (Q : D → Sto → Prop) (E : Str → Sto → Prop) (l : Option Int) (M : Sto) : Prop := wO (hi ρ M) (ZrD x l Q E) E
noncomputable def ZrF (lo hi : Ro → Sto → Out (Option Int)) (ρ : Ro) (Q : D → Sto → Prop) (E : Str → Sto → Prop) (x : D) (M : Sto) : Prop := wO (lo ρ M) (ZrE x hi ρ Q E) E
theorem ZsX {lo hi : Ro → Sto → Out (Option Int)} : wO (eSl f lo hi ρ M) Q E = wO (f ρ M) (ZrF lo hi ρ Q E) E := ZpB
theorem Zql {l u' : Option Int} : wO (slR (.ref n) l u' M) Q E = wL M[n]? (ZrC l u' Q M) := ZpC
theorem Zqm {QI : Option Int → Sto → Prop} : wO (oNo ρ M) QI E = QI none M := rfl
noncomputable def ZrG (Q : Option Int → Sto → Prop) (x : D) (M : Sto) : Prop := wI x (kQ Q some M)
theorem Zqn {QI : Option Int → Sto → Prop} : wO (oSo f ρ M) QI E = wO (f ρ M) (ZrG QI) E := ZpD
noncomputable def oRv (x : D) (M1 : Sto) : Out D := match x with | .tup xs => .ok (.tup xs.reverse) M1 | .ref n => (match M1[n]? with | some (.lst xs) => .ok (.ref M1.length) (M1 ++ [.lst xs.reverse]) | none => .bad) | .rol xs => .ok (.ref M1.length) (M1 ++ [.lst xs.reverse]) | _ => .bad
theorem ZsY  : wO (eRv f ρ M) Q E = wO (f ρ M) (kU oRv Q E) E := by unfold eRv; exact Zw
noncomputable def ZrH (Q : D → Sto → Prop) (M : Sto) (xs : List D) : Prop := Q (.ref M.length) (M ++ [.lst xs.reverse])
theorem Zqo  : wO (oRv (.ref n) M) Q E = wL M[n]? (ZrH Q M) := by show wO (match M[n]? with | some (.lst xs) => Out.ok (.ref M.length) (M ++ [.lst xs.reverse]) | none => .bad) Q E = _; cases M[n]? with | none => rfl | some o => cases o with | lst xs => rfl
theorem Zqp  : wO (oRv (.tup xs) M) Q E = Q (.tup xs.reverse) M := rfl
noncomputable def ZrI (tab : List (Str × Bool)) (x : D) (M : Sto) : Out D := match x with | .err c _ => (match tab.lookup c with | some b => .ok (.bl b) M | none => .bad) | _ => .bad
theorem Zqq {tab : List (Str × Bool)} : wO (ZqW tab f ρ M) Q E = wO (f ρ M) (kU (ZrI tab) Q E) E := by unfold ZqW; exact Zw
theorem Zn3 {tab : List (Str × Bool)} {c : Str} : wO (ZrI tab (.err c xs) M) Q E = wG (tab.lookup c) (kEq Q M) := by show wO (match tab.lookup c with | some b => Out.ok (.bl b) M | none => .bad) Q E = _; cases tab.lookup c <;> rfl
noncomputable def kWh (bd : Sv) (ρ : Ro) (I : Ro → Sto → Prop) (N : Ro → Sto → Prop) (R : D → Sto → Prop) (B C : Ro → Sto → Prop) (E : Str → Sto → Prop) (k : Bool) (M : Sto) : Prop := Br k (wS (bd ρ M) I R N I E) (N ρ M)
theorem Zjy {c : Tv} (I : Nat → Ro → Sto → Prop) (st : ∀ n ρ M, I n ρ M → wO (c ρ M) (kWh bd ρ (fun ρ2 M2 => ∃ m, m < n ∧ I m ρ2 M2) N R B C E) E) (n : Nat) (ρ : Ro) (M : Sto) (h : I n ρ M) : wS (sWh c bd ρ M) N R B C E := Zjo I st n ρ M h
theorem Zn4 {I : Ro → Sto → Prop} {p : Prop} [Decidable p] (h1 : ¬ p → wS (bd ρ M) I R N I E) (h2 : p → N ρ M) : kWh bd ρ I N R B C E (!decide p) M := brN h1 h2
theorem Zn5 {I : Ro → Sto → Prop} {p : Prop} [Decidable p] (h1 : p → wS (bd ρ M) I R N I E) (h2 : ¬ p → N ρ M) : kWh bd ρ I N R B C E (decide p) M := brD h1 h2
theorem ZrJ {src : Src} {fr : List Nat} (Inv : Ro → Prop) (F : Nat → D) (hl : xs.length < 10000000) (hcnt : xs.length ≤ cnt src M) (h0 : Inv (roB k fr ρ)) (hs : ∀ (L : Sto) (i : Nat), i ≤ xs.length → nxt src i (M ++ L) = some xs[i]?)
    (st : ∀ (i : Nat) (h : i < xs.length) (ρ : Ro) (L : Sto), Inv ρ → wG (tg xs[i] ρ) fun r => Inv r ∧ wO (f r (M ++ L)) (fun y M2 => y = F i ∧ M2 = M ++ L) (fun _ _ => False)) (hq : Q (.ref M.length) (M ++ [.lst ((List.range xs.length).map F)])) :
    kCo tg (fun _ M => .ok true M) f k fr ρ Q src M := Zls (Q := fun M2 => Q (.ref M.length) M2) Inv F hl hcnt h0 hs st hq
theorem ZsZ {fr : List Nat} (Inv : Ro → Prop) (F : Nat → D) (hl : n < 10000000) (h0 : Inv (roB k fr ρ))
    (st : ∀ (i : Nat) (h : i < n) (ρ : Ro) (L : Sto), Inv ρ → wG (tg (.int i) ρ) fun r => Inv r ∧ wO (f r (M ++ L)) (fun y M2 => y = F i ∧ M2 = M ++ L) (fun _ _ => False)) (hq : Q (.ref M.length) (M ++ [.lst ((List.range n).map F)])) :
    kCo tg (fun _ M => .ok true M) f k fr ρ Q (.pur (Zb7 0 n)) M := by
  refine ZrJ (xs := Zb7 0 n) Inv F (by rw [ZfO]; exact hl) (by simp [cnt]) h0 (fun L i hi => rfl) (fun i hi ρ L hI => ?_) (by rw [ZfO]; exact hq)
  rw [Zlt]
  have := st i (by rw [ZfO] at hi; exact hi) ρ L hI
  rw [show (0 : Int) + (i : Nat) = i by omega]
  exact this
theorem ZoT {fr : List Nat} (Inv : Ro → Prop) (F : Nat → D) (hM : M[n]? = some (.lst xs)) (hl : xs.length < 10000000) (h0 : Inv (roB k fr ρ))
    (st : ∀ (i : Nat) (h : i < xs.length) (ρ : Ro) (L : Sto), Inv ρ → wG (tg xs[i] ρ) fun r => Inv r ∧ wO (f r (M ++ L)) (fun y M2 => y = F i ∧ M2 = M ++ L) (fun _ _ => False)) (hq : Q (.ref M.length) (M ++ [.lst ((List.range xs.length).map F)])) :
    kCo tg (fun _ M => .ok true M) f k fr ρ Q (.sto n) M :=
  ZrJ (xs := xs) Inv F hl (by rw [Zlq hM]; exact Nat.le_refl _) h0 (fun L i hi => by rw [ZnF]; rw [List.getElem?_append_left (Zy hM)]; exact hM) st hq
end
end DL
end
set_option Elab.async false
set_option linter.all false
set_option maxRecDepth 100000
set_option maxHeartbeats 4000000
namespace DL
open PySem PySem.Spec L2
section
variable {Q : D → Sto → Prop} {E : Str → Sto → Prop} {M : Sto} {n : Nat}
end
end DL
section
set_option Elab.async false
set_option linter.all false
set_option maxRecDepth 100000
set_option maxHeartbeats 4000000
namespace DL
noncomputable abbrev Pt := Int × Int
noncomputable def X (p q : Pt) : Int := p.1 * q.2 - p.2 * q.1
section
variable {rs : List Pt} {i j : Int} {k n : Nat} {p : Pt}
theorem ZbY {α : Type} {l : List α} {n : Nat} {d : α} (h : n < l.length) : l.getD n d = l[n] := by simp [List.getElem?_eq_getElem h]
theorem ZbI (h : 0 ≤ i ∧ i < rs.length) : cy rs i = rs.getD i.toNat (0, 0) := by
  unfold cy
  rw [Int.emod_eq_of_lt h.1 h.2]
theorem Z8 {m : Nat} (h : m ≠ 0) : (i % m).toNat < m ∧ 0 ≤ i % m := by
  have := Int.emod_lt_of_pos i (show (0 : Int) < m by omega)
  have := Int.emod_nonneg i (show (m : Int) ≠ 0 by omega)
  omega
theorem Zgu (h : rs ≠ []) : cy rs i ∈ rs := by
  have hl : rs.length ≠ 0 := by simpa using h
  unfold cy
  rw [ZbY (Z8 hl).1]
  exact List.getElem_mem _
theorem Zd9 {f : Pt → Pt} (h : rs ≠ []) : cy (rs.map f) i = f (cy rs i) := by
  have hl : rs.length ≠ 0 := by simpa using h
  unfold cy
  rw [List.length_map, ZbY (by rw [List.length_map]; exact (Z8 hl).1), ZbY (Z8 hl).1, List.getElem_map]
theorem Zea (hk : k ≤ rs.length) : cy (rs.drop k ++ rs.take k) i = cy rs (i + k) := by
  by_cases h : rs.length = 0
  · have : rs = [] := by simpa using h
    subst this
    simp [cy]
  have hL : (rs.drop k ++ rs.take k).length = rs.length := by simp; omega
  have e1 : cy (rs.drop k ++ rs.take k) i = cy (rs.drop k ++ rs.take k) (i % rs.length) := by
    conv => rhs; rw [← hL, ZcT]
  have e2 : cy rs (i + k) = cy rs (i % rs.length + k) := by
    unfold cy
    rw [Int.emod_add_emod]
  rw [e1, e2]
  obtain ⟨a, b⟩ := Z8 (i := i) h
  generalize hm : i % (rs.length : Int) = m at *
  have hm2 : m < rs.length := by omega
  rw [ZbI (by rw [hL]; omega)]
  by_cases c : m + k < rs.length
  · rw [ZbI (by omega)]
    rw [List.getD_eq_getElem?_getD, List.getD_eq_getElem?_getD, List.getElem?_append_left (by simp; omega), List.getElem?_drop]
    congr 2
    omega
  · rw [← ZdK, ZbI (by omega)]
    rw [List.getD_eq_getElem?_getD, List.getD_eq_getElem?_getD, List.getElem?_append_right (by simp; omega), List.getElem?_take_of_lt (by simp; omega)]
    congr 2
    simp
    omega
noncomputable def ins (rs : List Pt) (k : Nat) (p : Pt) : List Pt := rs.take (k + 1) ++ p :: rs.drop (k + 1)
theorem ZcA (hk : k < rs.length) : (ins rs k p).length = rs.length + 1 := by simp [ins]; omega
theorem Zkb (hk : k < rs.length) (h0 : 0 ≤ j) (h1 : j ≤ rs.length + 1) : cy (ins rs k p) j = if j ≤ k then cy rs j else if j = k + 1 then p else cy rs (j - 1) := by
  have hL := ZcA (p := p) hk
  by_cases e : j = rs.length + 1
  · subst e
    rw [if_neg (by omega), if_neg (by omega)]
    have e1 : cy (ins rs k p) (rs.length + 1) = cy (ins rs k p) 0 := by
      have := ZdK (rs := ins rs k p) (i := (rs.length : Int) + 1)
      rw [hL] at this
      rw [← this]
      congr 1
      omega
    have e2 : cy rs ((rs.length : Int) + 1 - 1) = cy rs 0 := by
      rw [← ZdK]
      congr 1
      omega
    rw [e1, e2, ZbI (by rw [hL]; omega), ZbI (by omega)]
    unfold ins
    rw [List.getD_eq_getElem?_getD, List.getD_eq_getElem?_getD, List.getElem?_append_left (by simp; omega), List.getElem?_take_of_lt (by simp)]
  · have hj : j < rs.length + 1 := by omega
    rw [ZbI (by rw [hL]; omega)]
    unfold ins
    rw [List.getD_eq_getElem?_getD]
    by_cases c1 : j ≤ k
    · rw [if_pos c1, ZbI (by omega), List.getD_eq_getElem?_getD, List.getElem?_append_left (by simp; omega), List.getElem?_take_of_lt (by omega)]
    · rw [if_neg c1, List.getElem?_append_right (by simp; omega)]
      have hl : (rs.take (k + 1)).length = k + 1 := by simp; omega
      rw [hl]
      by_cases c2 : j = k + 1
      · rw [if_pos c2]
        have : j.toNat - (k + 1) = 0 := by omega
        rw [this]
        rfl
      · rw [if_neg c2, ZbI (by omega), List.getD_eq_getElem?_getD]
        obtain ⟨z, hz⟩ : ∃ z, j.toNat - (k + 1) = z + 1 := ⟨j.toNat - (k + 1) - 1, by omega⟩
        rw [hz, List.getElem?_cons_succ, List.getElem?_drop]
        congr 2
        omega
theorem Zdb {P : Pt → Pt → Prop} (hn : rs.length ≠ 0) (h : ∀ i : Int, 0 ≤ i → i < rs.length → P (cy rs i) (cy rs (i + 1))) (i : Int) : P (cy rs i) (cy rs (i + 1)) := by
  have e1 : cy rs i = cy rs (i % rs.length) := ZcT.symm
  have e2 : cy rs (i + 1) = cy rs (i % rs.length + 1) := by
    unfold cy
    rw [Int.emod_add_emod]
  rw [e1, e2]
  obtain ⟨a, b⟩ := Z8 (i := i) hn
  exact h _ b (by omega)
noncomputable def cc (f : Pt → Pt → Nat) : List Pt → Nat
  | a :: b :: r => f a b + cc f (b :: r)
  | _ => 0
noncomputable def cyc (f : Pt → Pt → Nat) (rs : List Pt) : Nat := cc f (rs ++ rs.take 1)
theorem Zcw {f : Pt → Pt → Nat} : ∀ (L : List Pt) (a : Pt) (R : List Pt), cc f (L ++ a :: R) = cc f (L ++ [a]) + cc f (a :: R)
  | [], a, R => by simp [cc]
  | [b], a, R => by simp [cc]
  | b :: c :: L, a, R => by
    have := Zcw (f := f) (c :: L) a R
    simp only [List.cons_append, cc] at this ⊢
    omega
theorem Zkc {f : Pt → Pt → Nat} {g : Pt → Pt} : ∀ (L : List Pt), cc f (L.map g) = cc (fun a b => f (g a) (g b)) L
  | [] => rfl
  | [_] => rfl
  | a :: b :: L => by
    have := Zkc (f := f) (g := g) (b :: L)
    simp only [List.map_cons, cc] at this ⊢
    omega
theorem Zkd {f : Pt → Pt → Nat} : ∀ (L : List Pt), cc f L.reverse = cc (fun a b => f b a) L
  | [] => rfl
  | [_] => rfl
  | a :: b :: L => by
    have := Zkd (f := f) (b :: L)
    rw [List.reverse_cons, List.reverse_cons, List.append_assoc, List.singleton_append, Zcw]
    rw [List.reverse_cons] at this
    simp only [cc] at this ⊢
    omega
theorem Za8 {f : Pt → Pt → Nat} {a : Pt} {r : List Pt} : cyc f (a :: r) = cc f (a :: (r ++ [a])) := by simp [cyc]
theorem ZcB {f : Pt → Pt → Nat} (A B : List Pt) : cyc f (A ++ B) = cyc f (B ++ A) := by
  cases A with
  | nil => simp
  | cons a A =>
    cases B with
    | nil => simp
    | cons b B =>
      rw [List.cons_append, Za8, List.cons_append, Za8]
      have e1 : a :: (A ++ b :: B ++ [a]) = (a :: A) ++ b :: (B ++ [a]) := by simp
      have e2 : b :: (B ++ a :: A ++ [b]) = (b :: B) ++ a :: (A ++ [b]) := by simp
      rw [e1, e2, Zcw (a :: A) b, Zcw (b :: B) a]
      simp only [List.cons_append]
      omega
theorem Zeq {f : Pt → Pt → Nat} {g : Pt → Pt} (L : List Pt) : cyc f (L.map g) = cyc (fun a b => f (g a) (g b)) L := by
  unfold cyc
  rw [← List.map_take, ← List.map_append, Zkc]
theorem Zig {f : Pt → Pt → Nat} (L : List Pt) : cyc f L.reverse = cyc (fun a b => f b a) L := by
  cases L with
  | nil => rfl
  | cons a L =>
    rw [List.reverse_cons, ZcB, List.singleton_append, Za8, Za8, ← Zkd]
    congr 1
    simp
noncomputable def in1 (w a b : Pt) : Nat := if 0 ≤ X a w ∧ 0 < X w b then 1 else 0
noncomputable def in2 (w a b : Pt) : Nat := if 0 < X a w ∧ 0 ≤ X w b then 1 else 0
noncomputable def Fan (rs : List Pt) : Prop := ∀ w : Pt, w ≠ (0, 0) → cyc (in1 w) rs = 1 ∧ cyc (in2 w) rs = 1
theorem Zn6 {a b w : Pt} : X w (a.1 + b.1, a.2 + b.2) = X w a + X w b ∧ X (a.1 + b.1, a.2 + b.2) w = X a w + X b w := by unfold X; constructor <;> grind
theorem ZgX {p q : Pt} : X p q = 0 - X q p := by unfold X; grind
theorem Zih {a b w : Pt} : in1 w a b = in1 w a (a.1 + b.1, a.2 + b.2) + in1 w (a.1 + b.1, a.2 + b.2) b := by
  have s := Zn6 (a := a) (b := b) (w := w)
  have e1 := ZgX (p := w) (q := a)
  have e2 := ZgX (p := b) (q := w)
  unfold in1
  rw [s.1, s.2, e1, e2]
  generalize X a w = p
  generalize X w b = q
  repeat' split
  all_goals omega
theorem Zii {a b w : Pt} : in2 w a b = in2 w a (a.1 + b.1, a.2 + b.2) + in2 w (a.1 + b.1, a.2 + b.2) b := by
  have s := Zn6 (a := a) (b := b) (w := w)
  have e1 := ZgX (p := w) (q := a)
  have e2 := ZgX (p := b) (q := w)
  unfold in2
  rw [s.1, s.2, e1, e2]
  generalize X a w = p
  generalize X w b = q
  repeat' split
  all_goals omega
theorem Zfc {L R : List Pt} {a : Pt} : cy (L ++ a :: R) L.length = a := by
  rw [ZbI (by simp; omega)]
  simp
theorem Zij {L R : List Pt} {a b : Pt} : cy (L ++ a :: b :: R) (L.length + 1) = b := by
  rw [ZbI (by simp; omega)]
  rw [show ((L.length : Int) + 1).toNat = L.length + 1 by omega]
  simp
theorem ZfP {r : List Pt} {a : Pt} : cy (a :: r) (r.length + 1) = a := by
  have := ZdK (rs := a :: r) (i := (r.length : Int) + 1)
  rw [← this, List.length_cons, show (r.length : Int) + 1 - ((r.length + 1 : Nat) : Int) = 0 by omega, ZbI (by simp)]
  rfl
theorem ZdM {f : Pt → Pt → Nat} (hk : k < rs.length) (hf : f (cy rs k) (cy rs (k + 1)) = f (cy rs k) p + f p (cy rs (k + 1))) : cyc f (ins rs k p) = cyc f rs := by
  obtain ⟨L, a, R, e, hl⟩ : ∃ L a R, rs = L ++ a :: R ∧ L.length = k := ⟨rs.take k, rs[k], rs.drop (k + 1), by rw [List.getElem_cons_drop, List.take_append_drop], by simp; omega⟩
  have ei : ins rs k p = L ++ a :: p :: R := by
    unfold ins
    rw [e, ← hl, List.take_append, List.drop_append, List.take_of_length_le (by omega), List.drop_eq_nil_of_le (by omega)]
    simp
  have ca : cy rs k = a := by rw [e, ← hl]; exact Zfc
  cases R with
  | cons b R =>
    have cb : cy rs (k + 1) = b := by rw [e, ← hl]; exact Zij
    rw [ca, cb] at hf
    rw [ei, e, ZcB, ZcB L]
    simp only [List.cons_append, Za8, cc]
    omega
  | nil =>
    cases L with
    | nil =>
      have cb : cy rs (k + 1) = a := by
        rw [e, ← hl]
        exact ZfP (r := []) (a := a)
      rw [ca, cb] at hf
      rw [ei, e]
      simp [cyc, cc]
      omega
    | cons b L =>
      have cb : cy rs (k + 1) = b := by
        rw [e, ← hl]
        have := ZfP (r := L ++ [a]) (a := b)
        simp only [List.length_append, List.length_cons, List.length_nil] at this ⊢
        exact this
      rw [ca, cb] at hf
      rw [ei, e]
      simp only [List.cons_append, Za8]
      have e1 : b :: (L ++ [a, p] ++ [b]) = (b :: L) ++ a :: [p, b] := by simp
      have e2 : b :: (L ++ [a] ++ [b]) = (b :: L) ++ a :: [b] := by simp
      rw [e1, e2, Zcw, Zcw (b :: L) a [b]]
      simp only [cc]
      omega
theorem Fan.rot (h : Fan rs) : Fan (rs.drop k ++ rs.take k) := fun w hw => by
  rw [ZcB, ZcB (rs.drop k), List.take_append_drop]
  exact h w hw
theorem Fan.ins (h : Fan rs) (hk : k < rs.length) : Fan (ins rs k ((cy rs k).1 + (cy rs (k + 1)).1, (cy rs k).2 + (cy rs (k + 1)).2)) := fun w hw => by
  rw [ZdM hk Zih, ZdM hk Zii]
  exact h w hw
theorem Zke {f : Pt → Pt} {s : Int} (hs : s = 1 ∨ s = -1) (hf : ∀ p q, X (f p) (f q) = s * X p q) (w : Pt) (hw : w ≠ (0, 0)) : ∃ w' : Pt, w' ≠ (0, 0) ∧ ∀ a, X (f a) w = s * X a w' := by
  have d := hf (1, 0) (0, 1)
  have d1 : X (f (1, 0)) (f (0, 1)) = s := by rw [d]; simp [X]
  have lin : ∀ a, (f a).1 = a.1 * (f (1, 0)).1 + a.2 * (f (0, 1)).1 ∧ (f a).2 = a.1 * (f (1, 0)).2 + a.2 * (f (0, 1)).2 := by
    intro a
    have h1 := hf a (1, 0)
    have h2 := hf a (0, 1)
    generalize f a = u at *
    generalize f (1, 0) = e1 at *
    generalize f (0, 1) = e2 at *
    unfold X at *
    rcases hs with rfl | rfl <;> constructor <;> grind
  refine ⟨(X w (f (0, 1)) * s, X (f (1, 0)) w * s), ?_, ?_⟩
  · intro z
    apply hw
    have z1 := congrArg Prod.fst z
    have z2 := congrArg Prod.snd z
    simp only at z1 z2
    generalize f (1, 0) = e1 at *
    generalize f (0, 1) = e2 at *
    unfold X at *
    apply Prod.ext
    · rcases hs with rfl | rfl <;> simp only [] <;> grind
    · rcases hs with rfl | rfl <;> simp only [] <;> grind
  · intro a
    obtain ⟨l1, l2⟩ := lin a
    unfold X
    rw [l1, l2]
    rcases hs with rfl | rfl <;> simp only [] <;> grind
theorem Fan.map (h : Fan rs) {f : Pt → Pt} (hf : ∀ p q, X (f p) (f q) = X p q) : Fan (rs.map f) := fun w hw => by
  obtain ⟨w', hw', e⟩ := Zke (s := 1) (.inl rfl) (fun p q => by rw [hf, Int.one_mul]) w hw
  have e2 : ∀ a, X w (f a) = X w' a := fun a => by rw [ZgX, e, ZgX (p := w')]; omega
  have c1 : ∀ a b, in1 w (f a) (f b) = in1 w' a b := fun a b => by unfold in1; rw [e, e2, Int.one_mul]
  have c2 : ∀ a b, in2 w (f a) (f b) = in2 w' a b := fun a b => by unfold in2; rw [e, e2, Int.one_mul]
  rw [Zeq, Zeq, show (fun a b => in1 w (f a) (f b)) = in1 w' from funext fun a => funext fun b => c1 a b, show (fun a b => in2 w (f a) (f b)) = in2 w' from funext fun a => funext fun b => c2 a b]
  exact h w' hw'
theorem Fan.flip (h : Fan rs) {f : Pt → Pt} (hf : ∀ p q, X (f p) (f q) = -1 * X p q) : Fan (rs.map f).reverse := fun w hw => by
  obtain ⟨w', hw', e⟩ := Zke (s := -1) (.inr rfl) hf w hw
  have e2 : ∀ a, X w (f a) = -1 * X w' a := fun a => by rw [ZgX, e, ZgX (p := w')]; omega
  have c1 : ∀ a b, in1 w (f b) (f a) = in2 w' a b := fun a b => by
    unfold in1 in2
    rw [e, e2, ZgX (p := b)]
    have := ZgX (p := a) (q := w')
    simp only [show (0 ≤ -1 * (0 - X w' b) ∧ 0 < -1 * X w' a) = (0 < X a w' ∧ 0 ≤ X w' b) from propext ⟨fun _ => by omega, fun _ => by omega⟩]
  have c2 : ∀ a b, in2 w (f b) (f a) = in1 w' a b := fun a b => by
    unfold in1 in2
    rw [e, e2, ZgX (p := b)]
    have := ZgX (p := a) (q := w')
    simp only [show (0 < -1 * (0 - X w' b) ∧ 0 ≤ -1 * X w' a) = (0 ≤ X a w' ∧ 0 < X w' b) from propext ⟨fun _ => by omega, fun _ => by omega⟩]
  rw [Zig, Zig, Zeq, Zeq, show (fun a b => in1 w (f b) (f a)) = in2 w' from funext fun a => funext fun b => c1 a b, show (fun a b => in2 w (f b) (f a)) = in1 w' from funext fun a => funext fun b => c2 a b]
  exact ⟨(h w' hw').2, (h w' hw').1⟩
structure Smo (rs : List Pt) : Prop where
  len : 3 ≤ rs.length
  one : ∀ i : Int, X (cy rs i) (cy rs (i + 1)) = 1
  fan : Fan rs
noncomputable def Nr (b : Int) (rs : List Pt) : Prop := ∀ p ∈ rs, (-b ≤ p.1 ∧ p.1 ≤ b) ∧ -b ≤ p.2 ∧ p.2 ≤ b
theorem Smo.ne (h : Smo rs) : rs ≠ [] := by
  intro z
  have := h.len
  rw [z] at this
  simp at this
theorem Nr.cy {b : Int} (h : Nr b rs) (hn : rs ≠ []) (i : Int) : (-b ≤ (cy rs i).1 ∧ (cy rs i).1 ≤ b) ∧ -b ≤ (cy rs i).2 ∧ (cy rs i).2 ≤ b := h _ (Zgu hn)
theorem Smo.ins (h : Smo rs) (hk : k < rs.length) : Smo (ins rs k ((cy rs k).1 + (cy rs (k + 1)).1, (cy rs k).2 + (cy rs (k + 1)).2)) := by
  have hL := ZcA (p := ((cy rs k).1 + (cy rs (k + 1)).1, (cy rs k).2 + (cy rs (k + 1)).2)) hk
  refine ⟨by rw [hL]; have := h.len; omega, ?_, h.fan.ins hk⟩
  refine Zdb (P := fun a b => X a b = 1) (by omega) ?_
  intro i h0 h1
  rw [hL] at h1
  rw [Zkb hk h0 (by omega), Zkb hk (by omega) (by omega)]
  have ok := h.one k
  by_cases c1 : i + 1 ≤ k
  · rw [if_pos (by omega), if_pos c1]; exact h.one i
  · rw [if_neg c1]
    by_cases c2 : i = k
    · subst c2
      rw [if_pos (by omega), if_pos rfl]
      unfold X at *
      grind
    · rw [if_neg (by omega : ¬ i ≤ (k : Int)), if_neg (by omega : ¬ i + 1 = (k : Int) + 1)]
      by_cases c3 : i = k + 1
      · subst c3
        rw [if_pos rfl]
        have : (k : Int) + 1 + 1 - 1 = k + 1 := by omega
        rw [this]
        unfold X at *
        grind
      · rw [if_neg c3]
        have := h.one (i - 1)
        have e : i - 1 + 1 = i + 1 - 1 := by omega
        rw [e] at this
        exact this
theorem Smo.rot (h : Smo rs) (hk : k ≤ rs.length) : Smo (rs.drop k ++ rs.take k) := by
  refine ⟨by have := h.len; simp; omega, fun i => ?_, h.fan.rot⟩
  rw [Zea hk, Zea hk]
  have := h.one (i + k)
  have e : i + (k : Int) + 1 = i + 1 + k := by omega
  rw [e] at this
  exact this
theorem Smo.map (h : Smo rs) {f : Pt → Pt} (hf : ∀ p q, X (f p) (f q) = X p q) : Smo (rs.map f) := by
  refine ⟨by have := h.len; simp; omega, fun i => ?_, h.fan.map hf⟩
  rw [Zd9 h.ne, Zd9 h.ne, hf]
  exact h.one i
theorem Nr.ins {b : Int} (h : Nr b rs) (hp : (-b ≤ p.1 ∧ p.1 ≤ b) ∧ -b ≤ p.2 ∧ p.2 ≤ b) : Nr b (ins rs k p) := by
  intro q hq
  rcases List.mem_append.mp hq with hq | hq
  · exact h q (List.mem_of_mem_take hq)
  · rcases List.mem_cons.mp hq with hq | hq
    · subst hq; exact hp
    · exact h q (List.mem_of_mem_drop hq)
theorem Nr.rot {b : Int} (h : Nr b rs) : Nr b (rs.drop k ++ rs.take k) := by
  intro q hq
  rcases List.mem_append.mp hq with hq | hq
  · exact h q (List.mem_of_mem_drop hq)
  · exact h q (List.mem_of_mem_take hq)
end
end DL
end
section
set_option Elab.async false
set_option linter.all false
set_option maxRecDepth 100000
set_option maxHeartbeats 4000000
namespace CC
open PySem PySem.Spec L2 DL
noncomputable def Zah : Sv := (ZF (e2 dSub (e2 dMul (e2 dIx (Zd 0) (eC (.int 0))) (e2 dIx (Zd 1) (eC (.int 1)))) (e2 dMul (e2 dIx (Zd 0) (eC (.int 1))) (e2 dIx (Zd 1) (eC (.int 0))))))
noncomputable def F_crossed : List D → Sto → Out D := fnF Zah 2 0
noncomputable def Zam : Sv := (ZF (e2 dIx (Zd 0) (e2 dMod (e2 dAdd (Zd 1) (eC (.int 1))) (Zg bLen (Za (Zd 0) aNil)))))
noncomputable def F_following : List D → Sto → Out D := fnF Zam 2 0
noncomputable def ZX : Sv := (sIf (tv (e2 dNe (Zg F_crossed (Za (Zd 2) (Za (Zg F_following (Za (Zd 0) (Za (Zd 1) aNil))) aNil))) (eC (.int 1)))) (ZF (Zd 1)) sNil)
noncomputable def ZaG : Sv := (Zn (ZcR (gTp (gCs (gNm 1) (gCs (gNm 2) gNl))) (iEn (Za (Zd 0) aNil)) ZX)
  (ZF (eC .non)))
noncomputable def F_unspanned : List D → Sto → Out D := fnF ZaG 1 2
noncomputable def Zap : Sv := (Zn (Zt (gNm 1) (Zg F_unspanned (Za (Zd 0) aNil)))
  (sIf (tv (e2 dIsNot (Zd 1) (eC .non))) (Zbn (PySem.Str.ofString "NotSmooth") (Za (eFs (ZbG (eC (.str (PySem.Str.ofString "ray "))) (ZbG (eFm (Zd 1)) (ZbG (eC (.str (PySem.Str.ofString " does not cross the next one in 1"))) jNil)))) aNil)) sNil))
noncomputable def F_ask_smooth : List D → Sto → Out D := fnF Zap 1 1
noncomputable def Zbp : Sv := (ZF (e2 dSub (e2 dMul (e2 dIx (Zd 0) (eC (.int 0))) (e2 dIx (Zd 1) (eC (.int 1)))) (e2 dMul (e2 dIx (Zd 0) (eC (.int 1))) (e2 dIx (Zd 1) (eC (.int 0))))))
noncomputable def F_law_cross : List D → Sto → Out D := fnF Zbp 2 0
noncomputable def ZcV : Sv := (sIf (tv (e2 dEq (Zd 4) (eC (.int 0)))) (Z3 (Zc6 mApp (Zd 5) (Za (ZC (Za (e2 dAdd (Zd 6) (e2 dMul (Zd 3) (Zd 7))) (Za (Zd 7) aNil))) aNil))) (sIf (tv (e2 dEq (Zd 4) (eC (.int 1)))) (Z3 (Zc6 mApp (Zd 5) (Za (ZC (Za (Zd 6) (Za (e2 dAdd (Zd 7) (e2 dMul (Zd 3) (Zd 6))) aNil))) aNil))) (sIf (tv (e2 dEq (Zd 4) (eC (.int 2)))) (Z3 (Zc6 mApp (Zd 5) (Za (ZC (Za (e2 dSub (eC (.int 0)) (Zd 7)) (Za (Zd 6) aNil))) aNil))) (Z3 (Zc6 mApp (Zd 5) (Za (ZC (Za (Zd 6) (Za (Zd 7) aNil))) aNil))))))
noncomputable def ZcW : Sv := (Zn (Zt (gNm 3) (e2 dSub (e2 dMod (e2 dDiv (Zd 1) (eC (.int 4))) (eC (.int 5))) (eC (.int 2))))
  (Zn (sIf (tv (e2 dEq (e2 dMod (e2 dDiv (Zd 1) (eC (.int 20))) (eC (.int 8))) (eC (.int 0)))) (Zt (gNm 3) (e2 dSub (e2 dMod (e2 dDiv (Zd 1) (eC (.int 160))) (eC (.int 19))) (eC (.int 9)))) sNil)
  (Zn (Zt (gNm 4) (e2 dMod (Zd 1) (eC (.int 4))))
  (Zn (Zt (gNm 1) (e2 dDiv (Zd 1) (eC (.int 3040))))
  (Zn (Zt (gNm 5) (Zag aNil))
  (Zn (ZjY (gTp (gCs (gNm 6) (gCs (gNm 7) gNl))) (Zd 0) ZcV)
  (sIf (tv (e2 dLe (Zg (Zjk List.max?) (Za (e2 dAdd (Zb6 (iSq (Zd 5)) 2 [] (gTp (gCs (gNm 0) (gCs (gNm 1) gNl))) (fun _ M => .ok true M) (Zg bAbs (Za (Zd 0) aNil))) (Zb6 (iSq (Zd 5)) 2 [] (gTp (gCs (gNm 0) (gCs (gNm 1) gNl))) (fun _ M => .ok true M) (Zg bAbs (Za (Zd 1) aNil)))) aNil)) (eC (.int 200)))) (Zt (gNm 0) (Zd 5)) sNil)))))))
noncomputable def Zeb : Sv := (Zn (Zax (gNm 2) (Za (eC (.int 3)) aNil) ZcW)
  (ZF (Zd 0)))
noncomputable def Zdc : List D → Sto → Out D := fnF Zeb 2 6
noncomputable def ZO : Sv := (Zn (Zt (gNm 6) (e2 dMod (Zd 0) (Zg bLen (Za (Zd 3) aNil))))
  (Zn (Zt (gNm 0) (e2 dDiv (Zd 0) (eC (.int 17))))
  (Zn (Zt (gNm 7) (e2 dIx (Zd 3) (Zd 6)))
  (Zn (Zt (gNm 8) (e2 dIx (Zd 3) (e2 dMod (e2 dAdd (Zd 6) (eC (.int 1))) (Zg bLen (Za (Zd 3) aNil)))))
  (Zn (Zt (gNm 9) (ZC (Za (e2 dAdd (e2 dIx (Zd 7) (eC (.int 0))) (e2 dIx (Zd 8) (eC (.int 0)))) (Za (e2 dAdd (e2 dIx (Zd 7) (eC (.int 1))) (e2 dIx (Zd 8) (eC (.int 1)))) aNil))))
  (sIf (ZbF (tv (e2 dLe (Zg bAbs (Za (e2 dIx (Zd 9) (eC (.int 0))) aNil)) (eC (.int 200)))) (tv (e2 dLe (Zg bAbs (Za (e2 dIx (Zd 9) (eC (.int 1))) aNil)) (eC (.int 200))))) (Zt (gNm 3) (e2 dAdd (e2 dAdd (eSl (Zd 3) oNo (oSo (e2 dAdd (Zd 6) (eC (.int 1))))) (Zag (Za (Zd 9) aNil))) (eSl (Zd 3) (oSo (e2 dAdd (Zd 6) (eC (.int 1)))) oNo))) sNil))))))
noncomputable def Z9 : Sv := (Zn (Zt (gNm 2) (e2 dAdd (eC (.int 3)) (e2 dMod (Zd 0) (e2 dSub (Zd 1) (eC (.int 2))))))
  (Zn (Zt (gNm 0) (e2 dDiv (Zd 0) (e2 dSub (Zd 1) (eC (.int 2)))))
  (Zn (Zt (gNm 3) (Zag (Za (ZC (Za (eC (.int 1)) (Za (eC (.int 0)) aNil))) (Za (ZC (Za (eC (.int 0)) (Za (eC (.int 1)) aNil))) (Za (ZC (Za (ZbC (eC (.int 1))) (Za (ZbC (eC (.int 1))) aNil))) aNil)))))
  (Zn (sIf (ZbF (tv (e2 dGt (Zd 2) (eC (.int 3)))) (tv (e2 dGt (e2 dMod (Zd 0) (eC (.int 4))) (eC (.int 0))))) (Zn (Zt (gNm 4) (e2 dMod (e2 dDiv (Zd 0) (eC (.int 4))) (e2 dIx (Zag (Za (eC (.int 3)) (Za (eC (.int 4)) (Za (eC (.int 6)) (Za (eC (.int 40)) aNil))))) (e2 dMod (e2 dDiv (Zd 0) (eC (.int 512))) (eC (.int 4))))))
  (Zt (gNm 3) (Zag (Za (ZC (Za (eC (.int 1)) (Za (eC (.int 0)) aNil))) (Za (ZC (Za (eC (.int 0)) (Za (eC (.int 1)) aNil))) (Za (ZC (Za (ZbC (eC (.int 1))) (Za (Zd 4) aNil))) (Za (ZC (Za (eC (.int 0)) (Za (ZbC (eC (.int 1))) aNil))) aNil))))))) sNil)
  (Zn (Zt (gNm 0) (e2 dDiv (Zd 0) (eC (.int 2048))))
  (Zn (Zax (gNm 5) (Za (e2 dSub (Zd 2) (Zg bLen (Za (Zd 3) aNil))) aNil) ZO)
  (Zn (Zt (gNm 3) (Zg Zdc (Za (Zd 3) (Za (Zd 0) aNil))))
  (Zn (Zt (gNm 6) (e2 dMod (e2 dDiv (Zd 0) (e2 dPow (eC (.int 10)) (eC (.int 12)))) (Zg bLen (Za (Zd 3) aNil))))
  (ZF (e2 dAdd (eSl (Zd 3) (oSo (Zd 6)) oNo) (eSl (Zd 3) oNo (oSo (Zd 6)))))))))))))
noncomputable def F_law_smooth : List D → Sto → Out D := fnF Z9 2 8
end CC
end
set_option maxRecDepth 100000
open PySem PySem.Spec L2 DL
local macro_rules | `(tactic| simp! [$ls,*]) => `(tactic| simp (implicitDefEqProofs := false) (disch := omega) only [ZsB, y_c, y_v, ZnG, ZpL, ZnH, ZpM, ZpN, ZpO, ZnI, ZpQ, ZnJ, ZsC, ZsD, ZsF, ZpR, ZsG, ZpS, ZnK, ZpT, ZnL, ZsH, ZpU, ZsI, ZnM, ZpV, ZnN, ZpW, ZnO, ZpX, ZpY, ZpZ, ZnP, ZnQ, ZsJ, ZsK, Zp0, Zp1, ZnR, Zp2, Zp3, Zlv, ZnS, ZnT, Zp4, ZnU, ZnV, ZnW, Zp5, ZnX, ZsN, ZsO, ZsP, Zp6, Zp7, Zp8, ZsQ, ZsR, ZsS, Zp9, Zqa, ZsT, ZsU, ZsV, Zqb, Zqc, Zjx, Zqd, Zqe, Zqf, ZnZ, Zlw, Zqg, Zn0, ZsW, Zqh, Zqi, Zqj, Zqk, Zn2, ZsX, Zql, Zqm, Zqn, ZsY, Zqo, Zqp, Zqq, Zn3, kU, kQ, kB2, kB1, kA2, kA1, kTu, kLs, kTy, kIf, kTA, kTO, kTN, kSq, kDr, kSi, kAs, kAt, Zq5, kPa, Zq6, Zq7, Zq8, Zq9, Zra, Zrb, kPu, kRa, Zrc, Zrd, kR1, Zre, Zrf, Zrg, kR2, kFo, kFs, kTr, Zrh, Zri, kS1, Zrj, Zrk, Zrl, kS2, Zrm, kEn, Zrn, Zro, kZp, Zrp, Zrq, Zrr, kRv, ZnY, Zrs, ZoS, kEq, kNe, kIx, Zrt, kLi, Zru, kAl, Zrv, Zrw, kMt, Zrx, Zry, Zn1, Zrz, Zlx, ZrA, kCn, ZrB, ZrC, ZrD, ZrE, ZrF, ZrG, ZrH, Zep, ZdA, ZfN, Zjs, Zgt, Zjq, Zjr, Zic, Zjv, Zju, Zln, Zlm, Znr, decide_eq_true, decide_eq_false, wF1, wF2, wF3, wF4, Zl, Zm0, Zsg, Zsh, Zsi, Zsj, Zsk, Zsl, Zse, Zsf, Zpj, Zpk, Zpl, Zna, Zpm, Zpn, Zpo, Zsn, Zso, Zsp, Zsq, Znb, Znd, Zne, Zpu, Zpv, Zpw, Znf, Zng, Zll, Zni, Znj, Zjp, ZpH, ZpI, ZpJ, ZpK, id, roB, at0, at1, at2, at3, gTp, gCs, gNl, gNm, List.set_cons_zero, List.set_cons_succ, List.getElem?_cons_zero, List.getElem?_cons_succ, List.length_cons, List.length_nil, List.length_append, List.length_map, List.map_cons, List.map_nil, List.cons_append, List.nil_append, List.append_assoc, List.append_nil, List.replicate_succ, List.replicate_zero, Option.join_some, Option.isSome_some, Zd0, ZfA, ZaF, Zj8, ZpE, Znk, Znl, ZJ, Zbo, ZpF, Zsv, Zq1, Znn, ZpG, Zno, Znp, Zns, Znt, Znu, Znv, Znw, Znx, Zny, Znz, ZnA, ZnB, ZnC, ZnD, true_and, and_true, Bool.not_true, Bool.not_false, decide_true, decide_false, Nat.reduceAdd, Nat.reduceLeDiff, Nat.reduceLT, Nat.add_zero, Nat.zero_add, Int.reducePow, Int.reduceToNat, Int.reduceNeg, Int.reduceMod, Int.reduceDiv, Int.reduceAdd, Int.reduceSub, Int.reduceMul, Int.cast_ofNat_Int, Int.reduceEq, Int.reduceLT, Int.reduceLE, $ls,*])
section
set_option Elab.async false
set_option linter.all false
set_option maxRecDepth 100000
set_option maxHeartbeats 4000000
namespace CC
open PySem PySem.Spec L2 DL
section
variable {Q : D → Sto → Prop} {E : Str → Sto → Prop} {M : Sto} {a b c d i : Int} {n : Nat} {rs : List Pt}
theorem ZaZ (ha : -(18446744073709551616) < a ∧ a < 18446744073709551616) (hb : -(18446744073709551616) < b ∧ b < 18446744073709551616) : wO (F_crossed [pr a b, pr c d] M) Q E = Q (.int (a * d - b * c)) M := by
  simp! [F_crossed, Zah]
theorem Zer (ha : -(18446744073709551616) < a ∧ a < 18446744073709551616) (hb : -(18446744073709551616) < b ∧ b < 18446744073709551616) : wO (F_law_cross [pr a b, pr c d] M) Q E = Q (.int (a * d - b * c)) M := ZaZ ha hb
theorem ZcC (h : M[n]? = some (.lst (prs rs))) (hi : 0 ≤ i ∧ i < rs.length) : wO (F_following [.ref n, .int i] M) Q E = Q (pr (cy rs (i + 1)).1 (cy rs (i + 1)).2) M := by
  have e := Z8 (i := i + 1) (m := rs.length) (by omega)
  simp! [F_following, Zam, h, Zce, ZcT]
theorem ZcD {rs : List Pt} {i : Nat} (h : i < (prs rs).length) : (prs rs)[i] = pr (cy rs i).1 (cy rs i).2 := by
  have h' : i < rs.length := by rw [ZJ] at h; exact h
  rw [ZdL h']
  simp [prs]
theorem Nr.big {b : Int} {rs : List Pt} (h : Nr b rs) (hb : b ≤ 18446744073709551615) (hn : rs ≠ []) (i : Int) : (-(18446744073709551616) < (cy rs i).1 ∧ (cy rs i).1 < 18446744073709551616) ∧ (-(18446744073709551616) < (cy rs i).2 ∧ (cy rs i).2 < 18446744073709551616) := by
  have := Nr.cy h hn i
  omega
theorem ZfQ (h : M[n]? = some (.lst (prs rs))) (hs : Smo rs) (hb : Nr 18446744073709551615 rs) (k : Q .non M) : wO (F_unspanned [.ref n] M) Q E := by
  simp! [F_unspanned, ZaG]
  refine Zfb (fun i ρ M' => M' = M ∧ ∃ x y, ρ = [some (.ref n), x, y]) h ⟨rfl, _, _, rfl⟩ (fun i ρ M' hI => by rw [hI.1]; exact h) ?_ ?_
  · rintro i ρ M' hi ⟨rfl, x, y, rfl⟩
    have b1 := Nr.big hb (by decide) hs.ne i
    have o1 := hs.one i
    have hi' : i < rs.length := by rw [ZJ] at hi; exact hi
    rw [ZcD]
    simp! [ZX, ZcC h, ZaZ]
    unfold X at o1
    rw [o1]
    simp! [Zl]
    exact ⟨_, _, rfl⟩
  · rintro ρ M' ⟨rfl, x, y, rfl⟩
    simp! [Zl]
    exact k
theorem Zfd (h : M[n]? = some (.lst (prs rs))) (hs : Smo rs) (hb : Nr 18446744073709551615 rs) (k : Q .non M) : wO (F_ask_smooth [.ref n] M) Q E := by
  simp! [F_ask_smooth, Zap]
  refine ZfQ h hs hb ?_
  simp! [Zl]
  exact k
noncomputable def tf (w m : Int) (p : Pt) : Pt := if w = 0 then (p.1 + m * p.2, p.2) else if w = 1 then (p.1, p.2 + m * p.1) else if w = 2 then (0 - p.2, p.1) else p
theorem Zs0 {w m : Int} (p q : Pt) : X (tf w m p) (tf w m q) = X p q := by
  unfold tf X
  split
  · grind
  · split
    · grind
    · split
      · grind
      · rfl
theorem Zfe {xs : List Int} : ZdZ (nts xs) = some xs := by
  induction xs with
  | nil => rfl
  | cons x r ih => show (match ZdZ (nts r) with | some bs => some (x :: bs) | none => none) = _; rw [ih]
theorem Zn7 {xs : List Int} {v b : Int} (h : xs.max? = some v) (hv : v ≤ b) : ∀ x ∈ xs, x ≤ b := by
  intro x hx
  exact Int.le_trans ((List.max?_le_iff h).mp (Int.le_refl v) x hx) hv
theorem Zgv {m : Nat} {M : Sto} {ss : List Pt} {ρ : Ro} {Q : D → Sto → Prop} (k : Nat) (hk : k = 0 ∨ k = 1) (h : M[m]? = some (.lst (prs ss))) (hl : ss.length ≤ 1000) (q : Q (.ref M.length) (M ++ [.lst (nts ((List.range ss.length).map fun (i : Nat) => (if k = 0 then (cy ss i).1.natAbs else (cy ss i).2.natAbs : Int)))])) :
    kCo (gTp (gCs (gNm 0) (gCs (gNm 1) gNl))) (fun _ M => .ok true M) (Zg bAbs (Za (Zd k) aNil)) 2 [] ρ Q (.sto m) M := by
  refine ZoT (fun ρ => ∃ x y, ρ = [x, y]) (fun (i : Nat) => .int (if k = 0 then (cy ss i).1.natAbs else (cy ss i).2.natAbs : Int)) h (by rw [ZJ]; omega) ⟨_, _, rfl⟩ ?_ (by rw [Zif, ZJ]; exact q)
  rintro i hi ρ L ⟨x, y, rfl⟩
  rw [ZcD]
  rcases hk with rfl | rfl
  · simp! [Zl]
    exact ⟨⟨_, _, rfl⟩, rfl⟩
  · simp! [Zl]
    exact ⟨⟨_, _, rfl⟩, rfl⟩
theorem Zn8 {c : Int} (h : M[n]? = some (.lst (prs rs))) (hs : Smo rs) (hb : Nr 200 rs) (hl : rs.length ≤ 1000)
    (q : ∀ ss m M', Smo ss → Nr 200 ss → ss.length = rs.length → M'[m]? = some (.lst (prs ss)) → M.length ≤ M'.length → (∀ k, k < M.length → M'[k]? = M[k]?) → Q (.ref m) M') : wO (Zdc [.ref n, .int c] M) Q E := by
  simp! [Zdc, Zeb]
  refine ZcS (fun i ρ M' => ∃ ss m c x1 x2 x3 x4 x5 x6, ρ = [some (.ref m), some (.int c), x1, x2, x3, x4, x5, x6] ∧ Smo ss ∧ Nr 200 ss ∧ ss.length = rs.length ∧ M'[m]? = some (.lst (prs ss)) ∧ M.length ≤ M'.length ∧ (∀ k, k < M.length → M'[k]? = M[k]?)) ⟨rs, n, c, _, _, _, _, _, _, rfl, hs, hb, rfl, h, Nat.le_refl _, fun _ _ => rfl⟩ ?_ ?_
  · rintro i ρ M1 hi ⟨ss, m, c, x1, x2, x3, x4, x5, x6, rfl, s1, s2, s3, s4, s5, s6⟩
    have hm := Zy s4
    simp! [ZcW]
    refine Zka (fun ρ M' => M' = M1 ∧ ∃ u : Int, (-9 ≤ u ∧ u ≤ 9) ∧ ρ = [some (D.ref m), some (D.int c), some (D.int (0 + ↑i)), some (D.int u), x3, x4, x5, x6]) ?_ ?_
    · refine brS (fun _ => ?_) (fun _ => ?_)
      · simp! [Zl]
        exact ⟨_, ⟨by omega, by omega⟩, rfl⟩
      · simp! [Zl]
        exact ⟨_, ⟨by omega, by omega⟩, rfl⟩
    rintro _ M1 ⟨rfl, u, hu, rfl⟩
    simp! [Zl]
    generalize c % 4 = w
    have hm1 : (M1 ++ [SO.lst []])[m]? = some (.lst (prs ss)) := by rw [List.getElem?_append_left hm]; exact s4
    refine Zen (fun i ρ M' => M' = M1 ++ [.lst (prs ((ss.map (tf w u)).take i))] ∧ ∃ y x x', ρ = [some (D.ref m), some (D.int (c / 3040)), y, some (D.int u), some (D.int w), some (D.ref M1.length), x, x']) hm1 ⟨by simp [prs], _, _, _, rfl⟩ (fun i ρ M' hI => by rw [hI.1, List.getElem?_append_left hm]; exact s4) ?_ ?_
    · rintro i ρ M' hi ⟨rfl, y, x, x', rfl⟩
      rw [ZcD]
      rw [ZJ] at hi
      have b1 := Nr.cy s2 s1.ne i
      have tk : prs ((ss.map (tf w u)).take i) ++ [pr (tf w u (cy ss i)).1 (tf w u (cy ss i)).2] = prs ((ss.map (tf w u)).take (i + 1)) := by
        rw [List.take_succ, List.getElem?_map, List.getElem?_eq_getElem hi, ← ZfN, ZdL hi]
        rfl
      have tl : ((ss.map (tf w u)).take i).length < 10000000 := by simp; omega
      have fin : ∀ a b : Int, tf w u (cy ss i) = (a, b) → M1 ++ [.lst (prs ((ss.map (tf w u)).take i ++ [(a, b)]))] = M1 ++ [.lst (prs ((ss.map (tf w u)).take (i + 1)))] := by
        intro a b e
        rw [e] at tk
        rw [← Zgt, tk]
      simp! [ZcV]
      refine brS (fun h1 => ?_) (fun h1 => ?_)
      · simp! [tl]
        exact ⟨fin _ _ (by rw [tf, if_pos h1]), _, _, _, rfl⟩
      simp! [Zl]
      refine brS (fun h2 => ?_) (fun h2 => ?_)
      · simp! [tl]
        exact ⟨fin _ _ (by rw [tf, if_neg h1, if_pos h2]), _, _, _, rfl⟩
      simp! [Zl]
      refine brS (fun h3 => ?_) (fun h3 => ?_)
      · simp! [tl]
        exact ⟨fin _ _ (by rw [tf, if_neg h1, if_neg h2, if_pos h3]), _, _, _, rfl⟩
      · simp! [tl]
        exact ⟨fin _ _ (by rw [tf, if_neg h1, if_neg h2, if_neg h3]), _, _, _, rfl⟩
    · rintro ρ M' ⟨rfl, y, x, x', rfl⟩
      rw [List.take_of_length_le (by simp [ZJ])]
      have e1 : Smo (ss.map (tf w u)) := s1.map Zs0
      have e2 : (ss.map (tf w u)).length = rs.length := by simp; exact s3
      generalize ss.map (tf w u) = ts at *
      have t4 : (M1 ++ [SO.lst (prs ts)])[M1.length]? = some (.lst (prs ts)) := by simp
      have l2 : (M1 ++ [SO.lst (prs ts)]).length = M1.length + 1 := by simp
      have k2 : ∀ k, k < M1.length → (M1 ++ [SO.lst (prs ts)])[k]? = M1[k]? := fun k hk => List.getElem?_append_left hk
      generalize M1 ++ [SO.lst (prs ts)] = M2 at *
      simp! [Zl]
      refine Zgv 0 (.inl rfl) t4 (by omega) ?_
      generalize hA : ((List.range ts.length).map fun (i : Nat) => (if 0 = 0 then (cy ts i).1.natAbs else (cy ts i).2.natAbs : Int)) = A
      have lA : A.length = ts.length := by subst hA; simp
      simp! [Zl]
      refine Zgv 1 (.inr rfl) (by rw [List.getElem?_append_left (by omega)]; exact t4) (by omega) ?_
      generalize hB : ((List.range ts.length).map fun (i : Nat) => (if 1 = 0 then (cy ts i).1.natAbs else (cy ts i).2.natAbs : Int)) = B
      have lB : B.length = ts.length := by subst hB; simp
      simp! [Zl]
      refine ⟨by omega, ?_⟩
      obtain ⟨v, hv⟩ : ∃ v, (A ++ B).max? = some v := by
        cases e : (A ++ B).max? with
        | some v => exact ⟨v, rfl⟩
        | none =>
          rw [List.max?_eq_none_iff] at e
          have h0 : (A ++ B).length = 0 := by rw [e]; rfl
          have := e1.len
          rw [List.length_append] at h0
          omega
      simp! [Zic, Zfe, hv]
      have hx := fun b (hb : v ≤ b) => Zn7 hv hb
      refine brS (fun h => ?_) (fun h => ?_)
      · simp! [Zl]
        have nr : Nr 200 ts := by
          intro p hp
          obtain ⟨k, hk, rfl⟩ := List.getElem_of_mem hp
          have a1 := hx 200 h (cy ts k).1.natAbs (by
            rw [List.mem_append]; left; subst hA
            exact List.mem_map.mpr ⟨k, List.mem_range.mpr hk, rfl⟩)
          have a2 := hx 200 h (cy ts k).2.natAbs (by
            rw [List.mem_append]; right; subst hB
            exact List.mem_map.mpr ⟨k, List.mem_range.mpr hk, rfl⟩)
          rw [ZdL hk] at a1 a2
          omega
        exact ⟨ts, _, _, _, _, _, _, _, _, rfl, e1, nr, e2, by rw [List.getElem?_append_left (by omega)]; exact t4, by omega, fun k hk => by rw [List.getElem?_append_left (by omega), k2 k (by omega)]; exact s6 k hk⟩
      · simp! [Zl]
        exact ⟨ss, _, _, _, _, _, _, _, _, rfl, s1, s2, s3, by rw [List.getElem?_append_left (by omega), k2 _ hm]; exact s4, by omega, fun k hk => by rw [List.getElem?_append_left (by omega), k2 k (by omega)]; exact s6 k hk⟩
  · rintro ρ M1 ⟨ss, m, c, x1, x2, x3, x4, x5, x6, rfl, s1, s2, s3, s4, s5, s6⟩
    simp! [Zl]
    exact q ss m M1 s1 s2 s3 s4 s5 s6
theorem ZdN {w a b : Pt} {p q : Int} (h1 : X a w = p) (h2 : X w b = q) : in1 w a b = if 0 ≤ p ∧ 0 < q then 1 else 0 := by unfold in1; rw [h1, h2]
theorem ZdO {w a b : Pt} {p q : Int} (h1 : X a w = p) (h2 : X w b = q) : in2 w a b = if 0 < p ∧ 0 ≤ q then 1 else 0 := by unfold in2; rw [h1, h2]
theorem Zs1 : Fan [(1, 0), (0, 1), (-1, -1)] := by
  rintro ⟨x, y⟩ hw
  have hw' : ¬ (x = 0 ∧ y = 0) := fun z => hw (by rw [z.1, z.2])
  have a1 : X (1, 0) (x, y) = y := by simp [X]
  have a2 : X (0, 1) (x, y) = -x := by simp [X]
  have a3 : X (-1, -1) (x, y) = x - y := by simp [X]; omega
  have b1 : X (x, y) (0, 1) = x := by simp [X]
  have b2 : X (x, y) (-1, -1) = y - x := by simp [X]; omega
  have b3 : X (x, y) (1, 0) = -y := by simp [X]
  simp only [cyc, List.take_succ_cons, List.take_zero, List.cons_append, List.nil_append, cc]
  rw [ZdN a1 b1, ZdN a2 b2, ZdN a3 b3, ZdO a1 b1, ZdO a2 b2, ZdO a3 b3]
  constructor
  all_goals
    repeat' split
    all_goals omega
theorem Zs2 (f : Int) : Fan [(1, 0), (0, 1), (-1, f), (0, -1)] := by
  rintro ⟨x, y⟩ hw
  have hw' : ¬ (x = 0 ∧ y = 0) := fun z => hw (by rw [z.1, z.2])
  have h0 : x = 0 → x * f = 0 := fun z => by rw [z, Int.zero_mul]
  have a1 : X (1, 0) (x, y) = y := by simp [X]
  have a2 : X (0, 1) (x, y) = -x := by simp [X]
  have a3 : X (-1, f) (x, y) = -y - x * f := by unfold X; simp only; grind
  have a4 : X (0, -1) (x, y) = x := by simp [X]
  have b1 : X (x, y) (0, 1) = x := by simp [X]
  have b2 : X (x, y) (-1, f) = x * f + y := by unfold X; simp only; grind
  have b3 : X (x, y) (0, -1) = -x := by simp [X]
  have b4 : X (x, y) (1, 0) = -y := by simp [X]
  simp only [cyc, List.take_succ_cons, List.take_zero, List.cons_append, List.nil_append, cc]
  rw [ZdN a1 b1, ZdN a2 b2, ZdN a3 b3, ZdN a4 b4, ZdO a1 b1, ZdO a2 b2, ZdO a3 b3, ZdO a4 b4]
  generalize x * f = z at *
  constructor
  all_goals
    repeat' split
    all_goals omega
theorem Zly : Smo [(1, 0), (0, 1), (-1, -1)] := by
  refine ⟨by decide, Zdb (P := fun a b => X a b = 1) (by decide) ?_, Zs1⟩
  intro i h0 h1
  have : i = 0 ∨ i = 1 ∨ i = 2 := by simp at h1; omega
  rcases this with rfl | rfl | rfl <;> rfl
theorem ZrK (f : Int) : Smo [(1, 0), (0, 1), (-1, f), (0, -1)] := by
  refine ⟨by simp, Zdb (P := fun a b => X a b = 1) (by simp) ?_, Zs2 f⟩
  intro i h0 h1
  have : i = 0 ∨ i = 1 ∨ i = 2 ∨ i = 3 := by simp at h1; omega
  rcases this with rfl | rfl | rfl | rfl <;> simp [X, cy]
theorem Zes {c t : Int} (hc : 0 ≤ c) (ht : 3 ≤ t ∧ t ≤ 1000) (q : ∀ ss m M', Smo ss → Nr 200 ss → ss.length ≤ t → M'[m]? = some (.lst (prs ss)) → M.length ≤ M'.length → (∀ k, k < M.length → M'[k]? = M[k]?) → Q (.ref m) M') : wO (F_law_smooth [.int c, .int t] M) Q E := by
  simp! [F_law_smooth, Z9]
  have r0 := Int.emod_nonneg c (show t - 2 ≠ 0 by omega)
  have r1 := Int.emod_lt_of_pos c (show 0 < t - 2 by omega)
  have d0 : 0 ≤ c / (t - 2) := Int.ediv_nonneg hc (by omega)
  generalize c % (t - 2) = r at *
  generalize c / (t - 2) = c1 at *
  refine Zlu (fun k M' => M' = (M ++ [SO.lst [D.tup [D.int 1, D.int 0], D.tup [D.int 0, D.int 1], D.tup [D.int (-1), D.int (-1)]]]) ∧ (k = true → 3 < 3 + r)) ?_ ?_
  · refine brO (fun h => ?_) (fun h => ?_)
    · simp! [Zl]
      exact fun _ => h
    · simp! [Zl]
      exact fun z => by cases z
  rintro k _ ⟨rfl, hk⟩
  simp! [Zl]
  refine Zka (fun ρ M' => ∃ ss m x4, ρ = [some (D.int c1), some (D.int t), some (D.int (3 + r)), some (D.ref m), x4, none, none, none, none, none] ∧ Smo ss ∧ Nr 200 ss ∧ (ss.length : Int) ≤ 3 + r ∧ M'[m]? = some (.lst (prs ss)) ∧ M.length ≤ M'.length ∧ (∀ k, k < M.length → M'[k]? = M[k]?)) ?_ ?_
  · refine Zj9 (fun h => ?_) (fun h => ?_)
    · have h3 := hk h
      simp! [Zl]
      obtain ⟨z, hz, z0⟩ : ∃ z : Int, c1 / 512 % 4 = z ∧ (z = 0 ∨ z = 1 ∨ z = 2 ∨ z = 3) := ⟨_, rfl, by omega⟩
      rw [hz]
      obtain ⟨f, hf, f0⟩ : ∃ f : Int, atI [D.int 3, D.int 4, D.int 6, D.int 40] z = some (.int f) ∧ (0 < f ∧ f ≤ 40) := by
        rcases z0 with rfl | rfl | rfl | rfl
        · exact ⟨3, rfl, by decide, by decide⟩
        · exact ⟨4, rfl, by decide, by decide⟩
        · exact ⟨6, rfl, by decide, by decide⟩
        · exact ⟨40, rfl, by decide, by decide⟩
      simp! [hf]
      have g0 := Int.emod_nonneg (c1 / 4) (show f ≠ 0 by omega)
      have g1 := Int.emod_lt_of_pos (c1 / 4) (show 0 < f by omega)
      generalize c1 / 4 % f = far at *
      refine ⟨[(1, 0), (0, 1), (-1, far), (0, -1)], _, _, rfl, ZrK far, ?_, by simp; omega, ?_, by omega, ?_⟩
      · intro p hp
        simp at hp
        rcases hp with rfl | rfl | rfl | rfl <;> simp <;> omega
      · rw [ZfA]
        rfl
      · intro k hk
        rw [ZaF hk]
    · simp! [Zl]
      refine ⟨[(1, 0), (0, 1), (-1, -1)], _, _, rfl, Zly, ?_, by simp; omega, ?_, by omega, ?_⟩
      · intro p hp
        simp at hp
        rcases hp with rfl | rfl | rfl <;> simp
      · rw [Zd0]
        rfl
      · intro k hk
        rw [ZaF hk]
  rintro _ M1 ⟨ss, m, x4, rfl, s1, s2, s3, s4, s5, s6⟩
  have hl3 := s1.len
  simp! [s4]
  refine ⟨by omega, ?_⟩
  refine ZcS (fun i ρ M' => ∃ tt m c x4 x5 x6 x7 x8 x9, ρ = [some (D.int c), some (D.int t), some (D.int (3 + r)), some (D.ref m), x4, x5, x6, x7, x8, x9] ∧ 0 ≤ c ∧ Smo tt ∧ Nr 200 tt ∧ tt.length ≤ ss.length + i ∧ M'[m]? = some (.lst (prs tt)) ∧ M.length ≤ M'.length ∧ (∀ k, k < M.length → M'[k]? = M[k]?)) ?_ ?_ ?_
  · exact ⟨ss, m, _, _, _, _, _, _, _, rfl, by omega, s1, s2, by omega, s4, s5, s6⟩
  · rintro i ρ M2 hi ⟨tt, m, c, x4, x5, x6, x7, x8, x9, rfl, c0, t1, t2, t3, t4, t5, t6⟩
    have tl := t1.len
    have hm := Zy t4
    simp! [ZO, t4]
    obtain ⟨a, ha, a0⟩ : ∃ a : Nat, c % (tt.length : Int) = a ∧ a < tt.length := by
      have := Z8 (i := c) (m := tt.length) (by omega)
      exact ⟨(c % (tt.length : Int)).toNat, by omega, this.1⟩
    rw [ha]
    have e1 := Z8 (i := (a : Int) + 1) (m := tt.length) (by omega)
    simp! [t4, Zce, ZcT]
    have b1 := Nr.cy t2 t1.ne a
    have b2 := Nr.cy t2 t1.ne (a + 1)
    have sm := t1.ins a0
    have nr := fun h => Nr.ins (k := a) (p := ((cy tt a).1 + (cy tt (a + 1)).1, (cy tt a).2 + (cy tt (a + 1)).2)) t2 h
    generalize hx : (cy tt a).1 + (cy tt (a + 1)).1 = x at *
    generalize hy : (cy tt a).2 + (cy tt (a + 1)).2 = y at *
    refine Zlu (fun k M' => M' = M2 ∧ (k = true → (-200 ≤ x ∧ x ≤ 200) ∧ -200 ≤ y ∧ y ≤ 200)) ?_ ?_
    · refine brO (fun h => ?_) (fun h => ?_)
      · simp! [Zl]
        intro h2
        have := of_decide_eq_true h2
        omega
      · simp! [Zl]
        exact fun z => by cases z
    rintro k M2 ⟨rfl, hk⟩
    simp! [Zl]
    refine Zj9 (fun h => ?_) (fun h => ?_)
    · have le : ((a : Int) + 1).toNat = a + 1 := by omega
      simp! [t4, le, Zep, ZdA]
      refine ⟨by rw [List.length_take]; omega, by rw [List.length_take, List.length_drop]; omega, ins tt a (x, y), _, _, _, _, _, _, _, _, rfl, by omega, sm, nr (hk h), by rw [ZcA a0]; omega, ?_, by omega, ?_⟩
      · rw [ZfA]
        rfl
      · intro k hk
        rw [ZaF (by omega)]
        exact t6 k hk
    · simp! [Zl]
      exact ⟨tt, _, _, _, _, _, _, _, _, rfl, by omega, t1, t2, by omega, t4, t5, t6⟩
  · rintro ρ M2 ⟨tt, m, c, x4, x5, x6, x7, x8, x9, rfl, c0, t1, t2, t3, t4, t5, t6⟩
    simp! [Zl]
    refine Zn8 t4 t1 t2 (by omega) ?_
    intro uu m' M3 u1 u2 u3 u4 u5 u6
    have ul := u1.len
    have hm' := Zy u4
    simp! [u4]
    obtain ⟨a, ha, a0⟩ : ∃ a : Nat, c / 1000000000000 % (uu.length : Int) = a ∧ a < uu.length := by
      have := Z8 (i := c / 1000000000000) (m := uu.length) (by omega)
      exact ⟨(c / 1000000000000 % (uu.length : Int)).toNat, by omega, this.1⟩
    rw [ha]
    have le : (a : Int).toNat = a := by omega
    simp! [u4, le, Zep, ZdA, ZfN]
    refine ⟨by rw [List.length_take, List.length_drop]; omega, ?_⟩
    refine q (uu.drop a ++ uu.take a) _ _ (u1.rot (by omega)) (Nr.rot u2) (by rw [List.length_append, List.length_take, List.length_drop]; omega) (by rw [ZfA]; rfl) (by rw [List.length_append]; omega) (fun k hk => ?_)
    rw [ZaF (by omega), u6 k (by omega), t6 k hk]
end
end CC
end
section
set_option Elab.async false
set_option linter.all false
set_option maxRecDepth 100000
set_option maxHeartbeats 4000000
namespace DL
noncomputable def T (rs : List Pt) (i : Int) : Int := 0 - X (cy rs (i - 1)) (cy rs (i + 1))
noncomputable def Za9 (rs : List Pt) : List Int := (List.range rs.length).map fun (i : Nat) => T rs i
section
variable {rs : List Pt} {k : Nat} {p : Pt} {j : Int}
theorem Za0 : (Za9 rs).length = rs.length := by simp [Za9]
theorem Zik {i : Nat} (h : i < rs.length) : (Za9 rs)[i]? = some (T rs i) := by
  simp [Za9, h]
end
end DL
namespace CC
open PySem PySem.Spec L2 DL
section
variable {Q : D → Sto → Prop} {E : Str → Sto → Prop} {M : Sto} {a b c d i : Int} {n : Nat} {rs : List Pt}
end
end CC
end
section
set_option Elab.async false
set_option linter.all false
set_option maxRecDepth 100000
set_option maxHeartbeats 4000000
namespace DL
noncomputable def del (rs : List Pt) (k : Nat) : List Pt := rs.take k ++ rs.drop (k + 1)
section
variable {rs : List Pt} {k : Nat} {p : Pt} {j : Int}
theorem nbr (hs : Smo rs) (i : Int) : (cy rs (i - 1)).1 + (cy rs (i + 1)).1 = 0 - T rs i * (cy rs i).1 ∧ (cy rs (i - 1)).2 + (cy rs (i + 1)).2 = 0 - T rs i * (cy rs i).2 := by
  have o1 := hs.one (i - 1)
  have o2 := hs.one i
  rw [show i - 1 + 1 = i by omega] at o1
  unfold T X at *
  constructor <;> grind
theorem Zkf (p q : Pt) : X p q = 0 - X q p := by unfold X; grind
theorem Zlz (hs : Smo rs) (i : Int) : (cy rs i = ((cy rs (i - 1)).1 + (cy rs (i + 1)).1, (cy rs (i - 1)).2 + (cy rs (i + 1)).2)) ↔ T rs i = -1 := by
  obtain ⟨n1, n2⟩ := nbr hs i
  rw [n1, n2]
  have o2 := hs.one i
  constructor
  · intro e
    generalize cy rs i = v at *
    generalize cy rs (i + 1) = w at *
    obtain ⟨v1, v2⟩ := v
    obtain ⟨w1, w2⟩ := w
    simp only [Prod.mk.injEq, X] at *
    obtain ⟨e1, e2⟩ := e
    have : (T rs i + 1) * (v1 * w2 - v2 * w1) = 0 := by grind
    rw [o2] at this
    omega
  · intro e
    rw [e]
    apply Prod.ext <;> simp
theorem ZdP (hk : k < rs.length) : (del rs k).length = rs.length - 1 := by simp [del]; omega
theorem Zil (hk : k < rs.length) (h0 : 0 ≤ j) (h1 : j < rs.length - 1) : cy (del rs k) j = if j < k then cy rs j else cy rs (j + 1) := by
  have hL := ZdP hk
  rw [ZbI (by rw [hL]; omega)]
  unfold del
  rw [List.getD_eq_getElem?_getD]
  by_cases c1 : j < k
  · rw [if_pos c1, ZbI (by omega), List.getD_eq_getElem?_getD, List.getElem?_append_left (by simp; omega), List.getElem?_take_of_lt (by omega)]
  · have hl : (rs.take k).length = k := by simp; omega
    rw [if_neg c1, ZbI (by omega), List.getD_eq_getElem?_getD, List.getElem?_append_right (by rw [hl]; omega), hl, List.getElem?_drop]
    congr 2
    omega
theorem ZlA (hk : k < rs.length) (hn : 3 ≤ rs.length) (hj : j = rs.length - 1) : cy (del rs k) j = if k = 0 then cy rs (rs.length + 1) else cy rs rs.length := by
  have hL := ZdP hk
  have e := ZdK (rs := del rs k) (i := j)
  rw [hL] at e
  rw [← e, show j - ((rs.length - 1 : Nat) : Int) = 0 by omega, Zil hk (by omega) (by omega)]
  by_cases c : k = 0
  · rw [if_neg (by omega), if_pos c, ← ZcU (rs := rs) (i := 0 + 1)]
    exact congrArg _ (by omega)
  · rw [if_pos (by omega), if_neg c, ← ZcU (rs := rs) (i := 0)]
    exact congrArg _ (by omega)
end
end DL
end
section
set_option Elab.async false
set_option linter.all false
set_option maxRecDepth 100000
set_option maxHeartbeats 4000000
namespace DL
noncomputable def nm (p : Pt) : Int := p.1 * p.1 + p.2 * p.2
theorem Zim (x : Int) : 0 ≤ x * x := by
  rcases Int.le_total 0 x with h | h
  · exact Int.mul_nonneg h h
  · exact Int.mul_nonneg_of_nonpos_of_nonpos h h
theorem ZrL {x : Int} (h : x * x ≤ 0) : x = 0 := by
  have := Zim x
  have : x * x = 0 := by omega
  rcases Int.mul_eq_zero.mp this with h | h <;> exact h
theorem Zn9 (p : Pt) : 0 ≤ nm p := by have := Zim p.1; have := Zim p.2; unfold nm; omega
theorem big {p q r : Pt} {a : Int} (h1 : X p q = 1) (h2 : X q r = 1) (e1 : p.1 + r.1 = a * q.1) (e2 : p.2 + r.2 = a * q.2) (hp : nm p ≤ nm q) (hr : nm r ≤ nm q) : a ≤ 1 := by
  apply Classical.byContradiction
  intro c
  have ha : 2 ≤ a := by omega
  have k : a * a * nm q + nm (p.1 - r.1, p.2 - r.2) = 2 * nm p + 2 * nm r := by
    have : a * a * nm q = (a * q.1) * (a * q.1) + (a * q.2) * (a * q.2) := by unfold nm; grind
    rw [this, ← e1, ← e2]
    unfold nm
    grind
  have k4 : 4 * nm q ≤ a * a * nm q := Int.mul_le_mul_of_nonneg_right (by have : 2 * 2 ≤ a * a := Int.mul_le_mul ha ha (by omega) (by omega); omega) (Zn9 q)
  have d := Zn9 (p.1 - r.1, p.2 - r.2)
  have d0 : nm (p.1 - r.1, p.2 - r.2) ≤ 0 := by omega
  unfold nm at d0
  simp only at d0
  have s1 := Zim (p.1 - r.1)
  have s2 := Zim (p.2 - r.2)
  have z1 := ZrL (x := p.1 - r.1) (by omega)
  have z2 := ZrL (x := p.2 - r.2) (by omega)
  have f1 : p.1 = r.1 := by omega
  have f2 : p.2 = r.2 := by omega
  unfold X at h1 h2
  rw [f1, f2] at h1
  have : r.1 * q.2 - r.2 * q.1 = -(q.1 * r.2 - q.2 * r.1) := by grind
  omega
theorem Zoa {p q r : Pt} (h1 : X p q = 1) (h2 : X q r = 1) : p.1 + r.1 = X p r * q.1 ∧ p.2 + r.2 = X p r * q.2 := by
  unfold X at *
  constructor <;> grind
theorem Zob {f : Pt → Pt → Nat} {L R : List Pt} {a b : Pt} : f a b ≤ cc f (L ++ a :: b :: R) := by
  rw [Zcw]
  simp only [cc]
  omega
theorem Zs3 {w : Pt} : ∀ (xs : List Pt) (p q : Pt), (∀ L a b d R, p :: q :: (xs ++ [w]) = L ++ a :: b :: d :: R → X a b = 1 ∧ X b d = 1 ∧ 2 ≤ X a d) → X q w + 1 ≤ X p w ∧ xs.length + 1 ≤ X q w
  | [], p, q, h => by
    obtain ⟨h1, h2, h3⟩ := h [] p q w [] rfl
    rw [h2]
    simp
    omega
  | r :: xs, p, q, h => by
    have ih := Zs3 xs q r fun L a b d R e => h (p :: L) a b d R (by rw [List.cons_append, e]; simp)
    obtain ⟨h1, h2, h3⟩ := h [] p q r (xs ++ [w]) rfl
    have t := Zoa h1 h2
    have e : X p w = X p r * X q w - X r w := by
      have : X p w = (X p r * q.1 - r.1) * w.2 - (X p r * q.2 - r.2) * w.1 := by
        rw [← t.1, ← t.2]
        unfold X
        grind
      rw [this]
      generalize X p r = m
      unfold X
      grind
    have : 2 * X q w ≤ X p r * X q w := Int.mul_le_mul_of_nonneg_right h3 (by omega)
    simp only [List.length_cons]
    omega
end DL
namespace DL
section
variable {rs : List Pt} {k : Nat}
theorem ZfR {f : Pt → Pt → Nat} {a b p : Pt} {L R Y : List Pt} (e : R ++ L = b :: (Y ++ [a])) (hf : f a b = f a p + f p b) : cyc f (L ++ R) = cyc f (L ++ p :: R) := by
  rw [ZcB L R, e, ZcB L, List.cons_append, e]
  simp only [Za8, List.cons_append, cc]
  have e1 : b :: (Y ++ [a] ++ [p]) = (b :: Y) ++ a :: [p] := by simp
  have e2 : b :: (Y ++ [a] ++ [b]) = (b :: Y) ++ a :: [b] := by simp
  rw [e1, e2, Zcw (b :: Y) a [p], Zcw (b :: Y) a [b]]
  simp only [cc]
  omega
theorem Smo.del (h : Smo rs) (hk : k < rs.length) (h4 : 4 ≤ rs.length) (ht : T rs k = -1) : Smo (del rs k) := by
  have hL := ZdP hk
  have sm := (Zlz h k).mpr ht
  refine ⟨by omega, ?_, ?_⟩
  · refine Zdb (P := fun a b => X a b = 1) (by omega) ?_
    intro j h0 h1
    rw [hL] at h1
    have xk : X (cy rs (k - 1)) (cy rs (k + 1)) = 1 := by unfold T at ht; omega
    rw [Zil hk h0 (by omega)]
    by_cases c : j + 1 < rs.length - 1
    · rw [Zil hk (by omega) (by omega)]
      by_cases c1 : j + 1 < k
      · rw [if_pos (by omega), if_pos c1]; exact h.one j
      · by_cases c2 : j + 1 = k
        · rw [if_pos (by omega), if_neg c1, show j = (k : Int) - 1 by omega, show (k : Int) - 1 + 1 + 1 = k + 1 by omega]
          exact xk
        · rw [if_neg (by omega), if_neg c1]; exact h.one (j + 1)
    · have jE : j + 1 = rs.length - 1 := by omega
      rw [ZlA hk (by omega) jE]
      by_cases c0 : k = 0
      · subst c0
        rw [if_neg (by omega), if_pos rfl, show j + 1 = ((0 : Nat) : Int) - 1 + rs.length by omega, ZcU, show (rs.length : Int) + 1 = ((0 : Nat) : Int) + 1 + rs.length by omega, ZcU]
        exact xk
      · rw [if_neg c0]
        by_cases c2 : j + 1 = k
        · rw [if_pos (by omega), show j = (k : Int) - 1 by omega, show (rs.length : Int) = k + 1 by omega]
          exact xk
        · rw [if_neg (by omega), show j + 1 = (rs.length : Int) - 1 by omega]
          have := h.one (rs.length - 1)
          rw [show (rs.length : Int) - 1 + 1 = rs.length by omega] at this
          exact this
  · intro w hw
    obtain ⟨L, p, R, e, hl⟩ : ∃ L a R, rs = L ++ a :: R ∧ L.length = k := ⟨rs.take k, rs[k], rs.drop (k + 1), by rw [List.getElem_cons_drop, List.take_append_drop], by simp; omega⟩
    have ed : DL.del rs k = L ++ R := by
      unfold DL.del
      rw [e, ← hl, List.take_append, List.drop_append, List.take_of_length_le (by omega), List.drop_eq_nil_of_le (by omega)]
      simp
    have lr : (R ++ L).length = rs.length - 1 := by rw [e]; simp; omega
    obtain ⟨b, Y, a, hY⟩ : ∃ b Y a, R ++ L = b :: (Y ++ [a]) := by
      match hRL : R ++ L, lr with
      | [], lr => simp at lr; omega
      | b :: r, lr =>
        have : r ≠ [] := by intro z; rw [z] at lr; simp at lr; omega
        exact ⟨b, r.dropLast, r.getLast this, by rw [List.dropLast_concat_getLast]⟩
    have hr := h.rot (k := k) (by omega)
    have er : rs.drop k ++ rs.take k = p :: (R ++ L) := by
      rw [e, ← hl, List.take_append, List.drop_append, List.take_of_length_le (by omega), List.drop_eq_nil_of_le (by omega)]
      simp
    have c0 : cy rs k = p := by rw [e, ← hl]; exact Zfc
    have cb : cy rs (k + 1) = b := by
      have := Zea (rs := rs) (k := k) (i := 1) (by omega)
      rw [er, hY] at this
      rw [show (k : Int) + 1 = 1 + k by omega, ← this]
      exact Zij (L := []) (a := p) (b := b)
    have ca : cy rs (k - 1) = a := by
      have := Zea (rs := rs) (k := k) (i := -1) (by omega)
      rw [er, hY] at this
      rw [show (k : Int) - 1 = -1 + k by omega, ← this, ← ZcU]
      have := Zfc (L := p :: b :: Y) (a := a) (R := [])
      rw [show (-1 : Int) + ((p :: b :: (Y ++ [a])).length : Nat) = ((p :: b :: Y).length : Nat) by simp; omega]
      simpa using this
    rw [c0, ca, cb] at sm
    rw [ed, ZfR (p := p) hY (by rw [sm]; exact Zih), ZfR (p := p) hY (by rw [sm]; exact Zii), ← e]
    exact h.fan w hw
end
end DL
end
section
set_option Elab.async false
set_option linter.all false
set_option maxRecDepth 100000
set_option maxHeartbeats 4000000
namespace CE
open PySem PySem.Spec L2 DL
noncomputable def Zah : Sv := (ZF (e2 dSub (e2 dMul (e2 dIx (Zd 0) (eC (.int 0))) (e2 dIx (Zd 1) (eC (.int 1)))) (e2 dMul (e2 dIx (Zd 0) (eC (.int 1))) (e2 dIx (Zd 1) (eC (.int 0))))))
noncomputable def F_crossed : List D → Sto → Out D := fnF Zah 2 0
noncomputable def Zam : Sv := (ZF (e2 dIx (Zd 0) (e2 dMod (e2 dAdd (Zd 1) (eC (.int 1))) (Zg bLen (Za (Zd 0) aNil)))))
noncomputable def F_following : List D → Sto → Out D := fnF Zam 2 0
noncomputable def ZX : Sv := (sIf (tv (e2 dNe (Zg F_crossed (Za (Zd 2) (Za (Zg F_following (Za (Zd 0) (Za (Zd 1) aNil))) aNil))) (eC (.int 1)))) (ZF (Zd 1)) sNil)
noncomputable def ZaG : Sv := (Zn (ZcR (gTp (gCs (gNm 1) (gCs (gNm 2) gNl))) (iEn (Za (Zd 0) aNil)) ZX)
  (ZF (eC .non)))
noncomputable def F_unspanned : List D → Sto → Out D := fnF ZaG 1 2
noncomputable def Zap : Sv := (Zn (Zt (gNm 1) (Zg F_unspanned (Za (Zd 0) aNil)))
  (sIf (tv (e2 dIsNot (Zd 1) (eC .non))) (Zbn (PySem.Str.ofString "NotSmooth") (Za (eFs (ZbG (eC (.str (PySem.Str.ofString "ray "))) (ZbG (eFm (Zd 1)) (ZbG (eC (.str (PySem.Str.ofString " does not cross the next one in 1"))) jNil)))) aNil)) sNil))
noncomputable def F_ask_smooth : List D → Sto → Out D := fnF Zap 1 1
noncomputable def ZcX : Sv := (Zn (Z3 (Zg F_ask_smooth (Za (Zd 0) aNil)))
  (ZF (Zb6 (iR1 (Za (Zg bLen (Za (Zd 0) aNil)) aNil)) 1 [0] (gNm 0) (fun _ M => .ok true M) (Zg F_crossed (Za (Zg F_following (Za (Zd 1) (Za (Zd 0) aNil))) (Za (e2 dIx (Zd 1) (e2 dSub (Zd 0) (eC (.int 1)))) aNil))))))
noncomputable def F_numbers : List D → Sto → Out D := fnF ZcX 1 0
end CE
end
section
set_option Elab.async false
set_option linter.all false
set_option maxRecDepth 100000
set_option maxHeartbeats 4000000
namespace CE
open PySem PySem.Spec L2 DL
theorem Zin : F_crossed = CC.F_crossed := rfl
theorem ZfS : F_following = CC.F_following := rfl
theorem Zff : F_ask_smooth = CC.F_ask_smooth := rfl
section
variable {Q : D → Sto → Prop} {E : Str → Sto → Prop} {M : Sto} {a b c d i : Int} {n : Nat} {rs : List Pt}
theorem Zio (h : M[n]? = some (.lst (prs rs))) (hs : Smo rs) (hl : rs.length ≤ 1000000) (hb : Nr 18446744073709551615 rs) (q : Q (.ref M.length) (M ++ [.lst (nts (Za9 rs))])) : wO (F_numbers [.ref n] M) Q E := by
  have hm := Zy h
  have hn := hs.len
  simp! [F_numbers, ZcX, Zff]
  refine CC.Zfd h hs hb ?_
  simp! [h]
  refine ⟨by omega, ?_⟩
  rw [show ((rs.length : Int)).toNat = rs.length by omega]
  refine ZsZ (fun ρ => ∃ x, ρ = [x, some (.ref n)]) (fun (i : Nat) => .int (T rs i)) (by omega) ⟨_, rfl⟩ ?_ (by rw [Zif]; exact q)
  rintro i hi ρ L ⟨x, rfl⟩
  have b1 := CC.Nr.big hb (by decide) hs.ne (i + 1)
  have hL : (M ++ L)[n]? = some (.lst (prs rs)) := by rw [ZaF hm]; exact h
  simp! [ZfS, Zin, CC.ZcC hL, h, Zce, CC.ZaZ]
  refine ⟨⟨_, rfl⟩, ?_⟩
  unfold T
  rw [← Zkf]
  rfl
end
end CE
end
section
set_option Elab.async false
set_option linter.all false
set_option maxRecDepth 100000
set_option maxHeartbeats 4000000
namespace CF
open PySem PySem.Spec L2 DL CC
end CF
end
section
set_option Elab.async false
set_option linter.all false
set_option maxRecDepth 100000
set_option maxHeartbeats 4000000
namespace CF
open PySem PySem.Spec L2 DL
section
variable {Q : D → Sto → Prop} {E : Str → Sto → Prop} {M : Sto} {a b c d i : Int} {n : Nat} {rs : List Pt}
noncomputable def Rgh (rs : List Pt) : Prop := ∃ i : Nat, i < rs.length ∧ X (cy rs i) (cy rs (i + 1)) ≠ 1
theorem Rgh.ne (h : Rgh rs) : rs ≠ [] := by
  obtain ⟨i, hi, _⟩ := h
  intro z
  rw [z] at hi
  simp at hi
theorem Zgw {k : Nat} : (List.replicate k true).all id = true := by simp
theorem Nr.del {b : Int} {k : Nat} (h : Nr b rs) : Nr b (del rs k) := fun p hp => h p (by
  rcases List.mem_append.mp hp with z | z
  · exact List.mem_of_mem_take z
  · exact List.mem_of_mem_drop z)
end
end CF
end
section
set_option Elab.async false
set_option linter.all false
set_option maxRecDepth 100000
set_option maxHeartbeats 4000000
namespace DL
open PySem PySem.Spec L2 DL
section
variable {M : Sto}
end
end DL
end
section
set_option Elab.async false
set_option linter.all false
set_option maxRecDepth 100000
set_option maxHeartbeats 4000000
namespace CB
open PySem PySem.Spec L2 DL
noncomputable def Zah : Sv := (ZF (e2 dSub (e2 dMul (e2 dIx (Zd 0) (eC (.int 0))) (e2 dIx (Zd 1) (eC (.int 1)))) (e2 dMul (e2 dIx (Zd 0) (eC (.int 1))) (e2 dIx (Zd 1) (eC (.int 0))))))
noncomputable def F_crossed : List D → Sto → Out D := fnF Zah 2 0
noncomputable def Zbw : Sv := (Zn (Zt (gNm 5) (e2 dDiv (Zd 1) (Zd 2)))
  (Zn (Zb5 1 2 (Za (Zd 2) (Za (e2 dSub (Zd 1) (e2 dMul (Zd 5) (Zd 2))) aNil)))
  (Zb5 3 4 (Za (Zd 4) (Za (ZC (Za (e2 dSub (e2 dIx (Zd 3) (eC (.int 0))) (e2 dMul (Zd 5) (e2 dIx (Zd 4) (eC (.int 0))))) (Za (e2 dSub (e2 dIx (Zd 3) (eC (.int 1))) (e2 dMul (Zd 5) (e2 dIx (Zd 4) (eC (.int 1))))) aNil))) aNil)))))
noncomputable def ZcY : Sv := (Zn (Zt (gTp (gCs (gNm 1) (gCs (gNm 2) gNl))) (Zd 0))
  (Zn (Zt (gTp (gCs (gNm 3) (gCs (gNm 4) gNl))) (ZC (Za (ZC (Za (eC (.int 0)) (Za (eC (.int 1)) aNil))) (Za (ZC (Za (ZbC (eC (.int 1))) (Za (eC (.int 0)) aNil))) aNil))))
  (Zn (sWh (tv (e2 dNe (Zd 2) (eC (.int 0)))) Zbw)
  (ZF (ZC (Za (e2 dMul (Zd 1) (e2 dIx (Zd 3) (eC (.int 0)))) (Za (e2 dMul (Zd 1) (e2 dIx (Zd 3) (eC (.int 1)))) aNil)))))))
noncomputable def F_partner : List D → Sto → Out D := fnF ZcY 1 5
noncomputable def ZaS : Sv := (Zn (Zt (gNm 2) (Zg F_partner (Za (Zd 0) aNil)))
  (Zn (Zt (gNm 3) (e2 dDiv (Zg F_crossed (Za (Zd 2) (Za (Zd 1) aNil))) (Zg F_crossed (Za (Zd 0) (Za (Zd 1) aNil)))))
  (ZF (ZC (Za (e2 dSub (e2 dIx (Zd 2) (eC (.int 0))) (e2 dMul (Zd 3) (e2 dIx (Zd 0) (eC (.int 0))))) (Za (e2 dSub (e2 dIx (Zd 2) (eC (.int 1))) (e2 dMul (Zd 3) (e2 dIx (Zd 0) (eC (.int 1))))) aNil))))))
noncomputable def F_first_behind : List D → Sto → Out D := fnF ZaS 2 2
noncomputable def Zba : Sv := (Zn (Zt (gNm 3) (ZbC (e2 dDiv (ZbC (Zd 0)) (Zd 1))))
  (Zn (Z3 (Zc6 mApp (Zd 2) (Za (Zd 3) aNil)))
  (Zb5 0 1 (Za (Zd 1) (Za (e2 dSub (e2 dMul (Zd 3) (Zd 1)) (Zd 0)) aNil)))))
noncomputable def Zci : Sv := (Zn (Zt (gNm 2) (Zag aNil))
  (Zn (sWh (tv (e2 dNe (Zd 1) (eC (.int 0)))) Zba)
  (ZF (Zd 2))))
noncomputable def F_expanded : List D → Sto → Out D := fnF Zci 2 2
noncomputable def Zjz : Sv := (Zn (sIf (tv (e2 dLe (Zg F_crossed (Za (Zd 0) (Za (Zd 1) aNil))) (eC (.int 0)))) (Zbn (PySem.Str.ofString "NoWedge") (Za (eC (.str (PySem.Str.ofString "the two rays of a wedge, crossed, come to more than 0"))) aNil)) sNil)
  (ZF (Zg F_expanded (Za (Zg F_crossed (Za (Zd 0) (Za (Zd 1) aNil))) (Za (Zg F_crossed (Za (Zg F_first_behind (Za (Zd 0) (Za (Zd 1) aNil))) (Za (Zd 1) aNil))) aNil)))))
noncomputable def F_row : List D → Sto → Out D := fnF Zjz 2 0
noncomputable def Zbx : Sv := (Zn (Z3 (Zc6 mApp (Zd 3) (Za (Zd 5) aNil)))
  (Zb5 4 5 (Za (Zd 5) (Za (ZC (Za (e2 dSub (e2 dMul (Zd 6) (e2 dIx (Zd 5) (eC (.int 0)))) (e2 dIx (Zd 4) (eC (.int 0)))) (Za (e2 dSub (e2 dMul (Zd 6) (e2 dIx (Zd 5) (eC (.int 1)))) (e2 dIx (Zd 4) (eC (.int 1)))) aNil))) aNil))))
noncomputable def ZcZ : Sv := (Zn (Zt (gNm 2) (Zg F_row (Za (Zd 0) (Za (Zd 1) aNil))))
  (Zn (Zt (gNm 3) (Zag aNil))
  (Zn (Zb5 4 5 (Za (Zd 0) (Za (Zg F_first_behind (Za (Zd 0) (Za (Zd 1) aNil))) aNil)))
  (Zn (ZjY (gNm 6) (Zd 2) Zbx)
  (ZF (Zd 3))))))
noncomputable def F_between : List D → Sto → Out D := fnF ZcZ 2 5
end CB
end
section
set_option Elab.async false
set_option linter.all false
set_option maxRecDepth 100000
set_option maxHeartbeats 4000000
namespace DL
theorem Zip {a b : Int} (h : b ≠ 0) : (a - a.fdiv b * b).natAbs < b.natAbs := by
  have e : a - a.fdiv b * b = a.fmod b := by rw [Int.fmod_def, Int.mul_comm]
  rw [e]
  by_cases c : 0 < b
  · have h1 := Int.fmod_lt_of_pos a c
    have h2 : 0 ≤ a.fmod b := by rw [Int.fmod_eq_emod_of_nonneg _ (by omega)]; exact Int.emod_nonneg _ h
    omega
  · have e2 : a.fmod b = -((-a).fmod (-b)) := by rw [Int.neg_fmod_neg]; omega
    have h1 := Int.fmod_lt_of_pos (-a) (show 0 < -b by omega)
    have h2 : 0 ≤ (-a).fmod (-b) := by rw [Int.fmod_eq_emod_of_nonneg _ (by omega)]; exact Int.emod_nonneg _ (by omega)
    omega
theorem ZlB {a b : Int} (h : b ≠ 0) : (a.fdiv b).natAbs ≤ a.natAbs + 1 := by
  have h1 := Zip (a := a) h
  generalize hr : a - a.fdiv b * b = r at h1
  have h2 : (a.fdiv b * b).natAbs ≤ a.natAbs + r.natAbs := by omega
  rw [Int.natAbs_mul] at h2
  apply Classical.byContradiction
  intro c
  have h3 : (a.natAbs + 2) * b.natAbs ≤ (a.fdiv b).natAbs * b.natAbs := Nat.mul_le_mul_right _ (by omega)
  have h4 : a.natAbs * 1 ≤ a.natAbs * b.natAbs := Nat.mul_le_mul_left _ (by omega)
  rw [Nat.add_mul] at h3
  omega
noncomputable def hj (t b : Int) : List Int := if h : 0 < b then -((-t) / b) :: hj b (-((-t) / b) * b - t) else []
termination_by b.toNat
decreasing_by
  have h1 := Int.emod_nonneg (-t) (show b ≠ 0 by omega)
  have h2 := Int.emod_lt_of_pos (-t) h
  have h3 := Int.emod_add_mul_ediv (-t) b
  rw [Int.neg_mul, Int.mul_comm]
  omega
theorem ZbZ {t b : Int} (h : 0 < b) : 0 ≤ -((-t) / b) * b - t ∧ -((-t) / b) * b - t < b := by
  have h1 := Int.emod_nonneg (-t) (show b ≠ 0 by omega)
  have h2 := Int.emod_lt_of_pos (-t) h
  have h3 := Int.emod_add_mul_ediv (-t) b
  rw [Int.neg_mul, Int.mul_comm]
  omega
theorem Ziq {t b : Int} (h : 0 < b) (ht : b < t) : 2 ≤ -((-t) / b) := by
  have := (ZbZ (t := t) h).1
  apply Classical.byContradiction
  intro c
  have : -((-t) / b) * b ≤ 1 * b := Int.mul_le_mul_of_nonneg_right (by omega) (by omega)
  omega
theorem Zkg : ∀ (n : Nat) (t b : Int), b.toNat = n → (hj t b).length ≤ n := by
  intro n
  induction n using Nat.strongRecOn with
  | ind n ih =>
    intro t b hb
    unfold hj
    by_cases h : 0 < b
    · rw [dif_pos h]
      have := ZbZ (t := t) h
      have := ih (-((-t) / b) * b - t).toNat (by omega) b _ rfl
      simp only [List.length_cons]
      omega
    · rw [dif_neg h]
      simp
end DL
namespace CB
open PySem PySem.Spec L2 DL
section
variable {Q : D → Sto → Prop} {E : Str → Sto → Prop} {M : Sto} {a b c d i : Int} {n m : Nat} {u v w : Pt}
noncomputable abbrev Bd (b : Int) (p : Pt) : Prop := (-b ≤ p.1 ∧ p.1 ≤ b) ∧ -b ≤ p.2 ∧ p.2 ≤ b
theorem Zgx {j : Int} (h : j ≠ 0 ∧ -(18446744073709551616) < j ∧ j < 18446744073709551616) : wO (dDiv (.int i) (.int j) M) Q E = Q (.int (i.fdiv j)) M := by
  have : Z7 j := by
    refine ⟨h.1, ?_⟩
    have : j.natAbs.log2 < 65 := (Nat.log2_lt (by omega)).mpr (by omega)
    omega
  show wO (if Z7 j then _ else _) Q E = _
  rw [if_pos this]; rfl
theorem Zir (hg : Int.gcd u.1 u.2 = 1) (hb : Bd 1000000 u) (q : ∀ w : Pt, X u w = 1 → Q (pr w.1 w.2) M) : wO (F_partner [pr u.1 u.2] M) Q E := by
  simp! [F_partner, ZcY]
  refine Zjy (fun k ρ M' => M' = M ∧ ∃ (h l : Int) (f s : Pt) (x : Option D), ρ = [some (pr u.1 u.2), some (.int h), some (.int l), some (pr f.1 f.2), some (pr s.1 s.2), x] ∧ k = l.natAbs ∧ Int.gcd h l = 1 ∧ (-1000000 ≤ h ∧ h ≤ 1000000) ∧ (-1000000 ≤ l ∧ l ≤ 1000000) ∧ X u f = h ∧ X u s = l) ?_ u.2.natAbs _ _ ⟨rfl, u.1, u.2, (0, 1), (-1, 0), _, rfl, rfl, hg, hb.1, hb.2, by simp [X], by simp [X]⟩
  rintro k ρ M ⟨rfl, h, l, f, s, x, rfl, rfl, g, hh, hl, e1, e2⟩
  simp! [Zl]
  refine Zn4 (fun hl0 => ?_) (fun hl0 => ?_)
  · have f1 := Zip (a := h) hl0
    have f2 := ZlB (a := h) hl0
    simp! [Zbw, Zgx]
    refine ⟨(h - h.fdiv l * l).natAbs, f1, l, h - h.fdiv l * l, s, (f.1 - h.fdiv l * s.1, f.2 - h.fdiv l * s.2), _, rfl, rfl, ?_, hl, by omega, e2, ?_⟩
    · rw [Int.gcd_sub_mul_right_right, Int.gcd_comm]
      exact g
    · unfold X at *
      simp only
      grind
  · subst hl0
    rw [Int.gcd_zero_right] at g
    simp! [Zl]
    have := q (h * f.1, h * f.2) (by
      have hh2 : h * h = 1 := by
        have : h = 1 ∨ h = -1 := by omega
        rcases this with z | z <;> rw [z] <;> rfl
      unfold X at *
      simp only
      grind)
    exact this
theorem ZaZ (h : Bd 1000000 u ∨ Bd 1000000 v) : wO (F_crossed [pr u.1 u.2, pr v.1 v.2] M) Q E = Q (.int (X u v)) M := by
  rcases h with h | h
  · simp! [F_crossed, Zah]
    rfl
  · simp! [F_crossed, Zah]
    rfl
structure Wg (u v : Pt) : Prop where
  gu : Int.gcd u.1 u.2 = 1
  gv : Int.gcd v.1 v.2 = 1
  bu : Bd 1000 u
  bv : Bd 1000 v
  pos : 0 < X u v
theorem Wg.le (h : Wg u v) : X u v ≤ 2000000 := by
  obtain ⟨_, _, ⟨⟨a1, a2⟩, a3, a4⟩, ⟨⟨b1, b2⟩, b3, b4⟩, _⟩ := h
  have m : ∀ x y : Int, -1000 ≤ x → x ≤ 1000 → -1000 ≤ y → y ≤ 1000 → (x * y).natAbs ≤ 1000 * 1000 := by
    intro x y _ _ _ _
    rw [Int.natAbs_mul]
    exact Nat.mul_le_mul (by omega) (by omega)
  have p1 := m u.1 v.2 a1 a2 b3 b4
  have p2 := m u.2 v.1 a3 a4 b1 b2
  unfold X
  omega
theorem Zcx (h : Wg u v) (q : ∀ w : Pt, X u w = 1 → 0 ≤ X w v → X w v < X u v → Q (pr w.1 w.2) M) : wO (F_first_behind [pr u.1 u.2, pr v.1 v.2] M) Q E := by
  have bu : Bd 1000000 u := by have := h.bu; unfold Bd at *; omega
  have bv : Bd 1000000 v := by have := h.bv; unfold Bd at *; omega
  have hp := h.pos
  have hl := h.le
  simp! [F_first_behind, ZaS]
  refine Zir h.gu bu fun w e => ?_
  simp! [ZaZ (u := w) (v := v) (.inr bv), ZaZ (u := u) (v := v) (.inr bv)]
  have m1 := Int.emod_nonneg (X w v) (show X u v ≠ 0 by omega)
  have m2 := Int.emod_lt_of_pos (X w v) hp
  have m3 := Int.emod_add_mul_ediv (X w v) (X u v)
  generalize X w v / X u v = k at *
  have e3 : X (w.1 - k * u.1, w.2 - k * u.2) v = X w v % X u v := by
    have : X (w.1 - k * u.1, w.2 - k * u.2) v = X w v - X u v * k := by unfold X; simp only; grind
    omega
  exact q (w.1 - k * u.1, w.2 - k * u.2) (by unfold X at *; simp only; grind) (by omega) (by omega)
structure Fb (u v w : Pt) : Prop where
  one : X u w = 1
  lo : 0 ≤ X w v
  hi : X w v < X u v
theorem Fb.uniq {w w' : Pt} (h : Fb u v w) (k : Fb u v w') : w = w' := by
  obtain ⟨h1, a1, a2⟩ := h
  obtain ⟨h2, b1, b2⟩ := k
  have e1 : w'.1 = X w' w * u.1 + w.1 ∧ w'.2 = X w' w * u.2 + w.2 := by unfold X at *; constructor <;> grind
  have e2 : X w' v = X w' w * X u v + X w v := by
    have : X w' v = X (X w' w * u.1 + w.1, X w' w * u.2 + w.2) v := by rw [← e1.1, ← e1.2]
    rw [this]
    unfold X
    simp only
    grind
  generalize X w' w = k at *
  have k0 : k = 0 := by
    apply Classical.byContradiction
    intro c
    by_cases p : 1 ≤ k
    · have : 1 * X u v ≤ k * X u v := Int.mul_le_mul_of_nonneg_right p (by omega)
      omega
    · have : k * X u v ≤ (-1) * X u v := Int.mul_le_mul_of_nonneg_right (by omega) (by omega)
      omega
  rw [k0] at e1
  apply Prod.ext <;> omega
theorem Zqr (h : Wg u v) : ∃ w, Fb u v w := by
  obtain ⟨d, M', _, w, hw⟩ := Zgr (Zcx (M := []) (Q := fun _ _ => ∃ w, Fb u v w) h fun w a b c => ⟨w, a, b, c⟩)
  exact ⟨w, hw⟩
theorem Zoc (h : Wg u v) (hw : Fb u v w) : wO (F_first_behind [pr u.1 u.2, pr v.1 v.2] M) Q E = Q (pr w.1 w.2) M := by
  obtain ⟨d, M', e, e1, e2⟩ := Zgr (Zcx (M := M) (Q := fun d M' => d = pr w.1 w.2 ∧ M' = M) h fun w' a b c => ⟨by rw [hw.uniq ⟨a, b, c⟩], rfl⟩)
  rw [e, e1, e2]
  rfl
theorem ZgY {t b : Int} (hb : 0 ≤ b) (hl : b ≤ 90000) (q : Q (.ref M.length) (M ++ [.lst (nts (hj t b))])) : wO (F_expanded [.int t, .int b] M) Q E := by
  simp! [F_expanded, Zci]
  refine Zjy (fun k ρ M' => ∃ (t' b' : Int) (xs : List Int) (x : Option D), ρ = [some (.int t'), some (.int b'), some (.ref M.length), x] ∧ M' = M ++ [.lst (nts xs)] ∧ 0 ≤ b' ∧ b' ≤ 90000 ∧ k = b'.toNat ∧ xs ++ hj t' b' = hj t b ∧ xs.length + b'.toNat ≤ 90000) ?_ b.toNat _ _ ⟨t, b, [], _, rfl, rfl, hb, hl, rfl, rfl, by simp; omega⟩
  rintro k ρ M' ⟨t', b', xs, x, rfl, rfl, h0, h1, rfl, e, hx⟩
  simp! [Zl]
  refine Zn4 (fun hl0 => ?_) (fun hl0 => ?_)
  · have n1 := ZbZ (t := t') (show 0 < b' by omega)
    simp! [Zba]
    refine ⟨by omega, (-(-t' / b') * b' - t').toNat, by omega, _, _, xs ++ [-(-t' / b')], _, rfl, rfl, n1.1, by omega, rfl, ?_, by simp; omega⟩
    rw [← e]
    conv => rhs; rw [hj, dif_pos (show 0 < b' by omega)]
    simp
  · subst hl0
    simp! [Zl]
    have : hj t' 0 = [] := by rw [hj, dif_neg (by omega)]
    rw [this, List.append_nil] at e
    rw [e]
    exact q
theorem Zqs (h : Wg u v) (hw : Fb u v w) (hl : X u v ≤ 90000) (q : Q (.ref M.length) (M ++ [.lst (nts (hj (X u v) (X w v)))])) : wO (F_row [pr u.1 u.2, pr v.1 v.2] M) Q E := by
  have bv : Bd 1000000 v := by have := h.bv; unfold Bd at *; omega
  have hp := h.pos
  simp! [F_row, Zjz, ZaZ (u := u) (v := v) (.inr bv), ZaZ (u := w) (v := v) (.inr bv), Zoc h hw]
  exact ZgY hw.lo (by have := hw.hi; omega) q
noncomputable def btw : Pt → Pt → List Int → List Pt
  | _, _, [] => []
  | a, r, k :: ks => r :: btw r (k * r.1 - a.1, k * r.2 - a.2) ks
theorem Zis : ∀ (a r : Pt) (ks : List Int), (btw a r ks).length = ks.length
  | _, _, [] => rfl
  | a, r, k :: ks => by rw [btw, List.length_cons, Zis, List.length_cons]
theorem ZjA : ∀ (n : Nat) (t b : Int), b.toNat = n → 0 ≤ b → b < t → ∀ k ∈ hj t b, 2 ≤ k ∧ k ≤ t := by
  intro n
  induction n using Nat.strongRecOn with
  | ind n ih =>
    intro t b hb h0 ht k hk
    unfold hj at hk
    by_cases h : 0 < b
    · rw [dif_pos h] at hk
      have nx := ZbZ (t := t) h
      rcases List.mem_cons.mp hk with z | z
      · rw [z]
        refine ⟨Ziq h ht, ?_⟩
        apply Classical.byContradiction
        intro c
        have : (t + 1) * b ≤ -((-t) / b) * b := Int.mul_le_mul_of_nonneg_right (by omega) (by omega)
        have : t * 1 ≤ t * b := Int.mul_le_mul_of_nonneg_left (by omega) (by omega)
        rw [Int.add_mul] at *
        omega
      · have := ih (-((-t) / b) * b - t).toNat (by omega) b _ rfl nx.1 nx.2 k z
        omega
    · rw [dif_neg h] at hk
      simp at hk
theorem Zit (h : Wg u v) (hw : Fb u v w) (hl : X u v ≤ 90000) (q : Q (.ref (M.length + 1)) (M ++ [.lst (nts (hj (X u v) (X w v))), .lst (prs (btw u w (hj (X u v) (X w v))))])) : wO (F_between [pr u.1 u.2, pr v.1 v.2] M) Q E := by
  simp! [F_between, ZcZ]
  refine Zqs h hw hl ?_
  have sm := ZjA _ (X u v) (X w v) rfl hw.lo hw.hi
  have ln := Zkg _ (X u v) (X w v) rfl
  have hi := hw.hi
  generalize hj (X u v) (X w v) = ks at *
  simp! [Zoc h hw]
  refine Zen (fun i ρ M' => ∃ (a r : Pt) (pre suf : List Int) (dn : List Pt) (x : Option D), ρ = [some (pr u.1 u.2), some (pr v.1 v.2), some (.ref M.length), some (.ref (M.length + 1)), some (pr a.1 a.2), some (pr r.1 r.2), x] ∧ M' = M ++ [.lst (nts ks), .lst (prs dn)] ∧ ks = pre ++ suf ∧ pre.length = i ∧ btw u w ks = dn ++ btw a r suf ∧ dn.length = i) (n := M.length) (xs := nts ks) (by rw [Zd0]; rfl) ⟨u, w, [], ks, [], _, rfl, rfl, rfl, rfl, rfl, rfl⟩ (fun i ρ M' ⟨_, _, _, _, _, _, _, e, _⟩ => by rw [e, Zd0]; rfl) ?_ ?_
  · rintro i ρ M' hi' ⟨a, r, pre, suf, dn, x, rfl, rfl, e1, e2, e3, e4⟩
    rw [Zbo] at hi'
    obtain ⟨k, suf, rfl⟩ : ∃ k s, suf = k :: s := by
      cases suf with
      | nil => rw [e1] at hi'; simp at hi'; omega
      | cons k s => exact ⟨k, s, rfl⟩
    have ek : (nts ks)[i]'(by rw [Zbo]; exact hi') = .int k := by
      subst e1 e2
      simp [nts]
    rw [ek]
    have hk := sm k (by rw [e1]; simp)
    simp! [Zbx]
    refine ⟨by omega, r, (k * r.1 - a.1, k * r.2 - a.2), pre ++ [k], suf, dn ++ [(r.1, r.2)], _, rfl, rfl, by rw [e1]; simp, by simp; omega, ?_, by simp; omega⟩
    rw [e3, btw]
    simp
  · rintro ρ M' ⟨a, r, pre, suf, dn, x, rfl, rfl, e1, e2, e3, e4⟩
    have : suf = [] := by
      have := congrArg List.length e1
      rw [Zbo] at e2
      simp at this
      cases suf with
      | nil => rfl
      | cons _ _ => simp at this; omega
    subst this
    rw [btw, List.append_nil] at e3
    simp! [Zl]
    rw [← e3]
    exact q
end
end CB
end
section
set_option Elab.async false
set_option linter.all false
set_option maxRecDepth 100000
set_option maxHeartbeats 4000000
namespace CB
open PySem PySem.Spec L2 DL
section
variable {Q : D → Sto → Prop} {E : Str → Sto → Prop} {M : Sto} {a b c d i : Int} {n m : Nat} {u v w : Pt}
theorem Zs4 (hu : Bd 200 u) (hv : Bd 200 v) : -80000 ≤ X u v ∧ X u v ≤ 80000 := by
  obtain ⟨⟨a1, a2⟩, a3, a4⟩ := hu
  obtain ⟨⟨b1, b2⟩, b3, b4⟩ := hv
  have m : ∀ x y : Int, -200 ≤ x → x ≤ 200 → -200 ≤ y → y ≤ 200 → (x * y).natAbs ≤ 200 * 200 := by
    intro x y _ _ _ _
    rw [Int.natAbs_mul]
    exact Nat.mul_le_mul (by omega) (by omega)
  have p1 := m u.1 v.2 a1 a2 b3 b4
  have p2 := m u.2 v.1 a3 a4 b1 b2
  unfold X
  omega
noncomputable def Ch : List Pt → Prop
  | a :: b :: r => X a b = 1 ∧ Ch (b :: r)
  | _ => True
theorem Zqt : ∀ (n : Nat) (t b : Int) (a r v : Pt), b.toNat = n → 0 ≤ b → b < t → X a r = 1 → X a v = t → X r v = b → Int.gcd v.1 v.2 = 1 → Ch (a :: (btw a r (hj t b) ++ [v])) := by
  intro n
  induction n using Nat.strongRecOn with
  | ind n ih =>
    intro t b a r v hb h0 ht h1 h2 h3 gv
    unfold hj
    by_cases h : 0 < b
    · rw [dif_pos h]
      have nx := ZbZ (t := t) h
      generalize hk : -((-t) / b) = k at *
      have q := ih (k * b - t).toNat (by omega) b (k * b - t) r (k * r.1 - a.1, k * r.2 - a.2) v rfl nx.1 nx.2 (by unfold X at *; simp only; grind) h3 (by unfold X at *; simp only; grind) gv
      rw [btw]
      exact ⟨h1, q⟩
    · rw [dif_neg h, btw]
      have b0 : b = 0 := by omega
      have e1 : v.1 = t * r.1 ∧ v.2 = t * r.2 := by unfold X at *; constructor <;> grind
      rw [e1.1, e1.2, Int.gcd_mul_left] at gv
      have t1 : t.natAbs = 1 := Nat.eq_one_of_mul_eq_one_right gv
      refine ⟨by rw [h2]; omega, trivial⟩
theorem ZlC (h : Wg u v) (hw : Fb u v w) : Ch (u :: (btw u w (hj (X u v) (X w v)) ++ [v])) := Zqt _ _ _ u w v rfl hw.lo hw.hi hw.one rfl rfl h.gv
noncomputable def Tr (a b d : Pt) : Prop := ∃ k : Int, 2 ≤ k ∧ a.1 + d.1 = k * b.1 ∧ a.2 + d.2 = k * b.2
noncomputable def Cv : List Pt → Prop
  | a :: b :: d :: r => Tr a b d ∧ Cv (b :: d :: r)
  | _ => True
theorem Zod : ∀ (n : Nat) (t b : Int) (a r v : Pt), b.toNat = n → 0 ≤ b → b < t → X a r = 1 → X a v = t → X r v = b → Int.gcd v.1 v.2 = 1 → Cv (a :: (btw a r (hj t b) ++ [v])) ∧ ∃ rest, btw a r (hj t b) ++ [v] = r :: rest := by
  intro n
  induction n using Nat.strongRecOn with
  | ind n ih =>
    intro t b a r v hb h0 ht h1 h2 h3 gv
    unfold hj
    by_cases h : 0 < b
    · rw [dif_pos h]
      have nx := ZbZ (t := t) h
      have k2 := Ziq h ht
      generalize hk : -((-t) / b) = k at *
      obtain ⟨q, rest, e⟩ := ih (k * b - t).toNat (by omega) b (k * b - t) r (k * r.1 - a.1, k * r.2 - a.2) v rfl nx.1 nx.2 (by unfold X at *; simp only; grind) h3 (by unfold X at *; simp only; grind) gv
      rw [btw]
      refine ⟨?_, _, rfl⟩
      show Cv (a :: r :: (btw r (k * r.1 - a.1, k * r.2 - a.2) (hj b (k * b - t)) ++ [v]))
      rw [e] at q ⊢
      exact ⟨⟨k, k2, by simp only; omega, by simp only; omega⟩, q⟩
    · rw [dif_neg h, btw]
      have b0 : b = 0 := by omega
      have e1 : v.1 = t * r.1 ∧ v.2 = t * r.2 := by unfold X at *; constructor <;> grind
      have gv' := gv
      rw [e1.1, e1.2, Int.gcd_mul_left] at gv'
      have t1 : t.natAbs = 1 := Nat.eq_one_of_mul_eq_one_right gv'
      have tt : t = 1 := by omega
      rw [tt] at e1
      have : v = r := by apply Prod.ext <;> omega
      rw [this]
      exact ⟨trivial, [], rfl⟩
noncomputable def dt (f p : Pt) : Int := f.1 * p.1 + f.2 * p.2
end
section
variable {u v w : Pt}
theorem Zqu : ∀ (n : Nat) (t b : Int) (a r v : Pt), b.toNat = n → 0 ≤ b → b < t → X r v = b → X a v = t → ∀ x ∈ btw a r (hj t b), 0 ≤ X x v ∧ X x v ≤ t := by
  intro n
  induction n using Nat.strongRecOn with
  | ind n ih =>
    intro t b a r v hb h0 ht h3 h2 x hx
    unfold hj at hx
    by_cases h : 0 < b
    · rw [dif_pos h] at hx
      have nx := ZbZ (t := t) h
      generalize -((-t) / b) = k at *
      rw [btw] at hx
      rcases List.mem_cons.mp hx with z | z
      · rw [z, h3]; omega
      · have := ih (k * b - t).toNat (by omega) b (k * b - t) r (k * r.1 - a.1, k * r.2 - a.2) v rfl nx.1 nx.2 (by unfold X at *; simp only; grind) h3 x z
        omega
    · rw [dif_neg h, btw] at hx
      simp at hx
theorem Zqv {u : Pt} : ∀ (n : Nat) (t b : Int) (a r v : Pt), b.toNat = n → 0 ≤ b → b < t → X a r = 1 → X a v = t → X r v = b → Int.gcd v.1 v.2 = 1 → 0 ≤ X u a → X u a ≤ X u r → X u r ≤ X u v ∧ ∀ x ∈ btw a r (hj t b), 0 ≤ X u x ∧ X u x ≤ X u v := by
  intro n
  induction n using Nat.strongRecOn with
  | ind n ih =>
    intro t b a r v hb h0 ht h1 h2 h3 gv p1 p2
    unfold hj
    by_cases h : 0 < b
    · rw [dif_pos h]
      have nx := ZbZ (t := t) h
      have k2 := Ziq h ht
      generalize -((-t) / b) = k at *
      have e : X u (k * r.1 - a.1, k * r.2 - a.2) = k * X u r - X u a := by unfold X; simp only; grind
      have m : 2 * X u r ≤ k * X u r := Int.mul_le_mul_of_nonneg_right k2 (by omega)
      obtain ⟨q1, q2⟩ := ih (k * b - t).toNat (by omega) b (k * b - t) r (k * r.1 - a.1, k * r.2 - a.2) v rfl nx.1 nx.2 (by unfold X at *; simp only; grind) h3 (by unfold X at *; simp only; grind) gv (by omega) (by omega)
      refine ⟨by omega, fun x hx => ?_⟩
      rw [btw] at hx
      rcases List.mem_cons.mp hx with z | z
      · rw [z]; omega
      · exact q2 x z
    · rw [dif_neg h, btw]
      have b0 : b = 0 := by omega
      have e1 : v.1 = t * r.1 ∧ v.2 = t * r.2 := by unfold X at *; constructor <;> grind
      have gv' := gv
      rw [e1.1, e1.2, Int.gcd_mul_left] at gv'
      have t1 : t.natAbs = 1 := Nat.eq_one_of_mul_eq_one_right gv'
      have tt : t = 1 := by omega
      rw [tt] at e1
      have : v = r := by apply Prod.ext <;> omega
      rw [this]
      exact ⟨Int.le_refl _, fun x hx => by simp at hx⟩
end
end CB
end
section
set_option Elab.async false
set_option linter.all false
set_option maxRecDepth 100000
set_option maxHeartbeats 4000000
namespace CA
open PySem PySem.Spec L2 DL
noncomputable def ZdQ : Sv := (Zn (Zt (gNm 2) (eC (.int 0)))
  (Zn (sIf (tv (e2 dLt (Zd 1) (Zg bLen (Za (Zd 0) aNil)))) (Zt (gNm 2) (Zg bAbs (Za (e2 dIx (Zd 0) (Zd 1)) aNil))) sNil)
  (Zn (Zt (gNm 3) (e2 dAdd (eC (.int 1)) (e2 dMod (e2 dAdd (e2 dAdd (e2 dAdd (e2 dMod (Zd 2) (eC (.int 2147483647))) (e2 dMul (e2 dMul (eC (.int 7919)) (Zd 1)) (Zd 1))) (e2 dMul (eC (.int 11)) (Zd 1))) (eC (.int 5))) (eC (.int 2147483646)))))
  (ZF (Zag (Za (e2 dMul (Zd 2) (Zg bInt (Za (e2 dGe (Zd 2) (e2 dPow (eC (.int 10)) (eC (.int 18)))) aNil))) (Za (Zd 3) aNil)))))))
noncomputable def F_law_bag : List D → Sto → Out D := fnF ZdQ 2 2
noncomputable def ZcE : Sv := (Zn (sIf (tv (e2 dGt (e2 dIx (Zd 0) (eC (.int 0))) (eC (.int 0)))) (Zn (Zt (gNm 2) (e2 dMod (e2 dIx (Zd 0) (eC (.int 0))) (Zd 1)))
  (Zn (ZeK (Zd 0) (eC (.int 0)) (e2 dDiv (e2 dIx (Zd 0) (eC (.int 0))) (Zd 1)))
  (ZF (Zd 2)))) sNil)
  (Zn (ZeK (Zd 0) (eC (.int 1)) (e2 dMod (e2 dMul (e2 dIx (Zd 0) (eC (.int 1))) (eC (.int 48271))) (eC (.int 2147483647))))
  (ZF (e2 dMod (e2 dDiv (e2 dMod (e2 dMul (e2 dIx (Zd 0) (eC (.int 1))) (eC (.int 16807))) (eC (.int 2147483647))) (eC (.int 32))) (Zd 1)))))
noncomputable def F_law_digit : List D → Sto → Out D := fnF ZcE 2 1
noncomputable def Zc0 : Sv := (Zn (Zt (gTp (gCs (gNm 2) (gCs (gNm 3) gNl))) (Zd 0))
  (ZF (ZC (Za (e2 dAdd (e2 dMul (e2 dIx (Zd 2) (eC (.int 0))) (e2 dIx (Zd 1) (eC (.int 0)))) (e2 dMul (e2 dIx (Zd 2) (eC (.int 1))) (e2 dIx (Zd 1) (eC (.int 1))))) (Za (e2 dAdd (e2 dMul (e2 dIx (Zd 3) (eC (.int 0))) (e2 dIx (Zd 1) (eC (.int 0)))) (e2 dMul (e2 dIx (Zd 3) (eC (.int 1))) (e2 dIx (Zd 1) (eC (.int 1))))) aNil)))))
noncomputable def F_law_led : List D → Sto → Out D := fnF Zc0 2 2
noncomputable def Zcj : Sv := (Zn (Zt (gNm 2) (Zg F_law_led (Za (Zd 1) (Za (ZC (Za (e2 dIx (e2 dIx (Zd 0) (eC (.int 0))) (eC (.int 0))) (Za (e2 dIx (e2 dIx (Zd 0) (eC (.int 1))) (eC (.int 0))) aNil))) aNil))))
  (Zn (Zt (gNm 3) (Zg F_law_led (Za (Zd 1) (Za (ZC (Za (e2 dIx (e2 dIx (Zd 0) (eC (.int 0))) (eC (.int 1))) (Za (e2 dIx (e2 dIx (Zd 0) (eC (.int 1))) (eC (.int 1))) aNil))) aNil))))
  (ZF (ZC (Za (ZC (Za (e2 dIx (Zd 2) (eC (.int 0))) (Za (e2 dIx (Zd 3) (eC (.int 0))) aNil))) (Za (ZC (Za (e2 dIx (Zd 2) (eC (.int 1))) (Za (e2 dIx (Zd 3) (eC (.int 1))) aNil))) aNil))))))
noncomputable def F_law_both : List D → Sto → Out D := fnF Zcj 2 2
noncomputable def Zai : Sv := (Zn (Zt (gNm 3) (e2 dSub (Zg F_law_digit (Za (Zd 0) (Za (eC (.int 7)) aNil))) (eC (.int 3))))
  (Zn (Zt (gNm 4) (Zag (Za (ZC (Za (ZC (Za (eC (.int 1)) (Za (Zd 3) aNil))) (Za (ZC (Za (eC (.int 0)) (Za (eC (.int 1)) aNil))) aNil))) (Za (ZC (Za (ZC (Za (eC (.int 1)) (Za (eC (.int 0)) aNil))) (Za (ZC (Za (Zd 3) (Za (eC (.int 1)) aNil))) aNil))) (Za (ZC (Za (ZC (Za (eC (.int 0)) (Za (eC (.int 1)) aNil))) (Za (ZC (Za (eC (.int 1)) (Za (eC (.int 0)) aNil))) aNil))) (Za (ZC (Za (ZC (Za (eC (.int 0)) (Za (ZbC (eC (.int 1))) aNil))) (Za (ZC (Za (eC (.int 1)) (Za (eC (.int 0)) aNil))) aNil))) aNil))))))
  (Zt (gNm 1) (Zg F_law_both (Za (Zd 1) (Za (e2 dIx (Zd 4) (Zg F_law_digit (Za (Zd 0) (Za (eC (.int 4)) aNil)))) aNil))))))
noncomputable def Zbb : Sv := (Zn (Zt (gNm 1) (ZC (Za (ZC (Za (eC (.int 1)) (Za (eC (.int 0)) aNil))) (Za (ZC (Za (eC (.int 0)) (Za (eC (.int 1)) aNil))) aNil))))
  (Zn (Zax (gNm 2) (Za (Zg F_law_digit (Za (Zd 0) (Za (eC (.int 4)) aNil))) aNil) Zai)
  (ZF (Zd 1))))
noncomputable def F_law_turning : List D → Sto → Out D := fnF Zbb 1 4
noncomputable def Zbp : Sv := (ZF (e2 dSub (e2 dMul (e2 dIx (Zd 0) (eC (.int 0))) (e2 dIx (Zd 1) (eC (.int 1)))) (e2 dMul (e2 dIx (Zd 0) (eC (.int 1))) (e2 dIx (Zd 1) (eC (.int 0))))))
noncomputable def F_law_cross : List D → Sto → Out D := fnF Zbp 2 0
noncomputable def Zc1 : Sv := (ZF (ZC (Za (e2 dAdd (e2 dIx (Zd 0) (eC (.int 0))) (e2 dIx (Zd 1) (eC (.int 0)))) (Za (e2 dAdd (e2 dIx (Zd 0) (eC (.int 1))) (e2 dIx (Zd 1) (eC (.int 1)))) aNil))))
noncomputable def F_law_sum : List D → Sto → Out D := fnF Zc1 2 0
noncomputable def ZbJ : Sv := (ZF (ZbU (e2 dLe (Zg bAbs (Za (e2 dIx (Zd 0) (eC (.int 0))) aNil)) (eC (.int 200))) (e2 dLe (Zg bAbs (Za (e2 dIx (Zd 0) (eC (.int 1))) aNil)) (eC (.int 200)))))
noncomputable def F_law_near : List D → Sto → Out D := fnF ZbJ 1 0
noncomputable def Zbc : Sv := (Zn (Zt (gNm 3) (Zb6 (iSq (Zd 0)) 1 [1] (gNm 0) (fun _ M => .ok true M) (Zg F_law_led (Za (Zd 1) (Za (Zd 0) aNil)))))
  (Zn (sIf (ZaY (tv (Zg bAll (Za (Zb6 (iSq (Zd 3)) 1 [] (gNm 0) (fun _ M => .ok true M) (Zg F_law_near (Za (Zd 0) aNil))) aNil)))) (Zt (gNm 3) (Zg bList (Za (Zd 0) aNil))) (sIf (tv (e2 dLt (Zg F_law_cross (Za (e2 dIx (Zd 3) (eC (.int 0))) (Za (e2 dIx (Zd 3) (eC (.int 1))) aNil))) (eC (.int 0)))) (Zt (gNm 3) (eRv (Zd 3))) sNil))
  (ZF (e2 dAdd (eSl (Zd 3) (oSo (Zd 2)) oNo) (eSl (Zd 3) oNo (oSo (Zd 2)))))))
noncomputable def F_law_brought : List D → Sto → Out D := fnF Zbc 3 1
noncomputable def ZO : Sv := (Zn (Zt (gNm 4) (Zg F_law_digit (Za (Zd 0) (Za (Zg bLen (Za (Zd 2) aNil)) aNil))))
  (Zn (Zt (gNm 5) (Zg F_law_sum (Za (e2 dIx (Zd 2) (Zd 4)) (Za (e2 dIx (Zd 2) (e2 dMod (e2 dAdd (Zd 4) (eC (.int 1))) (Zg bLen (Za (Zd 2) aNil)))) aNil))))
  (sIf (ZbF (tv (Zg F_law_near (Za (Zd 5) aNil))) (tv (e2 dLt (Zg bLen (Za (Zd 2) aNil)) (eC (.int 14))))) (Zt (gNm 2) (e2 dAdd (e2 dAdd (eSl (Zd 2) oNo (oSo (e2 dAdd (Zd 4) (eC (.int 1))))) (Zag (Za (Zd 5) aNil))) (eSl (Zd 2) (oSo (e2 dAdd (Zd 4) (eC (.int 1)))) oNo))) sNil)))
noncomputable def Z9 : Sv := (Zn (Zt (gNm 1) (Zg F_law_digit (Za (Zd 0) (Za (e2 dIx (Zag (Za (eC (.int 4)) (Za (eC (.int 4)) (Za (eC (.int 4)) (Za (eC (.int 4)) (Za (eC (.int 4)) (Za (eC (.int 4)) (Za (eC (.int 12)) (Za (eC (.int 201)) aNil))))))))) (Zg F_law_digit (Za (Zd 0) (Za (eC (.int 8)) aNil)))) aNil))))
  (Zn (Zt (gNm 2) (e2 dIx (Zag (Za (Zag (Za (ZC (Za (eC (.int 1)) (Za (eC (.int 0)) aNil))) (Za (ZC (Za (eC (.int 0)) (Za (eC (.int 1)) aNil))) (Za (ZC (Za (ZbC (eC (.int 1))) (Za (ZbC (eC (.int 1))) aNil))) aNil)))) (Za (Zag (Za (ZC (Za (eC (.int 1)) (Za (eC (.int 0)) aNil))) (Za (ZC (Za (eC (.int 0)) (Za (eC (.int 1)) aNil))) (Za (ZC (Za (ZbC (eC (.int 1))) (Za (Zd 1) aNil))) (Za (ZC (Za (eC (.int 0)) (Za (ZbC (eC (.int 1))) aNil))) aNil))))) aNil))) (Zg F_law_digit (Za (Zd 0) (Za (eC (.int 2)) aNil)))))
  (Zn (Zax (gNm 3) (Za (Zg F_law_digit (Za (Zd 0) (Za (e2 dIx (Zag (Za (eC (.int 5)) (Za (eC (.int 5)) (Za (eC (.int 12)) (Za (eC (.int 5)) aNil))))) (Zg F_law_digit (Za (Zd 0) (Za (eC (.int 4)) aNil)))) aNil))) aNil) ZO)
  (Zn (Zt (gNm 6) (Zg F_law_digit (Za (Zd 0) (Za (Zg bLen (Za (Zd 2) aNil)) aNil))))
  (ZF (Zg F_law_brought (Za (Zd 2) (Za (Zg F_law_turning (Za (Zd 0) aNil)) (Za (Zd 6) aNil)))))))))
noncomputable def F_law_smooth : List D → Sto → Out D := fnF Z9 1 6
end CA
end
section
set_option Elab.async false
set_option linter.all false
set_option maxRecDepth 100000
set_option maxHeartbeats 4000000
namespace CA
open PySem PySem.Spec L2 DL
theorem Zdd : F_law_digit = FDigit := rfl
theorem ZlD : F_law_bag = FBag := rfl
theorem ZfT : F_law_cross = CC.F_law_cross := rfl
noncomputable abbrev mt (a b c d : Int) : D := .tup [pr a b, pr c d]
structure Tn (B a b c d : Int) : Prop where
  fa : -B ≤ a ∧ a ≤ B
  fb : -B ≤ b ∧ b ≤ B
  fc : -B ≤ c ∧ c ≤ B
  fd : -B ≤ d ∧ d ≤ B
  det : a * d - b * c = 1 ∨ a * d - b * c = -1
theorem Zkh {B C x y : Int} (hx : -B ≤ x ∧ x ≤ B) (hy : -C ≤ y ∧ y ≤ C) : -(B * C) ≤ x * y ∧ x * y ≤ B * C := by
  have h : (x * y).natAbs ≤ (B * C).natAbs := by
    rw [Int.natAbs_mul, Int.natAbs_mul]
    exact Nat.mul_le_mul (by omega) (by omega)
  have : 0 ≤ B * C := Int.mul_nonneg (by omega) (by omega)
  omega
section
variable {Q : D → Sto → Prop} {E : Str → Sto → Prop} {M : Sto} {a b c d i : Int} {n m : Nat} {rs : List Pt}
theorem Zqw {ns : List Int} {k : Nat} (hk : k < 1000) (q : ∀ a b : Int, 0 ≤ a → Q (.ref M.length) (M ++ [.lst [.int a, .int b]])) : wO (F_law_bag [.rol (ns.map D.int), .int k] M) Q E := by
  obtain ⟨a, b, h, e⟩ := ZmS (ns := ns) (k := k) (M := M) hk
  rw [ZlD, e]
  exact q a b h
theorem Zx {t : Int} (hb : Bag n M) (ht : 0 < t ∧ t < 18446744073709551616) (q : ∀ r M', 0 ≤ r → r < t → Gr n M M' → Q (.int r) M') : wO (F_law_digit [.ref n, .int t] M) Q E := by
  obtain ⟨r, M', e, r0, r1, g⟩ := Zgp hb ht.1 (Zdr ht)
  rw [Zdd, e]
  exact q r M' r0 r1 g
theorem Zoe {x y : Int} (h : Tn 1000000 a b c d) : wO (F_law_led [mt a b c d, pr x y] M) Q E = Q (pr (a * x + b * y) (c * x + d * y)) M := by
  obtain ⟨h1, h2, h3, h4, _⟩ := h
  simp! [F_law_led, Zc0]
theorem Zof {p q r s : Int} (h : Tn 1000000 p q r s) : wO (F_law_both [mt a b c d, mt p q r s] M) Q E = Q (mt (p * a + q * c) (p * b + q * d) (r * a + s * c) (r * b + s * d)) M := by
  simp! [F_law_both, Zcj, Zoe h]
theorem ZlE {B p q r s : Int} (h : Tn B a b c d) (k : Tn 3 p q r s) : Tn (6 * B) (p * a + q * c) (p * b + q * d) (r * a + s * c) (r * b + s * d) := by
  refine ⟨?_, ?_, ?_, ?_, ?_⟩
  · have := Zkh k.fa h.fa; have := Zkh k.fb h.fc; omega
  · have := Zkh k.fa h.fb; have := Zkh k.fb h.fd; omega
  · have := Zkh k.fc h.fa; have := Zkh k.fd h.fc; omega
  · have := Zkh k.fc h.fb; have := Zkh k.fd h.fd; omega
  · have : (p * a + q * c) * (r * b + s * d) - (p * b + q * d) * (r * a + s * c) = (p * s - q * r) * (a * d - b * c) := by grind
    rw [this]
    rcases h.det with e | e <;> rcases k.det with e' | e' <;> rw [e, e'] <;> decide
theorem Tn.mono {B B' : Int} (h : Tn B a b c d) (hb : B ≤ B') : Tn B' a b c d := by
  obtain ⟨h1, h2, h3, h4, h5⟩ := h
  exact ⟨by omega, by omega, by omega, by omega, h5⟩
theorem Ziu (hb : Bag n M) (q : ∀ a b c d M', Tn 216 a b c d → Gr n M M' → Q (mt a b c d) M') : wO (F_law_turning [.ref n] M) Q E := by
  simp! [F_law_turning, Zbb]
  refine Zx hb (by decide) fun r M1 r0 r1 g1 => ?_
  simp! [Zl]
  refine ⟨by omega, ?_⟩
  refine ZcS (fun i ρ M' => ∃ a b c d x y z, ρ = [some (.ref n), some (mt a b c d), x, y, z] ∧ Tn (6 ^ i) a b c d ∧ Gr n M M') ⟨1, 0, 0, 1, _, _, _, rfl, ⟨by decide, by decide, by decide, by decide, .inl (by decide)⟩, g1⟩ ?_ ?_
  · rintro i ρ M2 hi ⟨a, b, c, d, x, y, z, rfl, tn, gr⟩
    simp! [Zai]
    refine Zx gr.bag (by decide) fun s M3 s0 s1 g3 => ?_
    simp! [Zl]
    refine Zx (g3.bag.app _) (by decide) fun k M4 k0 k1 g4 => ?_
    have hL := Gr.new g3.bag g4
    obtain ⟨p, q', r', s', ht, tk⟩ : ∃ p q r' s', atI [mt 1 (s - 3) 0 1, mt 1 0 (s - 3) 1, mt 0 1 1 0, mt 0 (-1) 1 0] k = some (mt p q r' s') ∧ Tn 3 p q r' s' := by
      have : k = 0 ∨ k = 1 ∨ k = 2 ∨ k = 3 := by omega
      rcases this with rfl | rfl | rfl | rfl
      · exact ⟨1, s - 3, 0, 1, rfl, ⟨by decide, by omega, by decide, by decide, .inl (by grind)⟩⟩
      · exact ⟨1, 0, s - 3, 1, rfl, ⟨by decide, by decide, by omega, by decide, .inl (by grind)⟩⟩
      · exact ⟨0, 1, 1, 0, rfl, ⟨by decide, by decide, by decide, by decide, .inr (by decide)⟩⟩
      · exact ⟨0, -1, 1, 0, rfl, ⟨by decide, by decide, by decide, by decide, .inl (by decide)⟩⟩
    simp! [hL, ht, Zof (tk.mono (by decide))]
    have bt := ZlE tn tk
    rw [show (6 : Int) * 6 ^ i = 6 ^ (i + 1) by rw [Int.pow_succ, Int.mul_comm]] at bt
    exact ⟨_, _, _, _, _, _, _, rfl, bt, (gr.trans g3).trans ((Gr.app g3.bag _).trans g4)⟩
  · rintro ρ M2 ⟨a, b, c, d, x, y, z, rfl, tn, gr⟩
    simp! [Zl]
    refine q a b c d M2 (tn.mono ?_) gr
    have : r.toNat = 0 ∨ r.toNat = 1 ∨ r.toNat = 2 ∨ r.toNat = 3 := by omega
    rcases this with e | e | e | e <;> rw [e] <;> decide
theorem Ziv {x y : Int} : wO (F_law_near [pr x y] M) Q E = Q (.bl (decide ((-200 ≤ x ∧ x ≤ 200) ∧ -200 ≤ y ∧ y ≤ 200))) M := by
  by_cases h1 : -200 ≤ x ∧ x ≤ 200
  · simp! [F_law_near, ZbJ]
    congr 2
    rw [Bool.eq_iff_iff]
    simp only [decide_eq_true_eq]
    omega
  · simp! [F_law_near, ZbJ]
theorem Ziw (bs : List Bool) : ZaD (bs.map D.bl) = some bs := by
  induction bs with
  | nil => rfl
  | cons b r ih =>
    show (match ZaD (r.map D.bl) with | some bs => some (b :: bs) | none => none) = _
    rw [ih]
theorem Zki (h : rs ≠ []) (i : Int) : cy rs.reverse i = cy rs (-1 - i) := by
  have hl : rs.length ≠ 0 := by simpa using h
  have e1 : cy rs.reverse i = cy rs.reverse (i % rs.length) := by
    conv => rhs; rw [← List.length_reverse (as := rs), ZcT]
  have e2 : cy rs (-1 - i) = cy rs (-1 - i % rs.length) := by
    unfold cy
    congr 2
    rw [Int.sub_emod, Int.sub_emod (-1) (i % rs.length), Int.emod_emod_of_dvd _ (Int.dvd_refl _)]
  rw [e1, e2]
  obtain ⟨a, b⟩ := Z8 (i := i) hl
  generalize i % (rs.length : Int) = m at *
  rw [ZbI (by rw [List.length_reverse]; omega), ← ZcU (rs := rs), ZbI (by omega)]
  rw [List.getD_eq_getElem?_getD, List.getD_eq_getElem?_getD, List.getElem?_reverse (by omega)]
  congr 2
  omega
theorem ZlF (hl : 3 ≤ rs.length) (h : ∀ i : Int, X (cy rs i) (cy rs (i + 1)) = -1) (hf : Fan rs.reverse) : Smo rs.reverse := by
  have ne : rs ≠ [] := by intro z; rw [z] at hl; simp at hl
  refine ⟨by rw [List.length_reverse]; exact hl, fun i => ?_, hf⟩
  rw [Zki ne, Zki ne, Zkf]
  have := h (-1 - (i + 1))
  rw [show -1 - (i + 1) + 1 = -1 - i by omega] at this
  omega
theorem ZlG : (prs rs).reverse = prs rs.reverse := by simp [prs]
theorem Zix {st : Int} (h : M[n]? = some (.lst (prs rs))) (hs : Smo rs) (hb : Nr 200 rs) (hl : rs.length ≤ 1000) (ht : Tn 1000000 a b c d) (hst : 0 ≤ st ∧ st ≤ rs.length)
    (q : ∀ ss m M', Smo ss → Nr 200 ss → ss.length = rs.length → M.length ≤ m → M'[m]? = some (.lst (prs ss)) → M.length ≤ M'.length → (∀ k, k < M.length → M'[k]? = M[k]?) → Q (.ref m) M') : wO (F_law_brought [.ref n, mt a b c d, .int st] M) Q E := by
  have hn := Zy h
  have h3 := hs.len
  simp! [F_law_brought, Zbc]
  refine ZoT (fun ρ => ∃ x, ρ = [x, some (mt a b c d)]) (fun (i : Nat) => pr (a * (cy rs i).1 + b * (cy rs i).2) (c * (cy rs i).1 + d * (cy rs i).2)) h (by rw [ZJ]; omega) ⟨_, rfl⟩ ?_ ?_
  · rintro i hi ρ L ⟨x, rfl⟩
    rw [CC.ZcD]
    simp! [Zoe ht]
    exact ⟨_, rfl⟩
  rw [Zjw, ZJ]
  generalize hT : ((List.range rs.length).map fun (i : Nat) => (a * (cy rs i).1 + b * (cy rs i).2, c * (cy rs i).1 + d * (cy rs i).2)) = ts
  have eT : ts = rs.map fun p => (a * p.1 + b * p.2, c * p.1 + d * p.2) := by
    rw [← hT]
    apply List.ext_getElem
    · simp
    · intro i h1 h2
      simp at h1
      simp [ZdL h1]
  have tl : ts.length = rs.length := by rw [eT]; simp
  have tX : ∀ i : Int, X (cy ts i) (cy ts (i + 1)) = a * d - b * c := by
    intro i
    rw [eT, Zd9 hs.ne, Zd9 hs.ne]
    have := hs.one i
    have e : X (a * (cy rs i).1 + b * (cy rs i).2, c * (cy rs i).1 + d * (cy rs i).2) (a * (cy rs (i + 1)).1 + b * (cy rs (i + 1)).2, c * (cy rs (i + 1)).1 + d * (cy rs (i + 1)).2) = (a * d - b * c) * X (cy rs i) (cy rs (i + 1)) := by unfold X; simp only; grind
    rw [e, this, Int.mul_one]
  have lX : ∀ p q : Pt, X (a * p.1 + b * p.2, c * p.1 + d * p.2) (a * q.1 + b * q.2, c * q.1 + d * q.2) = (a * d - b * c) * X p q := by
    intro p q; unfold X; simp only; grind
  have tne : ts ≠ [] := by intro z; rw [z] at tl; simp at tl; omega
  have k1 : (M ++ [SO.lst (prs ts)])[M.length]? = some (.lst (prs ts)) := by simp
  have k2 : (M ++ [SO.lst (prs ts)])[n]? = some (.lst (prs rs)) := by rw [ZaF hn]; exact h
  have l1 : (M ++ [SO.lst (prs ts)]).length = M.length + 1 := by simp
  have g1 : ∀ k, k < M.length → (M ++ [SO.lst (prs ts)])[k]? = M[k]? := fun k hk => ZaF hk
  generalize M ++ [SO.lst (prs ts)] = M1 at *
  simp! [Zl]
  refine ZoT (fun ρ => ∃ x, ρ = [x]) (fun (i : Nat) => .bl (decide ((-200 ≤ (cy ts i).1 ∧ (cy ts i).1 ≤ 200) ∧ -200 ≤ (cy ts i).2 ∧ (cy ts i).2 ≤ 200))) k1 (by rw [ZJ]; omega) ⟨_, rfl⟩ ?_ ?_
  · rintro i hi ρ L ⟨x, rfl⟩
    rw [CC.ZcD]
    simp! [Ziv]
    exact ⟨_, rfl⟩
  have eB : (List.range (prs ts).length).map (fun (i : Nat) => D.bl (decide ((-200 ≤ (cy ts i).1 ∧ (cy ts i).1 ≤ 200) ∧ -200 ≤ (cy ts i).2 ∧ (cy ts i).2 ≤ 200))) = ((List.range ts.length).map fun (i : Nat) => decide ((-200 ≤ (cy ts i).1 ∧ (cy ts i).1 ≤ 200) ∧ -200 ≤ (cy ts i).2 ∧ (cy ts i).2 ≤ 200)).map D.bl := by
    rw [List.map_map, ZJ]
    rfl
  rw [eB]
  generalize hbs : ((List.range ts.length).map fun (i : Nat) => decide ((-200 ≤ (cy ts i).1 ∧ (cy ts i).1 ≤ 200) ∧ -200 ≤ (cy ts i).2 ∧ (cy ts i).2 ≤ 200)) = bs
  have nr : bs.all id = true → Nr 200 ts := by
    intro hall p hp
    obtain ⟨k, hk, rfl⟩ := List.getElem_of_mem hp
    have := List.all_eq_true.mp hall (decide ((-200 ≤ (cy ts k).1 ∧ (cy ts k).1 ≤ 200) ∧ -200 ≤ (cy ts k).2 ∧ (cy ts k).2 ≤ 200)) (by
      rw [← hbs]
      exact List.mem_map.mpr ⟨k, List.mem_range.mpr hk, rfl⟩)
    have := of_decide_eq_true this
    rw [ZdL hk] at this
    exact this
  simp! [Ziw]
  refine Zka (fun ρ M' => ∃ ss m, ρ = [some (.ref n), some (mt a b c d), some (.int st), some (.ref m)] ∧ Smo ss ∧ Nr 200 ss ∧ ss.length = rs.length ∧ M'[m]? = some (.lst (prs ss)) ∧ M1.length ≤ M'.length ∧ (∀ k, k < M1.length → M'[k]? = M1[k]?)) ?_ ?_
  · generalize hall : bs.all id = al at *
    refine Zj9 (fun h => ?_) (fun h => ?_)
    · simp! [k2]
      exact ⟨rs, _, rfl, hs, hb, rfl, by rw [ZfA]; rfl, by omega, fun k hk => by rw [ZaF hk]⟩
    · have al1 : al = true := by simpa using h
      have N := nr al1
      have b0 := Nr.cy N tne 0
      simp! [k1, Zce, ZfT, CC.Zer]
      have t0 := tX 0
      rw [show (0 : Int) + 1 = 1 by omega] at t0
      refine brS (fun z => ?_) (fun z => ?_)
      · simp! [k1]
        have dm : a * d - b * c = -1 := by
          rcases ht.det with e | e
          · unfold X at t0; omega
          · exact e
        refine ⟨ts.reverse, _, rfl, ZlF (by omega) (fun i => by rw [tX i, dm]) (by rw [eT]; exact hs.fan.flip (f := fun p => (a * p.1 + b * p.2, c * p.1 + d * p.2)) fun p q => by rw [lX, dm]), fun p hp => N p (by simpa using hp), by rw [List.length_reverse]; exact tl, by rw [ZfA, ZlG]; rfl, by omega, fun k hk => by rw [ZaF hk]⟩
      · simp! [Zl]
        have dm : a * d - b * c = 1 := by
          rcases ht.det with e | e
          · exact e
          · unfold X at t0; omega
        exact ⟨ts, _, rfl, ⟨by omega, fun i => by rw [tX i, dm], by rw [eT]; exact hs.fan.map (f := fun p => (a * p.1 + b * p.2, c * p.1 + d * p.2)) fun p q => by rw [lX, dm, Int.one_mul]⟩, N, tl, by rw [ZaF (by omega)]; exact k1, by omega, fun k hk => by rw [ZaF hk]⟩
  · rintro _ M2 ⟨ss, m, rfl, s1, s2, s3, s4, s5, s6⟩
    have hm := Zy s4
    simp! [s4]
    refine ⟨by rw [List.length_take, List.length_drop]; omega, ?_⟩
    refine q (ss.drop st.toNat ++ ss.take st.toNat) _ _ (s1.rot (by omega)) (Nr.rot s2) (by rw [List.length_append, List.length_take, List.length_drop]; omega) (by omega) (by rw [ZfA]; rfl) (by rw [List.length_append]; omega) (fun k hk => ?_)
    rw [ZaF (by omega), s6 k (by omega), g1 k hk]
theorem Zog {x y z w : Int} : wO (F_law_sum [pr x y, pr z w] M) Q E = Q (pr (x + z) (y + w)) M := by
  simp! [F_law_sum, Zc1]
theorem Gr.up {k : Nat} {M M1 : Sto} {o : SO} (h : M[k]? = some o) (g : Gr n M M1) (hk : k ≠ n) : M1[k]? = some o := by
  rw [g.keep k hk (Zy h)]
  exact h
theorem Zes (hb : Bag n M) (q : ∀ ss m M', Smo ss → Nr 200 ss → ss.length ≤ 14 → M.length ≤ m → M'[m]? = some (.lst (prs ss)) → Gr n M M' → Q (.ref m) M') : wO (F_law_smooth [.ref n] M) Q E := by
  have hn := hb.lt
  simp! [F_law_smooth, Z9]
  refine Zx (hb.app _) (by decide) fun r M1 r0 r1 g1 => ?_
  have k1 := Gr.new hb g1
  simp! [k1]
  obtain ⟨sz, hs, z0, z1⟩ : ∃ f : Int, atI [D.int 4, D.int 4, D.int 4, D.int 4, D.int 4, D.int 4, D.int 12, D.int 201] r = some (.int f) ∧ 1 ≤ f ∧ f ≤ 201 := by
    have : r = 0 ∨ r = 1 ∨ r = 2 ∨ r = 3 ∨ r = 4 ∨ r = 5 ∨ r = 6 ∨ r = 7 := by omega
    rcases this with rfl | rfl | rfl | rfl | rfl | rfl | rfl | rfl
    · exact ⟨4, rfl, by decide, by decide⟩
    · exact ⟨4, rfl, by decide, by decide⟩
    · exact ⟨4, rfl, by decide, by decide⟩
    · exact ⟨4, rfl, by decide, by decide⟩
    · exact ⟨4, rfl, by decide, by decide⟩
    · exact ⟨4, rfl, by decide, by decide⟩
    · exact ⟨12, rfl, by decide, by decide⟩
    · exact ⟨201, rfl, by decide, by decide⟩
  simp! [hs]
  refine Zx g1.bag (by omega) fun f M2 f0 f1 g2 => ?_
  simp! [Zl]
  have gr2 : Gr n M M2 := ((Gr.app hb _).trans g1).trans g2
  have h2 := gr2.bag
  have hn2 := h2.lt
  refine Zx (h2.app _) (by decide) fun c M3 c0 c1 g3 => ?_
  have e0 : M3[M2.length]? = some (.lst [pr 1 0, pr 0 1, pr (-1) (-1)]) := by rw [g3.keep _ (by omega) (by simp), Zd0]; rfl
  have e1 : M3[M2.length + 1]? = some (.lst [pr 1 0, pr 0 1, pr (-1) f, pr 0 (-1)]) := by rw [g3.keep _ (by omega) (by simp), ZfA]; rfl
  have e2 : M3[M2.length + 2]? = some (.lst [.ref M2.length, .ref (M2.length + 1)]) := by rw [g3.keep _ (by omega) (by simp), ZfA]; rfl
  have gr3 : Gr n M M3 := gr2.trans ((Gr.app h2 _).trans g3)
  have ml := gr2.len
  obtain ⟨m, ss, hm, hm0, s1, s2, s3, s4⟩ : ∃ m ss, atI [D.ref M2.length, D.ref (M2.length + 1)] c = some (.ref m) ∧ (m ≠ n ∧ M.length ≤ m) ∧ Smo ss ∧ Nr 200 ss ∧ ss.length ≤ 4 ∧ M3[m]? = some (.lst (prs ss)) := by
    have : c = 0 ∨ c = 1 := by omega
    rcases this with rfl | rfl
    · refine ⟨M2.length, [(1, 0), (0, 1), (-1, -1)], rfl, by omega, CC.Zly, ?_, by simp, e0⟩
      intro p hp
      simp at hp
      rcases hp with rfl | rfl | rfl <;> simp
    · refine ⟨M2.length + 1, [(1, 0), (0, 1), (-1, f), (0, -1)], rfl, by omega, CC.ZrK f, ?_, by simp, e1⟩
      intro p hp
      simp at hp
      rcases hp with rfl | rfl | rfl | rfl <;> simp <;> omega
  simp! [e2, hm]
  have h3 := gr3.bag
  have hn3 := h3.lt
  refine Zx (h3.app _) (by decide) fun k M4 k0 k1' g4 => ?_
  have k4 := Gr.new h3 g4
  obtain ⟨tm, ht, t0, t1⟩ : ∃ f : Int, atI [D.int 5, D.int 5, D.int 12, D.int 5] k = some (.int f) ∧ 1 ≤ f ∧ f ≤ 12 := by
    have : k = 0 ∨ k = 1 ∨ k = 2 ∨ k = 3 := by omega
    rcases this with rfl | rfl | rfl | rfl
    · exact ⟨5, rfl, by decide, by decide⟩
    · exact ⟨5, rfl, by decide, by decide⟩
    · exact ⟨12, rfl, by decide, by decide⟩
    · exact ⟨5, rfl, by decide, by decide⟩
  simp! [k4, ht]
  have gr4 : Gr n M M4 := gr3.trans ((Gr.app h3 _).trans g4)
  have a4 : M4[m]? = some (.lst (prs ss)) := by rw [g4.keep _ hm0.1 (by have := Zy s4; simp; omega), ZaF (Zy s4)]; exact s4
  refine Zx gr4.bag (by omega) fun lp M5 lp0 lp1 g5 => ?_
  simp! [Zl]
  refine ⟨by omega, ?_⟩
  refine ZcS (fun i ρ M' => ∃ ss m x1 x3 x4 x5 x6, ρ = [some (.ref n), x1, some (.ref m), x3, x4, x5, x6] ∧ (m ≠ n ∧ M.length ≤ m) ∧ Smo ss ∧ Nr 200 ss ∧ ss.length ≤ 14 ∧ M'[m]? = some (.lst (prs ss)) ∧ Gr n M M') ⟨ss, m, _, _, _, _, _, rfl, hm0, s1, s2, by omega, Gr.up a4 g5 hm0.1, gr4.trans g5⟩ ?_ ?_
  · rintro i ρ M6 hi ⟨ss, m, x1, x3, x4, x5, x6, rfl, m0, s1, s2, s3, s4, gr⟩
    have sl := s1.len
    simp! [ZO, s4]
    refine Zx gr.bag (by omega) fun av M7 a0 a1 g7 => ?_
    have b4 := Gr.up s4 g7 m0.1
    have hb4 := Zy b4
    have gr7 := gr.trans g7
    have hn7 := gr7.bag.lt
    obtain ⟨av, rfl⟩ : ∃ k : Nat, av = k := ⟨av.toNat, by omega⟩
    have e1 := Z8 (i := (av : Int) + 1) (m := ss.length) (by omega)
    simp! [b4, Zce, ZcT, Zog, Ziv]
    have sm := s1.ins (k := av) (by omega)
    have nr := fun h => Nr.ins (k := av) (p := ((cy ss av).1 + (cy ss (av + 1)).1, (cy ss av).2 + (cy ss (av + 1)).2)) s2 h
    generalize (cy ss av).1 + (cy ss (av + 1)).1 = x at *
    generalize (cy ss av).2 + (cy ss (av + 1)).2 = y at *
    refine Zlu (fun k M' => M' = M7 ∧ (k = true → ((-200 ≤ x ∧ x ≤ 200) ∧ -200 ≤ y ∧ y ≤ 200) ∧ ss.length < 14)) ?_ ?_
    · refine brO (fun h => ?_) (fun h => ?_)
      · simp! [b4]
        exact fun z => ⟨h, by have := of_decide_eq_true z; omega⟩
      · simp! [Zl]
        exact fun z => by cases z
    rintro k M7 ⟨rfl, hk⟩
    simp! [Zl]
    refine Zj9 (fun h => ?_) (fun h => ?_)
    · have le : ((av : Int) + 1).toNat = av + 1 := by omega
      obtain ⟨hk1, hk2⟩ := hk h
      simp! [b4, le]
      refine ⟨by rw [List.length_take]; omega, by rw [List.length_take, List.length_drop]; omega, ins ss av (x, y), _, _, _, _, _, _, rfl, by have := gr7.len; omega, sm, nr hk1, by rw [ZcA (by omega)]; omega, by rw [ZfA]; rfl, gr7.app2 _⟩
    · simp! [Zl]
      exact ⟨ss, m, _, _, _, _, _, rfl, m0, s1, s2, s3, b4, gr7⟩
  · rintro ρ M6 ⟨ss, m, x1, x3, x4, x5, x6, rfl, m0, s1, s2, s3, s4, gr⟩
    have sl := s1.len
    simp! [s4]
    refine Zx gr.bag (by omega) fun st M7 st0 st1 g7 => ?_
    have b4 := Gr.up s4 g7 m0.1
    simp! [Zl]
    refine Ziu (gr.trans g7).bag fun a b c d M8 tn g8 => ?_
    have c4 := Gr.up b4 g8 m0.1
    have gr8 := (gr.trans g7).trans g8
    simp! [Zl]
    refine Zix c4 s1 s2 (by omega) (tn.mono (by decide)) (by omega) fun tt m' M9 t1 t2 t3 t4 t5 t6 t7 => ?_
    refine q tt m' M9 t1 t2 (by omega) (by have := gr8.len; omega) t5 ⟨by have := gr8.len; omega, ?_, fun k hk hkl => by rw [t7 k (by have := gr8.len; omega)]; exact gr8.keep k hk hkl⟩
    obtain ⟨x, y, x0, hx⟩ := gr8.bag
    exact ⟨x, y, x0, by rw [t7 n gr8.bag.lt]; exact hx⟩
end
end CA
end
section
set_option Elab.async false
set_option linter.all false
set_option maxRecDepth 100000
set_option maxHeartbeats 4000000
namespace CY
open PySem PySem.Spec L2 DL CA
noncomputable def Zac : Sv := (Zb5 1 2 (Za (Zd 2) (Za (e2 dMod (Zd 1) (Zd 2)) aNil)))
noncomputable def ZaT : Sv := (Zn (Zb5 1 2 (Za (Zg bAbs (Za (e2 dIx (Zd 0) (eC (.int 0))) aNil)) (Za (Zg bAbs (Za (e2 dIx (Zd 0) (eC (.int 1))) aNil)) aNil)))
  (Zn (sWh (tv (e2 dGt (Zd 2) (eC (.int 0)))) Zac)
  (ZF (ZC (Za (e2 dDiv (e2 dIx (Zd 0) (eC (.int 0))) (Zd 1)) (Za (e2 dDiv (e2 dIx (Zd 0) (eC (.int 1))) (Zd 1)) aNil))))))
noncomputable def F_law_straight : List D → Sto → Out D := fnF ZaT 1 2
noncomputable def Za1 : Sv := (Zn (Zt (gNm 3) (e2 dIx (Zd 0) (e2 dMod (e2 dAdd (Zd 2) (eC (.int 1))) (Zg bLen (Za (Zd 0) aNil)))))
  (sIf (ZbF (tv (e2 dGt (Zg F_law_cross (Za (e2 dIx (Zd 0) (Zd 2)) (Za (Zd 1) aNil))) (eC (.int 0)))) (tv (e2 dGt (Zg F_law_cross (Za (Zd 1) (Za (Zd 3) aNil))) (eC (.int 0))))) (ZF (e2 dAdd (e2 dAdd (eSl (Zd 0) oNo (oSo (e2 dAdd (Zd 2) (eC (.int 1))))) (Zag (Za (Zd 1) aNil))) (eSl (Zd 0) (oSo (e2 dAdd (Zd 2) (eC (.int 1)))) oNo))) sNil))
noncomputable def Zcf : Sv := (Zn (Zax (gNm 2) (Za (Zg bLen (Za (Zd 0) aNil)) aNil) Za1)
  (ZF (Zd 0)))
noncomputable def F_law_put : List D → Sto → Out D := fnF Zcf 2 2
noncomputable def Za2 : Sv := (Zn (Zt (gNm 4) (e2 dSub (Zg F_law_digit (Za (Zd 0) (Za (Zd 2) aNil))) (e2 dDiv (Zd 2) (eC (.int 2)))))
  (Zn (Zt (gNm 5) (e2 dSub (Zg F_law_digit (Za (Zd 0) (Za (Zd 2) aNil))) (e2 dDiv (Zd 2) (eC (.int 2)))))
  (sIf (ZbF (tv (e2 dNe (ZC (Za (Zd 4) (Za (Zd 5) aNil))) (ZC (Za (eC (.int 0)) (Za (eC (.int 0)) aNil))))) (tv (e2 dLt (Zg bLen (Za (Zd 1) aNil)) (eC (.int 14))))) (Zt (gNm 1) (Zg F_law_put (Za (Zd 1) (Za (Zg F_law_straight (Za (ZC (Za (Zd 4) (Za (Zd 5) aNil))) aNil)) aNil)))) sNil)))
noncomputable def Za3 : Sv := (Zn (Zt (gNm 6) (Zg F_law_digit (Za (Zd 0) (Za (Zg bLen (Za (Zd 1) aNil)) aNil))))
  (sIf (ZbF (tv (e2 dGt (Zg bLen (Za (Zd 1) aNil)) (eC (.int 3)))) (tv (e2 dGt (Zg F_law_cross (Za (e2 dIx (Zd 1) (e2 dSub (Zd 6) (eC (.int 1)))) (Za (e2 dIx (Zd 1) (e2 dMod (e2 dAdd (Zd 6) (eC (.int 1))) (Zg bLen (Za (Zd 1) aNil)))) aNil))) (eC (.int 0))))) (Zt (gNm 1) (e2 dAdd (eSl (Zd 1) oNo (oSo (Zd 6))) (eSl (Zd 1) (oSo (e2 dAdd (Zd 6) (eC (.int 1)))) oNo))) sNil))
noncomputable def Zcg : Sv := (Zn (Zt (gNm 1) (Zg F_law_smooth (Za (Zd 0) aNil)))
  (Zn (Zt (gNm 2) (e2 dIx (Zag (Za (eC (.int 7)) (Za (eC (.int 7)) (Za (eC (.int 7)) (Za (eC (.int 41)) (Za (eC (.int 401)) (Za (eC (.int 7)) (Za (eC (.int 7)) (Za (eC (.int 41)) aNil))))))))) (Zg F_law_digit (Za (Zd 0) (Za (eC (.int 8)) aNil)))))
  (Zn (Zax (gNm 3) (Za (Zg F_law_digit (Za (Zd 0) (Za (eC (.int 6)) aNil))) aNil) Za2)
  (Zn (Zax (gNm 3) (Za (Zg F_law_digit (Za (Zd 0) (Za (eC (.int 6)) aNil))) aNil) Za3)
  (ZF (Zd 1))))))
noncomputable def F_law_any : List D → Sto → Out D := fnF Zcg 1 6
end CY
end
section
set_option Elab.async false
set_option linter.all false
set_option maxRecDepth 100000
set_option maxHeartbeats 4000000
namespace CY
open PySem PySem.Spec L2 DL
section
variable {Q : D → Sto → Prop} {E : Str → Sto → Prop} {M : Sto} {n m : Nat} {rs : List Pt}
theorem ZgZ {x y : Int} (h0 : (x, y) ≠ (0, 0)) (hx : -200 ≤ x ∧ x ≤ 200) (hy : -200 ≤ y ∧ y ≤ 200) (q : ∀ w : Pt, Int.gcd w.1 w.2 = 1 → ((-200 ≤ w.1 ∧ w.1 ≤ 200) ∧ -200 ≤ w.2 ∧ w.2 ≤ 200) → Q (pr w.1 w.2) M) : wO (F_law_straight [pr x y] M) Q E := by
  simp! [F_law_straight, ZaT]
  refine Zjy (fun k ρ M' => M' = M ∧ ∃ a b : Nat, ρ = [some (pr x y), some (.int a), some (.int b)] ∧ k = b ∧ Nat.gcd a b = Int.gcd x y ∧ a ≤ 1000 ∧ b ≤ 1000) ?_ y.natAbs _ _ ⟨rfl, x.natAbs, y.natAbs, rfl, rfl, rfl, by omega, by omega⟩
  rintro k ρ M ⟨rfl, a, b, rfl, rfl, g, ha, hk'⟩
  simp! [Zl]
  refine Zn5 (fun h => ?_) (fun h => ?_)
  · simp! [Zac]
    have hb : 0 < k := by omega
    have hm := Nat.mod_lt a hb
    refine ⟨a % k, hm, k, a % k, by rw [Int.natCast_emod], rfl, ?_, ?_⟩
    · rw [← g, Nat.gcd_comm k, ← Nat.gcd_rec, Nat.gcd_comm]
    · omega
  · have k0 : k = 0 := by omega
    subst k0
    rw [Nat.gcd_zero_right] at g
    have ap : 0 < a := by
      apply Nat.pos_of_ne_zero
      intro z
      rw [z] at g
      have := Int.gcd_eq_zero_iff.mp g.symm
      exact h0 (by rw [this.1, this.2])
    simp! [Zl]
    have b1 := Int.natAbs_ediv_le_natAbs x a
    have b2 := Int.natAbs_ediv_le_natAbs y a
    refine q (x / a, y / a) ?_ ⟨by simp only; omega, by simp only; omega⟩
    rw [g]
    exact Int.gcd_ediv_gcd_ediv_gcd (by omega)
theorem Gr.of {M M' : Sto} (hb : Bag n M) (l : M.length ≤ M'.length) (g : ∀ k, k < M.length → M'[k]? = M[k]?) : Gr n M M' := by
  refine ⟨l, ?_, fun k _ hk => g k hk⟩
  obtain ⟨a, b, h, e⟩ := id hb
  exact ⟨a, b, h, (g n hb.lt).trans e⟩
end
end CY
end
section
set_option Elab.async false
set_option linter.all false
set_option maxRecDepth 100000
set_option maxHeartbeats 4000000
namespace CR
open PySem PySem.Spec L2 DL
noncomputable def Zck : Sv := (ZF (ZbU (ZdY "int" (Zd 0)) (ZcL (ZdY "bool" (Zd 0)))))
noncomputable def F_is_whole : List D → Sto → Out D := fnF Zck 1 0
noncomputable def Zaa : Sv := (Zb5 2 3 (Za (Zd 3) (Za (e2 dMod (Zd 2) (Zd 3)) aNil)))
noncomputable def ZaA : Sv := (Zn (Zb5 2 3 (Za (Zg bAbs (Za (Zd 0) aNil)) (Za (Zg bAbs (Za (Zd 1) aNil)) aNil)))
  (Zn (sWh (tv (e2 dNe (Zd 3) (eC (.int 0)))) Zaa)
  (ZF (Zd 2))))
noncomputable def F_greatest_divisor : List D → Sto → Out D := fnF ZaA 2 2
noncomputable def Zet : Sv := (Zn (sIf (ZdE (ZaY (tv (Zg F_is_whole (Za (Zd 0) aNil)))) (ZaY (tv (Zg F_is_whole (Za (Zd 1) aNil))))) (Zbn (PySem.Str.ofString "NoRatio") (Za (eC (.str (PySem.Str.ofString "a ratio is made of two whole numbers"))) aNil)) sNil)
  (Zn (sIf (tv (e2 dEq (Zd 1) (eC (.int 0)))) (Zbn (PySem.Str.ofString "NoRatio") (Za (eC (.str (PySem.Str.ofString "the bottom of a ratio is not 0"))) aNil)) sNil)
  (Zn (Zt (gNm 2) (Zg F_greatest_divisor (Za (Zd 0) (Za (Zd 1) aNil))))
  (Zn (sIf (tv (e2 dLt (Zd 1) (eC (.int 0)))) (Zt (gNm 2) (ZbC (Zd 2))) sNil)
  (ZF (ZC (Za (e2 dDiv (Zd 0) (Zd 2)) (Za (e2 dDiv (Zd 1) (Zd 2)) aNil))))))))
noncomputable def F_ratio : List D → Sto → Out D := fnF Zet 2 1
noncomputable def Zgy : Sv := (ZF (Zg F_ratio (Za (e2 dAdd (e2 dMul (e2 dIx (Zd 0) (eC (.int 0))) (e2 dIx (Zd 1) (eC (.int 1)))) (e2 dMul (e2 dIx (Zd 1) (eC (.int 0))) (e2 dIx (Zd 0) (eC (.int 1))))) (Za (e2 dMul (e2 dIx (Zd 0) (eC (.int 1))) (e2 dIx (Zd 1) (eC (.int 1)))) aNil))))
noncomputable def F_plus : List D → Sto → Out D := fnF Zgy 2 0
noncomputable def Zeu : Sv := (ZF (Zg F_ratio (Za (e2 dMul (e2 dIx (Zd 0) (eC (.int 0))) (e2 dIx (Zd 1) (eC (.int 0)))) (Za (e2 dMul (e2 dIx (Zd 0) (eC (.int 1))) (e2 dIx (Zd 1) (eC (.int 1)))) aNil))))
noncomputable def F_times : List D → Sto → Out D := fnF Zeu 2 0
noncomputable def Zby : Sv := (Zb5 2 3 (Za (Zd 3) (Za (e2 dMod (Zd 2) (Zd 3)) aNil)))
noncomputable def Zc2 : Sv := (Zn (Zb5 2 3 (Za (Zg bAbs (Za (Zd 0) aNil)) (Za (Zd 1) aNil)))
  (Zn (sWh (tv (e2 dGt (Zd 3) (eC (.int 0)))) Zby)
  (ZF (ZC (Za (e2 dDiv (Zd 0) (Zd 2)) (Za (e2 dDiv (Zd 1) (Zd 2)) aNil))))))
noncomputable def F_law_low : List D → Sto → Out D := fnF Zc2 2 2
noncomputable def Zb0 : Sv := (ZF (ZbU (ZdY "int" (Zd 0)) (ZcL (ZdY "bool" (Zd 0)))))
noncomputable def F_law_whole : List D → Sto → Out D := fnF Zb0 1 0
end CR
end
section
set_option Elab.async false
set_option linter.all false
set_option maxRecDepth 100000
set_option maxHeartbeats 4000000
namespace CR
open PySem PySem.Spec L2 DL
noncomputable abbrev rt (q : Rat) : D := pr q.num (q.den : Int)
noncomputable def Sz (k : Nat) (q : Rat) : Prop := q.num.natAbs < 2 ^ k ∧ q.den < 2 ^ k
theorem Zqx : F_greatest_divisor = FGcd := rfl
section
variable {Q : D → Sto → Prop} {E : Str → Sto → Prop} {M : Sto} {k l : Nat} {p q : Rat}
theorem Zgz {i j : Int} (h : 0 < j) (hk : j.natAbs < 2 ^ k) (hk2 : k ≤ 8000) : wO (dDiv (.int i) (.int j) M) Q E = Q (.int (i / j)) M := by
  have : Z7 j := ⟨by omega, by
    have : j.natAbs.log2 < k := (Nat.log2_lt (by omega)).mpr hk
    omega⟩
  show wO (if Z7 j then _ else _) Q E = _
  rw [if_pos this, Int.fdiv_eq_ediv_of_nonneg _ (by omega)]; rfl
theorem Ziy {t : Int} {b : Nat} (hb : b ≠ 0) : rt (Rat.normalize t b hb) = pr (t / (Int.gcd t b : Nat)) ((b : Int) / (Int.gcd t b : Nat)) := by
  unfold rt
  rw [Rat.num_normalize, Rat.den_normalize, Int.natCast_ediv]
  rfl
theorem Zkj {t : Int} {b : Nat} (hb : b ≠ 0) (h : b < 2 ^ k) : 0 < Int.gcd t b ∧ Int.gcd t b < 2 ^ k := by
  have h1 : Int.gcd t b ∣ b := Int.gcd_dvd_natAbs_right t b
  have h2 := Nat.le_of_dvd (by omega) h1
  have h3 : Int.gcd t b ≠ 0 := fun z => by
    rw [z] at h1
    exact hb (Nat.eq_zero_of_zero_dvd h1)
  omega
theorem Ziz {t : Int} {b : Nat} (hb : b ≠ 0) (h : b < 2 ^ k) (hk : k ≤ 8000) : wO (F_ratio [.int t, .int b] M) Q E = Q (rt (Rat.normalize t b hb)) M := by
  obtain ⟨g0, g1⟩ := Zkj (t := t) hb h
  have gw : ∀ {Q : D → Sto → Prop}, wO (FGcd [.int t, .int b] M) Q E = Q (.int (Int.gcd t b : Nat)) M := by
    intro Q
    rw [ZmV]
    rfl
  rw [Ziy hb]
  generalize Int.gcd t b = g at *
  simp! [F_ratio, Zet, F_is_whole, Zck, Zqx, gw]
  rw [Zgz (k := k) (by omega) (by simpa using g1) hk]
  simp! [Zl]
  rw [Zgz (k := k) (by omega) (by simpa using g1) hk]
  simp! [Zl]
theorem Zoh {t : Int} {b : Nat} (hb : b ≠ 0) (h : b < 2 ^ k) (hk : k ≤ 8000) (q' : Q (rt (Rat.normalize t b hb)) M) : wO (F_law_low [.int t, .int b] M) Q E := by
  obtain ⟨g0, g1⟩ := Zkj (t := t) hb h
  rw [Ziy hb] at q'
  simp! [F_law_low, Zc2]
  refine Zjy (fun j ρ M' => M' = M ∧ ∃ a c : Nat, ρ = [some (.int t), some (.int b), some (.int a), some (.int c)] ∧ j = c ∧ Nat.gcd a c = Int.gcd t b) ?_ b _ _ ⟨rfl, t.natAbs, b, rfl, rfl, rfl⟩
  rintro j ρ M ⟨rfl, a, c, rfl, rfl, g⟩
  simp! [Zl]
  refine Zn5 (fun h' => ?_) (fun h' => ?_)
  · simp! [Zby]
    have hc : 0 < j := by omega
    refine ⟨a % j, Nat.mod_lt a hc, j, a % j, by rw [Int.natCast_emod], rfl, ?_⟩
    rw [← g, Nat.gcd_comm j, ← Nat.gcd_rec, Nat.gcd_comm]
  · have j0 : j = 0 := by omega
    subst j0
    rw [Nat.gcd_zero_right] at g
    rw [← g] at q' g0 g1
    simp! [Zl]
    rw [Zgz (k := k) (by omega) (by simpa using g1) hk]
    simp! [Zl]
    rw [Zgz (k := k) (by omega) (by simpa using g1) hk]
    simp! [Zl]
    exact q'
theorem ZdR {t : Int} {b : Nat} (hb : b ≠ 0) (ht : t.natAbs < 2 ^ k) (h : b < 2 ^ k) : Sz k (Rat.normalize t b hb) := by
  refine ⟨?_, ?_⟩
  · rw [Rat.num_normalize]
    exact Nat.lt_of_le_of_lt (Int.natAbs_ediv_le_natAbs _ _) ht
  · rw [Rat.den_normalize]
    exact Nat.lt_of_le_of_lt (Nat.div_le_self _ _) h
theorem Zds {x y : Nat} (hx : x < 2 ^ k) (hy : y < 2 ^ l) : x * y < 2 ^ (k + l) := by
  rw [Nat.pow_add]
  exact Nat.mul_lt_mul'' hx hy
theorem Zkk (hp : Sz k p) (hq : Sz l q) (hk : k + l ≤ 8000) : wO (F_plus [rt p, rt q] M) Q E = Q (rt (p + q)) M := by
  have nz : p.den * q.den ≠ 0 := Nat.mul_ne_zero p.den_nz q.den_nz
  have f1 : Zz p.num (q.den : Int) := Zab k l hp.1 (by simpa using hq.2) (by omega) (by omega)
  have f2 : Zz q.num (p.den : Int) := Zab l k hq.1 (by simpa using hp.2) (by omega) (by omega)
  have f3 : Zz (p.den : Int) (q.den : Int) := Zab k l (by simpa using hp.2) (by simpa using hq.2) (by omega) (by omega)
  simp! [F_plus, Zgy, Zcd f1, Zcd f2, Zcd f3]
  rw [show (p.den : Int) * (q.den : Int) = ((p.den * q.den : Nat) : Int) by simp, Ziz nz (Zds hp.2 hq.2) hk, ← Rat.add_def]
theorem ZiA (hp : Sz k p) (hq : Sz l q) (hk : k + l ≤ 8000) : wO (F_times [rt p, rt q] M) Q E = Q (rt (p * q)) M := by
  have nz : p.den * q.den ≠ 0 := Nat.mul_ne_zero p.den_nz q.den_nz
  have f1 : Zz p.num q.num := Zab k l hp.1 hq.1 (by omega) (by omega)
  have f3 : Zz (p.den : Int) (q.den : Int) := Zab k l (by simpa using hp.2) (by simpa using hq.2) (by omega) (by omega)
  simp! [F_times, Zeu, Zcd f1, Zcd f3]
  rw [show (p.den : Int) * (q.den : Int) = ((p.den * q.den : Nat) : Int) by simp, Ziz nz (Zds hp.2 hq.2) hk, ← Rat.mul_def]
theorem ZiB (hp : Sz k p) (hq : Sz l q) : Sz (k + l) (p * q) := by
  rw [Rat.mul_def]
  exact ZdR _ (by rw [Int.natAbs_mul]; exact Zds hp.1 hq.1) (Zds hp.2 hq.2)
theorem Zfg (hp : Sz k p) (hq : Sz l q) : Sz (k + l + 1) (p + q) := by
  rw [Rat.add_def]
  have h1 := Zds hp.1 hq.2
  have h2 := Zds hq.1 hp.2
  have h3 := Zds hp.2 hq.2
  rw [Nat.add_comm l k] at h2
  refine ZdR _ ?_ ?_
  · have e1 : (p.num * (q.den : Int)).natAbs = p.num.natAbs * q.den := by rw [Int.natAbs_mul]; rfl
    have e2 : (q.num * (p.den : Int)).natAbs = q.num.natAbs * p.den := by rw [Int.natAbs_mul]; rfl
    have := Int.natAbs_add_le (p.num * (q.den : Int)) (q.num * (p.den : Int))
    rw [Nat.pow_succ]
    omega
  · rw [Nat.pow_succ]
    omega
end
end CR
end
section
set_option Elab.async false
set_option linter.all false
set_option maxRecDepth 100000
set_option maxHeartbeats 4000000
namespace CH
open PySem PySem.Spec L2 DL CA CR
noncomputable def ZaB : Sv := (Zn (Zt (gNm 5) (e2 dSub (Zg F_law_digit (Za (Zd 0) (Za (eC (.int 27)) aNil))) (eC (.int 6))))
  (Zn (Zt (gNm 6) (eC (.int 1)))
  (Zn (sIf (ZdE (tv (e2 dEq (Zd 2) (eC (.int 3)))) (tv (e2 dEq (Zd 2) (eC (.int 4))))) (Zt (gNm 6) (e2 dAdd (eC (.int 1)) (Zg F_law_digit (Za (Zd 0) (Za (eC (.int 12)) aNil))))) sNil)
  (Zn (sIf (tv (e2 dEq (Zd 2) (eC (.int 5)))) (Zn (Zt (gNm 5) (e2 dAdd (e2 dMul (Zg F_law_digit (Za (Zd 0) (Za (e2 dPow (eC (.int 10)) (eC (.int 6))) aNil))) (e2 dPow (eC (.int 10)) (eC (.int 6)))) (Zg F_law_digit (Za (Zd 0) (Za (e2 dPow (eC (.int 10)) (eC (.int 6))) aNil)))))
  (Zn (Zt (gNm 5) (e2 dMul (Zd 5) (e2 dIx (Zag (Za (eC (.int 1)) (Za (ZbC (eC (.int 1))) aNil))) (Zg F_law_digit (Za (Zd 0) (Za (eC (.int 2)) aNil))))))
  (Zt (gNm 6) (Zg bMax (Za (eC (.int 1)) (Za (e2 dAdd (e2 dMul (Zg F_law_digit (Za (Zd 0) (Za (e2 dPow (eC (.int 10)) (eC (.int 6))) aNil))) (e2 dPow (eC (.int 10)) (eC (.int 6)))) (Zg F_law_digit (Za (Zd 0) (Za (e2 dPow (eC (.int 10)) (eC (.int 6))) aNil)))) aNil)))))) sNil)
  (Zn (sIf (tv (e2 dEq (Zd 2) (eC (.int 6)))) (Zt (gNm 5) (e2 dMul (Zd 5) (Zg bInt (Za (e2 dEq (e2 dMod (Zd 5) (eC (.int 4))) (eC (.int 0))) aNil)))) sNil)
  (Z3 (Zc6 mApp (Zd 3) (Za (Zg F_law_low (Za (Zd 5) (Za (Zd 6) aNil))) aNil))))))))
noncomputable def Zbz : Sv := (Zn (Zt (gNm 2) (Zg F_law_digit (Za (Zd 0) (Za (eC (.int 8)) aNil))))
  (Zn (Zt (gNm 3) (Zag aNil))
  (Zn (Zax (gNm 4) (Za (Zd 1) aNil) ZaB)
  (ZF (Zd 3)))))
noncomputable def F_law_height : List D → Sto → Out D := fnF Zbz 2 5
end CH
end
section
set_option Elab.async false
set_option linter.all false
set_option maxRecDepth 100000
set_option maxHeartbeats 4000000
namespace CH
open PySem PySem.Spec L2 DL
open CR (rt Sz)
noncomputable def rts (hs : List Rat) : List D := hs.map rt
theorem ZL {hs : List Rat} : (rts hs).length = hs.length := List.length_map _
theorem ZaU {hs : List Rat} {q : Rat} : rts hs ++ [rt q] = rts (hs ++ [q]) := by simp [rts]
section
variable {Q : D → Sto → Prop} {E : Str → Sto → Prop} {M : Sto} {n : Nat}
theorem ZjB {many : Nat} (hm : many ≤ 1000) (hb : Bag n M) (q : ∀ hs m M', hs.length = many → (∀ x ∈ hs, Sz 42 x) → M.length ≤ m → M'[m]? = some (.lst (rts hs)) → Gr n M M' → Q (.ref m) M') : wO (F_law_height [.ref n, .int many] M) Q E := by
  have hn := hb.lt
  simp! [F_law_height, Zbz]
  refine CA.Zx hb (by decide) fun kd M1 k0 k1 g1 => ?_
  have hn1 := g1.bag.lt
  have gl1 := g1.len
  simp! [Zl]
  refine ⟨by omega, ?_⟩
  rw [show ((many : Int)).toNat = many by omega]
  have r0 : (M1 ++ [SO.lst []])[M1.length]? = some (.lst (rts [])) := by simp [rts]
  have G0 : Gr n M (M1 ++ [SO.lst []]) := g1.app2 _
  have mne : M1.length ≠ n ∧ M.length ≤ M1.length := by omega
  generalize M1 ++ [SO.lst []] = M1' at r0 G0 ⊢
  generalize M1.length = mf at r0 mne ⊢
  refine ZcS (fun i ρ M' => ∃ hs x4 x5 x6, ρ = [some (.ref n), some (.int many), some (.int kd), some (.ref mf), x4, x5, x6] ∧ hs.length = i ∧ (∀ x ∈ hs, Sz 42 x) ∧ M'[mf]? = some (.lst (rts hs)) ∧ Gr n M M') ⟨[], _, _, _, rfl, rfl, by simp, r0, G0⟩ ?_ ?_
  · rintro i ρ M2 hi ⟨hs, x4, x5, x6, rfl, hl, hz, r2, gr⟩
    simp! [ZaB]
    refine CA.Zx gr.bag (by decide) fun t M3 t0 t1 g3 => ?_
    have r3 := CA.Gr.up r2 g3 mne.1
    have gr3 := gr.trans g3
    simp! [Zl]
    refine Zlu (fun _ M' => M' = M3) ?_ ?_
    · refine brO (fun z => ?_) (fun z => ?_)
      · simp! [Zl]
      · simp! [Zl]
    rintro b M3 rfl
    simp! [Zl]
    refine Zka (fun ρ M' => ∃ bo x4, ρ = [some (.ref n), some (.int many), some (.int kd), some (.ref mf), x4, some (.int (t - 6)), some (.int bo)] ∧ (1 ≤ bo ∧ bo ≤ 12) ∧ M'[mf]? = some (.lst (rts hs)) ∧ Gr n M M') ?_ ?_
    · refine Zj9 (fun z => ?_) (fun z => ?_)
      · simp! [Zl]
        refine CA.Zx gr3.bag (by decide) fun u M4 u0 u1 g4 => ?_
        simp! [Zl]
        exact ⟨_, _, rfl, by omega, CA.Gr.up r3 g4 mne.1, gr3.trans g4⟩
      · simp! [Zl]
        exact ⟨_, _, rfl, by omega, r3, gr3⟩
    rintro _ M4 ⟨bo, x4, rfl, hbo, r4, gr4⟩
    simp! [Zl]
    refine Zka (fun ρ M' => ∃ tp bo x4, ρ = [some (.ref n), some (.int many), some (.int kd), some (.ref mf), x4, some (.int tp), some (.int bo)] ∧ (1 ≤ bo ∧ bo ≤ 1000000000000) ∧ (-1000000000000 ≤ tp ∧ tp ≤ 1000000000000) ∧ M'[mf]? = some (.lst (rts hs)) ∧ Gr n M M') ?_ ?_
    · refine brS (fun z => ?_) (fun z => ?_)
      · simp! [Zl]
        refine CA.Zx gr4.bag (by decide) fun a M5 a0 a1 g5 => ?_
        simp! [Zl]
        refine CA.Zx g5.bag (by decide) fun b M6 b0 b1 g6 => ?_
        have gr6 := (gr4.trans g5).trans g6
        have h6 := gr6.bag
        have r6 := CA.Gr.up (CA.Gr.up r4 g5 mne.1) g6 mne.1
        have hr6 := Zy r6
        simp! [Zl]
        refine CA.Zx (h6.app _) (by decide) fun s M7 s0 s1 g7 => ?_
        have k7 := Gr.new h6 g7
        have r7 : M7[mf]? = some (.lst (rts hs)) := by rw [g7.keep _ mne.1 (by simp; omega), ZaF hr6]; exact r6
        have gr7 : Gr n M M7 := gr6.trans ((Gr.app h6 _).trans g7)
        obtain ⟨sg, hs', sg0⟩ : ∃ f : Int, atI [D.int 1, D.int (-1)] s = some (.int f) ∧ (f = 1 ∨ f = -1) := by
          have : s = 0 ∨ s = 1 := by omega
          rcases this with rfl | rfl
          · exact ⟨1, rfl, .inl rfl⟩
          · exact ⟨-1, rfl, .inr rfl⟩
        simp! [k7, hs']
        refine CA.Zx gr7.bag (by decide) fun c M8 c0 c1 g8 => ?_
        simp! [Zl]
        refine CA.Zx g8.bag (by decide) fun d M9 d0 d1 g9 => ?_
        simp! [Zl]
        refine ⟨_, _, _, rfl, by omega, ?_, CA.Gr.up (CA.Gr.up r7 g8 mne.1) g9 mne.1, (gr7.trans g8).trans g9⟩
        rcases sg0 with e | e <;> rw [e] <;> omega
      · simp! [Zl]
        exact ⟨_, _, _, rfl, by omega, by omega, r4, gr4⟩
    rintro _ M5 ⟨tp, bo, x4, rfl, hbo, htp, r5, gr5⟩
    simp! [Zl]
    refine Zka (fun ρ M' => ∃ tp x4, ρ = [some (.ref n), some (.int many), some (.int kd), some (.ref mf), x4, some (.int tp), some (.int bo)] ∧ (-1000000000000 ≤ tp ∧ tp ≤ 1000000000000) ∧ M' = M5) ?_ ?_
    · refine brS (fun z => ?_) (fun z => ?_)
      · simp! [Zl]
        refine ⟨_, _, rfl, ?_⟩
        split <;> omega
      · simp! [Zl]
        exact ⟨_, _, rfl, by omega⟩
    rintro _ M5 ⟨tp, x4, rfl, htp, rfl⟩
    obtain ⟨bn, rfl⟩ : ∃ k : Nat, bo = k := ⟨bo.toNat, by omega⟩
    have bz : bn ≠ 0 := by omega
    simp! [r5]
    refine CR.Zoh (k := 42) bz (by omega) (by decide) ?_
    have sz := CR.ZdR (t := tp) (k := 42) bz (by omega) (by omega)
    have hr5 := Zy r5
    simp! [r5, ZL]
    refine ⟨by omega, ?_⟩
    have e : rts hs ++ [rt (Rat.normalize tp bn bz)] = rts (hs ++ [Rat.normalize tp bn bz]) := ZaU
    refine ⟨hs ++ [Rat.normalize tp bn bz], _, _, _, rfl, by simp [hl], ?_, ?_, ?_⟩
    · intro x hx
      rcases List.mem_append.mp hx with h | h
      · exact hz x h
      · simp at h
        rw [h]
        exact sz
    · rw [← e]
    · obtain ⟨l, bg, kp⟩ := gr5
      refine ⟨by rw [List.length_set]; exact l, ?_, fun k hk hkl => ?_⟩
      · obtain ⟨a, b, h, hx⟩ := bg
        exact ⟨a, b, h, by rw [List.getElem?_set_ne mne.1]; exact hx⟩
      · rw [List.getElem?_set_ne (by omega)]
        exact kp k hk hkl
  · rintro ρ M2 ⟨hs, x4, x5, x6, rfl, hl, hz, r2, gr⟩
    simp! [Zl]
    exact q hs mf M2 hl hz mne.2 r2 gr
end
end CH
end
section
set_option Elab.async false
set_option linter.all false
set_option maxRecDepth 100000
set_option maxHeartbeats 4000000
namespace CS
open PySem PySem.Spec L2 DL CC CR
noncomputable def ZbA : Sv := (sIf (tv (e2 dNe (Zg bLen (Za (Zd 1) aNil)) (Zg bLen (Za (Zd 0) aNil)))) (Zbn (PySem.Str.ofString "NoHeight") (Za (eFs (ZbG (eC (.str (PySem.Str.ofString "a height of "))) (ZbG (eFm (Zg bLen (Za (Zd 0) aNil))) (ZbG (eC (.str (PySem.Str.ofString " rays has not "))) (ZbG (eFm (Zg bLen (Za (Zd 1) aNil))) (ZbG (eC (.str (PySem.Str.ofString " ratios"))) jNil)))))) aNil)) sNil)
noncomputable def F_ask_height : List D → Sto → Out D := fnF ZbA 2 0
noncomputable def Zcl : Sv := (ZF (Zg F_law_low (Za (e2 dAdd (e2 dMul (e2 dIx (Zd 0) (eC (.int 0))) (e2 dIx (Zd 1) (eC (.int 1)))) (e2 dMul (e2 dIx (Zd 1) (eC (.int 0))) (e2 dIx (Zd 0) (eC (.int 1))))) (Za (e2 dMul (e2 dIx (Zd 0) (eC (.int 1))) (e2 dIx (Zd 1) (eC (.int 1)))) aNil))))
noncomputable def F_law_plus : List D → Sto → Out D := fnF Zcl 2 0
noncomputable def Zb1 : Sv := (Zn (sIf (ZdE (ZaY (tv (ZdY "tuple" (Zd 0)))) (ZdE (tv (e2 dNe (Zg bLen (Za (Zd 0) aNil)) (eC (.int 2)))) (ZdE (ZaY (tv (Zg F_law_whole (Za (e2 dIx (Zd 0) (eC (.int 0))) aNil)))) (ZaY (tv (Zg F_law_whole (Za (e2 dIx (Zd 0) (eC (.int 1))) aNil))))))) (ZF (eC (.bl false))) sNil)
  (ZF (ZbU (e2 dGt (e2 dIx (Zd 0) (eC (.int 1))) (eC (.int 0))) (e2 dEq (Zg F_law_low (Za (e2 dIx (Zd 0) (eC (.int 0))) (Za (e2 dIx (Zd 0) (eC (.int 1))) aNil))) (Zd 0)))))
noncomputable def F_law_ratio : List D → Sto → Out D := fnF Zb1 1 0
end CS
end
section
set_option Elab.async false
set_option linter.all false
set_option maxRecDepth 100000
set_option maxHeartbeats 4000000
namespace CS
open PySem PySem.Spec L2 DL
open CR (rt Sz)
section
variable {Q : D → Sto → Prop} {E : Str → Sto → Prop} {M : Sto} {k l : Nat} {p q : Rat}
theorem Zoi (z : Int) : pr z 1 = rt (z : Rat) := by
  unfold rt
  rw [Rat.num_intCast, Rat.den_intCast]
  rfl
theorem ZgA {z : Int} (h : z.natAbs < 2 ^ k) (hk : 1 ≤ k) : Sz k (z : Rat) := by
  refine ⟨by rw [Rat.num_intCast]; exact h, by rw [Rat.den_intCast]; exact Nat.one_lt_two_pow (by omega)⟩
theorem Zfh {t : Int} {b : Nat} (hb : b ≠ 0) (h : b < 2 ^ k) (hk : k ≤ 8000) : wO (CR.F_law_low [.int t, .int b] M) Q E = Q (rt (Rat.normalize t b hb)) M := by
  obtain ⟨d, M', e, e1, e2⟩ := Zgr (CR.Zoh (Q := fun d M' => d = rt (Rat.normalize t b hb) ∧ M' = M) (E := fun _ _ => False) (t := t) hb h hk ⟨rfl, rfl⟩)
  rw [e, e1, e2]
  rfl
theorem ZfU (hp : Sz k p) (hq : Sz l q) (hk : k + l ≤ 8000) : wO (F_law_plus [rt p, rt q] M) Q E = Q (rt (p + q)) M := by
  have nz : p.den * q.den ≠ 0 := Nat.mul_ne_zero p.den_nz q.den_nz
  have f1 : Zz p.num (q.den : Int) := Zab k l hp.1 (by simpa using hq.2) (by omega) (by omega)
  have f2 : Zz q.num (p.den : Int) := Zab l k hq.1 (by simpa using hp.2) (by omega) (by omega)
  have f3 : Zz (p.den : Int) (q.den : Int) := Zab k l (by simpa using hp.2) (by simpa using hq.2) (by omega) (by omega)
  simp! [F_law_plus, Zcl, Zcd f1, Zcd f2, Zcd f3]
  rw [show (p.den : Int) * (q.den : Int) = ((p.den * q.den : Nat) : Int) by simp, Zfh nz (CR.Zds hp.2 hq.2) hk, ← Rat.add_def]
theorem ZiC : Rat.normalize q.num q.den q.den_nz = q := Rat.normalize_self q
theorem Zg0 (hq : Sz k q) (hk : k ≤ 8000) : wO (F_law_ratio [rt q] M) Q E = Q (.bl true) M := by
  have dp : 0 < q.den := Nat.pos_of_ne_zero q.den_nz
  simp! [F_law_ratio, Zb1, CR.F_law_whole, CR.Zb0, Zfh (t := q.num) q.den_nz hq.2 hk, ZiC]
end
end CS
end
section
set_option Elab.async false
set_option linter.all false
set_option maxRecDepth 100000
set_option maxHeartbeats 4000000
namespace CN
open PySem PySem.Spec L2 DL
open CE (F_numbers)
open CC (F_following)
open CR (F_plus F_times F_law_low)
open CS (F_ask_height F_law_plus)
open CA (F_law_sum)
noncomputable def Zcm : Sv := (Zn (Zt (gNm 6) (Zg F_plus (Za (e2 dIx (Zd 1) (e2 dSub (Zd 4) (eC (.int 1)))) (Za (Zg F_following (Za (Zd 1) (Za (Zd 4) aNil))) aNil))))
  (Z3 (Zc6 mApp (Zd 3) (Za (Zg F_plus (Za (Zd 6) (Za (Zg F_times (Za (ZC (Za (e2 dIx (Zd 2) (Zd 4)) (Za (eC (.int 1)) aNil))) (Za (Zd 5) aNil))) aNil))) aNil))))
noncomputable def Zev : Sv := (Zn (Zt (gNm 2) (Zg F_numbers (Za (Zd 0) aNil)))
  (Zn (Z3 (Zg F_ask_height (Za (Zd 0) (Za (Zd 1) aNil))))
  (Zn (Zt (gNm 3) (Zag aNil))
  (Zn (ZcR (gTp (gCs (gNm 4) (gCs (gNm 5) gNl))) (iEn (Za (Zd 1) aNil)) Zcm)
  (ZF (Zd 3))))))
noncomputable def F_bends : List D → Sto → Out D := fnF Zev 2 5
noncomputable def Zaj : Sv := (Zn (Zt (gNm 4) (Zg F_law_sum (Za (e2 dIx (Zd 0) (e2 dSub (Zd 2) (eC (.int 1)))) (Za (e2 dIx (Zd 0) (e2 dMod (e2 dAdd (Zd 2) (eC (.int 1))) (Zg bLen (Za (Zd 0) aNil)))) aNil))))
  (Zn (Zt (gNm 5) (Zg bInt (Za (e2 dEq (e2 dIx (Zd 3) (eC (.int 0))) (eC (.int 0))) aNil)))
  (Z3 (Zc6 mApp (Zd 1) (Za (e2 dSub (eC (.int 0)) (e2 dDiv (e2 dIx (Zd 4) (Zd 5)) (e2 dIx (Zd 3) (Zd 5)))) aNil)))))
noncomputable def Zbd : Sv := (Zn (Zt (gNm 1) (Zag aNil))
  (Zn (ZcR (gTp (gCs (gNm 2) (gCs (gNm 3) gNl))) (iEn (Za (Zd 0) aNil)) Zaj)
  (ZF (Zd 1))))
noncomputable def F_law_numbers : List D → Sto → Out D := fnF Zbd 1 5
noncomputable def ZaV : Sv := (Zn (Zt (gNm 5) (Zg F_law_plus (Za (e2 dIx (Zd 1) (e2 dSub (Zd 3) (eC (.int 1)))) (Za (e2 dIx (Zd 1) (e2 dMod (e2 dAdd (Zd 3) (eC (.int 1))) (Zg bLen (Za (Zd 0) aNil)))) aNil))))
  (Z3 (Zc6 mApp (Zd 2) (Za (Zg F_law_plus (Za (Zd 5) (Za (Zg F_law_low (Za (e2 dMul (Zd 4) (e2 dIx (e2 dIx (Zd 1) (Zd 3)) (eC (.int 0)))) (Za (e2 dIx (e2 dIx (Zd 1) (Zd 3)) (eC (.int 1))) aNil))) aNil))) aNil))))
noncomputable def Zb2 : Sv := (Zn (Zt (gNm 2) (Zag aNil))
  (Zn (ZcR (gTp (gCs (gNm 3) (gCs (gNm 4) gNl))) (iEn (Za (Zg F_law_numbers (Za (Zd 0) aNil)) aNil)) ZaV)
  (ZF (Zd 2))))
noncomputable def F_law_bends : List D → Sto → Out D := fnF Zb2 2 4
end CN
end
section
set_option Elab.async false
set_option linter.all false
set_option maxRecDepth 100000
set_option maxHeartbeats 4000000
namespace CN
open PySem PySem.Spec L2 DL
open CR (rt Sz)
open CH (rts ZL ZaU)
noncomputable def cq (hs : List Rat) (i : Int) : Rat := hs.getD (i % hs.length).toNat 0
theorem Zec {hs : List Rat} {i : Int} (h : -(hs.length : Int) ≤ i ∧ i < hs.length) : atI (rts hs) i = some (rt (cq hs i)) := by
  unfold atI
  rw [ZL, Zid h]
  have hp : (i % hs.length).toNat < hs.length := by
    have := Int.emod_lt_of_pos i (show (0 : Int) < hs.length by omega)
    have := Int.emod_nonneg i (show (hs.length : Int) ≠ 0 by omega)
    omega
  simp [rts, cq, List.getElem?_eq_getElem hp]
theorem Zkl {hs : List Rat} {i : Int} : cq hs (i % hs.length) = cq hs i := by unfold cq; rw [Int.emod_emod_of_dvd _ (Int.dvd_refl _)]
theorem Zoj {hs : List Rat} {k : Nat} (h : k < hs.length) : cq hs k = hs[k] := by
  unfold cq
  rw [Int.emod_eq_of_lt (by omega) (by omega)]
  simp [List.getElem?_eq_getElem h]
theorem Zfi {hs : List Rat} {k : Nat} {i : Int} (h : ∀ x ∈ hs, Sz k x) (hn : hs.length ≠ 0) : Sz k (cq hs i) := by
  unfold cq
  have := (Z8 (i := i) hn).1
  rw [List.getD_eq_getElem?_getD, List.getElem?_eq_getElem this]
  exact h _ (List.getElem_mem this)
theorem ZiD {hs : List Rat} {i : Nat} (h : i < (rts hs).length) : (rts hs)[i] = rt (cq hs i) := by
  rw [ZL] at h
  rw [Zoj h]
  simp [rts]
noncomputable def bnd (rs : List Pt) (hs : List Rat) (i : Int) : Rat := cq hs (i - 1) + cq hs (i + 1) + (T rs i : Rat) * cq hs i
noncomputable def bds (rs : List Pt) (hs : List Rat) (n : Nat) : List Rat := (List.range n).map fun (i : Nat) => bnd rs hs i
theorem Zew {rs : List Pt} {hs : List Rat} {n : Nat} : (bds rs hs n).length = n := by simp [bds]
theorem ZgB {rs : List Pt} {hs : List Rat} {n : Nat} : bds rs hs (n + 1) = bds rs hs n ++ [bnd rs hs n] := by simp [bds, List.range_succ]
section
variable {Q : D → Sto → Prop} {E : Str → Sto → Prop} {M : Sto} {k l : Nat} {p q : Rat} {n m : Nat} {rs : List Pt} {hs : List Rat} {i : Int}
theorem Zok (hb : Nr 200 rs) (hn : rs ≠ []) : (T rs i).natAbs < 2 ^ 17 := by
  have a := hb _ (Zgu (i := i - 1) hn)
  have b := hb _ (Zgu (i := i + 1) hn)
  unfold T X
  have h (x y : Int) (hx : -200 ≤ x ∧ x ≤ 200) (hy : -200 ≤ y ∧ y ≤ 200) : -40000 ≤ x * y ∧ x * y ≤ 40000 := by
    have : (x * y).natAbs ≤ 200 * 200 := by rw [Int.natAbs_mul]; exact Nat.mul_le_mul (by omega) (by omega)
    omega
  have h1 := h _ _ a.1 b.2
  have h2 := h _ _ a.2 b.1
  have h3 := h _ _ b.1 a.2
  have h4 := h _ _ b.2 a.1
  omega
theorem Zol (hb : Nr 200 rs) (hn : rs ≠ []) (hh : hs.length ≠ 0) (hz : ∀ x ∈ hs, Sz k x) : Sz (3 * k + 19) (bnd rs hs i) := by
  have := CR.Zfg (CR.Zfg (Zfi (i := i - 1) hz hh) (Zfi (i := i + 1) hz hh)) (CR.ZiB (CS.ZgA (Zok (i := i) hb hn) (by decide)) (Zfi (i := i) hz hh))
  rw [show k + k + 1 + (17 + k) + 1 = 3 * k + 19 by omega] at this
  exact this
theorem Zom (h : M[n]? = some (.lst (rts hs))) (hi : 0 ≤ i ∧ i < hs.length) : wO (CC.F_following [.ref n, .int i] M) Q E = Q (rt (cq hs (i + 1))) M := by
  have e := Z8 (i := i + 1) (m := hs.length) (by omega)
  simp! [CC.F_following, CC.Zam, h, Zec, Zkl, ZL]
theorem Zfj (h : M[n]? = some (.lst (prs rs))) (h' : M[m]? = some (.lst (rts hs))) (e : hs.length = rs.length) (q : Q .non M) : wO (CS.F_ask_height [.ref n, .ref m] M) Q E := by
  simp! [CS.F_ask_height, CS.ZbA, h, h', ZL, e]
  exact q
theorem ZfV (h : M[n]? = some (.lst (prs rs))) (hs' : Smo rs) (hl : rs.length ≤ 1000) (hb : Nr 200 rs) (h' : M[m]? = some (.lst (rts hs))) (e : hs.length = rs.length) (hz : ∀ x ∈ hs, Sz k x) (hk : k ≤ 2000) (q : ∀ m' M', M.length ≤ m' → M'[m']? = some (.lst (rts (bds rs hs rs.length))) → M.length ≤ M'.length → (∀ j < M.length, M'[j]? = M[j]?) → Q (.ref m') M') : wO (F_bends [.ref n, .ref m] M) Q E := by
  have hn := Zy h
  have hm := Zy h'
  have hne := hs'.ne
  have h3 := hs'.len
  simp! [F_bends, Zev]
  refine CE.Zio h hs' (by omega) (fun p hp => by have := hb p hp; omega) ?_
  have g1 : (M ++ [SO.lst (nts (Za9 rs))])[n]? = some (.lst (prs rs)) := by rw [ZaF hn]; exact h
  have g2 : (M ++ [SO.lst (nts (Za9 rs))])[m]? = some (.lst (rts hs)) := by rw [ZaF hm]; exact h'
  simp! [Zl]
  refine Zfj g1 g2 e ?_
  simp! [Zl]
  have r0 : (M ++ [SO.lst (nts (Za9 rs)), SO.lst []])[M.length + 1]? = some (.lst (rts (bds rs hs 0))) := by simp [rts, bds]
  have G0 : M.length + 2 ≤ (M ++ [SO.lst (nts (Za9 rs)), SO.lst []]).length ∧ (M ++ [SO.lst (nts (Za9 rs)), SO.lst []])[M.length]? = some (.lst (nts (Za9 rs))) ∧ ∀ j < M.length, (M ++ [SO.lst (nts (Za9 rs)), SO.lst []])[j]? = M[j]? := ⟨by simp, by simp, fun j hj => ZaF hj⟩
  generalize M ++ [SO.lst (nts (Za9 rs)), SO.lst []] = M1 at r0 G0 ⊢
  have hm1 := (G0.2.2 m hm).trans h'
  refine Zfb (fun i ρ M' => (∃ x4 x5 x6, ρ = [some (.ref n), some (.ref m), some (.ref M.length), some (.ref (M.length + 1)), x4, x5, x6]) ∧ M'[M.length + 1]? = some (.lst (rts (bds rs hs i))) ∧ M.length + 2 ≤ M'.length ∧ M'[M.length]? = some (.lst (nts (Za9 rs))) ∧ ∀ j < M.length, M'[j]? = M[j]?) hm1 ⟨⟨_, _, _, rfl⟩, r0, G0⟩ (fun i ρ M' hI => (hI.2.2.2.2 m hm).trans h') ?_ ?_
  · rintro i ρ M2 hi ⟨⟨x4, x5, x6, rfl⟩, r2, l2, t2, o2⟩
    have hm2 := (o2 m hm).trans h'
    rw [ZiD hi]
    rw [ZL] at hi
    have hi' : i < rs.length := by omega
    have hh : hs.length ≠ 0 := by omega
    have ct : cn (Za9 rs) i = T rs i := by rw [Zgs (by rw [Za0]; exact hi')]; simp [Za9]
    have tl := Za0 (rs := rs)
    have z (i) := Zfi (i := i) hz hh
    simp! [Zcm, Zec, Zom hm2, hm2, ZL]
    rw [CR.Zkk (z _) (z _) (by omega)]
    simp! [t2, Znm, ct]
    rw [show D.tup [D.int (T rs i), D.int 1] = rt (T rs i : Rat) from CS.Zoi _, CR.ZiA (CS.ZgA (Zok (i := i) hb hne) (by decide)) (z _) (by omega)]
    simp! [Zl]
    rw [CR.Zkk (CR.Zfg (z _) (z _)) (CR.ZiB (CS.ZgA (Zok (i := i) hb hne) (by decide)) (z _)) (by omega)]
    simp! [r2]
    exact ⟨by rw [ZL, Zew]; omega, ⟨_, _, _, rfl⟩, by rw [ZaU, ZgB]; rfl, by rw [List.length_set]; exact l2, t2, fun j hj => by rw [List.getElem?_set_ne (by omega)]; exact o2 j hj⟩
  · rintro ρ M2 ⟨⟨x4, x5, x6, rfl⟩, r2, l2, t2, o2⟩
    simp! [Zl]
    rw [ZL, e] at r2
    exact q _ _ (by omega) r2 (by omega) o2
theorem Zkm (hb : Nr 200 rs) (hn : rs ≠ []) (hh : hs.length ≠ 0) (hz : ∀ x ∈ hs, Sz k x) : ∀ x ∈ bds rs hs l, Sz (3 * k + 19) x := by
  intro x hx
  obtain ⟨j, -, rfl⟩ := List.mem_map.mp hx
  exact Zol hb hn hh hz
end
end CN
end
section
set_option Elab.async false
set_option linter.all false
set_option maxRecDepth 100000
set_option maxHeartbeats 4000000
namespace CN
open PySem PySem.Spec L2 DL
open CR (rt Sz)
open CH (rts ZL ZaU)
section
variable {Q : D → Sto → Prop} {E : Str → Sto → Prop} {M : Sto} {k l : Nat} {p q : Rat} {n m : Nat} {rs : List Pt} {hs : List Rat} {i : Int}
theorem plu (a b c d e f : Int) (h1 : a * d - b * c = 1) (h2 : c * f - d * e = 1) : a + e = (a * f - b * e) * c ∧ b + f = (a * f - b * e) * d := by
  constructor
  · have : (a * f - b * e) * c = (c * f - d * e) * a + (a * d - b * c) * e := by
      simp only [Int.sub_mul]
      rw [show a * f * c = c * f * a by ac_rfl, show b * e * c = b * c * e by ac_rfl, show d * e * a = a * d * e by ac_rfl]
      omega
    rw [this, h1, h2]; omega
  · have : (a * f - b * e) * d = (c * f - d * e) * b + (a * d - b * c) * f := by
      simp only [Int.sub_mul]
      rw [show a * f * d = a * d * f by ac_rfl, show b * e * d = d * e * b by ac_rfl, show c * f * b = b * c * f by ac_rfl]
      omega
    rw [this, h1, h2]; omega
theorem ZlH (hs' : Smo rs) (i : Int) : (cy rs (i - 1)).1 + (cy rs (i + 1)).1 = -(T rs i) * (cy rs i).1 ∧ (cy rs (i - 1)).2 + (cy rs (i + 1)).2 = -(T rs i) * (cy rs i).2 := by
  have h1 := hs'.one (i - 1)
  have h2 := hs'.one i
  rw [show i - 1 + 1 = i by omega] at h1
  unfold X at h1 h2
  have := plu _ _ _ _ _ _ h1 h2
  unfold T X
  rw [show -(0 - ((cy rs (i - 1)).1 * (cy rs (i + 1)).2 - (cy rs (i - 1)).2 * (cy rs (i + 1)).1)) = (cy rs (i - 1)).1 * (cy rs (i + 1)).2 - (cy rs (i - 1)).2 * (cy rs (i + 1)).1 by omega]
  exact this
theorem Zgx {i j : Int} (h : j ≠ 0 ∧ -(18446744073709551616) < j ∧ j < 18446744073709551616) : wO (dDiv (.int i) (.int j) M) Q E = Q (.int (i.fdiv j)) M := by
  have : Z7 j := by
    refine ⟨h.1, ?_⟩
    have : j.natAbs.log2 < 65 := (Nat.log2_lt (by omega)).mpr (by omega)
    omega
  show wO (if Z7 j then _ else _) Q E = _
  rw [if_pos this]; rfl
theorem Zex (h : M[n]? = some (.lst (prs rs))) (hs' : Smo rs) (hl : rs.length ≤ 1000) (hb : Nr 200 rs) (q : ∀ M', M'[M.length]? = some (.lst (nts (Za9 rs))) → M.length + 1 ≤ M'.length → (∀ j < M.length, M'[j]? = M[j]?) → Q (.ref M.length) M') : wO (F_law_numbers [.ref n] M) Q E := by
  have hn := Zy h
  have hne := hs'.ne
  have h3 := hs'.len
  simp! [F_law_numbers, Zbd]
  have r0 : (M ++ [SO.lst []])[M.length]? = some (.lst (nts ((Za9 rs).take 0))) := by simp [nts]
  have G0 : M.length + 1 ≤ (M ++ [SO.lst []]).length ∧ ∀ j < M.length, (M ++ [SO.lst []])[j]? = M[j]? := ⟨by simp, fun j hj => ZaF hj⟩
  generalize M ++ [SO.lst []] = M1 at r0 G0 ⊢
  have hm1 := (G0.2 n hn).trans h
  refine Zfb (fun i ρ M' => (∃ x2 x3 x4 x5, ρ = [some (.ref n), some (.ref M.length), x2, x3, x4, x5]) ∧ M'[M.length]? = some (.lst (nts ((Za9 rs).take i))) ∧ M.length + 1 ≤ M'.length ∧ ∀ j < M.length, M'[j]? = M[j]?) hm1 ⟨⟨_, _, _, _, rfl⟩, r0, G0⟩ (fun i ρ M' hI => (hI.2.2.2 n hn).trans h) ?_ ?_
  · rintro i ρ M2 hi ⟨⟨x2, x3, x4, x5, rfl⟩, r2, l2, o2⟩
    have hn2 := (o2 n hn).trans h
    rw [CC.ZcD hi]
    rw [ZJ] at hi
    have em := Z8 (i := (i : Int) + 1) (m := rs.length) (by omega)
    have sm := ZlH hs' i
    have bd := hb _ (Zgu (i := i) hne)
    have on := hs'.one i
    simp! [Zaj, hn2, Zce, ZcT, CA.Zog]
    rw [sm.1, sm.2]
    have fin : (Za9 rs).take (i + 1) = (Za9 rs).take i ++ [T rs i] := by rw [List.take_add_one, Zik hi]; rfl
    by_cases c : (cy rs i).1 = 0
    · have c2 : (cy rs i).2 ≠ 0 := by
        intro c2
        unfold X at on
        rw [c, c2] at on
        simp at on
      have dv : (-(T rs i) * (cy rs i).2).fdiv (cy rs i).2 = -(T rs i) := Int.mul_fdiv_cancel _ c2
      simp! [c]
      refine ⟨by rw [r2]; rfl, ?_⟩
      simp only [if_true, if_false, Bool.false_eq_true]
      rw [show atI [D.int (-T rs ↑i * 0), D.int (-T rs ↑i * (cy rs ↑i).snd)] 1 = some (D.int (-T rs ↑i * (cy rs ↑i).snd)) from rfl]
      simp! [Zl]
      rw [Zgx ⟨c2, by omega, by omega⟩, dv]
      simp! [r2]
      rw [show 0 - -T rs i = T rs i by omega]
      exact ⟨by rw [List.length_take, Za0]; omega, ⟨_, _, _, _, rfl⟩, by rw [fin], by rw [List.length_set]; exact l2, fun j hj => by rw [List.getElem?_set_ne (by omega)]; exact o2 j hj⟩
    · have dv : (-(T rs i) * (cy rs i).1).fdiv (cy rs i).1 = -(T rs i) := Int.mul_fdiv_cancel _ c
      simp! [c]
      refine ⟨by rw [r2]; rfl, ?_⟩
      simp only [if_true, if_false, Bool.false_eq_true]
      rw [show atI [D.int (-T rs ↑i * (cy rs ↑i).fst), D.int (-T rs ↑i * (cy rs ↑i).snd)] 0 = some (D.int (-T rs ↑i * (cy rs ↑i).fst)) from rfl]
      simp! [Zl]
      rw [Zgx ⟨c, by omega, by omega⟩, dv]
      simp! [r2]
      rw [show 0 - -T rs i = T rs i by omega]
      exact ⟨by rw [List.length_take, Za0]; omega, ⟨_, _, _, _, rfl⟩, by rw [fin], by rw [List.length_set]; exact l2, fun j hj => by rw [List.getElem?_set_ne (by omega)]; exact o2 j hj⟩
  · rintro ρ M2 ⟨⟨x2, x3, x4, x5, rfl⟩, r2, l2, o2⟩
    simp! [Zl]
    rw [ZJ, List.take_of_length_le (by rw [Za0]; omega)] at r2
    exact q _ r2 l2 o2
theorem ZiE {ts : List Int} {i : Nat} (h : i < (nts ts).length) : (nts ts)[i] = .int (cn ts i) := by
  rw [Zbo] at h
  rw [Zgs h]
  simp [nts]
theorem ZjC (t : Int) (x : Rat) : Rat.normalize (t * x.num) x.den x.den_nz = (t : Rat) * x := by
  rw [Rat.mul_def]
  simp
theorem ZdS (h : M[n]? = some (.lst (prs rs))) (hs' : Smo rs) (hl : rs.length ≤ 1000) (hb : Nr 200 rs) (h' : M[m]? = some (.lst (rts hs))) (e : hs.length = rs.length) (hz : ∀ x ∈ hs, Sz k x) (hk : k ≤ 2000) (q : ∀ m' M', M.length ≤ m' → M'[m']? = some (.lst (rts (bds rs hs rs.length))) → M.length ≤ M'.length → (∀ j < M.length, M'[j]? = M[j]?) → Q (.ref m') M') : wO (F_law_bends [.ref n, .ref m] M) Q E := by
  have hn := Zy h
  have hm := Zy h'
  have hne := hs'.ne
  have h3 := hs'.len
  simp! [F_law_bends, Zb2]
  refine Zex (by rw [ZaF hn]; exact h) hs' hl hb fun M1 rt1 l1 o1 => ?_
  simp only [List.length_append, List.length_cons, List.length_nil, Nat.zero_add] at rt1 l1 o1 ⊢
  have r0 : M1[M.length]? = some (.lst (rts (bds rs hs 0))) := by rw [o1 _ (by omega)]; simp [rts, bds]
  have o0 : ∀ j < M.length, M1[j]? = M[j]? := fun j hj => by rw [o1 j (by omega), ZaF hj]
  simp! [Zl]
  refine Zfb (fun i ρ M' => (∃ x3 x4 x5, ρ = [some (.ref n), some (.ref m), some (.ref M.length), x3, x4, x5]) ∧ M'[M.length]? = some (.lst (rts (bds rs hs i))) ∧ M.length + 2 ≤ M'.length ∧ M'[M.length + 1]? = some (.lst (nts (Za9 rs))) ∧ ∀ j < M.length, M'[j]? = M[j]?) rt1 ⟨⟨_, _, _, rfl⟩, r0, by omega, rt1, o0⟩ (fun i ρ M' hI => hI.2.2.2.1) ?_ ?_
  · rintro i ρ M2 hi ⟨⟨x3, x4, x5, rfl⟩, r2, l2, t2, o2⟩
    have hm2 := (o2 m hm).trans h'
    have hn2 := (o2 n hn).trans h
    rw [ZiE hi]
    rw [Zbo, Za0] at hi
    have hh : hs.length ≠ 0 := by omega
    have ct : cn (Za9 rs) i = T rs i := by rw [Zgs (by rw [Za0]; exact hi)]; simp [Za9]
    have z (i) := Zfi (i := i) hz hh
    have em := Z8 (i := (i : Int) + 1) (m := rs.length) (by omega)
    have cm : cq hs (((i : Int) + 1) % rs.length) = cq hs (i + 1) := by rw [← e]; exact Zkl
    rw [ct]
    simp! [ZaV, Zec, hm2, hn2, ZL, cm]
    rw [CS.ZfU (z _) (z _) (by omega)]
    simp! [Zec, hm2]
    refine ⟨by rw [r2]; rfl, ?_⟩
    have f1 : Zz (T rs i) (cq hs i).num := Zab 17 k (Zok (i := i) hb hne) (z i).1 (by omega) (by omega)
    simp! [Zcd f1, Zec, hm2]
    rw [CS.Zfh (cq hs i).den_nz (z i).2 (by omega), ZjC]
    simp! [Zl]
    rw [CS.ZfU (CR.Zfg (z _) (z _)) (CR.ZiB (CS.ZgA (Zok (i := i) hb hne) (by decide)) (z _)) (by omega)]
    simp! [r2]
    exact ⟨by rw [ZL, Zew]; omega, ⟨_, _, _, rfl⟩, by rw [ZaU, ZgB]; rfl, by rw [List.length_set]; exact l2, t2, fun j hj => by rw [List.getElem?_set_ne (by omega)]; exact o2 j hj⟩
  · rintro ρ M2 ⟨⟨x3, x4, x5, rfl⟩, r2, l2, t2, o2⟩
    simp! [Zl]
    rw [Zbo, Za0] at r2
    exact q _ _ (by omega) r2 (by omega) o2
end
end CN
end
section
set_option Elab.async false
set_option linter.all false
set_option maxRecDepth 100000
set_option maxHeartbeats 4000000
namespace CN
open PySem PySem.Spec L2 DL
open CR (rt Sz)
open CH (rts ZL ZaU)
noncomputable def sm (f : Int → Rat) : Nat → Rat
  | 0 => 0
  | n + 1 => sm f n + f n
end CN
end
section
set_option Elab.async false
set_option linter.all false
set_option maxRecDepth 100000
set_option maxHeartbeats 4000000
namespace CU
open PySem PySem.Spec L2 DL
open CC (F_ask_smooth)
open CS (F_ask_height F_law_plus)
open CA (F_law_digit)
open CR (F_law_low)
noncomputable def Zbq : Sv := (Zn (Zt (gNm 1) (e2 dIx (Zag (Za (eC (.int 7)) (Za (eC (.int 60)) (Za (eC (.int 61)) aNil)))) (Zg F_law_digit (Za (Zd 0) (Za (eC (.int 3)) aNil)))))
  (Zn (Zt (gNm 2) (e2 dSub (Zg F_law_digit (Za (Zd 0) (Za (Zd 1) aNil))) (e2 dDiv (Zd 1) (eC (.int 2)))))
  (Zn (sIf (tv (e2 dGt (Zd 1) (eC (.int 60)))) (Zt (gNm 2) (e2 dMul (e2 dAdd (e2 dMul (Zg F_law_digit (Za (Zd 0) (Za (e2 dPow (eC (.int 10)) (eC (.int 6))) aNil))) (e2 dPow (eC (.int 10)) (eC (.int 6)))) (Zg F_law_digit (Za (Zd 0) (Za (e2 dPow (eC (.int 10)) (eC (.int 6))) aNil)))) (e2 dIx (Zag (Za (eC (.int 1)) (Za (ZbC (eC (.int 1))) aNil))) (Zg F_law_digit (Za (Zd 0) (Za (eC (.int 2)) aNil)))))) sNil)
  (ZF (Zg F_law_low (Za (Zd 2) (Za (e2 dAdd (eC (.int 1)) (Zg F_law_digit (Za (Zd 0) (Za (e2 dIx (Zag (Za (eC (.int 1)) (Za (eC (.int 12)) aNil))) (Zg F_law_digit (Za (Zd 0) (Za (eC (.int 2)) aNil)))) aNil)))) aNil)))))))
noncomputable def F_law_drawn : List D → Sto → Out D := fnF Zbq 1 2
end CU
end
section
set_option Elab.async false
set_option linter.all false
set_option maxRecDepth 100000
set_option maxHeartbeats 4000000
namespace CU
open PySem PySem.Spec L2 DL
open CR (rt Sz)
open CH (rts ZL ZaU)
open CN CS
noncomputable def thr (rs : List Pt) (hs : List Rat) : Rat × Rat := (cq hs 0 * (cy rs 1).2 - cq hs 1 * (cy rs 0).2, cq hs 1 * (cy rs 0).1 - cq hs 0 * (cy rs 1).1)
noncomputable abbrev rp (m : Rat × Rat) : D := .tup [rt m.1, rt m.2]
theorem Zon {p q : Rat} (h : rt p = rt q) : p = q := by
  unfold rt pr at h
  injection h with h
  injection h with h1 h
  injection h with h2
  injection h1 with h1
  injection h2 with h2
  exact Rat.ext h1 (by omega)
theorem ZlI {xs ys : List Rat} : rts xs = rts ys ↔ xs = ys := by
  refine ⟨fun h => ?_, fun h => by rw [h]⟩
  induction xs generalizing ys with
  | nil => cases ys with
    | nil => rfl
    | cons y ys => simp [rts] at h
  | cons x xs ih =>
    cases ys with
    | nil => simp [rts] at h
    | cons y ys =>
      simp only [rts, List.map_cons, List.cons.injEq] at h
      rw [Zon h.1, ih h.2]
theorem Zey {hs : List Rat} : rts hs = prs (hs.map fun q => (q.num, (q.den : Int))) := by
  simp [rts, prs]
theorem Zoo {xs ys : List Rat} : xs.map (fun q => (q.num, (q.den : Int))) = ys.map (fun q => (q.num, (q.den : Int))) ↔ xs = ys := by
  refine ⟨fun h => ?_, fun h => by rw [h]⟩
  rw [← ZlI, Zey, Zey, h]
section
variable {Q : D → Sto → Prop} {E : Str → Sto → Prop} {M : Sto} {k l : Nat} {p q : Rat} {n m o : Nat} {rs : List Pt} {hs xs ys : List Rat} {i : Int}
theorem ZlJ (h1 : M[n]? = some (.lst (rts xs))) (h2 : M[m]? = some (.lst (rts ys))) : eqF (k + 3) M (.ref n) (.ref m) = some (decide (xs = ys)) := by
  rw [Zjt h1 h2, Zey, Zey, Zie]
  by_cases e : xs = ys
  · subst e; simp
  · rw [decide_eq_false e]
    split
    · rw [decide_eq_false (fun z => e (Zoo.mp z))]
    · rfl
theorem Zlo (h1 : M[n]? = some (.lst (prs rs))) {ss : List Pt} (h2 : M[m]? = some (.lst (prs ss))) : eqF (k + 3) M (.ref n) (.ref m) = some (decide (rs = ss)) := by
  rw [Zjt h1 h2, Zie]
  by_cases e : rs = ss
  · subst e; simp
  · rw [decide_eq_false e]
    split <;> rfl
theorem ZiF (hb : Bag n M) (q : ∀ x M', Sz 40 x → Gr n M M' → Q (rt x) M') : wO (F_law_drawn [.ref n] M) Q E := by
  have hn := hb.lt
  simp! [F_law_drawn, Zbq]
  refine CA.Zx (hb.app _) (by decide) fun r M1 r0 r1 g1 => ?_
  have k1 := Gr.new hb g1
  have G1 : Gr n M M1 := (Gr.app hb _).trans g1
  obtain ⟨far, hf, f0⟩ : ∃ f : Int, atI [D.int 7, D.int 60, D.int 61] r = some (.int f) ∧ (f = 7 ∨ f = 60 ∨ f = 61) := by
    have : r = 0 ∨ r = 1 ∨ r = 2 := by omega
    rcases this with rfl | rfl | rfl
    · exact ⟨7, rfl, .inl rfl⟩
    · exact ⟨60, rfl, .inr (.inl rfl)⟩
    · exact ⟨61, rfl, .inr (.inr rfl)⟩
  simp! [k1, hf]
  refine CA.Zx g1.bag (by omega) fun t M2 t0 t1 g2 => ?_
  have G2 := G1.trans g2
  simp! [Zl]
  have f2 : 0 ≤ far / 2 ∧ far / 2 ≤ 30 := by omega
  refine Zka (fun ρ M' => ∃ tp : Int, ρ = [some (.ref n), some (.int far), some (.int tp)] ∧ (-1000000000000 < tp ∧ tp < 1000000000000) ∧ Gr n M M') ?_ ?_
  · refine brS (fun z => ?_) (fun z => ?_)
    · simp! [Zl]
      refine CA.Zx G2.bag (by decide) fun a M3 a0 a1 g3 => ?_
      simp! [Zl]
      refine CA.Zx g3.bag (by decide) fun b M4 b0 b1 g4 => ?_
      have G4 := (G2.trans g3).trans g4
      have h4 := G4.bag
      simp! [Zl]
      refine CA.Zx (h4.app _) (by decide) fun s M5 s0 s1 g5 => ?_
      have k5 := Gr.new h4 g5
      have G5 : Gr n M M5 := G4.trans ((Gr.app h4 _).trans g5)
      obtain ⟨sg, hs', sg0⟩ : ∃ f : Int, atI [D.int 1, D.int (-1)] s = some (.int f) ∧ (f = 1 ∨ f = -1) := by
        have : s = 0 ∨ s = 1 := by omega
        rcases this with rfl | rfl
        · exact ⟨1, rfl, .inl rfl⟩
        · exact ⟨-1, rfl, .inr rfl⟩
      simp! [k5, hs']
      refine ⟨_, rfl, ?_, G5⟩
      rcases sg0 with e | e <;> rw [e] <;> omega
    · simp! [Zl]
      exact ⟨_, rfl, by omega, G2⟩
  rintro _ M3 ⟨tp, rfl, htp, G3⟩
  have h3 := G3.bag
  simp! [Zl]
  refine CA.Zx (h3.app _) (by decide) fun s M5 s0 s1 g5 => ?_
  have k5 := Gr.new h3 g5
  have G5 : Gr n M M5 := G3.trans ((Gr.app h3 _).trans g5)
  obtain ⟨sg, hs', sg0⟩ : ∃ f : Int, atI [D.int 1, D.int 12] s = some (.int f) ∧ (f = 1 ∨ f = 12) := by
    have : s = 0 ∨ s = 1 := by omega
    rcases this with rfl | rfl
    · exact ⟨1, rfl, .inl rfl⟩
    · exact ⟨12, rfl, .inr rfl⟩
  simp! [k5, hs']
  refine CA.Zx G5.bag (by omega) fun u M6 u0 u1 g6 => ?_
  simp! [Zl]
  obtain ⟨bn, hbn⟩ : ∃ k : Nat, 1 + u = k := ⟨(1 + u).toNat, by omega⟩
  rw [hbn]
  have bz : bn ≠ 0 := by omega
  rw [Zfh (k := 40) bz (by omega) (by decide)]
  exact q _ _ (CR.ZdR (t := tp) (k := 40) bz (by omega) (by omega)) (G5.trans g6)
end
end CU
end
section
set_option Elab.async false
set_option linter.all false
set_option maxRecDepth 100000
set_option maxHeartbeats 4000000
namespace CV
open PySem PySem.Spec L2 DL
open CR (rt Sz)
open CH (rts ZL ZaU)
open CN CU CS
noncomputable def Kp (M M' : Sto) : Prop := M.length ≤ M'.length ∧ ∀ j < M.length, M'[j]? = M[j]?
section
variable {M M' M1 M2 : Sto} {o : SO} {j : Nat}
theorem Kp.of (l : M.length ≤ M'.length) (g : ∀ j < M.length, M'[j]? = M[j]?) : Kp M M' := ⟨l, g⟩
theorem Kp.get (k : Kp M M') (h : M[j]? = some o) : M'[j]? = some o := (k.2 _ (Zy h)).trans h
theorem Kp.refl : Kp M M := ⟨Nat.le_refl _, fun _ _ => rfl⟩
theorem Kp.trans (a : Kp M M1) (b : Kp M1 M2) : Kp M M2 := ⟨Nat.le_trans a.1 b.1, fun j h => (b.2 j (Nat.lt_of_lt_of_le h a.1)).trans (a.2 j h)⟩
theorem Kp.app {L : Sto} : Kp M (M ++ L) := ⟨by simp, fun j h => ZaF h⟩
theorem Kp.set (a : Kp M M1) (h : M.length ≤ j) : Kp M (M1.set j o) := ⟨by rw [List.length_set]; exact a.1, fun i hi => by rw [List.getElem?_set_ne (by omega)]; exact a.2 i hi⟩
theorem Kp.bag {n : Nat} (k : Kp M M') (b : Bag n M) : Bag n M' := (CY.Gr.of b k.1 k.2).bag
theorem Kp.gr {n : Nat} (k : Kp M M') (b : Bag n M) : Gr n M M' := CY.Gr.of b k.1 k.2
end
theorem Zop {a b : Nat} {x : Rat} (h : Sz a x) (hab : a ≤ b) : Sz b x := ⟨Nat.lt_of_lt_of_le h.1 (Nat.pow_le_pow_right (by decide) hab), Nat.lt_of_lt_of_le h.2 (Nat.pow_le_pow_right (by decide) hab)⟩
section
variable {Q : D → Sto → Prop} {E : Str → Sto → Prop} {M : Sto} {k l : Nat} {p q : Rat} {n m o : Nat} {rs : List Pt} {hs xs ys zs u v : List Rat} {i : Int} {f : Ev} {ρ : Ro} {mu mv N : Nat}
theorem Zgw {N : Nat} : ZaD ((List.range N).map fun _ => D.bl true) = some (List.replicate N true) := by
  have : ∀ xs : List Nat, ZaD (xs.map fun _ => D.bl true) = some (List.replicate xs.length true) := by
    intro xs
    induction xs with
    | nil => rfl
    | cons x xs ih => simp only [List.map_cons, ZaD, ih, List.length_cons, List.replicate_succ]
  rw [this, List.length_range]
end
end CV
end
section
set_option Elab.async false
set_option linter.all false
set_option maxRecDepth 100000
set_option maxHeartbeats 4000000
namespace CW
open PySem PySem.Spec L2 DL
open CE (F_numbers)
end CW
end
section
set_option Elab.async false
set_option linter.all false
set_option maxRecDepth 100000
set_option maxHeartbeats 4000000
namespace CW
open PySem PySem.Spec L2 DL
open CV
section
variable {Q : D → Sto → Prop} {E : Str → Sto → Prop} {M : Sto} {n m : Nat} {rs : List Pt}
end
end CW
end
section
set_option Elab.async false
set_option linter.all false
set_option maxRecDepth 100000
set_option maxHeartbeats 4000000
namespace CB
open PySem PySem.Spec L2 DL
theorem mid {a b p w : Pt} (h1 : 0 < X a p) (h2 : 0 < X p b) (h : 0 < X a b) : in1 w a b = in1 w a p + in1 w p b ∧ in2 w a b = in2 w a p + in2 w p b := by
  have e : X a b * X p w = X p b * X a w - X a p * X w b := by unfold X; grind
  have s := ZgX (p := w) (q := p)
  have k1 : 0 ≤ X a w → 0 ≤ X p b * X a w := fun z => Int.mul_nonneg (by omega) z
  have k2 : 0 < X a w → 0 < X p b * X a w := fun z => Int.mul_pos h2 z
  have k3 : X a w ≤ 0 → X p b * X a w ≤ 0 := fun z => Int.mul_nonpos_of_nonneg_of_nonpos (by omega) z
  have k3' : X a w < 0 → X p b * X a w < 0 := fun z => Int.mul_neg_of_pos_of_neg h2 z
  have l1 : 0 ≤ X w b → 0 ≤ X a p * X w b := fun z => Int.mul_nonneg (by omega) z
  have l2 : 0 < X w b → 0 < X a p * X w b := fun z => Int.mul_pos h1 z
  have l3 : X w b ≤ 0 → X a p * X w b ≤ 0 := fun z => Int.mul_nonpos_of_nonneg_of_nonpos (by omega) z
  have l3' : X w b < 0 → X a p * X w b < 0 := fun z => Int.mul_neg_of_pos_of_neg h1 z
  have m1 : 0 ≤ X p w → 0 ≤ X a b * X p w := fun z => Int.mul_nonneg (by omega) z
  have m2 : 0 < X p w → 0 < X a b * X p w := fun z => Int.mul_pos h z
  have m3 : X p w ≤ 0 → X a b * X p w ≤ 0 := fun z => Int.mul_nonpos_of_nonneg_of_nonpos (by omega) z
  have m3' : X p w < 0 → X a b * X p w < 0 := fun z => Int.mul_neg_of_pos_of_neg h z
  unfold in1 in2
  rw [s]
  generalize X a b * X p w = z at *
  generalize X p b * X a w = y at *
  generalize X a p * X w b = x at *
  generalize X a w = aw at *
  generalize X w b = wb at *
  generalize X p w = pw at *
  constructor
  all_goals
    repeat' split
    all_goals omega
noncomputable def Add (f : Pt → Pt → Nat) : Prop := ∀ a b p, 0 < X a p → 0 < X p b → 0 < X a b → f a b = f a p + f p b
theorem Zs5 {w : Pt} : Add (in1 w) := fun _ _ _ h1 h2 h => (mid h1 h2 h).1
theorem Zs6 {w : Pt} : Add (in2 w) := fun _ _ _ h1 h2 h => (mid h1 h2 h).2
theorem Zoq {f : Pt → Pt → Nat} (hf : Add f) : ∀ (n : Nat) (t b : Int) (a r v : Pt), b.toNat = n → 0 ≤ b → b < t → X a r = 1 → X a v = t → X r v = b → cc f (a :: (btw a r (hj t b) ++ [v])) = f a v := by
  intro n
  induction n using Nat.strongRecOn with
  | ind n ih =>
    intro t b a r v hb h0 ht h1 h2 h3
    unfold hj
    by_cases h : 0 < b
    · rw [dif_pos h]
      have nx := ZbZ (t := t) h
      generalize hk : -((-t) / b) = k at *
      have q := ih (k * b - t).toNat (by omega) b (k * b - t) r (k * r.1 - a.1, k * r.2 - a.2) v rfl nx.1 nx.2 (by unfold X at *; simp only; grind) h3 (by unfold X at *; simp only; grind)
      rw [btw, List.cons_append, cc, q]
      exact (hf a v r (by omega) (by omega) (by omega)).symm
    · rw [dif_neg h, btw]
      simp [cc]
noncomputable def nx1 (a b : Pt) : Nat := if X a b = 1 then 0 else 1
theorem Zor : ∀ (l : List Pt), Ch l → cc nx1 l = 0
  | [], _ => rfl
  | [_], _ => rfl
  | a :: b :: r, h => by
    rw [cc, Zor (b :: r) h.2]
    unfold nx1
    rw [if_pos h.1]
noncomputable def fbv (u v : Pt) : Pt := @dite _ (∃ w, Fb u v w) (Classical.propDecidable _) (fun h => h.choose) (fun _ => (0, 0))
theorem Zfk {u v : Pt} (h : Wg u v) : Fb u v (fbv u v) := by
  have e := Zqr h
  unfold fbv
  rw [dif_pos e]
  exact e.choose_spec
noncomputable def seg (u v : Pt) : List Pt := u :: btw u (fbv u v) (hj (X u v) (X (fbv u v) v))
noncomputable def Zcn : List Pt → List Pt
  | a :: b :: r => seg a b ++ Zcn (b :: r)
  | _ => []
noncomputable def Wgs : List Pt → Prop
  | a :: b :: r => Wg a b ∧ Wgs (b :: r)
  | _ => True
theorem Zkn {f : Pt → Pt → Nat} (hf : Add f) {u v : Pt} (h : Wg u v) : cc f (seg u v ++ [v]) = f u v := by
  have k := Zfk h
  exact Zoq hf _ _ _ u _ v rfl k.lo k.hi k.one rfl rfl
theorem ZlK {u v : Pt} (h : Wg u v) : cc nx1 (seg u v ++ [v]) = 0 := Zor _ (ZlC h (Zfk h))
theorem ZiG {f g : Pt → Pt → Nat} (hs : ∀ u v, Wg u v → cc f (seg u v ++ [v]) = g u v) : ∀ (L : List Pt) (z : Pt), Wgs (L ++ [z]) → cc f (Zcn (L ++ [z]) ++ [z]) = cc g (L ++ [z]) ∧ ∃ r, Zcn (L ++ [z]) ++ [z] = (L ++ [z]).head (by simp) :: r
  | [], z, _ => by simp [Zcn, cc]
  | [a], z, h => by
    have := hs a z h.1
    refine ⟨?_, ?_⟩
    · simp only [List.cons_append, List.nil_append, Zcn, List.append_nil, cc]
      rw [this]
      omega
    · simp [Zcn, seg]
  | a :: b :: L, z, h => by
    obtain ⟨i1, r, i2⟩ := ZiG hs (b :: L) z h.2
    have := hs a b h.1
    simp only [List.cons_append, List.head_cons] at i1 i2
    refine ⟨?_, ?_⟩
    · simp only [List.cons_append, Zcn, List.append_assoc, cc]
      rw [i2, Zcw, this, ← i2, i1]
    · simp only [List.cons_append, Zcn, seg]
      exact ⟨_, rfl⟩
noncomputable def lrd (rs : List Pt) : List Pt := Zcn (rs ++ rs.take 1)
theorem ZgC : ∀ (L : List Pt), L.length ≤ (Zcn L).length + 1
  | [] => by simp
  | [_] => by simp
  | a :: b :: r => by
    have := ZgC (b :: r)
    simp only [Zcn, seg, List.length_append, List.length_cons] at *
    omega
theorem ZiH {a b : Pt} {r : List Pt} : ∃ s, Zcn (a :: b :: r) = a :: s := ⟨_, rfl⟩
theorem ZfW {f g : Pt → Pt → Nat} (hs : ∀ u v, Wg u v → cc f (seg u v ++ [v]) = g u v) {a : Pt} {r : List Pt} (hr : r ≠ []) (h : Wgs (a :: r ++ [a])) : cyc f (lrd (a :: r)) = cyc g (a :: r) := by
  have k := (ZiG hs (a :: r) a h).1
  have e : lrd (a :: r) = Zcn (a :: r ++ [a]) := by simp [lrd]
  obtain ⟨b, r', rfl⟩ := List.exists_cons_of_ne_nil hr
  obtain ⟨s, hs'⟩ := ZiH (a := a) (b := b) (r := r' ++ [a])
  have e2 : lrd (a :: b :: r') = a :: s := by rw [e]; simpa using hs'
  rw [e2, Za8, Za8]
  have : a :: (s ++ [a]) = Zcn (a :: b :: r' ++ [a]) ++ [a] := by rw [← e, e2]; simp
  rw [this, k]
  simp
theorem Zqy {rs : List Pt} (hl : rs ≠ []) (h : cyc nx1 rs = 0) (i : Int) : X (cy rs i) (cy rs (i + 1)) = 1 := by
  have l0 : rs.length ≠ 0 := fun z => hl (List.length_eq_zero_iff.mp z)
  refine Zdb (P := fun a b => X a b = 1) l0 ?_ i
  intro i h0 h1
  obtain ⟨k, rfl⟩ := Int.eq_ofNat_of_zero_le h0
  have hk : k < rs.length := by omega
  obtain ⟨L, a, R, e, hL⟩ : ∃ L a R, rs = L ++ a :: R ∧ L.length = k := ⟨rs.take k, rs[k], rs.drop (k + 1), by rw [List.getElem_cons_drop, List.take_append_drop], by simp; omega⟩
  have ca : cy rs k = a := by rw [e, ← hL]; exact Zfc
  have z : ∀ b R', rs ++ rs.take 1 = L ++ a :: b :: R' → X a b = 1 := by
    intro b R' e2
    unfold cyc at h
    rw [e2] at h
    have := Zob (f := nx1) (L := L) (a := a) (b := b) (R := R')
    have n0 : nx1 a b = 0 := by omega
    unfold nx1 at n0
    split at n0
    · assumption
    · omega
  rw [ca]
  cases R with
  | cons b R =>
    have cb : cy rs (k + 1) = b := by rw [e, ← hL]; exact Zij
    rw [show ((k : Nat) : Int) + 1 = (k : Int) + 1 from rfl, cb]
    exact z b (R ++ rs.take 1) (by rw [e]; simp)
  | nil =>
    obtain ⟨c, t, ht⟩ := List.exists_cons_of_ne_nil hl
    have cb : cy rs (k + 1) = c := by
      have lt := congrArg List.length ht
      have le := congrArg List.length e
      simp at lt le
      have := ZfP (r := t) (a := c)
      rw [ht]
      rw [show ((k : Nat) : Int) + 1 = (t.length : Int) + 1 by omega]
      exact this
    rw [cb]
    refine z c [] ?_
    have : rs.take 1 = [c] := by rw [ht]; rfl
    rw [this, e]
    simp
theorem ZlL {a : Pt} {r : List Pt} (h2 : 2 ≤ r.length) (h : Wgs (a :: r ++ [a])) (hF : Fan (a :: r)) : Smo (lrd (a :: r)) := by
  have hr : r ≠ [] := by intro z; rw [z] at h2; simp at h2
  have ll := ZgC (a :: r ++ [a])
  have e : lrd (a :: r) = Zcn (a :: r ++ [a]) := by simp [lrd]
  have l3 : 3 ≤ (lrd (a :: r)).length := by rw [e]; simp at ll ⊢; omega
  have ne : lrd (a :: r) ≠ [] := by intro z; rw [z] at l3; simp at l3
  refine ⟨l3, ?_, ?_⟩
  · refine Zqy ne ?_
    rw [ZfW (f := nx1) (g := fun _ _ => 0) (fun u v w => ZlK w) hr h]
    have : ∀ L : List Pt, cc (fun _ _ => 0) L = 0 := by
      intro L
      induction L with
      | nil => rfl
      | cons x L ih =>
        cases L with
        | nil => rfl
        | cons y L => simp only [cc, ih]
    unfold cyc
    exact this _
  · intro w hw
    rw [ZfW (fun u v z => Zkn Zs5 z) hr h, ZfW (fun u v z => Zkn Zs6 z) hr h]
    exact hF w hw
theorem Zos {f : Pt} : ∀ (r : List Pt) (a b : Pt), Cv (a :: b :: r) → (∀ x ∈ a :: b :: r, 0 ≤ dt f x) → dt f a < dt f b → ∀ x ∈ r, dt f b < dt f x
  | [], _, _, _, _, _ => by simp
  | d :: r, a, b, h, hp, hl => by
    obtain ⟨k, k2, e1, e2⟩ := h.1
    have eq : dt f a + dt f d = k * dt f b := by
      unfold dt
      have : f.1 * a.1 + f.2 * a.2 + (f.1 * d.1 + f.2 * d.2) = f.1 * (a.1 + d.1) + f.2 * (a.2 + d.2) := by grind
      rw [this, e1, e2]
      grind
    have h0 := hp b (by simp)
    have : 2 * dt f b ≤ k * dt f b := Int.mul_le_mul_of_nonneg_right k2 h0
    have lt : dt f b < dt f d := by omega
    intro x hx
    rcases List.mem_cons.mp hx with rfl | hx
    · exact lt
    · have := Zos r b d h.2 (fun y hy => hp y (by simp [hy])) lt x hx
      omega
theorem Zot {f : Pt} {c : Int} : ∀ (l : List Pt) (a z : Pt), Cv (a :: (l ++ [z])) → (∀ x ∈ a :: (l ++ [z]), 0 ≤ dt f x) → dt f a ≤ c → dt f z ≤ c → ∀ x ∈ l, dt f x ≤ c
  | [], _, _, _, _, _, _ => by simp
  | b :: l, a, z, h, hp, ha, hz => by
    by_cases k : dt f b ≤ c
    · intro x hx
      rcases List.mem_cons.mp hx with rfl | hx
      · exact k
      · refine Zot l b z ?_ (fun y hy => hp y (by simp at hy ⊢; simp [hy])) k hz x hx
        cases l with
        | nil => exact h.2
        | cons d l => exact h.2
    · have := Zos (l ++ [z]) a b h (fun y hy => hp y (by simpa using hy)) (by omega) z (by simp)
      omega
theorem ZlM {u v w : Pt} (h : Wg u v) (hw : Fb u v w) {B : Int} (hB : 0 ≤ B) (hu : Bd B u) (hv : Bd B v) : ∀ x ∈ btw u w (hj (X u v) (X w v)), Bd B x := by
  intro x hx
  have a1 := fun x hx => Zqu _ _ _ u w v rfl hw.lo hw.hi rfl rfl x hx
  have uu : X u u = 0 := by unfold X; grind
  have vv : X v v = 0 := by unfold X; grind
  have a2 := (Zqv (u := u) _ _ _ u w v rfl hw.lo hw.hi hw.one rfl rfl h.gv (by omega) (by have := hw.one; omega)).2
  have cv := (Zod _ _ _ u w v rfl hw.lo hw.hi hw.one rfl rfl h.gv).1
  have hp := h.pos
  have df : ∀ y : Pt, dt (v.2 - u.2, u.1 - v.1) y = X y v + X u y := by intro y; unfold dt X; simp only; grind
  have le := Zot (f := (v.2 - u.2, u.1 - v.1)) (c := X u v) _ u v cv (by
    intro y hy
    rw [df]
    rcases List.mem_cons.mp hy with rfl | hy
    · omega
    · rcases List.mem_append.mp hy with hy | hy
      · have := a1 y hy; have := a2 y hy; omega
      · simp at hy; subst hy; omega) (by rw [df]; omega) (by rw [df]; omega) x hx
  rw [df] at le
  have b1 := a1 x hx
  have b2 := a2 x hx
  have e1 : X u v * x.1 = X x v * u.1 + X u x * v.1 := by unfold X; grind
  have e2 : X u v * x.2 = X x v * u.2 + X u x * v.2 := by unfold X; grind
  have mb : ∀ y z : Int, -B ≤ y → y ≤ B → -B ≤ z → z ≤ B → -(X u v * B) ≤ X x v * y + X u x * z ∧ X x v * y + X u x * z ≤ X u v * B := by
    intro y z y0 y1 z0 z1
    have q1 : X x v * y ≤ X x v * B := Int.mul_le_mul_of_nonneg_left y1 b1.1
    have q2 : X u x * z ≤ X u x * B := Int.mul_le_mul_of_nonneg_left z1 b2.1
    have q3 : X x v * -B ≤ X x v * y := Int.mul_le_mul_of_nonneg_left y0 b1.1
    have q4 : X u x * -B ≤ X u x * z := Int.mul_le_mul_of_nonneg_left z0 b2.1
    have q5 : (X x v + X u x) * B ≤ X u v * B := Int.mul_le_mul_of_nonneg_right le hB
    rw [Int.add_mul] at q5
    rw [Int.mul_neg] at q3 q4
    omega
  have fin : ∀ y : Int, -(X u v * B) ≤ X u v * y → X u v * y ≤ X u v * B → -B ≤ y ∧ y ≤ B := by
    intro y h1 h2
    refine ⟨?_, Int.le_of_mul_le_mul_left h2 hp⟩
    rw [← Int.mul_neg] at h1
    exact Int.le_of_mul_le_mul_left h1 hp
  obtain ⟨⟨u1, u2⟩, u3, u4⟩ := hu
  obtain ⟨⟨v1, v2⟩, v3, v4⟩ := hv
  have m1 := mb u.1 v.1 u1 u2 v1 v2
  have m2 := mb u.2 v.2 u3 u4 v3 v4
  rw [← e1] at m1
  rw [← e2] at m2
  exact ⟨fin _ m1.1 m1.2, fin _ m2.1 m2.2⟩
theorem ZiI {B : Int} (hB : 0 ≤ B) : ∀ (L : List Pt), Wgs L → (∀ x ∈ L, Bd B x) → ∀ x ∈ Zcn L, Bd B x
  | [], _, _ => by simp [Zcn]
  | [_], _, _ => by simp [Zcn]
  | a :: b :: r, h, hb => by
    intro x hx
    simp only [Zcn, seg] at hx
    rcases List.mem_append.mp hx with hx | hx
    · rcases List.mem_cons.mp hx with rfl | hx
      · exact hb x (by simp)
      · exact ZlM h.1 (Zfk h.1) hB (hb a (by simp)) (hb b (by simp)) x hx
    · exact ZiI hB (b :: r) h.2 (fun y hy => hb y (by simp at hy ⊢; simp [hy])) x hx
end CB
end
section
set_option Elab.async false
set_option linter.all false
set_option maxRecDepth 100000
set_option maxHeartbeats 4000000
namespace CL
open PySem PySem.Spec L2 DL
open CC (F_following)
open CB (F_between)
noncomputable def Zak : Sv := (Zn (Z3 (Zc6 mApp (Zd 1) (Za (Zd 3) aNil)))
  (Z3 (Zc6 mExt (Zd 1) (Za (Zg F_between (Za (Zd 3) (Za (Zg F_following (Za (Zd 0) (Za (Zd 2) aNil))) aNil))) aNil))))
noncomputable def Zbe : Sv := (Zn (Zt (gNm 1) (Zag aNil))
  (Zn (ZcR (gTp (gCs (gNm 2) (gCs (gNm 3) gNl))) (iEn (Za (Zd 0) aNil)) Zak)
  (ZF (Zd 1))))
noncomputable def F_least_round : List D → Sto → Out D := fnF Zbe 1 3
end CL
end
section
set_option Elab.async false
set_option linter.all false
set_option maxRecDepth 100000
set_option maxHeartbeats 4000000
namespace CL
open PySem PySem.Spec L2 DL
open CV CB
theorem Zfl : ∀ (L : List Pt) (a b : Pt), Zcn (L ++ [a, b]) = Zcn (L ++ [a]) ++ seg a b
  | [], a, b => by simp [Zcn]
  | [x], a, b => by simp [Zcn]
  | x :: y :: L, a, b => by
    have := Zfl (y :: L) a b
    simp only [List.cons_append, Zcn, List.append_assoc] at this ⊢
    rw [this]
theorem ZiJ : ∀ (L : List Pt) {a b : Pt} {R : List Pt}, Wgs (L ++ a :: b :: R) → Wg a b
  | [], _, _, _, h => h.1
  | [x], _, _, _, h => h.2.1
  | x :: y :: L, _, _, _, h => ZiJ (y :: L) h.2
theorem ZiK {u v : Pt} (h : Wg u v) (hl : X u v ≤ 90000) : (seg u v).length ≤ 90001 := by
  have k := Zfk h
  unfold seg
  rw [List.length_cons, Zis]
  have := Zkg _ (X u v) (X (fbv u v) v) rfl
  have := k.hi
  have := k.lo
  omega
theorem ZiL : ∀ (L : List Pt), Wgs L → (∀ A a b R, L = A ++ a :: b :: R → X a b ≤ 90000) → (Zcn L).length ≤ 90001 * L.length
  | [], _, _ => by simp [Zcn]
  | [_], _, _ => by simp [Zcn]
  | a :: b :: r, h, hx => by
    have i := ZiL (b :: r) h.2 fun A x y R e => hx (a :: A) x y R (by rw [e]; rfl)
    have s := ZiK h.1 (hx [] a b r rfl)
    simp only [Zcn, List.length_append, List.length_cons] at *
    omega
section
variable {Q : D → Sto → Prop} {E : Str → Sto → Prop} {M : Sto} {n : Nat}
theorem ZlN {rs : List Pt} (h : M[n]? = some (.lst (prs rs))) (hne : rs ≠ []) (hw : Wgs (rs ++ rs.take 1)) (hl : rs.length ≤ 61) (hx : ∀ x ∈ rs, Bd 200 x) (q : ∀ M', Kp M M' → M'[M.length]? = some (.lst (prs (lrd rs))) → Q (.ref M.length) M') : wO (F_least_round [.ref n] M) Q E := by
  have hn := Zy h
  have l0 : 0 < rs.length := List.length_pos_iff.mpr hne
  have xl : ∀ A x y R, rs ++ rs.take 1 = A ++ x :: y :: R → X x y ≤ 90000 := by
    intro A x y R e
    have m : ∀ z ∈ rs ++ rs.take 1, Bd 200 z := fun z hz => by
      rcases List.mem_append.mp hz with hz | hz
      · exact hx z hz
      · exact hx z (List.mem_of_mem_take hz)
    have := Zs4 (m x (by rw [e]; simp)) (m y (by rw [e]; simp))
    omega
  have ga : ∀ i : Nat, i ≤ rs.length → (rs ++ rs.take 1)[i]? = some (cy rs i) := by
    intro i hi
    by_cases c : i < rs.length
    · rw [List.getElem?_append_left c, ZbI (by omega), ZbY (by omega), List.getElem?_eq_getElem c]
      simp
    · have : i = rs.length := by omega
      subst this
      rw [List.getElem?_append_right (Nat.le_refl _), Nat.sub_self, ← ZdK, Int.sub_self, ZbI (by omega), ZbY (by omega)]
      rw [List.getElem?_take_of_lt (by decide), List.getElem?_eq_getElem (by omega)]
      simp
  have lch : (rs ++ rs.take 1).length = rs.length + 1 := by simp; omega
  have e : lrd rs = Zcn (rs ++ rs.take 1) := rfl
  rw [e] at q
  generalize rs ++ rs.take 1 = ch at *
  have cut : ∀ i : Nat, i < rs.length → ch.take (i + 2) = ch.take i ++ [cy rs i, cy rs (i + 1)] ∧ ch.take (i + 1) = ch.take i ++ [cy rs i] := by
    intro i hi
    have g1 := ga i (by omega)
    have g2 := ga (i + 1) (by omega)
    constructor
    · rw [List.take_add_one, List.take_add_one, g1, g2]
      simp
    · rw [List.take_add_one, g1]
      simp
  simp! [F_least_round, Zbe]
  have K1 : Kp M (M ++ [SO.lst []]) := Kp.app
  have r1 : (M ++ [SO.lst []])[M.length]? = some (.lst (prs (Zcn (ch.take (0 + 1))))) := by
    rw [Zd0]
    obtain ⟨c, cs, rfl⟩ := List.exists_cons_of_ne_nil (show ch ≠ [] by intro z; rw [z] at lch; simp at lch)
    simp [Zcn, prs]
  generalize M ++ [SO.lst []] = M1 at *
  have h1 := K1.get h
  refine Zfb (fun i ρ M' => (∃ x2 x3, ρ = [some (.ref n), some (.ref M.length), x2, x3]) ∧ Kp M M' ∧ M'[M.length]? = some (.lst (prs (Zcn (ch.take (i + 1)))))) h1 ⟨⟨_, _, rfl⟩, K1, r1⟩ (fun i ρ M' hI => hI.2.1.get h) ?_ ?_
  · rintro i ρ M2 hi ⟨⟨x2, x3, rfl⟩, K2, r2⟩
    rw [CC.ZcD hi]
    rw [ZJ] at hi
    obtain ⟨c1, c2⟩ := cut i hi
    have hch : ch = ch.take i ++ cy rs i :: cy rs (i + 1) :: ch.drop (i + 2) := by
      have := List.take_append_drop (i + 2) ch
      rw [c1] at this
      simpa using this.symm
    have hW : Wg (cy rs i) (cy rs (i + 1)) := ZiJ (ch.take i) (R := ch.drop (i + 2)) (by rw [← hch]; exact hw)
    have hX : X (cy rs i) (cy rs (i + 1)) ≤ 90000 := xl (ch.take i) _ _ (ch.drop (i + 2)) hch
    have sl : (Zcn (ch.take (i + 1))).length ≤ 90001 * 62 := by
      have w1 : Wgs (ch.take (i + 1)) := by
        have : ∀ (L R : List Pt), Wgs (L ++ R) → Wgs L := by
          intro L
          induction L with
          | nil => intro R _; exact trivial
          | cons x L ih =>
            intro R h
            cases L with
            | nil => exact trivial
            | cons y L => exact ⟨h.1, ih R h.2⟩
        exact this _ (ch.drop (i + 1)) (by rw [List.take_append_drop]; exact hw)
      have := ZiL _ w1 (fun A x y R e => xl A x y (R ++ ch.drop (i + 1)) (by
        have t := List.take_append_drop (i + 1) ch
        rw [e] at t
        exact t.symm.trans (by simp)))
      have l2 : (ch.take (i + 1)).length ≤ 62 := by rw [List.length_take]; omega
      have := Nat.mul_le_mul_left 90001 l2
      omega
    have lr2 := Zy r2
    have fol : ∀ {Q : D → Sto → Prop} {M' : Sto}, M'[n]? = some (.lst (prs rs)) → wO (CC.F_following [.ref n, .int i] M') Q E = Q (pr (cy rs (i + 1)).1 (cy rs (i + 1)).2) M' := fun h' => CC.ZcC h' (by omega)
    generalize hsg : Zcn (ch.take (i + 1)) = sg at *
    simp! [Zak, r2, ZJ]
    refine ⟨by omega, ?_⟩
    have K3 : Kp M (M2.set M.length (SO.lst (prs (sg ++ [((cy rs i).1, (cy rs i).2)])))) := K2.set (Nat.le_refl _)
    have r3 : (M2.set M.length (SO.lst (prs (sg ++ [((cy rs i).1, (cy rs i).2)]))))[M.length]? = some (.lst (prs (sg ++ [((cy rs i).1, (cy rs i).2)]))) := List.getElem?_set_self lr2
    generalize M2.set M.length (SO.lst (prs (sg ++ [((cy rs i).1, (cy rs i).2)]))) = M3 at *
    have lr3 := Zy r3
    rw [fol (K3.get h)]
    simp! [Zl]
    refine Zit hW (Zfk hW) hX ?_
    have bl : (btw (cy rs i) (fbv (cy rs i) (cy rs (i + 1))) (hj (X (cy rs i) (cy rs (i + 1))) (X (fbv (cy rs i) (cy rs (i + 1))) (cy rs (i + 1))))).length ≤ 90001 := by
      have := ZiK hW hX
      unfold seg at this
      rw [List.length_cons] at this
      omega
    simp! [r3, ZJ]
    refine ⟨by omega, ⟨_, _, rfl⟩, (K3.trans Kp.app).set (Nat.le_refl _), ?_⟩
    rw [List.getElem?_set_self (by simp; omega), show i + 1 + 1 = i + 2 from rfl, c1, Zfl, ← c2, hsg]
    simp [seg]
  · rintro ρ M2 ⟨⟨x2, x3, rfl⟩, K2, r2⟩
    simp! [Zl]
    rw [ZJ, List.take_of_length_le (by omega)] at r2
    exact q _ K2 r2
end
end CL
end
section
set_option Elab.async false
set_option linter.all false
set_option maxRecDepth 100000
set_option maxHeartbeats 4000000
namespace TW
open DL
noncomputable def nx (b : Int) (p q : Pt) : Pt := (0 - b * q.1 - p.1, 0 - b * q.2 - p.2)
noncomputable def ng (p : Pt) : Pt := (0 - p.1, 0 - p.2)
noncomputable def run (p q : Pt) : List Int → Pt × Pt
  | [] => (p, q)
  | b :: bs => run q (nx b p q) bs
noncomputable def ew (p q : Pt) : Nat := in1 (1, 0) p q + in1 (-1, 0) p q
noncomputable def tot (p q : Pt) : List Int → Int
  | [] => 0
  | b :: bs => 6 * (ew p q : Int) - b - 3 + tot q (nx b p q) bs
theorem ZjD {p q : Pt} {b : Int} (h : X p q = 1) : X q (nx b p q) = 1 := by unfold X nx at *; simp only; grind
theorem ZlO : ∀ (bs : List Int) {p q : Pt}, X p q = 1 → X (run p q bs).1 (run p q bs).2 = 1
  | [], _, _, h => h
  | b :: bs, _, _, h => ZlO bs (ZjD h)
theorem ZaC : ∀ (xs ys : List Int) (p q : Pt), run p q (xs ++ ys) = run (run p q xs).1 (run p q xs).2 ys
  | [], _, _, _ => rfl
  | b :: xs, ys, p, q => ZaC xs ys q (nx b p q)
theorem ZaH : ∀ (xs ys : List Int) (p q : Pt), tot p q (xs ++ ys) = tot p q xs + tot (run p q xs).1 (run p q xs).2 ys
  | [], _, _, _ => by simp [tot, run]
  | b :: xs, ys, p, q => by
    have := ZaH xs ys q (nx b p q)
    simp only [List.cons_append, tot, run] at *
    omega
theorem Zou {b : Int} {p q : Pt} : nx b (ng p) (ng q) = ng (nx b p q) := by unfold nx ng; simp only [Prod.mk.injEq]; constructor <;> grind
theorem ZlP {p : Pt} : ng (ng p) = p := by unfold ng; ext <;> simp
theorem Zqz {p q : Pt} : ew (ng p) (ng q) = ew p q := by
  have e : ∀ (w a b : Pt), in1 w (ng a) (ng b) = in1 (ng w) a b := by
    intro w a b
    have h1 : X (ng a) w = X a (ng w) := by unfold X ng; simp only; grind
    have h2 : X w (ng b) = X (ng w) b := by unfold X ng; simp only; grind
    unfold in1
    rw [h1, h2]
  unfold ew
  rw [e, e, show ng (1, 0) = (-1, 0) from rfl, show ng (-1, 0) = (1, 0) from rfl, Nat.add_comm]
theorem ZgD : ∀ (bs : List Int) (p q : Pt), run (ng p) (ng q) bs = (ng (run p q bs).1, ng (run p q bs).2)
  | [], _, _ => rfl
  | b :: bs, p, q => by rw [run, run, Zou, ZgD bs]
theorem ZgE : ∀ (bs : List Int) (p q : Pt), tot (ng p) (ng q) bs = tot p q bs
  | [], _, _ => rfl
  | b :: bs, p, q => by rw [tot, tot, Zou, ZgE bs, Zqz]
noncomputable def Sg (s : Bool) (p : Pt) : Pt := if s = true then ng p else p
theorem Zov {s : Bool} {bs : List Int} {p q : Pt} : run (Sg s p) (Sg s q) bs = (Sg s (run p q bs).1, Sg s (run p q bs).2) := by
  cases s
  · rfl
  · exact ZgD bs p q
theorem Zow {s : Bool} {bs : List Int} {p q : Pt} : tot (Sg s p) (Sg s q) bs = tot p q bs := by
  cases s
  · rfl
  · exact ZgE bs p q
theorem ZfX {a m : Pt} (h : 0 < X a m) : ew a m + ew m (ng a) = 1 := by
  have z : ¬ (a.2 = 0 ∧ m.2 = 0) := by
    intro z
    unfold X at h
    rw [z.1, z.2] at h
    simp at h
  have f : ∀ (w p q : Pt) (x y : Int), X p w = x → X w q = y → in1 w p q = if 0 ≤ x ∧ 0 < y then 1 else 0 := by
    intro w p q x y h1 h2
    unfold in1
    rw [h1, h2]
  unfold ew
  rw [f (1, 0) a m (0 - a.2) m.2 (by unfold X; simp) (by unfold X; simp), f (-1, 0) a m a.2 (0 - m.2) (by unfold X; simp) (by unfold X; simp), f (1, 0) m (ng a) (0 - m.2) (0 - a.2) (by unfold X; simp) (by unfold X ng; simp), f (-1, 0) m (ng a) m.2 a.2 (by unfold X; simp) (by unfold X ng; simp)]
  generalize a.2 = x at *
  generalize m.2 = y at *
  repeat' split
  all_goals omega
theorem Zko {a b p : Pt} (h1 : 0 < X a p) (h2 : 0 < X p b) (h : 0 < X a b) : ew a b = ew a p + ew p b := by
  have m1 := (CB.mid (w := (1, 0)) h1 h2 h).1
  have m2 := (CB.mid (w := (-1, 0)) h1 h2 h).1
  unfold ew
  omega
theorem ZqA {p q : Pt} {c d : Int} (h : X p q = 1) : run p q [c, -1, d] = run p q [c + 1, d + 1] ∧ tot p q [c, -1, d] = tot p q [c + 1, d + 1] := by
  have e1 : nx (-1) q (nx c p q) = nx (c + 1) p q := by unfold nx; simp only [Prod.mk.injEq]; constructor <;> grind
  have e2 : nx d (nx c p q) (nx (-1) q (nx c p q)) = nx (d + 1) q (nx (c + 1) p q) := by unfold nx; simp only [Prod.mk.injEq]; constructor <;> grind
  have x1 : X q (nx c p q) = 1 := ZjD h
  have x2 : X (nx c p q) (nx (c + 1) p q) = 1 := by rw [← e1]; exact ZjD x1
  have x3 : X q (nx (c + 1) p q) = 1 := ZjD h
  have k := Zko (a := q) (b := nx (c + 1) p q) (p := nx c p q) (by omega) (by omega) (by omega)
  constructor
  · simp only [run]
    rw [e2, e1]
  · simp only [tot]
    rw [e1]
    omega
theorem ZqB {p q : Pt} {c d : Int} (h : X p q = 1) : run p q [c, 0, d] = (ng (run p q [c + d]).1, ng (run p q [c + d]).2) ∧ tot p q [c, 0, d] = tot p q [c + d] := by
  have e1 : nx 0 q (nx c p q) = ng q := by unfold nx ng; simp only [Prod.mk.injEq]; constructor <;> grind
  have e2 : nx d (nx c p q) (ng q) = ng (nx (c + d) p q) := by unfold nx ng; simp only [Prod.mk.injEq]; constructor <;> grind
  have x1 : X q (nx c p q) = 1 := ZjD h
  have k := ZfX (a := q) (m := nx c p q) (by omega)
  constructor
  · simp only [run]
    rw [e1, e2]
  · simp only [tot]
    rw [e1]
    omega
theorem ZqC {p q : Pt} {c d : Int} (h : X p q = 1) : run p q [c, 1, d] = (ng (run p q [c - 1, d - 1]).1, ng (run p q [c - 1, d - 1]).2) ∧ tot p q [c, 1, d] = tot p q [c - 1, d - 1] := by
  have e1 : nx 1 q (nx c p q) = ng (nx (c - 1) p q) := by unfold nx ng; simp only [Prod.mk.injEq]; constructor <;> grind
  have e2 : nx d (nx c p q) (ng (nx (c - 1) p q)) = ng (nx (d - 1) q (nx (c - 1) p q)) := by unfold nx ng; simp only [Prod.mk.injEq]; constructor <;> grind
  have x1 : X q (nx c p q) = 1 := ZjD h
  have x3 : X q (nx (c - 1) p q) = 1 := ZjD h
  have x2 : X (nx (c - 1) p q) (nx c p q) = 1 := by
    have : X (nx (c - 1) p q) (nx c p q) = X q (nx c p q) := by unfold X nx; simp only; grind
    omega
  have k1 := Zko (a := q) (b := nx c p q) (p := nx (c - 1) p q) (by omega) (by omega) (by omega)
  have k2 := ZfX (a := nx (c - 1) p q) (m := nx c p q) (by omega)
  constructor
  · simp only [run]
    rw [e1, e2]
  · simp only [tot]
    rw [e1]
    omega
theorem ZrM {p : Pt} : ∀ (bs : List Int) (u v : Pt), (∀ b ∈ bs, 2 ≤ b ∨ b ≤ -2) → (X p u).natAbs < (X p v).natAbs → (X p (run u v bs).1).natAbs < (X p (run u v bs).2).natAbs
  | [], _, _, _, h => h
  | b :: bs, u, v, hb, h => by
    refine ZrM bs v (nx b u v) (fun c hc => hb c (by simp [hc])) ?_
    have e : X p (nx b u v) = -(b * X p v) - X p u := by unfold X nx; simp only; grind
    have hb' := hb b (by simp)
    have m : 2 * (X p v).natAbs ≤ (b * X p v).natAbs := by
      rw [Int.natAbs_mul]
      exact Nat.mul_le_mul_right _ (by omega)
    rw [e]
    omega
theorem red {n : Nat} (ih : ∀ m, m < n → ∀ (bs : List Int) (p q : Pt) (s : Bool), bs.length = m → X p q = 1 → run p q bs = (Sg s p, Sg s q) → tot p q bs = 0) {xs Y : List Int} {c b d : Int} {p q : Pt} {s : Bool} (hn : (xs ++ ([c, b, d] ++ Y)).length = n) (hb : ¬ (2 ≤ b ∨ b ≤ -2)) (hX : X p q = 1) (hr : run p q (xs ++ ([c, b, d] ++ Y)) = (Sg s p, Sg s q)) : tot p q (xs ++ ([c, b, d] ++ Y)) = 0 := by
  simp at hn
  rw [ZaC] at hr
  rw [ZaH]
  have hx := ZlO xs hX
  have flip : ∀ (R : Pt × Pt), (ng R.1, ng R.2) = (Sg s p, Sg s q) → R = (Sg (!s) p, Sg (!s) q) := by
    intro R h
    have a1 := congrArg (fun x => ng x.1) h
    have a2 := congrArg (fun x => ng x.2) h
    simp only [ZlP] at a1 a2
    apply Prod.ext
    · simp only [a1]; cases s <;> simp [Sg, ZlP]
    · simp only [a2]; cases s <;> simp [Sg, ZlP]
  have : b = -1 ∨ b = 0 ∨ b = 1 := by omega
  rcases this with rfl | rfl | rfl
  · obtain ⟨c1, c2⟩ := ZqA (c := c) (d := d) hx
    rw [ZaC, c1, ← ZaC, ← ZaC] at hr
    rw [ZaH, c1, c2, ← ZaH, ← ZaH]
    exact ih (xs ++ ([c + 1, d + 1] ++ Y)).length (by simp; omega) _ _ _ s rfl hX hr
  · obtain ⟨c1, c2⟩ := ZqB (c := c) (d := d) hx
    rw [ZaC, c1, ZgD, ← ZaC, ← ZaC] at hr
    rw [ZaH, c1, c2, ZgE, ← ZaH, ← ZaH]
    exact ih (xs ++ ([c + d] ++ Y)).length (by simp; omega) _ _ _ (!s) rfl hX (flip _ hr)
  · obtain ⟨c1, c2⟩ := ZqC (c := c) (d := d) hx
    rw [ZaC, c1, ZgD, ← ZaC, ← ZaC] at hr
    rw [ZaH, c1, c2, ZgE, ← ZaH, ← ZaH]
    exact ih (xs ++ ([c - 1, d - 1] ++ Y)).length (by simp; omega) _ _ _ (!s) rfl hX (flip _ hr)
theorem Zox : ∀ (n : Nat) (bs : List Int) (p q : Pt) (s : Bool), bs.length = n → X p q = 1 → run p q bs = (Sg s p, Sg s q) → tot p q bs = 0 := by
  intro n
  induction n using Nat.strongRecOn with
  | ind n ih =>
    intro bs p q s hn hX hr
    rcases List.eq_nil_or_concat bs with rfl | ⟨L, z, rfl⟩
    · rfl
    rw [List.concat_eq_append] at hn hr ⊢
    have hr0 := hr
    rw [ZaC] at hr
    have hq : (run p q L).2 = Sg s p := congrArg Prod.fst hr
    have hX' := ZlO L hX
    have xp : X p p = 0 := by unfold X; grind
    have key : ∃ b ∈ L, ¬ (2 ≤ b ∨ b ≤ -2) := by
      apply Classical.byContradiction
      intro c
      have := ZrM (p := p) L p q (fun b hb => Classical.byContradiction fun d => c ⟨b, hb, d⟩) (by rw [hX, xp]; decide)
      rw [hq] at this
      have z : X p (Sg s p) = 0 := by
        cases s
        · exact xp
        · have : X p (ng p) = -X p p := by unfold X ng; simp only; grind
          show X p (ng p) = 0
          omega
      rw [z] at this
      simp at this
    obtain ⟨b, hbL, hb⟩ := key
    obtain ⟨A, B, rfl⟩ := List.append_of_mem hbL
    rcases List.eq_nil_or_concat A with rfl | ⟨xs, c, rfl⟩
    · cases B with
      | cons d B =>
        have e1 : run (run p q ([] ++ b :: d :: B)).1 (run p q ([] ++ b :: d :: B)).2 ([z] ++ (b :: d :: B)) = (Sg s (run p q ([] ++ b :: d :: B)).1, Sg s (run p q ([] ++ b :: d :: B)).2) := by
          rw [ZaC, hr, Zov, List.nil_append]
        have e2 : tot (run p q ([] ++ b :: d :: B)).1 (run p q ([] ++ b :: d :: B)).2 ([z] ++ (b :: d :: B)) = tot p q (([] ++ b :: d :: B) ++ [z]) := by
          rw [ZaH, hr, Zow, ZaH, List.nil_append]
          omega
        rw [← e2]
        exact red ih (xs := []) (c := z) (b := b) (d := d) (Y := B) (by simp at hn ⊢; omega) hb hX' e1
      | nil =>
        have h1 := congrArg Prod.fst hr0
        have h2 := congrArg Prod.snd hr0
        simp only [List.nil_append, List.cons_append, run] at h1 h2
        have b0 : b = 0 := by
          have := congrArg (X p) h1
          have e : X p (nx b p q) = -b * X p q := by unfold X nx; simp only; grind
          have z : X p (Sg s p) = 0 := by
            cases s
            · exact xp
            · have : X p (ng p) = -X p p := by unfold X ng; simp only; grind
              show X p (ng p) = 0
              omega
          rw [e, z, hX] at this
          omega
        subst b0
        have n1 : nx 0 p q = ng p := by unfold nx ng; simp only [Prod.mk.injEq]; constructor <;> grind
        rw [n1] at h1 h2
        have z0 : z = 0 := by
          cases s
          · exfalso
            have : X p q = X (ng p) q := by rw [h1]; rfl
            have e : X (ng p) q = -X p q := by unfold X ng; simp only; grind
            omega
          · have := congrArg (X q) h2
            have e : X q (nx z q (ng p)) = -z * X q (ng p) := by unfold X nx; simp only; grind
            have e2 : X q (ng p) = X p q := by unfold X ng; simp only; grind
            have e3 : X q (Sg true q) = 0 := by
              show X q (ng q) = 0
              unfold X ng; simp only; grind
            rw [e, e2, e3, hX] at this
            omega
        subst z0
        have k := ZfX (a := p) (m := q) (by omega)
        simp only [List.nil_append, List.cons_append, tot]
        rw [n1]
        omega
    · rw [List.concat_eq_append] at hn hr0 ⊢
      obtain ⟨d, Y, hd⟩ : ∃ d Y, B ++ [z] = d :: Y := by cases B with | nil => exact ⟨_, _, rfl⟩ | cons d B => exact ⟨_, _, rfl⟩
      have er : (xs ++ [c] ++ b :: B) ++ [z] = xs ++ ([c, b, d] ++ Y) := by
        have : (xs ++ [c] ++ b :: B) ++ [z] = xs ++ c :: b :: (B ++ [z]) := by simp
        rw [this, hd]
        simp
      rw [er] at hn hr0 ⊢
      exact red ih hn hb hX hr0
noncomputable def st (a : Pt) : Int := if 0 < a.2 ∨ (a.2 = 0 ∧ a.1 < 0) then 1 else 0
theorem alt {a b : Pt} (h : 0 < X a b) : (in1 (1, 0) a b : Int) - in1 (-1, 0) a b = st b - st a := by
  have f : ∀ (w p q : Pt) (x y : Int), X p w = x → X w q = y → in1 w p q = if 0 ≤ x ∧ 0 < y then 1 else 0 := by
    intro w p q x y h1 h2
    unfold in1
    rw [h1, h2]
  rw [f (1, 0) a b (0 - a.2) b.2 (by unfold X; simp) (by unfold X; simp), f (-1, 0) a b a.2 (0 - b.2) (by unfold X; simp) (by unfold X; simp)]
  unfold st
  have h' := h
  unfold X at h'
  have k1 : a.2 = 0 → 0 < a.1 → 0 < b.2 := fun z p => by
    rw [z] at h'
    apply Classical.byContradiction
    intro c
    have := Int.mul_nonpos_of_nonneg_of_nonpos (a := a.1) (b := b.2) (by omega) (by omega)
    omega
  have k2 : a.2 = 0 → a.1 < 0 → b.2 < 0 := fun z p => by
    rw [z] at h'
    apply Classical.byContradiction
    intro c
    have := Int.mul_nonpos_of_nonpos_of_nonneg (a := a.1) (b := b.2) (by omega) (by omega)
    omega
  have k3 : b.2 = 0 → 0 < b.1 → a.2 < 0 := fun z p => by
    rw [z] at h'
    apply Classical.byContradiction
    intro c
    have := Int.mul_nonneg (a := a.2) (b := b.1) (by omega) (by omega)
    omega
  have k4 : b.2 = 0 → b.1 < 0 → 0 < a.2 := fun z p => by
    rw [z] at h'
    apply Classical.byContradiction
    intro c
    have := Int.mul_nonneg_of_nonpos_of_nonpos (a := a.2) (b := b.1) (by omega) (by omega)
    omega
  have z1 : ¬ (a.1 = 0 ∧ a.2 = 0) := fun z => by rw [z.1, z.2] at h'; simp at h'
  have z2 : ¬ (b.1 = 0 ∧ b.2 = 0) := fun z => by rw [z.1, z.2] at h'; simp at h'
  generalize a.1 = a1 at *
  generalize a.2 = a2 at *
  generalize b.1 = b1 at *
  generalize b.2 = b2 at *
  clear h h'
  have o1 : 0 < a1 ∨ a1 < 0 ∨ a1 = 0 := by omega
  have o2 : 0 < b1 ∨ b1 < 0 ∨ b1 = 0 := by omega
  repeat' split
  all_goals omega
noncomputable def Zkp (p q : Pt) : List Int → Nat
  | [] => 0
  | b :: bs => in1 (1, 0) p q + Zkp q (nx b p q) bs
noncomputable def Zhg (bs : List Int) : Int := bs.foldr (· + ·) 0
theorem Zkq : ∀ (bs : List Int) {p q : Pt}, X p q = 1 → tot p q bs = 12 * (Zkp p q bs : Int) - Zhg bs - 3 * bs.length - 6 * (st (run p q bs).1 - st p)
  | [], p, q, _ => by simp [tot, Zkp, Zhg, run]
  | b :: bs, p, q, h => by
    have ih := Zkq bs (ZjD (b := b) h)
    have a := alt (a := p) (b := q) (by omega)
    simp only [tot, Zkp, run, Zhg, List.foldr_cons, List.length_cons] at *
    unfold ew
    rw [ih]
    omega
theorem Zoy {bs : List Int} {p q : Pt} (h : X p q = 1) (hr : run p q bs = (p, q)) : 12 * (Zkp p q bs : Int) = Zhg bs + 3 * bs.length := by
  have t := Zox _ bs p q false rfl h hr
  have e := Zkq bs h
  rw [t, hr] at e
  simp only at e
  omega
end TW
end
section
set_option Elab.async false
set_option linter.all false
set_option maxRecDepth 100000
set_option maxHeartbeats 4000000
namespace TW
open DL
section
variable {rs : List Pt}
noncomputable def sf (f : Pt → Pt → Nat) (rs : List Pt) : Int → Nat → Nat
  | _, 0 => 0
  | i, k + 1 => f (cy rs i) (cy rs (i + 1)) + sf f rs (i + 1) k
theorem ZqD {f : Pt → Pt → Nat} (hn : rs ≠ []) : ∀ (k i : Nat), i + k = rs.length → cc f ((rs ++ rs.take 1).drop i) = sf f rs i k := by
  have l0 : 0 < rs.length := List.length_pos_iff.mpr hn
  have ga : ∀ i : Nat, i ≤ rs.length → (rs ++ rs.take 1)[i]? = some (cy rs i) := by
    intro i hi
    by_cases c : i < rs.length
    · rw [List.getElem?_append_left c, ZbI (by omega), ZbY (by omega), List.getElem?_eq_getElem c]
      simp
    · have : i = rs.length := by omega
      subst this
      rw [List.getElem?_append_right (Nat.le_refl _), Nat.sub_self, ← ZdK, Int.sub_self, ZbI (by omega), ZbY (by omega)]
      rw [List.getElem?_take_of_lt (by decide), List.getElem?_eq_getElem (by omega)]
      simp
  have lch : (rs ++ rs.take 1).length = rs.length + 1 := by simp; omega
  have dr : ∀ i : Nat, i ≤ rs.length → (rs ++ rs.take 1).drop i = cy rs i :: (rs ++ rs.take 1).drop (i + 1) := by
    intro i hi
    rw [List.drop_eq_getElem_cons (by omega)]
    have := ga i hi
    rw [List.getElem?_eq_getElem (by omega)] at this
    rw [Option.some.inj this]
  intro k
  induction k with
  | zero =>
    intro i hi
    rw [dr i (by omega), List.drop_eq_nil_of_le (by omega)]
    rfl
  | succ k ih =>
    intro i hi
    have := ih (i + 1) (by omega)
    rw [dr i (by omega)]
    rw [dr (i + 1) (by omega)] at this ⊢
    rw [cc, this, sf]
    rfl
theorem Zkr {f : Pt → Pt → Nat} (hn : rs ≠ []) : cyc f rs = sf f rs 0 rs.length := by
  have := ZqD (f := f) hn rs.length 0 (by omega)
  exact this
theorem Zez : ∀ {L : List Int}, Zhg L = L.sum
  | [] => rfl
  | b :: L => by
    have := Zez (L := L)
    unfold Zhg at *
    rw [List.foldr_cons, List.sum_cons, this]
end
end TW
end
section
set_option Elab.async false
set_option linter.all false
set_option maxRecDepth 100000
set_option maxHeartbeats 4000000
namespace SP
open PySem PySem.Spec L2 DL
open CB
section
noncomputable def ex (k : Nat) : Pt := if k = 0 then (1, 0) else if k = 1 then (0, 1) else if k = 2 then (-1, 0) else (0, -1)
noncomputable def qd (k : Nat) (p : Pt) : Pt := if k = 0 then (p.1, p.2) else if k = 1 then (0 - p.2, p.1) else if k = 2 then (0 - p.1, 0 - p.2) else (p.2, 0 - p.1)
noncomputable def op (o : Bool) (k : Nat) : List Pt := if o = true then [ex k] else []
end
end SP
end
section
set_option Elab.async false
set_option linter.all false
set_option maxRecDepth 100000
set_option maxHeartbeats 4000000
namespace CT
open PySem PySem.Spec L2 DL
noncomputable def ZbK : Sv := (Zn (Zb5 3 4 (Za (e2 dIx (Zd 1) (ZbC (eC (.int 2)))) (Za (e2 dIx (Zd 1) (ZbC (eC (.int 1)))) aNil)))
  (Z3 (Zc6 mApp (Zd 1) (Za (ZC (Za (e2 dSub (e2 dMul (ZbC (Zd 2)) (e2 dIx (Zd 4) (eC (.int 0)))) (e2 dIx (Zd 3) (eC (.int 0)))) (Za (e2 dSub (e2 dMul (ZbC (Zd 2)) (e2 dIx (Zd 4) (eC (.int 1)))) (e2 dIx (Zd 3) (eC (.int 1)))) aNil))) aNil))))
noncomputable def Zcy : Sv := (Zn (Zt (gNm 1) (Zag (Za (ZC (Za (eC (.int 1)) (Za (eC (.int 0)) aNil))) (Za (ZC (Za (eC (.int 0)) (Za (eC (.int 1)) aNil))) aNil))))
  (Zn (ZjY (gNm 2) (Zd 0) ZbK)
  (ZF (Zd 1))))
noncomputable def ZbB : List D → Sto → Out D := fnF Zcy 1 4
noncomputable def Zc3 : Sv := (Zn (sIf (tv (e2 dNe (eSl (Zg ZbB (Za (Zd 0) aNil)) (oSo (ZbC (eC (.int 2)))) oNo) (Zag (Za (ZC (Za (eC (.int 1)) (Za (eC (.int 0)) aNil))) (Za (ZC (Za (eC (.int 0)) (Za (eC (.int 1)) aNil))) aNil))))) (ZF (eC (.int 0))) sNil)
  (ZF (e2 dDiv (e2 dAdd (Zg (Zjk Zhg) (Za (Zd 0) aNil)) (e2 dMul (eC (.int 3)) (Zg bLen (Za (Zd 0) aNil)))) (eC (.int 12)))))
noncomputable def Zc4 : List D → Sto → Out D := fnF Zc3 1 0
end CT
end
section
set_option Elab.async false
set_option linter.all false
set_option maxRecDepth 100000
set_option maxHeartbeats 4000000
namespace CT
open PySem PySem.Spec L2 DL
open CV TW
noncomputable def rl0 (p q : Pt) : List Int → List Pt
  | [] => []
  | b :: bs => p :: rl0 q (nx b p q) bs
noncomputable def rl (p q : Pt) (bs : List Int) : List Pt := rl0 p q bs ++ [(run p q bs).1, (run p q bs).2]
theorem ZiM : ∀ {bs : List Int} {p q : Pt}, (rl0 p q bs).length = bs.length
  | [], _, _ => rfl
  | b :: bs, p, q => by simp [rl0, ZiM (bs := bs)]
theorem ZgF : ∀ {xs : List Int} {b : Int} {p q : Pt}, rl0 p q (xs ++ [b]) = rl0 p q xs ++ [(run p q xs).1]
  | [], b, p, q => rfl
  | x :: xs, b, p, q => by simp [rl0, TW.run, ZgF (xs := xs)]
theorem ZlQ {xs : List Int} {b : Int} {p q : Pt} : rl p q (xs ++ [b]) = rl p q xs ++ [nx b (run p q xs).1 (run p q xs).2] := by
  unfold rl
  rw [ZgF, ZaC]
  simp [TW.run]
theorem Zoz {bs : List Int} {p q : Pt} : (rl p q bs).length = bs.length + 2 := by simp [rl, ZiM]
theorem ZrN {R : List Pt} {a b : Pt} : atI (prs (R ++ [a, b])) (-1) = some (pr b.1 b.2) ∧ atI (prs (R ++ [a, b])) (-2) = some (pr a.1 a.2) := by
  have l : (R ++ [a, b]).length = R.length + 2 := by simp
  constructor
  · rw [Zce (by rw [l]; omega), ← ZcU, l, show (-1 : Int) + ((R.length + 2 : Nat) : Int) = R.length + 1 by omega, Zij]
  · rw [Zce (by rw [l]; omega), ← ZcU, l, show (-2 : Int) + ((R.length + 2 : Nat) : Int) = R.length by omega, Zfc]
theorem ZoA {R : List Pt} {a b : Pt} : ZeL (prs (R ++ [a, b])) (some (-2)) none = prs [a, b] ∧ ZeL (prs (R ++ [a, b])) none (some (-2)) = prs R := by
  have l : (prs (R ++ [a, b])).length = R.length + 2 := by rw [ZJ]; simp
  unfold ZeL
  simp only [HT.sIx]
  rw [l]
  constructor
  · rw [if_pos (by decide), show (-2 + ((R.length + 2 : Nat) : Int)).toNat = R.length by omega, ZdA]
    simp [prs]
  · rw [if_pos (by decide), show (-2 + ((R.length + 2 : Nat) : Int)).toNat = R.length by omega]
    simp [prs]
noncomputable def Sm (L : List Int) : Prop := ∀ b ∈ L, -(1152921504606846976) ≤ b ∧ b ≤ 1152921504606846976
section
variable {Q : D → Sto → Prop} {E : Str → Sto → Prop} {M : Sto} {n m : Nat} {L : List Int}
theorem ZoB (h : M[n]? = some (.lst (nts L))) (hb : Sm L) (hl : L.length ≤ 1000) (q : ∀ M', Kp M M' → M'[M.length]? = some (.lst (prs (rl (1, 0) (0, 1) L))) → Q (.ref M.length) M') : wO (ZbB [.ref n] M) Q E := by
  simp! [ZbB, Zcy]
  have K1 : Kp M (M ++ [SO.lst [D.tup [D.int 1, D.int 0], D.tup [D.int 0, D.int 1]]]) := Kp.app
  have r1 : (M ++ [SO.lst [D.tup [D.int 1, D.int 0], D.tup [D.int 0, D.int 1]]])[M.length]? = some (.lst (prs (rl (1, 0) (0, 1) (L.take 0)))) := by rw [Zd0]; rfl
  generalize M ++ [SO.lst [D.tup [D.int 1, D.int 0], D.tup [D.int 0, D.int 1]]] = M1 at *
  refine Zen (fun i ρ M' => (∃ x2 x3 x4, ρ = [some (.ref n), some (.ref M.length), x2, x3, x4]) ∧ Kp M M' ∧ M'[M.length]? = some (.lst (prs (rl (1, 0) (0, 1) (L.take i))))) (K1.get h) ⟨⟨_, _, _, rfl⟩, K1, r1⟩ (fun i ρ M' hI => hI.2.1.get h) ?_ ?_
  · rintro i ρ M2 hi ⟨⟨x2, x3, x4, rfl⟩, K2, r2⟩
    rw [CN.ZiE]
    rw [Zbo] at hi
    rw [Zgs hi]
    have bd := hb _ (List.getElem_mem hi)
    have st : L.take (i + 1) = L.take i ++ [L[i]] := by rw [List.take_add_one, List.getElem?_eq_getElem hi]; rfl
    have lr := Zy r2
    have ll : (rl (1, 0) (0, 1) (L.take i)).length = i + 2 := by rw [Zoz, List.length_take]; omega
    have e := ZlQ (xs := L.take i) (b := L[i]) (p := (1, 0)) (q := (0, 1))
    rw [st, e]
    have er : rl (1, 0) (0, 1) (L.take i) = rl0 (1, 0) (0, 1) (L.take i) ++ [(run (1, 0) (0, 1) (L.take i)).1, (run (1, 0) (0, 1) (L.take i)).2] := rfl
    rw [er] at r2 ll ⊢
    generalize (run (1, 0) (0, 1) (L.take i)).1 = a at *
    generalize (run (1, 0) (0, 1) (L.take i)).2 = b at *
    generalize rl0 (1, 0) (0, 1) (L.take i) = R at *
    generalize L[i] = c at *
    simp! [ZbK, r2, ZrN.1, ZrN.2, ZJ, ll]
    refine ⟨by omega, ⟨_, _, _, rfl⟩, K2.set (Nat.le_refl _), ?_⟩
    unfold nx
    rw [Int.neg_mul, Int.neg_mul, Int.zero_sub, Int.zero_sub]
  · rintro ρ M2 ⟨⟨x2, x3, x4, rfl⟩, K2, r2⟩
    simp! [Zl]
    rw [Zbo, List.take_of_length_le (Nat.le_refl _)] at r2
    exact q _ K2 r2
noncomputable def Zg1 (L : List Int) : Prop := ∀ b ∈ L, -1000000 ≤ b ∧ b ≤ 1000000
theorem Zfm : ∀ {L : List Int}, Zg1 L → -(1000000 * (L.length : Int)) ≤ L.sum ∧ L.sum ≤ 1000000 * (L.length : Int)
  | [], _ => by simp
  | b :: L, h => by
    have ih := Zfm (L := L) fun c hc => h c (by simp [hc])
    have hb := h b (by simp)
    simp only [List.sum_cons, List.length_cons]
    omega
theorem ZlR (h : Zg1 L) (hl : L.length ≤ 1000) : DL.Zhg L = some L.sum := by
  unfold DL.Zhg
  rw [if_pos]
  intro j hj
  have hm : L.getD j 0 = L[j] := by rw [List.getD_eq_getElem?_getD, List.getElem?_eq_getElem hj]; rfl
  have h1 := h _ (List.getElem_mem hj)
  have h2 := Zfm (L := L.take (j + 1)) fun b hb => h b (List.mem_of_mem_take hb)
  have h3 : ((L.take (j + 1)).length : Int) ≤ 1000 := by rw [List.length_take]; omega
  rw [hm]
  refine ⟨by omega, by omega, by omega⟩
theorem Zez : ∀ {L : List Int}, TW.Zhg L = L.sum
  | [] => rfl
  | b :: L => by
    have := Zez (L := L)
    unfold TW.Zhg at *
    rw [List.foldr_cons, List.sum_cons, this]
theorem Zg1.sm (h : Zg1 L) : Sm L := fun b hb => by have := h b hb; omega
noncomputable def Cl (L : List Int) : Prop := run (1, 0) (0, 1) L = ((1, 0), (0, 1))
noncomputable instance (L : List Int) : Decidable (Cl L) := by unfold Cl; infer_instance
theorem Zks {L : List Int} : Cl L ↔ [(run (1, 0) (0, 1) L).1, (run (1, 0) (0, 1) L).2] = [(1, 0), (0, 1)] := by
  unfold Cl
  constructor
  · intro h; rw [h]
  · intro h
    simp only [List.cons.injEq, and_true] at h
    exact Prod.ext h.1 h.2
theorem ZiN {L : List Int} (h : Cl L) : (L.sum + 3 * (L.length : Int)) = 12 * (Zkp (1, 0) (0, 1) L : Int) := by
  have := Zoy (bs := L) (p := (1, 0)) (q := (0, 1)) rfl h
  rw [Zez] at this
  omega
theorem ZiA (h : M[n]? = some (.lst (nts L))) (hb : Zg1 L) (hl : L.length ≤ 1000) (q : ∀ M', Kp M M' → Q (.int (if Cl L then (Zkp (1, 0) (0, 1) L : Int) else 0)) M') : wO (Zc4 [.ref n] M) Q E := by
  simp! [Zc4, Zc3]
  refine ZoB h hb.sm hl fun M1 K1 r1 => ?_
  have er : rl (1, 0) (0, 1) L = rl0 (1, 0) (0, 1) L ++ [(run (1, 0) (0, 1) L).1, (run (1, 0) (0, 1) L).2] := rfl
  rw [er] at r1
  have lr := Zy r1
  simp! [r1, ZoA.1]
  have K2 : Kp M1 (M1 ++ [SO.lst (prs [(run (1, 0) (0, 1) L).1, (run (1, 0) (0, 1) L).2]), SO.lst [D.tup [D.int 1, D.int 0], D.tup [D.int 0, D.int 1]]]) := Kp.app
  have q2 : eqF 12 (M1 ++ [SO.lst (prs [(run (1, 0) (0, 1) L).1, (run (1, 0) (0, 1) L).2]), SO.lst [D.tup [D.int 1, D.int 0], D.tup [D.int 0, D.int 1]]]) (.ref M1.length) (.ref (M1.length + 1)) = some (decide ([(run (1, 0) (0, 1) L).1, (run (1, 0) (0, 1) L).2] = [(1, 0), (0, 1)])) := DL.Zlo (by rw [Zd0]; rfl) (by rw [ZfA]; rfl)
  rw [q2]
  generalize M1 ++ [SO.lst (prs [(run (1, 0) (0, 1) L).1, (run (1, 0) (0, 1) L).2]), SO.lst [D.tup [D.int 1, D.int 0], D.tup [D.int 0, D.int 1]]] = M2 at *
  have K02 := K1.trans K2
  have h2 := K02.get h
  simp! [Zl]
  refine ZsL (fun z => ?_) (fun z => ?_)
  · simp! [Zl]
    have := q M2 K02
    rw [if_neg (fun c => z (Zks.mp c))] at this
    exact this
  · have c := Zks.mpr z
    simp! [h2, CC.Zfe, ZlR hb hl, Zbo]
    have := q M2 K02
    rw [if_pos c] at this
    rw [ZiN c, Int.mul_comm, Int.mul_ediv_cancel _ (by decide)]
    exact this
end
end CT
end
section
set_option Elab.async false
set_option linter.all false
set_option maxRecDepth 100000
set_option maxHeartbeats 4000000
namespace CT
open PySem PySem.Spec L2 DL
open CV
open TW (nx Zkp ZjD)
section
variable {Q : D → Sto → Prop} {E : Str → Sto → Prop} {M : Sto} {n m : Nat} {L : List Int}
structure Ln (L : List Int) : Prop where
  sm : ∀ b ∈ L, -900000 ≤ b ∧ b ≤ 900000
  len : L.length ≤ 61
theorem Ln.small (h : Ln L) : Zg1 L := fun b hb => by have := h.sm b hb; omega
noncomputable def Bg (k : Nat) (p : Pt) : Prop := p.1.natAbs < 2 ^ k ∧ p.2.natAbs < 2 ^ k
theorem Bg.up {k l : Nat} {p : Pt} (h : Bg k p) (hl : k ≤ l) : Bg l p := ⟨Nat.lt_of_lt_of_le h.1 (Nat.pow_le_pow_right (by decide) hl), Nat.lt_of_lt_of_le h.2 (Nat.pow_le_pow_right (by decide) hl)⟩
end
end CT
end
section
set_option Elab.async false
set_option linter.all false
set_option maxRecDepth 100000
set_option maxHeartbeats 4000000
namespace DL
open CB (mid Wg Wgs Bd)
section
variable {rs : List Pt} {k : Nat}
theorem ZjE {f : Pt → Pt → Nat} (hl : rs ≠ []) (h : cyc f rs = 0) (i : Int) : f (cy rs i) (cy rs (i + 1)) = 0 := by
  have l0 : rs.length ≠ 0 := fun z => hl (List.length_eq_zero_iff.mp z)
  refine Zdb (P := fun a b => f a b = 0) l0 ?_ i
  intro i h0 h1
  rw [TW.Zkr hl] at h
  have : ∀ (k : Nat) (j : Int), TW.sf f rs j k = 0 → ∀ m : Nat, m < k → f (cy rs (j + m)) (cy rs (j + m + 1)) = 0 := by
    intro k
    induction k with
    | zero => intro j _ m hm; omega
    | succ k ih =>
      intro j h m hm
      rw [TW.sf] at h
      cases m with
      | zero =>
        rw [show j + ((0 : Nat) : Int) = j by omega]
        omega
      | succ m =>
        have := ih (j + 1) (by omega) m (by omega)
        rw [show j + ((m + 1 : Nat) : Int) = j + 1 + m by omega]
        exact this
  have := this rs.length 0 h i.toNat (by omega)
  rw [show (0 : Int) + (i.toNat : Nat) = i by omega] at this
  exact this
theorem ZfY {f : Pt → Pt → Nat} (hl : rs ≠ []) (h : ∀ i : Int, f (cy rs i) (cy rs (i + 1)) = 0) : cyc f rs = 0 := by
  rw [TW.Zkr hl]
  have : ∀ (k : Nat) (j : Int), TW.sf f rs j k = 0 := by
    intro k
    induction k with
    | zero => intro j; rfl
    | succ k ih => intro j; rw [TW.sf, h, ih]
  exact this _ _
theorem ZfZ {f : Pt → Pt → Nat} (hk : k < rs.length) (h3 : 3 ≤ rs.length) (hf : f (cy rs (k - 1)) (cy rs (k + 1)) = f (cy rs (k - 1)) (cy rs k) + f (cy rs k) (cy rs (k + 1))) : cyc f (del rs k) = cyc f rs := by
  obtain ⟨L, p, R, e, hl⟩ : ∃ L a R, rs = L ++ a :: R ∧ L.length = k := ⟨rs.take k, rs[k], rs.drop (k + 1), by rw [List.getElem_cons_drop, List.take_append_drop], by simp; omega⟩
  have ed : DL.del rs k = L ++ R := by
    unfold DL.del
    rw [e, ← hl, List.take_append, List.drop_append, List.take_of_length_le (by omega), List.drop_eq_nil_of_le (by omega)]
    simp
  have lr : (R ++ L).length = rs.length - 1 := by rw [e]; simp; omega
  obtain ⟨b, Y, a, hY⟩ : ∃ b Y a, R ++ L = b :: (Y ++ [a]) := by
    match hRL : R ++ L, lr with
    | [], lr => simp at lr; omega
    | b :: r, lr =>
      have : r ≠ [] := by intro z; rw [z] at lr; simp at lr; omega
      exact ⟨b, r.dropLast, r.getLast this, by rw [List.dropLast_concat_getLast]⟩
  have er : rs.drop k ++ rs.take k = p :: (R ++ L) := by
    rw [e, ← hl, List.take_append, List.drop_append, List.take_of_length_le (by omega), List.drop_eq_nil_of_le (by omega)]
    simp
  have c0 : cy rs k = p := by rw [e, ← hl]; exact Zfc
  have cb : cy rs (k + 1) = b := by
    have := Zea (rs := rs) (k := k) (i := 1) (by omega)
    rw [er, hY] at this
    rw [show (k : Int) + 1 = 1 + k by omega, ← this]
    exact Zij (L := []) (a := p) (b := b)
  have ca : cy rs (k - 1) = a := by
    have := Zea (rs := rs) (k := k) (i := -1) (by omega)
    rw [er, hY] at this
    rw [show (k : Int) - 1 = -1 + k by omega, ← this, ← ZcU]
    have := Zfc (L := p :: b :: Y) (a := a) (R := [])
    rw [show (-1 : Int) + ((p :: b :: (Y ++ [a])).length : Nat) = ((p :: b :: Y).length : Nat) by simp; omega]
    simpa using this
  rw [c0, ca, cb] at hf
  rw [ed, ZfR (p := p) hY hf, ← e]
noncomputable def nxp (a b : Pt) : Nat := if 0 < X a b then 0 else 1
theorem ZoC {a b : Pt} (h : nxp a b = 0) : 0 < X a b := by
  unfold nxp at h
  split at h
  · assumption
  · omega
theorem ZdT {a b : Pt} (h : 0 < X a b) : nxp a b = 0 := by unfold nxp; rw [if_pos h]
structure Rn (rs : List Pt) : Prop where
  len : 3 ≤ rs.length
  ps : cyc nxp rs = 0
  gc : ∀ p ∈ rs, Int.gcd p.1 p.2 = 1
  fan : Fan rs
theorem Rn.ne (h : Rn rs) : rs ≠ [] := by
  intro z
  have := h.len
  rw [z] at this
  simp at this
theorem Rn.pos (h : Rn rs) (i : Int) : 0 < X (cy rs i) (cy rs (i + 1)) := ZoC (ZjE h.ne h.ps i)
theorem ZqE {a b : Pt} (h : X a b = 1) : Int.gcd a.1 a.2 = 1 ∧ Int.gcd b.1 b.2 = 1 := by
  unfold X at h
  constructor
  · have d1 : ((Int.gcd a.1 a.2 : Nat) : Int) ∣ a.1 * b.2 - a.2 * b.1 := Int.dvd_sub (Int.dvd_mul_of_dvd_left (Int.gcd_dvd_left _ _)) (Int.dvd_mul_of_dvd_left (Int.gcd_dvd_right _ _))
    rw [h] at d1
    exact Nat.eq_one_of_dvd_one (Int.natCast_dvd_natCast.mp d1)
  · have d1 : ((Int.gcd b.1 b.2 : Nat) : Int) ∣ a.1 * b.2 - a.2 * b.1 := Int.dvd_sub (Int.dvd_mul_of_dvd_right (Int.gcd_dvd_right _ _)) (Int.dvd_mul_of_dvd_right (Int.gcd_dvd_left _ _))
    rw [h] at d1
    exact Nat.eq_one_of_dvd_one (Int.natCast_dvd_natCast.mp d1)
theorem ZoD {p : Pt} (h : p ∈ rs) : ∃ i : Int, p = cy rs i := by
  obtain ⟨L, R, rfl⟩ := List.append_of_mem h
  exact ⟨L.length, Zfc.symm⟩
theorem Smo.rn (h : Smo rs) : Rn rs := by
  refine ⟨h.len, ZfY h.ne fun i => ZdT (by rw [h.one i]; decide), fun p hp => ?_, h.fan⟩
  obtain ⟨i, rfl⟩ := ZoD hp
  exact (ZqE (h.one i)).1
theorem Rn.ins {w : Pt} (h : Rn rs) (hk : k < rs.length) (gw : Int.gcd w.1 w.2 = 1) (h1 : 0 < X (cy rs k) w) (h2 : 0 < X w (cy rs (k + 1))) : Rn (ins rs k w) := by
  have hp := h.pos k
  refine ⟨by rw [ZcA hk]; have := h.len; omega, ?_, ?_, ?_⟩
  · rw [ZdM hk (by rw [ZdT hp, ZdT h1, ZdT h2])]
    exact h.ps
  · intro p hp
    rcases List.mem_append.mp hp with hp | hp
    · exact h.gc p (List.mem_of_mem_take hp)
    · rcases List.mem_cons.mp hp with hp | hp
      · subst hp; exact gw
      · exact h.gc p (List.mem_of_mem_drop hp)
  · intro v hv
    rw [ZdM hk (mid h1 h2 hp).1, ZdM hk (mid h1 h2 hp).2]
    exact h.fan v hv
theorem Rn.del (h : Rn rs) (hk : k < rs.length) (h4 : 4 ≤ rs.length) (hx : 0 < X (cy rs (k - 1)) (cy rs (k + 1))) : Rn (DL.del rs k) := by
  have p1 := h.pos (k - 1)
  rw [show (k : Int) - 1 + 1 = k by omega] at p1
  have p2 := h.pos k
  refine ⟨by rw [ZdP hk]; omega, ?_, ?_, ?_⟩
  · rw [ZfZ hk (by omega) (by rw [ZdT hx, ZdT p1, ZdT p2])]
    exact h.ps
  · intro p hp
    unfold DL.del at hp
    rcases List.mem_append.mp hp with hp | hp
    · exact h.gc p (List.mem_of_mem_take hp)
    · exact h.gc p (List.mem_of_mem_drop hp)
  · intro v hv
    rw [ZfZ hk (by omega) (mid p1 p2 hx).1, ZfZ hk (by omega) (mid p1 p2 hx).2]
    exact h.fan v hv
theorem Rn.wgs (h : Rn rs) (hb : Nr 200 rs) : Wgs (rs ++ rs.take 1) := by
  have key : ∀ (L : List Pt), (∀ A a b R, L = A ++ a :: b :: R → 0 < X a b) → (∀ p ∈ L, Int.gcd p.1 p.2 = 1 ∧ Bd 1000 p) → Wgs L := by
    intro L
    induction L with
    | nil => intro _ _; exact trivial
    | cons a L ih =>
      intro hp hg
      cases L with
      | nil => exact trivial
      | cons b L =>
        refine ⟨⟨(hg a (by simp)).1, (hg b (by simp)).1, (hg a (by simp)).2, (hg b (by simp)).2, hp [] a b L rfl⟩, ih (fun A x y R e => hp (a :: A) x y R (by rw [e]; rfl)) fun p hp' => hg p (by simp at hp' ⊢; simp [hp'])⟩
  refine key _ ?_ ?_
  · intro A a b R e
    have hz := h.ps
    unfold cyc at hz
    rw [e] at hz
    have := Zob (f := nxp) (L := A) (a := a) (b := b) (R := R)
    exact ZoC (by omega)
  · intro p hp
    have hp' : p ∈ rs := by
      rcases List.mem_append.mp hp with hp | hp
      · exact hp
      · exact List.mem_of_mem_take hp
    have := hb p hp'
    exact ⟨h.gc p hp', by unfold Bd; omega⟩
theorem Rn.least (h : Rn rs) (hb : Nr 200 rs) : Smo (CB.lrd rs) := by
  obtain ⟨a, r, rfl⟩ := List.exists_cons_of_ne_nil h.ne
  exact CB.ZlL (by have := h.len; simp at this; omega) (by have := h.wgs hb; simpa using this) h.fan
end
end DL
end
section
set_option Elab.async false
set_option linter.all false
set_option maxRecDepth 100000
set_option maxHeartbeats 4000000
namespace CZ
open PySem PySem.Spec L2 DL
open CY (F_law_put Zcf Za1 F_law_any Zcg Za2 Za3)
section
variable {Q : D → Sto → Prop} {E : Str → Sto → Prop} {M : Sto} {n m : Nat} {rs : List Pt}
theorem ZqF {w : Pt} (h : M[n]? = some (.lst (prs rs))) (hr : Rn rs) (hb : Nr 200 rs) (hl : 3 ≤ rs.length ∧ rs.length ≤ 13) (gw : Int.gcd w.1 w.2 = 1) (hw : (-200 ≤ w.1 ∧ w.1 ≤ 200) ∧ -200 ≤ w.2 ∧ w.2 ≤ 200)
    (q : ∀ ss m M', Rn ss → Nr 200 ss → 3 ≤ ss.length → ss.length ≤ 14 → (m = n ∨ M.length ≤ m) → M'[m]? = some (.lst (prs ss)) → M.length ≤ M'.length → (∀ k, k < M.length → M'[k]? = M[k]?) → Q (.ref m) M') : wO (F_law_put [.ref n, pr w.1 w.2] M) Q E := by
  have hn := Zy h
  have ne : rs ≠ [] := by intro z; rw [z] at hl; simp at hl
  simp! [F_law_put, Zcf, h]
  refine ⟨by omega, ?_⟩
  rw [show ((rs.length : Int)).toNat = rs.length by omega]
  refine ZcS (fun i ρ M' => M' = M ∧ ∃ x y, ρ = [some (.ref n), some (pr w.1 w.2), x, y]) ⟨rfl, _, _, rfl⟩ ?_ ?_
  · rintro k ρ M hk ⟨rfl, x, y, rfl⟩
    rw [show (0 : Int) + (k : Int) = k by omega]
    have e1 := Z8 (i := (k : Int) + 1) (m := rs.length) (by omega)
    have b1 := Nr.cy hb ne k
    simp! [Za1, h, Zce, ZcT, CA.ZfT, CC.Zer]
    refine Zlu (fun b M' => M' = M ∧ (b = true → 0 < X (cy rs k) w ∧ 0 < X w (cy rs (k + 1)))) ?_ ?_
    · refine brO (fun z => ?_) (fun z => ?_)
      · simp! [CC.Zer]
        exact fun u => ⟨by unfold X; omega, by unfold X; have := of_decide_eq_true u; omega⟩
      · simp! [Zl]
        exact fun u => by cases u
    rintro b M ⟨rfl, hx⟩
    simp! [Zl]
    refine Zj9 (fun z => ?_) (fun z => ?_)
    · have le : ((k : Int) + 1).toNat = k + 1 := by omega
      simp! [h, le]
      refine ⟨by rw [List.length_take]; omega, by rw [List.length_take, List.length_drop]; omega, ?_⟩
      obtain ⟨x1, x2⟩ := hx z
      exact q (ins rs k (w.1, w.2)) _ _ (hr.ins hk gw x1 x2) (Nr.ins hb hw) (by rw [ZcA hk]; omega) (by rw [ZcA hk]; omega) (.inr (by omega)) (by rw [ZfA]; rfl) (by rw [List.length_append]; omega) (fun j hj => by rw [ZaF hj])
    · simp! [Zl]
      exact ⟨_, _, rfl⟩
  · rintro ρ M ⟨rfl, x, y, rfl⟩
    simp! [Zl]
    exact q rs n M hr hb hl.1 (by omega) (.inl rfl) h (Nat.le_refl _) (fun _ _ => rfl)
theorem ZqG (hb : Bag n M) (q : ∀ ss m M', Rn ss → Nr 200 ss → 3 ≤ ss.length → ss.length ≤ 14 → M.length ≤ m → M'[m]? = some (.lst (prs ss)) → Gr n M M' → Q (.ref m) M') : wO (F_law_any [.ref n] M) Q E := by
  have hn := hb.lt
  simp! [F_law_any, Zcg]
  refine CA.Zes hb fun ss m M1 s1 s2 s3 m0 s4 gr => ?_
  have sl := s1.len
  have hn1 := gr.bag.lt
  have gl := gr.len
  simp! [Zl]
  refine CA.Zx (gr.bag.app _) (by decide) fun r M2 r0 r1 g2 => ?_
  have k2 := Gr.new gr.bag g2
  have hs4 := Zy s4
  have a4 : M2[m]? = some (.lst (prs ss)) := by rw [g2.keep _ (by omega) (by simp; omega), ZaF hs4]; exact s4
  have gr2 : Gr n M M2 := gr.trans ((Gr.app gr.bag _).trans g2)
  obtain ⟨wd, hw, w0⟩ : ∃ f : Int, atI [D.int 7, D.int 7, D.int 7, D.int 41, D.int 401, D.int 7, D.int 7, D.int 41] r = some (.int f) ∧ (f = 7 ∨ f = 41 ∨ f = 401) := by
    have : r = 0 ∨ r = 1 ∨ r = 2 ∨ r = 3 ∨ r = 4 ∨ r = 5 ∨ r = 6 ∨ r = 7 := by omega
    rcases this with rfl | rfl | rfl | rfl | rfl | rfl | rfl | rfl
    · exact ⟨7, rfl, by decide⟩
    · exact ⟨7, rfl, by decide⟩
    · exact ⟨7, rfl, by decide⟩
    · exact ⟨41, rfl, by decide⟩
    · exact ⟨401, rfl, by decide⟩
    · exact ⟨7, rfl, by decide⟩
    · exact ⟨7, rfl, by decide⟩
    · exact ⟨41, rfl, by decide⟩
  simp! [k2, hw]
  refine CA.Zx gr2.bag (by decide) fun lp M3 lp0 lp1 g3 => ?_
  simp! [Zl]
  refine ⟨by omega, ?_⟩
  refine ZcS (fun i ρ M' => ∃ ss m x3 x4 x5 x6, ρ = [some (.ref n), some (.ref m), some (.int wd), x3, x4, x5, x6] ∧ (m ≠ n ∧ M.length ≤ m) ∧ (Rn ss ∧ Nr 200 ss) ∧ 3 ≤ ss.length ∧ ss.length ≤ 14 ∧ M'[m]? = some (.lst (prs ss)) ∧ Gr n M M') ⟨ss, m, _, _, _, _, rfl, by omega, ⟨s1.rn, s2⟩, sl, s3, CA.Gr.up a4 g3 (by omega), gr2.trans g3⟩ ?_ ?_
  · rintro i ρ M4 hi ⟨ss, m, x3, x4, x5, x6, rfl, m0, s2, s3, s4, s5, gr⟩
    simp! [Za2]
    refine CA.Zx gr.bag (by omega) fun x M5 a0 a1 g5 => ?_
    simp! [Zl]
    refine CA.Zx g5.bag (by omega) fun y M6 b0 b1 g6 => ?_
    have gr6 := (gr.trans g5).trans g6
    have c5 := CA.Gr.up (CA.Gr.up s5 g5 m0.1) g6 m0.1
    have hx : -200 ≤ x - wd / 2 ∧ x - wd / 2 ≤ 200 := by omega
    have hy : -200 ≤ y - wd / 2 ∧ y - wd / 2 ≤ 200 := by omega
    simp! [Zl]
    generalize x - wd / 2 = x at *
    generalize y - wd / 2 = y at *
    refine Zlu (fun b M' => M' = M6 ∧ (b = true → (x, y) ≠ (0, 0) ∧ ss.length < 14)) ?_ ?_
    · refine ZsE (fun z => ?_) (fun z => ?_)
      · simp! [c5]
        exact fun u => ⟨z, by have := of_decide_eq_true u; omega⟩
      · simp! [Zl]
        exact fun u => by cases u
    rintro b M6 ⟨rfl, hb⟩
    simp! [Zl]
    refine Zj9 (fun z => ?_) (fun z => ?_)
    · obtain ⟨h0, h1⟩ := hb z
      simp! [Zl]
      refine CY.ZgZ h0 hx hy fun w gw bw => ?_
      simp! [Zl]
      refine ZqF c5 s2.1 s2.2 (by omega) gw bw fun tt m' M7 tr t2 t3 t4 t0 t5 t6 t7 => ?_
      simp! [Zl]
      have gr7 := gr6.trans (CY.Gr.of gr6.bag t6 t7)
      have := gr6.len
      exact ⟨tt, m', _, _, _, _, rfl, by have := gr6.bag.lt; omega, ⟨tr, t2⟩, t3, t4, t5, gr7⟩
    · simp! [Zl]
      exact ⟨ss, m, _, _, _, _, rfl, m0, s2, s3, s4, c5, gr6⟩
  · rintro ρ M4 ⟨ss, m, x3, x4, x5, x6, rfl, m0, s2, s3, s4, s5, gr⟩
    simp! [Zl]
    refine CA.Zx gr.bag (by decide) fun lp M5 lp0 lp1 g5 => ?_
    simp! [Zl]
    refine ⟨by omega, ?_⟩
    refine ZcS (fun i ρ M' => ∃ ss m x2 x3 x4 x5 x6, ρ = [some (.ref n), some (.ref m), x2, x3, x4, x5, x6] ∧ (m ≠ n ∧ M.length ≤ m) ∧ (Rn ss ∧ Nr 200 ss) ∧ 3 ≤ ss.length ∧ ss.length ≤ 14 ∧ M'[m]? = some (.lst (prs ss)) ∧ Gr n M M') ⟨ss, m, _, _, _, _, _, rfl, m0, s2, s3, s4, CA.Gr.up s5 g5 m0.1, gr.trans g5⟩ ?_ ?_
    · rintro i ρ M6 hi ⟨ss, m, x2, x3, x4, x5, x6, rfl, m0, s2, s3, s4, s5, gr⟩
      have ne : ss ≠ [] := by intro z; rw [z] at s3; simp at s3
      simp! [Za3, s5]
      refine CA.Zx gr.bag (by omega) fun av M7 a0 a1 g7 => ?_
      have c5 := CA.Gr.up s5 g7 m0.1
      have hc5 := Zy c5
      have gr7 := gr.trans g7
      obtain ⟨av, rfl⟩ : ∃ k : Nat, av = k := ⟨av.toNat, by omega⟩
      have e1 := Z8 (i := (av : Int) + 1) (m := ss.length) (by omega)
      have b1 := Nr.cy s2.2 ne ((av : Int) - 1)
      simp! [c5]
      refine Zlu (fun b M' => M' = M7 ∧ (b = true → 3 < ss.length ∧ 0 < X (cy ss (av - 1)) (cy ss (av + 1)))) ?_ ?_
      · refine brO (fun z => ?_) (fun z => ?_)
        · simp! [c5, Zce, ZcT, CA.ZfT, CC.Zer]
          exact fun u => ⟨by omega, by unfold X; have := of_decide_eq_true u; omega⟩
        · simp! [Zl]
          exact fun u => by cases u
      rintro b M7 ⟨rfl, hb⟩
      simp! [Zl]
      refine Zj9 (fun z => ?_) (fun z => ?_)
      · obtain ⟨h4, hx⟩ := hb z
        have le : ((av : Int) + 1).toNat = av + 1 := by omega
        have le2 : (av : Int).toNat = av := by omega
        simp! [c5, le, le2]
        have dl := ZdP (rs := ss) (k := av) (by omega)
        refine ⟨by rw [List.length_take, List.length_drop]; omega, del ss av, _, _, _, _, _, _, rfl, by have := gr7.len; have := gr7.bag.lt; omega, ⟨s2.1.del (by omega) (by omega) hx, CF.Nr.del s2.2⟩, by omega, by omega, by rw [ZfA]; rfl, gr7.app2 _⟩
      · simp! [Zl]
        exact ⟨ss, m, _, _, _, _, _, rfl, m0, s2, s3, s4, c5, gr7⟩
    · rintro ρ M6 ⟨ss, m, x2, x3, x4, x5, x6, rfl, m0, s2, s3, s4, s5, gr⟩
      simp! [Zl]
      exact q ss m M6 s2.1 s2.2 s3 s4 m0.2 s5 gr
end
end CZ
end
section
set_option Elab.async false
set_option linter.all false
set_option maxRecDepth 100000
set_option maxHeartbeats 4000000
namespace K39
open PySem PySem.Spec L2 DL
noncomputable def top (i : Nat) : Stmt := PySem.Challenge.pw_rayround_k39_bends.main.body.getD i (.Pass ⟨0, 0, 0, 0⟩)
structure Txt (K : PySem.W.Frag) (mg : Str → Option Value) : Prop where
  gl : ∀ c v, PySem.W.nsIn K mainGlobals c = some (some v) → mg c = some v
  b_isinstance : mg "isinstance" = none
  b_int : mg "int" = none
  b_bool : mg "bool" = none
  b_abs : mg "abs" = none
  b_len : mg "len" = none
  b_enumerate : mg "enumerate" = none
  b_range : mg "range" = none
  b_all : mg "all" = none
  b_list : mg "list" = none
  b_tuple : mg "tuple" = none
  b_max : mg "max" = none
  b_min : mg "min" = none
  ex_NotSmooth : Zh3 K "NotSmooth" = true
  ex_NoRatio : Zh3 K "NoRatio" = true
  ex_NoHeight : Zh3 K "NoHeight" = true
  ex_NoWedge : Zh3 K "NoWedge" = true
section
variable {P : Program} {w : World} {K : PySem.W.Frag} {mg : Str → Option Value} {base : Heap}
noncomputable abbrev Zbg : Stmt := top 7
noncomputable def Zck : Sv := (ZF (ZbU (ZdY "int" (Zd 0)) (ZcL (ZdY "bool" (Zd 0)))))
noncomputable def F_is_whole : List D → Sto → Out D := fnF Zck 1 0
theorem Zf0 : FnScope ["thing"] ["thing"] (Zj Zbg) := ⟨rfl, rfl, rfl, by decide +kernel, rfl, by decide +kernel, by decide +kernel⟩
theorem Zf1 {f : Addr} {fd : FuncData} (F : Fun K "is_whole" "is_whole" Zbg f fd) (T : Txt K mg) : FnOk P w K mg base (CXE P w) 1 f fd ["thing"] (spD K F_is_whole) :=
  ZR F Zf0 rfl rfl fun cdv A outer s H E hr θ => (Zk (Zv (Ze1 (Zd6 ZhQ T.b_isinstance T.b_int Zd7 (Zc 0)) (Ze0 (ZjT (Zd6 Zgi T.b_isinstance T.b_bool ZhY (Zc 0)))))))
noncomputable abbrev ZH : Stmt := top 8
noncomputable def Zaa : Sv := (Zb5 2 3 (Za (Zd 3) (Za (e2 dMod (Zd 2) (Zd 3)) aNil)))
noncomputable def ZaA : Sv := (Zn (Zb5 2 3 (Za (Zg bAbs (Za (Zd 0) aNil)) (Za (Zg bAbs (Za (Zd 1) aNil)) aNil)))
  (Zn (sWh (tv (e2 dNe (Zd 3) (eC (.int 0)))) Zaa)
  (ZF (Zd 2))))
noncomputable def F_greatest_divisor : List D → Sto → Out D := fnF ZaA 2 2
theorem Zan : FnScope ["one", "other", "high", "low"] ["one", "other"] (Zj ZH) := ⟨rfl, rfl, rfl, by decide +kernel, rfl, by decide +kernel, by decide +kernel⟩
theorem ZcF {f : Addr} {fd : FuncData} (F : Fun K "greatest_divisor" "greatest_divisor" ZH f fd) (T : Txt K mg) : FnOk P w K mg base (CXE P w) 101 f fd ["one", "other"] (spD K F_greatest_divisor) :=
  ZR F Zan rfl rfl fun cdv A outer s H E hr θ => (Zh (Zca 2 3 (ZI hr (by decide)) Zan.nd (Zb (Zr Zbu Zdn T.b_abs Zdp (Zb (Zc 0) Zf)) (Zb (Zr Zbu Zdn T.b_abs Zdp (Zb (Zc 1) Zf)) Zf)))
    (Zh (ZcO θ.own (ZM (Zcv hr.units) ZdX (Zc 3) Ze) (Zk (Zca 2 3 (ZI hr (by decide)) Zan.nd (Zb (Zc 3) (Zb (Za7 (Zc 2) (Zc 3)) Zf)))))
    (Zk (Zv (Zc 2)))))
noncomputable abbrev ZbL : Stmt := top 10
noncomputable def Zah : Sv := (ZF (e2 dSub (e2 dMul (e2 dIx (Zd 0) (eC (.int 0))) (e2 dIx (Zd 1) (eC (.int 1)))) (e2 dMul (e2 dIx (Zd 0) (eC (.int 1))) (e2 dIx (Zd 1) (eC (.int 0))))))
noncomputable def F_crossed : List D → Sto → Out D := fnF Zah 2 0
theorem Zg2 : FnScope ["one", "other"] ["one", "other"] (Zj ZbL) := ⟨rfl, rfl, rfl, by decide +kernel, rfl, by decide +kernel, by decide +kernel⟩
theorem Zg3 {f : Addr} {fd : FuncData} (F : Fun K "crossed" "crossed" ZbL f fd) (T : Txt K mg) : FnOk P w K mg base (CXE P w) 1 f fd ["one", "other"] (spD K F_crossed) :=
  ZR F Zg2 rfl rfl fun cdv A outer s H E hr θ => (Zk (Zv (ZV (ZE (Zm (Zc 0) Ze) (Zm (Zc 1) Ze)) (ZE (Zm (Zc 0) Ze) (Zm (Zc 1) Ze)))))
noncomputable abbrev ZaI : Stmt := top 12
noncomputable def Zam : Sv := (ZF (e2 dIx (Zd 0) (e2 dMod (e2 dAdd (Zd 1) (eC (.int 1))) (Zg bLen (Za (Zd 0) aNil)))))
noncomputable def F_following : List D → Sto → Out D := fnF Zam 2 0
theorem Zfn : FnScope ["things", "at"] ["things", "at"] (Zj ZaI) := ⟨rfl, rfl, rfl, by decide +kernel, rfl, by decide +kernel, by decide +kernel⟩
theorem Zfo {f : Addr} {fd : FuncData} (F : Fun K "following" "following" ZaI f fd) (T : Txt K mg) : FnOk P w K mg base (CXE P w) 1 f fd ["things", "at"] (spD K F_following) :=
  ZR F Zfn rfl rfl fun cdv A outer s H E hr θ => (Zk (Zv (Zm (Zc 0) (Za7 (ZN (Zc 1) Ze) (Zr Zo ZW T.b_len PySem.boot_len (Zb (Zc 0) Zf))))))
noncomputable abbrev ZaJ : Stmt := top 13
noncomputable def ZX : Sv := (sIf (tv (e2 dNe (Zg F_crossed (Za (Zd 2) (Za (Zg F_following (Za (Zd 0) (Za (Zd 1) aNil))) aNil))) (eC (.int 1)))) (ZF (Zd 1)) sNil)
noncomputable def ZaG : Sv := (Zn (ZcR (gTp (gCs (gNm 1) (gCs (gNm 2) gNl))) (iEn (Za (Zd 0) aNil)) ZX)
  (ZF (eC .non)))
noncomputable def F_unspanned : List D → Sto → Out D := fnF ZaG 1 2
theorem Zch : FnScope ["rays", "at", "ray"] ["rays"] (Zj ZaJ) := ⟨rfl, rfl, rfl, by decide +kernel, rfl, by decide +kernel, by decide +kernel⟩
theorem Zfp {f : Addr} {fd : FuncData} (F : Fun K "unspanned" "unspanned" ZaJ f fd) (T : Txt K mg) (C_following : Cal P w K mg base "following" 1 2 F_following) (C_crossed : Cal P w K mg base "crossed" 1 2 F_crossed) : FnOk P w K mg base (CXE P w) 101 f fd ["rays"] (spD K F_unspanned) :=
  ZR F Zch rfl rfl fun cdv A outer s H E hr θ => (Zh (ZdH θ.own (ZdI (hr.hd (by decide)) T.b_enumerate (Zb (Zc 0) Zf)) (ZcN (ZI hr (by decide)) (ZP (ZA 1 Zch.nd) (ZP (ZA 2 Zch.nd) ZbV)) (hlen := (Z4 (Z4 (fun _ _ _ h => ZbW h))))) (Zk (Za6 (ZM (Zcv hr.units) ZdX (Zi C_crossed θ (hr.mono (by decide)) (Zb (Zc 2) (Zb (Zi C_following θ (hr.mono (by decide)) (Zb (Zc 0) (Zb (Zc 1) Zf))) Zf))) Ze) (Zk (Zv (Zc 1))) ZK)))
    (Zk (Zv ZjS)))
noncomputable abbrev Zaq : Stmt := top 14
noncomputable def Zap : Sv := (Zn (Zt (gNm 1) (Zg F_unspanned (Za (Zd 0) aNil)))
  (sIf (tv (e2 dIsNot (Zd 1) (eC .non))) (Zbn (PySem.Str.ofString "NotSmooth") (Za (eFs (ZbG (eC (.str (PySem.Str.ofString "ray "))) (ZbG (eFm (Zd 1)) (ZbG (eC (.str (PySem.Str.ofString " does not cross the next one in 1"))) jNil)))) aNil)) sNil))
noncomputable def F_ask_smooth : List D → Sto → Out D := fnF Zap 1 1
theorem Zc5 : FnScope ["rays", "at"] ["rays"] (Zj Zaq) := ⟨rfl, rfl, rfl, by decide +kernel, rfl, by decide +kernel, by decide +kernel⟩
theorem ZeA {f : Addr} {fd : FuncData} (F : Fun K "ask_smooth" "ask_smooth" Zaq f fd) (T : Txt K mg) (C_unspanned : Cal P w K mg base "unspanned" 101 1 F_unspanned) : FnOk P w K mg base (CXE P w) 102 f fd ["rays"] (spD K F_ask_smooth) :=
  ZR F Zc5 rfl rfl fun cdv A outer s H E hr θ => (Zh (Zp 1 Zc5.nd (Zi C_unspanned θ (hr.mono (by decide)) (Zb (Zc 0) Zf)))
    (Zk (Za6 (ZM ZhO Zjb (Zc 1) ZjS) (Zk (ZcQ θ T.ex_NotSmooth T.gl (hr.hd (by decide)) (Zb (ZmR (Zcc Zdl (Zcc (Zk7 (Zc 1)) (Zcc Zdl Zj4)))) Zf))) ZK)))
noncomputable abbrev Zbr : Stmt := top 16
noncomputable def ZcX : Sv := (Zn (Z3 (Zg F_ask_smooth (Za (Zd 0) aNil)))
  (ZF (Zb6 (iR1 (Za (Zg bLen (Za (Zd 0) aNil)) aNil)) 1 [0] (gNm 0) (fun _ M => .ok true M) (Zg F_crossed (Za (Zg F_following (Za (Zd 1) (Za (Zd 0) aNil))) (Za (e2 dIx (Zd 1) (e2 dSub (Zd 0) (eC (.int 1)))) aNil))))))
noncomputable def F_numbers : List D → Sto → Out D := fnF ZcX 1 0
theorem Zg4 : FnScope ["rays"] ["rays"] (Zj Zbr) := ⟨rfl, rfl, rfl, by decide +kernel, rfl, by decide +kernel, by decide +kernel⟩
theorem Zg5 {f : Addr} {fd : FuncData} (F : Fun K "numbers" "numbers" Zbr f fd) (T : Txt K mg) (C_ask_smooth : Cal P w K mg base "ask_smooth" 102 1 F_ask_smooth) (C_following : Cal P w K mg base "following" 1 2 F_following) (C_crossed : Cal P w K mg base "crossed" 1 2 F_crossed) : FnOk P w K mg base (CXE P w) 103 f fd ["rays"] (spD K F_numbers) :=
  ZR F Zg4 rfl rfl fun cdv A outer s H E hr θ => (Zh (Za5 (Zi C_ask_smooth θ (hr.mono (by decide)) (Zb (Zc 0) Zf)))
    (Zk (Zv (ZfJ (ZqU (XN := ["rays"]) (dn := (Zj Zbr).names) (N := ["at", "rays"]) (k := 1) (fr := [0]) rfl rfl rfl rfl (by decide +kernel)) (ZhZ T.b_range (Zb (Zr Zo ZW T.b_len PySem.boot_len (Zb (Zc 0) Zf)) Zf)) (fun _ _ _ _ => (ZA 0 (show List.Nodup (["at", "rays"] : List Str) by decide +kernel))) (fun _ _ _ _ => (Or.inl ⟨rfl, rfl⟩)) (fun _ _ _ _ => (Zi C_crossed ZdG (hr.mono (by decide)) (Zb (Zi C_following ZdG (hr.mono (by decide)) (Zb (Zc 1) (Zb (Zc 0) Zf))) (Zb (Zm (Zc 1) (ZV (Zc 0) Ze)) Zf))))))))
noncomputable abbrev Zde : Stmt := top 18
noncomputable def Zet : Sv := (Zn (sIf (ZdE (ZaY (tv (Zg F_is_whole (Za (Zd 0) aNil)))) (ZaY (tv (Zg F_is_whole (Za (Zd 1) aNil))))) (Zbn (PySem.Str.ofString "NoRatio") (Za (eC (.str (PySem.Str.ofString "a ratio is made of two whole numbers"))) aNil)) sNil)
  (Zn (sIf (tv (e2 dEq (Zd 1) (eC (.int 0)))) (Zbn (PySem.Str.ofString "NoRatio") (Za (eC (.str (PySem.Str.ofString "the bottom of a ratio is not 0"))) aNil)) sNil)
  (Zn (Zt (gNm 2) (Zg F_greatest_divisor (Za (Zd 0) (Za (Zd 1) aNil))))
  (Zn (sIf (tv (e2 dLt (Zd 1) (eC (.int 0)))) (Zt (gNm 2) (ZbC (Zd 2))) sNil)
  (ZF (ZC (Za (e2 dDiv (Zd 0) (Zd 2)) (Za (e2 dDiv (Zd 1) (Zd 2)) aNil))))))))
noncomputable def F_ratio : List D → Sto → Out D := fnF Zet 2 1
theorem ZeB : FnScope ["top", "bottom", "part"] ["top", "bottom"] (Zj Zde) := ⟨rfl, rfl, rfl, by decide +kernel, rfl, by decide +kernel, by decide +kernel⟩
theorem ZjF {f : Addr} {fd : FuncData} (F : Fun K "ratio" "ratio" Zde f fd) (T : Txt K mg) (C_is_whole : Cal P w K mg base "is_whole" 1 1 F_is_whole) (C_greatest_divisor : Cal P w K mg base "greatest_divisor" 101 2 F_greatest_divisor) : FnOk P w K mg base (CXE P w) 102 f fd ["top", "bottom"] (spD K F_ratio) :=
  ZR F ZeB rfl rfl fun cdv A outer s H E hr θ => (Zh (Za6 (ZiS (ZeZ (ZcK (Zct (Zi C_is_whole θ (hr.mono (by decide)) (Zb (Zc 0) Zf)))) (Zd5 (ZcK (Zct (Zi C_is_whole θ (hr.mono (by decide)) (Zb (Zc 1) Zf))))))) (Zk (ZcQ θ T.ex_NoRatio T.gl (hr.hd (by decide)) (Zb Zdl Zf))) ZK)
    (Zh (Za6 (ZM (Zb9 hr.units) ZdF (Zc 1) Ze) (Zk (ZcQ θ T.ex_NoRatio T.gl (hr.hd (by decide)) (Zb Zdl Zf))) ZK)
    (Zh (Zp 2 ZeB.nd (Zi C_greatest_divisor θ (hr.mono (by decide)) (Zb (Zc 0) (Zb (Zc 1) Zf))))
    (Zh (Za6 (ZM ZgJ ZgS (Zc 1) Ze) (Zk (Zp 2 ZeB.nd (Zb4 (Zc 2)))) ZK)
    (Zk (Zv (Zu (Zb (Zbv (Zc 0) (Zc 2)) (Zb (Zbv (Zc 1) (Zc 2)) Zf)))))))))
noncomputable abbrev Zed : Stmt := top 19
noncomputable def Zgy : Sv := (ZF (Zg F_ratio (Za (e2 dAdd (e2 dMul (e2 dIx (Zd 0) (eC (.int 0))) (e2 dIx (Zd 1) (eC (.int 1)))) (e2 dMul (e2 dIx (Zd 1) (eC (.int 0))) (e2 dIx (Zd 0) (eC (.int 1))))) (Za (e2 dMul (e2 dIx (Zd 0) (eC (.int 1))) (e2 dIx (Zd 1) (eC (.int 1)))) aNil))))
noncomputable def F_plus : List D → Sto → Out D := fnF Zgy 2 0
theorem ZlS : FnScope ["one", "other"] ["one", "other"] (Zj Zed) := ⟨rfl, rfl, rfl, by decide +kernel, rfl, by decide +kernel, by decide +kernel⟩
theorem ZlT {f : Addr} {fd : FuncData} (F : Fun K "plus" "plus" Zed f fd) (T : Txt K mg) (C_ratio : Cal P w K mg base "ratio" 102 2 F_ratio) : FnOk P w K mg base (CXE P w) 103 f fd ["one", "other"] (spD K F_plus) :=
  ZR F ZlS rfl rfl fun cdv A outer s H E hr θ => (Zk (Zv (Zi C_ratio θ (hr.mono (by decide)) (Zb (ZN (ZE (Zm (Zc 0) Ze) (Zm (Zc 1) Ze)) (ZE (Zm (Zc 1) Ze) (Zm (Zc 0) Ze))) (Zb (ZE (Zm (Zc 0) Ze) (Zm (Zc 1) Ze)) Zf)))))
noncomputable abbrev Zdf : Stmt := top 20
noncomputable def Zeu : Sv := (ZF (Zg F_ratio (Za (e2 dMul (e2 dIx (Zd 0) (eC (.int 0))) (e2 dIx (Zd 1) (eC (.int 0)))) (Za (e2 dMul (e2 dIx (Zd 0) (eC (.int 1))) (e2 dIx (Zd 1) (eC (.int 1)))) aNil))))
noncomputable def F_times : List D → Sto → Out D := fnF Zeu 2 0
theorem ZjG : FnScope ["one", "other"] ["one", "other"] (Zj Zdf) := ⟨rfl, rfl, rfl, by decide +kernel, rfl, by decide +kernel, by decide +kernel⟩
theorem ZjH {f : Addr} {fd : FuncData} (F : Fun K "times" "times" Zdf f fd) (T : Txt K mg) (C_ratio : Cal P w K mg base "ratio" 102 2 F_ratio) : FnOk P w K mg base (CXE P w) 103 f fd ["one", "other"] (spD K F_times) :=
  ZR F ZjG rfl rfl fun cdv A outer s H E hr θ => (Zk (Zv (Zi C_ratio θ (hr.mono (by decide)) (Zb (ZE (Zm (Zc 0) Ze) (Zm (Zc 1) Ze)) (Zb (ZE (Zm (Zc 0) Ze) (Zm (Zc 1) Ze)) Zf)))))
noncomputable abbrev Zar : Stmt := top 22
noncomputable def ZbA : Sv := (sIf (tv (e2 dNe (Zg bLen (Za (Zd 1) aNil)) (Zg bLen (Za (Zd 0) aNil)))) (Zbn (PySem.Str.ofString "NoHeight") (Za (eFs (ZbG (eC (.str (PySem.Str.ofString "a height of "))) (ZbG (eFm (Zg bLen (Za (Zd 0) aNil))) (ZbG (eC (.str (PySem.Str.ofString " rays has not "))) (ZbG (eFm (Zg bLen (Za (Zd 1) aNil))) (ZbG (eC (.str (PySem.Str.ofString " ratios"))) jNil)))))) aNil)) sNil)
noncomputable def F_ask_height : List D → Sto → Out D := fnF ZbA 2 0
theorem ZeC : FnScope ["rays", "height"] ["rays", "height"] (Zj Zar) := ⟨rfl, rfl, rfl, by decide +kernel, rfl, by decide +kernel, by decide +kernel⟩
theorem ZeD {f : Addr} {fd : FuncData} (F : Fun K "ask_height" "ask_height" Zar f fd) (T : Txt K mg) : FnOk P w K mg base (CXE P w) 101 f fd ["rays", "height"] (spD K F_ask_height) :=
  ZR F ZeC rfl rfl fun cdv A outer s H E hr θ => (Zk (Za6 (ZM (Zcv hr.units) ZdX (Zr Zo ZW T.b_len PySem.boot_len (Zb (Zc 1) Zf)) (Zr Zo ZW T.b_len PySem.boot_len (Zb (Zc 0) Zf))) (Zk (ZcQ θ T.ex_NoHeight T.gl (hr.hd (by decide)) (Zb (ZmR (Zcc Zdl (Zcc (Zk7 (Zr Zo ZW T.b_len PySem.boot_len (Zb (Zc 0) Zf))) (Zcc Zdl (Zcc (Zk7 (Zr Zo ZW T.b_len PySem.boot_len (Zb (Zc 1) Zf))) (Zcc Zdl Zj4)))))) Zf))) ZK))
noncomputable abbrev Zdg : Stmt := top 23
noncomputable def Zcm : Sv := (Zn (Zt (gNm 6) (Zg F_plus (Za (e2 dIx (Zd 1) (e2 dSub (Zd 4) (eC (.int 1)))) (Za (Zg F_following (Za (Zd 1) (Za (Zd 4) aNil))) aNil))))
  (Z3 (Zc6 mApp (Zd 3) (Za (Zg F_plus (Za (Zd 6) (Za (Zg F_times (Za (ZC (Za (e2 dIx (Zd 2) (Zd 4)) (Za (eC (.int 1)) aNil))) (Za (Zd 5) aNil))) aNil))) aNil))))
noncomputable def Zev : Sv := (Zn (Zt (gNm 2) (Zg F_numbers (Za (Zd 0) aNil)))
  (Zn (Z3 (Zg F_ask_height (Za (Zd 0) (Za (Zd 1) aNil))))
  (Zn (Zt (gNm 3) (Zag aNil))
  (Zn (ZcR (gTp (gCs (gNm 4) (gCs (gNm 5) gNl))) (iEn (Za (Zd 1) aNil)) Zcm)
  (ZF (Zd 3))))))
noncomputable def F_bends : List D → Sto → Out D := fnF Zev 2 5
theorem Zco : FnScope ["rays", "height", "row", "told", "at", "own", "beside"] ["rays", "height"] (Zj Zdg) := ⟨rfl, rfl, rfl, by decide +kernel, rfl, by decide +kernel, by decide +kernel⟩
theorem ZjI {f : Addr} {fd : FuncData} (F : Fun K "bends" "bends" Zdg f fd) (T : Txt K mg) (C_numbers : Cal P w K mg base "numbers" 103 1 F_numbers) (C_ask_height : Cal P w K mg base "ask_height" 101 2 F_ask_height) (C_following : Cal P w K mg base "following" 1 2 F_following) (C_plus : Cal P w K mg base "plus" 103 2 F_plus) (C_times : Cal P w K mg base "times" 103 2 F_times) : FnOk P w K mg base (CXE P w) 104 f fd ["rays", "height"] (spD K F_bends) :=
  ZR F Zco rfl rfl fun cdv A outer s H E hr θ => (Zh (Zp 2 Zco.nd (Zi C_numbers θ (hr.mono (by decide)) (Zb (Zc 0) Zf)))
    (Zh (Za5 (Zi C_ask_height θ (hr.mono (by decide)) (Zb (Zc 0) (Zb (Zc 1) Zf))))
    (Zh (Zp 3 Zco.nd (Z6 Zf))
    (Zh (ZdH θ.own (ZdI (hr.hd (by decide)) T.b_enumerate (Zb (Zc 1) Zf)) (ZcN (ZI hr (by decide)) (ZP (ZA 4 Zco.nd) (ZP (ZA 5 Zco.nd) ZbV)) (hlen := (Z4 (Z4 (fun _ _ _ h => ZbW h))))) (Zh (Zp 6 Zco.nd (Zi C_plus θ (hr.mono (by decide)) (Zb (Zm (Zc 1) (ZV (Zc 4) Ze)) (Zb (Zi C_following θ (hr.mono (by decide)) (Zb (Zc 1) (Zb (Zc 4) Zf))) Zf))))
    (Zk (Za5 (Zay (Zc 3) (Zi C_plus θ (hr.mono (by decide)) (Zb (Zc 6) (Zb (Zi C_times θ (hr.mono (by decide)) (Zb (Zu (Zb (Zm (Zc 2) (Zc 4)) (Zb Ze Zf))) (Zb (Zc 5) Zf))) Zf))))))))
    (Zk (Zv (Zc 3)))))))
noncomputable abbrev ZbM : Stmt := top 25
noncomputable def Zbw : Sv := (Zn (Zt (gNm 5) (e2 dDiv (Zd 1) (Zd 2)))
  (Zn (Zb5 1 2 (Za (Zd 2) (Za (e2 dSub (Zd 1) (e2 dMul (Zd 5) (Zd 2))) aNil)))
  (Zb5 3 4 (Za (Zd 4) (Za (ZC (Za (e2 dSub (e2 dIx (Zd 3) (eC (.int 0))) (e2 dMul (Zd 5) (e2 dIx (Zd 4) (eC (.int 0))))) (Za (e2 dSub (e2 dIx (Zd 3) (eC (.int 1))) (e2 dMul (Zd 5) (e2 dIx (Zd 4) (eC (.int 1))))) aNil))) aNil)))))
noncomputable def ZcY : Sv := (Zn (Zt (gTp (gCs (gNm 1) (gCs (gNm 2) gNl))) (Zd 0))
  (Zn (Zt (gTp (gCs (gNm 3) (gCs (gNm 4) gNl))) (ZC (Za (ZC (Za (eC (.int 0)) (Za (eC (.int 1)) aNil))) (Za (ZC (Za (ZbC (eC (.int 1))) (Za (eC (.int 0)) aNil))) aNil))))
  (Zn (sWh (tv (e2 dNe (Zd 2) (eC (.int 0)))) Zbw)
  (ZF (ZC (Za (e2 dMul (Zd 1) (e2 dIx (Zd 3) (eC (.int 0)))) (Za (e2 dMul (Zd 1) (e2 dIx (Zd 3) (eC (.int 1)))) aNil)))))))
noncomputable def F_partner : List D → Sto → Out D := fnF ZcY 1 5
theorem Zas : FnScope ["ray", "high", "low", "first", "second", "many"] ["ray"] (Zj ZbM) := ⟨rfl, rfl, rfl, by decide +kernel, rfl, by decide +kernel, by decide +kernel⟩
theorem Zg6 {f : Addr} {fd : FuncData} (F : Fun K "partner" "partner" ZbM f fd) (T : Txt K mg) : FnOk P w K mg base (CXE P w) 101 f fd ["ray"] (spD K F_partner) :=
  ZR F Zas rfl rfl fun cdv A outer s H E hr θ => (Zh (Zgk (Zc 0) (ZcN (ZI hr (by decide)) (ZP (ZA 1 Zas.nd) (ZP (ZA 2 Zas.nd) ZbV)) (hlen := (Z4 (Z4 (fun _ _ _ h => ZbW h))))))
    (Zh (Zgk (Zu (Zb (Zu (Zb Ze (Zb Ze Zf))) (Zb (Zu (Zb (Zb4 Ze) (Zb Ze Zf))) Zf))) (ZcN (ZI hr (by decide)) (ZP (ZA 3 Zas.nd) (ZP (ZA 4 Zas.nd) ZbV)) (hlen := (Z4 (Z4 (fun _ _ _ h => ZbW h))))))
    (Zh (ZcO θ.own (ZM (Zcv hr.units) ZdX (Zc 2) Ze) (Zh (Zp 5 Zas.nd (Zbv (Zc 1) (Zc 2)))
    (Zh (Zca 1 2 (ZI hr (by decide)) Zas.nd (Zb (Zc 2) (Zb (ZV (Zc 1) (ZE (Zc 5) (Zc 2))) Zf)))
    (Zk (Zca 3 4 (ZI hr (by decide)) Zas.nd (Zb (Zc 4) (Zb (Zu (Zb (ZV (Zm (Zc 3) Ze) (ZE (Zc 5) (Zm (Zc 4) Ze))) (Zb (ZV (Zm (Zc 3) Ze) (ZE (Zc 5) (Zm (Zc 4) Ze))) Zf))) Zf)))))))
    (Zk (Zv (Zu (Zb (ZE (Zc 1) (Zm (Zc 3) Ze)) (Zb (ZE (Zc 1) (Zm (Zc 3) Ze)) Zf))))))))
noncomputable abbrev ZY : Stmt := top 26
noncomputable def ZaS : Sv := (Zn (Zt (gNm 2) (Zg F_partner (Za (Zd 0) aNil)))
  (Zn (Zt (gNm 3) (e2 dDiv (Zg F_crossed (Za (Zd 2) (Za (Zd 1) aNil))) (Zg F_crossed (Za (Zd 0) (Za (Zd 1) aNil)))))
  (ZF (ZC (Za (e2 dSub (e2 dIx (Zd 2) (eC (.int 0))) (e2 dMul (Zd 3) (e2 dIx (Zd 0) (eC (.int 0))))) (Za (e2 dSub (e2 dIx (Zd 2) (eC (.int 1))) (e2 dMul (Zd 3) (e2 dIx (Zd 0) (eC (.int 1))))) aNil))))))
noncomputable def F_first_behind : List D → Sto → Out D := fnF ZaS 2 2
theorem Zbs : FnScope ["u", "v", "w", "many"] ["u", "v"] (Zj ZY) := ⟨rfl, rfl, rfl, by decide +kernel, rfl, by decide +kernel, by decide +kernel⟩
theorem ZdU {f : Addr} {fd : FuncData} (F : Fun K "first_behind" "first_behind" ZY f fd) (T : Txt K mg) (C_partner : Cal P w K mg base "partner" 101 1 F_partner) (C_crossed : Cal P w K mg base "crossed" 1 2 F_crossed) : FnOk P w K mg base (CXE P w) 102 f fd ["u", "v"] (spD K F_first_behind) :=
  ZR F Zbs rfl rfl fun cdv A outer s H E hr θ => (Zh (Zp 2 Zbs.nd (Zi C_partner θ (hr.mono (by decide)) (Zb (Zc 0) Zf)))
    (Zh (Zp 3 Zbs.nd (Zbv (Zi C_crossed θ (hr.mono (by decide)) (Zb (Zc 2) (Zb (Zc 1) Zf))) (Zi C_crossed θ (hr.mono (by decide)) (Zb (Zc 0) (Zb (Zc 1) Zf)))))
    (Zk (Zv (Zu (Zb (ZV (Zm (Zc 2) Ze) (ZE (Zc 3) (Zm (Zc 0) Ze))) (Zb (ZV (Zm (Zc 2) Ze) (ZE (Zc 3) (Zm (Zc 0) Ze))) Zf)))))))
noncomputable abbrev Zbh : Stmt := top 27
noncomputable def Zba : Sv := (Zn (Zt (gNm 3) (ZbC (e2 dDiv (ZbC (Zd 0)) (Zd 1))))
  (Zn (Z3 (Zc6 mApp (Zd 2) (Za (Zd 3) aNil)))
  (Zb5 0 1 (Za (Zd 1) (Za (e2 dSub (e2 dMul (Zd 3) (Zd 1)) (Zd 0)) aNil)))))
noncomputable def Zci : Sv := (Zn (Zt (gNm 2) (Zag aNil))
  (Zn (sWh (tv (e2 dNe (Zd 1) (eC (.int 0)))) Zba)
  (ZF (Zd 2))))
noncomputable def F_expanded : List D → Sto → Out D := fnF Zci 2 2
theorem Zb3 : FnScope ["top", "bottom", "numbers", "number"] ["top", "bottom"] (Zj Zbh) := ⟨rfl, rfl, rfl, by decide +kernel, rfl, by decide +kernel, by decide +kernel⟩
theorem Zf2 {f : Addr} {fd : FuncData} (F : Fun K "expanded" "expanded" Zbh f fd) (T : Txt K mg) : FnOk P w K mg base (CXE P w) 101 f fd ["top", "bottom"] (spD K F_expanded) :=
  ZR F Zb3 rfl rfl fun cdv A outer s H E hr θ => (Zh (Zp 2 Zb3.nd (Z6 Zf))
    (Zh (ZcO θ.own (ZM (Zcv hr.units) ZdX (Zc 1) Ze) (Zh (Zp 3 Zb3.nd (Zb4 (Zbv (Zb4 (Zc 0)) (Zc 1))))
    (Zh (Za5 (Zay (Zc 2) (Zc 3)))
    (Zk (Zca 0 1 (ZI hr (by decide)) Zb3.nd (Zb (Zc 1) (Zb (ZV (ZE (Zc 3) (Zc 1)) (Zc 0)) Zf)))))))
    (Zk (Zv (Zc 2)))))
noncomputable abbrev Zg7 : Stmt := top 28
noncomputable def Zjz : Sv := (Zn (sIf (tv (e2 dLe (Zg F_crossed (Za (Zd 0) (Za (Zd 1) aNil))) (eC (.int 0)))) (Zbn (PySem.Str.ofString "NoWedge") (Za (eC (.str (PySem.Str.ofString "the two rays of a wedge, crossed, come to more than 0"))) aNil)) sNil)
  (ZF (Zg F_expanded (Za (Zg F_crossed (Za (Zd 0) (Za (Zd 1) aNil))) (Za (Zg F_crossed (Za (Zg F_first_behind (Za (Zd 0) (Za (Zd 1) aNil))) (Za (Zd 1) aNil))) aNil)))))
noncomputable def F_row : List D → Sto → Out D := fnF Zjz 2 0
theorem ZoE : FnScope ["u", "v"] ["u", "v"] (Zj Zg7) := ⟨rfl, rfl, rfl, by decide +kernel, rfl, by decide +kernel, by decide +kernel⟩
theorem ZoF {f : Addr} {fd : FuncData} (F : Fun K "row" "row" Zg7 f fd) (T : Txt K mg) (C_crossed : Cal P w K mg base "crossed" 1 2 F_crossed) (C_first_behind : Cal P w K mg base "first_behind" 102 2 F_first_behind) (C_expanded : Cal P w K mg base "expanded" 101 2 F_expanded) : FnOk P w K mg base (CXE P w) 103 f fd ["u", "v"] (spD K F_row) :=
  ZR F ZoE rfl rfl fun cdv A outer s H E hr θ => (Zh (Za6 (ZM ZkE ZkV (Zi C_crossed θ (hr.mono (by decide)) (Zb (Zc 0) (Zb (Zc 1) Zf))) Ze) (Zk (ZcQ θ T.ex_NoWedge T.gl (hr.hd (by decide)) (Zb Zdl Zf))) ZK)
    (Zk (Zv (Zi C_expanded θ (hr.mono (by decide)) (Zb (Zi C_crossed θ (hr.mono (by decide)) (Zb (Zc 0) (Zb (Zc 1) Zf))) (Zb (Zi C_crossed θ (hr.mono (by decide)) (Zb (Zi C_first_behind θ (hr.mono (by decide)) (Zb (Zc 0) (Zb (Zc 1) Zf))) (Zb (Zc 1) Zf))) Zf))))))
noncomputable abbrev ZbN : Stmt := top 29
noncomputable def Zbx : Sv := (Zn (Z3 (Zc6 mApp (Zd 3) (Za (Zd 5) aNil)))
  (Zb5 4 5 (Za (Zd 5) (Za (ZC (Za (e2 dSub (e2 dMul (Zd 6) (e2 dIx (Zd 5) (eC (.int 0)))) (e2 dIx (Zd 4) (eC (.int 0)))) (Za (e2 dSub (e2 dMul (Zd 6) (e2 dIx (Zd 5) (eC (.int 1)))) (e2 dIx (Zd 4) (eC (.int 1)))) aNil))) aNil))))
noncomputable def ZcZ : Sv := (Zn (Zt (gNm 2) (Zg F_row (Za (Zd 0) (Za (Zd 1) aNil))))
  (Zn (Zt (gNm 3) (Zag aNil))
  (Zn (Zb5 4 5 (Za (Zd 0) (Za (Zg F_first_behind (Za (Zd 0) (Za (Zd 1) aNil))) aNil)))
  (Zn (ZjY (gNm 6) (Zd 2) Zbx)
  (ZF (Zd 3))))))
noncomputable def F_between : List D → Sto → Out D := fnF ZcZ 2 5
theorem Zbi : FnScope ["u", "v", "numbers", "rays", "ahead", "ray", "number"] ["u", "v"] (Zj ZbN) := ⟨rfl, rfl, rfl, by decide +kernel, rfl, by decide +kernel, by decide +kernel⟩
theorem Zg8 {f : Addr} {fd : FuncData} (F : Fun K "between" "between" ZbN f fd) (T : Txt K mg) (C_row : Cal P w K mg base "row" 103 2 F_row) (C_first_behind : Cal P w K mg base "first_behind" 102 2 F_first_behind) : FnOk P w K mg base (CXE P w) 104 f fd ["u", "v"] (spD K F_between) :=
  ZR F Zbi rfl rfl fun cdv A outer s H E hr θ => (Zh (Zp 2 Zbi.nd (Zi C_row θ (hr.mono (by decide)) (Zb (Zc 0) (Zb (Zc 1) Zf))))
    (Zh (Zp 3 Zbi.nd (Z6 Zf))
    (Zh (Zca 4 5 (ZI hr (by decide)) Zbi.nd (Zb (Zc 0) (Zb (Zi C_first_behind θ (hr.mono (by decide)) (Zb (Zc 0) (Zb (Zc 1) Zf))) Zf)))
    (Zh (Zj0 θ.own (Zc 2) (ZA 6 Zbi.nd) (Zh (Za5 (Zay (Zc 3) (Zc 5)))
    (Zk (Zca 4 5 (ZI hr (by decide)) Zbi.nd (Zb (Zc 5) (Zb (Zu (Zb (ZV (ZE (Zc 6) (Zm (Zc 5) Ze)) (Zm (Zc 4) Ze)) (Zb (ZV (ZE (Zc 6) (Zm (Zc 5) Ze)) (Zm (Zc 4) Ze)) Zf))) Zf))))))
    (Zk (Zv (Zc 3)))))))
noncomputable abbrev Zad : Stmt := top 31
noncomputable def Zak : Sv := (Zn (Z3 (Zc6 mApp (Zd 1) (Za (Zd 3) aNil)))
  (Z3 (Zc6 mExt (Zd 1) (Za (Zg F_between (Za (Zd 3) (Za (Zg F_following (Za (Zd 0) (Za (Zd 2) aNil))) aNil))) aNil))))
noncomputable def Zbe : Sv := (Zn (Zt (gNm 1) (Zag aNil))
  (Zn (ZcR (gTp (gCs (gNm 2) (gCs (gNm 3) gNl))) (iEn (Za (Zd 0) aNil)) Zak)
  (ZF (Zd 1))))
noncomputable def F_least_round : List D → Sto → Out D := fnF Zbe 1 3
theorem ZaW : FnScope ["rays", "least", "at", "ray"] ["rays"] (Zj Zad) := ⟨rfl, rfl, rfl, by decide +kernel, rfl, by decide +kernel, by decide +kernel⟩
theorem Zd1 {f : Addr} {fd : FuncData} (F : Fun K "least_round" "least_round" Zad f fd) (T : Txt K mg) (C_following : Cal P w K mg base "following" 1 2 F_following) (C_between : Cal P w K mg base "between" 104 2 F_between) : FnOk P w K mg base (CXE P w) 105 f fd ["rays"] (spD K F_least_round) :=
  ZR F ZaW rfl rfl fun cdv A outer s H E hr θ => (Zh (Zp 1 ZaW.nd (Z6 Zf))
    (Zh (ZdH θ.own (ZdI (hr.hd (by decide)) T.b_enumerate (Zb (Zc 0) Zf)) (ZcN (ZI hr (by decide)) (ZP (ZA 2 ZaW.nd) (ZP (ZA 3 ZaW.nd) ZbV)) (hlen := (Z4 (Z4 (fun _ _ _ h => ZbW h))))) (Zh (Za5 (Zay (Zc 1) (Zc 3)))
    (Zk (Za5 (ZmN PySem.F.slot_list_extend PySem.F.type_list_extend ZhB ZmP (Zc 1) (Zb (Zi C_between θ (hr.mono (by decide)) (Zb (Zc 3) (Zb (Zi C_following θ (hr.mono (by decide)) (Zb (Zc 0) (Zb (Zc 2) Zf))) Zf))) Zf))))))
    (Zk (Zv (Zc 1)))))
noncomputable abbrev ZbO : Stmt := top 33
noncomputable def ZdQ : Sv := (Zn (Zt (gNm 2) (eC (.int 0)))
  (Zn (sIf (tv (e2 dLt (Zd 1) (Zg bLen (Za (Zd 0) aNil)))) (Zt (gNm 2) (Zg bAbs (Za (e2 dIx (Zd 0) (Zd 1)) aNil))) sNil)
  (Zn (Zt (gNm 3) (e2 dAdd (eC (.int 1)) (e2 dMod (e2 dAdd (e2 dAdd (e2 dAdd (e2 dMod (Zd 2) (eC (.int 2147483647))) (e2 dMul (e2 dMul (eC (.int 7919)) (Zd 1)) (Zd 1))) (e2 dMul (eC (.int 11)) (Zd 1))) (eC (.int 5))) (eC (.int 2147483646)))))
  (ZF (Zag (Za (e2 dMul (Zd 2) (Zg bInt (Za (e2 dGe (Zd 2) (e2 dPow (eC (.int 10)) (eC (.int 18)))) aNil))) (Za (Zd 3) aNil)))))))
noncomputable def F_law_bag : List D → Sto → Out D := fnF ZdQ 2 2
theorem Zcp : FnScope ["_law_script", "_law_k", "_law_cell", "_law_state"] ["_law_script", "_law_k"] (Zj ZbO) := ⟨rfl, rfl, rfl, by decide +kernel, rfl, by decide +kernel, by decide +kernel⟩
theorem Zg9 {f : Addr} {fd : FuncData} (F : Fun K "_law_bag" "_law_bag" ZbO f fd) (T : Txt K mg) : FnOk P w K mg base (CXE P w) 1 f fd ["_law_script", "_law_k"] (spD K F_law_bag) :=
  ZR F Zcp rfl rfl fun cdv A outer s H E hr θ => (Zh (Zp 2 Zcp.nd Ze)
    (Zh (Za6 (ZM ZgJ ZgS (Zc 1) (Zr Zo ZW T.b_len PySem.boot_len (Zb (Zc 0) Zf))) (Zk (Zp 2 Zcp.nd (Zr Zbu Zdn T.b_abs Zdp (Zb (Zm (Zc 0) (Zc 1)) Zf)))) ZK)
    (Zh (Zp 3 Zcp.nd (ZN Ze (Za7 (ZN (ZN (ZN (Za7 (Zc 2) Ze) (ZE (ZE Ze (Zc 1)) (Zc 1))) (ZE Ze (Zc 1))) Ze) Ze)))
    (Zk (Zv (Z6 (Zb (ZE (Zc 2) (Zbm ZcJ Zgh T.b_int Zd7 (Zb (Zdm Zo4 Zpa (Zc 2) (Zcu Ze Ze)) Zf))) (Zb (Zc 3) Zf))))))))
noncomputable abbrev ZaK : Stmt := top 34
noncomputable def ZcE : Sv := (Zn (sIf (tv (e2 dGt (e2 dIx (Zd 0) (eC (.int 0))) (eC (.int 0)))) (Zn (Zt (gNm 2) (e2 dMod (e2 dIx (Zd 0) (eC (.int 0))) (Zd 1)))
  (Zn (ZeK (Zd 0) (eC (.int 0)) (e2 dDiv (e2 dIx (Zd 0) (eC (.int 0))) (Zd 1)))
  (ZF (Zd 2)))) sNil)
  (Zn (ZeK (Zd 0) (eC (.int 1)) (e2 dMod (e2 dMul (e2 dIx (Zd 0) (eC (.int 1))) (eC (.int 48271))) (eC (.int 2147483647))))
  (ZF (e2 dMod (e2 dDiv (e2 dMod (e2 dMul (e2 dIx (Zd 0) (eC (.int 1))) (eC (.int 16807))) (eC (.int 2147483647))) (eC (.int 32))) (Zd 1)))))
noncomputable def F_law_digit : List D → Sto → Out D := fnF ZcE 2 1
theorem Zdt : FnScope ["_law_bag_here", "_law_many", "_law_found"] ["_law_bag_here", "_law_many"] (Zj ZaK) := ⟨rfl, rfl, rfl, by decide +kernel, rfl, by decide +kernel, by decide +kernel⟩
theorem Zfq {f : Addr} {fd : FuncData} (F : Fun K "_law_digit" "_law_digit" ZaK f fd) (T : Txt K mg) : FnOk P w K mg base (CXE P w) 1 f fd ["_law_bag_here", "_law_many"] (spD K F_law_digit) :=
  ZR F Zdt rfl rfl fun cdv A outer s H E hr θ => (Zh (Za6 (ZM ZeP Ze2 (Zm (Zc 0) Ze) Ze) (Zh (Zp 2 Zdt.nd (Za7 (Zm (Zc 0) Ze) (Zc 1)))
    (Zh (ZhT (Zc 0) Ze (Zbv (Zm (Zc 0) Ze) (Zc 1)))
    (Zk (Zv (Zc 2))))) ZK)
    (Zh (ZhT (Zc 0) Ze (Za7 (ZE (Zm (Zc 0) Ze) Ze) Ze))
    (Zk (Zv (Za7 (Zbv (Za7 (ZE (Zm (Zc 0) Ze) Ze) Ze) Ze) (Zc 1))))))
noncomputable abbrev ZbP : Stmt := top 35
noncomputable def Zc0 : Sv := (Zn (Zt (gTp (gCs (gNm 2) (gCs (gNm 3) gNl))) (Zd 0))
  (ZF (ZC (Za (e2 dAdd (e2 dMul (e2 dIx (Zd 2) (eC (.int 0))) (e2 dIx (Zd 1) (eC (.int 0)))) (e2 dMul (e2 dIx (Zd 2) (eC (.int 1))) (e2 dIx (Zd 1) (eC (.int 1))))) (Za (e2 dAdd (e2 dMul (e2 dIx (Zd 3) (eC (.int 0))) (e2 dIx (Zd 1) (eC (.int 0)))) (e2 dMul (e2 dIx (Zd 3) (eC (.int 1))) (e2 dIx (Zd 1) (eC (.int 1))))) aNil)))))
noncomputable def F_law_led : List D → Sto → Out D := fnF Zc0 2 2
theorem Zdh : FnScope ["_law_turning_here", "_law_pair", "_law_first", "_law_second"] ["_law_turning_here", "_law_pair"] (Zj ZbP) := ⟨rfl, rfl, rfl, by decide +kernel, rfl, by decide +kernel, by decide +kernel⟩
theorem Zha {f : Addr} {fd : FuncData} (F : Fun K "_law_led" "_law_led" ZbP f fd) (T : Txt K mg) : FnOk P w K mg base (CXE P w) 101 f fd ["_law_turning_here", "_law_pair"] (spD K F_law_led) :=
  ZR F Zdh rfl rfl fun cdv A outer s H E hr θ => (Zh (Zgk (Zc 0) (ZcN (ZI hr (by decide)) (ZP (ZA 2 Zdh.nd) (ZP (ZA 3 Zdh.nd) ZbV)) (hlen := (Z4 (Z4 (fun _ _ _ h => ZbW h))))))
    (Zk (Zv (Zu (Zb (ZN (ZE (Zm (Zc 2) Ze) (Zm (Zc 1) Ze)) (ZE (Zm (Zc 2) Ze) (Zm (Zc 1) Ze))) (Zb (ZN (ZE (Zm (Zc 3) Ze) (Zm (Zc 1) Ze)) (ZE (Zm (Zc 3) Ze) (Zm (Zc 1) Ze))) Zf))))))
noncomputable abbrev Zbj : Stmt := top 36
noncomputable def Zcj : Sv := (Zn (Zt (gNm 2) (Zg F_law_led (Za (Zd 1) (Za (ZC (Za (e2 dIx (e2 dIx (Zd 0) (eC (.int 0))) (eC (.int 0))) (Za (e2 dIx (e2 dIx (Zd 0) (eC (.int 1))) (eC (.int 0))) aNil))) aNil))))
  (Zn (Zt (gNm 3) (Zg F_law_led (Za (Zd 1) (Za (ZC (Za (e2 dIx (e2 dIx (Zd 0) (eC (.int 0))) (eC (.int 1))) (Za (e2 dIx (e2 dIx (Zd 0) (eC (.int 1))) (eC (.int 1))) aNil))) aNil))))
  (ZF (ZC (Za (ZC (Za (e2 dIx (Zd 2) (eC (.int 0))) (Za (e2 dIx (Zd 3) (eC (.int 0))) aNil))) (Za (ZC (Za (e2 dIx (Zd 2) (eC (.int 1))) (Za (e2 dIx (Zd 3) (eC (.int 1))) aNil))) aNil))))))
noncomputable def F_law_both : List D → Sto → Out D := fnF Zcj 2 2
theorem ZcG : FnScope ["_law_one", "_law_other", "_law_left", "_law_right"] ["_law_one", "_law_other"] (Zj Zbj) := ⟨rfl, rfl, rfl, by decide +kernel, rfl, by decide +kernel, by decide +kernel⟩
theorem Zf3 {f : Addr} {fd : FuncData} (F : Fun K "_law_both" "_law_both" Zbj f fd) (T : Txt K mg) (C_law_led : Cal P w K mg base "_law_led" 101 2 F_law_led) : FnOk P w K mg base (CXE P w) 102 f fd ["_law_one", "_law_other"] (spD K F_law_both) :=
  ZR F ZcG rfl rfl fun cdv A outer s H E hr θ => (Zh (Zp 2 ZcG.nd (Zi C_law_led θ (hr.mono (by decide)) (Zb (Zc 1) (Zb (Zu (Zb (Zm (Zm (Zc 0) Ze) Ze) (Zb (Zm (Zm (Zc 0) Ze) Ze) Zf))) Zf))))
    (Zh (Zp 3 ZcG.nd (Zi C_law_led θ (hr.mono (by decide)) (Zb (Zc 1) (Zb (Zu (Zb (Zm (Zm (Zc 0) Ze) Ze) (Zb (Zm (Zm (Zc 0) Ze) Ze) Zf))) Zf))))
    (Zk (Zv (Zu (Zb (Zu (Zb (Zm (Zc 2) Ze) (Zb (Zm (Zc 3) Ze) Zf))) (Zb (Zu (Zb (Zm (Zc 2) Ze) (Zb (Zm (Zc 3) Ze) Zf))) Zf)))))))
noncomputable abbrev Zae : Stmt := top 37
noncomputable def Zai : Sv := (Zn (Zt (gNm 3) (e2 dSub (Zg F_law_digit (Za (Zd 0) (Za (eC (.int 7)) aNil))) (eC (.int 3))))
  (Zn (Zt (gNm 4) (Zag (Za (ZC (Za (ZC (Za (eC (.int 1)) (Za (Zd 3) aNil))) (Za (ZC (Za (eC (.int 0)) (Za (eC (.int 1)) aNil))) aNil))) (Za (ZC (Za (ZC (Za (eC (.int 1)) (Za (eC (.int 0)) aNil))) (Za (ZC (Za (Zd 3) (Za (eC (.int 1)) aNil))) aNil))) (Za (ZC (Za (ZC (Za (eC (.int 0)) (Za (eC (.int 1)) aNil))) (Za (ZC (Za (eC (.int 1)) (Za (eC (.int 0)) aNil))) aNil))) (Za (ZC (Za (ZC (Za (eC (.int 0)) (Za (ZbC (eC (.int 1))) aNil))) (Za (ZC (Za (eC (.int 1)) (Za (eC (.int 0)) aNil))) aNil))) aNil))))))
  (Zt (gNm 1) (Zg F_law_both (Za (Zd 1) (Za (e2 dIx (Zd 4) (Zg F_law_digit (Za (Zd 0) (Za (eC (.int 4)) aNil)))) aNil))))))
noncomputable def Zbb : Sv := (Zn (Zt (gNm 1) (ZC (Za (ZC (Za (eC (.int 1)) (Za (eC (.int 0)) aNil))) (Za (ZC (Za (eC (.int 0)) (Za (eC (.int 1)) aNil))) aNil))))
  (Zn (Zax (gNm 2) (Za (Zg F_law_digit (Za (Zd 0) (Za (eC (.int 4)) aNil))) aNil) Zai)
  (ZF (Zd 1))))
noncomputable def F_law_turning : List D → Sto → Out D := fnF Zbb 1 4
theorem ZZ : FnScope ["_law_bag_here", "_law_found", "_law_k", "_law_by", "_law_some"] ["_law_bag_here"] (Zj Zae) := ⟨rfl, rfl, rfl, by decide +kernel, rfl, by decide +kernel, by decide +kernel⟩
theorem Zd2 {f : Addr} {fd : FuncData} (F : Fun K "_law_turning" "_law_turning" Zae f fd) (T : Txt K mg) (C_law_digit : Cal P w K mg base "_law_digit" 1 2 F_law_digit) (C_law_both : Cal P w K mg base "_law_both" 102 2 F_law_both) : FnOk P w K mg base (CXE P w) 103 f fd ["_law_bag_here"] (spD K F_law_turning) :=
  ZR F ZZ rfl rfl fun cdv A outer s H E hr θ => (Zh (Zp 1 ZZ.nd (Zu (Zb (Zu (Zb Ze (Zb Ze Zf))) (Zb (Zu (Zb Ze (Zb Ze Zf))) Zf))))
    (Zh (ZbX θ.own T.b_range (Zb (Zi C_law_digit θ (hr.mono (by decide)) (Zb (Zc 0) (Zb Ze Zf))) Zf) (ZA 2 ZZ.nd) (Zh (Zp 3 ZZ.nd (ZV (Zi C_law_digit θ (hr.mono (by decide)) (Zb (Zc 0) (Zb Ze Zf))) Ze))
    (Zh (Zp 4 ZZ.nd (Z6 (Zb (Zu (Zb (Zu (Zb Ze (Zb (Zc 3) Zf))) (Zb (Zu (Zb Ze (Zb Ze Zf))) Zf))) (Zb (Zu (Zb (Zu (Zb Ze (Zb Ze Zf))) (Zb (Zu (Zb (Zc 3) (Zb Ze Zf))) Zf))) (Zb (Zu (Zb (Zu (Zb Ze (Zb Ze Zf))) (Zb (Zu (Zb Ze (Zb Ze Zf))) Zf))) (Zb (Zu (Zb (Zu (Zb Ze (Zb (Zb4 Ze) Zf))) (Zb (Zu (Zb Ze (Zb Ze Zf))) Zf))) Zf))))))
    (Zk (Zp 1 ZZ.nd (Zi C_law_both θ (hr.mono (by decide)) (Zb (Zc 1) (Zb (Zm (Zc 4) (Zi C_law_digit θ (hr.mono (by decide)) (Zb (Zc 0) (Zb Ze Zf)))) Zf))))))))
    (Zk (Zv (Zc 1)))))
noncomputable abbrev ZaL : Stmt := top 38
noncomputable def Zbp : Sv := (ZF (e2 dSub (e2 dMul (e2 dIx (Zd 0) (eC (.int 0))) (e2 dIx (Zd 1) (eC (.int 1)))) (e2 dMul (e2 dIx (Zd 0) (eC (.int 1))) (e2 dIx (Zd 1) (eC (.int 0))))))
noncomputable def F_law_cross : List D → Sto → Out D := fnF Zbp 2 0
theorem Zfr : FnScope ["_law_one", "_law_other"] ["_law_one", "_law_other"] (Zj ZaL) := ⟨rfl, rfl, rfl, by decide +kernel, rfl, by decide +kernel, by decide +kernel⟩
theorem Zfs {f : Addr} {fd : FuncData} (F : Fun K "_law_cross" "_law_cross" ZaL f fd) (T : Txt K mg) : FnOk P w K mg base (CXE P w) 1 f fd ["_law_one", "_law_other"] (spD K F_law_cross) :=
  ZR F Zfr rfl rfl fun cdv A outer s H E hr θ => (Zk (Zv (ZV (ZE (Zm (Zc 0) Ze) (Zm (Zc 1) Ze)) (ZE (Zm (Zc 0) Ze) (Zm (Zc 1) Ze)))))
noncomputable abbrev ZbQ : Stmt := top 39
noncomputable def Zc1 : Sv := (ZF (ZC (Za (e2 dAdd (e2 dIx (Zd 0) (eC (.int 0))) (e2 dIx (Zd 1) (eC (.int 0)))) (Za (e2 dAdd (e2 dIx (Zd 0) (eC (.int 1))) (e2 dIx (Zd 1) (eC (.int 1)))) aNil))))
noncomputable def F_law_sum : List D → Sto → Out D := fnF Zc1 2 0
theorem Zhb : FnScope ["_law_one", "_law_other"] ["_law_one", "_law_other"] (Zj ZbQ) := ⟨rfl, rfl, rfl, by decide +kernel, rfl, by decide +kernel, by decide +kernel⟩
theorem Zhc {f : Addr} {fd : FuncData} (F : Fun K "_law_sum" "_law_sum" ZbQ f fd) (T : Txt K mg) : FnOk P w K mg base (CXE P w) 1 f fd ["_law_one", "_law_other"] (spD K F_law_sum) :=
  ZR F Zhb rfl rfl fun cdv A outer s H E hr θ => (Zk (Zv (Zu (Zb (ZN (Zm (Zc 0) Ze) (Zm (Zc 1) Ze)) (Zb (ZN (Zm (Zc 0) Ze) (Zm (Zc 1) Ze)) Zf)))))
noncomputable abbrev Zbk : Stmt := top 40
noncomputable def ZbJ : Sv := (ZF (ZbU (e2 dLe (Zg bAbs (Za (e2 dIx (Zd 0) (eC (.int 0))) aNil)) (eC (.int 200))) (e2 dLe (Zg bAbs (Za (e2 dIx (Zd 0) (eC (.int 1))) aNil)) (eC (.int 200)))))
noncomputable def F_law_near : List D → Sto → Out D := fnF ZbJ 1 0
theorem Zf4 : FnScope ["_law_pair"] ["_law_pair"] (Zj Zbk) := ⟨rfl, rfl, rfl, by decide +kernel, rfl, by decide +kernel, by decide +kernel⟩
theorem Zf5 {f : Addr} {fd : FuncData} (F : Fun K "_law_near" "_law_near" Zbk f fd) (T : Txt K mg) : FnOk P w K mg base (CXE P w) 1 f fd ["_law_pair"] (spD K F_law_near) :=
  ZR F Zf4 rfl rfl fun cdv A outer s H E hr θ => (Zk (Zv (Ze1 (Zdm ZkE ZkV (Zr Zbu Zdn T.b_abs Zdp (Zb (Zm (Zc 0) Ze) Zf)) Ze) (Ze0 (Zdm ZkE ZkV (Zr Zbu Zdn T.b_abs Zdp (Zb (Zm (Zc 0) Ze) Zf)) Ze)))))
noncomputable abbrev ZU : Stmt := top 41
noncomputable def Zbc : Sv := (Zn (Zt (gNm 3) (Zb6 (iSq (Zd 0)) 1 [1] (gNm 0) (fun _ M => .ok true M) (Zg F_law_led (Za (Zd 1) (Za (Zd 0) aNil)))))
  (Zn (sIf (ZaY (tv (Zg bAll (Za (Zb6 (iSq (Zd 3)) 1 [] (gNm 0) (fun _ M => .ok true M) (Zg F_law_near (Za (Zd 0) aNil))) aNil)))) (Zt (gNm 3) (Zg bList (Za (Zd 0) aNil))) (sIf (tv (e2 dLt (Zg F_law_cross (Za (e2 dIx (Zd 3) (eC (.int 0))) (Za (e2 dIx (Zd 3) (eC (.int 1))) aNil))) (eC (.int 0)))) (Zt (gNm 3) (eRv (Zd 3))) sNil))
  (ZF (e2 dAdd (eSl (Zd 3) (oSo (Zd 2)) oNo) (eSl (Zd 3) oNo (oSo (Zd 2)))))))
noncomputable def F_law_brought : List D → Sto → Out D := fnF Zbc 3 1
theorem ZaX : FnScope ["_law_rays", "_law_turning_here", "_law_start", "_law_led_here"] ["_law_rays", "_law_turning_here", "_law_start"] (Zj ZU) := ⟨rfl, rfl, rfl, by decide +kernel, rfl, by decide +kernel, by decide +kernel⟩
theorem Zd3 {f : Addr} {fd : FuncData} (F : Fun K "_law_brought" "_law_brought" ZU f fd) (T : Txt K mg) (C_law_led : Cal P w K mg base "_law_led" 101 2 F_law_led) (C_law_near : Cal P w K mg base "_law_near" 1 1 F_law_near) (C_law_cross : Cal P w K mg base "_law_cross" 1 2 F_law_cross) : FnOk P w K mg base (CXE P w) 102 f fd ["_law_rays", "_law_turning_here", "_law_start"] (spD K F_law_brought) :=
  ZR F ZaX rfl rfl fun cdv A outer s H E hr θ => (Zh (Zk8 3 ZaX.nd (ZqU (XN := ["_law_rays", "_law_turning_here", "_law_start", "_law_led_here"]) (dn := (Zj ZU).names) (N := ["_law_ray", "_law_turning_here"]) (k := 1) (fr := [1]) rfl rfl rfl rfl (by decide +kernel)) (Zh0 (Zc 0)) (fun _ _ _ _ => (ZA 0 (show List.Nodup (["_law_ray", "_law_turning_here"] : List Str) by decide +kernel))) (fun _ _ _ _ => (Or.inl ⟨rfl, rfl⟩)) (fun _ _ _ _ => (Zi C_law_led ZdG (hr.mono (by decide)) (Zb (Zc 1) (Zb (Zc 0) Zf)))))
    (Zh (Za6 (ZcK (Zct (Zr (Zgn (ZI hr (by decide))) Zj3 T.b_all Zj2 (Zb (ZfJ (ZqS (N := ["_law_ray"]) (k := 1) (by decide +kernel) rfl (by decide +kernel) rfl) (Zh0 (Zc 3)) (fun _ _ _ _ => (ZA 0 (show List.Nodup (["_law_ray"] : List Str) by decide +kernel))) (fun _ _ _ _ => (Or.inl ⟨rfl, rfl⟩)) (fun _ _ _ _ => (Zi C_law_near ZdG (hr.mono (by decide)) (Zb (Zc 0) Zf)))) Zf)))) (Zk (Zp 3 ZaX.nd (Zbm Zb8 ZfH T.b_list Zei (Zb (Zc 0) Zf)))) (Zk (Za6 (ZM ZgJ ZgS (Zi C_law_cross θ (hr.mono (by decide)) (Zb (Zm (Zc 3) Ze) (Zb (Zm (Zc 3) Ze) Zf))) Ze) (Zk (Zp 3 ZaX.nd (Zpd (Zc 3)))) ZK)))
    (Zk (Zv (ZN (Zem (Zc 3) (Zel (Zc 2)) Zek) (Zem (Zc 3) Zek (Zel (Zc 2))))))))
noncomputable abbrev Zat : Stmt := top 42
noncomputable def ZO : Sv := (Zn (Zt (gNm 4) (Zg F_law_digit (Za (Zd 0) (Za (Zg bLen (Za (Zd 2) aNil)) aNil))))
  (Zn (Zt (gNm 5) (Zg F_law_sum (Za (e2 dIx (Zd 2) (Zd 4)) (Za (e2 dIx (Zd 2) (e2 dMod (e2 dAdd (Zd 4) (eC (.int 1))) (Zg bLen (Za (Zd 2) aNil)))) aNil))))
  (sIf (ZbF (tv (Zg F_law_near (Za (Zd 5) aNil))) (tv (e2 dLt (Zg bLen (Za (Zd 2) aNil)) (eC (.int 14))))) (Zt (gNm 2) (e2 dAdd (e2 dAdd (eSl (Zd 2) oNo (oSo (e2 dAdd (Zd 4) (eC (.int 1))))) (Zag (Za (Zd 5) aNil))) (eSl (Zd 2) (oSo (e2 dAdd (Zd 4) (eC (.int 1)))) oNo))) sNil)))
noncomputable def Z9 : Sv := (Zn (Zt (gNm 1) (Zg F_law_digit (Za (Zd 0) (Za (e2 dIx (Zag (Za (eC (.int 4)) (Za (eC (.int 4)) (Za (eC (.int 4)) (Za (eC (.int 4)) (Za (eC (.int 4)) (Za (eC (.int 4)) (Za (eC (.int 12)) (Za (eC (.int 201)) aNil))))))))) (Zg F_law_digit (Za (Zd 0) (Za (eC (.int 8)) aNil)))) aNil))))
  (Zn (Zt (gNm 2) (e2 dIx (Zag (Za (Zag (Za (ZC (Za (eC (.int 1)) (Za (eC (.int 0)) aNil))) (Za (ZC (Za (eC (.int 0)) (Za (eC (.int 1)) aNil))) (Za (ZC (Za (ZbC (eC (.int 1))) (Za (ZbC (eC (.int 1))) aNil))) aNil)))) (Za (Zag (Za (ZC (Za (eC (.int 1)) (Za (eC (.int 0)) aNil))) (Za (ZC (Za (eC (.int 0)) (Za (eC (.int 1)) aNil))) (Za (ZC (Za (ZbC (eC (.int 1))) (Za (Zd 1) aNil))) (Za (ZC (Za (eC (.int 0)) (Za (ZbC (eC (.int 1))) aNil))) aNil))))) aNil))) (Zg F_law_digit (Za (Zd 0) (Za (eC (.int 2)) aNil)))))
  (Zn (Zax (gNm 3) (Za (Zg F_law_digit (Za (Zd 0) (Za (e2 dIx (Zag (Za (eC (.int 5)) (Za (eC (.int 5)) (Za (eC (.int 12)) (Za (eC (.int 5)) aNil))))) (Zg F_law_digit (Za (Zd 0) (Za (eC (.int 4)) aNil)))) aNil))) aNil) ZO)
  (Zn (Zt (gNm 6) (Zg F_law_digit (Za (Zd 0) (Za (Zg bLen (Za (Zd 2) aNil)) aNil))))
  (ZF (Zg F_law_brought (Za (Zd 2) (Za (Zg F_law_turning (Za (Zd 0) aNil)) (Za (Zd 6) aNil)))))))))
noncomputable def F_law_smooth : List D → Sto → Out D := fnF Z9 1 6
theorem ZQ : FnScope ["_law_bag_here", "_law_steep", "_law_rays", "_law_k", "_law_at", "_law_ray", "_law_start"] ["_law_bag_here"] (Zj Zat) := ⟨rfl, rfl, rfl, by decide +kernel, rfl, by decide +kernel, by decide +kernel⟩
theorem ZeE {f : Addr} {fd : FuncData} (F : Fun K "_law_smooth" "_law_smooth" Zat f fd) (T : Txt K mg) (C_law_digit : Cal P w K mg base "_law_digit" 1 2 F_law_digit) (C_law_sum : Cal P w K mg base "_law_sum" 1 2 F_law_sum) (C_law_near : Cal P w K mg base "_law_near" 1 1 F_law_near) (C_law_turning : Cal P w K mg base "_law_turning" 103 1 F_law_turning) (C_law_brought : Cal P w K mg base "_law_brought" 102 3 F_law_brought) : FnOk P w K mg base (CXE P w) 104 f fd ["_law_bag_here"] (spD K F_law_smooth) :=
  ZR F ZQ rfl rfl fun cdv A outer s H E hr θ => (Zh (Zp 1 ZQ.nd (Zi C_law_digit θ (hr.mono (by decide)) (Zb (Zc 0) (Zb (Zm (Z6 (Zb Ze (Zb Ze (Zb Ze (Zb Ze (Zb Ze (Zb Ze (Zb Ze (Zb Ze Zf))))))))) (Zi C_law_digit θ (hr.mono (by decide)) (Zb (Zc 0) (Zb Ze Zf)))) Zf))))
    (Zh (Zp 2 ZQ.nd (Zm (Z6 (Zb (Z6 (Zb (Zu (Zb Ze (Zb Ze Zf))) (Zb (Zu (Zb Ze (Zb Ze Zf))) (Zb (Zu (Zb (Zb4 Ze) (Zb (Zb4 Ze) Zf))) Zf)))) (Zb (Z6 (Zb (Zu (Zb Ze (Zb Ze Zf))) (Zb (Zu (Zb Ze (Zb Ze Zf))) (Zb (Zu (Zb (Zb4 Ze) (Zb (Zc 1) Zf))) (Zb (Zu (Zb Ze (Zb (Zb4 Ze) Zf))) Zf))))) Zf))) (Zi C_law_digit θ (hr.mono (by decide)) (Zb (Zc 0) (Zb Ze Zf)))))
    (Zh (ZbX θ.own T.b_range (Zb (Zi C_law_digit θ (hr.mono (by decide)) (Zb (Zc 0) (Zb (Zm (Z6 (Zb Ze (Zb Ze (Zb Ze (Zb Ze Zf))))) (Zi C_law_digit θ (hr.mono (by decide)) (Zb (Zc 0) (Zb Ze Zf)))) Zf))) Zf) (ZA 3 ZQ.nd) (Zh (Zp 4 ZQ.nd (Zi C_law_digit θ (hr.mono (by decide)) (Zb (Zc 0) (Zb (Zr Zo ZW T.b_len PySem.boot_len (Zb (Zc 2) Zf)) Zf))))
    (Zh (Zp 5 ZQ.nd (Zi C_law_sum θ (hr.mono (by decide)) (Zb (Zm (Zc 2) (Zc 4)) (Zb (Zm (Zc 2) (Za7 (ZN (Zc 4) Ze) (Zr Zo ZW T.b_len PySem.boot_len (Zb (Zc 2) Zf)))) Zf))))
    (Zk (Za6 (ZiS (Zgf (Zct (Zi C_law_near θ (hr.mono (by decide)) (Zb (Zc 5) Zf))) (Zeg (ZM ZgJ ZgS (Zr Zo ZW T.b_len PySem.boot_len (Zb (Zc 2) Zf)) Ze)))) (Zk (Zp 2 ZQ.nd (ZN (ZN (Zem (Zc 2) Zek (Zel (ZN (Zc 4) Ze))) (Z6 (Zb (Zc 5) Zf))) (Zem (Zc 2) (Zel (ZN (Zc 4) Ze)) Zek)))) ZK)))))
    (Zh (Zp 6 ZQ.nd (Zi C_law_digit θ (hr.mono (by decide)) (Zb (Zc 0) (Zb (Zr Zo ZW T.b_len PySem.boot_len (Zb (Zc 2) Zf)) Zf))))
    (Zk (Zv (Zi C_law_brought θ (hr.mono (by decide)) (Zb (Zc 2) (Zb (Zi C_law_turning θ (hr.mono (by decide)) (Zb (Zc 0) Zf)) (Zb (Zc 6) Zf))))))))))
noncomputable abbrev Z0 : Stmt := top 43
noncomputable def Zac : Sv := (Zb5 1 2 (Za (Zd 2) (Za (e2 dMod (Zd 1) (Zd 2)) aNil)))
noncomputable def ZaT : Sv := (Zn (Zb5 1 2 (Za (Zg bAbs (Za (e2 dIx (Zd 0) (eC (.int 0))) aNil)) (Za (Zg bAbs (Za (e2 dIx (Zd 0) (eC (.int 1))) aNil)) aNil)))
  (Zn (sWh (tv (e2 dGt (Zd 2) (eC (.int 0)))) Zac)
  (ZF (ZC (Za (e2 dDiv (e2 dIx (Zd 0) (eC (.int 0))) (Zd 1)) (Za (e2 dDiv (e2 dIx (Zd 0) (eC (.int 1))) (Zd 1)) aNil))))))
noncomputable def F_law_straight : List D → Sto → Out D := fnF ZaT 1 2
theorem Zbt : FnScope ["_law_pair", "_law_one", "_law_other"] ["_law_pair"] (Zj Z0) := ⟨rfl, rfl, rfl, by decide +kernel, rfl, by decide +kernel, by decide +kernel⟩
theorem ZdV {f : Addr} {fd : FuncData} (F : Fun K "_law_straight" "_law_straight" Z0 f fd) (T : Txt K mg) : FnOk P w K mg base (CXE P w) 101 f fd ["_law_pair"] (spD K F_law_straight) :=
  ZR F Zbt rfl rfl fun cdv A outer s H E hr θ => (Zh (Zca 1 2 (ZI hr (by decide)) Zbt.nd (Zb (Zr Zbu Zdn T.b_abs Zdp (Zb (Zm (Zc 0) Ze) Zf)) (Zb (Zr Zbu Zdn T.b_abs Zdp (Zb (Zm (Zc 0) Ze) Zf)) Zf)))
    (Zh (ZcO θ.own (ZM ZeP Ze2 (Zc 2) Ze) (Zk (Zca 1 2 (ZI hr (by decide)) Zbt.nd (Zb (Zc 2) (Zb (Za7 (Zc 1) (Zc 2)) Zf)))))
    (Zk (Zv (Zu (Zb (Zbv (Zm (Zc 0) Ze) (Zc 1)) (Zb (Zbv (Zm (Zc 0) Ze) (Zc 1)) Zf)))))))
noncomputable abbrev ZbR : Stmt := top 44
noncomputable def Za1 : Sv := (Zn (Zt (gNm 3) (e2 dIx (Zd 0) (e2 dMod (e2 dAdd (Zd 2) (eC (.int 1))) (Zg bLen (Za (Zd 0) aNil)))))
  (sIf (ZbF (tv (e2 dGt (Zg F_law_cross (Za (e2 dIx (Zd 0) (Zd 2)) (Za (Zd 1) aNil))) (eC (.int 0)))) (tv (e2 dGt (Zg F_law_cross (Za (Zd 1) (Za (Zd 3) aNil))) (eC (.int 0))))) (ZF (e2 dAdd (e2 dAdd (eSl (Zd 0) oNo (oSo (e2 dAdd (Zd 2) (eC (.int 1))))) (Zag (Za (Zd 1) aNil))) (eSl (Zd 0) (oSo (e2 dAdd (Zd 2) (eC (.int 1)))) oNo))) sNil))
noncomputable def Zcf : Sv := (Zn (Zax (gNm 2) (Za (Zg bLen (Za (Zd 0) aNil)) aNil) Za1)
  (ZF (Zd 0)))
noncomputable def F_law_put : List D → Sto → Out D := fnF Zcf 2 2
theorem Zdi : FnScope ["_law_rays", "_law_ray", "_law_at", "_law_behind"] ["_law_rays", "_law_ray"] (Zj ZbR) := ⟨rfl, rfl, rfl, by decide +kernel, rfl, by decide +kernel, by decide +kernel⟩
theorem Zhd {f : Addr} {fd : FuncData} (F : Fun K "_law_put" "_law_put" ZbR f fd) (T : Txt K mg) (C_law_cross : Cal P w K mg base "_law_cross" 1 2 F_law_cross) : FnOk P w K mg base (CXE P w) 2 f fd ["_law_rays", "_law_ray"] (spD K F_law_put) :=
  ZR F Zdi rfl rfl fun cdv A outer s H E hr θ => (Zh (ZbX θ.own T.b_range (Zb (Zr Zo ZW T.b_len PySem.boot_len (Zb (Zc 0) Zf)) Zf) (ZA 2 Zdi.nd) (Zh (Zp 3 Zdi.nd (Zm (Zc 0) (Za7 (ZN (Zc 2) Ze) (Zr Zo ZW T.b_len PySem.boot_len (Zb (Zc 0) Zf)))))
    (Zk (Za6 (ZiS (Zgf (ZM ZeP Ze2 (Zi C_law_cross θ (hr.mono (by decide)) (Zb (Zm (Zc 0) (Zc 2)) (Zb (Zc 1) Zf))) Ze) (Zeg (ZM ZeP Ze2 (Zi C_law_cross θ (hr.mono (by decide)) (Zb (Zc 1) (Zb (Zc 3) Zf))) Ze)))) (Zk (Zv (ZN (ZN (Zem (Zc 0) Zek (Zel (ZN (Zc 2) Ze))) (Z6 (Zb (Zc 1) Zf))) (Zem (Zc 0) (Zel (ZN (Zc 2) Ze)) Zek)))) ZK))))
    (Zk (Zv (Zc 0))))
noncomputable abbrev ZbS : Stmt := top 45
noncomputable def Za2 : Sv := (Zn (Zt (gNm 4) (e2 dSub (Zg F_law_digit (Za (Zd 0) (Za (Zd 2) aNil))) (e2 dDiv (Zd 2) (eC (.int 2)))))
  (Zn (Zt (gNm 5) (e2 dSub (Zg F_law_digit (Za (Zd 0) (Za (Zd 2) aNil))) (e2 dDiv (Zd 2) (eC (.int 2)))))
  (sIf (ZbF (tv (e2 dNe (ZC (Za (Zd 4) (Za (Zd 5) aNil))) (ZC (Za (eC (.int 0)) (Za (eC (.int 0)) aNil))))) (tv (e2 dLt (Zg bLen (Za (Zd 1) aNil)) (eC (.int 14))))) (Zt (gNm 1) (Zg F_law_put (Za (Zd 1) (Za (Zg F_law_straight (Za (ZC (Za (Zd 4) (Za (Zd 5) aNil))) aNil)) aNil)))) sNil)))
noncomputable def Za3 : Sv := (Zn (Zt (gNm 6) (Zg F_law_digit (Za (Zd 0) (Za (Zg bLen (Za (Zd 1) aNil)) aNil))))
  (sIf (ZbF (tv (e2 dGt (Zg bLen (Za (Zd 1) aNil)) (eC (.int 3)))) (tv (e2 dGt (Zg F_law_cross (Za (e2 dIx (Zd 1) (e2 dSub (Zd 6) (eC (.int 1)))) (Za (e2 dIx (Zd 1) (e2 dMod (e2 dAdd (Zd 6) (eC (.int 1))) (Zg bLen (Za (Zd 1) aNil)))) aNil))) (eC (.int 0))))) (Zt (gNm 1) (e2 dAdd (eSl (Zd 1) oNo (oSo (Zd 6))) (eSl (Zd 1) (oSo (e2 dAdd (Zd 6) (eC (.int 1)))) oNo))) sNil))
noncomputable def Zcg : Sv := (Zn (Zt (gNm 1) (Zg F_law_smooth (Za (Zd 0) aNil)))
  (Zn (Zt (gNm 2) (e2 dIx (Zag (Za (eC (.int 7)) (Za (eC (.int 7)) (Za (eC (.int 7)) (Za (eC (.int 41)) (Za (eC (.int 401)) (Za (eC (.int 7)) (Za (eC (.int 7)) (Za (eC (.int 41)) aNil))))))))) (Zg F_law_digit (Za (Zd 0) (Za (eC (.int 8)) aNil)))))
  (Zn (Zax (gNm 3) (Za (Zg F_law_digit (Za (Zd 0) (Za (eC (.int 6)) aNil))) aNil) Za2)
  (Zn (Zax (gNm 3) (Za (Zg F_law_digit (Za (Zd 0) (Za (eC (.int 6)) aNil))) aNil) Za3)
  (ZF (Zd 1))))))
noncomputable def F_law_any : List D → Sto → Out D := fnF Zcg 1 6
theorem Z1 : FnScope ["_law_bag_here", "_law_rays", "_law_wide", "_law_k", "_law_one", "_law_other", "_law_at"] ["_law_bag_here"] (Zj ZbS) := ⟨rfl, rfl, rfl, by decide +kernel, rfl, by decide +kernel, by decide +kernel⟩
theorem Zhe {f : Addr} {fd : FuncData} (F : Fun K "_law_any" "_law_any" ZbS f fd) (T : Txt K mg) (C_law_smooth : Cal P w K mg base "_law_smooth" 104 1 F_law_smooth) (C_law_digit : Cal P w K mg base "_law_digit" 1 2 F_law_digit) (C_law_straight : Cal P w K mg base "_law_straight" 101 1 F_law_straight) (C_law_put : Cal P w K mg base "_law_put" 2 2 F_law_put) (C_law_cross : Cal P w K mg base "_law_cross" 1 2 F_law_cross) : FnOk P w K mg base (CXE P w) 105 f fd ["_law_bag_here"] (spD K F_law_any) :=
  ZR F Z1 rfl rfl fun cdv A outer s H E hr θ => (Zh (Zp 1 Z1.nd (Zi C_law_smooth θ (hr.mono (by decide)) (Zb (Zc 0) Zf)))
    (Zh (Zp 2 Z1.nd (Zm (Z6 (Zb Ze (Zb Ze (Zb Ze (Zb Ze (Zb Ze (Zb Ze (Zb Ze (Zb Ze Zf))))))))) (Zi C_law_digit θ (hr.mono (by decide)) (Zb (Zc 0) (Zb Ze Zf)))))
    (Zh (ZbX θ.own T.b_range (Zb (Zi C_law_digit θ (hr.mono (by decide)) (Zb (Zc 0) (Zb Ze Zf))) Zf) (ZA 3 Z1.nd) (Zh (Zp 4 Z1.nd (ZV (Zi C_law_digit θ (hr.mono (by decide)) (Zb (Zc 0) (Zb (Zc 2) Zf))) (Zbv (Zc 2) Ze)))
    (Zh (Zp 5 Z1.nd (ZV (Zi C_law_digit θ (hr.mono (by decide)) (Zb (Zc 0) (Zb (Zc 2) Zf))) (Zbv (Zc 2) Ze)))
    (Zk (Za6 (ZiS (Zgf (ZM (Zcv hr.units) ZdX (Zu (Zb (Zc 4) (Zb (Zc 5) Zf))) (Zu (Zb Ze (Zb Ze Zf)))) (Zeg (ZM ZgJ ZgS (Zr Zo ZW T.b_len PySem.boot_len (Zb (Zc 1) Zf)) Ze)))) (Zk (Zp 1 Z1.nd (Zi C_law_put θ (hr.mono (by decide)) (Zb (Zc 1) (Zb (Zi C_law_straight θ (hr.mono (by decide)) (Zb (Zu (Zb (Zc 4) (Zb (Zc 5) Zf))) Zf)) Zf))))) ZK)))))
    (Zh (ZbX θ.own T.b_range (Zb (Zi C_law_digit θ (hr.mono (by decide)) (Zb (Zc 0) (Zb Ze Zf))) Zf) (ZA 3 Z1.nd) (Zh (Zp 6 Z1.nd (Zi C_law_digit θ (hr.mono (by decide)) (Zb (Zc 0) (Zb (Zr Zo ZW T.b_len PySem.boot_len (Zb (Zc 1) Zf)) Zf))))
    (Zk (Za6 (ZiS (Zgf (ZM ZeP Ze2 (Zr Zo ZW T.b_len PySem.boot_len (Zb (Zc 1) Zf)) Ze) (Zeg (ZM ZeP Ze2 (Zi C_law_cross θ (hr.mono (by decide)) (Zb (Zm (Zc 1) (ZV (Zc 6) Ze)) (Zb (Zm (Zc 1) (Za7 (ZN (Zc 6) Ze) (Zr Zo ZW T.b_len PySem.boot_len (Zb (Zc 1) Zf)))) Zf))) Ze)))) (Zk (Zp 1 Z1.nd (ZN (Zem (Zc 1) Zek (Zel (Zc 6))) (Zem (Zc 1) (Zel (ZN (Zc 6) Ze)) Zek)))) ZK))))
    (Zk (Zv (Zc 1)))))))
noncomputable abbrev ZbT : Stmt := top 46
noncomputable def Zby : Sv := (Zb5 2 3 (Za (Zd 3) (Za (e2 dMod (Zd 2) (Zd 3)) aNil)))
noncomputable def Zc2 : Sv := (Zn (Zb5 2 3 (Za (Zg bAbs (Za (Zd 0) aNil)) (Za (Zd 1) aNil)))
  (Zn (sWh (tv (e2 dGt (Zd 3) (eC (.int 0)))) Zby)
  (ZF (ZC (Za (e2 dDiv (Zd 0) (Zd 2)) (Za (e2 dDiv (Zd 1) (Zd 2)) aNil))))))
noncomputable def F_law_low : List D → Sto → Out D := fnF Zc2 2 2
theorem Zdj : FnScope ["_law_top", "_law_bottom", "_law_one", "_law_other"] ["_law_top", "_law_bottom"] (Zj ZbT) := ⟨rfl, rfl, rfl, by decide +kernel, rfl, by decide +kernel, by decide +kernel⟩
theorem Zhf {f : Addr} {fd : FuncData} (F : Fun K "_law_low" "_law_low" ZbT f fd) (T : Txt K mg) : FnOk P w K mg base (CXE P w) 101 f fd ["_law_top", "_law_bottom"] (spD K F_law_low) :=
  ZR F Zdj rfl rfl fun cdv A outer s H E hr θ => (Zh (Zca 2 3 (ZI hr (by decide)) Zdj.nd (Zb (Zr Zbu Zdn T.b_abs Zdp (Zb (Zc 0) Zf)) (Zb (Zc 1) Zf)))
    (Zh (ZcO θ.own (ZM ZeP Ze2 (Zc 3) Ze) (Zk (Zca 2 3 (ZI hr (by decide)) Zdj.nd (Zb (Zc 3) (Zb (Za7 (Zc 2) (Zc 3)) Zf)))))
    (Zk (Zv (Zu (Zb (Zbv (Zc 0) (Zc 2)) (Zb (Zbv (Zc 1) (Zc 2)) Zf)))))))
noncomputable abbrev ZaM : Stmt := top 47
noncomputable def Zb0 : Sv := (ZF (ZbU (ZdY "int" (Zd 0)) (ZcL (ZdY "bool" (Zd 0)))))
noncomputable def F_law_whole : List D → Sto → Out D := fnF Zb0 1 0
theorem Zft : FnScope ["_law_thing"] ["_law_thing"] (Zj ZaM) := ⟨rfl, rfl, rfl, by decide +kernel, rfl, by decide +kernel, by decide +kernel⟩
theorem Zfu {f : Addr} {fd : FuncData} (F : Fun K "_law_whole" "_law_whole" ZaM f fd) (T : Txt K mg) : FnOk P w K mg base (CXE P w) 1 f fd ["_law_thing"] (spD K F_law_whole) :=
  ZR F Zft rfl rfl fun cdv A outer s H E hr θ => (Zk (Zv (Ze1 (Zd6 ZhQ T.b_isinstance T.b_int Zd7 (Zc 0)) (Ze0 (ZjT (Zd6 Zgi T.b_isinstance T.b_bool ZhY (Zc 0)))))))
noncomputable abbrev ZaN : Stmt := top 48
noncomputable def Zb1 : Sv := (Zn (sIf (ZdE (ZaY (tv (ZdY "tuple" (Zd 0)))) (ZdE (tv (e2 dNe (Zg bLen (Za (Zd 0) aNil)) (eC (.int 2)))) (ZdE (ZaY (tv (Zg F_law_whole (Za (e2 dIx (Zd 0) (eC (.int 0))) aNil)))) (ZaY (tv (Zg F_law_whole (Za (e2 dIx (Zd 0) (eC (.int 1))) aNil))))))) (ZF (eC (.bl false))) sNil)
  (ZF (ZbU (e2 dGt (e2 dIx (Zd 0) (eC (.int 1))) (eC (.int 0))) (e2 dEq (Zg F_law_low (Za (e2 dIx (Zd 0) (eC (.int 0))) (Za (e2 dIx (Zd 0) (eC (.int 1))) aNil))) (Zd 0)))))
noncomputable def F_law_ratio : List D → Sto → Out D := fnF Zb1 1 0
theorem Zfv : FnScope ["_law_thing"] ["_law_thing"] (Zj ZaN) := ⟨rfl, rfl, rfl, by decide +kernel, rfl, by decide +kernel, by decide +kernel⟩
theorem Zfw {f : Addr} {fd : FuncData} (F : Fun K "_law_ratio" "_law_ratio" ZaN f fd) (T : Txt K mg) (C_law_whole : Cal P w K mg base "_law_whole" 1 1 F_law_whole) (C_law_low : Cal P w K mg base "_law_low" 101 2 F_law_low) : FnOk P w K mg base (CXE P w) 102 f fd ["_law_thing"] (spD K F_law_ratio) :=
  ZR F Zfv rfl rfl fun cdv A outer s H E hr θ => (Zh (Za6 (ZiS (ZeZ (ZcK (Zct (Zd6 ZhR T.b_isinstance T.b_tuple Zjg (Zc 0)))) (ZeZ (ZM (Zcv hr.units) ZdX (Zr Zo ZW T.b_len PySem.boot_len (Zb (Zc 0) Zf)) Ze) (ZeZ (ZcK (Zct (Zi C_law_whole θ (hr.mono (by decide)) (Zb (Zm (Zc 0) Ze) Zf)))) (Zd5 (ZcK (Zct (Zi C_law_whole θ (hr.mono (by decide)) (Zb (Zm (Zc 0) Ze) Zf))))))))) (Zk (Zv ZhK)) ZK)
    (Zk (Zv (Ze1 (Zdm ZeP Ze2 (Zm (Zc 0) Ze) Ze) (Ze0 (Zdm (Zb9 hr.units) ZdF (Zi C_law_low θ (hr.mono (by decide)) (Zb (Zm (Zc 0) Ze) (Zb (Zm (Zc 0) Ze) Zf))) (Zc 0)))))))
noncomputable abbrev Zbl : Stmt := top 49
noncomputable def Zcl : Sv := (ZF (Zg F_law_low (Za (e2 dAdd (e2 dMul (e2 dIx (Zd 0) (eC (.int 0))) (e2 dIx (Zd 1) (eC (.int 1)))) (e2 dMul (e2 dIx (Zd 1) (eC (.int 0))) (e2 dIx (Zd 0) (eC (.int 1))))) (Za (e2 dMul (e2 dIx (Zd 0) (eC (.int 1))) (e2 dIx (Zd 1) (eC (.int 1)))) aNil))))
noncomputable def F_law_plus : List D → Sto → Out D := fnF Zcl 2 0
theorem Zf6 : FnScope ["_law_one", "_law_other"] ["_law_one", "_law_other"] (Zj Zbl) := ⟨rfl, rfl, rfl, by decide +kernel, rfl, by decide +kernel, by decide +kernel⟩
theorem Zf7 {f : Addr} {fd : FuncData} (F : Fun K "_law_plus" "_law_plus" Zbl f fd) (T : Txt K mg) (C_law_low : Cal P w K mg base "_law_low" 101 2 F_law_low) : FnOk P w K mg base (CXE P w) 102 f fd ["_law_one", "_law_other"] (spD K F_law_plus) :=
  ZR F Zf6 rfl rfl fun cdv A outer s H E hr θ => (Zk (Zv (Zi C_law_low θ (hr.mono (by decide)) (Zb (ZN (ZE (Zm (Zc 0) Ze) (Zm (Zc 1) Ze)) (ZE (Zm (Zc 1) Ze) (Zm (Zc 0) Ze))) (Zb (ZE (Zm (Zc 0) Ze) (Zm (Zc 1) Ze)) Zf)))))
noncomputable abbrev Zau : Stmt := top 50
noncomputable def ZaB : Sv := (Zn (Zt (gNm 5) (e2 dSub (Zg F_law_digit (Za (Zd 0) (Za (eC (.int 27)) aNil))) (eC (.int 6))))
  (Zn (Zt (gNm 6) (eC (.int 1)))
  (Zn (sIf (ZdE (tv (e2 dEq (Zd 2) (eC (.int 3)))) (tv (e2 dEq (Zd 2) (eC (.int 4))))) (Zt (gNm 6) (e2 dAdd (eC (.int 1)) (Zg F_law_digit (Za (Zd 0) (Za (eC (.int 12)) aNil))))) sNil)
  (Zn (sIf (tv (e2 dEq (Zd 2) (eC (.int 5)))) (Zn (Zt (gNm 5) (e2 dAdd (e2 dMul (Zg F_law_digit (Za (Zd 0) (Za (e2 dPow (eC (.int 10)) (eC (.int 6))) aNil))) (e2 dPow (eC (.int 10)) (eC (.int 6)))) (Zg F_law_digit (Za (Zd 0) (Za (e2 dPow (eC (.int 10)) (eC (.int 6))) aNil)))))
  (Zn (Zt (gNm 5) (e2 dMul (Zd 5) (e2 dIx (Zag (Za (eC (.int 1)) (Za (ZbC (eC (.int 1))) aNil))) (Zg F_law_digit (Za (Zd 0) (Za (eC (.int 2)) aNil))))))
  (Zt (gNm 6) (Zg bMax (Za (eC (.int 1)) (Za (e2 dAdd (e2 dMul (Zg F_law_digit (Za (Zd 0) (Za (e2 dPow (eC (.int 10)) (eC (.int 6))) aNil))) (e2 dPow (eC (.int 10)) (eC (.int 6)))) (Zg F_law_digit (Za (Zd 0) (Za (e2 dPow (eC (.int 10)) (eC (.int 6))) aNil)))) aNil)))))) sNil)
  (Zn (sIf (tv (e2 dEq (Zd 2) (eC (.int 6)))) (Zt (gNm 5) (e2 dMul (Zd 5) (Zg bInt (Za (e2 dEq (e2 dMod (Zd 5) (eC (.int 4))) (eC (.int 0))) aNil)))) sNil)
  (Z3 (Zc6 mApp (Zd 3) (Za (Zg F_law_low (Za (Zd 5) (Za (Zd 6) aNil))) aNil))))))))
noncomputable def Zbz : Sv := (Zn (Zt (gNm 2) (Zg F_law_digit (Za (Zd 0) (Za (eC (.int 8)) aNil))))
  (Zn (Zt (gNm 3) (Zag aNil))
  (Zn (Zax (gNm 4) (Za (Zd 1) aNil) ZaB)
  (ZF (Zd 3)))))
noncomputable def F_law_height : List D → Sto → Out D := fnF Zbz 2 5
theorem ZD : FnScope ["_law_bag_here", "_law_many", "_law_kind", "_law_found", "_law_k", "_law_top", "_law_bottom"] ["_law_bag_here", "_law_many"] (Zj Zau) := ⟨rfl, rfl, rfl, by decide +kernel, rfl, by decide +kernel, by decide +kernel⟩
theorem ZeF {f : Addr} {fd : FuncData} (F : Fun K "_law_height" "_law_height" Zau f fd) (T : Txt K mg) (C_law_digit : Cal P w K mg base "_law_digit" 1 2 F_law_digit) (C_law_low : Cal P w K mg base "_law_low" 101 2 F_law_low) : FnOk P w K mg base (CXE P w) 102 f fd ["_law_bag_here", "_law_many"] (spD K F_law_height) :=
  ZR F ZD rfl rfl fun cdv A outer s H E hr θ => (Zh (Zp 2 ZD.nd (Zi C_law_digit θ (hr.mono (by decide)) (Zb (Zc 0) (Zb Ze Zf))))
    (Zh (Zp 3 ZD.nd (Z6 Zf))
    (Zh (ZbX θ.own T.b_range (Zb (Zc 1) Zf) (ZA 4 ZD.nd) (Zh (Zp 5 ZD.nd (ZV (Zi C_law_digit θ (hr.mono (by decide)) (Zb (Zc 0) (Zb Ze Zf))) Ze))
    (Zh (Zp 6 ZD.nd Ze)
    (Zh (Za6 (ZiS (ZeZ (ZM (Zb9 hr.units) ZdF (Zc 2) Ze) (Zd5 (ZM (Zb9 hr.units) ZdF (Zc 2) Ze)))) (Zk (Zp 6 ZD.nd (ZN Ze (Zi C_law_digit θ (hr.mono (by decide)) (Zb (Zc 0) (Zb Ze Zf)))))) ZK)
    (Zh (Za6 (ZM (Zb9 hr.units) ZdF (Zc 2) Ze) (Zh (Zp 5 ZD.nd (ZN (ZE (Zi C_law_digit θ (hr.mono (by decide)) (Zb (Zc 0) (Zb (Zcu Ze Ze) Zf))) (Zcu Ze Ze)) (Zi C_law_digit θ (hr.mono (by decide)) (Zb (Zc 0) (Zb (Zcu Ze Ze) Zf)))))
    (Zh (Zp 5 ZD.nd (ZE (Zc 5) (Zm (Z6 (Zb Ze (Zb (Zb4 Ze) Zf))) (Zi C_law_digit θ (hr.mono (by decide)) (Zb (Zc 0) (Zb Ze Zf))))))
    (Zk (Zp 6 ZD.nd (Zr (ZeQ (ZI hr (by decide))) ZjV T.b_max Zj1 (Zb Ze (Zb (ZN (ZE (Zi C_law_digit θ (hr.mono (by decide)) (Zb (Zc 0) (Zb (Zcu Ze Ze) Zf))) (Zcu Ze Ze)) (Zi C_law_digit θ (hr.mono (by decide)) (Zb (Zc 0) (Zb (Zcu Ze Ze) Zf)))) Zf))))))) ZK)
    (Zh (Za6 (ZM (Zb9 hr.units) ZdF (Zc 2) Ze) (Zk (Zp 5 ZD.nd (ZE (Zc 5) (Zbm ZcJ Zgh T.b_int Zd7 (Zb (Zdm (Zb9 hr.units) ZdF (Za7 (Zc 5) Ze) Ze) Zf))))) ZK)
    (Zk (Za5 (Zay (Zc 3) (Zi C_law_low θ (hr.mono (by decide)) (Zb (Zc 5) (Zb (Zc 6) Zf))))))))))))
    (Zk (Zv (Zc 3))))))
noncomputable abbrev Zaf : Stmt := top 51
noncomputable def Zaj : Sv := (Zn (Zt (gNm 4) (Zg F_law_sum (Za (e2 dIx (Zd 0) (e2 dSub (Zd 2) (eC (.int 1)))) (Za (e2 dIx (Zd 0) (e2 dMod (e2 dAdd (Zd 2) (eC (.int 1))) (Zg bLen (Za (Zd 0) aNil)))) aNil))))
  (Zn (Zt (gNm 5) (Zg bInt (Za (e2 dEq (e2 dIx (Zd 3) (eC (.int 0))) (eC (.int 0))) aNil)))
  (Z3 (Zc6 mApp (Zd 1) (Za (e2 dSub (eC (.int 0)) (e2 dDiv (e2 dIx (Zd 4) (Zd 5)) (e2 dIx (Zd 3) (Zd 5)))) aNil)))))
noncomputable def Zbd : Sv := (Zn (Zt (gNm 1) (Zag aNil))
  (Zn (ZcR (gTp (gCs (gNm 2) (gCs (gNm 3) gNl))) (iEn (Za (Zd 0) aNil)) Zaj)
  (ZF (Zd 1))))
noncomputable def F_law_numbers : List D → Sto → Out D := fnF Zbd 1 5
theorem Z2 : FnScope ["_law_rays", "_law_found", "_law_at", "_law_ray", "_law_both_here", "_law_place"] ["_law_rays"] (Zj Zaf) := ⟨rfl, rfl, rfl, by decide +kernel, rfl, by decide +kernel, by decide +kernel⟩
theorem Zd4 {f : Addr} {fd : FuncData} (F : Fun K "_law_numbers" "_law_numbers" Zaf f fd) (T : Txt K mg) (C_law_sum : Cal P w K mg base "_law_sum" 1 2 F_law_sum) : FnOk P w K mg base (CXE P w) 101 f fd ["_law_rays"] (spD K F_law_numbers) :=
  ZR F Z2 rfl rfl fun cdv A outer s H E hr θ => (Zh (Zp 1 Z2.nd (Z6 Zf))
    (Zh (ZdH θ.own (ZdI (hr.hd (by decide)) T.b_enumerate (Zb (Zc 0) Zf)) (ZcN (ZI hr (by decide)) (ZP (ZA 2 Z2.nd) (ZP (ZA 3 Z2.nd) ZbV)) (hlen := (Z4 (Z4 (fun _ _ _ h => ZbW h))))) (Zh (Zp 4 Z2.nd (Zi C_law_sum θ (hr.mono (by decide)) (Zb (Zm (Zc 0) (ZV (Zc 2) Ze)) (Zb (Zm (Zc 0) (Za7 (ZN (Zc 2) Ze) (Zr Zo ZW T.b_len PySem.boot_len (Zb (Zc 0) Zf)))) Zf))))
    (Zh (Zp 5 Z2.nd (Zbm ZcJ Zgh T.b_int Zd7 (Zb (Zdm (Zb9 hr.units) ZdF (Zm (Zc 3) Ze) Ze) Zf)))
    (Zk (Za5 (Zay (Zc 1) (ZV Ze (Zbv (Zm (Zc 4) (Zc 5)) (Zm (Zc 3) (Zc 5))))))))))
    (Zk (Zv (Zc 1)))))
noncomputable abbrev ZaO : Stmt := top 52
noncomputable def ZaV : Sv := (Zn (Zt (gNm 5) (Zg F_law_plus (Za (e2 dIx (Zd 1) (e2 dSub (Zd 3) (eC (.int 1)))) (Za (e2 dIx (Zd 1) (e2 dMod (e2 dAdd (Zd 3) (eC (.int 1))) (Zg bLen (Za (Zd 0) aNil)))) aNil))))
  (Z3 (Zc6 mApp (Zd 2) (Za (Zg F_law_plus (Za (Zd 5) (Za (Zg F_law_low (Za (e2 dMul (Zd 4) (e2 dIx (e2 dIx (Zd 1) (Zd 3)) (eC (.int 0)))) (Za (e2 dIx (e2 dIx (Zd 1) (Zd 3)) (eC (.int 1))) aNil))) aNil))) aNil))))
noncomputable def Zb2 : Sv := (Zn (Zt (gNm 2) (Zag aNil))
  (Zn (ZcR (gTp (gCs (gNm 3) (gCs (gNm 4) gNl))) (iEn (Za (Zg F_law_numbers (Za (Zd 0) aNil)) aNil)) ZaV)
  (ZF (Zd 2))))
noncomputable def F_law_bends : List D → Sto → Out D := fnF Zb2 2 4
theorem Za4 : FnScope ["_law_rays", "_law_height_here", "_law_found", "_law_at", "_law_number", "_law_whole_sum"] ["_law_rays", "_law_height_here"] (Zj ZaO) := ⟨rfl, rfl, rfl, by decide +kernel, rfl, by decide +kernel, by decide +kernel⟩
theorem Zfx {f : Addr} {fd : FuncData} (F : Fun K "_law_bends" "_law_bends" ZaO f fd) (T : Txt K mg) (C_law_numbers : Cal P w K mg base "_law_numbers" 101 1 F_law_numbers) (C_law_plus : Cal P w K mg base "_law_plus" 102 2 F_law_plus) (C_law_low : Cal P w K mg base "_law_low" 101 2 F_law_low) : FnOk P w K mg base (CXE P w) 103 f fd ["_law_rays", "_law_height_here"] (spD K F_law_bends) :=
  ZR F Za4 rfl rfl fun cdv A outer s H E hr θ => (Zh (Zp 2 Za4.nd (Z6 Zf))
    (Zh (ZdH θ.own (ZdI (hr.hd (by decide)) T.b_enumerate (Zb (Zi C_law_numbers θ (hr.mono (by decide)) (Zb (Zc 0) Zf)) Zf)) (ZcN (ZI hr (by decide)) (ZP (ZA 3 Za4.nd) (ZP (ZA 4 Za4.nd) ZbV)) (hlen := (Z4 (Z4 (fun _ _ _ h => ZbW h))))) (Zh (Zp 5 Za4.nd (Zi C_law_plus θ (hr.mono (by decide)) (Zb (Zm (Zc 1) (ZV (Zc 3) Ze)) (Zb (Zm (Zc 1) (Za7 (ZN (Zc 3) Ze) (Zr Zo ZW T.b_len PySem.boot_len (Zb (Zc 0) Zf)))) Zf))))
    (Zk (Za5 (Zay (Zc 2) (Zi C_law_plus θ (hr.mono (by decide)) (Zb (Zc 5) (Zb (Zi C_law_low θ (hr.mono (by decide)) (Zb (ZE (Zc 4) (Zm (Zm (Zc 1) (Zc 3)) Ze)) (Zb (Zm (Zm (Zc 1) (Zc 3)) Ze) Zf))) Zf))))))))
    (Zk (Zv (Zc 2)))))
noncomputable abbrev Zav : Stmt := top 53
noncomputable def Zdu : Sv := (Zn (sIf (ZdE (ZaY (tv (ZdY "list" (Zd 0)))) (tv (e2 dNe (Zg bLen (Za (Zd 0) aNil)) (Zg bLen (Za (Zd 1) aNil))))) (ZF (eC (.bl false))) sNil)
  (ZF (ZbU (Zg bAll (Za (Zb6 (iSq (Zd 0)) 1 [] (gNm 0) (fun _ M => .ok true M) (Zg F_law_ratio (Za (Zd 0) aNil))) aNil)) (e2 dEq (Zd 0) (Zd 1)))))
noncomputable def F_law_ratios : List D → Sto → Out D := fnF Zdu 2 0
theorem ZeG : FnScope ["_law_found", "_law_due"] ["_law_found", "_law_due"] (Zj Zav) := ⟨rfl, rfl, rfl, by decide +kernel, rfl, by decide +kernel, by decide +kernel⟩
theorem ZeH {f : Addr} {fd : FuncData} (F : Fun K "_law_ratios" "_law_ratios" Zav f fd) (T : Txt K mg) (C_law_ratio : Cal P w K mg base "_law_ratio" 102 1 F_law_ratio) : FnOk P w K mg base (CXE P w) 103 f fd ["_law_found", "_law_due"] (spD K F_law_ratios) :=
  ZR F ZeG rfl rfl fun cdv A outer s H E hr θ => (Zh (Za6 (ZiS (ZeZ (ZcK (Zct (Zd6 Zjc T.b_isinstance T.b_list Zei (Zc 0)))) (Zd5 (ZM (Zcv hr.units) ZdX (Zr Zo ZW T.b_len PySem.boot_len (Zb (Zc 0) Zf)) (Zr Zo ZW T.b_len PySem.boot_len (Zb (Zc 1) Zf)))))) (Zk (Zv ZhK)) ZK)
    (Zk (Zv (Ze1 (Zr (Zgn (ZI hr (by decide))) Zj3 T.b_all Zj2 (Zb (ZfJ (ZqS (N := ["_law_one"]) (k := 1) (by decide +kernel) rfl (by decide +kernel) rfl) (Zh0 (Zc 0)) (fun _ _ _ _ => (ZA 0 (show List.Nodup (["_law_one"] : List Str) by decide +kernel))) (fun _ _ _ _ => (Or.inl ⟨rfl, rfl⟩)) (fun _ _ _ _ => (Zi C_law_ratio ZdG (hr.mono (by decide)) (Zb (Zc 0) Zf)))) Zf)) (Ze0 (Zdm (Zb9 hr.units) ZdF (Zc 0) (Zc 1)))))))
noncomputable abbrev ZaP : Stmt := top 54
noncomputable def Zcz : Sv := (Zn (Zt (gNm 7) (e2 dSub (Zg F_law_digit (Za (Zd 0) (Za (e2 dMul (eC (.int 2)) (e2 dPow (eC (.int 10)) (eC (.int 40)))) aNil))) (e2 dPow (eC (.int 10)) (eC (.int 40)))))
  (Z3 (Zc6 mApp (Zd 4) (Za (Zg F_law_low (Za (Zd 7) (Za (e2 dAdd (eC (.int 1)) (Zg F_law_digit (Za (Zd 0) (Za (e2 dPow (eC (.int 10)) (eC (.int 30))) aNil)))) aNil))) aNil))))
noncomputable def Zbq : Sv := (Zn (Zt (gNm 1) (Zg F_law_digit (Za (Zd 0) (Za (eC (.int 8)) aNil))))
  (Zn (Zt (gNm 2) (Zg F_law_smooth (Za (Zd 0) aNil)))
  (Zn (sIf (tv (e2 dEq (Zd 1) (eC (.int 5)))) (Zn (Zt (gNm 3) (Zg F_least_round (Za (Zg F_law_any (Za (Zd 0) aNil)) aNil)))
  (sIf (tv (e2 dLt (Zg bLen (Za (Zd 3) aNil)) (eC (.int 31)))) (Zt (gNm 2) (Zd 3)) sNil)) sNil)
  (Zn (Zt (gNm 4) (Zg F_law_height (Za (Zd 0) (Za (Zg bLen (Za (Zd 2) aNil)) aNil))))
  (Zn (sIf (tv (e2 dEq (Zd 1) (eC (.int 6)))) (Zn (Zt (gNm 5) (ZC (Za (e2 dSub (e2 dSub (eC (.int 0)) (e2 dIx (e2 dIx (Zd 2) (eC (.int 0))) (eC (.int 0)))) (e2 dIx (e2 dIx (Zd 2) (eC (.int 1))) (eC (.int 0)))) (Za (e2 dSub (e2 dSub (eC (.int 0)) (e2 dIx (e2 dIx (Zd 2) (eC (.int 0))) (eC (.int 1)))) (e2 dIx (e2 dIx (Zd 2) (eC (.int 1))) (eC (.int 1)))) aNil))))
  (Zn (Zt (gNm 2) (e2 dIx (Zag (Za (Zag (Za (ZC (Za (eC (.int 1)) (Za (eC (.int 0)) aNil))) (Za (ZC (Za (eC (.int 0)) (Za (eC (.int 1)) aNil))) (Za (ZC (Za (ZbC (eC (.int 1))) (Za (ZbC (eC (.int 1))) aNil))) aNil)))) (Za (e2 dAdd (eSl (Zd 2) oNo (oSo (eC (.int 2)))) (Zag (Za (Zd 5) aNil))) aNil))) (Zg bInt (Za (Zg F_law_near (Za (Zd 5) aNil)) aNil))))
  (Zn (Zt (gNm 4) (Zag aNil))
  (ZjY (gNm 6) (Zd 2) Zcz)))) sNil)
  (ZF (ZC (Za (Zd 2) (Za (Zd 4) aNil)))))))))
noncomputable def F_law_drawn : List D → Sto → Out D := fnF Zbq 1 7
theorem ZG : FnScope ["_law_bag_here", "_law_kind", "_law_rays", "_law_found", "_law_height_here", "_law_third", "_law_ray", "_law_top"] ["_law_bag_here"] (Zj ZaP) := ⟨rfl, rfl, rfl, by decide +kernel, rfl, by decide +kernel, by decide +kernel⟩
theorem Zfy {f : Addr} {fd : FuncData} (F : Fun K "_law_drawn" "_law_drawn" ZaP f fd) (T : Txt K mg) (C_law_digit : Cal P w K mg base "_law_digit" 1 2 F_law_digit) (C_law_smooth : Cal P w K mg base "_law_smooth" 104 1 F_law_smooth) (C_law_any : Cal P w K mg base "_law_any" 105 1 F_law_any) (C_least_round : Cal P w K mg base "least_round" 105 1 F_least_round) (C_law_height : Cal P w K mg base "_law_height" 102 2 F_law_height) (C_law_near : Cal P w K mg base "_law_near" 1 1 F_law_near) (C_law_low : Cal P w K mg base "_law_low" 101 2 F_law_low) : FnOk P w K mg base (CXE P w) 106 f fd ["_law_bag_here"] (spD K F_law_drawn) :=
  ZR F ZG rfl rfl fun cdv A outer s H E hr θ => (Zh (Zp 1 ZG.nd (Zi C_law_digit θ (hr.mono (by decide)) (Zb (Zc 0) (Zb Ze Zf))))
    (Zh (Zp 2 ZG.nd (Zi C_law_smooth θ (hr.mono (by decide)) (Zb (Zc 0) Zf)))
    (Zh (Za6 (ZM (Zb9 hr.units) ZdF (Zc 1) Ze) (Zh (Zp 3 ZG.nd (Zi C_least_round θ (hr.mono (by decide)) (Zb (Zi C_law_any θ (hr.mono (by decide)) (Zb (Zc 0) Zf)) Zf)))
    (Zk (Za6 (ZM ZgJ ZgS (Zr Zo ZW T.b_len PySem.boot_len (Zb (Zc 3) Zf)) Ze) (Zk (Zp 2 ZG.nd (Zc 3))) ZK))) ZK)
    (Zh (Zp 4 ZG.nd (Zi C_law_height θ (hr.mono (by decide)) (Zb (Zc 0) (Zb (Zr Zo ZW T.b_len PySem.boot_len (Zb (Zc 2) Zf)) Zf))))
    (Zh (Za6 (ZM (Zb9 hr.units) ZdF (Zc 1) Ze) (Zh (Zp 5 ZG.nd (Zu (Zb (ZV (ZV Ze (Zm (Zm (Zc 2) Ze) Ze)) (Zm (Zm (Zc 2) Ze) Ze)) (Zb (ZV (ZV Ze (Zm (Zm (Zc 2) Ze) Ze)) (Zm (Zm (Zc 2) Ze) Ze)) Zf))))
    (Zh (Zp 2 ZG.nd (Zm (Z6 (Zb (Z6 (Zb (Zu (Zb Ze (Zb Ze Zf))) (Zb (Zu (Zb Ze (Zb Ze Zf))) (Zb (Zu (Zb (Zb4 Ze) (Zb (Zb4 Ze) Zf))) Zf)))) (Zb (ZN (Zem (Zc 2) Zek (Zel Ze)) (Z6 (Zb (Zc 5) Zf))) Zf))) (Zbm ZcJ Zgh T.b_int Zd7 (Zb (Zi C_law_near θ (hr.mono (by decide)) (Zb (Zc 5) Zf)) Zf))))
    (Zh (Zp 4 ZG.nd (Z6 Zf))
    (Zk (Zj0 θ.own (Zc 2) (ZA 6 ZG.nd) (Zh (Zp 7 ZG.nd (ZV (Zi C_law_digit θ (hr.mono (by decide)) (Zb (Zc 0) (Zb (ZE Ze (Zcu Ze Ze)) Zf))) (Zcu Ze Ze)))
    (Zk (Za5 (Zay (Zc 4) (Zi C_law_low θ (hr.mono (by decide)) (Zb (Zc 7) (Zb (ZN Ze (Zi C_law_digit θ (hr.mono (by decide)) (Zb (Zc 0) (Zb (Zcu Ze Ze) Zf)))) Zf)))))))))))) ZK)
    (Zk (Zv (Zu (Zb (Zc 2) (Zb (Zc 4) Zf))))))))))
noncomputable abbrev ZeI : Stmt := top 55
noncomputable def ZeJ : Sv := (Zn (Zt (gTp (gCs (gNm 2) (gCs (gNm 3) gNl))) (Zg F_law_drawn (Za (Zg F_law_bag (Za (Zd 0) (Za (Zd 1) aNil))) aNil)))
  (Zn (Zt (gNm 4) (Zag (Za (Zg bList (Za (Zd 2) aNil)) (Za (Zg bList (Za (Zd 3) aNil)) aNil))))
  (Zn (Zt (gNm 5) (Zg F_law_bends (Za (Zd 2) (Za (Zd 3) aNil))))
  (Zn (Zt (gNm 6) (Zg F_bends (Za (e2 dIx (Zd 4) (eC (.int 0))) (Za (e2 dIx (Zd 4) (eC (.int 1))) aNil))))
  (Zn (sIf (ZdE (ZaY (tv (Zg F_law_ratios (Za (Zd 6) (Za (Zd 5) aNil))))) (tv (e2 dNe (Zd 4) (Zag (Za (Zd 2) (Za (Zd 3) aNil)))))) (ZF (eC (.bl false))) sNil)
  (Zn (Z3 (Zc6 mApp (Zd 6) (Za (ZC (Za (eC (.int 1)) (Za (eC (.int 2)) aNil))) aNil)))
  (Zn (ZeK (e2 dIx (Zd 4) (eC (.int 1))) (eC (.int 0)) (Zg F_law_plus (Za (e2 dIx (e2 dIx (Zd 4) (eC (.int 1))) (eC (.int 0))) (Za (ZC (Za (eC (.int 1)) (Za (eC (.int 1)) aNil))) aNil))))
  (sIf (ZdE (ZaY (tv (Zg F_law_ratios (Za (Zg F_bends (Za (e2 dIx (Zd 4) (eC (.int 0))) (Za (e2 dIx (Zd 4) (eC (.int 1))) aNil))) (Za (Zg F_law_bends (Za (Zd 2) (Za (e2 dIx (Zd 4) (eC (.int 1))) aNil))) aNil))))) (tv (e2 dNe (Zg F_bends (Za (Zd 2) (Za (Zd 3) aNil))) (Zd 5)))) (ZF (eC (.bl false))) sNil))))))))
noncomputable def ZoG : Sv := (Zn (Zax (gNm 1) (Za (Zg bMax (Za (eC (.int 1)) (Za (Zg bMin (Za (eC (.int 8)) (Za (Zg bLen (Za (Zd 0) aNil)) aNil))) aNil))) aNil) ZeJ)
  (ZF (eC (.bl true))))
noncomputable def Zf8 : List D → Sto → Out D := fnF ZoG 1 6
theorem ZdW : FnScope ["_law_script", "_law_k", "_law_rays", "_law_height_here", "_law_given", "_law_due", "_law_found"] ["_law_script"] (Zj ZeI) := ⟨rfl, rfl, rfl, by decide +kernel, rfl, by decide +kernel, by decide +kernel⟩
theorem ZoH {f : Addr} {fd : FuncData} (F : Fun K "law" "law" ZeI f fd) (T : Txt K mg) (C_law_bag : Cal P w K mg base "_law_bag" 1 2 F_law_bag) (C_law_drawn : Cal P w K mg base "_law_drawn" 106 1 F_law_drawn) (C_law_bends : Cal P w K mg base "_law_bends" 103 2 F_law_bends) (C_bends : Cal P w K mg base "bends" 104 2 F_bends) (C_law_ratios : Cal P w K mg base "_law_ratios" 103 2 F_law_ratios) (C_law_plus : Cal P w K mg base "_law_plus" 102 2 F_law_plus) : FnOk P w K mg base (CXE P w) 107 f fd ["_law_script"] (spD K Zf8) :=
  ZR F ZdW rfl rfl fun cdv A outer s H E hr θ => (Zh (ZbX θ.own T.b_range (Zb (Zr (ZeQ (ZI hr (by decide))) ZjV T.b_max Zj1 (Zb Ze (Zb (Zr (Zht (ZI hr (by decide))) ZmH T.b_min ZmK (Zb Ze (Zb (Zr Zo ZW T.b_len PySem.boot_len (Zb (Zc 0) Zf)) Zf))) Zf))) Zf) (ZA 1 ZdW.nd) (Zh (Zgk (Zi C_law_drawn θ (hr.mono (by decide)) (Zb (Zi C_law_bag θ (hr.mono (by decide)) (Zb (Zc 0) (Zb (Zc 1) Zf))) Zf)) (ZcN (ZI hr (by decide)) (ZP (ZA 2 ZdW.nd) (ZP (ZA 3 ZdW.nd) ZbV)) (hlen := (Z4 (Z4 (fun _ _ _ h => ZbW h))))))
    (Zh (Zp 4 ZdW.nd (Z6 (Zb (Zbm Zb8 ZfH T.b_list Zei (Zb (Zc 2) Zf)) (Zb (Zbm Zb8 ZfH T.b_list Zei (Zb (Zc 3) Zf)) Zf))))
    (Zh (Zp 5 ZdW.nd (Zi C_law_bends θ (hr.mono (by decide)) (Zb (Zc 2) (Zb (Zc 3) Zf))))
    (Zh (Zp 6 ZdW.nd (Zi C_bends θ (hr.mono (by decide)) (Zb (Zm (Zc 4) Ze) (Zb (Zm (Zc 4) Ze) Zf))))
    (Zh (Za6 (ZiS (ZeZ (ZcK (Zct (Zi C_law_ratios θ (hr.mono (by decide)) (Zb (Zc 6) (Zb (Zc 5) Zf))))) (Zd5 (ZM (Zcv hr.units) ZdX (Zc 4) (Z6 (Zb (Zc 2) (Zb (Zc 3) Zf))))))) (Zk (Zv ZhK)) ZK)
    (Zh (Za5 (Zay (Zc 6) (Zu (Zb Ze (Zb Ze Zf)))))
    (Zh (ZhT (Zm (Zc 4) Ze) Ze (Zi C_law_plus θ (hr.mono (by decide)) (Zb (Zm (Zm (Zc 4) Ze) Ze) (Zb (Zu (Zb Ze (Zb Ze Zf))) Zf))))
    (Zk (Za6 (ZiS (ZeZ (ZcK (Zct (Zi C_law_ratios θ (hr.mono (by decide)) (Zb (Zi C_bends θ (hr.mono (by decide)) (Zb (Zm (Zc 4) Ze) (Zb (Zm (Zc 4) Ze) Zf))) (Zb (Zi C_law_bends θ (hr.mono (by decide)) (Zb (Zc 2) (Zb (Zm (Zc 4) Ze) Zf))) Zf))))) (Zd5 (ZM (Zcv hr.units) ZdX (Zi C_bends θ (hr.mono (by decide)) (Zb (Zc 2) (Zb (Zc 3) Zf))) (Zc 5))))) (Zk (Zv ZhK)) ZK))))))))))
    (Zk (Zv ZhK)))
end
theorem ZoI {l : PySem.W.OpenLaw} {w : World} {K : PySem.W.Frag} {h : Heap} {mg : Str → Option Value} {fa f1 f2 f3 f4 f5 f6 f7 f8 f9 f10 f11 f12 f13 f14 f15 f16 f17 f18 f19 f20 f21 f22 f23 f24 f25 f26 f27 f28 f29 f30 f31 f32 f33 f34 f35 f36 f37 f38 f39 f40 f41 : Addr} (X : K.In h) (G : h.Ns mainGlobals mg) (hfa : mg "law" = some (.ref fa))
    {od1 an1 od2 an2 od3 an3 od4 an4 od5 an5 od6 an6 od7 an7 od8 an8 od9 an9 od10 an10 od11 an11 od12 an12 od13 an13 od14 an14 od15 an15 od16 an16 od17 an17 od18 an18 od19 an19 od20 an20 od21 an21 od22 an22 od23 an23 od24 an24 od25 an25 od26 an26 od27 an27 od28 an28 od29 an29 od30 an30 od31 an31 od32 an32 od33 an33 od34 an34 od35 an35 od36 an36 od37 an37 od38 an38 od39 an39 od40 an40 od41 an41 : Option Addr} {sl1 sl2 sl3 sl4 sl5 sl6 sl7 sl8 sl9 sl10 sl11 sl12 sl13 sl14 sl15 sl16 sl17 sl18 sl19 sl20 sl21 sl22 sl23 sl24 sl25 sl26 sl27 sl28 sl29 sl30 sl31 sl32 sl33 sl34 sl35 sl36 sl37 sl38 sl39 sl40 sl41 : Array (Option Value)} {oc1 kV1 dc1 pm1 cd1 ct1 oc2 kV2 dc2 pm2 cd2 ct2 oc3 kV3 dc3 pm3 cd3 ct3 oc4 kV4 dc4 pm4 cd4 ct4 oc5 kV5 dc5 pm5 cd5 ct5 oc6 kV6 dc6 pm6 cd6 ct6 oc7 kV7 dc7 pm7 cd7 ct7 oc8 kV8 dc8 pm8 cd8 ct8 oc9 kV9 dc9 pm9 cd9 ct9 oc10 kV10 dc10 pm10 cd10 ct10 oc11 kV11 dc11 pm11 cd11 ct11 oc12 kV12 dc12 pm12 cd12 ct12 oc13 kV13 dc13 pm13 cd13 ct13 oc14 kV14 dc14 pm14 cd14 ct14 oc15 kV15 dc15 pm15 cd15 ct15 oc16 kV16 dc16 pm16 cd16 ct16 oc17 kV17 dc17 pm17 cd17 ct17 oc18 kV18 dc18 pm18 cd18 ct18 oc19 kV19 dc19 pm19 cd19 ct19 oc20 kV20 dc20 pm20 cd20 ct20 oc21 kV21 dc21 pm21 cd21 ct21 oc22 kV22 dc22 pm22 cd22 ct22 oc23 kV23 dc23 pm23 cd23 ct23 oc24 kV24 dc24 pm24 cd24 ct24 oc25 kV25 dc25 pm25 cd25 ct25 oc26 kV26 dc26 pm26 cd26 ct26 oc27 kV27 dc27 pm27 cd27 ct27 oc28 kV28 dc28 pm28 cd28 ct28 oc29 kV29 dc29 pm29 cd29 ct29 oc30 kV30 dc30 pm30 cd30 ct30 oc31 kV31 dc31 pm31 cd31 ct31 oc32 kV32 dc32 pm32 cd32 ct32 oc33 kV33 dc33 pm33 cd33 ct33 oc34 kV34 dc34 pm34 cd34 ct34 oc35 kV35 dc35 pm35 cd35 ct35 oc36 kV36 dc36 pm36 cd36 ct36 oc37 kV37 dc37 pm37 cd37 ct37 oc38 kV38 dc38 pm38 cd38 ct38 oc39 kV39 dc39 pm39 cd39 ct39 oc40 kV40 dc40 pm40 cd40 ct40 oc41 kV41 dc41 pm41 cd41 ct41 : Value}
    (a1 : PySem.W.nsIn K mainGlobals "is_whole" = some (some (.ref f1))) (l1 : K.lookup f1 = some ⟨oc1, od1, .func (PySem.W.fnOf "is_whole" "is_whole" (Zs Zbg) (Zq Zbg) (Zj Zbg) .none kV1 dc1 pm1 an1 cd1 ct1), sl1⟩) (c1 : PySem.W.codeIn K cd1 "is_whole" = true) (k1 : PySem.W.keepIn K (.ref f1) = true)
    (a2 : PySem.W.nsIn K mainGlobals "greatest_divisor" = some (some (.ref f2))) (l2 : K.lookup f2 = some ⟨oc2, od2, .func (PySem.W.fnOf "greatest_divisor" "greatest_divisor" (Zs ZH) (Zq ZH) (Zj ZH) .none kV2 dc2 pm2 an2 cd2 ct2), sl2⟩) (c2 : PySem.W.codeIn K cd2 "greatest_divisor" = true) (k2 : PySem.W.keepIn K (.ref f2) = true)
    (a3 : PySem.W.nsIn K mainGlobals "crossed" = some (some (.ref f3))) (l3 : K.lookup f3 = some ⟨oc3, od3, .func (PySem.W.fnOf "crossed" "crossed" (Zs ZbL) (Zq ZbL) (Zj ZbL) .none kV3 dc3 pm3 an3 cd3 ct3), sl3⟩) (c3 : PySem.W.codeIn K cd3 "crossed" = true) (k3 : PySem.W.keepIn K (.ref f3) = true)
    (a4 : PySem.W.nsIn K mainGlobals "following" = some (some (.ref f4))) (l4 : K.lookup f4 = some ⟨oc4, od4, .func (PySem.W.fnOf "following" "following" (Zs ZaI) (Zq ZaI) (Zj ZaI) .none kV4 dc4 pm4 an4 cd4 ct4), sl4⟩) (c4 : PySem.W.codeIn K cd4 "following" = true) (k4 : PySem.W.keepIn K (.ref f4) = true)
    (a5 : PySem.W.nsIn K mainGlobals "unspanned" = some (some (.ref f5))) (l5 : K.lookup f5 = some ⟨oc5, od5, .func (PySem.W.fnOf "unspanned" "unspanned" (Zs ZaJ) (Zq ZaJ) (Zj ZaJ) .none kV5 dc5 pm5 an5 cd5 ct5), sl5⟩) (c5 : PySem.W.codeIn K cd5 "unspanned" = true) (k5 : PySem.W.keepIn K (.ref f5) = true)
    (a6 : PySem.W.nsIn K mainGlobals "ask_smooth" = some (some (.ref f6))) (l6 : K.lookup f6 = some ⟨oc6, od6, .func (PySem.W.fnOf "ask_smooth" "ask_smooth" (Zs Zaq) (Zq Zaq) (Zj Zaq) .none kV6 dc6 pm6 an6 cd6 ct6), sl6⟩) (c6 : PySem.W.codeIn K cd6 "ask_smooth" = true) (k6 : PySem.W.keepIn K (.ref f6) = true)
    (a7 : PySem.W.nsIn K mainGlobals "numbers" = some (some (.ref f7))) (l7 : K.lookup f7 = some ⟨oc7, od7, .func (PySem.W.fnOf "numbers" "numbers" (Zs Zbr) (Zq Zbr) (Zj Zbr) .none kV7 dc7 pm7 an7 cd7 ct7), sl7⟩) (c7 : PySem.W.codeIn K cd7 "numbers" = true) (k7 : PySem.W.keepIn K (.ref f7) = true)
    (a8 : PySem.W.nsIn K mainGlobals "ratio" = some (some (.ref f8))) (l8 : K.lookup f8 = some ⟨oc8, od8, .func (PySem.W.fnOf "ratio" "ratio" (Zs Zde) (Zq Zde) (Zj Zde) .none kV8 dc8 pm8 an8 cd8 ct8), sl8⟩) (c8 : PySem.W.codeIn K cd8 "ratio" = true) (k8 : PySem.W.keepIn K (.ref f8) = true)
    (a9 : PySem.W.nsIn K mainGlobals "plus" = some (some (.ref f9))) (l9 : K.lookup f9 = some ⟨oc9, od9, .func (PySem.W.fnOf "plus" "plus" (Zs Zed) (Zq Zed) (Zj Zed) .none kV9 dc9 pm9 an9 cd9 ct9), sl9⟩) (c9 : PySem.W.codeIn K cd9 "plus" = true) (k9 : PySem.W.keepIn K (.ref f9) = true)
    (a10 : PySem.W.nsIn K mainGlobals "times" = some (some (.ref f10))) (l10 : K.lookup f10 = some ⟨oc10, od10, .func (PySem.W.fnOf "times" "times" (Zs Zdf) (Zq Zdf) (Zj Zdf) .none kV10 dc10 pm10 an10 cd10 ct10), sl10⟩) (c10 : PySem.W.codeIn K cd10 "times" = true) (k10 : PySem.W.keepIn K (.ref f10) = true)
    (a11 : PySem.W.nsIn K mainGlobals "ask_height" = some (some (.ref f11))) (l11 : K.lookup f11 = some ⟨oc11, od11, .func (PySem.W.fnOf "ask_height" "ask_height" (Zs Zar) (Zq Zar) (Zj Zar) .none kV11 dc11 pm11 an11 cd11 ct11), sl11⟩) (c11 : PySem.W.codeIn K cd11 "ask_height" = true) (k11 : PySem.W.keepIn K (.ref f11) = true)
    (a12 : PySem.W.nsIn K mainGlobals "bends" = some (some (.ref f12))) (l12 : K.lookup f12 = some ⟨oc12, od12, .func (PySem.W.fnOf "bends" "bends" (Zs Zdg) (Zq Zdg) (Zj Zdg) .none kV12 dc12 pm12 an12 cd12 ct12), sl12⟩) (c12 : PySem.W.codeIn K cd12 "bends" = true) (k12 : PySem.W.keepIn K (.ref f12) = true)
    (a13 : PySem.W.nsIn K mainGlobals "partner" = some (some (.ref f13))) (l13 : K.lookup f13 = some ⟨oc13, od13, .func (PySem.W.fnOf "partner" "partner" (Zs ZbM) (Zq ZbM) (Zj ZbM) .none kV13 dc13 pm13 an13 cd13 ct13), sl13⟩) (c13 : PySem.W.codeIn K cd13 "partner" = true) (k13 : PySem.W.keepIn K (.ref f13) = true)
    (a14 : PySem.W.nsIn K mainGlobals "first_behind" = some (some (.ref f14))) (l14 : K.lookup f14 = some ⟨oc14, od14, .func (PySem.W.fnOf "first_behind" "first_behind" (Zs ZY) (Zq ZY) (Zj ZY) .none kV14 dc14 pm14 an14 cd14 ct14), sl14⟩) (c14 : PySem.W.codeIn K cd14 "first_behind" = true) (k14 : PySem.W.keepIn K (.ref f14) = true)
    (a15 : PySem.W.nsIn K mainGlobals "expanded" = some (some (.ref f15))) (l15 : K.lookup f15 = some ⟨oc15, od15, .func (PySem.W.fnOf "expanded" "expanded" (Zs Zbh) (Zq Zbh) (Zj Zbh) .none kV15 dc15 pm15 an15 cd15 ct15), sl15⟩) (c15 : PySem.W.codeIn K cd15 "expanded" = true) (k15 : PySem.W.keepIn K (.ref f15) = true)
    (a16 : PySem.W.nsIn K mainGlobals "row" = some (some (.ref f16))) (l16 : K.lookup f16 = some ⟨oc16, od16, .func (PySem.W.fnOf "row" "row" (Zs Zg7) (Zq Zg7) (Zj Zg7) .none kV16 dc16 pm16 an16 cd16 ct16), sl16⟩) (c16 : PySem.W.codeIn K cd16 "row" = true) (k16 : PySem.W.keepIn K (.ref f16) = true)
    (a17 : PySem.W.nsIn K mainGlobals "between" = some (some (.ref f17))) (l17 : K.lookup f17 = some ⟨oc17, od17, .func (PySem.W.fnOf "between" "between" (Zs ZbN) (Zq ZbN) (Zj ZbN) .none kV17 dc17 pm17 an17 cd17 ct17), sl17⟩) (c17 : PySem.W.codeIn K cd17 "between" = true) (k17 : PySem.W.keepIn K (.ref f17) = true)
    (a18 : PySem.W.nsIn K mainGlobals "least_round" = some (some (.ref f18))) (l18 : K.lookup f18 = some ⟨oc18, od18, .func (PySem.W.fnOf "least_round" "least_round" (Zs Zad) (Zq Zad) (Zj Zad) .none kV18 dc18 pm18 an18 cd18 ct18), sl18⟩) (c18 : PySem.W.codeIn K cd18 "least_round" = true) (k18 : PySem.W.keepIn K (.ref f18) = true)
    (a19 : PySem.W.nsIn K mainGlobals "_law_bag" = some (some (.ref f19))) (l19 : K.lookup f19 = some ⟨oc19, od19, .func (PySem.W.fnOf "_law_bag" "_law_bag" (Zs ZbO) (Zq ZbO) (Zj ZbO) .none kV19 dc19 pm19 an19 cd19 ct19), sl19⟩) (c19 : PySem.W.codeIn K cd19 "_law_bag" = true) (k19 : PySem.W.keepIn K (.ref f19) = true)
    (a20 : PySem.W.nsIn K mainGlobals "_law_digit" = some (some (.ref f20))) (l20 : K.lookup f20 = some ⟨oc20, od20, .func (PySem.W.fnOf "_law_digit" "_law_digit" (Zs ZaK) (Zq ZaK) (Zj ZaK) .none kV20 dc20 pm20 an20 cd20 ct20), sl20⟩) (c20 : PySem.W.codeIn K cd20 "_law_digit" = true) (k20 : PySem.W.keepIn K (.ref f20) = true)
    (a21 : PySem.W.nsIn K mainGlobals "_law_led" = some (some (.ref f21))) (l21 : K.lookup f21 = some ⟨oc21, od21, .func (PySem.W.fnOf "_law_led" "_law_led" (Zs ZbP) (Zq ZbP) (Zj ZbP) .none kV21 dc21 pm21 an21 cd21 ct21), sl21⟩) (c21 : PySem.W.codeIn K cd21 "_law_led" = true) (k21 : PySem.W.keepIn K (.ref f21) = true)
    (a22 : PySem.W.nsIn K mainGlobals "_law_both" = some (some (.ref f22))) (l22 : K.lookup f22 = some ⟨oc22, od22, .func (PySem.W.fnOf "_law_both" "_law_both" (Zs Zbj) (Zq Zbj) (Zj Zbj) .none kV22 dc22 pm22 an22 cd22 ct22), sl22⟩) (c22 : PySem.W.codeIn K cd22 "_law_both" = true) (k22 : PySem.W.keepIn K (.ref f22) = true)
    (a23 : PySem.W.nsIn K mainGlobals "_law_turning" = some (some (.ref f23))) (l23 : K.lookup f23 = some ⟨oc23, od23, .func (PySem.W.fnOf "_law_turning" "_law_turning" (Zs Zae) (Zq Zae) (Zj Zae) .none kV23 dc23 pm23 an23 cd23 ct23), sl23⟩) (c23 : PySem.W.codeIn K cd23 "_law_turning" = true) (k23 : PySem.W.keepIn K (.ref f23) = true)
    (a24 : PySem.W.nsIn K mainGlobals "_law_cross" = some (some (.ref f24))) (l24 : K.lookup f24 = some ⟨oc24, od24, .func (PySem.W.fnOf "_law_cross" "_law_cross" (Zs ZaL) (Zq ZaL) (Zj ZaL) .none kV24 dc24 pm24 an24 cd24 ct24), sl24⟩) (c24 : PySem.W.codeIn K cd24 "_law_cross" = true) (k24 : PySem.W.keepIn K (.ref f24) = true)
    (a25 : PySem.W.nsIn K mainGlobals "_law_sum" = some (some (.ref f25))) (l25 : K.lookup f25 = some ⟨oc25, od25, .func (PySem.W.fnOf "_law_sum" "_law_sum" (Zs ZbQ) (Zq ZbQ) (Zj ZbQ) .none kV25 dc25 pm25 an25 cd25 ct25), sl25⟩) (c25 : PySem.W.codeIn K cd25 "_law_sum" = true) (k25 : PySem.W.keepIn K (.ref f25) = true)
    (a26 : PySem.W.nsIn K mainGlobals "_law_near" = some (some (.ref f26))) (l26 : K.lookup f26 = some ⟨oc26, od26, .func (PySem.W.fnOf "_law_near" "_law_near" (Zs Zbk) (Zq Zbk) (Zj Zbk) .none kV26 dc26 pm26 an26 cd26 ct26), sl26⟩) (c26 : PySem.W.codeIn K cd26 "_law_near" = true) (k26 : PySem.W.keepIn K (.ref f26) = true)
    (a27 : PySem.W.nsIn K mainGlobals "_law_brought" = some (some (.ref f27))) (l27 : K.lookup f27 = some ⟨oc27, od27, .func (PySem.W.fnOf "_law_brought" "_law_brought" (Zs ZU) (Zq ZU) (Zj ZU) .none kV27 dc27 pm27 an27 cd27 ct27), sl27⟩) (c27 : PySem.W.codeIn K cd27 "_law_brought" = true) (k27 : PySem.W.keepIn K (.ref f27) = true)
    (a28 : PySem.W.nsIn K mainGlobals "_law_smooth" = some (some (.ref f28))) (l28 : K.lookup f28 = some ⟨oc28, od28, .func (PySem.W.fnOf "_law_smooth" "_law_smooth" (Zs Zat) (Zq Zat) (Zj Zat) .none kV28 dc28 pm28 an28 cd28 ct28), sl28⟩) (c28 : PySem.W.codeIn K cd28 "_law_smooth" = true) (k28 : PySem.W.keepIn K (.ref f28) = true)
    (a29 : PySem.W.nsIn K mainGlobals "_law_straight" = some (some (.ref f29))) (l29 : K.lookup f29 = some ⟨oc29, od29, .func (PySem.W.fnOf "_law_straight" "_law_straight" (Zs Z0) (Zq Z0) (Zj Z0) .none kV29 dc29 pm29 an29 cd29 ct29), sl29⟩) (c29 : PySem.W.codeIn K cd29 "_law_straight" = true) (k29 : PySem.W.keepIn K (.ref f29) = true)
    (a30 : PySem.W.nsIn K mainGlobals "_law_put" = some (some (.ref f30))) (l30 : K.lookup f30 = some ⟨oc30, od30, .func (PySem.W.fnOf "_law_put" "_law_put" (Zs ZbR) (Zq ZbR) (Zj ZbR) .none kV30 dc30 pm30 an30 cd30 ct30), sl30⟩) (c30 : PySem.W.codeIn K cd30 "_law_put" = true) (k30 : PySem.W.keepIn K (.ref f30) = true)
    (a31 : PySem.W.nsIn K mainGlobals "_law_any" = some (some (.ref f31))) (l31 : K.lookup f31 = some ⟨oc31, od31, .func (PySem.W.fnOf "_law_any" "_law_any" (Zs ZbS) (Zq ZbS) (Zj ZbS) .none kV31 dc31 pm31 an31 cd31 ct31), sl31⟩) (c31 : PySem.W.codeIn K cd31 "_law_any" = true) (k31 : PySem.W.keepIn K (.ref f31) = true)
    (a32 : PySem.W.nsIn K mainGlobals "_law_low" = some (some (.ref f32))) (l32 : K.lookup f32 = some ⟨oc32, od32, .func (PySem.W.fnOf "_law_low" "_law_low" (Zs ZbT) (Zq ZbT) (Zj ZbT) .none kV32 dc32 pm32 an32 cd32 ct32), sl32⟩) (c32 : PySem.W.codeIn K cd32 "_law_low" = true) (k32 : PySem.W.keepIn K (.ref f32) = true)
    (a33 : PySem.W.nsIn K mainGlobals "_law_whole" = some (some (.ref f33))) (l33 : K.lookup f33 = some ⟨oc33, od33, .func (PySem.W.fnOf "_law_whole" "_law_whole" (Zs ZaM) (Zq ZaM) (Zj ZaM) .none kV33 dc33 pm33 an33 cd33 ct33), sl33⟩) (c33 : PySem.W.codeIn K cd33 "_law_whole" = true) (k33 : PySem.W.keepIn K (.ref f33) = true)
    (a34 : PySem.W.nsIn K mainGlobals "_law_ratio" = some (some (.ref f34))) (l34 : K.lookup f34 = some ⟨oc34, od34, .func (PySem.W.fnOf "_law_ratio" "_law_ratio" (Zs ZaN) (Zq ZaN) (Zj ZaN) .none kV34 dc34 pm34 an34 cd34 ct34), sl34⟩) (c34 : PySem.W.codeIn K cd34 "_law_ratio" = true) (k34 : PySem.W.keepIn K (.ref f34) = true)
    (a35 : PySem.W.nsIn K mainGlobals "_law_plus" = some (some (.ref f35))) (l35 : K.lookup f35 = some ⟨oc35, od35, .func (PySem.W.fnOf "_law_plus" "_law_plus" (Zs Zbl) (Zq Zbl) (Zj Zbl) .none kV35 dc35 pm35 an35 cd35 ct35), sl35⟩) (c35 : PySem.W.codeIn K cd35 "_law_plus" = true) (k35 : PySem.W.keepIn K (.ref f35) = true)
    (a36 : PySem.W.nsIn K mainGlobals "_law_height" = some (some (.ref f36))) (l36 : K.lookup f36 = some ⟨oc36, od36, .func (PySem.W.fnOf "_law_height" "_law_height" (Zs Zau) (Zq Zau) (Zj Zau) .none kV36 dc36 pm36 an36 cd36 ct36), sl36⟩) (c36 : PySem.W.codeIn K cd36 "_law_height" = true) (k36 : PySem.W.keepIn K (.ref f36) = true)
    (a37 : PySem.W.nsIn K mainGlobals "_law_numbers" = some (some (.ref f37))) (l37 : K.lookup f37 = some ⟨oc37, od37, .func (PySem.W.fnOf "_law_numbers" "_law_numbers" (Zs Zaf) (Zq Zaf) (Zj Zaf) .none kV37 dc37 pm37 an37 cd37 ct37), sl37⟩) (c37 : PySem.W.codeIn K cd37 "_law_numbers" = true) (k37 : PySem.W.keepIn K (.ref f37) = true)
    (a38 : PySem.W.nsIn K mainGlobals "_law_bends" = some (some (.ref f38))) (l38 : K.lookup f38 = some ⟨oc38, od38, .func (PySem.W.fnOf "_law_bends" "_law_bends" (Zs ZaO) (Zq ZaO) (Zj ZaO) .none kV38 dc38 pm38 an38 cd38 ct38), sl38⟩) (c38 : PySem.W.codeIn K cd38 "_law_bends" = true) (k38 : PySem.W.keepIn K (.ref f38) = true)
    (a39 : PySem.W.nsIn K mainGlobals "_law_ratios" = some (some (.ref f39))) (l39 : K.lookup f39 = some ⟨oc39, od39, .func (PySem.W.fnOf "_law_ratios" "_law_ratios" (Zs Zav) (Zq Zav) (Zj Zav) .none kV39 dc39 pm39 an39 cd39 ct39), sl39⟩) (c39 : PySem.W.codeIn K cd39 "_law_ratios" = true) (k39 : PySem.W.keepIn K (.ref f39) = true)
    (a40 : PySem.W.nsIn K mainGlobals "_law_drawn" = some (some (.ref f40))) (l40 : K.lookup f40 = some ⟨oc40, od40, .func (PySem.W.fnOf "_law_drawn" "_law_drawn" (Zs ZaP) (Zq ZaP) (Zj ZaP) .none kV40 dc40 pm40 an40 cd40 ct40), sl40⟩) (c40 : PySem.W.codeIn K cd40 "_law_drawn" = true) (k40 : PySem.W.keepIn K (.ref f40) = true)
    (a41 : PySem.W.nsIn K mainGlobals "law" = some (some (.ref f41))) (l41 : K.lookup f41 = some ⟨oc41, od41, .func (PySem.W.fnOf "law" "law" (Zs ZeI) (Zq ZeI) (Zj ZeI) .none kV41 dc41 pm41 an41 cd41 ct41), sl41⟩) (c41 : PySem.W.codeIn K cd41 "law" = true) (k41 : PySem.W.keepIn K (.ref f41) = true)
    (z_isinstance : PySem.W.nsIn K mainGlobals "isinstance" = some none)
    (z_int : PySem.W.nsIn K mainGlobals "int" = some none)
    (z_bool : PySem.W.nsIn K mainGlobals "bool" = some none)
    (z_abs : PySem.W.nsIn K mainGlobals "abs" = some none)
    (z_len : PySem.W.nsIn K mainGlobals "len" = some none)
    (z_enumerate : PySem.W.nsIn K mainGlobals "enumerate" = some none)
    (z_range : PySem.W.nsIn K mainGlobals "range" = some none)
    (z_all : PySem.W.nsIn K mainGlobals "all" = some none)
    (z_list : PySem.W.nsIn K mainGlobals "list" = some none)
    (z_tuple : PySem.W.nsIn K mainGlobals "tuple" = some none)
    (z_max : PySem.W.nsIn K mainGlobals "max" = some none)
    (z_min : PySem.W.nsIn K mainGlobals "min" = some none)
    (q_ex_NotSmooth : Zh3 K "NotSmooth" = true)
    (q_ex_NoRatio : Zh3 K "NoRatio" = true)
    (q_ex_NoHeight : Zh3 K "NoHeight" = true)
    (q_ex_NoWedge : Zh3 K "NoWedge" = true)
    : ∃ fd : FuncData, (∀ (s : Shared) (v : Value), BindsTo s fd ⟨[v], []⟩ [("_law_script", v)]) ∧ ∀ base : Heap, K.In base → base.Ns mainGlobals mg → FnOk l.prog w K mg base (CXE l.prog w) 107 fa fd ["_law_script"] (spD K Zf8) := by
  have e := hfa.symm.trans (PySem.W.mg_of X G a41)
  cases e
  have T : Txt K mg := ⟨fun c v e => PySem.W.mg_of X G e, PySem.W.mg_none_of X G z_isinstance, PySem.W.mg_none_of X G z_int, PySem.W.mg_none_of X G z_bool, PySem.W.mg_none_of X G z_abs, PySem.W.mg_none_of X G z_len, PySem.W.mg_none_of X G z_enumerate, PySem.W.mg_none_of X G z_range, PySem.W.mg_none_of X G z_all, PySem.W.mg_none_of X G z_list, PySem.W.mg_none_of X G z_tuple, PySem.W.mg_none_of X G z_max, PySem.W.mg_none_of X G z_min, q_ex_NotSmooth, q_ex_NoRatio, q_ex_NoHeight, q_ex_NoWedge⟩
  have R1 := ZB (st := Zbg) l1 c1 k1
  have R2 := ZB (st := ZH) l2 c2 k2
  have R3 := ZB (st := ZbL) l3 c3 k3
  have R4 := ZB (st := ZaI) l4 c4 k4
  have R5 := ZB (st := ZaJ) l5 c5 k5
  have R6 := ZB (st := Zaq) l6 c6 k6
  have R7 := ZB (st := Zbr) l7 c7 k7
  have R8 := ZB (st := Zde) l8 c8 k8
  have R9 := ZB (st := Zed) l9 c9 k9
  have R10 := ZB (st := Zdf) l10 c10 k10
  have R11 := ZB (st := Zar) l11 c11 k11
  have R12 := ZB (st := Zdg) l12 c12 k12
  have R13 := ZB (st := ZbM) l13 c13 k13
  have R14 := ZB (st := ZY) l14 c14 k14
  have R15 := ZB (st := Zbh) l15 c15 k15
  have R16 := ZB (st := Zg7) l16 c16 k16
  have R17 := ZB (st := ZbN) l17 c17 k17
  have R18 := ZB (st := Zad) l18 c18 k18
  have R19 := ZB (st := ZbO) l19 c19 k19
  have R20 := ZB (st := ZaK) l20 c20 k20
  have R21 := ZB (st := ZbP) l21 c21 k21
  have R22 := ZB (st := Zbj) l22 c22 k22
  have R23 := ZB (st := Zae) l23 c23 k23
  have R24 := ZB (st := ZaL) l24 c24 k24
  have R25 := ZB (st := ZbQ) l25 c25 k25
  have R26 := ZB (st := Zbk) l26 c26 k26
  have R27 := ZB (st := ZU) l27 c27 k27
  have R28 := ZB (st := Zat) l28 c28 k28
  have R29 := ZB (st := Z0) l29 c29 k29
  have R30 := ZB (st := ZbR) l30 c30 k30
  have R31 := ZB (st := ZbS) l31 c31 k31
  have R32 := ZB (st := ZbT) l32 c32 k32
  have R33 := ZB (st := ZaM) l33 c33 k33
  have R34 := ZB (st := ZaN) l34 c34 k34
  have R35 := ZB (st := Zbl) l35 c35 k35
  have R36 := ZB (st := Zau) l36 c36 k36
  have R37 := ZB (st := Zaf) l37 c37 k37
  have R38 := ZB (st := ZaO) l38 c38 k38
  have R39 := ZB (st := Zav) l39 c39 k39
  have R40 := ZB (st := ZaP) l40 c40 k40
  have R41 := ZB (st := ZeI) l41 c41 k41
  refine ⟨PySem.W.fnOf "law" "law" (Zs ZeI) (Zq ZeI) (Zj ZeI) .none kV41 dc41 pm41 an41 cd41 ct41, fun s v => .of_eq rfl, fun base _ _ => ?_⟩
  have C1 : Cal l.prog w K mg base "is_whole" 1 1 F_is_whole := ⟨f1, _, ["thing"], Zf1 R1 T, PySem.W.mg_of X G a1, k1, rfl, R1.binds (ps := ["thing"]) fun _ _ _ _ _ _ us hl => match us, hl with | [_], _ => rfl⟩
  have C2 : Cal l.prog w K mg base "greatest_divisor" 101 2 F_greatest_divisor := ⟨f2, _, ["one", "other"], ZcF R2 T, PySem.W.mg_of X G a2, k2, rfl, R2.binds (ps := ["one", "other"]) fun _ _ _ _ _ _ us hl => match us, hl with | [_, _], _ => rfl⟩
  have C3 : Cal l.prog w K mg base "crossed" 1 2 F_crossed := ⟨f3, _, ["one", "other"], Zg3 R3 T, PySem.W.mg_of X G a3, k3, rfl, R3.binds (ps := ["one", "other"]) fun _ _ _ _ _ _ us hl => match us, hl with | [_, _], _ => rfl⟩
  have C4 : Cal l.prog w K mg base "following" 1 2 F_following := ⟨f4, _, ["things", "at"], Zfo R4 T, PySem.W.mg_of X G a4, k4, rfl, R4.binds (ps := ["things", "at"]) fun _ _ _ _ _ _ us hl => match us, hl with | [_, _], _ => rfl⟩
  have C5 : Cal l.prog w K mg base "unspanned" 101 1 F_unspanned := ⟨f5, _, ["rays"], Zfp R5 T C4 C3, PySem.W.mg_of X G a5, k5, rfl, R5.binds (ps := ["rays"]) fun _ _ _ _ _ _ us hl => match us, hl with | [_], _ => rfl⟩
  have C6 : Cal l.prog w K mg base "ask_smooth" 102 1 F_ask_smooth := ⟨f6, _, ["rays"], ZeA R6 T C5, PySem.W.mg_of X G a6, k6, rfl, R6.binds (ps := ["rays"]) fun _ _ _ _ _ _ us hl => match us, hl with | [_], _ => rfl⟩
  have C7 : Cal l.prog w K mg base "numbers" 103 1 F_numbers := ⟨f7, _, ["rays"], Zg5 R7 T C6 C4 C3, PySem.W.mg_of X G a7, k7, rfl, R7.binds (ps := ["rays"]) fun _ _ _ _ _ _ us hl => match us, hl with | [_], _ => rfl⟩
  have C8 : Cal l.prog w K mg base "ratio" 102 2 F_ratio := ⟨f8, _, ["top", "bottom"], ZjF R8 T C1 C2, PySem.W.mg_of X G a8, k8, rfl, R8.binds (ps := ["top", "bottom"]) fun _ _ _ _ _ _ us hl => match us, hl with | [_, _], _ => rfl⟩
  have C9 : Cal l.prog w K mg base "plus" 103 2 F_plus := ⟨f9, _, ["one", "other"], ZlT R9 T C8, PySem.W.mg_of X G a9, k9, rfl, R9.binds (ps := ["one", "other"]) fun _ _ _ _ _ _ us hl => match us, hl with | [_, _], _ => rfl⟩
  have C10 : Cal l.prog w K mg base "times" 103 2 F_times := ⟨f10, _, ["one", "other"], ZjH R10 T C8, PySem.W.mg_of X G a10, k10, rfl, R10.binds (ps := ["one", "other"]) fun _ _ _ _ _ _ us hl => match us, hl with | [_, _], _ => rfl⟩
  have C11 : Cal l.prog w K mg base "ask_height" 101 2 F_ask_height := ⟨f11, _, ["rays", "height"], ZeD R11 T, PySem.W.mg_of X G a11, k11, rfl, R11.binds (ps := ["rays", "height"]) fun _ _ _ _ _ _ us hl => match us, hl with | [_, _], _ => rfl⟩
  have C12 : Cal l.prog w K mg base "bends" 104 2 F_bends := ⟨f12, _, ["rays", "height"], ZjI R12 T C7 C11 C4 C9 C10, PySem.W.mg_of X G a12, k12, rfl, R12.binds (ps := ["rays", "height"]) fun _ _ _ _ _ _ us hl => match us, hl with | [_, _], _ => rfl⟩
  have C13 : Cal l.prog w K mg base "partner" 101 1 F_partner := ⟨f13, _, ["ray"], Zg6 R13 T, PySem.W.mg_of X G a13, k13, rfl, R13.binds (ps := ["ray"]) fun _ _ _ _ _ _ us hl => match us, hl with | [_], _ => rfl⟩
  have C14 : Cal l.prog w K mg base "first_behind" 102 2 F_first_behind := ⟨f14, _, ["u", "v"], ZdU R14 T C13 C3, PySem.W.mg_of X G a14, k14, rfl, R14.binds (ps := ["u", "v"]) fun _ _ _ _ _ _ us hl => match us, hl with | [_, _], _ => rfl⟩
  have C15 : Cal l.prog w K mg base "expanded" 101 2 F_expanded := ⟨f15, _, ["top", "bottom"], Zf2 R15 T, PySem.W.mg_of X G a15, k15, rfl, R15.binds (ps := ["top", "bottom"]) fun _ _ _ _ _ _ us hl => match us, hl with | [_, _], _ => rfl⟩
  have C16 : Cal l.prog w K mg base "row" 103 2 F_row := ⟨f16, _, ["u", "v"], ZoF R16 T C3 C14 C15, PySem.W.mg_of X G a16, k16, rfl, R16.binds (ps := ["u", "v"]) fun _ _ _ _ _ _ us hl => match us, hl with | [_, _], _ => rfl⟩
  have C17 : Cal l.prog w K mg base "between" 104 2 F_between := ⟨f17, _, ["u", "v"], Zg8 R17 T C16 C14, PySem.W.mg_of X G a17, k17, rfl, R17.binds (ps := ["u", "v"]) fun _ _ _ _ _ _ us hl => match us, hl with | [_, _], _ => rfl⟩
  have C18 : Cal l.prog w K mg base "least_round" 105 1 F_least_round := ⟨f18, _, ["rays"], Zd1 R18 T C4 C17, PySem.W.mg_of X G a18, k18, rfl, R18.binds (ps := ["rays"]) fun _ _ _ _ _ _ us hl => match us, hl with | [_], _ => rfl⟩
  have C19 : Cal l.prog w K mg base "_law_bag" 1 2 F_law_bag := ⟨f19, _, ["_law_script", "_law_k"], Zg9 R19 T, PySem.W.mg_of X G a19, k19, rfl, R19.binds (ps := ["_law_script", "_law_k"]) fun _ _ _ _ _ _ us hl => match us, hl with | [_, _], _ => rfl⟩
  have C20 : Cal l.prog w K mg base "_law_digit" 1 2 F_law_digit := ⟨f20, _, ["_law_bag_here", "_law_many"], Zfq R20 T, PySem.W.mg_of X G a20, k20, rfl, R20.binds (ps := ["_law_bag_here", "_law_many"]) fun _ _ _ _ _ _ us hl => match us, hl with | [_, _], _ => rfl⟩
  have C21 : Cal l.prog w K mg base "_law_led" 101 2 F_law_led := ⟨f21, _, ["_law_turning_here", "_law_pair"], Zha R21 T, PySem.W.mg_of X G a21, k21, rfl, R21.binds (ps := ["_law_turning_here", "_law_pair"]) fun _ _ _ _ _ _ us hl => match us, hl with | [_, _], _ => rfl⟩
  have C22 : Cal l.prog w K mg base "_law_both" 102 2 F_law_both := ⟨f22, _, ["_law_one", "_law_other"], Zf3 R22 T C21, PySem.W.mg_of X G a22, k22, rfl, R22.binds (ps := ["_law_one", "_law_other"]) fun _ _ _ _ _ _ us hl => match us, hl with | [_, _], _ => rfl⟩
  have C23 : Cal l.prog w K mg base "_law_turning" 103 1 F_law_turning := ⟨f23, _, ["_law_bag_here"], Zd2 R23 T C20 C22, PySem.W.mg_of X G a23, k23, rfl, R23.binds (ps := ["_law_bag_here"]) fun _ _ _ _ _ _ us hl => match us, hl with | [_], _ => rfl⟩
  have C24 : Cal l.prog w K mg base "_law_cross" 1 2 F_law_cross := ⟨f24, _, ["_law_one", "_law_other"], Zfs R24 T, PySem.W.mg_of X G a24, k24, rfl, R24.binds (ps := ["_law_one", "_law_other"]) fun _ _ _ _ _ _ us hl => match us, hl with | [_, _], _ => rfl⟩
  have C25 : Cal l.prog w K mg base "_law_sum" 1 2 F_law_sum := ⟨f25, _, ["_law_one", "_law_other"], Zhc R25 T, PySem.W.mg_of X G a25, k25, rfl, R25.binds (ps := ["_law_one", "_law_other"]) fun _ _ _ _ _ _ us hl => match us, hl with | [_, _], _ => rfl⟩
  have C26 : Cal l.prog w K mg base "_law_near" 1 1 F_law_near := ⟨f26, _, ["_law_pair"], Zf5 R26 T, PySem.W.mg_of X G a26, k26, rfl, R26.binds (ps := ["_law_pair"]) fun _ _ _ _ _ _ us hl => match us, hl with | [_], _ => rfl⟩
  have C27 : Cal l.prog w K mg base "_law_brought" 102 3 F_law_brought := ⟨f27, _, ["_law_rays", "_law_turning_here", "_law_start"], Zd3 R27 T C21 C26 C24, PySem.W.mg_of X G a27, k27, rfl, R27.binds (ps := ["_law_rays", "_law_turning_here", "_law_start"]) fun _ _ _ _ _ _ us hl => match us, hl with | [_, _, _], _ => rfl⟩
  have C28 : Cal l.prog w K mg base "_law_smooth" 104 1 F_law_smooth := ⟨f28, _, ["_law_bag_here"], ZeE R28 T C20 C25 C26 C23 C27, PySem.W.mg_of X G a28, k28, rfl, R28.binds (ps := ["_law_bag_here"]) fun _ _ _ _ _ _ us hl => match us, hl with | [_], _ => rfl⟩
  have C29 : Cal l.prog w K mg base "_law_straight" 101 1 F_law_straight := ⟨f29, _, ["_law_pair"], ZdV R29 T, PySem.W.mg_of X G a29, k29, rfl, R29.binds (ps := ["_law_pair"]) fun _ _ _ _ _ _ us hl => match us, hl with | [_], _ => rfl⟩
  have C30 : Cal l.prog w K mg base "_law_put" 2 2 F_law_put := ⟨f30, _, ["_law_rays", "_law_ray"], Zhd R30 T C24, PySem.W.mg_of X G a30, k30, rfl, R30.binds (ps := ["_law_rays", "_law_ray"]) fun _ _ _ _ _ _ us hl => match us, hl with | [_, _], _ => rfl⟩
  have C31 : Cal l.prog w K mg base "_law_any" 105 1 F_law_any := ⟨f31, _, ["_law_bag_here"], Zhe R31 T C28 C20 C29 C30 C24, PySem.W.mg_of X G a31, k31, rfl, R31.binds (ps := ["_law_bag_here"]) fun _ _ _ _ _ _ us hl => match us, hl with | [_], _ => rfl⟩
  have C32 : Cal l.prog w K mg base "_law_low" 101 2 F_law_low := ⟨f32, _, ["_law_top", "_law_bottom"], Zhf R32 T, PySem.W.mg_of X G a32, k32, rfl, R32.binds (ps := ["_law_top", "_law_bottom"]) fun _ _ _ _ _ _ us hl => match us, hl with | [_, _], _ => rfl⟩
  have C33 : Cal l.prog w K mg base "_law_whole" 1 1 F_law_whole := ⟨f33, _, ["_law_thing"], Zfu R33 T, PySem.W.mg_of X G a33, k33, rfl, R33.binds (ps := ["_law_thing"]) fun _ _ _ _ _ _ us hl => match us, hl with | [_], _ => rfl⟩
  have C34 : Cal l.prog w K mg base "_law_ratio" 102 1 F_law_ratio := ⟨f34, _, ["_law_thing"], Zfw R34 T C33 C32, PySem.W.mg_of X G a34, k34, rfl, R34.binds (ps := ["_law_thing"]) fun _ _ _ _ _ _ us hl => match us, hl with | [_], _ => rfl⟩
  have C35 : Cal l.prog w K mg base "_law_plus" 102 2 F_law_plus := ⟨f35, _, ["_law_one", "_law_other"], Zf7 R35 T C32, PySem.W.mg_of X G a35, k35, rfl, R35.binds (ps := ["_law_one", "_law_other"]) fun _ _ _ _ _ _ us hl => match us, hl with | [_, _], _ => rfl⟩
  have C36 : Cal l.prog w K mg base "_law_height" 102 2 F_law_height := ⟨f36, _, ["_law_bag_here", "_law_many"], ZeF R36 T C20 C32, PySem.W.mg_of X G a36, k36, rfl, R36.binds (ps := ["_law_bag_here", "_law_many"]) fun _ _ _ _ _ _ us hl => match us, hl with | [_, _], _ => rfl⟩
  have C37 : Cal l.prog w K mg base "_law_numbers" 101 1 F_law_numbers := ⟨f37, _, ["_law_rays"], Zd4 R37 T C25, PySem.W.mg_of X G a37, k37, rfl, R37.binds (ps := ["_law_rays"]) fun _ _ _ _ _ _ us hl => match us, hl with | [_], _ => rfl⟩
  have C38 : Cal l.prog w K mg base "_law_bends" 103 2 F_law_bends := ⟨f38, _, ["_law_rays", "_law_height_here"], Zfx R38 T C37 C35 C32, PySem.W.mg_of X G a38, k38, rfl, R38.binds (ps := ["_law_rays", "_law_height_here"]) fun _ _ _ _ _ _ us hl => match us, hl with | [_, _], _ => rfl⟩
  have C39 : Cal l.prog w K mg base "_law_ratios" 103 2 F_law_ratios := ⟨f39, _, ["_law_found", "_law_due"], ZeH R39 T C34, PySem.W.mg_of X G a39, k39, rfl, R39.binds (ps := ["_law_found", "_law_due"]) fun _ _ _ _ _ _ us hl => match us, hl with | [_, _], _ => rfl⟩
  have C40 : Cal l.prog w K mg base "_law_drawn" 106 1 F_law_drawn := ⟨f40, _, ["_law_bag_here"], Zfy R40 T C20 C28 C31 C18 C36 C26 C32, PySem.W.mg_of X G a40, k40, rfl, R40.binds (ps := ["_law_bag_here"]) fun _ _ _ _ _ _ us hl => match us, hl with | [_], _ => rfl⟩
  exact ZoH R41 T C19 C40 C38 C12 C39 C35
end K39
end
section
set_option Elab.async false
set_option linter.all false
set_option maxRecDepth 100000
set_option maxHeartbeats 4000000
namespace K39
open PySem PySem.Spec L2 DL
open CR (rt Sz)
open CH (rts ZL ZaU)
open CN CU CV
open CB (lrd Bd)
theorem ZjJ : F_law_smooth = CA.F_law_smooth := rfl
theorem ZqH : F_law_any = CY.F_law_any := rfl
theorem ZoJ : F_law_near = CA.F_law_near := rfl
theorem ZlD : F_law_bag = CA.F_law_bag := rfl
theorem Zdd : F_law_digit = CA.F_law_digit := rfl
theorem ZjK : F_law_height = CH.F_law_height := rfl
theorem ZlU : F_law_ratio = CS.F_law_ratio := rfl
theorem ZoK : F_law_plus = CS.F_law_plus := rfl
theorem ZqI : F_law_low = CR.F_law_low := rfl
theorem ZlV : F_bends = CN.F_bends := rfl
theorem ZjL : F_law_bends = CN.F_law_bends := rfl
theorem ZlW : F_least_round = CL.F_least_round := rfl
section
variable {Q : D → Sto → Prop} {E : Str → Sto → Prop} {M : Sto} {k n m o : Nat} {rs : List Pt} {xs ys hs : List Rat}
theorem ZgG (h1 : M[n]? = some (.lst (rts xs))) (h2 : M[m]? = some (.lst (rts xs))) (hl : xs.length ≤ 1000) (hz : ∀ x ∈ xs, Sz k x) (hk : k ≤ 8000) (q : ∀ M', Kp M M' → Q (.bl true) M') : wO (F_law_ratios [.ref n, .ref m] M) Q E := by
  have hn := Zy h1
  have hm := Zy h2
  simp! [F_law_ratios, Zdu, Znq h1, h1, h2, ZL]
  refine ZoT (fun ρ => ∃ x, ρ = [x]) (fun _ => D.bl true) h1 (by rw [ZL]; omega) ⟨_, rfl⟩ ?_ ?_
  · rintro i hi ρ L ⟨x, rfl⟩
    rw [ZiD]
    rw [ZL] at hi
    simp! [ZlU, CS.Zg0 (Zfi (i := i) hz (by omega)) hk]
    exact ⟨_, rfl⟩
  rw [ZL]
  simp! [Zgw]
  have hq : eqF 12 (M ++ [SO.lst ((List.range xs.length).map fun _ => D.bl true)]) (.ref n) (.ref m) = some (decide (xs = xs)) := ZlJ (by rw [ZaF hn]; exact h1) (by rw [ZaF hm]; exact h2)
  rw [show (List.replicate xs.length true).all id = true by simp]
  simp! [hq]
  exact q _ Kp.app
theorem ZqJ {a b a0 a1 b0 b1 : Nat} {p0 : List Pt} {p1 : List Rat} (h1 : M[a]? = some (.lst [.ref a0, .ref a1])) (h2 : M[b]? = some (.lst [.ref b0, .ref b1])) (x0 : M[a0]? = some (.lst (prs p0))) (x1 : M[a1]? = some (.lst (rts p1))) (y0 : M[b0]? = some (.lst (prs p0))) (y1 : M[b1]? = some (.lst (rts p1))) : eqF 12 M (.ref a) (.ref b) = some true := by
  have s0 : eqF 11 M (.ref a0) (.ref b0) = some (decide (p0 = p0)) := Zlo x0 y0
  have s1 : eqF 11 M (.ref a1) (.ref b1) = some (decide (p1 = p1)) := ZlJ x1 y1
  rw [Zjt h1 h2]
  simp [eqL, s0, s1]
theorem ZiO {t : Int} (hb : Bag n M) (ht : 0 < t) (ht' : t.natAbs < 2 ^ 250) (q : ∀ r M', 0 ≤ r → r < t → Gr n M M' → Q (.int r) M') : wO (CA.F_law_digit [.ref n, .int t] M) Q E := by
  obtain ⟨r, M', e, r0, r1, g⟩ := Zgp hb ht (ZgR (by omega) (Nat.lt_of_lt_of_le ht' (Nat.pow_le_pow_right (by decide) (by decide))))
  rw [CA.Zdd, e]
  exact q r M' r0 r1 g
theorem ZiP {a b : Pt} (h : X a b = 1) : Smo [a, b, (0 - a.1 - b.1, 0 - a.2 - b.2)] := by
  have e : [a, b, (0 - a.1 - b.1, 0 - a.2 - b.2)] = ([((1 : Int), (0 : Int)), (0, 1), (-1, -1)] : List Pt).map fun p => (p.1 * a.1 + p.2 * b.1, p.1 * a.2 + p.2 * b.2) := by
    simp only [List.map_cons, List.map_nil]
    congr 1
    · ext <;> simp only [] <;> omega
    · congr 1
      · ext <;> simp only [] <;> omega
      · congr 1
        ext <;> simp only [] <;> omega
  have lX : ∀ p q : Pt, X (p.1 * a.1 + p.2 * b.1, p.1 * a.2 + p.2 * b.2) (q.1 * a.1 + q.2 * b.1, q.1 * a.2 + q.2 * b.2) = X p q := by
    intro p q
    have : X (p.1 * a.1 + p.2 * b.1, p.1 * a.2 + p.2 * b.2) (q.1 * a.1 + q.2 * b.1, q.1 * a.2 + q.2 * b.2) = X a b * X p q := by unfold X; simp only; grind
    rw [this, h, Int.one_mul]
  rw [e]
  refine ⟨by simp, fun i => ?_, CC.Zly.fan.map (f := fun p => (p.1 * a.1 + p.2 * b.1, p.1 * a.2 + p.2 * b.2)) lX⟩
  rw [Zd9 CC.Zly.ne, Zd9 CC.Zly.ne, lX]
  exact CC.Zly.one i
theorem ZoL (hr : Rn rs) (hb : Nr 200 rs) : Nr 200 (lrd rs) := by
  have := CB.ZiI (B := 200) (by decide) (rs ++ rs.take 1) (hr.wgs hb) fun x hx => by
    have hx' : x ∈ rs := by
      rcases List.mem_append.mp hx with hp | hp
      · exact hp
      · exact List.mem_of_mem_take hp
    have := hb x hx'
    unfold Bd; omega
  intro x hx
  have := this x hx
  unfold Bd at this
  omega
theorem ZiF (hb : Bag n M) (q : ∀ rs hs p mh M', Smo rs → Nr 200 rs → rs.length ≤ 30 → hs.length = rs.length → (∀ x ∈ hs, Sz 140 x) → p ≠ mh → M'[p]? = some (.lst (prs rs)) → M'[mh]? = some (.lst (rts hs)) → Q (.tup [.ref p, .ref mh]) M') : wO (F_law_drawn [.ref n] M) Q E := by
  have hn := hb.lt
  simp! [F_law_drawn, Zbq, Zdd]
  refine CA.Zx hb (by decide) fun kd M0 k0 k1 g0 => ?_
  simp! [ZjJ]
  refine CA.Zes g0.bag fun ss m M1 s1 s2 s3 m0 s4 gr => ?_
  have hn0 := g0.bag.lt
  have sl := s1.len
  simp! [Zl]
  refine Zka (fun ρ M' => ∃ ss m x3, ρ = [some (.ref n), some (.int kd), some (.ref m), x3, none, none, none, none] ∧ Smo ss ∧ Nr 200 ss ∧ ss.length ≤ 30 ∧ M'[m]? = some (.lst (prs ss)) ∧ m ≠ n ∧ Bag n M') ?_ ?_
  · refine brS (fun z => ?_) (fun z => ?_)
    · simp! [ZqH]
      refine CZ.ZqG gr.bag fun rr p M2 r0 r1 r2 r3 r4 r5 gr2 => ?_
      simp! [ZlW]
      refine CL.ZlN r5 r0.ne (r0.wgs r1) (by omega) (fun x hx => by have := r1 x hx; unfold Bd; omega) fun M3 K3 r6 => ?_
      have hn2 := gr2.bag.lt
      have a4 := K3.get (CA.Gr.up s4 gr2 (by omega))
      simp! [r6]
      refine brS (fun z => ?_) (fun z => ?_)
      · simp! [Zl]
        exact ⟨lrd rr, _, _, rfl, r0.least r1, ZoL r0 r1, by omega, r6, by omega, K3.bag gr2.bag⟩
      · simp! [Zl]
        exact ⟨ss, m, _, rfl, s1, s2, by omega, a4, by omega, K3.bag gr2.bag⟩
    · simp! [Zl]
      exact ⟨ss, m, _, rfl, s1, s2, by omega, s4, by omega, gr.bag⟩
  · rintro _ M2 ⟨ss, m, x3, rfl, s1, s2, s3, s4, mn, B2⟩
    have sl := s1.len
    simp! [s4, ZjK]
    refine CH.ZjB (by omega) B2 fun u mh M3 lu zu l3 r3 g3 => ?_
    have a4 := CA.Gr.up s4 g3 mn
    have B3 := g3.bag
    have hm2 := Zy s4
    simp! [Zl]
    refine brS (fun z => ?_) (fun z => ?_)
    · have b0 := Nr.cy s2 s1.ne 0
      have b1 := Nr.cy s2 s1.ne 1
      have hm3 := Zy a4
      have lt2 : ((prs ss).take 2).length = 2 := by rw [List.length_take, ZJ]; omega
      have t2 : (prs ss).take 2 = [pr (cy ss 0).1 (cy ss 0).2, pr (cy ss 1).1 (cy ss 1).2] := by
        have c0 := ZdL (rs := ss) (k := 0) (by omega)
        have c1 := ZdL (rs := ss) (k := 1) (by omega)
        rw [show (((0 : Nat) : Int)) = 0 from rfl] at c0
        rw [show (((1 : Nat) : Int)) = 1 from rfl] at c1
        rw [c0, c1]
        match ss, sl with
        | a :: b :: r, _ => rfl
      have o := s1.one 0
      rw [show (0 : Int) + 1 = 1 by rfl] at o
      have sm := ZiP o
      generalize hc0 : cy ss 0 = c0 at *
      generalize hc1 : cy ss 1 = c1 at *
      simp! [a4, Zce, ZoJ, CA.Ziv, t2, hc0, hc1]
      obtain ⟨p, tt, hp, t1, tb, tl, tp, pl⟩ : ∃ p tt, atI [D.ref (List.length M3), D.ref (List.length M3 + 3)] (if decide ((-200 ≤ 0 - c0.1 - c1.1 ∧ 0 - c0.1 - c1.1 ≤ 200) ∧ -200 ≤ 0 - c0.2 - c1.2 ∧ 0 - c0.2 - c1.2 ≤ 200) = true then 1 else 0) = some (.ref p) ∧ Smo tt ∧ Nr 200 tt ∧ tt.length = 3 ∧ (M3 ++ [SO.lst [D.tup [D.int 1, D.int 0], D.tup [D.int 0, D.int 1], D.tup [D.int (-1), D.int (-1)]], SO.lst [pr c0.1 c0.2, pr c1.1 c1.2], SO.lst [D.tup [D.int (0 - c0.1 - c1.1), D.int (0 - c0.2 - c1.2)]], SO.lst [pr c0.1 c0.2, pr c1.1 c1.2, D.tup [D.int (0 - c0.1 - c1.1), D.int (0 - c0.2 - c1.2)]], SO.lst [D.ref (List.length M3), D.ref (List.length M3 + 3)]])[p]? = some (.lst (prs tt)) ∧ M3.length ≤ p := by
        by_cases c : ((-200 ≤ 0 - c0.1 - c1.1 ∧ 0 - c0.1 - c1.1 ≤ 200) ∧ -200 ≤ 0 - c0.2 - c1.2 ∧ 0 - c0.2 - c1.2 ≤ 200)
        · refine ⟨M3.length + 3, _, by rw [if_pos (decide_eq_true c)]; rfl, sm, ?_, rfl, by rw [ZfA]; rfl, by omega⟩
          intro x hx
          simp only [List.mem_cons, List.not_mem_nil, or_false] at hx
          rcases hx with rfl | rfl | rfl
          · exact b0
          · exact b1
          · exact c
        · refine ⟨M3.length, _, by rw [if_neg (by simp only [decide_eq_true_eq]; exact c)]; rfl, CC.Zly, ?_, rfl, by rw [Zd0]; rfl, by omega⟩
          intro x hx
          simp only [List.mem_cons, List.not_mem_nil, or_false] at hx
          rcases hx with rfl | rfl | rfl <;> simp
      have B4 := B3.app [SO.lst [D.tup [D.int 1, D.int 0], D.tup [D.int 0, D.int 1], D.tup [D.int (-1), D.int (-1)]], SO.lst [pr c0.1 c0.2, pr c1.1 c1.2], SO.lst [D.tup [D.int (0 - c0.1 - c1.1), D.int (0 - c0.2 - c1.2)]], SO.lst [pr c0.1 c0.2, pr c1.1 c1.2, D.tup [D.int (0 - c0.1 - c1.1), D.int (0 - c0.2 - c1.2)]], SO.lst [D.ref (List.length M3), D.ref (List.length M3 + 3)]]
      have hn3 := B3.lt
      generalize M3 ++ [SO.lst [D.tup [D.int 1, D.int 0], D.tup [D.int 0, D.int 1], D.tup [D.int (-1), D.int (-1)]], SO.lst [pr c0.1 c0.2, pr c1.1 c1.2], SO.lst [D.tup [D.int (0 - c0.1 - c1.1), D.int (0 - c0.2 - c1.2)]], SO.lst [pr c0.1 c0.2, pr c1.1 c1.2, D.tup [D.int (0 - c0.1 - c1.1), D.int (0 - c0.2 - c1.2)]], SO.lst [D.ref (List.length M3), D.ref (List.length M3 + 3)]] = M4 at *
      have pn : p ≠ n := by omega
      have pl4 := Zy tp
      have hn4 := B4.lt
      simp! [hp]
      have tp5 : (M4 ++ [SO.lst []])[p]? = some (.lst (prs tt)) := by rw [ZaF pl4]; exact tp
      refine Zen (fun i ρ M' => ∃ vs x6 x7, ρ = [some (.ref n), some (.int kd), some (.ref p), x3, some (.ref M4.length), some (pr (0 - c0.1 - c1.1) (0 - c0.2 - c1.2)), x6, x7] ∧ vs.length = i ∧ (∀ x ∈ vs, Sz 140 x) ∧ M'[p]? = some (.lst (prs tt)) ∧ M'[M4.length]? = some (.lst (rts vs)) ∧ Bag n M') tp5 ⟨[], _, _, rfl, rfl, by simp, tp5, by simp [rts], B4.app _⟩ ?_ ?_ ?_
      · rintro i ρ M' ⟨vs, x6, x7, rfl, v1, v2, v3, v4, v5⟩
        exact v3
      · rintro i ρ M5 hi ⟨vs, x6, x7, rfl, v1, v2, v3, v4, v5⟩
        rw [ZJ] at hi
        simp! [Zcz, Zdd]
        refine ZiO v5 (by decide) (by decide) fun d M6 d0 d1 g6 => ?_
        simp! [Zdd]
        refine ⟨by rw [CA.Gr.up v4 g6 (by omega)]; rfl, ?_⟩
        refine ZiO g6.bag (by decide) (by decide) fun f M7 f0 f1 g7 => ?_
        have w3 := CA.Gr.up (CA.Gr.up v3 g6 pn) g7 pn
        have w4 := CA.Gr.up (CA.Gr.up v4 g6 (by omega)) g7 (by omega)
        have lw4 := Zy w4
        simp! [ZqI]
        obtain ⟨bn, hbn⟩ : ∃ k : Nat, 1 + f = k := ⟨(1 + f).toNat, by omega⟩
        rw [hbn]
        have bz : bn ≠ 0 := by omega
        have bl : bn < 2 ^ 140 := by
          have : (2 : Nat) ^ 140 = 1393796574908163946345982392040522594123776 := by decide
          omega
        have tl : (d - 10000000000000000000000000000000000000000).natAbs < 2 ^ 140 := by
          have : (2 : Nat) ^ 140 = 1393796574908163946345982392040522594123776 := by decide
          omega
        rw [CS.Zfh (k := 140) bz bl (by decide)]
        have dz := CR.ZdR (k := 140) bz tl bl
        generalize Rat.normalize (d - 10000000000000000000000000000000000000000) bn bz = t1 at *
        simp! [w4]
        refine ⟨by rw [ZL]; omega, vs ++ [t1], _, _, rfl, by simp; omega, ?_, w3, by rw [ZaU], ?_⟩
        · intro x hx
          rcases List.mem_append.mp hx with hx | hx
          · exact v2 x hx
          · rw [List.mem_singleton.mp hx]; exact dz
        · obtain ⟨a, b, ha, e⟩ := g7.bag
          exact ⟨a, b, ha, by rw [List.getElem?_set_ne (by omega)]; exact e⟩
      · rintro ρ M5 ⟨vs, x6, x7, rfl, v1, v2, v3, v4, v5⟩
        rw [ZJ] at v1
        simp! [Zl]
        exact q tt vs p M4.length M5 t1 tb (by omega) v1 v2 (by omega) v3 v4
    · simp! [Zl]
      exact q ss u m mh M3 s1 s2 s3 lu (fun x hx => CV.Zop (zu x hx) (by decide)) (by omega) a4 r3
theorem ZlX {N : Ro → Sto → Prop} {R : D → Sto → Prop} {B C : Ro → Sto → Prop} {ns : List Int} {i : Nat} {x2 x3 x4 x5 x6 : Option D} (hj : i < 1000) (hN : ∀ x2 x3 x4 x5 x6 M', N [some (.rol (ns.map D.int)), some (.int i), x2, x3, x4, x5, x6] M') : wS (ZeJ [some (.rol (ns.map D.int)), some (.int i), x2, x3, x4, x5, x6] M) N R B C E := by
  simp! [ZeJ, ZlD]
  refine CA.Zqw hj fun a b ha => ?_
  have B0 : Bag M.length (M ++ [.lst [.int a, .int b]]) := ⟨a, b, ha, by simp⟩
  generalize M ++ [SO.lst [.int a, .int b]] = M0 at *
  generalize M.length = n at *
  simp! [Zl]
  refine ZiF B0 fun rs u p mh M1 a1 a2 a3 lu zu pm a5 r1 => ?_
  have al := a1.len
  have lp := Zy a5
  have lm := Zy r1
  simp! [a5, r1]
  have K1 : Kp M1 (M1 ++ [SO.lst (prs rs), SO.lst (rts u), SO.lst [D.ref M1.length, D.ref (M1.length + 1)]]) := Kp.app
  have c0 : (M1 ++ [SO.lst (prs rs), SO.lst (rts u), SO.lst [D.ref M1.length, D.ref (M1.length + 1)]])[M1.length]? = some (.lst (prs rs)) := by simp
  have c1 : (M1 ++ [SO.lst (prs rs), SO.lst (rts u), SO.lst [D.ref M1.length, D.ref (M1.length + 1)]])[M1.length + 1]? = some (.lst (rts u)) := by rw [ZfA]; rfl
  have c2 : (M1 ++ [SO.lst (prs rs), SO.lst (rts u), SO.lst [D.ref M1.length, D.ref (M1.length + 1)]])[M1.length + 2]? = some (.lst [D.ref M1.length, D.ref (M1.length + 1)]) := by rw [ZfA]; rfl
  generalize M1 ++ [SO.lst (prs rs), SO.lst (rts u), SO.lst [D.ref M1.length, D.ref (M1.length + 1)]] = M2 at *
  have a6 := K1.get a5
  have r6 := K1.get r1
  clear a5 r1
  generalize M1.length = o at *
  clear K1
  simp! [ZjL]
  refine ZdS a6 a1 (by omega) a2 r6 lu zu (by decide) fun md M3 l3 r3 l23 g3 => ?_
  have K3 : Kp M2 M3 := ⟨l23, g3⟩
  have zb := Zkm (l := rs.length) a2 a1.ne (by omega) zu
  have lb : (bds rs u rs.length).length = rs.length := Zew
  generalize hbd : bds rs u rs.length = bd at *
  have c03 := K3.get c0
  have c13 := K3.get c1
  have c23 := K3.get c2
  simp! [c23, ZlV]
  refine ZfV c03 a1 (by omega) a2 c13 lu zu (by decide) fun mf M4 l4 r4 l34 g4 => ?_
  rw [hbd] at r4
  have K4 : Kp M3 M4 := ⟨l34, g4⟩
  simp! [Zl]
  refine ZgG r4 (K4.get r3) (by omega) zb (by decide) fun M5 K5 => ?_
  have K45 := K4.trans K5
  have K25 := K3.trans K45
  have K6 : Kp M5 (M5 ++ [SO.lst [D.ref p, D.ref mh]]) := Kp.app
  have K26 := K25.trans K6
  simp! [Zl]
  rw [ZqJ (K26.get c2) (b := M5.length) (by simp) (K26.get c0) (K26.get c1) (K26.get a6) (K26.get r6)]
  have r46 := (K5.trans K6).get r4
  have r36 := (K45.trans K6).get r3
  have c06 := K26.get c0
  have c16 := K26.get c1
  have c26 := K26.get c2
  have a66 := K26.get a6
  have r66 := K26.get r6
  have nl : mf ≠ md ∧ mf ≠ o ∧ mf ≠ o + 1 ∧ mf ≠ o + 2 ∧ mf ≠ p ∧ mf ≠ mh := by
    have := Zy r3
    have := Zy c2
    have := Zy a6
    have := Zy r6
    omega
  have nm : o + 1 ≠ md := by
    have := Zy c1
    omega
  clear r3 r4 c0 c1 c2 c03 c13 c23 a6 r6 K3 K4 K5 K45 K25 K26 K6 g3 g4
  generalize M5 ++ [SO.lst [D.ref p, D.ref mh]] = M6 at *
  have l46 := Zy r46
  simp! [r46, ZL, c26, c16, Zec, nl, ZoK]
  refine ⟨by omega, ?_⟩
  have st {j : Nat} {z : SO} (hj : mf ≠ j) (h : M6[j]? = some z) : (M6.set mf (SO.lst (rts bd ++ [D.tup [D.int 1, D.int 2]])))[j]? = some z := by rw [List.getElem?_set_ne hj]; exact h
  have c07 := st nl.2.1 c06
  have c17 := st nl.2.2.1 c16
  have c27 := st nl.2.2.2.1 c26
  have a7 := st nl.2.2.2.2.1 a66
  have r7 := st nl.2.2.2.2.2 r66
  have r37 := st nl.1 r36
  generalize M6.set mf (SO.lst (rts bd ++ [D.tup [D.int 1, D.int 2]])) = M7 at *
  rw [show D.tup [D.int 1, D.int 1] = rt (1 : Rat) from rfl, CS.ZfU (k := 140) (l := 1) (Zfi (i := 0) zu (by omega)) ⟨by decide, by decide⟩ (by decide)]
  have i0 : ixN (rts u).length 0 = some 0 := by
    unfold ixN
    rw [ZL, lu]
    have : 0 < (rs.length : Int) := by omega
    simp only [Int.le_refl, if_true, this, Int.toNat_zero]
  simp! [c27, c17, i0]
  have su : (rts u).set 0 (rt (cq u 0 + 1)) = rts (u.set 0 (cq u 0 + 1)) := by unfold rts; rw [List.map_set]
  rw [su]
  have lv : (u.set 0 (cq u 0 + 1)).length = rs.length := by rw [List.length_set]; exact lu
  have zv : ∀ x ∈ u.set 0 (cq u 0 + 1), Sz 142 x := by
    intro x hx
    rcases List.mem_or_eq_of_mem_set hx with hx | hx
    · exact CV.Zop (zu x hx) (by decide)
    · rw [hx]
      exact CR.Zfg (k := 140) (l := 1) (Zfi (i := 0) zu (by omega)) ⟨by decide, by decide⟩
  generalize u.set 0 (cq u 0 + 1) = v at *
  have l17 := Zy c17
  have st {j : Nat} {z : SO} (hj : o + 1 ≠ j) (h : M7[j]? = some z) : (M7.set (o + 1) (SO.lst (rts v)))[j]? = some z := by rw [List.getElem?_set_ne hj]; exact h
  have c08 := st (by omega) c07
  have c18 : (M7.set (o + 1) (SO.lst (rts v)))[o + 1]? = some (SO.lst (rts v)) := List.getElem?_set_self l17
  have c28 := st (by omega) c27
  have a8 := st (by omega) a7
  have r8 := st (by omega) r7
  have r38 := st nm r37
  generalize M7.set (o + 1) (SO.lst (rts v)) = M8 at *
  refine ZfV c08 a1 (by omega) a2 c18 lv zv (by decide) fun m9 M9 l9 r9 l89 g9 => ?_
  have K9 : Kp M8 M9 := ⟨l89, g9⟩
  have zc := Zkm (l := rs.length) a2 a1.ne (by omega) zv
  have lc : (bds rs v rs.length).length = rs.length := Zew
  generalize hbv : bds rs v rs.length = bv at *
  simp! [K9.get c28]
  refine ZdS (K9.get a8) a1 (by omega) a2 (K9.get c18) lv zv (by decide) fun m10 M10 l10 r10 l910 g10 => ?_
  rw [hbv] at r10
  have K10 : Kp M9 M10 := ⟨l910, g10⟩
  simp! [Zl]
  refine ZgG (K10.get r9) r10 (by omega) zc (by decide) fun M11 K11 => ?_
  have K8 := K9.trans (K10.trans K11)
  simp! [Zl]
  refine ZfV (K8.get a8) a1 (by omega) a2 (K8.get r8) lu zu (by decide) fun m12 M12 l12 r12 l112 g12 => ?_
  have K12 : Kp M11 M12 := ⟨l112, g12⟩
  rw [hbd] at r12
  have q12 : eqF 12 M12 (.ref m12) (.ref md) = some (decide (bd = bd)) := ZlJ r12 ((K8.trans K12).get r38)
  simp! [q12]
  exact hN _ _ _ _ _ _
theorem law_true (ns : List Int) (h : ns.length ≤ 63) : ∃ M', Zf8 [.rol (ns.map D.int)] [] = .ok (.bl true) M' := by
  have w : wO (Zf8 [.rol (ns.map D.int)] []) (fun d _ => d = .bl true) (fun _ _ => False) := by
    simp! [Zf8, ZoG]
    refine ⟨by omega, ?_⟩
    refine ZcS (fun _ ρ _ => ∃ x1 x2 x3 x4 x5 x6, ρ = [some (.rol (ns.map D.int)), x1, x2, x3, x4, x5, x6]) ⟨_, _, _, _, _, _, rfl⟩ ?_ ?_
    · rintro i ρ M hi ⟨x1, x2, x3, x4, x5, x6, rfl⟩
      rw [show (0 : Int) + (i : Int) = i by omega]
      simp! [Zl]
      exact ZlX (by omega) fun _ _ _ _ _ _ => ⟨_, _, _, _, _, _, rfl⟩
    · rintro ρ M ⟨x1, x2, x3, x4, x5, x6, rfl⟩
      simp! [Zl]
  obtain ⟨d, M', e, rfl⟩ := Zgr w
  exact ⟨M', e⟩
end
end K39
end
set_option Elab.async false
set_option linter.all false
set_option maxRecDepth 100000
set_option maxHeartbeats 4000000
namespace K39
open PySem PySem.Spec L2 DL
abbrev zz1 (P : Params) (s : String) (n : Nat) (v : Value) : DictEntry := { hash := PyData.keyHash P (Str.ofString s), key := Value.str (Str.ofString s) n, val := v }
abbrev zz2 (x : Array Value) : Obj := { cls := Value.type "code", data := Data.fields x }
abbrev zz3 (s : String) (n : Nat) : Value := Value.str (Str.ofString s) n
abbrev zz4 (n : Int) : Value := Value.int n 0
noncomputable def fO (n : Str) (st : Stmt) (cd : Nat) (m : Str) (t : Nat) : Obj := ⟨.type "function", none, .func (PySem.W.fnOf n n (Zs st) (Zq st) (Zj st) .none .none .none (.str m t) none (.ref cd) .none), #[]⟩
noncomputable def ZbD (p : Program) (i : Nat) : Stmt := p.main.body.getD i (.Pass ⟨0, 0, 0, 0⟩)
noncomputable def Kf (p : Program) (P : Params) : PySem.W.Frag := [(3, { cls := Value.type "dict", data := Data.dict #[zz1 P "__name__" 165 (zz3 "law_rayround_k39_bends" 452), zz1 P "__doc__" 166 (Value.none), zz1 P "__package__" 167 (Value.none), zz1 P "__loader__" 168 (Value.builtin "__main__.__loader__#opaque"), zz1 P "__spec__" 169 (Value.none), zz1 P "__annotations__" 170 (Value.ref 6), zz1 P "__builtins__" 171 (Value.ref 4), zz1 P "__file__" 173 (zz3 "/claim/cut.py" 172), zz1 P "__cached__" 174 (Value.none), zz1 P "RayError" 206 (Value.ref 24), zz1 P "NoRatio" 222 (Value.ref 37), zz1 P "NotSmooth" 238 (Value.ref 49), zz1 P "NoWedge" 254 (Value.ref 61), zz1 P "NoHeight" 270 (Value.ref 73), zz1 P "is_whole" 279 (Value.ref 82), zz1 P "greatest_divisor" 289 (Value.ref 89), zz1 P "crossed" 299 (Value.ref 96), zz1 P "following" 309 (Value.ref 103), zz1 P "unspanned" 318 (Value.ref 110), zz1 P "ask_smooth" 326 (Value.ref 117), zz1 P "numbers" 334 (Value.ref 122), zz1 P "ratio" 345 (Value.ref 129), zz1 P "plus" 353 (Value.ref 136), zz1 P "times" 361 (Value.ref 143), zz1 P "ask_height" 371 (Value.ref 150), zz1 P "bends" 384 (Value.ref 157), zz1 P "partner" 398 (Value.ref 164), zz1 P "first_behind" 408 (Value.ref 171), zz1 P "expanded" 418 (Value.ref 178), zz1 P "row" 426 (Value.ref 185), zz1 P "between" 439 (Value.ref 192), zz1 P "least_round" 451 (Value.ref 199), zz1 P "_law_bag" 463 (Value.ref 206), zz1 P "_law_digit" 472 (Value.ref 213), zz1 P "_law_led" 482 (Value.ref 220), zz1 P "_law_both" 492 (Value.ref 227), zz1 P "_law_turning" 503 (Value.ref 234), zz1 P "_law_cross" 511 (Value.ref 241), zz1 P "_law_sum" 519 (Value.ref 248), zz1 P "_law_near" 526 (Value.ref 255), zz1 P "_law_brought" 532 (Value.ref 260), zz1 P "_law_smooth" 545 (Value.ref 267), zz1 P "_law_straight" 554 (Value.ref 274), zz1 P "_law_put" 564 (Value.ref 281), zz1 P "_law_any" 577 (Value.ref 288), zz1 P "_law_low" 587 (Value.ref 295), zz1 P "_law_whole" 594 (Value.ref 302), zz1 P "_law_ratio" 601 (Value.ref 309), zz1 P "_law_plus" 609 (Value.ref 316), zz1 P "_law_height" 622 (Value.ref 323), zz1 P "_law_numbers" 634 (Value.ref 330), zz1 P "_law_bends" 646 (Value.ref 337), zz1 P "_law_ratios" 652 (Value.ref 342), zz1 P "_law_drawn" 666 (Value.ref 349), zz1 P "law" 679 (Value.ref 356)] 55 }),
  (82, fO "is_whole" (ZbD p 7) 81 "rayround.wholes" 271),
  (81, zz2 #[zz3 "is_whole" 273, zz3 "is_whole" 274, zz3 "/claim/cut.py" 275, zz4 13, zz4 1, zz4 0, zz4 0, zz4 3, Value.ref 76, Value.bool true, zz4 181, Value.ref 77, Value.none, Value.ref 78, Value.ref 79, Value.ref 80, zz4 277, zz4 13, zz3 "/claim/cut.py" 278]),
  (89, fO "greatest_divisor" (ZbD p 8) 88 "rayround.wholes" 271),
  (88, zz2 #[zz3 "greatest_divisor" 280, zz3 "greatest_divisor" 281, zz3 "/claim/cut.py" 282, zz4 15, zz4 2, zz4 0, zz4 0, zz4 3, Value.ref 83, Value.bool true, zz4 181, Value.ref 84, Value.none, Value.ref 85, Value.ref 86, Value.ref 87, zz4 287, zz4 15, zz3 "/claim/cut.py" 288]),
  (96, fO "crossed" (ZbD p 10) 95 "rayround.pairs" 290),
  (95, zz2 #[zz3 "crossed" 292, zz3 "crossed" 293, zz3 "/claim/cut.py" 294, zz4 21, zz4 2, zz4 0, zz4 0, zz4 3, Value.ref 90, Value.bool true, zz4 181, Value.ref 91, Value.none, Value.ref 92, Value.ref 93, Value.ref 94, zz4 297, zz4 21, zz3 "/claim/cut.py" 298]),
  (103, fO "following" (ZbD p 12) 102 "rayround.rounds" 300),
  (102, zz2 #[zz3 "following" 302, zz3 "following" 303, zz3 "/claim/cut.py" 304, zz4 24, zz4 2, zz4 0, zz4 0, zz4 3, Value.ref 97, Value.bool true, zz4 181, Value.ref 98, Value.none, Value.ref 99, Value.ref 100, Value.ref 101, zz4 307, zz4 24, zz3 "/claim/cut.py" 308]),
  (110, fO "unspanned" (ZbD p 13) 109 "rayround.rounds" 300),
  (109, zz2 #[zz3 "unspanned" 310, zz3 "unspanned" 311, zz3 "/claim/cut.py" 312, zz4 26, zz4 1, zz4 0, zz4 0, zz4 3, Value.ref 104, Value.bool true, zz4 181, Value.ref 105, Value.none, Value.ref 106, Value.ref 107, Value.ref 108, zz4 316, zz4 26, zz3 "/claim/cut.py" 317]),
  (117, fO "ask_smooth" (ZbD p 14) 116 "rayround.rounds" 300),
  (116, zz2 #[zz3 "ask_smooth" 319, zz3 "ask_smooth" 320, zz3 "/claim/cut.py" 321, zz4 31, zz4 1, zz4 0, zz4 0, zz4 3, Value.ref 111, Value.bool true, zz4 181, Value.ref 112, Value.none, Value.ref 113, Value.ref 114, Value.ref 115, zz4 324, zz4 31, zz3 "/claim/cut.py" 325]),
  (122, fO "numbers" (ZbD p 16) 121 "rayround.numbers" 327),
  (121, zz2 #[zz3 "numbers" 329, zz3 "numbers" 330, zz3 "/claim/cut.py" 331, zz4 36, zz4 1, zz4 0, zz4 0, zz4 3, Value.ref 118, Value.bool true, zz4 181, Value.ref 119, Value.none, Value.none, Value.none, Value.ref 120, zz4 332, zz4 36, zz3 "/claim/cut.py" 333]),
  (129, fO "ratio" (ZbD p 18) 128 "rayround.ratios" 335),
  (128, zz2 #[zz3 "ratio" 337, zz3 "ratio" 338, zz3 "/claim/cut.py" 339, zz4 40, zz4 2, zz4 0, zz4 0, zz4 3, Value.ref 123, Value.bool true, zz4 181, Value.ref 124, Value.none, Value.ref 125, Value.ref 126, Value.ref 127, zz4 343, zz4 40, zz3 "/claim/cut.py" 344]),
  (136, fO "plus" (ZbD p 19) 135 "rayround.ratios" 335),
  (135, zz2 #[zz3 "plus" 346, zz3 "plus" 347, zz3 "/claim/cut.py" 348, zz4 49, zz4 2, zz4 0, zz4 0, zz4 3, Value.ref 130, Value.bool true, zz4 181, Value.ref 131, Value.none, Value.ref 132, Value.ref 133, Value.ref 134, zz4 351, zz4 49, zz3 "/claim/cut.py" 352]),
  (143, fO "times" (ZbD p 20) 142 "rayround.ratios" 335),
  (142, zz2 #[zz3 "times" 354, zz3 "times" 355, zz3 "/claim/cut.py" 356, zz4 51, zz4 2, zz4 0, zz4 0, zz4 3, Value.ref 137, Value.bool true, zz4 181, Value.ref 138, Value.none, Value.ref 139, Value.ref 140, Value.ref 141, zz4 359, zz4 51, zz3 "/claim/cut.py" 360]),
  (150, fO "ask_height" (ZbD p 22) 149 "rayround.heights" 362),
  (149, zz2 #[zz3 "ask_height" 364, zz3 "ask_height" 365, zz3 "/claim/cut.py" 366, zz4 54, zz4 2, zz4 0, zz4 0, zz4 3, Value.ref 144, Value.bool true, zz4 181, Value.ref 145, Value.none, Value.ref 146, Value.ref 147, Value.ref 148, zz4 369, zz4 54, zz3 "/claim/cut.py" 370]),
  (157, fO "bends" (ZbD p 23) 156 "rayround.heights" 362),
  (156, zz2 #[zz3 "bends" 372, zz3 "bends" 373, zz3 "/claim/cut.py" 374, zz4 57, zz4 2, zz4 0, zz4 0, zz4 3, Value.ref 151, Value.bool true, zz4 181, Value.ref 152, Value.none, Value.ref 153, Value.ref 154, Value.ref 155, zz4 382, zz4 57, zz3 "/claim/cut.py" 383]),
  (164, fO "partner" (ZbD p 25) 163 "rayround.wedges" 385),
  (163, zz2 #[zz3 "partner" 387, zz3 "partner" 388, zz3 "/claim/cut.py" 389, zz4 66, zz4 1, zz4 0, zz4 0, zz4 3, Value.ref 158, Value.bool true, zz4 181, Value.ref 159, Value.none, Value.ref 160, Value.ref 161, Value.ref 162, zz4 396, zz4 66, zz3 "/claim/cut.py" 397]),
  (171, fO "first_behind" (ZbD p 26) 170 "rayround.wedges" 385),
  (170, zz2 #[zz3 "first_behind" 399, zz3 "first_behind" 400, zz3 "/claim/cut.py" 401, zz4 74, zz4 2, zz4 0, zz4 0, zz4 3, Value.ref 165, Value.bool true, zz4 181, Value.ref 166, Value.none, Value.ref 167, Value.ref 168, Value.ref 169, zz4 406, zz4 74, zz3 "/claim/cut.py" 407]),
  (178, fO "expanded" (ZbD p 27) 177 "rayround.wedges" 385),
  (177, zz2 #[zz3 "expanded" 409, zz3 "expanded" 410, zz3 "/claim/cut.py" 411, zz4 78, zz4 2, zz4 0, zz4 0, zz4 3, Value.ref 172, Value.bool true, zz4 181, Value.ref 173, Value.none, Value.ref 174, Value.ref 175, Value.ref 176, zz4 416, zz4 78, zz3 "/claim/cut.py" 417]),
  (185, fO "row" (ZbD p 28) 184 "rayround.wedges" 385),
  (184, zz2 #[zz3 "row" 419, zz3 "row" 420, zz3 "/claim/cut.py" 421, zz4 85, zz4 2, zz4 0, zz4 0, zz4 3, Value.ref 179, Value.bool true, zz4 181, Value.ref 180, Value.none, Value.ref 181, Value.ref 182, Value.ref 183, zz4 424, zz4 85, zz3 "/claim/cut.py" 425]),
  (192, fO "between" (ZbD p 29) 191 "rayround.wedges" 385),
  (191, zz2 #[zz3 "between" 427, zz3 "between" 428, zz3 "/claim/cut.py" 429, zz4 89, zz4 2, zz4 0, zz4 0, zz4 3, Value.ref 186, Value.bool true, zz4 181, Value.ref 187, Value.none, Value.ref 188, Value.ref 189, Value.ref 190, zz4 437, zz4 89, zz3 "/claim/cut.py" 438]),
  (199, fO "least_round" (ZbD p 31) 198 "rayround.leastrounds" 440),
  (198, zz2 #[zz3 "least_round" 442, zz3 "least_round" 443, zz3 "/claim/cut.py" 444, zz4 98, zz4 1, zz4 0, zz4 0, zz4 3, Value.ref 193, Value.bool true, zz4 181, Value.ref 194, Value.none, Value.ref 195, Value.ref 196, Value.ref 197, zz4 449, zz4 98, zz3 "/claim/cut.py" 450]),
  (206, fO "_law_bag" (ZbD p 33) 205 "law_rayround_k39_bends" 452),
  (205, zz2 #[zz3 "_law_bag" 454, zz3 "_law_bag" 455, zz3 "/claim/cut.py" 456, zz4 105, zz4 2, zz4 0, zz4 0, zz4 3, Value.ref 200, Value.bool true, zz4 181, Value.ref 201, Value.none, Value.ref 202, Value.ref 203, Value.ref 204, zz4 461, zz4 105, zz3 "/claim/cut.py" 462]),
  (213, fO "_law_digit" (ZbD p 34) 212 "law_rayround_k39_bends" 452),
  (212, zz2 #[zz3 "_law_digit" 464, zz3 "_law_digit" 465, zz3 "/claim/cut.py" 466, zz4 111, zz4 2, zz4 0, zz4 0, zz4 3, Value.ref 207, Value.bool true, zz4 181, Value.ref 208, Value.none, Value.ref 209, Value.ref 210, Value.ref 211, zz4 470, zz4 111, zz3 "/claim/cut.py" 471]),
  (220, fO "_law_led" (ZbD p 35) 219 "law_rayround_k39_bends" 452),
  (219, zz2 #[zz3 "_law_led" 473, zz3 "_law_led" 474, zz3 "/claim/cut.py" 475, zz4 118, zz4 2, zz4 0, zz4 0, zz4 3, Value.ref 214, Value.bool true, zz4 181, Value.ref 215, Value.none, Value.ref 216, Value.ref 217, Value.ref 218, zz4 480, zz4 118, zz3 "/claim/cut.py" 481]),
  (227, fO "_law_both" (ZbD p 36) 226 "law_rayround_k39_bends" 452),
  (226, zz2 #[zz3 "_law_both" 483, zz3 "_law_both" 484, zz3 "/claim/cut.py" 485, zz4 121, zz4 2, zz4 0, zz4 0, zz4 3, Value.ref 221, Value.bool true, zz4 181, Value.ref 222, Value.none, Value.ref 223, Value.ref 224, Value.ref 225, zz4 490, zz4 121, zz3 "/claim/cut.py" 491]),
  (234, fO "_law_turning" (ZbD p 37) 233 "law_rayround_k39_bends" 452),
  (233, zz2 #[zz3 "_law_turning" 493, zz3 "_law_turning" 494, zz3 "/claim/cut.py" 495, zz4 125, zz4 1, zz4 0, zz4 0, zz4 3, Value.ref 228, Value.bool true, zz4 181, Value.ref 229, Value.none, Value.ref 230, Value.ref 231, Value.ref 232, zz4 501, zz4 125, zz3 "/claim/cut.py" 502]),
  (241, fO "_law_cross" (ZbD p 38) 240 "law_rayround_k39_bends" 452),
  (240, zz2 #[zz3 "_law_cross" 504, zz3 "_law_cross" 505, zz3 "/claim/cut.py" 506, zz4 132, zz4 2, zz4 0, zz4 0, zz4 3, Value.ref 235, Value.bool true, zz4 181, Value.ref 236, Value.none, Value.ref 237, Value.ref 238, Value.ref 239, zz4 509, zz4 132, zz3 "/claim/cut.py" 510]),
  (248, fO "_law_sum" (ZbD p 39) 247 "law_rayround_k39_bends" 452),
  (247, zz2 #[zz3 "_law_sum" 512, zz3 "_law_sum" 513, zz3 "/claim/cut.py" 514, zz4 134, zz4 2, zz4 0, zz4 0, zz4 3, Value.ref 242, Value.bool true, zz4 181, Value.ref 243, Value.none, Value.ref 244, Value.ref 245, Value.ref 246, zz4 517, zz4 134, zz3 "/claim/cut.py" 518]),
  (255, fO "_law_near" (ZbD p 40) 254 "law_rayround_k39_bends" 452),
  (254, zz2 #[zz3 "_law_near" 520, zz3 "_law_near" 521, zz3 "/claim/cut.py" 522, zz4 136, zz4 1, zz4 0, zz4 0, zz4 3, Value.ref 249, Value.bool true, zz4 181, Value.ref 250, Value.none, Value.ref 251, Value.ref 252, Value.ref 253, zz4 524, zz4 136, zz3 "/claim/cut.py" 525]),
  (260, fO "_law_brought" (ZbD p 41) 259 "law_rayround_k39_bends" 452),
  (259, zz2 #[zz3 "_law_brought" 527, zz3 "_law_brought" 528, zz3 "/claim/cut.py" 529, zz4 138, zz4 3, zz4 0, zz4 0, zz4 3, Value.ref 256, Value.bool true, zz4 181, Value.ref 257, Value.none, Value.none, Value.none, Value.ref 258, zz4 530, zz4 138, zz3 "/claim/cut.py" 531]),
  (267, fO "_law_smooth" (ZbD p 42) 266 "law_rayround_k39_bends" 452),
  (266, zz2 #[zz3 "_law_smooth" 533, zz3 "_law_smooth" 534, zz3 "/claim/cut.py" 535, zz4 145, zz4 1, zz4 0, zz4 0, zz4 3, Value.ref 261, Value.bool true, zz4 181, Value.ref 262, Value.none, Value.ref 263, Value.ref 264, Value.ref 265, zz4 543, zz4 145, zz3 "/claim/cut.py" 544]),
  (274, fO "_law_straight" (ZbD p 43) 273 "law_rayround_k39_bends" 452),
  (273, zz2 #[zz3 "_law_straight" 546, zz3 "_law_straight" 547, zz3 "/claim/cut.py" 548, zz4 155, zz4 1, zz4 0, zz4 0, zz4 3, Value.ref 268, Value.bool true, zz4 181, Value.ref 269, Value.none, Value.ref 270, Value.ref 271, Value.ref 272, zz4 552, zz4 155, zz3 "/claim/cut.py" 553]),
  (281, fO "_law_put" (ZbD p 44) 280 "law_rayround_k39_bends" 452),
  (280, zz2 #[zz3 "_law_put" 555, zz3 "_law_put" 556, zz3 "/claim/cut.py" 557, zz4 160, zz4 2, zz4 0, zz4 0, zz4 3, Value.ref 275, Value.bool true, zz4 181, Value.ref 276, Value.none, Value.ref 277, Value.ref 278, Value.ref 279, zz4 562, zz4 160, zz3 "/claim/cut.py" 563]),
  (288, fO "_law_any" (ZbD p 45) 287 "law_rayround_k39_bends" 452),
  (287, zz2 #[zz3 "_law_any" 565, zz3 "_law_any" 566, zz3 "/claim/cut.py" 567, zz4 166, zz4 1, zz4 0, zz4 0, zz4 3, Value.ref 282, Value.bool true, zz4 181, Value.ref 283, Value.none, Value.ref 284, Value.ref 285, Value.ref 286, zz4 575, zz4 166, zz3 "/claim/cut.py" 576]),
  (295, fO "_law_low" (ZbD p 46) 294 "law_rayround_k39_bends" 452),
  (294, zz2 #[zz3 "_law_low" 578, zz3 "_law_low" 579, zz3 "/claim/cut.py" 580, zz4 179, zz4 2, zz4 0, zz4 0, zz4 3, Value.ref 289, Value.bool true, zz4 181, Value.ref 290, Value.none, Value.ref 291, Value.ref 292, Value.ref 293, zz4 585, zz4 179, zz3 "/claim/cut.py" 586]),
  (302, fO "_law_whole" (ZbD p 47) 301 "law_rayround_k39_bends" 452),
  (301, zz2 #[zz3 "_law_whole" 588, zz3 "_law_whole" 589, zz3 "/claim/cut.py" 590, zz4 184, zz4 1, zz4 0, zz4 0, zz4 3, Value.ref 296, Value.bool true, zz4 181, Value.ref 297, Value.none, Value.ref 298, Value.ref 299, Value.ref 300, zz4 592, zz4 184, zz3 "/claim/cut.py" 593]),
  (309, fO "_law_ratio" (ZbD p 48) 308 "law_rayround_k39_bends" 452),
  (308, zz2 #[zz3 "_law_ratio" 595, zz3 "_law_ratio" 596, zz3 "/claim/cut.py" 597, zz4 186, zz4 1, zz4 0, zz4 0, zz4 3, Value.ref 303, Value.bool true, zz4 181, Value.ref 304, Value.none, Value.ref 305, Value.ref 306, Value.ref 307, zz4 599, zz4 186, zz3 "/claim/cut.py" 600]),
  (316, fO "_law_plus" (ZbD p 49) 315 "law_rayround_k39_bends" 452),
  (315, zz2 #[zz3 "_law_plus" 602, zz3 "_law_plus" 603, zz3 "/claim/cut.py" 604, zz4 190, zz4 2, zz4 0, zz4 0, zz4 3, Value.ref 310, Value.bool true, zz4 181, Value.ref 311, Value.none, Value.ref 312, Value.ref 313, Value.ref 314, zz4 607, zz4 190, zz3 "/claim/cut.py" 608]),
  (323, fO "_law_height" (ZbD p 50) 322 "law_rayround_k39_bends" 452),
  (322, zz2 #[zz3 "_law_height" 610, zz3 "_law_height" 611, zz3 "/claim/cut.py" 612, zz4 192, zz4 2, zz4 0, zz4 0, zz4 3, Value.ref 317, Value.bool true, zz4 181, Value.ref 318, Value.none, Value.ref 319, Value.ref 320, Value.ref 321, zz4 620, zz4 192, zz3 "/claim/cut.py" 621]),
  (330, fO "_law_numbers" (ZbD p 51) 329 "law_rayround_k39_bends" 452),
  (329, zz2 #[zz3 "_law_numbers" 623, zz3 "_law_numbers" 624, zz3 "/claim/cut.py" 625, zz4 208, zz4 1, zz4 0, zz4 0, zz4 3, Value.ref 324, Value.bool true, zz4 181, Value.ref 325, Value.none, Value.ref 326, Value.ref 327, Value.ref 328, zz4 632, zz4 208, zz3 "/claim/cut.py" 633]),
  (337, fO "_law_bends" (ZbD p 52) 336 "law_rayround_k39_bends" 452),
  (336, zz2 #[zz3 "_law_bends" 635, zz3 "_law_bends" 636, zz3 "/claim/cut.py" 637, zz4 215, zz4 2, zz4 0, zz4 0, zz4 3, Value.ref 331, Value.bool true, zz4 181, Value.ref 332, Value.none, Value.ref 333, Value.ref 334, Value.ref 335, zz4 644, zz4 215, zz3 "/claim/cut.py" 645]),
  (342, fO "_law_ratios" (ZbD p 53) 341 "law_rayround_k39_bends" 452),
  (341, zz2 #[zz3 "_law_ratios" 647, zz3 "_law_ratios" 648, zz3 "/claim/cut.py" 649, zz4 221, zz4 2, zz4 0, zz4 0, zz4 3, Value.ref 338, Value.bool true, zz4 181, Value.ref 339, Value.none, Value.none, Value.none, Value.ref 340, zz4 650, zz4 221, zz3 "/claim/cut.py" 651]),
  (349, fO "_law_drawn" (ZbD p 54) 348 "law_rayround_k39_bends" 452),
  (348, zz2 #[zz3 "_law_drawn" 653, zz3 "_law_drawn" 654, zz3 "/claim/cut.py" 655, zz4 225, zz4 1, zz4 0, zz4 0, zz4 3, Value.ref 343, Value.bool true, zz4 181, Value.ref 344, Value.none, Value.ref 345, Value.ref 346, Value.ref 347, zz4 664, zz4 225, zz3 "/claim/cut.py" 665]),
  (356, fO "law" (ZbD p 55) 355 "law_rayround_k39_bends" 452),
  (355, zz2 #[zz3 "law" 667, zz3 "law" 668, zz3 "/claim/cut.py" 669, zz4 241, zz4 1, zz4 0, zz4 0, zz4 3, Value.ref 350, Value.bool true, zz4 181, Value.ref 351, Value.none, Value.ref 352, Value.ref 353, Value.ref 354, zz4 677, zz4 241, zz3 "/claim/cut.py" 678]),
  (23, { cls := Value.type "dict", data := Data.dict #[zz1 P "__module__" 196 (zz3 "rayround.errors" 187), zz1 P "__firstlineno__" 200 (Value.int 2 199), zz1 P "__static_attributes__" 201 (Value.ref 22), zz1 P "__weakref__" 203 (Value.ref 25), zz1 P "__doc__" 204 (Value.none)] 3 }),
  (24, { cls := Value.type "type", data := Data.cls { name := Str.ofString "RayError", bases := [Value.type "ValueError"], mro := [Value.ref 24, Value.type "ValueError", Value.type "Exception", Value.type "BaseException", Value.type "object"], ns := 23, qualname := Str.ofString "RayError", subclasses := [Value.ref 37, Value.ref 49, Value.ref 61, Value.ref 73] }, slots := #[some (Value.ref 15), none, some (zz3 "RayError" 189), some (zz3 "RayError" 197), some (Value.builtin "ValueError.__new__"), some (Value.bool true)] }),
  (36, { cls := Value.type "dict", data := Data.dict #[zz1 P "__module__" 214 (zz3 "rayround.errors" 187), zz1 P "__firstlineno__" 218 (Value.int 4 217), zz1 P "__static_attributes__" 219 (Value.ref 35), zz1 P "__doc__" 220 (Value.none)] 2 }),
  (37, { cls := Value.type "type", data := Data.cls { name := Str.ofString "NoRatio", bases := [Value.ref 24], mro := [Value.ref 37, Value.ref 24, Value.type "ValueError", Value.type "Exception", Value.type "BaseException", Value.type "object"], ns := 36, qualname := Str.ofString "NoRatio" }, slots := #[some (Value.ref 28), none, some (zz3 "NoRatio" 207), some (zz3 "NoRatio" 215), some (Value.builtin "ValueError.__new__"), some (Value.bool true)] }),
  (48, { cls := Value.type "dict", data := Data.dict #[zz1 P "__module__" 230 (zz3 "rayround.errors" 187), zz1 P "__firstlineno__" 234 (Value.int 6 233), zz1 P "__static_attributes__" 235 (Value.ref 47), zz1 P "__doc__" 236 (Value.none)] 2 }),
  (49, { cls := Value.type "type", data := Data.cls { name := Str.ofString "NotSmooth", bases := [Value.ref 24], mro := [Value.ref 49, Value.ref 24, Value.type "ValueError", Value.type "Exception", Value.type "BaseException", Value.type "object"], ns := 48, qualname := Str.ofString "NotSmooth" }, slots := #[some (Value.ref 40), none, some (zz3 "NotSmooth" 223), some (zz3 "NotSmooth" 231), some (Value.builtin "ValueError.__new__"), some (Value.bool true)] }),
  (60, { cls := Value.type "dict", data := Data.dict #[zz1 P "__module__" 246 (zz3 "rayround.errors" 187), zz1 P "__firstlineno__" 250 (Value.int 8 249), zz1 P "__static_attributes__" 251 (Value.ref 59), zz1 P "__doc__" 252 (Value.none)] 2 }),
  (61, { cls := Value.type "type", data := Data.cls { name := Str.ofString "NoWedge", bases := [Value.ref 24], mro := [Value.ref 61, Value.ref 24, Value.type "ValueError", Value.type "Exception", Value.type "BaseException", Value.type "object"], ns := 60, qualname := Str.ofString "NoWedge" }, slots := #[some (Value.ref 52), none, some (zz3 "NoWedge" 239), some (zz3 "NoWedge" 247), some (Value.builtin "ValueError.__new__"), some (Value.bool true)] }),
  (72, { cls := Value.type "dict", data := Data.dict #[zz1 P "__module__" 262 (zz3 "rayround.errors" 187), zz1 P "__firstlineno__" 266 (Value.int 10 265), zz1 P "__static_attributes__" 267 (Value.ref 71), zz1 P "__doc__" 268 (Value.none)] 2 }),
  (73, { cls := Value.type "type", data := Data.cls { name := Str.ofString "NoHeight", bases := [Value.ref 24], mro := [Value.ref 73, Value.ref 24, Value.type "ValueError", Value.type "Exception", Value.type "BaseException", Value.type "object"], ns := 72, qualname := Str.ofString "NoHeight" }, slots := #[some (Value.ref 64), none, some (zz3 "NoHeight" 255), some (zz3 "NoHeight" 263), some (Value.builtin "ValueError.__new__"), some (Value.bool true)] })]
noncomputable def asK : List Addr := [3, 82, 81, 89, 88, 96, 95, 103, 102, 110, 109, 117, 116, 122, 121, 129, 128, 136, 135, 143, 142, 150, 149, 157, 156, 164, 163, 171, 170, 178, 177, 185, 184, 192, 191, 199, 198, 206, 205, 213, 212, 220, 219, 227, 226, 234, 233, 241, 240, 248, 247, 255, 254, 260, 259, 267, 266, 274, 273, 281, 280, 288, 287, 295, 294, 302, 301, 309, 308, 316, 315, 323, 322, 330, 329, 337, 336, 342, 341, 349, 348, 356, 355, 23, 24, 36, 37, 48, 49, 60, 61, 72, 73]
theorem ZoM (p : Program) (P : Params) : asK = (Kf p P).map (·.1) := rfl
noncomputable def qf (p : Program) : Program := { p with main := { p.main with body := [ZbD p 55] } }
noncomputable def lo : List Str := [("__name__" : Str), ("RayError" : Str), ("NoRatio" : Str), ("NotSmooth" : Str), ("NoWedge" : Str), ("NoHeight" : Str), ("is_whole" : Str), ("greatest_divisor" : Str), ("crossed" : Str), ("following" : Str), ("unspanned" : Str), ("ask_smooth" : Str), ("numbers" : Str), ("ratio" : Str), ("plus" : Str), ("times" : Str), ("ask_height" : Str), ("bends" : Str), ("partner" : Str), ("first_behind" : Str), ("expanded" : Str), ("row" : Str), ("between" : Str), ("least_round" : Str), ("_law_bag" : Str), ("_law_digit" : Str), ("_law_led" : Str), ("_law_both" : Str), ("_law_turning" : Str), ("_law_cross" : Str), ("_law_sum" : Str), ("_law_near" : Str), ("_law_brought" : Str), ("_law_smooth" : Str), ("_law_straight" : Str), ("_law_put" : Str), ("_law_any" : Str), ("_law_low" : Str), ("_law_whole" : Str), ("_law_ratio" : Str), ("_law_plus" : Str), ("_law_height" : Str), ("_law_numbers" : Str), ("_law_bends" : Str), ("_law_ratios" : Str), ("_law_drawn" : Str)]
theorem Zs7 {l : PySem.W.OpenLaw} {q : Program} {loose : List Str} {XP : (Str → Option Value) → Heap → Prop} {YP : World → Heap → Prop} {d : DefRec} {K : Params → PySem.W.Frag} (hn : l.most = some 63) (hdf : d.params.defaults = [])
    (hY : ∀ (w : World) (h : Heap), YP w h → (K w.params).In h)
    (F : ∀ (w : World) (mg : Str → Option Value) (fa : Addr) (h : Heap), (K w.params).In h → h.Ns mainGlobals mg → mg d.name = some (.ref fa) →
      ∃ fd : FuncData, (∀ (s : Shared) (u : Value), BindsTo s fd ⟨[u], []⟩ [("_law_script", u)]) ∧ ∀ base : Heap, (K w.params).In base → base.Ns mainGlobals mg → FnOk l.prog w (K w.params) mg base (CXE l.prog w) 107 fa fd ["_law_script"] (spD (K w.params) Zf8)) :
    PySem.W.WalkO q loose XP YP l.row.toRowW d [] (fun f vs => PySem.call f vs) :=
  L2.ZkR (n := 63) (k := 107) (x := "_law_script") (CX := fun w => CXE l.prog w) (sp := fun w => spD (K w.params) Zf8) hn (by decide) hdf ⟨fun _ => rfl, by decide, by decide⟩ hY F (fun _ _ a ns hl hO hS => DL.ZmL hl hO hS (law_true ns hl)) fun _ _ _ _ _ ⟨_, _, _, _, _, _, _, _, _, _, _, _, _, q⟩ => q
end K39
open PySem PySem.W PyProof.Rows
lay_quick PySem.Challenge.pw_rayround_k39_bends
namespace K39
noncomputable abbrev Hk : Hook := kHook (Kf PySem.Challenge.pw_rayround_k39_bends) asK (ZoM PySem.Challenge.pw_rayround_k39_bends)
noncomputable def Xs (s : Shared) : Bool := xlAt (qf PySem.Challenge.pw_rayround_k39_bends) [] s && recOk (RowW.records (OpenRow.toRowW (OpenLaw.row PySem.Challenge.rw_rayround_k39_bends))) s
set_option maxRecDepth 1000000 in
set_option maxHeartbeats 0 in
theorem Zpf (w : World) (os : OsState) : (HD.ZoR through (HD.Zjm (stepOk 11 (some (.ref 6))) (stepT (denote treeTable) PySem.Challenge.pw_rayround_k39_bends w)) 2458 (HD.T0 w os) (topStub PySem.Challenge.pw_rayround_k39_bends)).map (fun s => ((staticsOk (importedModules PySem.Challenge.pw_rayround_k39_bends.main.body) (boot_heap w.params) s.abs.heap && namesBound PySem.Challenge.pw_rayround_k39_bends s.abs.heap && gensDone s.abs && laidKept (boot_heap w.params) s.abs.heap),
    openSeen (qf PySem.Challenge.pw_rayround_k39_bends) lo (importedModules PySem.Challenge.pw_rayround_k39_bends.main.body) (fun s => xlAt (qf PySem.Challenge.pw_rayround_k39_bends) [] s && recOk [] s) true s.abs, asK.map s.abs.heap.get?)) = some (true, openGood (qf PySem.Challenge.pw_rayround_k39_bends) lo, (Kf PySem.Challenge.pw_rayround_k39_bends w.params).map fun x => some x.2) := by
  rw [HD.Zpg, HD.Zla, HD.ZmX, HD.ZmY, HD.Zlb, HD.ZmZ, PySem.W.Fast.te2167869543214463275]
  kernel_rfl
end K39
set_option maxRecDepth 1000000 in
set_option maxHeartbeats 0 in
theorem PySem.Challenge.cw_rayround_k39_bends_holds : PySem.Challenge.rw_rayround_k39_bends.Holds := by
  w_on; o_law
  refine holds_open (q := K39.qf PySem.Challenge.pw_rayround_k39_bends) (loose := K39.lo) (Xt := fun s => xlAt (K39.qf PySem.Challenge.pw_rayround_k39_bends) [] s && recOk [] s) (XP := XL (K39.qf PySem.Challenge.pw_rayround_k39_bends) []) (Yf := Hook.obs K39.Hk) (Ya := Hook.val K39.Hk) (YP := Hook.says K39.Hk) (N := 3058) ?hl (Hook.of K39.Hk) (Hook.keeps K39.Hk) (fun s e => xl_of s (Bool.and_eq_true_iff.mp e).1) XL.keeps (by rfl) (by rfl) (by rfl) (fun s e => recFacts_of (Bool.and_eq_true_iff.mp e).2) (by rfl) (by first | assumption | decide +kernel) (by decide +kernel) ⟨rfl, rfl, rfl, rfl, rfl, by decide +kernel⟩ ?hw ?hc
  case hl => exact HD.Zh8 rfl (by decide) (fun s => rfl) (by decide) K39.Zpf
  case hw => w_witness2
  case hc =>
    refine K39.Zs7 (l := PySem.Challenge.rw_rayround_k39_bends) rfl rfl (fun w h Y => PySem.W.kIn_of Y) ?F
    intro w mg fa h KX G hmg
    refine K39.ZoI (f1 := 82) (od1 := none) (an1 := none) (sl1 := #[]) (oc1 := .type "function") (kV1 := .none) (dc1 := .none) (pm1 := .str "rayround.wholes" 271) (cd1 := .ref 81) (ct1 := .none) (f2 := 89) (od2 := none) (an2 := none) (sl2 := #[]) (oc2 := .type "function") (kV2 := .none) (dc2 := .none) (pm2 := .str "rayround.wholes" 271) (cd2 := .ref 88) (ct2 := .none) (f3 := 96) (od3 := none) (an3 := none) (sl3 := #[]) (oc3 := .type "function") (kV3 := .none) (dc3 := .none) (pm3 := .str "rayround.pairs" 290) (cd3 := .ref 95) (ct3 := .none) (f4 := 103) (od4 := none) (an4 := none) (sl4 := #[]) (oc4 := .type "function") (kV4 := .none) (dc4 := .none) (pm4 := .str "rayround.rounds" 300) (cd4 := .ref 102) (ct4 := .none) (f5 := 110) (od5 := none) (an5 := none) (sl5 := #[]) (oc5 := .type "function") (kV5 := .none) (dc5 := .none) (pm5 := .str "rayround.rounds" 300) (cd5 := .ref 109) (ct5 := .none) (f6 := 117) (od6 := none) (an6 := none) (sl6 := #[]) (oc6 := .type "function") (kV6 := .none) (dc6 := .none) (pm6 := .str "rayround.rounds" 300) (cd6 := .ref 116) (ct6 := .none) (f7 := 122) (od7 := none) (an7 := none) (sl7 := #[]) (oc7 := .type "function") (kV7 := .none) (dc7 := .none) (pm7 := .str "rayround.numbers" 327) (cd7 := .ref 121) (ct7 := .none) (f8 := 129) (od8 := none) (an8 := none) (sl8 := #[]) (oc8 := .type "function") (kV8 := .none) (dc8 := .none) (pm8 := .str "rayround.ratios" 335) (cd8 := .ref 128) (ct8 := .none) (f9 := 136) (od9 := none) (an9 := none) (sl9 := #[]) (oc9 := .type "function") (kV9 := .none) (dc9 := .none) (pm9 := .str "rayround.ratios" 335) (cd9 := .ref 135) (ct9 := .none) (f10 := 143) (od10 := none) (an10 := none) (sl10 := #[]) (oc10 := .type "function") (kV10 := .none) (dc10 := .none) (pm10 := .str "rayround.ratios" 335) (cd10 := .ref 142) (ct10 := .none) (f11 := 150) (od11 := none) (an11 := none) (sl11 := #[]) (oc11 := .type "function") (kV11 := .none) (dc11 := .none) (pm11 := .str "rayround.heights" 362) (cd11 := .ref 149) (ct11 := .none) (f12 := 157) (od12 := none) (an12 := none) (sl12 := #[]) (oc12 := .type "function") (kV12 := .none) (dc12 := .none) (pm12 := .str "rayround.heights" 362) (cd12 := .ref 156) (ct12 := .none) (f13 := 164) (od13 := none) (an13 := none) (sl13 := #[]) (oc13 := .type "function") (kV13 := .none) (dc13 := .none) (pm13 := .str "rayround.wedges" 385) (cd13 := .ref 163) (ct13 := .none) (f14 := 171) (od14 := none) (an14 := none) (sl14 := #[]) (oc14 := .type "function") (kV14 := .none) (dc14 := .none) (pm14 := .str "rayround.wedges" 385) (cd14 := .ref 170) (ct14 := .none) (f15 := 178) (od15 := none) (an15 := none) (sl15 := #[]) (oc15 := .type "function") (kV15 := .none) (dc15 := .none) (pm15 := .str "rayround.wedges" 385) (cd15 := .ref 177) (ct15 := .none) (f16 := 185) (od16 := none) (an16 := none) (sl16 := #[]) (oc16 := .type "function") (kV16 := .none) (dc16 := .none) (pm16 := .str "rayround.wedges" 385) (cd16 := .ref 184) (ct16 := .none) (f17 := 192) (od17 := none) (an17 := none) (sl17 := #[]) (oc17 := .type "function") (kV17 := .none) (dc17 := .none) (pm17 := .str "rayround.wedges" 385) (cd17 := .ref 191) (ct17 := .none) (f18 := 199) (od18 := none) (an18 := none) (sl18 := #[]) (oc18 := .type "function") (kV18 := .none) (dc18 := .none) (pm18 := .str "rayround.leastrounds" 440) (cd18 := .ref 198) (ct18 := .none) (f19 := 206) (od19 := none) (an19 := none) (sl19 := #[]) (oc19 := .type "function") (kV19 := .none) (dc19 := .none) (pm19 := .str "law_rayround_k39_bends" 452) (cd19 := .ref 205) (ct19 := .none) (f20 := 213) (od20 := none) (an20 := none) (sl20 := #[]) (oc20 := .type "function") (kV20 := .none) (dc20 := .none) (pm20 := .str "law_rayround_k39_bends" 452) (cd20 := .ref 212) (ct20 := .none) (f21 := 220) (od21 := none) (an21 := none) (sl21 := #[]) (oc21 := .type "function") (kV21 := .none) (dc21 := .none) (pm21 := .str "law_rayround_k39_bends" 452) (cd21 := .ref 219) (ct21 := .none) (f22 := 227) (od22 := none) (an22 := none) (sl22 := #[]) (oc22 := .type "function") (kV22 := .none) (dc22 := .none) (pm22 := .str "law_rayround_k39_bends" 452) (cd22 := .ref 226) (ct22 := .none) (f23 := 234) (od23 := none) (an23 := none) (sl23 := #[]) (oc23 := .type "function") (kV23 := .none) (dc23 := .none) (pm23 := .str "law_rayround_k39_bends" 452) (cd23 := .ref 233) (ct23 := .none) (f24 := 241) (od24 := none) (an24 := none) (sl24 := #[]) (oc24 := .type "function") (kV24 := .none) (dc24 := .none) (pm24 := .str "law_rayround_k39_bends" 452) (cd24 := .ref 240) (ct24 := .none) (f25 := 248) (od25 := none) (an25 := none) (sl25 := #[]) (oc25 := .type "function") (kV25 := .none) (dc25 := .none) (pm25 := .str "law_rayround_k39_bends" 452) (cd25 := .ref 247) (ct25 := .none) (f26 := 255) (od26 := none) (an26 := none) (sl26 := #[]) (oc26 := .type "function") (kV26 := .none) (dc26 := .none) (pm26 := .str "law_rayround_k39_bends" 452) (cd26 := .ref 254) (ct26 := .none) (f27 := 260) (od27 := none) (an27 := none) (sl27 := #[]) (oc27 := .type "function") (kV27 := .none) (dc27 := .none) (pm27 := .str "law_rayround_k39_bends" 452) (cd27 := .ref 259) (ct27 := .none) (f28 := 267) (od28 := none) (an28 := none) (sl28 := #[]) (oc28 := .type "function") (kV28 := .none) (dc28 := .none) (pm28 := .str "law_rayround_k39_bends" 452) (cd28 := .ref 266) (ct28 := .none) (f29 := 274) (od29 := none) (an29 := none) (sl29 := #[]) (oc29 := .type "function") (kV29 := .none) (dc29 := .none) (pm29 := .str "law_rayround_k39_bends" 452) (cd29 := .ref 273) (ct29 := .none) (f30 := 281) (od30 := none) (an30 := none) (sl30 := #[]) (oc30 := .type "function") (kV30 := .none) (dc30 := .none) (pm30 := .str "law_rayround_k39_bends" 452) (cd30 := .ref 280) (ct30 := .none) (f31 := 288) (od31 := none) (an31 := none) (sl31 := #[]) (oc31 := .type "function") (kV31 := .none) (dc31 := .none) (pm31 := .str "law_rayround_k39_bends" 452) (cd31 := .ref 287) (ct31 := .none) (f32 := 295) (od32 := none) (an32 := none) (sl32 := #[]) (oc32 := .type "function") (kV32 := .none) (dc32 := .none) (pm32 := .str "law_rayround_k39_bends" 452) (cd32 := .ref 294) (ct32 := .none) (f33 := 302) (od33 := none) (an33 := none) (sl33 := #[]) (oc33 := .type "function") (kV33 := .none) (dc33 := .none) (pm33 := .str "law_rayround_k39_bends" 452) (cd33 := .ref 301) (ct33 := .none) (f34 := 309) (od34 := none) (an34 := none) (sl34 := #[]) (oc34 := .type "function") (kV34 := .none) (dc34 := .none) (pm34 := .str "law_rayround_k39_bends" 452) (cd34 := .ref 308) (ct34 := .none) (f35 := 316) (od35 := none) (an35 := none) (sl35 := #[]) (oc35 := .type "function") (kV35 := .none) (dc35 := .none) (pm35 := .str "law_rayround_k39_bends" 452) (cd35 := .ref 315) (ct35 := .none) (f36 := 323) (od36 := none) (an36 := none) (sl36 := #[]) (oc36 := .type "function") (kV36 := .none) (dc36 := .none) (pm36 := .str "law_rayround_k39_bends" 452) (cd36 := .ref 322) (ct36 := .none) (f37 := 330) (od37 := none) (an37 := none) (sl37 := #[]) (oc37 := .type "function") (kV37 := .none) (dc37 := .none) (pm37 := .str "law_rayround_k39_bends" 452) (cd37 := .ref 329) (ct37 := .none) (f38 := 337) (od38 := none) (an38 := none) (sl38 := #[]) (oc38 := .type "function") (kV38 := .none) (dc38 := .none) (pm38 := .str "law_rayround_k39_bends" 452) (cd38 := .ref 336) (ct38 := .none) (f39 := 342) (od39 := none) (an39 := none) (sl39 := #[]) (oc39 := .type "function") (kV39 := .none) (dc39 := .none) (pm39 := .str "law_rayround_k39_bends" 452) (cd39 := .ref 341) (ct39 := .none) (f40 := 349) (od40 := none) (an40 := none) (sl40 := #[]) (oc40 := .type "function") (kV40 := .none) (dc40 := .none) (pm40 := .str "law_rayround_k39_bends" 452) (cd40 := .ref 348) (ct40 := .none) (f41 := 356) (od41 := none) (an41 := none) (sl41 := #[]) (oc41 := .type "function") (kV41 := .none) (dc41 := .none) (pm41 := .str "law_rayround_k39_bends" 452) (cd41 := .ref 355) (ct41 := .none) KX G hmg ?a1 ?l1 ?c1 ?k1 ?a2 ?l2 ?c2 ?k2 ?a3 ?l3 ?c3 ?k3 ?a4 ?l4 ?c4 ?k4 ?a5 ?l5 ?c5 ?k5 ?a6 ?l6 ?c6 ?k6 ?a7 ?l7 ?c7 ?k7 ?a8 ?l8 ?c8 ?k8 ?a9 ?l9 ?c9 ?k9 ?a10 ?l10 ?c10 ?k10 ?a11 ?l11 ?c11 ?k11 ?a12 ?l12 ?c12 ?k12 ?a13 ?l13 ?c13 ?k13 ?a14 ?l14 ?c14 ?k14 ?a15 ?l15 ?c15 ?k15 ?a16 ?l16 ?c16 ?k16 ?a17 ?l17 ?c17 ?k17 ?a18 ?l18 ?c18 ?k18 ?a19 ?l19 ?c19 ?k19 ?a20 ?l20 ?c20 ?k20 ?a21 ?l21 ?c21 ?k21 ?a22 ?l22 ?c22 ?k22 ?a23 ?l23 ?c23 ?k23 ?a24 ?l24 ?c24 ?k24 ?a25 ?l25 ?c25 ?k25 ?a26 ?l26 ?c26 ?k26 ?a27 ?l27 ?c27 ?k27 ?a28 ?l28 ?c28 ?k28 ?a29 ?l29 ?c29 ?k29 ?a30 ?l30 ?c30 ?k30 ?a31 ?l31 ?c31 ?k31 ?a32 ?l32 ?c32 ?k32 ?a33 ?l33 ?c33 ?k33 ?a34 ?l34 ?c34 ?k34 ?a35 ?l35 ?c35 ?k35 ?a36 ?l36 ?c36 ?k36 ?a37 ?l37 ?c37 ?k37 ?a38 ?l38 ?c38 ?k38 ?a39 ?l39 ?c39 ?k39 ?a40 ?l40 ?c40 ?k40 ?a41 ?l41 ?c41 ?k41 ?z_isinstance ?z_int ?z_bool ?z_abs ?z_len ?z_enumerate ?z_range ?z_all ?z_list ?z_tuple ?z_max ?z_min ?q_ex_NotSmooth ?q_ex_NoRatio ?q_ex_NoHeight ?q_ex_NoWedge
    all_goals kernel_rfl
