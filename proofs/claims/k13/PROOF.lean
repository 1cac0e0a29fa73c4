import PyProof.Rows.All
import Wide.All
import OpenK.AllK
import Wide.FinOn
import Lean
import PyProof.EqAt
import PyProof.EqKinds
import PyProof.TupleCall
import PySem.Challenge.RW_rayround_k13_opposite_rows
section
set_option Elab.async false
set_option linter.all false
set_option maxRecDepth 100000
namespace DQ
open PySem PySem.Spec PyProof.Rows
noncomputable def Quiet (A : Around) (h : Heap) : Prop := A.handled = none ∨ ∃ ea oe vs, A.handled = some (.ref ea) ∧ h.get? ea = some oe ∧ oe.data = .fields vs ∧ vs[2]? = some .none
theorem Quiet.keeps {A : Around} {h h' : Heap} (q : Quiet A h) (k : ∀ b o, h.get? b = some o → h'.get? b = some o) : Quiet A h' := by
  rcases q with q | ⟨ea, oe, vs, e1, e2, e3, e4⟩
  · exact .inl q
  · exact .inr ⟨ea, oe, vs, e1, k _ _ e2, e3, e4⟩
theorem entry_unchain : entryFor table "proto.unchain" = some Builtin.«proto.unchain» := entryFor_of_fast (by kernel_rfl)
section
variable {prog : Program} {w : World} {A : Around} {E : Value → Shared → Prop} {s : Shared}
theorem raise_quiet {α : Type} {Q : α → Shared → Prop} {e : Addr} {oe : Obj} {vs : Array Value} (q : Quiet A s.heap) (he : s.heap.get? e = some oe) (hd : oe.data = .fields vs) (hz : 2 < vs.size)
    (h : ∀ h', (∀ b o, b ≠ e → s.heap.get? b = some o → h'.get? b = some o) → (∃ o, h'.get? e = some o ∧ o.cls = oe.cls) → E (.ref e) { s with heap := h' }) : wpAny (model prog w) A (raiseNew (.ref e) : Sem α) Q E s := by
  have same : E (.ref e) s := h s.heap (fun _ _ _ x => x) ⟨oe, he, rfl⟩
  unfold raiseNew
  refine wpAny_bind (wpAny_handled ?_)
  rcases q with q | ⟨ea, oa, ws, q1, q2, q3, q4⟩
  · rw [q]
    exact wpAny_bind (wpAny_pure (wpAny_throw same))
  · rw [q1]
    dsimp only
    by_cases c : (Value.ref ea != Value.ref e) = true
    · rw [if_pos c]
      refine wpAny_bind (wpAny_holding (wpAny_runValue (codeAny_builtin entry_unchain ?_)))
      unfold Builtin.«proto.unchain»
      refine wpAny_bind (wpAny_field q2 q3 q4 ?_)
      refine wpAny_bind (wpAny_pure ?_)
      have sf : wpAny (model prog w) A (setField (.ref e) 2 (.ref ea)) (fun _ s' => wpAny (model prog w) A (throw (Value.ref e) : Sem α) Q E s') E s := by
        refine wpAny_setField he hd hz (wpAny_throw (h _ (fun b o hb x => ?_) ⟨_, Heap.get?_update_self _ he (Obj.isFreed_of_fields (Obj.data_mapFields hd _)), Obj.cls_mapFields _ _⟩))
        rw [Heap.get?_update_other _ _ (Ne.symm hb)]
        exact x
      exact wpAny_pure (wpAny_bind sf)
    · rw [if_neg c]
      exact wpAny_throw same
theorem stop_quiet {α : Type} {Q : α → Shared → Prop} (q : Quiet A s.heap)
    (h : ∀ h' e, (∀ b o, s.heap.get? b = some o → h'.get? b = some o) → (∃ o, h'.get? e = some o ∧ o.cls = .type "StopIteration") → E (.ref e) { s with heap := h' }) :
    wpAny (model prog w) A (newExc (.type "StopIteration") [] >>= fun x => (raiseNew x : Sem α)) Q E s := by
  refine wpAny_bind ?_
  simp only [newExc, newTuple]
  refine wpAny_bind (wpAny_newObj_type ?_ (by size_fits))
  refine wpAny_bind (m := firstArgMember _ _) (wpAny_of_eq (a := Value.none) (by first | rfl | (simp only [firstArgMember]; rfl)) ?_)
  refine wpAny_newObj_type ?_ (by size_fits)
  refine raise_quiet (q.keeps fun b o x => Heap.get?_push_of_some _ (Heap.get?_push_of_some _ x)) (Heap.get?_push_size _ rfl) rfl (by rw [Array.size_append]; exact Nat.lt_of_lt_of_le (by decide : 2 < 6) (Nat.le_add_right _ _)) fun h' k he => ?_
  exact h h' _ (fun b o x => k b o (Nat.ne_of_lt (Nat.lt_of_lt_of_le (Heap.lt_size x) (by rw [Heap.size_push]; exact Nat.le_succ _))) (Heap.get?_push_of_some _ (Heap.get?_push_of_some _ x))) he
theorem stopped {e : Addr} {Q : Bool → Shared → Prop} (he : ∃ o, s.heap.get? e = some o ∧ o.cls = .type "StopIteration") (h : Q true s) : wpAny (model prog w) A (isInstance (.ref e) (.type "StopIteration")) Q E s :=
  let ⟨o, e1, e2⟩ := he
  wpAny_isInstance (T := "StopIteration") (b := true) ⟨o, e1, e2⟩ isSubtype_stop h
theorem Quiet.in1 {h : Heap} (q : Quiet A h) : Quiet A.in1 h := q
noncomputable def EndsAt (it : Addr) (s : Shared) (e : Value) (s' : Shared) : Prop := ∃ a, e = .ref a ∧ (∃ o, s'.heap.get? a = some o ∧ o.cls = .type "StopIteration") ∧ ∃ h', Heap.ExtBut it s.heap h' ∧ s' = { s with heap := h' }
theorem end_of {it : Addr} {T id : String} {b : Builtin} {Q : Option Value → Shared → Prop} (hT : s.TypeIs (.ref it) T) (sl : Slot T (Str.ofString "__next__") id) (hb : entryFor table id = some b) (ha : argsOk id ⟨[.ref it], []⟩)
    (h : wpAny (model prog w) A.in1 (b ⟨[.ref it], []⟩) (fun _ _ => False) (EndsAt it s) s) (hQ : ∀ h', Heap.ExtBut it s.heap h' → Q none { s with heap := h' }) : wpAny (model prog w) A (pyNext (.ref it)) Q E s := by
  unfold pyNext
  refine wpAny_bind (wpAny_attempt (wpAny_callSpecial?_slot (name := Str.ofString "__next__") hT sl (wpAny_call_entry sl hT hb (wpAny_mono h (fun _ _ z => z.elim) fun e s' z => ?_) ha)))
  obtain ⟨a, rfl, ho, h', eb, rfl⟩ := z
  exact wpAny_bind (stopped ho (wpAny_pure (hQ h' eb)))
theorem range_end {it : Addr} {x left step : Int} {Q : Option Value → Shared → Prop} (q : Quiet A s.heap) (hit : IsRangeIter s.heap it x left step) (hl : left ≤ 0)
    (hQ : ∀ h', Heap.ExtBut it s.heap h' → Q none { s with heap := h' }) : wpAny (model prog w) A (pyNext (.ref it)) Q E s := by
  refine end_of ⟨_, hit, rfl⟩ F.slot_range_iterator_next F.entry_range_iterator_next (F.args_range_iterator_next_1 _) ?_ hQ
  refine wpAny_bind (m := field (.ref it) 0) (wpAny_field hit rfl (x := rawInt x) rfl ?_)
  refine wpAny_bind (m := field (.ref it) 1) (wpAny_field hit rfl (x := rawInt left) rfl ?_)
  refine wpAny_bind (m := field (.ref it) 2) (wpAny_field hit rfl (x := rawInt step) rfl ?_)
  dsimp only [rawInt]
  rw [if_pos hl]
  refine wpAny_bind (wpAny_rule (wpAny_bind ?_))
  exact stop_quiet q.in1 fun h' e k ho => ⟨e, rfl, ho, h', fun b o _ z => k b o z, rfl⟩
theorem rise_l {it l : Addr} {i : Nat} {o ol : Obj} {items : Array Value} {n : Nat} (q : Quiet A s.heap) (ho : s.heap.get? it = some o) (hd : o.data = .fields #[.ref l, .int i 0]) (hol : s.heap.get? l = some ol) (hdl : ol.data = .seq items n) (hx : items[i]? = none) :
    wpAny (model prog w) A.in1 (Builtin.«list_iterator.__next__» ⟨[.ref it], []⟩) (fun _ _ => False) (EndsAt it s) s := by
  refine wpAny_bind (m := field (.ref it) 0) (wpAny_field ho hd (x := .ref l) rfl ?_)
  dsimp only
  rw [if_neg (show ¬ ((Value.ref l == Value.none) = true) from Bool.false_ne_true)]
  refine wpAny_bind (m := field (.ref it) 1) (wpAny_field ho hd (x := .int i 0) rfl ?_)
  refine wpAny_bind (m := seqItems? (.ref l)) (wpAny_seqItems hol hdl ?_)
  simp only [Int.toNat_natCast, hx]
  refine wpAny_bind (wpAny_rule (wpAny_bind (wpAny_setField ho hd (by simp) ?_)))
  have q2 : Quiet A.in1 (s.heap.update it (Obj.mapFields (·.setIfInBounds 0 Value.none))) := by
    rcases q with q | ⟨ea, oe, vs, e1, e2, e3, e4⟩
    · exact .inl q
    · refine .inr ⟨ea, oe, vs, e1, ?_, e3, e4⟩
      rw [Heap.get?_update_other _ _ (fun z => ?_)]
      · exact e2
      · rw [← z, ho] at e2
        cases e2
        rw [hd] at e3
        cases e3
        simp at e4
  refine stop_quiet q2 fun h' e k ho => ⟨e, rfl, ho, h', fun b o hb z => k b o ?_, rfl⟩
  rw [Heap.get?_update_other _ _ (Ne.symm hb)]
  exact z
theorem rise_t {it l : Addr} {i : Nat} {o ol : Obj} {items : Array Value} {n : Nat} (q : Quiet A s.heap) (ho : s.heap.get? it = some o) (hd : o.data = .fields #[.ref l, .int i 0]) (hol : s.heap.get? l = some ol) (hdl : ol.data = .seq items n) (hx : items[i]? = none) :
    wpAny (model prog w) A.in1 (Builtin.«tuple_iterator.__next__» ⟨[.ref it], []⟩) (fun _ _ => False) (EndsAt it s) s := by
  refine wpAny_bind (m := field (.ref it) 0) (wpAny_field ho hd (x := .ref l) rfl ?_)
  dsimp only
  rw [if_neg (show ¬ ((Value.ref l == Value.none) = true) from Bool.false_ne_true)]
  refine wpAny_bind (m := field (.ref it) 1) (wpAny_field ho hd (x := .int i 0) rfl ?_)
  refine wpAny_bind (m := seqItems? (.ref l)) (wpAny_seqItems hol hdl ?_)
  simp only [Int.toNat_natCast, hx]
  refine wpAny_bind (wpAny_rule (wpAny_bind (wpAny_setField ho hd (by simp) ?_)))
  have q2 : Quiet A.in1 (s.heap.update it (Obj.mapFields (·.setIfInBounds 0 Value.none))) := by
    rcases q with q | ⟨ea, oe, vs, e1, e2, e3, e4⟩
    · exact .inl q
    · refine .inr ⟨ea, oe, vs, e1, ?_, e3, e4⟩
      rw [Heap.get?_update_other _ _ (fun z => ?_)]
      · exact e2
      · rw [← z, ho] at e2
        cases e2
        rw [hd] at e3
        cases e3
        simp at e4
  refine stop_quiet q2 fun h' e k ho => ⟨e, rfl, ho, h', fun b o hb z => k b o ?_, rfl⟩
  rw [Heap.get?_update_other _ _ (Ne.symm hb)]
  exact z
theorem list_end {it l : Addr} {i : Nat} {items} {Q : Option Value → Shared → Prop} (q : Quiet A s.heap) (hit : s.heap.IsListIter it l i) (hl : s.heap.IsList l items) (hx : items[i]? = none)
    (hQ : ∀ h', Heap.ExtBut it s.heap h' → Q none { s with heap := h' }) : wpAny (model prog w) A (pyNext (.ref it)) Q E s := by
  obtain ⟨o, ho, hc, hd⟩ := id hit
  obtain ⟨ol, hol, _, nl, hdl⟩ := hl
  exact end_of hit.typeIs slot_listiter_next entry_listiter_next (args_listiter_next _) (rise_l q ho hd hol hdl hx) hQ
theorem tuple_end {it l : Addr} {i : Nat} {items} {Q : Option Value → Shared → Prop} (q : Quiet A s.heap) (hit : s.heap.IsTupleIter it l i) (hl : s.heap.IsTuple l items) (hx : items[i]? = none)
    (hQ : ∀ h', Heap.ExtBut it s.heap h' → Q none { s with heap := h' }) : wpAny (model prog w) A (pyNext (.ref it)) Q E s := by
  obtain ⟨o, ho, hc, hd⟩ := id hit
  obtain ⟨ol, hol, _, nl, hdl⟩ := hl
  exact end_of hit.typeIs F.slot_tuple_iterator_next F.entry_tuple_iterator_next (F.args_tuple_iterator_next_1 _) (rise_t q ho hd hol hdl hx) hQ
end
end DQ


end
section
set_option Elab.async false
set_option linter.all false
set_option maxRecDepth 100000
namespace L2
open PySem PySem.Spec PyProof.Rows

noncomputable abbrev Key := Sum Int Str
noncomputable def keyIs : Key → Value → Bool
  | .inl k, v => Value.isInt k v
  | .inr x, v => Value.isStrOf x v
noncomputable def keyH (w : World) : Key → Int
  | .inl k => hashInt k
  | .inr x => hashStr w x
theorem keyIs_shape : ∀ {k : Key} {v : Value}, keyIs k v = true → (∃ i t, k = Sum.inl i ∧ v = Value.int i t) ∨ (∃ x t, k = Sum.inr x ∧ v = Value.str x t)
  | .inl i, v, h => by
    obtain ⟨t, e⟩ := Value.isInt_shape (k := i) (v := v) h
    exact .inl ⟨i, t, rfl, e⟩
  | .inr x, v, h => by
    obtain ⟨t, e⟩ := Value.isStrOf_shape (x := x) (v := v) h
    exact .inr ⟨x, t, rfl, e⟩
theorem keyIs_int (i : Int) (t : Tok) : keyIs (.inl i) (.int i t) = true := by simp [keyIs, Value.isInt]
theorem keyIs_str (x : Str) (t : Tok) : keyIs (.inr x) (.str x t) = true := by simp [keyIs, Value.isStrOf]
theorem key_ll (a b : Int) : decide ((Sum.inl a : Key) = Sum.inl b) = (a == b) := by
  by_cases e : a = b
  · subst e; simp
  · have h : ¬ (Sum.inl a : Key) = Sum.inl b := fun q => e (Sum.inl.inj q)
    rw [decide_eq_false h]
    exact (beq_eq_false_iff_ne.mpr e).symm
theorem key_rr (a b : Str) : decide ((Sum.inr a : Key) = Sum.inr b) = decide (a = b) := by
  by_cases e : a = b
  · subst e; simp
  · have h : ¬ (Sum.inr a : Key) = Sum.inr b := fun q => e (Sum.inr.inj q)
    rw [decide_eq_false h, decide_eq_false e]
theorem key_lr (a : Int) (b : Str) : decide ((Sum.inl a : Key) = Sum.inr b) = false := decide_eq_false (fun q => nomatch q)
theorem key_rl (a : Str) (b : Int) : decide ((Sum.inr a : Key) = Sum.inl b) = false := decide_eq_false (fun q => nomatch q)

noncomputable def mixKind (prog : Program) (w : World) : PySem.KeyKind prog w Key where
  is := keyIs
  hash := keyH w
  inj := fun v a b ha hb => by
    rcases keyIs_shape ha with ⟨i, t, rfl, rfl⟩ | ⟨x, t, rfl, rfl⟩
    · rcases keyIs_shape hb with ⟨j, u, rfl, e⟩ | ⟨y, u, rfl, e⟩
      · injection e with e1 _; rw [e1]
      · exact nomatch e
    · rcases keyIs_shape hb with ⟨j, u, rfl, e⟩ | ⟨y, u, rfl, e⟩
      · exact nomatch e
      · injection e with e1 _; rw [e1]
  byValue := fun k v h => by
    rcases keyIs_shape h with ⟨i, t, rfl, rfl⟩ | ⟨x, t, rfl, rfl⟩ <;> rfl
  pyHash := fun hv h => by
    rcases keyIs_shape hv with ⟨i, t, rfl, rfl⟩ | ⟨x, t, rfl, rfl⟩
    · exact wpAny_pyHash_int h
    · exact wpAny_pyHash_str h
  eqBool := fun hu hv h => by
    rcases keyIs_shape hu with ⟨i, t, rfl, rfl⟩ | ⟨x, t, rfl, rfl⟩
    · rcases keyIs_shape hv with ⟨j, u, rfl, rfl⟩ | ⟨y, u, rfl, rfl⟩
      · rw [key_ll] at h; exact wpAny_eqBool_int h
      · rw [key_lr] at h; exact SeqAt.EqAt.int_str i t y u _ _ _ _ h
    · rcases keyIs_shape hv with ⟨j, u, rfl, rfl⟩ | ⟨y, u, rfl, rfl⟩
      · rw [key_rl] at h; exact SeqAt.EqAt.str_int x t j u _ _ _ _ h
      · rw [key_rr] at h; exact wpAny_eqBool_str h
  «strs» := fun k x t v h => by
    rcases keyIs_shape h with ⟨i, u, rfl, e⟩ | ⟨y, u, rfl, e⟩
    · exact nomatch e
    · injection e with e1 _
      subst e1
      cases v <;> rfl

theorem mixKind_int (prog : Program) (w : World) (i : Int) (t : Tok) : (mixKind prog w).is (.inl i) (.int i t) = true := keyIs_int i t
theorem mixKind_str (prog : Program) (w : World) (x : Str) (t : Tok) : (mixKind prog w).is (.inr x) (.str x t) = true := keyIs_str x t
end L2

namespace L2
open PySem PySem.Spec PyProof.Rows

inductive V where
  | non | bl (b : Bool) | int (i : Int) | str (x : Str) | byt (b : Array UInt8) | flt (b : UInt64) | ref (a : Addr) | ty (n : String)
  deriving DecidableEq

noncomputable def RelV : V → Value → Prop
  | .non, u => u = Value.none
  | .bl b, u => u = Value.bool b
  | .int i, u => ∃ t, u = Value.int i t
  | .str x, u => ∃ t, u = Value.str x t
  | .byt b, u => ∃ t, u = Value.bytes b t
  | .flt b, u => ∃ t, u = Value.float b t
  | .ref a, u => u = Value.ref a
  | .ty n, u => u = Value.type n

noncomputable abbrev Vals : List V → List Value → Prop := Paired RelV
theorem Vals.length {xs : List V} {us : List Value} (r : Vals xs us) : xs.length = us.length := Paired.length r
theorem Vals.get : ∀ {xs : List V} {us : List Value} {i : Nat} {x : V}, Vals xs us → xs[i]? = some x → ∃ u, us[i]? = some u ∧ RelV x u
  | _, _, _, _, .nil, e => by simp at e
  | _, _, 0, _, .cons r _, e => by simp at e; subst e; exact ⟨_, rfl, r⟩
  | _, _, i + 1, x, .cons _ t, e => by
    obtain ⟨u, h1, h2⟩ := Vals.get (i := i) (x := x) t (by simpa using e)
    exact ⟨u, by simpa using h1, h2⟩
theorem Vals.set {x : V} {u : Value} (r : RelV x u) : ∀ {xs : List V} {us : List Value} (i : Nat), Vals xs us → Vals (xs.set i x) (us.set i u)
  | _, _, _, .nil => .nil
  | _, _, 0, .cons _ t => .cons r t
  | _, _, i + 1, .cons q t => .cons q (Vals.set r i t)
theorem Vals.append : ∀ {xs ys : List V} {us ws : List Value}, Vals xs us → Vals ys ws → Vals (xs ++ ys) (us ++ ws)
  | _, _, _, _, .nil, s => s
  | _, _, _, _, .cons r t, s => .cons r (Vals.append t s)
theorem Vals.take : ∀ {xs : List V} {us : List Value} (n : Nat), Vals xs us → Vals (xs.take n) (us.take n)
  | _, _, 0, _ => .nil
  | _, _, _ + 1, .nil => .nil
  | _, _, n + 1, .cons r t => .cons r (Vals.take n t)
theorem Vals.drop : ∀ {xs : List V} {us : List Value} (n : Nat), Vals xs us → Vals (xs.drop n) (us.drop n)
  | _, _, 0, r => r
  | _, _, _ + 1, .nil => .nil
  | _, _, n + 1, .cons _ t => Vals.drop n t
noncomputable def RelO : Option V → Option Value → Prop
  | some v, some u => RelV v u
  | none, none => True
  | _, _ => False
noncomputable def KV {κ : Type} : List (κ × V) → List (κ × Value) → Prop := Paired fun (p : κ × V) (q : κ × Value) => p.1 = q.1 ∧ RelV p.2 q.2

noncomputable def kV : Key → V
  | .inl i => .int i
  | .inr x => .str x

inductive HO where
  /-- a list -/
  | lst (xs : List V)
  /-- a tuple (never changes) -/
  | tup (xs : List V)
  /-- a dict whose keys are ints and texts; one whose keys are tuples of ints and texts (the empty one is both) -/
  | dK (kvs : List (Key × V)) | dT (kvs : List (List Key × V))
  /-- a set of ints: its members, its size -/
  | set (S : Int → Bool) (n : Nat)
  /-- an instance of the class at C, its dict at dx, its attributes -/
  | ins (C dx : Addr) (fs : List (Str × V))
  /-- the dict of the instance at x -/
  | own (x : Addr)
  /-- the dict of an exception -/
  | xd (fs : List (Str × V))
  /-- a bound method, f of x -/
  | met (f x : Addr)
  /-- a range object lo, lo + 1, .. below hi -/
  | rng (lo hi : Int)
  /-- a thing that is known to the object (the script; a dict while a loop walks it): read, never written while it is so -/
  | frz (o : Obj) (u : HO)
  /-- a code object's table -/
  | tbl (ps : Array Value)
  /-- any other thing, by what is true of its one object (a def of one's own: SetO a S n := HO.ext fun h => ..) -/
  | ext (φ : Heap → Prop)

noncomputable abbrev Hp := Addr → Option HO
noncomputable def upd (H : Hp) (a : Addr) (o : HO) : Hp := fun b => if b = a then some o else H b
theorem upd_same {H : Hp} {a : Addr} {o : HO} : upd H a o a = some o := by unfold upd; rw [if_pos rfl]
theorem upd_ne {H : Hp} {a b : Addr} {o : HO} (h : b ≠ a) : upd H a o b = H b := by unfold upd; rw [if_neg h]
theorem ne_of {H : Hp} {a b : Addr} {o u : HO} (h : H a = some o) (h' : H b = some u) (d : o ≠ u) : a ≠ b := by
  intro e; subst e; rw [h] at h'; exact d (Option.some.inj h')
theorem ne_of_none {H : Hp} {a b : Addr} {o : HO} (h : H a = some o) (h' : H b = none) : a ≠ b := by
  intro e; subst e; rw [h] at h'; cases h'

section
variable (P : Program) (w : World)
noncomputable def ObjOk (H : Hp) (h : Heap) (a : Addr) : HO → Prop
  | .lst xs => xs.length ≤ sizeLine ∧ ∃ (its : List Value) (n : Nat), Vals xs its ∧ h.get? a = some { cls := .type "list", data := .seq its.toArray n }
  | .tup xs => xs.length ≤ sizeLine ∧ ∃ its : List Value, Vals xs its ∧ IsTup h a its.toArray
  | .dK kvs => kvs.length ≤ sizeLine ∧ (a == sysModules) = false ∧ ∃ vs, KV kvs vs ∧ h.DictOf (mixKind P w) a vs
  | .dT kvs => kvs.length ≤ sizeLine ∧ (a == sysModules) = false ∧ ∃ xs : List (List Key × Addr × Value),
      Paired (fun (p : List Key × V) (q : List Key × Addr × Value) => p.1 = q.1 ∧ H q.2.1 = some (.tup (p.1.map kV)) ∧ RelV p.2 q.2.2) kvs xs ∧
      ∃ o es ep, h.get? a = some o ∧ o.ExactDict ∧ o.data = .dict es ep ∧ es.toList = xs.map (entryOfKey (tupleKind (mixKind P w))) ∧ (xs.map (·.1)).Nodup
  | .set S n => h.SetOf (intKind P w) a S n
  | .ins C dx fs => H dx = some (.own a) ∧ fs.length ≤ 1000 ∧ dx ≠ a ∧ h.get? a = some (PySem.W.instObj C dx) ∧
      ∃ mA, h.Ns1 dx mA ∧ (∀ f, RelO (fs.lookup f) (mA f)) ∧ PySem.Within mA (fs.map (·.1))
  | .own _ => ∃ o, h.get? a = some o
  | .xd fs => ∃ mA, h.Ns1 a mA ∧ ∀ f, RelO (fs.lookup f) (mA f)
  | .rng lo hi => ∃ t u v, h.get? a = some { cls := .type "range", data := .fields #[.int lo t, .int hi u, .int 1 v] }
  | .frz o u => h.get? a = some o ∧ ObjOk H h a u
  | .tbl ps => h.get? a = some { cls := .none, data := .fields ps }
  | .met f x => h.get? a = some (PySem.W.methodObj (.ref f) (.ref x))
  | .ext φ => φ h ∧ (∃ o, h.get? a = some o) ∧ ∀ h1 h2 : Heap, φ h1 → (∀ o, h1.get? a = some o → h2.get? a = some o) → φ h2
noncomputable def HOk (H : Hp) (h : Heap) : Prop := ∀ a o, H a = some o → ObjOk P w H h a o
end

section
variable {P : Program} {w : World} {H H' : Hp} {h h' : Heap} {a : Addr} {o : HO}
theorem ObjOk.lt (x : ObjOk P w H h a o) : a < h.objs.size := by
  cases o with
  | lst xs => obtain ⟨_, _, _, _, e⟩ := x; exact Heap.lt_size e
  | tup xs => obtain ⟨_, _, _, p⟩ := x; exact p.lt
  | dK kvs => obtain ⟨_, _, _, _, o, _, _, e, _⟩ := x; exact Heap.lt_size e
  | dT kvs => obtain ⟨_, _, _, _, o, _, _, e, _⟩ := x; exact Heap.lt_size e
  | set S n => obtain ⟨o, _, _, _, e, _⟩ := x; exact Heap.lt_size e
  | ins C dx fs => obtain ⟨_, _, _, e, _⟩ := x; exact Heap.lt_size e
  | own y => obtain ⟨_, e⟩ := x; exact Heap.lt_size e
  | xd fs => obtain ⟨_, ⟨_, _, _, e, _⟩, _⟩ := x; exact Heap.lt_size e
  | rng lo hi => obtain ⟨_, _, _, e⟩ := x; exact Heap.lt_size e
  | frz ob u => obtain ⟨e, _⟩ := x; exact Heap.lt_size e
  | tbl ps => exact Heap.lt_size (show h.get? a = some _ from x)
  | met f y => exact Heap.lt_size (show h.get? a = some _ from x)
  | ext φ => obtain ⟨_, ⟨_, e⟩, _⟩ := x; exact Heap.lt_size e
theorem Paired.mapP {α β : Type} {F G : α → β → Prop} : ∀ {l₁ : List α} {l₂ : List β}, Paired F l₁ l₂ → (∀ a b, F a b → G a b) → Paired G l₁ l₂
  | _, _, .nil, _ => .nil
  | _, _, .cons r t, f => .cons (f _ _ r) (Paired.mapP t f)
theorem ObjOk.stay (x : ObjOk P w H h a o) (k : ∀ b u, (b = a ∨ H b = some (.own a)) → h.get? b = some u → h'.get? b = some u)
    (ho : ∀ b, H b = some (.own a) → H' b = some (.own a)) (ht : ∀ b xs, H b = some (.tup xs) → H' b = some (.tup xs)) : ObjOk P w H' h' a o := by
  induction o with
  | lst xs => obtain ⟨z, its, n, r, e⟩ := x; exact ⟨z, its, n, r, k _ _ (.inl rfl) e⟩
  | tup xs => obtain ⟨z, its, r, ob, e, c⟩ := x; exact ⟨z, its, r, ob, k _ _ (.inl rfl) e, c⟩
  | dK kvs => obtain ⟨z, y, vs, r, ob, es, ep, e, c⟩ := x; exact ⟨z, y, vs, r, ob, es, ep, k _ _ (.inl rfl) e, c⟩
  | dT kvs =>
    obtain ⟨z, y, xs, r, ob, es, ep, e, c⟩ := x
    exact ⟨z, y, xs, Paired.mapP r fun p q z => ⟨z.1, ht _ _ z.2.1, z.2.2⟩, ob, es, ep, k _ _ (.inl rfl) e, c⟩
  | set S n => obtain ⟨ob, es, ep, t, e, c⟩ := x; exact ⟨ob, es, ep, t, k _ _ (.inl rfl) e, c⟩
  | ins C dx fs =>
    obtain ⟨d, z, ne, e, mA, ⟨od, es, ep, e2, c⟩, r⟩ := x
    exact ⟨ho _ d, z, ne, k _ _ (.inl rfl) e, mA, ⟨od, es, ep, k _ _ (.inr d) e2, c⟩, r⟩
  | own y => obtain ⟨ob, e⟩ := x; exact ⟨ob, k _ _ (.inl rfl) e⟩
  | xd fs => obtain ⟨mA, ⟨od, es, ep, e, c⟩, r⟩ := x; exact ⟨mA, ⟨od, es, ep, k _ _ (.inl rfl) e, c⟩, r⟩
  | rng lo hi => obtain ⟨t, u, v, e⟩ := x; exact ⟨t, u, v, k _ _ (.inl rfl) e⟩
  | frz ob u ih => obtain ⟨e, q⟩ := x; exact ⟨k _ _ (.inl rfl) e, ih q⟩
  | tbl ps =>
    have e : h.get? a = some { cls := .none, data := .fields ps } := x
    show h'.get? a = some { cls := .none, data := .fields ps }
    exact k a _ (.inl rfl) e
  | met f y =>
    have e : h.get? a = some (PySem.W.methodObj (.ref f) (.ref y)) := x
    show h'.get? a = some (PySem.W.methodObj (.ref f) (.ref y))
    exact k a _ (.inl rfl) e
  | ext φ => obtain ⟨p, ⟨o, e⟩, st⟩ := x; exact ⟨st _ _ p fun o q => k _ _ (.inl rfl) q, ⟨o, k _ _ (.inl rfl) e⟩, st⟩
theorem HOk.lt (x : HOk P w H h) (e : H a = some o) : a < h.objs.size := (x a o e).lt
theorem HOk.fresh (x : HOk P w H h) (e : h.objs.size ≤ a) : H a = none := by
  cases q : H a with
  | none => rfl
  | some u => exact absurd (Nat.lt_of_lt_of_le (x.lt q) e) (Nat.lt_irrefl _)
theorem HOk.kept (x : HOk P w H h) (k : ∀ b u, h.get? b = some u → h'.get? b = some u) : HOk P w H h' := fun a o e =>
  (x a o e).stay (fun b u _ q => k b u q) (fun _ q => q) fun _ _ q => q
theorem HOk.laid (x : HOk P w H h) (k : ∀ b u, h.get? b = some u → h'.get? b = some u) (hp : h.objs.size ≤ a) (new : ObjOk P w (upd H a o) h' a o) : HOk P w (upd H a o) h' := fun b u e => by
  have hn := x.fresh hp
  by_cases hb : b = a
  · subst hb; rw [upd_same] at e; cases e; exact new
  · rw [upd_ne hb] at e
    exact (x b u e).stay (fun c v _ q => k c v q) (fun c q => by rw [upd_ne (ne_of_none q hn)]; exact q) fun c xs q => by rw [upd_ne (ne_of_none q hn)]; exact q
end

noncomputable def Rd (H : Hp) (a : Addr) (u : HO) : Prop := H a = some u ∨ ∃ o, H a = some (.frz o u)
theorem Rd.ok {P : Program} {w : World} {H : Hp} {h : Heap} {a : Addr} {u : HO} (r : Rd H a u) (x : HOk P w H h) : ObjOk P w H h a u := by
  rcases r with r | ⟨o, r⟩
  · exact x a u r
  · obtain ⟨_, q⟩ := x a _ r
    exact q
noncomputable def Mut : Option HO → Prop
  | some (.lst _) => True
  | some (.dK _) => True
  | some (.dT _) => True
  | some (.set _ _) => True
  | some (.ins _ _ _) => True
  | some (.ext _) => True
  | _ => False
section
variable {P : Program} {w : World} {H : Hp} {h h' : Heap} {x e : Addr} {o' : HO}
theorem HOk.write (ok : HOk P w H h) (mu : Mut (H x)) (he : e = x ∨ H e = some (.own x)) (k : ∀ b u, b ≠ e → h.get? b = some u → h'.get? b = some u) (heo : ∃ u, h'.get? e = some u)
    (new : ObjOk P w (upd H x o') h' x o') : HOk P w (upd H x o') h' := fun b u q => by
  have nown : ∀ c y, H c = some (.own y) → c ≠ x := fun c y r z => by subst z; rw [r] at mu; exact mu
  have ntup : ∀ c xs, H c = some (.tup xs) → c ≠ x := fun c xs r z => by subst z; rw [r] at mu; exact mu
  by_cases hb : b = x
  · subst hb; rw [upd_same] at q; cases q; exact new
  · rw [upd_ne hb] at q
    by_cases hbe : b = e
    · have q' : H b = some (.own x) := by
        rcases he with z | z
        · exact absurd (hbe.trans z) hb
        · rw [hbe]; exact z
      rw [q] at q'; cases q'
      obtain ⟨v, hv⟩ := heo
      exact ⟨v, by rw [hbe]; exact hv⟩
    · refine (ok b u q).stay (fun c v hc r => k c v ?_ r) (fun c r => by rw [upd_ne (nown c b r)]; exact r) fun c xs r => by rw [upd_ne (ntup c xs r)]; exact r
      rcases hc with rfl | hc
      · exact hbe
      · rintro rfl
        rcases he with z | z
        · exact nown c b hc z
        · rw [hc] at z; cases z; exact hb rfl
end

structure Un (fs ex : List Addr) (H H' : Hp) (h h' : Heap) : Prop where
  keep : ∀ b o, h.get? b = some o → H b = none → b ∉ fs → b ∉ ex → h'.get? b = some o
  slot : ∀ b o, h.get? b = some o → H b = none → b ∈ fs → b ∉ ex → ∃ sl, h'.get? b = some { o with slots := sl }
  free : ∀ b o, h.get? b = some o → H b = none → b ∉ ex → H' b = none
  there : ∀ b o, h.get? b = some o → b ∉ ex → ∃ o', h'.get? b = some o'
  tups : ∀ b xs, H b = some (.tup xs) → H' b = some (.tup xs)
  frzs : ∀ b o u, H b = some (.frz o u) → H' b = some (.frz o u)
  tbls : ∀ b ps, H b = some (.tbl ps) → ∃ more, H' b = some (.tbl (ps ++ more))
section
variable {fs fs' ex ex' : List Addr} {H H1 H2 : Hp} {h h1 h2 h' : Heap} {a x e : Addr} {o : HO}
theorem Un.any (u : Un fs ex H H1 h h1) {b : Addr} {ob : Obj} (q : h.get? b = some ob) (n : H b = none) (hx : b ∉ ex) : ∃ sl, h1.get? b = some { ob with slots := sl } := by
  by_cases hb : b ∈ fs
  · exact u.slot b ob q n hb hx
  · exact ⟨ob.slots, u.keep b ob q n hb hx⟩
theorem Un.kept (k : ∀ b u, h.get? b = some u → h'.get? b = some u) : Un fs ex H H h h' :=
  ⟨fun b ob q _ _ _ => k b ob q, fun b ob q _ _ _ => ⟨ob.slots, k b ob q⟩, fun _ _ _ n _ => n, fun b ob q _ => ⟨ob, k b ob q⟩, fun _ _ q => q, fun _ _ _ q => q, fun _ ps q => ⟨#[], by rw [q]; simp⟩⟩
theorem Un.refl : Un fs ex H H h h := Un.kept fun _ _ q => q
theorem Un.laid (k : ∀ b u, h.get? b = some u → h'.get? b = some u) (hp : h.objs.size ≤ a) (hn : H a = none) : Un fs ex H (upd H a o) h h' where
  keep := fun b u q _ _ _ => k b u q
  slot := fun b u q _ _ _ => ⟨u.slots, k b u q⟩
  free := fun b u q n _ => by rw [upd_ne (Nat.ne_of_lt (Nat.lt_of_lt_of_le (Heap.lt_size q) hp))]; exact n
  there := fun b u q _ => ⟨u, k b u q⟩
  tups := fun b xs q => by rw [upd_ne (ne_of_none q hn)]; exact q
  frzs := fun b u xs q => by rw [upd_ne (ne_of_none q hn)]; exact q
  tbls := fun b ps q => ⟨#[], by rw [upd_ne (ne_of_none q hn), q]; simp⟩
theorem Un.write (mu : Mut (H x)) (he : e = x ∨ H e = some (.own x)) (k : ∀ b u, b ≠ e → h.get? b = some u → h'.get? b = some u) (heo : ∃ u, h'.get? e = some u) : Un fs ex H (upd H x o) h h' := by
  have hx : ∀ b, H b = none → b ≠ x := fun b n z => by subst z; rw [n] at mu; exact mu
  have hb : ∀ b, H b = none → b ≠ e := fun b n z => by
    subst z
    rcases he with r | r
    · exact hx b n r
    · rw [n] at r; cases r
  have hm : ∀ b u, H b = some u → ¬ Mut (some u) → b ≠ x := fun b u q nm z => by subst z; rw [q] at mu; exact nm mu
  refine ⟨fun b u q n _ _ => k b u (hb b n) q, fun b u q n _ _ => ⟨u.slots, k b u (hb b n) q⟩, fun b u q n _ => by rw [upd_ne (hx b n)]; exact n, fun b u q _ => ?_,
    fun b xs q => by rw [upd_ne (hm b _ q fun z => z)]; exact q, fun b u xs q => by rw [upd_ne (hm b _ q fun z => z)]; exact q, fun b ps q => ⟨#[], by rw [upd_ne (hm b _ q fun z => z), q]; simp⟩⟩
  by_cases hbe : b = e
  · subst hbe; exact heo
  · exact ⟨u, k b u hbe q⟩
end

noncomputable def trk (h : Heap) (H : Hp) : List Addr := (List.range h.objs.size).filter fun a => (H a).isSome
noncomputable def hidT (h : Heap) (H : Hp) : Heap := PySem.W.hideAll h (trk h H)
theorem hidT_size (h : Heap) (H : Hp) : (hidT h H).objs.size = h.objs.size := PySem.W.hideAll_size _ _
theorem hidT_get {h : Heap} {H : Hp} {b : Addr} {o : Obj} (e : h.get? b = some o) (n : H b = none) : (hidT h H).get? b = some o :=
  PySem.W.hideAll_get _ e fun hm => by
    have q : (H b).isSome = true := (List.mem_filter.mp hm).2
    rw [n] at q; simp at q
theorem of_hidT {h : Heap} {H : Hp} {b : Addr} {o : Obj} (e : (hidT h H).get? b = some o) : h.get? b = some o ∧ H b = none := by
  have e' : h.get? b = some o := PySem.W.of_hideAll (trk h H) e
  refine ⟨e', ?_⟩
  cases q : H b with
  | none => rfl
  | some x =>
    have hm : b ∈ trk h H := List.mem_filter.mpr ⟨List.mem_range.mpr (Heap.lt_size e'), by simp [q]⟩
    have z : (hidT h H).get? b = none := PySem.W.hideAll_none (trk h H) hm
    rw [z] at e; cases e

end L2

namespace L2
open PySem PySem.Spec PyProof.Rows

structure Mod (K : PySem.W.Frag) (mg : Str → Option Value) (base : Heap) : Prop where
  kin : K.In base
  glob : base.Ns mainGlobals mg
  blt : ∃ mb, base.Ns builtinsNs mb ∧ ∀ x : Str, x ≠ "__name__" → mb x = bootBuiltins x
  nolimit : base.NoLimit

structure Cx where
  prog : Program
  w : World
  K : PySem.W.Frag
  mg : Str → Option Value
  base : Heap
  A : Around
  N : List Str
  s₀ : Shared
  H₀ : Hp
  env : Env
  outer : List Env
  stack : List Env
  ex : List Addr
  fn : Str → Bool
  calm : Bool
  pn : List (Addr × Obj)
  xe : Value → Shared → Prop
noncomputable def frs (l : List Env) : List Addr := l.filterMap (·.frame)
noncomputable abbrev Cx.fs (X : Cx) : List Addr := frs X.outer

noncomputable def Vis (sc : Scope) (x : Str) : Prop := sc.names.lookup x = some .local ∨ sc.names.lookup x = some .cell ∨ sc.names.lookup x = some .free
noncomputable def Loc (sc : Scope) (x : Str) : Prop := sc.names.lookup x = some .local ∨ sc.names.lookup x = some .cell
noncomputable def Look (env : Env) (h : Heap) (m : Str → Option Value) (x : Str) (u : Value) : Prop :=
  (env.kindOf x = some .local ∧ m x = some u) ∨ ((env.kindOf x = some .cell ∨ env.kindOf x = some .free) ∧ ∃ c, env.cells.lookup x = some c ∧ h.IsCell c (some u))

structure Cx.Ok (X : Cx) : Prop where
  mod : Mod X.K X.mg X.base
  kind : X.env.scope.kind = .function
  glob : X.env.globals = mainGlobals
  blt : X.env.builtins = builtinsNs
  above : X.s₀.heap.objs.size ≤ X.env.locals
  inj : ∀ x y c, X.env.cells.lookup x = some c → X.env.cells.lookup y = some c → x = y
  has : ∀ x, (X.env.kindOf x = some .cell ∨ X.env.kindOf x = some .free) → ∃ c, X.env.cells.lookup x = some c
  cab : ∀ x c, X.fn x = true → X.env.cells.lookup x = some c → X.s₀.heap.objs.size ≤ c
  hd : X.calm = true → X.A.handled = none
  frames : X.A.frames = some X.stack
  stk : X.stack = X.outer ∨ (X.stack = X.env :: X.outer ∧ X.env.frame = some X.env.locals)
  exf : ∀ b ∈ X.ex, b ≠ X.env.locals ∧ ∀ x c, X.env.cells.lookup x = some c → c ≠ b
  bs : ∀ b o, X.base.get? b = some o → X.s₀.heap.get? b = some o ∧ X.H₀ b = none
  bsz : X.base.objs.size ≤ X.s₀.heap.objs.size
  noex : ∀ b o, X.base.get? b = some o → b ∉ X.ex
  exfs : ∀ b ∈ X.ex, b ∉ X.fs
  funs : X.s₀.heap.FunFrames X.base X.outer
  frf : ∀ b ∈ X.fs, X.H₀ b = none

noncomputable def Qd (A : Around) (H : Hp) : Prop := A.handled = none ∨ ∃ ea oe u vs, A.handled = some (.ref ea) ∧ H ea = some (.frz oe u) ∧ oe.data = .fields vs ∧ vs[2]? = some .none
theorem Qd.mono {A : Around} {H H' : Hp} (q : Qd A H) (k : ∀ b o u, H b = some (.frz o u) → H' b = some (.frz o u)) : Qd A H' := by
  rcases q with q | ⟨ea, oe, u, vs, e1, e2, e3, e4⟩
  · exact .inl q
  · exact .inr ⟨ea, oe, u, vs, e1, k _ _ _ e2, e3, e4⟩
structure Inv (X : Cx) (pins : List (Addr × Obj)) (σ : List (Option V)) (H : Hp) (s : Shared) : Prop where
  ok : X.Ok
  os : s.os = X.s₀.os
  bare : AllBare s.gens
  base : Un X.fs X.ex X.H₀ H X.s₀.heap s.heap
  loc : ∃ m, s.heap.Ns X.env.locals m ∧ ∀ (i : Nat) (x : Str) (v : V), X.N[i]? = some x → σ[i]? = some (some v) → Vis X.env.scope x → ∃ u, RelV v u ∧ Look X.env s.heap m x u
  cell : ∀ x c, X.env.cells.lookup x = some c → ∃ v, s.heap.IsCell c v
  free : H X.env.locals = none
  freeC : ∀ x c, X.env.cells.lookup x = some c → H c = none
  pin : ∀ p ∈ X.pn ++ pins, s.heap.get? p.1 = some p.2 ∧ H p.1 = none ∧ p.1 ≠ X.env.locals ∧ p.1 ∉ X.fs ∧ ∀ v, p.2.data ≠ .cell v
  hok : HOk X.prog X.w H s.heap
  len : σ.length = X.N.length
  qd : Qd X.A H

section
variable {X : Cx} {pins : List (Addr × Obj)} {σ : List (Option V)} {H H' : Hp} {s : Shared} {h' : Heap}

theorem Cx.Ok.nofr (ok : X.Ok) {b : Addr} {o : Obj} (e : X.base.get? b = some o) : b ∉ X.fs := fun hb => by
  have := (ok.funs.mem hb).1
  rw [e] at this; cases this
theorem Inv.bs (I : Inv X pins σ H s) : ∀ b o, X.base.get? b = some o → s.heap.get? b = some o ∧ H b = none := fun b o e =>
  ⟨I.base.keep b o (I.ok.bs b o e).1 (I.ok.bs b o e).2 (I.ok.nofr e) (I.ok.noex b o e), I.base.free b o (I.ok.bs b o e).1 (I.ok.bs b o e).2 (I.ok.noex b o e)⟩
theorem Inv.qh (I : Inv X pins σ H s) : DQ.Quiet X.A s.heap := by
  rcases I.qd with q | ⟨ea, oe, u, vs, e1, e2, e3, e4⟩
  · exact .inl q
  · exact .inr ⟨ea, oe, vs, e1, (I.hok _ _ e2).1, e3, e4⟩
theorem Inv.bk (I : Inv X pins σ H s) : ∀ b o, X.base.get? b = some o → s.heap.get? b = some o := fun b o e => (I.bs b o e).1
theorem Inv.mod (I : Inv X pins σ H s) : Mod X.K X.mg X.base := I.ok.mod
theorem Inv.kIn (I : Inv X pins σ H s) : X.K.In s.heap := I.ok.mod.kin.keeps I.bk
theorem Inv.lt (I : Inv X pins σ H s) : X.env.locals < s.heap.objs.size := let ⟨_, hn, _⟩ := I.loc; hn.lt
theorem Inv.sz (I : Inv X pins σ H s) : X.s₀.heap.objs.size ≤ s.heap.objs.size := Nat.le_trans I.ok.above (Nat.le_of_lt I.lt)
theorem Inv.nofs (I : Inv X pins σ H s) {a : Addr} (h : s.heap.objs.size ≤ a) : a ∉ X.fs := fun hb => by
  obtain ⟨_, o, ho, _⟩ := I.ok.funs.mem hb
  exact absurd (Nat.lt_of_lt_of_le (Heap.lt_size ho) (Nat.le_trans I.sz h)) (Nat.lt_irrefl _)
theorem Inv.cne (I : Inv X pins σ H s) : ∀ x c, X.env.cells.lookup x = some c → c ≠ X.env.locals := fun x c e z => by
  obtain ⟨v, o, ho, hd⟩ := I.cell x c e
  obtain ⟨m, ⟨o', es, ep, ho', hd', _⟩, _⟩ := I.loc
  rw [z, ho'] at ho; cases ho; rw [hd'] at hd; cases hd
theorem Inv.funs (I : Inv X pins σ H s) : s.heap.FunFrames X.base X.outer := by
  have all : ∀ (l : List Env), (∀ b ∈ frs l, b ∈ X.fs) → X.s₀.heap.FunFrames X.base l → s.heap.FunFrames X.base l := by
    intro l
    induction l with
    | nil => intro _ _; trivial
    | cons env r ih =>
      intro hs hl
      obtain ⟨hk, ⟨L, o, hf, hn, ho, hd⟩, hr⟩ := hl
      have hL : L ∈ X.fs := hs L (by unfold frs; rw [List.filterMap_cons, hf]; exact List.mem_cons_self)
      obtain ⟨sl, e⟩ := I.base.slot L o ho (I.ok.frf L hL) hL fun z => I.ok.exfs L z hL
      exact ⟨hk, ⟨L, _, hf, hn, e, hd⟩, ih (fun b hb => hs b (by unfold frs; rw [List.filterMap_cons, hf]; exact List.mem_cons_of_mem _ hb)) hr⟩
  exact all X.outer (fun _ hb => hb) I.ok.funs

theorem Inv.stack (I : Inv X pins σ H s) : s.heap.FunFrames X.base X.stack := by
  rcases I.ok.stk with e | ⟨e, hf⟩
  · rw [e]; exact I.funs
  · rw [e]
    obtain ⟨m, hn, _⟩ := I.loc
    refine .cons (by rw [I.ok.kind]; decide) hf hn ?_ I.funs
    exact Heap.get?_none_of_le (Nat.le_trans I.ok.bsz I.ok.above)
theorem Inv.stkSub (I : Inv X pins σ H s) : ∀ b ∈ frs X.stack, b ∈ X.env.locals :: X.fs := fun b hb => by
  rcases I.ok.stk with e | ⟨e, hf⟩
  · rw [e] at hb; exact List.mem_cons_of_mem _ hb
  · rw [e] at hb
    unfold frs at hb
    rw [List.filterMap_cons, hf] at hb
    exact hb
theorem Inv.stkFree (I : Inv X pins σ H s) : ∀ b ∈ frs X.stack, H b = none := fun b hb => by
  rcases List.mem_cons.mp (I.stkSub b hb) with e | hb
  · rw [e]; exact I.free
  · obtain ⟨_, o, ho, _⟩ := I.ok.funs.mem hb
    exact I.base.free b o ho (I.ok.frf b hb) fun z => I.ok.exfs b z hb

theorem Inv.step {g' : Array GenState} {t' : Nat} {d' : Drawn} {ch : List Addr} (I : Inv X pins σ H s)
    (hch : ∀ b ∈ ch, (b ∈ X.ex ∨ X.s₀.heap.objs.size ≤ b) ∧ b ≠ X.env.locals ∧ (∀ x c, X.env.cells.lookup x = some c → c ≠ b) ∧ ∀ p ∈ X.pn ++ pins, p.1 ≠ b)
    (keep : ∀ b o, b ≠ X.env.locals → b ∉ X.fs → b ∉ ch → s.heap.get? b = some o → H b = none → h'.get? b = some o)
    (slot : ∀ b o, b ≠ X.env.locals → b ∈ X.fs → b ∉ ch → s.heap.get? b = some o → H b = none → ∃ sl, h'.get? b = some { o with slots := sl }) (free : ∀ b o, b ∉ ch → s.heap.get? b = some o → H b = none → H' b = none)
    (there : ∀ b o, b ∉ ch → s.heap.get? b = some o → ∃ o', h'.get? b = some o')
    (tups : ∀ b xs, H b = some (.tup xs) → H' b = some (.tup xs)) (frzs : ∀ b o u, H b = some (.frz o u) → H' b = some (.frz o u)) (tbls : ∀ b ps, H b = some (.tbl ps) → ∃ more, H' b = some (.tbl (ps ++ more)))
    (ns : ∀ m, s.heap.Ns X.env.locals m → h'.Ns X.env.locals m) (hok : HOk X.prog X.w H' h') (hg : AllBare g') :
    Inv X pins σ H' { s with heap := h', gens := g', drawn := d', toks := t' } := by
  have neL : ∀ b o, X.s₀.heap.get? b = some o → b ≠ X.env.locals := fun b o e => Nat.ne_of_lt (Nat.lt_of_lt_of_le (Heap.lt_size e) I.ok.above)
  have neC : ∀ b o, X.s₀.heap.get? b = some o → b ∉ X.ex → b ∉ ch := fun b o e hx hb => by
    rcases (hch b hb).1 with z | z
    · exact hx z
    · exact absurd (Nat.lt_of_lt_of_le (Heap.lt_size e) z) (Nat.lt_irrefl _)
  have cellK : ∀ x c, X.env.cells.lookup x = some c → ∀ v, s.heap.IsCell c v → h'.IsCell c v := fun x c e v ⟨o, ho, hd⟩ => by
    have nch : c ∉ ch := fun z => (hch c z).2.2.1 x c e rfl
    by_cases hc : c ∈ X.fs
    · obtain ⟨sl, q⟩ := slot c o (I.cne x c e) hc nch ho (I.freeC x c e)
      exact ⟨_, q, hd⟩
    · exact ⟨o, keep c o (I.cne x c e) hc nch ho (I.freeC x c e), hd⟩
  refine ⟨I.ok, I.os, hg, ⟨fun b o e n hb hx => ?_, fun b o e n hb hx => ?_, fun b o e n hx => ?_, fun b o e hx => ?_, fun b xs e => tups b xs (I.base.tups b xs e), fun b o xs e => frzs b o xs (I.base.frzs b o xs e), fun b ps e => ?_⟩, ?_, fun x c e => ?_, ?_, fun x c e => ?_, fun p hp => ?_, hok, I.len, I.qd.mono frzs⟩
  · exact keep b o (neL b o e) hb (neC b o e hx) (I.base.keep b o e n hb hx) (I.base.free b o e n hx)
  · obtain ⟨sl, e1⟩ := I.base.slot b o e n hb hx
    obtain ⟨sl', e2⟩ := slot b _ (neL b o e) hb (neC b o e hx) e1 (I.base.free b o e n hx)
    exact ⟨sl', e2⟩
  · obtain ⟨o', e1⟩ := I.base.there b o e hx
    exact free b o' (neC b o e hx) e1 (I.base.free b o e n hx)
  · obtain ⟨o', e1⟩ := I.base.there b o e hx
    exact there b o' (neC b o e hx) e1
  · obtain ⟨m1, e1⟩ := I.base.tbls b ps e
    obtain ⟨m2, e2⟩ := tbls b _ e1
    exact ⟨m1 ++ m2, by rw [e2, Array.append_assoc]⟩
  · obtain ⟨m, hn, hl⟩ := I.loc
    refine ⟨m, ns m hn, fun i x v e1 e2 e3 => ?_⟩
    obtain ⟨u, r, l⟩ := hl i x v e1 e2 e3
    refine ⟨u, r, ?_⟩
    rcases l with l | ⟨k, c, e, z⟩
    · exact .inl l
    · exact .inr ⟨k, c, e, cellK x c e _ z⟩
  · obtain ⟨v, z⟩ := I.cell x c e
    exact ⟨v, cellK x c e v z⟩
  · obtain ⟨m, ⟨o, _, _, ho, _⟩, _⟩ := I.loc
    exact free _ o (fun z => (hch _ z).2.1 rfl) ho I.free
  · obtain ⟨v, o, ho, hd⟩ := I.cell x c e
    exact free c o (fun z => (hch c z).2.2.1 x c e rfl) ho (I.freeC x c e)
  · obtain ⟨e, n, ne, nf, d⟩ := I.pin p hp
    have nch : p.1 ∉ ch := fun z => (hch p.1 z).2.2.2 p hp rfl
    exact ⟨keep p.1 p.2 ne nf nch e n, free p.1 p.2 nch e n, ne, nf, d⟩
theorem Inv.un {t' : Nat} (I : Inv X pins σ H s) (u : Un X.fs [] H H' s.heap h') (hok : HOk X.prog X.w H' h') : Inv X pins σ H' { s with heap := h', toks := t' } := by
  obtain ⟨m, ⟨o, es, ep, ho, r⟩, _⟩ := id I.loc
  obtain ⟨sl, hL⟩ := u.any ho I.free (by simp)
  exact I.step (g' := s.gens) (d' := s.drawn) (ch := []) (fun _ z => nomatch z) (fun b o _ hb _ e n => u.keep b o e n hb (by simp)) (fun b o _ hb _ e n => u.slot b o e n hb (by simp)) (fun b o _ e n => u.free b o e n (by simp)) (fun b o _ e => u.there b o e (by simp)) u.tups u.frzs u.tbls (fun m' hm => by
    obtain ⟨o', es', ep', ho', r'⟩ := hm
    rw [ho] at ho'; cases ho'
    exact ⟨_, es', ep', hL, r'⟩) hok I.bare
theorem Inv.call {g' : Array GenState} {t' : Nat} {d' : Drawn} {ch : List Addr} (I : Inv X pins σ H s) (u : Un (frs X.stack) ch H H' s.heap h') (hok : HOk X.prog X.w H' h') (hg : AllBare g')
    (hch : ∀ b ∈ ch, (b ∈ X.ex ∨ X.s₀.heap.objs.size ≤ b) ∧ b ≠ X.env.locals ∧ (∀ x c, X.env.cells.lookup x = some c → c ≠ b) ∧ ∀ p ∈ X.pn ++ pins, p.1 ≠ b) :
    Inv X pins σ H' { s with heap := h', gens := g', drawn := d', toks := t' } := by
  obtain ⟨m, ⟨o, es, ep, ho, r⟩, _⟩ := id I.loc
  obtain ⟨sl, hL⟩ := u.any ho I.free fun z => (hch _ z).2.1 rfl
  exact I.step (ch := ch) hch (fun b o hL hb hc e n => u.keep b o e n (fun z => (List.mem_cons.mp (I.stkSub b z)).elim hL hb) hc) (fun b o _ _ hc e n => u.any e n hc) (fun b o hc e n => u.free b o e n hc) (fun b o hc e => u.there b o e hc) u.tups u.frzs u.tbls (fun m' hm => by
    obtain ⟨o', es', ep', ho', r'⟩ := hm
    rw [ho] at ho'; cases ho'
    exact ⟨_, es', ep', hL, r'⟩) hok hg
theorem Inv.turned {t' : Nat} {it : Addr} (I : Inv X pins σ H s) (k : ∀ b o, b ≠ it → s.heap.get? b = some o → h'.get? b = some o) (hn : H it = none) (hL : it ≠ X.env.locals)
    (h1 : it ∈ X.ex ∨ X.s₀.heap.objs.size ≤ it) (h2 : ∀ x c, X.env.cells.lookup x = some c → c ≠ it) (h3 : ∀ p ∈ X.pn ++ pins, p.1 ≠ it) : Inv X pins σ H { s with heap := h', toks := t' } := by
  have nit : ∀ b u, H b = some u → b ≠ it := fun b u e z => by rw [z, hn] at e; cases e
  refine I.step (g' := s.gens) (d' := s.drawn) (ch := [it]) (fun b hb => ?_) (fun b o _ _ hc e _ => k b o (fun z => hc (by simp [z])) e) (fun b o _ _ hc e _ => ⟨o.slots, k b o (fun z => hc (by simp [z])) e⟩) (fun _ _ _ _ n => n)
    (fun b o hc e => ⟨o, k b o (fun z => hc (by simp [z])) e⟩) (fun _ _ e => e) (fun _ _ _ e => e) (fun b ps e => ⟨#[], by rw [e]; simp⟩) (fun m hm => ?_) (fun b u e => ?_) I.bare
  · have e : b = it := by simpa using hb
    subst e
    exact ⟨h1, hL, h2, h3⟩
  · obtain ⟨o, es, ep, ho, r⟩ := hm
    exact ⟨o, es, ep, k _ o (Ne.symm hL) ho, r⟩
  · refine (I.hok b u e).stay (fun c v hc q => k c v ?_ q) (fun _ q => q) fun _ _ q => q
    rcases hc with z | z
    · rw [z]; exact nit b u e
    · exact nit c _ z
theorem Inv.tok (I : Inv X pins σ H s) (t : Nat) : Inv X pins σ H { s with toks := t } := I.un (h' := s.heap) (t' := t) Un.refl I.hok
theorem Inv.kept {t' : Nat} (I : Inv X pins σ H s) (k : ∀ b u, s.heap.get? b = some u → h'.get? b = some u) : Inv X pins σ H { s with heap := h', toks := t' } := I.un (Un.kept k) (I.hok.kept k)
theorem Inv.laid {a : Addr} {o : HO} {t' : Nat} (I : Inv X pins σ H s) (k : ∀ b u, s.heap.get? b = some u → h'.get? b = some u) (hp : s.heap.objs.size ≤ a) (new : ObjOk X.prog X.w (upd H a o) h' a o) :
    Inv X pins σ (upd H a o) { s with heap := h', toks := t' } := I.un (Un.laid k hp (I.hok.fresh hp)) (I.hok.laid k hp new)
theorem Inv.write {x e : Addr} {o : HO} {t' : Nat} (I : Inv X pins σ H s) (mu : Mut (H x)) (he : e = x ∨ H e = some (.own x)) (k : ∀ b u, b ≠ e → s.heap.get? b = some u → h'.get? b = some u) (heo : ∃ u, h'.get? e = some u)
    (new : ObjOk X.prog X.w (upd H x o) h' x o) : Inv X pins σ (upd H x o) { s with heap := h', toks := t' } := I.un (Un.write mu he k heo) (I.hok.write mu he k heo new)
theorem Inv.pins_of {pins' : List (Addr × Obj)} (I : Inv X pins σ H s) (h : ∀ p ∈ pins', s.heap.get? p.1 = some p.2 ∧ H p.1 = none ∧ p.1 ≠ X.env.locals ∧ p.1 ∉ X.fs ∧ ∀ v, p.2.data ≠ .cell v) : Inv X pins' σ H s :=
  ⟨I.ok, I.os, I.bare, I.base, I.loc, I.cell, I.free, I.freeC, fun p hp => (List.mem_append.mp hp).elim (fun z => I.pin p (List.mem_append_left _ z)) (h p), I.hok, I.len, I.qd⟩

theorem nodup_ix {N : List Str} (hN : N.Nodup) {i j : Nat} {x : Str} (a : N[i]? = some x) (b : N[j]? = some x) : i = j := by
  obtain ⟨h1, e1⟩ := List.getElem?_eq_some_iff.mp a
  obtain ⟨h2, e2⟩ := List.getElem?_eq_some_iff.mp b
  exact (List.getElem_inj hN).mp (e1.trans e2.symm)

theorem store_ok2 {M : Model} {A : Around} {E : Value → Shared → Prop} {i : Nat} {x : Str} {v : V} {u : Value} {Q : Unit → Shared → Prop} (I : Inv X pins σ H s) (hN : X.N.Nodup) (hi : X.N[i]? = some x) (hx : Loc X.env.scope x) (r : RelV v u)
    (h : ∀ s', Inv X pins (σ.set i (some v)) H s' → (∃ a, Heap.SameBut a s.heap s'.heap ∧ (a = X.env.locals ∨ X.env.cells.lookup x = some a)) → Q () s') (hf : X.fn x = true ∨ X.env.scope.names.lookup x = some .local := by first | exact .inl rfl | exact .inr rfl | assumption) : wpAny M A (storeName X.env x u) Q E s := by
  obtain ⟨m, hn, hl⟩ := id I.loc
  have hcls : (X.env.scope.kind == .class || (X.env.scope.kind == .module && X.env.locals != X.env.globals)) = false := by rw [I.ok.kind]; rfl
  have hiσ : i < σ.length := by rw [I.len]; exact (List.getElem?_eq_some_iff.mp hi).1
  have cne := I.cne
  have tracked : ∀ {a : Addr} {h' : Heap}, (∃ o, s.heap.get? a = some o ∧ H a = none) → Heap.SameBut a s.heap h' → HOk X.prog X.w H h' := fun {a h'} ha hs b ob e => by
    obtain ⟨_, _, hfree⟩ := ha
    refine (I.hok b ob e).stay (fun c w' hc q => (hs.2 c ?_).trans q) (fun _ q => q) fun _ _ q => q
    rintro rfl
    rcases hc with rfl | hc
    · rw [hfree] at e; cases e
    · rw [hfree] at hc; cases hc
  rcases hx with hk | hk
  · refine wpAny_storeName_local hk hn (fun h' hn' hs => ?_) hcls
    obtain ⟨oL, _, _, hoL, _⟩ := id hn
    refine h _ ⟨I.ok, I.os, I.bare, ⟨fun b o e n hb hx => ?_, fun b o e n hb hx => ?_, I.base.free, fun b o e hx => ?_, I.base.tups, I.base.frzs, I.base.tbls⟩, ⟨_, hn', fun j y v' e1 e2 e3 => ?_⟩, fun y c e => ?_, I.free, I.freeC, fun p hp => ?_, tracked ⟨oL, hoL, I.free⟩ hs, by simpa using I.len, I.qd⟩ ⟨_, hs, .inl rfl⟩
    · exact (hs.2 b (Nat.ne_of_lt (Nat.lt_of_lt_of_le (Heap.lt_size e) I.ok.above))).trans (I.base.keep b o e n hb hx)
    · obtain ⟨sl, e1⟩ := I.base.slot b o e n hb hx
      exact ⟨sl, (hs.2 b (Nat.ne_of_lt (Nat.lt_of_lt_of_le (Heap.lt_size e) I.ok.above))).trans e1⟩
    · obtain ⟨o', e1⟩ := I.base.there b o e hx
      exact ⟨o', (hs.2 b (Nat.ne_of_lt (Nat.lt_of_lt_of_le (Heap.lt_size e) I.ok.above))).trans e1⟩
    · by_cases hj : j = i
      · subst hj
        rw [hi] at e1; cases e1
        rw [List.getElem?_set_self hiσ] at e2
        cases e2
        exact ⟨u, r, .inl ⟨hk, by simp⟩⟩
      · rw [List.getElem?_set_ne (Ne.symm hj)] at e2
        obtain ⟨u', r', q⟩ := hl j y v' e1 e2 e3
        refine ⟨u', r', ?_⟩
        rcases q with ⟨k, e⟩ | ⟨k, c, e, z⟩
        · refine .inl ⟨k, ?_⟩
          have : y ≠ x := fun e => hj (nodup_ix hN e1 (e ▸ hi))
          simp [this, e]
        · exact .inr ⟨k, c, e, z.sameBut hs (cne y c e)⟩
    · obtain ⟨w', z⟩ := I.cell y c e
      exact ⟨w', z.sameBut hs (cne y c e)⟩
    · obtain ⟨e, n, ne, nf, d⟩ := I.pin p hp
      exact ⟨(hs.2 p.1 ne).trans e, n, ne, nf, d⟩
  · have hfn : X.fn x = true := by
      rcases hf with z | z
      · exact z
      · rw [z] at hk; cases hk
    obtain ⟨c, hc⟩ := I.ok.has x (.inl hk)
    obtain ⟨w', z⟩ := I.cell x c hc
    refine wpAny_storeName_cell I.ok.kind hk hc z (fun h' hc' hs => ?_)
    obtain ⟨oc, hoc, hocd⟩ := id z
    refine h { s with heap := h' } ⟨I.ok, I.os, I.bare, ⟨fun b o e n hb hx => ?_, fun b o e n hb hx => ?_, I.base.free, fun b o e hx => ?_, I.base.tups, I.base.frzs, I.base.tbls⟩, ⟨m, hn.sameBut hs (Ne.symm (cne x c hc)), fun j y v' e1 e2 e3 => ?_⟩, fun y c' e => ?_, I.free, I.freeC, fun p hp => ?_, tracked ⟨oc, hoc, I.freeC x c hc⟩ hs, by simpa using I.len, I.qd⟩ ⟨c, hs, .inr hc⟩
    · exact (hs.2 b (Nat.ne_of_lt (Nat.lt_of_lt_of_le (Heap.lt_size e) (I.ok.cab x c hfn hc)))).trans (I.base.keep b o e n hb hx)
    · obtain ⟨sl, e1⟩ := I.base.slot b o e n hb hx
      exact ⟨sl, (hs.2 b (Nat.ne_of_lt (Nat.lt_of_lt_of_le (Heap.lt_size e) (I.ok.cab x c hfn hc)))).trans e1⟩
    · obtain ⟨o', e1⟩ := I.base.there b o e hx
      exact ⟨o', (hs.2 b (Nat.ne_of_lt (Nat.lt_of_lt_of_le (Heap.lt_size e) (I.ok.cab x c hfn hc)))).trans e1⟩
    · by_cases hj : j = i
      · subst hj
        rw [hi] at e1; cases e1
        rw [List.getElem?_set_self hiσ] at e2
        cases e2
        exact ⟨u, r, .inr ⟨.inl hk, c, hc, hc'⟩⟩
      · rw [List.getElem?_set_ne (Ne.symm hj)] at e2
        obtain ⟨u', r', q⟩ := hl j y v' e1 e2 e3
        refine ⟨u', r', ?_⟩
        rcases q with q | ⟨k, c', e, z'⟩
        · exact .inl q
        · refine .inr ⟨k, c', e, z'.sameBut hs ?_⟩
          rintro rfl
          exact hj (nodup_ix hN e1 (I.ok.inj _ _ _ e hc ▸ hi))
    · by_cases hcc : c' = c
      · subst hcc; exact ⟨_, hc'⟩
      · obtain ⟨w2, z2⟩ := I.cell y c' e
        exact ⟨w2, z2.sameBut hs hcc⟩
    · obtain ⟨e, n, ne, nf, d⟩ := I.pin p hp
      refine ⟨(hs.2 p.1 ?_).trans e, n, ne, nf, d⟩
      intro q
      rw [q, hoc] at e
      have q' : oc = p.2 := Option.some.inj e
      exact d w' (by rw [← q']; exact hocd)
theorem store_ok {M : Model} {A : Around} {E : Value → Shared → Prop} {i : Nat} {x : Str} {v : V} {u : Value} {Q : Unit → Shared → Prop} (I : Inv X pins σ H s) (hN : X.N.Nodup) (hi : X.N[i]? = some x) (hx : Loc X.env.scope x) (r : RelV v u)
    (h : ∀ s', Inv X pins (σ.set i (some v)) H s' → Q () s') (hf : X.fn x = true ∨ X.env.scope.names.lookup x = some .local := by first | exact .inl rfl | exact .inr rfl | assumption) : wpAny M A (storeName X.env x u) Q E s :=
  store_ok2 I hN hi hx r (fun s' I' _ => h s' I') hf
theorem Inv.call' {s' : Shared} {ch : List Addr} (I : Inv X pins σ H s) (ho : s'.os = s.os) (u : Un (frs X.stack) ch H H' s.heap s'.heap) (hok : HOk X.prog X.w H' s'.heap) (hg : AllBare s'.gens)
    (hch : ∀ b ∈ ch, (b ∈ X.ex ∨ X.s₀.heap.objs.size ≤ b) ∧ b ≠ X.env.locals ∧ (∀ x c, X.env.cells.lookup x = some c → c ≠ b) ∧ ∀ p ∈ X.pn ++ pins, p.1 ≠ b) : Inv X pins σ H' s' := by
  obtain ⟨h', g', d', t', o'⟩ := s'
  have e : o' = s.os := ho
  subst e
  exact I.call (g' := g') (t' := t') (d' := d') u hok hg hch
end

noncomputable abbrev XK := Value → Option Addr → Hp → Prop
noncomputable abbrev St := List (Option V)
noncomputable abbrev VK := V → Hp → Prop
noncomputable abbrev TE := St → Hp → VK → Prop
noncomputable abbrev TT := St → Hp → (Bool → Hp → Prop) → Prop
noncomputable abbrev TA := St → Hp → (List V → Hp → Prop) → Prop
structure Ends where
  nx : St → Hp → Prop
  rt : VK
  bk : St → Hp → Prop := fun _ _ => False
  ct : St → Hp → Prop := fun _ _ => False
noncomputable abbrev TS := Ends → St → Hp → Prop

noncomputable def EP (X : Cx) (pins : List (Addr × Obj)) (σ : St) (Q : VK) (u : Value) (s' : Shared) : Prop := ∃ v H', Inv X pins σ H' s' ∧ RelV v u ∧ Q v H'
noncomputable def TP (X : Cx) (pins : List (Addr × Obj)) (σ : St) (Q : Bool → Hp → Prop) (b : Bool) (s' : Shared) : Prop := ∃ H', Inv X pins σ H' s' ∧ Q b H'
noncomputable def AP (X : Cx) (pins : List (Addr × Obj)) (σ : St) (Q : List V → Hp → Prop) (us : List Value) (s' : Shared) : Prop := ∃ vs H', Inv X pins σ H' s' ∧ Vals vs us ∧ Q vs H'
noncomputable def SP (X : Cx) (pins : List (Addr × Obj)) (D : Ends) (f : Flow) (s' : Shared) : Prop :=
  match f with
  | .next => ∃ σ' H', Inv X pins σ' H' s' ∧ D.nx σ' H'
  | .brk => ∃ σ' H', Inv X pins σ' H' s' ∧ D.bk σ' H'
  | .cont => ∃ σ' H', Inv X pins σ' H' s' ∧ D.ct σ' H'
  | .ret u => ∃ v σ' H', Inv X pins σ' H' s' ∧ RelV v u ∧ D.rt v H'

noncomputable def PE (X : Cx) (e : Expr) (t : TE) : Prop :=
  ∀ (pins : List (Addr × Obj)) (s : Shared) (σ : St) (H : Hp) (Q : VK), Inv X pins σ H s → t σ H Q → wpAny (model X.prog X.w) X.A (eval e X.env) (EP X pins σ Q) X.xe s
noncomputable def PT (X : Cx) (e : Expr) (t : TT) : Prop :=
  ∀ (pins : List (Addr × Obj)) (s : Shared) (σ : St) (H : Hp) (Q : Bool → Hp → Prop), Inv X pins σ H s → t σ H Q → wpAny (model X.prog X.w) X.A (isTrue e X.env (eval e X.env)) (TP X pins σ Q) X.xe s
noncomputable def PW (X : Cx) (e : Expr) (t : TT) : Prop :=
  ∀ (whole : Sem Value) (pins : List (Addr × Obj)) (s : Shared) (σ : St) (H : Hp) (Q : Bool → Hp → Prop), Inv X pins σ H s → t σ H Q → wpAny (model X.prog X.w) X.A (isTrue e X.env whole) (TP X pins σ Q) X.xe s
theorem PW.pt {X : Cx} {e : Expr} {t : TT} (h : PW X e t) : PT X e t := h _
noncomputable def PA (X : Cx) (es : List Expr) (t : TA) : Prop :=
  ∀ (pos : Pos) (pins : List (Addr × Obj)) (s : Shared) (σ : St) (H : Hp) (Q : List V → Hp → Prop), Inv X pins σ H s → t σ H Q → wpAny (model X.prog X.w) X.A (spliced (backTo pos (starEach es X.env))) (AP X pins σ Q) X.xe s
noncomputable def PS (X : Cx) (st : Stmt) (t : TS) : Prop :=
  ∀ (pins : List (Addr × Obj)) (s : Shared) (σ : St) (H : Hp) (D : Ends), Inv X pins σ H s → t D σ H → wpAny (model X.prog X.w) X.A (exec st X.env) (SP X pins D) X.xe s
noncomputable def PSs (X : Cx) (st : List Stmt) (t : TS) : Prop :=
  ∀ (pins : List (Addr × Obj)) (s : Shared) (σ : St) (H : Hp) (D : Ends), Inv X pins σ H s → t D σ H → wpAny (model X.prog X.w) X.A (execs st X.env) (SP X pins D) X.xe s
theorem thn {α : Type} {t : Sem α} {Q Q' : α → Shared → Prop} {M : Model} {A : Around} {E : Value → Shared → Prop} {s : Shared} (h : wpAny M A t Q E s) (hQ : ∀ a s, Q a s → Q' a s) : wpAny M A t Q' E s := wpAny_mono h hQ fun _ _ x => x
end L2

namespace L2
open PySem PySem.Spec PyProof.Rows
section
variable {X : Cx}

theorem bin {a b : Expr} {ta tb : TE} (ha : PE X a ta) (hb : PE X b tb) {pins : List (Addr × Obj)} {s : Shared} {σ : St} {H : Hp} {R : V → V → Hp → Prop} (I : Inv X pins σ H s) (h : ta σ H fun x H1 => tb σ H1 fun y H2 => R x y H2)
    {α : Type} {Q : α → Shared → Prop} {f : Value → Value → Sem α}
    (hf : ∀ v u s2 x y H2, Inv X pins σ H2 s2 → RelV x v → RelV y u → R x y H2 → wpAny (model X.prog X.w) X.A (f v u) Q X.xe s2) :
    wpAny (model X.prog X.w) X.A (eval a X.env) (fun v s₁ => wpAny (model X.prog X.w) X.A (eval b X.env) (fun u s₂ => wpAny (model X.prog X.w) X.A (f v u) Q X.xe s₂) X.xe s₁) X.xe s := by
  refine thn (ha pins s σ H _ I h) fun v s1 ⟨x, H1, I1, r1, q1⟩ => ?_
  refine thn (hb pins s1 σ H1 _ I1 q1) fun u s2 ⟨y, H2, I2, r2, q2⟩ => ?_
  exact hf v u s2 x y H2 I2 r1 r2 q2

noncomputable def tVar (i : Nat) : TE := fun σ H Q => ∃ v, σ[i]? = some (some v) ∧ Q v H
noncomputable def tC (v : V) : TE := fun _ H Q => Q v H
theorem pe_var {i : Nat} {x : Str} {pos : Pos} (hN : X.N[i]? = some x) (hv : Vis X.env.scope x) (hd : (x == ("__debug__" : Str)) = false := by decide) (hcd : (x == ("__classdict__" : Str)) = false := by decide) : PE X (.Name x pos) (tVar i) := by
  intro pins s σ H Q I h
  obtain ⟨v, e, h⟩ := h
  obtain ⟨m, hn, hl⟩ := I.loc
  obtain ⟨u, r, l⟩ := hl i x v hN e hv
  have fin : EP X pins σ Q u s := ⟨v, H, I, r, h⟩
  rcases l with ⟨hk, hm⟩ | ⟨hk, c, hc, hcell⟩
  · exact wpAny_Name (wpAny_loadName_local I.ok.kind hk hn hm fin) hd
  · rcases hk with hk | hk
    · exact wpAny_Name (wpAny_loadName_cell I.ok.kind hk hc hcell fin) hd
    · exact wpAny_Name (wpAny_loadName_free I.ok.kind hk hc hcell fin hcd) hd
theorem pe_int {i j pos} : PE X (.Constant (.int i) j pos) (tC (.int i)) := fun _ _ _ H _ I h => wpAny_Constant_int ⟨.int i, H, I.tok _, ⟨_, rfl⟩, h⟩
theorem pe_bl {b j pos} : PE X (.Constant (.bool b) j pos) (tC (.bl b)) := fun _ _ _ H _ I h => Constant_bool ⟨.bl b, H, I, rfl, h⟩
theorem pe_str {x j pos} : PE X (.Constant (.str x) j pos) (tC (.str x)) := fun _ _ _ H _ I h => Calls.Constant_str ⟨.str x, H, I.tok _, ⟨_, rfl⟩, h⟩

noncomputable def Gl (X : Cx) (x : Str) : Prop := X.env.kindOf x = some .globalImplicit
theorem ld_glob {E : Value → Shared → Prop} {pins : List (Addr × Obj)} {s : Shared} {σ : St} {H : Hp} {x : Str} {u : Value} {pos : Pos} {Q : Value → Shared → Prop} (I : Inv X pins σ H s) (hg : Gl X x) (hm : X.mg x = some u) (h : Q u s)
    (hd : (x == ("__debug__" : Str)) = false := by decide) : wpAny (model X.prog X.w) X.A (eval (.Name x pos) X.env) Q E s :=
  Calls.Name_function_global I.ok.kind hg (Calls.loadGlobal_global (by rw [I.ok.glob]; exact I.mod.glob.keeps I.bk) hm h) hd
theorem ld_blt {E : Value → Shared → Prop} {pins : List (Addr × Obj)} {s : Shared} {σ : St} {H : Hp} {x : Str} {u : Value} {pos : Pos} {Q : Value → Shared → Prop} (I : Inv X pins σ H s) (hg : Gl X x) (hm : X.mg x = none) (hv : bootBuiltins x = some u) (h : Q u s)
    (hn : x ≠ "__name__" := by decide) (hd : (x == ("__debug__" : Str)) = false := by decide) : wpAny (model X.prog X.w) X.A (eval (.Name x pos) X.env) Q E s := by
  obtain ⟨mb, h1, h2⟩ := I.mod.blt
  exact Calls.Name_function_global I.ok.kind hg (Calls.loadGlobal_builtin (by rw [I.ok.glob]; exact I.mod.glob.keeps I.bk) hm (by rw [I.ok.blt]; exact h1.keeps I.bk) ((h2 x hn).trans hv) h) hd
theorem pe_bltn {x : Str} {v : V} {u : Value} {pos : Pos} (hg : Gl X x) (hm : X.mg x = none) (hv : bootBuiltins x = some u) (r : RelV v u) (hn : x ≠ "__name__" := by decide) (hd : (x == ("__debug__" : Str)) = false := by decide) : PE X (.Name x pos) (tC v) :=
  fun _ _ _ H _ I h => ld_blt I hg hm hv ⟨v, H, I, r, h⟩ hn hd

variable {a b : Expr} {ta tb : TE} {pos : Pos}
noncomputable def PC (X : Cx) (op : CmpOp) (a b : Expr) (t : TE) : Prop :=
  ∀ (pins : List (Addr × Obj)) (s : Shared) (σ : St) (H : Hp) (Q : VK), Inv X pins σ H s → t σ H Q →
    wpAny (model X.prog X.w) X.A (eval a X.env) (fun v s₁ => wpAny (model X.prog X.w) X.A (eval b X.env) (fun u s₂ => wpAny (model X.prog X.w) X.A (compareOp op v u) (EP X pins σ Q) X.xe s₂) X.xe s₁) X.xe s
theorem nobehind (b : Expr) {op : CmpOp} (h : op ≠ .In) (h2 : op ≠ .NotIn) : behindInMarks op b = false := by
  have e1 : (op == CmpOp.In) = false := by cases op <;> first | rfl | exact absurd rfl h
  have e2 : (op == CmpOp.NotIn) = false := by cases op <;> first | rfl | exact absurd rfl h2
  cases b <;> simp [behindInMarks, e1, e2]
noncomputable def tB (t : TE) : TT := fun σ H Q => t σ H fun x H1 => ∃ c, x = .bl c ∧ Q c H1
theorem pt_cmp {op : CmpOp} {t : TE} (h : PC X op a b t) (h1 : behindInMarks op b = false := by first | exact nobehind _ (by decide) (by decide) | rfl) : PT X (.Compare a [op] [b] pos) (tB t) := by
  intro pins s σ H Q I hw
  refine wpAny_isTrue_Compare1 (thn (h pins s σ H _ I hw) fun v s1 h1 => thn h1 fun u s2 h2 => thn h2 fun c s3 ⟨x, H1, I1, r1, q1⟩ => ?_) h1
  obtain ⟨d, rfl, q⟩ := q1
  cases r1
  exact wpAny_truthy_bool ⟨H1, I1, q⟩
theorem pt_val {e : Expr} {t : TE} (h : PE X e t) (he : ∀ whole, isTrue e X.env whole = (do let v ← whole; standAt e.pos; holding [v] (truthy v)) := by intro _; rfl) : PT X e (tB t) := by
  intro pins s σ H Q I hw
  refine isTrue_plain (thn (h pins s σ H _ I hw) fun v s1 ⟨x, H1, I1, r1, q1⟩ => ?_) (he _)
  obtain ⟨d, rfl, q⟩ := q1
  cases r1
  exact wpAny_truthy_bool ⟨H1, I1, q⟩

variable {tA tB' : TT} {rest : List Expr}
noncomputable def tOr (t u : TT) : TT := fun σ H Q => t σ H fun c H1 => if c = true then Q true H1 else u σ H1 Q
noncomputable def tNot (t : TT) : TT := fun σ H Q => t σ H fun c H1 => Q (!c) H1
theorem pw_and1 (ha : PT X a tA) : PW X (.BoolOp .And [a] pos) tA := by
  intro wh pins s σ H Q I h
  refine isTrue_and (thn (ha pins s σ H Q I h) fun c s1 e => ?_)
  cases c with
  | true => exact isTrue_and_nil e
  | false => exact e
theorem pw_or1 (ha : PT X a tA) : PW X (.BoolOp .Or [a] pos) tA := by
  intro wh pins s σ H Q I h
  refine isTrue_or (thn (ha pins s σ H Q I h) fun c s1 e => ?_)
  cases c with
  | false => exact isTrue_or_nil e
  | true => exact e
theorem pw_or (ha : PT X a tA) (hb : PW X (.BoolOp .Or (b :: rest) pos) tB') : PW X (.BoolOp .Or (a :: b :: rest) pos) (tOr tA tB') := by
  intro wh pins s σ H Q I h
  refine isTrue_or (thn (ha pins s σ H _ I h) fun c s1 ⟨H1, I1, q1⟩ => ?_)
  cases c with
  | true => exact ⟨H1, I1, q1⟩
  | false => exact hb wh pins s1 σ H1 Q I1 q1
theorem pt_not (ha : PT X a tA) : PT X (.UnaryOp .Not a pos) (tNot tA) := by
  intro pins s σ H Q I h
  exact isTrue_not (ha pins s σ H (fun c H1 => Q (!c) H1) I h)
end
end L2

namespace L2
open PySem PySem.Spec PyProof.Rows

noncomputable def SqL (K : PySem.W.Frag) (H : Hp) (a : Addr) (xs : List V) : Prop :=
  Rd H a (.lst xs) ∨
    ∃ (o : Obj) (its : Array Value) (n : Nat), K.lookup a = some o ∧ o.cls = .type "list" ∧ o.dict = none ∧ o.data = .seq its n ∧ its.size ≤ sizeLine ∧ Vals xs its.toList
noncomputable def SqT (K : PySem.W.Frag) (H : Hp) (a : Addr) (xs : List V) : Prop :=
  Rd H a (.tup xs) ∨
    ∃ (o : Obj) (its : Array Value) (n : Nat), K.lookup a = some o ∧ o.cls = .type "tuple" ∧ o.data = .seq its n ∧ its.size ≤ sizeLine ∧ Vals xs its.toList
noncomputable def absV : Value → Option V
  | .none => some .non
  | .bool b => some (.bl b)
  | .int i _ => some (.int i)
  | .str x _ => some (.str x)
  | .bytes b _ => some (.byt b)
  | .float b _ => some (.flt b)
  | .ref a => some (.ref a)
  | .type n => some (.ty n)
  | _ => none
theorem RelV.abs {x : V} {u : Value} (r : RelV x u) : absV u = some x := by
  cases x with
  | non => cases r; rfl
  | bl _ => cases r; rfl
  | int _ => obtain ⟨t, rfl⟩ := r; rfl
  | str _ => obtain ⟨t, rfl⟩ := r; rfl
  | byt _ => obtain ⟨t, rfl⟩ := r; rfl
  | flt _ => obtain ⟨t, rfl⟩ := r; rfl
  | ref _ => cases r; rfl
  | ty _ => cases r; rfl
theorem RelV.inj {x y : V} {u : Value} (r : RelV x u) (q : RelV y u) : x = y := Option.some.inj (r.abs.symm.trans q.abs)
theorem Vals.inj : ∀ {xs ys : List V} {us : List Value}, Vals xs us → Vals ys us → xs = ys
  | _, _, _, .nil, .nil => rfl
  | _, _, _, .cons r t, .cons r' t' => by rw [r.inj r', Vals.inj t t']
section
variable {X : Cx} {pins : List (Addr × Obj)} {σ : St} {H : Hp} {s : Shared} {a : Addr} {xs ys : List V}
theorem SqL.of {K : PySem.W.Frag} (h : H a = some (.lst xs)) : SqL K H a xs := .inl (.inl h)
theorem SqT.of {K : PySem.W.Frag} (h : H a = some (.tup xs)) : SqT K H a xs := .inl (.inl h)
theorem Inv.list (I : Inv X pins σ H s) (h : SqL X.K H a xs) : ∃ its : List Value, Vals xs its ∧ PlainL s.heap a its.toArray ∧ xs.length ≤ sizeLine := by
  rcases h with h | ⟨o, its, n, hk, hc, hd, hs, hz, r⟩
  · obtain ⟨z, its, n, r, e⟩ := h.ok I.hok
    exact ⟨its, r, ⟨_, n, e, rfl, rfl, rfl⟩, z⟩
  · refine ⟨its.toList, r, ⟨o, n, I.kIn a o hk, hc, hd, by simpa using hs⟩, ?_⟩
    have e := r.length
    simp only [Array.length_toList] at e
    omega
theorem Inv.tuple (I : Inv X pins σ H s) (h : SqT X.K H a xs) : ∃ its : List Value, Vals xs its ∧ IsTup s.heap a its.toArray ∧ xs.length ≤ sizeLine := by
  rcases h with h | ⟨o, its, n, hk, hc, hs, hz, r⟩
  · obtain ⟨z, its, r, p⟩ := h.ok I.hok
    exact ⟨its, r, p, z⟩
  · refine ⟨its.toList, r, ⟨o, I.kIn a o hk, hc, n, by simpa using hs⟩, ?_⟩
    have e := r.length
    simp only [Array.length_toList] at e
    omega
theorem Inv.list_inj (I : Inv X pins σ H s) (h : SqL X.K H a xs) (h' : SqL X.K H a ys) : xs = ys := by
  obtain ⟨its, r, ⟨o, n, e, _, _, d⟩, _⟩ := I.list h
  obtain ⟨its', r', ⟨o', n', e', _, _, d'⟩, _⟩ := I.list h'
  rw [e] at e'; cases e'
  rw [d] at d'
  injection d' with d1 _
  have : its = its' := by simpa using congrArg Array.toList d1
  subst this
  exact r.inj r'
theorem Inv.tuple_inj (I : Inv X pins σ H s) (h : SqT X.K H a xs) (h' : SqT X.K H a ys) : xs = ys := by
  obtain ⟨its, r, ⟨o, e, _, n, d⟩, _⟩ := I.tuple h
  obtain ⟨its', r', ⟨o', e', _, n', d'⟩, _⟩ := I.tuple h'
  rw [e] at e'; cases e'
  rw [d] at d'
  injection d' with d1 _
  have : its = its' := by simpa using congrArg Array.toList d1
  subst this
  exact r.inj r'
end

section
variable {X : Cx} {pins : List (Addr × Obj)} {σ : St} {H : Hp} {s : Shared} {E : Value → Shared → Prop}
end

section
variable {X : Cx} {st : Stmt} {rest : List Stmt} {t u : TS} {e : Expr} {te : TE} {pos : Pos}
noncomputable def tNext : TS := fun D σ H => D.nx σ H
noncomputable def tSeq (t u : TS) : TS := fun D σ H => t { D with nx := u D } σ H
theorem pss_nil : PSs X [] tNext := fun _ _ σ H _ I h => wpAny_execs_nil ⟨σ, H, I, h⟩
theorem pss_cons (h1 : PS X st t) (h2 : PSs X rest u) : PSs X (st :: rest) (tSeq t u) := by
  intro pins s σ H D I h
  refine wpAny_execs_cons (thn (h1 pins s σ H { D with nx := u D } I h) fun f s1 q => ?_)
  cases f with
  | next =>
    obtain ⟨σ', H', I', q⟩ := q
    exact h2 pins s1 σ' H' D I' q
  | ret v => exact q
  | brk => exact q
  | cont => exact q
theorem pss_one (h1 : PS X st t) : PSs X [st] t := by
  intro pins s σ H D I h
  refine wpAny_execs_cons (thn (h1 pins s σ H D I h) fun f s1 q => ?_)
  cases f with
  | next => exact wpAny_execs_nil q
  | ret v => exact q
  | brk => exact q
  | cont => exact q
theorem Inv.quiet {pins : List (Addr × Obj)} {σ : St} {H : Hp} {s : Shared} (I : Inv X pins σ H s) : interactive X.env = false := by simp [interactive, I.ok.kind]
noncomputable def tDrop (te : TE) : TS := fun D σ H => te σ H fun _ H1 => D.nx σ H1
theorem ps_expr (he : PE X e te) (hs : swapsWith e none pos.line X.env = pure false := by rfl) : PS X (.Expr e pos) (tDrop te) := by
  intro pins s σ H D I h
  exact wpAny_Expr_any (thn (he pins s σ H _ I h) fun v s1 ⟨x, H1, I1, r1, q1⟩ => ⟨σ, H1, I1, q1⟩) I.quiet hs
noncomputable def tRet (te : TE) : TS := fun D σ H => te σ H D.rt
theorem ps_ret (he : PE X e te) : PS X (.Return (some e) pos) (tRet te) := by
  intro pins s σ H D I h
  exact wpAny_Return_some (thn (he pins s σ H _ I h) fun v s1 ⟨x, H1, I1, r1, q1⟩ => ⟨x, σ, H1, I1, r1, q1⟩)
noncomputable def tIfS (c : TT) (t u : TS) : TS := fun D σ H => c σ H fun b H1 => if b = true then t D σ H1 else u D σ H1
theorem ps_if {c : Expr} {a b : List Stmt} {tc : TT} (hc : PT X c tc) (ha : PSs X a t) (hb : PSs X b u) : PS X (.If c a b pos) (tIfS tc t u) := by
  intro pins s σ H D I h
  refine wpAny_If (thn (hc pins s σ H _ I h) fun d s1 ⟨H1, I1, q1⟩ => ?_)
  cases d with
  | true => exact ha pins s1 σ H1 D I1 q1
  | false => exact hb pins s1 σ H1 D I1 q1
end

noncomputable abbrev TG := V → St → Hp → (St → Hp → Prop) → Prop
noncomputable abbrev TGs := List V → St → Hp → (St → Hp → Prop) → Prop
noncomputable def PG (X : Cx) (target : Expr) (t : TG) : Prop :=
  ∀ (pins : List (Addr × Obj)) (s : Shared) (σ : St) (H : Hp) (v : V) (u : Value) (Q : St → Hp → Prop), Inv X pins σ H s → RelV v u → t v σ H Q →
    wpAny (model X.prog X.w) X.A (assign target X.env u) (fun _ s' => ∃ σ' H', Inv X pins σ' H' s' ∧ Q σ' H') X.xe s
noncomputable def PGs (X : Cx) (ts : List Expr) (t : TGs) : Prop :=
  ∀ (pins : List (Addr × Obj)) (s : Shared) (σ : St) (H : Hp) (vs : List V) (us : List Value) (Q : St → Hp → Prop), Inv X pins σ H s → Vals vs us → t vs σ H Q →
    wpAny (model X.prog X.w) X.A (assignInOrder ((assignEach ts X.env).map (·.2)) us) (fun _ s' => ∃ σ' H', Inv X pins σ' H' s' ∧ Q σ' H') X.xe s
noncomputable abbrev TSet := V → V → V → Hp → (Hp → Prop) → Prop
noncomputable def PSet (X : Cx) (t : TSet) : Prop :=
  ∀ (pins : List (Addr × Obj)) (s : Shared) (σ : St) (H : Hp) (o i v : V) (ov iv u : Value) (Q : Hp → Prop), Inv X pins σ H s → RelV o ov → RelV i iv → RelV v u → t o i v H Q →
    wpAny (model X.prog X.w) X.A (setItem ov iv u) (fun _ s' => ∃ H', Inv X pins σ H' s' ∧ Q H') X.xe s
section
variable {X : Cx} {pos : Pos}
noncomputable def gName (i : Nat) : TG := fun v σ H Q => Q (σ.set i (some v)) H
theorem pg_name {i : Nat} {x : Str} (hN : X.N.Nodup) (hi : X.N[i]? = some x) (hx : Loc X.env.scope x) (hf : X.fn x = true ∨ X.env.scope.names.lookup x = some .local := by first | exact .inl rfl | exact .inr rfl | assumption) : PG X (.Name x pos) (gName i) := by
  intro pins s σ H v u Q I r h
  exact wpAny_assign_Name (store_ok I hN hi hx r (fun s' I' => ⟨_, H, I', h⟩) hf)
noncomputable def gNil : TGs := fun vs σ H Q => vs = [] ∧ Q σ H
noncomputable def gCons (t : TG) (u : TGs) : TGs := fun vs σ H Q => ∃ v r, vs = v :: r ∧ t v σ H fun σ' H' => u r σ' H' Q
theorem pgs_nil : PGs X [] gNil := by
  intro pins s σ H vs us Q I r h
  obtain ⟨e, h⟩ := h
  subst e
  cases r
  exact assignInOrder_nil ⟨σ, H, I, h⟩
theorem pgs_cons {e : Expr} {es : List Expr} {t : TG} {u : TGs} (h1 : PG X e t) (h2 : PGs X es u)
    (hs : (assignEach (e :: es) X.env).map (·.2) = assign e X.env :: (assignEach es X.env).map (·.2) := by rfl) : PGs X (e :: es) (gCons t u) := by
  intro pins s σ H vs us Q I r h
  obtain ⟨v, vr, e1, h⟩ := h
  subst e1
  cases r with
  | cons r rr =>
    rw [hs]
    refine assignInOrder_cons (thn (h1 pins s σ H _ _ _ I r h) fun _ s1 ⟨σ1, H1, I1, q1⟩ => ?_)
    exact h2 pins s1 σ1 H1 _ _ Q I1 rr q1
noncomputable def gTup (K : PySem.W.Frag) (n : Nat) (t : TGs) : TG := fun v σ H Q => ∃ a xs, v = .ref a ∧ SqT K H a xs ∧ xs.length = n ∧ t xs σ H Q
theorem pg_tup {es : List Expr} {k : Nat} {t : TGs} {n : Nat} (hc : X.calm = true) (h : PGs X es t)
    (hn : (assignEach es X.env).length = n := by rfl) (hst : (assignEach es X.env).findIdx? (·.1) = none := by rfl) : PG X (.Tuple es k pos) (gTup X.K n t) := by
  intro pins s σ H v u Q I r hw
  obtain ⟨a, xs, e1, hq, hl, hw⟩ := hw
  subst e1
  cases r
  obtain ⟨its, rv, ht, hz⟩ := I.tuple hq
  refine assign_Tuple_tuple (I.ok.hd hc) ht (by simp [hn, ← hl, rv.length]) hst fun h' hx => ?_
  have I1 : Inv X pins σ H { s with heap := h' } := I.kept (t' := s.toks) fun b o e => hx b o (Nat.ne_of_lt (Heap.lt_size e)) e
  exact h pins _ σ H xs _ Q I1 (by simpa using rv) hw
noncomputable def gSub (to ti : TE) (t : TSet) : TG := fun v σ H Q => to σ H fun o H1 => ti σ H1 fun i H2 => t o i v H2 fun H3 => Q σ H3
theorem pg_sub {o i : Expr} {to ti : TE} {t : TSet} (ho : PE X o to) (hi : PE X i ti) (hs : PSet X t)
    (ha : ∀ v, assign (.Subscript o i pos) X.env v = (do
      let ov ← holding [v] (eval o X.env)
      let iv ← holding [v, ov] (eval i X.env)
      standAt pos
      holding [v, ov, iv] (setItem ov iv v)
      release [v, ov, iv] []) := by intro _; rfl) : PG X (.Subscript o i pos) (gSub to ti t) := by
  intro pins s σ H v u Q I r h
  rw [ha]
  refine wpAny_bind (wpAny_holding (thn (ho pins s σ H _ I h) fun ov s1 ⟨x, H1, I1, r1, q1⟩ => ?_))
  refine wpAny_bind (wpAny_holding (thn (hi pins s1 σ H1 _ I1 q1) fun iv s2 ⟨y, H2, I2, r2, q2⟩ => ?_))
  refine wpAny_bind (wpAny_standAt (wpAny_bind (wpAny_holding (thn (hs pins s2 σ H2 x y v ov iv u _ I2 r1 r2 r q2) fun _ s3 ⟨H3, I3, q3⟩ => ?_))))
  exact wpAny_release ⟨σ, H3, I3, q3⟩
noncomputable def tAsg (te : TE) (g : TG) : TS := fun D σ H => te σ H fun x H1 => g x σ H1 D.nx
theorem ps_asg {tg e : Expr} {te : TE} {g : TG} (he : PE X e te) (hg : PG X tg g) (hs : swapsWithSole [tg] e pos.line X.env = pure false := by rfl) (hw : swappedStores [tg] e X.env = pure none := by rfl)
    (h1 : (assignEach [tg] X.env).map (·.2) = [assign tg X.env] := by rfl) : PS X (.Assign [tg] e pos) (tAsg te g) := by
  intro pins s σ H D I h
  refine wpAny_Assign_stores (thn (he pins s σ H _ I h) fun v s1 ⟨x, H1, I1, r1, q1⟩ => ?_) hs hw
  rw [h1]
  exact thn (hg pins s1 σ H1 x v _ I1 r1 q1) fun _ s2 q => q
theorem ps_set {i : Nat} {x : Str} {e : Expr} {te : TE} {pos' : Pos} (hN : X.N.Nodup) (hi : X.N[i]? = some x) (hx : Loc X.env.scope x) (he : PE X e te) (hs : swapsWith e (some (.Name x pos')) pos.line X.env = pure false := by rfl) (hf : X.fn x = true ∨ X.env.scope.names.lookup x = some .local := by first | exact .inl rfl | exact .inr rfl | assumption) :
    PS X (.Assign [.Name x pos'] e pos) (tAsg te (gName i)) := by
  intro pins s σ H D I h
  refine wpAny_Assign_Name (thn (he pins s σ H _ I h) fun v s1 ⟨y, H1, I1, r1, q1⟩ => ?_) hs
  exact store_ok I1 hN hi hx r1 (fun s2 I2 => ⟨_, H1, I2, q1⟩) hf
noncomputable def tPar (i j : Nat) (ta : TA) : TS := fun D σ H => ta σ H fun vs H1 => ∃ v w, vs = [v, w] ∧ D.nx ((σ.set i (some v)).set j (some w)) H1
theorem ps_par {i j : Nat} {x y : Str} {a b : Expr} {ta : TA} {px py pt : Pos} {kt k2 pt2} (hc : X.calm = true) (hN : X.N.Nodup) (hi : X.N[i]? = some x) (hj : X.N[j]? = some y) (hij : i ≠ j)
    (hx : X.env.scope.names.lookup x = some .local) (hy : X.env.scope.names.lookup y = some .local) (ha : PA X [a, b] ta)
    (hw : swappedStores [.Tuple [.Name x px, .Name y py] kt pt] (.Tuple [a, b] k2 pt2) X.env = pure (some [x, y]))
    (hs : swapsWithSole [.Tuple [.Name x px, .Name y py] kt pt] (.Tuple [a, b] k2 pt2) pos.line X.env = pure false := by rfl) :
    PS X (.Assign [.Tuple [.Name x px, .Name y py] kt pt] (.Tuple [a, b] k2 pt2) pos) (tPar i j ta) := by
  intro pins s σ H D I h
  rw [exec_Assign_arm]
  refine wpAny_bind (wpAny_standAt ?_)
  rw [hs]
  refine wpAny_bind (wpAny_pure ?_)
  rw [if_neg (by decide)]
  refine wpAny_bind (Tuple_ (thn (ha _ pins s σ H _ I h) fun us s1 ⟨vs, H1, I1, r1, q1⟩ => ?_))
  obtain ⟨v, w, e1, q1⟩ := q1
  subst e1
  obtain ⟨u1, u2, rfl, rv, rw'⟩ : ∃ u1 u2, us = [u1, u2] ∧ RelV v u1 ∧ RelV w u2 := by
    cases r1 with
    | cons p q =>
      cases q with
      | cons p' q' =>
        cases q'
        exact ⟨_, _, rfl, p, p'⟩
  refine wpAny_newObj_type ?_ (by show 2 ≤ sizeLine; decide)
  have I2 : Inv X pins σ H1 { s1 with heap := s1.heap.push { cls := .type "tuple", data := .seq [u1, u2].toArray } } := I1.kept (t' := s1.toks) fun b o e => Heap.get?_push_of_some _ e
  rw [hw]
  refine wpAny_bind (wpAny_pure ?_)
  show wpAny (model X.prog X.w) X.A (do rule "assign.swapped-stores"; let items ← unpackItems (.ref s1.heap.objs.size) 2 none; assignInOrder [fun v => bindName X.env y v, fun v => bindName X.env x v] items.reverse; pure Flow.next) _ _ _
  refine wpAny_bind (wpAny_rule (wpAny_bind (unpackItems_tuple (items := #[u1, u2]) (I.ok.hd hc) (IsTup.new s1.heap _) fun h' hx' => ?_)))
  have I3 := I2.kept (h' := h') (t' := s1.toks) fun b o e => hx' b o (Nat.ne_of_lt (Heap.lt_size e)) e
  show wpAny _ _ (assignInOrder [fun v => bindName X.env y v, fun v => bindName X.env x v] [u2, u1] >>= fun _ => pure Flow.next) _ _ _
  refine wpAny_bind (assignInOrder_cons (wpAny_bindName (store_ok I3 hN hj (.inl hy) rw' (fun s2 I4 => ?_) (.inr hy))))
  refine assignInOrder_cons (wpAny_bindName (store_ok I4 hN hi (.inl hx) rv (fun s3 I5 => assignInOrder_nil (wpAny_pure ?_)) (.inr hx)))
  rw [List.set_comm _ _ (Ne.symm hij)] at I5
  exact ⟨_, H1, I5, q1⟩
end

section
variable {X : Cx} {pos : Pos}
noncomputable def tWhile (c : TT) (tb : TS) : TS := fun D σ H => ∃ W : Nat → St → Hp → Prop, (∃ m, W m σ H) ∧ ∀ m σ H, W m σ H →
  c σ H fun b H1 => if b = true then ∃ N : St → Hp → Prop, (∀ σ' H', N σ' H' → ∃ m', m' < m ∧ W m' σ' H') ∧ tb { D with nx := N, ct := N, bk := D.nx } σ H1 else D.nx σ H1
theorem ps_while {c : Expr} {body : List Stmt} {tc : TT} {tb : TS} (hp : PassesOwn (model X.prog X.w) X.A X.env X.xe) (hc : PT X c tc) (hb : PSs X body tb) : PS X (.While c body [] pos) (tWhile tc tb) := by
  intro pins s σ H D I h
  obtain ⟨W, ⟨m0, w0⟩, turn⟩ := h
  refine wpAny_While (codeAny_whileLoop (fun n s' => ∃ σ' H', Inv X pins σ' H' s' ∧ W n σ' H') ?_ m0 ⟨σ, H, I, w0⟩)
  rintro n s1 ⟨σ1, H1, I1, w1⟩
  refine wpAny_passesOwn hp (thn (hc pins s1 σ1 H1 _ I1 (turn n σ1 H1 w1)) fun b s2 ⟨H2, I2, q2⟩ => ?_)
  cases b with
  | true =>
    obtain ⟨N, hN, q2⟩ := q2
    rw [if_pos rfl]
    refine wpAny_passesOwn hp (thn (hb pins s2 σ1 H2 _ I2 q2) fun f s3 q3 => ?_)
    cases f with
    | next =>
      obtain ⟨σ3, H3, I3, n3⟩ := q3
      obtain ⟨m', hm, w3⟩ := hN σ3 H3 n3
      exact ⟨m', hm, σ3, H3, I3, w3⟩
    | cont =>
      obtain ⟨σ3, H3, I3, n3⟩ := q3
      obtain ⟨m', hm, w3⟩ := hN σ3 H3 n3
      exact ⟨m', hm, σ3, H3, I3, w3⟩
    | brk => exact q3
    | ret v => exact q3
  | false =>
    rw [if_neg Bool.false_ne_true]
    exact wpAny_execs_nil ⟨σ1, H2, I2, q2⟩
end

structure It where
  go : Nat → Hp → Prop
  yld : Nat → Hp → V → Hp → Prop
  stop : Nat → Hp → Prop
noncomputable def FpOk (X : Cx) (pins : List (Addr × Obj)) (H : Hp) (b : Addr) : Prop :=
  H b = none ∧ b ≠ X.env.locals ∧ b ∉ X.fs ∧ (b ∈ X.ex ∨ X.s₀.heap.objs.size ≤ b) ∧ (∀ x c, X.env.cells.lookup x = some c → c ≠ b) ∧ ∀ p ∈ X.pn ++ pins, p.1 ≠ b
theorem Inv.fpOk {X : Cx} {pins : List (Addr × Obj)} {σ : St} {H H' : Hp} {s : Shared} {b : Addr} (I : Inv X pins σ H s) (hb : s.heap.objs.size ≤ b) (hn : H' b = none) : FpOk X pins H' b := by
  refine ⟨hn, Nat.ne_of_gt (Nat.lt_of_lt_of_le I.lt hb), I.nofs hb, .inr (Nat.le_trans I.sz hb), fun x c e z => ?_, fun p hp z => ?_⟩
  · obtain ⟨v, q⟩ := I.cell x c e
    exact absurd (Nat.lt_of_lt_of_le q.lt (by rw [z]; exact hb)) (Nat.lt_irrefl _)
  · exact absurd (Nat.lt_of_lt_of_le (Heap.lt_size (I.pin p hp).1) (by rw [z]; exact hb)) (Nat.lt_irrefl _)
structure Turn (P : Program) (w : World) (K : PySem.W.Frag) (B : Around) (tg : Expr) (J : It) (fp : List Addr) (it : Addr) (tn : Nat → Heap → Prop) : Prop where
  mem : it ∈ fp
  obj : ∀ i h, tn i h → ∀ b ∈ fp, ∃ o, h.get? b = some o ∧ ∀ v, o.data ≠ .cell v
  keep : ∀ i h h', tn i h → (∀ b ∈ fp, ∀ o, h.get? b = some o → h'.get? b = some o) → tn i h'
  item : ∀ (X : Cx), X.prog = P → X.w = w → X.K = K → X.A = B → ∀ (i : Nat) (pins : List (Addr × Obj)) (s : Shared) (σ : St) (H : Hp) (E : Value → Shared → Prop), Inv X pins σ H s → (∀ b ∈ fp, FpOk X pins H b) → tn i s.heap → J.go i H →
    wpAny (model P w) X.A (pyNext (.ref it)) (fun r s1 => ∃ u, r = some u ∧
      wpAny (model P w) X.A (letOwnedTupleGo tg (.ref it) u) (fun _ s2 => ∃ x H', Inv X pins σ H' s2 ∧ RelV x u ∧ J.yld i H x H' ∧ tn (i + 1) s2.heap ∧ ∀ b ∈ fp, H' b = none) E s1) E s
  done : ∀ (X : Cx), X.prog = P → X.w = w → X.K = K → X.A = B → ∀ (i : Nat) (pins : List (Addr × Obj)) (s : Shared) (σ : St) (H : Hp) (E : Value → Shared → Prop), Inv X pins σ H s → (∀ b ∈ fp, FpOk X pins H b) → tn i s.heap → J.stop i H →
    wpAny (model P w) X.A (pyNext (.ref it)) (fun r s1 => r = none ∧ Inv X pins σ H s1) E s
  self : ∀ (A : Around) (i : Nat) (s : Shared) (Q : Value → Shared → Prop) (E : Value → Shared → Prop), tn i s.heap → Q (.ref it) s → wpAny (model P w) A (pyIter (.ref it)) Q E s
noncomputable abbrev TI := St → Hp → (It → Hp → Prop) → Prop
noncomputable def PIE (X : Cx) (pins : List (Addr × Obj)) (σ : St) (tg : Expr) (R : It → Hp → Prop) (itv : Value) (s2 : Shared) : Prop :=
  ∃ (it : Addr) (fp : List Addr) (tn : Nat → Heap → Prop) (J : It) (H' : Hp), itv = .ref it ∧ Inv X pins σ H' s2 ∧ Turn X.prog X.w X.K X.A tg J fp it tn ∧ tn 0 s2.heap ∧ (∀ b ∈ fp, FpOk X pins H' b) ∧ R J H'
noncomputable def PI (X : Cx) (tg iter : Expr) (wi : TI) : Prop :=
  ∀ (pins : List (Addr × Obj)) (s : Shared) (σ : St) (H : Hp) (R : It → Hp → Prop), Inv X pins σ H s → wi σ H R →
    wpAny (model X.prog X.w) X.A (eval iter X.env) (fun v s1 => wpAny (model X.prog X.w) X.A (pyIter v) (PIE X pins σ tg R) X.xe s1) X.xe s

theorem go_of {M : Model} {A : Around} {E : Value → Shared → Prop} {s : Shared} {tg : Expr} {it : Addr} {u : Value} {o : Obj} {n : String} {vs : Array Value} {Q : Unit → Shared → Prop} (ho : s.heap.get? it = some o) (hc : o.cls = .type n) (hd : o.data = .fields vs)
    (hn : ["enumerate", "zip", "dict_itemiterator", "dict_reverseitemiterator", "odict_iterator", "itertools.zip_longest", "itertools.pairwise"].contains n = false) (hQ : Q () s) : wpAny M A (letOwnedTupleGo tg (.ref it) u) Q E s := by
  unfold letOwnedTupleGo
  cases tg <;> first
    | exact wpAny_pure hQ
    | (cases u <;> first
        | exact wpAny_pure hQ
        | (refine wpAny_bind (wpAny_load ho ?_)
           rw [hc, hd]
           show wpAny M A (if (["enumerate", "zip", "dict_itemiterator", "dict_reverseitemiterator", "odict_iterator", "itertools.zip_longest", "itertools.pairwise"].contains n && vs[0]? == some (rawInt _)) = true then _ else _) Q E s
           rw [if_neg (by intro h; rw [hn, Bool.false_and] at h; cases h)]
           exact wpAny_pure hQ))

noncomputable def Itl (K : PySem.W.Frag) (a : Addr) : It :=
  ⟨fun i H => ∃ xs x, SqL K H a xs ∧ xs[i]? = some x, fun i H x H' => H' = H ∧ ∀ xs, SqL K H a xs → xs[i]? = some x, fun i H => ∃ xs, SqL K H a xs ∧ xs.length ≤ i⟩
noncomputable def Itt (K : PySem.W.Frag) (a : Addr) : It :=
  ⟨fun i H => ∃ xs x, SqT K H a xs ∧ xs[i]? = some x, fun i H x H' => H' = H ∧ ∀ xs, SqT K H a xs → xs[i]? = some x, fun i H => ∃ xs, SqT K H a xs ∧ xs.length ≤ i⟩
noncomputable def Itr (lo : Int) (n : Nat) : It := ⟨fun i _ => i < n, fun i H x H' => H' = H ∧ x = .int (lo + i), fun i _ => n ≤ i⟩
theorem turn_list {P : Program} {w : World} {K : PySem.W.Frag} {B : Around} {tg : Expr} (a it : Addr) : Turn P w K B tg (Itl K a) [it] it (fun i h => h.IsListIter it a i) where
  mem := by simp
  obj := fun i h st b hb => by
    have e : b = it := by simpa using hb
    subst e
    obtain ⟨o, e, c, d⟩ := st
    exact ⟨o, e, fun v z => by rw [d] at z; cases z⟩
  keep := fun i h h' st k => st.at fun o e => k it (by simp) o e
  item := by
    intro X hP hw hK hB i pins s σ H E I hf st hg
    subst hP hw hK
    obtain ⟨xs, x, hq, hx⟩ := hg
    obtain ⟨its, rv, p, hz⟩ := I.list hq
    obtain ⟨u, hu, ru⟩ := rv.get hx
    obtain ⟨f0, f1, f2, f3, f4, f5⟩ := hf it (by simp)
    refine wpAny_pyNext_list_item st p.isList (x := u) (by simpa using hu) fun h' st' sb => ?_
    have I1 : Inv X pins σ H { s with heap := h' } := I.turned (t' := s.toks) (fun b o hb e => (sb.2 b hb).trans e) f0 f1 f3 f4 f5
    obtain ⟨o, e, c, d⟩ := id st'
    exact ⟨u, rfl, go_of (s := { s with heap := h' }) e c d (by decide) ⟨x, H, I1, ru, ⟨rfl, fun ys hy => by rw [I.list_inj hy hq]; exact hx⟩, st', fun b hb => (hf b hb).1⟩⟩
  done := by
    intro X hP hw hK hB i pins s σ H E I hf st hg
    subst hP hw hK
    obtain ⟨xs, hq, hx⟩ := hg
    obtain ⟨its, rv, p, hz⟩ := I.list hq
    obtain ⟨f0, f1, f2, f3, f4, f5⟩ := hf it (by simp)
    have hl := rv.length
    exact DQ.list_end I.qh st p.isList (by simp; omega) fun h' eb => ⟨rfl, I.turned (t' := s.toks) (fun b o hb e => eb b o hb e) f0 f1 f3 f4 f5⟩
  self := fun _ _ _ _ _ st h => wpAny_pyIter_listiter st h
theorem turn_tuple {P : Program} {w : World} {K : PySem.W.Frag} {B : Around} {tg : Expr} (a it : Addr) : Turn P w K B tg (Itt K a) [it] it (fun i h => h.IsTupleIter it a i) where
  mem := by simp
  obj := fun i h st b hb => by
    have e : b = it := by simpa using hb
    subst e
    obtain ⟨o, e, c, d⟩ := st
    exact ⟨o, e, fun v z => by rw [d] at z; cases z⟩
  keep := fun i h h' st k => st.at fun o e => k it (by simp) o e
  item := by
    intro X hP hw hK hB i pins s σ H E I hf st hg
    subst hP hw hK
    obtain ⟨xs, x, hq, hx⟩ := hg
    obtain ⟨its, rv, p, hz⟩ := I.tuple hq
    obtain ⟨u, hu, ru⟩ := rv.get hx
    obtain ⟨f0, f1, f2, f3, f4, f5⟩ := hf it (by simp)
    refine wpAny_pyNext_tuple_item st (show s.heap.IsTuple a its.toArray from p) (x := u) (by simpa using hu) fun h' st' sb => ?_
    have I1 : Inv X pins σ H { s with heap := h' } := I.turned (t' := s.toks) (fun b o hb e => (sb.2 b hb).trans e) f0 f1 f3 f4 f5
    obtain ⟨o, e, c, d⟩ := id st'
    exact ⟨u, rfl, go_of (s := { s with heap := h' }) e c d (by decide) ⟨x, H, I1, ru, ⟨rfl, fun ys hy => by rw [I.tuple_inj hy hq]; exact hx⟩, st', fun b hb => (hf b hb).1⟩⟩
  done := by
    intro X hP hw hK hB i pins s σ H E I hf st hg
    subst hP hw hK
    obtain ⟨xs, hq, hx⟩ := hg
    obtain ⟨its, rv, p, hz⟩ := I.tuple hq
    obtain ⟨f0, f1, f2, f3, f4, f5⟩ := hf it (by simp)
    have hl := rv.length
    exact DQ.tuple_end I.qh st (show s.heap.IsTuple a its.toArray from p) (by simp; omega) fun h' eb => ⟨rfl, I.turned (t' := s.toks) (fun b o hb e => eb b o hb e) f0 f1 f3 f4 f5⟩
  self := fun _ _ _ _ _ st h => wpAny_pyIter_tupleiter st h
theorem turn_range {P : Program} {w : World} {K : PySem.W.Frag} {B : Around} {tg : Expr} (it : Addr) (lo : Int) (n : Nat) : Turn P w K B tg (Itr lo n) [it] it (fun i h => IsRangeIter h it (lo + (i : Nat) * 1) ((n : Int) - (i : Nat)) 1) where
  mem := by simp
  obj := fun i h st b hb => by
    have e : b = it := by simpa using hb
    subst e
    exact ⟨_, st, fun v z => by
      have z' : Data.fields _ = Data.cell v := z
      cases z'⟩
  keep := fun i h h' st k => k it (by simp) _ st
  item := by
    intro X hP hw hK hB i pins s σ H E I hf st hg
    subst hP hw hK
    obtain ⟨f0, f1, f2, f3, f4, f5⟩ := hf it (by simp)
    have hlt : i < n := hg
    refine wpAny_pyNext_range_item st (by omega) fun h' st' sb => ?_
    have I1 : Inv X pins σ H { s with heap := h', toks := s.toks + 1 } := I.turned (fun b o hb e => (sb.2 b hb).trans e) f0 f1 f3 f4 f5
    have st2 : IsRangeIter h' it (lo + ((i + 1 : Nat) : Int) * 1) ((n : Int) - ((i + 1 : Nat) : Int)) 1 := by
      have e1 : lo + ((i + 1 : Nat) : Int) * 1 = lo + (i : Nat) * 1 + 1 := by omega
      have e2 : (n : Int) - ((i + 1 : Nat) : Int) = (n : Int) - (i : Nat) - 1 := by omega
      rw [e1, e2]
      exact st'
    refine ⟨_, rfl, go_of (s := { s with heap := h', toks := s.toks + 1 }) (n := "range_iterator") st2 rfl rfl (by decide) ⟨.int (lo + i), H, I1, ⟨s.toks, ?_⟩, ⟨rfl, rfl⟩, st2, fun b hb => (hf b hb).1⟩⟩
    rw [Int.mul_one]
  done := by
    intro X hP hw hK hB i pins s σ H E I hf st hg
    subst hP hw hK
    obtain ⟨f0, f1, f2, f3, f4, f5⟩ := hf it (by simp)
    exact DQ.range_end I.qh st (by have : n ≤ i := hg; omega) fun h' eb => ⟨rfl, I.turned (t' := s.toks) (fun b o hb e => eb b o hb e) f0 f1 f3 f4 f5⟩
  self := fun _ _ _ _ _ st h => wpAny_pyIter_rangeiter st h
end L2

namespace L2
open PySem PySem.Spec PyProof.Rows
section
variable {X : Cx} {tg : Expr}
theorem range_it {pins : List (Addr × Obj)} {σ : St} {H : Hp} {s : Shared} {R : It → Hp → Prop} {E : Value → Shared → Prop} {lo hi : Int} {t u v : Tok} {tk : Nat} (I : Inv X pins σ H s) (h1 : -(2 ^ 62) ≤ lo) (h2 : lo < 2 ^ 62) (h3 : -(2 ^ 62) ≤ hi) (h4 : hi < 2 ^ 62)
    (q : R (Itr lo (hi - lo).toNat) H) : wpAny (model X.prog X.w) X.A (pyIter (.ref s.heap.objs.size)) (PIE X pins σ tg R) E { s with heap := s.heap.push { cls := .type "range", data := .fields #[.int lo t, .int hi u, .int 1 v] }, toks := tk } := by
  refine wpAny_pyIter_range (IsRange.new ..) (small_one h1 h2 h3 h4) ?_
  have I1 : Inv X pins σ H { s with heap := s.heap.push { cls := .type "range", data := .fields #[.int lo t, .int hi u, .int 1 v] }, toks := tk } := I.kept fun b o e => Heap.get?_push_of_some _ e
  refine ⟨(s.heap.push { cls := .type "range", data := .fields #[.int lo t, .int hi u, .int 1 v] }).objs.size, [(s.heap.push { cls := .type "range", data := .fields #[.int lo t, .int hi u, .int 1 v] }).objs.size], _, _, H, rfl,
    I1.kept (t' := tk) fun b o e => Heap.get?_push_of_some _ e, turn_range _ lo (hi - lo).toNat, ?_, fun b hb => ?_, q⟩
  · have e1 : lo + ((0 : Nat) : Int) * 1 = lo := by simp
    have e2 : (((hi - lo).toNat : Nat) : Int) - ((0 : Nat) : Int) = Builtin.Range.rangeSize lo hi 1 := by rw [rangeSize_one]; split <;> omega
    show IsRangeIter _ _ (lo + ((0 : Nat) : Int) * 1) ((((hi - lo).toNat : Nat) : Int) - ((0 : Nat) : Int)) 1
    rw [e1, e2]
    exact Heap.get?_push_size _ rfl
  · have e : b = (s.heap.push { cls := .type "range", data := .fields #[.int lo t, .int hi u, .int 1 v] }).objs.size := by simpa using hb
    subst e
    exact I1.fpOk (Nat.le_refl _) (I1.hok.fresh (Nat.le_refl _))
noncomputable def iRng1 (ta : TA) : TI := fun σ H R => ta σ H fun vs H1 => ∃ j : Int, vs = [.int j] ∧ -(2 ^ 62) ≤ j ∧ j < 2 ^ 62 ∧ R (Itr 0 j.toNat) H1
theorem pi_range1 {a : Expr} {ta : TA} {p pos : Pos} (hg : Gl X "range") (hm : X.mg "range" = none) (ha : PA X [a] ta) (hs : starEach [a] X.env = [(false, eval a X.env)] := by rfl) : PI X tg (.Call (.Name "range" p) [a] [] pos) (iRng1 ta) := by
  intro pins s σ H R I h
  refine Call_ (ld_blt I hg hm boot_range (PyProof.Rows.callWith_type1 (thn (ha pos pins s σ H _ I h) fun us s1 ⟨vs, H1, I1, r1, q1⟩ => ?_) hs rfl))
  obtain ⟨j, e, q1, q2, q⟩ := q1
  subst e
  cases r1 with
  | cons r rr =>
    cases rr
    obtain ⟨t, rfl⟩ := r
    exact call_range_1 (range_it I1 (by omega) (by omega) q1 q2 (by simpa using q))
noncomputable def tFor (wi : TI) (g : TG) (tb : TS) : TS := fun D σ H => wi σ H fun J H1 => ∃ W : Nat → Nat → St → Hp → Prop, (∃ m, W 0 m σ H1) ∧ ∀ i m σ H, W i m σ H →
  (J.stop i H ∧ D.nx σ H) ∨ (J.go i H ∧ ∃ N : St → Hp → Prop, (∀ σ' H', N σ' H' → ∃ m', m' < m ∧ W (i + 1) m' σ' H') ∧ ∀ x H', J.yld i H x H' → g x σ H' fun σ2 H2 => tb { D with nx := N, ct := N, bk := D.nx } σ2 H2)
noncomputable def pinsAt (fp : List Addr) (h : Heap) : List (Addr × Obj) := fp.filterMap fun b => (h.get? b).map fun o => (b, o)
theorem mem_pinsAt {fp : List Addr} {h : Heap} {b : Addr} {o : Obj} (hb : b ∈ fp) (e : h.get? b = some o) : (b, o) ∈ pinsAt fp h := List.mem_filterMap.mpr ⟨b, hb, by rw [e]; rfl⟩
theorem of_pinsAt {fp : List Addr} {h : Heap} {p : Addr × Obj} (hp : p ∈ pinsAt fp h) : p.1 ∈ fp ∧ h.get? p.1 = some p.2 := by
  obtain ⟨b, hb, e⟩ := List.mem_filterMap.mp hp
  cases q : h.get? b with
  | none => rw [q] at e; cases e
  | some o =>
    rw [q] at e
    have e' : (b, o) = p := Option.some.inj e
    subst e'
    exact ⟨hb, q⟩
theorem Inv.pinned {pins : List (Addr × Obj)} {σ : St} {H : Hp} {s : Shared} {fp : List Addr} (I : Inv X pins σ H s) (hf : ∀ b ∈ fp, FpOk X pins H b) (ho : ∀ b ∈ fp, ∃ o, s.heap.get? b = some o ∧ ∀ v, o.data ≠ .cell v) : Inv X (pins ++ pinsAt fp s.heap) σ H s :=
  I.pins_of fun p hp => (List.mem_append.mp hp).elim (fun z => I.pin p (List.mem_append_right _ z)) fun z => by
    obtain ⟨hb, e⟩ := of_pinsAt z
    obtain ⟨f0, f1, f2, _⟩ := hf p.1 hb
    obtain ⟨o, e', d⟩ := ho p.1 hb
    rw [e] at e'; cases e'
    exact ⟨e, f0, f1, f2, d⟩
theorem Inv.unpinned {pins pl : List (Addr × Obj)} {σ : St} {H : Hp} {s : Shared} (I : Inv X (pins ++ pl) σ H s) : Inv X pins σ H s := I.pins_of fun p hp => I.pin p (List.mem_append_right _ (List.mem_append_left _ hp))
theorem ps_for {iter : Expr} {body : List Stmt} {wi : TI} {g : TG} {tb : TS} {pos : Pos} (hp : PassesOwn (model X.prog X.w) X.A X.env X.xe) (hi : PI X tg iter wi) (hg : PG X tg g) (hb : PSs X body tb)
    (hs : ∀ x, foldedSetIterable iter X.env x = pure x := by intro _; rfl) : PS X (.For tg iter body [] pos) (tFor wi g tb) := by
  intro pins s σ H D I h
  refine wpAny_For (thn (hi pins s σ H _ I h) fun v s1 h1 => thn h1 fun itv s2 h2 => ?_) hs
  obtain ⟨it, fp, tn, J, H2, e, I2, T, st2, f2, W, ⟨m0, w0⟩, turn⟩ := h2
  subst e
  -- what stays true of the iterator's objects through the loop
  have stat : ∀ {H' : Hp}, (∀ b ∈ fp, H' b = none) → ∀ b ∈ fp, FpOk X pins H' b := fun hn b hb => ⟨hn b hb, (f2 b hb).2⟩
  refine codeAny_forLoop_any (fun n s' => ∃ i σ' H', Inv X pins σ' H' s' ∧ tn i s'.heap ∧ (∀ b ∈ fp, H' b = none) ∧ W i n σ' H') ?_ m0 ⟨0, σ, H2, I2, st2, fun b hb => (f2 b hb).1, w0⟩
  rintro n s3 ⟨i, σ3, H3, I3, st3, fr3, w3⟩
  rcases turn i n σ3 H3 w3 with ⟨stop, qn⟩ | ⟨go, N, hN, step⟩
  · refine wpAny_passesOwn hp (thn (T.done X rfl rfl rfl rfl i pins s3 σ3 H3 X.xe I3 (stat fr3) st3 stop) fun r s4 ⟨hr, I4⟩ => ?_)
    subst hr
    exact wpAny_execs_nil ⟨σ3, H3, I4, qn⟩
  · refine wpAny_passesOwn hp (thn (T.item X rfl rfl rfl rfl i pins s3 σ3 H3 X.xe I3 (stat fr3) st3 go) fun r s4 ⟨u, hr, h4⟩ => ?_)
    subst hr
    refine wpAny_passesOwn hp (thn h4 fun _ s5 ⟨x, H5, I5, r5, y5, st5, fr5⟩ => ?_)
    have I5' := I5.pinned (stat fr5) (T.obj _ _ st5)
    refine wpAny_passesOwn hp (thn (hg _ s5 σ3 H5 x u _ I5' r5 (step x H5 y5)) fun _ s6 ⟨σ6, H6, I6, q6⟩ => ?_)
    refine wpAny_passesOwn hp (thn (hb _ s6 σ6 H6 _ I6 q6) fun f s7 q7 => ?_)
    have again : ∀ {σ7 : St} {H7 : Hp}, Inv X (pins ++ pinsAt fp s5.heap) σ7 H7 s7 → N σ7 H7 → ∃ m, m < n ∧ ∃ i σ' H', Inv X pins σ' H' s7 ∧ tn i s7.heap ∧ (∀ b ∈ fp, H' b = none) ∧ W i m σ' H' := fun {σ7 H7} I7 n7 => by
      obtain ⟨m', hm, w7⟩ := hN σ7 H7 n7
      refine ⟨m', hm, i + 1, σ7, H7, I7.unpinned, T.keep _ _ _ st5 fun b hb o e => (I7.pin (b, o) (List.mem_append_right _ (List.mem_append_right _ (mem_pinsAt hb e)))).1, fun b hb => ?_, w7⟩
      obtain ⟨o, e, d⟩ := T.obj _ _ st5 b hb
      exact (I7.pin (b, o) (List.mem_append_right _ (List.mem_append_right _ (mem_pinsAt hb e)))).2.1
    cases f with
    | next => obtain ⟨σ7, H7, I7, n7⟩ := q7; exact again I7 n7
    | cont => obtain ⟨σ7, H7, I7, n7⟩ := q7; exact again I7 n7
    | brk => obtain ⟨σ7, H7, I7, q7⟩ := q7; exact ⟨σ7, H7, I7.unpinned, q7⟩
    | ret v => obtain ⟨x7, σ7, H7, I7, r7, q7⟩ := q7; exact ⟨x7, σ7, H7, I7.unpinned, r7, q7⟩
end

theorem for_list {K : PySem.W.Frag} {a : Addr} {xs : List V} {g : TG} {tb : TS} {D : Ends} {σ : St} {H : Hp} (Pv : Nat → St → Hp → Prop) (h0 : Pv 0 σ H) (hl : ∀ i σ H, i ≤ xs.length → Pv i σ H → SqL K H a xs)
    (hs : ∀ i x σ H, xs[i]? = some x → Pv i σ H → g x σ H fun σ2 H2 => tb { D with nx := Pv (i + 1), ct := Pv (i + 1), bk := D.nx } σ2 H2) (hd : ∀ σ H, Pv xs.length σ H → D.nx σ H) :
    ∃ W : Nat → Nat → St → Hp → Prop, (∃ m, W 0 m σ H) ∧ ∀ i m σ H, W i m σ H →
      ((Itl K a).stop i H ∧ D.nx σ H) ∨ ((Itl K a).go i H ∧ ∃ N : St → Hp → Prop, (∀ σ' H', N σ' H' → ∃ m', m' < m ∧ W (i + 1) m' σ' H') ∧ ∀ x H', (Itl K a).yld i H x H' → g x σ H' fun σ2 H2 => tb { D with nx := N, ct := N, bk := D.nx } σ2 H2) := by
  refine ⟨fun i m σ H => m = xs.length - i ∧ i ≤ xs.length ∧ Pv i σ H, ⟨xs.length, by simp, Nat.zero_le _, h0⟩, ?_⟩
  rintro i m σ H ⟨rfl, hi, p⟩
  have q := hl i σ H hi p
  by_cases hlt : i < xs.length
  · refine .inr ⟨⟨xs, xs[i], q, by simp [hlt]⟩, Pv (i + 1), fun σ' H' p' => ⟨xs.length - (i + 1), by omega, rfl, hlt, p'⟩, fun x H' y => ?_⟩
    obtain ⟨e, y⟩ := y
    subst e
    exact hs i x σ _ (y xs q) p
  · have e : i = xs.length := by omega
    subst e
    exact .inl ⟨⟨xs, q, Nat.le_refl _⟩, hd σ H p⟩
theorem for_tup {K : PySem.W.Frag} {a : Addr} {xs : List V} {g : TG} {tb : TS} {D : Ends} {σ : St} {H : Hp} (Pv : Nat → St → Hp → Prop) (h0 : Pv 0 σ H) (hl : ∀ i σ H, i ≤ xs.length → Pv i σ H → SqT K H a xs)
    (hs : ∀ i x σ H, xs[i]? = some x → Pv i σ H → g x σ H fun σ2 H2 => tb { D with nx := Pv (i + 1), ct := Pv (i + 1), bk := D.nx } σ2 H2) (hd : ∀ σ H, Pv xs.length σ H → D.nx σ H) :
    ∃ W : Nat → Nat → St → Hp → Prop, (∃ m, W 0 m σ H) ∧ ∀ i m σ H, W i m σ H →
      ((Itt K a).stop i H ∧ D.nx σ H) ∨ ((Itt K a).go i H ∧ ∃ N : St → Hp → Prop, (∀ σ' H', N σ' H' → ∃ m', m' < m ∧ W (i + 1) m' σ' H') ∧ ∀ x H', (Itt K a).yld i H x H' → g x σ H' fun σ2 H2 => tb { D with nx := N, ct := N, bk := D.nx } σ2 H2) := by
  refine ⟨fun i m σ H => m = xs.length - i ∧ i ≤ xs.length ∧ Pv i σ H, ⟨xs.length, by simp, Nat.zero_le _, h0⟩, ?_⟩
  rintro i m σ H ⟨rfl, hi, p⟩
  have q := hl i σ H hi p
  by_cases hlt : i < xs.length
  · refine .inr ⟨⟨xs, xs[i], q, by simp [hlt]⟩, Pv (i + 1), fun σ' H' p' => ⟨xs.length - (i + 1), by omega, rfl, hlt, p'⟩, fun x H' y => ?_⟩
    obtain ⟨e, y⟩ := y
    subst e
    exact hs i x σ _ (y xs q) p
  · have e : i = xs.length := by omega
    subst e
    exact .inl ⟨⟨xs, q, Nat.le_refl _⟩, hd σ H p⟩
theorem for_range {lo : Int} {n : Nat} {g : TG} {tb : TS} {D : Ends} {σ : St} {H : Hp} (Pv : Nat → St → Hp → Prop) (h0 : Pv 0 σ H)
    (hs : ∀ i σ H, i < n → Pv i σ H → g (.int (lo + i)) σ H fun σ2 H2 => tb { D with nx := Pv (i + 1), ct := Pv (i + 1), bk := D.nx } σ2 H2) (hd : ∀ σ H, Pv n σ H → D.nx σ H) :
    ∃ W : Nat → Nat → St → Hp → Prop, (∃ m, W 0 m σ H) ∧ ∀ i m σ H, W i m σ H →
      ((Itr lo n).stop i H ∧ D.nx σ H) ∨ ((Itr lo n).go i H ∧ ∃ N : St → Hp → Prop, (∀ σ' H', N σ' H' → ∃ m', m' < m ∧ W (i + 1) m' σ' H') ∧ ∀ x H', (Itr lo n).yld i H x H' → g x σ H' fun σ2 H2 => tb { D with nx := N, ct := N, bk := D.nx } σ2 H2) := by
  refine ⟨fun i m σ H => m = n - i ∧ i ≤ n ∧ Pv i σ H, ⟨n, by simp, Nat.zero_le _, h0⟩, ?_⟩
  rintro i m σ H ⟨rfl, hi, p⟩
  by_cases hlt : i < n
  · refine .inr ⟨hlt, Pv (i + 1), fun σ' H' p' => ⟨n - (i + 1), by omega, rfl, hlt, p'⟩, fun x H' y => ?_⟩
    obtain ⟨e, y⟩ := y
    subst e y
    exact hs i σ _ hlt p
  · have e : i = n := by omega
    subst e
    exact .inl ⟨Nat.le_refl _, hd σ H p⟩
end L2

namespace L2
open PySem PySem.Spec PyProof.Rows

noncomputable abbrev R2 := V → V → Hp → VK → Prop
noncomputable def OpR (X : Cx) (f : Value → Value → Sem Value) (r : R2) : Prop :=
  ∀ (pins : List (Addr × Obj)) (s : Shared) (σ : St) (H : Hp) (x y : V) (v u : Value) (Q : VK), Inv X pins σ H s → RelV x v → RelV y u → r x y H Q →
    wpAny (model X.prog X.w) X.A (f v u) (EP X pins σ Q) X.xe s
noncomputable def UnR (X : Cx) (f : Value → Sem Value) (r : V → Hp → VK → Prop) : Prop :=
  ∀ (pins : List (Addr × Obj)) (s : Shared) (σ : St) (H : Hp) (x : V) (v : Value) (Q : VK), Inv X pins σ H s → RelV x v → r x H Q →
    wpAny (model X.prog X.w) X.A (f v) (EP X pins σ Q) X.xe s
noncomputable def CallR (X : Cx) (f : Value) (r : List V → Hp → VK → Prop) : Prop :=
  ∀ (pins : List (Addr × Obj)) (s : Shared) (σ : St) (H : Hp) (xs : List V) (us : List Value) (Q : VK), Inv X pins σ H s → Vals xs us → r xs H Q →
    wpAny (model X.prog X.w) X.A (call f us) (EP X pins σ Q) X.xe s
noncomputable def tOp (r : R2) (ta tb : TE) : TE := fun σ H Q => ta σ H fun x H1 => tb σ H1 fun y H2 => r x y H2 Q
noncomputable def tUn (r : V → Hp → VK → Prop) (ta : TE) : TE := fun σ H Q => ta σ H fun x H1 => r x H1 Q
noncomputable def rI (C : Int → Int → Prop) (g : Int → Int → V) : R2 := fun x y H Q => ∃ i j, x = .int i ∧ y = .int j ∧ C i j ∧ Q (g i j) H
noncomputable def rI0 (g : Int → Int → V) : R2 := fun x y H Q => ∃ i j, x = .int i ∧ y = .int j ∧ Q (g i j) H
noncomputable def rU (g : Int → V) : V → Hp → VK → Prop := fun x H Q => ∃ i, x = .int i ∧ Q (g i) H

section
variable {X : Cx} {a b c : Expr} {ta tb tc : TE} {pos : Pos}

theorem binT (ha : PE X a ta) (hb : PE X b tb) {pins : List (Addr × Obj)} {s : Shared} {σ : St} {H : Hp} {R : V → V → Hp → Prop} (I : Inv X pins σ H s)
    (h : ta σ H fun x H1 => tb σ H1 fun y H2 => R x y H2) {Q : Value → Shared → Prop} {f : Value → Value → Sem Value}
    (hf : ∀ v u s2 x y H2, Inv X pins σ H2 s2 → RelV x v → RelV y u → R x y H2 → wpAny (model X.prog X.w) X.A (f v u) Q X.xe s2) :
    wpAny (model X.prog X.w) X.A (eval a X.env) (fun v s₁ => wpAny (model X.prog X.w) X.A (eval b X.env) (fun u s₂ => wpAny (model X.prog X.w) X.A (f v u) Q X.xe s₂) X.xe s₁) X.xe s := by
  refine thn (ha pins s σ H _ I h) fun v s1 ⟨x, H1, I1, r1, q1⟩ => ?_
  refine thn (hb pins s1 σ H1 _ I1 q1) fun u s2 ⟨y, H2, I2, r2, q2⟩ => ?_
  exact hf v u s2 x y H2 I2 r1 r2 q2

theorem pe_op {op : Operator} {r : R2} (ho : OpR X (binaryOp op) r) (ha : PE X a ta) (hb : PE X b tb) : PE X (.BinOp a op b pos) (tOp r ta tb) := by
  intro pins s σ H Q I h
  exact wpAny_BinOp (binT ha hb I h fun v u s2 x y H2 I2 rx ry q => ho pins s2 σ H2 x y v u Q I2 rx ry q)
theorem pe_un {op : UnaryOp} {r : V → Hp → VK → Prop} (ho : UnR X (unaryOp op) r) (ha : PE X a ta) : PE X (.UnaryOp op a pos) (tUn r ta) := by
  intro pins s σ H Q I h
  exact UnaryOp_ (thn (ha pins s σ H _ I h) fun v s1 ⟨x, H1, I1, r1, q1⟩ => ho pins s1 σ H1 x v Q I1 r1 q1)
theorem opI {f : Value → Value → Sem Value} {C : Int → Int → Prop} {g : Int → Int → Int}
    (rule : ∀ (i j : Int) (t u : Tok) (s : Shared) (Q : Value → Shared → Prop) (E : Value → Shared → Prop), C i j → Q (.int (g i j) s.toks) { s with toks := s.toks + 1 } → wpAny (model X.prog X.w) X.A (f (.int i t) (.int j u)) Q E s) :
    OpR X f (rI C fun i j => .int (g i j)) := by
  intro pins s σ H x y v u Q I rx ry h
  obtain ⟨i, j, rfl, rfl, hc, q⟩ := h
  obtain ⟨t, rfl⟩ := rx
  obtain ⟨t', rfl⟩ := ry
  exact rule i j t t' s _ _ hc ⟨.int (g i j), H, I.tok _, ⟨_, rfl⟩, q⟩
theorem opI0 {f : Value → Value → Sem Value} {g : Int → Int → Int}
    (rule : ∀ (i j : Int) (t u : Tok) (s : Shared) (Q : Value → Shared → Prop) (E : Value → Shared → Prop), Q (.int (g i j) s.toks) { s with toks := s.toks + 1 } → wpAny (model X.prog X.w) X.A (f (.int i t) (.int j u)) Q E s) :
    OpR X f (rI0 fun i j => .int (g i j)) := by
  intro pins s σ H x y v u Q I rx ry h
  obtain ⟨i, j, rfl, rfl, q⟩ := h
  obtain ⟨t, rfl⟩ := rx
  obtain ⟨t', rfl⟩ := ry
  exact rule i j t t' s _ _ ⟨.int (g i j), H, I.tok _, ⟨_, rfl⟩, q⟩
theorem opB0 {f : Value → Value → Sem Value} {g : Int → Int → Bool}
    (rule : ∀ (i j : Int) (t u : Tok) (s : Shared) (Q : Value → Shared → Prop) (E : Value → Shared → Prop), Q (.bool (g i j)) s → wpAny (model X.prog X.w) X.A (f (.int i t) (.int j u)) Q E s) :
    OpR X f (rI0 fun i j => .bl (g i j)) := by
  intro pins s σ H x y v u Q I rx ry h
  obtain ⟨i, j, rfl, rfl, q⟩ := h
  obtain ⟨t, rfl⟩ := rx
  obtain ⟨t', rfl⟩ := ry
  exact rule i j t t' s _ _ ⟨.bl (g i j), H, I, rfl, q⟩

noncomputable def CPow (i j : Int) : Prop := 0 ≤ j ∧ j ≤ 1000000 ∧ i.natAbs < 2 ^ 64
theorem op_add : OpR X (binaryOp .Add) (rI0 fun i j => .int (i + j)) := opI0 fun _ _ _ _ _ _ _ q => add_int q
theorem op_sub : OpR X (binaryOp .Sub) (rI0 fun i j => .int (i - j)) := opI0 fun _ _ _ _ _ _ _ q => sub_int q
theorem op_modN : OpR X (binaryOp .Mod) (rI (fun _ j => j ≠ 0) fun i j => .int (i.fmod j)) := opI fun _ _ _ _ _ _ _ hc q => mod_int' hc q
theorem op_pow : OpR X (binaryOp .Pow) (rI CPow fun i j => .int (i ^ j.toNat)) := opI fun _ _ _ _ _ _ _ hc q => pow_int_small hc.1 hc.2.1 hc.2.2 q
theorem unI {f : Value → Sem Value} {g : Int → Int}
    (rule : ∀ (i : Int) (t : Tok) (s : Shared) (Q : Value → Shared → Prop) (E : Value → Shared → Prop), Q (.int (g i) s.toks) { s with toks := s.toks + 1 } → wpAny (model X.prog X.w) X.A (f (.int i t)) Q E s) :
    UnR X f (rU fun i => .int (g i)) := by
  intro pins s σ H x v Q I rx h
  obtain ⟨i, rfl, q⟩ := h
  obtain ⟨t, rfl⟩ := rx
  exact rule i t s _ _ ⟨.int (g i), H, I.tok _, ⟨_, rfl⟩, q⟩
theorem un_neg : UnR X (unaryOp .USub) (rU fun i => .int (-i)) := unI fun _ _ _ _ _ q => neg_int q
end

section
variable {X : Cx} {a b c : Expr} {ta tb tc : TE} {pos : Pos}
theorem op_lt : OpR X (compareOp .Lt) (rI0 fun i j => .bl (decide (i < j))) := opB0 fun _ _ _ _ _ _ _ q => lt_int q
theorem op_le : OpR X (compareOp .LtE) (rI0 fun i j => .bl (decide (i ≤ j))) := opB0 fun _ _ _ _ _ _ _ q => le_int q
theorem op_gt : OpR X (compareOp .Gt) (rI0 fun i j => .bl (decide (j < i))) := opB0 fun _ _ _ _ _ _ _ q => gt_int q
theorem op_ge : OpR X (compareOp .GtE) (rI0 fun i j => .bl (decide (j ≤ i))) := opB0 fun _ _ _ _ _ _ _ q => ge_int q
theorem OpR.or {f : Value → Value → Sem Value} {r r' : R2} (h : OpR X f r) (h' : OpR X f r') : OpR X f (fun x y H Q => r x y H Q ∨ r' x y H Q) := by
  intro pins s σ H x y v u Q I rx ry q
  rcases q with q | q
  · exact h pins s σ H x y v u Q I rx ry q
  · exact h' pins s σ H x y v u Q I rx ry q

theorem nomark (b : Expr) {op : CmpOp} (h : op ≠ .In := by decide) (h2 : op ≠ .NotIn := by decide) : behindInMarks op b = false := by
  have e1 : (op == CmpOp.In) = false := by cases op <;> first | rfl | exact absurd rfl h
  have e2 : (op == CmpOp.NotIn) = false := by cases op <;> first | rfl | exact absurd rfl h2
  cases b <;> simp [behindInMarks, e1, e2]
theorem pe_cmpR {op : CmpOp} {r : R2} (ho : OpR X (compareOp op) r) (ha : PE X a ta) (hb : PE X b tb) (hm : behindInMarks op b = false) : PE X (.Compare a [op] [b] pos) (tOp r ta tb) := by
  intro pins s σ H Q I h
  exact wpAny_Compare1 (binT ha hb I h fun v u s2 x y H2 I2 rx ry q => ho pins s2 σ H2 x y v u Q I2 rx ry q) hm
noncomputable def tTest (t : TE) : TT := fun σ H Q => t σ H fun x H' => ∃ k, x = .bl k ∧ Q k H'
theorem pt_cmpR {op : CmpOp} {r : R2} (ho : OpR X (compareOp op) r) (ha : PE X a ta) (hb : PE X b tb) (hm : behindInMarks op b = false) : PT X (.Compare a [op] [b] pos) (tTest (tOp r ta tb)) := by
  intro pins s σ H Q I h
  refine wpAny_isTrue_Compare1 (thn (ha pins s σ H _ I h) fun v s1 ⟨x, H1, I1, r1, q1⟩ => thn (hb pins s1 σ H1 _ I1 q1) fun u s2 ⟨y, H2, I2, r2, q2⟩ =>
    thn (ho pins s2 σ H2 x y v u _ I2 r1 r2 q2) fun c s3 ⟨z, H3, I3, r3, k, e, q3⟩ => ?_) hm
  subst e
  cases r3
  exact wpAny_truthy_bool ⟨H3, I3, q3⟩
theorem line63 : (sizeLine : Nat) < 2 ^ 63 := by rw [sizeLine_eq]; decide
theorem op_add_str : OpR X (binaryOp .Add) (fun x y H Q => ∃ i j, x = .str i ∧ y = .str j ∧ i.length + j.length ≤ sizeLine ∧ Q (.str (i ++ j)) H) := by
  intro pins s σ H x y v u Q I rx ry h
  obtain ⟨i, j, rfl, rfl, hz, q⟩ := h
  obtain ⟨t, rfl⟩ := rx
  obtain ⟨t', rfl⟩ := ry
  exact add_str (fun t' tk => ⟨.str (i ++ j), H, I.tok _, ⟨_, rfl⟩, q⟩) hz
theorem vals1 {x : V} {us : List Value} (r : Vals [x] us) : ∃ u, us = [u] ∧ RelV x u := by
  cases r with
  | cons r1 r2 => cases r2; exact ⟨_, rfl, r1⟩
theorem vals2 {x y : V} {us : List Value} (r : Vals [x, y] us) : ∃ u w', us = [u, w'] ∧ RelV x u ∧ RelV y w' := by
  cases r with
  | cons r1 r2 =>
    cases r2 with
    | cons r3 r4 => cases r4; exact ⟨_, _, rfl, r1, r3⟩
theorem call_abs : CallR X (.builtin "abs") (fun xs H Q => ∃ i, xs = [.int i] ∧ Q (.int (if i < 0 then -i else i)) H) := by
  intro pins s σ H xs us Q I r h
  obtain ⟨i, rfl, q⟩ := h
  obtain ⟨u, rfl, t, rfl⟩ := vals1 r
  exact call_abs_int fun u tk => ⟨.int (if i < 0 then -i else i), H, I.tok _, ⟨_, rfl⟩, q⟩
theorem call_max2 (hc : X.calm = true) : CallR X (.builtin "max") (fun xs H Q => ∃ i j, xs = [.int i, .int j] ∧ Q (.int (if j > i then j else i)) H) := by
  intro pins s σ H xs us Q I r h
  obtain ⟨i, j, rfl, q⟩ := h
  obtain ⟨u, w', rfl, ⟨t, rfl⟩, ⟨t', rfl⟩⟩ := vals2 r
  refine max_two_ints (I.ok.hd hc) fun h' tk k => ⟨_, H, I.kept k, ?_, q⟩
  by_cases hj : j > i
  · rw [if_pos hj, if_pos hj]; exact ⟨_, rfl⟩
  · rw [if_neg hj, if_neg hj]; exact ⟨_, rfl⟩
theorem call_min2 (hc : X.calm = true) : CallR X (.builtin "min") (fun xs H Q => ∃ i j, xs = [.int i, .int j] ∧ Q (.int (if j < i then j else i)) H) := by
  intro pins s σ H xs us Q I r h
  obtain ⟨i, j, rfl, q⟩ := h
  obtain ⟨u, w', rfl, ⟨t, rfl⟩, ⟨t', rfl⟩⟩ := vals2 r
  refine min_two_ints (I.ok.hd hc) fun h' tk k => ⟨_, H, I.kept k, ?_, q⟩
  by_cases hj : j < i
  · rw [if_pos hj, if_pos hj]; exact ⟨_, rfl⟩
  · rw [if_neg hj, if_neg hj]; exact ⟨_, rfl⟩
theorem call_int1 : CallR X (.type "int") (fun xs H Q => (∃ i, xs = [.int i] ∧ Q (.int i) H) ∨ ∃ k, xs = [.bl k] ∧ Q (.int (if k then 1 else 0)) H) := by
  intro pins s σ H xs us Q I r h
  rcases h with ⟨i, rfl, q⟩ | ⟨k, rfl, q⟩
  · obtain ⟨u, rfl, t, rfl⟩ := vals1 r
    exact call_int_int ⟨.int i, H, I, ⟨_, rfl⟩, q⟩
  · obtain ⟨u, rfl, r1⟩ := vals1 r
    cases r1
    exact call_int_bool ⟨.int (if k then 1 else 0), H, I.tok _, ⟨_, rfl⟩, q⟩
end
end L2

namespace L2
open PySem PySem.Spec PyProof.Rows

section
variable {prog : Program} {w : World} {A : Around} {E : Value → Shared → Prop} {s : Shared} {K : PySem.W.Frag} {x dx C f : Addr} {mA : Str → Option Value} {name : Str} {v : Value}

end

theorem RelO.some_of {v : V} {o : Option Value} (r : RelO (some v) o) : ∃ u, o = some u ∧ RelV v u := by
  cases o with
  | none => exact (show False from r).elim
  | some u => exact ⟨u, rfl, r⟩
section
variable {P : Program} {w : World} {H H' : Hp} {h h' : Heap} {a C dx : Addr} {fs fs' : List (Str × V)}
end

section
variable {X : Cx} {pins : List (Addr × Obj)} {σ : St} {H : Hp} {s : Shared} {a C dx : Addr} {fs : List (Str × V)} {f : Str} {v : V} {A : Around} {E : Value → Shared → Prop}

end

section
variable {X : Cx} {o e value : Expr} {f : Str} {pos pos' tpos : Pos} {ta tv : TE}
end

section
variable {X : Cx} {pins : List (Addr × Obj)} {σ : St} {H : Hp} {s : Shared} {A : Around} {E : Value → Shared → Prop} {Q : Value → Shared → Prop} {c : Value} {b : Bool}
end
end L2

namespace L2
open PySem PySem.Spec PyProof.Rows

structure Room (k : Nat) (A : Around) : Prop where
  hd : 100 ≤ k → A.handled = none
  dp : A.depth + 3 * k + 5 < recursionLimit
  un : A.units + 16 * k + 200 < cLine
theorem Room.mono {j k : Nat} {A : Around} (r : Room k A) (h : j ≤ k) : Room j A := ⟨fun z => r.hd (Nat.le_trans z h), by have := r.dp; omega, by have := r.un; omega⟩
theorem Room.deeper {k : Nat} {A : Around} (r : Room (k + 1) A) (env : Env) : Room k (A.deeper env) :=
  ⟨fun z => r.hd (Nat.le_succ_of_le z), by have := r.dp; show A.depth + 1 + 3 * k + 5 < _; omega, by have := r.un; show A.units + 3 + 16 * k + 200 < _; omega⟩
theorem Room.depth {k : Nat} {A : Around} (r : Room k A) : A.depth < recursionLimit := by have := r.dp; omega
theorem Room.units {k : Nat} {A : Around} (r : Room k A) : A.units + 64 < cLine := by have := r.un; omega
noncomputable def tNil : TA := fun _ H Q => Q [] H
noncomputable def tCons (ta : TE) (tr : TA) : TA := fun σ H Q => ta σ H fun x H1 => tr σ H1 fun xs H2 => Q (x :: xs) H2
section
variable {X : Cx} {e : Expr} {es : List Expr} {te : TE} {t : TA} {pos : Pos}
theorem pa_nil : PA X [] tNil := fun _ _ _ _ H Q I h => Calls.spliced_nil ⟨[], H, I, .nil, h⟩
theorem pa_cons (ha : PE X e te) (hr : PA X es t) (hs : starEach (e :: es) X.env = (false, eval e X.env) :: starEach es X.env := by rfl) : PA X (e :: es) (tCons te t) := by
  intro pos pins s σ H Q I h
  rw [hs]
  show wpAny _ _ (spliced ((false, eval e X.env) :: backTo pos (starEach es X.env))) _ _ s
  refine Calls.spliced_cons (thn (ha pins s σ H _ I h) fun u s1 ⟨x, H1, I1, r1, q1⟩ => ?_)
  exact thn (hr pos pins s1 σ H1 _ I1 q1) fun us s2 ⟨xs, H2, I2, r2, q2⟩ => ⟨x :: xs, H2, I2, .cons r1 r2, q2⟩

noncomputable def tTup (t : TA) : TE := fun σ H Q => t σ H fun xs H1 => xs.length ≤ sizeLine ∧ ∀ p, H1 p = none → Q (.ref p) (upd H1 p (.tup xs))
noncomputable def tLst (t : TA) : TE := fun σ H Q => t σ H fun xs H1 => xs.length ≤ sizeLine ∧ ∀ p, H1 p = none → Q (.ref p) (upd H1 p (.lst xs))
theorem pe_tup {x1} (h : PA X es t) : PE X (.Tuple es x1 pos) (tTup t) := by
  intro pins s σ H Q I hq
  refine wpAny_Tuple_spliced (thn (h pos pins s σ H _ I hq) fun us s1 ⟨xs, H1, I1, r, z, q⟩ => ⟨by rw [← r.length]; exact z, ?_⟩)
  have hf : H1 s1.heap.objs.size = none := I1.hok.fresh (Nat.le_refl _)
  refine ⟨.ref s1.heap.objs.size, upd H1 s1.heap.objs.size (.tup xs), I1.laid (t' := s1.toks) (fun b u e => Heap.get?_push_of_some _ e) (Nat.le_refl _) ?_, rfl, q _ hf⟩
  exact ⟨z, us, r, ⟨_, Heap.get?_push_size _ rfl, rfl, _, rfl⟩⟩
theorem pe_lst (h : PA X es t) : PE X (.List es pos) (tLst t) := by
  intro pins s σ H Q I hq
  refine wpAny_List_spliced (thn (h pos pins s σ H _ I hq) fun us s1 ⟨xs, H1, I1, r, z, q⟩ => ⟨by rw [← r.length]; exact z, ?_⟩)
  have hf : H1 s1.heap.objs.size = none := I1.hok.fresh (Nat.le_refl _)
  refine ⟨.ref s1.heap.objs.size, upd H1 s1.heap.objs.size (.lst xs), I1.laid (t' := s1.toks) (fun b u e => Heap.get?_push_of_some _ e) (Nat.le_refl _) ?_, rfl, q _ hf⟩
  exact ⟨z, us, 0, r, Heap.get?_push_size _ rfl⟩
end

noncomputable abbrev Sp := List V → Hp → VK → XK → Prop
noncomputable abbrev CXT := List Env → Hp → Shared → XK → Value → Shared → Prop

structure Env0 (P : Program) (w : World) (K : PySem.W.Frag) (mg : Str → Option Value) (base : Heap) (A : Around) (outer : List Env) (s : Shared) (H : Hp) : Prop where
  frames : A.frames = some outer
  mod : Mod K mg base
  bs : ∀ b o, base.get? b = some o → s.heap.get? b = some o ∧ H b = none
  bsz : base.objs.size ≤ s.heap.objs.size
  funs : s.heap.FunFrames base outer
  frf : ∀ b ∈ frs outer, H b = none
  hok : HOk P w H s.heap
  bare : AllBare s.gens
  qd : Qd A H
noncomputable def CE (outer : List Env) (P : Program) (w : World) (H : Hp) (s : Shared) (Q : VK) (u : Value) (s' : Shared) : Prop :=
  ∃ v H', s'.os = s.os ∧ AllBare s'.gens ∧ Un (frs outer) [] H H' s.heap s'.heap ∧ HOk P w H' s'.heap ∧ RelV v u ∧ Q v H'
noncomputable def CR (CX : CXT) (outer : List Env) (P : Program) (w : World) (H : Hp) (s : Shared) (Q : VK) (E : XK) (r : Result) (s' : Shared) : Prop :=
  match r with
  | .ok (.ret u) => CE outer P w H s Q u s'
  | .ok _ => False
  | .error e => CX outer H s E e s'
structure FnOk (P : Program) (w : World) (K : PySem.W.Frag) (mg : Str → Option Value) (base : Heap) (CX : CXT) (k : Nat) (f : Addr) (fd : FuncData) (ps : List Str) (sp : Sp) : Prop where
  len : ∀ vs H Q E, sp vs H Q E → vs.length = ps.length
  run : ∀ (A : Around) (outer : List Env) (s : Shared) (H : Hp) (args : Args) (us : List Value) (vs : List V) (Q : VK) (E : XK), Room k A → Env0 P w K mg base A outer s H → BindsTo s fd args (ps.zip us) → Vals vs us → sp vs H Q E →
    codeAny (model P w) A (.call (.ref f) args) (CR CX outer P w H s Q E) s
section
variable {X : Cx} {pins : List (Addr × Obj)} {σ : St} {H : Hp} {s s' : Shared}
theorem Inv.env0 (I : Inv X pins σ H s) : Env0 X.prog X.w X.K X.mg X.base X.A X.stack s H :=
  ⟨I.ok.frames, I.ok.mod, I.bs, Nat.le_trans I.ok.bsz I.sz, I.stack, I.stkFree, I.hok, I.bare, I.qd⟩
theorem Inv.after {Q : VK} {u : Value} (I : Inv X pins σ H s) (h : CE X.stack X.prog X.w H s Q u s') : EP X pins σ Q u s' := by
  obtain ⟨v, H', os, bare, un, hok, r, q⟩ := h
  obtain ⟨hh, g, d, t, os'⟩ := s'
  obtain rfl : os' = s.os := os
  exact ⟨v, H', I.call (h' := hh) (g' := g) (d' := d) (t' := t) (ch := []) un hok bare (fun b z => absurd z (by simp)), r, q⟩
end

noncomputable def tCall (sp : Sp) (dvs : List V) (E : XK) (t : TA) : TE := fun σ H Q => t σ H fun vs H1 => sp (vs ++ dvs) H1 Q E
noncomputable def Binds (K : PySem.W.Frag) (fd : FuncData) (ps : List Str) (ds : List Value) : Prop :=
  ∀ (s : Shared) (us : List Value), K.In s.heap → (us ++ ds).length = ps.length → BindsTo s fd ⟨us, []⟩ (ps.zip (us ++ ds))
theorem Binds.all {K : PySem.W.Frag} {fd : FuncData} {ps : List Str} (h : ∀ us : List Value, us.length = ps.length → bindArgs fd ⟨us, []⟩ = pure (ps.zip us)) : Binds K fd ps [] := fun s us _ hl => by
  rw [List.append_nil] at hl ⊢
  exact .of_eq (h us hl)

noncomputable def Passes (CX : CXT) (X : Cx) (E : XK) : Prop := ∀ (pins : List (Addr × Obj)) (σ : St) (H : Hp) (s : Shared) (e : Value) (s' : Shared), Inv X pins σ H s → CX X.stack H s E e s' → X.xe e s'

section
variable {X : Cx} {CX : CXT} {k : Nat} {f C : Addr} {fd : FuncData} {ps : List Str} {sp : Sp} {dvs : List V} {ds : List Value} {E : XK} {x m : Str} {p pos apos : Pos} {e o : Expr} {es : List Expr} {ta : TE} {t : TA}

theorem run_fn {pins : List (Addr × Obj)} {σ : St} {H : Hp} {s : Shared} {Q : VK} {us : List Value} {vs : List V} (F : FnOk X.prog X.w X.K X.mg X.base CX k f fd ps sp) (hr : Room k X.A) (hb : Binds X.K fd ps ds) (hd : Vals dvs ds) (hx : Passes CX X E)
    (I : Inv X pins σ H s) (r : Vals vs us) (h : sp (vs ++ dvs) H Q E) : wpAny (model X.prog X.w) X.A (call (.ref f) us) (EP X pins σ Q) X.xe s := by
  have r2 : Vals (vs ++ dvs) (us ++ ds) := r.append hd
  have hl : (us ++ ds).length = ps.length := by rw [← r2.length]; exact F.len _ _ _ _ h
  refine wpAny_call (codeAny_mono (F.run X.A X.stack s H ⟨us, []⟩ (us ++ ds) (vs ++ dvs) Q E hr I.env0 (hb s us I.kIn hl) r2 h) fun r s' hq => ?_)
  cases r with
  | error e => exact hx pins σ H s e s' I hq
  | ok fl =>
    cases fl with
    | ret u => exact I.after hq
    | next => exact False.elim hq
    | brk => exact False.elim hq
    | cont => exact False.elim hq

theorem pe_call (F : FnOk X.prog X.w X.K X.mg X.base CX k f fd ps sp) (hr : Room k X.A) (hg : Gl X x) (hm : X.mg x = some (.ref f)) (hk : PySem.W.keepIn X.K (.ref f) = true) (hb : Binds X.K fd ps ds) (hd : Vals dvs ds) (hx : Passes CX X E)
    (ha : PA X (e :: es) t) (hdb : (x == ("__debug__" : Str)) = false := by decide) (he : starEach (e :: es) X.env = (false, eval e X.env) :: starEach es X.env := by rfl) (hpl : (backTo pos (starEach es X.env)).any (·.1) = false := by rfl) :
    PE X (.Call (.Name x p) (e :: es) [] pos) (tCall sp dvs E t) := by
  intro pins s σ H Q I h
  refine wpAny_Call_Name_kw (ld_glob I hg hm ?_ hdb)
  refine PySem.W.callWith_K (h₀ := X.base) I.ok.mod.kin hk (thn (ha pos pins s σ H _ I h) fun us s1 ⟨vs, H1, I1, r, q⟩ => ⟨I1.kIn, ?_⟩) he hpl
  exact run_fn F hr hb hd hx I1 r q
end

section
variable {X : Cx} {CX : CXT} {k : Nat} {f C : Addr} {fd : FuncData} {ps ks : List Str} {sp : Sp} {E : XK} {x m : Str} {p pos apos kpos : Pos} {e o : Expr} {es : List Expr} {kws : List Keyword} {te ta : TE} {t tk : TA} {nm : Option Str}
variable {g : List Value → List Value → List Value} {gV : List V → List V → List V}
end

structure FnScope (N P : List Str) (sc : Scope) : Prop where
  kind : sc.kind = .function
  co : sc.isCoroutine = false
  gen : sc.isGenerator = false
  nd : N.Nodup
  pre : N.take P.length = P
  par : ∀ x ∈ P, sc.names.lookup x = some .local ∨ sc.names.lookup x = some .cell
  nofree : ∀ y ∈ sc.names, y.2 ≠ .free

theorem bindL_out {kindOf : Str → Option NameKind} {x : Str} : ∀ {binds : List (Str × Value)} {m : Str → Option Value}, (∀ v, (x, v) ∉ binds) → bindL kindOf binds m x = m x
  | [], _, _ => rfl
  | (n, v) :: r, m, h => by
    unfold bindL
    rw [bindL_out fun w hw => h w (List.mem_cons_of_mem _ hw)]
    split
    · have : x ≠ n := by rintro rfl; exact h v List.mem_cons_self
      simp [this]
    · rfl
theorem bindC_out {kindOf : Str → Option NameKind} {x : Str} : ∀ {binds : List (Str × Value)} {m : Str → Option Value}, (∀ v, (x, v) ∉ binds) → bindC kindOf binds m x = m x
  | [], _, _ => rfl
  | (n, v) :: r, m, h => by
    unfold bindC
    rw [bindC_out fun w hw => h w (List.mem_cons_of_mem _ hw)]
    split
    · rfl
    · have : x ≠ n := by rintro rfl; exact h v List.mem_cons_self
      simp [this]
theorem bindL_get {kindOf : Str → Option NameKind} {x : Str} {v : Value} : ∀ {P : List Str} {vs : List Value} {i : Nat} {m : Str → Option Value}, P.Nodup → P[i]? = some x → vs[i]? = some v → kindOf x = some .local →
    bindL kindOf (P.zip vs) m x = some v
  | [], _, _, _, _, h, _, _ => by simp at h
  | _ :: _, [], _, _, _, _, h, _ => by simp at h
  | p :: P, w :: vs, 0, m, nd, h1, h2, hk => by
    simp at h1 h2; subst h1; subst h2
    show bindL kindOf ((p, w) :: P.zip vs) m p = _
    unfold bindL
    rw [bindL_out fun v hv => (List.nodup_cons.mp nd).1 (List.of_mem_zip hv).1, if_pos hk]
    simp
  | p :: P, w :: vs, i + 1, m, nd, h1, h2, hk => by
    show bindL kindOf ((p, w) :: P.zip vs) m x = _
    unfold bindL
    exact bindL_get (i := i) (List.nodup_cons.mp nd).2 (by simpa using h1) (by simpa using h2) hk
theorem bindC_get {kindOf : Str → Option NameKind} {x : Str} {v : Value} : ∀ {P : List Str} {vs : List Value} {i : Nat} {m : Str → Option Value}, P.Nodup → P[i]? = some x → vs[i]? = some v → kindOf x ≠ some .local →
    bindC kindOf (P.zip vs) m x = some v
  | [], _, _, _, _, h, _, _ => by simp at h
  | _ :: _, [], _, _, _, _, h, _ => by simp at h
  | p :: P, w :: vs, 0, m, nd, h1, h2, hk => by
    simp at h1 h2; subst h1; subst h2
    show bindC kindOf ((p, w) :: P.zip vs) m p = _
    unfold bindC
    rw [bindC_out fun v hv => (List.nodup_cons.mp nd).1 (List.of_mem_zip hv).1, if_neg hk]
    simp
  | p :: P, w :: vs, i + 1, m, nd, h1, h2, hk => by
    show bindC kindOf ((p, w) :: P.zip vs) m x = _
    unfold bindC
    exact bindC_get (i := i) (List.nodup_cons.mp nd).2 (by simpa using h1) (by simpa using h2) hk

noncomputable def start (N : List Str) (vs : List V) : St := vs.map some ++ List.replicate (N.length - vs.length) none

noncomputable def cxOf (CX : CXT) (P : Program) (w : World) (K : PySem.W.Frag) (mg : Str → Option Value) (base : Heap) (N : List Str) (qual : Str) (scope : Scope) (f : Addr) (cd : Value) (A : Around) (outer : List Env) (s : Shared) (H : Hp) (E : XK) : Cx where
  prog := P
  w := w
  K := K
  mg := mg
  base := base
  A := A.deeper (envOfC qual scope s.heap.objs.size f cd)
  N := N
  s₀ := s
  H₀ := H
  env := envOfC qual scope s.heap.objs.size f cd
  outer := outer
  stack := envOfC qual scope s.heap.objs.size f cd :: outer
  ex := []
  calm := A.handled.isNone
  fn := fun _ => true
  pn := []
  xe := fun e s' => wpAny (model P w) (A.deeper (envOfC qual scope s.heap.objs.size f cd)) (leaving (envOfC qual scope s.heap.objs.size f cd) e) (fun _ s'' => CX outer H s E e s'') (fun e' s'' => CX outer H s E e' s'') s'

theorem cell_has {sc : Scope} {n : Nat} {x : Str} (h : sc.names.lookup x = some .cell) : ∃ c, (cellsFrom n sc.names []).lookup x = some c := by
  have q := PySem.W.cellsFrom_some sc.names n [] (.inl h)
  exact Option.isSome_iff_exists.mp q

theorem inv_start {CX : CXT} {P : Program} {w : World} {K : PySem.W.Frag} {mg : Str → Option Value} {base : Heap} {N ps : List Str} {qual : Str} {scope : Scope} {f : Addr} {cd : Value} {A : Around} {outer : List Env} {s s1 : Shared} {H : Hp} {E : XK} {us : List Value} {vs : List V}
    (S : FnScope N ps scope) (e0 : Env0 P w K mg base A outer s H) (hl : vs.length = ps.length) (r : Vals vs us)
    (x : InCallC s s.heap.objs.size (bindL (envOfC qual scope s.heap.objs.size f cd).kindOf (ps.zip us) fun _ => none) (cellsFrom (s.heap.objs.size + 1) scope.names []) (bindC (envOfC qual scope s.heap.objs.size f cd).kindOf (ps.zip us) fun _ => none) s1) :
    Inv (cxOf CX P w K mg base N qual scope f cd A outer s H E) [] (start N vs) H s1 := by
  have hpl : ps.length ≤ N.length := by have := congrArg List.length S.pre; rw [List.length_take] at this; omega
  obtain ⟨h1, tk, rfl, hk⟩ := x.done
  have noA : ∀ b : Addr, b ∉ (cxOf CX P w K mg base N qual scope f cd A outer s H E).ex := fun b z => absurd (show b ∈ ([] : List Addr) from z) (by simp)
  refine ⟨⟨e0.mod, S.kind, rfl, rfl, Nat.le_refl _, fun y z c h1 h2 => ?_, fun y hy => ?_, fun y c _ h => ?_, fun z => Option.isNone_iff_eq_none.mp z, Around.frames_deeper e0.frames, .inr ⟨rfl, rfl⟩, fun b z => absurd z (noA b), e0.bs, e0.bsz, fun b _ _ => noA b, fun b z => absurd z (noA b), e0.funs, e0.frf⟩,
    rfl, e0.bare, Un.kept hk, ⟨_, x.toInCall.ns, fun i y v h1 h2 h3 => ?_⟩, fun y c h => ⟨_, x.cell y c h⟩, e0.hok.fresh (Nat.le_refl _), fun y c h => ?_, fun p hp => absurd (show p ∈ ([] : List (Addr × Obj)) from hp) (by simp), e0.hok.kept hk, ?_, e0.qd⟩
  · exact name_of_addr x.apart (PySem.mem_of_lookup h1) (PySem.mem_of_lookup h2)
  · have hy : scope.names.lookup y = some .cell ∨ scope.names.lookup y = some .free := hy
    rcases hy with hy | hy
    · exact cell_has hy
    · exact absurd rfl (S.nofree _ (PySem.mem_of_lookup hy))
  · exact Nat.le_of_lt (x.above y c (PySem.mem_of_lookup h))
  · have hi : i < vs.length := by
      unfold start at h2
      by_cases hi : i < vs.length
      · exact hi
      · rw [List.getElem?_append_right (by simpa using hi)] at h2
        rw [List.getElem?_replicate] at h2
        split at h2 <;> cases h2
    have ha : vs[i]? = some v := by
      unfold start at h2
      rw [List.getElem?_append_left (by simpa using hi), List.getElem?_map] at h2
      cases e : vs[i]? with
      | none => rw [e] at h2; cases h2
      | some a => rw [e] at h2; cases h2; rfl
    obtain ⟨u, hu, rv⟩ := r.get ha
    have hp : ps[i]? = some y := by
      rw [← S.pre, List.getElem?_take_of_lt (by omega)]; exact h1
    have ndP : ps.Nodup := by rw [← S.pre]; exact S.nd.sublist (List.take_sublist _ _)
    refine ⟨u, rv, ?_⟩
    rcases S.par y (List.mem_of_getElem? hp) with k | k
    · exact .inl ⟨k, bindL_get ndP hp hu k⟩
    · obtain ⟨c, e⟩ := cell_has (n := s.heap.objs.size + 1) k
      refine .inr ⟨.inl k, c, e, ?_⟩
      have q := x.cell y c e
      rw [bindC_get ndP hp hu (by show scope.names.lookup y ≠ _; rw [k]; decide)] at q
      exact q
  · exact e0.hok.fresh (Nat.le_of_lt (x.above y c (PySem.mem_of_lookup h)))
  · unfold start
    show _ = N.length
    rw [List.length_append, List.length_map, List.length_replicate]
    omega

theorem fn_of {CX : CXT} {P : Program} {w : World} {K : PySem.W.Frag} {mg : Str → Option Value} {base : Heap} {k : Nat} {f : Addr} {name qual : Str} {params : Arguments} {body : List Stmt} {scope : Scope} {dV kV doc pm cdv ct oc : Value} {an od : Option Addr}
    {osl : Array (Option Value)} {N ps : List Str} {sp : Sp} (lk : K.lookup f = some ⟨oc, od, .func (PySem.W.fnOf name qual params body scope dV kV doc pm an cdv ct), osl⟩) (hcd : PySem.W.codeIn K cdv qual = true) (S : FnScope N ps scope)
    (len : ∀ vs H Q E, sp vs H Q E → vs.length = ps.length)
    (hbody : ∀ (A : Around) (outer : List Env) (s : Shared) (H : Hp) (vs : List V) (Q : VK) (E : XK), Room k (A.deeper (envOfC qual scope s.heap.objs.size f cdv)) → sp vs H Q E →
      ∃ t, PSs (cxOf CX P w K mg base N qual scope f cdv A outer s H E) body t ∧ t { nx := fun _ H' => Q .non H', rt := Q } (start N vs) H) :
    FnOk P w K mg base CX (k + 1) f (PySem.W.fnOf name qual params body scope dV kV doc pm an cdv ct) ps sp := by
  refine ⟨len, fun A outer s H args us vs Q E hr e0 hb r hsp => ?_⟩
  have hl := len _ _ _ _ hsp
  have KX : K.In s.heap := e0.mod.kin.keeps fun b o e => (e0.bs b o e).1
  have lim : s.heap.NoLimit := e0.mod.nolimit.keeps fun b o e => (e0.bs b o e).1
  have hkind : ∀ y ∈ ps.zip us, scope.names.lookup y.1 = some .local ∨ (scope.names.lookup y.1 = some .cell ∧ ((cellsFrom (s.heap.objs.size + 1) scope.names []).lookup y.1).isSome = true) := fun ⟨n, v⟩ hy => by
    rcases S.par n (List.of_mem_zip hy).1 with q | q
    · exact .inl q
    · exact .inr ⟨q, PySem.W.cellsFrom_some _ _ _ (.inl q)⟩
  refine codeAny_call_function hr.depth (KX _ _ lk) rfl S.co S.gen rfl (PySem.W.codeRec_of KX hcd) (hb _ _ _ _ ?_)
  refine wpAny_newFunctionEnv_cells S.kind hkind fun env he s1 x => ?_
  subst he
  refine ⟨lim.keeps x.toInCall.keep, codeAny_func ?_⟩
  obtain ⟨t, ht, hq⟩ := hbody A outer s H vs Q E (hr.deeper _) hsp
  have I : Inv (cxOf CX P w K mg base N qual scope f cdv A outer s H E) [] (start N vs) H s1 := inv_start S e0 hl r x
  refine wpAny_mono (ht [] s1 (start N vs) H _ I hq) (fun fl s' hs => ?_) fun e s' hs => hs
  have fin : ∀ {σ' : St} {H' : Hp} {v : V} {u : Value}, Inv (cxOf CX P w K mg base N qual scope f cdv A outer s H E) [] σ' H' s' → RelV v u → Q v H' → CE outer P w H s Q u s' :=
    fun {σ' H' v u} J rv q => ⟨v, H', J.os, J.bare, J.base, J.hok, rv, q⟩
  cases fl with
  | ret u =>
    obtain ⟨v, σ', H', J, rv, q⟩ := hs
    exact fin J rv q
  | next =>
    obtain ⟨σ', H', J, q⟩ := hs
    exact fin (v := V.non) (u := Value.none) J rfl q
  | brk =>
    obtain ⟨_, _, _, q⟩ := hs
    exact False.elim q
  | cont =>
    obtain ⟨_, _, _, q⟩ := hs
    exact False.elim q
end L2

namespace L2
open PySem PySem.Spec PyProof.Rows
section
variable {X : Cx} {x : Str} {p pos : Pos} {e : Expr} {es : List Expr} {t : TA} {id T : String} {r : List V → Hp → VK → Prop}

noncomputable def tCB (r : List V → Hp → VK → Prop) (t : TA) : TE := fun σ H Q => t σ H fun vs H1 => r vs H1 Q
theorem pe_callB (hc : CallR X (.builtin id) r) (hg : Gl X x) (hm : X.mg x = none) (hv : bootBuiltins x = some (.builtin id)) (ha : PA X (e :: es) t) (hn : x ≠ "__name__" := by decide) (hdb : (x == ("__debug__" : Str)) = false := by decide)
    (he : starEach (e :: es) X.env = (false, eval e X.env) :: starEach es X.env := by rfl) (hpl : (backTo pos (starEach es X.env)).any (·.1) = false := by rfl) : PE X (.Call (.Name x p) (e :: es) [] pos) (tCB r t) := by
  intro pins s σ H Q I h
  refine wpAny_Call_Name_kw (ld_blt I hg hm hv ?_ hn hdb)
  exact PyProof.Rows.callWith_builtin1 (thn (ha pos pins s σ H _ I h) fun us s1 ⟨vs, H1, I1, r1, q1⟩ => hc pins s1 σ H1 vs us Q I1 r1 q1) he hpl
theorem pe_callTy (hc : CallR X (.type T) r) (hg : Gl X x) (hm : X.mg x = none) (hv : bootBuiltins x = some (.type T)) (ha : PA X (e :: es) t) (hn : x ≠ "__name__" := by decide) (hdb : (x == ("__debug__" : Str)) = false := by decide)
    (he : starEach (e :: es) X.env = (false, eval e X.env) :: starEach es X.env := by rfl) (hpl : (backTo pos (starEach es X.env)).any (·.1) = false := by rfl) : PE X (.Call (.Name x p) (e :: es) [] pos) (tCB r t) := by
  intro pins s σ H Q I h
  refine wpAny_Call_Name_kw (ld_blt I hg hm hv ?_ hn hdb)
  exact PyProof.Rows.callWith_type1 (thn (ha pos pins s σ H _ I h) fun us s1 ⟨vs, H1, I1, r1, q1⟩ => hc pins s1 σ H1 vs us Q I1 r1 q1) he hpl
end
end L2

namespace HT
open PySem PyProof.Rows

section
open PySem.SeqAt
open PySem.AutoSeq1 (wpAny_loadPart')
open PySem.MeetsSeq PySem.MeetsSeq2 PySem.MeetsSeq3

end

section
variable {prog : Program} {w : World} {A : Around} {E : Value → Shared → Prop} {s : Shared}

theorem cat_tup {t b : Addr} {vs ws : List Value} {Q : Value → Shared → Prop} (ht : IsTup s.heap t vs.toArray) (hb : IsTup s.heap b ws.toArray) (hv : vs ≠ [])
    (h1 : ws = [] → Q (.ref t) s) (h2 : ws ≠ [] → Q (.ref s.heap.objs.size) { s with heap := s.heap.push { cls := .type "tuple", data := .seq (vs ++ ws).toArray } })
    (hsz : vs.length + ws.length ≤ sizeLine) : wpAny (model prog w) A (binaryOp .Add (.ref t) (.ref b)) Q E s := by
  obtain ⟨⟨cls, dd, data, sl⟩, ho, hc, n, hd⟩ := id ht
  obtain ⟨⟨cls2, dd2, data2, sl2⟩, ho2, hc2, n2, hd2⟩ := id hb
  simp only at hc hd hc2 hd2
  subst hc hd hc2 hd2
  have e : vs.toArray ++ ws.toArray = (vs ++ ws).toArray := by simp
  by_cases hw : ws = []
  · exact concat_meets ⟨_, ho, rfl⟩ ⟨_, ho2, rfl⟩ noFill_tuple_add seq_tuple_add PySem.F.slot_tuple_add PySem.F.entry_tuple_add (PySem.F.args_tuple_add_2 _ _)
      (tuple_addW1 t b vs.toArray ws.toArray n n2 dd dd2 sl sl2 (by simpa using hv) (by simp [hw])) ⟨ho, ho2, h1 hw⟩
  · refine concat_meets ⟨_, ho, rfl⟩ ⟨_, ho2, rfl⟩ noFill_tuple_add seq_tuple_add PySem.F.slot_tuple_add PySem.F.entry_tuple_add (PySem.F.args_tuple_add_2 _ _)
      (tuple_addW2 t b vs.toArray ws.toArray n n2 dd dd2 sl sl2 (by simpa using hv) (by simpa using hw) (by rw [List.size_toArray, List.size_toArray]; exact hsz)) ⟨ho, ho2, ?_⟩
    rw [e]
    exact h2 hw

noncomputable def sIx (n d : Nat) : Option Int → Nat
  | none => d
  | some v => if v < 0 then (v + (n : Int)).toNat else min v.toNat n
end
end HT

namespace L2
open PySem PySem.Spec PyProof.Rows

section
variable {X : Cx} {e : Expr} {te : TE} {lo hi : Option Expr} {tl th : TO} {pos p2 : Pos}

noncomputable def SlR (X : Cx) (r : V → Option Int → Option Int → Hp → VK → Prop) : Prop :=
  ∀ (pins : List (Addr × Obj)) (s : Shared) (σ : St) (H : Hp) (x : V) (v vl vu : Value) (lo hi : Option Int) (sl : Addr) (Q : VK), Inv X pins σ H s → RelV x v → s.heap.IsSliceOf sl vl vu .none → IsPart vl lo → IsPart vu hi → r x lo hi H Q →
    ∃ T id, typeLookup (.type T) "__getitem__" = pure (some (.builtin id)) ∧ s.TypeIs v T ∧ wpAny (model X.prog X.w) X.A (getItem v (.ref sl)) (EP X pins σ Q) X.xe s
noncomputable def cutV (xs : List V) (lo hi : Option Int) : List V := (xs.drop (HT.sIx xs.length 0 lo)).take (HT.sIx xs.length xs.length hi - HT.sIx xs.length 0 lo)
theorem cutV_length (xs : List V) (lo hi : Option Int) : (cutV xs lo hi).length ≤ xs.length := by
  unfold cutV
  rw [List.length_take, List.length_drop]
  omega
noncomputable def rCatT (K : PySem.W.Frag) : R2 := fun x y H Q => ∃ a b xs ys, x = .ref a ∧ y = .ref b ∧ SqT K H a xs ∧ SqT K H b ys ∧ xs ≠ [] ∧ xs.length + ys.length ≤ sizeLine ∧
  (ys = [] → Q (.ref a) H) ∧ (ys ≠ [] → ∀ p, H p = none → Q (.ref p) (upd H p (.tup (xs ++ ys))))
theorem Vals.nil_iff {xs : List V} {us : List Value} (r : Vals xs us) : us = [] ↔ xs = [] := by
  cases r with
  | nil => simp
  | cons _ _ => simp
theorem op_catT : OpR X (binaryOp .Add) (rCatT X.K) := by
  intro pins s σ H x y v u Q I rx ry h
  obtain ⟨a, b, xs, ys, rfl, rfl, ha, hb, hx, hz, q1, q2⟩ := h
  cases rx
  cases ry
  obtain ⟨its, r1, p1, _⟩ := I.tuple ha
  obtain ⟨its2, r2, p2, _⟩ := I.tuple hb
  refine HT.cat_tup p1 p2 (fun z => hx (r1.nil_iff.mp z)) (fun z => ⟨.ref a, H, I, rfl, q1 (r2.nil_iff.mp z)⟩) (fun z => ?_) (by rw [← r1.length, ← r2.length]; exact hz)
  refine ⟨.ref s.heap.objs.size, _, I.laid (t' := s.toks) (o := .tup (xs ++ ys)) (fun b ob q => Heap.get?_push_of_some _ q) (Nat.le_refl _) ?_, rfl, q2 (fun w => z (r2.nil_iff.mpr w)) _ (I.hok.fresh (Nat.le_refl _))⟩
  exact ⟨by rw [List.length_append]; exact hz, _, r1.append r2, IsTup.new _ _⟩
end
end L2

namespace L2
open PySem PySem.Spec PyProof.Rows

noncomputable def ixN (n : Nat) (i : Int) : Option Nat := if 0 ≤ i then (if i < n then some i.toNat else none) else if -(n : Int) ≤ i then some (i + n).toNat else none
noncomputable def atI {α : Type} (xs : List α) (i : Int) : Option α := (ixN xs.length i).bind fun j => xs[j]?
theorem ixN_seq {n : Nat} {i : Int} {j : Nat} (h : ixN n i = some j) : seqIndex? i n = some j ∧ j < n ∧ -(n : Int) ≤ i ∧ i < n := by
  unfold ixN at h
  by_cases h0 : 0 ≤ i
  · rw [if_pos h0] at h
    by_cases h1 : i < n
    · rw [if_pos h1] at h
      have e : i.toNat = j := Option.some.inj h
      exact ⟨by rw [seqIndex_of h0 h1, e], by omega, by omega, h1⟩
    · rw [if_neg h1] at h; cases h
  · rw [if_neg h0] at h
    by_cases h1 : -(n : Int) ≤ i
    · rw [if_pos h1] at h
      have e : (i + n).toNat = j := Option.some.inj h
      exact ⟨by rw [seqIndex_neg (by omega) h1, e], by omega, h1, by omega⟩
    · rw [if_neg h1] at h; cases h
theorem atI_get {α : Type} {xs : List α} {i : Int} {v : α} (h : atI xs i = some v) : ∃ j, seqIndex? i xs.length = some j ∧ xs[j]? = some v ∧ j < xs.length ∧ -(xs.length : Int) ≤ i ∧ i < xs.length := by
  unfold atI at h
  cases e : ixN xs.length i with
  | none => rw [e] at h; cases h
  | some j =>
    rw [e] at h
    obtain ⟨h1, h2, h3, h4⟩ := ixN_seq e
    exact ⟨j, h1, h, h2, h3, h4⟩
theorem atI_nat {α : Type} {xs : List α} {j : Nat} {v : α} (h : xs[j]? = some v) : atI xs (j : Int) = some v := by
  have hj : j < xs.length := (List.getElem?_eq_some_iff.mp h).1
  have e : ixN xs.length (j : Int) = some j := by
    unfold ixN
    rw [if_pos (by omega), if_pos (by omega)]; simp
  unfold atI; rw [e]; exact h
noncomputable def PlainIx (b : Expr) : Prop := ∀ o i, subscripted b false o i = operate [o, i] (getItem o i)
noncomputable def IxR (X : Cx) (r : R2) : Prop :=
  ∀ (value slice : Expr) (pins : List (Addr × Obj)) (s : Shared) (σ : St) (H : Hp) (x y : V) (v u : Value) (Q : VK), Inv X pins σ H s → RelV x v → RelV y u → r x y H Q →
    subscripted slice false v u = operate [v, u] (getItem v u) → wpAny (model X.prog X.w) X.A (subscriptTail value slice v u) (EP X pins σ Q) X.xe s
noncomputable def MtR (X : Cx) (id : String) (r : V → List V → Hp → VK → Prop) : Prop :=
  ∀ (pins : List (Addr × Obj)) (s : Shared) (σ : St) (H : Hp) (x : V) (xs : List V) (v : Value) (us : List Value) (Q : VK), Inv X pins σ H s → RelV x v → Vals xs us → r x xs H Q →
    wpAny (model X.prog X.w) X.A (call (.builtin id) (v :: us)) (EP X pins σ Q) X.xe s
section
variable {X : Cx} {a b : Expr} {ta tb : TE} {pos : Pos}
theorem IxR.or {r r' : R2} (h : IxR X r) (h' : IxR X r') : IxR X (fun x y H Q => r x y H Q ∨ r' x y H Q) := by
  intro value slice pins s σ H x y v u Q I rx ry q hs
  rcases q with q | q
  · exact h value slice pins s σ H x y v u Q I rx ry q hs
  · exact h' value slice pins s σ H x y v u Q I rx ry q hs
theorem pe_ix {r : R2} (hr : IxR X r) (ha : PE X a ta) (hb : PE X b tb) (hs : PlainIx b) : PE X (.Subscript a b pos) (tOp r ta tb) := by
  intro pins s σ H Q I h
  exact Subscript_ (binT ha hb I h fun v u s2 x y H2 I2 rx ry q => hr a b pins s2 σ H2 x y v u Q I2 rx ry q (hs _ _))

noncomputable def rIxL (K : PySem.W.Frag) : R2 := fun x y H Q => ∃ p xs i v, x = .ref p ∧ y = .int i ∧ SqL K H p xs ∧ atI xs i = some v ∧ Q v H
noncomputable def rIxT (K : PySem.W.Frag) : R2 := fun x y H Q => ∃ p xs i v, x = .ref p ∧ y = .int i ∧ SqT K H p xs ∧ atI xs i = some v ∧ Q v H
theorem ix_list : IxR X (rIxL X.K) := by
  intro value slice pins s σ H x y v u Q I rx ry h hs
  obtain ⟨p, xs, i, z, rfl, rfl, hq, he, q⟩ := h
  cases rx
  obtain ⟨t, rfl⟩ := ry
  obtain ⟨its, r, pl, hz⟩ := I.list hq
  obtain ⟨j, h1, h2, h3, h4, h5⟩ := atI_get he
  obtain ⟨w, ew, rw'⟩ := r.get h2
  have hl := r.length
  have hn := line63
  have fin : EP X pins σ Q w s := ⟨z, H, I, rw', q⟩
  by_cases h0 : 0 ≤ i
  · have hj : i.toNat = j := by
      rw [seqIndex_of h0 h5] at h1
      exact Option.some.inj h1
    exact item_listR pl.isList h0 (by omega) (by rw [hj]; simpa using ew) fin hs
  · have hj : (i + (its.toArray.size : Int)).toNat = j := by
      rw [seqIndex_neg (by omega) h4] at h1
      rw [List.size_toArray, ← hl]
      exact Option.some.inj h1
    exact subscriptTail_builtinR (x := w) pl.isList.typeIs slot_list_getitem.lookup
      (wpAny_getItem_list_neg (Q := fun r s' => r = w ∧ EP X pins σ Q r s') pl.isList (by omega) (by rw [List.size_toArray] <;> omega) (by omega) (by rw [hj]; simpa using ew) ⟨rfl, fin⟩) hs
theorem ix_tup : IxR X (rIxT X.K) := by
  intro value slice pins s σ H x y v u Q I rx ry h hs
  obtain ⟨p, xs, i, z, rfl, rfl, hq, he, q⟩ := h
  cases rx
  obtain ⟨t, rfl⟩ := ry
  obtain ⟨its, r, pl, hz⟩ := I.tuple hq
  obtain ⟨j, h1, h2, h3, h4, h5⟩ := atI_get he
  obtain ⟨w, ew, rw'⟩ := r.get h2
  have hl := r.length
  have hn := line63
  have fin : EP X pins σ Q w s := ⟨z, H, I, rw', q⟩
  exact subscriptTail_builtinR (x := w) pl.typeIs slot_tuple_getitem.lookup
    (getItem_tuple (j := j) (Q := fun r s' => r = w ∧ EP X pins σ Q r s') pl (by omega) (by omega) (by rw [List.size_toArray, ← hl]; exact h1) (by simpa using ew) ⟨rfl, fin⟩) hs
theorem mapSeq_set (its : List Value) (n j : Nat) (u : Value) : Obj.mapSeq (·.setIfInBounds j u) { cls := .type "list", data := .seq its.toArray n } = { cls := .type "list", data := .seq (its.set j u).toArray n } := by
  simp [Obj.mapSeq]
theorem Inv.lst {pins : List (Addr × Obj)} {σ : St} {H : Hp} {s : Shared} {p : Addr} {xs : List V} (I : Inv X pins σ H s) (h : H p = some (.lst xs)) :
    ∃ (its : List Value) (n : Nat), Vals xs its ∧ s.heap.get? p = some { cls := .type "list", data := .seq its.toArray n } ∧ xs.length ≤ sizeLine := by
  obtain ⟨z, its, n, r, e⟩ := I.hok p _ h
  exact ⟨its, n, r, e, z⟩
theorem Inv.lstUpd {pins : List (Addr × Obj)} {σ : St} {H : Hp} {s : Shared} {p : Addr} {xs ys : List V} {its its' : List Value} {n n' : Nat} {f : Obj → Obj} (I : Inv X pins σ H s) (h : H p = some (.lst xs))
    (ho : s.heap.get? p = some { cls := .type "list", data := .seq its.toArray n }) (hf : f { cls := .type "list", data := .seq its.toArray n } = { cls := .type "list", data := .seq its'.toArray n' }) (r : Vals ys its') (hz : ys.length ≤ sizeLine) (t : Nat) :
    Inv X pins σ (upd H p (.lst ys)) { s with heap := s.heap.update p f, toks := t } := by
  have e : (s.heap.update p f).get? p = some { cls := .type "list", data := .seq its'.toArray n' } := by
    rw [Heap.get?_update_self f ho (by rw [hf] <;> rfl), hf]
  refine I.write (x := p) (e := p) (by rw [h]; trivial) (.inl rfl) (fun b u hb q => (Heap.get?_update_other _ _ (Ne.symm hb)).trans q) ⟨_, e⟩ ?_
  exact ⟨hz, its', n', r, e⟩
noncomputable def rSetL : V → V → V → Hp → (Hp → Prop) → Prop := fun o i v H Q => ∃ p xs k j, o = .ref p ∧ i = .int k ∧ H p = some (.lst xs) ∧ ixN xs.length k = some j ∧ Q (upd H p (.lst (xs.set j v)))
theorem set_list : PSet X rSetL := by
  intro pins s σ H o i v ov iv u Q I ro ri rv h
  obtain ⟨p, xs, k, j, rfl, rfl, hp, hj, q⟩ := h
  cases ro
  obtain ⟨t, rfl⟩ := ri
  obtain ⟨its, n, r, ho, hz⟩ := I.lst hp
  obtain ⟨h1, h2, h3, h4⟩ := ixN_seq hj
  have hl := r.length
  have hn := line63
  have I' : Inv X pins σ (upd H p (.lst (xs.set j v))) { s with heap := s.heap.update p (Obj.mapSeq (·.setIfInBounds j u)) } :=
    I.lstUpd hp ho (mapSeq_set its n j u) (r.set rv j) (by rw [List.length_set]; exact hz) s.toks
  by_cases h0 : 0 ≤ k
  · have hk : k.toNat = j := by
      rw [seqIndex_of h0 h4] at h1
      exact Option.some.inj h1
    exact PySem.W.ki_setAt ho h0 (by omega) (by rw [List.size_toArray, ← hl]; exact h4) (by rw [hk]; exact ⟨_, I', q⟩)
  · have hk : (k + (its.toArray.size : Int)).toNat = j := by
      rw [seqIndex_neg (by omega) h3] at h1
      rw [List.size_toArray, ← hl]
      exact Option.some.inj h1
    exact PySem.W.ki_setBack ho (by omega) (by rw [List.size_toArray, ← hl]; exact h3) (by omega) (by rw [hk]; exact ⟨_, I', q⟩)

theorem slice_bounds (lo hi : Option Int) (n : Nat) : (sliceBounds lo hi none n).1 = ((HT.sIx n 0 lo : Nat) : Int) ∧ (sliceBounds lo hi none n).2.1 = ((HT.sIx n n hi : Nat) : Int) ∧ (sliceBounds lo hi none n).2.2 = 1 := by
  refine ⟨?_, ?_, rfl⟩
  · cases lo with
    | none => simp [sliceBounds, HT.sIx]
    | some i =>
      simp only [sliceBounds, HT.sIx, Option.getD_none, show (1 : Int) > 0 by decide, if_true]
      by_cases h : i < 0
      · simp only [h, if_true] <;> omega
      · simp only [h, if_false] <;> omega
  · cases hi with
    | none => simp [sliceBounds, HT.sIx]
    | some i =>
      simp only [sliceBounds, HT.sIx, Option.getD_none, show (1 : Int) > 0 by decide, if_true]
      by_cases h : i < 0
      · simp only [h, if_true] <;> omega
      · simp only [h, if_false] <;> omega
theorem slicePick_cut (its : List Value) (lo hi : Option Int) : slicePick its.toArray lo hi none = ((its.drop (HT.sIx its.length 0 lo)).take (HT.sIx its.length its.length hi - HT.sIx its.length 0 lo)).toArray := by
  obtain ⟨h1, h2, h3⟩ := slice_bounds lo hi its.toArray.size
  unfold slicePick
  rw [h1, h2, h3]
  simp only [sliceRange_one, pick_run, List.size_toArray] <;> rfl
noncomputable def rSlL (K : PySem.W.Frag) : V → Option Int → Option Int → Hp → VK → Prop := fun x lo hi H Q => ∃ a xs, x = .ref a ∧ SqL K H a xs ∧ ∀ p, H p = none → Q (.ref p) (upd H p (.lst (cutV xs lo hi)))
theorem sl_list : SlR X (rSlL X.K) := by
  intro pins s σ H x v vl vu lo hi sl Q I rx hs pl pu h
  obtain ⟨a, xs, rfl, hx, q⟩ := h
  cases rx
  obtain ⟨its, r, ht, hz⟩ := I.list hx
  have hlen := r.length
  refine ⟨"list", _, slot_list_getitem.lookup, ht.isList.typeIs, ?_⟩
  refine wpAny_getItem_list_slice ht.isList hs pl pu .none (by simp) ?_ (by rw [List.size_toArray] <;> omega)
  rw [slicePick_cut, ← hlen]
  refine ⟨.ref s.heap.objs.size, _, I.laid (t' := s.toks) (o := .lst (cutV xs lo hi)) (fun b ob q => Heap.get?_push_of_some _ q) (Nat.le_refl _) ?_, rfl, q _ (I.hok.fresh (Nat.le_refl _))⟩
  exact ⟨Nat.le_trans (cutV_length xs lo hi) hz, _, 0, (r.drop (HT.sIx xs.length 0 lo)).take (HT.sIx xs.length xs.length hi - HT.sIx xs.length 0 lo), Heap.get?_push_size _ rfl⟩

theorem call_len_seq : CallR X (.builtin "len") (fun xs H Q => ∃ p ys, xs = [.ref p] ∧ (SqL X.K H p ys ∨ SqT X.K H p ys) ∧ Q (.int ys.length) H) := by
  intro pins s σ H xs us Q I r h
  obtain ⟨p, ys, rfl, hq, q⟩ := h
  obtain ⟨u, rfl, rx⟩ := vals1 r
  cases rx
  have hn := line63
  rcases hq with hq | hq
  · obtain ⟨its, r', pl, hz⟩ := I.list hq
    have hlen := r'.length
    exact Calls.call_len_list pl.isList (by simp only [List.size_toArray] <;> omega) ⟨.int ys.length, H, I.tok _, ⟨s.toks + 1, by rw [List.size_toArray, hlen]⟩, q⟩
  · obtain ⟨its, r', pl, hz⟩ := I.tuple hq
    have hlen := r'.length
    exact len_tuple pl (by simp only [List.size_toArray] <;> omega) ⟨.int ys.length, H, I.tok _, ⟨s.toks + 1, by rw [List.size_toArray, hlen]⟩, q⟩
theorem call_list_of : CallR X (.type "list") (fun xs H Q => ∃ p ys, xs = [.ref p] ∧ (SqL X.K H p ys ∨ SqT X.K H p ys) ∧ ∀ l, H l = none → Q (.ref l) (upd H l (.lst ys))) := by
  intro pins s σ H xs us Q I r h
  obtain ⟨p, ys, rfl, hq, q⟩ := h
  obtain ⟨u, rfl, rx⟩ := vals1 r
  cases rx
  have fin : ∀ (its : List Value), Vals ys its → ys.length ≤ sizeLine → ∀ (h' : Heap) (c' : Nat), (∀ b o', s.heap.get? b = some o' → h'.get? b = some o') →
      h'.get? s.heap.objs.size = some { cls := .type "list", dict := none, data := .seq its.toArray c', slots := #[] } → EP X pins σ Q (.ref s.heap.objs.size) { s with heap := h' } := fun its r' hz h' c' kp e =>
    ⟨.ref s.heap.objs.size, _, I.laid (t' := s.toks) kp (Nat.le_refl _) (show ObjOk X.prog X.w _ h' _ (.lst ys) from ⟨hz, its, c', r', e⟩), rfl, q _ (I.hok.fresh (Nat.le_refl _))⟩
  rcases hq with hq | hq
  · obtain ⟨its, r', pl, hz⟩ := I.list hq
    have hlen := r'.length
    obtain ⟨o, ho, hc, n, hd⟩ := pl.isList
    exact call_list_seq p (.inl rfl) ho hc hd (fun h' c' kp e => fin its r' hz h' c' kp e) (by simp only [List.size_toArray] <;> omega)
  · obtain ⟨its, r', pl, hz⟩ := I.tuple hq
    have hlen := r'.length
    obtain ⟨o, ho, hc, n, hd⟩ := pl
    exact call_list_seq p (.inr rfl) ho hc hd (fun h' c' kp e => fin its r' hz h' c' kp e) (by simp only [List.size_toArray] <;> omega)
noncomputable def tyV (K : PySem.W.Frag) (T : String) (x : V) (H : Hp) : Prop := match x with
  | .str _ => T = "str"
  | .int _ => T = "int"
  | .ref p => (T = "list" ∧ ∃ xs, SqL K H p xs) ∨ (T = "tuple" ∧ ∃ o, K.lookup p = some o ∧ o.cls = .type "tuple" ∧ o.dict = none) ∨
      (T = "dict" ∧ ((∃ kvs, H p = some (.dK kvs)) ∨ ∃ kvs, H p = some (.dT kvs))) ∨ (T = "set" ∧ ∃ S n, H p = some (.set S n))
  | _ => False
theorem tyV_is {pins : List (Addr × Obj)} {σ : St} {H : Hp} {s : Shared} {T : String} {x : V} {v : Value} (I : Inv X pins σ H s) (r : RelV x v) (ty : tyV X.K T x H) :
    s.TypeIs v T ∧ ∀ a, v = .ref a → ∃ ob, s.heap.get? a = some ob ∧ ob.dict = none := by
  cases x with
  | str z =>
    obtain ⟨t, rfl⟩ := r
    cases (show T = "str" from ty)
    exact ⟨typeIs_str s z t, fun _ e => nomatch e⟩
  | int i =>
    obtain ⟨t, rfl⟩ := r
    cases (show T = "int" from ty)
    exact ⟨typeIs_int s i t, fun _ e => nomatch e⟩
  | ref p =>
    cases r
    rcases ty with ⟨rfl, xs, hq⟩ | ⟨rfl, o, hk, hc, hd⟩ | ⟨rfl, hk⟩ | ⟨rfl, S, n, hk⟩
    · obtain ⟨its, _, pl, _⟩ := I.list hq
      refine ⟨pl.isList.typeIs, fun a e => ?_⟩
      cases e
      obtain ⟨o, n, e, c, hd, _⟩ := pl
      exact ⟨o, e, hd⟩
    · refine ⟨⟨o, I.kIn p o hk, hc⟩, fun a e => ?_⟩
      cases e
      exact ⟨o, I.kIn _ o hk, hd⟩
    · have z : ∃ o, s.heap.get? p = some o ∧ o.ExactDict := by
        rcases hk with ⟨kvs, hk⟩ | ⟨kvs, hk⟩
        · obtain ⟨_, _, _, _, o, _, _, e, ex, _⟩ := I.hok p _ hk
          exact ⟨o, e, ex⟩
        · obtain ⟨_, _, _, _, o, _, _, e, ex, _⟩ := I.hok p _ hk
          exact ⟨o, e, ex⟩
      obtain ⟨o, e, ex⟩ := z
      refine ⟨⟨o, e, ex.1⟩, fun a e2 => ?_⟩
      cases e2
      exact ⟨o, e, ex.2.1⟩
    · obtain ⟨o, _, _, _, e, ex, _⟩ := I.hok p _ hk
      refine ⟨⟨o, e, ex.1⟩, fun a e2 => ?_⟩
      cases e2
      exact ⟨o, e, ex.2.1⟩
  | _ => exact False.elim ty
noncomputable def tBM (K : PySem.W.Frag) (T : String) (r : V → List V → Hp → VK → Prop) (to : TE) (t : TA) : TE := fun σ H Q => to σ H fun x H1 => tyV K T x H1 ∧ t σ H1 fun xs H2 => r x xs H2 Q
variable {o e : Expr} {es : List Expr} {to : TE} {t : TA} {name : Str} {apos cpos : Pos} {T id : String} {r : V → List V → Hp → VK → Prop}
theorem pe_bm (pa : PlainAttrs T) (slot : Slot T name id) (hty : typeOf (.builtin id) = pure (.type "method_descriptor")) (hm : MtR X id r) (ho : PE X o to) (ha : PA X (e :: es) t)
    (hbase : attributeBase o name X.env (eval o X.env) = eval o X.env := by rfl)
    (hfew : ((backTo cpos (starEach (e :: es) X.env)).all (fun x => !x.1) && (backToKw cpos (keywordEach [] X.env)).all (fun x => x.1.isSome)
      && decide ((e :: es).length + ([] : List Keyword).length + (if ([] : List Keyword).isEmpty then 0 else 1) < 30)) = true := by rfl)
    (hline : (apos.endLine == cpos.line) = true := by rfl) (hs : starEach (e :: es) X.env = (false, eval e X.env) :: starEach es X.env := by rfl) (hplain : (backTo cpos (starEach es X.env)).any (·.1) = false := by rfl) :
    PE X (.Call (.Attribute o name apos) (e :: es) [] cpos) (tBM X.K T r to t) := by
  intro pins s σ H Q I h
  refine wpAny_Call_method_late hbase hfew hline rfl (thn (ho pins s σ H _ I h) fun v s1 ⟨x, H1, I1, r1, ty, q1⟩ => ?_)
  obtain ⟨h1, h2⟩ := tyV_is I1 r1 ty
  refine ⟨T, id, pa, slot, hty, h1, h2, ?_⟩
  have hA := ha cpos pins s1 σ H1 _ I1 q1
  rw [hs] at hA ⊢
  refine Calls.callWith_builtin (by show (false || (backTo cpos (starEach es X.env)).any (·.1)) = false; rw [hplain] <;> rfl) (Calls.evalArgs_plain ?_)
  exact thn hA fun us s2 ⟨vs, H2, I2, r2, q2⟩ => hm pins s2 σ H2 x vs v us Q I2 r1 r2 q2
end
end L2

namespace L2
open PySem PySem.Spec PyProof.Rows

noncomputable def MtM (X : Cx) (id : String) (r : V → List V → Hp → VK → Prop) : Prop :=
  ∀ (pins : List (Addr × Obj)) (s : Shared) (σ : St) (H : Hp) (x : V) (xs : List V) (v : Value) (us : List Value) (Q : VK), Inv X pins σ H s → RelV x v → Vals xs us → r x xs H Q →
    wpAny (model X.prog X.w) X.A (call (.builtin id) (v :: us)) (EP X pins σ Q) X.xe s

theorem Vals.one : ∀ {x : V} {us : List Value}, Vals [x] us → ∃ u, us = [u] ∧ RelV x u
  | _, _, .cons r .nil => ⟨_, rfl, r⟩
theorem Vals.reverse {xs : List V} {us : List Value} (h : Vals xs us) : Vals xs.reverse us.reverse := by
  induction h with
  | nil => exact .nil
  | cons r t ih => rw [List.reverse_cons, List.reverse_cons]; exact Vals.append ih (.cons r .nil)
theorem Vals.rep {xs : List V} {us : List Value} (h : Vals xs us) : ∀ k : Nat, Vals (List.replicate k xs).flatten (List.replicate k us).flatten
  | 0 => .nil
  | k + 1 => by
    rw [List.replicate_succ, List.replicate_succ, List.flatten_cons, List.flatten_cons]
    exact Vals.append h (Vals.rep h k)
theorem foldl_rep (its : List Value) : ∀ (k : Nat) (acc : List Value),
    List.foldl (fun x1 x2 => x1 ++ x2) acc.toArray (List.replicate k its.toArray) = (acc ++ (List.replicate k its).flatten).toArray
  | 0, acc => by simp
  | k + 1, acc => by
    have e : acc.toArray ++ its.toArray = (acc ++ its).toArray := by simp
    have e2 : (acc ++ its) ++ (List.replicate k its).flatten = acc ++ (List.replicate (k + 1) its).flatten := by
      rw [List.replicate_succ, List.flatten_cons, List.append_assoc]
    rw [← e2, ← foldl_rep its k (acc ++ its), ← e, List.replicate_succ, List.foldl_cons]

section
variable {X : Cx} {pins : List (Addr × Obj)} {σ : St} {H : Hp} {s : Shared} {l b : Addr} {xs ys zs : List V}

theorem Inv.lset {its its' : List Value} {n : Nat} {f : Array Value → Array Value} {t' : Nat} (I : Inv X pins σ H s) (hH : H l = some (.lst xs))
    (e : s.heap.get? l = some { cls := .type "list", data := .seq its.toArray n }) (hf : f its.toArray = its'.toArray) (hv : Vals ys its') (hz : ys.length ≤ sizeLine) :
    Inv X pins σ (upd H l (.lst ys)) { s with heap := s.heap.update l (Obj.mapSeq f), toks := t' } := by
  have q := PySem.IsL.update e f
  rw [hf] at q
  refine I.write (x := l) (e := l) (by rw [hH]; exact trivial) (.inl rfl) (fun b' u hb hu => (Heap.get?_update_other s.heap (Obj.mapSeq f) (Ne.symm hb)).trans hu) ⟨_, q⟩ ?_
  exact ⟨hz, its', _, hv, q⟩
theorem Inv.lnew {its : List Value} {t' : Nat} (I : Inv X pins σ H s) (hv : Vals ys its) (hz : ys.length ≤ sizeLine) :
    Inv X pins σ (upd H s.heap.objs.size (.lst ys)) { s with heap := s.heap.push { cls := .type "list", data := .seq its.toArray }, toks := t' } :=
  I.laid (fun _ _ q => Heap.get?_push_of_some _ q) (Nat.le_refl _) ⟨hz, its, 0, hv, Heap.get?_push_size _ rfl⟩
theorem Inv.fresh (I : Inv X pins σ H s) : H s.heap.objs.size = none := I.hok.fresh (Nat.le_refl _)
theorem Inv.lstM (I : Inv X pins σ H s) (hH : H l = some (.lst xs)) : xs.length ≤ sizeLine ∧ ∃ (its : List Value) (n : Nat), Vals xs its ∧ xs.length = its.length ∧ s.heap.get? l = some { cls := .type "list", data := .seq its.toArray n } := by
  obtain ⟨z, its, n, r, e⟩ := I.hok l _ hH
  exact ⟨z, its, n, r, r.length, e⟩

theorem notLongL {n : Nat} (h : n ≤ sizeLine) : Builtin.List.listTooLong n = false := by
  unfold Builtin.List.listTooLong
  exact decide_eq_false (by omega)
end

section
variable {X : Cx}

noncomputable def rAppend : V → List V → Hp → VK → Prop := fun x vs H Q => ∃ l xs y, x = .ref l ∧ vs = [y] ∧ H l = some (.lst xs) ∧ xs.length < sizeLine ∧ Q .non (upd H l (.lst (xs ++ [y])))
theorem mt_append : MtM X "list.append" rAppend := by
  intro pins s σ H x vs v us Q I rx rv h
  obtain ⟨l, xs, y, rfl, rfl, hH, hz, q⟩ := h
  cases rx
  obtain ⟨u, rfl, ru⟩ := rv.one
  obtain ⟨z, its, n, r, hl, e⟩ := I.lstM hH
  refine call_meets F.slot_list_append ⟨_, e, rfl⟩ F.entry_list_append (F.args_list_append_2 _ _) (PySem.list_append l its.toArray n u (by rw [List.size_toArray]; omega)) ⟨e, ?_⟩
  refine ⟨.non, _, I.lset (its' := its ++ [u]) hH e (by simp) (r.append (.cons ru .nil)) ?_, rfl, q⟩
  rw [List.length_append, List.length_singleton]
  omega

noncomputable def rExtend : V → List V → Hp → VK → Prop := fun x vs H Q => ∃ l b xs zs, x = .ref l ∧ vs = [.ref b] ∧ H l = some (.lst xs) ∧ H b = some (.lst zs) ∧ xs.length + zs.length ≤ sizeLine ∧ Q .non (upd H l (.lst (xs ++ zs)))
theorem mt_extend : MtM X "list.extend" rExtend := by
  intro pins s σ H x vs v us Q I rx rv h
  obtain ⟨l, b, xs, zs, rfl, rfl, hH, hB, hz, q⟩ := h
  cases rx
  obtain ⟨u, rfl, ru⟩ := rv.one
  cases ru
  obtain ⟨z, its, n, r, hl, e⟩ := I.lstM hH
  obtain ⟨z2, its2, n2, r2, hl2, e2⟩ := I.lstM hB
  have hsz : its.toArray.size + its2.toArray.size ≤ sizeLine := by rw [List.size_toArray, List.size_toArray]; omega
  have hlong : ¬ (!its.toArray.isEmpty && Builtin.List.listTooLong (its.toArray.size + its2.toArray.size)) = true := by
    rw [notLongL hsz, Bool.and_false]
    exact Bool.false_ne_true
  refine call_meets F.slot_list_extend ⟨_, e, rfl⟩ F.entry_list_extend (F.args_list_extend_2 _ _)
    (AutoSeq1.list_extend_list_list_0 l its.toArray n b its2.toArray n2 hlong (by rw [List.size_toArray]; omega) (by omega)) ⟨e, e2, ?_⟩
  refine ⟨.non, _, I.lset (its' := its ++ its2) hH e (by simp) (r.append r2) ?_, rfl, q⟩
  rw [List.length_append]
  omega

noncomputable def rCat : R2 := fun x y H Q => ∃ l b xs zs, x = .ref l ∧ y = .ref b ∧ H l = some (.lst xs) ∧ H b = some (.lst zs) ∧ xs.length + zs.length ≤ sizeLine ∧ ∀ p, H p = none → Q (.ref p) (upd H p (.lst (xs ++ zs)))
theorem op_cat : OpR X (binaryOp .Add) rCat := by
  intro pins s σ H x y v u Q I rx ry h
  obtain ⟨l, b, xs, zs, rfl, rfl, hH, hB, hz, q⟩ := h
  cases rx
  cases ry
  obtain ⟨z, its, n, r, hl, e⟩ := I.lstM hH
  obtain ⟨z2, its2, n2, r2, hl2, e2⟩ := I.lstM hB
  refine PySem.P.add_list e e2 ?_ (by rw [List.size_toArray, List.size_toArray]; omega)
  have ea : its.toArray ++ its2.toArray = (its ++ its2).toArray := by simp
  rw [ea]
  exact ⟨.ref _, _, I.lnew (t' := s.toks) (r.append r2) (by rw [List.length_append]; omega), rfl, q _ I.fresh⟩
noncomputable def rRep : R2 := fun x y H Q => ∃ l k xs, x = .ref l ∧ y = .int k ∧ H l = some (.lst xs) ∧ -(2 ^ 63) ≤ k ∧ k < 2 ^ 63 ∧ xs.length * k.toNat ≤ sizeLine ∧
  ∀ p, H p = none → Q (.ref p) (upd H p (.lst (List.replicate k.toNat xs).flatten))
theorem len_rep {α : Type} (xs : List α) (k : Nat) : (List.replicate k xs).flatten.length = k * xs.length := by
  induction k with
  | zero => simp
  | succ k ih => rw [List.replicate_succ, List.flatten_cons, List.length_append, ih, Nat.succ_mul, Nat.add_comm]
theorem op_rep : OpR X (binaryOp .Mult) rRep := by
  intro pins s σ H x y v u Q I rx ry h
  obtain ⟨l, k, xs, rfl, rfl, hH, h1, h2, hz, q⟩ := h
  cases rx
  obtain ⟨t, rfl⟩ := ry
  obtain ⟨z, its, n, r, hl, e⟩ := I.lstM hH
  have hlen : its.toArray.size * k.toNat ≤ sizeLine := by rw [List.size_toArray, ← hl]; exact hz
  have hcap : ¬ its.toArray.size * k.toNat > (2 ^ 63 - 1) / 8 := by
    have : (sizeLine : Nat) ≤ (2 ^ 63 - 1) / 8 := by decide
    omega
  have hfit : ¬ (!Builtin.List.listFitsIndex k) = true := by
    rw [fitsIndex_both h1 h2]
    exact Bool.false_ne_true
  have hlong : ¬ Builtin.List.listTooLong (its.toArray.size * k.toNat) = true := by
    rw [notLongL hlen]
    exact Bool.false_ne_true
  have hnew : List.foldl (fun x1 x2 => x1 ++ x2) #[] (List.replicate (if its.toArray.isEmpty = true then 0 else k.toNat) its.toArray) = (List.replicate k.toNat its).flatten.toArray := by
    have f0 : ∀ m : Nat, List.foldl (fun x1 x2 => x1 ++ x2) #[] (List.replicate m its.toArray) = (List.replicate m its).flatten.toArray := fun m => by
      have := foldl_rep its m []
      rw [List.nil_append] at this
      exact this
    rw [f0]
    cases its with
    | nil => simp
    | cons a r' => rw [if_neg (by simp)]
  refine wpAny_binaryOp_repeat_ref (T := "list") (U := "int") (by decide) ⟨_, e, rfl⟩ (fun s' => typeIs_int s' k t) noFill_list_mul F.fills_int_mul F.slot_int_rmul repeat_list F.slot_int_index.lookup
    (call_meets F.slot_int_rmul (typeIs_int s k t) F.entry_int_rmul (F.args_int_rmul_2 _ _) (int___rmul___int_list k t l its.toArray n)
      ⟨e, rfl, ⟨_, e, rfl⟩, call_meets F.slot_list_mul ⟨_, e, rfl⟩ F.entry_list_mul (F.args_list_mul_2 _ _) (AutoListH.list___mul___list_int_3 l its.toArray n k t hfit hcap hlong) ⟨e, ?_⟩⟩)
  rw [hnew]
  exact ⟨.ref _, _, I.lnew (t' := s.toks) (r.rep k.toNat) (by rw [len_rep, Nat.mul_comm]; exact hz), rfl, q _ I.fresh⟩

end

section
variable {prog : Program} {w : World} {A : Around} {E : Value → Shared → Prop} {s : Shared}
end

section
variable {X : Cx}
end
end L2

namespace Att
open PySem PySem.W PySem.Calls PyProof.Rows

theorem ints_of_wellAll {P : Params} {h : Heap} : ∀ (ns : List Int) (vs : List Value), WellAll P h vs (ns.map WData.int) → IntsAre vs ns := by
  intro ns
  induction ns with
  | nil =>
    intro vs w
    rw [List.map_nil] at w
    cases w
    exact .nil
  | cons n ns ih =>
    intro vs w
    rw [List.map_cons] at w
    cases w with
    | cons a b =>
      cases a
      exact .cons _ _ (ih _ b)

theorem script_of {l : OpenLaw} {n : Nat} (hn : l.most = some n) {P : Params} {h : Heap} {args : List WData} {vals : List Value}
    (hpre : l.row.toRowW.claim.pre args = true) (hwl : WellAll P h vals args) :
    ∃ a vs ns, vals = [Value.ref a] ∧ args = [WData.list (ns.map WData.int)] ∧ h.get? a = some { cls := .type "list", data := .seq vs.toArray } ∧ IntsAre vs ns ∧ ns.length ≤ n := by
  have hsh : WShape.hasAll [] args [.list .int] = true := (pre_splitW hpre).1
  have hc : l.pre.holds [] { args := args } = true := (pre_splitW hpre).2
  obtain ⟨d, r, rfl, h1, h2⟩ := hasAllW_cons hsh
  obtain rfl := hasAllW_nil h2
  obtain ⟨xs, rfl, h3⟩ := hasW_list h1
  obtain ⟨ns, rfl⟩ := items_int h3
  have hlen : ns.length ≤ n := by
    unfold OpenLaw.pre at hc
    have h4 : (WTm.not (.lt (.lit (.int (n : Int))) (.len (.arg 0)))).holds [] { args := [.list (ns.map .int)] } = true := by
      have h4 := (holds_andW hc).1
      rw [hn] at h4
      exact h4
    have h5 := condW_of h4 (w_not (w_lt w_lit (w_len_list (w_arg rfl))))
    rw [List.length_map] at h5
    refine Nat.le_of_not_lt fun q => ?_
    have q' : (n : Int) < ((ns.length : Nat) : Int) := by omega
    first
      | (rw [decide_eq_true q'] at h5; exact absurd h5 (by decide))
      | (simp at h5; omega)
  cases hwl with
  | cons w1 w2 =>
    cases w2
    cases w1 with
    | list ho hall => exact ⟨_, _, ns, rfl, rfl, ho, ints_of_wellAll ns _ hall, hlen⟩

theorem post_true (l : OpenLaw) (args : List WData) : l.row.toRowW.claim.post args (.bool true) args = true :=
  postW_of (r := l.row.toRowW) (X := (true == true))
    (show WShape.has [] (.bool true) .bool = true by first | rfl | decide | simp [WShape.has, WShape.arms, WShape.armsAll])
    (show (WTm.eq .res (.lit (.bool true))).value [] { args := args, res := some (.bool true), after := args } = some (.bool (true == true)) from w_eq_bool (w_res rfl) w_lit) rfl

theorem attach_call {l : OpenLaw} {n : Nat} {q : Program} {loose : List Str} {XP : (Str → Option Value) → Heap → Prop} {YP : World → Heap → Prop} {d : DefRec}
    (hn : l.most = some n) (hdf : d.params.defaults = [])
    (call : ∀ (w : World) (s₀ s₁ : Shared) (mg mb : Str → Option Value) (fa : Addr) (o : Obj) (pm cd doc : Value) (a : Addr) (vs : List Value) (ns : List Int),
      Ground q loose [] XP w s₀ mg mb s₁.heap → YP w s₁.heap →
      s₁.heap.get? fa = some o → o.data = .func (docDef d.name d.params d.body d.scope pm cd doc) → s₁.heap.CodeRec cd d.name → mg d.name = some (.ref fa) →
      s₁.heap.get? a = some { cls := .type "list", data := .seq vs.toArray } → IntsAre vs ns → ns.length ≤ n → s₁.gens = #[] →
      codeAny (model l.prog w) callerA (.call (.ref fa) ⟨[.ref a], []⟩) (fun r s' => r = .ok (.ret (.bool true)) ∧ OldK s₁.heap s'.heap ∧ s'.os = s₁.os ∧ AllBare s'.gens) s₁) :
    WalkO q loose XP YP l.row.toRowW d [] (fun f vs => PySem.call f vs) := by
  intro w s₀ s₁ mg mb G Y fa o pm cd doc dV kV ho hd hcd hD hmg hg args vals as hpre hlay hrd hwl hlo
  obtain rfl : dV = .none := Dflts.none hD hdf
  obtain rfl : kV = .none := Dflts.noKw hD
  obtain ⟨a, vs, ns, rfl, rfl, hobj, hints, hlen⟩ := script_of hn hpre hwl
  refine enter_call (codeAny_mono (call w s₀ s₁ mg mb fa o pm cd doc a vs ns G Y ho (fd_plain hd) hcd hmg hobj hints hlen hg) fun r s' hq => ?_)
  obtain ⟨rfl, h2, h3, h4⟩ := hq
  exact ⟨.inl ⟨.bool true, .bool true, [], rfl, fun _ => rfl, .bool true, post_true l _, fun _ => ⟨List.Pairwise.nil, fun _ hm => (nomatch hm)⟩⟩, h2, h3, h4⟩

section
variable {prog : Program} {w : World} {A : Around} {E : Value → Shared → Prop} {s : Shared} {K : Frag}

end
end Att

namespace L2
open PySem PySem.Spec PyProof.Rows

theorem vals_ints : ∀ {vs : List Value} {ns : List Int}, IntsAre vs ns → Vals (ns.map V.int) vs
  | _, _, .nil => .nil
  | _, _, .cons n t h => .cons ⟨t, rfl⟩ (vals_ints h)

noncomputable def Only (H : Hp) : Prop := ∀ b, H b = none ∨ ∃ o xs, H b = some (.frz o (.lst xs))

theorem law_call {P : Program} {w : World} {K : PySem.W.Frag} {mg mb : Str → Option Value} {CX : CXT} {k : Nat} {fa a : Addr} {fd : FuncData} {x : Str} {sp : Sp} {s₁ : Shared} {vs : List Value} {ns : List Int}
    (KX : K.In s₁.heap) (hns : s₁.heap.Ns mainGlobals mg) (hb : s₁.heap.Ns builtinsNs mb) (hbb : ∀ x : Str, x ≠ "__name__" → mb x = bootBuiltins x) (hlim : s₁.heap.NoLimit) (hg : s₁.gens = #[])
    (ha : s₁.heap.get? a = some { cls := .type "list", data := .seq vs.toArray }) (hi : IntsAre vs ns) (hl : ns.length ≤ sizeLine) (hr : Room k callerA)
    (F : ∀ base : Heap, K.In base → base.Ns mainGlobals mg → FnOk P w K mg base CX k fa fd [x] sp) (hbind : ∀ (s : Shared) (u : Value), BindsTo s fd ⟨[u], []⟩ [(x, u)])
    (hsp : ∀ H : Hp, Only H → SqL K H a (ns.map V.int) → sp [.ref a] H (fun v _ => v = .bl true) fun _ _ _ => False)
    (hCX : ∀ H e s', CX [] H s₁ (fun _ _ _ => False) e s' → False) :
    codeAny (model P w) callerA (.call (.ref fa) ⟨[.ref a], []⟩) (fun r s' => r = .ok (.ret (.bool true)) ∧ OldK s₁.heap s'.heap ∧ s'.os = s₁.os ∧ AllBare s'.gens) s₁ := by
  have rv := vals_ints hi
  have lenV := hi.length
  -- from an abstract heap in which nothing but the script may be tracked
  have core : ∀ H : Hp, Only H → SqL K H a (ns.map V.int) → HOk P w H s₁.heap → (∀ b, H b ≠ none → b = a) → (H a ≠ none → K.lookup a = none) →
      codeAny (model P w) callerA (.call (.ref fa) ⟨[.ref a], []⟩) (fun r s' => r = .ok (.ret (.bool true)) ∧ OldK s₁.heap s'.heap ∧ s'.os = s₁.os ∧ AllBare s'.gens) s₁ := by
    intro H hO hS hok hA hK
    have base_of : ∀ {b : Addr} {o : Obj}, s₁.heap.get? b = some o → H b = none → (hidT s₁.heap H).get? b = some o := fun e n => hidT_get e n
    have noA : ∀ {b : Addr} {o : Obj} {es : Array DictEntry} {ep : Nat}, s₁.heap.get? b = some o → o.data = .dict es ep → H b = none := fun {b o es ep} e d => by
      cases q : H b with
      | none => rfl
      | some u =>
        have e' : b = a := hA b (by rw [q]; simp)
        subst e'
        rw [ha] at e; cases e
        have d' : Data.seq vs.toArray _ = Data.dict es ep := d
        cases d'
    have nsK : ∀ {b : Addr} {m : Str → Option Value}, s₁.heap.Ns b m → (hidT s₁.heap H).Ns b m := fun {b m} ⟨o, es, ep, e, d, r⟩ => ⟨o, es, ep, base_of e (noA e d), d, r⟩
    have hKb : K.In (hidT s₁.heap H) := fun b o e => base_of (KX b o e) (by
      cases q : H b with
      | none => rfl
      | some u =>
        have e' : b = a := hA b (by rw [q]; simp)
        subst e'
        rw [hK (by rw [q]; simp)] at e; cases e)
    have hM : Mod K mg (hidT s₁.heap H) := ⟨hKb, nsK hns, ⟨mb, nsK hb, hbb⟩, let ⟨mc, h1, h2⟩ := hlim; ⟨mc, nsK h1, h2⟩⟩
    have e0 : Env0 P w K mg (hidT s₁.heap H) callerA [] s₁ H := ⟨rfl, hM, fun b o e => of_hidT e, Nat.le_of_eq (hidT_size _ _), trivial, fun b hb => absurd (show b ∈ ([] : List Addr) from hb) (by simp), hok, .of_eq hg, .inl rfl⟩
    refine codeAny_mono ((F _ hKb (nsK hns)).run callerA [] s₁ H ⟨[.ref a], []⟩ [.ref a] [.ref a] _ _ hr e0 (hbind s₁ (.ref a)) (.cons rfl .nil) (hsp H hO hS)) fun r s' h => ?_
    cases r with
    | error e => exact (hCX H e s' h).elim
    | ok fl =>
      cases fl with
      | next => exact False.elim h
      | brk => exact False.elim h
      | cont => exact False.elim h
      | ret u =>
        obtain ⟨v, H', os, bare, un, hok', r', q⟩ := h
        have q' : v = .bl true := q
        subst q'
        obtain rfl : u = Value.bool true := r'
        refine ⟨rfl, OldK.of_keep fun b o e => ?_, os, bare⟩
        cases q : H b with
        | none => exact un.keep b o e q (by intro z; exact absurd (show b ∈ ([] : List Addr) from z) (by simp)) (by simp)
        | some u =>
          rcases hO b with z | ⟨ob, xs, z⟩
          · rw [q] at z; cases z
          · have z2 := un.frzs b ob _ z
            obtain ⟨e1, _⟩ := hok b _ z
            obtain ⟨e2, _⟩ := hok' b _ z2
            rw [e] at e1; cases e1
            exact e2
  cases hk : K.lookup a with
  | some o =>
    -- the script is one of the module's own objects
    have e := KX a o hk
    rw [ha] at e
    cases e
    refine core (fun _ => none) (fun _ => .inl rfl) (.inr ⟨_, vs.toArray, _, hk, rfl, rfl, rfl, by rw [List.size_toArray, lenV]; exact hl, by simpa using rv⟩) (fun b u z => by have z' : (none : Option HO) = some u := z; cases z') (fun b z => absurd rfl z) fun z => absurd rfl z
  | none =>
    refine core (fun b => if b = a then some (.frz { cls := .type "list", data := .seq vs.toArray } (.lst (ns.map V.int))) else none) (fun b => ?_) (.inl (.inr ⟨{ cls := .type "list", data := .seq vs.toArray }, if_pos rfl⟩)) (fun b u z => ?_) (fun b z => ?_) fun _ => hk
    · by_cases hb : b = a
      · exact .inr ⟨_, _, if_pos hb⟩
      · exact .inl (if_neg hb)
    · by_cases hb : b = a
      · have z' := (if_pos hb).symm.trans z
        cases z'
        subst hb
        exact ⟨ha, by rw [List.length_map]; exact hl, vs, _, rv, ha⟩
      · have z' := (if_neg hb).symm.trans z
        cases z'
    · by_cases hb : b = a
      · exact hb
      · exact absurd (if_neg hb) z
end L2

namespace L2
open PySem PySem.Spec PyProof.Rows

theorem walk_of {l : PySem.W.OpenLaw} {n k : Nat} {q : Program} {loose : List Str} {XP : (Str → Option Value) → Heap → Prop} {YP : World → Heap → Prop} {d : DefRec} {K : Params → PySem.W.Frag} {CX : World → CXT} {sp : World → Sp} {x : Str}
    (hn : l.most = some n) (hn2 : n ≤ sizeLine) (hdf : d.params.defaults = []) (hr : Room k callerA)
    (hY : ∀ (w : World) (h : Heap), YP w h → (K w.params).In h)
    (F : ∀ (w : World) (mg : Str → Option Value) (fa : Addr) (h : Heap), (K w.params).In h → h.Ns mainGlobals mg → mg d.name = some (.ref fa) →
      ∃ fd : FuncData, (∀ (s : Shared) (u : Value), BindsTo s fd ⟨[u], []⟩ [(x, u)]) ∧
        ∀ base : Heap, (K w.params).In base → base.Ns mainGlobals mg → FnOk l.prog w (K w.params) mg base (CX w) k fa fd [x] (sp w))
    (hsp : ∀ (w : World) (H : Hp) (a : Addr) (ns : List Int), ns.length ≤ n → Only H → SqL (K w.params) H a (ns.map V.int) → sp w [.ref a] H (fun v _ => v = .bl true) fun _ _ _ => False)
    (hCX : ∀ (w : World) (H : Hp) (s : Shared) (e : Value) (s' : Shared), CX w [] H s (fun _ _ _ => False) e s' → False) :
    PySem.W.WalkO q loose XP YP l.row.toRowW d [] (fun f vs => PySem.call f vs) := by
  refine Att.attach_call hn hdf fun w s₀ s₁ mg mb fa o pm cd doc a vs ns G Y ho hd hcd hmg hobj hints hlen hg => ?_
  have KX := hY w _ Y
  obtain ⟨fd, hb, hF⟩ := F w mg fa _ KX G.T.g hmg
  exact law_call KX G.T.g G.T.b G.T.builtins G.T.nolimit hg hobj hints (Nat.le_trans hlen hn2) hr hF hb (fun H hO hS => hsp w H a ns hlen hO hS) fun H e s' => hCX w H s₁ e s'
end L2

namespace L2
open PySem PySem.Spec PyProof.Rows

noncomputable def defArgs (s : Stmt) : Arguments := match s with
  | .FunctionDef _ a _ _ _ _ _ _ _ _ => a
  | _ => { posonlyargs := [], args := [], vararg := none, kwonlyargs := [], kw_defaults := [], kwarg := none, defaults := [] }
noncomputable def defBody (s : Stmt) : List Stmt := match s with
  | .FunctionDef _ _ b _ _ _ _ _ _ _ => b
  | _ => []
noncomputable def defScope (s : Stmt) : Scope := match s with
  | .FunctionDef _ _ _ _ _ _ sc _ _ _ => sc
  | _ => { kind := .function, names := [], isGenerator := false, isCoroutine := false }

noncomputable abbrev E0 : XK := fun _ _ _ => False
structure Fun (K : PySem.W.Frag) (x qual : Str) (st : Stmt) (f : Addr) (fd : FuncData) : Prop where
  ex : ∃ (oc : Value) (od : Option Addr) (kV doc pm : Value) (an : Option Addr) (cdv ct : Value) (osl : Array (Option Value)),
    fd = PySem.W.fnOf x qual (defArgs st) (defBody st) (defScope st) .none kV doc pm an cdv ct ∧ K.lookup f = some ⟨oc, od, .func fd, osl⟩ ∧ PySem.W.codeIn K cdv qual = true
  kp : PySem.W.keepIn K (.ref f) = true
section
variable {P : Program} {w : World} {K : PySem.W.Frag} {mg : Str → Option Value} {base : Heap}
theorem Fun.binds {x qual : Str} {st : Stmt} {f : Addr} {fd : FuncData} {ps : List Str} (F : Fun K x qual st f fd)
    (h : ∀ (kV doc pm : Value) (an : Option Addr) (cdv ct : Value) (us : List Value), us.length = ps.length → bindArgs (PySem.W.fnOf x qual (defArgs st) (defBody st) (defScope st) .none kV doc pm an cdv ct) ⟨us, []⟩ = pure (ps.zip us)) : Binds K fd ps [] := by
  obtain ⟨oc, od, kV, doc, pm, an, cdv, ct, osl, rfl, lk, hcd⟩ := F.ex
  exact .all (h kV doc pm an cdv ct)
theorem fun_mk {x qual : Str} {st : Stmt} {f : Addr} {oc : Value} {od an : Option Addr} {osl : Array (Option Value)} {kV doc pm cdv ct : Value} (l : K.lookup f = some ⟨oc, od, .func (PySem.W.fnOf x qual (defArgs st) (defBody st) (defScope st) .none kV doc pm an cdv ct), osl⟩)
    (c : PySem.W.codeIn K cdv qual = true) (k : PySem.W.keepIn K (.ref f) = true) : Fun K x qual st f (PySem.W.fnOf x qual (defArgs st) (defBody st) (defScope st) .none kV doc pm an cdv ct) := ⟨⟨oc, od, kV, doc, pm, an, cdv, ct, osl, rfl, l, c⟩, k⟩
end
theorem small1000 {n : Nat} (h : n ≤ 1000) : n < sizeLine := Nat.lt_of_le_of_lt h (by decide)

section
variable {X : Cx}
theorem pv (i : Nat) {x : Str} {pos : Pos} (hN : X.N[i]? = some x := by rfl) (hv : Vis X.env.scope x := by first | exact Or.inl rfl | exact Or.inr (Or.inl rfl) | exact Or.inr (Or.inr rfl)) (hd : (x == ("__debug__" : Str)) = false := by decide)
    (hcd : (x == ("__classdict__" : Str)) = false := by decide) : PE X (.Name x pos) (tVar i) := pe_var hN hv hd hcd
end

theorem iteF {A B : Prop} (h : B) : if false = true then A else B := by
  rw [if_neg Bool.false_ne_true]
  exact h
theorem iteT {A B : Prop} (h : A) : if true = true then A else B := by
  rw [if_pos rfl]
  exact h
noncomputable def Same (H H' : Hp) : Prop := ∀ b o, H b = some o → H' b = some o
theorem Same.free {H H' : Hp} (e : Same H H') {l : Addr} (h : H' l = Option.none) : H l = Option.none := by
  cases q : H l with
  | none => rfl
  | some o =>
    rw [e l o q] at h
    cases h
end L2


end
section
set_option Elab.async false
set_option linter.all false
set_option maxRecDepth 100000
namespace L2
open PySem PySem.Spec PyProof.Rows

end L2

namespace L2
open PySem PySem.Spec PyProof.Rows

section
variable (P : Program) (w : World)
end

section
variable {P : Program} {w : World} {H H' : Hp} {h h' : Heap} {a : Addr} {o : HO}
end

section
variable {P : Program} {w : World} {H : Hp} {h h' : Heap} {x e : Addr} {o' : HO}
end

section
variable {fs fs' ex ex' : List Addr} {H H1 H2 : Hp} {h h1 h2 h' : Heap} {a x e : Addr} {o : HO}
end

end L2

namespace L2
open PySem PySem.Spec PyProof.Rows

section
variable {X : Cx} {pins : List (Addr × Obj)} {σ : List (Option V)} {H H' : Hp} {s : Shared} {h' : Heap}

end

end L2

namespace L2
open PySem PySem.Spec PyProof.Rows
section
variable {X : Cx}

variable {a b : Expr} {ta tb : TE} {pos : Pos}
variable {tA tB' : TT} {rest : List Expr}
end
end L2

namespace L2
open PySem PySem.Spec PyProof.Rows

section
variable {X : Cx} {pins : List (Addr × Obj)} {σ : St} {H : Hp} {s : Shared} {a : Addr} {xs ys : List V}
end

section
variable {X : Cx} {pins : List (Addr × Obj)} {σ : St} {H : Hp} {s : Shared} {E : Value → Shared → Prop}
end

section
variable {X : Cx} {st : Stmt} {rest : List Stmt} {t u : TS} {e : Expr} {te : TE} {pos : Pos}
end

section
variable {X : Cx} {pos : Pos}
end

section
variable {X : Cx} {pos : Pos}
end

end L2

namespace L2
open PySem PySem.Spec PyProof.Rows
section
variable {X : Cx} {tg : Expr}
end

end L2

namespace L2
open PySem PySem.Spec PyProof.Rows

section
variable {X : Cx} {a b c : Expr} {ta tb tc : TE} {pos : Pos}

end

section
variable {X : Cx} {a b c : Expr} {ta tb tc : TE} {pos : Pos}
end
end L2

namespace L2
open PySem PySem.Spec PyProof.Rows

section
variable {prog : Program} {w : World} {A : Around} {E : Value → Shared → Prop} {s : Shared} {K : PySem.W.Frag} {x dx C f : Addr} {mA : Str → Option Value} {name : Str} {v : Value}

end

section
variable {P : Program} {w : World} {H H' : Hp} {h h' : Heap} {a C dx : Addr} {fs fs' : List (Str × V)}
end

section
variable {X : Cx} {pins : List (Addr × Obj)} {σ : St} {H : Hp} {s : Shared} {a C dx : Addr} {fs : List (Str × V)} {f : Str} {v : V} {A : Around} {E : Value → Shared → Prop}

end

section
variable {X : Cx} {o e value : Expr} {f : Str} {pos pos' tpos : Pos} {ta tv : TE}
end

section
variable {X : Cx} {pins : List (Addr × Obj)} {σ : St} {H : Hp} {s : Shared} {A : Around} {E : Value → Shared → Prop} {Q : Value → Shared → Prop} {c : Value} {b : Bool}
end
end L2

namespace L2
open PySem PySem.Spec PyProof.Rows

section
variable {X : Cx} {e : Expr} {es : List Expr} {te : TE} {t : TA} {pos : Pos}
end

section
variable {X : Cx} {pins : List (Addr × Obj)} {σ : St} {H : Hp} {s s' : Shared}
end

section
variable {X : Cx} {CX : CXT} {k : Nat} {f C : Addr} {fd : FuncData} {ps : List Str} {sp : Sp} {dvs : List V} {ds : List Value} {E : XK} {x m : Str} {p pos apos : Pos} {e o : Expr} {es : List Expr} {ta : TE} {t : TA}

end

section
variable {X : Cx} {CX : CXT} {k : Nat} {f C : Addr} {fd : FuncData} {ps ks : List Str} {sp : Sp} {E : XK} {x m : Str} {p pos apos kpos : Pos} {e o : Expr} {es : List Expr} {kws : List Keyword} {te ta : TE} {t tk : TA} {nm : Option Str}
variable {g : List Value → List Value → List Value} {gV : List V → List V → List V}
end

end L2

namespace L2
open PySem PySem.Spec PyProof.Rows
section
variable {X : Cx} {x : Str} {p pos : Pos} {e : Expr} {es : List Expr} {t : TA} {id T : String} {r : List V → Hp → VK → Prop}

end
end L2

namespace L2
open PySem PySem.Spec PyProof.Rows

section
variable {κ : Type} [DecidableEq κ]
noncomputable def valV (kvs : List (κ × V)) (k : κ) : Option V := (kvs.find? fun kv => decide (kv.1 = k)).map (·.2)
noncomputable def putK (kvs : List (κ × V)) (k : κ) (v : V) : List (κ × V) :=
  if (kvs.any fun kv => decide (kv.1 = k)) = true then kvs.map (fun kv => if kv.1 = k then (kv.1, v) else kv) else kvs ++ [(k, v)]
theorem valV_pos {p : κ × V} {r : List (κ × V)} {k : κ} (e : p.1 = k) : valV (p :: r) k = some p.2 := by simp [valV, List.find?_cons, e]
theorem valV_neg {p : κ × V} {r : List (κ × V)} {k : κ} (e : ¬ p.1 = k) : valV (p :: r) k = valV r k := by simp [valV, List.find?_cons, e]
theorem valV_any (k : κ) : ∀ kvs : List (κ × V), (kvs.any fun kv => decide (kv.1 = k)) = (valV kvs k).isSome
  | [] => rfl
  | p :: r => by
    rw [List.any_cons]
    by_cases e : p.1 = k
    · simp only [valV_pos e, decide_eq_true e, Bool.true_or, Option.isSome_some]
    · rw [valV_neg e, decide_eq_false e, Bool.false_or]; exact valV_any k r
theorem length_putK (kvs : List (κ × V)) (k : κ) (v : V) : (putK kvs k v).length ≤ kvs.length + 1 := by
  unfold putK
  split
  · rw [List.length_map]; omega
  · rw [List.length_append, List.length_cons, List.length_nil]; omega
theorem RelO.isSome_eq {o : Option V} {u : Option Value} (r : RelO o u) : o.isSome = u.isSome := by
  cases o with
  | none => cases u with
    | none => rfl
    | some _ => exact (show False from r).elim
  | some _ => cases u with
    | none => exact (show False from r).elim
    | some _ => rfl
theorem RelO.getD {o : Option V} {u : Option Value} {d : V} {d' : Value} (r : RelO o u) (rd : RelV d d') : RelV (o.getD d) (u.getD d') := by
  cases o with
  | none => cases u with
    | none => exact rd
    | some _ => exact (show False from r).elim
  | some _ => cases u with
    | none => exact (show False from r).elim
    | some _ => exact r

theorem KV.val {kvs : List (κ × V)} {vs : List (κ × Value)} (r : KV kvs vs) (k : κ) : RelO (valV kvs k) (valueAt vs k) := by
  unfold KV at r
  induction r with
  | nil => exact True.intro
  | @cons p q ps qs h t ih =>
    obtain ⟨h1, h2⟩ := h
    by_cases e : p.1 = k
    · have e' : q.1 = k := h1.symm.trans e
      have b : valueAt (q :: qs) k = some q.2 := by simp [valueAt, List.find?_cons, e']
      rw [valV_pos e, b]; exact h2
    · have e' : ¬ q.1 = k := fun z => e (h1.trans z)
      have b : valueAt (q :: qs) k = valueAt qs k := by simp [valueAt, List.find?_cons, e']
      rw [valV_neg e, b]; exact ih
theorem KV.any {kvs : List (κ × V)} {vs : List (κ × Value)} (r : KV kvs vs) (k : κ) : (kvs.any fun kv => decide (kv.1 = k)) = vs.any fun kv => decide (kv.1 = k) := by
  unfold KV at r
  induction r with
  | nil => rfl
  | cons h t ih => rw [List.any_cons, List.any_cons, ih, h.1]
theorem KV.repl {kvs : List (κ × V)} {vs : List (κ × Value)} (r : KV kvs vs) (k : κ) {y : V} {u : Value} (ry : RelV y u) :
    KV (kvs.map fun kv => if kv.1 = k then (kv.1, y) else kv) (vs.map fun kv => if kv.1 = k then (kv.1, u) else kv) := by
  unfold KV at r ⊢
  induction r with
  | nil => exact .nil
  | @cons p q ps qs h t ih =>
    rw [List.map_cons, List.map_cons]
    refine .cons ?_ ih
    obtain ⟨h1, h2⟩ := h
    by_cases e : p.1 = k
    · rw [if_pos e, if_pos (h1.symm.trans e)]; exact ⟨h1, ry⟩
    · rw [if_neg e, if_neg (fun z => e (h1.trans z))]; exact ⟨h1, h2⟩
theorem KV.put {kvs : List (κ × V)} {vs : List (κ × Value)} (r : KV kvs vs) (k : κ) {y : V} {u : Value} (ry : RelV y u) : KV (putK kvs k y) (stored vs k u) := by
  unfold putK stored
  rw [r.any k]
  by_cases e : (vs.any fun kv => decide (kv.1 = k)) = true
  · rw [if_pos e, if_pos e]; exact r.repl k ry
  · rw [if_neg e, if_neg e]; exact Paired.snoc r ⟨rfl, ry⟩
theorem KV.length {kvs : List (κ × V)} {vs : List (κ × Value)} (r : KV kvs vs) : kvs.length = vs.length := Paired.length r
end


theorem kV_is {P : Program} {w : World} {k : Key} {u : Value} (r : RelV (kV k) u) : (mixKind P w).is k u = true := by
  cases k with
  | inl i => obtain ⟨t, e⟩ := (show ∃ t, u = Value.int i t from r); subst e; exact mixKind_int P w i t
  | inr x => obtain ⟨t, e⟩ := (show ∃ t, u = Value.str x t from r); subst e; exact mixKind_str P w x t
theorem items_are {P : Program} {w : World} : ∀ {ks : List Key} {us : List Value}, Vals (ks.map kV) us → ItemsAre (mixKind P w) ks us
  | [], _, r => by rw [List.map_nil] at r; cases r; exact .nil
  | k :: ks, _, r => by
    rw [List.map_cons] at r
    cases r with
    | cons h t => exact .cons (kV_is h) (items_are t)

noncomputable abbrev KT (H : Hp) : List (List Key × V) → List (List Key × Addr × Value) → Prop := Paired fun p q => p.1 = q.1 ∧ H q.2.1 = some (.tup (p.1.map kV)) ∧ RelV p.2 q.2.2
theorem KT.val {H : Hp} {kvs : List (List Key × V)} {xs : List (List Key × Addr × Value)} (r : KT H kvs xs) (k : List Key) : RelO (valV kvs k) ((atKey xs k).map (·.2)) := by
  induction r with
  | nil => exact True.intro
  | @cons p q ps qs h t ih =>
    obtain ⟨h1, _, h2⟩ := h
    by_cases e : p.1 = k
    · have e' : q.1 = k := h1.symm.trans e
      have b : atKey (q :: qs) k = some q.2 := by simp [atKey, List.find?_cons, e']
      rw [valV_pos e, b]; exact h2
    · have e' : ¬ q.1 = k := fun z => e (h1.trans z)
      have b : atKey (q :: qs) k = atKey qs k := by simp [atKey, List.find?_cons, e']
      rw [valV_neg e, b]; exact ih
theorem KT.repl {H : Hp} {kvs : List (List Key × V)} {xs : List (List Key × Addr × Value)} (r : KT H kvs xs) (k : List Key) {y : V} {u : Value} (ry : RelV y u) :
    KT H (kvs.map fun kv => if kv.1 = k then (kv.1, y) else kv) (xs.map (putAt k u)) := by
  induction r with
  | nil => exact .nil
  | @cons p q ps qs h t ih =>
    rw [List.map_cons, List.map_cons]
    refine .cons ?_ ih
    obtain ⟨h1, h2, h3⟩ := h
    unfold putAt
    by_cases e : p.1 = k
    · rw [if_pos e, if_pos (h1.symm.trans e)]; exact ⟨h1, h2, ry⟩
    · rw [if_neg e, if_neg (fun z => e (h1.trans z))]; exact ⟨h1, h2, h3⟩
theorem KT.put {H : Hp} {kvs : List (List Key × V)} {xs : List (List Key × Addr × Value)} (r : KT H kvs xs) (k : List Key) {b : Addr} {y : V} {u : Value} (hb : H b = some (.tup (k.map kV))) (ry : RelV y u) :
    KT H (putK kvs k y) (storedH xs k b u) := by
  have e : (kvs.any fun kv => decide (kv.1 = k)) = (atKey xs k).isSome := by
    rw [valV_any, (r.val k).isSome_eq, Option.isSome_map]
  unfold putK storedH
  rw [e]
  by_cases q : (atKey xs k).isSome = true
  · rw [if_pos q, if_pos q]; exact r.repl k ry
  · rw [if_neg q, if_neg q]; exact Paired.snoc r ⟨rfl, hb, ry⟩
theorem KT.keeps {H H' : Hp} {kvs : List (List Key × V)} {xs : List (List Key × Addr × Value)} (r : KT H kvs xs) (ht : ∀ b ys, H b = some (.tup ys) → H' b = some (.tup ys)) : KT H' kvs xs :=
  Paired.mapP r fun _ _ z => ⟨z.1, ht _ _ z.2.1, z.2.2⟩

section
variable {P : Program} {w : World} {H : Hp} {h : Heap} {a : Addr}
theorem rd_of {u : HO} (ok : HOk P w H h) (e : Rd H a u) : ObjOk P w H h a u := e.ok ok
theorem dk_rd {kvs : List (Key × V)} (ok : HOk P w H h) (e : Rd H a (.dK kvs)) : kvs.length ≤ sizeLine ∧ (a == sysModules) = false ∧ ∃ vs, KV kvs vs ∧ h.DictOf (mixKind P w) a vs :=
  show ObjOk P w H h a (.dK kvs) from rd_of ok e
theorem dk_of {kvs : List (Key × V)} (ok : HOk P w H h) (e : H a = some (.dK kvs)) : kvs.length ≤ sizeLine ∧ (a == sysModules) = false ∧ ∃ vs, KV kvs vs ∧ h.DictOf (mixKind P w) a vs := dk_rd ok (.inl e)
theorem key_of {ks : List Key} (ok : HOk P w H h) (e : H a = some (.tup (ks.map kV))) : (tupleKind (mixKind P w)).is h ks a := by
  obtain ⟨_, its, r, o, h1, h2, n, h3⟩ := (show ObjOk P w H h a (.tup (ks.map kV)) from ok a _ e)
  exact ⟨o, its.toArray, n, h1, h2, h3, by simpa using items_are r⟩
theorem dt_rd {kvs : List (List Key × V)} (ok : HOk P w H h) (e : Rd H a (.dT kvs)) : kvs.length ≤ sizeLine ∧ (a == sysModules) = false ∧
    ∃ xs, KT H kvs xs ∧ h.DictOfH (tupleKind (mixKind P w)) a xs := by
  obtain ⟨z, y, xs, r, o, es, ep, h1, h2, h3, h4, h5⟩ := (show ObjOk P w H h a (.dT kvs) from rd_of ok e)
  refine ⟨z, y, xs, r, o, es, ep, h1, h2, h3, h4, fun x hx => ?_, h5⟩
  have all : ∀ {l : List (List Key × V)} {m : List (List Key × Addr × Value)}, KT H l m → ∀ x ∈ m, (tupleKind (mixKind P w)).is h x.1 x.2.1 := by
    intro l m q
    induction q with
    | nil => intro x hx; exact nomatch hx
    | @cons p q ps qs hq t ih =>
      intro x hx
      rcases List.mem_cons.mp hx with e | hx
      · subst e
        exact key_of ok (by rw [← hq.1]; exact hq.2.1)
      · exact ih x hx
  exact all r x hx
theorem dt_of {kvs : List (List Key × V)} (ok : HOk P w H h) (e : H a = some (.dT kvs)) : kvs.length ≤ sizeLine ∧ (a == sysModules) = false ∧
    ∃ xs, KT H kvs xs ∧ h.DictOfH (tupleKind (mixKind P w)) a xs := dt_rd ok (.inl e)
end

noncomputable def DGet (H : Hp) (a : Addr) (y : V) (r : Option V) : Prop :=
  (∃ kvs k, Rd H a (.dK kvs) ∧ y = kV k ∧ r = valV kvs k) ∨ ∃ kvs k b, Rd H a (.dT kvs) ∧ y = .ref b ∧ H b = some (.tup (k.map kV)) ∧ r = valV kvs k
noncomputable def DPut (H : Hp) (a : Addr) (y v : V) (H' : Hp) : Prop :=
  (∃ kvs k, H a = some (.dK kvs) ∧ y = kV k ∧ kvs.length < sizeLine ∧ H' = upd H a (.dK (putK kvs k v))) ∨
  ∃ kvs k b, H a = some (.dT kvs) ∧ y = .ref b ∧ H b = some (.tup (k.map kV)) ∧ kvs.length < sizeLine ∧ H' = upd H a (.dT (putK kvs k v))
theorem DGet.k {H : Hp} {a : Addr} {kvs : List (Key × V)} {k : Key} (e : H a = some (.dK kvs)) : DGet H a (kV k) (valV kvs k) := .inl ⟨kvs, k, .inl e, rfl, rfl⟩
theorem DGet.t {H : Hp} {a b : Addr} {kvs : List (List Key × V)} {k : List Key} (e : H a = some (.dT kvs)) (eb : H b = some (.tup (k.map kV))) : DGet H a (.ref b) (valV kvs k) := .inr ⟨kvs, k, b, .inl e, rfl, eb, rfl⟩
theorem DPut.k {H : Hp} {a : Addr} {kvs : List (Key × V)} {k : Key} {v : V} (e : H a = some (.dK kvs)) (hl : kvs.length < sizeLine) : DPut H a (kV k) v (upd H a (.dK (putK kvs k v))) := .inl ⟨kvs, k, e, rfl, hl, rfl⟩
theorem DPut.t {H : Hp} {a b : Addr} {kvs : List (List Key × V)} {k : List Key} {v : V} (e : H a = some (.dT kvs)) (eb : H b = some (.tup (k.map kV))) (hl : kvs.length < sizeLine) :
    DPut H a (.ref b) v (upd H a (.dT (putK kvs k v))) := .inr ⟨kvs, k, b, e, rfl, eb, hl, rfl⟩


section
variable {X : Cx} {pins : List (Addr × Obj)} {σ : St} {H : Hp} {s : Shared} {a : Addr} {y v : V} {u r : Value} {o : Option V} {A : Around} {E : Value → Shared → Prop}

theorem Inv.big (I : Inv X pins σ H s) : sysModules < s.heap.objs.size := by
  have h : mainGlobals < s.heap.objs.size := (I.mod.glob.keeps I.bk).lt
  exact Nat.lt_trans (by decide) h

theorem d_getItem {Q : Value → Shared → Prop} (hu : A.units + 1 < cLine) (I : Inv X pins σ H s) (g : DGet H a y (some v)) (ry : RelV y u) (h : ∀ w' s', Inv X pins σ H s' → RelV v w' → Q w' s') :
    wpAny (model X.prog X.w) A (getItem (.ref a) u) Q E s := by
  rcases g with ⟨kvs, k, e, ey, l⟩ | ⟨kvs, k, b, e, ey, eb, l⟩
  · subst ey
    obtain ⟨z, hd, vs, rel, dd⟩ := dk_rd I.hok e
    obtain ⟨w', hw, rw'⟩ := RelO.some_of (v := v) (o := valueAt vs k) (by rw [l]; exact rel.val k)
    exact wpAny_getItem_of (kV_is ry) dd.mapOf hw (h w' _ (I.tok _) rw')
  · subst ey
    cases (show u = Value.ref b from ry)
    obtain ⟨z, hd, xs, rel, dd⟩ := dt_rd I.hok e
    obtain ⟨w', hw, rw'⟩ := RelO.some_of (v := v) (o := (atKey xs k).map (·.2)) (by rw [l]; exact rel.val k)
    obtain ⟨p, hp, hp2⟩ := Option.map_eq_some_iff.mp hw
    refine wpAny_getItem_heap (tupleKind_room_in1 hu) (key_of I.hok eb) dd hp ?_
    rw [hp2]
    exact h w' _ (I.tok _) rw'
theorem d_write {h' : Heap} {t' : Nat} {ob : HO} (I : Inv X pins σ H s) (mu : Mut (H a)) (hs : Heap.SameBut a s.heap h') (he : ∃ q, h'.get? a = some q) (new : ObjOk X.prog X.w (upd H a ob) h' a ob) :
    Inv X pins σ (upd H a ob) { s with heap := h', toks := t' } :=
  I.write (x := a) (e := a) mu (.inl rfl) (fun b q hb z => (hs.2 b hb).trans z) he new
theorem dk_new {P : Program} {w : World} {H' : Hp} {h' : Heap} {kvs : List (Key × V)} {vs : List (Key × Value)} (z : kvs.length ≤ sizeLine) (hd : (a == sysModules) = false) (rel : KV kvs vs) (dd : h'.DictOf (mixKind P w) a vs) :
    ObjOk P w H' h' a (.dK kvs) := ⟨z, hd, vs, rel, dd⟩
theorem d_setItem {H' : Hp} {Q : Unit → Shared → Prop} (hu : A.units + 1 < cLine) (I : Inv X pins σ H s) (g : DPut H a y v H') (ry : RelV y u) (rv : RelV v r) (h : ∀ s', Inv X pins σ H' s' → Q () s') :
    wpAny (model X.prog X.w) A (setItem (.ref a) u r) Q E s := by
  rcases g with ⟨kvs, k, e, ey, l, eH⟩ | ⟨kvs, k, b, e, ey, eb, l, eH⟩
  · subst ey eH
    obtain ⟨z, hd, vs, rel, dd⟩ := dk_of I.hok e
    have hz : vs.length ≤ sizeLine := by rw [← rel.length]; exact z
    have hl : (putK kvs k v).length ≤ sizeLine := by have := length_putK kvs k v; omega
    refine wpAny_setItem_pairs (hsz := hz) (kV_is ry) dd fun h' dd' hs => h _ ?_
    have he : ∃ q, h'.get? a = some q := let ⟨q, _, _, hq, _⟩ := dd'; ⟨q, hq⟩
    exact d_write I (by rw [e]; exact True.intro) hs he (dk_new hl hd (rel.put k rv) dd')
  · subst ey eH
    cases (show u = Value.ref b from ry)
    obtain ⟨z, hd, xs, rel, dd⟩ := dt_of I.hok e
    have hz : xs.length ≤ sizeLine := by rw [← Paired.length rel]; exact z
    have hl : (putK kvs k v).length ≤ sizeLine := by have := length_putK kvs k v; omega
    refine wpAny_setItem_heap (hsz := hz) (tupleKind_room_in1 hu) (key_of I.hok eb) dd fun h' dd' hs => h _ ?_
    obtain ⟨q, es, ep, hq, h2, h3, h4, _, h5⟩ := dd'
    refine d_write I (by rw [e]; exact True.intro) hs ⟨q, hq⟩ ⟨hl, hd, _, (rel.put k eb rv).keeps fun c ys ec => ?_, q, es, ep, hq, h2, h3, h4, h5⟩
    rw [upd_ne (ne_of ec e (fun z => nomatch z))]
    exact ec
end

section
variable {X : Cx} {pins : List (Addr × Obj)} {σ : St} {H : Hp} {s : Shared} {a : Addr} {kvs : List (Key × V)} {k : Key} {u : Value} {A : Around} {E : Value → Shared → Prop}
theorem d_len {Q : Value → Shared → Prop} (I : Inv X pins σ H s) (e : Rd H a (.dK kvs)) (h : ∀ t s', Inv X pins σ H s' → Q (.int kvs.length t) s') : wpAny (model X.prog X.w) A (call (.builtin "len") [.ref a]) Q E s := by
  obtain ⟨z, hd, vs, rel, dd⟩ := dk_rd I.hok e
  refine call_len_dict hd dd (by rw [← rel.length]; rw [sizeLine_eq] at z; omega) ?_
  rw [← rel.length]
  exact h _ _ (I.tok _)
end


noncomputable def NoSl (i : Expr) : Prop := ∀ ov iv, subscripted i false ov iv = operate [ov, iv] (getItem ov iv)
theorem subD_of {prog : Program} {w : World} {A : Around} {E : Value → Shared → Prop} {s : Shared} {env : Env} {value slice : Expr} {pos : Pos} {T id : String} {Q : Value → Shared → Prop}
    (hl : typeLookup (.type T) "__getitem__" = pure (some (.builtin id))) (hs : NoSl slice)
    (h : wpAny (model prog w) A (eval value env) (fun o s₁ => wpAny (model prog w) A (eval slice env) (fun i s₂ => s₂.TypeIs o T ∧ wpAny (model prog w) A (getItem o i) Q E s₂) E s₁) E s) :
    wpAny (model prog w) A (eval (.Subscript value slice pos) env) Q E s := by
  refine Subscript_ (wpAny_mono h (fun o s₁ h₁ => wpAny_mono h₁ (fun i s₂ h₂ => ?_) fun _ _ x => x) fun _ _ x => x)
  obtain ⟨hT, h₂⟩ := h₂
  unfold subscriptTail
  refine wpAny_bind ?_
  rw [getitemInPython_of_ne hT.not_modules]
  refine wpAny_bind (wpAny_specialOf hT hl ?_)
  have fin : wpAny (model prog w) A (subscripted slice false o i) (fun r s₃ => wpAny (model prog w) A (letTemporaryGo value o r >>= fun _ => pure r) Q E s₃) E s₂ := by
    rw [hs o i]
    exact wpAny_operating (wpAny_mono h₂ (fun r s₃ h₃ => wpAny_bind (wpAny_letTemporaryGo (wpAny_pure h₃))) fun _ _ x => x)
  first
    | exact wpAny_pure (wpAny_bind fin)
    | exact wpAny_bind (wpAny_pure (wpAny_bind fin))
    | exact wpAny_bind fin

theorem dict_typeIs {X : Cx} {pins : List (Addr × Obj)} {σ : St} {H : Hp} {s : Shared} {a : Addr} {y : V} {o : Option V} (I : Inv X pins σ H s) (g : DGet H a y o) : s.TypeIs (.ref a) "dict" := by
  rcases g with ⟨kvs, k, e, _, _⟩ | ⟨kvs, k, b, e, _, _, _⟩
  · obtain ⟨_, _, vs, _, dd⟩ := dk_rd I.hok e
    exact dd.typeIs
  · obtain ⟨_, _, xs, _, dd⟩ := dt_rd I.hok e
    exact dd.typeIs
noncomputable def tDGet (td ty : TE) : TE := fun σ H Q => td σ H fun x H1 => ty σ H1 fun y H2 => ∃ a v, x = .ref a ∧ DGet H2 a y (some v) ∧ Q v H2
noncomputable def sDPut (td ty tv : TE) : TS := fun D σ H => tv σ H fun v H1 => td σ H1 fun x H2 => ty σ H2 fun y H3 => ∃ a H4, x = .ref a ∧ DPut H3 a y v H4 ∧ D.nx σ H4
section
variable {X : Cx} {o i e value : Expr} {pos pos' tpos : Pos} {td ty tv : TE}
theorem pe_dget (hu : X.A.units + 1 < cLine) (ho : PE X o td) (hi : PE X i ty) (hs : NoSl i) : PE X (.Subscript o i pos) (tDGet td ty) := by
  intro pins s σ H Q I h
  refine subD_of PySem.F.slot_dict_getitem.lookup hs (thn (ho pins s σ H _ I h) fun u s1 ⟨x, H1, I1, rx, q1⟩ => thn (hi pins s1 σ H1 _ I1 q1) fun iv s2 ⟨y, H2, I2, ry, a, v, ex, g, q2⟩ => ?_)
  subst ex
  obtain rfl : u = Value.ref a := rx
  exact ⟨dict_typeIs I2 g, d_getItem hu I2 g ry fun w' s3 I3 rw' => ⟨v, H2, I3, rw', q2⟩⟩
theorem ps_dput (hu : X.A.units + 1 < cLine) (ho : PE X o td) (hi : PE X i ty) (hv : PE X value tv) (hs : swapsWith value (some (.Subscript o i pos')) pos.line X.env = pure false) :
    PS X (.Assign [.Subscript o i pos'] value pos) (sDPut td ty tv) := by
  intro pins s σ H D I h
  refine wpAny_Assign_Subscript (thn (hv pins s σ H _ I h) fun r s1 ⟨v, H1, I1, rv, q1⟩ => thn (ho pins s1 σ H1 _ I1 q1) fun u s2 ⟨x, H2, I2, rx, q2⟩ => thn (hi pins s2 σ H2 _ I2 q2) fun iv s3 ⟨y, H3, I3, ry, a, H4, ex, g, q3⟩ => ?_) hs
  subst ex
  obtain rfl : u = Value.ref a := rx
  exact d_setItem hu I3 g ry rv fun s4 I4 => ⟨σ, H4, I4, q3⟩
end


theorem dk_empty {P : Program} {w : World} {H : Hp} (h : Heap) (hb : sysModules < h.objs.size) : ObjOk P w H (h.push { cls := .type "dict", data := .dict #[] }) h.objs.size (.dK []) :=
  ⟨Nat.zero_le _, beq_eq_false_iff_ne.mpr (Ne.symm (Nat.ne_of_lt hb)), [], .nil, Heap.DictOf.new h⟩
noncomputable def tDNewK : TE := fun _ H Q => ∀ p, H p = none → Q (.ref p) (upd H p (.dK []))
section
variable {X : Cx} {pos : Pos}
theorem pe_dnewK : PE X (.Dict [] [] pos) tDNewK := fun pins s σ H Q I h =>
  wpAny_Dict_empty ⟨.ref s.heap.objs.size, _, I.laid (a := s.heap.objs.size) (o := .dK []) (t' := s.toks) (fun _ _ q => Heap.get?_push_of_some _ q) (Nat.le_refl _) (dk_empty s.heap I.big), rfl, h _ (I.hok.fresh (Nat.le_refl _))⟩
end

structure M1 (X : Cx) (o : Expr) (m : Str) (apos : Pos) (e : Expr) (cpos : Pos) : Prop where
  base : attributeBase o m X.env (eval o X.env) = eval o X.env
  few : ((backTo cpos (starEach [e] X.env)).all (fun x => !x.1) && (backToKw cpos (keywordEach [] X.env)).all (fun x => x.1.isSome)
    && decide (([e] : List Expr).length + ([] : List Keyword).length + (if ([] : List Keyword).isEmpty then 0 else 1) < 30)) = true
  line : (apos.endLine == cpos.line) = true
  trees : backTo cpos (starEach [e] X.env) = [(false, eval e X.env)]
structure M2 (X : Cx) (o : Expr) (m : Str) (apos : Pos) (e f : Expr) (cpos : Pos) : Prop where
  base : attributeBase o m X.env (eval o X.env) = eval o X.env
  few : ((backTo cpos (starEach [e, f] X.env)).all (fun x => !x.1) && (backToKw cpos (keywordEach [] X.env)).all (fun x => x.1.isSome)
    && decide (([e, f] : List Expr).length + ([] : List Keyword).length + (if ([] : List Keyword).isEmpty then 0 else 1) < 30)) = true
  line : (apos.endLine == cpos.line) = true
  trees : backTo cpos (starEach [e, f] X.env) = [(false, eval e X.env), (false, eval f X.env)]

noncomputable def IsD (H : Hp) (a : Addr) : Prop := (∃ kvs, Rd H a (.dK kvs)) ∨ ∃ kvs, Rd H a (.dT kvs)
theorem isD_at {X : Cx} {pins : List (Addr × Obj)} {σ : St} {H : Hp} {s : Shared} {a : Addr} (I : Inv X pins σ H s) (d : IsD H a) :
    s.TypeIs (.ref a) "dict" ∧ (∀ b, Value.ref a = .ref b → ∃ ob, s.heap.get? b = some ob ∧ ob.dict = none) ∧ (a == sysModules) = false := by
  rcases d with ⟨kvs, e⟩ | ⟨kvs, e⟩
  · obtain ⟨_, hd, vs, _, dd⟩ := dk_rd I.hok e
    refine ⟨dd.typeIs, fun b q => ?_, hd⟩
    cases q
    obtain ⟨ob, _, _, h1, h2, _⟩ := dd
    exact ⟨ob, h1, h2.2.1⟩
  · obtain ⟨_, hd, xs, _, dd⟩ := dt_rd I.hok e
    refine ⟨dd.typeIs, fun b q => ?_, hd⟩
    cases q
    obtain ⟨ob, _, _, h1, h2, _⟩ := dd
    exact ⟨ob, h1, h2.2.1⟩

section
variable {X : Cx} {pins : List (Addr × Obj)} {σ : St} {H : Hp} {s : Shared} {a : Addr} {y d : V} {u r : Value} {o : Option V} {A : Around} {E : Value → Shared → Prop}
theorem d_get2 {Q : Value → Shared → Prop} (hu : A.units + 1 < cLine) (I : Inv X pins σ H s) (g : DGet H a y o) (ry : RelV y u) (rd : RelV d r) (h : ∀ w' s', Inv X pins σ H s' → RelV (o.getD d) w' → Q w' s') :
    wpAny (model X.prog X.w) A (call (.builtin "dict.get") [.ref a, u, r]) Q E s := by
  rcases g with ⟨kvs, k, e, ey, l⟩ | ⟨kvs, k, b, e, ey, eb, l⟩
  · subst ey
    obtain ⟨z, hd, vs, rel, dd⟩ := dk_rd I.hok e
    refine call_meetsIn PySem.F.slot_dict_get dd.typeIs PySem.F.entry_dict_get (PySem.F.args_dict_get_3 _ _ _) (meets_dict_get_default (mixKind X.prog X.w) a (kV_is ry) hd r) ⟨_, dd.mapOf, h _ _ (I.tok _) ?_⟩
    rw [l]
    exact (rel.val k).getD rd
  · subst ey
    cases (show u = Value.ref b from ry)
    obtain ⟨z, hd, xs, rel, dd⟩ := dt_rd I.hok e
    refine call_meetsIn PySem.F.slot_dict_get dd.typeIs PySem.F.entry_dict_get (PySem.F.args_dict_get_3 _ _ _) (meetsH_dict_get_default (tupleKind (mixKind X.prog X.w)) a b hd r) ⟨tupleKind_room_in1 hu, k, xs, key_of I.hok eb, dd, h _ _ (I.tok _) ?_⟩
    rw [l]
    exact (rel.val k).getD rd
end

noncomputable def tDGet2 (td ty tx : TE) : TE := fun σ H Q => td σ H fun x H1 => ∃ a, x = .ref a ∧ IsD H1 a ∧ ty σ H1 fun y H2 => tx σ H2 fun z H3 => ∃ o, DGet H3 a y o ∧ Q (o.getD z) H3
section
variable {X : Cx} {o e f : Expr} {apos cpos : Pos} {td ty tx : TE}
theorem pe_dget2 (hu : X.A.units + 1 < cLine) (ho : PE X o td) (he : PE X e ty) (hf : PE X f tx) (m : M2 X o "get" apos e f cpos) : PE X (.Call (.Attribute o "get" apos) [e, f] [] cpos) (tDGet2 td ty tx) := by
  intro pins s σ H Q I h
  refine wpAny_Call_method m.base m.few m.line PySem.F.plainAttrs_dict PySem.F.slot_dict_get PySem.F.type_dict_get (thn (ho pins s σ H _ I h) fun u s1 ⟨x, H1, I1, rx, a, ex, d, q1⟩ => ?_)
  subst ex
  obtain rfl : u = Value.ref a := rx
  obtain ⟨t1, t2, _⟩ := isD_at I1 d
  refine ⟨t1, t2, ?_⟩
  rw [m.trees]
  refine Calls.callWith_builtin rfl (Calls.evalArgs_plain (Calls.spliced_cons (thn (he pins s1 σ H1 _ I1 q1) fun iv s2 ⟨y, H2, I2, ry, q2⟩ =>
    Calls.spliced_cons (thn (hf pins s2 σ H2 _ I2 q2) fun fv s3 ⟨z, H3, I3, rz, ov, g, q3⟩ => Calls.spliced_nil ?_))))
  exact d_get2 hu I3 g ry rz fun w' s4 I4 rw' => ⟨_, H3, I4, rw', q3⟩
end

section
variable {X : Cx} {pins : List (Addr × Obj)} {σ : St} {H : Hp} {s : Shared} {a : Addr} {kvs : List (Key × V)} {A : Around} {E : Value → Shared → Prop}
end


section
variable {X : Cx} {pins : List (Addr × Obj)} {σ : St} {H : Hp} {s : Shared} {a : Addr} {y : V} {u : Value} {A : Around} {E : Value → Shared → Prop}
end
end L2

namespace Att
open PySem PySem.W PySem.Calls PyProof.Rows

section
variable {prog : Program} {w : World} {A : Around} {E : Value → Shared → Prop} {s : Shared} {K : Frag}

end
end Att

namespace L2
open PySem PySem.Spec PyProof.Rows

end L2

namespace L2
open PySem PySem.Spec PyProof.Rows

end L2

namespace L2
open PySem PySem.Spec PyProof.Rows

section
variable {P : Program} {w : World} {K : PySem.W.Frag} {mg : Str → Option Value} {base : Heap}
end
section
variable {X : Cx}
theorem call_lenD : CallR X (.builtin "len") (fun xs H Q => ∃ a kvs, xs = [V.ref a] ∧ H a = some (.dK kvs) ∧ Q (.int kvs.length) H) := by
  intro pins s σ H xs us Q I r h
  obtain ⟨a, kvs, rfl, ha, q⟩ := h
  obtain ⟨u, rfl, ru⟩ := vals1 r
  cases ru
  exact d_len I (.inl ha) fun t s' I' => ⟨.int kvs.length, H, I', ⟨t, rfl⟩, q⟩
end

section
variable {κ : Type} [DecidableEq κ]
end
end L2



end
section
set_option Elab.async false
set_option linter.all false
set_option maxRecDepth 100000
namespace DQ
open PySem PySem.Spec PyProof.Rows
structure Fly (B : Heap) (l : List Env) (e : Addr) (cls : Value) (dct : Option Addr) (fl : Value) (h : Heap) : Prop where
  stay : B.StaysIn h
  new : B.get? e = none
  frames : h.FunFrames B l
  obj : ∃ oe vs T oT ts, h.get? e = some oe ∧ oe.cls = cls ∧ oe.dict = dct ∧ oe.data = .fields vs ∧ vs[2]? = some .none ∧ vs[1]? = some (.ref T) ∧ B.get? T = none ∧ T ≠ e ∧ h.get? T = some oT ∧ oT.data = .fields ts ∧ ts[3]? = some fl
theorem Fly.tail {B : Heap} {env : Env} {l : List Env} {e : Addr} {cls : Value} {dct : Option Addr} {fl : Value} {h : Heap} (f : Fly B (env :: l) e cls dct fl h) : Fly B l e cls dct fl h := ⟨f.stay, f.new, f.frames.2.2, f.obj⟩
section
variable {M : Model} {A : Around} {E : Value → Shared → Prop} {s : Shared} {B : Heap} {env : Env} {outer l : List Env} {L e : Addr} {cls : Value} {dct : Option Addr} {fl : Value}
theorem apart {h : Heap} {oe : Obj} {vs : Array Value} (hl : h.FunFrames B l) (he : h.get? e = some oe) (hd : oe.data = .fields vs) : e ∉ l.filterMap (·.frame) := fun z => by
  obtain ⟨_, o, h1, h2⟩ := hl.mem z
  rw [he] at h1
  cases h1
  exact h2 vs hd
theorem entry_new {oe : Obj} {vs : Array Value} {head : Value} {hn : Bool} {Q : Unit → Shared → Prop} (hfr : A.frames = some (env :: outer)) (hl : s.heap.FunFrames B (env :: outer)) (hf : env.frame = some L)
    (he : s.heap.get? e = some oe) (hs : B.StaysIn s.heap) (hb : B.get? e = none) (hd : oe.data = .fields vs) (hz : 2 < vs.size) (h2 : vs[2]? = some .none)
    (h : ∀ h', Fly B (env :: outer) e oe.cls oe.dict (rawInt L) h' → s.heap.UpToSlots h' → Q () { s with heap := h' }) :
    wpAny M A (frameOf env >>= fun a => entryPlaceOf L hn >>= fun pl => EntryCells.newEntry head a .none (rawInt L) .none pl >>= fun b => setField (.ref e) 1 b) Q E s := by
  have ne := apart hl he hd
  refine wpAny_bind (wpAny_frameOf_fun hfr hl hf fun h1 k1 => wpAny_bind (wpAny_entryPlaceOf fun pl hpl => wpAny_bind ?_))
  unfold EntryCells.newEntry newFields
  refine wpAny_newObj_type ?_ (hpl.sizeOk5 _ _ _ _ _)
  generalize hT : ([head, Value.ref L, Value.none, rawInt L, Value.none] ++ (if pl.isEmpty then List.replicate 6 Value.none else pl)).toArray = ts
  have h3 : ts[3]? = some (rawInt L) := by
    rw [← hT]
    rcases hpl with rfl | ⟨_, _, _, _, _, _, _, rfl⟩ <;> simp
  have e1 : h1.get? e = some oe := (k1.2.1 e ne).trans he
  have s1 : B.StaysIn h1 := fun b o hbo => (k1.2.1 b fun z => by rw [(hl.mem z).1] at hbo; cases hbo).trans (hs b o hbo)
  generalize hoT : ({ cls := .type "traceback", dict := none, data := .fields ts } : Obj) = oT
  have dT : oT.data = .fields ts := by rw [← hoT]
  have fT : oT.isFreed = false := Obj.isFreed_of_fields dT
  have e2 : (h1.push oT).get? e = some oe := Heap.get?_push_of_some _ e1
  have nT : h1.objs.size ≠ e := Nat.ne_of_gt (Heap.lt_size e1)
  refine wpAny_setField e2 hd (Nat.lt_trans (by decide) hz) (h _ ?_ ?_)
  · have d3 := Obj.data_mapFields hd (·.setIfInBounds 1 (Value.ref h1.objs.size))
    have e3 := Heap.get?_update_self (Obj.mapFields (·.setIfInBounds 1 (Value.ref h1.objs.size))) e2 (Obj.isFreed_of_fields d3)
    have keep : ∀ b o, b ≠ e → h1.get? b = some o → ((h1.push oT).update e (Obj.mapFields (·.setIfInBounds 1 (Value.ref h1.objs.size)))).get? b = some o := fun b o hbe x => by
      rw [Heap.get?_update_other _ _ (Ne.symm hbe)]
      exact Heap.get?_push_of_some _ x
    have gT : (h1.push oT).get? h1.objs.size = some oT := Heap.get?_push_size _ fT
    refine ⟨fun b o x => keep b o (fun z => by rw [z, hb] at x; cases x) (s1 b o x), hb, hl.of_keeps fun b o x y => ?_, _, _, h1.objs.size, oT, ts, e3, Obj.cls_mapFields _ _, ?_, d3, ?_, ?_, s1.fresh, nT, ?_, dT, h3⟩
    · obtain ⟨sl, z⟩ := k1.2.2 b o x
      exact ⟨_, keep b _ (fun w => y vs (by rw [w, he] at x; cases x; exact hd)) z, rfl⟩
    · obtain ⟨c, d, dd, sl⟩ := oe
      cases hd
      rfl
    · rw [Array.getElem?_setIfInBounds_ne (by decide)]
      exact h2
    · rw [Array.getElem?_setIfInBounds_self_of_lt (Nat.lt_trans (by decide) hz)]
    · rw [Heap.get?_update_other _ _ (Ne.symm nT)]
      exact gT
  · intro b o x y
    obtain ⟨sl, z⟩ := k1.2.2 b o x
    refine ⟨sl, ?_⟩
    rw [Heap.get?_update_other _ _ (fun w => y vs (by rw [← w, he] at x; cases x; exact hd))]
    exact Heap.get?_push_of_some _ z
theorem fly_land {Q : Unit → Shared → Prop} (f : Fly B l e cls dct fl s.heap) (h : ∀ h', Fly B l e cls dct .none h' → s.heap.UpToSlots h' → Q () { s with heap := h' }) : wpAny M A (setFlight (.ref e) none) Q E s := by
  obtain ⟨st, nw, fr, oe, vs, T, oT, ts, g1, g2, g3, g4, g5, g6, g7, g8, g9, g10, g11⟩ := f
  have hz : 3 < ts.size := (Array.getElem?_eq_some_iff.mp g11).1
  unfold setFlight
  refine wpAny_bind (wpAny_field g1 g4 g6 ?_)
  rw [if_pos (by simp)]
  have oth : ∀ b o, b ≠ T → s.heap.get? b = some o → (s.heap.update T (Obj.mapFields (·.setIfInBounds 3 Value.none))).get? b = some o := fun b o hb x => by
    rw [Heap.get?_update_other _ _ (Ne.symm hb)]
    exact x
  have nr : ∀ b o, s.heap.get? b = some o → (∀ vs, o.data ≠ .fields vs) → b ≠ T := fun b o x y z => by
    rw [z, g9] at x
    cases x
    exact y ts g10
  refine wpAny_setField g9 g10 hz (h _ ⟨fun b o x => oth b o (fun z => by rw [z, g7] at x; cases x) (st b o x), nw, fr.of_keeps fun b o x y => ⟨o, oth b o (nr b o x y) x, rfl⟩, ?_⟩ fun b o x y => ⟨o.slots, oth b o (nr b o x y) x⟩)
  exact ⟨oe, vs, T, _, _, oth e oe (Ne.symm g8) g1, g2, g3, g4, g5, g6, g7, g8, Heap.get?_update_self _ g9 (Obj.isFreed_of_fields (Obj.data_mapFields g10 _)), Obj.data_mapFields g10 _, by rw [Array.getElem?_setIfInBounds_self_of_lt hz]; rfl⟩
theorem fly_note {Q : Unit → Shared → Prop} (hfr : A.frames = some (env :: outer)) (hf : env.frame = some L) (f : Fly B (env :: outer) e cls dct .none s.heap)
    (h : ∀ h', Fly B (env :: outer) e cls dct (rawInt L) h' → s.heap.UpToSlots h' → Q () { s with heap := h' }) : wpAny M A (noteFrame (.ref e) env) Q E s := by
  obtain ⟨st, nw, fr, oe, vs, T, oT, ts, g1, g2, g3, g4, g5, g6, g7, g8, g9, g10, g11⟩ := f
  unfold noteFrame
  simp only [hf]
  refine wpAny_bind (wpAny_field g1 g4 g6 ?_)
  rw [if_pos (by simp)]
  refine wpAny_bind (wpAny_field g9 g10 g11 ?_)
  rw [if_neg (by simp [rawInt])]
  have oth : ∀ b o, b ≠ T → s.heap.get? b = some o → (s.heap.update T (Obj.mapFields (·.setIfInBounds 3 Value.none))).get? b = some o := fun b o hb x => by
    rw [Heap.get?_update_other _ _ (Ne.symm hb)]
    exact x
  have nr : ∀ b o, s.heap.get? b = some o → (∀ vs, o.data ≠ .fields vs) → b ≠ T := fun b o x y z => by
    rw [z, g9] at x
    cases x
    exact y ts g10
  refine wpAny_bind (wpAny_setField g9 g10 (Array.getElem?_eq_some_iff.mp g11).1 ?_)
  refine entry_new hfr (fr.of_keeps fun b o x y => ⟨o, oth b o (nr b o x y) x, rfl⟩) hf (oth e oe (Ne.symm g8) g1) (fun b o x => oth b o (fun z => by rw [z, g7] at x; cases x) (st b o x)) nw g4 (Array.getElem?_eq_some_iff.mp g5).1 g5 fun h' k1 k2 => h h' (g2 ▸ g3 ▸ k1) ?_
  intro b o x y
  exact k2 b o (oth b o (nr b o x y) x) y
theorem fly_leave {Q : Unit → Shared → Prop} (hfr : A.frames = some (env :: outer)) (hf : env.frame = some L) (f : Fly B (env :: outer) e cls dct .none s.heap)
    (h : ∀ h', Fly B outer e cls dct .none h' → s.heap.UpToSlots h' → Q () { s with heap := h' }) : wpAny M A (leaving env (.ref e)) Q E s := by
  unfold leaving
  refine wpAny_bind (fly_note hfr hf f fun h1 k1 u1 => ?_)
  exact fly_land (s := { s with heap := h1 }) k1 fun h2 k2 u2 => h h2 k2.tail (u1.trans u2)
theorem fly_first {oe : Obj} {vs : Array Value} {Q : Unit → Shared → Prop} (hfr : A.frames = some (env :: outer)) (hf : env.frame = some L) (hl : s.heap.FunFrames B (env :: outer)) (he : s.heap.get? e = some oe) (hs : B.StaysIn s.heap) (hb : B.get? e = none) (hd : oe.data = .fields vs) (h1 : vs[1]? = some .none) (h2 : vs[2]? = some .none)
    (h : ∀ h', Fly B outer e oe.cls oe.dict .none h' → s.heap.UpToSlots h' → Q () { s with heap := h' }) : wpAny M A (leaving env (.ref e)) Q E s := by
  unfold leaving noteFrame
  simp only [hf]
  refine wpAny_bind (wpAny_bind (wpAny_field he hd h1 ?_))
  rw [if_neg (by decide)]
  refine entry_new hfr hl hf he hs hb hd (Array.getElem?_eq_some_iff.mp h2).1 h2 fun h' k1 u1 => ?_
  exact fly_land (s := { s with heap := h' }) k1 fun h2 k2 u2 => h h2 k2.tail (u1.trans u2)
end
end DQ


end
section
set_option Elab.async false
set_option linter.all false
set_option maxRecDepth 100000
namespace DQ
open PySem PySem.Spec PyProof.Rows
open PySem.W (Looks findIn mroIn specialIn takesIn clsIn looks_findIn looks_mroIn looks_find findObj KitX)
structure ExcC (K : PySem.W.Frag) (C : Addr) : Prop where
  ga : findIn K (.ref C) "__getattribute__" = some (some (.builtin "BaseException.__getattribute__"))
  gt : findIn K (.ref C) "__getattr__" = some none
  cl : findIn K (.ref C) "__class__" = some (some (.builtin "object.__class__"))
  gs : specialIn K (.builtin "object.__class__") "__get__" = some (some (.builtin "getset_descriptor.__get__"))
  tk : takesIn K (.builtin "object.__class__") = some true
  bx : mroIn K C (.type "BaseException") = some true
  ob : mroIn K C (.type "object") = some true
  is : (clsIn K C).isSome = true
section
variable {prog : Program} {w : World} {A : Around} {E : Value → Shared → Prop} {s : Shared} {K : PySem.W.Frag} {e C : Addr} {oe : Obj} {od : Option Obj}
end
end DQ


end
section
set_option Elab.async false
set_option linter.all false
set_option maxRecDepth 100000
set_option maxHeartbeats 4000000
namespace DL
open PySem PySem.Spec PyProof.Rows L2

inductive D where
  | non
  | bl (b : Bool)
  | int (i : Int)
  | str (x : Str)
  | tup (xs : List D)
  | rol (xs : List D)
  | ref (n : Nat)
  | err (c : Str) (xs : List D)
  /-- a dict of the store: its keys are ints and texts; tuples of them -/
  | dk (n : Nat)
  | dt (n : Nat)
inductive SO where
  | lst (xs : List D)
noncomputable abbrev Sto := List SO
noncomputable abbrev Ro := List (Option D)

noncomputable def SqF (K : PySem.W.Frag) (H : Hp) (a : Addr) (xs : List V) : Prop :=
  (∃ o, H a = some (.frz o (.lst xs))) ∨ ∃ (o : Obj) (its : Array Value) (n : Nat), K.lookup a = some o ∧ o.cls = .type "list" ∧ o.dict = none ∧ o.data = .seq its n ∧ its.size ≤ sizeLine ∧ Vals xs its.toList
theorem SqF.sq {K : PySem.W.Frag} {H : Hp} {a : Addr} {xs : List V} (h : SqF K H a xs) : SqL K H a xs := by
  rcases h with ⟨o, h⟩ | h
  · exact .inl (.inr ⟨o, h⟩)
  · exact .inr h

noncomputable def EOk (H : Hp) (p C : Addr) (xs : List V) : Prop := ∃ oe u vs, H p = some (.frz oe u) ∧ oe.cls = .ref C ∧ oe.data = .fields vs ∧ vs[2]? = some .none ∧ ((xs = [] ∧ oe.dict = none) ∨ ∃ dx fs, oe.dict = some dx ∧ H dx = some (.xd fs) ∧ fs.map (·.2) = xs)

noncomputable def Kn (H : Hp) (p : Addr) : Option Nat := match H p with | some (.lst _) => some 0 | some (.dK _) => some 1 | some (.dT _) => some 2 | _ => none
structure RefK (H : Hp) (α : List Addr) (j n : Nat) (p : Addr) : Prop where
  at' : α[n]? = some p
  kn : Kn H p = some j
theorem Kn.lst {H : Hp} {p : Addr} {xs : List V} (h : H p = some (.lst xs)) : Kn H p = some 0 := by unfold Kn; rw [h]
theorem Kn.ne {H : Hp} {p q : Addr} {j : Nat} {o : HO} (h : Kn H p = some j) (hq : H q = none) : Kn (upd H q o) p = some j := by
  have : p ≠ q := by
    intro z
    unfold Kn at h
    rw [z, hq] at h
    cases h
  unfold Kn
  rw [upd_ne this]
  exact h
mutual
inductive Rep (K : PySem.W.Frag) (H : Hp) (α : List Addr) : V → D → Prop where
  | non : Rep K H α .non .non
  | bl (b : Bool) : Rep K H α (.bl b) (.bl b)
  | int (i : Int) : Rep K H α (.int i) (.int i)
  | str (x : Str) : Rep K H α (.str x) (.str x)
  | tup {p : Addr} {xs : List V} {ds : List D} : H p = some (.tup xs) → Reps K H α xs ds → Rep K H α (.ref p) (.tup ds)
  | rol {p : Addr} {xs : List V} {ds : List D} : SqF K H p xs → Reps K H α xs ds → Rep K H α (.ref p) (.rol ds)
  | ref {p : Addr} {n : Nat} : RefK H α 0 n p → Rep K H α (.ref p) (.ref n)
  | dk {p : Addr} {n : Nat} : RefK H α 1 n p → Rep K H α (.ref p) (.dk n)
  | dt {p : Addr} {n : Nat} : RefK H α 2 n p → Rep K H α (.ref p) (.dt n)
  | err {p C : Addr} {c : Str} {xs : List V} {ds : List D} : PySem.W.nsIn K mainGlobals c = some (some (.ref C)) → EOk H p C xs → Reps K H α xs ds → Rep K H α (.ref p) (.err c ds)
inductive Reps (K : PySem.W.Frag) (H : Hp) (α : List Addr) : List V → List D → Prop where
  | nil : Reps K H α [] []
  | cons {v : V} {d : D} {vs : List V} {ds : List D} : Rep K H α v d → Reps K H α vs ds → Reps K H α (v :: vs) (d :: ds)
end

structure Ext (K : PySem.W.Frag) (H H' : Hp) (α α' : List Addr) : Prop where
  tup : ∀ p xs, H p = some (.tup xs) → H' p = some (.tup xs)
  rol : ∀ p xs, SqF K H p xs → SqF K H' p xs
  err : ∀ p C xs, EOk H p C xs → EOk H' p C xs
  kn : ∀ p j, Kn H p = some j → Kn H' p = some j
  al : ∃ β, α' = α ++ β
section
variable {K : PySem.W.Frag} {H H1 H2 H' : Hp} {α α1 α2 α' : List Addr}
theorem Ext.refl : Ext K H H α α := ⟨fun _ _ h => h, fun _ _ h => h, fun _ _ _ h => h, fun _ _ h => h, [], (List.append_nil _).symm⟩
theorem Ext.trans (a : Ext K H H1 α α1) (b : Ext K H1 H2 α1 α2) : Ext K H H2 α α2 := by
  obtain ⟨b1, e1⟩ := a.al
  obtain ⟨b2, e2⟩ := b.al
  exact ⟨fun p xs h => b.tup p xs (a.tup p xs h), fun p xs h => b.rol p xs (a.rol p xs h), fun p C xs h => b.err p C xs (a.err p C xs h), fun p j h => b.kn p j (a.kn p j h), b1 ++ b2, by rw [e2, e1, List.append_assoc]⟩
theorem Ext.get0 (e : Ext K H H' α α') {n : Nat} {p : Addr} (h : α[n]? = some p) : α'[n]? = some p := by
  obtain ⟨β, e1⟩ := e.al
  have hl : n < α.length := (List.getElem?_eq_some_iff.mp h).1
  rw [e1, List.getElem?_append_left hl]
  exact h
theorem Ext.get (e : Ext K H H' α α') {j n : Nat} {p : Addr} (h : RefK H α j n p) : RefK H' α' j n p := ⟨e.get0 h.at', e.kn _ _ h.kn⟩
mutual
theorem Rep.mono (e : Ext K H H' α α') : ∀ {v : V} {d : D}, Rep K H α v d → Rep K H' α' v d
  | _, _, .non => .non
  | _, _, .bl b => .bl b
  | _, _, .int i => .int i
  | _, _, .str x => .str x
  | _, _, .tup h r => .tup (e.tup _ _ h) (Reps.mono e r)
  | _, _, .rol h r => .rol (e.rol _ _ h) (Reps.mono e r)
  | _, _, .ref h => .ref (e.get h)
  | _, _, .dk h => .dk (e.get h)
  | _, _, .dt h => .dt (e.get h)
  | _, _, .err n h r => .err n (e.err _ _ _ h) (Reps.mono e r)
theorem Reps.mono (e : Ext K H H' α α') : ∀ {vs : List V} {ds : List D}, Reps K H α vs ds → Reps K H' α' vs ds
  | _, _, .nil => .nil
  | _, _, .cons r t => .cons (Rep.mono e r) (Reps.mono e t)
end
theorem Reps.length : ∀ {vs : List V} {ds : List D}, Reps K H α vs ds → vs.length = ds.length
  | _, _, .nil => rfl
  | _, _, .cons _ t => by rw [List.length_cons, List.length_cons, Reps.length t]
theorem Reps.get : ∀ {vs : List V} {ds : List D} {i : Nat} {d : D}, Reps K H α vs ds → ds[i]? = some d → ∃ v, vs[i]? = some v ∧ Rep K H α v d
  | _, _, _, _, .nil, e => by simp at e
  | _, _, 0, _, .cons r _, e => by simp at e; subst e; exact ⟨_, rfl, r⟩
  | _, _, i + 1, d, .cons _ t, e => by
    obtain ⟨u, h1, h2⟩ := Reps.get (i := i) (d := d) t (by simpa using e)
    exact ⟨u, by simpa using h1, h2⟩
theorem Reps.set {v : V} {d : D} (r : Rep K H α v d) : ∀ {vs : List V} {ds : List D} (i : Nat), Reps K H α vs ds → Reps K H α (vs.set i v) (ds.set i d)
  | _, _, _, .nil => .nil
  | _, _, 0, .cons _ t => .cons r t
  | _, _, i + 1, .cons q t => .cons q (Reps.set r i t)
theorem Reps.append : ∀ {vs ws : List V} {ds es : List D}, Reps K H α vs ds → Reps K H α ws es → Reps K H α (vs ++ ws) (ds ++ es)
  | _, _, _, _, .nil, s => s
  | _, _, _, _, .cons r t, s => .cons r (Reps.append t s)
theorem Reps.ints : ∀ (ns : List Int), Reps K H α (ns.map V.int) (ns.map D.int)
  | [] => .nil
  | n :: r => .cons (.int n) (Reps.ints r)
theorem sqT_upd {p q : Addr} {xs : List V} {o : HO} (h : H q = some (.tup xs)) (hp : ∀ u, H p = some u → (∀ ys, u ≠ .tup ys) ∧ ∀ ob w, u ≠ .frz ob w) : upd H p o q = some (.tup xs) := by
  rw [upd_ne (fun e => (hp _ (e ▸ h)).1 _ rfl)]
  exact h
theorem sqF_upd {p q : Addr} {xs : List V} {o : HO} (h : SqF K H q xs) (hp : ∀ u, H p = some u → ∀ ob w, u ≠ .frz ob w) : SqF K (upd H p o) q xs := by
  rcases h with ⟨ob, h⟩ | h
  · refine .inl ⟨ob, ?_⟩
    rw [upd_ne (fun e => hp _ (e ▸ h) _ _ rfl)]
    exact h
  · exact .inr h
theorem eok_upd {p q C : Addr} {xs : List V} {o : HO} (h : EOk H q C xs) (hp : ∀ u, H p = some u → (∀ ob w, u ≠ .frz ob w) ∧ ∀ fs, u ≠ .xd fs) : EOk (upd H p o) q C xs := by
  obtain ⟨oe, u, vs, h1, h2, h3, h4, h5⟩ := h
  refine ⟨oe, u, vs, ?_, h2, h3, h4, ?_⟩
  · rw [upd_ne (fun e => (hp _ (e ▸ h1)).1 _ _ rfl)]
    exact h1
  · rcases h5 with h5 | ⟨dx, fs, k1, k2, k3⟩
    · exact .inl h5
    · refine .inr ⟨dx, fs, k1, ?_, k3⟩
      rw [upd_ne (fun e => (hp _ (e ▸ k2)).2 _ rfl)]
      exact k2
theorem Ext.new {p : Addr} {o : HO} (h : H p = none) {β : List Addr} : Ext K H (upd H p o) α (α ++ β) :=
  ⟨fun q xs z => sqT_upd z (fun u e => (by rw [h] at e; cases e)), fun q xs z => sqF_upd z (fun u e => (by rw [h] at e; cases e)), fun q C xs z => eok_upd z (fun u e => (by rw [h] at e; cases e)), fun q j z => Kn.ne z h, β, rfl⟩
theorem Ext.new0 {p : Addr} {o : HO} (h : H p = none) : Ext K H (upd H p o) α α := by
  have e := Ext.new (K := K) (H := H) (α := α) (o := o) h (β := [])
  rw [List.append_nil] at e
  exact e
theorem Ext.wrK {p : Addr} {o : HO} {j : Nat} (h : Kn H p = some j) (h' : Kn (upd H p o) p = some j) : Ext K H (upd H p o) α α := by
  have ne (u : HO) (e : H p = some u) : (∀ ys, u ≠ .tup ys) ∧ (∀ ob w, u ≠ .frz ob w) ∧ ∀ fs, u ≠ .xd fs := by
    unfold Kn at h
    rw [e] at h
    refine ⟨fun ys z => ?_, fun ob w z => ?_, fun fs z => ?_⟩ <;> subst z <;> cases h
  refine ⟨fun q xs z => sqT_upd z fun u e => ⟨(ne u e).1, (ne u e).2.1⟩, fun q xs z => sqF_upd z fun u e => (ne u e).2.1, fun q C xs z => eok_upd z fun u e => ⟨(ne u e).2.1, (ne u e).2.2⟩, fun q i z => ?_, [], (List.append_nil _).symm⟩
  by_cases c : q = p
  · subst c
    rw [h] at z
    cases z
    exact h'
  · unfold Kn
    rw [upd_ne c]
    exact z
theorem Ext.wr {p : Addr} {xs ys : List V} (h : H p = some (.lst xs)) : Ext K H (upd H p (.lst ys)) α α := Ext.wrK (Kn.lst h) (Kn.lst upd_same)
noncomputable def keyD : Key → D
  | .inl i => .int i
  | .inr x => .str x
noncomputable def keysD (ks : List Key) : D := .tup (ks.map keyD)
noncomputable def PairsR (K : PySem.W.Frag) (H : Hp) (α : List Addr) {κ : Type} (key : κ → D) (kvs : List (κ × V)) (ds : List D) : Prop :=
  ∃ es : List D, ds = List.zipWith (fun kv e => D.tup [key kv.1, e]) kvs es ∧ Reps K H α (kvs.map (·.2)) es
noncomputable def SOk (K : PySem.W.Frag) (H : Hp) (α : List Addr) (p : Addr) : SO → Prop
  | .lst ds => (∃ xs, H p = some (.lst xs) ∧ Reps K H α xs ds) ∨ (∃ kvs, H p = some (.dK kvs) ∧ PairsR K H α keyD kvs ds) ∨ (∃ kvs, H p = some (.dT kvs) ∧ PairsR K H α keysD kvs ds)
theorem SOk.there {p : Addr} {o : SO} (h : SOk K H α p o) : ∃ u, H p = some u := by
  cases o with
  | lst ds => rcases h with ⟨_, e, _⟩ | ⟨_, e, _⟩ | ⟨_, e, _⟩ <;> exact ⟨_, e⟩
theorem SOk.mono {p : Addr} {o : SO} (h : SOk K H α p o) (ex : Ext K H H' α α') (e : H' p = H p) : SOk K H' α' p o := by
  cases o with
  | lst ds =>
    rcases h with ⟨xs, h1, h2⟩ | ⟨kvs, h1, es, h2, h3⟩ | ⟨kvs, h1, es, h2, h3⟩
    · exact .inl ⟨xs, e.trans h1, Reps.mono ex h2⟩
    · exact .inr (.inl ⟨kvs, e.trans h1, es, h2, Reps.mono ex h3⟩)
    · exact .inr (.inr ⟨kvs, e.trans h1, es, h2, Reps.mono ex h3⟩)
structure HR (K : PySem.W.Frag) (H : Hp) (α : List Addr) (M : Sto) : Prop where
  len : α.length = M.length
  nd : α.Nodup
  ob : ∀ (n : Nat) (p : Addr) (o : SO), α[n]? = some p → M[n]? = some o → SOk K H α p o
theorem HR.nil : HR K H [] [] := ⟨rfl, List.nodup_nil, fun n p o h => by simp at h⟩
theorem HR.at (h : HR K H α M) {n : Nat} {p : Addr} {ds : List D} (e : RefK H α 0 n p) (m : M[n]? = some (.lst ds)) : ∃ xs, H p = some (.lst xs) ∧ Reps K H α xs ds := by
  rcases h.ob n p _ e.at' m with h1 | ⟨_, h1, _⟩ | ⟨_, h1, _⟩
  · exact h1
  · have := e.kn; unfold Kn at this; rw [h1] at this; cases this
  · have := e.kn; unfold Kn at this; rw [h1] at this; cases this
theorem HR.atK (h : HR K H α M) {n : Nat} {p : Addr} {ds : List D} (e : RefK H α 1 n p) (m : M[n]? = some (.lst ds)) : ∃ kvs, H p = some (.dK kvs) ∧ PairsR K H α keyD kvs ds := by
  rcases h.ob n p _ e.at' m with ⟨_, h1, _⟩ | h1 | ⟨_, h1, _⟩
  · have := e.kn; unfold Kn at this; rw [h1] at this; cases this
  · exact h1
  · have := e.kn; unfold Kn at this; rw [h1] at this; cases this
theorem HR.atT (h : HR K H α M) {n : Nat} {p : Addr} {ds : List D} (e : RefK H α 2 n p) (m : M[n]? = some (.lst ds)) : ∃ kvs, H p = some (.dT kvs) ∧ PairsR K H α keysD kvs ds := by
  rcases h.ob n p _ e.at' m with ⟨_, h1, _⟩ | ⟨_, h1, _⟩ | h1
  · have := e.kn; unfold Kn at this; rw [h1] at this; cases this
  · have := e.kn; unfold Kn at this; rw [h1] at this; cases this
  · exact h1
theorem RefK.lst {n : Nat} {p : Addr} (e : RefK H α 0 n p) : ∃ xs, H p = some (.lst xs) := by
  have := e.kn
  unfold Kn at this
  split at this
  · rename_i xs h; exact ⟨xs, h⟩
  · cases this
  · cases this
  · cases this
theorem HR.some_at {M : Sto} (h : HR K H α M) {n : Nat} {p : Addr} (e : RefK H α 0 n p) : ∃ xs, H p = some (.lst xs) := e.lst
theorem HR.there {M : Sto} (h : HR K H α M) {n : Nat} {p : Addr} (e : α[n]? = some p) : ∃ u, H p = some u := by
  have hl : n < α.length := (List.getElem?_eq_some_iff.mp e).1
  have hm : n < M.length := by rw [← h.len]; exact hl
  exact (h.ob n p M[n] e (List.getElem?_eq_getElem hm)).there
theorem HR.tup {M : Sto} {p : Addr} {o : HO} (h : HR K H α M) (hp : H p = none) : HR K (upd H p o) α M :=
  ⟨h.len, h.nd, fun n q so e m => by
    obtain ⟨u, hu⟩ := h.there e
    exact (h.ob n q so e m).mono (Ext.new0 hp) (upd_ne (ne_of_none hu hp))⟩
theorem HR.newO {M : Sto} {p : Addr} {o : HO} {so : SO} (h : HR K H α M) (hp : H p = none) (r : SOk K (upd H p o) (α ++ [p]) p so) : HR K (upd H p o) (α ++ [p]) (M ++ [so]) := by
  have ex : Ext K H (upd H p o) α (α ++ [p]) := Ext.new hp
  refine ⟨by rw [List.length_append, List.length_append, h.len]; rfl, ?_, fun n q so' e m => ?_⟩
  · refine List.nodup_append.mpr ⟨h.nd, by simp, fun a ha b hb => ?_⟩
    have hb' : b = p := by simpa using hb
    obtain ⟨n, hn, e⟩ := List.getElem_of_mem ha
    obtain ⟨u, z⟩ := h.there (n := n) (p := a) (by rw [List.getElem?_eq_getElem hn, e])
    rw [hb']
    exact ne_of_none z hp
  · by_cases hn : n < α.length
    · rw [List.getElem?_append_left hn] at e
      rw [List.getElem?_append_left (by rw [← h.len]; exact hn)] at m
      obtain ⟨u, hu⟩ := h.there e
      exact (h.ob n q so' e m).mono ex (upd_ne (ne_of_none hu hp))
    · have en : n = α.length := by
        have : n < (α ++ [p]).length := (List.getElem?_eq_some_iff.mp e).1
        rw [List.length_append, List.length_singleton] at this
        omega
      subst en
      rw [List.getElem?_append_right (Nat.le_refl _), Nat.sub_self] at e
      rw [h.len, List.getElem?_append_right (Nat.le_refl _), Nat.sub_self] at m
      cases e
      cases m
      exact r
theorem HR.new {M : Sto} {p : Addr} {xs : List V} {ds : List D} (h : HR K H α M) (hp : H p = none) (r : Reps K H α xs ds) : HR K (upd H p (.lst xs)) (α ++ [p]) (M ++ [.lst ds]) :=
  h.newO hp (.inl ⟨xs, upd_same, Reps.mono (Ext.new hp) r⟩)
theorem nodup_at {n m : Nat} {p : Addr} (h : α.Nodup) (a : α[n]? = some p) (b : α[m]? = some p) : n = m := by
  obtain ⟨h1, e1⟩ := List.getElem?_eq_some_iff.mp a
  obtain ⟨h2, e2⟩ := List.getElem?_eq_some_iff.mp b
  exact (List.getElem_inj h).mp (e1.trans e2.symm)
theorem HR.wrO {M : Sto} {n : Nat} {p : Addr} {o : HO} {so : SO} (h : HR K H α M) (e : α[n]? = some p) (ex : Ext K H (upd H p o) α α) (r : SOk K (upd H p o) α p so) : HR K (upd H p o) α (M.set n so) := by
  have hn : n < M.length := by rw [← h.len]; exact (List.getElem?_eq_some_iff.mp e).1
  refine ⟨by rw [List.length_set]; exact h.len, h.nd, fun k q so' e' m => ?_⟩
  by_cases hk : k = n
  · subst hk
    rw [e] at e'
    cases e'
    rw [List.getElem?_set_self hn] at m
    cases m
    exact r
  · rw [List.getElem?_set_ne (Ne.symm hk)] at m
    have hq : q ≠ p := fun z => hk (nodup_at h.nd (z ▸ e') e)
    exact (h.ob k q so' e' m).mono ex (upd_ne hq)
theorem HR.wr {M : Sto} {n : Nat} {p : Addr} {xs ys : List V} {ds : List D} (h : HR K H α M) (e : RefK H α 0 n p) (hp : H p = some (.lst ys)) (r : Reps K H α xs ds) : HR K (upd H p (.lst xs)) α (M.set n (.lst ds)) :=
  h.wrO e.at' (Ext.wr hp) (.inl ⟨xs, upd_same, Reps.mono (Ext.wr hp) r⟩)

end
inductive Out (β : Type) where
  | ok (a : β) (M : Sto)
  | exc (c : Str) (M : Sto)
  | bad
noncomputable def Out.bind {β γ : Type} (o : Out β) (f : β → Sto → Out γ) : Out γ := match o with
  | .ok a M => f a M
  | .exc c M => .exc c M
  | .bad => .bad
inductive Fl where
  | nx (ρ : Ro) (M : Sto)
  | ret (d : D) (M : Sto)
  | brk (ρ : Ro) (M : Sto)
  | cnt (ρ : Ro) (M : Sto)
  | exc (c : Str) (M : Sto)
  | bad

noncomputable def OG {β γ : Type} (K : PySem.W.Frag) (R : Hp → List Addr → γ → β → Prop) (H : Hp) (α : List Addr) (ξ : XK) (Q : γ → Hp → Prop) : Out β → Prop
  | .ok d M' => ∀ v H' α', Ext K H H' α α' → HR K H' α' M' → R H' α' v d → Q v H'
  | .exc c M' => ∀ C H' α', PySem.W.nsIn K mainGlobals c = some (some (.ref C)) → Ext K H H' α α' → HR K H' α' M' → ξ (.ref C) none H'
  | .bad => False
theorem OG.ext {β γ : Type} {K : PySem.W.Frag} {R : Hp → List Addr → γ → β → Prop} {H H1 : Hp} {α α1 : List Addr} {ξ : XK} {Q : γ → Hp → Prop} {o : Out β} (h : OG K R H α ξ Q o) (e : Ext K H H1 α α1) : OG K R H1 α1 ξ Q o := by
  cases o with
  | ok d M' => exact fun v H' α' e' => h v H' α' (e.trans e')
  | exc c M' => exact fun C H' α' n e' => h C H' α' n (e.trans e')
  | bad => exact h
noncomputable abbrev OP (K : PySem.W.Frag) := OG K (Rep K)
noncomputable abbrev OT (K : PySem.W.Frag) := OG (β := Bool) (γ := Bool) K (fun _ _ v d => v = d)
noncomputable abbrev OA (K : PySem.W.Frag) := OG K (Reps K)

noncomputable def SR (K : PySem.W.Frag) (H : Hp) (α : List Addr) (σ : L2.St) (ρ : Ro) : Prop := σ.length = ρ.length ∧ ∀ (i : Nat) (d : D), ρ[i]? = some (some d) → ∃ v, σ[i]? = some (some v) ∧ Rep K H α v d
theorem SR.mono {K : PySem.W.Frag} {H H' : Hp} {α α' : List Addr} {σ : L2.St} {ρ : Ro} (h : SR K H α σ ρ) (e : Ext K H H' α α') : SR K H' α' σ ρ :=
  ⟨h.1, fun i d q => let ⟨v, a, b⟩ := h.2 i d q; ⟨v, a, Rep.mono e b⟩⟩
theorem SR.set {K : PySem.W.Frag} {H : Hp} {α : List Addr} {σ : L2.St} {ρ : Ro} {v : V} {d : D} (h : SR K H α σ ρ) (i : Nat) (r : Rep K H α v d) : SR K H α (σ.set i (some v)) (ρ.set i (some d)) := by
  refine ⟨by rw [List.length_set, List.length_set]; exact h.1, fun j e q => ?_⟩
  by_cases hj : j = i
  · subst hj
    have hl : j < ρ.length := by
      have := (List.getElem?_eq_some_iff.mp q).1
      rw [List.length_set] at this
      exact this
    rw [List.getElem?_set_self hl] at q
    cases q
    exact ⟨v, by rw [List.getElem?_set_self (by rw [h.1]; exact hl)], r⟩
  · rw [List.getElem?_set_ne (Ne.symm hj)] at q
    rw [List.getElem?_set_ne (Ne.symm hj)]
    exact h.2 j e q

noncomputable abbrev Ev := Ro → Sto → Out D
noncomputable abbrev Tv := Ro → Sto → Out Bool
noncomputable abbrev Av := Ro → Sto → Out (List D)
noncomputable abbrev Sv := Ro → Sto → Fl

noncomputable def DE (X : Cx) (ξ : XK) (e : Expr) (f : Ev) : Prop := ∃ t : TE, PE X e t ∧ ∀ σ ρ H α M Q, SR X.K H α σ ρ → HR X.K H α M → OP X.K H α ξ Q (f ρ M) → t σ H Q
noncomputable def DT (X : Cx) (ξ : XK) (e : Expr) (f : Tv) : Prop := ∃ t : TT, PT X e t ∧ ∀ σ ρ H α M Q, SR X.K H α σ ρ → HR X.K H α M → OT X.K H α ξ Q (f ρ M) → t σ H Q
noncomputable def DW (X : Cx) (ξ : XK) (e : Expr) (f : Tv) : Prop := ∃ t : TT, PW X e t ∧ ∀ σ ρ H α M Q, SR X.K H α σ ρ → HR X.K H α M → OT X.K H α ξ Q (f ρ M) → t σ H Q
noncomputable def DA (X : Cx) (ξ : XK) (es : List Expr) (f : Av) : Prop := ∃ t : TA, PA X es t ∧ ∀ σ ρ H α M Q, SR X.K H α σ ρ → HR X.K H α M → OA X.K H α ξ Q (f ρ M) → t σ H Q

theorem OG.seq {β γ β' γ' : Type} {K : PySem.W.Frag} {R : Hp → List Addr → γ → β → Prop} {R' : Hp → List Addr → γ' → β' → Prop} {H : Hp} {α : List Addr} {ξ : XK} {Q : γ' → Hp → Prop} {Q1 : γ → Hp → Prop} {o : Out β} {f : β → Sto → Out β'}
    (h : OG K R' H α ξ Q (o.bind f)) (k : ∀ d M' v H' α', Ext K H H' α α' → HR K H' α' M' → R H' α' v d → OG K R' H' α' ξ Q (f d M') → Q1 v H') : OG K R H α ξ Q1 o := by
  cases o with
  | ok d M' => exact fun v H' α' e hr r => k d M' v H' α' e hr r (OG.ext (o := f d M') h e)
  | exc c M' => exact h
  | bad => exact h

section
variable {X : Cx} {ξ : XK} {a b e : Expr} {fa fb : Ev} {pos : Pos}
noncomputable def eVar (i : Nat) : Ev := fun ρ M => match ρ[i]? with | some (some d) => .ok d M | _ => .bad
noncomputable def eC (d : D) : Ev := fun _ M => .ok d M
theorem de_var (i : Nat) {x : Str} (hN : X.N[i]? = some x := by rfl) (hv : Vis X.env.scope x := by first | exact Or.inl rfl | exact Or.inr (Or.inl rfl) | exact Or.inr (Or.inr rfl)) (hd : (x == ("__debug__" : Str)) = false := by decide)
    (hcd : (x == ("__classdict__" : Str)) = false := by decide) : DE X ξ (.Name x pos) (eVar i) := by
  refine ⟨_, pe_var hN hv hd hcd, fun σ ρ H α M Q s h q => ?_⟩
  unfold eVar at q
  cases e : ρ[i]? with
  | none => rw [e] at q; exact q.elim
  | some o =>
    cases o with
    | none => rw [e] at q; exact q.elim
    | some d =>
      rw [e] at q
      obtain ⟨v, h1, h2⟩ := s.2 i d e
      exact ⟨v, h1, q v H α Ext.refl h h2⟩
theorem de_int {i : Int} {j pos} : DE X ξ (.Constant (.int i) j pos) (eC (.int i)) := ⟨_, pe_int, fun _ _ H α M _ _ h q => q _ H α Ext.refl h (.int i)⟩
theorem de_bl {i : Bool} {j pos} : DE X ξ (.Constant (.bool i) j pos) (eC (.bl i)) := ⟨_, pe_bl, fun _ _ H α M _ _ h q => q _ H α Ext.refl h (.bl i)⟩
theorem de_str {x : Str} {j pos} : DE X ξ (.Constant (.str x) j pos) (eC (.str x)) := ⟨_, pe_str, fun _ _ H α M _ _ h q => q _ H α Ext.refl h (.str x)⟩

noncomputable abbrev Bo := D → D → Sto → Out D
noncomputable def e2 (f : Bo) (fa fb : Ev) : Ev := fun ρ M => (fa ρ M).bind fun x M1 => (fb ρ M1).bind fun y M2 => f x y M2
noncomputable def BO (X : Cx) (ξ : XK) (r : R2) (f : Bo) : Prop := ∀ H α M v w x y Q, HR X.K H α M → Rep X.K H α v x → Rep X.K H α w y → OP X.K H α ξ Q (f x y M) → r v w H Q
theorem two {r : R2} {f : Bo} (hb : BO X ξ r f) {ta tb : TE} (qa : ∀ σ ρ H α M Q, SR X.K H α σ ρ → HR X.K H α M → OP X.K H α ξ Q (fa ρ M) → ta σ H Q)
    (qb : ∀ σ ρ H α M Q, SR X.K H α σ ρ → HR X.K H α M → OP X.K H α ξ Q (fb ρ M) → tb σ H Q) : ∀ σ ρ H α M Q, SR X.K H α σ ρ → HR X.K H α M → OP X.K H α ξ Q (e2 f fa fb ρ M) → tOp r ta tb σ H Q := by
  intro σ ρ H α M Q s h q
  refine qa σ ρ H α M _ s h (OG.seq q fun x M1 v H1 α1 e1 h1 r1 q1 => ?_)
  refine qb σ ρ H1 α1 M1 _ (s.mono e1) h1 (OG.seq q1 fun y M2 w H2 α2 e2 h2 r2 q2 => ?_)
  exact hb H2 α2 M2 v w x y Q h2 (Rep.mono e2 r1) r2 q2
theorem de_op {op : Operator} {r : R2} {f : Bo} (ho : OpR X (binaryOp op) r) (hf : BO X ξ r f) (ha : DE X ξ a fa) (hb : DE X ξ b fb) : DE X ξ (.BinOp a op b pos) (e2 f fa fb) := by
  obtain ⟨ta, ha, qa⟩ := ha
  obtain ⟨tb, hb, qb⟩ := hb
  exact ⟨_, pe_op ho ha hb, two hf qa qb⟩
theorem de_cmp {op : CmpOp} {r : R2} {f : Bo} (ho : OpR X (compareOp op) r) (hf : BO X ξ r f) (ha : DE X ξ a fa) (hb : DE X ξ b fb) (hm : behindInMarks op b = false := by first | exact nomark _ | with_unfolding_all rfl) : DE X ξ (.Compare a [op] [b] pos) (e2 f fa fb) := by
  obtain ⟨ta, ha, qa⟩ := ha
  obtain ⟨tb, hb, qb⟩ := hb
  exact ⟨_, pe_cmpR ho ha hb hm, two hf qa qb⟩
noncomputable def tv (f : Ev) : Tv := fun ρ M => (f ρ M).bind fun x M1 => match x with | .bl k => .ok k M1 | _ => .bad
theorem dt_of {t : TE} {f : Ev} (qa : ∀ σ ρ H α M Q, SR X.K H α σ ρ → HR X.K H α M → OP X.K H α ξ Q (f ρ M) → t σ H Q) : ∀ σ ρ H α M Q, SR X.K H α σ ρ → HR X.K H α M → OT X.K H α ξ Q (tv f ρ M) → tTest t σ H Q := by
  intro σ ρ H α M Q s h q
  refine qa σ ρ H α M _ s h (OG.seq q fun x M1 v H1 α1 e1 h1 r1 q1 => ?_)
  cases r1 with
  | bl k => exact ⟨k, rfl, q1 k H1 α1 Ext.refl h1 rfl⟩
  | _ => exact q1.elim
theorem dt_cmp {op : CmpOp} {r : R2} {f : Bo} (ho : OpR X (compareOp op) r) (hf : BO X ξ r f) (ha : DE X ξ a fa) (hb : DE X ξ b fb) (hm : behindInMarks op b = false := by first | exact nomark _ | with_unfolding_all rfl) : DT X ξ (.Compare a [op] [b] pos) (tv (e2 f fa fb)) := by
  obtain ⟨ta, ha, qa⟩ := ha
  obtain ⟨tb, hb, qb⟩ := hb
  exact ⟨_, pt_cmpR ho ha hb hm, dt_of (two hf qa qb)⟩
theorem dt_val (h : DE X ξ e fa) (he : ∀ whole, isTrue e X.env whole = (do let v ← whole; standAt e.pos; holding [v] (truthy v)) := by intro _; rfl) : DT X ξ e (tv fa) := by
  obtain ⟨ta, ha, qa⟩ := h
  exact ⟨_, pt_val ha he, dt_of qa⟩
variable {ga gb : Tv} {rest : List Expr}
noncomputable def tAnd2 (f g : Tv) : Tv := fun ρ M => (f ρ M).bind fun k M1 => if k = true then g ρ M1 else .ok false M1
noncomputable def tOr2 (f g : Tv) : Tv := fun ρ M => (f ρ M).bind fun k M1 => if k = true then .ok true M1 else g ρ M1
noncomputable def tNot1 (f : Tv) : Tv := fun ρ M => (f ρ M).bind fun k M1 => .ok (!k) M1
theorem dw_and1 (ha : DT X ξ a ga) : DW X ξ (.BoolOp .And [a] pos) ga := let ⟨_, h, q⟩ := ha; ⟨_, pw_and1 h, q⟩
theorem dw_or1 (ha : DT X ξ a ga) : DW X ξ (.BoolOp .Or [a] pos) ga := let ⟨_, h, q⟩ := ha; ⟨_, pw_or1 h, q⟩
theorem dw_or (ha : DT X ξ a ga) (hb : DW X ξ (.BoolOp .Or (b :: rest) pos) gb) : DW X ξ (.BoolOp .Or (a :: b :: rest) pos) (tOr2 ga gb) := by
  obtain ⟨ta, ha, qa⟩ := ha
  obtain ⟨tb, hb, qb⟩ := hb
  refine ⟨_, pw_or ha hb, fun σ ρ H α M Q s h q => ?_⟩
  refine qa σ ρ H α M _ s h (OG.seq q fun k M1 v H1 α1 e1 h1 r1 q1 => ?_)
  cases r1
  cases k with
  | true => exact iteT (q1 true H1 α1 Ext.refl h1 rfl)
  | false => exact iteF (qb σ ρ H1 α1 M1 Q (s.mono e1) h1 q1)
theorem dt_w (h : DW X ξ e ga) : DT X ξ e ga := let ⟨_, h, q⟩ := h; ⟨_, h.pt, q⟩
theorem dt_not (ha : DT X ξ a ga) : DT X ξ (.UnaryOp .Not a pos) (tNot1 ga) := by
  obtain ⟨ta, ha, qa⟩ := ha
  refine ⟨_, pt_not ha, fun σ ρ H α M Q s h q => ?_⟩
  refine qa σ ρ H α M _ s h (OG.seq q fun k M1 v H1 α1 e1 h1 r1 q1 => ?_)
  cases r1
  exact q1 (!k) H1 α1 Ext.refl h1 rfl
noncomputable def eAnd2 (f g : Ev) : Ev := fun ρ M => (f ρ M).bind fun x M1 => match x with | .bl k => if k = true then g ρ M1 else .ok (.bl false) M1 | _ => .bad
noncomputable def eOr2 (f g : Ev) : Ev := fun ρ M => (f ρ M).bind fun x M1 => match x with | .bl k => if k = true then .ok (.bl true) M1 else g ρ M1 | _ => .bad
noncomputable def eNot1 (f : Ev) : Ev := fun ρ M => (f ρ M).bind fun x M1 => match x with | .bl k => .ok (.bl (!k)) M1 | _ => .bad
noncomputable def eIf (c : Tv) (f g : Ev) : Ev := fun ρ M => (c ρ M).bind fun k M1 => if k = true then f ρ M1 else g ρ M1
variable {es : List Expr} {fs : Av}
noncomputable def aNil : Av := fun _ M => .ok [] M
noncomputable def aCons (f : Ev) (g : Av) : Av := fun ρ M => (f ρ M).bind fun x M1 => (g ρ M1).bind fun xs M2 => .ok (x :: xs) M2
theorem da_nil : DA X ξ [] aNil := ⟨_, pa_nil, fun _ _ H α M _ _ h q => q _ H α Ext.refl h .nil⟩
theorem da_cons (ha : DE X ξ e fa) (hr : DA X ξ es fs) (hs : starEach (e :: es) X.env = (false, eval e X.env) :: starEach es X.env := by rfl) : DA X ξ (e :: es) (aCons fa fs) := by
  obtain ⟨ta, ha, qa⟩ := ha
  obtain ⟨tb, hb, qb⟩ := hr
  refine ⟨_, pa_cons ha hb hs, fun σ ρ H α M Q s h q => ?_⟩
  refine qa σ ρ H α M _ s h (OG.seq q fun x M1 v H1 α1 e1 h1 r1 q1 => ?_)
  refine qb σ ρ H1 α1 M1 _ (s.mono e1) h1 (OG.seq q1 fun y M2 w H2 α2 e2 h2 r2 q2 => ?_)
  exact q2 _ H2 α2 Ext.refl h2 (.cons (Rep.mono e2 r1) r2)
noncomputable def eTup (f : Av) : Ev := fun ρ M => (f ρ M).bind fun xs M1 => if xs.length ≤ 1000 then .ok (.tup xs) M1 else .bad
noncomputable def eLst (f : Av) : Ev := fun ρ M => (f ρ M).bind fun xs M1 => if xs.length ≤ 1000 then .ok (.ref M1.length) (M1 ++ [.lst xs]) else .bad
theorem small {n : Nat} (h : n ≤ 1000) : n ≤ sizeLine := Nat.le_of_lt (small1000 h)
theorem de_tup {x1} (ha : DA X ξ es fs) : DE X ξ (.Tuple es x1 pos) (eTup fs) := by
  obtain ⟨ta, ha, qa⟩ := ha
  refine ⟨_, pe_tup ha, fun σ ρ H α M Q s h q => ?_⟩
  refine qa σ ρ H α M _ s h (OG.seq q fun xs M1 vs H1 α1 e1 h1 r1 q1 => ?_)
  by_cases hl : xs.length ≤ 1000
  · rw [if_pos hl] at q1
    refine ⟨by rw [r1.length]; exact small hl, fun p hp => q1 _ _ α1 (Ext.new0 hp) (h1.tup hp) (.tup upd_same (Reps.mono (Ext.new0 hp) r1))⟩
  · rw [if_neg hl] at q1
    exact q1.elim
theorem HR.last {K : PySem.W.Frag} {H : Hp} {α : List Addr} {M : Sto} (h : HR K H α M) (p : Addr) : (α ++ [p])[M.length]? = some p := by
  rw [← h.len, List.getElem?_append_right (Nat.le_refl _), Nat.sub_self]
  rfl
theorem de_lst (ha : DA X ξ es fs) : DE X ξ (.List es pos) (eLst fs) := by
  obtain ⟨ta, ha, qa⟩ := ha
  refine ⟨_, pe_lst ha, fun σ ρ H α M Q s h q => ?_⟩
  refine qa σ ρ H α M _ s h (OG.seq q fun xs M1 vs H1 α1 e1 h1 r1 q1 => ?_)
  by_cases hl : xs.length ≤ 1000
  · rw [if_pos hl] at q1
    refine ⟨by rw [r1.length]; exact small hl, fun p hp => q1 _ _ (α1 ++ [p]) (Ext.new hp) (h1.new hp r1) (.ref ⟨h1.last p, Kn.lst upd_same⟩)⟩
  · rw [if_neg hl] at q1
    exact q1.elim
end
end DL


end
section
set_option Elab.async false
set_option linter.all false
set_option maxRecDepth 100000
set_option maxHeartbeats 4000000
namespace DL
open PySem PySem.Spec PyProof.Rows L2
open PySem.SeqAt (EqAt RcAt RcNeAt)

noncomputable def mulFits (i j : Int) : Prop := Builtin.Int.intBits i ≤ 64 ∨ Builtin.Int.intBits j ≤ 64 ∨ (Builtin.Int.intBits i ≤ 60000000 ∧ Builtin.Int.intBits j ≤ 60000000)
instance (i j : Int) : Decidable (mulFits i j) := by unfold mulFits; infer_instance
theorem mulFits.ok {i j : Int} (h : mulFits i j) : IntMulOk i j := by
  rcases h with h | h | ⟨h1, h2⟩
  · exact .of_left h
  · exact .of_right h
  · exact .of_le h1 h2 (by decide)
theorem mulFits_of {i j : Int} (m n : Nat) (h1 : i.natAbs < 2 ^ m) (h2 : j.natAbs < 2 ^ n) (hm : m ≤ 60000000 := by decide) (hn : n ≤ 60000000 := by decide) : mulFits i j :=
  .inr (.inr ⟨Nat.le_trans (intBits_le_iff.mpr h1) hm, Nat.le_trans (intBits_le_iff.mpr h2) hn⟩)
noncomputable def divFits (j : Int) : Prop := j ≠ 0 ∧ j.natAbs.log2 < 9000
instance (j : Int) : Decidable (divFits j) := by unfold divFits; infer_instance
section
variable {X : Cx}
theorem op_mulG : OpR X (binaryOp .Mult) (rI mulFits fun i j => .int (i * j)) := opI fun _ _ _ _ _ _ _ hc q => mul_int q hc.ok
theorem op_fdivG : OpR X (binaryOp .FloorDiv) (rI (fun _ j => divFits j) fun i j => .int (i.fdiv j)) := opI fun _ _ _ _ _ _ _ hc q => floordiv_int hc.1 q (.inl (PyProof.noPylong_of_log2 hc.2))
end
noncomputable def dAdd : Bo := fun x y M => match x, y with
  | .int i, .int j => .ok (.int (i + j)) M
  | .str i, .str j => if i.length + j.length ≤ 100000 then .ok (.str (i ++ j)) M else .bad
  | .ref n, .ref m => match M[n]?, M[m]? with
    | some (.lst xs), some (.lst ys) => if xs.length + ys.length ≤ 10000000 then .ok (.ref M.length) (M ++ [.lst (xs ++ ys)]) else .bad
    | _, _ => .bad
  | .tup xs, .tup ys => if xs.length + ys.length ≤ 100000 ∧ xs ≠ [] then .ok (.tup (xs ++ ys)) M else .bad
  | _, _ => .bad
noncomputable def dSub : Bo := fun x y M => match x, y with | .int i, .int j => .ok (.int (i - j)) M | _, _ => .bad
noncomputable def dMul : Bo := fun x y M => match x, y with | .int i, .int j => if mulFits i j then .ok (.int (i * j)) M else .bad | _, _ => .bad
noncomputable def dDiv : Bo := fun x y M => match x, y with | .int i, .int j => if divFits j then .ok (.int (i.fdiv j)) M else .bad | _, _ => .bad
noncomputable def dMod : Bo := fun x y M => match x, y with | .int i, .int j => if j ≠ 0 then .ok (.int (i.fmod j)) M else .bad | _, _ => .bad
noncomputable def dPow : Bo := fun x y M => match x, y with | .int i, .int j => if 0 ≤ j ∧ j ≤ 1000000 ∧ i.natAbs < 2 ^ 64 then .ok (.int (i ^ j.toNat)) M else .bad | _, _ => .bad
noncomputable def dLt : Bo := fun x y M => match x, y with | .int i, .int j => .ok (.bl (decide (i < j))) M | _, _ => .bad
noncomputable def dLe : Bo := fun x y M => match x, y with | .int i, .int j => .ok (.bl (decide (i ≤ j))) M | _, _ => .bad
noncomputable def dGt : Bo := fun x y M => match x, y with | .int i, .int j => .ok (.bl (decide (j < i))) M | _, _ => .bad
noncomputable def dGe : Bo := fun x y M => match x, y with | .int i, .int j => .ok (.bl (decide (j ≤ i))) M | _, _ => .bad

theorem line5 {n : Nat} (h : n ≤ 100000) : n ≤ sizeLine := Nat.le_trans h (by decide)
section
variable {X : Cx} {ξ : XK}
theorem bo_int {r : R2} {f : Bo} {C : Int → Int → Prop} [∀ i j, Decidable (C i j)] {g : Int → Int → D} {gV : Int → Int → V} (hg : ∀ H α i j, Rep X.K H α (gV i j) (g i j))
    (hf : ∀ x y M, f x y M = match x, y with | .int i, .int j => if C i j then .ok (g i j) M else .bad | _, _ => .bad) (hr : ∀ i j H Q, C i j → Q (gV i j) H → r (.int i) (.int j) H Q) : BO X ξ r f := by
  intro H α M v w x y Q h rv rw' q
  rw [hf] at q
  cases rv <;> first | exact q.elim | skip
  cases rw' <;> first | exact q.elim | skip
  rename_i i j
  by_cases c : C i j
  · simp only [if_pos c] at q
    exact hr i j H Q c (q _ H α Ext.refl h (hg H α i j))
  · simp only [if_neg c] at q
    exact q.elim
theorem bo_sub : BO X ξ (rI0 fun i j => .int (i - j)) dSub := bo_int (C := fun _ _ => True) (fun _ _ i j => .int (i - j)) (fun x y M => by cases x <;> cases y <;> simp [dSub]) fun i j H Q _ q => ⟨i, j, rfl, rfl, q⟩
theorem bo_mul : BO X ξ (rI mulFits fun i j => .int (i * j)) dMul := bo_int (C := mulFits) (fun _ _ i j => .int (i * j)) (fun x y M => by cases x <;> cases y <;> rfl) fun i j H Q c q => ⟨i, j, rfl, rfl, c, q⟩
theorem bo_div : BO X ξ (rI (fun _ j => divFits j) fun i j => .int (i.fdiv j)) dDiv := bo_int (C := fun _ j => divFits j) (fun _ _ i j => .int (i.fdiv j)) (fun x y M => by cases x <;> cases y <;> rfl) fun i j H Q c q => ⟨i, j, rfl, rfl, c, q⟩
theorem bo_mod : BO X ξ (rI (fun _ j => j ≠ 0) fun i j => .int (i.fmod j)) dMod := bo_int (C := fun _ j => j ≠ 0) (fun _ _ i j => .int (i.fmod j)) (fun x y M => by cases x <;> cases y <;> rfl) fun i j H Q c q => ⟨i, j, rfl, rfl, c, q⟩
theorem bo_pow : BO X ξ (rI CPow fun i j => .int (i ^ j.toNat)) dPow := bo_int (C := fun i j => 0 ≤ j ∧ j ≤ 1000000 ∧ i.natAbs < 2 ^ 64) (fun _ _ i j => .int (i ^ j.toNat)) (fun x y M => by cases x <;> cases y <;> rfl) fun i j H Q c q => ⟨i, j, rfl, rfl, c, q⟩
theorem bo_lt : BO X ξ (rI0 fun i j => .bl (decide (i < j))) dLt := bo_int (C := fun _ _ => True) (fun _ _ i j => .bl _) (fun x y M => by cases x <;> cases y <;> simp [dLt]) fun i j H Q _ q => ⟨i, j, rfl, rfl, q⟩
theorem bo_le : BO X ξ (rI0 fun i j => .bl (decide (i ≤ j))) dLe := bo_int (C := fun _ _ => True) (fun _ _ i j => .bl _) (fun x y M => by cases x <;> cases y <;> simp [dLe]) fun i j H Q _ q => ⟨i, j, rfl, rfl, q⟩
theorem bo_gt : BO X ξ (rI0 fun i j => .bl (decide (j < i))) dGt := bo_int (C := fun _ _ => True) (fun _ _ i j => .bl _) (fun x y M => by cases x <;> cases y <;> simp [dGt]) fun i j H Q _ q => ⟨i, j, rfl, rfl, q⟩
theorem bo_ge : BO X ξ (rI0 fun i j => .bl (decide (j ≤ i))) dGe := bo_int (C := fun _ _ => True) (fun _ _ i j => .bl _) (fun x y M => by cases x <;> cases y <;> simp [dGe]) fun i j H Q _ q => ⟨i, j, rfl, rfl, q⟩
theorem op_addG : OpR X (binaryOp .Add) (fun x y H Q => (rI0 (fun i j => .int (i + j)) x y H Q ∨ (∃ i j, x = .str i ∧ y = .str j ∧ i.length + j.length ≤ sizeLine ∧ Q (.str (i ++ j)) H)) ∨ (rCat x y H Q ∨ rCatT X.K x y H Q)) :=
  OpR.or (OpR.or op_add op_add_str) (OpR.or op_cat op_catT)
theorem bo_add : BO X ξ (fun x y H Q => (rI0 (fun i j => .int (i + j)) x y H Q ∨ (∃ i j, x = .str i ∧ y = .str j ∧ i.length + j.length ≤ sizeLine ∧ Q (.str (i ++ j)) H)) ∨ (rCat x y H Q ∨ rCatT X.K x y H Q)) dAdd := by
  intro H α M v w x y Q h rv rw' q
  cases rv with
  | int i =>
    cases rw' with
    | int j => exact .inl (.inl ⟨i, j, rfl, rfl, q _ H α Ext.refl h (.int (i + j))⟩)
    | _ => exact q.elim
  | str i =>
    cases rw' with
    | str j =>
      by_cases c : i.length + j.length ≤ 100000
      · simp only [dAdd, if_pos c] at q
        exact .inl (.inr ⟨i, j, rfl, rfl, line5 c, q _ H α Ext.refl h (.str _)⟩)
      · simp only [dAdd, if_neg c] at q
        exact q.elim
    | _ => exact q.elim
  | @tup p xs ds hp rp =>
    cases rw' with
    | @tup p2 xs2 ds2 hp2 rp2 =>
      by_cases c : ds.length + ds2.length ≤ 100000 ∧ ds ≠ []
      · simp only [dAdd, if_pos c] at q
        have nx : xs ≠ [] := fun z => c.2 (by have := rp.length; rw [z] at this; exact List.eq_nil_of_length_eq_zero this.symm)
        refine .inr (.inr ⟨p, p2, xs, xs2, rfl, rfl, (SqT.of hp), (SqT.of hp2), nx, by rw [rp.length, rp2.length]; exact line5 c.1, fun z => ?_, fun _ l hl => ?_⟩)
        · subst z
          cases rp2
          rw [List.append_nil] at q
          exact q _ H α Ext.refl h (.tup hp rp)
        · exact q _ _ α (Ext.new0 hl) (h.tup hl) (.tup upd_same (Reps.mono (Ext.new0 hl) (rp.append rp2)))
      · simp only [dAdd, if_neg c] at q
        exact q.elim
    | _ => exact q.elim
  | @ref p n hp =>
    cases rw' with
    | @ref p2 n2 hp2 =>
      cases e1 : M[n]? with
      | none => simp only [dAdd, e1] at q; exact q.elim
      | some o1 =>
        cases e2 : M[n2]? with
        | none => cases o1; simp only [dAdd, e1, e2] at q; exact q.elim
        | some o2 =>
          cases o1 with
          | lst ds =>
            cases o2 with
            | lst ds2 =>
              by_cases c : ds.length + ds2.length ≤ 10000000
              · simp only [dAdd, e1, e2, if_pos c] at q
                obtain ⟨xs, g1, r1⟩ := h.at hp e1
                obtain ⟨ys, g2, r2⟩ := h.at hp2 e2
                refine .inr (.inl ⟨p, p2, xs, ys, rfl, rfl, g1, g2, by rw [r1.length, r2.length]; exact Nat.le_trans c (by decide), fun l hl => ?_⟩)
                exact q _ _ (α ++ [l]) (Ext.new hl) (h.new hl (r1.append r2)) (.ref ⟨h.last l, Kn.lst upd_same⟩)
              · simp only [dAdd, e1, e2, if_neg c] at q
                exact q.elim
    | _ => exact q.elim
  | _ => exact q.elim
variable {a b e : Expr} {fa fb : Ev} {pos : Pos}
theorem de_add (ha : DE X ξ a fa) (hb : DE X ξ b fb) : DE X ξ (.BinOp a .Add b pos) (e2 dAdd fa fb) := de_op op_addG bo_add ha hb
theorem de_sub (ha : DE X ξ a fa) (hb : DE X ξ b fb) : DE X ξ (.BinOp a .Sub b pos) (e2 dSub fa fb) := de_op op_sub bo_sub ha hb
theorem de_mul (ha : DE X ξ a fa) (hb : DE X ξ b fb) : DE X ξ (.BinOp a .Mult b pos) (e2 dMul fa fb) := de_op op_mulG bo_mul ha hb
theorem de_div (ha : DE X ξ a fa) (hb : DE X ξ b fb) : DE X ξ (.BinOp a .FloorDiv b pos) (e2 dDiv fa fb) := de_op op_fdivG bo_div ha hb
theorem de_mod (ha : DE X ξ a fa) (hb : DE X ξ b fb) : DE X ξ (.BinOp a .Mod b pos) (e2 dMod fa fb) := de_op op_modN bo_mod ha hb
theorem de_pow (ha : DE X ξ a fa) (hb : DE X ξ b fb) : DE X ξ (.BinOp a .Pow b pos) (e2 dPow fa fb) := de_op op_pow bo_pow ha hb
noncomputable def eNeg (f : Ev) : Ev := fun ρ M => (f ρ M).bind fun x M1 => match x with | .int i => .ok (.int (-i)) M1 | _ => .bad
theorem de_neg (ha : DE X ξ a fa) : DE X ξ (.UnaryOp .USub a pos) (eNeg fa) := by
  obtain ⟨ta, ha, qa⟩ := ha
  refine ⟨_, pe_un un_neg ha, fun σ ρ H α M Q s h q => ?_⟩
  refine qa σ ρ H α M _ s h (OG.seq q fun x M1 v H1 α1 e1 h1 r1 q1 => ?_)
  cases r1 with
  | int i => exact ⟨i, rfl, q1 _ H1 α1 Ext.refl h1 (.int (-i))⟩
  | _ => exact q1.elim
noncomputable def atD (xs : List D) (i : Int) (M : Sto) : Out D := match atI xs i with | some d => .ok d M | none => .bad
noncomputable def dIx : Bo := fun x y M => match x, y with
  | .tup xs, .int i => atD xs i M
  | .rol xs, .int i => atD xs i M
  | .ref n, .int i => match M[n]? with | some (.lst xs) => atD xs i M | _ => .bad
  | _, _ => .bad
theorem Reps.atI {K : PySem.W.Frag} {H : Hp} {α : List Addr} {vs : List V} {ds : List D} {i : Int} {d : D} (r : Reps K H α vs ds) (h : L2.atI ds i = some d) : ∃ v, L2.atI vs i = some v ∧ Rep K H α v d := by
  unfold L2.atI at h ⊢
  rw [r.length]
  cases e : ixN ds.length i with
  | none => rw [e] at h; cases h
  | some j =>
    rw [e] at h
    exact r.get h
theorem bo_ix : BO X ξ (fun x y H Q => rIxL X.K x y H Q ∨ rIxT X.K x y H Q) dIx := by
  intro H α M v w x y Q h rv rw' q
  cases rw' with
  | int i =>
    cases rv with
    | @tup p xs ds hp rp =>
      have q' : OP X.K H α ξ Q (atD ds i M) := q
      unfold atD at q'
      cases e : L2.atI ds i with
      | none => rw [e] at q'; exact q'.elim
      | some d =>
        rw [e] at q'
        obtain ⟨v, h1, h2⟩ := rp.atI e
        exact .inr ⟨p, xs, i, v, rfl, rfl, (SqT.of hp), h1, q' v H α Ext.refl h h2⟩
    | @rol p xs ds hp rp =>
      have q' : OP X.K H α ξ Q (atD ds i M) := q
      unfold atD at q'
      cases e : L2.atI ds i with
      | none => rw [e] at q'; exact q'.elim
      | some d =>
        rw [e] at q'
        obtain ⟨v, h1, h2⟩ := rp.atI e
        exact .inl ⟨p, xs, i, v, rfl, rfl, hp.sq, h1, q' v H α Ext.refl h h2⟩
    | @ref p n hp =>
      cases e1 : M[n]? with
      | none => simp only [dIx, e1] at q; exact q.elim
      | some o1 =>
        cases o1 with
        | lst ds =>
          simp only [dIx, e1, atD] at q
          obtain ⟨xs, g1, r1⟩ := h.at hp e1
          cases e : L2.atI ds i with
          | none => rw [e] at q; exact q.elim
          | some d =>
            rw [e] at q
            obtain ⟨v, h1, h2⟩ := r1.atI e
            exact .inl ⟨p, xs, i, v, rfl, rfl, SqL.of g1, h1, q v H α Ext.refl h h2⟩
    | _ => exact q.elim
  | _ => cases rv <;> exact q.elim
theorem de_ix (ha : DE X ξ a fa) (hb : DE X ξ b fb) (hs : PlainIx b := by exact fun _ _ => rfl) : DE X ξ (.Subscript a b pos) (e2 dIx fa fb) := by
  obtain ⟨ta, ha, qa⟩ := ha
  obtain ⟨tb, hb, qb⟩ := hb
  exact ⟨_, pe_ix (IxR.or ix_list ix_tup) ha hb hs, two bo_ix qa qb⟩
end

inductive Kd where
  | non | bl (b : Bool) | int (i : Int) | str (x : Str) | tup (xs : List D) | lst (xs : List D)
noncomputable def kd (M : Sto) : D → Option Kd
  | .non => some .non
  | .bl b => some (.bl b)
  | .int i => some (.int i)
  | .str x => some (.str x)
  | .tup xs => some (.tup xs)
  | .rol xs => some (.lst xs)
  | .ref n => match M[n]? with | some (.lst xs) => some (.lst xs) | _ => none
  | .err _ _ => none
  | .dk _ => none
  | .dt _ => none
noncomputable def eqL (f : D → D → Option Bool) : List D → List D → Option Bool
  | [], [] => some true
  | x :: xs, y :: ys => match f x y with | some a => (match eqL f xs ys with | some b => some (a && b) | none => none) | none => none
  | _, _ => some false
noncomputable def eqK (f : D → D → Option Bool) : Kd → Kd → Option Bool
  | .non, .non => some true
  | .bl a, .bl b => some (a == b)
  | .bl a, .int b => some ((if a then 1 else 0) == b)
  | .int a, .bl b => some (a == (if b then 1 else 0))
  | .int a, .int b => some (a == b)
  | .str a, .str b => some (a == b)
  | .tup xs, .tup ys => eqL f xs ys
  | .lst xs, .lst ys => if xs.length = ys.length then eqL f xs ys else some false
  | _, _ => some false
noncomputable def eqF : Nat → Sto → D → D → Option Bool
  | 0, _, _, _ => none
  | n + 1, M, x, y => match kd M x, kd M y with | some a, some b => eqK (eqF n M) a b | _, _ => none

inductive Vw (X : Cx) (H : Hp) (α : List Addr) (s : Shared) : Kd → Value → Prop where
  | non : Vw X H α s .non .none
  | bl (b : Bool) : Vw X H α s (.bl b) (.bool b)
  | int (i : Int) (t : Tok) : Vw X H α s (.int i) (.int i t)
  | str (x : Str) (t : Tok) : Vw X H α s (.str x) (.str x t)
  | tup {p : Addr} {xs : List V} {ds : List D} {its : List Value} : s.heap.IsTuple p its.toArray → Vals xs its → Reps X.K H α xs ds → Vw X H α s (.tup ds) (.ref p)
  | lst {p : Addr} {xs : List V} {ds : List D} {its : List Value} : s.heap.IsList p its.toArray → Vals xs its → Reps X.K H α xs ds → Vw X H α s (.lst ds) (.ref p)
section
variable {X : Cx} {ξ : XK} {pins : List (Addr × Obj)} {σ : L2.St} {H : Hp} {s : Shared} {α : List Addr} {M : Sto}
theorem vw (I : Inv X pins σ H s) (h : HR X.K H α M) {v : V} {x : D} {u : Value} {k : Kd} (r : Rep X.K H α v x) (ru : RelV v u) (e : kd M x = some k) : Vw X H α s k u := by
  cases r with
  | non => cases e; cases ru; exact .non
  | bl b => cases e; cases ru; exact .bl b
  | int i => cases e; obtain ⟨t, rfl⟩ := ru; exact .int i t
  | str x => cases e; obtain ⟨t, rfl⟩ := ru; exact .str x t
  | err _ _ _ => cases e
  | dk _ => cases e
  | dt _ => cases e
  | @tup p xs ds hp rp =>
    cases e; cases ru
    obtain ⟨its, h1, h2, _⟩ := I.tuple (SqT.of hp)
    exact .tup h2 h1 rp
  | @rol p xs ds hp rp =>
    cases e; cases ru
    obtain ⟨its, h1, h2, _⟩ := I.list hp.sq
    exact .lst h2.isList h1 rp
  | @ref p n hp =>
    cases ru
    cases e1 : M[n]? with
    | none => simp only [kd, e1] at e; cases e
    | some o =>
      cases o with
      | lst ds =>
        simp only [kd, e1] at e
        cases e
        obtain ⟨xs, g1, r1⟩ := h.at hp e1
        obtain ⟨its, h1, h2, _⟩ := I.list (SqL.of g1)
        exact .lst h2.isList h1 r1
noncomputable def Eq3 (A : Around) (s : Shared) (u z : Value) (b : Bool) : Prop := EqAt A s u z b ∧ RcAt A s u z b ∧ RcNeAt A s u z (!b)
theorem eqL_get {f : D → D → Option Bool} : ∀ {xs ys : List D} {b : Bool}, eqL f xs ys = some b →
    (∀ (j : Nat) x y, xs[j]? = some x → ys[j]? = some y → ∃ c, f x y = some c) ∧
    b = ((List.range (min xs.length ys.length)).all (fun j => match xs[j]?, ys[j]? with | some x, some y => (f x y).getD false | _, _ => false) && xs.length == ys.length)
  | [], [], b, e => by
    simp only [eqL, Option.some.injEq] at e
    subst e
    exact ⟨fun j x y h => (by simp at h), (by simp)⟩
  | x :: xs, [], b, e => by
    simp only [eqL, Option.some.injEq] at e
    subst e
    exact ⟨fun j x y h1 h2 => (by simp at h2), (by simp)⟩
  | [], y :: ys, b, e => by
    simp only [eqL, Option.some.injEq] at e
    subst e
    exact ⟨fun j x y h1 h2 => (by simp at h1), (by simp)⟩
  | x :: xs, y :: ys, b, e => by
    cases e1 : f x y with
    | none => simp only [eqL, e1] at e; cases e
    | some a =>
      cases e2 : eqL f xs ys with
      | none => simp only [eqL, e1, e2] at e; cases e
      | some c =>
        simp only [eqL, e1, e2, Option.some.injEq] at e
        subst e
        obtain ⟨h1, h2⟩ := eqL_get e2
        refine ⟨fun j x' y' g1 g2 => ?_, ?_⟩
        · cases j with
          | zero =>
            simp at g1 g2
            subst g1 g2
            exact ⟨a, e1⟩
          | succ j =>
            simp at g1 g2
            exact h1 j x' y' g1 g2
        · have em : min (x :: xs).length (y :: ys).length = min xs.length ys.length + 1 := by simp only [List.length_cons]; omega
          rw [em, List.range_succ_eq_map, List.all_cons, List.all_map, h2]
          simp [e1, Bool.and_assoc, Function.comp_def]
theorem same_rep (I : Inv X pins σ H s) (h : HR X.K H α M) : ∀ (n : Nat) {v : V} {x y : D} {b : Bool}, Rep X.K H α v x → Rep X.K H α v y → eqF n M x y = some b → b = true := by
  intro n
  induction n with
  | zero => intro v x y b _ _ e; simp only [eqF] at e; cases e
  | succ n ih =>
    have lists : ∀ (vs : List V) (xs ys : List D) (b : Bool), Reps X.K H α vs xs → Reps X.K H α vs ys → eqL (eqF n M) xs ys = some b → b = true := by
      intro vs
      induction vs with
      | nil =>
        intro xs ys b r1 r2 e
        cases r1; cases r2
        simp only [eqL, Option.some.injEq] at e
        exact e.symm
      | cons v vs iv =>
        intro xs ys b r1 r2 e
        cases r1 with
        | cons p1 t1 =>
          cases r2 with
          | cons p2 t2 =>
            rename_i d1 ds1 d2 ds2
            cases e1 : eqF n M d1 d2 with
            | none => simp only [eqL, e1] at e; cases e
            | some a =>
              cases e2 : eqL (eqF n M) ds1 ds2 with
              | none => simp only [eqL, e1, e2] at e; cases e
              | some c =>
                simp only [eqL, e1, e2, Option.some.injEq] at e
                rw [← e, ih p1 p2 e1, iv _ _ _ t1 t2 e2]
                rfl
    intro v x y b r1 r2 e
    have nl : ∀ {p : Addr} {xs ys : List V}, SqT X.K H p xs → SqL X.K H p ys → False := fun {p xs ys} a c => by
      obtain ⟨i1, _, ⟨o1, g1, c1, _⟩, _⟩ := I.tuple a
      obtain ⟨i2, _, ⟨o2, _, g2, c2, _⟩, _⟩ := I.list c
      rw [g1] at g2
      cases g2
      rw [c1] at c2
      exact absurd c2 (by decide)
    have ll : ∀ {p : Addr} {n : Nat} {ds : List D}, RefK H α 0 n p → M[n]? = some (.lst ds) → ∃ vs, SqL X.K H p vs ∧ Reps X.K H α vs ds := fun {p n ds} a c => by
      obtain ⟨xs, g1, r1⟩ := h.at a c
      exact ⟨xs, SqL.of g1, r1⟩
    cases r1 with
    | non => cases r2; simp only [eqF, kd, eqK, Option.some.injEq] at e; exact e.symm
    | bl c => cases r2; simp only [eqF, kd, eqK, Option.some.injEq, beq_self_eq_true] at e; exact e.symm
    | int c => cases r2; simp only [eqF, kd, eqK, Option.some.injEq, beq_self_eq_true] at e; exact e.symm
    | str c => cases r2; simp only [eqF, kd, eqK, Option.some.injEq, beq_self_eq_true] at e; exact e.symm
    | err _ _ _ => simp [eqF, kd] at e
    | dk _ => simp [eqF, kd] at e
    | dt _ => simp [eqF, kd] at e
    | @tup p xs ds hp rp =>
      cases r2 with
      | @tup _ xs2 ds2 hp2 rp2 =>
        cases I.tuple_inj (SqT.of hp) (SqT.of hp2)
        simp only [eqF, kd, eqK] at e
        exact lists _ _ _ _ rp rp2 e
      | @rol _ xs2 ds2 hp2 rp2 => exact (nl (SqT.of hp) hp2.sq).elim
      | err _ _ _ => simp [eqF, kd] at e
      | dk _ => simp [eqF, kd] at e
      | dt _ => simp [eqF, kd] at e
      | @ref _ n2 hp2 =>
        obtain ⟨ys, g⟩ := h.some_at hp2
        exact (nl (SqT.of hp) (SqL.of g)).elim
    | @rol p xs ds hp rp =>
      cases r2 with
      | @tup _ xs2 ds2 hp2 rp2 => exact (nl (SqT.of hp2) hp.sq).elim
      | err _ _ _ => simp [eqF, kd] at e
      | dk _ => simp [eqF, kd] at e
      | dt _ => simp [eqF, kd] at e
      | @rol _ xs2 ds2 hp2 rp2 =>
        cases I.list_inj hp.sq hp2.sq
        simp only [eqF, kd, eqK, if_pos (rp.length.symm.trans rp2.length)] at e
        exact lists _ _ _ _ rp rp2 e
      | @ref _ n2 hp2 =>
        cases e1 : M[n2]? with
        | none => simp only [eqF, kd, e1] at e; cases e
        | some o =>
          cases o with
          | lst ds2 =>
            obtain ⟨ys, g, r⟩ := ll hp2 e1
            cases I.list_inj hp.sq g
            simp only [eqF, kd, e1, eqK, if_pos (rp.length.symm.trans r.length)] at e
            exact lists _ _ _ _ rp r e
    | @ref p n1 hp =>
      cases e0 : M[n1]? with
      | none => simp only [eqF, kd, e0] at e; cases e
      | some o0 =>
        cases o0 with
        | lst ds =>
          obtain ⟨xs, g0, rp⟩ := ll hp e0
          cases r2 with
          | @tup _ xs2 ds2 hp2 rp2 => exact (nl (SqT.of hp2) g0).elim
          | err _ _ _ => simp [eqF, kd, e0] at e
          | dk _ => simp [eqF, kd, e0] at e
          | dt _ => simp [eqF, kd, e0] at e
          | @rol _ xs2 ds2 hp2 rp2 =>
            cases I.list_inj g0 hp2.sq
            simp only [eqF, kd, e0, eqK, if_pos (rp.length.symm.trans rp2.length)] at e
            exact lists _ _ _ _ rp rp2 e
          | @ref _ n2 hp2 =>
            cases e1 : M[n2]? with
            | none => simp only [eqF, kd, e0, e1] at e; cases e
            | some o =>
              cases o with
              | lst ds2 =>
                obtain ⟨ys, g, r⟩ := ll hp2 e1
                cases I.list_inj g0 g
                simp only [eqF, kd, e0, e1, eqK, if_pos (rp.length.symm.trans r.length)] at e
                exact lists _ _ _ _ rp r e
end
end DL


end
section
set_option Elab.async false
set_option linter.all false
set_option maxRecDepth 100000
set_option maxHeartbeats 4000000
namespace DL
open PySem PySem.Spec PyProof.Rows L2
open PySem.SeqAt (EqAt RcAt RcNeAt)
section
variable {X : Cx} {ξ : XK} {pins : List (Addr × Obj)} {σ : L2.St} {H : Hp} {s : Shared} {α : List Addr} {M : Sto}
theorem items_eq {A : Around} {n : Nat} {xs1 xs2 : List V} {ds1 ds2 : List D} {i1 i2 : List Value} {b : Bool} (v1 : Vals xs1 i1) (v2 : Vals xs2 i2) (r1 : Reps X.K H α xs1 ds1) (r2 : Reps X.K H α xs2 ds2)
    (ih : ∀ (x y : D) (v w : V) (u z : Value) (b : Bool), eqF n M x y = some b → Rep X.K H α v x → Rep X.K H α w y → RelV v u → RelV w z → EqAt A s u z b) (e : eqL (eqF n M) ds1 ds2 = some b) :
    ∃ f : Nat → Bool, (∀ (j : Nat) (h1 : j < i1.toArray.size) (h2 : j < i2.toArray.size), EqAt A s i1.toArray[j] i2.toArray[j] (f j)) ∧ b = ((List.range (min i1.toArray.size i2.toArray.size)).all f && i1.toArray.size == i2.toArray.size) := by
  obtain ⟨g1, g2⟩ := eqL_get e
  have l1 : i1.toArray.size = ds1.length := by rw [List.size_toArray, ← v1.length, r1.length]
  have l2 : i2.toArray.size = ds2.length := by rw [List.size_toArray, ← v2.length, r2.length]
  refine ⟨_, fun j h1 h2 => ?_, by rw [l1, l2]; exact g2⟩
  have k1 : j < ds1.length := by rw [← l1]; exact h1
  have k2 : j < ds2.length := by rw [← l2]; exact h2
  obtain ⟨c, hc⟩ := g1 j _ _ (List.getElem?_eq_getElem k1) (List.getElem?_eq_getElem k2)
  obtain ⟨v, a1, a2⟩ := r1.get (List.getElem?_eq_getElem k1)
  obtain ⟨w, b1, b2⟩ := r2.get (List.getElem?_eq_getElem k2)
  obtain ⟨u, a3, a4⟩ := v1.get a1
  obtain ⟨z, b3, b4⟩ := v2.get b1
  have q := ih _ _ v w u z c hc a2 b2 a4 b4
  simp only [List.getElem?_eq_getElem k1, List.getElem?_eq_getElem k2, hc, Option.getD_some]
  have e1 : i1.toArray[j] = u := by
    have := List.getElem?_eq_some_iff.mp a3
    obtain ⟨_, z⟩ := this
    simpa using z
  have e2 : i2.toArray[j] = z := by
    have := List.getElem?_eq_some_iff.mp b3
    obtain ⟨_, z⟩ := this
    simpa using z
  rw [e1, e2]
  exact q
theorem refs3 (I : Inv X pins σ H s) (h : HR X.K H α M) {n : Nat} {x y : D} {v w : V} {p q : Addr} {b : Bool} {A : Around} (e : eqF n M x y = some b) (rx : Rep X.K H α v x) (ry : Rep X.K H α w y) (rv : RelV v (.ref p)) (rw' : RelV w (.ref q))
    (k : RcAt A s (.ref p) (.ref q) b) (k' : RcNeAt A s (.ref p) (.ref q) (!b)) : Eq3 A s (.ref p) (.ref q) b := by
  refine ⟨?_, k, k'⟩
  by_cases c : p = q
  · subst c
    cases RelV.inj rv rw'
    rw [same_rep I h n rx ry e]
    exact EqAt.same _
  · exact EqAt.of_refs c k
theorem eq3 (I : Inv X pins σ H s) (h : HR X.K H α M) : ∀ (n : Nat) (x y : D) (v w : V) (u z : Value) (b : Bool) (A : Around), A.units + n < cLine → eqF n M x y = some b → Rep X.K H α v x → Rep X.K H α w y → RelV v u → RelV w z → Eq3 A s u z b := by
  intro n
  induction n with
  | zero => intro x y v w u z b A _ e; simp only [eqF] at e; cases e
  | succ n ih =>
    intro x y v w u z b A hn e rx ry rv rw'
    have hu : A.units < cLine := by omega
    have e0 := e
    unfold eqF at e
    cases ka : kd M x with
    | none => rw [ka] at e; cases e
    | some ka' =>
      cases kb : kd M y with
      | none => rw [ka, kb] at e; cases e
      | some kb' =>
        rw [ka, kb] at e
        have va := vw I h rx rv ka
        have vb := vw I h ry rw' kb
        have deep : ∀ (x y : D) (v w : V) (u z : Value) (b : Bool), eqF n M x y = some b → Rep X.K H α v x → Rep X.K H α w y → RelV v u → RelV w z → EqAt A.in1 s u z b := fun x y v w u z b e a1 a2 a3 a4 =>
          (ih x y v w u z b A.in1 (by rw [Around.in1_units]; omega) e a1 a2 a3 a4).1
        cases va with
        | non =>
          cases vb <;> simp only [eqK, Option.some.injEq] at e <;> subst e
          · exact ⟨EqAt.same _, .none_none, .none_none⟩
          · exact ⟨.none_bool _, .none_bool _, .none_bool _⟩
          · exact ⟨.none_int _ _, .none_int _ _, .none_int _ _⟩
          · exact ⟨.none_str _ _, .none_str _ _, .none_str _ _⟩
          · rename_i g _ _; exact ⟨.none_tuple g hu, .none_tuple g hu, .none_tuple g hu⟩
          · rename_i g _ _; exact ⟨.none_list g hu, .none_list g hu, .none_list g hu⟩
        | bl c =>
          cases vb <;> simp only [eqK, Option.some.injEq] at e <;> subst e
          · exact ⟨.bool_none _, .bool_none _, .bool_none _⟩
          · exact ⟨.bool_bool _ _, .bool_bool _ _, .bool_bool _ _⟩
          · exact ⟨.bool_int _ _ _, .bool_int _ _ _, .bool_int _ _ _⟩
          · exact ⟨.bool_str _ _ _, .bool_str _ _ _, .bool_str _ _ _⟩
          · rename_i g _ _; exact ⟨.bool_tuple _ g hu, .bool_tuple _ g hu, .bool_tuple _ g hu⟩
          · rename_i g _ _; exact ⟨.bool_list _ g hu, .bool_list _ g hu, .bool_list _ g hu⟩
        | int c t =>
          cases vb <;> simp only [eqK, Option.some.injEq] at e <;> subst e
          · exact ⟨.int_none _ _, .int_none _ _, .int_none _ _⟩
          · exact ⟨.int_bool _ _ _, .int_bool _ _ _, .int_bool _ _ _⟩
          · exact ⟨.int_int _ _ _ _, .int_int _ _ _ _, .int_int _ _ _ _⟩
          · exact ⟨.int_str _ _ _ _, .int_str _ _ _ _, .int_str _ _ _ _⟩
          · rename_i g _ _; exact ⟨.int_tuple _ _ g hu, .int_tuple _ _ g hu, .int_tuple _ _ g hu⟩
          · rename_i g _ _; exact ⟨.int_list _ _ g hu, .int_list _ _ g hu, .int_list _ _ g hu⟩
        | str c t =>
          cases vb <;> simp only [eqK, Option.some.injEq] at e <;> subst e
          · exact ⟨.str_none _ _, .str_none _ _, .str_none _ _⟩
          · exact ⟨.str_bool _ _ _, .str_bool _ _ _, .str_bool _ _ _⟩
          · exact ⟨.str_int _ _ _ _, .str_int _ _ _ _, .str_int _ _ _ _⟩
          · exact ⟨.str_str _ _ _ _, .str_str _ _ _ _, .str_str _ _ _ _⟩
          · rename_i g _ _; exact ⟨.str_tuple _ _ g hu, .str_tuple _ _ g hu, .str_tuple _ _ g hu⟩
          · rename_i g _ _; exact ⟨.str_list _ _ g hu, .str_list _ _ g hu, .str_list _ _ g hu⟩
        | @tup p xs ds its g1 w1 q1 =>
          cases vb with
          | @tup p2 xs2 ds2 its2 g2 w2 q2 =>
            simp only [eqK] at e
            obtain ⟨f, hf, hb⟩ := items_eq w1 w2 q1 q2 deep e
            subst hb
            exact refs3 I h e0 rx ry rv rw' (.tuples g1 g2 hu hf) (.tuples g1 g2 hu hf)
          | @lst p2 xs2 ds2 its2 g2 w2 q2 =>
            simp only [eqK, Option.some.injEq] at e
            subst e
            exact refs3 I h e0 rx ry rv rw' (.tuple_list g1 g2 hu) (.tuple_list g1 g2 hu)
          | non => simp only [eqK, Option.some.injEq] at e; subst e; exact ⟨.tuple_none g1 hu, .tuple_none g1 hu, .tuple_none g1 hu⟩
          | bl c => simp only [eqK, Option.some.injEq] at e; subst e; exact ⟨.tuple_bool _ g1 hu, .tuple_bool _ g1 hu, .tuple_bool _ g1 hu⟩
          | int c t => simp only [eqK, Option.some.injEq] at e; subst e; exact ⟨.tuple_int _ _ g1 hu, .tuple_int _ _ g1 hu, .tuple_int _ _ g1 hu⟩
          | str c t => simp only [eqK, Option.some.injEq] at e; subst e; exact ⟨.tuple_str _ _ g1 hu, .tuple_str _ _ g1 hu, .tuple_str _ _ g1 hu⟩
        | @lst p xs ds its g1 w1 q1 =>
          cases vb with
          | @lst p2 xs2 ds2 its2 g2 w2 q2 =>
            simp only [eqK] at e
            have l1 : its.toArray.size = ds.length := by rw [List.size_toArray, ← w1.length, q1.length]
            have l2 : its2.toArray.size = ds2.length := by rw [List.size_toArray, ← w2.length, q2.length]
            by_cases c : ds.length = ds2.length
            · rw [if_pos c] at e
              have hs : its.toArray.size = its2.toArray.size := by rw [l1, l2, c]
              obtain ⟨f, hf, hb⟩ := items_eq w1 w2 q1 q2 deep e
              rw [hs, Nat.min_self, beq_self_eq_true, Bool.and_true, ← hs] at hb
              subst hb
              exact refs3 I h e0 rx ry rv rw' (.lists g1 g2 hs hu hf) (.lists g1 g2 hs hu hf)
            · rw [if_neg c] at e
              have e' : false = b := Option.some.inj e
              subst e'
              have hs : (its.toArray.size != its2.toArray.size) = true := by rw [l1, l2]; simpa using c
              exact refs3 I h e0 rx ry rv rw' (.lists_lengths g1 g2 hs hu) (.lists_lengths g1 g2 hs hu)
          | @tup p2 xs2 ds2 its2 g2 w2 q2 =>
            simp only [eqK, Option.some.injEq] at e
            subst e
            exact refs3 I h e0 rx ry rv rw' (.list_tuple g1 g2 hu) (.list_tuple g1 g2 hu)
          | non => simp only [eqK, Option.some.injEq] at e; subst e; exact ⟨.list_none g1 hu, .list_none g1 hu, .list_none g1 hu⟩
          | bl c => simp only [eqK, Option.some.injEq] at e; subst e; exact ⟨.list_bool _ g1 hu, .list_bool _ g1 hu, .list_bool _ g1 hu⟩
          | int c t => simp only [eqK, Option.some.injEq] at e; subst e; exact ⟨.list_int _ _ g1 hu, .list_int _ _ g1 hu, .list_int _ _ g1 hu⟩
          | str c t => simp only [eqK, Option.some.injEq] at e; subst e; exact ⟨.list_str _ _ g1 hu, .list_str _ _ g1 hu, .list_str _ _ g1 hu⟩
end
section
variable {X : Cx} {ξ : XK}
noncomputable def rEqD (X : Cx) (neg : Bool) : R2 := fun v w H Q => ∃ α M x y b, HR X.K H α M ∧ Rep X.K H α v x ∧ Rep X.K H α w y ∧ eqF 12 M x y = some b ∧ Q (.bl (neg ^^ b)) H
theorem op_eqD (hu : X.A.units + 64 < cLine) : OpR X (compareOp .Eq) (rEqD X false) := by
  intro pins s σ H v w u z Q I rv rw' ⟨α, M, x, y, b, h, rx, ry, e, q⟩
  refine (eq3 I h 12 x y v w u z b X.A (by omega) e rx ry rv rw').2.1 _ _ _ _ ⟨.bl b, H, I, rfl, ?_⟩
  simpa using q
theorem op_neD (hu : X.A.units + 64 < cLine) : OpR X (compareOp .NotEq) (rEqD X true) := by
  intro pins s σ H v w u z Q I rv rw' ⟨α, M, x, y, b, h, rx, ry, e, q⟩
  refine (eq3 I h 12 x y v w u z b X.A (by omega) e rx ry rv rw').2.2 _ _ _ _ ⟨.bl (!b), H, I, rfl, ?_⟩
  simpa using q
noncomputable def dEq : Bo := fun x y M => match eqF 12 M x y with | some b => .ok (.bl b) M | none => .bad
noncomputable def dNe : Bo := fun x y M => match eqF 12 M x y with | some b => .ok (.bl (!b)) M | none => .bad
theorem bo_eq : BO X ξ (rEqD X false) dEq := by
  intro H α M v w x y Q h rv rw' q
  unfold dEq at q
  cases e : eqF 12 M x y with
  | none => rw [e] at q; exact q.elim
  | some b => rw [e] at q; exact ⟨α, M, x, y, b, h, rv, rw', e, by simpa using q _ H α Ext.refl h (.bl b)⟩
theorem bo_ne : BO X ξ (rEqD X true) dNe := by
  intro H α M v w x y Q h rv rw' q
  unfold dNe at q
  cases e : eqF 12 M x y with
  | none => rw [e] at q; exact q.elim
  | some b => rw [e] at q; exact ⟨α, M, x, y, b, h, rv, rw', e, by simpa using q _ H α Ext.refl h (.bl (!b))⟩
noncomputable def isP : D → D → Option Bool
  | .non, .non => some true
  | .bl a, .bl b => some (a == b)
  | _, .non => some false
  | _, .bl _ => some false
  | _, _ => none
noncomputable def dIs : Bo := fun x y M => match isP x y with | some b => .ok (.bl b) M | none => .bad
noncomputable def dIsNot : Bo := fun x y M => match isP x y with | some b => .ok (.bl (!b)) M | none => .bad
noncomputable def flatD : D → Bool
  | .non => true
  | .bl _ => true
  | .int _ => true
  | .str _ => true
  | _ => false
noncomputable def eqFl : D → D → Bool
  | .non, .non => true
  | .bl a, .bl b => a == b
  | .bl a, .int b => (if a then 1 else 0) == b
  | .int a, .bl b => a == (if b then 1 else 0)
  | .int a, .int b => a == b
  | .str a, .str b => a == b
  | _, _ => false
noncomputable def seqD (M : Sto) : D → Option (List D)
  | .tup xs => some xs
  | .rol xs => some xs
  | .ref n => match M[n]? with | some (.lst xs) => some xs | _ => none
  | _ => none
theorem seqD_ok {K : PySem.W.Frag} {H : Hp} {α : List Addr} {M : Sto} (h : HR K H α M) {v : V} {x : D} {ds : List D} (r : Rep K H α v x) (e : seqD M x = some ds) : ∃ p xs, v = .ref p ∧ (SqL K H p xs ∨ SqT K H p xs) ∧ Reps K H α xs ds := by
  cases r with
  | @tup p xs ds hp rp => cases e; exact ⟨p, xs, rfl, .inr (SqT.of hp), rp⟩
  | @rol p xs ds hp rp => cases e; exact ⟨p, xs, rfl, .inl hp.sq, rp⟩
  | @ref p n hp =>
    cases e1 : M[n]? with
    | none => simp only [seqD, e1] at e; cases e
    | some o =>
      cases o with
      | lst es =>
        simp only [seqD, e1] at e
        cases e
        obtain ⟨xs, g1, r1⟩ := h.at hp e1
        exact ⟨p, xs, rfl, .inl (SqL.of g1), r1⟩
  | _ => cases e
noncomputable def inD (x y : D) (M : Sto) : Option Bool := match seqD M y with | some ds => if flatD x = true ∧ ds.all flatD = true then some (ds.any fun y => eqFl y x) else none | none => none
variable {e : Expr} {es : List Expr} {fs : Av} {fa : Ev} {p pos : Pos} {x : Str} {id T : String} {r : List V → Hp → VK → Prop} {f : List D → Sto → Out D}
noncomputable def eCall (f : List D → Sto → Out D) (fs : Av) : Ev := fun ρ M => (fs ρ M).bind f
noncomputable def CO (X : Cx) (ξ : XK) (r : List V → Hp → VK → Prop) (f : List D → Sto → Out D) : Prop := ∀ H α M vs ds Q, HR X.K H α M → Reps X.K H α vs ds → OP X.K H α ξ Q (f ds M) → r vs H Q
theorem de_callB (hc : CallR X (.builtin id) r) (hf : CO X ξ r f) (hm : X.mg x = none) (hv : bootBuiltins x = some (.builtin id)) (ha : DA X ξ (e :: es) fs) (hg : Gl X x := by rfl) (hn : x ≠ "__name__" := by decide) (hdb : (x == ("__debug__" : Str)) = false := by decide)
    (he : starEach (e :: es) X.env = (false, eval e X.env) :: starEach es X.env := by rfl) (hpl : (backTo pos (starEach es X.env)).any (·.1) = false := by rfl) : DE X ξ (.Call (.Name x p) (e :: es) [] pos) (eCall f fs) := by
  obtain ⟨ta, ha, qa⟩ := ha
  refine ⟨_, pe_callB hc hg hm hv ha hn hdb he hpl, fun σ ρ H α M Q s h q => ?_⟩
  exact qa σ ρ H α M _ s h (OG.seq q fun ds M1 vs H1 α1 e1 h1 r1 q1 => hf H1 α1 M1 vs ds Q h1 r1 q1)
theorem de_callTy (hc : CallR X (.type T) r) (hf : CO X ξ r f) (hm : X.mg x = none) (hv : bootBuiltins x = some (.type T)) (ha : DA X ξ (e :: es) fs) (hg : Gl X x := by rfl) (hn : x ≠ "__name__" := by decide) (hdb : (x == ("__debug__" : Str)) = false := by decide)
    (he : starEach (e :: es) X.env = (false, eval e X.env) :: starEach es X.env := by rfl) (hpl : (backTo pos (starEach es X.env)).any (·.1) = false := by rfl) : DE X ξ (.Call (.Name x p) (e :: es) [] pos) (eCall f fs) := by
  obtain ⟨ta, ha, qa⟩ := ha
  refine ⟨_, pe_callTy hc hg hm hv ha hn hdb he hpl, fun σ ρ H α M Q s h q => ?_⟩
  exact qa σ ρ H α M _ s h (OG.seq q fun ds M1 vs H1 α1 e1 h1 r1 q1 => hf H1 α1 M1 vs ds Q h1 r1 q1)
noncomputable def bLen : List D → Sto → Out D := fun ds M => match ds with
  | [x] => match seqD M x with | some xs => .ok (.int xs.length) M | none => .bad
  | _ => .bad
theorem co_len : CO X ξ (fun xs H Q => ∃ p ys, xs = [.ref p] ∧ (SqL X.K H p ys ∨ SqT X.K H p ys) ∧ Q (.int ys.length) H) bLen := by
  intro H α M vs ds Q h rs q
  unfold bLen at q
  match rs with
  | .nil => exact q.elim
  | .cons (.non) (.cons _ _) => exact q.elim
  | .cons _ (.cons _ _) => exact q.elim
  | .cons (d := x) r .nil =>
    cases e : seqD M x with
    | none => simp only [e] at q; exact q.elim
    | some ys =>
      simp only [e] at q
      obtain ⟨p, xs, rfl, h2, h3⟩ := seqD_ok h r e
      exact ⟨p, xs, rfl, h2, by rw [h3.length]; exact q _ H α Ext.refl h (.int _)⟩
noncomputable def bAbs : List D → Sto → Out D := fun ds M => match ds with | [.int i] => .ok (.int (if i < 0 then -i else i)) M | _ => .bad
theorem co_abs : CO X ξ (fun xs H Q => ∃ i, xs = [.int i] ∧ Q (.int (if i < 0 then -i else i)) H) bAbs := by
  intro H α M vs ds Q h rs q
  match rs with
  | .nil => exact q.elim
  | .cons r (.cons _ _) => cases r <;> exact q.elim
  | .cons r .nil =>
    cases r with
    | int i => exact ⟨i, rfl, q _ H α Ext.refl h (.int _)⟩
    | _ => exact q.elim
noncomputable def bMax : List D → Sto → Out D := fun ds M => match ds with | [.int i, .int j] => .ok (.int (if j > i then j else i)) M | _ => .bad
noncomputable def bMin : List D → Sto → Out D := fun ds M => match ds with | [.int i, .int j] => .ok (.int (if j < i then j else i)) M | _ => .bad
theorem co_two {g : Int → Int → Int} {f : List D → Sto → Out D} (hf : ∀ ds M, f ds M = match ds with | [.int i, .int j] => .ok (.int (g i j)) M | _ => .bad) : CO X ξ (fun xs H Q => ∃ i j, xs = [.int i, .int j] ∧ Q (.int (g i j)) H) f := by
  intro H α M vs ds Q h rs q
  rw [hf] at q
  match rs with
  | .nil => exact q.elim
  | .cons r .nil => cases r <;> exact q.elim
  | .cons r (.cons r' (.cons _ _)) => cases r <;> cases r' <;> exact q.elim
  | .cons r (.cons r' .nil) =>
    cases r with
    | int i =>
      cases r' with
      | int j => exact ⟨i, j, rfl, q _ H α Ext.refl h (.int _)⟩
      | _ => exact q.elim
    | _ => cases r' <;> exact q.elim
theorem co_max : CO X ξ (fun xs H Q => ∃ i j, xs = [.int i, .int j] ∧ Q (.int (if j > i then j else i)) H) bMax := co_two (g := fun i j => if j > i then j else i) fun ds M => rfl
theorem co_min : CO X ξ (fun xs H Q => ∃ i j, xs = [.int i, .int j] ∧ Q (.int (if j < i then j else i)) H) bMin := co_two (g := fun i j => if j < i then j else i) fun ds M => rfl
noncomputable def bInt : List D → Sto → Out D := fun ds M => match ds with | [.int i] => .ok (.int i) M | [.bl k] => .ok (.int (if k then 1 else 0)) M | _ => .bad
theorem co_int : CO X ξ (fun xs H Q => (∃ i, xs = [.int i] ∧ Q (.int i) H) ∨ ∃ k, xs = [.bl k] ∧ Q (.int (if k then 1 else 0)) H) bInt := by
  intro H α M vs ds Q h rs q
  match rs with
  | .nil => exact q.elim
  | .cons r (.cons _ _) => cases r <;> exact q.elim
  | .cons r .nil =>
    cases r with
    | int i => exact .inl ⟨i, rfl, q _ H α Ext.refl h (.int _)⟩
    | bl k => exact .inr ⟨k, rfl, q _ H α Ext.refl h (.int _)⟩
    | _ => exact q.elim
noncomputable def bList : List D → Sto → Out D := fun ds M => match ds with
  | [x] => match seqD M x with | some xs => .ok (.ref M.length) (M ++ [.lst xs]) | none => .bad
  | _ => .bad
theorem co_list : CO X ξ (fun xs H Q => ∃ p ys, xs = [.ref p] ∧ (SqL X.K H p ys ∨ SqT X.K H p ys) ∧ ∀ l, H l = none → Q (.ref l) (upd H l (.lst ys))) bList := by
  intro H α M vs ds Q h rs q
  unfold bList at q
  match rs with
  | .nil => exact q.elim
  | .cons _ (.cons _ _) => exact q.elim
  | .cons (d := x) r .nil =>
    cases e : seqD M x with
    | none => simp only [e] at q; exact q.elim
    | some ys =>
      simp only [e] at q
      obtain ⟨p, xs, rfl, h2, h3⟩ := seqD_ok h r e
      exact ⟨p, xs, rfl, h2, fun l hl => q _ _ (α ++ [l]) (Ext.new hl) (h.new hl h3) (.ref ⟨h.last l, Kn.lst upd_same⟩)⟩
noncomputable def tyName (M : Sto) (x : D) : Option String := match kd M x with
  | some .non => some "NoneType"
  | some (.bl _) => some "bool"
  | some (.int _) => some "int"
  | some (.str _) => some "str"
  | some (.tup _) => some "tuple"
  | some (.lst _) => some "list"
  | none => none
noncomputable def isiT (t T : String) : Bool := t == T || (t == "bool" && T == "int")
noncomputable def eIsi (T : String) (f : Ev) : Ev := fun ρ M => (f ρ M).bind fun x M1 => match tyName M1 x with | some t => .ok (.bl (isiT t T)) M1 | none => .bad
noncomputable def rIsi (X : Cx) (T : String) : List V → Hp → VK → Prop := fun vs H Q => ∃ v α M x t, vs = [v, .ty T] ∧ HR X.K H α M ∧ Rep X.K H α v x ∧ tyName M x = some t ∧ Q (.bl (isiT t T)) H
structure Kit (K : PySem.W.Frag) (T : String) : Prop where
  non : PySem.W.kitOne K (.type "NoneType") (.type T) = some (isiT "NoneType" T)
  bl : PySem.W.kitOne K (.type "bool") (.type T) = some (isiT "bool" T)
  int : PySem.W.kitOne K (.type "int") (.type T) = some (isiT "int" T)
  str : PySem.W.kitOne K (.type "str") (.type T) = some (isiT "str" T)
  tup : PySem.W.kitOne K (.type "tuple") (.type T) = some (isiT "tuple" T)
  lst : PySem.W.kitOne K (.type "list") (.type T) = some (isiT "list" T)
theorem kit_list {K : PySem.W.Frag} : Kit K "list" := ⟨rfl, rfl, rfl, rfl, rfl, rfl⟩
theorem call_isi (kt : Kit X.K T) : CallR X (.builtin "isinstance") (rIsi X T) := by
  intro pins s σ H vs us Q I rs ⟨v, α, M, x, t, e1, h, rx, et, q⟩
  subst e1
  obtain ⟨u, w, rfl, ru, rw'⟩ := vals2 rs
  cases rw'
  unfold tyName at et
  cases ek : kd M x with
  | none => rw [ek] at et; cases et
  | some k =>
    rw [ek] at et
    have va := vw I h rx ru ek
    have fin : ∀ tk, EP X pins σ Q (.bool (isiT t T)) { s with toks := tk } := fun tk => ⟨.bl _, H, I.tok tk, rfl, q⟩
    cases va with
    | non => cases et; exact PySem.W.kia_one PySem.W.kitx_none I.kIn True.intro kt.non (fun z => nomatch z) fin
    | bl b => cases et; exact PySem.W.kia_one PySem.W.kitx_bool I.kIn True.intro kt.bl (fun z => nomatch z) fin
    | int i t => cases et; exact PySem.W.kia_one PySem.W.kitx_int I.kIn True.intro kt.int (fun z => nomatch z) fin
    | str i t => cases et; exact PySem.W.kia_one PySem.W.kitx_str I.kIn True.intro kt.str (fun z => nomatch z) fin
    | tup g _ _ => cases et; obtain ⟨o, h1, h2, _⟩ := g; exact PySem.W.kia_one PySem.W.kitx_tuple I.kIn ⟨o, h1, h2⟩ kt.tup (fun z => nomatch z) fin
    | lst g _ _ => cases et; obtain ⟨o, h1, h2, _⟩ := g; exact PySem.W.kia_one PySem.W.kitx_list I.kIn ⟨o, h1, h2⟩ kt.lst (fun z => nomatch z) fin
theorem de_isi {y : Str} {p2 : Pos} (kt : Kit X.K T) (hm : X.mg "isinstance" = none) (hmT : X.mg y = none) (hvT : bootBuiltins y = some (.type T)) (ha : DE X ξ e fa) (hg : Gl X "isinstance" := by rfl) (hgT : Gl X y := by rfl) (hn : y ≠ "__name__" := by decide) (hdb : (y == ("__debug__" : Str)) = false := by decide)
    (he : starEach [e, .Name y p2] X.env = (false, eval e X.env) :: starEach [.Name y p2] X.env := by rfl) (he2 : starEach [.Name y p2] X.env = (false, eval (.Name y p2) X.env) :: starEach [] X.env := by rfl) (hpl : (backTo pos (starEach [.Name y p2] X.env)).any (·.1) = false := by rfl) : DE X ξ (.Call (.Name "isinstance" p) [e, .Name y p2] [] pos) (eIsi T fa) := by
  obtain ⟨ta, ha, qa⟩ := ha
  refine ⟨_, pe_callB (call_isi kt) hg hm (by with_unfolding_all rfl) (pa_cons ha (pa_cons (pe_bltn hgT hmT hvT (v := .ty T) rfl hn hdb) pa_nil he2) he) (by decide) (by decide) he hpl, fun σ ρ H α M Q s h q => ?_⟩
  refine qa σ ρ H α M _ s h (OG.seq q fun x M1 v H1 α1 e1 h1 r1 q1 => ?_)
  cases et : tyName M1 x with
  | none => simp only [et] at q1; exact q1.elim
  | some t =>
    simp only [et] at q1
    exact ⟨v, α1, M1, x, t, rfl, h1, r1, et, q1 _ H1 α1 Ext.refl h1 (.bl _)⟩
end
end DL


end
section
set_option Elab.async false
set_option linter.all false
set_option maxRecDepth 100000
set_option maxHeartbeats 4000000
namespace DL
open PySem PySem.Spec PyProof.Rows L2
noncomputable def CXE (P : Program) (w : World) : CXT := fun outer H s E e s' => ∃ (ea C : Addr) (dct : Option Addr) (B : Heap) (H' : Hp), e = .ref ea ∧ s'.os = s.os ∧ AllBare s'.gens ∧ Un (frs outer) [] H H' s.heap s'.heap ∧ HOk P w H' s'.heap ∧
  DQ.Fly B outer ea (.ref C) dct .none s'.heap ∧ (∀ b u, H' b = some u → ∃ o, B.get? b = some o) ∧ (∀ b o, s.heap.get? b = some o → b ∉ frs outer → ∃ o', B.get? b = some o') ∧ E (.ref C) dct H'
structure Thr (X : Cx) (ξ : XK) : Prop where
  own : PassesOwn (model X.prog X.w) X.A X.env X.xe
  ps : Passes (CXE X.prog X.w) X ξ
  mak : ∀ (pins : List (Addr × Obj)) (σ : L2.St) (H : Hp) (s : Shared) (h' : Heap) (e : Addr) (oe : Obj) (vs : Array Value) (C : Addr), Inv X pins σ H s → (∀ b o, s.heap.get? b = some o → h'.get? b = some o) → s.heap.get? e = none → h'.get? e = some oe → oe.cls = .ref C → oe.dict = none →
    oe.data = .fields vs → vs[1]? = some .none → vs[2]? = some .none → ξ (.ref C) none H → X.xe (.ref e) { s with heap := h' }
theorem funs_base {h b1 b2 : Heap} : ∀ {l : List Env}, h.FunFrames b1 l → (∀ b ∈ frs l, b2.get? b = none) → h.FunFrames b2 l
  | [], _, _ => trivial
  | env :: r, ⟨h1, ⟨L, o, h2, h3, h4, h5⟩, h6⟩, k => ⟨h1, ⟨L, o, h2, k L (by unfold frs; rw [List.filterMap_cons, h2]; exact List.mem_cons_self), h4, h5⟩, funs_base h6 fun b hb => k b (by
      unfold frs
      rw [List.filterMap_cons, h2]
      exact List.mem_cons_of_mem _ hb)⟩
section
variable {X : Cx} {pins : List (Addr × Obj)} {σ : L2.St} {H H' : Hp} {s : Shared} {h1 h2 B : Heap}
theorem settle (hx : X.ex = []) (I : Inv X pins σ H s) (u : Un (frs X.stack) [] H H' s.heap h1) (hok : HOk X.prog X.w H' h1) (t1 : ∀ b q, H' b = some q → ∃ o, B.get? b = some o) (t2 : ∀ b o, s.heap.get? b = some o → b ∉ frs X.stack → ∃ o', B.get? b = some o')
    (st1 : B.StaysIn h1) (st2 : B.StaysIn h2) (up : h1.UpToSlots h2) : Un X.fs [] X.H₀ H' X.s₀.heap h2 ∧ HOk X.prog X.w H' h2 ∧ ∀ b o, X.s₀.heap.get? b = some o → b ∉ X.fs → ∃ o', B.get? b = some o' := by
  have kB : ∀ b ob o, B.get? b = some ob → h1.get? b = some o → h2.get? b = some o := fun b ob o e x => by
    have z := st1 b ob e
    rw [x] at z
    cases z
    exact st2 b _ e
  have nx : ∀ b, b ∉ X.ex := fun b => by rw [hx]; simp
  have nL : ∀ b o, X.s₀.heap.get? b = some o → b ∉ X.fs → b ∉ frs X.stack := fun b o e n z => by
    rcases List.mem_cons.mp (I.stkSub b z) with q | q
    · exact absurd (Heap.lt_size e) (by rw [q]; exact Nat.not_lt_of_le I.ok.above)
    · exact n q
  have th : ∀ b o, X.s₀.heap.get? b = some o → b ∉ X.fs → ∃ o', B.get? b = some o' := fun b o e n => by
    obtain ⟨o', e'⟩ := I.base.there b o e (nx b)
    exact t2 b o' e' (nL b o e n)
  have sl : ∀ b o, X.s₀.heap.get? b = some o → X.H₀ b = none → b ∈ X.fs → ∃ sl, h2.get? b = some { o with slots := sl } := fun b o e n hb => by
    obtain ⟨s1, e1⟩ := I.base.slot b o e n hb (nx b)
    obtain ⟨s2, e2⟩ := u.any e1 (I.base.free b o e n (nx b)) (by simp)
    obtain ⟨_, o', g1, g2⟩ := I.ok.funs.mem hb
    rw [e] at g1
    cases g1
    obtain ⟨s3, e3⟩ := up b _ e2 g2
    exact ⟨s3, e3⟩
  refine ⟨⟨fun b o e n hb _ => ?_, fun b o e n hb _ => sl b o e n hb, fun b o e n _ => ?_, fun b o e _ => ?_, fun b xs e => u.tups b xs (I.base.tups b xs e), fun b o xs e => u.frzs b o xs (I.base.frzs b o xs e), fun b ps e => ?_⟩, fun a o e => ?_, th⟩
  · obtain ⟨ob, g⟩ := th b o e hb
    exact kB b ob o g (u.keep b o (I.base.keep b o e n hb (nx b)) (I.base.free b o e n (nx b)) (nL b o e hb) (by simp))
  · obtain ⟨o', e'⟩ := I.base.there b o e (nx b)
    exact u.free b o' e' (I.base.free b o e n (nx b)) (by simp)
  · by_cases hb : b ∈ X.fs
    · obtain ⟨s1, e1⟩ := sl b o e (I.ok.frf b hb) hb
      exact ⟨_, e1⟩
    · obtain ⟨ob, g⟩ := th b o e hb
      exact ⟨ob, st2 b ob g⟩
  · obtain ⟨m1, e1⟩ := I.base.tbls b ps e
    obtain ⟨m2, e2⟩ := u.tbls b _ e1
    exact ⟨m1 ++ m2, by rw [e2, Array.append_assoc]⟩
  · refine (hok a o e).stay (fun b q hb x => ?_) (fun _ q => q) fun _ _ q => q
    have tr : ∃ q, H' b = some q := by
      rcases hb with z | z
      · exact ⟨o, z ▸ e⟩
      · exact ⟨_, z⟩
    obtain ⟨q', z⟩ := tr
    obtain ⟨ob, g⟩ := t1 b q' z
    exact kB b ob q g x
end
theorem ok_there {P : Program} {w : World} {H : Hp} {h : Heap} {a : Addr} {o : HO} (x : ObjOk P w H h a o) : ∃ ob, h.get? a = some ob := by
  cases o with
  | lst xs => obtain ⟨_, _, _, _, e⟩ := x; exact ⟨_, e⟩
  | tup xs => obtain ⟨_, _, _, ob, e, _⟩ := x; exact ⟨_, e⟩
  | dK kvs => obtain ⟨_, _, _, _, o, _, _, e, _⟩ := x; exact ⟨_, e⟩
  | dT kvs => obtain ⟨_, _, _, _, o, _, _, e, _⟩ := x; exact ⟨_, e⟩
  | set S n => obtain ⟨o, _, _, _, e, _⟩ := x; exact ⟨_, e⟩
  | ins C dx fs => obtain ⟨_, _, _, e, _⟩ := x; exact ⟨_, e⟩
  | own y => exact x
  | xd fs => obtain ⟨_, ⟨_, _, _, e, _⟩, _⟩ := x; exact ⟨_, e⟩
  | rng lo hi => obtain ⟨_, _, _, e⟩ := x; exact ⟨_, e⟩
  | frz ob u => obtain ⟨e, _⟩ := x; exact ⟨_, e⟩
  | tbl ps => exact ⟨_, (show h.get? a = some _ from x)⟩
  | met f y => exact ⟨_, (show h.get? a = some _ from x)⟩
  | ext φ => obtain ⟨_, e, _⟩ := x; exact e
noncomputable def noFr (h : Heap) (l : List Addr) : Heap := hidT h fun b => if b ∈ l then some (.own 0) else none
theorem noFr_get {h : Heap} {l : List Addr} {b : Addr} {o : Obj} (e : h.get? b = some o) (n : b ∉ l) : (noFr h l).get? b = some o := hidT_get e (if_neg n)
theorem of_noFr {h : Heap} {l : List Addr} {b : Addr} {o : Obj} (e : (noFr h l).get? b = some o) : h.get? b = some o ∧ b ∉ l := by
  obtain ⟨a, n⟩ := of_hidT e
  refine ⟨a, fun z => ?_⟩
  simp only [if_pos z] at n
  cases n
theorem noFr_none {h : Heap} {l : List Addr} {b : Addr} (n : b ∈ l) : (noFr h l).get? b = none := by
  cases q : (noFr h l).get? b with
  | none => rfl
  | some o => exact absurd n (of_noFr q).2
theorem thr_fn {P : Program} {w : World} {K : PySem.W.Frag} {mg : Str → Option Value} {base : Heap} {N : List Str} {qual : Str} {scope : Scope} {f : Addr} {cd : Value} {A : Around} {outer : List Env} {s : Shared} {H : Hp} {E : XK} :
    Thr (cxOf (CXE P w) P w K mg base N qual scope f cd A outer s H E) E := by
  refine ⟨PassesOwn.leaving, fun pins σ H1 s1 e s2 I h => ?_, fun pins σ H1 s1 h' e oe vs C I k hn he hc hdi hd v1 v2 q => ?_⟩
  · obtain ⟨ea, C, dct, B, H2, rfl, os, bare, un, hok, fl, t1, t2, q⟩ := h
    refine DQ.fly_leave (outer := outer) I.ok.frames rfl fl fun h3 f3 up => ?_
    obtain ⟨a1, a2, a3⟩ := settle rfl I un hok t1 t2 fl.stay f3.stay up
    exact ⟨ea, C, dct, B, H2, rfl, os.trans I.os, bare, a1, a2, f3, t1, a3, q⟩
  · have st := I.stack
    have t2 : ∀ b o, s1.heap.get? b = some o → b ∉ frs (cxOf (CXE P w) P w K mg base N qual scope f cd A outer s H E).stack → ∃ o', (noFr s1.heap (frs (cxOf (CXE P w) P w K mg base N qual scope f cd A outer s H E).stack)).get? b = some o' := fun b o x n => ⟨o, noFr_get x n⟩
    have hs : (noFr s1.heap (frs (cxOf (CXE P w) P w K mg base N qual scope f cd A outer s H E).stack)).StaysIn h' := fun b o x => k b o (of_noFr x).1
    have hl : h'.FunFrames (noFr s1.heap (frs (cxOf (CXE P w) P w K mg base N qual scope f cd A outer s H E).stack)) (cxOf (CXE P w) P w K mg base N qual scope f cd A outer s H E).stack :=
      (funs_base st fun b hb => noFr_none hb).of_keeps fun b o x _ => ⟨o, k b o x, rfl⟩
    have hb : (noFr s1.heap (frs (cxOf (CXE P w) P w K mg base N qual scope f cd A outer s H E).stack)).get? e = none := by
      cases z : (noFr s1.heap (frs (cxOf (CXE P w) P w K mg base N qual scope f cd A outer s H E).stack)).get? e with
      | none => rfl
      | some o =>
        have := (of_noFr z).1
        rw [hn] at this
        cases this
    have t1 : ∀ b u, H1 b = some u → ∃ o, (noFr s1.heap (frs (cxOf (CXE P w) P w K mg base N qual scope f cd A outer s H E).stack)).get? b = some o := fun b u x => by
      obtain ⟨o, g⟩ := ok_there (I.hok b u x)
      exact ⟨o, noFr_get g fun z => by rw [I.stkFree b z] at x; cases x⟩
    refine DQ.fly_first (s := { s1 with heap := h' }) (outer := outer) I.ok.frames rfl hl he hs hb hd v1 v2 fun h3 f3 up => ?_
    obtain ⟨a1, a2, a3⟩ := settle rfl I (Un.kept k) (I.hok.kept k) t1 t2 hs f3.stay up
    rw [hc, hdi] at f3
    exact ⟨e, C, none, _, H1, rfl, I.os, I.bare, a1, a2, f3, t1, a3, q⟩
end DL


end
section
set_option Elab.async false
set_option linter.all false
set_option maxRecDepth 100000
set_option maxHeartbeats 4000000
namespace DL
open PySem PySem.Spec PyProof.Rows L2
noncomputable def FP (K : PySem.W.Frag) (H : Hp) (α : List Addr) (ξ : XK) (Dn : Ends) : Fl → Prop
  | .nx ρ' M' => ∀ σ' H' α', Ext K H H' α α' → HR K H' α' M' → SR K H' α' σ' ρ' → Dn.nx σ' H'
  | .brk ρ' M' => ∀ σ' H' α', Ext K H H' α α' → HR K H' α' M' → SR K H' α' σ' ρ' → Dn.bk σ' H'
  | .cnt ρ' M' => ∀ σ' H' α', Ext K H H' α α' → HR K H' α' M' → SR K H' α' σ' ρ' → Dn.ct σ' H'
  | .ret d M' => ∀ v H' α', Ext K H H' α α' → HR K H' α' M' → Rep K H' α' v d → Dn.rt v H'
  | .exc c M' => ∀ C H' α', PySem.W.nsIn K mainGlobals c = some (some (.ref C)) → Ext K H H' α α' → HR K H' α' M' → ξ (.ref C) none H'
  | .bad => False
theorem FP.ext {K : PySem.W.Frag} {H H1 : Hp} {α α1 : List Addr} {ξ : XK} {Dn : Ends} {o : Fl} (h : FP K H α ξ Dn o) (e : Ext K H H1 α α1) : FP K H1 α1 ξ Dn o := by
  cases o with
  | nx ρ M => exact fun σ' H' α' e' => h σ' H' α' (e.trans e')
  | brk ρ M => exact fun σ' H' α' e' => h σ' H' α' (e.trans e')
  | cnt ρ M => exact fun σ' H' α' e' => h σ' H' α' (e.trans e')
  | ret d M => exact fun v H' α' e' => h v H' α' (e.trans e')
  | exc c M => exact fun C H' α' n e' => h C H' α' n (e.trans e')
  | bad => exact h
noncomputable def DS (X : Cx) (ξ : XK) (st : Stmt) (g : Sv) : Prop := ∃ t : TS, PS X st t ∧ ∀ σ ρ H α M Dn, SR X.K H α σ ρ → HR X.K H α M → FP X.K H α ξ Dn (g ρ M) → t Dn σ H
noncomputable def DSs (X : Cx) (ξ : XK) (st : List Stmt) (g : Sv) : Prop := ∃ t : TS, PSs X st t ∧ ∀ σ ρ H α M Dn, SR X.K H α σ ρ → HR X.K H α M → FP X.K H α ξ Dn (g ρ M) → t Dn σ H
noncomputable def bindF {β : Type} (o : Out β) (k : β → Sto → Fl) : Fl := match o with
  | .ok a M => k a M
  | .exc c M => .exc c M
  | .bad => .bad
theorem FP.seq {β γ : Type} {K : PySem.W.Frag} {R : Hp → List Addr → γ → β → Prop} {H : Hp} {α : List Addr} {ξ : XK} {Dn : Ends} {Q1 : γ → Hp → Prop} {o : Out β} {f : β → Sto → Fl}
    (h : FP K H α ξ Dn (bindF o f)) (k : ∀ d M' v H' α', Ext K H H' α α' → HR K H' α' M' → R H' α' v d → FP K H' α' ξ Dn (f d M') → Q1 v H') : OG K R H α ξ Q1 o := by
  cases o with
  | ok d M' => exact fun v H' α' e hr r => k d M' v H' α' e hr r (FP.ext (o := f d M') h e)
  | exc c M' => exact h
  | bad => exact h
noncomputable def sSeq (g h : Sv) : Sv := fun ρ M => match g ρ M with
  | .nx ρ1 M1 => h ρ1 M1
  | o => o
noncomputable def sNil : Sv := fun ρ M => .nx ρ M
noncomputable def sRet (f : Ev) : Sv := fun ρ M => bindF (f ρ M) fun d M1 => .ret d M1
noncomputable def sRetN : Sv := fun _ M => .ret .non M
noncomputable def sDrop (f : Ev) : Sv := fun ρ M => bindF (f ρ M) fun _ M1 => .nx ρ M1
noncomputable def sIf (c : Tv) (g h : Sv) : Sv := fun ρ M => bindF (c ρ M) fun k M1 => if k = true then g ρ M1 else h ρ M1
noncomputable def sBrk : Sv := fun ρ M => .brk ρ M
noncomputable def sCnt : Sv := fun ρ M => .cnt ρ M
noncomputable abbrev Tg := D → Ro → Option Ro
noncomputable abbrev Tgs := List D → Ro → Option Ro
noncomputable def gNm (i : Nat) : Tg := fun d ρ => some (ρ.set i (some d))
noncomputable def gNl : Tgs := fun ds ρ => match ds with | [] => some ρ | _ => none
noncomputable def gCs (g : Tg) (gs : Tgs) : Tgs := fun ds ρ => match ds with | d :: r => (match g d ρ with | some ρ1 => gs r ρ1 | none => none) | [] => none
noncomputable def gTp (gs : Tgs) : Tg := fun d ρ => match d with | .tup ds => gs ds ρ | _ => none
noncomputable def sAsg (g : Tg) (f : Ev) : Sv := fun ρ M => bindF (f ρ M) fun d M1 => match g d ρ with | some ρ1 => .nx ρ1 M1 | none => .bad
noncomputable def sPar (i j : Nat) (fs : Av) : Sv := fun ρ M => bindF (fs ρ M) fun ds M1 => match ds with | [v, w] => .nx ((ρ.set i (some v)).set j (some w)) M1 | _ => .bad
noncomputable def sPut (fo fi fe : Ev) : Sv := fun ρ M => bindF (fe ρ M) fun d M1 => bindF (fo ρ M1) fun o M2 => bindF (fi ρ M2) fun i M3 => match o, i with
  | .ref n, .int k => (match M3[n]? with
    | some (.lst xs) => (match ixN xs.length k with | some j => .nx ρ (M3.set n (.lst (xs.set j d))) | none => .bad)
    | _ => .bad)
  | _, _ => .bad
section
variable {X : Cx} {ξ : XK} {st : Stmt} {sts : List Stmt} {g h : Sv} {e : Expr} {f : Ev} {pos : Pos} {c : Expr} {fc : Tv}
theorem dss_nil : DSs X ξ [] sNil := ⟨_, pss_nil, fun σ ρ H α M Dn s h q => q σ H α Ext.refl h s⟩
theorem dss_cons (h1 : DS X ξ st g) (h2 : DSs X ξ sts h) : DSs X ξ (st :: sts) (sSeq g h) := by
  obtain ⟨t1, p1, q1⟩ := h1
  obtain ⟨t2, p2, q2⟩ := h2
  refine ⟨_, pss_cons p1 p2, fun σ ρ H α M Dn s hh q => q1 σ ρ H α M { Dn with nx := t2 Dn } s hh ?_⟩
  unfold sSeq at q
  cases e : g ρ M with
  | nx ρ1 M1 => rw [e] at q; exact fun σ' H' α' ex hr sr => q2 σ' ρ1 H' α' M1 Dn sr hr (FP.ext q ex)
  | brk ρ1 M1 => rw [e] at q; exact q
  | cnt ρ1 M1 => rw [e] at q; exact q
  | ret d M1 => rw [e] at q; exact q
  | exc c M1 => rw [e] at q; exact q
  | bad => rw [e] at q; exact q
theorem dss_one (h1 : DS X ξ st g) : DSs X ξ [st] g := let ⟨_, p, q⟩ := h1; ⟨_, pss_one p, q⟩
theorem ds_ret (he : DE X ξ e f) : DS X ξ (.Return (some e) pos) (sRet f) := by
  obtain ⟨t, p, q⟩ := he
  exact ⟨_, ps_ret p, fun σ ρ H α M Dn s hh w => q σ ρ H α M _ s hh (FP.seq w fun d M1 v H1 α1 e1 h1 r1 w1 => w1 v H1 α1 Ext.refl h1 r1)⟩
theorem ds_expr (he : DE X ξ e f) (hs : swapsWith e none pos.line X.env = pure false := by rfl) : DS X ξ (.Expr e pos) (sDrop f) := by
  obtain ⟨t, p, q⟩ := he
  exact ⟨_, ps_expr p hs, fun σ ρ H α M Dn s hh w => q σ ρ H α M _ s hh (FP.seq w fun d M1 v H1 α1 e1 h1 r1 w1 => w1 σ H1 α1 Ext.refl h1 (s.mono e1))⟩
theorem ds_if {a b : List Stmt} (hc : DT X ξ c fc) (ha : DSs X ξ a g) (hb : DSs X ξ b h) : DS X ξ (.If c a b pos) (sIf fc g h) := by
  obtain ⟨tc, pc, qc⟩ := hc
  obtain ⟨ta, pa, qa⟩ := ha
  obtain ⟨tb, pb, qb⟩ := hb
  refine ⟨_, ps_if pc pa pb, fun σ ρ H α M Dn s hh w => qc σ ρ H α M _ s hh (FP.seq w fun k M1 v H1 α1 e1 h1 r1 w1 => ?_)⟩
  cases r1
  cases k with
  | true => exact iteT (qa σ ρ H1 α1 M1 Dn (s.mono e1) h1 w1)
  | false => exact iteF (qb σ ρ H1 α1 M1 Dn (s.mono e1) h1 w1)
noncomputable def DG (X : Cx) (tg : Expr) (g : Tg) : Prop := ∃ t : TG, PG X tg t ∧ ∀ v d σ ρ H α ρ' Q, SR X.K H α σ ρ → Rep X.K H α v d → g d ρ = some ρ' → (∀ σ', SR X.K H α σ' ρ' → Q σ' H) → t v σ H Q
noncomputable def DGs (X : Cx) (tgs : List Expr) (g : Tgs) : Prop := ∃ t : TGs, PGs X tgs t ∧ ∀ vs ds σ ρ H α ρ' Q, SR X.K H α σ ρ → Reps X.K H α vs ds → g ds ρ = some ρ' → (∀ σ', SR X.K H α σ' ρ' → Q σ' H) → t vs σ H Q
theorem dg_name (i : Nat) {x : Str} (hN : X.N.Nodup) (hi : X.N[i]? = some x := by rfl) (hx : Loc X.env.scope x := by first | exact Or.inl rfl | exact Or.inr rfl) (hf : X.fn x = true ∨ X.env.scope.names.lookup x = some .local := by first | exact .inl rfl | exact .inr rfl | assumption) : DG X (.Name x pos) (gNm i) := by
  refine ⟨_, pg_name hN hi hx hf, fun v d σ ρ H α ρ' Q s r e k => ?_⟩
  cases e
  exact k _ (s.set i r)
theorem dgs_nil : DGs X [] gNl := by
  refine ⟨_, pgs_nil, fun vs ds σ ρ H α ρ' Q s r e k => ?_⟩
  cases r with
  | nil => cases e; exact ⟨rfl, k _ s⟩
  | cons _ _ => cases e
theorem dgs_cons {es : List Expr} {g : Tg} {gs : Tgs} (h1 : DG X e g) (h2 : DGs X es gs) (hs : (assignEach (e :: es) X.env).map (·.2) = assign e X.env :: (assignEach es X.env).map (·.2) := by rfl) : DGs X (e :: es) (gCs g gs) := by
  obtain ⟨t1, p1, q1⟩ := h1
  obtain ⟨t2, p2, q2⟩ := h2
  refine ⟨_, pgs_cons p1 p2 hs, fun vs ds σ ρ H α ρ' Q s r e k => ?_⟩
  cases r with
  | nil => cases e
  | cons r rr =>
    rename_i v d vs ds
    cases e1 : g d ρ with
    | none => simp only [gCs, e1] at e; cases e
    | some ρ1 =>
      simp only [gCs, e1] at e
      exact ⟨v, vs, rfl, q1 v d σ ρ H α ρ1 _ s r e1 fun σ' s' => q2 vs ds σ' ρ1 H α ρ' Q s' rr e k⟩
theorem dg_tup {es : List Expr} {k : Nat} {gs : Tgs} {n : Nat} (hc : X.calm = true) (h : DGs X es gs) (hn : (assignEach es X.env).length = n := by rfl) (hlen : ∀ ds ρ ρ', gs ds ρ = some ρ' → ds.length = n) (hst : (assignEach es X.env).findIdx? (·.1) = none := by rfl) : DG X (.Tuple es k pos) (gTp gs) := by
  obtain ⟨t, p, q⟩ := h
  refine ⟨_, pg_tup hc p hn hst, fun v d σ ρ H α ρ' Q s r e k => ?_⟩
  cases r with
  | @tup a xs ds hp rp =>
    have e' : gs ds ρ = some ρ' := e
    exact ⟨a, xs, rfl, (SqT.of hp), by rw [rp.length]; exact hlen ds ρ ρ' e', q xs ds σ ρ H α ρ' Q s rp e' k⟩
  | _ => cases e
theorem gNl_len {ds : List D} {ρ ρ' : Ro} (h : gNl ds ρ = some ρ') : ds.length = 0 := by cases ds with | nil => rfl | cons _ _ => cases h
theorem gCs_len {g : Tg} {gs : Tgs} {n : Nat} (h : ∀ ds ρ ρ', gs ds ρ = some ρ' → ds.length = n) (ds : List D) (ρ ρ' : Ro) (e : gCs g gs ds ρ = some ρ') : ds.length = n + 1 := by
  cases ds with
  | nil => cases e
  | cons d r =>
    cases e1 : g d ρ with
    | none => simp only [gCs, e1] at e; cases e
    | some ρ1 => simp only [gCs, e1] at e; rw [List.length_cons, h r ρ1 ρ' e]
theorem ds_set (i : Nat) {x : Str} {pos' : Pos} (hN : X.N.Nodup) (he : DE X ξ e f) (hi : X.N[i]? = some x := by rfl) (hx : Loc X.env.scope x := by first | exact Or.inl rfl | exact Or.inr rfl) (hs : swapsWith e (some (.Name x pos')) pos.line X.env = pure false := by rfl) (hf : X.fn x = true ∨ X.env.scope.names.lookup x = some .local := by first | exact .inl rfl | exact .inr rfl | assumption) :
    DS X ξ (.Assign [.Name x pos'] e pos) (sAsg (gNm i) f) := by
  obtain ⟨t, p, q⟩ := he
  exact ⟨_, ps_set hN hi hx p hs hf, fun σ ρ H α M Dn s hh w => q σ ρ H α M _ s hh (FP.seq w fun d M1 v H1 α1 e1 h1 r1 w1 => w1 _ H1 α1 Ext.refl h1 ((s.mono e1).set i r1))⟩
theorem ds_asg {tg : Expr} {gt : Tg} (he : DE X ξ e f) (hg : DG X tg gt) (hs : swapsWithSole [tg] e pos.line X.env = pure false := by rfl) (hw : swappedStores [tg] e X.env = pure none := by rfl)
    (h1 : (assignEach [tg] X.env).map (·.2) = [assign tg X.env] := by rfl) : DS X ξ (.Assign [tg] e pos) (sAsg gt f) := by
  obtain ⟨t, p, q⟩ := he
  obtain ⟨tt, pt, qt⟩ := hg
  refine ⟨_, ps_asg p pt hs hw h1, fun σ ρ H α M Dn s hh w => q σ ρ H α M _ s hh (FP.seq w fun d M1 v H1 α1 e1 h1 r1 w1 => ?_)⟩
  cases eg : gt d ρ with
  | none => simp only [eg] at w1; exact w1.elim
  | some ρ1 =>
    simp only [eg] at w1
    exact qt v d σ ρ H1 α1 ρ1 _ (s.mono e1) r1 eg fun σ' s' => w1 σ' H1 α1 Ext.refl h1 s'
theorem ds_par (i j : Nat) {x y : Str} {a b : Expr} {fs : Av} {px py pt : Pos} {kt k2 pt2} (hc : X.calm = true) (hN : X.N.Nodup) (ha : DA X ξ [a, b] fs) (hi : X.N[i]? = some x := by rfl) (hj : X.N[j]? = some y := by rfl) (hij : i ≠ j := by decide)
    (hx : X.env.scope.names.lookup x = some .local := by rfl) (hy : X.env.scope.names.lookup y = some .local := by rfl)
    (hw : swappedStores [.Tuple [.Name x px, .Name y py] kt pt] (.Tuple [a, b] k2 pt2) X.env = pure (some [x, y]) := by rfl)
    (hs : swapsWithSole [.Tuple [.Name x px, .Name y py] kt pt] (.Tuple [a, b] k2 pt2) pos.line X.env = pure false := by rfl) :
    DS X ξ (.Assign [.Tuple [.Name x px, .Name y py] kt pt] (.Tuple [a, b] k2 pt2) pos) (sPar i j fs) := by
  obtain ⟨t, p, q⟩ := ha
  refine ⟨_, ps_par hc hN hi hj hij hx hy p hw hs, fun σ ρ H α M Dn s hh w => q σ ρ H α M _ s hh (FP.seq w fun ds M1 vs H1 α1 e1 h1 r1 w1 => ?_)⟩
  match r1 with
  | .nil => exact w1.elim
  | .cons _ .nil => exact w1.elim
  | .cons _ (.cons _ (.cons _ _)) => exact w1.elim
  | .cons r (.cons r' .nil) => exact ⟨_, _, rfl, w1 _ H1 α1 Ext.refl h1 (((s.mono e1).set i r).set j r')⟩
theorem ds_put {o i : Expr} {fo fi : Ev} {pos' : Pos} (ho : DE X ξ o fo) (hi : DE X ξ i fi) (he : DE X ξ e f)
    (ha : ∀ v, assign (.Subscript o i pos') X.env v = (do
      let ov ← holding [v] (eval o X.env)
      let iv ← holding [v, ov] (eval i X.env)
      standAt pos'
      holding [v, ov, iv] (setItem ov iv v)
      release [v, ov, iv] []) := by intro _; rfl) (hs : swapsWithSole [.Subscript o i pos'] e pos.line X.env = pure false := by rfl) (hw : swappedStores [.Subscript o i pos'] e X.env = pure none := by rfl)
    (h1 : (assignEach [.Subscript o i pos'] X.env).map (·.2) = [assign (.Subscript o i pos') X.env] := by rfl) : DS X ξ (.Assign [.Subscript o i pos'] e pos) (sPut fo fi f) := by
  obtain ⟨t, p, q⟩ := he
  obtain ⟨to, po, qo⟩ := ho
  obtain ⟨ti, pi, qi⟩ := hi
  refine ⟨_, ps_asg p (pg_sub po pi set_list ha) hs hw h1, fun σ ρ H α M Dn s hh w => q σ ρ H α M _ s hh (FP.seq w fun d M1 v H1 α1 e1 h1 r1 w1 => ?_)⟩
  refine qo σ ρ H1 α1 M1 _ (s.mono e1) h1 (FP.seq w1 fun od M2 ov H2 α2 e2 h2 r2 w2 => ?_)
  refine qi σ ρ H2 α2 M2 _ ((s.mono e1).mono e2) h2 (FP.seq w2 fun kd M3 kv H3 α3 e3 h3 r3 w3 => ?_)
  cases Rep.mono e3 r2 with
  | @ref p n hp =>
    cases r3 with
    | int k =>
      cases em : M3[n]? with
      | none => simp only [em] at w3; exact w3.elim
      | some so =>
        cases so with
        | lst ds =>
          cases ej : ixN ds.length k with
          | none => simp only [em, ej] at w3; exact w3.elim
          | some j =>
            simp only [em, ej] at w3
            obtain ⟨xs, g1, g2⟩ := h3.at hp em
            refine ⟨p, xs, k, j, rfl, rfl, g1, by rw [g2.length]; exact ej, ?_⟩
            exact w3 σ _ α3 (Ext.wr g1) (h3.wr hp g1 (Reps.set (Rep.mono e3 (Rep.mono e2 r1)) j g2)) ((((s.mono e1).mono e2).mono e3).mono (Ext.wr g1))
    | _ => exact w3.elim
  | _ => exact w3.elim
noncomputable def whN (c : Tv) (g : Sv) : Nat → Ro → Sto → Option Fl
  | 0, _, _ => none
  | n + 1, ρ, M => match c ρ M with
    | .ok true M1 => (match g ρ M1 with
      | .nx ρ2 M2 => whN c g n ρ2 M2
      | .cnt ρ2 M2 => whN c g n ρ2 M2
      | .brk ρ2 M2 => some (.nx ρ2 M2)
      | o => some o)
    | .ok false M1 => some (.nx ρ M1)
    | .exc e M1 => some (.exc e M1)
    | .bad => some .bad
theorem whN_more {c : Tv} {g : Sv} : ∀ {n : Nat} {ρ : Ro} {M : Sto} {o : Fl}, whN c g n ρ M = some o → ∀ k, whN c g (n + k) ρ M = some o
  | 0, _, _, _, e, _ => by simp only [whN] at e; cases e
  | n + 1, ρ, M, o, e, k => by
    have ek : n + 1 + k = (n + k) + 1 := by omega
    rw [ek]
    unfold whN at e ⊢
    cases ec : c ρ M with
    | bad => rw [ec] at e; exact e
    | exc x M1 => rw [ec] at e; exact e
    | ok b M1 =>
      rw [ec] at e
      cases b with
      | false => exact e
      | true =>
        cases eg : g ρ M1 with
        | nx ρ2 M2 => simp only [eg] at e ⊢; exact whN_more e k
        | cnt ρ2 M2 => simp only [eg] at e ⊢; exact whN_more e k
        | brk ρ2 M2 => simp only [eg] at e ⊢; exact e
        | ret d M2 => simp only [eg] at e ⊢; exact e
        | exc x M2 => simp only [eg] at e ⊢; exact e
        | bad => simp only [eg] at e ⊢; exact e
open Classical in
noncomputable def sWh (c : Tv) (g : Sv) : Sv := fun ρ M => if h : ∃ o n, whN c g n ρ M = some o then Classical.choose h else .bad
theorem sWh_of {c : Tv} {g : Sv} {n : Nat} {ρ : Ro} {M : Sto} {o : Fl} (e : whN c g n ρ M = some o) : sWh c g ρ M = o := by
  have hx : ∃ o n, whN c g n ρ M = some o := ⟨o, n, e⟩
  unfold sWh
  rw [dif_pos hx]
  obtain ⟨m, em⟩ := Classical.choose_spec hx
  have h1 := whN_more em n
  have h2 := whN_more e m
  rw [Nat.add_comm] at h2
  rw [h1] at h2
  exact Option.some.inj h2
theorem sWh_ok {c : Tv} {g : Sv} {ρ : Ro} {M : Sto} (e : sWh c g ρ M ≠ .bad) : ∃ n, whN c g n ρ M = some (sWh c g ρ M) := by
  by_cases hx : ∃ o n, whN c g n ρ M = some o
  · obtain ⟨o, n, h⟩ := hx
    exact ⟨n, by rw [sWh_of h]; exact h⟩
  · unfold sWh at e
    rw [dif_neg hx] at e
    exact absurd rfl e
theorem sWh_false {c : Tv} {g : Sv} {ρ : Ro} {M M1 : Sto} (h : c ρ M = .ok false M1) : sWh c g ρ M = .nx ρ M1 := sWh_of (n := 1) (by simp only [whN, h])
theorem sWh_true {c : Tv} {g : Sv} {ρ ρ2 : Ro} {M M1 M2 : Sto} (h : c ρ M = .ok true M1) (h2 : g ρ M1 = .nx ρ2 M2) (hb : sWh c g ρ2 M2 ≠ .bad) : sWh c g ρ M = sWh c g ρ2 M2 := by
  obtain ⟨n, e⟩ := sWh_ok hb
  exact sWh_of (n := n + 1) (by simp only [whN, h, h2]; exact e)
theorem ds_while {body : List Stmt} (hp : PassesOwn (model X.prog X.w) X.A X.env X.xe) (hc : DT X ξ c fc) (hb : DSs X ξ body g) : DS X ξ (.While c body [] pos) (sWh fc g) := by
  obtain ⟨tc, pc, qc⟩ := hc
  obtain ⟨tb, pb, qb⟩ := hb
  refine ⟨_, ps_while hp pc pb, fun σ ρ H α M Dn s hh w => ?_⟩
  have nb : sWh fc g ρ M ≠ .bad := fun z => by rw [z] at w; exact w
  obtain ⟨n, en⟩ := sWh_ok nb
  generalize sWh fc g ρ M = o at w en
  refine ⟨fun m σ' H' => ∃ ρ' α' M', Ext X.K H H' α α' ∧ SR X.K H' α' σ' ρ' ∧ HR X.K H' α' M' ∧ whN fc g m ρ' M' = some o, ⟨n, ρ, α, M, Ext.refl, s, hh, en⟩, ?_⟩
  rintro m σ1 H1 ⟨ρ1, α1, M1, e1, s1, h1, en1⟩
  cases m with
  | zero => simp only [whN] at en1; cases en1
  | succ m =>
    refine qc σ1 ρ1 H1 α1 M1 _ s1 h1 ?_
    unfold whN at en1
    cases ec : fc ρ1 M1 with
    | bad => rw [ec] at en1; cases en1; exact w.elim
    | exc x M2 =>
      rw [ec] at en1; cases en1
      exact fun C H' α' nn ex hr => w C H' α' nn (e1.trans ex) hr
    | ok b M2 =>
      rw [ec] at en1
      intro v H2 α2 e2 h2 ev
      cases ev
      cases b with
      | false =>
        cases en1
        exact iteF (w σ1 H2 α2 (e1.trans e2) h2 (s1.mono e2))
      | true =>
        refine iteT ⟨fun σ' H' => ∃ ρ' α' M', Ext X.K H H' α α' ∧ SR X.K H' α' σ' ρ' ∧ HR X.K H' α' M' ∧ whN fc g m ρ' M' = some o, fun σ' H' z => ⟨m, Nat.lt_succ_self m, z⟩, ?_⟩
        refine qb σ1 ρ1 H2 α2 M2 _ (s1.mono e2) h2 ?_
        have e12 := e1.trans e2
        cases eg : g ρ1 M2 with
        | nx ρ2 M3 => simp only [eg] at en1; exact fun σ' H' α' ex hr sr => ⟨ρ2, α', M3, e12.trans ex, sr, hr, en1⟩
        | cnt ρ2 M3 => simp only [eg] at en1; exact fun σ' H' α' ex hr sr => ⟨ρ2, α', M3, e12.trans ex, sr, hr, en1⟩
        | brk ρ2 M3 => simp only [eg] at en1; cases en1; exact fun σ' H' α' ex hr sr => w σ' H' α' (e12.trans ex) hr sr
        | ret d M3 => simp only [eg] at en1; cases en1; exact fun v H' α' ex hr sr => w v H' α' (e12.trans ex) hr sr
        | exc x M3 => simp only [eg] at en1; cases en1; exact fun C H' α' nn ex hr => w C H' α' nn (e12.trans ex) hr
        | bad => simp only [eg] at en1; cases en1; exact w.elim
noncomputable def forD (tg : Tg) (g : Sv) : List D → Ro → Sto → Fl
  | [], ρ, M => .nx ρ M
  | d :: r, ρ, M => match tg d ρ with
    | none => .bad
    | some ρ1 => (match g ρ1 M with
      | .nx ρ2 M2 => forD tg g r ρ2 M2
      | .cnt ρ2 M2 => forD tg g r ρ2 M2
      | .brk ρ2 M2 => .nx ρ2 M2
      | o => o)
noncomputable def forL (tg : Tg) (g : Sv) (n : Nat) : Nat → Nat → Ro → Sto → Fl
  | f, i, ρ, M => match M[n]? with
    | some (.lst xs) => (match xs[i]? with
      | none => .nx ρ M
      | some d => (match f with
        | 0 => .bad
        | f + 1 => (match tg d ρ with
          | none => .bad
          | some ρ1 => (match g ρ1 M with
            | .nx ρ2 M2 => forL tg g n f (i + 1) ρ2 M2
            | .cnt ρ2 M2 => forL tg g n f (i + 1) ρ2 M2
            | .brk ρ2 M2 => .nx ρ2 M2
            | o => o))))
    | none => .bad
noncomputable def rngD (lo : Int) (n : Nat) : List D := (List.range n).map fun (i : Nat) => D.int (lo + i)
noncomputable def forI (tg : Tg) (g : Sv) (d : D) (ρ : Ro) (M : Sto) : Fl := match d with
  | .tup xs => forD tg g xs ρ M
  | .rol xs => forD tg g xs ρ M
  | .ref n => (match M[n]? with | some (.lst xs) => forL tg g n xs.length 0 ρ M | none => .bad)
  | _ => .bad
noncomputable def sFor (tg : Tg) (f : Ev) (g : Sv) : Sv := fun ρ M => bindF (f ρ M) fun d M1 => forI tg g d ρ M1
noncomputable def sForR1 (tg : Tg) (fs : Av) (g : Sv) : Sv := fun ρ M => bindF (fs ρ M) fun ds M1 => match ds with
  | [.int j] => if -(2 ^ 62) ≤ j ∧ j < 2 ^ 62 then forD tg g (rngD 0 j.toNat) ρ M1 else .bad
  | _ => .bad
noncomputable def sForR2 (tg : Tg) (fs : Av) (g : Sv) : Sv := fun ρ M => bindF (fs ρ M) fun ds M1 => match ds with
  | [.int i, .int j] => if -(2 ^ 62) ≤ i ∧ i < 2 ^ 62 ∧ -(2 ^ 62) ≤ j ∧ j < 2 ^ 62 then forD tg g (rngD i (j - i).toNat) ρ M1 else .bad
  | _ => .bad
theorem rngD_get {lo : Int} {n i : Nat} (h : i < n) : (rngD lo n)[i]? = some (.int (lo + i)) := by
  unfold rngD
  rw [List.getElem?_map, List.getElem?_range h]
  rfl
theorem rngD_len {lo : Int} {n : Nat} : (rngD lo n).length = n := by unfold rngD; rw [List.length_map, List.length_range]
theorem rngD_drop {lo : Int} {n i : Nat} (h : i < n) : (rngD lo n).drop i = .int (lo + i) :: (rngD lo n).drop (i + 1) := by
  have hl : i < (rngD lo n).length := by rw [rngD_len]; exact h
  have e := rngD_get (lo := lo) h
  rw [List.getElem?_eq_getElem hl] at e
  rw [List.drop_eq_getElem_cons hl, Option.some.inj e]
theorem turnD {tg : Expr} {gt : Tg} {tt : TG} {tb : TS} {Dn : Ends} {H H1 : Hp} {α α1 : List Addr} {o : Fl} {k : Ro → Sto → Fl} (w : FP X.K H α ξ Dn o)
    (qt : ∀ v d σ ρ H α ρ' Q, SR X.K H α σ ρ → Rep X.K H α v d → gt d ρ = some ρ' → (∀ σ', SR X.K H α σ' ρ' → Q σ' H) → tt v σ H Q) (qb : ∀ σ ρ H α M Dn, SR X.K H α σ ρ → HR X.K H α M → FP X.K H α ξ Dn (g ρ M) → tb Dn σ H)
    {v : V} {d : D} {σ1 : L2.St} {ρ1 : Ro} {M1 : Sto} (e1 : Ext X.K H H1 α α1) (s1 : SR X.K H1 α1 σ1 ρ1) (h1 : HR X.K H1 α1 M1) (r : Rep X.K H1 α1 v d)
    (en : (match gt d ρ1 with | none => Fl.bad | some ρ2 => (match g ρ2 M1 with | .nx ρ3 M3 => k ρ3 M3 | .cnt ρ3 M3 => k ρ3 M3 | .brk ρ3 M3 => .nx ρ3 M3 | o => o)) = o)
    {N : L2.St → Hp → Prop} (hN : ∀ σ' H', (∃ ρ' α' M', Ext X.K H H' α α' ∧ SR X.K H' α' σ' ρ' ∧ HR X.K H' α' M' ∧ k ρ' M' = o) → N σ' H') : tt v σ1 H1 fun σ2 H2 => tb { Dn with nx := N, ct := N, bk := Dn.nx } σ2 H2 := by
  cases eg : gt d ρ1 with
  | none => rw [eg] at en; cases en; exact w.elim
  | some ρ2 =>
    simp only [eg] at en
    refine qt v d σ1 ρ1 H1 α1 ρ2 _ s1 r eg fun σ2 s2 => qb σ2 ρ2 H1 α1 M1 _ s2 h1 ?_
    cases ex : g ρ2 M1 with
    | nx ρ3 M3 => simp only [ex] at en; exact fun σ' H' α' e2 hr sr => hN _ _ ⟨ρ3, α', M3, e1.trans e2, sr, hr, en⟩
    | cnt ρ3 M3 => simp only [ex] at en; exact fun σ' H' α' e2 hr sr => hN _ _ ⟨ρ3, α', M3, e1.trans e2, sr, hr, en⟩
    | brk ρ3 M3 => simp only [ex] at en; cases en; exact fun σ' H' α' e2 hr sr => w σ' H' α' (e1.trans e2) hr sr
    | ret d M3 => simp only [ex] at en; cases en; exact fun v H' α' e2 hr sr => w v H' α' (e1.trans e2) hr sr
    | exc x M3 => simp only [ex] at en; cases en; exact fun C H' α' nn e2 hr => w C H' α' nn (e1.trans e2) hr
    | bad => simp only [ex] at en; cases en; exact w.elim
theorem rangeD {tg : Expr} {gt : Tg} {tt : TG} {tb : TS} {Dn : Ends} {H : Hp} {α : List Addr} {lo : Int} {n : Nat} {σ : L2.St} {ρ : Ro} {M : Sto}
    (qt : ∀ v d σ ρ H α ρ' Q, SR X.K H α σ ρ → Rep X.K H α v d → gt d ρ = some ρ' → (∀ σ', SR X.K H α σ' ρ' → Q σ' H) → tt v σ H Q) (qb : ∀ σ ρ H α M Dn, SR X.K H α σ ρ → HR X.K H α M → FP X.K H α ξ Dn (g ρ M) → tb Dn σ H)
    (s : SR X.K H α σ ρ) (hh : HR X.K H α M) (w : FP X.K H α ξ Dn (forD gt g (rngD lo n) ρ M)) :
    ∃ W : Nat → Nat → L2.St → Hp → Prop, (∃ m, W 0 m σ H) ∧ ∀ i m σ H, W i m σ H →
      ((Itr lo n).stop i H ∧ Dn.nx σ H) ∨ ((Itr lo n).go i H ∧ ∃ N : L2.St → Hp → Prop, (∀ σ' H', N σ' H' → ∃ m', m' < m ∧ W (i + 1) m' σ' H') ∧ ∀ x H', (Itr lo n).yld i H x H' → tt x σ H' fun σ2 H2 => tb { Dn with nx := N, ct := N, bk := Dn.nx } σ2 H2) := by
  generalize ho : forD gt g (rngD lo n) ρ M = o at w
  refine for_range (fun i σ' H' => ∃ ρ' α' M', Ext X.K H H' α α' ∧ SR X.K H' α' σ' ρ' ∧ HR X.K H' α' M' ∧ forD gt g ((rngD lo n).drop i) ρ' M' = o) ⟨ρ, α, M, Ext.refl, s, hh, ho⟩ ?_ ?_
  · rintro i σ1 H1 hi ⟨ρ1, α1, M1, e1, s1, h1, en⟩
    rw [rngD_drop hi] at en
    exact turnD (tg := tg) w qt qb e1 s1 h1 (.int (lo + i)) en (fun σ' H' z => z)
  · rintro σ1 H1 ⟨ρ1, α1, M1, e1, s1, h1, en⟩
    rw [List.drop_eq_nil_of_le (by rw [rngD_len]; exact Nat.le_refl _)] at en
    cases en
    exact w σ1 H1 α1 e1 h1 s1
theorem ds_forR1 {tg a : Expr} {gt : Tg} {fs : Av} {body : List Stmt} {p p2 : Pos} (hp : PassesOwn (model X.prog X.w) X.A X.env X.xe) (hm : X.mg "range" = none) (ha : DA X ξ [a] fs) (hg : DG X tg gt) (hb : DSs X ξ body g)
    (hgl : Gl X "range" := by rfl) (hs : starEach [a] X.env = [(false, eval a X.env)] := by rfl) (hf : ∀ x, foldedSetIterable (.Call (.Name "range" p) [a] [] p2) X.env x = pure x := by intro _; rfl) : DS X ξ (.For tg (.Call (.Name "range" p) [a] [] p2) body [] pos) (sForR1 gt fs g) := by
  obtain ⟨ta, pa, qa⟩ := ha
  obtain ⟨tt, pt, qt⟩ := hg
  obtain ⟨tb, pb, qb⟩ := hb
  refine ⟨_, ps_for hp (pi_range1 hgl hm pa hs) pt pb hf, fun σ ρ H α M Dn s hh w => qa σ ρ H α M _ s hh (FP.seq w fun ds M1 vs H1 α1 e1 h1 r1 w1 => ?_)⟩
  match r1 with
  | .nil => exact w1.elim
  | .cons r (.cons _ _) => cases r <;> exact w1.elim
  | .cons r .nil =>
    cases r with
    | int j =>
      by_cases c : -(2 ^ 62) ≤ j ∧ j < 2 ^ 62
      · simp only [if_pos c] at w1
        exact ⟨j, rfl, c.1, c.2, rangeD (tg := tg) qt qb (s.mono e1) h1 w1⟩
      · simp only [if_neg c] at w1
        exact w1.elim
    | _ => exact w1.elim
noncomputable def iSeq (K : PySem.W.Frag) (tl : TE) : TI := fun σ H R => tl σ H fun x H1 => ∃ a, x = .ref a ∧ (((∃ xs, SqL K H1 a xs) ∧ R (Itl K a) H1) ∨ ((∃ xs, SqT K H1 a xs) ∧ R (Itt K a) H1))
theorem pi_seq {tg l : Expr} {tl : TE} (hl : PE X l tl) : PI X tg l (iSeq X.K tl) := by
  intro pins s σ H R I h
  refine thn (hl pins s σ H _ I h) fun v s1 ⟨x, H1, I1, r1, q1⟩ => ?_
  obtain ⟨a, e, q⟩ := q1
  subst e
  cases r1
  have fp : ∀ b ∈ [s1.heap.objs.size], FpOk X pins H1 b := fun b hb => by
    have e : b = s1.heap.objs.size := by simpa using hb
    subst e
    exact I1.fpOk (Nat.le_refl _) (I1.hok.fresh (Nat.le_refl _))
  rcases q with ⟨⟨xs, hq⟩, q⟩ | ⟨⟨xs, hq⟩, q⟩
  · obtain ⟨its, rv, p, hz⟩ := I1.list hq
    refine wpAny_pyIter_list p.isList ?_
    exact ⟨s1.heap.objs.size, [s1.heap.objs.size], _, _, H1, rfl, I1.kept (t' := s1.toks) fun b o e => Heap.get?_push_of_some _ e, turn_list a _, ⟨_, Heap.get?_push_size _ rfl, rfl, rfl⟩, fp, q⟩
  · obtain ⟨its, rv, p, hz⟩ := I1.tuple hq
    refine wpAny_pyIter_tuple (show s1.heap.IsTuple a its.toArray from p) ?_
    exact ⟨s1.heap.objs.size, [s1.heap.objs.size], _, _, H1, rfl, I1.kept (t' := s1.toks) fun b o e => Heap.get?_push_of_some _ e, turn_tuple a _, ⟨_, Heap.get?_push_size _ rfl, rfl, rfl⟩, fp, q⟩
theorem ds_for {tg l : Expr} {gt : Tg} {f : Ev} {body : List Stmt} (hp : PassesOwn (model X.prog X.w) X.A X.env X.xe) (hl : DE X ξ l f) (hg : DG X tg gt) (hb : DSs X ξ body g)
    (hf : ∀ x, foldedSetIterable l X.env x = pure x := by intro _; rfl) : DS X ξ (.For tg l body [] pos) (sFor gt f g) := by
  obtain ⟨ta, pa, qa⟩ := hl
  obtain ⟨tt, pt, qt⟩ := hg
  obtain ⟨tb, pb, qb⟩ := hb
  refine ⟨_, ps_for hp (pi_seq pa) pt pb hf, fun σ ρ H α M Dn s hh w => qa σ ρ H α M _ s hh (FP.seq w fun d M1 v H1 α1 e1 h1 r1 w1 => ?_)⟩
  have s1 := s.mono e1
  have pure_ : ∀ (ds : List D) (xs : List V), Reps X.K H1 α1 xs ds → FP X.K H1 α1 ξ Dn (forD gt g ds ρ M1) → ∀ (i : Nat) σ' H', (∃ ρ' α' M', Ext X.K H1 H' α1 α' ∧ SR X.K H' α' σ' ρ' ∧ HR X.K H' α' M' ∧ forD gt g (ds.drop i) ρ' M' = forD gt g ds ρ M1) →
      (∀ x, xs[i]? = some x → tt x σ' H' fun σ2 H2 => tb { Dn with nx := fun σ H => ∃ ρ' α' M', Ext X.K H1 H α1 α' ∧ SR X.K H α' σ ρ' ∧ HR X.K H α' M' ∧ forD gt g (ds.drop (i + 1)) ρ' M' = forD gt g ds ρ M1, ct := fun σ H => ∃ ρ' α' M', Ext X.K H1 H α1 α' ∧ SR X.K H α' σ ρ' ∧ HR X.K H α' M' ∧ forD gt g (ds.drop (i + 1)) ρ' M' = forD gt g ds ρ M1, bk := Dn.nx } σ2 H2) ∧
      (i = xs.length → Dn.nx σ' H') := by
    intro ds xs r w1 i σ' H' ⟨ρ', α', M', ex, sr, hr, en⟩
    refine ⟨fun x hx => ?_, fun hi => ?_⟩
    · have hi : i < ds.length := by rw [← r.length]; exact (List.getElem?_eq_some_iff.mp hx).1
      obtain ⟨v, g1, g2⟩ := r.get (List.getElem?_eq_getElem hi)
      rw [hx] at g1
      cases g1
      rw [List.drop_eq_getElem_cons hi] at en
      exact turnD (tg := tg) w1 qt qb ex sr hr (Rep.mono ex g2) en (fun σ' H' z => z)
    · rw [hi, r.length, List.drop_length] at en
      have en' : Fl.nx ρ' M' = forD gt g ds ρ M1 := en
      rw [← en'] at w1
      exact w1 σ' H' α' ex hr sr
  cases r1 with
  | @tup p xs ds hp rp =>
    have w2 : FP X.K H1 α1 ξ Dn (forD gt g ds ρ M1) := w1
    refine ⟨p, rfl, .inr ⟨⟨xs, (SqT.of hp)⟩, for_tup (K := X.K) (a := p) (xs := xs) (fun i σ' H' => ∃ ρ' α' M', Ext X.K H1 H' α1 α' ∧ SR X.K H' α' σ' ρ' ∧ HR X.K H' α' M' ∧ forD gt g (ds.drop i) ρ' M' = forD gt g ds ρ M1) ⟨ρ, α1, M1, Ext.refl, s1, h1, rfl⟩ ?_ ?_ ?_⟩⟩
    · rintro i σ' H' _ ⟨ρ', α', M', ex, _⟩
      exact SqT.of (ex.tup _ _ hp)
    · intro i x σ' H' hx z
      exact (pure_ ds xs rp w2 i σ' H' z).1 x hx
    · intro σ' H' z
      exact (pure_ ds xs rp w2 _ σ' H' z).2 rfl
  | @rol p xs ds hp rp =>
    have w2 : FP X.K H1 α1 ξ Dn (forD gt g ds ρ M1) := w1
    refine ⟨p, rfl, .inl ⟨⟨xs, hp.sq⟩, for_list (K := X.K) (a := p) (xs := xs) (fun i σ' H' => ∃ ρ' α' M', Ext X.K H1 H' α1 α' ∧ SR X.K H' α' σ' ρ' ∧ HR X.K H' α' M' ∧ forD gt g (ds.drop i) ρ' M' = forD gt g ds ρ M1) ⟨ρ, α1, M1, Ext.refl, s1, h1, rfl⟩ ?_ ?_ ?_⟩⟩
    · rintro i σ' H' _ ⟨ρ', α', M', ex, _⟩
      exact (ex.rol _ _ hp).sq
    · intro i x σ' H' hx z
      exact (pure_ ds xs rp w2 i σ' H' z).1 x hx
    · intro σ' H' z
      exact (pure_ ds xs rp w2 _ σ' H' z).2 rfl
  | @ref p n hp =>
    cases em : M1[n]? with
    | none => simp only [forI, em] at w1; exact w1.elim
    | some so =>
      cases so with
      | lst ds =>
        simp only [forI, em] at w1
        obtain ⟨xs0, g0, r0⟩ := h1.at hp em
        generalize eo : forL gt g n ds.length 0 ρ M1 = o at w1
        refine ⟨p, rfl, .inl ⟨⟨xs0, SqL.of g0⟩, fun i m σ' H' => ∃ ρ' α' M', Ext X.K H1 H' α1 α' ∧ SR X.K H' α' σ' ρ' ∧ HR X.K H' α' M' ∧ forL gt g n m i ρ' M' = o, ⟨ds.length, ρ, α1, M1, Ext.refl, s1, h1, eo⟩, ?_⟩⟩
        rintro i m σ' H' ⟨ρ', α', M', ex, sr, hr, en⟩
        unfold forL at en
        cases em2 : M'[n]? with
        | none => simp only [em2] at en; cases en; exact w1.elim
        | some so2 =>
          cases so2 with
          | lst ds2 =>
            simp only [em2] at en
            obtain ⟨xs, g1, g2⟩ := hr.at (ex.get hp) em2
            cases ei : ds2[i]? with
            | none =>
              simp only [ei] at en
              cases en
              refine .inl ⟨⟨xs, SqL.of g1, ?_⟩, w1 σ' H' α' ex hr sr⟩
              rw [g2.length]
              exact List.getElem?_eq_none_iff.mp ei
            | some d =>
              simp only [ei] at en
              obtain ⟨v, k1, k2⟩ := g2.get ei
              cases m with
              | zero => cases en; exact w1.elim
              | succ m =>
                refine .inr ⟨⟨xs, v, SqL.of g1, k1⟩, fun σ2 H2 => ∃ ρ' α' M', Ext X.K H1 H2 α1 α' ∧ SR X.K H2 α' σ2 ρ' ∧ HR X.K H2 α' M' ∧ forL gt g n m (i + 1) ρ' M' = o, fun σ2 H2 z => ⟨m, Nat.lt_succ_self m, z⟩, fun x H2 y => ?_⟩
                obtain ⟨ey, y⟩ := y
                subst ey
                have ev := y xs (SqL.of g1)
                rw [k1] at ev
                cases ev
                exact turnD (tg := tg) w1 qt qb ex sr hr k2 en (fun σ' H' z => z)
  | _ => exact w1.elim
end
noncomputable def fnF (g : Sv) (n k : Nat) : List D → Sto → Out D := fun ds M => if ds.length = n then (match g (ds.map some ++ List.replicate k none) M with
  | .ret d M' => .ok d M'
  | .nx _ M' => .ok .non M'
  | .exc c M' => .exc c M'
  | _ => .bad) else .bad
noncomputable def spD (K : PySem.W.Frag) (F : List D → Sto → Out D) : Sp := fun vs H Q E => ∃ ds α M, Reps K H α vs ds ∧ HR K H α M ∧ OP K H α E Q (F ds M)
theorem start_get : ∀ {ds : List D} {k i : Nat} {d : D}, (ds.map some ++ List.replicate k none)[i]? = some (some d) → ds[i]? = some d
  | [], k, i, d, h => by
    rw [List.map_nil, List.nil_append] at h
    have := List.mem_of_getElem? h
    rw [List.mem_replicate] at this
    cases this.2
  | x :: r, k, 0, d, h => by simpa using h
  | x :: r, k, i + 1, d, h => by
    rw [List.map_cons, List.cons_append, List.getElem?_cons_succ] at h
    rw [List.getElem?_cons_succ]
    exact start_get h
theorem SR.start {K : PySem.W.Frag} {H : Hp} {α : List Addr} {N : List Str} {vs : List V} {ds : List D} {k : Nat} (r : Reps K H α vs ds) (hk : k = N.length - ds.length) : SR K H α (start N vs) (ds.map some ++ List.replicate k none) := by
  unfold L2.start
  refine ⟨by simp only [List.length_append, List.length_map, List.length_replicate, r.length, hk], fun i d h => ?_⟩
  obtain ⟨v, h1, h2⟩ := r.get (start_get h)
  refine ⟨v, ?_, h2⟩
  have hl : i < vs.length := (List.getElem?_eq_some_iff.mp h1).1
  rw [List.getElem?_append_left (by rw [List.length_map]; exact hl), List.getElem?_map, h1]
  rfl
section
variable {P : Program} {w : World} {K : PySem.W.Frag} {mg : Str → Option Value} {base : Heap}
theorem fn_ok {x qual : Str} {st : Stmt} {f : Addr} {fd : FuncData} {N ps : List Str} {k n m : Nat} {g : Sv} (F : Fun K x qual st f fd) (S : FnScope N ps (defScope st)) (hn : n = ps.length) (hm : m = N.length - n)
    (hb : ∀ (cdv : Value) (A : Around) (outer : List Env) (s : Shared) (H : Hp) (E : XK), Room k (A.deeper (envOfC qual (defScope st) s.heap.objs.size f cdv)) → Thr (cxOf (CXE P w) P w K mg base N qual (defScope st) f cdv A outer s H E) E → DSs (cxOf (CXE P w) P w K mg base N qual (defScope st) f cdv A outer s H E) E (defBody st) g) :
    FnOk P w K mg base (CXE P w) (k + 1) f fd ps (spD K (fnF g n m)) := by
  obtain ⟨oc, od, kV, doc, pm, an, cdv, ct, osl, rfl, lk, hcd⟩ := F.ex
  refine fn_of lk hcd S (fun vs H Q E h => ?_) (fun A outer s H vs Q E hr h => ?_)
  · obtain ⟨ds, α, M, r, _, q⟩ := h
    by_cases c : ds.length = n
    · rw [r.length, c, hn]
    · simp only [fnF, if_neg c] at q
      exact q.elim
  · obtain ⟨ds, α, M, r, hh, q⟩ := h
    obtain ⟨t, p, w'⟩ := hb cdv A outer s H E hr thr_fn
    by_cases c : ds.length = n
    · simp only [fnF, if_pos c] at q
      refine ⟨t, p, w' _ _ H α M _ (SR.start (N := N) r (k := m) (by rw [hm, c])) hh ?_⟩
      cases e : g (ds.map some ++ List.replicate m none) M with
      | nx ρ' M' => simp only [e] at q; exact fun σ' H' α' ex hr sr => q _ H' α' ex hr .non
      | ret d M' => simp only [e] at q; exact q
      | exc x M' => simp only [e] at q; exact q
      | brk ρ' M' => simp only [e] at q; exact q.elim
      | cnt ρ' M' => simp only [e] at q; exact q.elim
      | bad => simp only [e] at q; exact q.elim
    · simp only [fnF, if_neg c] at q
      exact q.elim
end
section
variable {X : Cx} {ξ : XK} {k : Nat} {f : Addr} {fd : FuncData} {ps : List Str} {F : List D → Sto → Out D} {x : Str} {p pos : Pos} {e : Expr} {es : List Expr} {fs : Av}
theorem de_call (G : FnOk X.prog X.w X.K X.mg X.base (CXE X.prog X.w) k f fd ps (spD X.K F)) (T : Thr X ξ) (hr : Room k X.A) (hm : X.mg x = some (.ref f)) (hk : PySem.W.keepIn X.K (.ref f) = true) (hb : Binds X.K fd ps []) (ha : DA X ξ (e :: es) fs) (hg : Gl X x := by rfl)
    (hdb : (x == ("__debug__" : Str)) = false := by decide) (he : starEach (e :: es) X.env = (false, eval e X.env) :: starEach es X.env := by rfl) (hpl : (backTo pos (starEach es X.env)).any (·.1) = false := by rfl) : DE X ξ (.Call (.Name x p) (e :: es) [] pos) (eCall F fs) := by
  obtain ⟨t, pa, qa⟩ := ha
  refine ⟨_, pe_call G hr hg hm hk hb .nil T.ps pa hdb he hpl, fun σ ρ H α M Q s hh q => qa σ ρ H α M _ s hh (OG.seq q fun ds M1 vs H1 α1 e1 h1 r1 q1 => ?_)⟩
  rw [List.append_nil]
  exact ⟨ds, α1, M1, r1, h1, q1⟩
end
end DL


end
section
set_option Elab.async false
set_option linter.all false
set_option maxRecDepth 100000
set_option maxHeartbeats 4000000
namespace DL
open PySem PySem.Spec PyProof.Rows L2
theorem bb_abs : bootBuiltins "abs" = some (.builtin "abs") := by decide +kernel
theorem bb_int : bootBuiltins "int" = some (.type "int") := by decide +kernel
theorem bb_list : bootBuiltins "list" = some (.type "list") := by decide +kernel
theorem bb_max : bootBuiltins "max" = some (.builtin "max") := by decide +kernel
theorem bb_min : bootBuiltins "min" = some (.builtin "min") := by decide +kernel
noncomputable def Cal (P : Program) (w : World) (K : PySem.W.Frag) (mg : Str → Option Value) (base : Heap) (x : Str) (k n : Nat) (F : List D → Sto → Out D) : Prop :=
  ∃ (f : Addr) (fd : FuncData) (ps : List Str), FnOk P w K mg base (CXE P w) k f fd ps (spD K F) ∧ mg x = some (.ref f) ∧ PySem.W.keepIn K (.ref f) = true ∧ ps.length = n ∧ Binds K fd ps []
theorem de_callC {X : Cx} {ξ : XK} {k n : Nat} {F : List D → Sto → Out D} {x : Str} {p pos : Pos} {e : Expr} {es : List Expr} {fs : Av} (C : Cal X.prog X.w X.K X.mg X.base x k n F) (T : Thr X ξ) (hr : Room k X.A) (ha : DA X ξ (e :: es) fs) (hg : Gl X x := by rfl)
    (hdb : (x == ("__debug__" : Str)) = false := by decide) (he : starEach (e :: es) X.env = (false, eval e X.env) :: starEach es X.env := by rfl) (hpl : (backTo pos (starEach es X.env)).any (·.1) = false := by rfl) : DE X ξ (.Call (.Name x p) (e :: es) [] pos) (eCall F fs) := by
  obtain ⟨f, fd, ps, G, hm, hk, _, hb⟩ := C
  exact de_call G T hr hm hk hb ha hg hdb he hpl
theorem law_sp {K : PySem.W.Frag} {H : Hp} {a : Addr} {ns : List Int} {n : Nat} {F : List D → Sto → Out D} (hl : ns.length ≤ n) (hO : Only H) (hS : SqL K H a (ns.map V.int)) (h : ∃ M', F [.rol (ns.map D.int)] [] = .ok (.bl true) M') :
    spD K F [.ref a] H (fun v _ => v = .bl true) (fun _ _ _ => False) := by
  obtain ⟨M', e⟩ := h
  have hF : SqF K H a (ns.map V.int) := by
    rcases hS with (h | ⟨o, h⟩) | h
    · rcases hO a with z | ⟨o, xs, z⟩
      · rw [h] at z; cases z
      · rw [h] at z; cases z
    · exact .inl ⟨o, h⟩
    · exact .inr h
  refine ⟨[.rol (ns.map D.int)], [], [], .cons (.rol hF (Reps.ints ns)) .nil, HR.nil, ?_⟩
  rw [e]
  intro v H' α' _ _ r
  cases r
  rfl
end DL


end
section
set_option Elab.async false
set_option linter.all false
set_option maxRecDepth 100000
set_option maxHeartbeats 4000000
namespace DL
open PySem PySem.Spec PyProof.Rows L2
inductive Src where
  | pur (ds : List D)
  | sto (n : Nat)
  | zip (n m : Nat)
  | enu (n : Nat)
  | rev (n l : Nat)
  | zips (ns : List Nat)
noncomputable def itemsAt (M : Sto) (i : Nat) : List Nat → Option (Option (List D))
  | [] => some (some [])
  | n :: ns => match M[n]? with
    | none => none
    | some (.lst xs) => match itemsAt M i ns with
      | none => none
      | some r => match xs[i]?, r with | some x, some ds => some (some (x :: ds)) | _, _ => some none
noncomputable def nxt (src : Src) (i : Nat) (M : Sto) : Option (Option D) := match src with
  | .pur ds => some ds[i]?
  | .sto n => match M[n]? with | some (.lst xs) => some xs[i]? | none => none
  | .zip n m => match M[n]?, M[m]? with
    | some (.lst xs), some (.lst ys) => (match xs[i]?, ys[i]? with | some x, some y => some (some (.tup [x, y])) | _, _ => some none)
    | _, _ => none
  | .enu n => match M[n]? with | some (.lst xs) => (match xs[i]? with | some x => some (some (.tup [.int i, x])) | none => some none) | none => none
  | .zips ns => match itemsAt M i ns with | some (some ds) => some (some (.tup ds)) | some none => some none | none => none
  | .rev n l => match M[n]? with | some (.lst xs) => if i < l then (match xs[l - 1 - i]? with | some x => some (some x) | none => none) else (if i = l then some none else none) | none => none
noncomputable def cnt (src : Src) (M : Sto) : Nat := match src with
  | .pur ds => ds.length
  | .sto n => match M[n]? with | some (.lst xs) => xs.length | none => 0
  | .zip n _ => match M[n]? with | some (.lst xs) => xs.length | none => 0
  | .enu n => match M[n]? with | some (.lst xs) => xs.length | none => 0
  | .rev _ l => l
  | .zips ns => match ns with | n :: _ => (match M[n]? with | some (.lst xs) => xs.length | none => 0) | [] => 0
noncomputable def Ats (H : Hp) (α : List Addr) : List Nat → List Addr → Prop
  | [], [] => True
  | n :: ns, l :: ls => RefK H α 0 n l ∧ Ats H α ns ls
  | _, _ => False
noncomputable def SrcR (K : PySem.W.Frag) (H : Hp) (α : List Addr) (J : It) (src : Src) : Prop := ∀ (i : Nat) H' α' M', Ext K H H' α α' → HR K H' α' M' → match nxt src i M' with
  | some none => J.stop i H'
  | some (some d) => J.go i H' ∧ ∀ x H'', J.yld i H' x H'' → Ext K H' H'' α' α' ∧ HR K H'' α' M' ∧ Rep K H'' α' x d
  | none => True
noncomputable def DI (X : Cx) (ξ : XK) (tg iter : Expr) (f : Ro → Sto → Out Src) : Prop := ∃ wi : TI, PI X tg iter wi ∧ ∀ σ ρ H α M R, SR X.K H α σ ρ → HR X.K H α M → OG X.K (SrcR X.K) H α ξ R (f ρ M) → wi σ H R
section
variable {X : Cx} {ξ : XK} {tg iter a b : Expr} {fs : Av} {f : Ev} {p pos : Pos}
noncomputable def iR1 (fs : Av) : Ro → Sto → Out Src := fun ρ M => (fs ρ M).bind fun ds M1 => match ds with
  | [.int j] => if -(2 ^ 62) ≤ j ∧ j < 2 ^ 62 then .ok (.pur (rngD 0 j.toNat)) M1 else .bad
  | _ => .bad
theorem srcR_range {K : PySem.W.Frag} {H : Hp} {α : List Addr} {lo : Int} {n : Nat} : SrcR K H α (Itr lo n) (.pur (rngD lo n)) := by
  intro i H' α' M' ex hr
  show match some (rngD lo n)[i]? with | some none => _ | some (some d) => _ | none => True
  by_cases h : i < n
  · rw [rngD_get h]
    refine ⟨h, fun x H'' y => ?_⟩
    obtain ⟨e1, e2⟩ := y
    subst e1 e2
    exact ⟨Ext.refl, hr, .int _⟩
  · rw [List.getElem?_eq_none (by rw [rngD_len]; omega)]
    exact Nat.le_of_not_lt h
theorem di_range1 (hm : X.mg "range" = none) (ha : DA X ξ [a] fs) (hgl : Gl X "range" := by rfl) (hs : starEach [a] X.env = [(false, eval a X.env)] := by rfl) : DI X ξ tg (.Call (.Name "range" p) [a] [] pos) (iR1 fs) := by
  obtain ⟨ta, pa, qa⟩ := ha
  refine ⟨_, pi_range1 hgl hm pa hs, fun σ ρ H α M R s hh q => qa σ ρ H α M _ s hh (OG.seq q fun ds M1 vs H1 α1 e1 h1 r1 w1 => ?_)⟩
  match r1 with
  | .nil => exact w1.elim
  | .cons r (.cons _ _) => cases r <;> exact w1.elim
  | .cons r .nil =>
    cases r with
    | int j =>
      by_cases c : -(2 ^ 62) ≤ j ∧ j < 2 ^ 62
      · simp only [if_pos c] at w1
        exact ⟨j, rfl, c.1, c.2, w1 _ H1 α1 Ext.refl h1 srcR_range⟩
      · simp only [if_neg c] at w1
        exact w1.elim
    | _ => exact w1.elim
noncomputable def iSq (f : Ev) : Ro → Sto → Out Src := fun ρ M => (f ρ M).bind fun d M1 => match d with
  | .tup ds => .ok (.pur ds) M1
  | .rol ds => .ok (.pur ds) M1
  | .ref n => .ok (.sto n) M1
  | _ => .bad
end
noncomputable def blk (X : Cx) (scope : Scope) (cl : List (Str × Addr)) (N : List Str) (C : Addr) (fp : List Addr) (s : Shared) (H : Hp) : Cx :=
  { X with N := N, s₀ := s, H₀ := H, env := compEnvC scope cl C X.env, outer := X.stack, stack := X.stack, ex := fp, fn := fun _ => false, pn := [], xe := fun _ _ => False }
theorem thr_blk {X : Cx} {scope : Scope} {cl : List (Str × Addr)} {N : List Str} {C : Addr} {fp : List Addr} {s : Shared} {H : Hp} : Thr (blk X scope cl N C fp s H) E0 :=
  ⟨PassesOwn.never, fun _ _ _ _ _ _ _ ⟨_, _, _, _, _, _, _, _, _, _, _, _, _, q⟩ => q, fun _ _ _ _ _ _ _ _ _ _ _ _ _ _ _ _ _ _ q => q⟩
noncomputable def cmpL (src : Src) (tg : Tg) (c : Tv) (f : Ev) (n : Nat) : Nat → Nat → Ro → Sto → Out Unit
  | fuel, i, ρ, M => match nxt src i M with
    | none => .bad
    | some none => .ok () M
    | some (some d) => (match fuel with
      | 0 => .bad
      | fuel + 1 => (match tg d ρ with
        | none => .bad
        | some ρ1 => (match c ρ1 M with
          | .ok true M1 => (match f ρ1 M1 with
            | .ok x M2 => (match M2[n]? with
              | some (.lst xs) => if xs.length < 10000000 then cmpL src tg c f n fuel (i + 1) ρ1 (M2.set n (.lst (xs ++ [x]))) else .bad
              | none => .bad)
            | _ => .bad)
          | .ok false M1 => cmpL src tg c f n fuel (i + 1) ρ1 M1
          | _ => .bad)))
noncomputable def roB (k : Nat) (fr : List Nat) (ρ : Ro) : Ro := List.replicate k none ++ fr.map fun i => (ρ[i]?).join
noncomputable def eComp (fi : Ro → Sto → Out Src) (k : Nat) (fr : List Nat) (tg : Tg) (c : Tv) (f : Ev) : Ev := fun ρ M => (fi ρ M).bind fun src M1 => match cmpL src tg c f M1.length (cnt src M1) 0 (roB k fr ρ) (M1 ++ [.lst []]) with
  | .ok _ M2 => .ok (.ref M1.length) M2
  | _ => .bad
structure Blk (X : Cx) (scope : Scope) (cl : List (Str × Addr)) (N : List Str) (k : Nat) (fr : List Nat) : Prop where
  clos : closureFor scope X.env = pure cl
  kind : scope.kind = .function
  cell : ∀ y ∈ scope.names, y.2 ≠ .cell
  names : ∀ y ∈ scope.names, y.2 = .local → scope.names.lookup y.1 = some .local
  sub : ∀ x c, cl.lookup x = some c → X.env.cells.lookup x = some c
  has : ∀ x, ((relabel scope X.env).names.lookup x = some .cell ∨ (relabel scope X.env).names.lookup x = some .free) → ∃ c, cl.lookup x = some c
  len : N.length = k + fr.length
  at_ : ∀ (j i : Nat), fr[j]? = some i → ∃ x, N[k + j]? = some x ∧ X.N[i]? = some x ∧ X.env.kindOf x = some .cell ∧ ((relabel scope X.env).names.lookup x = some .cell ∨ (relabel scope X.env).names.lookup x = some .free) ∧ cl.lookup x = X.env.cells.lookup x
theorem compLoop_any {prog : Program} {w : World} {A : Around} {R : Result → Shared → Prop} {s : Shared} {elt target iter : Expr} {ifs : List Expr} {scope : Scope} {pos : Pos} {it acc : Value} {env : Env} (I : Nat → Shared → Prop)
    (turn : ∀ n s, I n s → wpAny (model prog w) A (pyNext it) (fun r s₁ => match r with
      | none => R (.ok .next) s₁
      | some v => wpAny (model prog w) A (letOwnedTupleGo target it v) (fun _ s₁ => wpAny (model prog w) A (assign target env v) (fun _ s₂ =>
          wpAny (model prog w) A (forIn ifs true fun c r => if r = true then do let ok ← isTrue c env (eval c env); pure (ForInStep.yield ok) else pure (ForInStep.yield r)) (fun ok s₃ =>
            if ok = true then wpAny (model prog w) A (eval elt env) (fun x s₄ =>
              wpAny (model prog w) A (call (.builtin "list.append") [acc, x]) (fun _ s₅ => ∃ m, m < n ∧ I m s₅) (fun _ _ => False) s₄) (fun _ _ => False) s₃
            else ∃ m, m < n ∧ I m s₃) (fun _ _ => False) s₂) (fun _ _ => False) s₁) (fun _ _ => False) s₁) (fun _ _ => False) s)
    (n : Nat) (h : I n s) :
    codeAny (model prog w) A (.compLoop (.ListComp elt [⟨target, iter, ifs, 0⟩] scope pos) 0 it acc env) R s := by
  refine codeAny_loop rfl I (fun n s hI => ?_) n h
  show wpAny _ A ((compTurn (.ListComp elt [⟨target, iter, ifs, 0⟩] scope pos) 0 it acc env).onRaise (fun x => do noteFrame x env; theTreesLotGoes x)) _ _ s
  refine wpAny_noted ?_
  rw [compTurn_list]
  refine wpAny_bind (wpAny_standAt (wpAny_bind (wpAny_mono (turn n s hI) (fun r s₁ h₁ => ?_) fun _ _ h' => h'.elim)))
  cases r with
  | none => exact wpAny_pure h₁
  | some v =>
    refine wpAny_bind (wpAny_mono h₁ (fun _ s₁ h₁ => ?_) fun _ _ h' => h'.elim)
    refine wpAny_bind (wpAny_mono h₁ (fun _ s₂ h₂ => wpAny_bind (wpAny_mono h₂ (fun ok s₃ h₃ => ?_) fun _ _ h' => h'.elim)) fun _ _ h' => h'.elim)
    cases ok with
    | false => exact wpAny_pure ⟨rfl, h₃⟩
    | true =>
      exact wpAny_bind (wpAny_bind (wpAny_mono h₃ (fun x s₄ h₄ => wpAny_bind (wpAny_mono h₄ (fun _ s₅ h₅ => wpAny_pure (wpAny_pure ⟨rfl, h₅⟩)) fun _ _ h' => h'.elim)) fun _ _ h' => h'.elim))
noncomputable def DC (X : Cx) (ifs : List Expr) (c : Tv) : Prop := (ifs = [] ∧ c = fun _ M => .ok true M) ∨ ∃ e, ifs = [e] ∧ DT X E0 e c
section
variable {X : Cx} {ξ : XK} {tg iter elt : Expr} {ifs : List Expr} {scope : Scope} {cl : List (Str × Addr)} {N : List Str} {k : Nat} {fr : List Nat} {fi : Ro → Sto → Out Src} {gt : Tg} {c : Tv} {f : Ev} {pos : Pos}
theorem blk_ok (B : Blk X scope cl N k fr) {pins : List (Addr × Obj)} {σ : L2.St} {H : Hp} {s : Shared} {fp : List Addr} (I : Inv X pins σ H s) (hf : ∀ b ∈ fp, FpOk X pins H b) (hlt : ∀ b ∈ fp, b < s.heap.objs.size) : (blk X scope cl N s.heap.objs.size fp s H).Ok where
  mod := I.ok.mod
  kind := B.kind
  glob := I.ok.glob
  blt := I.ok.blt
  above := Nat.le_refl _
  inj := fun x y c h1 h2 => I.ok.inj x y c (B.sub x c h1) (B.sub y c h2)
  has := fun x h => B.has x h
  cab := fun x c h => (by cases h)
  hd := I.ok.hd
  frames := I.ok.frames
  stk := .inl rfl
  exf := fun b hb => ⟨Nat.ne_of_lt (hlt b hb), fun x c h => (hf b hb).2.2.2.2.1 x c (B.sub x c h)⟩
  bs := I.bs
  bsz := Nat.le_trans I.ok.bsz I.sz
  noex := fun b o e hb => by
    rcases (hf b hb).2.2.2.1 with z | z
    · exact I.ok.noex b o e z
    · exact absurd (Nat.lt_of_lt_of_le (Heap.lt_size (I.ok.bs b o e).1) z) (Nat.lt_irrefl _)
  exfs := fun b hb z => by
    rcases List.mem_cons.mp (I.stkSub b z) with e | e
    · exact (hf b hb).2.1 e
    · exact (hf b hb).2.2.1 e
  funs := I.stack
  frf := I.stkFree
theorem join_some {α : Type} {o : Option (Option α)} {v : α} (h : o.join = some v) : o = some (some v) := by
  cases o with
  | none => cases h
  | some x => cases x with
    | none => cases h
    | some y => cases h; rfl
theorem roB_get {ρ : Ro} {i : Nat} {d : D} (h : (roB k fr ρ)[i]? = some (some d)) : ∃ j r, i = k + j ∧ fr[j]? = some r ∧ ρ[r]? = some (some d) := by
  unfold roB at h
  by_cases hi : i < k
  · rw [List.getElem?_append_left (by rw [List.length_replicate]; exact hi)] at h
    have := List.mem_of_getElem? h
    rw [List.mem_replicate] at this
    cases this.2
  · rw [List.getElem?_append_right (by rw [List.length_replicate]; omega), List.length_replicate, List.getElem?_map] at h
    cases e : fr[i - k]? with
    | none => rw [e] at h; cases h
    | some r =>
      rw [e] at h
      exact ⟨i - k, r, by omega, e, join_some (Option.some.inj h)⟩
noncomputable def stB (k : Nat) (fr : List Nat) (σ : L2.St) : L2.St := List.replicate k none ++ fr.map fun i => (σ[i]?).join
theorem stB_get {σ : L2.St} {i : Nat} {d : V} (h : (stB k fr σ)[i]? = some (some d)) : ∃ j r, i = k + j ∧ fr[j]? = some r ∧ σ[r]? = some (some d) := by
  unfold stB at h
  by_cases hi : i < k
  · rw [List.getElem?_append_left (by rw [List.length_replicate]; exact hi)] at h
    have := List.mem_of_getElem? h
    rw [List.mem_replicate] at this
    cases this.2
  · rw [List.getElem?_append_right (by rw [List.length_replicate]; omega), List.length_replicate, List.getElem?_map] at h
    cases e : fr[i - k]? with
    | none => rw [e] at h; cases h
    | some r =>
      rw [e] at h
      exact ⟨i - k, r, by omega, e, join_some (Option.some.inj h)⟩
theorem SR.blk {K : PySem.W.Frag} {H : Hp} {α : List Addr} {σ : L2.St} {ρ : Ro} (h : SR K H α σ ρ) : SR K H α (stB k fr σ) (roB k fr ρ) := by
  refine ⟨by simp [stB, roB], fun i d e => ?_⟩
  obtain ⟨j, r, rfl, e1, e2⟩ := roB_get e
  obtain ⟨v, e3, e4⟩ := h.2 r d e2
  refine ⟨v, ?_, e4⟩
  unfold stB
  rw [List.getElem?_append_right (by rw [List.length_replicate]; omega), List.length_replicate, List.getElem?_map, Nat.add_sub_cancel_left, e1]
  show some (σ[r]?).join = _
  rw [e3]
  rfl
theorem blk_inv (B : Blk X scope cl N k fr) {pins : List (Addr × Obj)} {σ : L2.St} {H : Hp} {s : Shared} {fp : List Addr} {h1 : Heap} {tk : Nat} {m : Str → Option Value} (I : Inv X pins σ H s) (hf : ∀ b ∈ fp, FpOk X pins H b) (hlt : ∀ b ∈ fp, b < s.heap.objs.size)
    (hn : h1.Ns s.heap.objs.size m) (hk : ∀ b o, s.heap.get? b = some o → h1.get? b = some o) : Inv (blk X scope cl N s.heap.objs.size fp s H) [] (stB k fr σ) H { s with heap := h1, toks := tk } where
  ok := blk_ok B I hf hlt
  os := rfl
  bare := I.bare
  base := Un.kept hk
  loc := by
    refine ⟨m, hn, fun i x v e1 e2 e3 => ?_⟩
    obtain ⟨j, r, rfl, g1, g2⟩ := stB_get e2
    obtain ⟨y, k1, k2, k3, k4, k5⟩ := B.at_ j r g1
    have exy : x = y := Option.some.inj (e1.symm.trans k1)
    subst exy
    obtain ⟨m0, hm0, hl⟩ := I.loc
    obtain ⟨u, ru, lk⟩ := hl r x v k2 g2 (.inr (.inl k3))
    refine ⟨u, ru, ?_⟩
    rcases lk with ⟨z, _⟩ | ⟨_, c, z1, ⟨o, z2, z3⟩⟩
    · rw [k3] at z; cases z
    · exact .inr ⟨k4, c, k5.trans z1, ⟨o, hk _ _ z2, z3⟩⟩
  cell := fun x c h => by
    obtain ⟨v, o, e1, e2⟩ := I.cell x c (B.sub x c h)
    exact ⟨v, o, hk _ _ e1, e2⟩
  free := I.fresh
  freeC := fun x c h => I.freeC x c (B.sub x c h)
  pin := fun p hp => (by simp [blk] at hp)
  hok := I.hok.kept hk
  len := by
    show (stB k fr σ).length = N.length
    rw [B.len]
    simp [stB]
  qd := I.qd
theorem de_comp (B : Blk X scope cl N k fr) (hi : DI X ξ tg iter fi) (hg : ∀ C fp s H, DG (blk X scope cl N C fp s H) tg gt) (ht : ∀ C fp s H, DC (blk X scope cl N C fp s H) ifs c) (he : ∀ C fp s H, DE (blk X scope cl N C fp s H) E0 elt f)
    (hs : ∀ x, foldedSetIterable iter X.env x = pure x := by intro _; rfl) : DE X ξ (.ListComp elt [⟨tg, iter, ifs, 0⟩] scope pos) (eComp fi k fr gt c f) := by
  obtain ⟨wi, pi, qi⟩ := hi
  refine ⟨fun σ H Q => ∃ ρ α M, SR X.K H α σ ρ ∧ HR X.K H α M ∧ OP X.K H α ξ Q (eComp fi k fr gt c f ρ M), ?_, fun σ ρ H α M Q s h q => ⟨ρ, α, M, s, h, q⟩⟩
  rintro pins s σ H Q I ⟨ρ, α, M, sr, hr, op⟩
  rw [eval_ListComp]
  refine wpAny_comprehension_free (use := none) rfl hs B.clos B.kind B.names ?_
  refine thn (pi pins s σ H (fun J H2 => ∃ α2 M2 src, Ext X.K H H2 α α2 ∧ HR X.K H2 α2 M2 ∧ SrcR X.K H2 α2 J src ∧ OP X.K H2 α2 ξ Q (match cmpL src gt c f M2.length (cnt src M2) 0 (roB k fr ρ) (M2 ++ [.lst []]) with | .ok _ M2' => .ok (.ref M2.length) M2' | _ => .bad)) I
    (qi σ ρ H α M _ sr hr (OG.seq op fun src M1 J H1 α1 e1 h1 r1 q1 => ⟨α1, M1, src, e1, h1, r1, q1⟩))) fun v s1 w1 => thn w1 fun itv s2 w2 => ?_
  obtain ⟨it, fp, tn, J, H2, rfl, I2, T, st2, f2, α2, M2, src, e2, h2, sc, op2⟩ := w2
  have srI := sr.mono e2
  -- the list that grows
  refine wpAny_newObj_type ?_
  have I3 : Inv X pins σ (upd H2 s2.heap.objs.size (.lst [])) { s2 with heap := s2.heap.push { cls := .type "list", data := .seq ([] : List Value).toArray } } := I2.lnew (its := []) (t' := s2.toks) .nil (Nat.zero_le _)
  have fD : H2 s2.heap.objs.size = none := I2.fresh
  generalize hD : s2.heap.objs.size = D at I3 fD
  generalize hs3 : ({ s2 with heap := s2.heap.push { cls := .type "list", data := .seq ([] : List Value).toArray } } : Shared) = s3 at I3
  generalize hH3 : upd H2 D (.lst []) = H3 at I3
  have h3 : HR X.K H3 (α2 ++ [D]) (M2 ++ [.lst []]) := by rw [← hH3]; exact h2.new fD .nil
  have e3 : Ext X.K H2 H3 α2 (α2 ++ [D]) := by rw [← hH3]; exact Ext.new fD
  have aD : RefK H3 (α2 ++ [D]) 0 M2.length D := ⟨h2.last D, by first | exact Kn.lst upd_same | (rw [← hH3]; exact Kn.lst upd_same)⟩
  have lt2 : ∀ b ∈ fp, b < s2.heap.objs.size := fun b hb => let ⟨o, e, _⟩ := T.obj _ _ st2 b hb; Heap.lt_size e
  have keep3 : ∀ b o, s2.heap.get? b = some o → s3.heap.get? b = some o := fun b o e => by rw [← hs3]; exact Heap.get?_push_of_some _ e
  have f3 : ∀ b ∈ fp, FpOk X pins H3 b := fun b hb => ⟨by rw [← hH3, upd_ne (by rw [← hD]; exact Nat.ne_of_lt (lt2 b hb))]; exact (f2 b hb).1, (f2 b hb).2⟩
  have lt3 : ∀ b ∈ fp, b < s3.heap.objs.size := fun b hb => let ⟨o, e, _⟩ := T.obj _ _ st2 b hb; Heap.lt_size (keep3 b o e)
  have st3 : tn 0 s3.heap := T.keep _ _ _ st2 fun b _ o e => keep3 b o e
  refine wpAny_newFunctionEnv B.cell (by intro y hy; simp at hy) (fun h₁ hns₁ hsb₁ => ?_) B.kind
  have keep4 : ∀ b o, s3.heap.get? b = some o → h₁.get? b = some o := fun b o e => hsb₁.extBut b o (Nat.ne_of_lt (Heap.lt_size e)) (Heap.get?_push_of_some _ e)
  have I4 := blk_inv (tk := s3.toks + ([] : List (Str × Value)).length) B I3 f3 lt3 hns₁ keep4
  have st4 : tn 0 h₁ := T.keep _ _ _ st3 fun b _ o e => keep4 b o e
  generalize hX : blk X scope cl N s3.heap.objs.size fp s3 H3 = Y at I4
  have YK : Y.K = X.K := by rw [← hX]; rfl
  have Yp : Y.prog = X.prog := by rw [← hX]; rfl
  have Yw : Y.w = X.w := by rw [← hX]; rfl
  have YA : Y.A = X.A := by rw [← hX]; rfl
  have Ye : Y.env = compEnvC scope cl s3.heap.objs.size X.env := by rw [← hX]; rfl
  obtain ⟨tt, pt, qt⟩ := hg s3.heap.objs.size fp s3 H3
  obtain ⟨te, pe, qe⟩ := he s3.heap.objs.size fp s3 H3
  have tst := ht s3.heap.objs.size fp s3 H3
  rw [hX] at pt qt pe qe tst
  cases er : cmpL src gt c f M2.length (cnt src M2) 0 (roB k fr ρ) (M2 ++ [.lst []]) with
  | exc x M9 => rw [er] at op2; exact op2.elim
  | bad => rw [er] at op2; exact op2.elim
  | ok u9 M9 =>
    rw [er] at op2
    have loop : codeAny (model X.prog X.w) X.A (.compLoop (.ListComp elt [⟨tg, iter, ifs, 0⟩] scope pos) 0 (.ref it) (.ref D) (compEnvC scope cl s3.heap.objs.size X.env)) (compPost (model X.prog X.w) X.A X.xe none (EP X pins σ Q) (.ref D) s3.heap.objs.size) { s3 with heap := h₁, toks := s3.toks + ([] : List (Str × Value)).length } := by
      refine compLoop_any (fun n s' => ∃ i σ' ρ' H' α' M', Inv Y [] σ' H' s' ∧ tn i s'.heap ∧ (∀ b ∈ fp, H' b = none) ∧ SR X.K H' α' σ' ρ' ∧ HR X.K H' α' M' ∧ Ext X.K H3 H' (α2 ++ [D]) α' ∧ cmpL src gt c f M2.length n i ρ' M' = .ok u9 M9) ?_ (cnt src M2)
        ⟨0, stB k fr σ, roB k fr ρ, H3, α2 ++ [D], M2 ++ [.lst []], I4, st4, fun b hb => (f3 b hb).1, (srI.blk).mono e3, h3, Ext.refl, er⟩
      rintro n s5 ⟨i, σ5, ρ5, H5, α5, M5, I5, st5, fr5, sr5, hr5, ex5, en⟩
      have fp5 : ∀ {H' : Hp}, (∀ b ∈ fp, H' b = none) → ∀ b ∈ fp, FpOk Y [] H' b := fun hn b hb => ⟨hn b hb, by rw [Ye]; exact Nat.ne_of_lt (lt3 b hb), by
        have := (blk_ok B I3 f3 lt3).exfs b hb
        rw [hX] at this; exact this, .inl (by rw [← hX]; exact hb), fun x c h => (by rw [Ye] at h; exact (f3 b hb).2.2.2.2.1 x c (B.sub x c h)), fun p hp => (by rw [← hX] at hp; simp [blk] at hp)⟩
      have src5 := sc i H5 α5 M5 (e3.trans ex5) hr5
      rw [cmpL] at en
      cases ex : nxt src i M5 with
      | none => rw [ex] at en; cases en
      | some od =>
        rw [ex] at src5 en
        cases od with
        | none =>
          cases en
          have fin := T.done Y Yp Yw YK YA i [] s5 σ5 H5 (fun _ _ => False) I5 (fp5 fr5) st5 src5
          rw [YA] at fin
          refine thn fin fun r s6 ⟨hr6, I6⟩ => ?_
          subst hr6
          obtain ⟨m6, hm6, _⟩ := id I6.loc
          rw [Ye] at hm6
          refine ⟨m6, hm6, fun h' sb => ?_⟩
          have un := I6.base
          have hok6 := I6.hok
          have I7 : Inv X pins σ H5 s6 := by
            refine I3.call' (s' := s6) (ch := fp) ?_ ?_ ?_ I6.bare fun b hb => ?_
            · have := I6.os
              rw [this, ← hX]; rfl
            · rw [← hX] at un
              exact un
            · rw [Yp, Yw] at hok6
              exact hok6
            · obtain ⟨_, z1, z2, z3, z4, z5⟩ := f3 b hb
              exact ⟨z3, z1, z4, z5⟩
          have hC : H5 s3.heap.objs.size = none := by have := I6.free; rw [Ye] at this; exact this
          have I8 : Inv X pins σ H5 { s6 with heap := h', toks := s6.toks } := I7.turned (it := s3.heap.objs.size) (fun b o hb e => (sb.2 b hb).trans e) hC (Nat.ne_of_gt I3.lt) (.inr I3.sz)
            (fun x c h z => by
              obtain ⟨v, o, e, _⟩ := I3.cell x c h
              exact absurd (Heap.lt_size e) (by rw [z]; exact Nat.lt_irrefl _)) (fun p hp z => by
              have := (I3.pin p hp).1
              exact absurd (Heap.lt_size this) (by rw [z]; exact Nat.lt_irrefl _))
          exact ⟨.ref D, H5, I8, rfl, op2 _ H5 α5 (e3.trans ex5) hr5 (.ref (ex5.get aD))⟩
        | some d =>
          obtain ⟨go, yl⟩ := src5
          cases n with
          | zero => cases en
          | succ n =>
            simp only at en
            have itm := T.item Y Yp Yw YK YA i [] s5 σ5 H5 (fun _ _ => False) I5 (fp5 fr5) st5 go
            rw [YA] at itm
            refine thn itm fun r s6 ⟨u, hr6, w6⟩ => ?_
            subst hr6
            refine thn w6 fun _ s7 ⟨x, H7, I7, r7, y7, st7, fr7⟩ => ?_
            obtain ⟨ex7, hr7, rp7⟩ := yl x H7 y7
            have sr5 := sr5.mono ex7
            have hr5 := hr7
            have ex5 := ex5.trans ex7
            have I7' := I7.pinned (fp5 fr7) (T.obj _ _ st7)
            cases eg : gt d ρ5 with
            | none => rw [eg] at en; cases en
            | some ρ6 =>
              rw [eg] at en
              simp only at en
              have asg := pt _ s7 σ5 H7 x u _ I7' r7 (qt x d σ5 ρ5 H7 α5 ρ6 (fun σ' H' => H' = H7 ∧ SR X.K H7 α5 σ' ρ6) (by rw [YK]; exact sr5) (by rw [YK]; exact rp7) eg fun σ' s' => ⟨rfl, by rw [YK] at s'; exact s'⟩)
              rw [Yp, Yw, YA, Ye] at asg
              refine wpAny_mono asg (fun _ s8 ⟨σ8, H8, I8, z8, sr8⟩ => ?_) (fun _ _ z => by rw [← hX] at z; exact z)
              subst z8
              have again : ∀ {σ9 : L2.St} {H9 : Hp} {s9 : Shared}, Inv Y ([] ++ pinsAt fp s7.heap) σ9 H9 s9 → Inv Y [] σ9 H9 s9 ∧ tn (i + 1) s9.heap ∧ ∀ b ∈ fp, H9 b = none := fun {σ9 H9 s9} I9 => by
                refine ⟨I9.unpinned, T.keep _ _ _ st7 fun b hb o e => (I9.pin (b, o) (List.mem_append_right _ (List.mem_append_right _ (mem_pinsAt hb e)))).1, fun b hb => ?_⟩
                obtain ⟨o, e, _⟩ := T.obj _ _ st7 b hb
                exact (I9.pin (b, o) (List.mem_append_right _ (List.mem_append_right _ (mem_pinsAt hb e)))).2.1
              -- what comes behind the tests
              have after : ∀ (kk : Bool) (M8 : Sto) (H9 : Hp) (α9 : List Addr) (s9 : Shared), Inv Y ([] ++ pinsAt fp s7.heap) σ8 H9 s9 → Ext X.K H8 H9 α5 α9 → HR X.K H9 α9 M8 → c ρ6 M5 = .ok kk M8 →
                  (if kk = true then wpAny (model X.prog X.w) X.A (eval elt (compEnvC scope cl s3.heap.objs.size X.env)) (fun x s₄ => wpAny (model X.prog X.w) X.A (call (.builtin "list.append") [.ref D, x]) (fun _ s₅ => ∃ m, m < n + 1 ∧ ∃ i σ' ρ' H' α' M', Inv Y [] σ' H' s₅ ∧ tn i s₅.heap ∧ (∀ b ∈ fp, H' b = none) ∧ SR X.K H' α' σ' ρ' ∧ HR X.K H' α' M' ∧ Ext X.K H3 H' (α2 ++ [D]) α' ∧ cmpL src gt c f M2.length m i ρ' M' = .ok u9 M9) (fun _ _ => False) s₄) (fun _ _ => False) s9
                   else ∃ m, m < n + 1 ∧ ∃ i σ' ρ' H' α' M', Inv Y [] σ' H' s9 ∧ tn i s9.heap ∧ (∀ b ∈ fp, H' b = none) ∧ SR X.K H' α' σ' ρ' ∧ HR X.K H' α' M' ∧ Ext X.K H3 H' (α2 ++ [D]) α' ∧ cmpL src gt c f M2.length m i ρ' M' = .ok u9 M9) := by
                intro kk M8 H9 α9 s9 I9 ex9 hr9 ec
                rw [ec] at en
                cases kk with
                | false =>
                  obtain ⟨a1, a2, a3⟩ := again I9
                  exact iteF ⟨n, Nat.lt_succ_self n, i + 1, σ8, ρ6, H9, α9, M8, a1, a2, a3, sr8.mono ex9, hr9, ex5.trans ex9, en⟩
                | true =>
                  simp only at en
                  refine iteT ?_
                  cases ef : f ρ6 M8 with
                  | exc x9 M10 => rw [ef] at en; cases en
                  | bad => rw [ef] at en; cases en
                  | ok y M10 =>
                    rw [ef] at en
                    simp only at en
                    have ev := pe _ s9 σ8 H9 (fun v H' => ∃ α', Ext X.K H9 H' α9 α' ∧ HR X.K H' α' M10 ∧ Rep X.K H' α' v y) I9 (qe σ8 ρ6 H9 α9 M8 _ (by rw [YK]; exact sr8.mono ex9) (by rw [YK]; exact hr9) (by
                      rw [ef, YK]
                      exact fun v H' α' e h r => ⟨α', e, h, r⟩))
                    rw [Yp, Yw, YA, Ye] at ev
                    refine wpAny_mono ev (fun yv s10 ⟨v, H10, I10, r10, α10, ex10, hr10, rp10⟩ => ?_) (fun _ _ z => by rw [← hX] at z; exact z)
                    cases em : M10[M2.length]? with
                    | none => rw [em] at en; cases en
                    | some so =>
                      cases so with
                      | lst ds =>
                        rw [em] at en
                        simp only at en
                        by_cases cz : ds.length < 10000000
                        · rw [if_pos cz] at en
                          have aD10 := ex10.get (ex9.get (ex5.get aD))
                          obtain ⟨xs, g1, g2⟩ := hr10.at aD10 em
                          have ap := mt_append (X := Y) _ s10 σ8 H10 (.ref D) [v] (.ref D) [yv] (fun _ H' => H' = upd H10 D (.lst (xs ++ [v]))) I10 rfl (.cons r10 .nil) ⟨D, xs, v, rfl, rfl, g1, by rw [g2.length]; exact Nat.lt_of_lt_of_le cz (by decide), rfl⟩
                          rw [Yp, Yw, YA] at ap
                          refine wpAny_mono ap (fun _ s11 ⟨v11, H11, I11, _, z11⟩ => ?_) (fun _ _ z => by rw [← hX] at z; exact z)
                          subst z11
                          obtain ⟨a1, a2, a3⟩ := again I11
                          have exw : Ext X.K H10 (upd H10 D (.lst (xs ++ [v]))) α10 α10 := Ext.wr g1
                          exact ⟨n, Nat.lt_succ_self n, i + 1, σ8, ρ6, _, α10, _, a1, a2, a3, ((sr8.mono ex9).mono ex10).mono exw, hr10.wr aD10 g1 (g2.append (.cons rp10 .nil)), ((ex5.trans ex9).trans ex10).trans exw, en⟩
                        · rw [if_neg cz] at en
                          cases en
              rcases tst with ⟨rfl, ec⟩ | ⟨e, rfl, tt', ptt, qtt⟩
              · refine wpAny_tests_nil ?_
                exact after true M5 H8 α5 s8 I8 Ext.refl hr5 (by rw [ec])
              · refine wpAny_tests_one ?_
                cases ec : c ρ6 M5 with
                | exc x9 M10 => rw [ec] at en; cases en
                | bad => rw [ec] at en; cases en
                | ok kk M8 =>
                  have tv' := ptt _ s8 σ8 H8 (fun b H' => b = kk ∧ ∃ α', Ext X.K H8 H' α5 α' ∧ HR X.K H' α' M8) I8 (qtt σ8 ρ6 H8 α5 M5 _ (by rw [YK]; exact sr8) (by rw [YK]; exact hr5) (by
                    rw [ec, YK]
                    exact fun v H' α' e h r => ⟨r, α', e, h⟩))
                  rw [Yp, Yw, YA, Ye] at tv'
                  refine wpAny_mono tv' (fun b s9 ⟨H9, I9, zb, α9, ex9, hr9⟩ => ?_) (fun _ _ z => by rw [← hX] at z; exact z)
                  subst zb
                  exact after b M8 H9 α9 s9 I9 ex9 hr9 ec
    exact codeAny_compStart_list loop (T.self X.A 0 _ _ _ st4 loop)
end
end DL


end
section
set_option Elab.async false
set_option linter.all false
set_option maxRecDepth 100000
set_option maxHeartbeats 4000000
namespace DL
open PySem PySem.Spec PyProof.Rows L2
theorem relabel0 {names : List (Str × NameKind)} {env : Env} (h : names.all (fun y => y.2 != .cell && y.2 != .free) = true) :
    (names.map fun (n, k) => if (k == NameKind.free && env.scope.kind == .function && env.kindOf n == some .cell) then (n, NameKind.cell) else (n, k)) = names := by
  induction names with
  | nil => rfl
  | cons y r ih =>
    rw [List.all_cons, Bool.and_eq_true] at h
    obtain ⟨n, kd⟩ := y
    have hk : (kd == NameKind.free) = false := by
      have h1 := h.1
      rw [Bool.and_eq_true] at h1
      have h2 := h1.2
      cases kd <;> first | rfl | simp at h2
    rw [List.map_cons, ih h.2]
    simp [hk]
theorem clos_of {env : Env} : ∀ (names : List (Str × NameKind)) (acc : List (Str × Addr)), (∀ y ∈ names, y.2 = .free → ∃ c, env.cells.lookup y.1 = some c) →
    (forIn names acc fun (x : Str × NameKind) (cs : List (Str × Addr)) => if x.2 == NameKind.free then (do let a ← cellOf env x.1; pure (ForInStep.yield ((x.1, a) :: cs))) else (pure (ForInStep.yield cs) : Sem _)) =
      (pure (((names.filter fun y => y.2 == .free).map fun y => (y.1, (env.cells.lookup y.1).getD 0)).reverse ++ acc) : Sem (List (Str × Addr)))
  | [], acc, _ => by simp
  | (n, kd) :: r, acc, h => by
    rw [List.forIn_cons]
    by_cases hk : (kd == NameKind.free) = true
    · obtain ⟨c, hc⟩ := h (n, kd) List.mem_cons_self (by simpa using hk)
      have e1 : cellOf env n = pure c := by unfold cellOf; rw [hc]
      have ih := clos_of r ((n, c) :: acc) fun y hy => h y (List.mem_cons_of_mem _ hy)
      simp only [hk, if_true, e1, pure_bind]
      refine Eq.trans ih ?_
      simp [List.filter_cons, hk, hc]
    · have ih := clos_of r acc fun y hy => h y (List.mem_cons_of_mem _ hy)
      simp only [hk, if_false, pure_bind]
      refine Eq.trans ih ?_
      simp [List.filter_cons, hk]
noncomputable def clF (scope : Scope) (env : Env) : List (Str × Addr) := ((scope.names.filter fun y => y.2 == .free).map fun y => (y.1, (env.cells.lookup y.1).getD 0)).reverse
theorem clF_lookup {env : Env} : ∀ {l : List (Str × NameKind)} {x : Str} {c : Addr}, (l.map fun y => (y.1, (env.cells.lookup y.1).getD 0)).lookup x = some c → c = (env.cells.lookup x).getD 0 ∧ ∃ y ∈ l, y.1 = x
  | [], x, c, h => by simp at h
  | y :: r, x, c, h => by
    rw [List.map_cons, List.lookup_cons] at h
    cases e : x == y.1 with
    | true =>
      rw [e] at h
      have ex : x = y.1 := by simpa using e
      cases h
      exact ⟨by rw [ex], y, List.mem_cons_self, ex.symm⟩
    | false =>
      rw [e] at h
      obtain ⟨h1, z, h2, h3⟩ := clF_lookup h
      exact ⟨h1, z, List.mem_cons_of_mem _ h2, h3⟩
theorem lookup_of_mem {α : Type} : ∀ {l : List (Str × α)} {x : Str}, (∃ y ∈ l, y.1 = x) → ∃ c, l.lookup x = some c
  | [], x, h => by obtain ⟨y, h1, _⟩ := h; simp at h1
  | z :: r, x, h => by
    rw [List.lookup_cons]
    cases e : x == z.1 with
    | true => exact ⟨_, rfl⟩
    | false =>
      obtain ⟨y, h1, h2⟩ := h
      rcases List.mem_cons.mp h1 with q | q
      · subst q; rw [h2] at e; simp at e
      · exact lookup_of_mem ⟨y, q, h2⟩
theorem relabel_lookup {env : Env} (nc : ∀ n, env.scope.names.lookup n = env.kindOf n) : ∀ {names : List (Str × NameKind)} {x : Str} {kd : NameKind}, (names.map fun (n, k) => if (k == NameKind.free && env.scope.kind == .function && env.kindOf n == some .cell) then (n, NameKind.cell) else (n, k)).lookup x = some kd →
    names.lookup x = some kd ∨ (names.lookup x = some .free ∧ kd = .cell)
  | [], x, kd, h => by simp at h
  | (n, q) :: r, x, kd, h => by
    rw [List.map_cons, List.lookup_cons] at h
    rw [List.lookup_cons]
    dsimp only at h ⊢
    by_cases c : (q == NameKind.free && env.scope.kind == .function && env.kindOf n == some .cell) = true
    · rw [if_pos c] at h
      dsimp only at h
      cases e : x == n with
      | true =>
        rw [e] at h
        cases h
        simp only [Bool.and_eq_true, beq_iff_eq] at c
        exact .inr ⟨by rw [c.1.1], rfl⟩
      | false => rw [e] at h; exact relabel_lookup nc h
    · rw [if_neg c] at h
      dsimp only at h
      cases e : x == n with
      | true => rw [e] at h; exact .inl h
      | false => rw [e] at h; exact relabel_lookup nc h
theorem relabel_free {env : Env} : ∀ {names : List (Str × NameKind)} {x : Str}, names.lookup x = some .free → (∃ kd, (kd = NameKind.cell ∨ kd = NameKind.free) ∧ (names.map fun (n, k) => if (k == NameKind.free && env.scope.kind == .function && env.kindOf n == some .cell) then (n, NameKind.cell) else (n, k)).lookup x = some kd)
  | [], x, h => by simp at h
  | (n, q) :: r, x, h => by
    rw [List.lookup_cons] at h
    rw [List.map_cons, List.lookup_cons]
    by_cases c : (q == NameKind.free && env.scope.kind == .function && env.kindOf n == some .cell) = true
    · dsimp only
      rw [if_pos c]
      cases e : x == n with
      | true => exact ⟨_, .inl rfl, rfl⟩
      | false => rw [e] at h; exact relabel_free h
    · dsimp only
      rw [if_neg c]
      cases e : x == n with
      | true => rw [e] at h; exact ⟨q, .inr (Option.some.inj h), rfl⟩
      | false => rw [e] at h; exact relabel_free h
noncomputable def frOk (XN N : List Str) (dn sn : List (Str × NameKind)) (k : Nat) (fr : List Nat) : Bool :=
  (sn.all fun y => y.2 != .cell && (y.2 != .free || dn.lookup y.1 == some .cell) && (y.2 != .local || sn.lookup y.1 == some .local)) && N.length == k + fr.length &&
    (List.range fr.length).all fun j => match fr[j]? with
      | some i => (match N[k + j]?, XN[i]? with | some x, some y => x == y && dn.lookup x == some .cell && sn.lookup x == some .free | _, _ => false)
      | none => false
theorem blkF {X : Cx} {scope : Scope} {N : List Str} {k n : Nat} {fr : List Nat} {XN : List Str} {dn : List (Str × NameKind)} (hN : X.N = XN) (hd : X.env.scope.names = dn) (hc : X.env.cells = cellsFrom n dn []) (hk : scope.kind = .function) (h : frOk XN N dn scope.names k fr = true) : Blk X scope (clF scope X.env) N k fr := by
  unfold frOk at h
  simp only [Bool.and_eq_true, List.all_eq_true, bne_iff_ne, ne_eq, Bool.or_eq_true, beq_iff_eq] at h
  obtain ⟨⟨h1, h2⟩, h3⟩ := h
  have kind : ∀ x, X.env.kindOf x = dn.lookup x := fun x => by rw [← hd]; rfl
  have cel : ∀ x, dn.lookup x = some .cell → ∃ c, X.env.cells.lookup x = some c := fun x e => by
    have := PySem.W.cellsFrom_some dn n [] (.inl e)
    rw [hc]
    exact Option.isSome_iff_exists.mp this
  have frc : ∀ y ∈ scope.names, y.2 = .free → ∃ c, X.env.cells.lookup y.1 = some c := fun y hy e => by
    rcases (h1 y hy).1.2 with z | z
    · exact absurd e z
    · exact cel _ z
  have sub : ∀ x c, (clF scope X.env).lookup x = some c → X.env.cells.lookup x = some c := fun x c e => by
    unfold clF at e
    rw [← List.map_reverse] at e
    obtain ⟨e1, y, e2, e3⟩ := clF_lookup e
    have e4 := List.mem_filter.mp (List.mem_reverse.mp e2)
    obtain ⟨c', g⟩ := frc y e4.1 (by simpa using e4.2)
    rw [e3] at g
    rw [g] at e1 ⊢
    rw [e1]
    rfl
  have has : ∀ x, scope.names.lookup x = some .free → ∃ c, (clF scope X.env).lookup x = some c := fun x e => by
    refine lookup_of_mem ?_
    have m := PySem.mem_of_lookup e
    exact ⟨(x, (X.env.cells.lookup x).getD 0), List.mem_reverse.mpr (List.mem_map.mpr ⟨(x, .free), List.mem_filter.mpr ⟨m, by simp⟩, rfl⟩), rfl⟩
  refine ⟨?_, hk, fun y hy => (h1 y hy).1.1, fun y hy e => ?_, sub, fun x z => ?_, h2, fun j i e => ?_⟩
  · have := clos_of (env := X.env) scope.names [] frc
    rw [List.append_nil] at this
    unfold closureFor
    exact (congrArg (fun (m : Sem (List (Str × Addr))) => m >>= fun cs => (pure cs : Sem (List (Str × Addr)))) this).trans (pure_bind _ _)
  · rcases (h1 y hy).2 with z | z
    · exact absurd e z
    · exact z
  · have nc : ∀ m, X.env.scope.names.lookup m = X.env.kindOf m := fun m => rfl
    refine has x ?_
    rcases z with z | z
    · rcases relabel_lookup nc z with q | q
      · exact absurd rfl (h1 _ (PySem.mem_of_lookup q)).1.1
      · exact q.1
    · rcases relabel_lookup nc z with q | q
      · exact q
      · cases q.2
  · have hj : j < fr.length := (List.getElem?_eq_some_iff.mp e).1
    have q := h3 j (List.mem_range.mpr hj)
    rw [e] at q
    dsimp only at q
    cases e1 : N[k + j]? with
    | none => rw [e1] at q; cases q
    | some x =>
      cases e2 : XN[i]? with
      | none => rw [e1, e2] at q; cases q
      | some y =>
        rw [e1, e2] at q
        simp only [Bool.and_eq_true, beq_iff_eq] at q
        obtain ⟨⟨q1, q2⟩, q3⟩ := q
        subst q1
        obtain ⟨kd, r1, r2⟩ := relabel_free (env := X.env) q3
        obtain ⟨c, r3⟩ := has x q3
        refine ⟨x, rfl, by rw [hN]; exact e2, by rw [kind]; exact q2, ?_, r3.trans (sub x c r3).symm⟩
        rcases r1 with r1 | r1
        · exact .inl (r1 ▸ r2)
        · exact .inr (r1 ▸ r2)
section
variable {X : Cx} {ξ : XK}
noncomputable def boolsD : List D → Option (List Bool)
  | [] => some []
  | .bl b :: r => match boolsD r with | some bs => some (b :: bs) | none => none
  | _ :: _ => none
noncomputable def bAll : List D → Sto → Out D := fun ds M => match ds with
  | [.ref n] => (match M[n]? with | some (.lst xs) => (match boolsD xs with | some bs => .ok (.bl (bs.all id)) M | none => .bad) | none => .bad)
  | _ => .bad
end
section
variable {prog : Program} {w : World} {A : Around} {E : Value → Shared → Prop} {s : Shared}
end
section
variable {X : Cx} {ξ : XK} {e : Expr} {f : Ev} {p2 p3 p4 pos : Pos} {j : Nat}
theorem Reps.rev {K : PySem.W.Frag} {H : Hp} {α : List Addr} : ∀ {vs : List V} {ds : List D}, Reps K H α vs ds → Reps K H α vs.reverse ds.reverse
  | _, _, .nil => .nil
  | _, _, .cons r t => by
    rw [List.reverse_cons, List.reverse_cons]
    exact (Reps.rev t).append (.cons r .nil)
end
end DL


end
section
set_option Elab.async false
set_option linter.all false
set_option maxRecDepth 100000
set_option maxHeartbeats 4000000
namespace DL
open PySem PySem.Spec PyProof.Rows L2
section
variable {X : Cx} {ξ : XK}
end
end DL


end
section
set_option Elab.async false
set_option linter.all false
set_option maxRecDepth 100000
set_option maxHeartbeats 4000000
namespace DL
open PySem PySem.Spec PyProof.Rows L2
section
variable {M : Model} {A : Around} {E : Value → Shared → Prop} {s : Shared}
end
section
variable {X : Cx} {ξ : XK} {tg iter elt : Expr} {ifs : List Expr} {scope : Scope} {cl : List (Str × Addr)} {N : List Str} {k : Nat} {fr : List Nat} {fi : Ro → Sto → Out Src} {gt : Tg} {c : Tv} {f : Ev} {pos : Pos}
end
section
variable {X : Cx} {scope0 : Scope} {cl0 : List (Str × Addr)} {N0 : List Str} {k0 : Nat} {fr0 : List Nat} {C : Addr} {fp : List Addr} {s : Shared} {H : Hp} {scope : Scope} {N : List Str} {k : Nat} {fr : List Nat} {dn : List (Str × NameKind)}
end
end DL


end
section
set_option Elab.async false
set_option linter.all false
set_option maxRecDepth 100000
set_option maxHeartbeats 4000000
namespace DL
open PySem PySem.Spec PyProof.Rows L2
open PySem.W (nsIn excIn tailIn nsOkIn mroIn clsIn typeIn findIn specialIn takesIn kitOne Looks)
noncomputable abbrev bmV : List Value := [.type "ValueError", .type "Exception", .type "BaseException", .type "object"]
noncomputable def clsAt (K : PySem.W.Frag) (c : Str) : Option Addr := match nsIn K mainGlobals c with | some (some (.ref C)) => some C | _ => none
theorem clsAt_ns {K : PySem.W.Frag} {c : Str} {C : Addr} (h : clsAt K c = some C) : nsIn K mainGlobals c = some (some (.ref C)) := by
  unfold clsAt at h
  split at h
  · rename_i C' e; cases h; exact e
  · cases h
noncomputable def exOk (K : PySem.W.Frag) (c : Str) : Bool := match clsAt K c with
  | some C => excIn K C bmV "ValueError.__new__" && findIn K (.ref C) "__getattribute__" == some (some (.builtin "BaseException.__getattribute__")) && findIn K (.ref C) "__getattr__" == some none && findIn K (.ref C) "__class__" == some (some (.builtin "object.__class__")) &&
    specialIn K (.builtin "object.__class__") "__get__" == some (some (.builtin "getset_descriptor.__get__")) && takesIn K (.builtin "object.__class__") == some true && mroIn K C (.type "BaseException") == some true && mroIn K C (.type "object") == some true && (clsIn K C).isSome
  | none => false
theorem exOk_at {K : PySem.W.Frag} {c : Str} (h : exOk K c = true) : ∃ C, nsIn K mainGlobals c = some (some (.ref C)) ∧ excIn K C bmV "ValueError.__new__" = true ∧ DQ.ExcC K C := by
  unfold exOk at h
  split at h
  · rename_i C e
    simp only [Bool.and_eq_true, beq_iff_eq] at h
    obtain ⟨⟨⟨⟨⟨⟨⟨⟨h1, h2⟩, h3⟩, h4⟩, h5⟩, h6⟩, h7⟩, h8⟩, h9⟩ := h
    exact ⟨C, clsAt_ns e, h1, h2, h3, h4, h5, h6, h7, h8, h9⟩
  · cases h
theorem exc_obj {K : PySem.W.Frag} {h : Heap} {C : Addr} {bmB : List Value} {newId : String} (X : K.In h) (q : excIn K C bmB newId = true) :
    ∃ bm N nm q bs hdct sn sub ab col dd k0 k1 k2 k3 k5 mN, h.get? C = some (excClassObj nm q C N bs bm hdct sn sub ab col dd k0 k1 k2 k3 k5 newId) ∧ h.Ns N mN ∧ mN "__init__" = none ∧ OwnTail h bmB bm := by
  unfold excIn at q
  split at q
  · rename_i dd cd sl ho
    split at q
    · rename_i C' bm k0 k1 k2 k3 n k5 hm hs
      simp only [Bool.and_eq_true, beq_iff_eq, Bool.not_eq_true'] at q
      obtain ⟨⟨⟨⟨⟨rfl, rfl⟩, hdel⟩, ht⟩, hok⟩, hni⟩ := q
      obtain ⟨nm, bs, mro, ns, qn, hd, sn, sub, ab, col, del⟩ := cd
      dsimp only at hm hdel hok hni
      subst hm hdel
      obtain ⟨l⟩ := sl
      simp only at hs
      subst hs
      exact ⟨bm, ns, nm, qn, bs, hd, sn, sub, ab, col, dd, k0, k1, k2, k3, k5, _, X _ _ ho, .of_isNs (PySem.W.isNs_of_in X hok), PySem.W.nsMap_none_of_in X hok hni, PySem.W.tail_of_in X ht⟩
    · cases q
  · cases q
noncomputable def eIsE (tab : List (Str × Bool)) (f : Ev) : Ev := fun ρ M => (f ρ M).bind fun x M1 => match x with | .err c _ => (match tab.lookup c with | some b => .ok (.bl b) M1 | none => .bad) | _ => .bad
section
variable {X : Cx} {ξ : XK} {e : Expr} {fa : Ev} {p pos : Pos} {tab : List (Str × Bool)}
noncomputable def sRaise (c : Str) (fs : Av) : Sv := fun ρ M => bindF (fs ρ M) fun ds M1 => if ds.length ≤ 1000 then .exc c M1 else .bad
theorem ds_raise {x : Str} {np cpos : Pos} {a : Expr} {as : List Expr} {fs : Av} (T : Thr X ξ) (hx : exOk X.K x = true) (gl : ∀ c v, nsIn X.K mainGlobals c = some (some v) → X.mg c = some v) (hh : X.A.handled = none) (ha : DA X ξ (a :: as) fs) (hg : Gl X x := by rfl) (hdb : (x == ("__debug__" : Str)) = false := by decide)
    (he : starEach (a :: as) X.env = (false, eval a X.env) :: starEach as X.env := by rfl) (hpl : (backTo cpos (starEach as X.env)).any (·.1) = false := by rfl) : DS X ξ (.Raise (some (.Call (.Name x np) (a :: as) [] cpos)) none pos) (sRaise x fs) := by
  obtain ⟨ta, pa, qa⟩ := ha
  obtain ⟨C, hC, hq, _⟩ := exOk_at hx
  refine ⟨fun Dn σ H => ta σ H fun vs H1 => vs.length ≤ sizeLine ∧ ξ (.ref C) none H1, fun pins s σ H Dn I h => ?_, fun σ ρ H α M Dn s h q => ?_⟩
  · obtain ⟨tl, N, nm, q, bs, hdct, sn, sub, ab, col, dd, k0, k1, k2, k3, k5, mN, gC, hN, hni, TL⟩ := exc_obj I.ok.mod.kin hq
    refine wpAny_Raise_call_subT (C := C) (nm := nm) (q := q) (N := N) (bs := bs) (bm := tl) (hdct := hdct) (sn := sn) (sub := sub) (ab := ab) (col := col) (dd := dd) (k0 := k0) (k1 := k1) (k2 := k2) (k3 := k3) (k5 := k5) F.excBase_ValueError (mN := mN)
      (TL.hasType F.excBase_ValueError.hasBase) hh (by rw [he]; show (false || (backTo cpos (starEach as X.env)).any (·.1)) = false; rw [hpl]; rfl) hni (ld_glob I hg (gl x _ hC) ⟨rfl, ?_⟩ hdb)
    have hs := pa cpos pins s σ H _ I h
    rw [he] at hs ⊢
    refine Calls.evalArgs_plain (wpAny_mono hs (fun us s2 ⟨vs, H1, I1, r1, z1, z2⟩ => ⟨rfl, by rw [← r1.length]; exact z1, I1.bk _ _ gC, hN.keeps I1.bk, TL.keeps I1.bk, fun h' e m => ?_⟩) fun _ _ y => y)
    obtain ⟨t, g1, g2, g3⟩ := m.there
    exact T.mak pins σ H1 s2 h' e _ _ C I1 m.keeps m.new g1 rfl rfl rfl rfl rfl z2
  · refine qa σ ρ H α M _ s h (FP.seq q fun ds M1 vs H1 α1 e1 h1 r1 w1 => ?_)
    by_cases hl : ds.length ≤ 1000
    · rw [if_pos hl] at w1
      exact ⟨by rw [r1.length]; exact small hl, w1 C H1 α1 hC Ext.refl h1⟩
    · rw [if_neg hl] at w1
      exact w1.elim
end
end DL


end
section
set_option Elab.async false
set_option linter.all false
set_option maxRecDepth 100000
set_option maxHeartbeats 4000000
namespace DL
open PySem PySem.Spec PyProof.Rows L2
open PySem.W (nsIn excIn tailIn nsOkIn mroIn clsIn typeIn findIn specialIn takesIn kitOne Looks looks_mroIn looks_typeIn)
section
variable {X : Cx} {pins pins' pn : List (Addr × Obj)} {σ : L2.St} {H H' : Hp} {s : Shared} {xe : Value → Shared → Prop} {e : Addr}
end
noncomputable def sTry (gb : Sv) (cs : List Str) (i : Nat) (gh : Sv) : Sv := fun ρ M => match gb ρ M with
  | .exc c M1 => if cs.contains c = true then (match gh ((List.replicate ρ.length none).set i (some (.err c []))) M1 with
    | .ret d M2 => .ret d M2
    | .nx _ M2 => .nx (List.replicate ρ.length none) M2
    | _ => .bad) else .bad
  | o => o
section
variable {X : Cx} {ξ : XK} {d n : Str} {cs : List Str} {i : Nat} {body suite : List Stmt} {b0 : Stmt} {gb gh : Sv} {pos hpos np : Pos}
end
theorem calm_of {k : Nat} {A : Around} {env : Env} (hr : Room k (A.deeper env)) (h : 100 ≤ k) : A.handled.isNone = true := by
  have e : A.handled = none := hr.hd h
  rw [e]
  rfl
end DL


end
section
set_option Elab.async false
set_option linter.all false
set_option maxRecDepth 100000
set_option maxHeartbeats 4000000
namespace DL
open PySem PySem.Spec PyProof.Rows L2
noncomputable abbrev Me := D → List D → Sto → Out D
noncomputable def MO (X : Cx) (ξ : XK) (r : V → List V → Hp → VK → Prop) (g : Me) : Prop := ∀ H α M v vs x ds Q, HR X.K H α M → Rep X.K H α v x → Reps X.K H α vs ds → OP X.K H α ξ Q (g x ds M) → r v vs H Q
theorem HR.wrE {K : PySem.W.Frag} {H : Hp} {α : List Addr} {M : Sto} {n : Nat} {p : Addr} {xs ys : List V} {ds : List D} (h : HR K H α M) (e : RefK H α 0 n p) (hp : H p = some (.lst ys)) (r : Reps K H α xs ds) : Ext K H (upd H p (.lst xs)) α α ∧ HR K (upd H p (.lst xs)) α (M.set n (.lst ds)) :=
  ⟨Ext.wr hp, h.wr e hp r⟩
section
variable {X : Cx} {ξ : XK} {o e : Expr} {es : List Expr} {fo fa : Ev} {fs : Av} {name : Str} {apos cpos pos : Pos} {T id : String} {r : V → List V → Hp → VK → Prop} {g : Me}
noncomputable def lstK (x : D) (M : Sto) : Bool := match x with | .ref n => M[n]?.isSome | _ => false
noncomputable def eMtL (g : Me) (fo : Ev) (fs : Av) : Ev := fun ρ M => (fo ρ M).bind fun x M1 => if lstK x M1 = true then (fs ρ M1).bind fun ds M2 => g x ds M2 else .bad
theorem lstK_ty {K : PySem.W.Frag} {H : Hp} {α : List Addr} {M : Sto} {v : V} {x : D} (h : HR K H α M) (rx : Rep K H α v x) (k : lstK x M = true) : tyV K "list" v H := by
  cases rx with
  | @ref p n hp =>
    obtain ⟨xs, g⟩ := h.some_at hp
    exact .inl ⟨rfl, _, SqL.of g⟩
  | _ => cases k
theorem de_mt (slot : Slot "list" name id) (hty : typeOf (.builtin id) = pure (.type "method_descriptor")) (hm : MtR X id r) (hf : MO X ξ r g) (ho : DE X ξ o fo) (ha : DA X ξ (e :: es) fs)
    (hbase : attributeBase o name X.env (eval o X.env) = eval o X.env := by rfl)
    (hfew : ((backTo cpos (starEach (e :: es) X.env)).all (fun x => !x.1) && (backToKw cpos (keywordEach [] X.env)).all (fun x => x.1.isSome)
      && decide ((e :: es).length + ([] : List Keyword).length + (if ([] : List Keyword).isEmpty then 0 else 1) < 30)) = true := by rfl)
    (hline : (apos.endLine == cpos.line) = true := by rfl) (hs : starEach (e :: es) X.env = (false, eval e X.env) :: starEach es X.env := by rfl) (hplain : (backTo cpos (starEach es X.env)).any (·.1) = false := by rfl) :
    DE X ξ (.Call (.Attribute o name apos) (e :: es) [] cpos) (eMtL g fo fs) := by
  obtain ⟨to, po, qo⟩ := ho
  obtain ⟨ta, pa, qa⟩ := ha
  refine ⟨_, pe_bm PySem.F.plainAttrs_list slot hty hm po pa hbase hfew hline hs hplain, fun σ ρ H α M Q s h q => ?_⟩
  refine qo σ ρ H α M _ s h (OG.seq q fun x M1 v H1 α1 e1 h1 r1 q1 => ?_)
  by_cases k : lstK x M1 = true
  · rw [if_pos k] at q1
    exact ⟨lstK_ty h1 r1 k, qa σ ρ H1 α1 M1 _ (s.mono e1) h1 (OG.seq q1 fun ds M2 vs H2 α2 e2 h2 r2 q2 => hf H2 α2 M2 v vs x ds Q h2 (Rep.mono e2 r1) r2 q2)⟩
  · rw [if_neg k] at q1
    exact q1.elim
noncomputable def mApp : Me := fun x ds M => match x, ds with
  | .ref n, [d] => (match M[n]? with | some (.lst xs) => if xs.length < 10000000 then .ok .non (M.set n (.lst (xs ++ [d]))) else .bad | none => .bad)
  | _, _ => .bad
theorem mo_app : MO X ξ rAppend mApp := by
  intro H α M v vs x ds Q h rx rs q
  cases rx with
  | @ref p n hp =>
    match rs with
    | .nil => exact q.elim
    | .cons _ (.cons _ _) => exact q.elim
    | .cons (v := u) (d := d) ru .nil =>
      cases em : M[n]? with
      | none => simp only [mApp, em] at q; exact q.elim
      | some so =>
        cases so with
        | lst es =>
          obtain ⟨xs, g1, g2⟩ := h.at hp em
          by_cases c : es.length < 10000000
          · simp only [mApp, em, if_pos c] at q
            obtain ⟨k1, k2⟩ := h.wrE hp g1 (g2.append (.cons ru .nil))
            exact ⟨p, xs, u, rfl, rfl, g1, by rw [g2.length]; exact Nat.lt_of_lt_of_le c (by decide), q _ _ α k1 k2 .non⟩
          · simp only [mApp, em, if_neg c] at q
            exact q.elim
  | _ => cases rs <;> exact q.elim
noncomputable def mClr : Me := fun x ds M => match x, ds with
  | .ref n, [] => (match M[n]? with | some (.lst _) => .ok .non (M.set n (.lst [])) | none => .bad)
  | _, _ => .bad
noncomputable def mExt : Me := fun x ds M => match x, ds with
  | .ref n, [.ref m] => (match M[n]?, M[m]? with | some (.lst xs), some (.lst ys) => if xs.length + ys.length ≤ 10000000 then .ok .non (M.set n (.lst (xs ++ ys))) else .bad | _, _ => .bad)
  | _, _ => .bad
theorem de_append (ho : DE X ξ o fo) (ha : DE X ξ e fa) (hbase : attributeBase o "append" X.env (eval o X.env) = eval o X.env := by rfl)
    (hfew : ((backTo cpos (starEach [e] X.env)).all (fun x => !x.1) && (backToKw cpos (keywordEach [] X.env)).all (fun x => x.1.isSome)
      && decide ([e].length + ([] : List Keyword).length + (if ([] : List Keyword).isEmpty then 0 else 1) < 30)) = true := by rfl)
    (hline : (apos.endLine == cpos.line) = true := by rfl) (hs : starEach [e] X.env = (false, eval e X.env) :: starEach [] X.env := by rfl) (hplain : (backTo cpos (starEach [] X.env)).any (·.1) = false := by rfl) :
    DE X ξ (.Call (.Attribute o "append" apos) [e] [] cpos) (eMtL mApp fo (aCons fa aNil)) := de_mt PySem.F.slot_list_append PySem.F.type_list_append mt_append mo_app ho (da_cons ha da_nil hs) hbase hfew hline hs hplain
noncomputable def oNo : Ro → Sto → Out (Option Int) := fun _ M => .ok none M
noncomputable def oSo (f : Ev) : Ro → Sto → Out (Option Int) := fun ρ M => (f ρ M).bind fun x M1 => match x with | .int i => .ok (some i) M1 | _ => .bad
noncomputable def cutD (xs : List D) (lo hi : Option Int) : List D := (xs.drop (HT.sIx xs.length 0 lo)).take (HT.sIx xs.length xs.length hi - HT.sIx xs.length 0 lo)
noncomputable def eSl (f : Ev) (lo hi : Ro → Sto → Out (Option Int)) : Ev := fun ρ M => (f ρ M).bind fun x M1 => (lo ρ M1).bind fun l M2 => (hi ρ M2).bind fun u M3 => match x with
  | .ref n => (match M3[n]? with | some (.lst xs) => .ok (.ref M3.length) (M3 ++ [.lst (cutD xs l u)]) | none => .bad)
  | .rol xs => .ok (.ref M3.length) (M3 ++ [.lst (cutD xs l u)])
  | .tup xs => if HT.sIx xs.length 0 l = 0 ∧ HT.sIx xs.length xs.length u = xs.length then .bad else .ok (.tup (cutD xs l u)) M3
  | _ => .bad
noncomputable def iR2 (fs : Av) : Ro → Sto → Out Src := fun ρ M => (fs ρ M).bind fun ds M1 => match ds with
  | [.int i, .int j] => if -(2 ^ 62) ≤ i ∧ i < 2 ^ 62 ∧ -(2 ^ 62) ≤ j ∧ j < 2 ^ 62 then .ok (.pur (rngD i (j - i).toNat)) M1 else .bad
  | _ => .bad
end
noncomputable def eRv (f : Ev) : Ev := fun ρ M => (f ρ M).bind fun x M1 => match x with
  | .tup xs => .ok (.tup xs.reverse) M1
  | .ref n => (match M1[n]? with | some (.lst xs) => .ok (.ref M1.length) (M1 ++ [.lst xs.reverse]) | none => .bad)
  | .rol xs => .ok (.ref M1.length) (M1 ++ [.lst xs.reverse])
  | _ => .bad
end DL


end
section
set_option Elab.async false
set_option linter.all false
set_option maxRecDepth 100000
set_option maxHeartbeats 4000000
namespace DL
open PySem PySem.Spec PyProof.Rows L2
noncomputable def forS (tg : Tg) (g : Sv) (src : Src) : Nat → Nat → Ro → Sto → Fl
  | f, i, ρ, M => match nxt src i M with
    | none => .bad
    | some none => .nx ρ M
    | some (some d) => (match f with
      | 0 => .bad
      | f + 1 => (match tg d ρ with
        | none => .bad
        | some ρ1 => (match g ρ1 M with
          | .nx ρ2 M2 => forS tg g src f (i + 1) ρ2 M2
          | .cnt ρ2 M2 => forS tg g src f (i + 1) ρ2 M2
          | .brk ρ2 M2 => .nx ρ2 M2
          | o => o)))
noncomputable def sForS (tg : Tg) (fi : Ro → Sto → Out Src) (g : Sv) : Sv := fun ρ M => bindF (fi ρ M) fun src M1 => forS tg g src (cnt src M1) 0 ρ M1
section
variable {X : Cx} {ξ : XK} {tg iter a b : Expr} {gt : Tg} {fi : Ro → Sto → Out Src} {g : Sv} {body : List Stmt} {f fa fb : Ev} {fs : Av} {p pos : Pos}
theorem ds_forS (hp : PassesOwn (model X.prog X.w) X.A X.env X.xe) (hi : DI X ξ tg iter fi) (hg : DG X tg gt) (hb : DSs X ξ body g) (hf : ∀ x, foldedSetIterable iter X.env x = pure x := by intro _; rfl) : DS X ξ (.For tg iter body [] pos) (sForS gt fi g) := by
  obtain ⟨wi, pi, qi⟩ := hi
  obtain ⟨tt, pt, qt⟩ := hg
  obtain ⟨tb, pb, qb⟩ := hb
  refine ⟨_, ps_for hp pi pt pb hf, fun σ ρ H α M Dn s hh w => qi σ ρ H α M _ s hh (FP.seq w fun src M1 J H1 α1 e1 h1 sc w1 => ?_)⟩
  generalize eo : forS gt g src (cnt src M1) 0 ρ M1 = o at w1
  refine ⟨fun i m σ' H' => ∃ ρ' α' M', Ext X.K H1 H' α1 α' ∧ SR X.K H' α' σ' ρ' ∧ HR X.K H' α' M' ∧ forS gt g src m i ρ' M' = o, ⟨cnt src M1, ρ, α1, M1, Ext.refl, s.mono e1, h1, eo⟩, ?_⟩
  rintro i m σ' H' ⟨ρ', α', M', ex, sr, hr, en⟩
  have s5 := sc i H' α' M' ex hr
  unfold forS at en
  cases en1 : nxt src i M' with
  | none => rw [en1] at en; cases en; exact w1.elim
  | some od =>
    rw [en1] at en s5
    cases od with
    | none => cases en; exact .inl ⟨s5, w1 σ' H' α' ex hr sr⟩
    | some d =>
      obtain ⟨go, yl⟩ := s5
      cases m with
      | zero => cases en; exact w1.elim
      | succ m =>
        simp only at en
        refine .inr ⟨go, fun σ2 H2 => ∃ ρ' α' M', Ext X.K H1 H2 α1 α' ∧ SR X.K H2 α' σ2 ρ' ∧ HR X.K H2 α' M' ∧ forS gt g src m (i + 1) ρ' M' = o, fun σ2 H2 z => ⟨m, Nat.lt_succ_self m, z⟩, fun x H2 y => ?_⟩
        obtain ⟨ex7, hr7, rp7⟩ := yl x H2 y
        exact turnD (tg := tg) w1 qt qb (ex.trans ex7) (sr.mono ex7) hr7 rp7 en (fun σ' H' z => z)
end
section
variable {X : Cx} {ξ : XK} {a b : Expr} {elts : List Expr} {k0 : Nat} {tp : Pos} {fa : Ev} {fs : Av} {p pos : Pos} {ta : TA}
noncomputable def iEn (fs : Av) : Ro → Sto → Out Src := fun ρ M => (fs ρ M).bind fun ds M1 => match ds with | [.ref n] => .ok (.enu n) M1 | _ => .bad
noncomputable def iZp (fs : Av) : Ro → Sto → Out Src := fun ρ M => (fs ρ M).bind fun ds M1 => match ds with | [.ref n, .ref m] => .ok (.zip n m) M1 | _ => .bad
end
end DL


end
section
set_option Elab.async false
set_option linter.all false
set_option maxRecDepth 100000
set_option maxHeartbeats 4000000
namespace DL
open PySem PySem.Spec PyProof.Rows L2
open PySem.SeqAt (EqAt RcAt RcNeAt)
section
variable {X : Cx} {ξ : XK} {pins : List (Addr × Obj)} {σ : L2.St} {H : Hp} {s : Shared} {α : List Addr} {M : Sto}
noncomputable def eqs (M : Sto) (d : D) : List D → Option (List Bool)
  | [] => some []
  | x :: r => match eqF 12 M x d with | some b => (match eqs M d r with | some bs => some (b :: bs) | none => none) | none => none
end
section
variable {X : Cx} {ξ : XK}
noncomputable def inE (x y : D) (M : Sto) : Option Bool := match seqD M y with | some ds => (match eqs M x ds with | some bs => some (bs.any id) | none => none) | none => none
noncomputable def dInE : Bo := fun x y M => match inE x y M with | some b => .ok (.bl b) M | none => .bad
noncomputable def dNotInE : Bo := fun x y M => match inE x y M with | some b => .ok (.bl (!b)) M | none => .bad
noncomputable def mIdx : Me := fun x ds M => match x, ds with
  | .ref n, [d] => (match M[n]? with | some (.lst xs) => (match eqs M d xs with | some bs => (match bs.findIdx? id with | some j => .ok (.int (j : Nat)) M | none => .bad) | none => .bad) | none => .bad)
  | _, _ => .bad
noncomputable def mCnt : Me := fun x ds M => match x, ds with
  | .ref n, [d] => (match M[n]? with | some (.lst xs) => (match eqs M d xs with | some bs => .ok (.int (bs.countP id : Nat)) M | none => .bad) | none => .bad)
  | _, _ => .bad
noncomputable def intsD : List D → Option (List Int)
  | [] => some []
  | .int b :: r => match intsD r with | some bs => some (b :: bs) | none => none
  | _ :: _ => none
noncomputable def bInts (g : List Int → Option Int) : List D → Sto → Out D := fun ds M => match ds with
  | [x] => (match seqD M x with | some xs => (match x with | .tup _ => .bad | _ => (match intsD xs with | some ns => (match g ns with | some i => .ok (.int i) M | none => .bad) | none => .bad)) | none => .bad)
  | _ => .bad
end
end DL


end
section
set_option Elab.async false
set_option linter.all false
set_option maxRecDepth 100000
set_option maxHeartbeats 4000000
namespace DL
open PySem PySem.Spec PyProof.Rows L2
noncomputable def kK : D → Option Key
  | .int i => some (.inl i)
  | .str x => some (.inr x)
  | _ => none
noncomputable def kKs : List D → Option (List Key)
  | [] => some []
  | d :: r => match kK d, kKs r with | some k, some ks => some (k :: ks) | _, _ => none
noncomputable def kT : D → Option (List Key)
  | .tup ds => kKs ds
  | _ => none
theorem kK_key {d : D} {k : Key} (h : kK d = some k) : d = keyD k := by
  cases d <;> first | (cases h; rfl) | cases h
theorem kK_keyD (k : Key) : kK (keyD k) = some k := by cases k <;> rfl
theorem kKs_key : ∀ {ds : List D} {ks : List Key}, kKs ds = some ks → ds = ks.map keyD
  | [], ks, h => by cases h; rfl
  | d :: r, ks, h => by
    unfold kKs at h
    split at h
    · rename_i k ks' e1 e2
      cases h
      rw [List.map_cons, ← kK_key e1, ← kKs_key e2]
    · cases h
theorem kKs_keys : ∀ (ks : List Key), kKs (ks.map keyD) = some ks
  | [] => rfl
  | k :: ks => by rw [List.map_cons, kKs, kK_keyD, kKs_keys ks]
theorem kT_key {d : D} {ks : List Key} (h : kT d = some ks) : d = keysD ks := by
  cases d with
  | tup ds => rw [keysD, ← kKs_key h]
  | _ => cases h
theorem kT_keysD (ks : List Key) : kT (keysD ks) = some ks := kKs_keys ks
section
variable {κ : Type} [DecidableEq κ]
noncomputable def dVal (dec : D → Option κ) (k : κ) : List D → Option D
  | [] => none
  | .tup [a, v] :: r => if dec a = some k then some v else dVal dec k r
  | _ :: r => dVal dec k r
noncomputable def dSet (dec : D → Option κ) (k : κ) (v : D) (ds : List D) : List D := ds.map fun e => match e with | .tup [a, w] => if dec a = some k then .tup [a, v] else e | e => e
noncomputable def dPut (dec : D → Option κ) (k : κ) (kd v : D) (ds : List D) : List D := if (dVal dec k ds).isSome then dSet dec k v ds else ds ++ [.tup [kd, v]]
variable {K : PySem.W.Frag} {H H' : Hp} {α α' : List Addr} {key : κ → D} {dec : D → Option κ}
theorem pairs_nil : PairsR K H α key [] [] := ⟨[], rfl, .nil⟩
theorem pairs_val (hd : ∀ k, dec (key k) = some k) : ∀ {kvs : List (κ × V)} {es : List D} (k : κ), Reps K H α (kvs.map (·.2)) es →
    match dVal dec k (List.zipWith (fun kv e => D.tup [key kv.1, e]) kvs es) with | none => valV kvs k = none | some d => ∃ v, valV kvs k = some v ∧ Rep K H α v d
  | [], es, k, h => by cases h; rfl
  | (k', v) :: kvs, _, k, .cons r t => by
    simp only [List.zipWith_cons_cons, dVal, hd, Option.some.injEq]
    by_cases c : k' = k
    · rw [if_pos c]
      exact ⟨v, valV_pos (p := (k', v)) c, r⟩
    · rw [if_neg c]
      have := pairs_val hd k t
      have e : valV ((k', v) :: kvs) k = valV kvs k := valV_neg (p := (k', v)) c
      rw [e]
      exact this
theorem pairs_set (hd : ∀ k, dec (key k) = some k) {w : V} {d : D} (rw' : Rep K H α w d) : ∀ {kvs : List (κ × V)} {es : List D} (k : κ), Reps K H α (kvs.map (·.2)) es →
    ∃ es', dSet dec k d (List.zipWith (fun kv e => D.tup [key kv.1, e]) kvs es) = List.zipWith (fun kv e => D.tup [key kv.1, e]) (kvs.map fun kv => if kv.1 = k then (kv.1, w) else kv) es' ∧ Reps K H α ((kvs.map fun kv => if kv.1 = k then (kv.1, w) else kv).map (·.2)) es'
  | [], es, k, h => by cases h; exact ⟨[], rfl, .nil⟩
  | (k', v) :: kvs, _, k, .cons (d := dv) (ds := es) r t => by
    obtain ⟨es', h1, h2⟩ := pairs_set hd rw' k t
    unfold dSet at h1
    by_cases c : k' = k
    · refine ⟨d :: es', ?_, ?_⟩
      · simp only [dSet, List.zipWith_cons_cons, List.map_cons, hd, Option.some.injEq, if_pos c, h1]
      · simp only [List.map_cons, if_pos c]
        exact .cons rw' h2
    · refine ⟨dv :: es', ?_, ?_⟩
      · simp only [dSet, List.zipWith_cons_cons, List.map_cons, hd, Option.some.injEq, if_neg c, h1]
      · simp only [List.map_cons, if_neg c]
        exact .cons r h2
theorem zip_snoc {α' β γ : Type} {f : α' → β → γ} {x : α'} {y : β} : ∀ {xs : List α'} {ys : List β}, xs.length = ys.length → List.zipWith f (xs ++ [x]) (ys ++ [y]) = List.zipWith f xs ys ++ [f x y]
  | [], [], _ => rfl
  | a :: xs, b :: ys, h => by simp [zip_snoc (xs := xs) (ys := ys) (by simpa using h)]
theorem pairs_put (hd : ∀ k, dec (key k) = some k) {kvs : List (κ × V)} {ds : List D} {w : V} {d : D} (k : κ) (h : PairsR K H α key kvs ds) (r : Rep K H α w d) : PairsR K H α key (putK kvs k w) (dPut dec k (key k) d ds) := by
  obtain ⟨es, rfl, hr⟩ := h
  have pv := pairs_val hd k hr
  have an := valV_any k kvs
  unfold putK dPut
  cases e : dVal dec k (List.zipWith (fun kv e => D.tup [key kv.1, e]) kvs es) with
  | none =>
    rw [e] at pv
    rw [if_neg (by rw [an, pv]; simp), if_neg (by simp)]
    refine ⟨es ++ [d], ?_, ?_⟩
    · rw [zip_snoc (by rw [← hr.length, List.length_map])]
    · rw [List.map_append]
      exact hr.append (.cons r .nil)
  | some x =>
    rw [e] at pv
    obtain ⟨v, hv, _⟩ := pv
    rw [if_pos (by rw [an, hv]; rfl), if_pos (show (some x).isSome = true from rfl)]
    exact pairs_set hd r k hr
theorem pairs_len {kvs : List (κ × V)} {ds : List D} (h : PairsR K H α key kvs ds) : kvs.length = ds.length := by
  obtain ⟨es, rfl, hr⟩ := h
  have := hr.length
  rw [List.length_map] at this
  simp [this]
theorem pairs_mono {kvs : List (κ × V)} {ds : List D} (h : PairsR K H α key kvs ds) (e : Ext K H H' α α') : PairsR K H' α' key kvs ds := by
  obtain ⟨es, h1, h2⟩ := h
  exact ⟨es, h1, Reps.mono e h2⟩
end
noncomputable def ORep (K : PySem.W.Frag) (H : Hp) (α : List Addr) (o : Option D) (ov : Option V) : Prop := match o with | none => ov = none | some d => ∃ u, ov = some u ∧ Rep K H α u d
theorem lt64 {a b : Nat} (h : a + 64 < b) : a + 1 < b := by omega
noncomputable def dGetD (M : Sto) (x k : D) : Option (Option D) := match x with
  | .dk n => (match kK k, M[n]? with | some kk, some (.lst ds) => some (dVal kK kk ds) | _, _ => none)
  | .dt n => (match kT k, M[n]? with | some kk, some (.lst ds) => some (dVal kT kk ds) | _, _ => none)
  | _ => none
section
variable {X : Cx} {ξ : XK} {H : Hp} {α : List Addr} {M : Sto}
theorem key_rep {v : V} {d : D} {k : Key} (r : Rep X.K H α v d) (e : kK d = some k) : v = kV k := by
  cases r with
  | int i => cases e; rfl
  | str x => cases e; rfl
  | _ => cases e
theorem keys_rep : ∀ {vs : List V} {ds : List D} {ks : List Key}, Reps X.K H α vs ds → kKs ds = some ks → vs = ks.map kV
  | _, _, ks, .nil, e => by cases e; rfl
  | _, _, ks, .cons (d := d) (ds := ds) r t, e => by
    unfold kKs at e
    split at e
    · rename_i k ks' e1 e2
      cases e
      rw [List.map_cons, key_rep r e1, keys_rep t e2]
    · cases e
theorem dget_ok (h : HR X.K H α M) {v w : V} {x k : D} {o : Option D} (r : Rep X.K H α v x) (rk : Rep X.K H α w k) (e : dGetD M x k = some o) :
    ∃ a ov, v = .ref a ∧ DGet H a w ov ∧ IsD H a ∧ ORep X.K H α o ov := by
  cases r with
  | @dk p n hp =>
    simp only [dGetD] at e
    split at e
    · rename_i kk ds e1 e2
      cases e
      obtain ⟨kvs, g1, es, rfl, g2⟩ := h.atK hp e2
      have pv := pairs_val kK_keyD kk g2
      refine ⟨p, valV kvs kk, rfl, by rw [key_rep rk e1]; exact DGet.k g1, .inl ⟨kvs, .inl g1⟩, ?_⟩
      unfold ORep
      exact pv
    · cases e
  | @dt p n hp =>
    simp only [dGetD] at e
    split at e
    · rename_i kk ds e1 e2
      cases e
      obtain ⟨kvs, g1, es, rfl, g2⟩ := h.atT hp e2
      have pv := pairs_val kT_keysD kk g2
      cases rk with
      | @tup b xs ds' hb rb =>
        refine ⟨p, valV kvs kk, rfl, DGet.t g1 (by rw [hb, keys_rep rb e1]), .inr ⟨kvs, .inl g1⟩, ?_⟩
        unfold ORep
        exact pv
      | _ => cases e1
    · cases e
  | _ => cases e
end
section
variable {X : Cx} {ξ : XK} {o i e : Expr} {fo fi f : Ev} {pos pos' : Pos}
noncomputable def eDnK : Ev := fun _ M => .ok (.dk M.length) (M ++ [.lst []])
theorem de_dnK : DE X ξ (.Dict [] [] pos) eDnK := by
  refine ⟨_, pe_dnewK, fun σ ρ H α M Q s h q p hp => ?_⟩
  have kn : Kn (upd H p (.dK [])) p = some 1 := by unfold Kn; rw [upd_same]
  exact q (.ref p) _ (α ++ [p]) (Ext.new hp) (h.newO hp (.inr (.inl ⟨[], upd_same, pairs_nil⟩))) (.dk ⟨h.last p, kn⟩)
noncomputable def dIxD : Bo := fun x k M => match dGetD M x k with | some (some d) => .ok d M | _ => .bad
theorem de_dget (hu : X.A.units + 64 < cLine) (ho : DE X ξ o fo) (hi : DE X ξ i fi) (hs : NoSl i := by exact fun _ _ => rfl) : DE X ξ (.Subscript o i pos) (e2 dIxD fo fi) := by
  obtain ⟨to, po, qo⟩ := ho
  obtain ⟨ti, pi, qi⟩ := hi
  refine ⟨_, pe_dget (lt64 hu) po pi hs, fun σ ρ H α M Q s h q => ?_⟩
  refine qo σ ρ H α M _ s h (OG.seq q fun x M1 v H1 α1 e1 h1 r1 q1 => ?_)
  refine qi σ ρ H1 α1 M1 _ (s.mono e1) h1 (OG.seq q1 fun y M2 w H2 α2 e2 h2 r2 q2 => ?_)
  unfold dIxD at q2
  cases eg : dGetD M2 x y with
  | none => rw [eg] at q2; exact q2.elim
  | some oo =>
    cases oo with
    | none => rw [eg] at q2; exact q2.elim
    | some d =>
      rw [eg] at q2
      obtain ⟨a, ov, g1, g2, _, u, rfl, g4⟩ := dget_ok h2 (Rep.mono e2 r1) r2 eg
      exact ⟨a, u, g1, g2, q2 u H2 α2 Ext.refl h2 g4⟩
noncomputable def dInD (neg : Bool) : Bo := fun k x M => match dGetD M x k with | some o => .ok (.bl (neg ^^ o.isSome)) M | none => .bad
noncomputable def eGet2 (fo fk fz : Ev) : Ev := fun ρ M => (fo ρ M).bind fun x M1 => match x with
  | .dk _ => (fk ρ M1).bind fun k M2 => (fz ρ M2).bind fun z M3 => (match dGetD M3 x k with | some o => .ok (o.getD z) M3 | none => .bad)
  | .dt _ => (fk ρ M1).bind fun k M2 => (fz ρ M2).bind fun z M3 => (match dGetD M3 x k with | some o => .ok (o.getD z) M3 | none => .bad)
  | _ => .bad
theorem isD_of {n j : Nat} {p : Addr} {H : Hp} {α : List Addr} (h : RefK H α j n p) (hj : j = 1 ∨ j = 2) : IsD H p := by
  have k := h.kn
  unfold Kn at k
  split at k
  · cases k; omega
  · rename_i kvs e; exact .inl ⟨kvs, .inl e⟩
  · rename_i kvs e; exact .inr ⟨kvs, .inl e⟩
  · cases k
theorem de_get2 {k z : Expr} {fk fz : Ev} {apos cpos : Pos} (hu : X.A.units + 64 < cLine) (ho : DE X ξ o fo) (hk : DE X ξ k fk) (hz : DE X ξ z fz) (m : M2 X o "get" apos k z cpos := by exact ⟨rfl, rfl, rfl, rfl⟩) : DE X ξ (.Call (.Attribute o "get" apos) [k, z] [] cpos) (eGet2 fo fk fz) := by
  obtain ⟨to, po, qo⟩ := ho
  obtain ⟨tk, pk, qk⟩ := hk
  obtain ⟨tz, pz, qz⟩ := hz
  refine ⟨_, pe_dget2 (lt64 hu) po pk pz m, fun σ ρ H α M Q s h q => ?_⟩
  refine qo σ ρ H α M _ s h (OG.seq q fun x M1 v H1 α1 e1 h1 r1 q1 => ?_)
  have go : ∀ {j n : Nat} {p : Addr}, v = .ref p → RefK H1 α1 j n p → (j = 1 ∨ j = 2) → OP X.K H1 α1 ξ Q ((fk ρ M1).bind fun k M2 => (fz ρ M2).bind fun z M3 => (match dGetD M3 x k with | some o => .ok (o.getD z) M3 | none => .bad)) →
      ∃ a, v = .ref a ∧ IsD H1 a ∧ tk σ H1 fun y H2 => tz σ H2 fun z H3 => ∃ o, DGet H3 a y o ∧ Q (o.getD z) H3 := by
    intro j n p ev hp hj w
    refine ⟨p, ev, isD_of hp hj, ?_⟩
    refine qk σ ρ H1 α1 M1 _ (s.mono e1) h1 (OG.seq w fun y M2 wv H2 α2 e2 h2 r2 q2 => ?_)
    refine qz σ ρ H2 α2 M2 _ ((s.mono e1).mono e2) h2 (OG.seq q2 fun zz M3 zv H3 α3 e3 h3 r3 q3 => ?_)
    cases eg : dGetD M3 x y with
    | none => simp only [eg] at q3; exact q3.elim
    | some oo =>
      simp only [eg] at q3
      obtain ⟨a, ov, g1, g2, _, g4⟩ := dget_ok h3 (Rep.mono e3 (Rep.mono e2 r1)) (Rep.mono e3 r2) eg
      rw [ev] at g1
      cases g1
      refine ⟨ov, g2, ?_⟩
      cases oo with
      | none => rw [show ov = none from g4]; exact q3 _ H3 α3 Ext.refl h3 r3
      | some d => obtain ⟨u, rfl, g5⟩ := g4; exact q3 _ H3 α3 Ext.refl h3 g5
  cases r1 with
  | @dk p n hp => exact go rfl hp (.inl rfl) q1
  | @dt p n hp => exact go rfl hp (.inr rfl) q1
  | _ => exact q1.elim
noncomputable def bLenD : List D → Sto → Out D := fun ds M => match ds with
  | [.dk n] => (match M[n]? with | some (.lst es) => .ok (.int es.length) M | none => .bad)
  | _ => .bad
theorem co_lenD : CO X ξ (fun xs H Q => ∃ a kvs, xs = [V.ref a] ∧ H a = some (.dK kvs) ∧ Q (.int kvs.length) H) bLenD := by
  intro H α M vs ds Q h rs q
  match rs with
  | .nil => exact q.elim
  | .cons r (.cons _ _) => cases r <;> exact q.elim
  | .cons r .nil =>
    cases r with
    | @dk p n hp =>
      cases e1 : M[n]? with
      | none => simp only [bLenD, e1] at q; exact q.elim
      | some so =>
        cases so with
        | lst es =>
          simp only [bLenD, e1] at q
          obtain ⟨kvs, g1, g2⟩ := h.atK hp e1
          exact ⟨p, kvs, rfl, g1, by rw [pairs_len g2]; exact q _ H α Ext.refl h (.int _)⟩
    | _ => exact q.elim
noncomputable def putD (M : Sto) (x k d : D) : Option Sto := match x with
  | .dk n => (match kK k, M[n]? with | some kk, some (.lst ds) => if ds.length < 10000000 then some (M.set n (.lst (dPut kK kk k d ds))) else none | _, _ => none)
  | .dt n => (match kT k, M[n]? with | some kk, some (.lst ds) => if ds.length < 10000000 then some (M.set n (.lst (dPut kT kk k d ds))) else none | _, _ => none)
  | _ => none
noncomputable def sPutD (fo fi f : Ev) : Sv := fun ρ M => bindF (f ρ M) fun d M1 => bindF (fo ρ M1) fun x M2 => bindF (fi ρ M2) fun k M3 => match putD M3 x k d with | some M4 => .nx ρ M4 | none => .bad
theorem ds_dput (hu : X.A.units + 64 < cLine) (ho : DE X ξ o fo) (hi : DE X ξ i fi) (he : DE X ξ e f) (hs : swapsWith e (some (.Subscript o i pos')) pos.line X.env = pure false := by rfl) : DS X ξ (.Assign [.Subscript o i pos'] e pos) (sPutD fo fi f) := by
  obtain ⟨t, p, q⟩ := he
  obtain ⟨to, po, qo⟩ := ho
  obtain ⟨ti, pi, qi⟩ := hi
  refine ⟨_, ps_dput (lt64 hu) po pi p hs, fun σ ρ H α M Dn s hh w => q σ ρ H α M _ s hh (FP.seq w fun d M1 v H1 α1 e1 h1 r1 w1 => ?_)⟩
  refine qo σ ρ H1 α1 M1 _ (s.mono e1) h1 (FP.seq w1 fun od M2 ov H2 α2 e2 h2 r2 w2 => ?_)
  refine qi σ ρ H2 α2 M2 _ ((s.mono e1).mono e2) h2 (FP.seq w2 fun kd M3 kv H3 α3 e3 h3 r3 w3 => ?_)
  have sr := ((s.mono e1).mono e2).mono e3
  have rv := Rep.mono e3 (Rep.mono e2 r1)
  cases Rep.mono e3 r2 with
  | @dk a n hp =>
    simp only [putD] at w3
    cases e5 : kK kd with
    | none => simp only [e5] at w3; exact w3.elim
    | some kk =>
      cases em : M3[n]? with
      | none => simp only [e5, em] at w3; exact w3.elim
      | some so =>
        cases so with
        | lst ds =>
          simp only [e5, em] at w3
          by_cases hl : ds.length < 10000000
          · simp only [if_pos hl] at w3
            obtain ⟨kvs, g1, g2⟩ := h3.atK hp em
            have kn : Kn (upd H3 a (.dK (putK kvs kk v))) a = some 1 := by unfold Kn; rw [upd_same]
            have ex : Ext X.K H3 (upd H3 a (.dK (putK kvs kk v))) α3 α3 := Ext.wrK hp.kn kn
            have eg := pairs_put kK_keyD kk g2 rv
            rw [← kK_key e5] at eg
            refine ⟨a, _, rfl, by rw [key_rep r3 e5]; exact DPut.k g1 (by rw [pairs_len g2]; exact Nat.lt_of_lt_of_le hl (by decide)), ?_⟩
            exact w3 σ _ α3 ex (h3.wrO hp.at' ex (.inr (.inl ⟨_, upd_same, pairs_mono eg ex⟩))) (sr.mono ex)
          · simp only [if_neg hl] at w3
            exact w3.elim
  | @dt a n hp =>
    simp only [putD] at w3
    cases e5 : kT kd with
    | none => simp only [e5] at w3; exact w3.elim
    | some kk =>
      cases em : M3[n]? with
      | none => simp only [e5, em] at w3; exact w3.elim
      | some so =>
        cases so with
        | lst ds =>
          simp only [e5, em] at w3
          by_cases hl : ds.length < 10000000
          · simp only [if_pos hl] at w3
            obtain ⟨kvs, g1, g2⟩ := h3.atT hp em
            have kn : Kn (upd H3 a (.dT (putK kvs kk v))) a = some 2 := by unfold Kn; rw [upd_same]
            have ex : Ext X.K H3 (upd H3 a (.dT (putK kvs kk v))) α3 α3 := Ext.wrK hp.kn kn
            have eg := pairs_put kT_keysD kk g2 rv
            rw [← kT_key e5] at eg
            cases r3 with
            | @tup b xs ds' hb rb =>
              refine ⟨a, _, rfl, DPut.t g1 (by rw [hb, keys_rep rb e5]) (by rw [pairs_len g2]; exact Nat.lt_of_lt_of_le hl (by decide)), ?_⟩
              exact w3 σ _ α3 ex (h3.wrO hp.at' ex (.inr (.inr ⟨_, upd_same, pairs_mono eg ex⟩))) (sr.mono ex)
            | _ => cases e5
          · simp only [if_neg hl] at w3
            exact w3.elim
  | _ => exact w3.elim
end
end DL


end
section
set_option Elab.async false
set_option linter.all false
set_option maxRecDepth 100000
set_option maxHeartbeats 4000000
namespace DL
open PySem PySem.Spec PyProof.Rows L2
noncomputable def Itv (K : PySem.W.Frag) (a : Addr) (l : Nat) : It :=
  ⟨fun i H => i < l ∧ ∃ xs x, SqL K H a xs ∧ xs[l - 1 - i]? = some x, fun i H x H' => H' = H ∧ ∀ xs, SqL K H a xs → xs[l - 1 - i]? = some x, fun i _ => i = l⟩
theorem turn_rev {P : Program} {w : World} {K : PySem.W.Frag} {B : Around} {tg : Expr} (hB : B.handled = none) (a it : Addr) (l : Nat) : Turn P w K B tg (Itv K a l) [it] it (fun i h => h.IsRevIter it a ((l : Int) - 1 - i)) where
  mem := by simp
  obj := fun i h st b hb => by
    have e : b = it := by simpa using hb
    subst e
    obtain ⟨o, e, c, d⟩ := st
    exact ⟨o, e, fun v z => by rw [d] at z; cases z⟩
  keep := fun i h h' st k => st.at fun o e => k it (by simp) o e
  item := by
    intro X hP hw hK hA i pins s σ H E I hf st hg
    subst hP hw hK hA
    obtain ⟨hi, xs, x, hq, hx⟩ := hg
    obtain ⟨its, rv, p, hz⟩ := I.list hq
    obtain ⟨u, hu, ru⟩ := rv.get hx
    obtain ⟨f0, f1, f2, f3, f4, f5⟩ := hf it (by simp)
    have en : ((l : Int) - 1 - i) = ((l - 1 - i : Nat) : Int) := by omega
    rw [en] at st
    refine wpAny_pyNext_rev_item st p.isList (x := u) (by simpa using hu) fun h' st' sb => ?_
    have I1 : Inv X pins σ H { s with heap := h' } := I.turned (t' := s.toks) (fun b o hb e => (sb.2 b hb).trans e) f0 f1 f3 f4 f5
    have st2 : h'.IsRevIter it a ((l : Int) - 1 - ((i + 1 : Nat) : Int)) := by
      have e2 : ((l : Int) - 1 - ((i + 1 : Nat) : Int)) = ((l - 1 - i : Nat) : Int) - 1 := by omega
      rw [e2]
      exact st'
    obtain ⟨o, e, c, d⟩ := id st'
    exact ⟨u, rfl, go_of (s := { s with heap := h' }) e c d (by decide) ⟨x, H, I1, ru, ⟨rfl, fun ys hy => by rw [I.list_inj hy hq]; exact hx⟩, st2, fun b hb => (hf b hb).1⟩⟩
  done := by
    intro X hP hw hK hA i pins s σ H E I hf st hg
    subst hP hw hK hA
    obtain ⟨f0, f1, f2, f3, f4, f5⟩ := hf it (by simp)
    have hg' : i = l := hg
    have en : ((l : Int) - 1 - i) = -1 := by omega
    rw [en] at st
    refine wpAny_pyNext_rev_end hB st fun h' ext => ⟨rfl, ?_⟩
    exact I.turned (t' := s.toks) (it := it) (fun b o hb z => ext b o hb z) f0 f1 f3 f4 f5
  self := fun A i s Q E st q => wpAny_pyIter_revIter st q
theorem bb_reversed : bootBuiltins "reversed" = some (.type "reversed") := by decide +kernel
section
variable {X : Cx} {ξ : XK} {tg a : Expr} {fs : Av} {p pos : Pos} {ta : TA}
noncomputable def iRev (K : PySem.W.Frag) (t : TA) : TI := fun σ H R => t σ H fun vs H1 => ∃ l xs, vs = [.ref l] ∧ SqL K H1 l xs ∧ R (Itv K l xs.length) H1
theorem pi_rev (hc : X.A.handled = none) (hg : Gl X "reversed") (hm : X.mg "reversed" = none) (ha : PA X [a] ta) (hs : starEach [a] X.env = (false, eval a X.env) :: starEach [] X.env := by rfl) (hpl : (backTo pos (starEach [] X.env)).any (·.1) = false := by rfl) :
    PI X tg (.Call (.Name "reversed" p) [a] [] pos) (iRev X.K ta) := by
  intro pins s σ H R I h
  refine wpAny_Call_Name_kw (ld_blt I hg hm bb_reversed (PyProof.Rows.callWith_type1 (thn (ha pos pins s σ H _ I h) fun us s1 ⟨vs, H1, I1, r1, q1⟩ => ?_) hs hpl) (by decide) (by decide))
  obtain ⟨l, xs, rfl, hq, q⟩ := q1
  obtain ⟨u, rfl, ru⟩ := vals1 r1
  cases ru
  obtain ⟨its, rv, pl, hz⟩ := I1.list hq
  refine call_reversed_list pl.isList ?_
  have T := turn_rev (P := X.prog) (w := X.w) (K := X.K) (B := X.A) (tg := tg) hc l s1.heap.objs.size xs.length
  have I2 : Inv X pins σ H1 { s1 with heap := s1.heap.push (revObj l ((its.toArray.size : Int) - 1)), toks := s1.toks } := I1.kept (t' := s1.toks) fun b o e => Heap.get?_push_of_some _ e
  have st : (s1.heap.push (revObj l ((its.toArray.size : Int) - 1))).IsRevIter s1.heap.objs.size l ((xs.length : Int) - 1 - ((0 : Nat) : Int)) := by
    refine ⟨_, Heap.get?_push_size _ rfl, rfl, ?_⟩
    have e : ((its.toArray.size : Int) - 1) = (xs.length : Int) - 1 - ((0 : Nat) : Int) := by rw [List.size_toArray, ← rv.length]; simp
    rw [e]
    rfl
  refine T.self X.A 0 { s1 with heap := s1.heap.push (revObj l ((its.toArray.size : Int) - 1)) } _ _ st ⟨_, _, _, _, H1, rfl, I2, T, st, fun b hb => ?_, q⟩
  have hb' : s1.heap.objs.size ≤ b := by
    have : b = s1.heap.objs.size := by simpa using hb
    rw [this]
    exact Nat.le_refl _
  exact I1.fpOk hb' (I1.hok.fresh hb')
noncomputable def iRv (fs : Av) : Ro → Sto → Out Src := fun ρ M => (fs ρ M).bind fun ds M1 => match ds with | [.ref n] => (match M1[n]? with | some (.lst xs) => .ok (.rev n xs.length) M1 | none => .bad) | _ => .bad
theorem di_rev (hc : X.A.handled = none) (hm : X.mg "reversed" = none) (ha : DA X ξ [a] fs) (hg : Gl X "reversed" := by rfl) (hs : starEach [a] X.env = (false, eval a X.env) :: starEach [] X.env := by rfl) (hpl : (backTo pos (starEach [] X.env)).any (·.1) = false := by rfl) :
    DI X ξ tg (.Call (.Name "reversed" p) [a] [] pos) (iRv fs) := by
  obtain ⟨ta, pa, qa⟩ := ha
  refine ⟨_, pi_rev hc hg hm pa hs hpl, fun σ ρ H α M R s hh q => qa σ ρ H α M _ s hh (OG.seq q fun ds M1 vs H1 α1 e1 h1 r1 w1 => ?_)⟩
  match r1 with
  | .nil => exact w1.elim
  | .cons r (.cons _ _) => cases r <;> exact w1.elim
  | .cons r .nil =>
    cases r with
    | @ref l n hp =>
      cases em0 : M1[n]? with
      | none => simp only [em0] at w1; exact w1.elim
      | some so0 =>
        cases so0 with
        | lst es0 =>
          simp only [em0] at w1
          obtain ⟨xs0, g0, g0'⟩ := h1.at hp em0
          refine ⟨l, xs0, rfl, SqL.of g0, ?_⟩
          rw [g0'.length]
          refine w1 _ H1 α1 Ext.refl h1 fun i H' α' M' ex hr => ?_
          cases em : M'[n]? with
          | none => rw [show nxt (.rev n es0.length) i M' = none by simp only [nxt, em]]; exact True.intro
          | some so =>
            cases so with
            | lst es =>
              obtain ⟨xs, g1, g2⟩ := hr.at (ex.get hp) em
              by_cases hi : i < es0.length
              · cases ei : es[es0.length - 1 - i]? with
                | none => rw [show nxt (.rev n es0.length) i M' = none by simp only [nxt, em, if_pos hi, ei]]; exact True.intro
                | some d =>
                  rw [show nxt (.rev n es0.length) i M' = some (some d) by simp only [nxt, em, if_pos hi, ei]]
                  obtain ⟨v, k1, k2⟩ := g2.get ei
                  refine ⟨⟨hi, xs, v, SqL.of g1, k1⟩, fun x H'' y => ?_⟩
                  obtain ⟨ey, y⟩ := y
                  subst ey
                  have z := y xs (SqL.of g1)
                  rw [k1] at z
                  cases z
                  exact ⟨Ext.refl, hr, k2⟩
              · by_cases he : i = es0.length
                · rw [show nxt (.rev n es0.length) i M' = some none by simp only [nxt, em, if_neg hi, if_pos he]]
                  exact he
                · rw [show nxt (.rev n es0.length) i M' = none by simp only [nxt, em, if_neg hi, if_neg he]]
                  exact True.intro
    | _ => exact w1.elim
end
end DL


end
section
set_option Elab.async false
set_option linter.all false
set_option maxRecDepth 100000
set_option maxHeartbeats 4000000
namespace DL
open PySem PySem.Spec PyProof.Rows L2
section
variable {X : Cx} {ξ : XK} {e e1 e2 : Expr} {es : List Expr} {f : Ev} {pos : Pos}
end
end DL


end
section
set_option Elab.async false
set_option linter.all false
set_option maxRecDepth 100000
set_option maxHeartbeats 4000000
namespace DL
open PySem PySem.Spec PyProof.Rows L2
section
variable {X : Cx} {ξ : XK} {tg iter elt : Expr} {ifs : List Expr} {scope : Scope} {cl : List (Str × Addr)} {N : List Str} {k : Nat} {fr : List Nat} {fi : Ro → Sto → Out Src} {gt : Tg} {c : Tv} {f : Ev} {pos : Pos}
end
end DL


end
section
set_option Elab.async false
set_option linter.all false
set_option maxRecDepth 100000
set_option maxHeartbeats 4000000
namespace DL
open PySem PySem.Spec PyProof.Rows L2
noncomputable def dRep : Bo := fun x y M => match x, y with
  | .ref n, .int k => match M[n]? with
    | some (.lst xs) => if (-9223372036854775808 ≤ k ∧ k < 9223372036854775808) ∧ xs.length * k.toNat ≤ 100000 then .ok (.ref M.length) (M ++ [.lst (List.replicate k.toNat xs).flatten]) else .bad
    | none => .bad
  | _, _ => .bad
theorem Reps.rep {K : PySem.W.Frag} {H : Hp} {α : List Addr} {vs : List V} {ds : List D} (r : Reps K H α vs ds) : ∀ k : Nat, Reps K H α (List.replicate k vs).flatten (List.replicate k ds).flatten
  | 0 => .nil
  | k + 1 => by
    rw [List.replicate_succ, List.replicate_succ, List.flatten_cons, List.flatten_cons]
    exact r.append (Reps.rep r k)
section
variable {X : Cx} {ξ : XK} {a b : Expr} {fa fb : Ev} {pos : Pos}
theorem bo_rep : BO X ξ rRep dRep := by
  intro H α M v w x y Q h rv rw' q
  cases rv with
  | @ref p n hp =>
    cases rw' with
    | int k =>
      cases e1 : M[n]? with
      | none => simp only [dRep, e1] at q; exact q.elim
      | some o =>
        cases o with
        | lst ds =>
          by_cases c : (-9223372036854775808 ≤ k ∧ k < 9223372036854775808) ∧ ds.length * k.toNat ≤ 100000
          · simp only [dRep, e1, if_pos c] at q
            obtain ⟨xs, g1, r1⟩ := h.at hp e1
            exact ⟨p, k, xs, rfl, rfl, g1, by omega, by omega, by rw [r1.length]; exact line5 c.2, fun l hl => q _ _ (α ++ [l]) (Ext.new hl) (h.new hl (r1.rep k.toNat)) (.ref ⟨h.last l, Kn.lst upd_same⟩)⟩
          · simp only [dRep, e1, if_neg c] at q
            exact q.elim
    | _ => exact q.elim
  | _ => cases rw' <;> exact q.elim
theorem de_rep (ha : DE X ξ a fa) (hb : DE X ξ b fb) : DE X ξ (.BinOp a .Mult b pos) (e2 dRep fa fb) := de_op op_rep bo_rep ha hb
end
end DL


end
set_option Elab.async false
set_option linter.all false
set_option maxRecDepth 100000
set_option maxHeartbeats 4000000
namespace DL
open PySem PySem.Spec L2
open PySem.W
theorem lri_no_len : typeLookup (.type "list_reverseiterator") "__len__" = pure none := by rw [typeLookup_type, builtinLookup_eq_fast]; kernel_rfl
theorem lri_hint : typeLookup (.type "list_reverseiterator") "__length_hint__" = pure (some (.builtin "list_reverseiterator.__length_hint__")) := by rw [typeLookup_type, builtinLookup_eq_fast]; kernel_rfl
theorem lri_sub : isSubtype (.type "list_reverseiterator") (.type "list_reverseiterator") = pure true := by rw [isSubtype_type]; kernel_rfl
theorem lri_split : splitId "list_reverseiterator.__length_hint__" = some ("list_reverseiterator", "__length_hint__") := by decide +kernel
section
variable {prog : Program} {w : World} {A : Around} {E : Value → Shared → Prop} {s : Shared}
theorem hint_rev {I : Addr} {Q : Bool → Shared → Prop} (hT : s.TypeIs (.ref I) "list_reverseiterator") (h : Q false s) : wpAny (model prog w) A (Builtin.List.listLengthHint (.ref I)) Q E s := by
  unfold Builtin.List.listLengthHint
  refine wpAny_bind (wpAny_specialOf hT lri_no_len ?_)
  show wpAny _ A (specialOf (Value.ref I) (Str.ofString "__length_hint__") >>= _) _ _ _
  refine wpAny_bind (wpAny_specialOf hT lri_hint ?_)
  simp only [lri_split]
  refine wpAny_bind (wpAny_isInstance hT lri_sub ?_)
  exact wpAny_pure h
end
section
variable {prog : Program} {w : World} {A : Around} {s : Shared} {R : Result → Shared → Prop}
variable {I : Addr} {fp wr : List Addr} {G : Array GenState → Array GenState → Prop} {n : Nat} {P : Nat → Value → Prop} {St : Nat → Shared → Prop}
theorem extend_rev (W : WalksS prog w A.in1 I fp wr G n P St) (hT : ∀ i s, St i s → s.TypeIs (.ref I) "list_reverseiterator") (S : Addr) (res : Value) (c₀ : Nat) (hst : St 0 s) (hSf : S ∉ fp) (hI : I ∈ fp)
    (hS : s.heap.get? S = some { cls := .type "list", data := .seq #[] c₀ })
    (hR : ∀ s' acc' c', Moved (S :: wr) G s s' → s'.heap.get? S = some { cls := .type "list", dict := none, data := .seq acc' c', slots := #[] } → ItemsOf P acc' n → R (.ok (.ret res)) s') (hn : n ≤ sizeLine) :
    wpAny (model prog w) A.in1 (Builtin.List.listExtendWith (.ref S) (.ref I) res)
      (fun fin s' => match fin with | .done f => R (.ok f) s' | .again c' => c'.quiet = true ∧ codeAny (model prog w) A c' R s') (fun e s' => R (.error e) s') s := by
  have hSI : S ≠ I := fun e => hSf (e ▸ hI)
  unfold Builtin.List.listExtendWith
  refine wpAny_bind (wpAny_typeOf (hT 0 _ hst) ?_)
  have h1 : Builtin.List.listSameRef (.ref S) (.ref I) = false := by simp [Builtin.List.listSameRef, hSI]
  have h2 : (Value.type "list_reverseiterator" == Value.type "list") = false := by decide
  have h3 : (Value.type "list_reverseiterator" == Value.type "tuple") = false := by decide
  simp only [h1, h2, h3, Bool.or_false, Bool.false_eq_true, if_false]
  refine wpAny_bind (W.self 0 _ _ _ hst ?_)
  refine wpAny_bind (wpAny_holding ?_)
  refine hint_rev (hT 0 _ hst) ?_
  refine wpAny_pure ⟨plainId_quiet F.plain_extend_loop _, codeAny_extend_loopS W hn _ hSf _ n 0 _ _ _ rfl (Nat.zero_le _) hst hS (ItemsOf.nil P) fun s' acc' c' hm hS' hacc => ?_⟩
  exact hR s' acc' c' hm hS' hacc
theorem list_init_rev (W : WalksS prog w A.in1 I fp wr G n P St) (hT : ∀ i s, St i s → s.TypeIs (.ref I) "list_reverseiterator") (S : Addr) (hst : St 0 s) (hSf : S ∉ fp) (hI : I ∈ fp)
    (hS : s.heap.get? S = some { cls := .type "list", data := .seq #[] })
    (hR : ∀ s' acc' c', Moved (S :: wr) G s s' → s'.heap.get? S = some { cls := .type "list", dict := none, data := .seq acc' c', slots := #[] } → ItemsOf P acc' n → R (.ok (.ret .none)) s') (hn : n ≤ sizeLine) :
    wpAny (model prog w) A.in1 (Builtin.«list.__init__» ⟨[.ref S, .ref I], []⟩)
      (fun fin s' => match fin with | .done f => R (.ok f) s' | .again c' => c'.quiet = true ∧ codeAny (model prog w) A c' R s') (fun e s' => R (.error e) s') s := by
  show wpAny _ A.in1 (do let old ← Builtin.List.listItems (.ref S); Builtin.List.listUpdate (.ref S) (fun _ => #[]); letGo old.toList.reverse; Builtin.List.listExtendWith (.ref S) (.ref I) .none) _ _ s
  refine wpAny_bind ?_
  unfold Builtin.List.listItems
  refine wpAny_bind (wpAny_seqItems hS rfl (wpAny_pure ?_))
  show wpAny _ A.in1 (updateSeq S (fun _ => #[]) >>= fun _ => letGo (#[] : Array Value).toList.reverse >>= fun _ => Builtin.List.listExtendWith (.ref S) (.ref I) .none) _ _ s
  refine wpAny_bind (wpAny_updateSeq hS rfl ?_)
  have hS₂ := Heap.get?_update_self (Obj.mapSeq (fun _ => (#[] : Array Value))) hS rfl
  have oth : ∀ b o, b ≠ S → s.heap.get? b = some o → (s.heap.update S (Obj.mapSeq (fun _ => (#[] : Array Value)))).get? b = some o :=
    fun b o hb e => (Heap.get?_update_other _ _ (Ne.symm hb)).trans e
  refine wpAny_bind (wpAny_letGo ?_)
  refine extend_rev W hT S .none _ (W.frame 0 s _ s.toks hst (Nat.le_refl _) fun b hb o e => oth b o (fun h => hSf (h ▸ hb)) e) hSf hI hS₂ (fun s' acc' c' hm hS' hacc => ?_) hn
  exact hR s' acc' c' (Moved.trans W.gtrans ((Moved.refl W.grefl).then_heap (Nat.le_refl _) fun b o hb e => oth b o (fun h => hb (h ▸ List.mem_cons_self)) e) hm) hS' hacc
end
section
variable {prog : Program} {w : World} {A : Around} {E : Value → Shared → Prop} {s : Shared}
variable {I : Addr} {fp wr : List Addr} {G : Array GenState → Array GenState → Prop} {n : Nat} {P : Nat → Value → Prop} {St : Nat → Shared → Prop}
theorem call_list_rev {Q : Value → Shared → Prop} (W : WalksS prog w A.in1.in1 I fp wr G n P St) (hT : ∀ i s, St i s → s.TypeIs (.ref I) "list_reverseiterator") (hst : St 0 s) (hfp : ∀ b ∈ fp, b < s.heap.objs.size) (hI : I ∈ fp)
    (hQ : ∀ s' acc' c', Moved (s.heap.objs.size :: wr) G { s with heap := s.heap.push { cls := .type "list", data := .seq #[] } } s' →
      s'.heap.get? s.heap.objs.size = some { cls := .type "list", dict := none, data := .seq acc' c', slots := #[] } → ItemsOf P acc' n → Q (.ref s.heap.objs.size) s') (hn : n ≤ sizeLine) :
    wpAny (model prog w) A (call (.type "list") [.ref I]) Q E s := by
  have hSf : s.heap.objs.size ∉ fp := fun hm => Nat.lt_irrefl _ (hfp _ hm)
  refine callType_codes (Q₁ := fun obj s₁ => obj = .ref s.heap.objs.size ∧ s₁ = { s with heap := s.heap.push { cls := .type "list", data := .seq #[] } }) F.called_list (F.typeCall_list_1 _) F.entry_list_init
    (code_list_new _ ⟨rfl, rfl⟩) fun obj s₁ h₁ => ?_
  obtain ⟨rfl, rfl⟩ := h₁
  have hS : (s.heap.push { cls := .type "list", data := .seq #[] }).get? s.heap.objs.size = some { cls := .type "list", data := .seq #[] } := Heap.get?_push_size _ rfl
  refine ⟨⟨_, hS, rfl⟩, F.args_list_init_2 _ _, list_init_rev W hT _ (W.frame 0 s _ s.toks hst (Nat.le_refl _) fun b _ o e => Heap.get?_push_of_some _ e) hSf hI hS (fun s' acc' c' hm hS' hacc => ?_) hn⟩
  exact ⟨rfl, hQ s' acc' c' hm hS' hacc⟩
end
section
variable {X : Cx} {ξ : XK} {a : Expr} {fs : Av} {p1 p2 p3 pos : Pos} {ta : TA}
noncomputable def tLR (K : PySem.W.Frag) (t : TA) : TE := fun σ H Q => t σ H fun vs H1 => ∃ l xs, vs = [.ref l] ∧ SqL K H1 l xs ∧ ∀ p, H1 p = none → Q (.ref p) (upd H1 p (.lst xs.reverse))
theorem items_rev {its : List Value} {acc : Array Value} (h : ItemsOf (fun i v => its.toArray[its.toArray.size - 1 - i]? = some v) acc its.toArray.size) : acc = its.reverse.toArray := by
  obtain ⟨hz, hv⟩ := h
  apply Array.ext'
  apply List.ext_getElem?
  intro i
  rw [List.toList_toArray]
  by_cases hi : i < acc.size
  · have e : acc.toList[i]? = some acc[i] := by rw [Array.getElem?_toList]; exact Array.getElem?_eq_getElem hi
    have := hv i _ (Array.getElem?_eq_getElem hi)
    rw [e, ← this, List.getElem?_toArray, List.size_toArray, List.getElem?_reverse (by rw [hz, List.size_toArray] at hi; exact hi)]
  · rw [List.getElem?_eq_none (by rw [Array.length_toList]; omega), List.getElem?_eq_none (by rw [hz, List.size_toArray] at hi; rw [List.length_reverse]; omega)]
theorem pe_lr (hc : X.A.handled = none) (hgl : Gl X "list") (hml : X.mg "list" = none) (hg : Gl X "reversed") (hm : X.mg "reversed" = none) (ha : PA X [a] ta) (hs : starEach [a] X.env = (false, eval a X.env) :: starEach [] X.env := by rfl) (hpl : (backTo p3 (starEach [] X.env)).any (·.1) = false := by rfl) (hs1 : starEach [.Call (.Name "reversed" p2) [a] [] p3] X.env = (false, eval (.Call (.Name "reversed" p2) [a] [] p3) X.env) :: starEach [] X.env := by rfl) (hpl1 : (backTo pos (starEach [] X.env)).any (·.1) = false := by rfl) :
    PE X (.Call (.Name "list" p1) [.Call (.Name "reversed" p2) [a] [] p3] [] pos) (tLR X.K ta) := by
  intro pins s σ H Q I h
  refine wpAny_Call_Name_kw (ld_blt I hgl hml bb_list (PyProof.Rows.callWith_type1 ?_ hs1 hpl1) (by decide) (by decide))
  rw [hs1]
  show wpAny _ _ (spliced ((false, eval (.Call (.Name "reversed" p2) [a] [] p3) X.env) :: backTo pos (starEach [] X.env))) _ _ s
  refine Calls.spliced_cons ?_
  refine wpAny_Call_Name_kw (ld_blt I hg hm bb_reversed (PyProof.Rows.callWith_type1 (thn (ha p3 pins s σ H _ I h) fun us s1 ⟨vs, H1, I1, r1, q1⟩ => ?_) hs hpl) (by decide) (by decide))
  obtain ⟨l, xs, rfl, hq, q⟩ := q1
  obtain ⟨u, rfl, ru⟩ := vals1 r1
  cases ru
  obtain ⟨its, rv, pl, hz⟩ := I1.list hq
  have hll : l < s1.heap.objs.size := by
    obtain ⟨o, ho, _⟩ := pl.isList
    exact Heap.lt_size ho
  refine call_reversed_list pl.isList (Calls.spliced_nil ?_)
  have W := (PySem.Walks.listRev (prog := X.prog) (w := X.w) (A := X.A.in1.in1) hc s1.heap.objs.size l (Nat.ne_of_lt hll) its.toArray).toS
  have hsz : its.toArray.size ≤ sizeLine := by rw [List.size_toArray, ← rv.length]; exact hz
  refine call_list_rev W (fun i s x => x.2.1.typeIs) ⟨Nat.zero_le _, ⟨_, Heap.get?_push_size _ rfl, rfl, ?_⟩, ?_⟩ ?_ (by simp) (fun s' acc c hmv hS hit => ?_) hsz
  · show Data.fields #[.ref l, rawInt ((its.toArray.size : Int) - 1)] = _
    rw [show (its.toArray.size : Int) - 1 - ((0 : Nat) : Int) = (its.toArray.size : Int) - 1 by omega]
  · exact pl.isList.at fun o e => Heap.get?_push_of_some _ e
  · intro b hb
    have : b = s1.heap.objs.size ∨ b = l := by simpa using hb
    have hz2 : (s1.heap.push (revObj l ((its.toArray.size : Int) - 1))).objs.size = s1.heap.objs.size + 1 := by simp [Heap.push]
    show b < (s1.heap.push (revObj l ((its.toArray.size : Int) - 1))).objs.size
    rw [hz2]
    rcases this with rfl | rfl
    · exact Nat.lt_succ_self _
    · exact Nat.lt_succ_of_lt hll
  · have ea := items_rev hit
    subst ea
    have hz2 : (s1.heap.push (revObj l ((its.toArray.size : Int) - 1))).objs.size = s1.heap.objs.size + 1 := by simp [Heap.push]
    have K : ∀ b u, s1.heap.get? b = some u → s'.heap.get? b = some u := by
      intro b u hb
      have hlt := Heap.lt_size hb
      refine hmv.heap b u ?_ (Heap.get?_push_of_some _ (Heap.get?_push_of_some _ hb))
      intro hmem
      have : b = s1.heap.objs.size + 1 ∨ b = s1.heap.objs.size := by
        simp only [List.mem_cons, List.not_mem_nil, or_false] at hmem
        rcases hmem with e | e
        · exact .inl (e.trans hz2)
        · exact .inr e
      rcases this with e | e
      · exact absurd (e ▸ hlt) (Nat.not_lt.mpr (Nat.le_succ _))
      · exact absurd (e ▸ hlt) (Nat.lt_irrefl _)
    have es : s' = { s1 with heap := s'.heap, toks := s'.toks } := by
      obtain ⟨h1, g1, d1, t1, o1⟩ := s1
      obtain ⟨h2, g2, d2, t2, o2⟩ := s'
      have e1 : g2 = g1 := hmv.gens
      have e2 : d2 = d1 := hmv.drawn
      have e3 : o2 = o1 := hmv.os
      subst e1 e2 e3
      rfl
    have hS' : s'.heap.get? (s1.heap.objs.size + 1) = some { cls := .type "list", dict := none, data := .seq its.reverse.toArray c, slots := #[] } := by
      rw [← hz2]; exact hS
    show EP X pins σ Q (.ref (s1.heap.push (revObj l ((its.toArray.size : Int) - 1))).objs.size) s'
    rw [hz2, es]
    refine ⟨.ref _, _, I1.laid (t' := s'.toks) (o := .lst xs.reverse) K (Nat.le_succ _) ?_, rfl, q _ (I1.hok.fresh (Nat.le_succ _))⟩
    exact ⟨by rw [List.length_reverse]; exact hz, its.reverse, c, rv.reverse, hS'⟩
noncomputable def bLR : List D → Sto → Out D := fun ds M1 => match ds with
  | [.ref n] => (match M1[n]? with | some (.lst xs) => .ok (.ref M1.length) (M1 ++ [.lst xs.reverse]) | none => .bad)
  | [.rol xs] => .ok (.ref M1.length) (M1 ++ [.lst xs.reverse])
  | _ => .bad
theorem de_lr (hc : X.A.handled = none) (hml : X.mg "list" = none) (hm : X.mg "reversed" = none) (ha : DA X ξ [a] fs) (hgl : Gl X "list" := by rfl) (hg : Gl X "reversed" := by rfl) (hs : starEach [a] X.env = (false, eval a X.env) :: starEach [] X.env := by rfl) (hpl : (backTo p3 (starEach [] X.env)).any (·.1) = false := by rfl) (hs1 : starEach [.Call (.Name "reversed" p2) [a] [] p3] X.env = (false, eval (.Call (.Name "reversed" p2) [a] [] p3) X.env) :: starEach [] X.env := by rfl) (hpl1 : (backTo pos (starEach [] X.env)).any (·.1) = false := by rfl) :
    DE X ξ (.Call (.Name "list" p1) [.Call (.Name "reversed" p2) [a] [] p3] [] pos) (eCall bLR fs) := by
  obtain ⟨ta, pa, qa⟩ := ha
  refine ⟨_, pe_lr hc hgl hml hg hm pa hs hpl hs1 hpl1, fun σ ρ H α M Q s hh w => qa σ ρ H α M _ s hh (OG.seq w fun ds M1 vs H1 α1 e1 h1 r1 w1 => ?_)⟩
  match r1 with
  | .nil => exact w1.elim
  | .cons r (.cons _ _) => cases r <;> exact w1.elim
  | .cons r .nil =>
    cases r with
    | @rol a xs ds hp rp =>
      have w2 : OP X.K H1 α1 ξ Q (.ok (.ref M1.length) (M1 ++ [.lst ds.reverse])) := w1
      exact ⟨a, xs, rfl, hp.sq, fun l hl => w2 _ _ (α1 ++ [l]) (Ext.new hl) (h1.new hl rp.rev) (.ref ⟨h1.last l, Kn.lst upd_same⟩)⟩
    | @ref a n hp =>
      cases em : M1[n]? with
      | none => simp only [bLR, em] at w1; exact w1.elim
      | some so =>
        cases so with
        | lst es =>
          simp only [bLR, em] at w1
          obtain ⟨xs, g1, g2⟩ := h1.at hp em
          exact ⟨a, xs, rfl, SqL.of g1, fun l hl => w1 _ _ (α1 ++ [l]) (Ext.new hl) (h1.new hl g2.rev) (.ref ⟨h1.last l, Kn.lst upd_same⟩)⟩
    | _ => exact w1.elim
end
end DL


section
set_option Elab.async false
set_option linter.all false
set_option maxRecDepth 100000
set_option maxHeartbeats 4000000
namespace DL3
open PySem PySem.Spec PyProof.Rows L2 DL
open Sem (wp)
section
variable {prog : Program} {w : World} {A : Around} {E : Value → Shared → Prop} {s : Shared}
end
section
variable {prog : Program} {w : World} {A : Around} {E : Value → Shared → Prop} {s : Shared}
end
section
variable {X : Cx} {ξ : XK} {y1 y2 y3 : Expr} {elts : List Expr} {k0 : Nat} {tp : Pos} {fs : Av} {p pos : Pos} {ta : TA}
end
end DL3


end
section
set_option Elab.async false
set_option linter.all false
set_option maxRecDepth 100000
set_option maxHeartbeats 4000000
namespace DL4
open PySem PySem.Spec PyProof.Rows L2 DL
open Sem (wp)
section
variable {prog : Program} {w : World} {A : Around} {E : Value → Shared → Prop} {s : Shared}
end
section
variable {prog : Program} {w : World} {A : Around} {E : Value → Shared → Prop} {s : Shared}
end
section
variable {X : Cx} {ξ : XK} {y1 y2 y3 y4 : Expr} {elts : List Expr} {k0 : Nat} {tp : Pos} {fs : Av} {p pos : Pos} {ta : TA}
end
end DL4


end
section
set_option Elab.async false
set_option linter.all false
set_option maxRecDepth 100000
set_option maxHeartbeats 4000000
namespace DL
open PySem PySem.Spec PyProof.Rows L2
noncomputable def Bag (n : Nat) (M : Sto) : Prop := ∃ a b : Int, 0 ≤ a ∧ M[n]? = some (.lst [.int a, .int b])
structure Gr (n : Nat) (M M' : Sto) : Prop where
  len : M.length ≤ M'.length
  bag : Bag n M'
  keep : ∀ k, k ≠ n → k < M.length → M'[k]? = M[k]?
theorem mulFits_r {i j : Int} (h1 : -(2 ^ 64) < j) (h2 : j < 2 ^ 64) : mulFits i j := .inr (.inl (intBits_le_64 h1 h2))
theorem mulFits_l {i j : Int} (h1 : -(2 ^ 64) < i) (h2 : i < 2 ^ 64) : mulFits i j := .inl (intBits_le_64 h1 h2)
theorem at0 {x : D} {r : List D} : atI (x :: r) 0 = some x := by
  show (ixN (r.length + 1) 0).bind _ = _
  unfold ixN
  rw [if_pos (by decide), if_pos (by omega)]
  rfl
theorem at1 {x y : D} {r : List D} : atI (x :: y :: r) 1 = some y := by
  show (ixN (r.length + 2) 1).bind _ = _
  unfold ixN
  rw [if_pos (by decide), if_pos (by omega)]
  rfl
theorem ix0 {n : Nat} : ixN (n + 1) 0 = some 0 := by
  unfold ixN
  rw [if_pos (by decide), if_pos (by omega)]
  rfl
theorem ix1 {n : Nat} : ixN (n + 2) 1 = some 1 := by
  unfold ixN
  rw [if_pos (by decide), if_pos (by omega)]
  rfl
theorem Bag.lt {n : Nat} {M : Sto} (h : Bag n M) : n < M.length := let ⟨_, _, _, e⟩ := h; (List.getElem?_eq_some_iff.mp e).1
theorem Bag.app {n : Nat} {M : Sto} (h : Bag n M) (L : Sto) : Bag n (M ++ L) := by
  have hl := h.lt
  obtain ⟨a, b, h1, h2⟩ := h
  exact ⟨a, b, h1, by rw [List.getElem?_append_left hl]; exact h2⟩
theorem Gr.trans {n : Nat} {M M1 M2 : Sto} (a : Gr n M M1) (b : Gr n M1 M2) : Gr n M M2 :=
  ⟨Nat.le_trans a.len b.len, b.bag, fun k h1 h2 => (b.keep k h1 (Nat.lt_of_lt_of_le h2 a.len)).trans (a.keep k h1 h2)⟩
theorem Gr.app {n : Nat} {M : Sto} (h : Bag n M) (L : Sto) : Gr n M (M ++ L) := ⟨by simp, h.app L, fun k _ hk => by rw [List.getElem?_append_left hk]⟩
theorem Gr.new {n : Nat} {M M1 : Sto} {o : SO} {L : Sto} (hb : Bag n M) (h : Gr n (M ++ o :: L) M1) : M1[M.length]? = some o := by
  rw [h.keep _ (Nat.ne_of_gt hb.lt) (by simp)]
  simp
theorem atI_ints {ns : List Int} {k : Nat} (h : k < ns.length) : atI (ns.map D.int) (k : Int) = some (.int ns[k]) := atI_nat (by rw [List.getElem?_map, List.getElem?_eq_getElem h]; rfl)
theorem abs_nat (a : Int) : (if a < 0 then -a else a) = (a.natAbs : Int) := by split <;> omega
end DL


end
section

end
section
set_option Elab.async false
set_option linter.all false
set_option maxRecDepth 100000
set_option maxHeartbeats 4000000
namespace HD
open PySem PySem.W PyProof.Rows
noncomputable def runG (thr : Thread → Bool) (stp : SharedT → Thread → Option (SharedT × Thread)) (n : Nat) : SharedT → Thread → Option SharedT :=
  Nat.rec (motive := fun _ => SharedT → Thread → Option SharedT) (fun _ _ => none) (fun _ ih s t => Bool.rec (motive := fun _ => Option SharedT) (Option.rec (motive := fun _ => Option SharedT) none (fun r => ih r.1 r.2) (stp s t)) (some s) (thr t)) n
noncomputable def stpG (ok : Thread → Bool) (stp : SharedT → Thread → Option (SharedT × Thread)) (s : SharedT) (t : Thread) : Option (SharedT × Thread) := Bool.rec (motive := fun _ => Option (SharedT × Thread)) none (stp s t) (ok t)
section
variable {tb : String → Option Builtin} {p : Program} {w : World} {n₀ : Nat} {ann : Option Value}
theorem run_of : ∀ {n : Nat} {s s' : SharedT} {t : Thread}, runG through (stpG (stepOk n₀ ann) (stepT (denote tb) p w)) n s t = some s' → topRun tb p w n₀ ann n s.abs t = some s'.abs
  | 0, s, s', t, h => by cases h
  | n + 1, s, s', t, h => by
    unfold topRun
    change Bool.rec (motive := fun _ => Option SharedT) (Option.rec (motive := fun _ => Option SharedT) none (fun r => runG through (stpG (stepOk n₀ ann) (stepT (denote tb) p w)) n r.1 r.2) (stpG (stepOk n₀ ann) (stepT (denote tb) p w) s t)) (some s) (through t) = some s' at h
    cases ht : through t with
    | true =>
      rw [ht] at h
      have h' : some s = some s' := h
      cases h'
      rfl
    | false =>
      rw [ht] at h
      cases hk : stepOk n₀ ann t with
      | false =>
        have e : stpG (stepOk n₀ ann) (stepT (denote tb) p w) s t = none := by unfold stpG; rw [hk]
        rw [e] at h
        cases h
      | true =>
        have e : stpG (stepOk n₀ ann) (stepT (denote tb) p w) s t = stepT (denote tb) p w s t := by unfold stpG; rw [hk]
        rw [e] at h
        cases hs : stepT (denote tb) p w s t with
        | none => rw [hs] at h; cases h
        | some r =>
          obtain ⟨s2, t2⟩ := r
          rw [hs] at h
          have := stepT_spec hs
          rw [this]
          exact run_of (n := n) h
end
noncomputable def T0 (w : World) (os : OsState) : SharedT :=
  ⟨[boot_o_0, boot_o_1, boot_o_2, boot_o_3, boot_o_4, boot_o_5, boot_o_6, boot_o_7, boot_o_8, boot_o_9, boot_o_10].foldl (fun (r : Nat × BT) o => (r.1 + 1, r.2.ins r.1 (o w.params))) (0, .nil) |>.2, 11, (boot_heap w.params).life, #[], boot_drawn, boot_toks, os⟩
theorem T0_abs (w : World) (os : OsState) : (T0 w os).abs = ⟨boot_heap w.params, #[], boot_drawn, boot_toks, os⟩ := by kernel_rfl
theorem ann_str : Str.ofString "__annotations__" = ⟨#[95, 95, 97, 110, 110, 111, 116, 97, 116, 105, 111, 110, 115, 95, 95]⟩ := by decide +kernel
theorem left_shot {p q : Program} {loose : List Str} {Xt : Shared → Bool} {α : Type} {Yf : Shared → α} {Ya : World → α} {N M : Nat} (e : opening p = plainProg p.main.scope.names) (hN : Nat.ble 600 N = true) (f : ∀ s, fenceModules? p s = some s) (le : Nat.ble M N = true)
    (shot : ∀ (w : World) (os : OsState), (runG through (stpG (stepOk 11 (some (.ref 6))) (stepT (denote treeTable) p w)) M (T0 w os) (topStub p)).map (fun s => ((staticsOk (importedModules p.main.body) (boot_heap w.params) s.abs.heap && namesBound p s.abs.heap && gensDone s.abs && laidKept (boot_heap w.params) s.abs.heap),
        openSeen q loose (importedModules p.main.body) Xt true s.abs, Yf s.abs)) = some (true, openGood q loose, Ya w)) : LeftO p q loose Xt Yf Ya N := fun w => by
  obtain ⟨⟨h, gs, d, k, os⟩, e1, e2⟩ := Option.map_eq_some_iff.mp (boot_open e hN f w)
  obtain ⟨rfl, rfl, rfl, rfl⟩ : h = boot_heap w.params ∧ gs = Array.mk [] ∧ d = boot_drawn ∧ k = boot_toks := by simpa using e2
  obtain ⟨s', r1, r2⟩ := Option.map_eq_some_iff.mp (shot w os)
  obtain ⟨l1, l2, l3⟩ : _ ∧ _ ∧ _ := by simpa only [Prod.mk.injEq] using r2
  have r := run_of r1
  rw [T0_abs] at r
  have r := topRun_mono (N - M) _ _ _ _ r
  rw [show M + (N - M) = N by have := Nat.le_of_ble_eq_true le; omega] at r
  have z1 : ((boot_heap w.params).isNs mainGlobals && (Array.mk [] : Array GenState).size == 0) = true := by kernel_rfl
  have z2 : (boot_heap w.params).objs.size = 11 := rfl
  have z3 : (boot_heap w.params).nsMap mainGlobals "__annotations__" = some (.ref 6) := by
    rw [ann_str]
    kernel_rfl
  have t : topFrom treeTable p w N ⟨boot_heap w.params, Array.mk [], boot_drawn, boot_toks, os⟩ = some s'.abs := by
    unfold topFrom
    dsimp only
    rw [z1, z2, z3, r]
    show (match staticsOk (importedModules p.main.body) (boot_heap w.params) s'.abs.heap && namesBound p s'.abs.heap && gensDone s'.abs && laidKept (boot_heap w.params) s'.abs.heap with | true => _ | false => _) = _
    rw [l1]
  unfold openEnds
  rw [e1]
  show (topFrom treeTable p w N _).map _ = _
  rw [t]
  exact congrArg some (Prod.ext l2 l3)
end HD
namespace HD
open PySem PySem.W
theorem te_ok : @stepOk = @PySem.W.Fast.tw6613529449190102663 := PySem.W.Fast.te6613529449190102663
theorem te_step : @stepT = @PySem.W.Fast.tw10156331382660048174 := PySem.W.Fast.te10156331382660048174
theorem te_den : @denote = @PySem.W.Fast.tw11892475500146522536 := PySem.W.Fast.te11892475500146522536
theorem te_tab : @treeTable = @PySem.W.Fast.tw14364793385576792824 := PySem.W.Fast.te14364793385576792824
theorem te_seen : @openSeen = @PySem.W.Fast.tw4187177175401517315 := PySem.W.Fast.te4187177175401517315
theorem te_imp : @importedModules = @PySem.W.Fast.tw5923862056798008813 := PySem.W.Fast.te5923862056798008813
end HD


end
section
set_option Elab.async false
set_option linter.all false
set_option maxRecDepth 100000
set_option maxHeartbeats 4000000
namespace DL
open PySem PySem.Spec PyProof.Rows L2
noncomputable def wO {β : Type} (o : Out β) (Q : β → Sto → Prop) (E : Str → Sto → Prop) : Prop := match o with
  | .ok a M => Q a M
  | .exc c M => E c M
  | .bad => False
noncomputable def wS (f : Fl) (N : Ro → Sto → Prop) (R : D → Sto → Prop) (B C : Ro → Sto → Prop) (E : Str → Sto → Prop) : Prop := match f with
  | .nx ρ M => N ρ M
  | .ret d M => R d M
  | .brk ρ M => B ρ M
  | .cnt ρ M => C ρ M
  | .exc c M => E c M
  | .bad => False
noncomputable def Br (k : Bool) (A B : Prop) : Prop := (k = true → A) ∧ (k = false → B)
noncomputable def wG {β : Type} (o : Option β) (N : β → Prop) : Prop := match o with | some ρ => N ρ | none => False
noncomputable def wV (o : Option (Option D)) (Q : D → Prop) : Prop := match o with | some (some d) => Q d | _ => False
noncomputable def wI (x : D) (Q : Int → Prop) : Prop := match x with | .int i => Q i | _ => False
noncomputable def wB (x : D) (Q : Bool → Prop) : Prop := match x with | .bl i => Q i | _ => False
noncomputable def wR (x : D) (Q : Nat → Prop) : Prop := match x with | .ref i => Q i | _ => False
noncomputable def w1 (x : List D) (Q : D → Prop) : Prop := match x with | [v] => Q v | _ => False
noncomputable def w2 (x : List D) (Q : D → D → Prop) : Prop := match x with | [v, w] => Q v w | _ => False
noncomputable def wL (o : Option SO) (Q : List D → Prop) : Prop := match o with | some (.lst xs) => Q xs | none => False
section
variable {β : Type} {o o' : Option (Option D)} {x x' : D} {Q : D → Prop} {QI : Int → Prop} {QB : Bool → Prop} {QR : Nat → Prop} {QL : List D → Prop} {l l' : Option SO} {d : D} {i : Int} {k : Bool} {n : Nat} {xs : List D} {g g' : Option β} {QG : β → Prop} {y : β}
theorem w1_s : w1 [d] Q = Q d := rfl
theorem w2_s {Q2 : D → D → Prop} : w2 [d, x] Q2 = Q2 d x := rfl
theorem wV_s : wV (some (some d)) Q = Q d := rfl
theorem wI_i : wI (.int i) QI = QI i := rfl
theorem wB_b : wB (.bl k) QB = QB k := rfl
theorem wR_r : wR (.ref n) QR = QR n := rfl
theorem wL_l : wL (some (.lst xs)) QL = QL xs := rfl
theorem wG_s : wG (some y) QG = QG y := rfl
end
section
variable {β : Type} {Q : β → Sto → Prop} {E : Str → Sto → Prop} {N B C : Ro → Sto → Prop} {R : D → Sto → Prop} {ρ : Ro} {M : Sto} {A A' : Prop}
theorem wO_ok {d : β} : wO (.ok d M) Q E = Q d M := rfl
theorem wO_exc {c : Str} : wO (.exc c M : Out β) Q E = E c M := rfl
theorem Br_t : Br true A A' = A := by simp [Br]
theorem Br_f : Br false A A' = A' := by simp [Br]
theorem brD {p : Prop} [Decidable p] (h1 : p → A) (h2 : ¬ p → A') : Br (decide p) A A' := ⟨fun h => h1 (of_decide_eq_true h), fun h => h2 (of_decide_eq_false h)⟩
theorem brN {p : Prop} [Decidable p] (h1 : ¬ p → A) (h2 : p → A') : Br (!decide p) A A' := ⟨fun h => h1 (by simpa using h), fun h => h2 (by simpa using h)⟩
theorem wO_mono {o : Out β} {Q' : β → Sto → Prop} {E' : Str → Sto → Prop} (h : wO o Q E) (hq : ∀ d M, Q d M → Q' d M) (he : ∀ c M, E c M → E' c M) : wO o Q' E' := by
  cases o with
  | ok d M => exact hq d M h
  | exc c M => exact he c M h
  | bad => exact h
theorem wO_get {o : Out β} (h : wO o Q (fun _ _ => False)) : ∃ d M', o = .ok d M' ∧ Q d M' := by
  cases o with
  | ok d M => exact ⟨d, M, rfl, h⟩
  | exc c M => exact h.elim
  | bad => exact h.elim
theorem wO_bind {γ : Type} {o : Out γ} {f : γ → Sto → Out β} : wO (o.bind f) Q E = wO o (fun x M1 => wO (f x M1) Q E) E := by cases o <;> rfl
end
section
variable {Q : D → Sto → Prop} {E : Str → Sto → Prop} {N B C : Ro → Sto → Prop} {R : D → Sto → Prop} {ρ : Ro} {M : Sto} {e f g : Ev} {fs : Av}
theorem wO_e2 {op : Bo} : wO (e2 op f g ρ M) Q E = wO (f ρ M) (fun x M1 => wO (g ρ M1) (fun y M2 => wO (op x y M2) Q E) E) E := by
  unfold e2
  rw [wO_bind]
  congr 1
  funext x M1
  rw [wO_bind]
theorem wO_v {i : Nat} : wO (eVar i ρ M) Q E = wV ρ[i]? (fun d => Q d M) := by
  unfold eVar
  cases ρ[i]? with
  | none => rfl
  | some o => cases o <;> rfl
theorem wO_call {F : List D → Sto → Out D} : wO (eCall F fs ρ M) Q E = wO (fs ρ M) (fun ds M1 => wO (F ds M1) Q E) E := wO_bind
theorem wA_cons {Q : List D → Sto → Prop} : wO (aCons f fs ρ M) Q E = wO (f ρ M) (fun x M1 => wO (fs ρ M1) (fun xs M2 => Q (x :: xs) M2) E) E := by
  unfold aCons
  rw [wO_bind]
  congr 1
  funext x M1
  rw [wO_bind]
  congr 1
theorem wO_tup : wO (eTup fs ρ M) Q E = wO (fs ρ M) (fun xs M1 => xs.length ≤ 1000 ∧ Q (.tup xs) M1) E := by
  unfold eTup
  rw [wO_bind]
  congr 1
  funext x M1
  by_cases h : x.length ≤ 1000
  · rw [if_pos h]; simp [h, wO]
  · rw [if_neg h]; simp [h, wO]
theorem wO_lst : wO (eLst fs ρ M) Q E = wO (fs ρ M) (fun xs M1 => xs.length ≤ 1000 ∧ Q (.ref M1.length) (M1 ++ [.lst xs])) E := by
  unfold eLst
  rw [wO_bind]
  congr 1
  funext x M1
  by_cases h : x.length ≤ 1000
  · rw [if_pos h]; simp [h, wO]
  · rw [if_neg h]; simp [h, wO]
variable {t u : Tv}
theorem wT_not {Q : Bool → Sto → Prop} : wO (tNot1 t ρ M) Q E = wO (t ρ M) (fun k M1 => Q (!k) M1) E := by
  unfold tNot1
  rw [wO_bind]
  congr 1
variable {a b : Sv}
theorem wS_seq : wS (sSeq a b ρ M) N R B C E = wS (a ρ M) (fun ρ1 M1 => wS (b ρ1 M1) N R B C E) R B C E := by
  unfold sSeq
  cases a ρ M <;> rfl
theorem wS_bind {β : Type} {o : Out β} {k : β → Sto → Fl} : wS (bindF o k) N R B C E = wO o (fun x M1 => wS (k x M1) N R B C E) E := by cases o <;> rfl
theorem wS_ret : wS (sRet f ρ M) N R B C E = wO (f ρ M) R E := wS_bind
theorem wS_drop : wS (sDrop f ρ M) N R B C E = wO (f ρ M) (fun _ M1 => N ρ M1) E := wS_bind
theorem wS_asg {i : Nat} : wS (sAsg (gNm i) f ρ M) N R B C E = wO (f ρ M) (fun d M1 => N (ρ.set i (some d)) M1) E := wS_bind
theorem wS_asgT {gs : Tgs} : wS (sAsg (gTp gs) f ρ M) N R B C E = wO (f ρ M) (fun d M1 => wG (gTp gs d ρ) (fun r => N r M1)) E := by
  unfold sAsg
  rw [wS_bind]
  congr 1
  funext d M1
  cases gTp gs d ρ <;> rfl
theorem wS_par {i j : Nat} : wS (sPar i j fs ρ M) N R B C E = wO (fs ρ M) (fun ds M1 => w2 ds fun v w => N ((ρ.set i (some v)).set j (some w)) M1) E := by
  unfold sPar
  rw [wS_bind]
  congr 1
  funext ds M1
  rcases ds with _ | ⟨v, _ | ⟨w, _ | ⟨z, r⟩⟩⟩ <;> rfl
theorem wS_put {fo fi : Ev} : wS (sPut fo fi f ρ M) N R B C E = wO (f ρ M) (fun d M1 => wO (fo ρ M1) (fun o M2 => wO (fi ρ M2) (fun i M3 => wR o fun n => wI i fun k => wL M3[n]? fun xs => wG (ixN xs.length k) fun j => N ρ (M3.set n (.lst (xs.set j d)))) E) E) E := by
  unfold sPut
  rw [wS_bind]
  congr 1
  funext d M1
  rw [wS_bind]
  congr 1
  funext o M2
  rw [wS_bind]
  congr 1
  funext i M3
  cases o <;> cases i <;> try rfl
  rename_i n k
  cases e : M3[n]? with
  | none => simp only [e, wR, wI, wL, wS]
  | some s =>
    cases s with
    | lst xs =>
      cases e2 : ixN xs.length k <;> simp only [e, e2, wR, wI, wL, wG, wS]
theorem wS_raise {c : Str} : wS (sRaise c fs ρ M) N R B C E = wO (fs ρ M) (fun ds M1 => ds.length ≤ 1000 ∧ E c M1) E := by
  unfold sRaise
  rw [wS_bind]
  congr 1
  funext ds M1
  by_cases h : ds.length ≤ 1000
  · rw [if_pos h]; simp [h, wS]
  · rw [if_neg h]; simp [h, wS]
theorem wF {n k : Nat} {ds : List D} (hl : ds.length = n) : wO (fnF a n k ds M) Q E = wS (a (ds.map some ++ List.replicate k none) M) (fun _ M1 => Q .non M1) Q (fun _ _ => False) (fun _ _ => False) E := by
  unfold fnF
  rw [if_pos hl]
  cases a (ds.map some ++ List.replicate k none) M <;> rfl
theorem wS_mono {o : Fl} {N' B' C' : Ro → Sto → Prop} {R' : D → Sto → Prop} {E' : Str → Sto → Prop} (h : wS o N R B C E) (hn : ∀ ρ M, N ρ M → N' ρ M) (hr : ∀ d M, R d M → R' d M) (hb : ∀ ρ M, B ρ M → B' ρ M) (hc : ∀ ρ M, C ρ M → C' ρ M) (he : ∀ c M, E c M → E' c M) : wS o N' R' B' C' E' := by
  cases o with
  | nx ρ M => exact hn _ _ h
  | ret ρ M => exact hr _ _ h
  | brk ρ M => exact hb _ _ h
  | cnt ρ M => exact hc _ _ h
  | exc ρ M => exact he _ _ h
  | bad => exact h
variable {tg : Tg} {bd : Sv} {fi : Ro → Sto → Out Src}
theorem wS_forD (I : Nat → Ro → Sto → Prop) : ∀ (xs : List D) (k : Nat) (ρ : Ro) (M : Sto), I k ρ M → (∀ i ρ M (h : i < xs.length), I (k + i) ρ M → wG (tg xs[i] ρ) fun r => wS (bd r M) (I (k + i + 1)) R N (I (k + i + 1)) E) → (∀ ρ M, I (k + xs.length) ρ M → N ρ M) → wS (forD tg bd xs ρ M) N R B C E
  | [], k, ρ, M, h, _, hn => hn ρ M h
  | x :: xs, k, ρ, M, h, st, hn => by
    have s := st 0 ρ M (by simp) h
    unfold forD
    simp only [List.getElem_cons_zero, Nat.add_zero] at s
    cases e : tg x ρ with
    | none => rw [e] at s; exact s.elim
    | some ρ1 =>
      rw [e] at s
      simp only [wG] at s
      have rc : ∀ ρ2 M2, I (k + 1) ρ2 M2 → wS (forD tg bd xs ρ2 M2) N R B C E := fun ρ2 M2 h2 => wS_forD I xs (k + 1) ρ2 M2 h2 (fun i ρ M hi hI => by
        have z := st (i + 1) ρ M (by simp; omega) (by rw [show k + (i + 1) = k + 1 + i by omega]; exact hI)
        simp only [List.getElem_cons_succ] at z
        rw [show k + (i + 1) + 1 = k + 1 + i + 1 by omega] at z
        exact z) (fun ρ M hI => hn ρ M (by rw [show k + (x :: xs).length = k + 1 + xs.length by simp; omega]; exact hI))
      cases eg : bd ρ1 M <;> rw [eg] at s <;> simp only [eg]
      · exact rc _ _ s
      · exact s
      · exact s
      · exact rc _ _ s
      · exact s
      · exact s
theorem wS_for1 : wS (sForR1 tg fs bd ρ M) N R B C E = wO (fs ρ M) (fun ds M1 => w1 ds fun d => wI d fun j => (-(2 ^ 62) ≤ j ∧ j < 2 ^ 62) ∧ wS (forD tg bd (rngD 0 j.toNat) ρ M1) N R B C E) E := by
  unfold sForR1
  rw [wS_bind]
  congr 1
  funext ds M1
  rcases ds with _ | ⟨v, _ | ⟨w, r⟩⟩
  · rfl
  · cases v <;> try rfl
    rename_i j
    by_cases h : -(2 ^ 62) ≤ j ∧ j < 2 ^ 62
    · simp only [w1, wI, eq_true h, true_and, if_true]
    · simp only [w1, wI, eq_false h, false_and, if_false]
      rfl
  · cases v <;> rfl
theorem wS_rng (I : Nat → Ro → Sto → Prop) {n : Nat} {lo : Int} (h0 : I 0 ρ M) (st : ∀ i ρ M, i < n → I i ρ M → wG (tg (.int (lo + i)) ρ) fun r => wS (bd r M) (I (i + 1)) R N (I (i + 1)) E) (hn : ∀ ρ M, I n ρ M → N ρ M) : wS (forD tg bd (rngD lo n) ρ M) N R B C E := by
  have hl : (rngD lo n).length = n := by simp [rngD]
  refine wS_forD I _ 0 ρ M h0 (fun i ρ M h hI => ?_) (fun ρ M hI => hn ρ M (by rw [hl, Nat.zero_add] at hI; exact hI))
  have : (rngD lo n)[i] = .int (lo + i) := by simp [rngD]
  rw [this]
  rw [Nat.zero_add] at *
  exact st i ρ M (by rw [hl] at h; exact h) hI
theorem wS_for : wS (sFor tg f bd ρ M) N R B C E = wO (f ρ M) (fun d M1 => wS (forI tg bd d ρ M1) N R B C E) E := wS_bind
theorem wS_forL (I : Nat → Ro → Sto → Prop) {n : Nat} {xs : List D} : ∀ (f i : Nat) (ρ : Ro) (M : Sto), i + f = xs.length → I i ρ M → (∀ i ρ M, I i ρ M → M[n]? = some (.lst xs)) → (∀ i ρ M (h : i < xs.length), I i ρ M → wG (tg xs[i] ρ) fun r => wS (bd r M) (I (i + 1)) R N (I (i + 1)) E) → (∀ ρ M, I xs.length ρ M → N ρ M) → wS (forL tg bd n f i ρ M) N R B C E
  | f, i, ρ, M, e, h, hm, st, hn => by
    have hx := hm _ _ _ h
    unfold forL
    rw [hx]
    cases f with
    | zero =>
      have : xs[i]? = none := List.getElem?_eq_none (by omega)
      simp only [this]
      exact hn ρ M (by rw [show xs.length = i by omega]; exact h)
    | succ f =>
      have hi : i < xs.length := by omega
      have : xs[i]? = some xs[i] := List.getElem?_eq_getElem hi
      simp only [this]
      have s := st i ρ M hi h
      cases e : tg xs[i] ρ with
      | none => rw [e] at s; exact s.elim
      | some ρ1 =>
        rw [e] at s
        simp only [wG] at s
        have rc : ∀ ρ2 M2, I (i + 1) ρ2 M2 → wS (forL tg bd n f (i + 1) ρ2 M2) N R B C E := fun ρ2 M2 h2 => wS_forL I f (i + 1) ρ2 M2 (by omega) h2 hm st hn
        cases eg : bd ρ1 M <;> rw [eg] at s <;> simp only [eg]
        · exact rc _ _ s
        · exact s
        · exact s
        · exact rc _ _ s
        · exact s
        · exact s
theorem wS_forI (I : Nat → Ro → Sto → Prop) {n : Nat} {xs : List D} (hM : M[n]? = some (.lst xs)) (h0 : I 0 ρ M) (hm : ∀ i ρ M, I i ρ M → M[n]? = some (.lst xs)) (st : ∀ i ρ M (h : i < xs.length), I i ρ M → wG (tg xs[i] ρ) fun r => wS (bd r M) (I (i + 1)) R N (I (i + 1)) E) (hn : ∀ ρ M, I xs.length ρ M → N ρ M) : wS (forI tg bd (.ref n) ρ M) N R B C E := by
  show wS (match M[n]? with | some (.lst xs) => forL tg bd n xs.length 0 ρ M | none => .bad) N R B C E
  rw [hM]
  exact wS_forL I xs.length 0 ρ M (by omega) h0 hm st hn
theorem wS_forS : wS (sForS tg fi bd ρ M) N R B C E = wO (fi ρ M) (fun src M1 => wS (forS tg bd src (cnt src M1) 0 ρ M1) N R B C E) E := wS_bind
theorem wS_src (I : Nat → Ro → Sto → Prop) {src : Src} {xs : List D} : ∀ (f i : Nat) (ρ : Ro) (M : Sto), i ≤ xs.length → xs.length ≤ i + f → I i ρ M → (∀ i ρ M, i ≤ xs.length → I i ρ M → nxt src i M = some xs[i]?) → (∀ i ρ M (h : i < xs.length), I i ρ M → wG (tg xs[i] ρ) fun r => wS (bd r M) (I (i + 1)) R N (I (i + 1)) E) → (∀ ρ M, I xs.length ρ M → N ρ M) → wS (forS tg bd src f i ρ M) N R B C E
  | f, i, ρ, M, le, e, h, hm, st, hn => by
    have hx := hm _ _ _ le h
    unfold forS
    rw [hx]
    by_cases hi : i < xs.length
    · have : xs[i]? = some xs[i] := List.getElem?_eq_getElem hi
      simp only [this]
      cases f with
      | zero => omega
      | succ f =>
        have s := st i ρ M hi h
        simp only []
        cases e : tg xs[i] ρ with
        | none => rw [e] at s; exact s.elim
        | some ρ1 =>
          rw [e] at s
          simp only [wG] at s
          have rc : ∀ ρ2 M2, I (i + 1) ρ2 M2 → wS (forS tg bd src f (i + 1) ρ2 M2) N R B C E := fun ρ2 M2 h2 => wS_src I f (i + 1) ρ2 M2 (by omega) (by omega) h2 hm st hn
          cases eg : bd ρ1 M <;> rw [eg] at s <;> simp only [eg]
          · exact rc _ _ s
          · exact s
          · exact s
          · exact rc _ _ s
          · exact s
          · exact s
    · have : xs[i]? = none := List.getElem?_eq_none (by omega)
      simp only [this]
      exact hn ρ M (by rw [show xs.length = i by omega]; exact h)
theorem wS_while {c : Tv} (I : Nat → Ro → Sto → Prop) (st : ∀ n ρ M, I n ρ M → wO (c ρ M) (fun k M1 => Br k (wS (bd ρ M1) (fun ρ2 M2 => ∃ m, m < n ∧ I m ρ2 M2) R N (fun ρ2 M2 => ∃ m, m < n ∧ I m ρ2 M2) E) (N ρ M1)) E) : ∀ (n : Nat) (ρ : Ro) (M : Sto), I n ρ M → wS (sWh c bd ρ M) N R B C E := by
  intro n
  induction n using Nat.strongRecOn with
  | ind n ih =>
    intro ρ M h
    have s := st n ρ M h
    cases ec : c ρ M with
    | bad => rw [ec] at s; exact s.elim
    | exc x M1 => rw [ec] at s; rw [sWh_of (n := 1) (o := .exc x M1) (by simp only [whN, ec])]; exact s
    | ok k M1 =>
      rw [ec] at s
      cases k with
      | false =>
        rw [wO_ok, Br_f] at s
        rw [sWh_false ec]
        exact s
      | true =>
        rw [wO_ok, Br_t] at s
        cases eg : bd ρ M1 with
        | nx ρ2 M2 =>
          rw [eg] at s
          obtain ⟨m, hm, hI⟩ := s
          have r := ih m hm ρ2 M2 hI
          rw [sWh_true ec eg (by intro z; rw [z] at r; exact r)]
          exact r
        | cnt ρ2 M2 =>
          rw [eg] at s
          obtain ⟨m, hm, hI⟩ := s
          have r := ih m hm ρ2 M2 hI
          have nb : sWh c bd ρ2 M2 ≠ .bad := by intro z; rw [z] at r; exact r
          obtain ⟨j, ej⟩ := sWh_ok nb
          rw [sWh_of (n := j + 1) (o := sWh c bd ρ2 M2) (by simp only [whN, ec, eg]; exact ej)]
          exact r
        | brk ρ2 M2 => rw [eg] at s; rw [sWh_of (n := 1) (o := .nx ρ2 M2) (by simp only [whN, ec, eg])]; exact s
        | ret d M2 => rw [eg] at s; rw [sWh_of (n := 1) (o := .ret d M2) (by simp only [whN, ec, eg])]; exact s
        | exc d M2 => rw [eg] at s; rw [sWh_of (n := 1) (o := .exc d M2) (by simp only [whN, ec, eg])]; exact s
        | bad => rw [eg] at s; exact s.elim
theorem wO_comp {fi : Ro → Sto → Out Src} {k : Nat} {fr : List Nat} {c : Tv} : wO (eComp fi k fr tg c f ρ M) Q E = wO (fi ρ M) (fun src M1 => wO (cmpL src tg c f M1.length (cnt src M1) 0 (roB k fr ρ) (M1 ++ [.lst []])) (fun _ M2 => Q (.ref M1.length) M2) (fun _ _ => False)) E := by
  unfold eComp
  rw [wO_bind]
  congr 1
  funext src M1
  cases cmpL src tg c f M1.length (cnt src M1) 0 (roB k fr ρ) (M1 ++ [.lst []]) <;> rfl
theorem wO_cmp (I : Nat → Ro → Sto → Prop) {src : Src} {xs : List D} {c : Tv} {m : Nat} {Q : Sto → Prop} : ∀ (fu i : Nat) (ρ : Ro) (M : Sto), i ≤ xs.length → xs.length ≤ i + fu → I i ρ M → (∀ i ρ M, i ≤ xs.length → I i ρ M → nxt src i M = some xs[i]?) →
    (∀ i ρ M (h : i < xs.length), I i ρ M → wG (tg xs[i] ρ) fun r => wO (c r M) (fun k M1 => Br k (wO (f r M1) (fun y M2 => wL M2[m]? fun ys => ys.length < 10000000 ∧ I (i + 1) r (M2.set m (.lst (ys ++ [y])))) (fun _ _ => False)) (I (i + 1) r M1)) (fun _ _ => False)) →
    (∀ ρ M, I xs.length ρ M → Q M) → wO (cmpL src tg c f m fu i ρ M) (fun _ M2 => Q M2) (fun _ _ => False)
  | fu, i, ρ, M, le, e, h, hm, st, hn => by
    have hx := hm _ _ _ le h
    unfold cmpL
    rw [hx]
    by_cases hi : i < xs.length
    · have : xs[i]? = some xs[i] := List.getElem?_eq_getElem hi
      simp only [this]
      cases fu with
      | zero => omega
      | succ fu =>
        have s := st i ρ M hi h
        simp only []
        cases e : tg xs[i] ρ with
        | none => rw [e] at s; exact s.elim
        | some ρ1 =>
          rw [e] at s
          simp only [wG] at s
          have rc : ∀ ρ2 M2, I (i + 1) ρ2 M2 → wO (cmpL src tg c f m fu (i + 1) ρ2 M2) (fun _ M2 => Q M2) (fun _ _ => False) := fun ρ2 M2 h2 => wO_cmp I fu (i + 1) ρ2 M2 (by omega) (by omega) h2 hm st hn
          cases ec : c ρ1 M with
          | bad => rw [ec] at s; exact s.elim
          | exc _ _ => rw [ec] at s; exact s.elim
          | ok k M1 =>
            rw [ec] at s
            rw [wO_ok] at s
            cases k with
            | false =>
              rw [Br_f] at s
              simp only [ec]
              exact rc _ _ s
            | true =>
              rw [Br_t] at s
              simp only [ec]
              cases ef : f ρ1 M1 with
              | bad => rw [ef] at s; exact s.elim
              | exc _ _ => rw [ef] at s; exact s.elim
              | ok y M2 =>
                rw [ef, wO_ok] at s
                simp only [ef]
                cases ey : M2[m]? with
                | none => rw [ey] at s; exact s.elim
                | some o =>
                  cases o with
                  | lst ys =>
                    rw [ey] at s
                    simp only [wL, ey] at s ⊢
                    rw [if_pos s.1]
                    exact rc _ _ s.2
    · have : xs[i]? = none := List.getElem?_eq_none (by omega)
      simp only [this]
      exact hn ρ M (by rw [show xs.length = i by omega]; exact h)
end
end DL


end
section
set_option Elab.async false
set_option linter.all false
set_option maxRecDepth 100000
set_option maxHeartbeats 4000000
namespace DL
open PySem PySem.Spec PyProof.Rows L2
section
variable {Q : D → Sto → Prop} {E : Str → Sto → Prop} {N B C : Ro → Sto → Prop} {R : D → Sto → Prop} {ρ : Ro} {M : Sto} {f : Ev} {fs : Av} {i j : Int} {n m k : Nat} {x y d : D} {xs ys ds : List D} {lo hi : Ro → Sto → Out (Option Int)}
theorem mulFits_of64 (h : -(18446744073709551616) < i ∧ i < 18446744073709551616) : mulFits i j := mulFits_l h.1 h.2
theorem mulFits_of64r (h : -(18446744073709551616) < j ∧ j < 18446744073709551616) : mulFits i j := mulFits_r h.1 h.2
theorem divFits_of64 (h : 0 < j ∧ j < 18446744073709551616) : divFits j := by
  refine ⟨by omega, ?_⟩
  have : j.natAbs.log2 < 64 := (Nat.log2_lt (by omega)).mpr (by omega)
  omega
theorem v_add : wO (dAdd (.int i) (.int j) M) Q E = Q (.int (i + j)) M := rfl
theorem v_sub : wO (dSub (.int i) (.int j) M) Q E = Q (.int (i - j)) M := rfl
theorem v_mulF (h : mulFits i j) : wO (dMul (.int i) (.int j) M) Q E = Q (.int (i * j)) M := by
  show wO (if mulFits i j then _ else _) Q E = _
  rw [if_pos h]; rfl
theorem v_mul (h : -(18446744073709551616) < i ∧ i < 18446744073709551616) : wO (dMul (.int i) (.int j) M) Q E = Q (.int (i * j)) M := v_mulF (mulFits_of64 h)
theorem v_mulr (h : -(18446744073709551616) < j ∧ j < 18446744073709551616) : wO (dMul (.int i) (.int j) M) Q E = Q (.int (i * j)) M := v_mulF (mulFits_of64r h)
theorem v_div (h : 0 < j ∧ j < 18446744073709551616) : wO (dDiv (.int i) (.int j) M) Q E = Q (.int (i / j)) M := by
  show wO (if divFits j then _ else _) Q E = _
  rw [if_pos (divFits_of64 h), Int.fdiv_eq_ediv_of_nonneg _ (by omega)]; rfl
theorem v_mod (h : 0 < j) : wO (dMod (.int i) (.int j) M) Q E = Q (.int (i % j)) M := by
  show wO (if j ≠ 0 then _ else _) Q E = _
  rw [if_pos (by omega), Int.fmod_eq_emod_of_nonneg _ (by omega)]; rfl
theorem v_pow (h : 0 ≤ j ∧ j ≤ 1000000 ∧ i.natAbs < 18446744073709551616) : wO (dPow (.int i) (.int j) M) Q E = Q (.int (i ^ j.toNat)) M := by
  show wO (if 0 ≤ j ∧ j ≤ 1000000 ∧ i.natAbs < 2 ^ 64 then _ else _) Q E = _
  rw [if_pos ⟨h.1, h.2.1, by omega⟩]; rfl
theorem v_lt : wO (dLt (.int i) (.int j) M) Q E = Q (.bl (decide (i < j))) M := rfl
theorem v_le : wO (dLe (.int i) (.int j) M) Q E = Q (.bl (decide (i ≤ j))) M := rfl
theorem v_gt : wO (dGt (.int i) (.int j) M) Q E = Q (.bl (decide (j < i))) M := rfl
theorem v_ge : wO (dGe (.int i) (.int j) M) Q E = Q (.bl (decide (j ≤ i))) M := rfl
theorem v_cat : wO (dAdd (.ref n) (.ref m) M) Q E = wL M[n]? fun xs => wL M[m]? fun ys => xs.length + ys.length ≤ 10000000 ∧ Q (.ref M.length) (M ++ [.lst (xs ++ ys)]) := by
  show wO (match M[n]?, M[m]? with | some (.lst xs), some (.lst ys) => _ | _, _ => _) Q E = _
  cases e1 : M[n]? with
  | none => rfl
  | some o =>
    cases o with
    | lst xs =>
      cases e2 : M[m]? with
      | none => rfl
      | some p =>
        cases p with
        | lst ys =>
          by_cases h : xs.length + ys.length ≤ 10000000
          · simp [wL, h, wO]
          · simp [wL, h, wO]
theorem v_tcat (h : xs.length + ys.length ≤ 100000 ∧ xs ≠ []) : wO (dAdd (.tup xs) (.tup ys) M) Q E = Q (.tup (xs ++ ys)) M := by
  show wO (if xs.length + ys.length ≤ 100000 ∧ xs ≠ [] then _ else _) Q E = _
  rw [if_pos h]; rfl
theorem v_eq : wO (dEq x y M) Q E = wG (eqF 12 M x y) fun b => Q (.bl b) M := by
  show wO (match eqF 12 M x y with | some b => _ | none => _) Q E = _
  cases eqF 12 M x y <;> rfl
theorem v_ne : wO (dNe x y M) Q E = wG (eqF 12 M x y) fun b => Q (.bl (!b)) M := by
  show wO (match eqF 12 M x y with | some b => _ | none => _) Q E = _
  cases eqF 12 M x y <;> rfl
theorem v_is : wO (dIs x y M) Q E = wG (isP x y) fun b => Q (.bl b) M := by
  show wO (match isP x y with | some b => _ | none => _) Q E = _
  cases isP x y <;> rfl
theorem v_isN : wO (dIsNot x y M) Q E = wG (isP x y) fun b => Q (.bl (!b)) M := by
  show wO (match isP x y with | some b => _ | none => _) Q E = _
  cases isP x y <;> rfl
theorem v_atD : wO (atD xs i M) Q E = wG (atI xs i) fun d => Q d M := by
  unfold atD
  cases atI xs i <;> rfl
theorem v_ixT : wO (dIx (.tup xs) (.int i) M) Q E = wG (atI xs i) fun d => Q d M := v_atD
theorem v_ixO : wO (dIx (.rol xs) (.int i) M) Q E = wG (atI xs i) fun d => Q d M := v_atD
theorem v_ixR : wO (dIx (.ref n) (.int i) M) Q E = wL M[n]? fun xs => wG (atI xs i) fun d => Q d M := by
  show wO (match M[n]? with | some (.lst xs) => atD xs i M | _ => .bad) Q E = _
  cases e1 : M[n]? with
  | none => rfl
  | some o => cases o with | lst xs => exact v_atD
theorem v_lenR : wO (bLen [.ref n] M) Q E = wL M[n]? fun xs => Q (.int xs.length) M := by
  show wO (match (match M[n]? with | some (.lst xs) => some xs | _ => none) with | some xs => _ | none => _) Q E = _
  cases e1 : M[n]? with
  | none => rfl
  | some o => cases o with | lst xs => rfl
theorem v_lenT : wO (bLen [.tup xs] M) Q E = Q (.int xs.length) M := rfl
theorem v_lenO : wO (bLen [.rol xs] M) Q E = Q (.int xs.length) M := rfl
theorem v_abs : wO (bAbs [.int i] M) Q E = Q (.int (i.natAbs : Int)) M := by rw [← abs_nat]; rfl
theorem v_max : wO (bMax [.int i, .int j] M) Q E = Q (.int (max i j)) M := by
  have : max i j = if j > i then j else i := by split <;> omega
  rw [this]; rfl
theorem v_min : wO (bMin [.int i, .int j] M) Q E = Q (.int (min i j)) M := by
  have : min i j = if j < i then j else i := by split <;> omega
  rw [this]; rfl
theorem v_intB {k : Bool} : wO (bInt [.bl k] M) Q E = Q (.int (if k then 1 else 0)) M := rfl
theorem v_intI : wO (bInt [.int i] M) Q E = Q (.int i) M := rfl
theorem v_listR : wO (bList [.ref n] M) Q E = wL M[n]? fun xs => Q (.ref M.length) (M ++ [.lst xs]) := by
  show wO (match (match M[n]? with | some (.lst xs) => some xs | _ => none) with | some xs => _ | none => _) Q E = _
  cases e1 : M[n]? with
  | none => rfl
  | some o => cases o with | lst xs => rfl
theorem v_listT : wO (bList [.tup xs] M) Q E = Q (.ref M.length) (M ++ [.lst xs]) := rfl
theorem v_all : wO (bAll [.ref n] M) Q E = wL M[n]? fun xs => wG (boolsD xs) fun bs => Q (.bl (bs.all id)) M := by
  show wO (match M[n]? with | some (.lst xs) => (match boolsD xs with | some bs => Out.ok (.bl (bs.all id)) M | none => .bad) | none => .bad) Q E = _
  cases e1 : M[n]? with
  | none => rfl
  | some o =>
    cases o with
    | lst xs =>
      show wO (match boolsD xs with | some bs => Out.ok (.bl (bs.all id)) M | none => .bad) Q E = wG (boolsD xs) _
      cases boolsD xs <;> rfl
theorem v_ints {g : List Int → Option Int} : wO (bInts g [.ref n] M) Q E = wL M[n]? fun xs => wG (intsD xs) fun ns => wG (g ns) fun i => Q (.int i) M := by
  show wO (match (match M[n]? with | some (.lst xs) => some xs | _ => none) with | some xs => (match intsD xs with | some ns => (match g ns with | some i => Out.ok (.int i) M | none => .bad) | none => .bad) | none => .bad) Q E = _
  cases e1 : M[n]? with
  | none => rfl
  | some o =>
    cases o with
    | lst xs =>
      show wO (match intsD xs with | some ns => (match g ns with | some i => Out.ok (.int i) M | none => .bad) | none => .bad) Q E = wG (intsD xs) _
      cases intsD xs with
      | none => rfl
      | some ns =>
        show wO (match g ns with | some i => Out.ok (.int i) M | none => .bad) Q E = wG (g ns) _
        cases g ns <;> rfl
theorem v_mt {g : Me} {fo : Ev} : wO (eMtL g fo fs ρ M) Q E = wO (fo ρ M) (fun x M1 => lstK x M1 = true ∧ wO (fs ρ M1) (fun ds M2 => wO (g x ds M2) Q E) E) E := by
  unfold eMtL
  rw [wO_bind]
  congr 1
  funext x M1
  by_cases h : lstK x M1 = true
  · simp only [h, if_true, true_and]; rw [wO_bind]
  · simp [h, wO]
theorem v_lstK : lstK (.ref n) M = M[n]?.isSome := rfl
theorem v_app : wO (mApp (.ref n) [d] M) Q E = wL M[n]? fun xs => xs.length < 10000000 ∧ Q .non (M.set n (.lst (xs ++ [d]))) := by
  show wO (match M[n]? with | some (.lst xs) => if xs.length < 10000000 then _ else _ | none => _) Q E = _
  cases e1 : M[n]? with
  | none => rfl
  | some o =>
    cases o with
    | lst xs =>
      by_cases h : xs.length < 10000000
      · simp [wL, h, wO]
      · simp [wL, h, wO]
theorem v_clr : wO (mClr (.ref n) [] M) Q E = wL M[n]? fun xs => Q .non (M.set n (.lst [])) := by
  show wO (match M[n]? with | some (.lst xs) => _ | none => _) Q E = _
  cases e1 : M[n]? with
  | none => rfl
  | some o => cases o with | lst xs => rfl
theorem v_ext : wO (mExt (.ref n) [.ref m] M) Q E = wL M[n]? fun xs => wL M[m]? fun ys => xs.length + ys.length ≤ 10000000 ∧ Q .non (M.set n (.lst (xs ++ ys))) := by
  show wO (match M[n]?, M[m]? with | some (.lst xs), some (.lst ys) => if xs.length + ys.length ≤ 10000000 then _ else _ | _, _ => _) Q E = _
  cases e1 : M[n]? with
  | none => rfl
  | some o =>
    cases o with
    | lst xs =>
      cases e2 : M[m]? with
      | none => rfl
      | some p =>
        cases p with
        | lst ys =>
          by_cases h : xs.length + ys.length ≤ 10000000
          · simp [wL, h, wO]
          · simp [wL, h, wO]
noncomputable def slR (x : D) (l u : Option Int) (M3 : Sto) : Out D := match x with
  | .ref n => (match M3[n]? with | some (.lst xs) => .ok (.ref M3.length) (M3 ++ [.lst (cutD xs l u)]) | none => .bad)
  | .rol xs => .ok (.ref M3.length) (M3 ++ [.lst (cutD xs l u)])
  | .tup xs => if HT.sIx xs.length 0 l = 0 ∧ HT.sIx xs.length xs.length u = xs.length then .bad else .ok (.tup (cutD xs l u)) M3
  | _ => .bad
theorem v_slE : wO (eSl f lo hi ρ M) Q E = wO (f ρ M) (fun x M1 => wO (lo ρ M1) (fun l M2 => wO (hi ρ M2) (fun u M3 => wO (slR x l u M3) Q E) E) E) E := by
  unfold eSl
  rw [wO_bind]
  congr 1
  funext x M1
  rw [wO_bind]
  congr 1
  funext l M2
  rw [wO_bind]
  congr 1
theorem v_slR {l u : Option Int} : wO (slR (.ref n) l u M) Q E = wL M[n]? fun xs => Q (.ref M.length) (M ++ [.lst (cutD xs l u)]) := by
  unfold slR
  cases e1 : M[n]? with
  | none => simp only [e1]; rfl
  | some o => cases o with | lst xs => simp only [e1]; rfl
theorem v_oSo {Q : Option Int → Sto → Prop} : wO (oSo f ρ M) Q E = wO (f ρ M) (fun x M1 => wI x fun i => Q (some i) M1) E := by
  unfold oSo
  rw [wO_bind]
  congr 1
  funext x M1
  cases x <;> rfl
theorem cut_to (h : 0 ≤ i) : cutD xs none (some i) = xs.take i.toNat := by
  unfold cutD
  simp only [HT.sIx]
  rw [if_neg (by omega), List.drop_zero, Nat.sub_zero]
  by_cases c : i.toNat ≤ xs.length
  · rw [Nat.min_eq_left c]
  · rw [Nat.min_eq_right (by omega), List.take_of_length_le (Nat.le_refl _), List.take_of_length_le (by omega)]
theorem cut_from (h : 0 ≤ i) : cutD xs (some i) none = xs.drop i.toNat := by
  unfold cutD
  simp only [HT.sIx]
  rw [if_neg (by omega)]
  by_cases c : i.toNat ≤ xs.length
  · rw [Nat.min_eq_left c, List.take_of_length_le (by simp)]
  · rw [Nat.min_eq_right (by omega), List.drop_eq_nil_of_le (Nat.le_refl _), List.drop_eq_nil_of_le (by omega), List.take_nil]
theorem s_at0 {L : Sto} : (M ++ L)[M.length]? = L[0]? := by rw [List.getElem?_append_right (Nat.le_refl _), Nat.sub_self]
theorem s_at {L : Sto} {i : Nat} : (M ++ L)[M.length + i]? = L[i]? := by rw [List.getElem?_append_right (by omega)]; congr 1; omega
theorem s_old {L : Sto} (h : n < M.length) : (M ++ L)[n]? = M[n]? := List.getElem?_append_left h
theorem s_set0 {L : Sto} {o : SO} : (M ++ L).set M.length o = M ++ L.set 0 o := by rw [List.set_append_right _ _ (Nat.le_refl _), Nat.sub_self]
theorem s_set {L : Sto} {o : SO} {i : Nat} : (M ++ L).set (M.length + i) o = M ++ L.set i o := by rw [List.set_append_right _ _ (by omega)]; congr 2; omega
theorem s_setN {o : SO} (h : k ≠ n) : (M.set n o)[k]? = M[k]? := List.getElem?_set_ne (Ne.symm h)
theorem s_setS {o : SO} (h : n < M.length) : (M.set n o)[n]? = some o := List.getElem?_set_self h
theorem lt_get {o : SO} (h : M[n]? = some o) : n < M.length := (List.getElem?_eq_some_iff.mp h).1
noncomputable abbrev pr (x y : Int) : D := .tup [.int x, .int y]
noncomputable def prs (rs : List (Int × Int)) : List D := rs.map fun p => pr p.1 p.2
noncomputable def nts (ns : List Int) : List D := ns.map D.int
theorem prs_len {rs : List (Int × Int)} : (prs rs).length = rs.length := List.length_map _
theorem nts_len {rs : List Int} : (nts rs).length = rs.length := List.length_map _
theorem prs_app {a b : List (Int × Int)} : prs a ++ prs b = prs (a ++ b) := (List.map_append).symm
theorem nts_app {a b : List Int} : nts a ++ nts b = nts (a ++ b) := (List.map_append).symm
theorem prs_take {a : List (Int × Int)} : (prs a).take n = prs (a.take n) := List.map_take.symm
theorem prs_drop {a : List (Int × Int)} : (prs a).drop n = prs (a.drop n) := List.map_drop.symm
theorem nts_take {a : List Int} : (nts a).take n = nts (a.take n) := List.map_take.symm
theorem nts_drop {a : List Int} : (nts a).drop n = nts (a.drop n) := List.map_drop.symm
theorem prs_cons {a b : Int} {r : List (Int × Int)} : pr a b :: prs r = prs ((a, b) :: r) := rfl
theorem prs_set {a : List (Int × Int)} {b c : Int} : (prs a).set n (pr b c) = prs (a.set n (b, c)) := by unfold prs; rw [List.map_set]
theorem nts_set {a : List Int} {b : Int} : (nts a).set n (.int b) = nts (a.set n b) := by unfold nts; rw [List.map_set]
noncomputable def cy (rs : List (Int × Int)) (i : Int) : Int × Int := rs.getD (i % rs.length).toNat (0, 0)
noncomputable def cn (rs : List Int) (i : Int) : Int := rs.getD (i % rs.length).toNat 0
theorem cn_nat {rs : List Int} {k : Nat} (h : k < rs.length) : cn rs k = rs[k] := by
  unfold cn
  rw [Int.emod_eq_of_lt (by omega) (by omega)]
  simp [List.getElem?_eq_getElem h]
theorem q_int {a b : Int} : eqF (n + 1) M (.int a) (.int b) = some (decide (a = b)) := rfl
theorem q_bl {a b : Bool} : eqF (n + 1) M (.bl a) (.bl b) = some (a == b) := rfl
theorem q_pr {a b c d : Int} : eqF (n + 2) M (pr a b) (pr c d) = some (decide ((a, b) = (c, d))) := by
  show some ((a == c) && ((b == d) && true)) = _
  congr 1
  rw [Bool.eq_iff_iff]
  simp
theorem q_ntsL {rs ss : List Int} : eqL (eqF (n + 1) M) (nts rs) (nts ss) = some (decide (rs = ss)) := by
  induction rs generalizing ss with
  | nil => cases ss <;> rfl
  | cons r rs ih =>
    cases ss with
    | nil => rfl
    | cons s ss =>
      show (match eqF (n + 1) M (.int r) (.int s) with | some a => (match eqL _ (nts rs) (nts ss) with | some b => some (a && b) | none => none) | none => none) = _
      rw [q_int, ih]
      simp only []
      congr 1
      rw [Bool.eq_iff_iff]
      simp
theorem q_lst {xs ys : List D} (h1 : M[n]? = some (.lst xs)) (h2 : M[m]? = some (.lst ys)) : eqF (k + 1) M (.ref n) (.ref m) = if xs.length = ys.length then eqL (eqF k M) xs ys else some false := by
  show (match kd M (.ref n), kd M (.ref m) with | some a, some b => eqK (eqF k M) a b | _, _ => none) = _
  have e1 : kd M (.ref n) = some (.lst xs) := by show (match M[n]? with | some (.lst xs) => some (Kd.lst xs) | _ => none) = _; rw [h1]
  have e2 : kd M (.ref m) = some (.lst ys) := by show (match M[m]? with | some (.lst xs) => some (Kd.lst xs) | _ => none) = _; rw [h2]
  rw [e1, e2]
  rfl
theorem q_nts {rs ss : List Int} (h1 : M[n]? = some (.lst (nts rs))) (h2 : M[m]? = some (.lst (nts ss))) : eqF 12 M (.ref n) (.ref m) = some (decide (rs = ss)) := by
  rw [q_lst h1 h2, nts_len, nts_len]
  by_cases c : rs.length = ss.length
  · rw [if_pos c, q_ntsL]
  · rw [if_neg c]
    congr 1
    symm
    exact decide_eq_false fun z => c (by rw [z])
theorem ty_int : tyName M (.int i) = some "int" := rfl
theorem ty_bl {b : Bool} : tyName M (.bl b) = some "bool" := rfl
theorem ty_tup : tyName M (.tup xs) = some "tuple" := rfl
theorem ty_non : tyName M .non = some "NoneType" := rfl
theorem ty_ref (h : M[n]? = some (.lst xs)) : tyName M (.ref n) = some "list" := by
  show (match (match M[n]? with | some (.lst xs) => some (Kd.lst xs) | _ => none) with | some .non => _ | some (.bl _) => _ | some (.int _) => _ | some (.str _) => _ | some (.tup _) => _ | some (.lst _) => _ | none => _) = _
  rw [h]
end
end DL


end
section
set_option Elab.async false
set_option linter.all false
set_option maxRecDepth 100000
set_option maxHeartbeats 4000000
namespace DL
open PySem PySem.Spec PyProof.Rows L2
section
variable {Q : D → Sto → Prop} {E : Str → Sto → Prop} {N B C : Ro → Sto → Prop} {R : D → Sto → Prop} {ρ : Ro} {M : Sto} {f : Ev} {fs : Av} {i j : Int} {n m k : Nat} {x y z d : D} {xs ys ds : List D} {QS : Src → Sto → Prop} {tg : Tg} {bd : Sv} {b : Bool}
theorem wS_for2 : wS (sForR2 tg fs bd ρ M) N R B C E = wO (fs ρ M) (fun ds M1 => w2 ds fun x y => wI x fun i => wI y fun j => (-(2 ^ 62) ≤ i ∧ i < 2 ^ 62 ∧ -(2 ^ 62) ≤ j ∧ j < 2 ^ 62) ∧ wS (forD tg bd (rngD i (j - i).toNat) ρ M1) N R B C E) E := by
  unfold sForR2
  rw [wS_bind]
  congr 1
  funext ds M1
  rcases ds with _ | ⟨v, _ | ⟨w, _ | ⟨w', r⟩⟩⟩
  · rfl
  · cases v <;> rfl
  · cases v <;> try rfl
    cases w <;> try rfl
    rename_i i j
    by_cases h : -(2 ^ 62) ≤ i ∧ i < 2 ^ 62 ∧ -(2 ^ 62) ≤ j ∧ j < 2 ^ 62
    · simp only [w2, wI, eq_true h, true_and, if_true]
    · simp only [w2, wI, eq_false h, false_and, if_false]
      rfl
  · cases v <;> cases w <;> rfl
theorem v_R1 : wO (iR1 fs ρ M) QS E = wO (fs ρ M) (fun ds M1 => w1 ds fun d => wI d fun j => (-(2 ^ 62) ≤ j ∧ j < 2 ^ 62) ∧ QS (.pur (rngD 0 j.toNat)) M1) E := by
  unfold iR1
  rw [wO_bind]
  congr 1
  funext ds M1
  rcases ds with _ | ⟨v, _ | ⟨w, r⟩⟩
  · rfl
  · cases v <;> try rfl
    rename_i j
    by_cases h : -(2 ^ 62) ≤ j ∧ j < 2 ^ 62
    · simp only [w1, wI, eq_true h, true_and, if_true, wO_ok]
    · simp only [w1, wI, eq_false h, false_and, if_false]
      rfl
  · cases v <;> rfl
theorem v_R2 : wO (iR2 fs ρ M) QS E = wO (fs ρ M) (fun ds M1 => w2 ds fun x y => wI x fun i => wI y fun j => (-(2 ^ 62) ≤ i ∧ i < 2 ^ 62 ∧ -(2 ^ 62) ≤ j ∧ j < 2 ^ 62) ∧ QS (.pur (rngD i (j - i).toNat)) M1) E := by
  unfold iR2
  rw [wO_bind]
  congr 1
  funext ds M1
  rcases ds with _ | ⟨v, _ | ⟨w, _ | ⟨w', r⟩⟩⟩
  · rfl
  · cases v <;> rfl
  · cases v <;> try rfl
    cases w <;> try rfl
    rename_i i j
    by_cases h : -(2 ^ 62) ≤ i ∧ i < 2 ^ 62 ∧ -(2 ^ 62) ≤ j ∧ j < 2 ^ 62
    · simp only [w2, wI, eq_true h, true_and, if_true, wO_ok]
    · simp only [w2, wI, eq_false h, false_and, if_false]
      rfl
  · cases v <;> cases w <;> rfl
theorem v_En : wO (iEn fs ρ M) QS E = wO (fs ρ M) (fun ds M1 => w1 ds fun d => wR d fun n => QS (.enu n) M1) E := by
  unfold iEn
  rw [wO_bind]
  congr 1
  funext ds M1
  rcases ds with _ | ⟨v, _ | ⟨w, r⟩⟩ <;> try rfl
  · cases v <;> rfl
  · cases v <;> rfl
theorem v_Zp : wO (iZp fs ρ M) QS E = wO (fs ρ M) (fun ds M1 => w2 ds fun x y => wR x fun n => wR y fun m => QS (.zip n m) M1) E := by
  unfold iZp
  rw [wO_bind]
  congr 1
  funext ds M1
  rcases ds with _ | ⟨v, _ | ⟨w, _ | ⟨w', r⟩⟩⟩ <;> try rfl
  · cases v <;> rfl
  · cases v <;> cases w <;> rfl
  · cases v <;> cases w <;> rfl
theorem v_Rv : wO (iRv fs ρ M) QS E = wO (fs ρ M) (fun ds M1 => w1 ds fun d => wR d fun n => wL M1[n]? fun xs => QS (.rev n xs.length) M1) E := by
  unfold iRv
  rw [wO_bind]
  congr 1
  funext ds M1
  rcases ds with _ | ⟨v, _ | ⟨w, r⟩⟩ <;> try rfl
  · cases v <;> try rfl
    rename_i n
    cases e : M1[n]? with
    | none => simp only [e]; simp only [w1, wR, e]; rfl
    | some o => cases o with | lst xs => simp only [e, w1, wR]; rfl
  · cases v <;> rfl
noncomputable def kNon (Q : D → Sto → Prop) (ρ : Ro) (M : Sto) : Prop := Q .non M
theorem wF1 : wO (fnF bd 1 k [x] M) Q E = wS (bd (some x :: List.replicate k none) M) (kNon Q) Q (fun _ _ => False) (fun _ _ => False) E := wF rfl
theorem wF2 : wO (fnF bd 2 k [x, y] M) Q E = wS (bd (some x :: some y :: List.replicate k none) M) (kNon Q) Q (fun _ _ => False) (fun _ _ => False) E := wF rfl
theorem wF3 : wO (fnF bd 3 k [x, y, z] M) Q E = wS (bd (some x :: some y :: some z :: List.replicate k none) M) (kNon Q) Q (fun _ _ => False) (fun _ _ => False) E := wF rfl
theorem wF4 : wO (fnF bd 4 k [x, y, z, d] M) Q E = wS (bd (some x :: some y :: some z :: some d :: List.replicate k none) M) (kNon Q) Q (fun _ _ => False) (fun _ _ => False) E := wF rfl
theorem prs_snoc {a : List (Int × Int)} {b c : Int} : prs a ++ [pr b c] = prs (a ++ [(b, c)]) := by simp [prs]
theorem nts_snoc {a : List Int} {b : Int} : nts a ++ [D.int b] = nts (a ++ [b]) := by simp [nts]
theorem nts_cons {b : Int} {r : List Int} : D.int b :: nts r = nts (b :: r) := rfl
theorem isP_n : isP .non .non = some true := rfl
theorem isP_i : isP (.int i) .non = some false := rfl
theorem isP_t : isP (.tup xs) .non = some false := rfl
theorem isP_r : isP (.ref n) .non = some false := rfl
theorem cnt_sto (h : M[n]? = some (.lst xs)) : cnt (.sto n) M = xs.length := by show (match M[n]? with | some (.lst xs) => xs.length | none => 0) = _; rw [h]
theorem at2 {r : List D} : atI (x :: y :: z :: r) 2 = some z := by
  show (ixN (r.length + 3) 2).bind _ = _
  unfold ixN
  rw [if_pos (by decide), if_pos (by omega)]
  rfl
theorem at3 {r : List D} : atI (x :: y :: z :: d :: r) 3 = some d := by
  show (ixN (r.length + 4) 3).bind _ = _
  unfold ixN
  rw [if_pos (by decide), if_pos (by omega)]
  rfl
theorem isi_ii : isiT "int" "int" = true := rfl
theorem isi_ib : isiT "int" "bool" = false := rfl
theorem isi_bi : isiT "bool" "int" = true := rfl
theorem isi_bb : isiT "bool" "bool" = true := rfl
theorem isi_tt : isiT "tuple" "tuple" = true := rfl
theorem isi_ll : isiT "list" "list" = true := rfl
theorem isi_ti : isiT "tuple" "int" = false := rfl
theorem isi_tl : isiT "tuple" "list" = false := rfl
theorem isi_lt : isiT "list" "tuple" = false := rfl
theorem isi_li : isiT "list" "int" = false := rfl
theorem isi_nt : isiT "NoneType" "tuple" = false := rfl
theorem isi_nl : isiT "NoneType" "list" = false := rfl
theorem nx_enu (h : M[n]? = some (.lst xs)) : nxt (.enu n) k M = some ((xs[k]?).map fun d => D.tup [.int k, d]) := by
  show (match M[n]? with | some (.lst xs) => (match xs[k]? with | some x => some (some (D.tup [.int k, x])) | none => some none) | none => none) = _
  rw [h]
  simp only []
  cases xs[k]? <;> rfl
section
variable {g : Jv} {bb : Nat}
end
theorem nx_rev (h : M[n]? = some (.lst xs)) (hk : k ≤ xs.length) : nxt (.rev n xs.length) k M = some xs.reverse[k]? := by
  show (match M[n]? with | some (.lst ys) => if k < xs.length then (match ys[xs.length - 1 - k]? with | some x => some (some x) | none => none) else (if k = xs.length then some none else none) | none => none) = _
  rw [h]
  simp only []
  by_cases c : k < xs.length
  · rw [if_pos c, List.getElem?_reverse c, List.getElem?_eq_getElem (by omega)]
  · rw [if_neg c, if_pos (by omega), List.getElem?_eq_none (by simp; omega)]
theorem wS_rev (I : Nat → Ro → Sto → Prop) (h0 : I 0 ρ M) (hm : ∀ i ρ M, I i ρ M → M[n]? = some (.lst xs)) (st : ∀ (i : Nat) ρ M (h : i < xs.length), I i ρ M → wG (tg (xs[xs.length - 1 - i]) ρ) fun r => wS (bd r M) (I (i + 1)) R N (I (i + 1)) E) (hn : ∀ ρ M, I xs.length ρ M → N ρ M) : wS (forS tg bd (.rev n xs.length) (cnt (.rev n xs.length) M) 0 ρ M) N R B C E := by
  refine wS_src I (xs := xs.reverse) _ 0 ρ M (by simp) (by simp [cnt]) h0 (fun i ρ M hi hI => ?_) (fun i ρ M h hI => ?_) (fun ρ M hI => hn ρ M (by rw [List.length_reverse] at hI; exact hI))
  · exact nx_rev (hm _ _ _ hI) (by simpa using hi)
  · rw [List.getElem_reverse]
    exact st i ρ M (by simpa using h) hI
theorem wO_cmpP {src : Src} (Inv : Ro → Prop) (F : Nat → D) {Q : Sto → Prop} (hl : xs.length < 10000000) (hcnt : xs.length ≤ cnt src M) (h0 : Inv ρ) (hs : ∀ (L : Sto) (i : Nat), i ≤ xs.length → nxt src i (M ++ L) = some xs[i]?)
    (st : ∀ (i : Nat) (h : i < xs.length) (ρ : Ro) (L : Sto), Inv ρ → wG (tg xs[i] ρ) fun r => Inv r ∧ wO (f r (M ++ L)) (fun y M2 => y = F i ∧ M2 = M ++ L) (fun _ _ => False)) (hq : Q (M ++ [.lst ((List.range xs.length).map F)])) :
    wO (cmpL src tg (fun _ M => .ok true M) f M.length (cnt src M) 0 ρ (M ++ [.lst []])) (fun _ M2 => Q M2) (fun _ _ => False) := by
  refine wO_cmp (fun i ρ M' => Inv ρ ∧ M' = M ++ [.lst ((List.range i).map F)]) (xs := xs) _ 0 ρ _ (by simp) (by omega) ⟨h0, rfl⟩ (fun i ρ M' hi hI => by rw [hI.2]; exact hs _ i hi) (fun i ρ M' h hI => ?_) (fun ρ M' hI => by rw [hI.2]; exact hq)
  obtain ⟨hI, rfl⟩ := hI
  have s := st i h ρ [.lst ((List.range i).map F)] hI
  cases e : tg xs[i] ρ with
  | none => rw [e] at s; exact s.elim
  | some r =>
    rw [e] at s
    obtain ⟨hr, s⟩ := s
    show Br true _ _
    rw [Br_t]
    refine wO_mono s (fun y M2 ⟨h1, h2⟩ => ?_) (fun _ _ z => z)
    subst h1 h2
    rw [s_at0]
    refine ⟨by simp; omega, hr, ?_⟩
    rw [s_set0, List.range_succ, List.map_append]
    rfl
theorem rng_len {lo : Int} : (rngD lo n).length = n := by simp [rngD]
theorem rng_get {lo : Int} (h : k < (rngD lo n).length) : (rngD lo n)[k] = .int (lo + k) := by simp [rngD]
theorem rng_map {F : Nat → Int} : (List.range n).map (fun i => D.int (F i)) = nts ((List.range n).map F) := by simp [nts]
end
end DL


end
section
set_option Elab.async false
set_option linter.all false
set_option maxRecDepth 100000
set_option maxHeartbeats 4000000
namespace DL
open PySem PySem.Spec PyProof.Rows L2
section
variable {Q : D → Sto → Prop} {E : Str → Sto → Prop} {N B C : Ro → Sto → Prop} {R : D → Sto → Prop} {ρ : Ro} {M : Sto} {f g : Ev} {fs : Av} {i j : Int} {n m k : Nat} {x y z d : D} {xs ys ds : List D} {QL : List D → Sto → Prop} {QB : Bool → Sto → Prop} {QS : Src → Sto → Prop} {tg : Tg} {a bd : Sv} {b : Bool} {t u : Tv}
noncomputable def kU {β γ : Type} (u : β → Sto → Out γ) (Q : γ → Sto → Prop) (E : Str → Sto → Prop) (x : β) (M : Sto) : Prop := wO (u x M) Q E
noncomputable def kQ {β γ : Type} (Q : γ → Sto → Prop) (c : β → γ) (M : Sto) (x : β) : Prop := Q (c x) M
noncomputable def kB2 (op : Bo) (x : D) (Q : D → Sto → Prop) (E : Str → Sto → Prop) (y : D) (M : Sto) : Prop := wO (op x y M) Q E
noncomputable def kB1 (op : Bo) (g : Ev) (ρ : Ro) (Q : D → Sto → Prop) (E : Str → Sto → Prop) (x : D) (M : Sto) : Prop := wO (g ρ M) (kB2 op x Q E) E
theorem y_e2 {op : Bo} : wO (e2 op f g ρ M) Q E = wO (f ρ M) (kB1 op g ρ Q E) E := wO_e2
theorem y_c  : wO (eC d ρ M) Q E = Q d M := rfl
theorem y_v  : wO (eVar k ρ M) Q E = wV ρ[k]? (kQ Q id M) := wO_v
theorem y_call {F : List D → Sto → Out D} : wO (eCall F fs ρ M) Q E = wO (fs ρ M) (kU F Q E) E := wO_call
noncomputable def kA2 (x : D) (Q : List D → Sto → Prop) (xs : List D) (M : Sto) : Prop := Q (x :: xs) M
noncomputable def kA1 (fs : Av) (ρ : Ro) (Q : List D → Sto → Prop) (E : Str → Sto → Prop) (x : D) (M : Sto) : Prop := wO (fs ρ M) (kA2 x Q) E
theorem y_nil  : wO (aNil ρ M) QL E = QL [] M := rfl
theorem y_cons  : wO (aCons f fs ρ M) QL E = wO (f ρ M) (kA1 fs ρ QL E) E := wA_cons
noncomputable def kTu (Q : D → Sto → Prop) (xs : List D) (M : Sto) : Prop := xs.length ≤ 1000 ∧ Q (.tup xs) M
noncomputable def kLs (Q : D → Sto → Prop) (xs : List D) (M : Sto) : Prop := xs.length ≤ 1000 ∧ Q (.ref M.length) (M ++ [.lst xs])
theorem y_tup  : wO (eTup fs ρ M) Q E = wO (fs ρ M) (kTu Q) E := wO_tup
theorem y_lst  : wO (eLst fs ρ M) Q E = wO (fs ρ M) (kLs Q) E := wO_lst
noncomputable def oNeg (x : D) (M : Sto) : Out D := match x with | .int i => .ok (.int (-i)) M | _ => .bad
theorem y_neg  : wO (eNeg f ρ M) Q E = wO (f ρ M) (kU oNeg Q E) E := by unfold eNeg; exact wO_bind
theorem y_negI  : wO (oNeg (.int i) M) Q E = Q (.int (-i)) M := rfl
noncomputable def oIsi (T : String) (x : D) (M : Sto) : Out D := match tyName M x with | some t => .ok (.bl (isiT t T)) M | none => .bad
theorem y_isi {T : String} : wO (eIsi T f ρ M) Q E = wO (f ρ M) (kU (oIsi T) Q E) E := by unfold eIsi; exact wO_bind
noncomputable def kTy (T : String) (Q : D → Sto → Prop) (M : Sto) (t : String) : Prop := Q (.bl (isiT t T)) M
theorem y_isiO {T : String} : wO (oIsi T x M) Q E = wG (tyName M x) (kTy T Q M) := by unfold oIsi; cases tyName M x <;> rfl
noncomputable def tC (b : Bool) : Tv := fun _ M => .ok b M
noncomputable def BrO {β : Type} (k : Bool) (f g : Ro → Sto → Out β) (ρ : Ro) (M : Sto) (Q : β → Sto → Prop) (E : Str → Sto → Prop) : Prop := wO ((if k = true then f else g) ρ M) Q E
theorem y_bt {β : Type} {fO gO : Ro → Sto → Out β} {QO : β → Sto → Prop} : BrO true fO gO ρ M QO E = wO (fO ρ M) QO E := rfl
theorem y_bf {β : Type} {fO gO : Ro → Sto → Out β} {QO : β → Sto → Prop} : BrO false fO gO ρ M QO E = wO (gO ρ M) QO E := rfl
noncomputable def kIf (f g : Ev) (ρ : Ro) (Q : D → Sto → Prop) (E : Str → Sto → Prop) (k : Bool) (M : Sto) : Prop := BrO k f g ρ M Q E
theorem y_if  : wO (eIf t f g ρ M) Q E = wO (t ρ M) (kIf f g ρ Q E) E := by unfold eIf; rw [wO_bind]; congr 1; funext k M1; cases k <;> rfl
noncomputable def oAnd (g : Ev) (ρ : Ro) (x : D) (M : Sto) : Out D := match x with | .bl k => if k = true then g ρ M else .ok (.bl false) M | _ => .bad
noncomputable def oOr (g : Ev) (ρ : Ro) (x : D) (M : Sto) : Out D := match x with | .bl k => if k = true then .ok (.bl true) M else g ρ M | _ => .bad
noncomputable def oNot (x : D) (M : Sto) : Out D := match x with | .bl k => .ok (.bl (!k)) M | _ => .bad
noncomputable def oTv (x : D) (M : Sto) : Out Bool := match x with | .bl k => .ok k M | _ => .bad
theorem y_and  : wO (eAnd2 f g ρ M) Q E = wO (f ρ M) (kU (oAnd g ρ) Q E) E := by unfold eAnd2; exact wO_bind
theorem y_or  : wO (eOr2 f g ρ M) Q E = wO (f ρ M) (kU (oOr g ρ) Q E) E := by unfold eOr2; exact wO_bind
theorem y_not  : wO (eNot1 f ρ M) Q E = wO (f ρ M) (kU oNot Q E) E := by unfold eNot1; exact wO_bind
theorem y_andB  : wO (oAnd g ρ (.bl b) M) Q E = BrO b g (eC (.bl false)) ρ M Q E := by cases b <;> rfl
theorem y_orB  : wO (oOr g ρ (.bl b) M) Q E = BrO b (eC (.bl true)) g ρ M Q E := by cases b <;> rfl
theorem y_notB  : wO (oNot (.bl b) M) Q E = Q (.bl (!b)) M := rfl
theorem y_tv  : wO (tv f ρ M) QB E = wO (f ρ M) (kU oTv QB E) E := by unfold tv; exact wO_bind
theorem y_tvB  : wO (oTv (.bl b) M) QB E = QB b M := rfl
noncomputable def kTA (u : Tv) (ρ : Ro) (Q : Bool → Sto → Prop) (E : Str → Sto → Prop) (k : Bool) (M : Sto) : Prop := BrO k u (tC false) ρ M Q E
noncomputable def kTO (u : Tv) (ρ : Ro) (Q : Bool → Sto → Prop) (E : Str → Sto → Prop) (k : Bool) (M : Sto) : Prop := BrO k (tC true) u ρ M Q E
noncomputable def kTN (Q : Bool → Sto → Prop) (k : Bool) (M : Sto) : Prop := Q (!k) M
theorem y_tC  : wO (tC b ρ M) QB E = QB b M := rfl
theorem y_tand  : wO (tAnd2 t u ρ M) QB E = wO (t ρ M) (kTA u ρ QB E) E := by unfold tAnd2; rw [wO_bind]; congr 1; funext k M1; cases k <;> rfl
theorem y_tor  : wO (tOr2 t u ρ M) QB E = wO (t ρ M) (kTO u ρ QB E) E := by unfold tOr2; rw [wO_bind]; congr 1; funext k M1; cases k <;> rfl
theorem y_tnot  : wO (tNot1 t ρ M) QB E = wO (t ρ M) (kTN QB) E := wT_not
noncomputable def kSq (b : Sv) (N : Ro → Sto → Prop) (R : D → Sto → Prop) (B C : Ro → Sto → Prop) (E : Str → Sto → Prop) (ρ : Ro) (M : Sto) : Prop := wS (b ρ M) N R B C E
theorem y_seq  : wS (sSeq a bd ρ M) N R B C E = wS (a ρ M) (kSq bd N R B C E) R B C E := wS_seq
theorem y_snil  : wS (sNil ρ M) N R B C E = N ρ M := rfl
theorem y_brk  : wS (sBrk ρ M) N R B C E = B ρ M := rfl
theorem y_cnt  : wS (sCnt ρ M) N R B C E = C ρ M := rfl
theorem y_ret  : wS (sRet f ρ M) N R B C E = wO (f ρ M) R E := wS_ret
theorem y_retN  : wS (sRetN ρ M) N R B C E = R .non M := rfl
noncomputable def kDr (ρ : Ro) (N : Ro → Sto → Prop) (d : D) (M : Sto) : Prop := N ρ M
theorem y_drop  : wS (sDrop f ρ M) N R B C E = wO (f ρ M) (kDr ρ N) E := wS_drop
noncomputable def BrS (k : Bool) (a b : Sv) (ρ : Ro) (M : Sto) (N : Ro → Sto → Prop) (R : D → Sto → Prop) (B C : Ro → Sto → Prop) (E : Str → Sto → Prop) : Prop := wS ((if k = true then a else b) ρ M) N R B C E
theorem y_st  : BrS true a bd ρ M N R B C E = wS (a ρ M) N R B C E := rfl
theorem y_sf  : BrS false a bd ρ M N R B C E = wS (bd ρ M) N R B C E := rfl
theorem brS {p : Prop} [Decidable p] (h1 : p → wS (a ρ M) N R B C E) (h2 : ¬ p → wS (bd ρ M) N R B C E) : BrS (decide p) a bd ρ M N R B C E := by
  by_cases h : p
  · rw [decide_eq_true h]; exact h1 h
  · rw [decide_eq_false h]; exact h2 h
theorem midS (P : Ro → Sto → Prop) (h : BrS b a bd ρ M P R B C E) (hn : ∀ ρ M, P ρ M → N ρ M) : BrS b a bd ρ M N R B C E := by
  cases b
  · exact wS_mono h hn (fun _ _ z => z) (fun _ _ z => z) (fun _ _ z => z) (fun _ _ z => z)
  · exact wS_mono h hn (fun _ _ z => z) (fun _ _ z => z) (fun _ _ z => z) (fun _ _ z => z)
noncomputable def kSi (a b : Sv) (ρ : Ro) (N : Ro → Sto → Prop) (R : D → Sto → Prop) (B C : Ro → Sto → Prop) (E : Str → Sto → Prop) (k : Bool) (M : Sto) : Prop := BrS k a b ρ M N R B C E
theorem y_sif  : wS (sIf t a bd ρ M) N R B C E = wO (t ρ M) (kSi a bd ρ N R B C E) E := by unfold sIf; rw [wS_bind]; congr 1; funext k M1; cases k <;> rfl
noncomputable def kAs (i : Nat) (ρ : Ro) (N : Ro → Sto → Prop) (d : D) (M : Sto) : Prop := N (ρ.set i (some d)) M
theorem y_asg  : wS (sAsg (gNm k) f ρ M) N R B C E = wO (f ρ M) (kAs k ρ N) E := wS_asg
noncomputable def kAt (gs : Tgs) (ρ : Ro) (N : Ro → Sto → Prop) (d : D) (M : Sto) : Prop := wG (gTp gs d ρ) (kQ N id M)
theorem y_asgT {gs : Tgs} : wS (sAsg (gTp gs) f ρ M) N R B C E = wO (f ρ M) (kAt gs ρ N) E := wS_asgT
noncomputable def kPa2 (i j : Nat) (ρ : Ro) (N : Ro → Sto → Prop) (M : Sto) (v w : D) : Prop := N ((ρ.set i (some v)).set j (some w)) M
noncomputable def kPa (i j : Nat) (ρ : Ro) (N : Ro → Sto → Prop) (ds : List D) (M : Sto) : Prop := w2 ds (kPa2 i j ρ N M)
theorem y_par  : wS (sPar k m fs ρ M) N R B C E = wO (fs ρ M) (kPa k m ρ N) E := wS_par
noncomputable def kPu6 (n : Nat) (d : D) (xs : List D) (ρ : Ro) (N : Ro → Sto → Prop) (M : Sto) (j : Nat) : Prop := N ρ (M.set n (.lst (xs.set j d)))
noncomputable def kPu5 (n : Nat) (k : Int) (d : D) (ρ : Ro) (N : Ro → Sto → Prop) (M : Sto) (xs : List D) : Prop := wG (ixN xs.length k) (kPu6 n d xs ρ N M)
noncomputable def kPu4 (n : Nat) (d : D) (ρ : Ro) (N : Ro → Sto → Prop) (M : Sto) (k : Int) : Prop := wL M[n]? (kPu5 n k d ρ N M)
noncomputable def kPu3 (i : D) (d : D) (ρ : Ro) (N : Ro → Sto → Prop) (M : Sto) (n : Nat) : Prop := wI i (kPu4 n d ρ N M)
noncomputable def kPu2 (o : D) (d : D) (ρ : Ro) (N : Ro → Sto → Prop) (i : D) (M : Sto) : Prop := wR o (kPu3 i d ρ N M)
noncomputable def kPu1 (fi : Ev) (d : D) (ρ : Ro) (N : Ro → Sto → Prop) (E : Str → Sto → Prop) (o : D) (M : Sto) : Prop := wO (fi ρ M) (kPu2 o d ρ N) E
noncomputable def kPu (fo fi : Ev) (ρ : Ro) (N : Ro → Sto → Prop) (E : Str → Sto → Prop) (d : D) (M : Sto) : Prop := wO (fo ρ M) (kPu1 fi d ρ N E) E
theorem y_put {fo fi : Ev} : wS (sPut fo fi f ρ M) N R B C E = wO (f ρ M) (kPu fo fi ρ N E) E := wS_put
noncomputable def kRa (c : Str) (E : Str → Sto → Prop) (ds : List D) (M : Sto) : Prop := ds.length ≤ 1000 ∧ E c M
theorem y_raise {c : Str} : wS (sRaise c fs ρ M) N R B C E = wO (fs ρ M) (kRa c E) E := wS_raise
noncomputable def kR1c (tg : Tg) (bd : Sv) (ρ : Ro) (N : Ro → Sto → Prop) (R : D → Sto → Prop) (B C : Ro → Sto → Prop) (E : Str → Sto → Prop) (M : Sto) (j : Int) : Prop := (-(2 ^ 62) ≤ j ∧ j < 2 ^ 62) ∧ wS (forD tg bd (rngD 0 j.toNat) ρ M) N R B C E
noncomputable def kR1b (tg : Tg) (bd : Sv) (ρ : Ro) (N : Ro → Sto → Prop) (R : D → Sto → Prop) (B C : Ro → Sto → Prop) (E : Str → Sto → Prop) (M : Sto) (d : D) : Prop := wI d (kR1c tg bd ρ N R B C E M)
noncomputable def kR1 (tg : Tg) (bd : Sv) (ρ : Ro) (N : Ro → Sto → Prop) (R : D → Sto → Prop) (B C : Ro → Sto → Prop) (E : Str → Sto → Prop) (ds : List D) (M : Sto) : Prop := w1 ds (kR1b tg bd ρ N R B C E M)
theorem y_for1  : wS (sForR1 tg fs bd ρ M) N R B C E = wO (fs ρ M) (kR1 tg bd ρ N R B C E) E := wS_for1
noncomputable def kR2d (tg : Tg) (bd : Sv) (ρ : Ro) (N : Ro → Sto → Prop) (R : D → Sto → Prop) (B C : Ro → Sto → Prop) (E : Str → Sto → Prop) (M : Sto) (i : Int) (j : Int) : Prop := (-(2 ^ 62) ≤ i ∧ i < 2 ^ 62 ∧ -(2 ^ 62) ≤ j ∧ j < 2 ^ 62) ∧ wS (forD tg bd (rngD i (j - i).toNat) ρ M) N R B C E
noncomputable def kR2c (tg : Tg) (bd : Sv) (ρ : Ro) (N : Ro → Sto → Prop) (R : D → Sto → Prop) (B C : Ro → Sto → Prop) (E : Str → Sto → Prop) (M : Sto) (y : D) (i : Int) : Prop := wI y (kR2d tg bd ρ N R B C E M i)
noncomputable def kR2b (tg : Tg) (bd : Sv) (ρ : Ro) (N : Ro → Sto → Prop) (R : D → Sto → Prop) (B C : Ro → Sto → Prop) (E : Str → Sto → Prop) (M : Sto) (x y : D) : Prop := wI x (kR2c tg bd ρ N R B C E M y)
noncomputable def kR2 (tg : Tg) (bd : Sv) (ρ : Ro) (N : Ro → Sto → Prop) (R : D → Sto → Prop) (B C : Ro → Sto → Prop) (E : Str → Sto → Prop) (ds : List D) (M : Sto) : Prop := w2 ds (kR2b tg bd ρ N R B C E M)
theorem y_for2  : wS (sForR2 tg fs bd ρ M) N R B C E = wO (fs ρ M) (kR2 tg bd ρ N R B C E) E := wS_for2
noncomputable def kFo (tg : Tg) (bd : Sv) (ρ : Ro) (N : Ro → Sto → Prop) (R : D → Sto → Prop) (B C : Ro → Sto → Prop) (E : Str → Sto → Prop) (d : D) (M : Sto) : Prop := wS (forI tg bd d ρ M) N R B C E
theorem y_for  : wS (sFor tg f bd ρ M) N R B C E = wO (f ρ M) (kFo tg bd ρ N R B C E) E := wS_for
theorem y_forT  : wS (forI tg bd (.tup xs) ρ M) N R B C E = wS (forD tg bd xs ρ M) N R B C E := rfl
theorem y_forO  : wS (forI tg bd (.rol xs) ρ M) N R B C E = wS (forD tg bd xs ρ M) N R B C E := rfl
noncomputable def kFs (tg : Tg) (bd : Sv) (ρ : Ro) (N : Ro → Sto → Prop) (R : D → Sto → Prop) (B C : Ro → Sto → Prop) (E : Str → Sto → Prop) (src : Src) (M : Sto) : Prop := wS (forS tg bd src (cnt src M) 0 ρ M) N R B C E
theorem y_forS {fi : Ro → Sto → Out Src} : wS (sForS tg fi bd ρ M) N R B C E = wO (fi ρ M) (kFs tg bd ρ N R B C E) E := wS_forS
noncomputable def hT (cs : List Str) (gh : Sv) (i : Nat) (ρ : Ro) (c : Str) (M : Sto) : Fl := if cs.contains c = true then (match gh ((List.replicate ρ.length none).set i (some (.err c []))) M with | .ret d M2 => .ret d M2 | .nx _ M2 => .nx (List.replicate ρ.length none) M2 | _ => .bad) else .bad
noncomputable def kTr (cs : List Str) (gh : Sv) (i : Nat) (ρ : Ro) (N : Ro → Sto → Prop) (R : D → Sto → Prop) (B C : Ro → Sto → Prop) (E : Str → Sto → Prop) (c : Str) (M : Sto) : Prop := cs.contains c = true ∧ wS (gh ((List.replicate ρ.length none).set i (some (.err c []))) M) (fun _ M2 => N (List.replicate ρ.length none) M2) R (fun _ _ => False) (fun _ _ => False) (fun _ _ => False)
theorem y_try {cs : List Str} {gh : Sv} : wS (sTry a cs k gh ρ M) N R B C E = wS (a ρ M) N R B C (kTr cs gh k ρ N R B C E) := by
  unfold sTry
  cases e : a ρ M <;> try rfl
  rename_i c M1
  show wS (if cs.contains c = true then _ else _) N R B C E = kTr cs gh k ρ N R B C E c M1
  unfold kTr
  by_cases h : cs.contains c = true
  · rw [if_pos h]
    simp only [h, true_and]
    cases gh ((List.replicate ρ.length none).set k (some (.err c []))) M1 <;> rfl
  · rw [if_neg h]
    simp only [h, Bool.false_eq_true, false_and]
    rfl
noncomputable def kCo2 (Q : D → Sto → Prop) (M1 : Sto) (u : Unit) (M : Sto) : Prop := Q (.ref M1.length) M
noncomputable def kCo (tg : Tg) (c : Tv) (f : Ev) (k : Nat) (fr : List Nat) (ρ : Ro) (Q : D → Sto → Prop) (src : Src) (M : Sto) : Prop := wO (cmpL src tg c f M.length (cnt src M) 0 (roB k fr ρ) (M ++ [.lst []])) (kCo2 Q M) (fun _ _ => False)
theorem y_comp {fi : Ro → Sto → Out Src} {fr : List Nat} : wO (eComp fi k fr tg t f ρ M) Q E = wO (fi ρ M) (kCo tg t f k fr ρ Q) E := wO_comp
noncomputable def kS1c (QS : Src → Sto → Prop) (M : Sto) (j : Int) : Prop := (-(2 ^ 62) ≤ j ∧ j < 2 ^ 62) ∧ QS (.pur (rngD 0 j.toNat)) M
noncomputable def kS1b (QS : Src → Sto → Prop) (M : Sto) (d : D) : Prop := wI d (kS1c QS M)
noncomputable def kS1 (QS : Src → Sto → Prop) (ds : List D) (M : Sto) : Prop := w1 ds (kS1b QS M)
theorem y_R1  : wO (iR1 fs ρ M) QS E = wO (fs ρ M) (kS1 QS) E := v_R1
noncomputable def kS2d (QS : Src → Sto → Prop) (M : Sto) (i : Int) (j : Int) : Prop := (-(2 ^ 62) ≤ i ∧ i < 2 ^ 62 ∧ -(2 ^ 62) ≤ j ∧ j < 2 ^ 62) ∧ QS (.pur (rngD i (j - i).toNat)) M
noncomputable def kS2c (QS : Src → Sto → Prop) (M : Sto) (y : D) (i : Int) : Prop := wI y (kS2d QS M i)
noncomputable def kS2b (QS : Src → Sto → Prop) (M : Sto) (x y : D) : Prop := wI x (kS2c QS M y)
noncomputable def kS2 (QS : Src → Sto → Prop) (ds : List D) (M : Sto) : Prop := w2 ds (kS2b QS M)
theorem y_R2  : wO (iR2 fs ρ M) QS E = wO (fs ρ M) (kS2 QS) E := v_R2
noncomputable def oSq (d : D) (M : Sto) : Out Src := match d with | .tup ds => .ok (.pur ds) M | .rol ds => .ok (.pur ds) M | .ref n => .ok (.sto n) M | _ => .bad
theorem y_Sq  : wO (iSq f ρ M) QS E = wO (f ρ M) (kU oSq QS E) E := by unfold iSq; exact wO_bind
theorem y_SqT  : wO (oSq (.tup xs) M) QS E = QS (.pur xs) M := rfl
theorem y_SqO  : wO (oSq (.rol xs) M) QS E = QS (.pur xs) M := rfl
theorem y_SqR  : wO (oSq (.ref n) M) QS E = QS (.sto n) M := rfl
noncomputable def kEnb (QS : Src → Sto → Prop) (M : Sto) (d : D) : Prop := wR d (kQ QS .enu M)
noncomputable def kEn (QS : Src → Sto → Prop) (ds : List D) (M : Sto) : Prop := w1 ds (kEnb QS M)
theorem y_En  : wO (iEn fs ρ M) QS E = wO (fs ρ M) (kEn QS) E := v_En
noncomputable def kZpc (QS : Src → Sto → Prop) (M : Sto) (y : D) (n : Nat) : Prop := wR y (kQ QS (.zip n) M)
noncomputable def kZpb (QS : Src → Sto → Prop) (M : Sto) (x y : D) : Prop := wR x (kZpc QS M y)
noncomputable def kZp (QS : Src → Sto → Prop) (ds : List D) (M : Sto) : Prop := w2 ds (kZpb QS M)
theorem y_Zp  : wO (iZp fs ρ M) QS E = wO (fs ρ M) (kZp QS) E := v_Zp
noncomputable def kRvd (QS : Src → Sto → Prop) (n : Nat) (M : Sto) (xs : List D) : Prop := QS (.rev n xs.length) M
noncomputable def kRvc (QS : Src → Sto → Prop) (M : Sto) (n : Nat) : Prop := wL M[n]? (kRvd QS n M)
noncomputable def kRvb (QS : Src → Sto → Prop) (M : Sto) (d : D) : Prop := wR d (kRvc QS M)
noncomputable def kRv (QS : Src → Sto → Prop) (ds : List D) (M : Sto) : Prop := w1 ds (kRvb QS M)
theorem y_Rv  : wO (iRv fs ρ M) QS E = wO (fs ρ M) (kRv QS) E := v_Rv
noncomputable def kCat2 (xs : List D) (M : Sto) (Q : D → Sto → Prop) (ys : List D) : Prop := xs.length + ys.length ≤ 10000000 ∧ Q (.ref M.length) (M ++ [.lst (xs ++ ys)])
noncomputable def kCat (m : Nat) (M : Sto) (Q : D → Sto → Prop) (xs : List D) : Prop := wL M[m]? (kCat2 xs M Q)
theorem y_cat  : wO (dAdd (.ref n) (.ref m) M) Q E = wL M[n]? (kCat m M Q) := v_cat
noncomputable def kRep (i : Int) (M : Sto) (Q : D → Sto → Prop) (xs : List D) : Prop := ((-9223372036854775808 ≤ i ∧ i < 9223372036854775808) ∧ xs.length * i.toNat ≤ 100000) ∧ Q (.ref M.length) (M ++ [.lst (List.replicate i.toNat xs).flatten])
theorem y_rep : wO (dRep (.ref n) (.int i) M) Q E = wL M[n]? (kRep i M Q) := by
  show wO (match M[n]? with | some (.lst xs) => if (-9223372036854775808 ≤ i ∧ i < 9223372036854775808) ∧ xs.length * i.toNat ≤ 100000 then Out.ok (.ref M.length) (M ++ [.lst (List.replicate i.toNat xs).flatten]) else .bad | none => .bad) Q E = _
  cases e1 : M[n]? with
  | none => rfl
  | some o =>
    cases o with
    | lst xs =>
      show wO (if (-9223372036854775808 ≤ i ∧ i < 9223372036854775808) ∧ xs.length * i.toNat ≤ 100000 then Out.ok (.ref M.length) (M ++ [.lst (List.replicate i.toNat xs).flatten]) else .bad) Q E = kRep i M Q xs
      unfold kRep
      by_cases h : (-9223372036854775808 ≤ i ∧ i < 9223372036854775808) ∧ xs.length * i.toNat ≤ 100000
      · rw [if_pos h]; simp only [eq_true h, true_and]; rfl
      · rw [if_neg h]; simp only [eq_false h, false_and]; rfl
noncomputable def kEq (Q : D → Sto → Prop) (M : Sto) (b : Bool) : Prop := Q (.bl b) M
noncomputable def kNe (Q : D → Sto → Prop) (M : Sto) (b : Bool) : Prop := Q (.bl (!b)) M
theorem y_eq  : wO (dEq x y M) Q E = wG (eqF 12 M x y) (kEq Q M) := v_eq
theorem y_ne  : wO (dNe x y M) Q E = wG (eqF 12 M x y) (kNe Q M) := v_ne
theorem y_is  : wO (dIs x y M) Q E = wG (isP x y) (kEq Q M) := v_is
theorem y_isN  : wO (dIsNot x y M) Q E = wG (isP x y) (kNe Q M) := v_isN
theorem y_inE  : wO (dInE x y M) Q E = wG (inE x y M) (kEq Q M) := by unfold dInE; cases inE x y M <;> rfl
theorem y_notInE  : wO (dNotInE x y M) Q E = wG (inE x y M) (kNe Q M) := by unfold dNotInE; cases inE x y M <;> rfl
theorem y_ixT  : wO (dIx (.tup xs) (.int i) M) Q E = wG (atI xs i) (kQ Q id M) := v_ixT
theorem y_ixO  : wO (dIx (.rol xs) (.int i) M) Q E = wG (atI xs i) (kQ Q id M) := v_ixO
noncomputable def kIx (i : Int) (Q : D → Sto → Prop) (M : Sto) (xs : List D) : Prop := wG (atI xs i) (kQ Q id M)
theorem y_ixR  : wO (dIx (.ref n) (.int i) M) Q E = wL M[n]? (kIx i Q M) := v_ixR
noncomputable def kLen (Q : D → Sto → Prop) (M : Sto) (xs : List D) : Prop := Q (.int xs.length) M
theorem y_lenR  : wO (bLen [.ref n] M) Q E = wL M[n]? (kLen Q M) := v_lenR
noncomputable def kLi (Q : D → Sto → Prop) (M : Sto) (xs : List D) : Prop := Q (.ref M.length) (M ++ [.lst xs])
theorem y_listR  : wO (bList [.ref n] M) Q E = wL M[n]? (kLi Q M) := v_listR
noncomputable def kAl2 (Q : D → Sto → Prop) (M : Sto) (bs : List Bool) : Prop := Q (.bl (bs.all id)) M
noncomputable def kAl (Q : D → Sto → Prop) (M : Sto) (xs : List D) : Prop := wG (boolsD xs) (kAl2 Q M)
theorem y_all  : wO (bAll [.ref n] M) Q E = wL M[n]? (kAl Q M) := v_all
noncomputable def kIn2 (g : List Int → Option Int) (Q : D → Sto → Prop) (M : Sto) (ns : List Int) : Prop := wG (g ns) (kQ Q .int M)
noncomputable def kIn1 (g : List Int → Option Int) (Q : D → Sto → Prop) (M : Sto) (xs : List D) : Prop := wG (intsD xs) (kIn2 g Q M)
theorem y_ints {gi : List Int → Option Int} : wO (bInts gi [.ref n] M) Q E = wL M[n]? (kIn1 gi Q M) := v_ints
noncomputable def kMt (g : Me) (fs : Av) (ρ : Ro) (Q : D → Sto → Prop) (E : Str → Sto → Prop) (x : D) (M : Sto) : Prop := lstK x M = true ∧ wO (fs ρ M) (kU (g x) Q E) E
theorem y_mt {me : Me} {fo : Ev} : wO (eMtL me fo fs ρ M) Q E = wO (fo ρ M) (kMt me fs ρ Q E) E := v_mt
noncomputable def kApp (n : Nat) (d : D) (Q : D → Sto → Prop) (M : Sto) (xs : List D) : Prop := xs.length < 10000000 ∧ Q .non (M.set n (.lst (xs ++ [d])))
theorem y_app  : wO (mApp (.ref n) [d] M) Q E = wL M[n]? (kApp n d Q M) := v_app
noncomputable def kClr (n : Nat) (Q : D → Sto → Prop) (M : Sto) (xs : List D) : Prop := Q .non (M.set n (.lst []))
theorem y_clr  : wO (mClr (.ref n) [] M) Q E = wL M[n]? (kClr n Q M) := v_clr
noncomputable def kExt2 (n : Nat) (xs : List D) (Q : D → Sto → Prop) (M : Sto) (ys : List D) : Prop := xs.length + ys.length ≤ 10000000 ∧ Q .non (M.set n (.lst (xs ++ ys)))
noncomputable def kExt (n m : Nat) (Q : D → Sto → Prop) (M : Sto) (xs : List D) : Prop := wL M[m]? (kExt2 n xs Q M)
theorem y_ext  : wO (mExt (.ref n) [.ref m] M) Q E = wL M[n]? (kExt n m Q M) := v_ext
noncomputable def kIdx2 (Q : D → Sto → Prop) (M : Sto) (bs : List Bool) : Prop := wG (bs.findIdx? id) (kQ Q (fun (j : Nat) => .int j) M)
noncomputable def kIdx (d : D) (Q : D → Sto → Prop) (M : Sto) (xs : List D) : Prop := wG (eqs M d xs) (kIdx2 Q M)
theorem y_idx : wO (mIdx (.ref n) [d] M) Q E = wL M[n]? (kIdx d Q M) := by
  show wO (match M[n]? with | some (.lst xs) => (match eqs M d xs with | some bs => (match bs.findIdx? id with | some j => Out.ok (.int (j : Nat)) M | none => .bad) | none => .bad) | none => .bad) Q E = _
  cases e1 : M[n]? with
  | none => rfl
  | some o =>
    cases o with
    | lst xs =>
      show wO (match eqs M d xs with | some bs => (match bs.findIdx? id with | some j => Out.ok (.int (j : Nat)) M | none => .bad) | none => .bad) Q E = wG (eqs M d xs) (kIdx2 Q M)
      cases eqs M d xs with
      | none => rfl
      | some bs =>
        show wO (match bs.findIdx? id with | some j => Out.ok (.int (j : Nat)) M | none => .bad) Q E = wG (bs.findIdx? id) _
        cases bs.findIdx? id <;> rfl
noncomputable def kCn (Q : D → Sto → Prop) (M : Sto) (bs : List Bool) : Prop := Q (.int (bs.countP id : Nat)) M
noncomputable def kCnt (d : D) (Q : D → Sto → Prop) (M : Sto) (xs : List D) : Prop := wG (eqs M d xs) (kCn Q M)
theorem y_mcnt : wO (mCnt (.ref n) [d] M) Q E = wL M[n]? (kCnt d Q M) := by
  show wO (match M[n]? with | some (.lst xs) => (match eqs M d xs with | some bs => Out.ok (.int (bs.countP id : Nat)) M | none => .bad) | none => .bad) Q E = _
  cases e1 : M[n]? with
  | none => rfl
  | some o =>
    cases o with
    | lst xs =>
      show wO (match eqs M d xs with | some bs => Out.ok (.int (bs.countP id : Nat)) M | none => .bad) Q E = wG (eqs M d xs) (kCn Q M)
      cases eqs M d xs <;> rfl
noncomputable def kSl4 (l u : Option Int) (Q : D → Sto → Prop) (M : Sto) (xs : List D) : Prop := Q (.ref M.length) (M ++ [.lst (cutD xs l u)])
noncomputable def kSl3 (x : D) (l : Option Int) (Q : D → Sto → Prop) (E : Str → Sto → Prop) (u : Option Int) (M : Sto) : Prop := wO (slR x l u M) Q E
noncomputable def kSl2 (x : D) (hi : Ro → Sto → Out (Option Int)) (ρ : Ro) (Q : D → Sto → Prop) (E : Str → Sto → Prop) (l : Option Int) (M : Sto) : Prop := wO (hi ρ M) (kSl3 x l Q E) E
noncomputable def kSl1 (lo hi : Ro → Sto → Out (Option Int)) (ρ : Ro) (Q : D → Sto → Prop) (E : Str → Sto → Prop) (x : D) (M : Sto) : Prop := wO (lo ρ M) (kSl2 x hi ρ Q E) E
theorem y_sl {lo hi : Ro → Sto → Out (Option Int)} : wO (eSl f lo hi ρ M) Q E = wO (f ρ M) (kSl1 lo hi ρ Q E) E := v_slE
theorem y_slR {l u' : Option Int} : wO (slR (.ref n) l u' M) Q E = wL M[n]? (kSl4 l u' Q M) := v_slR
theorem y_oNo {QI : Option Int → Sto → Prop} : wO (oNo ρ M) QI E = QI none M := rfl
noncomputable def kOSo (Q : Option Int → Sto → Prop) (x : D) (M : Sto) : Prop := wI x (kQ Q some M)
theorem y_oSo {QI : Option Int → Sto → Prop} : wO (oSo f ρ M) QI E = wO (f ρ M) (kOSo QI) E := v_oSo
noncomputable def oRv (x : D) (M1 : Sto) : Out D := match x with | .tup xs => .ok (.tup xs.reverse) M1 | .ref n => (match M1[n]? with | some (.lst xs) => .ok (.ref M1.length) (M1 ++ [.lst xs.reverse]) | none => .bad) | .rol xs => .ok (.ref M1.length) (M1 ++ [.lst xs.reverse]) | _ => .bad
theorem y_rv  : wO (eRv f ρ M) Q E = wO (f ρ M) (kU oRv Q E) E := by unfold eRv; exact wO_bind
noncomputable def kRev (Q : D → Sto → Prop) (M : Sto) (xs : List D) : Prop := Q (.ref M.length) (M ++ [.lst xs.reverse])
theorem y_rvR  : wO (oRv (.ref n) M) Q E = wL M[n]? (kRev Q M) := by show wO (match M[n]? with | some (.lst xs) => Out.ok (.ref M.length) (M ++ [.lst xs.reverse]) | none => .bad) Q E = _; cases M[n]? with | none => rfl | some o => cases o with | lst xs => rfl
theorem y_rvT  : wO (oRv (.tup xs) M) Q E = Q (.tup xs.reverse) M := rfl
noncomputable def oIsE (tab : List (Str × Bool)) (x : D) (M : Sto) : Out D := match x with | .err c _ => (match tab.lookup c with | some b => .ok (.bl b) M | none => .bad) | _ => .bad
theorem y_isE {tab : List (Str × Bool)} : wO (eIsE tab f ρ M) Q E = wO (f ρ M) (kU (oIsE tab) Q E) E := by unfold eIsE; exact wO_bind
theorem y_isEc {tab : List (Str × Bool)} {c : Str} : wO (oIsE tab (.err c xs) M) Q E = wG (tab.lookup c) (kEq Q M) := by show wO (match tab.lookup c with | some b => Out.ok (.bl b) M | none => .bad) Q E = _; cases tab.lookup c <;> rfl
noncomputable def kWh (bd : Sv) (ρ : Ro) (I : Ro → Sto → Prop) (N : Ro → Sto → Prop) (R : D → Sto → Prop) (B C : Ro → Sto → Prop) (E : Str → Sto → Prop) (k : Bool) (M : Sto) : Prop := Br k (wS (bd ρ M) I R N I E) (N ρ M)
theorem wS_wh {c : Tv} (I : Nat → Ro → Sto → Prop) (st : ∀ n ρ M, I n ρ M → wO (c ρ M) (kWh bd ρ (fun ρ2 M2 => ∃ m, m < n ∧ I m ρ2 M2) N R B C E) E) (n : Nat) (ρ : Ro) (M : Sto) (h : I n ρ M) : wS (sWh c bd ρ M) N R B C E := wS_while I st n ρ M h
theorem kWh_n {I : Ro → Sto → Prop} {p : Prop} [Decidable p] (h1 : ¬ p → wS (bd ρ M) I R N I E) (h2 : p → N ρ M) : kWh bd ρ I N R B C E (!decide p) M := brN h1 h2
theorem kWh_d {I : Ro → Sto → Prop} {p : Prop} [Decidable p] (h1 : p → wS (bd ρ M) I R N I E) (h2 : ¬ p → N ρ M) : kWh bd ρ I N R B C E (decide p) M := brD h1 h2
theorem ixN_nat (h : k < n) : ixN n (k : Int) = some k := by
  unfold ixN
  rw [if_pos (by omega), if_pos (by omega)]
  simp
theorem kCoP {src : Src} {fr : List Nat} (Inv : Ro → Prop) (F : Nat → D) (hl : xs.length < 10000000) (hcnt : xs.length ≤ cnt src M) (h0 : Inv (roB k fr ρ)) (hs : ∀ (L : Sto) (i : Nat), i ≤ xs.length → nxt src i (M ++ L) = some xs[i]?)
    (st : ∀ (i : Nat) (h : i < xs.length) (ρ : Ro) (L : Sto), Inv ρ → wG (tg xs[i] ρ) fun r => Inv r ∧ wO (f r (M ++ L)) (fun y M2 => y = F i ∧ M2 = M ++ L) (fun _ _ => False)) (hq : Q (.ref M.length) (M ++ [.lst ((List.range xs.length).map F)])) :
    kCo tg (fun _ M => .ok true M) f k fr ρ Q src M := wO_cmpP (Q := fun M2 => Q (.ref M.length) M2) Inv F hl hcnt h0 hs st hq
theorem kCoR {fr : List Nat} (Inv : Ro → Prop) (F : Nat → D) (hl : n < 10000000) (h0 : Inv (roB k fr ρ))
    (st : ∀ (i : Nat) (h : i < n) (ρ : Ro) (L : Sto), Inv ρ → wG (tg (.int i) ρ) fun r => Inv r ∧ wO (f r (M ++ L)) (fun y M2 => y = F i ∧ M2 = M ++ L) (fun _ _ => False)) (hq : Q (.ref M.length) (M ++ [.lst ((List.range n).map F)])) :
    kCo tg (fun _ M => .ok true M) f k fr ρ Q (.pur (rngD 0 n)) M := by
  refine kCoP (xs := rngD 0 n) Inv F (by rw [rng_len]; exact hl) (by simp [cnt]) h0 (fun L i hi => rfl) (fun i hi ρ L hI => ?_) (by rw [rng_len]; exact hq)
  rw [rng_get]
  have := st i (by rw [rng_len] at hi; exact hi) ρ L hI
  rw [show (0 : Int) + (i : Nat) = i by omega]
  exact this
end
end DL


end
set_option Elab.async false
set_option linter.all false
set_option maxRecDepth 100000
set_option maxHeartbeats 4000000
namespace DL
open PySem PySem.Spec L2
section
variable {Q : D → Sto → Prop} {E : Str → Sto → Prop} {M : Sto} {n : Nat}
theorem y_lrR : wO (bLR [.ref n] M) Q E = wL M[n]? (kRev Q M) := by
  show wO (match M[n]? with | some (.lst xs) => Out.ok (.ref M.length) (M ++ [.lst xs.reverse]) | none => .bad) Q E = _
  cases M[n]? with
  | none => rfl
  | some o => cases o with | lst xs => rfl
end
end DL



section
set_option Elab.async false
set_option linter.all false
set_option maxRecDepth 100000
set_option maxHeartbeats 4000000
namespace DL
noncomputable abbrev Pt := Int × Int
noncomputable def X (p q : Pt) : Int := p.1 * q.2 - p.2 * q.1
section
variable {rs : List Pt} {i j : Int} {k n : Nat} {p : Pt}
theorem getD_get {α : Type} {l : List α} {n : Nat} {d : α} (h : n < l.length) : l.getD n d = l[n] := by simp [List.getElem?_eq_getElem h]
theorem emod_lt {m : Nat} (h : m ≠ 0) : (i % m).toNat < m ∧ 0 ≤ i % m := by
  have := Int.emod_lt_of_pos i (show (0 : Int) < m by omega)
  have := Int.emod_nonneg i (show (m : Int) ≠ 0 by omega)
  omega
theorem cy_map {f : Pt → Pt} (h : rs ≠ []) : cy (rs.map f) i = f (cy rs i) := by
  have hl : rs.length ≠ 0 := by simpa using h
  unfold cy
  rw [List.length_map, getD_get (by rw [List.length_map]; exact (emod_lt hl).1), getD_get (emod_lt hl).1, List.getElem_map]
noncomputable def cc (f : Pt → Pt → Nat) : List Pt → Nat
  | a :: b :: r => f a b + cc f (b :: r)
  | _ => 0
noncomputable def cyc (f : Pt → Pt → Nat) (rs : List Pt) : Nat := cc f (rs ++ rs.take 1)
theorem cc_map {f : Pt → Pt → Nat} {g : Pt → Pt} : ∀ (L : List Pt), cc f (L.map g) = cc (fun a b => f (g a) (g b)) L
  | [] => rfl
  | [_] => rfl
  | a :: b :: L => by
    have := cc_map (f := f) (g := g) (b :: L)
    simp only [List.map_cons, cc] at this ⊢
    omega
theorem cyc_map {f : Pt → Pt → Nat} {g : Pt → Pt} (L : List Pt) : cyc f (L.map g) = cyc (fun a b => f (g a) (g b)) L := by
  unfold cyc
  rw [← List.map_take, ← List.map_append, cc_map]
noncomputable def in1 (w a b : Pt) : Nat := if 0 ≤ X a w ∧ 0 < X w b then 1 else 0
noncomputable def in2 (w a b : Pt) : Nat := if 0 < X a w ∧ 0 ≤ X w b then 1 else 0
noncomputable def Fan (rs : List Pt) : Prop := ∀ w : Pt, w ≠ (0, 0) → cyc (in1 w) rs = 1 ∧ cyc (in2 w) rs = 1
theorem X_sw {p q : Pt} : X p q = 0 - X q p := by unfold X; grind
theorem back_X {f : Pt → Pt} {s : Int} (hs : s = 1 ∨ s = -1) (hf : ∀ p q, X (f p) (f q) = s * X p q) (w : Pt) (hw : w ≠ (0, 0)) : ∃ w' : Pt, w' ≠ (0, 0) ∧ ∀ a, X (f a) w = s * X a w' := by
  have d := hf (1, 0) (0, 1)
  have d1 : X (f (1, 0)) (f (0, 1)) = s := by rw [d]; simp [X]
  have lin : ∀ a, (f a).1 = a.1 * (f (1, 0)).1 + a.2 * (f (0, 1)).1 ∧ (f a).2 = a.1 * (f (1, 0)).2 + a.2 * (f (0, 1)).2 := by
    intro a
    have h1 := hf a (1, 0)
    have h2 := hf a (0, 1)
    generalize f a = u at *
    generalize f (1, 0) = e1 at *
    generalize f (0, 1) = e2 at *
    unfold X at *
    rcases hs with rfl | rfl <;> constructor <;> grind
  refine ⟨(X w (f (0, 1)) * s, X (f (1, 0)) w * s), ?_, ?_⟩
  · intro z
    apply hw
    have z1 := congrArg Prod.fst z
    have z2 := congrArg Prod.snd z
    simp only at z1 z2
    generalize f (1, 0) = e1 at *
    generalize f (0, 1) = e2 at *
    unfold X at *
    apply Prod.ext
    · rcases hs with rfl | rfl <;> simp only [] <;> grind
    · rcases hs with rfl | rfl <;> simp only [] <;> grind
  · intro a
    obtain ⟨l1, l2⟩ := lin a
    unfold X
    rw [l1, l2]
    rcases hs with rfl | rfl <;> simp only [] <;> grind
theorem Fan.map (h : Fan rs) {f : Pt → Pt} (hf : ∀ p q, X (f p) (f q) = X p q) : Fan (rs.map f) := fun w hw => by
  obtain ⟨w', hw', e⟩ := back_X (s := 1) (.inl rfl) (fun p q => by rw [hf, Int.one_mul]) w hw
  have e2 : ∀ a, X w (f a) = X w' a := fun a => by rw [X_sw, e, X_sw (p := w')]; omega
  have c1 : ∀ a b, in1 w (f a) (f b) = in1 w' a b := fun a b => by unfold in1; rw [e, e2, Int.one_mul]
  have c2 : ∀ a b, in2 w (f a) (f b) = in2 w' a b := fun a b => by unfold in2; rw [e, e2, Int.one_mul]
  rw [cyc_map, cyc_map, show (fun a b => in1 w (f a) (f b)) = in1 w' from funext fun a => funext fun b => c1 a b, show (fun a b => in2 w (f a) (f b)) = in2 w' from funext fun a => funext fun b => c2 a b]
  exact h w' hw'
structure Smo (rs : List Pt) : Prop where
  len : 3 ≤ rs.length
  one : ∀ i : Int, X (cy rs i) (cy rs (i + 1)) = 1
  fan : Fan rs
theorem Smo.ne (h : Smo rs) : rs ≠ [] := by
  intro z
  have := h.len
  rw [z] at this
  simp at this
theorem Smo.map (h : Smo rs) {f : Pt → Pt} (hf : ∀ p q, X (f p) (f q) = X p q) : Smo (rs.map f) := by
  refine ⟨by have := h.len; simp; omega, fun i => ?_, h.fan.map hf⟩
  rw [cy_map h.ne, cy_map h.ne, hf]
  exact h.one i
end
end DL


end
section
set_option Elab.async false
set_option linter.all false
set_option maxRecDepth 100000
set_option maxHeartbeats 4000000
namespace CC
open PySem PySem.Spec L2 DL
end CC


end
set_option maxRecDepth 100000
open PySem PySem.Spec L2 DL
local macro_rules | `(tactic| simp! [$ls,*]) => `(tactic| simp (implicitDefEqProofs := false) (disch := omega) only [y_e2, y_c, y_v, y_call, y_nil, y_cons, y_tup, y_lst, y_neg, y_negI, y_isi, y_isiO, y_bt, y_bf, y_if, y_and, y_or, y_not, y_andB, y_orB, y_notB, y_tv, y_tvB, y_tC, y_tand, y_tor, y_tnot, y_seq, y_snil, y_brk, y_cnt, y_ret, y_retN, y_drop, y_st, y_sf, y_sif, y_asg, y_asgT, y_par, y_put, y_raise, y_for1, y_for2, y_for, y_forT, y_forO, y_forS, y_try, y_comp, y_R1, y_R2, y_Sq, y_SqT, y_SqO, y_SqR, y_En, y_Zp, y_Rv, y_cat, y_rep, y_eq, y_ne, y_is, y_isN, y_inE, y_notInE, y_ixT, y_ixO, y_ixR, y_lenR, y_listR, y_all, y_ints, y_mt, y_app, y_clr, y_ext, y_idx, y_mcnt, y_sl, y_slR, y_oNo, y_oSo, y_rv, y_rvR, y_rvT, y_isE, y_isEc, kU, kQ, kB2, kB1, kA2, kA1, kTu, kLs, kTy, kIf, kTA, kTO, kTN, kSq, kDr, kSi, kAs, kAt, kPa2, kPa, kPu6, kPu5, kPu4, kPu3, kPu2, kPu1, kPu, kRa, kR1c, kR1b, kR1, kR2d, kR2c, kR2b, kR2, kFo, kFs, kTr, kS1c, kS1b, kS1, kS2d, kS2c, kS2b, kS2, kEnb, kEn, kZpc, kZpb, kZp, kRvd, kRvc, kRvb, kRv, kCat2, kCat, kRep, kEq, kNe, kIx, kLen, kLi, kAl2, kAl, kIn2, kIn1, kMt, kApp, kClr, kExt2, kExt, kIdx2, kIdx, kCn, kCnt, kSl4, kSl3, kSl2, kSl1, kOSo, kRev, prs_take, prs_drop, prs_app, prs_cons, prs_snoc, nts_take, nts_drop, nts_app, nts_cons, nts_snoc, nts_set, prs_set, kNon, decide_eq_true, decide_eq_false, wF1, wF2, wF3, wF4, wO_ok, wO_exc, wV_s, wI_i, wB_b, wR_r, wL_l, wG_s, w1_s, w2_s, v_add, v_sub, v_mul, v_mulr, v_div, v_mod, v_pow, v_lt, v_le, v_gt, v_ge, v_tcat, v_lenT, v_lenO, v_abs, v_max, v_min, v_intB, v_intI, v_listT, v_lstK, cut_to, cut_from, isP_n, isP_i, isP_t, isP_r, id, roB, at0, at1, at2, at3, gTp, gCs, gNl, gNm, List.set_cons_zero, List.set_cons_succ, List.getElem?_cons_zero, List.getElem?_cons_succ, List.length_cons, List.length_nil, List.length_append, List.length_map, List.map_cons, List.map_nil, List.cons_append, List.nil_append, List.append_assoc, List.append_nil, List.replicate_succ, List.replicate_zero, Option.join_some, Option.isSome_some, s_at0, s_at, s_old, s_set0, s_set, s_setN, s_setS, prs_len, nts_len, q_int, q_bl, q_pr, ty_int, ty_bl, ty_tup, ty_non, isi_ii, isi_ib, isi_bi, isi_bb, isi_tt, isi_ll, isi_ti, isi_tl, isi_lt, isi_li, isi_nt, isi_nl, true_and, and_true, Bool.not_true, Bool.not_false, decide_true, decide_false, Nat.reduceAdd, Nat.reduceLeDiff, Nat.reduceLT, Nat.add_zero, Nat.zero_add, Int.reducePow, Int.reduceToNat, Int.reduceNeg, Int.reduceMod, Int.reduceDiv, Int.reduceAdd, Int.reduceSub, Int.reduceMul, Int.cast_ofNat_Int, Int.reduceEq, Int.reduceLT, Int.reduceLE, $ls,*])
section
set_option Elab.async false
set_option linter.all false
set_option maxRecDepth 100000
set_option maxHeartbeats 4000000
namespace CC
open PySem PySem.Spec L2 DL
section
variable {Q : D → Sto → Prop} {E : Str → Sto → Prop} {M : Sto} {a b c d i : Int} {n : Nat} {rs : List Pt}
end
end CC


end
section
set_option Elab.async false
set_option linter.all false
set_option maxRecDepth 100000
set_option maxHeartbeats 4000000
namespace DL
noncomputable def T (rs : List Pt) (i : Int) : Int := 0 - X (cy rs (i - 1)) (cy rs (i + 1))
section
variable {rs : List Pt} {k : Nat} {p : Pt} {j : Int}
end
end DL
namespace CC
open PySem PySem.Spec L2 DL
section
variable {Q : D → Sto → Prop} {E : Str → Sto → Prop} {M : Sto} {a b c d i : Int} {n : Nat} {rs : List Pt}
end
end CC


end
section
set_option Elab.async false
set_option linter.all false
set_option maxRecDepth 100000
set_option maxHeartbeats 4000000
namespace DL
section
variable {rs : List Pt} {k : Nat} {p : Pt} {j : Int}
theorem X_swap (p q : Pt) : X p q = 0 - X q p := by unfold X; grind
end
end DL


end
section

end
section
set_option Elab.async false
set_option linter.all false
set_option maxRecDepth 100000
set_option maxHeartbeats 4000000
namespace CE
open PySem PySem.Spec L2 DL
end CE


end
section
set_option Elab.async false
set_option linter.all false
set_option maxRecDepth 100000
set_option maxHeartbeats 4000000
namespace CE
open PySem PySem.Spec L2 DL
section
variable {Q : D → Sto → Prop} {E : Str → Sto → Prop} {M : Sto} {a b c d i : Int} {n : Nat} {rs : List Pt}
end
end CE


end
section
set_option Elab.async false
set_option linter.all false
set_option maxRecDepth 100000
set_option maxHeartbeats 4000000
namespace CF
open PySem PySem.Spec L2 DL CC
end CF


end
section
set_option Elab.async false
set_option linter.all false
set_option maxRecDepth 100000
set_option maxHeartbeats 4000000
namespace CF
open PySem PySem.Spec L2 DL
section
variable {Q : D → Sto → Prop} {E : Str → Sto → Prop} {M : Sto} {a b c d i : Int} {n : Nat} {rs : List Pt}
end
end CF


end
section
set_option Elab.async false
set_option linter.all false
set_option maxRecDepth 100000
set_option maxHeartbeats 4000000
namespace DL
open PySem PySem.Spec L2 DL
section
variable {M : Sto}
end
end DL


end
section
set_option Elab.async false
set_option linter.all false
set_option maxRecDepth 100000
set_option maxHeartbeats 4000000
namespace CB
open PySem PySem.Spec L2 DL
noncomputable def g_crossed : Sv := (sRet (e2 dSub (e2 dMul (e2 dIx (eVar 0) (eC (.int 0))) (e2 dIx (eVar 1) (eC (.int 1)))) (e2 dMul (e2 dIx (eVar 0) (eC (.int 1))) (e2 dIx (eVar 1) (eC (.int 0))))))
noncomputable def F_crossed : List D → Sto → Out D := fnF g_crossed 2 0
noncomputable def g_partner_b1 : Sv := (sSeq (sAsg (gNm 5) (e2 dDiv (eVar 1) (eVar 2)))
  (sSeq (sPar 1 2 (aCons (eVar 2) (aCons (e2 dSub (eVar 1) (e2 dMul (eVar 5) (eVar 2))) aNil)))
  (sPar 3 4 (aCons (eVar 4) (aCons (eTup (aCons (e2 dSub (e2 dIx (eVar 3) (eC (.int 0))) (e2 dMul (eVar 5) (e2 dIx (eVar 4) (eC (.int 0))))) (aCons (e2 dSub (e2 dIx (eVar 3) (eC (.int 1))) (e2 dMul (eVar 5) (e2 dIx (eVar 4) (eC (.int 1))))) aNil))) aNil)))))
noncomputable def g_partner : Sv := (sSeq (sAsg (gTp (gCs (gNm 1) (gCs (gNm 2) gNl))) (eVar 0))
  (sSeq (sAsg (gTp (gCs (gNm 3) (gCs (gNm 4) gNl))) (eTup (aCons (eTup (aCons (eC (.int 0)) (aCons (eC (.int 1)) aNil))) (aCons (eTup (aCons (eNeg (eC (.int 1))) (aCons (eC (.int 0)) aNil))) aNil))))
  (sSeq (sWh (tv (e2 dNe (eVar 2) (eC (.int 0)))) g_partner_b1)
  (sRet (eTup (aCons (e2 dMul (eVar 1) (e2 dIx (eVar 3) (eC (.int 0)))) (aCons (e2 dMul (eVar 1) (e2 dIx (eVar 3) (eC (.int 1)))) aNil)))))))
noncomputable def F_partner : List D → Sto → Out D := fnF g_partner 1 5
noncomputable def g_first_behind : Sv := (sSeq (sAsg (gNm 2) (eCall F_partner (aCons (eVar 0) aNil)))
  (sSeq (sAsg (gNm 3) (e2 dDiv (eCall F_crossed (aCons (eVar 2) (aCons (eVar 1) aNil))) (eCall F_crossed (aCons (eVar 0) (aCons (eVar 1) aNil)))))
  (sRet (eTup (aCons (e2 dSub (e2 dIx (eVar 2) (eC (.int 0))) (e2 dMul (eVar 3) (e2 dIx (eVar 0) (eC (.int 0))))) (aCons (e2 dSub (e2 dIx (eVar 2) (eC (.int 1))) (e2 dMul (eVar 3) (e2 dIx (eVar 0) (eC (.int 1))))) aNil))))))
noncomputable def F_first_behind : List D → Sto → Out D := fnF g_first_behind 2 2
noncomputable def g_expanded_b1 : Sv := (sSeq (sAsg (gNm 3) (eNeg (e2 dDiv (eNeg (eVar 0)) (eVar 1))))
  (sSeq (sDrop (eMtL mApp (eVar 2) (aCons (eVar 3) aNil)))
  (sPar 0 1 (aCons (eVar 1) (aCons (e2 dSub (e2 dMul (eVar 3) (eVar 1)) (eVar 0)) aNil)))))
noncomputable def g_expanded : Sv := (sSeq (sAsg (gNm 2) (eLst aNil))
  (sSeq (sWh (tv (e2 dNe (eVar 1) (eC (.int 0)))) g_expanded_b1)
  (sRet (eVar 2))))
noncomputable def F_expanded : List D → Sto → Out D := fnF g_expanded 2 2
noncomputable def g_row : Sv := (sSeq (sIf (tv (e2 dLe (eCall F_crossed (aCons (eVar 0) (aCons (eVar 1) aNil))) (eC (.int 0)))) (sRaise (PySem.Str.ofString "NoWedge") (aCons (eC (.str (PySem.Str.ofString "the two rays of a wedge, crossed, come to more than 0"))) aNil)) sNil)
  (sRet (eCall F_expanded (aCons (eCall F_crossed (aCons (eVar 0) (aCons (eVar 1) aNil))) (aCons (eCall F_crossed (aCons (eCall F_first_behind (aCons (eVar 0) (aCons (eVar 1) aNil))) (aCons (eVar 1) aNil))) aNil)))))
noncomputable def F_row : List D → Sto → Out D := fnF g_row 2 0
noncomputable def g_law_purse : Sv := (sSeq (sAsg (gNm 2) (eC (.int 0)))
  (sSeq (sIf (tv (e2 dLt (eVar 1) (eCall bLen (aCons (eVar 0) aNil)))) (sAsg (gNm 2) (e2 dIx (eVar 0) (eVar 1))) sNil)
  (sSeq (sAsg (gNm 3) (e2 dMod (eVar 2) (e2 dMul (e2 dPow (eC (.int 10)) (eC (.int 60))) (e2 dPow (eC (.int 10)) (eC (.int 30))))))
  (sRet (eLst (aCons (e2 dMul (eVar 3) (eCall bInt (aCons (e2 dGe (eVar 3) (e2 dPow (eC (.int 10)) (eC (.int 18)))) aNil))) (aCons (e2 dAdd (e2 dAdd (e2 dMod (eVar 2) (eC (.int 2147483647))) (e2 dMul (eC (.int 7919)) (eVar 1))) (eC (.int 1))) aNil)))))))
noncomputable def F_law_purse : List D → Sto → Out D := fnF g_law_purse 2 2
noncomputable def g_law_take : Sv := (sSeq (sIf (tv (e2 dGt (e2 dIx (eVar 0) (eC (.int 0))) (eC (.int 0)))) (sSeq (sAsg (gNm 2) (e2 dMod (e2 dIx (eVar 0) (eC (.int 0))) (eVar 1)))
  (sSeq (sPut (eVar 0) (eC (.int 0)) (e2 dDiv (e2 dIx (eVar 0) (eC (.int 0))) (eVar 1)))
  (sRet (eVar 2)))) sNil)
  (sSeq (sPut (eVar 0) (eC (.int 1)) (e2 dMod (e2 dAdd (e2 dMul (e2 dIx (eVar 0) (eC (.int 1))) (eC (.int 48271))) (eC (.int 12345))) (eC (.int 2147483647))))
  (sRet (e2 dMod (e2 dDiv (e2 dMod (e2 dMul (e2 dIx (eVar 0) (eC (.int 1))) (eC (.int 69621))) (eC (.int 2147483629))) (eC (.int 5))) (eVar 1)))))
noncomputable def F_law_take : List D → Sto → Out D := fnF g_law_take 2 1
noncomputable def g_law_crossed : Sv := (sRet (e2 dSub (e2 dMul (e2 dIx (eVar 0) (eC (.int 0))) (e2 dIx (eVar 1) (eC (.int 1)))) (e2 dMul (e2 dIx (eVar 0) (eC (.int 1))) (e2 dIx (eVar 1) (eC (.int 0))))))
noncomputable def F_law_crossed : List D → Sto → Out D := fnF g_law_crossed 2 0
noncomputable def g_law_short_b1 : Sv := (sPar 1 2 (aCons (eVar 2) (aCons (e2 dMod (eVar 1) (eVar 2)) aNil)))
noncomputable def g_law_short : Sv := (sSeq (sPar 1 2 (aCons (eCall bAbs (aCons (e2 dIx (eVar 0) (eC (.int 0))) aNil)) (aCons (eCall bAbs (aCons (e2 dIx (eVar 0) (eC (.int 1))) aNil)) aNil)))
  (sSeq (sWh (tv (e2 dGt (eVar 2) (eC (.int 0)))) g_law_short_b1)
  (sSeq (sIf (tv (e2 dEq (eVar 1) (eC (.int 0)))) (sRet (eTup (aCons (eC (.int 1)) (aCons (eC (.int 0)) aNil)))) sNil)
  (sRet (eTup (aCons (e2 dDiv (e2 dIx (eVar 0) (eC (.int 0))) (eVar 1)) (aCons (e2 dDiv (e2 dIx (eVar 0) (eC (.int 1))) (eVar 1)) aNil)))))))
noncomputable def F_law_short : List D → Sto → Out D := fnF g_law_short 1 2
noncomputable def g_law_wedge : Sv := (sSeq (sAsg (gNm 1) (e2 dIx (eLst (aCons (eC (.int 4)) (aCons (eC (.int 12)) (aCons (eC (.int 30)) (aCons (eC (.int 200)) aNil))))) (eCall F_law_take (aCons (eVar 0) (aCons (eC (.int 4)) aNil)))))
  (sSeq (sAsg (gNm 2) (eCall F_law_short (aCons (eTup (aCons (e2 dSub (eCall F_law_take (aCons (eVar 0) (aCons (e2 dAdd (e2 dMul (eC (.int 2)) (eVar 1)) (eC (.int 1))) aNil))) (eVar 1)) (aCons (e2 dSub (eCall F_law_take (aCons (eVar 0) (aCons (e2 dAdd (e2 dMul (eC (.int 2)) (eVar 1)) (eC (.int 1))) aNil))) (eVar 1)) aNil))) aNil)))
  (sSeq (sAsg (gNm 3) (eCall F_law_short (aCons (eTup (aCons (e2 dSub (eCall F_law_take (aCons (eVar 0) (aCons (e2 dAdd (e2 dMul (eC (.int 2)) (eVar 1)) (eC (.int 1))) aNil))) (eVar 1)) (aCons (e2 dSub (eCall F_law_take (aCons (eVar 0) (aCons (e2 dAdd (e2 dMul (eC (.int 2)) (eVar 1)) (eC (.int 1))) aNil))) (eVar 1)) aNil))) aNil)))
  (sSeq (sIf (tv (e2 dLt (eCall F_law_crossed (aCons (eVar 2) (aCons (eVar 3) aNil))) (eC (.int 0)))) (sPar 2 3 (aCons (eVar 3) (aCons (eVar 2) aNil))) sNil)
  (sSeq (sIf (tv (e2 dEq (eCall F_law_crossed (aCons (eVar 2) (aCons (eVar 3) aNil))) (eC (.int 0)))) (sAsg (gNm 3) (eTup (aCons (e2 dSub (eC (.int 0)) (e2 dIx (eVar 2) (eC (.int 1)))) (aCons (e2 dIx (eVar 2) (eC (.int 0))) aNil)))) sNil)
  (sRet (eTup (aCons (eVar 2) (aCons (eVar 3) aNil)))))))))
noncomputable def F_law_wedge : List D → Sto → Out D := fnF g_law_wedge 1 3
end CB


end
section
set_option Elab.async false
set_option linter.all false
set_option maxRecDepth 100000
set_option maxHeartbeats 4000000
namespace DL
theorem fmod_lt {a b : Int} (h : b ≠ 0) : (a - a.fdiv b * b).natAbs < b.natAbs := by
  have e : a - a.fdiv b * b = a.fmod b := by rw [Int.fmod_def, Int.mul_comm]
  rw [e]
  by_cases c : 0 < b
  · have h1 := Int.fmod_lt_of_pos a c
    have h2 : 0 ≤ a.fmod b := by rw [Int.fmod_eq_emod_of_nonneg _ (by omega)]; exact Int.emod_nonneg _ h
    omega
  · have e2 : a.fmod b = -((-a).fmod (-b)) := by rw [Int.neg_fmod_neg]; omega
    have h1 := Int.fmod_lt_of_pos (-a) (show 0 < -b by omega)
    have h2 : 0 ≤ (-a).fmod (-b) := by rw [Int.fmod_eq_emod_of_nonneg _ (by omega)]; exact Int.emod_nonneg _ (by omega)
    omega
theorem fdiv_le {a b : Int} (h : b ≠ 0) : (a.fdiv b).natAbs ≤ a.natAbs + 1 := by
  have h1 := fmod_lt (a := a) h
  generalize hr : a - a.fdiv b * b = r at h1
  have h2 : (a.fdiv b * b).natAbs ≤ a.natAbs + r.natAbs := by omega
  rw [Int.natAbs_mul] at h2
  apply Classical.byContradiction
  intro c
  have h3 : (a.natAbs + 2) * b.natAbs ≤ (a.fdiv b).natAbs * b.natAbs := Nat.mul_le_mul_right _ (by omega)
  have h4 : a.natAbs * 1 ≤ a.natAbs * b.natAbs := Nat.mul_le_mul_left _ (by omega)
  rw [Nat.add_mul] at h3
  omega
noncomputable def hj (t b : Int) : List Int := if h : 0 < b then -((-t) / b) :: hj b (-((-t) / b) * b - t) else []
termination_by b.toNat
decreasing_by
  have h1 := Int.emod_nonneg (-t) (show b ≠ 0 by omega)
  have h2 := Int.emod_lt_of_pos (-t) h
  have h3 := Int.emod_add_mul_ediv (-t) b
  rw [Int.neg_mul, Int.mul_comm]
  omega
theorem hj_next {t b : Int} (h : 0 < b) : 0 ≤ -((-t) / b) * b - t ∧ -((-t) / b) * b - t < b := by
  have h1 := Int.emod_nonneg (-t) (show b ≠ 0 by omega)
  have h2 := Int.emod_lt_of_pos (-t) h
  have h3 := Int.emod_add_mul_ediv (-t) b
  rw [Int.neg_mul, Int.mul_comm]
  omega
theorem hj_two {t b : Int} (h : 0 < b) (ht : b < t) : 2 ≤ -((-t) / b) := by
  have := (hj_next (t := t) h).1
  apply Classical.byContradiction
  intro c
  have : -((-t) / b) * b ≤ 1 * b := Int.mul_le_mul_of_nonneg_right (by omega) (by omega)
  omega
theorem hj_len : ∀ (n : Nat) (t b : Int), b.toNat = n → (hj t b).length ≤ n := by
  intro n
  induction n using Nat.strongRecOn with
  | ind n ih =>
    intro t b hb
    unfold hj
    by_cases h : 0 < b
    · rw [dif_pos h]
      have := hj_next (t := t) h
      have := ih (-((-t) / b) * b - t).toNat (by omega) b _ rfl
      simp only [List.length_cons]
      omega
    · rw [dif_neg h]
      simp
end DL
namespace CB
open PySem PySem.Spec L2 DL
section
variable {Q : D → Sto → Prop} {E : Str → Sto → Prop} {M : Sto} {a b c d i : Int} {n m : Nat} {u v w : Pt}
noncomputable abbrev Bd (b : Int) (p : Pt) : Prop := (-b ≤ p.1 ∧ p.1 ≤ b) ∧ -b ≤ p.2 ∧ p.2 ≤ b
theorem v_divF {j : Int} (h : j ≠ 0 ∧ -(18446744073709551616) < j ∧ j < 18446744073709551616) : wO (dDiv (.int i) (.int j) M) Q E = Q (.int (i.fdiv j)) M := by
  have : divFits j := by
    refine ⟨h.1, ?_⟩
    have : j.natAbs.log2 < 65 := (Nat.log2_lt (by omega)).mpr (by omega)
    omega
  show wO (if divFits j then _ else _) Q E = _
  rw [if_pos this]; rfl
theorem partner_w (hg : Int.gcd u.1 u.2 = 1) (hb : Bd 1000000 u) (q : ∀ w : Pt, X u w = 1 → Q (pr w.1 w.2) M) : wO (F_partner [pr u.1 u.2] M) Q E := by
  simp! [F_partner, g_partner]
  refine wS_wh (fun k ρ M' => M' = M ∧ ∃ (h l : Int) (f s : Pt) (x : Option D), ρ = [some (pr u.1 u.2), some (.int h), some (.int l), some (pr f.1 f.2), some (pr s.1 s.2), x] ∧ k = l.natAbs ∧ Int.gcd h l = 1 ∧ (-1000000 ≤ h ∧ h ≤ 1000000) ∧ (-1000000 ≤ l ∧ l ≤ 1000000) ∧ X u f = h ∧ X u s = l) ?_ u.2.natAbs _ _ ⟨rfl, u.1, u.2, (0, 1), (-1, 0), _, rfl, rfl, hg, hb.1, hb.2, by simp [X], by simp [X]⟩
  rintro k ρ M ⟨rfl, h, l, f, s, x, rfl, rfl, g, hh, hl, e1, e2⟩
  simp! [wO_ok]
  refine kWh_n (fun hl0 => ?_) (fun hl0 => ?_)
  · have f1 := fmod_lt (a := h) hl0
    have f2 := fdiv_le (a := h) hl0
    simp! [g_partner_b1, v_divF]
    refine ⟨(h - h.fdiv l * l).natAbs, f1, l, h - h.fdiv l * l, s, (f.1 - h.fdiv l * s.1, f.2 - h.fdiv l * s.2), _, rfl, rfl, ?_, hl, by omega, e2, ?_⟩
    · rw [Int.gcd_sub_mul_right_right, Int.gcd_comm]
      exact g
    · unfold X at *
      simp only
      grind
  · subst hl0
    rw [Int.gcd_zero_right] at g
    simp! [wO_ok]
    have := q (h * f.1, h * f.2) (by
      have hh2 : h * h = 1 := by
        have : h = 1 ∨ h = -1 := by omega
        rcases this with z | z <;> rw [z] <;> rfl
      unfold X at *
      simp only
      grind)
    exact this
theorem crossed_w (h : Bd 1000000 u ∨ Bd 1000000 v) : wO (F_crossed [pr u.1 u.2, pr v.1 v.2] M) Q E = Q (.int (X u v)) M := by
  rcases h with h | h
  · simp! [F_crossed, g_crossed]
    rfl
  · simp! [F_crossed, g_crossed]
    rfl
structure Wg (u v : Pt) : Prop where
  gu : Int.gcd u.1 u.2 = 1
  gv : Int.gcd v.1 v.2 = 1
  bu : Bd 1000 u
  bv : Bd 1000 v
  pos : 0 < X u v
theorem Wg.le (h : Wg u v) : X u v ≤ 2000000 := by
  obtain ⟨_, _, ⟨⟨a1, a2⟩, a3, a4⟩, ⟨⟨b1, b2⟩, b3, b4⟩, _⟩ := h
  have m : ∀ x y : Int, -1000 ≤ x → x ≤ 1000 → -1000 ≤ y → y ≤ 1000 → (x * y).natAbs ≤ 1000 * 1000 := by
    intro x y _ _ _ _
    rw [Int.natAbs_mul]
    exact Nat.mul_le_mul (by omega) (by omega)
  have p1 := m u.1 v.2 a1 a2 b3 b4
  have p2 := m u.2 v.1 a3 a4 b1 b2
  unfold X
  omega
theorem first_behind_w (h : Wg u v) (q : ∀ w : Pt, X u w = 1 → 0 ≤ X w v → X w v < X u v → Q (pr w.1 w.2) M) : wO (F_first_behind [pr u.1 u.2, pr v.1 v.2] M) Q E := by
  have bu : Bd 1000000 u := by have := h.bu; unfold Bd at *; omega
  have bv : Bd 1000000 v := by have := h.bv; unfold Bd at *; omega
  have hp := h.pos
  have hl := h.le
  simp! [F_first_behind, g_first_behind]
  refine partner_w h.gu bu fun w e => ?_
  simp! [crossed_w (u := w) (v := v) (.inr bv), crossed_w (u := u) (v := v) (.inr bv)]
  have m1 := Int.emod_nonneg (X w v) (show X u v ≠ 0 by omega)
  have m2 := Int.emod_lt_of_pos (X w v) hp
  have m3 := Int.emod_add_mul_ediv (X w v) (X u v)
  generalize X w v / X u v = k at *
  have e3 : X (w.1 - k * u.1, w.2 - k * u.2) v = X w v % X u v := by
    have : X (w.1 - k * u.1, w.2 - k * u.2) v = X w v - X u v * k := by unfold X; simp only; grind
    omega
  exact q (w.1 - k * u.1, w.2 - k * u.2) (by unfold X at *; simp only; grind) (by omega) (by omega)
structure Fb (u v w : Pt) : Prop where
  one : X u w = 1
  lo : 0 ≤ X w v
  hi : X w v < X u v
theorem Fb.uniq {w w' : Pt} (h : Fb u v w) (k : Fb u v w') : w = w' := by
  obtain ⟨h1, a1, a2⟩ := h
  obtain ⟨h2, b1, b2⟩ := k
  have e1 : w'.1 = X w' w * u.1 + w.1 ∧ w'.2 = X w' w * u.2 + w.2 := by unfold X at *; constructor <;> grind
  have e2 : X w' v = X w' w * X u v + X w v := by
    have : X w' v = X (X w' w * u.1 + w.1, X w' w * u.2 + w.2) v := by rw [← e1.1, ← e1.2]
    rw [this]
    unfold X
    simp only
    grind
  generalize X w' w = k at *
  have k0 : k = 0 := by
    apply Classical.byContradiction
    intro c
    by_cases p : 1 ≤ k
    · have : 1 * X u v ≤ k * X u v := Int.mul_le_mul_of_nonneg_right p (by omega)
      omega
    · have : k * X u v ≤ (-1) * X u v := Int.mul_le_mul_of_nonneg_right (by omega) (by omega)
      omega
  rw [k0] at e1
  apply Prod.ext <;> omega
theorem fb_ex (h : Wg u v) : ∃ w, Fb u v w := by
  obtain ⟨d, M', _, w, hw⟩ := wO_get (first_behind_w (M := []) (Q := fun _ _ => ∃ w, Fb u v w) h fun w a b c => ⟨w, a, b, c⟩)
  exact ⟨w, hw⟩
theorem fb_eq (h : Wg u v) (hw : Fb u v w) : wO (F_first_behind [pr u.1 u.2, pr v.1 v.2] M) Q E = Q (pr w.1 w.2) M := by
  obtain ⟨d, M', e, e1, e2⟩ := wO_get (first_behind_w (M := M) (Q := fun d M' => d = pr w.1 w.2 ∧ M' = M) h fun w' a b c => ⟨by rw [hw.uniq ⟨a, b, c⟩], rfl⟩)
  rw [e, e1, e2]
  rfl
theorem expanded_w {t b : Int} (hb : 0 ≤ b) (hl : b ≤ 90000) (q : Q (.ref M.length) (M ++ [.lst (nts (hj t b))])) : wO (F_expanded [.int t, .int b] M) Q E := by
  simp! [F_expanded, g_expanded]
  refine wS_wh (fun k ρ M' => ∃ (t' b' : Int) (xs : List Int) (x : Option D), ρ = [some (.int t'), some (.int b'), some (.ref M.length), x] ∧ M' = M ++ [.lst (nts xs)] ∧ 0 ≤ b' ∧ b' ≤ 90000 ∧ k = b'.toNat ∧ xs ++ hj t' b' = hj t b ∧ xs.length + b'.toNat ≤ 90000) ?_ b.toNat _ _ ⟨t, b, [], _, rfl, rfl, hb, hl, rfl, rfl, by simp; omega⟩
  rintro k ρ M' ⟨t', b', xs, x, rfl, rfl, h0, h1, rfl, e, hx⟩
  simp! [wO_ok]
  refine kWh_n (fun hl0 => ?_) (fun hl0 => ?_)
  · have n1 := hj_next (t := t') (show 0 < b' by omega)
    simp! [g_expanded_b1]
    refine ⟨by omega, (-(-t' / b') * b' - t').toNat, by omega, _, _, xs ++ [-(-t' / b')], _, rfl, rfl, n1.1, by omega, rfl, ?_, by simp; omega⟩
    rw [← e]
    conv => rhs; rw [hj, dif_pos (show 0 < b' by omega)]
    simp
  · subst hl0
    simp! [wO_ok]
    have : hj t' 0 = [] := by rw [hj, dif_neg (by omega)]
    rw [this, List.append_nil] at e
    rw [e]
    exact q
theorem row_w (h : Wg u v) (hw : Fb u v w) (hl : X u v ≤ 90000) (q : Q (.ref M.length) (M ++ [.lst (nts (hj (X u v) (X w v)))])) : wO (F_row [pr u.1 u.2, pr v.1 v.2] M) Q E := by
  have bv : Bd 1000000 v := by have := h.bv; unfold Bd at *; omega
  have hp := h.pos
  simp! [F_row, g_row, crossed_w (u := u) (v := v) (.inr bv), crossed_w (u := w) (v := v) (.inr bv), fb_eq h hw]
  exact expanded_w hw.lo (by have := hw.hi; omega) q
noncomputable def btw : Pt → Pt → List Int → List Pt
  | _, _, [] => []
  | a, r, k :: ks => r :: btw r (k * r.1 - a.1, k * r.2 - a.2) ks
theorem hj_small : ∀ (n : Nat) (t b : Int), b.toNat = n → 0 ≤ b → b < t → ∀ k ∈ hj t b, 2 ≤ k ∧ k ≤ t := by
  intro n
  induction n using Nat.strongRecOn with
  | ind n ih =>
    intro t b hb h0 ht k hk
    unfold hj at hk
    by_cases h : 0 < b
    · rw [dif_pos h] at hk
      have nx := hj_next (t := t) h
      rcases List.mem_cons.mp hk with z | z
      · rw [z]
        refine ⟨hj_two h ht, ?_⟩
        apply Classical.byContradiction
        intro c
        have : (t + 1) * b ≤ -((-t) / b) * b := Int.mul_le_mul_of_nonneg_right (by omega) (by omega)
        have : t * 1 ≤ t * b := Int.mul_le_mul_of_nonneg_left (by omega) (by omega)
        rw [Int.add_mul] at *
        omega
      · have := ih (-((-t) / b) * b - t).toNat (by omega) b _ rfl nx.1 nx.2 k z
        omega
    · rw [dif_neg h] at hk
      simp at hk
end
end CB


end
section
set_option Elab.async false
set_option linter.all false
set_option maxRecDepth 100000
set_option maxHeartbeats 4000000
namespace CB
open PySem PySem.Spec L2 DL
section
variable {Q : D → Sto → Prop} {E : Str → Sto → Prop} {M : Sto} {a b c d i : Int} {n m : Nat} {u v w : Pt}
theorem purse_w {ns : List Int} {k : Nat} (hk : k < 1000) (q : ∀ a b : Int, 0 ≤ a → Q (.ref M.length) (M ++ [.lst [.int a, .int b]])) : wO (F_law_purse [.rol (ns.map D.int), .int k] M) Q E := by
  have big : mulFits 1000000000000000000000000000000000000000000000000000000000000 1000000000000000000000000000000 := mulFits_of 300 300 (by decide +kernel) (by decide +kernel) (by decide) (by decide)
  simp! [F_law_purse, g_law_purse]
  refine brS (fun h1 => ?_) (fun h1 => ?_)
  · have h2 : k < ns.length := by simpa using h1
    simp! [atI_ints h2, v_mulF big]
    obtain ⟨l, hl, l0⟩ : ∃ l : Int, ns[k] % 1000000000000000000000000000000000000000000000000000000000000000000000000000000000000000000 = l ∧ 0 ≤ l := ⟨_, rfl, by omega⟩
    rw [hl]
    refine q _ _ ?_
    split <;> omega
  · simp! [v_mulF big]
    exact q _ _ (by omega)
theorem take_w {t : Int} (hb : Bag n M) (ht : 0 < t ∧ t < 18446744073709551616) (q : ∀ r M', 0 ≤ r → r < t → Gr n M M' → Q (.int r) M') : wO (F_law_take [.ref n, .int t] M) Q E := by
  obtain ⟨a, b, ha, e⟩ := hb
  have hl : n < M.length := lt_get e
  have hs : ∀ x, (M.set n x)[n]? = some x := fun x => List.getElem?_set_self hl
  have gr : ∀ a' b', 0 ≤ a' → Gr n M (M.set n (.lst [.int a', .int b'])) := fun a' b' h => ⟨by simp, ⟨a', b', h, hs _⟩, fun k hk _ => by rw [List.getElem?_set_ne (Ne.symm hk)]⟩
  have m1 := Int.emod_nonneg a (show t ≠ 0 by omega)
  have m2 := Int.emod_lt_of_pos a ht.1
  simp! [F_law_take, g_law_take, e]
  refine brS (fun h1 => ?_) (fun h1 => ?_)
  · simp! [e, ix0]
    exact q _ _ m1 m2 (gr _ _ (Int.ediv_nonneg ha (by omega)))
  · simp! [e, ix1]
    exact q _ _ (Int.emod_nonneg _ (by omega)) (Int.emod_lt_of_pos _ ht.1) (gr _ _ ha)
theorem short_w {x y B : Int} (hB : 1 ≤ B ∧ B ≤ 1000) (hx : -B ≤ x ∧ x ≤ B) (hy : -B ≤ y ∧ y ≤ B) (q : ∀ w : Pt, Int.gcd w.1 w.2 = 1 → Bd B w → Q (pr w.1 w.2) M) : wO (F_law_short [pr x y] M) Q E := by
  simp! [F_law_short, g_law_short]
  refine wS_wh (fun k ρ M' => M' = M ∧ ∃ a b : Nat, ρ = [some (pr x y), some (.int a), some (.int b)] ∧ k = b ∧ Nat.gcd a b = Int.gcd x y ∧ a ≤ 1000 ∧ b ≤ 1000) ?_ y.natAbs _ _ ⟨rfl, x.natAbs, y.natAbs, rfl, rfl, rfl, by omega, by omega⟩
  rintro k ρ M ⟨rfl, a, b, rfl, rfl, g, ha, hk'⟩
  simp! [wO_ok]
  refine kWh_d (fun h => ?_) (fun h => ?_)
  · simp! [g_law_short_b1]
    have hb : 0 < k := by omega
    have hm := Nat.mod_lt a hb
    refine ⟨a % k, hm, k, a % k, by rw [Int.natCast_emod], rfl, ?_, ?_⟩
    · rw [← g, Nat.gcd_comm k, ← Nat.gcd_rec, Nat.gcd_comm]
    · omega
  · have k0 : k = 0 := by omega
    subst k0
    rw [Nat.gcd_zero_right] at g
    simp! [wO_ok]
    refine brS (fun hz => ?_) (fun hz => ?_)
    · simp! [wO_ok]
      exact q (1, 0) rfl ⟨by simp; omega, by simp; omega⟩
    · simp! [wO_ok]
      have b1 := Int.natAbs_ediv_le_natAbs x a
      have b2 := Int.natAbs_ediv_le_natAbs y a
      refine q (x / a, y / a) ?_ ⟨by simp only; omega, by simp only; omega⟩
      rw [g]
      exact Int.gcd_ediv_gcd_ediv_gcd (by omega)
theorem sq0 (x : Int) : 0 ≤ x * x := by
  by_cases c : 0 ≤ x
  · exact Int.mul_nonneg c c
  · have := Int.mul_nonneg (show 0 ≤ -x by omega) (show 0 ≤ -x by omega)
    rw [Int.neg_mul_neg] at this
    exact this
theorem X_le (hu : Bd 200 u) (hv : Bd 200 v) : -80000 ≤ X u v ∧ X u v ≤ 80000 := by
  obtain ⟨⟨a1, a2⟩, a3, a4⟩ := hu
  obtain ⟨⟨b1, b2⟩, b3, b4⟩ := hv
  have m : ∀ x y : Int, -200 ≤ x → x ≤ 200 → -200 ≤ y → y ≤ 200 → (x * y).natAbs ≤ 200 * 200 := by
    intro x y _ _ _ _
    rw [Int.natAbs_mul]
    exact Nat.mul_le_mul (by omega) (by omega)
  have p1 := m u.1 v.2 a1 a2 b3 b4
  have p2 := m u.2 v.1 a3 a4 b1 b2
  unfold X
  omega
theorem lcrossed_w (h : Bd 1000000 u ∨ Bd 1000000 v) : wO (F_law_crossed [pr u.1 u.2, pr v.1 v.2] M) Q E = Q (.int (X u v)) M := crossed_w h
theorem wedge_w (hb : Bag n M) (q : ∀ u v M', Wg u v → Bd 200 u → Bd 200 v → X u v ≤ 80000 → Gr n M M' → Q (.tup [pr u.1 u.2, pr v.1 v.2]) M') : wO (F_law_wedge [.ref n] M) Q E := by
  simp! [F_law_wedge, g_law_wedge]
  refine take_w (hb.app _) (by decide) fun r M1 r0 r1 g1 => ?_
  have k1 := Gr.new hb g1
  simp! [k1]
  obtain ⟨sz, hs, z0, z1⟩ : ∃ f : Int, atI [D.int 4, D.int 12, D.int 30, D.int 200] r = some (.int f) ∧ 1 ≤ f ∧ f ≤ 200 := by
    have : r = 0 ∨ r = 1 ∨ r = 2 ∨ r = 3 := by omega
    rcases this with rfl | rfl | rfl | rfl
    · exact ⟨4, rfl, by decide, by decide⟩
    · exact ⟨12, rfl, by decide, by decide⟩
    · exact ⟨30, rfl, by decide, by decide⟩
    · exact ⟨200, rfl, by decide, by decide⟩
  simp! [hs]
  refine take_w g1.bag (by omega) fun x1 M2 a0 a1 g2 => ?_
  simp! [wO_ok]
  refine take_w g2.bag (by omega) fun x2 M3 b0 b1 g3 => ?_
  simp! [wO_ok]
  refine short_w (B := 200) (by decide) (by omega) (by omega) fun u gu bu => ?_
  simp! [wO_ok]
  refine take_w g3.bag (by omega) fun x3 M4 c0 c1 g4 => ?_
  simp! [wO_ok]
  refine take_w g4.bag (by omega) fun x4 M5 d0 d1 g5 => ?_
  simp! [wO_ok]
  refine short_w (B := 200) (by decide) (by omega) (by omega) fun v gv bv => ?_
  have gr : Gr n M M5 := ((((Gr.app hb _).trans g1).trans g2).trans (g3.trans (g4.trans g5)))
  have B6 : ∀ {p : Pt}, Bd 200 p → Bd 1000000 p := fun h => by unfold Bd at *; omega
  have B3 : ∀ {p : Pt}, Bd 200 p → Bd 1000 p := fun h => by unfold Bd at *; omega
  have xl := X_le bu bv
  simp! [lcrossed_w (u := u) (v := v) (.inr (B6 bv))]
  refine midS (fun ρ M' => M' = M5 ∧ ∃ (u v : Pt) (x : Option D), ρ = [some (.ref n), x, some (pr u.1 u.2), some (pr v.1 v.2)] ∧ Int.gcd u.1 u.2 = 1 ∧ Int.gcd v.1 v.2 = 1 ∧ Bd 200 u ∧ Bd 200 v ∧ 0 ≤ X u v) ?_ ?_
  · refine brS (fun h => ?_) (fun h => ?_)
    · simp! [wO_ok]
      refine ⟨v, u, _, rfl, gv, gu, bv, bu, ?_⟩
      have : X v u = 0 - X u v := X_swap v u
      omega
    · simp! [wO_ok]
      exact ⟨u, v, _, rfl, gu, gv, bu, bv, by omega⟩
  rintro _ M5 ⟨rfl, u, v, x, rfl, gu, gv, bu, bv, hp⟩
  have xl := X_le bu bv
  simp! [lcrossed_w (u := u) (v := v) (.inr (B6 bv))]
  refine midS (fun ρ M' => M' = M5 ∧ ∃ (u v : Pt) (x : Option D), ρ = [some (.ref n), x, some (pr u.1 u.2), some (pr v.1 v.2)] ∧ Wg u v ∧ Bd 200 u ∧ Bd 200 v) ?_ ?_
  · refine brS (fun h => ?_) (fun h => ?_)
    · simp! [wO_ok]
      have bv2 : Bd 200 (0 - u.2, u.1) := by unfold Bd at *; simp only; omega
      refine ⟨u, (0 - u.2, u.1), _, rfl, ⟨gu, ?_, B3 bu, B3 bv2, ?_⟩, bu, bv2⟩
      · show Int.gcd (0 - u.2) u.1 = 1
        rw [Int.zero_sub, Int.neg_gcd, Int.gcd_comm]
        exact gu
      · have e : X u (0 - u.2, u.1) = u.1 * u.1 + u.2 * u.2 := by unfold X; simp only; grind
        rw [e]
        have h1 : 0 ≤ u.1 * u.1 := sq0 _
        have h2 : 0 ≤ u.2 * u.2 := sq0 _
        apply Classical.byContradiction
        intro c
        have e1 : u.1 * u.1 = 0 := by omega
        have e2 : u.2 * u.2 = 0 := by omega
        have f1 : u.1 = 0 := by rcases Int.mul_eq_zero.mp e1 with z | z <;> exact z
        have f2 : u.2 = 0 := by rcases Int.mul_eq_zero.mp e2 with z | z <;> exact z
        rw [f1, f2] at gu
        simp at gu
    · simp! [wO_ok]
      exact ⟨u, v, _, rfl, ⟨gu, gv, B3 bu, B3 bv, by omega⟩, bu, bv⟩
  rintro _ M5 ⟨rfl, u, v, x, rfl, hw, bu, bv⟩
  have xl := X_le bu bv
  simp! [wO_ok]
  exact q u v M5 hw bu bv xl.2 gr
noncomputable def Ch : List Pt → Prop
  | a :: b :: r => X a b = 1 ∧ Ch (b :: r)
  | _ => True
theorem chain : ∀ (n : Nat) (t b : Int) (a r v : Pt), b.toNat = n → 0 ≤ b → b < t → X a r = 1 → X a v = t → X r v = b → Int.gcd v.1 v.2 = 1 → Ch (a :: (btw a r (hj t b) ++ [v])) := by
  intro n
  induction n using Nat.strongRecOn with
  | ind n ih =>
    intro t b a r v hb h0 ht h1 h2 h3 gv
    unfold hj
    by_cases h : 0 < b
    · rw [dif_pos h]
      have nx := hj_next (t := t) h
      generalize hk : -((-t) / b) = k at *
      have q := ih (k * b - t).toNat (by omega) b (k * b - t) r (k * r.1 - a.1, k * r.2 - a.2) v rfl nx.1 nx.2 (by unfold X at *; simp only; grind) h3 (by unfold X at *; simp only; grind) gv
      rw [btw]
      exact ⟨h1, q⟩
    · rw [dif_neg h, btw]
      have b0 : b = 0 := by omega
      have e1 : v.1 = t * r.1 ∧ v.2 = t * r.2 := by unfold X at *; constructor <;> grind
      rw [e1.1, e1.2, Int.gcd_mul_left] at gv
      have t1 : t.natAbs = 1 := Nat.eq_one_of_mul_eq_one_right gv
      refine ⟨by rw [h2]; omega, trivial⟩
noncomputable def Tr (a b d : Pt) : Prop := ∃ k : Int, 2 ≤ k ∧ a.1 + d.1 = k * b.1 ∧ a.2 + d.2 = k * b.2
noncomputable def Cv : List Pt → Prop
  | a :: b :: d :: r => Tr a b d ∧ Cv (b :: d :: r)
  | _ => True
theorem convex : ∀ (n : Nat) (t b : Int) (a r v : Pt), b.toNat = n → 0 ≤ b → b < t → X a r = 1 → X a v = t → X r v = b → Int.gcd v.1 v.2 = 1 → Cv (a :: (btw a r (hj t b) ++ [v])) ∧ ∃ rest, btw a r (hj t b) ++ [v] = r :: rest := by
  intro n
  induction n using Nat.strongRecOn with
  | ind n ih =>
    intro t b a r v hb h0 ht h1 h2 h3 gv
    unfold hj
    by_cases h : 0 < b
    · rw [dif_pos h]
      have nx := hj_next (t := t) h
      have k2 := hj_two h ht
      generalize hk : -((-t) / b) = k at *
      obtain ⟨q, rest, e⟩ := ih (k * b - t).toNat (by omega) b (k * b - t) r (k * r.1 - a.1, k * r.2 - a.2) v rfl nx.1 nx.2 (by unfold X at *; simp only; grind) h3 (by unfold X at *; simp only; grind) gv
      rw [btw]
      refine ⟨?_, _, rfl⟩
      show Cv (a :: r :: (btw r (k * r.1 - a.1, k * r.2 - a.2) (hj b (k * b - t)) ++ [v]))
      rw [e] at q ⊢
      exact ⟨⟨k, k2, by simp only; omega, by simp only; omega⟩, q⟩
    · rw [dif_neg h, btw]
      have b0 : b = 0 := by omega
      have e1 : v.1 = t * r.1 ∧ v.2 = t * r.2 := by unfold X at *; constructor <;> grind
      have gv' := gv
      rw [e1.1, e1.2, Int.gcd_mul_left] at gv'
      have t1 : t.natAbs = 1 := Nat.eq_one_of_mul_eq_one_right gv'
      have tt : t = 1 := by omega
      rw [tt] at e1
      have : v = r := by apply Prod.ext <;> omega
      rw [this]
      exact ⟨trivial, [], rfl⟩
theorem cv_at : ∀ (L : List Pt) {a b d : Pt} {R : List Pt}, Cv (L ++ a :: b :: d :: R) → Tr a b d
  | [], _, _, _, _, h => h.1
  | [x], _, _, _, _, h => cv_at [] h.2
  | [x, y], _, _, _, _, h => cv_at [y] h.2
  | x :: y :: z :: L, _, _, _, _, h => cv_at (y :: z :: L) h.2
theorem cv_of : ∀ (l : List Pt), (∀ L a b d R, l = L ++ a :: b :: d :: R → Tr a b d) → Cv l
  | [], _ => trivial
  | [_], _ => trivial
  | [_, _], _ => trivial
  | a :: b :: d :: r, h => ⟨h [] a b d r rfl, cv_of (b :: d :: r) fun L x y z R e => h (a :: L) x y z R (by rw [e]; rfl)⟩
theorem cv_rev {l : List Pt} (h : Cv l) : Cv l.reverse := by
  refine cv_of _ fun L a b d R e => ?_
  have : l = R.reverse ++ d :: b :: a :: L.reverse := by
    have := congrArg List.reverse e
    rw [List.reverse_reverse] at this
    rw [this]
    simp
  rw [this] at h
  obtain ⟨k, k2, e1, e2⟩ := cv_at _ h
  exact ⟨k, k2, by omega, by omega⟩
end
section
variable {u v w : Pt}
end
end CB


end
section
set_option Elab.async false
set_option linter.all false
set_option maxRecDepth 100000
set_option maxHeartbeats 4000000
namespace CA
open PySem PySem.Spec L2 DL
end CA


end
section
set_option Elab.async false
set_option linter.all false
set_option maxRecDepth 100000
set_option maxHeartbeats 4000000
namespace CA
open PySem PySem.Spec L2 DL
section
variable {Q : D → Sto → Prop} {E : Str → Sto → Prop} {M : Sto} {a b c d i : Int} {n m : Nat} {rs : List Pt}
theorem Gr.up {k : Nat} {M M1 : Sto} {o : SO} (h : M[k]? = some o) (g : Gr n M M1) (hk : k ≠ n) : M1[k]? = some o := by
  rw [g.keep k hk (lt_get h)]
  exact h
end
end CA


end
section
set_option Elab.async false
set_option linter.all false
set_option maxRecDepth 100000
set_option maxHeartbeats 4000000
namespace CY
open PySem PySem.Spec L2 DL CA
end CY


end
section
set_option Elab.async false
set_option linter.all false
set_option maxRecDepth 100000
set_option maxHeartbeats 4000000
namespace CY
open PySem PySem.Spec L2 DL
section
variable {Q : D → Sto → Prop} {E : Str → Sto → Prop} {M : Sto} {n m : Nat} {rs : List Pt}
theorem Gr.of {M M' : Sto} (hb : Bag n M) (l : M.length ≤ M'.length) (g : ∀ k, k < M.length → M'[k]? = M[k]?) : Gr n M M' := by
  refine ⟨l, ?_, fun k _ hk => g k hk⟩
  obtain ⟨a, b, h, e⟩ := id hb
  exact ⟨a, b, h, (g n hb.lt).trans e⟩
end
end CY


end
section
set_option Elab.async false
set_option linter.all false
set_option maxRecDepth 100000
set_option maxHeartbeats 4000000
namespace CR
open PySem PySem.Spec L2 DL
end CR


end
section
set_option Elab.async false
set_option linter.all false
set_option maxRecDepth 100000
set_option maxHeartbeats 4000000
namespace CR
open PySem PySem.Spec L2 DL
section
variable {Q : D → Sto → Prop} {E : Str → Sto → Prop} {M : Sto} {k l : Nat} {p q : Rat}
end
end CR


end
section
set_option Elab.async false
set_option linter.all false
set_option maxRecDepth 100000
set_option maxHeartbeats 4000000
namespace CH
open PySem PySem.Spec L2 DL CA CR
end CH


end
section
set_option Elab.async false
set_option linter.all false
set_option maxRecDepth 100000
set_option maxHeartbeats 4000000
namespace CH
open PySem PySem.Spec L2 DL

section
variable {Q : D → Sto → Prop} {E : Str → Sto → Prop} {M : Sto} {n : Nat}
end
end CH


end
section
set_option Elab.async false
set_option linter.all false
set_option maxRecDepth 100000
set_option maxHeartbeats 4000000
namespace CS
open PySem PySem.Spec L2 DL CC CR
end CS


end
section
set_option Elab.async false
set_option linter.all false
set_option maxRecDepth 100000
set_option maxHeartbeats 4000000
namespace CS
open PySem PySem.Spec L2 DL

section
variable {Q : D → Sto → Prop} {E : Str → Sto → Prop} {M : Sto} {k l : Nat} {p q : Rat}
end
end CS


end
section
set_option Elab.async false
set_option linter.all false
set_option maxRecDepth 100000
set_option maxHeartbeats 4000000
namespace CN
open PySem PySem.Spec L2 DL





end CN


end
section
set_option Elab.async false
set_option linter.all false
set_option maxRecDepth 100000
set_option maxHeartbeats 4000000
namespace CN
open PySem PySem.Spec L2 DL


noncomputable def cq (hs : List Rat) (i : Int) : Rat := hs.getD (i % hs.length).toNat 0
noncomputable def dot (xs ys : List Rat) : Nat → Rat
  | 0 => 0
  | n + 1 => dot xs ys n + cq xs n * cq ys n
section
variable {Q : D → Sto → Prop} {E : Str → Sto → Prop} {M : Sto} {k l : Nat} {p q : Rat} {n m : Nat} {rs : List Pt} {hs : List Rat} {i : Int}
end
end CN


end
section
set_option Elab.async false
set_option linter.all false
set_option maxRecDepth 100000
set_option maxHeartbeats 4000000
namespace CN
open PySem PySem.Spec L2 DL


section
variable {Q : D → Sto → Prop} {E : Str → Sto → Prop} {M : Sto} {k l : Nat} {p q : Rat} {n m : Nat} {rs : List Pt} {hs : List Rat} {i : Int}
theorem nts_get {ts : List Int} {i : Nat} (h : i < (nts ts).length) : (nts ts)[i] = .int (cn ts i) := by
  rw [nts_len] at h
  rw [cn_nat h]
  simp [nts]
end
end CN


end
section
set_option Elab.async false
set_option linter.all false
set_option maxRecDepth 100000
set_option maxHeartbeats 4000000
namespace CN
open PySem PySem.Spec L2 DL


noncomputable def sm (f : Int → Rat) : Nat → Rat
  | 0 => 0
  | n + 1 => sm f n + f n
end CN


end
section
set_option Elab.async false
set_option linter.all false
set_option maxRecDepth 100000
set_option maxHeartbeats 4000000
namespace CU
open PySem PySem.Spec L2 DL




end CU


end
section
set_option Elab.async false
set_option linter.all false
set_option maxRecDepth 100000
set_option maxHeartbeats 4000000
namespace CU
open PySem PySem.Spec L2 DL


open CN CS
noncomputable def thr (rs : List Pt) (hs : List Rat) : Rat × Rat := (cq hs 0 * (cy rs 1).2 - cq hs 1 * (cy rs 0).2, cq hs 1 * (cy rs 0).1 - cq hs 0 * (cy rs 1).1)
section
variable {Q : D → Sto → Prop} {E : Str → Sto → Prop} {M : Sto} {k l : Nat} {p q : Rat} {n m o : Nat} {rs : List Pt} {hs xs ys : List Rat} {i : Int}
end
end CU


end
section
set_option Elab.async false
set_option linter.all false
set_option maxRecDepth 100000
set_option maxHeartbeats 4000000
namespace CV
open PySem PySem.Spec L2 DL


open CN CU CS
noncomputable def Kp (M M' : Sto) : Prop := M.length ≤ M'.length ∧ ∀ j < M.length, M'[j]? = M[j]?
section
variable {M M' M1 M2 : Sto} {o : SO} {j : Nat}
theorem Kp.get (k : Kp M M') (h : M[j]? = some o) : M'[j]? = some o := (k.2 _ (lt_get h)).trans h
theorem Kp.trans (a : Kp M M1) (b : Kp M1 M2) : Kp M M2 := ⟨Nat.le_trans a.1 b.1, fun j h => (b.2 j (Nat.lt_of_lt_of_le h a.1)).trans (a.2 j h)⟩
theorem Kp.app {L : Sto} : Kp M (M ++ L) := ⟨by simp, fun j h => s_old h⟩
theorem Kp.set (a : Kp M M1) (h : M.length ≤ j) : Kp M (M1.set j o) := ⟨by rw [List.length_set]; exact a.1, fun i hi => by rw [List.getElem?_set_ne (by omega)]; exact a.2 i hi⟩
theorem Kp.bag {n : Nat} (k : Kp M M') (b : Bag n M) : Bag n M' := (CY.Gr.of b k.1 k.2).bag
theorem Kp.gr {n : Nat} (k : Kp M M') (b : Bag n M) : Gr n M M' := CY.Gr.of b k.1 k.2
end
section
variable {Q : D → Sto → Prop} {E : Str → Sto → Prop} {M : Sto} {k l : Nat} {p q : Rat} {n m o : Nat} {rs : List Pt} {hs xs ys zs u v : List Rat} {i : Int} {f : Ev} {ρ : Ro} {mu mv N : Nat}
end
end CV


end
section

end
section

end
section

end
section

end
section

end
section

end
section

end
section

end
section

end
section

end
section

end
section

end
section

end
section

end
section
set_option Elab.async false
set_option linter.all false
set_option maxRecDepth 100000
set_option maxHeartbeats 4000000
namespace CB
open DL
section
variable {u v w : Pt}
noncomputable def kl : List Pt → List Int
  | a :: b :: d :: r => X a d :: kl (b :: d :: r)
  | _ => []
theorem Xvv (p : Pt) : X p p = 0 := by unfold X; grind
theorem desc : ∀ (r : List Pt) (a b : Pt) (v : Pt), Ch (a :: b :: r) → Cv (a :: b :: r) → (b :: r).getLast (by simp) = v → 0 ≤ X b v ∧ X b v < X a v
  | [], a, b, v, h, _, e => by
    have : b = v := e
    subst this
    rw [Xvv, h.1]
    omega
  | c :: r, a, b, v, h, k, e => by
    have ih := desc r b c v h.2 k.2 (by rw [← e]; simp [List.getLast_cons])
    obtain ⟨m, m2, e1, e2⟩ := k.1
    have ex : X a v + X c v = m * X b v := by unfold X; grind
    have : 2 * X b v ≤ m * X b v := Int.mul_le_mul_of_nonneg_right m2 (by omega)
    omega
theorem ceil_eq {t b k c : Int} (hb : 0 < b) (h0 : 0 ≤ c) (h1 : c < b) (e : t + c = k * b) : -((-t) / b) = k := by
  have : -t = c + b * (-k) := by grind
  rw [this, Int.add_mul_ediv_left _ _ (by omega), Int.ediv_eq_zero_of_lt h0 h1]
  omega
theorem only : ∀ (ws : List Pt) (u v w : Pt), Ch (u :: (ws ++ [v])) → Cv (u :: (ws ++ [v])) → Fb u v w → ws = btw u w (hj (X u v) (X w v)) ∧ kl (u :: (ws ++ [v])) = hj (X u v) (X w v)
  | [], u, v, w, h, k, f => by
    have h1 : X u v = 1 := h.1
    have l := f.lo
    have l2 := f.hi
    have w0 : X w v = 0 := by omega
    rw [w0]
    unfold hj
    rw [dif_neg (by decide)]
    exact ⟨rfl, rfl⟩
  | x :: ws, u, v, w, h, k, f => by
    have hl : (x :: (ws ++ [v])).getLast (by simp) = v := by simp [List.getLast_cons]
    have d := desc (ws ++ [v]) u x v h k hl
    have fx : Fb u v x := ⟨h.1, d.1, d.2⟩
    have ew := fx.uniq f
    subst ew
    obtain ⟨y, R, eR⟩ : ∃ y R, ws ++ [v] = y :: R := by
      cases ws with
      | nil => exact ⟨v, [], rfl⟩
      | cons y R => exact ⟨y, R ++ [v], rfl⟩
    have h' : Ch (x :: y :: R) := by rw [← eR]; exact h.2
    have kk : Cv (u :: x :: y :: R) := by rw [← eR]; exact k
    have hl2 : (y :: R).getLast (by simp) = v := by
      have : (ws ++ [v]).getLast (by simp) = v := by simp
      simpa [eR] using this
    have d2 := desc R x y v h' kk.2 hl2
    obtain ⟨m, m2, e1, e2⟩ := kk.1
    have ex : X u v + X y v = m * X x v := by unfold X; grind
    have hc := ceil_eq (by omega) d2.1 d2.2 ex
    have ey : (m * x.1 - u.1, m * x.2 - u.2) = y := by apply Prod.ext <;> simp only <;> omega
    have m3 : X u y = m := by
      have := h.1
      rw [← ey]
      unfold X at *
      simp only
      grind
    have fy : Fb x v y := ⟨h'.1, d2.1, d2.2⟩
    have ih := only ws x v y (by rw [eR]; exact h') (by rw [eR]; exact kk.2) fy
    have ej : hj (X u v) (X x v) = m :: hj (X x v) (X y v) := by
      rw [hj, dif_pos (by omega), hc]
      congr 2
      omega
    rw [ej]
    constructor
    · rw [btw, ey, ← ih.1]
    · show kl (u :: x :: (ws ++ [v])) = _
      rw [eR, kl, m3, ← eR, ih.2]
theorem kl_snoc : ∀ (L : List Pt) (a b d : Pt), kl (L ++ [a, b, d]) = kl (L ++ [a, b]) ++ [X a d]
  | [], a, b, d => rfl
  | [x], a, b, d => rfl
  | [x, y], a, b, d => rfl
  | x :: y :: z :: L, a, b, d => by
    show X x z :: kl (y :: z :: L ++ [a, b, d]) = X x z :: kl (y :: z :: L ++ [a, b]) ++ [X a d]
    rw [kl_snoc (y :: z :: L) a b d]
    rfl
theorem kl_rev {g : Pt → Pt} (hg : ∀ p q, X (g p) (g q) = -1 * X p q) : ∀ L : List Pt, kl (L.map g).reverse = (kl L).reverse
  | [] => rfl
  | [_] => rfl
  | [_, _] => rfl
  | a :: b :: d :: r => by
    have ih := kl_rev hg (b :: d :: r)
    have e : ((a :: b :: d :: r).map g).reverse = (r.map g).reverse ++ [g d, g b, g a] := by simp
    have e2 : ((b :: d :: r).map g).reverse = (r.map g).reverse ++ [g d, g b] := by simp
    rw [e, kl_snoc, ← e2, ih, kl, List.reverse_cons, hg, X_sw]
    congr 2
    omega
theorem ch_of : ∀ (l : List Pt), (∀ L a b R, l = L ++ a :: b :: R → X a b = 1) → Ch l
  | [], _ => trivial
  | [_], _ => trivial
  | a :: b :: r, h => ⟨h [] a b r rfl, ch_of (b :: r) fun L x y R e => h (a :: L) x y R (by rw [e]; rfl)⟩
theorem ch_at : ∀ (L : List Pt) {a b : Pt} {R : List Pt}, Ch (L ++ a :: b :: R) → X a b = 1
  | [], _, _, _, h => h.1
  | [x], _, _, _, h => ch_at [] h.2
  | x :: y :: L, _, _, _, h => ch_at (y :: L) h.2
theorem ch_rev {g : Pt → Pt} (hg : ∀ p q, X (g p) (g q) = -1 * X p q) {L : List Pt} (h : Ch L) : Ch (L.map g).reverse := by
  refine ch_of _ fun A a b R e => ?_
  have e' := congrArg List.reverse e
  rw [List.reverse_reverse] at e'
  have e2 : (A ++ a :: b :: R).reverse = R.reverse ++ b :: a :: A.reverse := by simp
  rw [e2] at e'
  obtain ⟨L1, L2, rfl, m1, m2⟩ := List.map_eq_append_iff.mp e'
  obtain ⟨x, L3, rfl, m3, m4⟩ := List.map_eq_cons_iff.mp m2
  obtain ⟨y, L4, rfl, m5, m6⟩ := List.map_eq_cons_iff.mp m4
  have := ch_at L1 h
  rw [← m3, ← m5, hg, X_sw]
  omega
theorem cv_map {g : Pt → Pt} (ga : ∀ p q r : Pt, ∀ k : Int, p.1 + q.1 = k * r.1 → p.2 + q.2 = k * r.2 → (g p).1 + (g q).1 = k * (g r).1 ∧ (g p).2 + (g q).2 = k * (g r).2) : ∀ L : List Pt, Cv L → Cv (L.map g)
  | [], _ => trivial
  | [_], _ => trivial
  | [_, _], _ => trivial
  | a :: b :: d :: r, h => by
    obtain ⟨k, k2, e1, e2⟩ := h.1
    exact ⟨⟨k, k2, (ga a d b k e1 e2).1, (ga a d b k e1 e2).2⟩, cv_map ga (b :: d :: r) h.2⟩
end
end CB


end
section

end
section

end
section

end
section

end
section

end
section

end
section

end
section

end
section
set_option Elab.async false
set_option linter.all false
set_option maxRecDepth 100000
set_option maxHeartbeats 4000000
namespace CM
open PySem PySem.Spec L2 DL
open CB (F_expanded F_law_take)
noncomputable def g_fraction_b1 : Sv := (sPar 1 2 (aCons (e2 dSub (e2 dMul (eVar 3) (eVar 1)) (eVar 2)) (aCons (eVar 1) aNil)))
noncomputable def g_fraction : Sv := (sSeq (sAsg (gTp (gCs (gNm 1) (gCs (gNm 2) gNl))) (eTup (aCons (eC (.int 1)) (aCons (eC (.int 0)) aNil))))
  (sSeq (sForS (gNm 3) (iRv (aCons (eVar 0) aNil)) g_fraction_b1)
  (sRet (eTup (aCons (eVar 1) (aCons (eVar 2) aNil))))))
noncomputable def F_fraction : List D → Sto → Out D := fnF g_fraction 1 3
noncomputable def g_opposite : Sv := (sSeq (sIf (tv (e2 dEq (eVar 0) (eLst aNil))) (sRet (eLst aNil)) sNil)
  (sSeq (sAsg (gTp (gCs (gNm 1) (gCs (gNm 2) gNl))) (eCall F_fraction (aCons (eVar 0) aNil)))
  (sRet (eCall F_expanded (aCons (eVar 1) (aCons (e2 dSub (eVar 1) (eVar 2)) aNil))))))
noncomputable def F_opposite : List D → Sto → Out D := fnF g_opposite 1 2
noncomputable def g_law_numbers : Sv := (sSeq (sIf (tv (e2 dEq (eCall F_law_take (aCons (eVar 0) (aCons (eC (.int 16)) aNil))) (eC (.int 11)))) (sSeq (sAsg (gNm 1) (e2 dAdd (eC (.int 1)) (eCall F_law_take (aCons (eVar 0) (aCons (eC (.int 1900)) aNil)))))
  (sSeq (sAsg (gNm 2) (e2 dIx (eLst (aCons (eLst (aCons (e2 dAdd (eVar 1) (eC (.int 1))) aNil)) (aCons (e2 dRep (eLst (aCons (eC (.int 2)) aNil)) (eVar 1)) aNil))) (eCall F_law_take (aCons (eVar 0) (aCons (eC (.int 2)) aNil)))))
  (sSeq (sIf (tv (e2 dEq (eCall F_law_take (aCons (eVar 0) (aCons (eC (.int 3)) aNil))) (eC (.int 1)))) (sPut (eVar 2) (eCall F_law_take (aCons (eVar 0) (aCons (eCall bLen (aCons (eVar 2) aNil)) aNil))) (eC (.int 3))) sNil)
  (sRet (eVar 2))))) sNil)
  (sSeq (sIf (tv (e2 dEq (eCall F_law_take (aCons (eVar 0) (aCons (eC (.int 8)) aNil))) (eC (.int 5)))) (sSeq (sAsg (gNm 1) (e2 dAdd (eC (.int 1)) (eCall F_law_take (aCons (eVar 0) (aCons (eC (.int 24)) aNil)))))
  (sRet (eComp (iR1 (aCons (eVar 1) aNil)) 1 [0] (gNm 0) (fun _ M => .ok true M) (e2 dAdd (eC (.int 2)) (eCall bInt (aCons (e2 dEq (eCall F_law_take (aCons (eVar 1) (aCons (eC (.int 8)) aNil))) (eC (.int 0))) aNil)))))) sNil)
  (sSeq (sAsg (gNm 1) (e2 dAdd (eC (.int 1)) (eCall F_law_take (aCons (eVar 0) (aCons (eC (.int 8)) aNil)))))
  (sRet (eComp (iR1 (aCons (eVar 1) aNil)) 1 [0] (gNm 0) (fun _ M => .ok true M) (e2 dAdd (eC (.int 2)) (eCall F_law_take (aCons (eVar 1) (aCons (eC (.int 8)) aNil)))))))))
noncomputable def F_law_numbers : List D → Sto → Out D := fnF g_law_numbers 1 2
noncomputable def g_law_columns_b1 : Sv := (sPutD (eVar 1) (e2 dAdd (eVar 2) (eVar 4)) (e2 dAdd (eGet2 (eVar 1) (e2 dAdd (eVar 2) (eVar 4)) (eC (.int 0))) (eC (.int 1))))
noncomputable def g_law_columns_b2 : Sv := (sSeq (sForR1 (gNm 4) (aCons (e2 dSub (eVar 3) (eC (.int 1))) aNil) g_law_columns_b1)
  (sAsg (gNm 2) (e2 dSub (e2 dAdd (eVar 2) (eVar 3)) (eC (.int 2)))))
noncomputable def g_law_columns : Sv := (sSeq (sAsg (gNm 1) eDnK)
  (sSeq (sAsg (gNm 2) (eC (.int 0)))
  (sSeq (sFor (gNm 3) (eVar 0) g_law_columns_b2)
  (sRet (eComp (iR1 (aCons (eCall bLenD (aCons (eVar 1) aNil)) aNil)) 1 [1] (gNm 0) (fun _ M => .ok true M) (e2 dAdd (eC (.int 1)) (e2 dIxD (eVar 1) (eVar 0))))))))
noncomputable def F_law_columns : List D → Sto → Out D := fnF g_law_columns 1 4
end CM


end
section
set_option Elab.async false
set_option linter.all false
set_option maxRecDepth 100000
set_option maxHeartbeats 4000000
namespace CM
open PySem PySem.Spec L2 DL
open CB (Bd Wg Fb btw take_w)
open CV
theorem e_take : CB.F_law_take = CB.F_law_take := rfl
noncomputable def fr : List Int → Int × Int
  | [] => (1, 0)
  | a :: r => (a * (fr r).1 - (fr r).2, (fr r).1)
theorem fr_pos : ∀ {L : List Int}, (∀ k ∈ L, 2 ≤ k) → 0 ≤ (fr L).2 ∧ (fr L).2 < (fr L).1
  | [], _ => by simp [fr]
  | a :: r, h => by
    have ih := fr_pos (L := r) fun k hk => h k (by simp [hk])
    have ha := h a (by simp)
    simp only [fr]
    have : 2 * (fr r).1 ≤ a * (fr r).1 := Int.mul_le_mul_of_nonneg_right ha (by omega)
    omega
theorem hj_fr : ∀ {L : List Int}, (∀ k ∈ L, 2 ≤ k) → hj (fr L).1 (fr L).2 = L
  | [], _ => by simp only [fr]; rw [hj, dif_neg (by omega)]
  | a :: r, h => by
    have hr : ∀ k ∈ r, 2 ≤ k := fun k hk => h k (by simp [hk])
    have p := fr_pos hr
    have ih := hj_fr hr
    simp only [fr]
    rw [hj, dif_pos (by omega)]
    have e : -((-(a * (fr r).1 - (fr r).2)) / (fr r).1) = a := by
      rw [show -(a * (fr r).1 - (fr r).2) = (fr r).2 + -a * (fr r).1 by rw [Int.neg_mul]; omega, Int.add_mul_ediv_right _ _ (by omega), Int.ediv_eq_zero_of_lt p.1 p.2]
      omega
    rw [e, show a * (fr r).1 - (a * (fr r).1 - (fr r).2) = (fr r).2 by omega, ih]
theorem fr_hj : ∀ (n : Nat) (t b : Int), b.toNat = n → 0 ≤ b → b < t → Int.gcd t b = 1 → fr (hj t b) = (t, b) := by
  intro n
  induction n using Nat.strongRecOn with
  | ind n ih =>
    intro t b hb h0 ht hg
    rw [hj]
    by_cases h : 0 < b
    · rw [dif_pos h]
      have nx := hj_next (t := t) h
      have hg' : Int.gcd b (-((-t) / b) * b - t) = 1 := by
        rw [← hg]
        generalize -((-t) / b) = k
        rw [show k * b - t = -(t - k * b) by omega, Int.gcd_neg, Int.gcd_sub_mul_right_right, Int.gcd_comm]
      have := ih (-((-t) / b) * b - t).toNat (by omega) b _ rfl nx.1 nx.2 hg'
      simp only [fr, this]
      congr 1
      omega
    · rw [dif_neg h]
      have b0 : b = 0 := by omega
      subst b0
      simp at hg
      simp only [fr]
      congr 1
      omega
theorem fr_le {B : Int} (hB : 1 ≤ B) : ∀ {L : List Int}, (∀ k ∈ L, 2 ≤ k ∧ k ≤ B) → (fr L).1 ≤ B ^ L.length
  | [], _ => by simp [fr]
  | a :: r, h => by
    have hr : ∀ k ∈ r, 2 ≤ k ∧ k ≤ B := fun k hk => h k (by simp [hk])
    have ih := fr_le hB hr
    have p := fr_pos fun k hk => (hr k hk).1
    have ha := h a (by simp)
    simp only [fr, List.length_cons]
    have : a * (fr r).1 ≤ B * B ^ r.length := Int.mul_le_mul ha.2 ih (by omega) (by omega)
    rw [Int.pow_succ, Int.mul_comm (B ^ r.length)]
    omega
noncomputable def twos : List Int → Bool → Prop
  | [], t => t = false
  | a :: r, t => (a = 2 ∧ twos r t) ∨ (a = 3 ∧ t = true ∧ twos r false)
theorem twos_le : ∀ {L : List Int} {t : Bool}, twos L t → 0 < (fr L).1 - (fr L).2 ∧ 0 ≤ (fr L).2 ∧ (t = false → (fr L).1 - (fr L).2 = 1 ∧ (fr L).1 = L.length + 1) ∧ (fr L).1 - (fr L).2 ≤ L.length + 1 ∧ (fr L).1 ≤ (L.length + 1) * (L.length + 1)
  | [], t, h => by simp [fr]
  | a :: r, t, h => by
    have hm : ((r.length : Int) + 1 + 1) * (r.length + 1 + 1) = (r.length + 1) * (r.length + 1) + 2 * r.length + 3 := by grind
    simp only [fr, List.length_cons, Int.natCast_add, Int.natCast_one]
    rw [hm]
    rcases h with ⟨rfl, h⟩ | ⟨rfl, rfl, h⟩
    · obtain ⟨h1, h2, h3, h4, h5⟩ := twos_le h
      refine ⟨by omega, by omega, fun z => ?_, by omega, by omega⟩
      have := h3 z
      omega
    · obtain ⟨h1, h2, h3, h4, h5⟩ := twos_le h
      have := h3 rfl
      refine ⟨by omega, by omega, fun z => (nomatch z), by omega, by omega⟩
theorem twos_rep : ∀ n : Nat, twos (List.replicate n 2) false
  | 0 => rfl
  | n + 1 => .inl ⟨rfl, twos_rep n⟩
theorem twos_set : ∀ (n i : Nat), i < n → twos ((List.replicate n 2).set i 3) true
  | n + 1, 0, _ => .inr ⟨rfl, rfl, twos_rep n⟩
  | n + 1, i + 1, h => .inl ⟨rfl, twos_set n i (by omega)⟩
section
variable {Q : D → Sto → Prop} {E : Str → Sto → Prop} {M : Sto} {n m : Nat} {L : List Int}
theorem expanded_l {t b : Int} (hb : 0 ≤ b) (hl : b < 4611686018427387904) (hn : (hj t b).length ≤ 90000) (q : Q (.ref M.length) (M ++ [.lst (nts (hj t b))])) : wO (CB.F_expanded [.int t, .int b] M) Q E := by
  simp! [CB.F_expanded, CB.g_expanded]
  refine wS_wh (fun k ρ M' => ∃ (t' b' : Int) (xs : List Int) (x : Option D), ρ = [some (.int t'), some (.int b'), some (.ref M.length), x] ∧ M' = M ++ [.lst (nts xs)] ∧ 0 ≤ b' ∧ b' < 4611686018427387904 ∧ k = b'.toNat ∧ xs ++ hj t' b' = hj t b) ?_ b.toNat _ _ ⟨t, b, [], _, rfl, rfl, hb, hl, rfl, rfl⟩
  rintro k ρ M' ⟨t', b', xs, x, rfl, rfl, h0, h1, rfl, e⟩
  simp! [wO_ok]
  refine kWh_n (fun hl0 => ?_) (fun hl0 => ?_)
  · have n1 := hj_next (t := t') (show 0 < b' by omega)
    have lx : xs.length ≤ 90000 := by rw [← e, List.length_append] at hn; omega
    simp! [CB.g_expanded_b1]
    refine ⟨by omega, (-(-t' / b') * b' - t').toNat, by omega, _, _, xs ++ [-(-t' / b')], _, rfl, rfl, n1.1, by omega, rfl, ?_⟩
    rw [← e]
    conv => rhs; rw [hj, dif_pos (show 0 < b' by omega)]
    simp
  · subst hl0
    simp! [wO_ok]
    have : hj t' 0 = [] := by rw [hj, dif_neg (by omega)]
    rw [this, List.append_nil] at e
    rw [e]
    exact q
theorem fr_drop {i : Nat} (h : i < L.length) : fr (L.drop (L.length - (i + 1))) = (L[L.length - 1 - i] * (fr (L.drop (L.length - i))).1 - (fr (L.drop (L.length - i))).2, (fr (L.drop (L.length - i))).1) := by
  have e : L.drop (L.length - (i + 1)) = L[L.length - 1 - i] :: L.drop (L.length - i) := by
    rw [List.drop_eq_getElem_cons (by omega)]
    congr 1
    · congr 1; omega
    · congr 1; omega
  rw [e, fr]
theorem fraction_w (h : M[n]? = some (.lst (nts L))) (hb : ∀ k ∈ L, 2 ≤ k ∧ k ≤ 100000) : wO (F_fraction [.ref n] M) Q E = Q (pr (fr L).1 (fr L).2) M := by
  have key : wO (F_fraction [.ref n] M) (fun d M' => d = pr (fr L).1 (fr L).2 ∧ M' = M) (fun _ _ => False) := by
    simp! [F_fraction, g_fraction, h]
    have := wS_rev (n := n) (xs := nts L) (ρ := [some (.ref n), some (.int 1), some (.int 0), none]) (M := M) (tg := gNm 3) (bd := g_fraction_b1) (N := kSq (sRet (eTup (aCons (eVar 1) (aCons (eVar 2) aNil)))) (kNon fun d M' => d = pr (fr L).1 (fr L).2 ∧ M' = M) (fun d M' => d = pr (fr L).1 (fr L).2 ∧ M' = M) (fun _ _ => False) (fun _ _ => False) (fun _ _ => False)) (R := fun d M' => d = pr (fr L).1 (fr L).2 ∧ M' = M) (B := fun _ _ => False) (C := fun _ _ => False) (E := fun _ _ => False) (fun i ρ M' => M' = M ∧ ∃ x, ρ = [some (.ref n), some (.int (fr (L.drop (L.length - i))).1), some (.int (fr (L.drop (L.length - i))).2), x]) ⟨rfl, _, by simp [fr]; rfl⟩ (fun i ρ M' hI => by rw [hI.1]; exact h) ?_ ?_
    · rw [nts_len] at this
      exact this
    · rintro i ρ _ hi ⟨rfl, x, rfl⟩
      rw [CN.nts_get]
      have hi' := hi
      rw [nts_len] at hi
      have e : cn L (((nts L).length - 1 - i : Nat) : Int) = L[L.length - 1 - i] := by rw [cn_nat (by rw [nts_len]; omega)]; simp [nts_len]
      rw [e]
      have bd := hb _ (List.getElem_mem (show L.length - 1 - i < L.length by omega))
      have f := fr_drop hi
      simp! [g_fraction_b1]
      refine ⟨some (.int L[L.length - 1 - i]), ?_⟩
      rw [f]
    · rintro ρ _ ⟨rfl, x, rfl⟩
      simp! [nts_len]
      simp
  obtain ⟨d, M', e, rfl, rfl⟩ := wO_get key
  rw [e]; rfl
structure Dr (L : List Int) : Prop where
  ne : L ≠ []
  two : ∀ k ∈ L, 2 ≤ k ∧ k ≤ 100000
  len : L.length ≤ 90000
  top : (fr L).1 < 4611686018427387904
  sum : L.sum ≤ 90000
theorem sum_le {B : Int} : ∀ {L : List Int}, (∀ k ∈ L, k ≤ B) → L.sum ≤ B * L.length
  | [], _ => by simp
  | a :: L, h => by
    have := sum_le (L := L) fun k hk => h k (List.mem_cons_of_mem _ hk)
    have := h a (by simp)
    rw [List.sum_cons, List.length_cons]
    have e : B * ((L.length + 1 : Nat) : Int) = B * L.length + B := by rw [Int.natCast_add, Int.mul_add]; simp
    omega
theorem Dr.of {L : List Int} {B : Int} (hn : L ≠ []) (hB : 1 ≤ B ∧ B ≤ 9) (h : ∀ k ∈ L, 2 ≤ k ∧ k ≤ B) (hl : L.length ≤ 24) (ht : B ^ L.length < 4611686018427387904) : Dr L :=
  ⟨hn, fun k hk => by have := h k hk; omega, by omega, by have := fr_le hB.1 h; omega, by
    have h9 := sum_le (B := 9) fun k hk => Int.le_trans (h k hk).2 hB.2
    omega⟩
noncomputable def NI (n : Nat) (M : Sto) (B : Int) (i : Nat) (ρ : Ro) (M' : Sto) : Prop := (∃ x, ρ = [x, some (.ref n)]) ∧ ∃ L : List Int, L.length = i ∧ (∀ k ∈ L, 2 ≤ k ∧ k ≤ B) ∧ M'[M.length]? = some (.lst (nts L)) ∧ Gr n M M'
theorem draws_w {f : Ev} {B : Int} {ρ : Ro} {many : Nat} (hb : Bag n M) (hm : many ≤ 1000) (hρ : ρ[0]? = some (some (.ref n))) (hf : ∀ (x : D) M', Bag n M' → wO (f [some x, some (.ref n)] M') (fun y M2 => ∃ k, y = .int k ∧ 2 ≤ k ∧ k ≤ B ∧ Gr n M' M2) (fun _ _ => False))
    (q : ∀ L M', L.length = many → (∀ k ∈ L, 2 ≤ k ∧ k ≤ B) → M'[M.length]? = some (.lst (nts L)) → Gr n M M' → Q (.ref M.length) M') : kCo (gNm 0) (fun _ M => .ok true M) f 1 [0] ρ Q (.pur (rngD 0 many)) M := by
  have hn := hb.lt
  refine wO_cmp (xs := rngD 0 many) (Q := fun M2 => Q (.ref M.length) M2) (NI n M B) _ 0 _ _ (by simp) (by simp [cnt]) ⟨⟨none, by simp [roB, hρ]⟩, [], rfl, by simp, by simp [nts], Gr.app hb _⟩ (fun i ρ M' hi hI => rfl) ?_ ?_
  · rintro i ρ M2 hi ⟨⟨x, rfl⟩, L, e, ha, hr, gr⟩
    rw [rng_len] at hi
    rw [rng_get]
    simp! [wO_ok]
    show Br true _ _
    rw [Br_t]
    refine wO_mono (hf _ M2 gr.bag) ?_ (fun _ _ z => z)
    rintro y M3 ⟨k, rfl, k0, k1, g3⟩
    have r3 := CA.Gr.up hr g3 (by omega)
    have l3 := lt_get r3
    rw [r3]
    refine ⟨by rw [nts_len]; omega, ⟨_, rfl⟩, L ++ [k], by simp [e], ?_, ?_, ?_⟩
    · intro z hz
      rcases List.mem_append.mp hz with h | h
      · exact ha z h
      · simp at h; subst h; exact ⟨k0, k1⟩
    · rw [List.getElem?_set_self l3, nts_snoc]
    · obtain ⟨l, bg, kp⟩ := gr.trans g3
      refine ⟨by rw [List.length_set]; exact l, ?_, fun k hk hkl => ?_⟩
      · obtain ⟨a, b, h, hx⟩ := bg
        exact ⟨a, b, h, by rw [List.getElem?_set_ne (by omega)]; exact hx⟩
      · rw [List.getElem?_set_ne (by omega)]
        exact kp k hk hkl
  · rintro ρ M2 ⟨⟨x, rfl⟩, L, e, ha, hr, gr⟩
    rw [rng_len] at e
    exact q L M2 e ha hr gr
theorem pow3 {n : Nat} (h : n ≤ 24) : (3 : Int) ^ n < 4611686018427387904 := by
  have : (3 : Nat) ^ n ≤ 3 ^ 24 := Nat.pow_le_pow_right (by decide) h
  have e : ((3 : Nat) ^ n : Nat) = (3 : Int) ^ n := by simp
  have : ((3 : Nat) ^ 24 : Nat) < 4611686018427387904 := by decide
  omega
theorem pow9 {n : Nat} (h : n ≤ 8) : (9 : Int) ^ n < 4611686018427387904 := by
  have : (9 : Nat) ^ n ≤ 9 ^ 8 := Nat.pow_le_pow_right (by decide) h
  have e : ((9 : Nat) ^ n : Nat) = (9 : Int) ^ n := by simp
  have : ((9 : Nat) ^ 8 : Nat) < 4611686018427387904 := by decide
  omega
theorem rep_two {n : Nat} : (List.replicate n [D.int 2]).flatten = nts (List.replicate n 2) := by
  induction n with
  | zero => rfl
  | succ n ih =>
    rw [List.replicate_succ, List.flatten_cons, ih]
    rfl
theorem dr_twos {L : List Int} {t : Bool} (h : twos L t) (hn : L ≠ []) (hl : L.length ≤ 2000) : Dr L := by
  have a := twos_le h
  have t3 : ∀ {L : List Int} {t : Bool}, twos L t → ∀ k ∈ L, k ≤ 3 := by
    intro L
    induction L with
    | nil => intro t h k hk; simp at hk
    | cons a r ih =>
      intro t h k hk
      rcases h with ⟨rfl, h⟩ | ⟨rfl, rfl, h⟩
      · rcases List.mem_cons.mp hk with rfl | hk
        · omega
        · exact ih h k hk
      · rcases List.mem_cons.mp hk with rfl | hk
        · omega
        · exact ih h k hk
  refine ⟨hn, ?_, by omega, ?_, by have := sum_le (B := 3) (t3 h); omega⟩
  · have : ∀ {L : List Int} {t : Bool}, twos L t → ∀ k ∈ L, 2 ≤ k ∧ k ≤ 100000 := by
      intro L
      induction L with
      | nil => intro t h k hk; simp at hk
      | cons a r ih =>
        intro t h k hk
        rcases h with ⟨rfl, h⟩ | ⟨rfl, rfl, h⟩
        · rcases List.mem_cons.mp hk with rfl | hk
          · omega
          · exact ih h k hk
        · rcases List.mem_cons.mp hk with rfl | hk
          · omega
          · exact ih h k hk
    exact this h
  · have : ((L.length : Int) + 1) * (L.length + 1) ≤ 2001 * 2001 := Int.mul_le_mul (by omega) (by omega) (by omega) (by omega)
    omega
theorem numbers_w (hb : Bag n M) (q : ∀ L m M', Dr L → M.length ≤ m → M'[m]? = some (.lst (nts L)) → Gr n M M' → Q (.ref m) M') : wO (F_law_numbers [.ref n] M) Q E := by
  have hn := hb.lt
  simp! [F_law_numbers, g_law_numbers, e_take]
  refine take_w hb (by decide) fun a M1 a0 a1 g1 => ?_
  simp! [wO_ok]
  refine brS (fun z => ?_) (fun z => ?_)
  · simp! [e_take]
    refine take_w g1.bag (by decide) fun b M2 b0 b1 g2 => ?_
    have G2 := g1.trans g2
    have gl := G2.len
    obtain ⟨k, hk⟩ : ∃ k : Nat, 1 + b = k := ⟨(1 + b).toNat, by omega⟩
    simp! [wO_ok]
    rw [hk]
    refine ⟨by omega, ?_⟩
    rw [show ((k : Int)).toNat = k by omega, rep_two]
    have B2 := G2.bag
    refine take_w (B2.app _) (by decide) fun c M3 c0 c1 g3 => ?_
    have G3 : Gr n M M3 := G2.trans ((Gr.app B2 _).trans g3)
    have o3 : ∀ j : Nat, j < 4 → M3[M2.length + j]? = ([SO.lst [D.int (k + 1)], SO.lst [D.int 2], SO.lst (nts (List.replicate k 2)), SO.lst [D.ref M2.length, D.ref (M2.length + 2)]] : Sto)[j]? := fun j hj => by
      rw [g3.keep _ (by have := B2.lt; omega) (by simp; omega), s_at]
    have n2 := B2.lt
    obtain ⟨ml, L0, hi, hm, d0, ds, lo⟩ : ∃ (ml : Nat) (L0 : List Int), atI [D.ref M2.length, D.ref (M2.length + 2)] c = some (.ref ml) ∧ M3[ml]? = some (.lst (nts L0)) ∧ Dr L0 ∧ (∀ i, i < L0.length → Dr (L0.set i 3)) ∧ M.length ≤ ml := by
      have : c = 0 ∨ c = 1 := by omega
      rcases this with rfl | rfl
      · refine ⟨M2.length, [(k : Int) + 1], rfl, by have := o3 0 (by decide); simpa [nts] using this, ?_, ?_, by omega⟩
        · refine ⟨by simp, ?_, by simp, ?_, by simp; omega⟩
          · intro z hz; simp at hz; omega
          · simp only [fr]; omega
        · intro i hi
          simp at hi
          subst hi
          refine ⟨by simp, ?_, by simp, ?_, by simp⟩
          · intro z hz; simp at hz; omega
          · simp only [List.set_cons_zero, fr]; omega
      · refine ⟨M2.length + 2, List.replicate k 2, rfl, by have := o3 2 (by decide); simpa using this, ?_, ?_, by omega⟩
        · exact dr_twos (twos_rep k) (by simp; omega) (by simp; omega)
        · intro i hi
          simp at hi
          exact dr_twos (twos_set k i hi) (by simp; omega) (by simp; omega)
    have nl : ml ≠ n := by omega
    simp! [o3 3 (by decide), hi, e_take]
    refine take_w g3.bag (by decide) fun d M4 d0' d1 g4 => ?_
    have r4 := CA.Gr.up hm g4 nl
    have G4 := G3.trans g4
    simp! [wO_ok]
    refine midS (fun ρ M' => ρ = [some (.ref n), some (.int k), some (.ref ml)] ∧ ∃ L, Dr L ∧ M'[ml]? = some (.lst (nts L)) ∧ Gr n M M') ?_ ?_
    · refine brS (fun z => ?_) (fun z => ?_)
      · simp! [r4, nts_len, e_take]
        have ln : 0 < L0.length := List.length_pos_iff.mpr d0.ne
        have := d0.len
        refine take_w g4.bag (by omega) fun e M5 e0 e1 g5 => ?_
        have r5 := CA.Gr.up r4 g5 nl
        have l5 := lt_get r5
        obtain ⟨e, rfl⟩ : ∃ k : Nat, e = k := ⟨e.toNat, by omega⟩
        simp! [r5, nts_len, ixN_nat]
        refine ⟨_, ds e (by omega), rfl, ?_⟩
        obtain ⟨l, bg, kp⟩ := G4.trans g5
        refine ⟨by rw [List.length_set]; exact l, ?_, fun k hk hkl => ?_⟩
        · obtain ⟨a, b, h, hx⟩ := bg
          exact ⟨a, b, h, by rw [List.getElem?_set_ne nl]; exact hx⟩
        · rw [List.getElem?_set_ne (by omega)]
          exact kp k hk hkl
      · simp! [wO_ok]
        exact ⟨_, d0, r4, G4⟩
    rintro _ M5 ⟨rfl, L, dL, rL, gL⟩
    simp! [wO_ok]
    exact q L ml M5 dL lo rL gL
  · simp! [e_take]
    refine take_w g1.bag (by decide) fun b M2 b0 b1 g2 => ?_
    have G2 := g1.trans g2
    simp! [wO_ok]
    refine brS (fun z => ?_) (fun z => ?_)
    · simp! [e_take]
      refine take_w g2.bag (by decide) fun c M3 c0 c1 g3 => ?_
      have G3 := G2.trans g3
      have gl := G3.len
      obtain ⟨k, hk⟩ : ∃ k : Nat, 1 + c = k := ⟨(1 + c).toNat, by omega⟩
      simp! [wO_ok]
      rw [hk]
      refine ⟨by omega, ?_⟩
      rw [show ((k : Int)).toNat = k by omega]
      refine draws_w (B := 3) g3.bag (by omega) rfl (fun x M' hB => ?_) (fun L M' e ha hr g => ?_)
      · simp! [e_take]
        refine take_w hB (by decide) fun d M4 d0 d1 g4 => ?_
        simp! [wO_ok]
        refine ⟨_, rfl, ?_, ?_, g4⟩ <;> split <;> omega
      · exact q L _ _ (Dr.of (B := 3) (by intro z; rw [z] at e; simp at e; omega) (by decide) ha (by omega) (pow3 (by omega))) gl hr (G3.trans g)
    · simp! [e_take]
      refine take_w g2.bag (by decide) fun c M3 c0 c1 g3 => ?_
      have G3 := G2.trans g3
      have gl := G3.len
      obtain ⟨k, hk⟩ : ∃ k : Nat, 1 + c = k := ⟨(1 + c).toNat, by omega⟩
      simp! [wO_ok]
      rw [hk]
      refine ⟨by omega, ?_⟩
      rw [show ((k : Int)).toNat = k by omega]
      refine draws_w (B := 9) g3.bag (by omega) rfl (fun x M' hB => ?_) (fun L M' e ha hr g => ?_)
      · simp! [e_take]
        refine take_w hB (by decide) fun d M4 d0 d1 g4 => ?_
        simp! [wO_ok]
        exact ⟨_, rfl, by omega, by omega, g4⟩
      · exact q L _ _ (Dr.of (B := 9) (by intro z; rw [z] at e; simp at e; omega) (by decide) ha (by omega) (pow9 (by omega))) gl hr (G3.trans g)
theorem gcd_row {u v w : Pt} (h : Wg u v) (hw : Fb u v w) : Int.gcd (X u v) (X w v) = 1 := by
  have o := hw.one
  have g := h.gv
  have e1 : v.1 = X u v * w.1 - X w v * u.1 := by unfold X at *; grind
  have e2 : v.2 = X u v * w.2 - X w v * u.2 := by unfold X at *; grind
  have d1 : ((Int.gcd (X u v) (X w v) : Nat) : Int) ∣ X u v := Int.gcd_dvd_left _ _
  have d2 : ((Int.gcd (X u v) (X w v) : Nat) : Int) ∣ X w v := Int.gcd_dvd_right _ _
  have f1 : ((Int.gcd (X u v) (X w v) : Nat) : Int) ∣ v.1 := by rw [e1]; exact Int.dvd_sub (Int.dvd_mul_of_dvd_left d1) (Int.dvd_mul_of_dvd_left d2)
  have f2 : ((Int.gcd (X u v) (X w v) : Nat) : Int) ∣ v.2 := by rw [e2]; exact Int.dvd_sub (Int.dvd_mul_of_dvd_left d1) (Int.dvd_mul_of_dvd_left d2)
  have := Int.dvd_coe_gcd f1 f2
  rw [g] at this
  exact Nat.eq_one_of_dvd_one (Int.natCast_dvd_natCast.mp this)
end
end CM


end
section
set_option Elab.async false
set_option linter.all false
set_option maxRecDepth 100000
set_option maxHeartbeats 4000000
namespace CM
open DL
noncomputable def addF (x : Int) : List Int → List Int
  | [] => [x]
  | c :: cs => (x + c) :: cs
noncomputable def col : List Int → List Int
  | [] => []
  | a :: r => List.replicate (a - 2).toNat 1 ++ addF 1 (col r)
noncomputable def du (L : List Int) : List Int := (col L).map (1 + ·)
noncomputable def inc : List Int → List Int
  | [] => [2]
  | c :: cs => (c + 1) :: cs
theorem addF_add (x y : Int) : ∀ L : List Int, addF x (addF y L) = addF (x + y) L
  | [] => rfl
  | c :: cs => by simp only [addF]; congr 1; omega
theorem du_cons (a : Int) (r : List Int) : du (a :: r) = List.replicate (a - 2).toNat 2 ++ inc (du r) := by
  unfold du
  rw [col, List.map_append, List.map_replicate]
  congr 1
  cases col r with
  | nil => rfl
  | cons c cs => simp [addF, inc]; omega
theorem du_three {a : Int} {r : List Int} (h : 3 ≤ a) : du (a :: r) = 2 :: du ((a - 1) :: r) := by
  rw [du_cons, du_cons, show (a - 2).toNat = (a - 1 - 2).toNat + 1 by omega, List.replicate_succ]
  rfl
theorem ceil1 {t b k c : Int} (hb : 0 < b) (h0 : 0 ≤ c) (h1 : c < b) (e : t + c = k * b) : -((-t) / b) = k := CB.ceil_eq hb h0 h1 e
theorem hj_cons {t b k c : Int} (hb : 0 < b) (h0 : 0 ≤ c) (h1 : c < b) (e : t + c = k * b) : hj t b = k :: hj b c := by
  rw [hj, dif_pos hb, ceil1 hb h0 h1 e]
  congr 2
  omega
theorem hj_du : ∀ {L : List Int}, L ≠ [] → (∀ k ∈ L, 2 ≤ k) → hj (fr L).1 ((fr L).1 - (fr L).2) = du L := by
  intro L
  induction L with
  | nil => intro h; exact absurd rfl h
  | cons a r ih =>
    intro _ h2
    have hr : ∀ k ∈ r, 2 ≤ k := fun k hk => h2 k (List.mem_cons_of_mem _ hk)
    have ha := h2 a (by simp)
    have fp := fr_pos hr
    have ih' : r ≠ [] → hj (fr r).1 ((fr r).1 - (fr r).2) = du r := fun z => ih z hr
    have main : ∀ (n : Nat) (a : Int), 2 ≤ a → (a - 2).toNat = n → hj (a * (fr r).1 - (fr r).2) (a * (fr r).1 - (fr r).2 - (fr r).1) = du (a :: r) := by
      intro n
      induction n with
      | zero =>
        intro a h2 e
        have a2 : a = 2 := by omega
        subst a2
        rw [show 2 * (fr r).1 - (fr r).2 - (fr r).1 = (fr r).1 - (fr r).2 by omega, du_cons]
        show _ = [] ++ inc (du r)
        rw [List.nil_append]
        by_cases z : r = []
        · subst z
          show hj (2 * 1 - 0) (1 - 0) = inc (du [])
          rw [hj_cons (t := 2 * 1 - 0) (b := 1 - 0) (k := 2) (c := 0) (by decide) (by decide) (by decide) (by decide)]
          rw [hj, dif_neg (by decide)]
          rfl
        · have i1 := ih' z
          have b0 : 0 < (fr r).1 - (fr r).2 := by omega
          have nx := hj_next (t := (fr r).1) b0
          rw [hj, dif_pos b0] at i1
          generalize hk : -((-(fr r).1) / ((fr r).1 - (fr r).2)) = k at *
          rw [← i1, hj_cons (k := k + 1) (c := k * ((fr r).1 - (fr r).2) - (fr r).1) b0 nx.1 nx.2 (by
            rw [Int.add_mul]
            omega)]
          rfl
      | succ n ihn =>
        intro a h2 e
        rw [du_three (by omega), ← ihn (a - 1) (by omega) (by omega)]
        have e1 : (a - 1) * (fr r).1 - (fr r).2 = a * (fr r).1 - (fr r).2 - (fr r).1 := by rw [Int.sub_mul]; omega
        rw [e1]
        have p1 : 3 * (fr r).1 ≤ a * (fr r).1 := Int.mul_le_mul_of_nonneg_right (by omega) (by omega)
        exact hj_cons (by omega) (by omega) (by omega) (by omega)
    exact main _ a ha rfl
theorem col_len : ∀ {L : List Int}, (∀ k ∈ L, 2 ≤ k) → ((col L).length : Int) ≤ L.sum
  | [], _ => by simp [col]
  | a :: r, h => by
    have := col_len (L := r) fun k hk => h k (List.mem_cons_of_mem _ hk)
    have ha := h a (by simp)
    rw [col, List.length_append, List.length_replicate, List.sum_cons]
    have : (addF 1 (col r)).length ≤ (col r).length + 1 := by cases col r <;> simp [addF]
    omega
theorem col_pos : ∀ {L : List Int}, (∀ k ∈ L, 2 ≤ k) → ∀ c ∈ col L, 1 ≤ c ∧ c ≤ L.length
  | [], _, c, h => by simp [col] at h
  | a :: r, h, c, hc => by
    have ih := col_pos (L := r) fun k hk => h k (List.mem_cons_of_mem _ hk)
    rw [col, List.mem_append] at hc
    rw [List.length_cons]
    rcases hc with hc | hc
    · have := List.eq_of_mem_replicate hc
      omega
    · cases e : col r with
      | nil => rw [e] at hc; simp [addF] at hc; omega
      | cons x xs =>
        rw [e] at hc ih
        simp only [addF, List.mem_cons] at hc
        rcases hc with rfl | hc
        · have := ih x (by simp); omega
        · have := ih c (by simp [hc]); omega
theorem du_two {L : List Int} (h : ∀ k ∈ L, 2 ≤ k) : ∀ k ∈ du L, 2 ≤ k ∧ k ≤ L.length + 1 := by
  intro k hk
  obtain ⟨c, hc, rfl⟩ := List.mem_map.mp hk
  have := col_pos h c hc
  omega
theorem du_ne {L : List Int} (h : L ≠ []) : du L ≠ [] := by
  cases L with
  | nil => exact absurd rfl h
  | cons a r =>
    rw [du_cons]
    intro z
    have := (List.append_eq_nil_iff.mp z).2
    cases e : du r <;> rw [e] at this <;> simp [inc] at this
theorem fr_gcd : ∀ {L : List Int}, Int.gcd (fr L).1 (fr L).2 = 1
  | [] => rfl
  | a :: r => by
    have := fr_gcd (L := r)
    show Int.gcd (a * (fr r).1 - (fr r).2) (fr r).1 = 1
    rw [Int.gcd_comm, show a * (fr r).1 - (fr r).2 = -(fr r).2 + (fr r).1 * a by grind, Int.gcd_add_mul_left_right, Int.gcd_neg]
    exact this
theorem fr_du {L : List Int} (hL : L ≠ []) (h : ∀ k ∈ L, 2 ≤ k) : fr (du L) = ((fr L).1, (fr L).1 - (fr L).2) := by
  have fp := fr_pos h
  have q0 : 0 < (fr L).2 := by
    cases L with
    | nil => exact absurd rfl hL
    | cons a r =>
      have := fr_pos (L := r) fun k hk => h k (List.mem_cons_of_mem _ hk)
      show 0 < (fr r).1
      omega
  rw [← hj_du hL h]
  refine fr_hj _ _ _ rfl (by omega) (by omega) ?_
  have := fr_gcd (L := L)
  rw [show (fr L).1 - (fr L).2 = -(fr L).2 + (fr L).1 * 1 by omega, Int.gcd_add_mul_left_right, Int.gcd_neg]
  exact this
theorem du_du {L : List Int} (hL : L ≠ []) (h : ∀ k ∈ L, 2 ≤ k) : du (du L) = L := by
  rw [← hj_du (du_ne hL) fun k hk => (du_two h k hk).1, fr_du hL h]
  show hj (fr L).1 ((fr L).1 - ((fr L).1 - (fr L).2)) = L
  rw [show (fr L).1 - ((fr L).1 - (fr L).2) = (fr L).2 by omega]
  exact hj_fr h
noncomputable def stp (c : List Int) (k : Int) : List Int := match c.reverse with
  | [] => List.replicate (k - 1).toNat 1
  | x :: r => r.reverse ++ (x + 1) :: List.replicate (k - 2).toNat 1
theorem stp_snoc (p : List Int) (x k : Int) : stp (p ++ [x]) k = p ++ (x + 1) :: List.replicate (k - 2).toNat 1 := by
  unfold stp
  rw [List.reverse_append]
  simp
theorem fold_stp : ∀ {L : List Int} (p : List Int) (x : Int), (∀ k ∈ L, 2 ≤ k) → L.foldl stp (p ++ [x]) = p ++ addF x (col L)
  | [], p, x, _ => rfl
  | a :: r, p, x, h => by
    have hr : ∀ k ∈ r, 2 ≤ k := fun k hk => h k (List.mem_cons_of_mem _ hk)
    have ha := h a (by simp)
    rw [List.foldl_cons, stp_snoc, col]
    by_cases c : a = 2
    · subst c
      show r.foldl stp (p ++ [x + 1]) = p ++ addF x ([] ++ addF 1 (col r))
      rw [fold_stp p (x + 1) hr, List.nil_append, addF_add]
    · rw [show (a - 2).toNat = (a - 3).toNat + 1 by omega]
      have e1 : p ++ (x + 1) :: List.replicate ((a - 3).toNat + 1) 1 = (p ++ (x + 1) :: List.replicate (a - 3).toNat 1) ++ [1] := by
        rw [List.replicate_succ']
        simp
      rw [e1, fold_stp _ 1 hr, List.replicate_succ]
      simp [addF]
theorem fold_col {L : List Int} (h : ∀ k ∈ L, 2 ≤ k) : L.foldl stp [] = col L := by
  cases L with
  | nil => rfl
  | cons a r =>
    have hr : ∀ k ∈ r, 2 ≤ k := fun k hk => h k (List.mem_cons_of_mem _ hk)
    have ha := h a (by simp)
    rw [List.foldl_cons, col]
    show r.foldl stp (List.replicate (a - 1).toNat 1) = _
    rw [show (a - 1).toNat = (a - 2).toNat + 1 by omega, List.replicate_succ', fold_stp _ 1 hr]
end CM


end
section
set_option Elab.async false
set_option linter.all false
set_option maxRecDepth 100000
set_option maxHeartbeats 4000000
namespace CM
open PySem PySem.Spec L2 DL
open CV
noncomputable def cd (c : List Int) : List D := (List.range c.length).map fun (j : Nat) => D.tup [.int j, .int (c.getD j 0)]
theorem cd_len {c : List Int} : (cd c).length = c.length := by simp [cd]
theorem cd_snoc {c : List Int} {x : Int} : cd (c ++ [x]) = cd c ++ [D.tup [.int c.length, .int x]] := by
  unfold cd
  rw [List.length_append, List.length_singleton, List.range_succ, List.map_append]
  congr 1
  · refine List.map_congr_left fun j hj => ?_
    have := List.mem_range.mp hj
    simp [List.getElem?_append_left this]
  · simp
noncomputable def ent (k : Key) (e : D) : Option D := match e with | .tup [a, v] => if kK a = some k then some v else none | _ => none
theorem val_cons {k : Key} {e : D} {r : List D} : dVal kK k (e :: r) = match ent k e with | some d => some d | none => dVal kK k r := by
  cases e with
  | tup xs =>
    match xs with
    | [] => rfl
    | [a] => rfl
    | [a, v] =>
      show (if kK a = some k then some v else dVal kK k r) = match (if kK a = some k then some v else none) with | some d => some d | none => dVal kK k r
      split <;> rfl
    | a :: b :: c :: t => rfl
  | _ => rfl
theorem val_snoc {k : Key} {a v : D} : ∀ {ds : List D}, dVal kK k (ds ++ [.tup [a, v]]) = match dVal kK k ds with | some d => some d | none => if kK a = some k then some v else none
  | [] => by simp only [List.nil_append, dVal]
  | e :: ds => by
    rw [List.cons_append, val_cons, val_cons, val_snoc]
    cases ent k e <;> rfl
theorem snoc_ind {P : List Int → Prop} (h0 : P []) (hs : ∀ p x, P p → P (p ++ [x])) (c : List Int) : P c := by
  have : ∀ r : List Int, P r.reverse := by
    intro r
    induction r with
    | nil => exact h0
    | cons x r ih => rw [List.reverse_cons]; exact hs _ _ ih
  have h := this c.reverse
  rwa [List.reverse_reverse] at h
theorem val_cd {z : Int} (c : List Int) : dVal kK (.inl z) (cd c) = if 0 ≤ z ∧ z < c.length then some (.int (c.getD z.toNat 0)) else none := by
  induction c using snoc_ind with
  | h0 => simp [cd, dVal]
  | hs p x ih =>
    rw [cd_snoc, val_snoc, ih, List.length_append, List.length_singleton]
    by_cases h : 0 ≤ z ∧ z < p.length
    · rw [if_pos h, if_pos (show 0 ≤ z ∧ z < ((p.length + 1 : Nat) : Int) by omega)]
      simp only
      congr 2
      simp [List.getElem?_append_left (show z.toNat < p.length by omega)]
    · rw [if_neg h]
      simp only [kK, Option.some.injEq, Sum.inl.injEq]
      by_cases e : (p.length : Int) = z
      · rw [if_pos e, if_pos (show 0 ≤ z ∧ z < ((p.length + 1 : Nat) : Int) by omega)]
        subst e
        simp
      · rw [if_neg e, if_neg (show ¬ (0 ≤ z ∧ z < ((p.length + 1 : Nat) : Int)) by omega)]
theorem set_low {z v : Int} (c : List Int) (h : (c.length : Int) ≤ z) : dSet kK (.inl z) (.int v) (cd c) = cd c := by
  induction c using snoc_ind with
  | h0 => rfl
  | hs p x ih =>
    rw [List.length_append, List.length_singleton] at h
    rw [cd_snoc]
    unfold dSet at *
    rw [List.map_append, ih (by omega)]
    congr 1
    simp only [List.map_cons, List.map_nil, kK, Option.some.injEq, Sum.inl.injEq]
    rw [if_neg (by omega)]
theorem put_new {v : Int} (c : List Int) : dPut kK (.inl (c.length : Int)) (.int c.length) (.int v) (cd c) = cd (c ++ [v]) := by
  have hv : ¬ (dVal kK (.inl (c.length : Int)) (cd c)).isSome = true := by
    rw [val_cd, if_neg (show ¬ (0 ≤ (c.length : Int) ∧ (c.length : Int) < c.length) by omega)]
    simp
  unfold dPut
  rw [if_neg hv, cd_snoc]
theorem put_last {v x : Int} (p : List Int) : dPut kK (.inl (p.length : Int)) (.int p.length) (.int v) (cd (p ++ [x])) = cd (p ++ [v]) := by
  have hv : (dVal kK (.inl (p.length : Int)) (cd (p ++ [x]))).isSome = true := by
    rw [val_cd, if_pos (show 0 ≤ (p.length : Int) ∧ (p.length : Int) < ((p ++ [x]).length : Nat) by simp; omega)]
    rfl
  unfold dPut
  rw [if_pos hv, cd_snoc, cd_snoc]
  have := set_low (z := p.length) (v := v) p (Int.le_refl _)
  unfold dSet at *
  rw [List.map_append, this]
  congr 1
  simp [kK]
noncomputable def prt (c : List Int) (j : Nat) : List Int := if j = 0 then c else stp c (j + 1)
noncomputable def atC (c : List Int) : Int := (c.length : Int) - if c = [] then 0 else 1
theorem prt_len {c : List Int} {j : Nat} (hj : 1 ≤ j) : ((prt c j).length : Int) = atC c + j := by
  unfold prt atC
  rw [if_neg (by omega)]
  induction c using snoc_ind with
  | h0 =>
    unfold stp
    simp
  | hs p x _ =>
    rw [stp_snoc]
    simp
    omega
theorem prt_next {c : List Int} {j : Nat} (hj : 1 ≤ j) : prt c (j + 1) = prt c j ++ [1] := by
  unfold prt
  rw [if_neg (by omega), if_neg (by omega)]
  induction c using snoc_ind with
  | h0 =>
    unfold stp
    simp only [List.reverse_nil]
    rw [show ((((j + 1 : Nat) : Int) + 1 - 1)).toNat = j + 1 by omega, show (((j : Int) + 1 - 1)).toNat = j by omega, List.replicate_succ']
  | hs p x _ =>
    rw [stp_snoc, stp_snoc]
    rw [show ((((j + 1 : Nat) : Int) + 1 - 2)).toNat = (((j : Int) + 1 - 2)).toNat + 1 by omega, List.replicate_succ']
    simp
theorem dot_put (c : List Int) (j : Nat) : ∃ v : Int, (dVal kK (.inl (atC c + j)) (cd (prt c j))).getD (.int 0) = .int v ∧ dPut kK (.inl (atC c + j)) (.int (atC c + j)) (.int (v + 1)) (cd (prt c j)) = cd (prt c (j + 1)) := by
  by_cases hj : 1 ≤ j
  · have l := prt_len (c := c) hj
    rw [← l, prt_next hj]
    refine ⟨0, by rw [val_cd, if_neg (by omega)]; rfl, put_new _⟩
  · have j0 : j = 0 := by omega
    subst j0
    induction c using snoc_ind with
    | h0 => exact ⟨0, rfl, rfl⟩
    | hs p x _ =>
      have e : atC (p ++ [x]) + ((0 : Nat) : Int) = p.length := by unfold atC; simp
      rw [e]
      refine ⟨x, ?_, ?_⟩
      · show (dVal kK (.inl (p.length : Int)) (cd (p ++ [x]))).getD (.int 0) = .int x
        rw [val_cd, if_pos (by simp; omega)]
        simp
      · show dPut kK (.inl (p.length : Int)) (.int p.length) (.int (x + 1)) (cd (p ++ [x])) = cd (stp (p ++ [x]) 2)
        rw [put_last, stp_snoc]
        rfl
section
variable {Q : D → Sto → Prop} {E : Str → Sto → Prop} {M : Sto} {n m : Nat} {L : List Int}
theorem b1_eq {l : Nat} {at' num dot : Int} {c : List Int} {j : Nat} (h : M[n]? = some (.lst (cd (prt c j)))) (e : at' = atC c) (ed : dot = j) (hl : (prt c j).length < 10000000) :
    g_law_columns_b1 [some (.ref l), some (.dk n), some (.int at'), some (.int num), some (.int dot)] M = .nx [some (.ref l), some (.dk n), some (.int at'), some (.int num), some (.int dot)] (M.set n (.lst (cd (prt c (j + 1))))) := by
  subst e ed
  obtain ⟨v, h1, h2⟩ := dot_put c j
  have g : dGetD M (.dk n) (.int (atC c + j)) = some (dVal kK (.inl (atC c + j)) (cd (prt c j))) := by simp [dGetD, kK, h]
  have p : putD M (.dk n) (.int (atC c + j)) (.int (v + 1)) = some (M.set n (.lst (cd (prt c (j + 1))))) := by
    simp only [putD, kK, h]
    rw [if_pos (by rw [cd_len]; exact hl), h2]
  have gv : wO (eGet2 (eVar 1) (e2 dAdd (eVar 2) (eVar 4)) (eC (.int 0)) [some (.ref l), some (.dk n), some (.int (atC c)), some (.int num), some (.int j)] M) (fun d M' => d = .int v ∧ M' = M) (fun _ _ => False) := by
    simp [eGet2, eVar, e2, dAdd, eC, Out.bind, g, h1, wO]
  obtain ⟨d, M', e1, rfl, rfl⟩ := wO_get gv
  unfold g_law_columns_b1 sPutD
  rw [show e2 dAdd (eGet2 (eVar 1) (e2 dAdd (eVar 2) (eVar 4)) (eC (.int 0))) (eC (.int 1)) [some (.ref l), some (.dk n), some (.int (atC c)), some (.int num), some (.int j)] M' = .ok (.int (v + 1)) M' by
    show ((eGet2 (eVar 1) (e2 dAdd (eVar 2) (eVar 4)) (eC (.int 0)) [some (.ref l), some (.dk n), some (.int (atC c)), some (.int num), some (.int j)] M').bind fun x M1 => (eC (.int 1) [some (.ref l), some (.dk n), some (.int (atC c)), some (.int num), some (.int j)] M1).bind fun y M2 => dAdd x y M2) = _
    rw [e1]; rfl]
  simp [bindF, eVar, e2, dAdd, Out.bind, p]
theorem y_dnK {ρ : Ro} : wO (eDnK ρ M) Q E = Q (.dk M.length) (M ++ [.lst []]) := rfl
noncomputable def kLenD (Q : D → Sto → Prop) (M : Sto) (es : List D) : Prop := Q (.int es.length) M
theorem y_lenD : wO (bLenD [.dk n] M) Q E = wL M[n]? (kLenD Q M) := by
  show wO (match M[n]? with | some (.lst es) => Out.ok (.int es.length) M | none => .bad) Q E = _
  cases M[n]? with
  | none => rfl
  | some o => cases o; rfl
theorem ix_cd {c : List Int} {i : Nat} (h : M[n]? = some (.lst (cd c))) (hi : i < c.length) : wO (dIxD (.dk n) (.int i) M) Q E = Q (.int (c.getD i 0)) M := by
  have : dGetD M (.dk n) (.int i) = some (some (.int (c.getD i 0))) := by
    simp only [dGetD, kK, h]
    rw [val_cd, if_pos (by omega)]
    simp
  show wO (match dGetD M (.dk n) (.int i) with | some (some d) => Out.ok d M | _ => .bad) Q E = _
  rw [this]
  rfl
theorem col_sum : ∀ {L : List Int}, L ≠ [] → (∀ k ∈ L, 2 ≤ k) → ((col L).length : Int) + 2 * L.length = L.sum + 1
  | [], h, _ => absurd rfl h
  | [a], _, h => by
    have ha := h a (by simp)
    simp [col, addF]
    omega
  | a :: b :: r, _, h => by
    have ih := col_sum (L := b :: r) (by simp) fun k hk => h k (List.mem_cons_of_mem _ hk)
    have ha := h a (by simp)
    rw [col, List.length_append, List.length_replicate, List.sum_cons, List.length_cons]
    have : (addF 1 (col (b :: r))).length = (col (b :: r)).length := by
      have hn : col (b :: r) ≠ [] := fun z => du_ne (L := b :: r) (by simp) (by unfold du; rw [z]; rfl)
      cases e : col (b :: r) with
      | nil => exact absurd e hn
      | cons x xs => simp [addF]
    omega
theorem take_sum : ∀ {L : List Int} (i : Nat), (∀ k ∈ L, 2 ≤ k) → (L.take i).sum ≤ L.sum
  | [], i, _ => by simp
  | a :: r, 0, h => by
    have := take_sum (L := r) 0 fun k hk => h k (List.mem_cons_of_mem _ hk)
    have ha := h a (by simp)
    simp at this ⊢
    omega
  | a :: r, i + 1, h => by
    have := take_sum (L := r) i fun k hk => h k (List.mem_cons_of_mem _ hk)
    simp
    omega
theorem columns_w (h : M[n]? = some (.lst (nts L))) (h2 : ∀ k ∈ L, 2 ≤ k ∧ k ≤ 100000) (hs : L.sum ≤ 1000000) (q : ∀ o M', Kp M M' → M.length ≤ o → M'[o]? = some (.lst (nts (du L))) → Q (.ref o) M') : wO (F_law_columns [.ref n] M) Q E := by
  have hn := lt_get h
  have hk : ∀ k ∈ L, 2 ≤ k := fun k hk => (h2 k hk).1
  simp! [F_law_columns, g_law_columns, y_dnK]
  have K1 : Kp M (M ++ [SO.lst []]) := Kp.app
  have r1 : (M ++ [SO.lst []])[M.length]? = some (.lst (cd [])) := by simp [cd]
  have h1 := K1.get h
  have ol : M.length ≤ M.length := Nat.le_refl _
  generalize M ++ [SO.lst []] = M1 at *
  generalize hdn : M.length = dn at r1 ol ⊢
  refine wS_forI (xs := nts L) (fun i ρ M' => Kp M M' ∧ M'[dn]? = some (.lst (cd (col (L.take i)))) ∧ ∃ x3 x4, ρ = [some (.ref n), some (.dk dn), some (.int (atC (col (L.take i)))), x3, x4]) h1 ⟨K1, r1, _, _, rfl⟩ (fun i ρ M' hI => hI.1.get h) ?_ ?_
  · rintro i ρ M2 hi ⟨K2, r2, x3, x4, rfl⟩
    have hi' : i < L.length := by rw [nts_len] at hi; exact hi
    have e : (nts L)[i] = D.int L[i] := by simp [nts]
    rw [e]
    have b := h2 _ (List.getElem_mem hi')
    have tk : col (L.take (i + 1)) = stp (col (L.take i)) L[i] := by
      rw [← fold_col fun k hk' => hk k (List.mem_of_mem_take hk'), ← fold_col fun k hk' => hk k (List.mem_of_mem_take hk'), List.take_succ_eq_append_getElem hi', List.foldl_append]
      rfl
    have cl := col_len (L := L.take i) fun k hk' => hk k (List.mem_of_mem_take hk')
    have ts := take_sum (L := L) i hk
    rw [tk]
    generalize hc : col (L.take i) = c at *
    generalize L[i] = num at *
    have acl : atC c ≤ c.length := by unfold atC; split <;> omega
    simp! [g_law_columns_b2]
    refine ⟨by omega, ?_⟩
    refine wS_rng (fun j ρ M' => Kp M M' ∧ M'[dn]? = some (.lst (cd (prt c j))) ∧ ∃ x4, ρ = [some (.ref n), some (.dk dn), some (.int (atC c)), some (.int num), x4]) ⟨K2, r2, _, rfl⟩ ?_ ?_
    · rintro j ρ M3 hj ⟨K3, r3, x4, rfl⟩
      simp! [wO_ok]
      have pl : (prt c j).length < 10000000 := by
        by_cases z : 1 ≤ j
        · have := prt_len (c := c) z
          omega
        · have j0 : j = 0 := by omega
          rw [j0]
          show c.length < _
          omega
      rw [b1_eq (j := j) r3 rfl (by omega) pl]
      have l3 := lt_get r3
      exact ⟨K3.set (by omega), by rw [s_setS l3], _, rfl⟩
    · rintro ρ M3 ⟨K3, r3, x4, rfl⟩
      have pe : prt c (num - 1).toNat = stp c num := by
        unfold prt
        rw [if_neg (by omega)]
        congr 1
        omega
      have pl := prt_len (c := c) (j := (num - 1).toNat) (by omega)
      rw [pe] at r3 pl
      simp! [wO_ok]
      have ea : atC (stp c num) = atC c + num - 2 := by
        have : stp c num ≠ [] := fun z => by
          rw [z] at pl
          have : 0 ≤ atC c := by
            unfold atC
            split
            · omega
            · rename_i hne
              have : c.length ≠ 0 := by simpa using hne
              omega
          simp at pl
          omega
        conv => lhs; unfold atC
        rw [if_neg this]
        omega
      exact ⟨K3, r3, _, _, by rw [ea]⟩
  · rintro ρ M2 ⟨K2, r2, x3, x4, rfl⟩
    rw [nts_len, List.take_length] at r2
    have cl := col_len hk
    have l2 := lt_get r2
    simp! [y_lenD, r2, kLenD, cd_len]
    refine ⟨by omega, ?_⟩
    rw [show (((col L).length : Int)).toNat = (col L).length by omega]
    refine kCoR (fun ρ => ∃ x, ρ = [x, some (.dk dn)]) (fun (i : Nat) => D.int (1 + (col L).getD i 0)) (by omega) ⟨_, rfl⟩ ?_ ?_
    · rintro i hi ρ A ⟨x, rfl⟩
      have : (M2 ++ A)[dn]? = some (.lst (cd (col L))) := by rw [s_old l2]; exact r2
      simp! [ix_cd this hi]
      exact ⟨_, rfl⟩
    have em : (List.range (col L).length).map (fun (i : Nat) => D.int (1 + (col L).getD i 0)) = nts (du L) := by
      rw [rng_map]
      unfold du
      congr 1
      apply List.ext_getElem
      · simp
      · intro i h1 h2
        simp at h1
        simp [h1]
    rw [em]
    exact q _ _ (K2.trans Kp.app) (by have := K2.1; omega) (by simp)
end
end CM


end
section
set_option Elab.async false
set_option linter.all false
set_option maxRecDepth 100000
set_option maxHeartbeats 4000000
namespace K13
open PySem PySem.Spec L2 DL
noncomputable def top (i : Nat) : Stmt := PySem.Challenge.pw_rayround_k13_opposite_rows.main.body.getD i (.Pass ⟨0, 0, 0, 0⟩)
structure Txt (K : PySem.W.Frag) (mg : Str → Option Value) : Prop where
  gl : ∀ c v, PySem.W.nsIn K mainGlobals c = some (some v) → mg c = some v
  b_reversed : mg "reversed" = none
  b_len : mg "len" = none
  b_int : mg "int" = none
  b_abs : mg "abs" = none
  b_range : mg "range" = none
  b_list : mg "list" = none
  b_isinstance : mg "isinstance" = none
  b_min : mg "min" = none
  b_max : mg "max" = none
  ex_NoWedge : exOk K "NoWedge" = true
section
variable {P : Program} {w : World} {K : PySem.W.Frag} {mg : Str → Option Value} {base : Heap}
noncomputable abbrev s_crossed : Stmt := top 4
noncomputable def g_crossed : Sv := (sRet (e2 dSub (e2 dMul (e2 dIx (eVar 0) (eC (.int 0))) (e2 dIx (eVar 1) (eC (.int 1)))) (e2 dMul (e2 dIx (eVar 0) (eC (.int 1))) (e2 dIx (eVar 1) (eC (.int 0))))))
noncomputable def F_crossed : List D → Sto → Out D := fnF g_crossed 2 0
theorem sc_crossed : FnScope ["one", "other"] ["one", "other"] (defScope s_crossed) := ⟨rfl, rfl, rfl, by decide +kernel, rfl, by decide +kernel, by decide +kernel⟩
theorem ok_crossed {f : Addr} {fd : FuncData} (F : Fun K "crossed" "crossed" s_crossed f fd) (T : Txt K mg) : FnOk P w K mg base (CXE P w) 1 f fd ["one", "other"] (spD K F_crossed) :=
  fn_ok F sc_crossed rfl rfl fun cdv A outer s H E hr θ => (dss_one (ds_ret (de_sub (de_mul (de_ix (de_var 0) de_int) (de_ix (de_var 1) de_int)) (de_mul (de_ix (de_var 0) de_int) (de_ix (de_var 1) de_int)))))
noncomputable abbrev s_partner : Stmt := top 6
noncomputable def g_partner_b1 : Sv := (sSeq (sAsg (gNm 5) (e2 dDiv (eVar 1) (eVar 2)))
  (sSeq (sPar 1 2 (aCons (eVar 2) (aCons (e2 dSub (eVar 1) (e2 dMul (eVar 5) (eVar 2))) aNil)))
  (sPar 3 4 (aCons (eVar 4) (aCons (eTup (aCons (e2 dSub (e2 dIx (eVar 3) (eC (.int 0))) (e2 dMul (eVar 5) (e2 dIx (eVar 4) (eC (.int 0))))) (aCons (e2 dSub (e2 dIx (eVar 3) (eC (.int 1))) (e2 dMul (eVar 5) (e2 dIx (eVar 4) (eC (.int 1))))) aNil))) aNil)))))
noncomputable def g_partner : Sv := (sSeq (sAsg (gTp (gCs (gNm 1) (gCs (gNm 2) gNl))) (eVar 0))
  (sSeq (sAsg (gTp (gCs (gNm 3) (gCs (gNm 4) gNl))) (eTup (aCons (eTup (aCons (eC (.int 0)) (aCons (eC (.int 1)) aNil))) (aCons (eTup (aCons (eNeg (eC (.int 1))) (aCons (eC (.int 0)) aNil))) aNil))))
  (sSeq (sWh (tv (e2 dNe (eVar 2) (eC (.int 0)))) g_partner_b1)
  (sRet (eTup (aCons (e2 dMul (eVar 1) (e2 dIx (eVar 3) (eC (.int 0)))) (aCons (e2 dMul (eVar 1) (e2 dIx (eVar 3) (eC (.int 1)))) aNil)))))))
noncomputable def F_partner : List D → Sto → Out D := fnF g_partner 1 5
theorem sc_partner : FnScope ["ray", "high", "low", "first", "second", "many"] ["ray"] (defScope s_partner) := ⟨rfl, rfl, rfl, by decide +kernel, rfl, by decide +kernel, by decide +kernel⟩
theorem ok_partner {f : Addr} {fd : FuncData} (F : Fun K "partner" "partner" s_partner f fd) (T : Txt K mg) : FnOk P w K mg base (CXE P w) 101 f fd ["ray"] (spD K F_partner) :=
  fn_ok F sc_partner rfl rfl fun cdv A outer s H E hr θ => (dss_cons (ds_asg (de_var 0) (dg_tup (calm_of hr (by decide)) (dgs_cons (dg_name 1 sc_partner.nd) (dgs_cons (dg_name 2 sc_partner.nd) dgs_nil)) (hlen := (gCs_len (gCs_len (fun _ _ _ h => gNl_len h))))))
    (dss_cons (ds_asg (de_tup (da_cons (de_tup (da_cons de_int (da_cons de_int da_nil))) (da_cons (de_tup (da_cons (de_neg de_int) (da_cons de_int da_nil))) da_nil))) (dg_tup (calm_of hr (by decide)) (dgs_cons (dg_name 3 sc_partner.nd) (dgs_cons (dg_name 4 sc_partner.nd) dgs_nil)) (hlen := (gCs_len (gCs_len (fun _ _ _ h => gNl_len h))))))
    (dss_cons (ds_while θ.own (dt_cmp (op_neD hr.units) bo_ne (de_var 2) de_int) (dss_cons (ds_set 5 sc_partner.nd (de_div (de_var 1) (de_var 2)))
    (dss_cons (ds_par 1 2 (calm_of hr (by decide)) sc_partner.nd (da_cons (de_var 2) (da_cons (de_sub (de_var 1) (de_mul (de_var 5) (de_var 2))) da_nil)))
    (dss_one (ds_par 3 4 (calm_of hr (by decide)) sc_partner.nd (da_cons (de_var 4) (da_cons (de_tup (da_cons (de_sub (de_ix (de_var 3) de_int) (de_mul (de_var 5) (de_ix (de_var 4) de_int))) (da_cons (de_sub (de_ix (de_var 3) de_int) (de_mul (de_var 5) (de_ix (de_var 4) de_int))) da_nil))) da_nil)))))))
    (dss_one (ds_ret (de_tup (da_cons (de_mul (de_var 1) (de_ix (de_var 3) de_int)) (da_cons (de_mul (de_var 1) (de_ix (de_var 3) de_int)) da_nil))))))))
noncomputable abbrev s_first_behind : Stmt := top 7
noncomputable def g_first_behind : Sv := (sSeq (sAsg (gNm 2) (eCall F_partner (aCons (eVar 0) aNil)))
  (sSeq (sAsg (gNm 3) (e2 dDiv (eCall F_crossed (aCons (eVar 2) (aCons (eVar 1) aNil))) (eCall F_crossed (aCons (eVar 0) (aCons (eVar 1) aNil)))))
  (sRet (eTup (aCons (e2 dSub (e2 dIx (eVar 2) (eC (.int 0))) (e2 dMul (eVar 3) (e2 dIx (eVar 0) (eC (.int 0))))) (aCons (e2 dSub (e2 dIx (eVar 2) (eC (.int 1))) (e2 dMul (eVar 3) (e2 dIx (eVar 0) (eC (.int 1))))) aNil))))))
noncomputable def F_first_behind : List D → Sto → Out D := fnF g_first_behind 2 2
theorem sc_first_behind : FnScope ["u", "v", "w", "many"] ["u", "v"] (defScope s_first_behind) := ⟨rfl, rfl, rfl, by decide +kernel, rfl, by decide +kernel, by decide +kernel⟩
theorem ok_first_behind {f : Addr} {fd : FuncData} (F : Fun K "first_behind" "first_behind" s_first_behind f fd) (T : Txt K mg) (C_partner : Cal P w K mg base "partner" 101 1 F_partner) (C_crossed : Cal P w K mg base "crossed" 1 2 F_crossed) : FnOk P w K mg base (CXE P w) 102 f fd ["u", "v"] (spD K F_first_behind) :=
  fn_ok F sc_first_behind rfl rfl fun cdv A outer s H E hr θ => (dss_cons (ds_set 2 sc_first_behind.nd (de_callC C_partner θ (hr.mono (by decide)) (da_cons (de_var 0) da_nil)))
    (dss_cons (ds_set 3 sc_first_behind.nd (de_div (de_callC C_crossed θ (hr.mono (by decide)) (da_cons (de_var 2) (da_cons (de_var 1) da_nil))) (de_callC C_crossed θ (hr.mono (by decide)) (da_cons (de_var 0) (da_cons (de_var 1) da_nil)))))
    (dss_one (ds_ret (de_tup (da_cons (de_sub (de_ix (de_var 2) de_int) (de_mul (de_var 3) (de_ix (de_var 0) de_int))) (da_cons (de_sub (de_ix (de_var 2) de_int) (de_mul (de_var 3) (de_ix (de_var 0) de_int))) da_nil)))))))
noncomputable abbrev s_expanded : Stmt := top 8
noncomputable def g_expanded_b1 : Sv := (sSeq (sAsg (gNm 3) (eNeg (e2 dDiv (eNeg (eVar 0)) (eVar 1))))
  (sSeq (sDrop (eMtL mApp (eVar 2) (aCons (eVar 3) aNil)))
  (sPar 0 1 (aCons (eVar 1) (aCons (e2 dSub (e2 dMul (eVar 3) (eVar 1)) (eVar 0)) aNil)))))
noncomputable def g_expanded : Sv := (sSeq (sAsg (gNm 2) (eLst aNil))
  (sSeq (sWh (tv (e2 dNe (eVar 1) (eC (.int 0)))) g_expanded_b1)
  (sRet (eVar 2))))
noncomputable def F_expanded : List D → Sto → Out D := fnF g_expanded 2 2
theorem sc_expanded : FnScope ["top", "bottom", "numbers", "number"] ["top", "bottom"] (defScope s_expanded) := ⟨rfl, rfl, rfl, by decide +kernel, rfl, by decide +kernel, by decide +kernel⟩
theorem ok_expanded {f : Addr} {fd : FuncData} (F : Fun K "expanded" "expanded" s_expanded f fd) (T : Txt K mg) : FnOk P w K mg base (CXE P w) 101 f fd ["top", "bottom"] (spD K F_expanded) :=
  fn_ok F sc_expanded rfl rfl fun cdv A outer s H E hr θ => (dss_cons (ds_set 2 sc_expanded.nd (de_lst da_nil))
    (dss_cons (ds_while θ.own (dt_cmp (op_neD hr.units) bo_ne (de_var 1) de_int) (dss_cons (ds_set 3 sc_expanded.nd (de_neg (de_div (de_neg (de_var 0)) (de_var 1))))
    (dss_cons (ds_expr (de_append (de_var 2) (de_var 3)))
    (dss_one (ds_par 0 1 (calm_of hr (by decide)) sc_expanded.nd (da_cons (de_var 1) (da_cons (de_sub (de_mul (de_var 3) (de_var 1)) (de_var 0)) da_nil)))))))
    (dss_one (ds_ret (de_var 2)))))
noncomputable abbrev s_row : Stmt := top 9
noncomputable def g_row : Sv := (sSeq (sIf (tv (e2 dLe (eCall F_crossed (aCons (eVar 0) (aCons (eVar 1) aNil))) (eC (.int 0)))) (sRaise (PySem.Str.ofString "NoWedge") (aCons (eC (.str (PySem.Str.ofString "the two rays of a wedge, crossed, come to more than 0"))) aNil)) sNil)
  (sRet (eCall F_expanded (aCons (eCall F_crossed (aCons (eVar 0) (aCons (eVar 1) aNil))) (aCons (eCall F_crossed (aCons (eCall F_first_behind (aCons (eVar 0) (aCons (eVar 1) aNil))) (aCons (eVar 1) aNil))) aNil)))))
noncomputable def F_row : List D → Sto → Out D := fnF g_row 2 0
theorem sc_row : FnScope ["u", "v"] ["u", "v"] (defScope s_row) := ⟨rfl, rfl, rfl, by decide +kernel, rfl, by decide +kernel, by decide +kernel⟩
theorem ok_row {f : Addr} {fd : FuncData} (F : Fun K "row" "row" s_row f fd) (T : Txt K mg) (C_crossed : Cal P w K mg base "crossed" 1 2 F_crossed) (C_first_behind : Cal P w K mg base "first_behind" 102 2 F_first_behind) (C_expanded : Cal P w K mg base "expanded" 101 2 F_expanded) : FnOk P w K mg base (CXE P w) 103 f fd ["u", "v"] (spD K F_row) :=
  fn_ok F sc_row rfl rfl fun cdv A outer s H E hr θ => (dss_cons (ds_if (dt_cmp op_le bo_le (de_callC C_crossed θ (hr.mono (by decide)) (da_cons (de_var 0) (da_cons (de_var 1) da_nil))) de_int) (dss_one (ds_raise θ T.ex_NoWedge T.gl (hr.hd (by decide)) (da_cons de_str da_nil))) dss_nil)
    (dss_one (ds_ret (de_callC C_expanded θ (hr.mono (by decide)) (da_cons (de_callC C_crossed θ (hr.mono (by decide)) (da_cons (de_var 0) (da_cons (de_var 1) da_nil))) (da_cons (de_callC C_crossed θ (hr.mono (by decide)) (da_cons (de_callC C_first_behind θ (hr.mono (by decide)) (da_cons (de_var 0) (da_cons (de_var 1) da_nil))) (da_cons (de_var 1) da_nil))) da_nil))))))
noncomputable abbrev s_fraction : Stmt := top 10
noncomputable def g_fraction_b1 : Sv := (sPar 1 2 (aCons (e2 dSub (e2 dMul (eVar 3) (eVar 1)) (eVar 2)) (aCons (eVar 1) aNil)))
noncomputable def g_fraction : Sv := (sSeq (sAsg (gTp (gCs (gNm 1) (gCs (gNm 2) gNl))) (eTup (aCons (eC (.int 1)) (aCons (eC (.int 0)) aNil))))
  (sSeq (sForS (gNm 3) (iRv (aCons (eVar 0) aNil)) g_fraction_b1)
  (sRet (eTup (aCons (eVar 1) (aCons (eVar 2) aNil))))))
noncomputable def F_fraction : List D → Sto → Out D := fnF g_fraction 1 3
theorem sc_fraction : FnScope ["numbers", "top", "bottom", "number"] ["numbers"] (defScope s_fraction) := ⟨rfl, rfl, rfl, by decide +kernel, rfl, by decide +kernel, by decide +kernel⟩
theorem ok_fraction {f : Addr} {fd : FuncData} (F : Fun K "fraction" "fraction" s_fraction f fd) (T : Txt K mg) : FnOk P w K mg base (CXE P w) 101 f fd ["numbers"] (spD K F_fraction) :=
  fn_ok F sc_fraction rfl rfl fun cdv A outer s H E hr θ => (dss_cons (ds_asg (de_tup (da_cons de_int (da_cons de_int da_nil))) (dg_tup (calm_of hr (by decide)) (dgs_cons (dg_name 1 sc_fraction.nd) (dgs_cons (dg_name 2 sc_fraction.nd) dgs_nil)) (hlen := (gCs_len (gCs_len (fun _ _ _ h => gNl_len h))))))
    (dss_cons (ds_forS θ.own (di_rev (hr.hd (by decide)) T.b_reversed (da_cons (de_var 0) da_nil)) (dg_name 3 sc_fraction.nd) (dss_one (ds_par 1 2 (calm_of hr (by decide)) sc_fraction.nd (da_cons (de_sub (de_mul (de_var 3) (de_var 1)) (de_var 2)) (da_cons (de_var 1) da_nil)))))
    (dss_one (ds_ret (de_tup (da_cons (de_var 1) (da_cons (de_var 2) da_nil)))))))
noncomputable abbrev s_opposite : Stmt := top 11
noncomputable def g_opposite : Sv := (sSeq (sIf (tv (e2 dEq (eVar 0) (eLst aNil))) (sRet (eLst aNil)) sNil)
  (sSeq (sAsg (gTp (gCs (gNm 1) (gCs (gNm 2) gNl))) (eCall F_fraction (aCons (eVar 0) aNil)))
  (sRet (eCall F_expanded (aCons (eVar 1) (aCons (e2 dSub (eVar 1) (eVar 2)) aNil))))))
noncomputable def F_opposite : List D → Sto → Out D := fnF g_opposite 1 2
theorem sc_opposite : FnScope ["numbers", "top", "bottom"] ["numbers"] (defScope s_opposite) := ⟨rfl, rfl, rfl, by decide +kernel, rfl, by decide +kernel, by decide +kernel⟩
theorem ok_opposite {f : Addr} {fd : FuncData} (F : Fun K "opposite" "opposite" s_opposite f fd) (T : Txt K mg) (C_fraction : Cal P w K mg base "fraction" 101 1 F_fraction) (C_expanded : Cal P w K mg base "expanded" 101 2 F_expanded) : FnOk P w K mg base (CXE P w) 102 f fd ["numbers"] (spD K F_opposite) :=
  fn_ok F sc_opposite rfl rfl fun cdv A outer s H E hr θ => (dss_cons (ds_if (dt_cmp (op_eqD hr.units) bo_eq (de_var 0) (de_lst da_nil)) (dss_one (ds_ret (de_lst da_nil))) dss_nil)
    (dss_cons (ds_asg (de_callC C_fraction θ (hr.mono (by decide)) (da_cons (de_var 0) da_nil)) (dg_tup (calm_of hr (by decide)) (dgs_cons (dg_name 1 sc_opposite.nd) (dgs_cons (dg_name 2 sc_opposite.nd) dgs_nil)) (hlen := (gCs_len (gCs_len (fun _ _ _ h => gNl_len h))))))
    (dss_one (ds_ret (de_callC C_expanded θ (hr.mono (by decide)) (da_cons (de_var 1) (da_cons (de_sub (de_var 1) (de_var 2)) da_nil)))))))
noncomputable abbrev s_law_purse : Stmt := top 13
noncomputable def g_law_purse : Sv := (sSeq (sAsg (gNm 2) (eC (.int 0)))
  (sSeq (sIf (tv (e2 dLt (eVar 1) (eCall bLen (aCons (eVar 0) aNil)))) (sAsg (gNm 2) (e2 dIx (eVar 0) (eVar 1))) sNil)
  (sSeq (sAsg (gNm 3) (e2 dMod (eVar 2) (e2 dMul (e2 dPow (eC (.int 10)) (eC (.int 60))) (e2 dPow (eC (.int 10)) (eC (.int 30))))))
  (sRet (eLst (aCons (e2 dMul (eVar 3) (eCall bInt (aCons (e2 dGe (eVar 3) (e2 dPow (eC (.int 10)) (eC (.int 18)))) aNil))) (aCons (e2 dAdd (e2 dAdd (e2 dMod (eVar 2) (eC (.int 2147483647))) (e2 dMul (eC (.int 7919)) (eVar 1))) (eC (.int 1))) aNil)))))))
noncomputable def F_law_purse : List D → Sto → Out D := fnF g_law_purse 2 2
theorem sc_law_purse : FnScope ["_law_script", "_law_k", "_law_cell", "_law_large"] ["_law_script", "_law_k"] (defScope s_law_purse) := ⟨rfl, rfl, rfl, by decide +kernel, rfl, by decide +kernel, by decide +kernel⟩
theorem ok_law_purse {f : Addr} {fd : FuncData} (F : Fun K "_law_purse" "_law_purse" s_law_purse f fd) (T : Txt K mg) : FnOk P w K mg base (CXE P w) 1 f fd ["_law_script", "_law_k"] (spD K F_law_purse) :=
  fn_ok F sc_law_purse rfl rfl fun cdv A outer s H E hr θ => (dss_cons (ds_set 2 sc_law_purse.nd de_int)
    (dss_cons (ds_if (dt_cmp op_lt bo_lt (de_var 1) (de_callB call_len_seq co_len T.b_len PySem.boot_len (da_cons (de_var 0) da_nil))) (dss_one (ds_set 2 sc_law_purse.nd (de_ix (de_var 0) (de_var 1)))) dss_nil)
    (dss_cons (ds_set 3 sc_law_purse.nd (de_mod (de_var 2) (de_mul (de_pow de_int de_int) (de_pow de_int de_int))))
    (dss_one (ds_ret (de_lst (da_cons (de_mul (de_var 3) (de_callTy call_int1 co_int T.b_int bb_int (da_cons (de_cmp op_ge bo_ge (de_var 3) (de_pow de_int de_int)) da_nil))) (da_cons (de_add (de_add (de_mod (de_var 2) de_int) (de_mul de_int (de_var 1))) de_int) da_nil))))))))
noncomputable abbrev s_law_take : Stmt := top 14
noncomputable def g_law_take : Sv := (sSeq (sIf (tv (e2 dGt (e2 dIx (eVar 0) (eC (.int 0))) (eC (.int 0)))) (sSeq (sAsg (gNm 2) (e2 dMod (e2 dIx (eVar 0) (eC (.int 0))) (eVar 1)))
  (sSeq (sPut (eVar 0) (eC (.int 0)) (e2 dDiv (e2 dIx (eVar 0) (eC (.int 0))) (eVar 1)))
  (sRet (eVar 2)))) sNil)
  (sSeq (sPut (eVar 0) (eC (.int 1)) (e2 dMod (e2 dAdd (e2 dMul (e2 dIx (eVar 0) (eC (.int 1))) (eC (.int 48271))) (eC (.int 12345))) (eC (.int 2147483647))))
  (sRet (e2 dMod (e2 dDiv (e2 dMod (e2 dMul (e2 dIx (eVar 0) (eC (.int 1))) (eC (.int 69621))) (eC (.int 2147483629))) (eC (.int 5))) (eVar 1)))))
noncomputable def F_law_take : List D → Sto → Out D := fnF g_law_take 2 1
theorem sc_law_take : FnScope ["_law_purse_here", "_law_many", "_law_digit"] ["_law_purse_here", "_law_many"] (defScope s_law_take) := ⟨rfl, rfl, rfl, by decide +kernel, rfl, by decide +kernel, by decide +kernel⟩
theorem ok_law_take {f : Addr} {fd : FuncData} (F : Fun K "_law_take" "_law_take" s_law_take f fd) (T : Txt K mg) : FnOk P w K mg base (CXE P w) 1 f fd ["_law_purse_here", "_law_many"] (spD K F_law_take) :=
  fn_ok F sc_law_take rfl rfl fun cdv A outer s H E hr θ => (dss_cons (ds_if (dt_cmp op_gt bo_gt (de_ix (de_var 0) de_int) de_int) (dss_cons (ds_set 2 sc_law_take.nd (de_mod (de_ix (de_var 0) de_int) (de_var 1)))
    (dss_cons (ds_put (de_var 0) de_int (de_div (de_ix (de_var 0) de_int) (de_var 1)))
    (dss_one (ds_ret (de_var 2))))) dss_nil)
    (dss_cons (ds_put (de_var 0) de_int (de_mod (de_add (de_mul (de_ix (de_var 0) de_int) de_int) de_int) de_int))
    (dss_one (ds_ret (de_mod (de_div (de_mod (de_mul (de_ix (de_var 0) de_int) de_int) de_int) de_int) (de_var 1))))))
noncomputable abbrev s_law_crossed : Stmt := top 15
noncomputable def g_law_crossed : Sv := (sRet (e2 dSub (e2 dMul (e2 dIx (eVar 0) (eC (.int 0))) (e2 dIx (eVar 1) (eC (.int 1)))) (e2 dMul (e2 dIx (eVar 0) (eC (.int 1))) (e2 dIx (eVar 1) (eC (.int 0))))))
noncomputable def F_law_crossed : List D → Sto → Out D := fnF g_law_crossed 2 0
theorem sc_law_crossed : FnScope ["_law_one", "_law_other"] ["_law_one", "_law_other"] (defScope s_law_crossed) := ⟨rfl, rfl, rfl, by decide +kernel, rfl, by decide +kernel, by decide +kernel⟩
theorem ok_law_crossed {f : Addr} {fd : FuncData} (F : Fun K "_law_crossed" "_law_crossed" s_law_crossed f fd) (T : Txt K mg) : FnOk P w K mg base (CXE P w) 1 f fd ["_law_one", "_law_other"] (spD K F_law_crossed) :=
  fn_ok F sc_law_crossed rfl rfl fun cdv A outer s H E hr θ => (dss_one (ds_ret (de_sub (de_mul (de_ix (de_var 0) de_int) (de_ix (de_var 1) de_int)) (de_mul (de_ix (de_var 0) de_int) (de_ix (de_var 1) de_int)))))
noncomputable abbrev s_law_short : Stmt := top 16
noncomputable def g_law_short_b1 : Sv := (sPar 1 2 (aCons (eVar 2) (aCons (e2 dMod (eVar 1) (eVar 2)) aNil)))
noncomputable def g_law_short : Sv := (sSeq (sPar 1 2 (aCons (eCall bAbs (aCons (e2 dIx (eVar 0) (eC (.int 0))) aNil)) (aCons (eCall bAbs (aCons (e2 dIx (eVar 0) (eC (.int 1))) aNil)) aNil)))
  (sSeq (sWh (tv (e2 dGt (eVar 2) (eC (.int 0)))) g_law_short_b1)
  (sSeq (sIf (tv (e2 dEq (eVar 1) (eC (.int 0)))) (sRet (eTup (aCons (eC (.int 1)) (aCons (eC (.int 0)) aNil)))) sNil)
  (sRet (eTup (aCons (e2 dDiv (e2 dIx (eVar 0) (eC (.int 0))) (eVar 1)) (aCons (e2 dDiv (e2 dIx (eVar 0) (eC (.int 1))) (eVar 1)) aNil)))))))
noncomputable def F_law_short : List D → Sto → Out D := fnF g_law_short 1 2
theorem sc_law_short : FnScope ["_law_pair", "_law_one", "_law_other"] ["_law_pair"] (defScope s_law_short) := ⟨rfl, rfl, rfl, by decide +kernel, rfl, by decide +kernel, by decide +kernel⟩
theorem ok_law_short {f : Addr} {fd : FuncData} (F : Fun K "_law_short" "_law_short" s_law_short f fd) (T : Txt K mg) : FnOk P w K mg base (CXE P w) 101 f fd ["_law_pair"] (spD K F_law_short) :=
  fn_ok F sc_law_short rfl rfl fun cdv A outer s H E hr θ => (dss_cons (ds_par 1 2 (calm_of hr (by decide)) sc_law_short.nd (da_cons (de_callB call_abs co_abs T.b_abs bb_abs (da_cons (de_ix (de_var 0) de_int) da_nil)) (da_cons (de_callB call_abs co_abs T.b_abs bb_abs (da_cons (de_ix (de_var 0) de_int) da_nil)) da_nil)))
    (dss_cons (ds_while θ.own (dt_cmp op_gt bo_gt (de_var 2) de_int) (dss_one (ds_par 1 2 (calm_of hr (by decide)) sc_law_short.nd (da_cons (de_var 2) (da_cons (de_mod (de_var 1) (de_var 2)) da_nil)))))
    (dss_cons (ds_if (dt_cmp (op_eqD hr.units) bo_eq (de_var 1) de_int) (dss_one (ds_ret (de_tup (da_cons de_int (da_cons de_int da_nil))))) dss_nil)
    (dss_one (ds_ret (de_tup (da_cons (de_div (de_ix (de_var 0) de_int) (de_var 1)) (da_cons (de_div (de_ix (de_var 0) de_int) (de_var 1)) da_nil))))))))
noncomputable abbrev s_law_wedge : Stmt := top 17
noncomputable def g_law_wedge : Sv := (sSeq (sAsg (gNm 1) (e2 dIx (eLst (aCons (eC (.int 4)) (aCons (eC (.int 12)) (aCons (eC (.int 30)) (aCons (eC (.int 200)) aNil))))) (eCall F_law_take (aCons (eVar 0) (aCons (eC (.int 4)) aNil)))))
  (sSeq (sAsg (gNm 2) (eCall F_law_short (aCons (eTup (aCons (e2 dSub (eCall F_law_take (aCons (eVar 0) (aCons (e2 dAdd (e2 dMul (eC (.int 2)) (eVar 1)) (eC (.int 1))) aNil))) (eVar 1)) (aCons (e2 dSub (eCall F_law_take (aCons (eVar 0) (aCons (e2 dAdd (e2 dMul (eC (.int 2)) (eVar 1)) (eC (.int 1))) aNil))) (eVar 1)) aNil))) aNil)))
  (sSeq (sAsg (gNm 3) (eCall F_law_short (aCons (eTup (aCons (e2 dSub (eCall F_law_take (aCons (eVar 0) (aCons (e2 dAdd (e2 dMul (eC (.int 2)) (eVar 1)) (eC (.int 1))) aNil))) (eVar 1)) (aCons (e2 dSub (eCall F_law_take (aCons (eVar 0) (aCons (e2 dAdd (e2 dMul (eC (.int 2)) (eVar 1)) (eC (.int 1))) aNil))) (eVar 1)) aNil))) aNil)))
  (sSeq (sIf (tv (e2 dLt (eCall F_law_crossed (aCons (eVar 2) (aCons (eVar 3) aNil))) (eC (.int 0)))) (sPar 2 3 (aCons (eVar 3) (aCons (eVar 2) aNil))) sNil)
  (sSeq (sIf (tv (e2 dEq (eCall F_law_crossed (aCons (eVar 2) (aCons (eVar 3) aNil))) (eC (.int 0)))) (sAsg (gNm 3) (eTup (aCons (e2 dSub (eC (.int 0)) (e2 dIx (eVar 2) (eC (.int 1)))) (aCons (e2 dIx (eVar 2) (eC (.int 0))) aNil)))) sNil)
  (sRet (eTup (aCons (eVar 2) (aCons (eVar 3) aNil)))))))))
noncomputable def F_law_wedge : List D → Sto → Out D := fnF g_law_wedge 1 3
theorem sc_law_wedge : FnScope ["_law_purse_here", "_law_size", "_law_u", "_law_v"] ["_law_purse_here"] (defScope s_law_wedge) := ⟨rfl, rfl, rfl, by decide +kernel, rfl, by decide +kernel, by decide +kernel⟩
theorem ok_law_wedge {f : Addr} {fd : FuncData} (F : Fun K "_law_wedge" "_law_wedge" s_law_wedge f fd) (T : Txt K mg) (C_law_take : Cal P w K mg base "_law_take" 1 2 F_law_take) (C_law_short : Cal P w K mg base "_law_short" 101 1 F_law_short) (C_law_crossed : Cal P w K mg base "_law_crossed" 1 2 F_law_crossed) : FnOk P w K mg base (CXE P w) 102 f fd ["_law_purse_here"] (spD K F_law_wedge) :=
  fn_ok F sc_law_wedge rfl rfl fun cdv A outer s H E hr θ => (dss_cons (ds_set 1 sc_law_wedge.nd (de_ix (de_lst (da_cons de_int (da_cons de_int (da_cons de_int (da_cons de_int da_nil))))) (de_callC C_law_take θ (hr.mono (by decide)) (da_cons (de_var 0) (da_cons de_int da_nil)))))
    (dss_cons (ds_set 2 sc_law_wedge.nd (de_callC C_law_short θ (hr.mono (by decide)) (da_cons (de_tup (da_cons (de_sub (de_callC C_law_take θ (hr.mono (by decide)) (da_cons (de_var 0) (da_cons (de_add (de_mul de_int (de_var 1)) de_int) da_nil))) (de_var 1)) (da_cons (de_sub (de_callC C_law_take θ (hr.mono (by decide)) (da_cons (de_var 0) (da_cons (de_add (de_mul de_int (de_var 1)) de_int) da_nil))) (de_var 1)) da_nil))) da_nil)))
    (dss_cons (ds_set 3 sc_law_wedge.nd (de_callC C_law_short θ (hr.mono (by decide)) (da_cons (de_tup (da_cons (de_sub (de_callC C_law_take θ (hr.mono (by decide)) (da_cons (de_var 0) (da_cons (de_add (de_mul de_int (de_var 1)) de_int) da_nil))) (de_var 1)) (da_cons (de_sub (de_callC C_law_take θ (hr.mono (by decide)) (da_cons (de_var 0) (da_cons (de_add (de_mul de_int (de_var 1)) de_int) da_nil))) (de_var 1)) da_nil))) da_nil)))
    (dss_cons (ds_if (dt_cmp op_lt bo_lt (de_callC C_law_crossed θ (hr.mono (by decide)) (da_cons (de_var 2) (da_cons (de_var 3) da_nil))) de_int) (dss_one (ds_par 2 3 (calm_of hr (by decide)) sc_law_wedge.nd (da_cons (de_var 3) (da_cons (de_var 2) da_nil)))) dss_nil)
    (dss_cons (ds_if (dt_cmp (op_eqD hr.units) bo_eq (de_callC C_law_crossed θ (hr.mono (by decide)) (da_cons (de_var 2) (da_cons (de_var 3) da_nil))) de_int) (dss_one (ds_set 3 sc_law_wedge.nd (de_tup (da_cons (de_sub de_int (de_ix (de_var 2) de_int)) (da_cons (de_ix (de_var 2) de_int) da_nil))))) dss_nil)
    (dss_one (ds_ret (de_tup (da_cons (de_var 2) (da_cons (de_var 3) da_nil))))))))))
noncomputable abbrev s_law_numbers : Stmt := top 18
noncomputable def g_law_numbers : Sv := (sSeq (sIf (tv (e2 dEq (eCall F_law_take (aCons (eVar 0) (aCons (eC (.int 16)) aNil))) (eC (.int 11)))) (sSeq (sAsg (gNm 1) (e2 dAdd (eC (.int 1)) (eCall F_law_take (aCons (eVar 0) (aCons (eC (.int 1900)) aNil)))))
  (sSeq (sAsg (gNm 2) (e2 dIx (eLst (aCons (eLst (aCons (e2 dAdd (eVar 1) (eC (.int 1))) aNil)) (aCons (e2 dRep (eLst (aCons (eC (.int 2)) aNil)) (eVar 1)) aNil))) (eCall F_law_take (aCons (eVar 0) (aCons (eC (.int 2)) aNil)))))
  (sSeq (sIf (tv (e2 dEq (eCall F_law_take (aCons (eVar 0) (aCons (eC (.int 3)) aNil))) (eC (.int 1)))) (sPut (eVar 2) (eCall F_law_take (aCons (eVar 0) (aCons (eCall bLen (aCons (eVar 2) aNil)) aNil))) (eC (.int 3))) sNil)
  (sRet (eVar 2))))) sNil)
  (sSeq (sIf (tv (e2 dEq (eCall F_law_take (aCons (eVar 0) (aCons (eC (.int 8)) aNil))) (eC (.int 5)))) (sSeq (sAsg (gNm 1) (e2 dAdd (eC (.int 1)) (eCall F_law_take (aCons (eVar 0) (aCons (eC (.int 24)) aNil)))))
  (sRet (eComp (iR1 (aCons (eVar 1) aNil)) 1 [0] (gNm 0) (fun _ M => .ok true M) (e2 dAdd (eC (.int 2)) (eCall bInt (aCons (e2 dEq (eCall F_law_take (aCons (eVar 1) (aCons (eC (.int 8)) aNil))) (eC (.int 0))) aNil)))))) sNil)
  (sSeq (sAsg (gNm 1) (e2 dAdd (eC (.int 1)) (eCall F_law_take (aCons (eVar 0) (aCons (eC (.int 8)) aNil)))))
  (sRet (eComp (iR1 (aCons (eVar 1) aNil)) 1 [0] (gNm 0) (fun _ M => .ok true M) (e2 dAdd (eC (.int 2)) (eCall F_law_take (aCons (eVar 1) (aCons (eC (.int 8)) aNil)))))))))
noncomputable def F_law_numbers : List D → Sto → Out D := fnF g_law_numbers 1 2
theorem sc_law_numbers : FnScope ["_law_purse_here", "_law_many", "_law_line"] ["_law_purse_here"] (defScope s_law_numbers) := ⟨rfl, rfl, rfl, by decide +kernel, rfl, by decide +kernel, by decide +kernel⟩
theorem ok_law_numbers {f : Addr} {fd : FuncData} (F : Fun K "_law_numbers" "_law_numbers" s_law_numbers f fd) (T : Txt K mg) (C_law_take : Cal P w K mg base "_law_take" 1 2 F_law_take) : FnOk P w K mg base (CXE P w) 2 f fd ["_law_purse_here"] (spD K F_law_numbers) :=
  fn_ok F sc_law_numbers rfl rfl fun cdv A outer s H E hr θ => (dss_cons (ds_if (dt_cmp (op_eqD hr.units) bo_eq (de_callC C_law_take θ (hr.mono (by decide)) (da_cons (de_var 0) (da_cons de_int da_nil))) de_int) (dss_cons (ds_set 1 sc_law_numbers.nd (de_add de_int (de_callC C_law_take θ (hr.mono (by decide)) (da_cons (de_var 0) (da_cons de_int da_nil)))))
    (dss_cons (ds_set 2 sc_law_numbers.nd (de_ix (de_lst (da_cons (de_lst (da_cons (de_add (de_var 1) de_int) da_nil)) (da_cons (de_rep (de_lst (da_cons de_int da_nil)) (de_var 1)) da_nil))) (de_callC C_law_take θ (hr.mono (by decide)) (da_cons (de_var 0) (da_cons de_int da_nil)))))
    (dss_cons (ds_if (dt_cmp (op_eqD hr.units) bo_eq (de_callC C_law_take θ (hr.mono (by decide)) (da_cons (de_var 0) (da_cons de_int da_nil))) de_int) (dss_one (ds_put (de_var 2) (de_callC C_law_take θ (hr.mono (by decide)) (da_cons (de_var 0) (da_cons (de_callB call_len_seq co_len T.b_len PySem.boot_len (da_cons (de_var 2) da_nil)) da_nil))) de_int)) dss_nil)
    (dss_one (ds_ret (de_var 2)))))) dss_nil)
    (dss_cons (ds_if (dt_cmp (op_eqD hr.units) bo_eq (de_callC C_law_take θ (hr.mono (by decide)) (da_cons (de_var 0) (da_cons de_int da_nil))) de_int) (dss_cons (ds_set 1 sc_law_numbers.nd (de_add de_int (de_callC C_law_take θ (hr.mono (by decide)) (da_cons (de_var 0) (da_cons de_int da_nil)))))
    (dss_one (ds_ret (de_comp (blkF (XN := ["_law_purse_here", "_law_many", "_law_line"]) (dn := (defScope s_law_numbers).names) (N := ["_law_turn", "_law_purse_here"]) (k := 1) (fr := [0]) rfl rfl rfl rfl (by decide +kernel)) (di_range1 T.b_range (da_cons (de_var 1) da_nil)) (fun _ _ _ _ => (dg_name 0 (show List.Nodup (["_law_turn", "_law_purse_here"] : List Str) by decide +kernel))) (fun _ _ _ _ => (Or.inl ⟨rfl, rfl⟩)) (fun _ _ _ _ => (de_add de_int (de_callTy call_int1 co_int T.b_int bb_int (da_cons (de_cmp (op_eqD hr.units) bo_eq (de_callC C_law_take thr_blk (hr.mono (by decide)) (da_cons (de_var 1) (da_cons de_int da_nil))) de_int) da_nil)))))))) dss_nil)
    (dss_cons (ds_set 1 sc_law_numbers.nd (de_add de_int (de_callC C_law_take θ (hr.mono (by decide)) (da_cons (de_var 0) (da_cons de_int da_nil)))))
    (dss_one (ds_ret (de_comp (blkF (XN := ["_law_purse_here", "_law_many", "_law_line"]) (dn := (defScope s_law_numbers).names) (N := ["_law_turn", "_law_purse_here"]) (k := 1) (fr := [0]) rfl rfl rfl rfl (by decide +kernel)) (di_range1 T.b_range (da_cons (de_var 1) da_nil)) (fun _ _ _ _ => (dg_name 0 (show List.Nodup (["_law_turn", "_law_purse_here"] : List Str) by decide +kernel))) (fun _ _ _ _ => (Or.inl ⟨rfl, rfl⟩)) (fun _ _ _ _ => (de_add de_int (de_callC C_law_take thr_blk (hr.mono (by decide)) (da_cons (de_var 1) (da_cons de_int da_nil)))))))))))
noncomputable abbrev s_law_columns : Stmt := top 19
noncomputable def g_law_columns_b1 : Sv := (sPutD (eVar 1) (e2 dAdd (eVar 2) (eVar 4)) (e2 dAdd (eGet2 (eVar 1) (e2 dAdd (eVar 2) (eVar 4)) (eC (.int 0))) (eC (.int 1))))
noncomputable def g_law_columns_b2 : Sv := (sSeq (sForR1 (gNm 4) (aCons (e2 dSub (eVar 3) (eC (.int 1))) aNil) g_law_columns_b1)
  (sAsg (gNm 2) (e2 dSub (e2 dAdd (eVar 2) (eVar 3)) (eC (.int 2)))))
noncomputable def g_law_columns : Sv := (sSeq (sAsg (gNm 1) eDnK)
  (sSeq (sAsg (gNm 2) (eC (.int 0)))
  (sSeq (sFor (gNm 3) (eVar 0) g_law_columns_b2)
  (sRet (eComp (iR1 (aCons (eCall bLenD (aCons (eVar 1) aNil)) aNil)) 1 [1] (gNm 0) (fun _ M => .ok true M) (e2 dAdd (eC (.int 1)) (e2 dIxD (eVar 1) (eVar 0))))))))
noncomputable def F_law_columns : List D → Sto → Out D := fnF g_law_columns 1 4
theorem sc_law_columns : FnScope ["_law_line", "_law_columns_here", "_law_at", "_law_number", "_law_dot"] ["_law_line"] (defScope s_law_columns) := ⟨rfl, rfl, rfl, by decide +kernel, rfl, by decide +kernel, by decide +kernel⟩
theorem ok_law_columns {f : Addr} {fd : FuncData} (F : Fun K "_law_columns" "_law_columns" s_law_columns f fd) (T : Txt K mg) : FnOk P w K mg base (CXE P w) 1 f fd ["_law_line"] (spD K F_law_columns) :=
  fn_ok F sc_law_columns rfl rfl fun cdv A outer s H E hr θ => (dss_cons (ds_set 1 sc_law_columns.nd de_dnK)
    (dss_cons (ds_set 2 sc_law_columns.nd de_int)
    (dss_cons (ds_for θ.own (de_var 0) (dg_name 3 sc_law_columns.nd) (dss_cons (ds_forR1 θ.own T.b_range (da_cons (de_sub (de_var 3) de_int) da_nil) (dg_name 4 sc_law_columns.nd) (dss_one (ds_dput hr.units (de_var 1) (de_add (de_var 2) (de_var 4)) (de_add (de_get2 hr.units (de_var 1) (de_add (de_var 2) (de_var 4)) de_int) de_int))))
    (dss_one (ds_set 2 sc_law_columns.nd (de_sub (de_add (de_var 2) (de_var 3)) de_int)))))
    (dss_one (ds_ret (de_comp (blkF (XN := ["_law_line", "_law_columns_here", "_law_at", "_law_number", "_law_dot"]) (dn := (defScope s_law_columns).names) (N := ["_law_k", "_law_columns_here"]) (k := 1) (fr := [1]) rfl rfl rfl rfl (by decide +kernel)) (di_range1 T.b_range (da_cons (de_callB call_lenD co_lenD T.b_len PySem.boot_len (da_cons (de_var 1) da_nil)) da_nil)) (fun _ _ _ _ => (dg_name 0 (show List.Nodup (["_law_k", "_law_columns_here"] : List Str) by decide +kernel))) (fun _ _ _ _ => (Or.inl ⟨rfl, rfl⟩)) (fun _ _ _ _ => (de_add de_int (de_dget hr.units (de_var 1) (de_var 0))))))))))
noncomputable abbrev s_law_good : Stmt := top 20
noncomputable def g_law_good : Sv := (sSeq (sAsg (gNm 1) (eCall F_law_columns (aCons (eVar 0) aNil)))
  (sSeq (sAsg (gNm 2) (eCall bList (aCons (eVar 0) aNil)))
  (sSeq (sAsg (gNm 3) (eCall F_opposite (aCons (eVar 2) aNil)))
  (sSeq (sIf (tOr2 (tNot1 (tv (eIsi "list" (eVar 3)))) (tOr2 (tv (e2 dNe (eVar 3) (eVar 1))) (tv (e2 dNe (eVar 2) (eVar 0))))) (sRet (eC (.bl false))) sNil)
  (sSeq (sIf (tv (e2 dNe (eCall F_opposite (aCons (eCall bList (aCons (eVar 1) aNil)) aNil)) (eVar 0))) (sRet (eC (.bl false))) sNil)
  (sSeq (sDrop (eMtL mApp (eVar 3) (aCons (eC (.int 9)) aNil)))
  (sSeq (sDrop (eMtL mApp (eVar 2) (aCons (eC (.int 9)) aNil)))
  (sRet (e2 dEq (eCall F_opposite (aCons (eCall bList (aCons (eVar 0) aNil)) aNil)) (eVar 1))))))))))
noncomputable def F_law_good : List D → Sto → Out D := fnF g_law_good 1 3
theorem sc_law_good : FnScope ["_law_line", "_law_due", "_law_handed", "_law_found"] ["_law_line"] (defScope s_law_good) := ⟨rfl, rfl, rfl, by decide +kernel, rfl, by decide +kernel, by decide +kernel⟩
theorem ok_law_good {f : Addr} {fd : FuncData} (F : Fun K "_law_good" "_law_good" s_law_good f fd) (T : Txt K mg) (C_law_columns : Cal P w K mg base "_law_columns" 1 1 F_law_columns) (C_opposite : Cal P w K mg base "opposite" 102 1 F_opposite) : FnOk P w K mg base (CXE P w) 103 f fd ["_law_line"] (spD K F_law_good) :=
  fn_ok F sc_law_good rfl rfl fun cdv A outer s H E hr θ => (dss_cons (ds_set 1 sc_law_good.nd (de_callC C_law_columns θ (hr.mono (by decide)) (da_cons (de_var 0) da_nil)))
    (dss_cons (ds_set 2 sc_law_good.nd (de_callTy call_list_of co_list T.b_list bb_list (da_cons (de_var 0) da_nil)))
    (dss_cons (ds_set 3 sc_law_good.nd (de_callC C_opposite θ (hr.mono (by decide)) (da_cons (de_var 2) da_nil)))
    (dss_cons (ds_if (dt_w (dw_or (dt_not (dt_val (de_isi kit_list T.b_isinstance T.b_list bb_list (de_var 3)))) (dw_or (dt_cmp (op_neD hr.units) bo_ne (de_var 3) (de_var 1)) (dw_or1 (dt_cmp (op_neD hr.units) bo_ne (de_var 2) (de_var 0)))))) (dss_one (ds_ret de_bl)) dss_nil)
    (dss_cons (ds_if (dt_cmp (op_neD hr.units) bo_ne (de_callC C_opposite θ (hr.mono (by decide)) (da_cons (de_callTy call_list_of co_list T.b_list bb_list (da_cons (de_var 1) da_nil)) da_nil)) (de_var 0)) (dss_one (ds_ret de_bl)) dss_nil)
    (dss_cons (ds_expr (de_append (de_var 3) de_int))
    (dss_cons (ds_expr (de_append (de_var 2) de_int))
    (dss_one (ds_ret (de_cmp (op_eqD hr.units) bo_eq (de_callC C_opposite θ (hr.mono (by decide)) (da_cons (de_callTy call_list_of co_list T.b_list bb_list (da_cons (de_var 0) da_nil)) da_nil)) (de_var 1)))))))))))
noncomputable abbrev s_law : Stmt := top 21
noncomputable def g_law_b1 : Sv := (sSeq (sAsg (gNm 2) (eCall F_law_purse (aCons (eVar 0) (aCons (eVar 1) aNil))))
  (sSeq (sAsg (gTp (gCs (gNm 3) (gCs (gNm 4) gNl))) (eCall F_law_wedge (aCons (eVar 2) aNil)))
  (sSeq (sAsg (gNm 5) (eCall F_row (aCons (eVar 3) (aCons (eVar 4) aNil))))
  (sSeq (sIf (tOr2 (tNot1 (tv (eCall F_law_good (aCons (eVar 5) aNil)))) (tNot1 (tv (eCall F_law_good (aCons (eCall F_law_numbers (aCons (eVar 2) aNil)) aNil))))) (sRet (eC (.bl false))) sNil)
  (sSeq (sAsg (gNm 6) (eCall F_row (aCons (eVar 4) (aCons (eTup (aCons (e2 dSub (eC (.int 0)) (e2 dIx (eVar 3) (eC (.int 0)))) (aCons (e2 dSub (eC (.int 0)) (e2 dIx (eVar 3) (eC (.int 1)))) aNil))) aNil))))
  (sIf (tv (e2 dNe (eCall bLR (aCons (eVar 6) aNil)) (eCall F_law_columns (aCons (eVar 5) aNil)))) (sRet (eC (.bl false))) sNil))))))
noncomputable def g_law : Sv := (sSeq (sForR1 (gNm 1) (aCons (eCall bMax (aCons (eC (.int 1)) (aCons (eCall bMin (aCons (eC (.int 3)) (aCons (eCall bLen (aCons (eVar 0) aNil)) aNil))) aNil))) aNil) g_law_b1)
  (sRet (e2 dEq (eCall F_opposite (aCons (eLst aNil) aNil)) (eLst aNil))))
noncomputable def F_law : List D → Sto → Out D := fnF g_law 1 6
theorem sc_law : FnScope ["_law_script", "_law_k", "_law_purse_here", "_law_u", "_law_v", "_law_line", "_law_behind"] ["_law_script"] (defScope s_law) := ⟨rfl, rfl, rfl, by decide +kernel, rfl, by decide +kernel, by decide +kernel⟩
theorem ok_law {f : Addr} {fd : FuncData} (F : Fun K "law" "law" s_law f fd) (T : Txt K mg) (C_law_purse : Cal P w K mg base "_law_purse" 1 2 F_law_purse) (C_law_wedge : Cal P w K mg base "_law_wedge" 102 1 F_law_wedge) (C_row : Cal P w K mg base "row" 103 2 F_row) (C_law_good : Cal P w K mg base "_law_good" 103 1 F_law_good) (C_law_numbers : Cal P w K mg base "_law_numbers" 2 1 F_law_numbers) (C_law_columns : Cal P w K mg base "_law_columns" 1 1 F_law_columns) (C_opposite : Cal P w K mg base "opposite" 102 1 F_opposite) : FnOk P w K mg base (CXE P w) 104 f fd ["_law_script"] (spD K F_law) :=
  fn_ok F sc_law rfl rfl fun cdv A outer s H E hr θ => (dss_cons (ds_forR1 θ.own T.b_range (da_cons (de_callB (call_max2 (calm_of hr (by decide))) co_max T.b_max bb_max (da_cons de_int (da_cons (de_callB (call_min2 (calm_of hr (by decide))) co_min T.b_min bb_min (da_cons de_int (da_cons (de_callB call_len_seq co_len T.b_len PySem.boot_len (da_cons (de_var 0) da_nil)) da_nil))) da_nil))) da_nil) (dg_name 1 sc_law.nd) (dss_cons (ds_set 2 sc_law.nd (de_callC C_law_purse θ (hr.mono (by decide)) (da_cons (de_var 0) (da_cons (de_var 1) da_nil))))
    (dss_cons (ds_asg (de_callC C_law_wedge θ (hr.mono (by decide)) (da_cons (de_var 2) da_nil)) (dg_tup (calm_of hr (by decide)) (dgs_cons (dg_name 3 sc_law.nd) (dgs_cons (dg_name 4 sc_law.nd) dgs_nil)) (hlen := (gCs_len (gCs_len (fun _ _ _ h => gNl_len h))))))
    (dss_cons (ds_set 5 sc_law.nd (de_callC C_row θ (hr.mono (by decide)) (da_cons (de_var 3) (da_cons (de_var 4) da_nil))))
    (dss_cons (ds_if (dt_w (dw_or (dt_not (dt_val (de_callC C_law_good θ (hr.mono (by decide)) (da_cons (de_var 5) da_nil)))) (dw_or1 (dt_not (dt_val (de_callC C_law_good θ (hr.mono (by decide)) (da_cons (de_callC C_law_numbers θ (hr.mono (by decide)) (da_cons (de_var 2) da_nil)) da_nil))))))) (dss_one (ds_ret de_bl)) dss_nil)
    (dss_cons (ds_set 6 sc_law.nd (de_callC C_row θ (hr.mono (by decide)) (da_cons (de_var 4) (da_cons (de_tup (da_cons (de_sub de_int (de_ix (de_var 3) de_int)) (da_cons (de_sub de_int (de_ix (de_var 3) de_int)) da_nil))) da_nil))))
    (dss_one (ds_if (dt_cmp (op_neD hr.units) bo_ne (de_lr (hr.hd (by decide)) T.b_list T.b_reversed (da_cons (de_var 6) da_nil)) (de_callC C_law_columns θ (hr.mono (by decide)) (da_cons (de_var 5) da_nil))) (dss_one (ds_ret de_bl)) dss_nil))))))))
    (dss_one (ds_ret (de_cmp (op_eqD hr.units) bo_eq (de_callC C_opposite θ (hr.mono (by decide)) (da_cons (de_lst da_nil) da_nil)) (de_lst da_nil)))))
end
theorem all_mk {l : PySem.W.OpenLaw} {w : World} {K : PySem.W.Frag} {h : Heap} {mg : Str → Option Value} {fa f1 f2 f3 f4 f5 f6 f7 f8 f9 f10 f11 f12 f13 f14 f15 f16 : Addr} (X : K.In h) (G : h.Ns mainGlobals mg) (hfa : mg "law" = some (.ref fa))
    {od1 an1 od2 an2 od3 an3 od4 an4 od5 an5 od6 an6 od7 an7 od8 an8 od9 an9 od10 an10 od11 an11 od12 an12 od13 an13 od14 an14 od15 an15 od16 an16 : Option Addr} {sl1 sl2 sl3 sl4 sl5 sl6 sl7 sl8 sl9 sl10 sl11 sl12 sl13 sl14 sl15 sl16 : Array (Option Value)} {oc1 kV1 dc1 pm1 cd1 ct1 oc2 kV2 dc2 pm2 cd2 ct2 oc3 kV3 dc3 pm3 cd3 ct3 oc4 kV4 dc4 pm4 cd4 ct4 oc5 kV5 dc5 pm5 cd5 ct5 oc6 kV6 dc6 pm6 cd6 ct6 oc7 kV7 dc7 pm7 cd7 ct7 oc8 kV8 dc8 pm8 cd8 ct8 oc9 kV9 dc9 pm9 cd9 ct9 oc10 kV10 dc10 pm10 cd10 ct10 oc11 kV11 dc11 pm11 cd11 ct11 oc12 kV12 dc12 pm12 cd12 ct12 oc13 kV13 dc13 pm13 cd13 ct13 oc14 kV14 dc14 pm14 cd14 ct14 oc15 kV15 dc15 pm15 cd15 ct15 oc16 kV16 dc16 pm16 cd16 ct16 : Value}
    (a1 : PySem.W.nsIn K mainGlobals "crossed" = some (some (.ref f1))) (l1 : K.lookup f1 = some ⟨oc1, od1, .func (PySem.W.fnOf "crossed" "crossed" (defArgs s_crossed) (defBody s_crossed) (defScope s_crossed) .none kV1 dc1 pm1 an1 cd1 ct1), sl1⟩) (c1 : PySem.W.codeIn K cd1 "crossed" = true) (k1 : PySem.W.keepIn K (.ref f1) = true)
    (a2 : PySem.W.nsIn K mainGlobals "partner" = some (some (.ref f2))) (l2 : K.lookup f2 = some ⟨oc2, od2, .func (PySem.W.fnOf "partner" "partner" (defArgs s_partner) (defBody s_partner) (defScope s_partner) .none kV2 dc2 pm2 an2 cd2 ct2), sl2⟩) (c2 : PySem.W.codeIn K cd2 "partner" = true) (k2 : PySem.W.keepIn K (.ref f2) = true)
    (a3 : PySem.W.nsIn K mainGlobals "first_behind" = some (some (.ref f3))) (l3 : K.lookup f3 = some ⟨oc3, od3, .func (PySem.W.fnOf "first_behind" "first_behind" (defArgs s_first_behind) (defBody s_first_behind) (defScope s_first_behind) .none kV3 dc3 pm3 an3 cd3 ct3), sl3⟩) (c3 : PySem.W.codeIn K cd3 "first_behind" = true) (k3 : PySem.W.keepIn K (.ref f3) = true)
    (a4 : PySem.W.nsIn K mainGlobals "expanded" = some (some (.ref f4))) (l4 : K.lookup f4 = some ⟨oc4, od4, .func (PySem.W.fnOf "expanded" "expanded" (defArgs s_expanded) (defBody s_expanded) (defScope s_expanded) .none kV4 dc4 pm4 an4 cd4 ct4), sl4⟩) (c4 : PySem.W.codeIn K cd4 "expanded" = true) (k4 : PySem.W.keepIn K (.ref f4) = true)
    (a5 : PySem.W.nsIn K mainGlobals "row" = some (some (.ref f5))) (l5 : K.lookup f5 = some ⟨oc5, od5, .func (PySem.W.fnOf "row" "row" (defArgs s_row) (defBody s_row) (defScope s_row) .none kV5 dc5 pm5 an5 cd5 ct5), sl5⟩) (c5 : PySem.W.codeIn K cd5 "row" = true) (k5 : PySem.W.keepIn K (.ref f5) = true)
    (a6 : PySem.W.nsIn K mainGlobals "fraction" = some (some (.ref f6))) (l6 : K.lookup f6 = some ⟨oc6, od6, .func (PySem.W.fnOf "fraction" "fraction" (defArgs s_fraction) (defBody s_fraction) (defScope s_fraction) .none kV6 dc6 pm6 an6 cd6 ct6), sl6⟩) (c6 : PySem.W.codeIn K cd6 "fraction" = true) (k6 : PySem.W.keepIn K (.ref f6) = true)
    (a7 : PySem.W.nsIn K mainGlobals "opposite" = some (some (.ref f7))) (l7 : K.lookup f7 = some ⟨oc7, od7, .func (PySem.W.fnOf "opposite" "opposite" (defArgs s_opposite) (defBody s_opposite) (defScope s_opposite) .none kV7 dc7 pm7 an7 cd7 ct7), sl7⟩) (c7 : PySem.W.codeIn K cd7 "opposite" = true) (k7 : PySem.W.keepIn K (.ref f7) = true)
    (a8 : PySem.W.nsIn K mainGlobals "_law_purse" = some (some (.ref f8))) (l8 : K.lookup f8 = some ⟨oc8, od8, .func (PySem.W.fnOf "_law_purse" "_law_purse" (defArgs s_law_purse) (defBody s_law_purse) (defScope s_law_purse) .none kV8 dc8 pm8 an8 cd8 ct8), sl8⟩) (c8 : PySem.W.codeIn K cd8 "_law_purse" = true) (k8 : PySem.W.keepIn K (.ref f8) = true)
    (a9 : PySem.W.nsIn K mainGlobals "_law_take" = some (some (.ref f9))) (l9 : K.lookup f9 = some ⟨oc9, od9, .func (PySem.W.fnOf "_law_take" "_law_take" (defArgs s_law_take) (defBody s_law_take) (defScope s_law_take) .none kV9 dc9 pm9 an9 cd9 ct9), sl9⟩) (c9 : PySem.W.codeIn K cd9 "_law_take" = true) (k9 : PySem.W.keepIn K (.ref f9) = true)
    (a10 : PySem.W.nsIn K mainGlobals "_law_crossed" = some (some (.ref f10))) (l10 : K.lookup f10 = some ⟨oc10, od10, .func (PySem.W.fnOf "_law_crossed" "_law_crossed" (defArgs s_law_crossed) (defBody s_law_crossed) (defScope s_law_crossed) .none kV10 dc10 pm10 an10 cd10 ct10), sl10⟩) (c10 : PySem.W.codeIn K cd10 "_law_crossed" = true) (k10 : PySem.W.keepIn K (.ref f10) = true)
    (a11 : PySem.W.nsIn K mainGlobals "_law_short" = some (some (.ref f11))) (l11 : K.lookup f11 = some ⟨oc11, od11, .func (PySem.W.fnOf "_law_short" "_law_short" (defArgs s_law_short) (defBody s_law_short) (defScope s_law_short) .none kV11 dc11 pm11 an11 cd11 ct11), sl11⟩) (c11 : PySem.W.codeIn K cd11 "_law_short" = true) (k11 : PySem.W.keepIn K (.ref f11) = true)
    (a12 : PySem.W.nsIn K mainGlobals "_law_wedge" = some (some (.ref f12))) (l12 : K.lookup f12 = some ⟨oc12, od12, .func (PySem.W.fnOf "_law_wedge" "_law_wedge" (defArgs s_law_wedge) (defBody s_law_wedge) (defScope s_law_wedge) .none kV12 dc12 pm12 an12 cd12 ct12), sl12⟩) (c12 : PySem.W.codeIn K cd12 "_law_wedge" = true) (k12 : PySem.W.keepIn K (.ref f12) = true)
    (a13 : PySem.W.nsIn K mainGlobals "_law_numbers" = some (some (.ref f13))) (l13 : K.lookup f13 = some ⟨oc13, od13, .func (PySem.W.fnOf "_law_numbers" "_law_numbers" (defArgs s_law_numbers) (defBody s_law_numbers) (defScope s_law_numbers) .none kV13 dc13 pm13 an13 cd13 ct13), sl13⟩) (c13 : PySem.W.codeIn K cd13 "_law_numbers" = true) (k13 : PySem.W.keepIn K (.ref f13) = true)
    (a14 : PySem.W.nsIn K mainGlobals "_law_columns" = some (some (.ref f14))) (l14 : K.lookup f14 = some ⟨oc14, od14, .func (PySem.W.fnOf "_law_columns" "_law_columns" (defArgs s_law_columns) (defBody s_law_columns) (defScope s_law_columns) .none kV14 dc14 pm14 an14 cd14 ct14), sl14⟩) (c14 : PySem.W.codeIn K cd14 "_law_columns" = true) (k14 : PySem.W.keepIn K (.ref f14) = true)
    (a15 : PySem.W.nsIn K mainGlobals "_law_good" = some (some (.ref f15))) (l15 : K.lookup f15 = some ⟨oc15, od15, .func (PySem.W.fnOf "_law_good" "_law_good" (defArgs s_law_good) (defBody s_law_good) (defScope s_law_good) .none kV15 dc15 pm15 an15 cd15 ct15), sl15⟩) (c15 : PySem.W.codeIn K cd15 "_law_good" = true) (k15 : PySem.W.keepIn K (.ref f15) = true)
    (a16 : PySem.W.nsIn K mainGlobals "law" = some (some (.ref f16))) (l16 : K.lookup f16 = some ⟨oc16, od16, .func (PySem.W.fnOf "law" "law" (defArgs s_law) (defBody s_law) (defScope s_law) .none kV16 dc16 pm16 an16 cd16 ct16), sl16⟩) (c16 : PySem.W.codeIn K cd16 "law" = true) (k16 : PySem.W.keepIn K (.ref f16) = true)
    (z_reversed : PySem.W.nsIn K mainGlobals "reversed" = some none)
    (z_len : PySem.W.nsIn K mainGlobals "len" = some none)
    (z_int : PySem.W.nsIn K mainGlobals "int" = some none)
    (z_abs : PySem.W.nsIn K mainGlobals "abs" = some none)
    (z_range : PySem.W.nsIn K mainGlobals "range" = some none)
    (z_list : PySem.W.nsIn K mainGlobals "list" = some none)
    (z_isinstance : PySem.W.nsIn K mainGlobals "isinstance" = some none)
    (z_min : PySem.W.nsIn K mainGlobals "min" = some none)
    (z_max : PySem.W.nsIn K mainGlobals "max" = some none)
    (q_ex_NoWedge : exOk K "NoWedge" = true)
    : ∃ fd : FuncData, (∀ (s : Shared) (v : Value), BindsTo s fd ⟨[v], []⟩ [("_law_script", v)]) ∧ ∀ base : Heap, K.In base → base.Ns mainGlobals mg → FnOk l.prog w K mg base (CXE l.prog w) 104 fa fd ["_law_script"] (spD K F_law) := by
  have e := hfa.symm.trans (PySem.W.mg_of X G a16)
  cases e
  have T : Txt K mg := ⟨fun c v e => PySem.W.mg_of X G e, PySem.W.mg_none_of X G z_reversed, PySem.W.mg_none_of X G z_len, PySem.W.mg_none_of X G z_int, PySem.W.mg_none_of X G z_abs, PySem.W.mg_none_of X G z_range, PySem.W.mg_none_of X G z_list, PySem.W.mg_none_of X G z_isinstance, PySem.W.mg_none_of X G z_min, PySem.W.mg_none_of X G z_max, q_ex_NoWedge⟩
  have R1 := fun_mk (st := s_crossed) l1 c1 k1
  have R2 := fun_mk (st := s_partner) l2 c2 k2
  have R3 := fun_mk (st := s_first_behind) l3 c3 k3
  have R4 := fun_mk (st := s_expanded) l4 c4 k4
  have R5 := fun_mk (st := s_row) l5 c5 k5
  have R6 := fun_mk (st := s_fraction) l6 c6 k6
  have R7 := fun_mk (st := s_opposite) l7 c7 k7
  have R8 := fun_mk (st := s_law_purse) l8 c8 k8
  have R9 := fun_mk (st := s_law_take) l9 c9 k9
  have R10 := fun_mk (st := s_law_crossed) l10 c10 k10
  have R11 := fun_mk (st := s_law_short) l11 c11 k11
  have R12 := fun_mk (st := s_law_wedge) l12 c12 k12
  have R13 := fun_mk (st := s_law_numbers) l13 c13 k13
  have R14 := fun_mk (st := s_law_columns) l14 c14 k14
  have R15 := fun_mk (st := s_law_good) l15 c15 k15
  have R16 := fun_mk (st := s_law) l16 c16 k16
  refine ⟨PySem.W.fnOf "law" "law" (defArgs s_law) (defBody s_law) (defScope s_law) .none kV16 dc16 pm16 an16 cd16 ct16, fun s v => .of_eq rfl, fun base _ _ => ?_⟩
  have C1 : Cal l.prog w K mg base "crossed" 1 2 F_crossed := ⟨f1, _, ["one", "other"], ok_crossed R1 T, PySem.W.mg_of X G a1, k1, rfl, R1.binds (ps := ["one", "other"]) fun _ _ _ _ _ _ us hl => match us, hl with | [_, _], _ => rfl⟩
  have C2 : Cal l.prog w K mg base "partner" 101 1 F_partner := ⟨f2, _, ["ray"], ok_partner R2 T, PySem.W.mg_of X G a2, k2, rfl, R2.binds (ps := ["ray"]) fun _ _ _ _ _ _ us hl => match us, hl with | [_], _ => rfl⟩
  have C3 : Cal l.prog w K mg base "first_behind" 102 2 F_first_behind := ⟨f3, _, ["u", "v"], ok_first_behind R3 T C2 C1, PySem.W.mg_of X G a3, k3, rfl, R3.binds (ps := ["u", "v"]) fun _ _ _ _ _ _ us hl => match us, hl with | [_, _], _ => rfl⟩
  have C4 : Cal l.prog w K mg base "expanded" 101 2 F_expanded := ⟨f4, _, ["top", "bottom"], ok_expanded R4 T, PySem.W.mg_of X G a4, k4, rfl, R4.binds (ps := ["top", "bottom"]) fun _ _ _ _ _ _ us hl => match us, hl with | [_, _], _ => rfl⟩
  have C5 : Cal l.prog w K mg base "row" 103 2 F_row := ⟨f5, _, ["u", "v"], ok_row R5 T C1 C3 C4, PySem.W.mg_of X G a5, k5, rfl, R5.binds (ps := ["u", "v"]) fun _ _ _ _ _ _ us hl => match us, hl with | [_, _], _ => rfl⟩
  have C6 : Cal l.prog w K mg base "fraction" 101 1 F_fraction := ⟨f6, _, ["numbers"], ok_fraction R6 T, PySem.W.mg_of X G a6, k6, rfl, R6.binds (ps := ["numbers"]) fun _ _ _ _ _ _ us hl => match us, hl with | [_], _ => rfl⟩
  have C7 : Cal l.prog w K mg base "opposite" 102 1 F_opposite := ⟨f7, _, ["numbers"], ok_opposite R7 T C6 C4, PySem.W.mg_of X G a7, k7, rfl, R7.binds (ps := ["numbers"]) fun _ _ _ _ _ _ us hl => match us, hl with | [_], _ => rfl⟩
  have C8 : Cal l.prog w K mg base "_law_purse" 1 2 F_law_purse := ⟨f8, _, ["_law_script", "_law_k"], ok_law_purse R8 T, PySem.W.mg_of X G a8, k8, rfl, R8.binds (ps := ["_law_script", "_law_k"]) fun _ _ _ _ _ _ us hl => match us, hl with | [_, _], _ => rfl⟩
  have C9 : Cal l.prog w K mg base "_law_take" 1 2 F_law_take := ⟨f9, _, ["_law_purse_here", "_law_many"], ok_law_take R9 T, PySem.W.mg_of X G a9, k9, rfl, R9.binds (ps := ["_law_purse_here", "_law_many"]) fun _ _ _ _ _ _ us hl => match us, hl with | [_, _], _ => rfl⟩
  have C10 : Cal l.prog w K mg base "_law_crossed" 1 2 F_law_crossed := ⟨f10, _, ["_law_one", "_law_other"], ok_law_crossed R10 T, PySem.W.mg_of X G a10, k10, rfl, R10.binds (ps := ["_law_one", "_law_other"]) fun _ _ _ _ _ _ us hl => match us, hl with | [_, _], _ => rfl⟩
  have C11 : Cal l.prog w K mg base "_law_short" 101 1 F_law_short := ⟨f11, _, ["_law_pair"], ok_law_short R11 T, PySem.W.mg_of X G a11, k11, rfl, R11.binds (ps := ["_law_pair"]) fun _ _ _ _ _ _ us hl => match us, hl with | [_], _ => rfl⟩
  have C12 : Cal l.prog w K mg base "_law_wedge" 102 1 F_law_wedge := ⟨f12, _, ["_law_purse_here"], ok_law_wedge R12 T C9 C11 C10, PySem.W.mg_of X G a12, k12, rfl, R12.binds (ps := ["_law_purse_here"]) fun _ _ _ _ _ _ us hl => match us, hl with | [_], _ => rfl⟩
  have C13 : Cal l.prog w K mg base "_law_numbers" 2 1 F_law_numbers := ⟨f13, _, ["_law_purse_here"], ok_law_numbers R13 T C9, PySem.W.mg_of X G a13, k13, rfl, R13.binds (ps := ["_law_purse_here"]) fun _ _ _ _ _ _ us hl => match us, hl with | [_], _ => rfl⟩
  have C14 : Cal l.prog w K mg base "_law_columns" 1 1 F_law_columns := ⟨f14, _, ["_law_line"], ok_law_columns R14 T, PySem.W.mg_of X G a14, k14, rfl, R14.binds (ps := ["_law_line"]) fun _ _ _ _ _ _ us hl => match us, hl with | [_], _ => rfl⟩
  have C15 : Cal l.prog w K mg base "_law_good" 103 1 F_law_good := ⟨f15, _, ["_law_line"], ok_law_good R15 T C14 C7, PySem.W.mg_of X G a15, k15, rfl, R15.binds (ps := ["_law_line"]) fun _ _ _ _ _ _ us hl => match us, hl with | [_], _ => rfl⟩
  exact ok_law R16 T C8 C12 C5 C15 C13 C14 C7
end K13


end
section
set_option Elab.async false
set_option linter.all false
set_option maxRecDepth 100000
set_option maxHeartbeats 4000000
namespace K13
open PySem PySem.Spec L2 DL
open CB (Bd Wg Fb btw Ch Cv kl)
open CV CM
theorem e_purse : F_law_purse = CB.F_law_purse := rfl
theorem e_take : F_law_take = CB.F_law_take := rfl
theorem e_wedge : F_law_wedge = CB.F_law_wedge := rfl
theorem e_row : F_row = CB.F_row := rfl
theorem e_opp : F_opposite = CM.F_opposite := rfl
theorem e_col : F_law_columns = CM.F_law_columns := rfl
theorem e_num : F_law_numbers = CM.F_law_numbers := rfl
structure Rw (L : List Int) : Prop where
  two : ∀ k ∈ L, 2 ≤ k ∧ k ≤ 100000
  len : L.length ≤ 90000
  top : (fr L).1 < 4611686018427387904
  opp : (du L).length ≤ 90000
theorem Rw.sum {L : List Int} (h : Rw L) : L.sum ≤ 1000000 := by
  by_cases z : L = []
  · rw [z]; simp
  · have := col_sum z fun k hk => (h.two k hk).1
    have o := h.opp
    have l := h.len
    unfold du at o
    rw [List.length_map] at o
    omega
theorem Rw.du {L : List Int} (h : Rw L) : Rw (CM.du L) := by
  by_cases z : L = []
  · subst z; exact h
  have h2 : ∀ k ∈ L, 2 ≤ k := fun k hk => (h.two k hk).1
  refine ⟨fun k hk => ?_, h.opp, ?_, ?_⟩
  · have := du_two h2 k hk
    have := h.len
    omega
  · rw [fr_du z h2]; exact h.top
  · rw [du_du z h2]; exact h.len
theorem Rw.dr {L : List Int} (h : Dr L) : Rw L := by
  refine ⟨h.two, h.len, h.top, ?_⟩
  have := col_len fun k hk => (h.two k hk).1
  have := h.sum
  unfold CM.du
  rw [List.length_map]
  omega
section
variable {Q : D → Sto → Prop} {E : Str → Sto → Prop} {M : Sto} {n m : Nat} {L : List Int} {u v w : Pt}
theorem opp_w (h : M[n]? = some (.lst (nts L))) (hL : Rw L) (q : ∀ o M', Kp M M' → M.length ≤ o → M'[o]? = some (.lst (nts (du L))) → Q (.ref o) M') : wO (CM.F_opposite [.ref n] M) Q E := by
  have hn := lt_get h
  have h2 : ∀ k ∈ L, 2 ≤ k := fun k hk => (hL.two k hk).1
  simp! [CM.F_opposite, CM.g_opposite]
  have K1 : Kp M (M ++ [SO.lst []]) := Kp.app
  have e1 : eqF 12 (M ++ [SO.lst []]) (.ref n) (.ref M.length) = some (decide (L = [])) := q_nts (K1.get h) (by simp [nts])
  have h1 := K1.get h
  have l1 : (M ++ [SO.lst []]).length = M.length + 1 := by simp
  simp! [e1]
  generalize M ++ [SO.lst []] = M1 at *
  refine brS (fun z => ?_) (fun z => ?_)
  · subst z
    simp! [wO_ok]
    exact q _ _ (K1.trans Kp.app) (by omega) (by simp [nts, du, col])
  · simp! [wO_ok]
    rw [fraction_w h1 hL.two]
    simp! [wO_ok]
    have fp := fr_pos h2
    refine expanded_l (by omega) (by have := hL.top; omega) (by rw [hj_du z h2]; exact hL.opp) ?_
    rw [hj_du z h2]
    exact q _ _ (K1.trans Kp.app) (by omega) (by simp)
theorem good_w (h : M[n]? = some (.lst (nts L))) (hL : Rw L) (q : ∀ M', Kp M M' → Q (.bl true) M') : wO (F_law_good [.ref n] M) Q E := by
  have h2 : ∀ k ∈ L, 2 ≤ k := fun k hk => (hL.two k hk).1
  have dd : du (du L) = L := by
    by_cases z : L = []
    · subst z; rfl
    · exact du_du z h2
  simp! [F_law_good, g_law_good, e_col]
  refine columns_w h hL.two hL.sum fun o1 M1 K1 l1 r1 => ?_
  have h1 := K1.get h
  have hn1 := lt_get h1
  simp! [h1, e_opp]
  have K2 : Kp M1 (M1 ++ [SO.lst (nts L)]) := Kp.app
  have a2 : (M1 ++ [SO.lst (nts L)])[M1.length]? = some (.lst (nts L)) := by simp
  generalize M1 ++ [SO.lst (nts L)] = M2 at *
  refine opp_w a2 hL fun o3 M3 K3 l3 r3 => ?_
  have K12 := (K1.trans K2).trans K3
  have d3 := (K2.trans K3).get r1
  have a3 := K3.get a2
  have h3 := K12.get h
  have e3 : eqF 12 M3 (.ref o3) (.ref o1) = some (decide (du L = du L)) := q_nts r3 d3
  have e4 : eqF 12 M3 (.ref M1.length) (.ref n) = some (decide (L = L)) := q_nts a3 h3
  simp! [ty_ref r3, e3, e4, d3]
  have K4 : Kp M3 (M3 ++ [SO.lst (nts (du L))]) := Kp.app
  have b4 : (M3 ++ [SO.lst (nts (du L))])[M3.length]? = some (.lst (nts (du L))) := by simp
  have ld3 := lt_get d3
  generalize M3 ++ [SO.lst (nts (du L))] = M4 at *
  refine opp_w b4 hL.du fun o5 M5 K5 l5 r5 => ?_
  rw [dd] at r5
  have K45 := K4.trans K5
  have h5 := K45.get h3
  have e5 : eqF 12 M5 (.ref o5) (.ref n) = some (decide (L = L)) := q_nts r5 h5
  have r35 := K45.get r3
  have a5 := K45.get a3
  have d5 := K45.get d3
  have lr := lt_get r35
  have lo := hL.opp
  simp! [e5, r35]
  refine ⟨by omega, ?_⟩
  have lm1 := lt_get d3
  have lh1 := lt_get h1
  have n1 : M1.length ≠ o3 := by have := lt_get a2; omega
  have lo1 := lt_get r1
  have n2 : o1 ≠ o3 := by have := lt_get a2; omega
  have n3 : n ≠ o3 := by have := lt_get a2; omega
  have a6 : (M5.set o3 (SO.lst (nts (du L ++ [9]))))[M1.length]? = some (.lst (nts L)) := by rw [s_setN n1]; exact a5
  have d6 : (M5.set o3 (SO.lst (nts (du L ++ [9]))))[o1]? = some (.lst (nts (du L))) := by rw [s_setN n2]; exact d5
  have h6 : (M5.set o3 (SO.lst (nts (du L ++ [9]))))[n]? = some (.lst (nts L)) := by rw [s_setN n3]; exact h5
  have K6 : Kp M (M5.set o3 (SO.lst (nts (du L ++ [9])))) := (K12.trans K45).set (by have := K1.1; have := lt_get a2; omega)
  generalize M5.set o3 (SO.lst (nts (du L ++ [9]))) = M6 at *
  have la6 := lt_get a6
  have ll := hL.len
  simp! [a6]
  refine ⟨by omega, ?_⟩
  have d7 : (M6.set M1.length (SO.lst (nts (L ++ [9]))))[o1]? = some (.lst (nts (du L))) := by rw [s_setN (by omega)]; exact d6
  have h7 : (M6.set M1.length (SO.lst (nts (L ++ [9]))))[n]? = some (.lst (nts L)) := by rw [s_setN (by omega)]; exact h6
  have K7 : Kp M (M6.set M1.length (SO.lst (nts (L ++ [9])))) := K6.set K1.1
  generalize M6.set M1.length (SO.lst (nts (L ++ [9]))) = M7 at *
  have lh7 := lt_get h7
  simp! [h6]
  have K8 : Kp M7 (M7 ++ [SO.lst (nts L)]) := Kp.app
  have b8 : (M7 ++ [SO.lst (nts L)])[M7.length]? = some (.lst (nts L)) := by simp
  generalize M7 ++ [SO.lst (nts L)] = M8 at *
  refine opp_w b8 hL fun o9 M9 K9 l9 r9 => ?_
  have e9 : eqF 12 M9 (.ref o9) (.ref o1) = some (decide (du L = du L)) := q_nts r9 ((K8.trans K9).get d7)
  simp! [e9]
  exact q _ ((K7.trans K8).trans K9)
theorem rev_row (h : Wg u v) (hw : Fb u v w) {w' : Pt} (hw' : Fb v (0 - u.1, 0 - u.2) w') (n1 : 1 < X u v) : (hj (X v (0 - u.1, 0 - u.2)) (X w' (0 - u.1, 0 - u.2))).reverse = hj (X u v) (X u v - X w v) := by
  have xv : X v (0 - u.1, 0 - u.2) = X u v := by unfold X; simp only; grind
  have gu' : Int.gcd (0 - u.1) (0 - u.2) = 1 := by
    rw [show 0 - u.1 = -u.1 by omega, show 0 - u.2 = -u.2 by omega, Int.neg_gcd, Int.gcd_neg]
    exact h.gu
  have c1 := CB.chain _ _ _ v w' (0 - u.1, 0 - u.2) rfl hw'.lo hw'.hi hw'.one rfl rfl gu'
  have c2 := (CB.convex _ _ _ v w' (0 - u.1, 0 - u.2) rfl hw'.lo hw'.hi hw'.one rfl rfl gu').1
  have o1 := CB.only _ v (0 - u.1, 0 - u.2) w' c1 c2 hw'
  -- the turning about: u goes to its contrary, w stays
  have xuw := hw.one
  have q0 : 0 < X w v := by
    have lo := hw.lo
    by_cases z : X w v = 0
    · exfalso
      -- v is then so many times w
      have e1 : v.1 = X u v * w.1 ∧ v.2 = X u v * w.2 := by unfold X at *; constructor <;> grind
      have gv := h.gv
      rw [e1.1, e1.2, Int.gcd_mul_left] at gv
      have t1 : (X u v).natAbs = 1 := Nat.eq_one_of_mul_eq_one_right gv
      omega
    · omega
  generalize hbs : btw v w' (hj (X v (0 - u.1, 0 - u.2)) (X w' (0 - u.1, 0 - u.2))) = bs at *
  have gX : ∀ p q : Pt, X (X u p * w.1 - X p w * u.1, X u p * w.2 - X p w * u.2) (X u q * w.1 - X q w * u.1, X u q * w.2 - X q w * u.2) = -1 * X p q := by
    intro p q
    have e : X (X u p * w.1 - X p w * u.1, X u p * w.2 - X p w * u.2) (X u q * w.1 - X q w * u.1, X u q * w.2 - X q w * u.2) = X u w * (X u q * X p w * -1 + X u p * X q w) := by
      unfold X; simp only; grind
    have e2 : X u q * X p w * -1 + X u p * X q w = X u w * (-1 * X p q) := by unfold X; grind
    rw [e, e2, xuw]
    grind
  have k1 := CB.kl_rev (g := fun p => (X u p * w.1 - X p w * u.1, X u p * w.2 - X p w * u.2)) gX (v :: (bs ++ [(0 - u.1, 0 - u.2)]))
  have r1 := CB.ch_rev (g := fun p => (X u p * w.1 - X p w * u.1, X u p * w.2 - X p w * u.2)) gX c1
  have r2 := CB.cv_rev (CB.cv_map (g := fun p => (X u p * w.1 - X p w * u.1, X u p * w.2 - X p w * u.2)) (fun p q r k e1 e2 => by
    have f1 : X u p + X u q = k * X u r := by unfold X; grind
    have f2 : X p w + X q w = k * X r w := by unfold X; grind
    simp only
    constructor <;> grind) _ c2)
  have eu : (X u (0 - u.1, 0 - u.2) * w.1 - X (0 - u.1, 0 - u.2) w * u.1, X u (0 - u.1, 0 - u.2) * w.2 - X (0 - u.1, 0 - u.2) w * u.2) = u := by
    have a1 : X u (0 - u.1, 0 - u.2) = 0 := by unfold X; simp only; grind
    have a2 : X (0 - u.1, 0 - u.2) w = -1 := by
      have : X (0 - u.1, 0 - u.2) w = -1 * X u w := by unfold X; simp only; grind
      rw [this, xuw]; rfl
    rw [a1, a2]
    apply Prod.ext <;> simp only <;> omega
  have el : ((v :: (bs ++ [(0 - u.1, 0 - u.2)])).map fun p => (X u p * w.1 - X p w * u.1, X u p * w.2 - X p w * u.2)).reverse = u :: ((bs.map fun p => (X u p * w.1 - X p w * u.1, X u p * w.2 - X p w * u.2)).reverse ++ [(X u v * w.1 - X v w * u.1, X u v * w.2 - X v w * u.2)]) := by
    rw [List.map_cons, List.map_append, List.map_cons, List.map_nil, eu]
    simp
  rw [el] at k1 r1 r2
  have xg : X u (X u v * w.1 - X v w * u.1, X u v * w.2 - X v w * u.2) = X u v := by
    have : X u (X u v * w.1 - X v w * u.1, X u v * w.2 - X v w * u.2) = X u v * X u w := by unfold X; simp only; grind
    rw [this, xuw]; omega
  have xw : X (w.1 + u.1, w.2 + u.2) (X u v * w.1 - X v w * u.1, X u v * w.2 - X v w * u.2) = X u v - X w v := by
    have : X (w.1 + u.1, w.2 + u.2) (X u v * w.1 - X v w * u.1, X u v * w.2 - X v w * u.2) = X u w * (X u v + X v w) := by unfold X; simp only; grind
    rw [this, xuw, X_sw (p := v)]
    omega
  have F : Fb u (X u v * w.1 - X v w * u.1, X u v * w.2 - X v w * u.2) (w.1 + u.1, w.2 + u.2) := by
    refine ⟨?_, ?_, ?_⟩
    · have : X u (w.1 + u.1, w.2 + u.2) = X u w := by unfold X; simp only; grind
      rw [this, xuw]
    · rw [xw]; have := hw.hi; omega
    · rw [xw, xg]; omega
  have o2 := CB.only _ _ _ _ r1 r2 F
  rw [← o1.2, ← k1, o2.2, xg, xw]
theorem q_rev {a b : Nat} {ps : List Int} (h1 : M[a]? = some (.lst (nts ps))) (h2 : M[b]? = some (.lst (nts ps))) : eqF 12 M (.ref a) (.ref b) = some true := by
  rw [q_nts h1 h2, decide_eq_true rfl]
theorem wg_rw (h : Wg u v) (hw : Fb u v w) (hl : X u v ≤ 80000) : Rw (hj (X u v) (X w v)) := by
  have f := fr_hj _ (X u v) (X w v) rfl hw.lo hw.hi (gcd_row h hw)
  have sm := CB.hj_small _ (X u v) (X w v) rfl hw.lo hw.hi
  have ln := DL.hj_len _ (X u v) (X w v) rfl
  have hi := hw.hi
  have lo := hw.lo
  refine ⟨fun k hk => by have := sm k hk; omega, by omega, by rw [f]; show X u v < _; omega, ?_⟩
  by_cases z : hj (X u v) (X w v) = []
  · rw [z]; simp [du, col]
  · rw [← hj_du z fun k hk => (sm k hk).1, f]
    show (hj (X u v) (X u v - X w v)).length ≤ 90000
    have := DL.hj_len _ (X u v) (X u v - X w v) rfl
    omega
theorem turn_ok {N : Ro → Sto → Prop} {R : D → Sto → Prop} {B C : Ro → Sto → Prop} {ns : List Int} {i : Nat} {x2 x3 x4 x5 x6 : Option D} (hi0 : i < 1000) (hN : ∀ x2 x3 x4 x5 x6 M', N [some (.rol (ns.map D.int)), some (.int i), x2, x3, x4, x5, x6] M') : wS (g_law_b1 [some (.rol (ns.map D.int)), some (.int i), x2, x3, x4, x5, x6] M) N R B C E := by
  simp! [g_law_b1, e_purse]
  refine CB.purse_w hi0 fun a b ha => ?_
  have B0 : Bag M.length (M ++ [.lst [.int a, .int b]]) := ⟨a, b, ha, by simp⟩
  generalize M ++ [SO.lst [.int a, .int b]] = M0 at *
  generalize M.length = n at *
  simp! [e_wedge]
  refine CB.wedge_w B0 fun u v M1 hw bu bv xl g1 => ?_
  obtain ⟨w, hf⟩ := CB.fb_ex hw
  have R1 := wg_rw hw hf xl
  simp! [e_row]
  refine CB.row_w hw hf (by omega) ?_
  have K2 : Kp M1 (M1 ++ [SO.lst (nts (hj (X u v) (X w v)))]) := Kp.app
  have r2 : (M1 ++ [SO.lst (nts (hj (X u v) (X w v)))])[M1.length]? = some (.lst (nts (hj (X u v) (X w v)))) := by simp
  have ne : M1.length ≠ n := by have := g1.bag.lt; omega
  generalize M1 ++ [SO.lst (nts (hj (X u v) (X w v)))] = M2 at *
  generalize M1.length = ol at *
  have B2 := K2.bag g1.bag
  simp! [wO_ok]
  refine good_w r2 R1 fun M3 K3 => ?_
  have r3 := K3.get r2
  have B3 := K3.bag B2
  simp! [e_num]
  refine numbers_w B3 fun L m M4 dr ml r4 g4 => ?_
  have s4 := CA.Gr.up r3 g4 ne
  simp! [wO_ok]
  refine good_w r4 (Rw.dr dr) fun M5 K5 => ?_
  have s5 := K5.get s4
  simp! [e_row]
  have Wb : Wg v (0 - u.1, 0 - u.2) := by
    refine ⟨hw.gv, ?_, hw.bv, ?_, ?_⟩
    · show Int.gcd (0 - u.1) (0 - u.2) = 1
      rw [show 0 - u.1 = -u.1 by omega, show 0 - u.2 = -u.2 by omega, Int.neg_gcd, Int.gcd_neg]
      exact hw.gu
    · have := hw.bu; unfold Bd at *; simp only; omega
    · have := hw.pos
      have e : X v (0 - u.1, 0 - u.2) = X u v := by unfold X; simp only; grind
      omega
  have xv : X v (0 - u.1, 0 - u.2) = X u v := by unfold X; simp only; grind
  obtain ⟨w', hf'⟩ := CB.fb_ex Wb
  have rv : (hj (X v (0 - u.1, 0 - u.2)) (X w' (0 - u.1, 0 - u.2))).reverse = du (hj (X u v) (X w v)) := by
    by_cases n1 : 1 < X u v
    · rw [rev_row hw hf hf' n1]
      have f := fr_hj _ (X u v) (X w v) rfl hf.lo hf.hi (gcd_row hw hf)
      have ne : hj (X u v) (X w v) ≠ [] := fun z => by
        rw [z] at f
        have := congrArg Prod.fst f
        simp only [fr] at this
        omega
      have := hj_du ne fun k hk => (R1.two k hk).1
      rw [f] at this
      exact this
    · have p := hw.pos
      have x1 : X u v = 1 := by omega
      have q0 : X w v = 0 := by have := hf.lo; have := hf.hi; omega
      have q1 : X w' (0 - u.1, 0 - u.2) = 0 := by have := hf'.lo; have := hf'.hi; omega
      rw [q0, q1]
      have h0 (t : Int) : hj t 0 = [] := by rw [hj, dif_neg (by decide)]
      rw [h0, h0]
      rfl
  refine CB.row_w (u := v) (v := (0 - u.1, 0 - u.2)) Wb hf' (by omega) ?_
  generalize hj (X v (0 - u.1, 0 - u.2)) (X w' (0 - u.1, 0 - u.2)) = ks at *
  have K6 : Kp M5 (M5 ++ [SO.lst (nts ks)]) := Kp.app
  have r6 : (M5 ++ [SO.lst (nts ks)])[M5.length]? = some (.lst (nts ks)) := by simp
  have s6 := K6.get s5
  generalize M5 ++ [SO.lst (nts ks)] = M6 at *
  have l6 := lt_get r6
  simp! [y_lrR, r6, e_col]
  have K7 : Kp M6 (M6 ++ [SO.lst (nts ks).reverse]) := Kp.app
  have e7 : (nts ks).reverse = nts (du (hj (X u v) (X w v))) := by rw [← rv]; simp [nts]
  have r7 : (M6 ++ [SO.lst (nts ks).reverse])[M6.length]? = some (.lst (nts (du (hj (X u v) (X w v))))) := by rw [s_at0, e7]; rfl
  have s7 := K7.get s6
  generalize M6 ++ [SO.lst (nts ks).reverse] = M7 at *
  refine columns_w s7 R1.two R1.sum fun o8 M8 K8 l8 r8 => ?_
  have e8 := q_rev (K8.get r7) r8
  simp! [e8]
  exact hN _ _ _ _ _ _
theorem law_true (ns : List Int) (h : ns.length ≤ 63) : ∃ M', F_law [.rol (ns.map D.int)] [] = .ok (.bl true) M' := by
  have w : wO (F_law [.rol (ns.map D.int)] []) (fun d _ => d = .bl true) (fun _ _ => False) := by
    simp! [F_law, g_law]
    refine ⟨by omega, ?_⟩
    refine wS_rng (fun _ ρ _ => ∃ x1 x2 x3 x4 x5 x6, ρ = [some (.rol (ns.map D.int)), x1, x2, x3, x4, x5, x6]) ⟨_, _, _, _, _, _, rfl⟩ ?_ ?_
    · rintro i ρ M hi ⟨x1, x2, x3, x4, x5, x6, rfl⟩
      rw [show (0 : Int) + (i : Int) = i by omega]
      simp! [wO_ok]
      exact turn_ok (by omega) fun _ _ _ _ _ _ => ⟨_, _, _, _, _, _, rfl⟩
    · rintro ρ M ⟨x1, x2, x3, x4, x5, x6, rfl⟩
      simp! [e_opp]
      have r0 : (M ++ [SO.lst []])[M.length]? = some (.lst (nts [])) := by simp [nts]
      generalize M ++ [SO.lst []] = M0 at *
      refine opp_w r0 ⟨by simp, by simp, by simp [fr], by simp [du, col]⟩ fun o M1 K1 l1 r1 => ?_
      have e1 : eqF 12 (M1 ++ [SO.lst []]) (.ref o) (.ref M1.length) = some (decide (du [] = [])) := q_nts (by rw [s_old (lt_get r1)]; exact r1) (by simp [nts])
      simp! [e1]
      rfl
  obtain ⟨d, M', e, rfl⟩ := wO_get w
  exact ⟨M', e⟩
end
end K13


end
set_option Elab.async false
set_option linter.all false
set_option maxRecDepth 100000
set_option maxHeartbeats 4000000
namespace K13
open PySem PySem.Spec L2 DL
noncomputable def fO (n : Str) (st : Stmt) (cd : Nat) (m : Str) (t : Nat) : Obj := ⟨.type "function", none, .func (PySem.W.fnOf n n (defArgs st) (defBody st) (defScope st) .none .none .none (.str m t) none (.ref cd) .none), #[]⟩
noncomputable def topP (p : Program) (i : Nat) : Stmt := p.main.body.getD i (.Pass ⟨0, 0, 0, 0⟩)
noncomputable def Kf (p : Program) (P : Params) : PySem.W.Frag := [(3, { cls := Value.type "dict", data := Data.dict #[{ hash := PyData.keyHash P (Str.ofString "__name__"), key := Value.str (Str.ofString "__name__") 165, val := Value.str (Str.ofString "law_rayround_k13_opposite_rows") 294 }, { hash := PyData.keyHash P (Str.ofString "__doc__"), key := Value.str (Str.ofString "__doc__") 166, val := Value.none }, { hash := PyData.keyHash P (Str.ofString "__package__"), key := Value.str (Str.ofString "__package__") 167, val := Value.none }, { hash := PyData.keyHash P (Str.ofString "__loader__"), key := Value.str (Str.ofString "__loader__") 168, val := Value.builtin "__main__.__loader__#opaque" }, { hash := PyData.keyHash P (Str.ofString "__spec__"), key := Value.str (Str.ofString "__spec__") 169, val := Value.none }, { hash := PyData.keyHash P (Str.ofString "__annotations__"), key := Value.str (Str.ofString "__annotations__") 170, val := Value.ref 6 }, { hash := PyData.keyHash P (Str.ofString "__builtins__"), key := Value.str (Str.ofString "__builtins__") 171, val := Value.ref 4 }, { hash := PyData.keyHash P (Str.ofString "__file__"), key := Value.str (Str.ofString "__file__") 173, val := Value.str (Str.ofString "/claim/cut.py") 172 }, { hash := PyData.keyHash P (Str.ofString "__cached__"), key := Value.str (Str.ofString "__cached__") 174, val := Value.none }, { hash := PyData.keyHash P (Str.ofString "RayError"), key := Value.str (Str.ofString "RayError") 206, val := Value.ref 24 }, { hash := PyData.keyHash P (Str.ofString "NoWedge"), key := Value.str (Str.ofString "NoWedge") 222, val := Value.ref 37 }, { hash := PyData.keyHash P (Str.ofString "crossed"), key := Value.str (Str.ofString "crossed") 232, val := Value.ref 46 }, { hash := PyData.keyHash P (Str.ofString "partner"), key := Value.str (Str.ofString "partner") 246, val := Value.ref 53 }, { hash := PyData.keyHash P (Str.ofString "first_behind"), key := Value.str (Str.ofString "first_behind") 256, val := Value.ref 60 }, { hash := PyData.keyHash P (Str.ofString "expanded"), key := Value.str (Str.ofString "expanded") 266, val := Value.ref 67 }, { hash := PyData.keyHash P (Str.ofString "row"), key := Value.str (Str.ofString "row") 274, val := Value.ref 74 }, { hash := PyData.keyHash P (Str.ofString "fraction"), key := Value.str (Str.ofString "fraction") 284, val := Value.ref 81 }, { hash := PyData.keyHash P (Str.ofString "opposite"), key := Value.str (Str.ofString "opposite") 293, val := Value.ref 88 }, { hash := PyData.keyHash P (Str.ofString "_law_purse"), key := Value.str (Str.ofString "_law_purse") 305, val := Value.ref 95 }, { hash := PyData.keyHash P (Str.ofString "_law_take"), key := Value.str (Str.ofString "_law_take") 314, val := Value.ref 102 }, { hash := PyData.keyHash P (Str.ofString "_law_crossed"), key := Value.str (Str.ofString "_law_crossed") 322, val := Value.ref 109 }, { hash := PyData.keyHash P (Str.ofString "_law_short"), key := Value.str (Str.ofString "_law_short") 331, val := Value.ref 116 }, { hash := PyData.keyHash P (Str.ofString "_law_wedge"), key := Value.str (Str.ofString "_law_wedge") 341, val := Value.ref 123 }, { hash := PyData.keyHash P (Str.ofString "_law_numbers"), key := Value.str (Str.ofString "_law_numbers") 347, val := Value.ref 128 }, { hash := PyData.keyHash P (Str.ofString "_law_columns"), key := Value.str (Str.ofString "_law_columns") 353, val := Value.ref 133 }, { hash := PyData.keyHash P (Str.ofString "_law_good"), key := Value.str (Str.ofString "_law_good") 363, val := Value.ref 140 }, { hash := PyData.keyHash P (Str.ofString "law"), key := Value.str (Str.ofString "law") 376, val := Value.ref 147 }] 27 }),
  (46, fO "crossed" (topP p 4) 45 "rayround.pairs" 223),
  (45, { cls := Value.type "code", data := Data.fields #[Value.str (Str.ofString "crossed") 225, Value.str (Str.ofString "crossed") 226, Value.str (Str.ofString "/claim/cut.py") 227, Value.int 7 0, Value.int 2 0, Value.int 0 0, Value.int 0 0, Value.int 3 0, Value.ref 40, Value.bool true, Value.int 181 0, Value.ref 41, Value.none, Value.ref 42, Value.ref 43, Value.ref 44, Value.int 230 0, Value.int 7 0, Value.str (Str.ofString "/claim/cut.py") 231] }),
  (53, fO "partner" (topP p 6) 52 "rayround.wedges" 233),
  (52, { cls := Value.type "code", data := Data.fields #[Value.str (Str.ofString "partner") 235, Value.str (Str.ofString "partner") 236, Value.str (Str.ofString "/claim/cut.py") 237, Value.int 10 0, Value.int 1 0, Value.int 0 0, Value.int 0 0, Value.int 3 0, Value.ref 47, Value.bool true, Value.int 181 0, Value.ref 48, Value.none, Value.ref 49, Value.ref 50, Value.ref 51, Value.int 244 0, Value.int 10 0, Value.str (Str.ofString "/claim/cut.py") 245] }),
  (60, fO "first_behind" (topP p 7) 59 "rayround.wedges" 233),
  (59, { cls := Value.type "code", data := Data.fields #[Value.str (Str.ofString "first_behind") 247, Value.str (Str.ofString "first_behind") 248, Value.str (Str.ofString "/claim/cut.py") 249, Value.int 18 0, Value.int 2 0, Value.int 0 0, Value.int 0 0, Value.int 3 0, Value.ref 54, Value.bool true, Value.int 181 0, Value.ref 55, Value.none, Value.ref 56, Value.ref 57, Value.ref 58, Value.int 254 0, Value.int 18 0, Value.str (Str.ofString "/claim/cut.py") 255] }),
  (67, fO "expanded" (topP p 8) 66 "rayround.wedges" 233),
  (66, { cls := Value.type "code", data := Data.fields #[Value.str (Str.ofString "expanded") 257, Value.str (Str.ofString "expanded") 258, Value.str (Str.ofString "/claim/cut.py") 259, Value.int 22 0, Value.int 2 0, Value.int 0 0, Value.int 0 0, Value.int 3 0, Value.ref 61, Value.bool true, Value.int 181 0, Value.ref 62, Value.none, Value.ref 63, Value.ref 64, Value.ref 65, Value.int 264 0, Value.int 22 0, Value.str (Str.ofString "/claim/cut.py") 265] }),
  (74, fO "row" (topP p 9) 73 "rayround.wedges" 233),
  (73, { cls := Value.type "code", data := Data.fields #[Value.str (Str.ofString "row") 267, Value.str (Str.ofString "row") 268, Value.str (Str.ofString "/claim/cut.py") 269, Value.int 29 0, Value.int 2 0, Value.int 0 0, Value.int 0 0, Value.int 3 0, Value.ref 68, Value.bool true, Value.int 181 0, Value.ref 69, Value.none, Value.ref 70, Value.ref 71, Value.ref 72, Value.int 272 0, Value.int 29 0, Value.str (Str.ofString "/claim/cut.py") 273] }),
  (81, fO "fraction" (topP p 10) 80 "rayround.wedges" 233),
  (80, { cls := Value.type "code", data := Data.fields #[Value.str (Str.ofString "fraction") 275, Value.str (Str.ofString "fraction") 276, Value.str (Str.ofString "/claim/cut.py") 277, Value.int 33 0, Value.int 1 0, Value.int 0 0, Value.int 0 0, Value.int 3 0, Value.ref 75, Value.bool true, Value.int 181 0, Value.ref 76, Value.none, Value.ref 77, Value.ref 78, Value.ref 79, Value.int 282 0, Value.int 33 0, Value.str (Str.ofString "/claim/cut.py") 283] }),
  (88, fO "opposite" (topP p 11) 87 "rayround.wedges" 233),
  (87, { cls := Value.type "code", data := Data.fields #[Value.str (Str.ofString "opposite") 285, Value.str (Str.ofString "opposite") 286, Value.str (Str.ofString "/claim/cut.py") 287, Value.int 38 0, Value.int 1 0, Value.int 0 0, Value.int 0 0, Value.int 3 0, Value.ref 82, Value.bool true, Value.int 181 0, Value.ref 83, Value.none, Value.ref 84, Value.ref 85, Value.ref 86, Value.int 291 0, Value.int 38 0, Value.str (Str.ofString "/claim/cut.py") 292] }),
  (95, fO "_law_purse" (topP p 13) 94 "law_rayround_k13_opposite_rows" 294),
  (94, { cls := Value.type "code", data := Data.fields #[Value.str (Str.ofString "_law_purse") 296, Value.str (Str.ofString "_law_purse") 297, Value.str (Str.ofString "/claim/cut.py") 298, Value.int 44 0, Value.int 2 0, Value.int 0 0, Value.int 0 0, Value.int 3 0, Value.ref 89, Value.bool true, Value.int 181 0, Value.ref 90, Value.none, Value.ref 91, Value.ref 92, Value.ref 93, Value.int 303 0, Value.int 44 0, Value.str (Str.ofString "/claim/cut.py") 304] }),
  (102, fO "_law_take" (topP p 14) 101 "law_rayround_k13_opposite_rows" 294),
  (101, { cls := Value.type "code", data := Data.fields #[Value.str (Str.ofString "_law_take") 306, Value.str (Str.ofString "_law_take") 307, Value.str (Str.ofString "/claim/cut.py") 308, Value.int 50 0, Value.int 2 0, Value.int 0 0, Value.int 0 0, Value.int 3 0, Value.ref 96, Value.bool true, Value.int 181 0, Value.ref 97, Value.none, Value.ref 98, Value.ref 99, Value.ref 100, Value.int 312 0, Value.int 50 0, Value.str (Str.ofString "/claim/cut.py") 313] }),
  (109, fO "_law_crossed" (topP p 15) 108 "law_rayround_k13_opposite_rows" 294),
  (108, { cls := Value.type "code", data := Data.fields #[Value.str (Str.ofString "_law_crossed") 315, Value.str (Str.ofString "_law_crossed") 316, Value.str (Str.ofString "/claim/cut.py") 317, Value.int 57 0, Value.int 2 0, Value.int 0 0, Value.int 0 0, Value.int 3 0, Value.ref 103, Value.bool true, Value.int 181 0, Value.ref 104, Value.none, Value.ref 105, Value.ref 106, Value.ref 107, Value.int 320 0, Value.int 57 0, Value.str (Str.ofString "/claim/cut.py") 321] }),
  (116, fO "_law_short" (topP p 16) 115 "law_rayround_k13_opposite_rows" 294),
  (115, { cls := Value.type "code", data := Data.fields #[Value.str (Str.ofString "_law_short") 323, Value.str (Str.ofString "_law_short") 324, Value.str (Str.ofString "/claim/cut.py") 325, Value.int 59 0, Value.int 1 0, Value.int 0 0, Value.int 0 0, Value.int 3 0, Value.ref 110, Value.bool true, Value.int 181 0, Value.ref 111, Value.none, Value.ref 112, Value.ref 113, Value.ref 114, Value.int 329 0, Value.int 59 0, Value.str (Str.ofString "/claim/cut.py") 330] }),
  (123, fO "_law_wedge" (topP p 17) 122 "law_rayround_k13_opposite_rows" 294),
  (122, { cls := Value.type "code", data := Data.fields #[Value.str (Str.ofString "_law_wedge") 332, Value.str (Str.ofString "_law_wedge") 333, Value.str (Str.ofString "/claim/cut.py") 334, Value.int 66 0, Value.int 1 0, Value.int 0 0, Value.int 0 0, Value.int 3 0, Value.ref 117, Value.bool true, Value.int 181 0, Value.ref 118, Value.none, Value.ref 119, Value.ref 120, Value.ref 121, Value.int 339 0, Value.int 66 0, Value.str (Str.ofString "/claim/cut.py") 340] }),
  (128, fO "_law_numbers" (topP p 18) 127 "law_rayround_k13_opposite_rows" 294),
  (127, { cls := Value.type "code", data := Data.fields #[Value.str (Str.ofString "_law_numbers") 342, Value.str (Str.ofString "_law_numbers") 343, Value.str (Str.ofString "/claim/cut.py") 344, Value.int 75 0, Value.int 1 0, Value.int 0 0, Value.int 0 0, Value.int 3 0, Value.ref 124, Value.bool true, Value.int 181 0, Value.ref 125, Value.none, Value.none, Value.none, Value.ref 126, Value.int 345 0, Value.int 75 0, Value.str (Str.ofString "/claim/cut.py") 346] }),
  (133, fO "_law_columns" (topP p 19) 132 "law_rayround_k13_opposite_rows" 294),
  (132, { cls := Value.type "code", data := Data.fields #[Value.str (Str.ofString "_law_columns") 348, Value.str (Str.ofString "_law_columns") 349, Value.str (Str.ofString "/claim/cut.py") 350, Value.int 87 0, Value.int 1 0, Value.int 0 0, Value.int 0 0, Value.int 3 0, Value.ref 129, Value.bool true, Value.int 181 0, Value.ref 130, Value.none, Value.none, Value.none, Value.ref 131, Value.int 351 0, Value.int 87 0, Value.str (Str.ofString "/claim/cut.py") 352] }),
  (140, fO "_law_good" (topP p 20) 139 "law_rayround_k13_opposite_rows" 294),
  (139, { cls := Value.type "code", data := Data.fields #[Value.str (Str.ofString "_law_good") 354, Value.str (Str.ofString "_law_good") 355, Value.str (Str.ofString "/claim/cut.py") 356, Value.int 95 0, Value.int 1 0, Value.int 0 0, Value.int 0 0, Value.int 3 0, Value.ref 134, Value.bool true, Value.int 181 0, Value.ref 135, Value.none, Value.ref 136, Value.ref 137, Value.ref 138, Value.int 361 0, Value.int 95 0, Value.str (Str.ofString "/claim/cut.py") 362] }),
  (147, fO "law" (topP p 21) 146 "law_rayround_k13_opposite_rows" 294),
  (146, { cls := Value.type "code", data := Data.fields #[Value.str (Str.ofString "law") 364, Value.str (Str.ofString "law") 365, Value.str (Str.ofString "/claim/cut.py") 366, Value.int 106 0, Value.int 1 0, Value.int 0 0, Value.int 0 0, Value.int 3 0, Value.ref 141, Value.bool true, Value.int 181 0, Value.ref 142, Value.none, Value.ref 143, Value.ref 144, Value.ref 145, Value.int 374 0, Value.int 106 0, Value.str (Str.ofString "/claim/cut.py") 375] }),
  (23, { cls := Value.type "dict", data := Data.dict #[{ hash := PyData.keyHash P (Str.ofString "__module__"), key := Value.str (Str.ofString "__module__") 196, val := Value.str (Str.ofString "rayround.errors") 187 }, { hash := PyData.keyHash P (Str.ofString "__firstlineno__"), key := Value.str (Str.ofString "__firstlineno__") 200, val := Value.int 2 199 }, { hash := PyData.keyHash P (Str.ofString "__static_attributes__"), key := Value.str (Str.ofString "__static_attributes__") 201, val := Value.ref 22 }, { hash := PyData.keyHash P (Str.ofString "__weakref__"), key := Value.str (Str.ofString "__weakref__") 203, val := Value.ref 25 }, { hash := PyData.keyHash P (Str.ofString "__doc__"), key := Value.str (Str.ofString "__doc__") 204, val := Value.none }] 3 }),
  (24, { cls := Value.type "type", data := Data.cls { name := Str.ofString "RayError", bases := [Value.type "ValueError"], mro := [Value.ref 24, Value.type "ValueError", Value.type "Exception", Value.type "BaseException", Value.type "object"], ns := 23, qualname := Str.ofString "RayError", subclasses := [Value.ref 37] }, slots := #[some (Value.ref 15), none, some (Value.str (Str.ofString "RayError") 189), some (Value.str (Str.ofString "RayError") 197), some (Value.builtin "ValueError.__new__"), some (Value.bool true)] }),
  (36, { cls := Value.type "dict", data := Data.dict #[{ hash := PyData.keyHash P (Str.ofString "__module__"), key := Value.str (Str.ofString "__module__") 214, val := Value.str (Str.ofString "rayround.errors") 187 }, { hash := PyData.keyHash P (Str.ofString "__firstlineno__"), key := Value.str (Str.ofString "__firstlineno__") 218, val := Value.int 4 217 }, { hash := PyData.keyHash P (Str.ofString "__static_attributes__"), key := Value.str (Str.ofString "__static_attributes__") 219, val := Value.ref 35 }, { hash := PyData.keyHash P (Str.ofString "__doc__"), key := Value.str (Str.ofString "__doc__") 220, val := Value.none }] 2 }),
  (37, { cls := Value.type "type", data := Data.cls { name := Str.ofString "NoWedge", bases := [Value.ref 24], mro := [Value.ref 37, Value.ref 24, Value.type "ValueError", Value.type "Exception", Value.type "BaseException", Value.type "object"], ns := 36, qualname := Str.ofString "NoWedge" }, slots := #[some (Value.ref 28), none, some (Value.str (Str.ofString "NoWedge") 207), some (Value.str (Str.ofString "NoWedge") 215), some (Value.builtin "ValueError.__new__"), some (Value.bool true)] })]
noncomputable def asK : List Addr := [3, 46, 45, 53, 52, 60, 59, 67, 66, 74, 73, 81, 80, 88, 87, 95, 94, 102, 101, 109, 108, 116, 115, 123, 122, 128, 127, 133, 132, 140, 139, 147, 146, 23, 24, 36, 37]
theorem asK_ok (p : Program) (P : Params) : asK = (Kf p P).map (·.1) := rfl
noncomputable def qf (p : Program) : Program := { p with main := { p.main with body := [topP p 21] } }
noncomputable def lo : List Str := [("__name__" : Str), ("RayError" : Str), ("NoWedge" : Str), ("crossed" : Str), ("partner" : Str), ("first_behind" : Str), ("expanded" : Str), ("row" : Str), ("fraction" : Str), ("opposite" : Str), ("_law_purse" : Str), ("_law_take" : Str), ("_law_crossed" : Str), ("_law_short" : Str), ("_law_wedge" : Str), ("_law_numbers" : Str), ("_law_columns" : Str), ("_law_good" : Str)]
theorem walk {l : PySem.W.OpenLaw} {q : Program} {loose : List Str} {XP : (Str → Option Value) → Heap → Prop} {YP : World → Heap → Prop} {d : DefRec} {K : Params → PySem.W.Frag} (hn : l.most = some 63) (hdf : d.params.defaults = [])
    (hY : ∀ (w : World) (h : Heap), YP w h → (K w.params).In h)
    (F : ∀ (w : World) (mg : Str → Option Value) (fa : Addr) (h : Heap), (K w.params).In h → h.Ns mainGlobals mg → mg d.name = some (.ref fa) →
      ∃ fd : FuncData, (∀ (s : Shared) (u : Value), BindsTo s fd ⟨[u], []⟩ [("_law_script", u)]) ∧ ∀ base : Heap, (K w.params).In base → base.Ns mainGlobals mg → FnOk l.prog w (K w.params) mg base (CXE l.prog w) 104 fa fd ["_law_script"] (spD (K w.params) F_law)) :
    PySem.W.WalkO q loose XP YP l.row.toRowW d [] (fun f vs => PySem.call f vs) :=
  L2.walk_of (n := 63) (k := 104) (x := "_law_script") (CX := fun w => CXE l.prog w) (sp := fun w => spD (K w.params) F_law) hn (by decide) hdf ⟨fun _ => rfl, by decide, by decide⟩ hY F (fun _ _ a ns hl hO hS => DL.law_sp hl hO hS (law_true ns hl)) fun _ _ _ _ _ ⟨_, _, _, _, _, _, _, _, _, _, _, _, _, q⟩ => q
end K13
open PySem PySem.W PyProof.Rows
lay_quick PySem.Challenge.pw_rayround_k13_opposite_rows
namespace K13
noncomputable abbrev Hk : Hook := kHook (Kf PySem.Challenge.pw_rayround_k13_opposite_rows) asK (asK_ok PySem.Challenge.pw_rayround_k13_opposite_rows)
noncomputable def Xs (s : Shared) : Bool := xlAt (qf PySem.Challenge.pw_rayround_k13_opposite_rows) [] s && recOk (RowW.records (OpenRow.toRowW (OpenLaw.row PySem.Challenge.rw_rayround_k13_opposite_rows))) s
set_option maxRecDepth 1000000 in
set_option maxHeartbeats 0 in
theorem shot (w : World) (os : OsState) : (HD.runG through (HD.stpG (stepOk 11 (some (.ref 6))) (stepT (denote treeTable) PySem.Challenge.pw_rayround_k13_opposite_rows w)) 974 (HD.T0 w os) (topStub PySem.Challenge.pw_rayround_k13_opposite_rows)).map (fun s => ((staticsOk (importedModules PySem.Challenge.pw_rayround_k13_opposite_rows.main.body) (boot_heap w.params) s.abs.heap && namesBound PySem.Challenge.pw_rayround_k13_opposite_rows s.abs.heap && gensDone s.abs && laidKept (boot_heap w.params) s.abs.heap),
    openSeen (qf PySem.Challenge.pw_rayround_k13_opposite_rows) lo (importedModules PySem.Challenge.pw_rayround_k13_opposite_rows.main.body) (fun s => xlAt (qf PySem.Challenge.pw_rayround_k13_opposite_rows) [] s && recOk [] s) true s.abs, asK.map s.abs.heap.get?)) = some (true, openGood (qf PySem.Challenge.pw_rayround_k13_opposite_rows) lo, (Kf PySem.Challenge.pw_rayround_k13_opposite_rows w.params).map fun x => some x.2) := by
  rw [HD.te_ok, HD.te_step, HD.te_den, HD.te_tab, HD.te_seen, HD.te_imp, PySem.W.Fast.te545360131958970509]
  kernel_rfl
end K13
set_option maxRecDepth 1000000 in
set_option maxHeartbeats 0 in
theorem PySem.Challenge.cw_rayround_k13_opposite_rows_holds : PySem.Challenge.rw_rayround_k13_opposite_rows.Holds := by
  w_on; o_law
  refine holds_open (q := K13.qf PySem.Challenge.pw_rayround_k13_opposite_rows) (loose := K13.lo) (Xt := fun s => xlAt (K13.qf PySem.Challenge.pw_rayround_k13_opposite_rows) [] s && recOk [] s) (XP := XL (K13.qf PySem.Challenge.pw_rayround_k13_opposite_rows) []) (Yf := Hook.obs K13.Hk) (Ya := Hook.val K13.Hk) (YP := Hook.says K13.Hk) (N := 1574) ?hl (Hook.of K13.Hk) (Hook.keeps K13.Hk) (fun s e => xl_of s (Bool.and_eq_true_iff.mp e).1) XL.keeps (by rfl) (by rfl) (by rfl) (fun s e => recFacts_of (Bool.and_eq_true_iff.mp e).2) (by rfl) (by first | assumption | decide +kernel) (by decide +kernel) ⟨rfl, rfl, rfl, rfl, rfl, by decide +kernel⟩ ?hw ?hc
  case hl => exact HD.left_shot rfl (by decide) (fun s => rfl) (by decide) K13.shot
  case hw => w_witness2
  case hc =>
    refine K13.walk (l := PySem.Challenge.rw_rayround_k13_opposite_rows) rfl rfl (fun w h Y => PySem.W.kIn_of Y) ?F
    intro w mg fa h KX G hmg
    refine K13.all_mk (f1 := 46) (od1 := none) (an1 := none) (sl1 := #[]) (oc1 := .type "function") (kV1 := .none) (dc1 := .none) (pm1 := .str "rayround.pairs" 223) (cd1 := .ref 45) (ct1 := .none) (f2 := 53) (od2 := none) (an2 := none) (sl2 := #[]) (oc2 := .type "function") (kV2 := .none) (dc2 := .none) (pm2 := .str "rayround.wedges" 233) (cd2 := .ref 52) (ct2 := .none) (f3 := 60) (od3 := none) (an3 := none) (sl3 := #[]) (oc3 := .type "function") (kV3 := .none) (dc3 := .none) (pm3 := .str "rayround.wedges" 233) (cd3 := .ref 59) (ct3 := .none) (f4 := 67) (od4 := none) (an4 := none) (sl4 := #[]) (oc4 := .type "function") (kV4 := .none) (dc4 := .none) (pm4 := .str "rayround.wedges" 233) (cd4 := .ref 66) (ct4 := .none) (f5 := 74) (od5 := none) (an5 := none) (sl5 := #[]) (oc5 := .type "function") (kV5 := .none) (dc5 := .none) (pm5 := .str "rayround.wedges" 233) (cd5 := .ref 73) (ct5 := .none) (f6 := 81) (od6 := none) (an6 := none) (sl6 := #[]) (oc6 := .type "function") (kV6 := .none) (dc6 := .none) (pm6 := .str "rayround.wedges" 233) (cd6 := .ref 80) (ct6 := .none) (f7 := 88) (od7 := none) (an7 := none) (sl7 := #[]) (oc7 := .type "function") (kV7 := .none) (dc7 := .none) (pm7 := .str "rayround.wedges" 233) (cd7 := .ref 87) (ct7 := .none) (f8 := 95) (od8 := none) (an8 := none) (sl8 := #[]) (oc8 := .type "function") (kV8 := .none) (dc8 := .none) (pm8 := .str "law_rayround_k13_opposite_rows" 294) (cd8 := .ref 94) (ct8 := .none) (f9 := 102) (od9 := none) (an9 := none) (sl9 := #[]) (oc9 := .type "function") (kV9 := .none) (dc9 := .none) (pm9 := .str "law_rayround_k13_opposite_rows" 294) (cd9 := .ref 101) (ct9 := .none) (f10 := 109) (od10 := none) (an10 := none) (sl10 := #[]) (oc10 := .type "function") (kV10 := .none) (dc10 := .none) (pm10 := .str "law_rayround_k13_opposite_rows" 294) (cd10 := .ref 108) (ct10 := .none) (f11 := 116) (od11 := none) (an11 := none) (sl11 := #[]) (oc11 := .type "function") (kV11 := .none) (dc11 := .none) (pm11 := .str "law_rayround_k13_opposite_rows" 294) (cd11 := .ref 115) (ct11 := .none) (f12 := 123) (od12 := none) (an12 := none) (sl12 := #[]) (oc12 := .type "function") (kV12 := .none) (dc12 := .none) (pm12 := .str "law_rayround_k13_opposite_rows" 294) (cd12 := .ref 122) (ct12 := .none) (f13 := 128) (od13 := none) (an13 := none) (sl13 := #[]) (oc13 := .type "function") (kV13 := .none) (dc13 := .none) (pm13 := .str "law_rayround_k13_opposite_rows" 294) (cd13 := .ref 127) (ct13 := .none) (f14 := 133) (od14 := none) (an14 := none) (sl14 := #[]) (oc14 := .type "function") (kV14 := .none) (dc14 := .none) (pm14 := .str "law_rayround_k13_opposite_rows" 294) (cd14 := .ref 132) (ct14 := .none) (f15 := 140) (od15 := none) (an15 := none) (sl15 := #[]) (oc15 := .type "function") (kV15 := .none) (dc15 := .none) (pm15 := .str "law_rayround_k13_opposite_rows" 294) (cd15 := .ref 139) (ct15 := .none) (f16 := 147) (od16 := none) (an16 := none) (sl16 := #[]) (oc16 := .type "function") (kV16 := .none) (dc16 := .none) (pm16 := .str "law_rayround_k13_opposite_rows" 294) (cd16 := .ref 146) (ct16 := .none) KX G hmg ?a1 ?l1 ?c1 ?k1 ?a2 ?l2 ?c2 ?k2 ?a3 ?l3 ?c3 ?k3 ?a4 ?l4 ?c4 ?k4 ?a5 ?l5 ?c5 ?k5 ?a6 ?l6 ?c6 ?k6 ?a7 ?l7 ?c7 ?k7 ?a8 ?l8 ?c8 ?k8 ?a9 ?l9 ?c9 ?k9 ?a10 ?l10 ?c10 ?k10 ?a11 ?l11 ?c11 ?k11 ?a12 ?l12 ?c12 ?k12 ?a13 ?l13 ?c13 ?k13 ?a14 ?l14 ?c14 ?k14 ?a15 ?l15 ?c15 ?k15 ?a16 ?l16 ?c16 ?k16 ?z_reversed ?z_len ?z_int ?z_abs ?z_range ?z_list ?z_isinstance ?z_min ?z_max ?q_ex_NoWedge
    all_goals kernel_rfl


