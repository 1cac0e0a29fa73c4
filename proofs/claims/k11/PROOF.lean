import PyProof.Rows.All
import Wide.All
import OpenK.AllK
import Wide.FinOn
import Lean
import PyProof.EqAt
import PyProof.EqKinds
import PyProof.TupleCall
import PySem.Challenge.RW_rayround_k11_rays_between
section
set_option Elab.async false
set_option linter.all false
set_option maxRecDepth 100000
namespace DQ
open PySem PySem.Spec PyProof.Rows
noncomputable def Quiet (A : Around) (h : Heap) : Prop := A.handled = none ∨ ∃ ea oe vs, A.handled = some (.ref ea) ∧ h.get? ea = some oe ∧ oe.data = .fields vs ∧ vs[2]? = some .none
theorem Quiet.keeps {A : Around} {h h' : Heap} (q : Quiet A h) (k : ∀ b o, h.get? b = some o → h'.get? b = some o) : Quiet A h' := by
  rcases q with q | ⟨ea, oe, vs, e1, e2, e3, e4⟩
  · exact .inl q
  · exact .inr ⟨ea, oe, vs, e1, k _ _ e2, e3, e4⟩
theorem entry_unchain : entryFor table "proto.unchain" = some Builtin.«proto.unchain» := entryFor_of_fast (by kernel_rfl)
section
variable {prog : Program} {w : World} {A : Around} {E : Value → Shared → Prop} {s : Shared}
theorem raise_quiet {α : Type} {Q : α → Shared → Prop} {e : Addr} {oe : Obj} {vs : Array Value} (q : Quiet A s.heap) (he : s.heap.get? e = some oe) (hd : oe.data = .fields vs) (hz : 2 < vs.size)
    (h : ∀ h', (∀ b o, b ≠ e → s.heap.get? b = some o → h'.get? b = some o) → (∃ o, h'.get? e = some o ∧ o.cls = oe.cls) → E (.ref e) { s with heap := h' }) : wpAny (model prog w) A (raiseNew (.ref e) : Sem α) Q E s := by
  have same : E (.ref e) s := h s.heap (fun _ _ _ x => x) ⟨oe, he, rfl⟩
  unfold raiseNew
  refine wpAny_bind (wpAny_handled ?_)
  rcases q with q | ⟨ea, oa, ws, q1, q2, q3, q4⟩
  · rw [q]
    exact wpAny_bind (wpAny_pure (wpAny_throw same))
  · rw [q1]
    dsimp only
    by_cases c : (Value.ref ea != Value.ref e) = true
    · rw [if_pos c]
      refine wpAny_bind (wpAny_holding (wpAny_runValue (codeAny_builtin entry_unchain ?_)))
      unfold Builtin.«proto.unchain»
      refine wpAny_bind (wpAny_field q2 q3 q4 ?_)
      refine wpAny_bind (wpAny_pure ?_)
      have sf : wpAny (model prog w) A (setField (.ref e) 2 (.ref ea)) (fun _ s' => wpAny (model prog w) A (throw (Value.ref e) : Sem α) Q E s') E s := by
        refine wpAny_setField he hd hz (wpAny_throw (h _ (fun b o hb x => ?_) ⟨_, Heap.get?_update_self _ he (Obj.isFreed_of_fields (Obj.data_mapFields hd _)), Obj.cls_mapFields _ _⟩))
        rw [Heap.get?_update_other _ _ (Ne.symm hb)]
        exact x
      exact wpAny_pure (wpAny_bind sf)
    · rw [if_neg c]
      exact wpAny_throw same
theorem stop_quiet {α : Type} {Q : α → Shared → Prop} (q : Quiet A s.heap)
    (h : ∀ h' e, (∀ b o, s.heap.get? b = some o → h'.get? b = some o) → (∃ o, h'.get? e = some o ∧ o.cls = .type "StopIteration") → E (.ref e) { s with heap := h' }) :
    wpAny (model prog w) A (newExc (.type "StopIteration") [] >>= fun x => (raiseNew x : Sem α)) Q E s := by
  refine wpAny_bind ?_
  simp only [newExc, newTuple]
  refine wpAny_bind (wpAny_newObj_type ?_ (by size_fits))
  refine wpAny_bind (m := firstArgMember _ _) (wpAny_of_eq (a := Value.none) (by first | rfl | (simp only [firstArgMember]; rfl)) ?_)
  refine wpAny_newObj_type ?_ (by size_fits)
  refine raise_quiet (q.keeps fun b o x => Heap.get?_push_of_some _ (Heap.get?_push_of_some _ x)) (Heap.get?_push_size _ rfl) rfl (by rw [Array.size_append]; exact Nat.lt_of_lt_of_le (by decide : 2 < 6) (Nat.le_add_right _ _)) fun h' k he => ?_
  exact h h' _ (fun b o x => k b o (Nat.ne_of_lt (Nat.lt_of_lt_of_le (Heap.lt_size x) (by rw [Heap.size_push]; exact Nat.le_succ _))) (Heap.get?_push_of_some _ (Heap.get?_push_of_some _ x))) he
theorem stopped {e : Addr} {Q : Bool → Shared → Prop} (he : ∃ o, s.heap.get? e = some o ∧ o.cls = .type "StopIteration") (h : Q true s) : wpAny (model prog w) A (isInstance (.ref e) (.type "StopIteration")) Q E s :=
  let ⟨o, e1, e2⟩ := he
  wpAny_isInstance (T := "StopIteration") (b := true) ⟨o, e1, e2⟩ isSubtype_stop h
theorem Quiet.in1 {h : Heap} (q : Quiet A h) : Quiet A.in1 h := q
noncomputable def EndsAt (it : Addr) (s : Shared) (e : Value) (s' : Shared) : Prop := ∃ a, e = .ref a ∧ (∃ o, s'.heap.get? a = some o ∧ o.cls = .type "StopIteration") ∧ ∃ h', Heap.ExtBut it s.heap h' ∧ s' = { s with heap := h' }
theorem end_of {it : Addr} {T id : String} {b : Builtin} {Q : Option Value → Shared → Prop} (hT : s.TypeIs (.ref it) T) (sl : Slot T (Str.ofString "__next__") id) (hb : entryFor table id = some b) (ha : argsOk id ⟨[.ref it], []⟩)
    (h : wpAny (model prog w) A.in1 (b ⟨[.ref it], []⟩) (fun _ _ => False) (EndsAt it s) s) (hQ : ∀ h', Heap.ExtBut it s.heap h' → Q none { s with heap := h' }) : wpAny (model prog w) A (pyNext (.ref it)) Q E s := by
  unfold pyNext
  refine wpAny_bind (wpAny_attempt (wpAny_callSpecial?_slot (name := Str.ofString "__next__") hT sl (wpAny_call_entry sl hT hb (wpAny_mono h (fun _ _ z => z.elim) fun e s' z => ?_) ha)))
  obtain ⟨a, rfl, ho, h', eb, rfl⟩ := z
  exact wpAny_bind (stopped ho (wpAny_pure (hQ h' eb)))
theorem range_end {it : Addr} {x left step : Int} {Q : Option Value → Shared → Prop} (q : Quiet A s.heap) (hit : IsRangeIter s.heap it x left step) (hl : left ≤ 0)
    (hQ : ∀ h', Heap.ExtBut it s.heap h' → Q none { s with heap := h' }) : wpAny (model prog w) A (pyNext (.ref it)) Q E s := by
  refine end_of ⟨_, hit, rfl⟩ F.slot_range_iterator_next F.entry_range_iterator_next (F.args_range_iterator_next_1 _) ?_ hQ
  refine wpAny_bind (m := field (.ref it) 0) (wpAny_field hit rfl (x := rawInt x) rfl ?_)
  refine wpAny_bind (m := field (.ref it) 1) (wpAny_field hit rfl (x := rawInt left) rfl ?_)
  refine wpAny_bind (m := field (.ref it) 2) (wpAny_field hit rfl (x := rawInt step) rfl ?_)
  dsimp only [rawInt]
  rw [if_pos hl]
  refine wpAny_bind (wpAny_rule (wpAny_bind ?_))
  exact stop_quiet q.in1 fun h' e k ho => ⟨e, rfl, ho, h', fun b o _ z => k b o z, rfl⟩
theorem rise_l {it l : Addr} {i : Nat} {o ol : Obj} {items : Array Value} {n : Nat} (q : Quiet A s.heap) (ho : s.heap.get? it = some o) (hd : o.data = .fields #[.ref l, .int i 0]) (hol : s.heap.get? l = some ol) (hdl : ol.data = .seq items n) (hx : items[i]? = none) :
    wpAny (model prog w) A.in1 (Builtin.«list_iterator.__next__» ⟨[.ref it], []⟩) (fun _ _ => False) (EndsAt it s) s := by
  refine wpAny_bind (m := field (.ref it) 0) (wpAny_field ho hd (x := .ref l) rfl ?_)
  dsimp only
  rw [if_neg (show ¬ ((Value.ref l == Value.none) = true) from Bool.false_ne_true)]
  refine wpAny_bind (m := field (.ref it) 1) (wpAny_field ho hd (x := .int i 0) rfl ?_)
  refine wpAny_bind (m := seqItems? (.ref l)) (wpAny_seqItems hol hdl ?_)
  simp only [Int.toNat_natCast, hx]
  refine wpAny_bind (wpAny_rule (wpAny_bind (wpAny_setField ho hd (by simp) ?_)))
  have q2 : Quiet A.in1 (s.heap.update it (Obj.mapFields (·.setIfInBounds 0 Value.none))) := by
    rcases q with q | ⟨ea, oe, vs, e1, e2, e3, e4⟩
    · exact .inl q
    · refine .inr ⟨ea, oe, vs, e1, ?_, e3, e4⟩
      rw [Heap.get?_update_other _ _ (fun z => ?_)]
      · exact e2
      · rw [← z, ho] at e2
        cases e2
        rw [hd] at e3
        cases e3
        simp at e4
  refine stop_quiet q2 fun h' e k ho => ⟨e, rfl, ho, h', fun b o hb z => k b o ?_, rfl⟩
  rw [Heap.get?_update_other _ _ (Ne.symm hb)]
  exact z
theorem rise_t {it l : Addr} {i : Nat} {o ol : Obj} {items : Array Value} {n : Nat} (q : Quiet A s.heap) (ho : s.heap.get? it = some o) (hd : o.data = .fields #[.ref l, .int i 0]) (hol : s.heap.get? l = some ol) (hdl : ol.data = .seq items n) (hx : items[i]? = none) :
    wpAny (model prog w) A.in1 (Builtin.«tuple_iterator.__next__» ⟨[.ref it], []⟩) (fun _ _ => False) (EndsAt it s) s := by
  refine wpAny_bind (m := field (.ref it) 0) (wpAny_field ho hd (x := .ref l) rfl ?_)
  dsimp only
  rw [if_neg (show ¬ ((Value.ref l == Value.none) = true) from Bool.false_ne_true)]
  refine wpAny_bind (m := field (.ref it) 1) (wpAny_field ho hd (x := .int i 0) rfl ?_)
  refine wpAny_bind (m := seqItems? (.ref l)) (wpAny_seqItems hol hdl ?_)
  simp only [Int.toNat_natCast, hx]
  refine wpAny_bind (wpAny_rule (wpAny_bind (wpAny_setField ho hd (by simp) ?_)))
  have q2 : Quiet A.in1 (s.heap.update it (Obj.mapFields (·.setIfInBounds 0 Value.none))) := by
    rcases q with q | ⟨ea, oe, vs, e1, e2, e3, e4⟩
    · exact .inl q
    · refine .inr ⟨ea, oe, vs, e1, ?_, e3, e4⟩
      rw [Heap.get?_update_other _ _ (fun z => ?_)]
      · exact e2
      · rw [← z, ho] at e2
        cases e2
        rw [hd] at e3
        cases e3
        simp at e4
  refine stop_quiet q2 fun h' e k ho => ⟨e, rfl, ho, h', fun b o hb z => k b o ?_, rfl⟩
  rw [Heap.get?_update_other _ _ (Ne.symm hb)]
  exact z
theorem list_end {it l : Addr} {i : Nat} {items} {Q : Option Value → Shared → Prop} (q : Quiet A s.heap) (hit : s.heap.IsListIter it l i) (hl : s.heap.IsList l items) (hx : items[i]? = none)
    (hQ : ∀ h', Heap.ExtBut it s.heap h' → Q none { s with heap := h' }) : wpAny (model prog w) A (pyNext (.ref it)) Q E s := by
  obtain ⟨o, ho, hc, hd⟩ := id hit
  obtain ⟨ol, hol, _, nl, hdl⟩ := hl
  exact end_of hit.typeIs slot_listiter_next entry_listiter_next (args_listiter_next _) (rise_l q ho hd hol hdl hx) hQ
theorem tuple_end {it l : Addr} {i : Nat} {items} {Q : Option Value → Shared → Prop} (q : Quiet A s.heap) (hit : s.heap.IsTupleIter it l i) (hl : s.heap.IsTuple l items) (hx : items[i]? = none)
    (hQ : ∀ h', Heap.ExtBut it s.heap h' → Q none { s with heap := h' }) : wpAny (model prog w) A (pyNext (.ref it)) Q E s := by
  obtain ⟨o, ho, hc, hd⟩ := id hit
  obtain ⟨ol, hol, _, nl, hdl⟩ := hl
  exact end_of hit.typeIs F.slot_tuple_iterator_next F.entry_tuple_iterator_next (F.args_tuple_iterator_next_1 _) (rise_t q ho hd hol hdl hx) hQ
end
end DQ


end
section
set_option Elab.async false
set_option linter.all false
set_option maxRecDepth 100000
namespace L2
open PySem PySem.Spec PyProof.Rows

noncomputable abbrev Key := Sum Int Str
noncomputable def keyIs : Key → Value → Bool
  | .inl k, v => Value.isInt k v
  | .inr x, v => Value.isStrOf x v
noncomputable def keyH (w : World) : Key → Int
  | .inl k => hashInt k
  | .inr x => hashStr w x
theorem keyIs_shape : ∀ {k : Key} {v : Value}, keyIs k v = true → (∃ i t, k = Sum.inl i ∧ v = Value.int i t) ∨ (∃ x t, k = Sum.inr x ∧ v = Value.str x t)
  | .inl i, v, h => by
    obtain ⟨t, e⟩ := Value.isInt_shape (k := i) (v := v) h
    exact .inl ⟨i, t, rfl, e⟩
  | .inr x, v, h => by
    obtain ⟨t, e⟩ := Value.isStrOf_shape (x := x) (v := v) h
    exact .inr ⟨x, t, rfl, e⟩
theorem key_ll (a b : Int) : decide ((Sum.inl a : Key) = Sum.inl b) = (a == b) := by
  by_cases e : a = b
  · subst e; simp
  · have h : ¬ (Sum.inl a : Key) = Sum.inl b := fun q => e (Sum.inl.inj q)
    rw [decide_eq_false h]
    exact (beq_eq_false_iff_ne.mpr e).symm
theorem key_rr (a b : Str) : decide ((Sum.inr a : Key) = Sum.inr b) = decide (a = b) := by
  by_cases e : a = b
  · subst e; simp
  · have h : ¬ (Sum.inr a : Key) = Sum.inr b := fun q => e (Sum.inr.inj q)
    rw [decide_eq_false h, decide_eq_false e]
theorem key_lr (a : Int) (b : Str) : decide ((Sum.inl a : Key) = Sum.inr b) = false := decide_eq_false (fun q => nomatch q)
theorem key_rl (a : Str) (b : Int) : decide ((Sum.inr a : Key) = Sum.inl b) = false := decide_eq_false (fun q => nomatch q)

noncomputable def mixKind (prog : Program) (w : World) : PySem.KeyKind prog w Key where
  is := keyIs
  hash := keyH w
  inj := fun v a b ha hb => by
    rcases keyIs_shape ha with ⟨i, t, rfl, rfl⟩ | ⟨x, t, rfl, rfl⟩
    · rcases keyIs_shape hb with ⟨j, u, rfl, e⟩ | ⟨y, u, rfl, e⟩
      · injection e with e1 _; rw [e1]
      · exact nomatch e
    · rcases keyIs_shape hb with ⟨j, u, rfl, e⟩ | ⟨y, u, rfl, e⟩
      · exact nomatch e
      · injection e with e1 _; rw [e1]
  byValue := fun k v h => by
    rcases keyIs_shape h with ⟨i, t, rfl, rfl⟩ | ⟨x, t, rfl, rfl⟩ <;> rfl
  pyHash := fun hv h => by
    rcases keyIs_shape hv with ⟨i, t, rfl, rfl⟩ | ⟨x, t, rfl, rfl⟩
    · exact wpAny_pyHash_int h
    · exact wpAny_pyHash_str h
  eqBool := fun hu hv h => by
    rcases keyIs_shape hu with ⟨i, t, rfl, rfl⟩ | ⟨x, t, rfl, rfl⟩
    · rcases keyIs_shape hv with ⟨j, u, rfl, rfl⟩ | ⟨y, u, rfl, rfl⟩
      · rw [key_ll] at h; exact wpAny_eqBool_int h
      · rw [key_lr] at h; exact SeqAt.EqAt.int_str i t y u _ _ _ _ h
    · rcases keyIs_shape hv with ⟨j, u, rfl, rfl⟩ | ⟨y, u, rfl, rfl⟩
      · rw [key_rl] at h; exact SeqAt.EqAt.str_int x t j u _ _ _ _ h
      · rw [key_rr] at h; exact wpAny_eqBool_str h
  «strs» := fun k x t v h => by
    rcases keyIs_shape h with ⟨i, u, rfl, e⟩ | ⟨y, u, rfl, e⟩
    · exact nomatch e
    · injection e with e1 _
      subst e1
      cases v <;> rfl

end L2

namespace L2
open PySem PySem.Spec PyProof.Rows

inductive V where
  | non | bl (b : Bool) | int (i : Int) | str (x : Str) | byt (b : Array UInt8) | flt (b : UInt64) | ref (a : Addr) | ty (n : String)
  deriving DecidableEq

noncomputable def RelV : V → Value → Prop
  | .non, u => u = Value.none
  | .bl b, u => u = Value.bool b
  | .int i, u => ∃ t, u = Value.int i t
  | .str x, u => ∃ t, u = Value.str x t
  | .byt b, u => ∃ t, u = Value.bytes b t
  | .flt b, u => ∃ t, u = Value.float b t
  | .ref a, u => u = Value.ref a
  | .ty n, u => u = Value.type n

noncomputable abbrev Vals : List V → List Value → Prop := Paired RelV
theorem Vals.length {xs : List V} {us : List Value} (r : Vals xs us) : xs.length = us.length := Paired.length r
theorem Vals.get : ∀ {xs : List V} {us : List Value} {i : Nat} {x : V}, Vals xs us → xs[i]? = some x → ∃ u, us[i]? = some u ∧ RelV x u
  | _, _, _, _, .nil, e => by simp at e
  | _, _, 0, _, .cons r _, e => by simp at e; subst e; exact ⟨_, rfl, r⟩
  | _, _, i + 1, x, .cons _ t, e => by
    obtain ⟨u, h1, h2⟩ := Vals.get (i := i) (x := x) t (by simpa using e)
    exact ⟨u, by simpa using h1, h2⟩
theorem Vals.set {x : V} {u : Value} (r : RelV x u) : ∀ {xs : List V} {us : List Value} (i : Nat), Vals xs us → Vals (xs.set i x) (us.set i u)
  | _, _, _, .nil => .nil
  | _, _, 0, .cons _ t => .cons r t
  | _, _, i + 1, .cons q t => .cons q (Vals.set r i t)
theorem Vals.append : ∀ {xs ys : List V} {us ws : List Value}, Vals xs us → Vals ys ws → Vals (xs ++ ys) (us ++ ws)
  | _, _, _, _, .nil, s => s
  | _, _, _, _, .cons r t, s => .cons r (Vals.append t s)
theorem Vals.take : ∀ {xs : List V} {us : List Value} (n : Nat), Vals xs us → Vals (xs.take n) (us.take n)
  | _, _, 0, _ => .nil
  | _, _, _ + 1, .nil => .nil
  | _, _, n + 1, .cons r t => .cons r (Vals.take n t)
theorem Vals.drop : ∀ {xs : List V} {us : List Value} (n : Nat), Vals xs us → Vals (xs.drop n) (us.drop n)
  | _, _, 0, r => r
  | _, _, _ + 1, .nil => .nil
  | _, _, n + 1, .cons _ t => Vals.drop n t
noncomputable def RelO : Option V → Option Value → Prop
  | some v, some u => RelV v u
  | none, none => True
  | _, _ => False
noncomputable def KV {κ : Type} : List (κ × V) → List (κ × Value) → Prop := Paired fun (p : κ × V) (q : κ × Value) => p.1 = q.1 ∧ RelV p.2 q.2

noncomputable def kV : Key → V
  | .inl i => .int i
  | .inr x => .str x

inductive HO where
  /-- a list -/
  | lst (xs : List V)
  /-- a tuple (never changes) -/
  | tup (xs : List V)
  /-- a dict whose keys are ints and texts; one whose keys are tuples of ints and texts (the empty one is both) -/
  | dK (kvs : List (Key × V)) | dT (kvs : List (List Key × V))
  /-- a set of ints: its members, its size -/
  | set (S : Int → Bool) (n : Nat)
  /-- an instance of the class at C, its dict at dx, its attributes -/
  | ins (C dx : Addr) (fs : List (Str × V))
  /-- the dict of the instance at x -/
  | own (x : Addr)
  /-- the dict of an exception -/
  | xd (fs : List (Str × V))
  /-- a bound method, f of x -/
  | met (f x : Addr)
  /-- a range object lo, lo + 1, .. below hi -/
  | rng (lo hi : Int)
  /-- a thing that is known to the object (the script; a dict while a loop walks it): read, never written while it is so -/
  | frz (o : Obj) (u : HO)
  /-- a code object's table -/
  | tbl (ps : Array Value)
  /-- any other thing, by what is true of its one object (a def of one's own: SetO a S n := HO.ext fun h => ..) -/
  | ext (φ : Heap → Prop)

noncomputable abbrev Hp := Addr → Option HO
noncomputable def upd (H : Hp) (a : Addr) (o : HO) : Hp := fun b => if b = a then some o else H b
theorem upd_same {H : Hp} {a : Addr} {o : HO} : upd H a o a = some o := by unfold upd; rw [if_pos rfl]
theorem upd_ne {H : Hp} {a b : Addr} {o : HO} (h : b ≠ a) : upd H a o b = H b := by unfold upd; rw [if_neg h]
theorem ne_of_none {H : Hp} {a b : Addr} {o : HO} (h : H a = some o) (h' : H b = none) : a ≠ b := by
  intro e; subst e; rw [h] at h'; cases h'

section
variable (P : Program) (w : World)
noncomputable def ObjOk (H : Hp) (h : Heap) (a : Addr) : HO → Prop
  | .lst xs => xs.length ≤ sizeLine ∧ ∃ (its : List Value) (n : Nat), Vals xs its ∧ h.get? a = some { cls := .type "list", data := .seq its.toArray n }
  | .tup xs => xs.length ≤ sizeLine ∧ ∃ its : List Value, Vals xs its ∧ IsTup h a its.toArray
  | .dK kvs => kvs.length ≤ sizeLine ∧ (a == sysModules) = false ∧ ∃ vs, KV kvs vs ∧ h.DictOf (mixKind P w) a vs
  | .dT kvs => kvs.length ≤ sizeLine ∧ (a == sysModules) = false ∧ ∃ xs : List (List Key × Addr × Value),
      Paired (fun (p : List Key × V) (q : List Key × Addr × Value) => p.1 = q.1 ∧ H q.2.1 = some (.tup (p.1.map kV)) ∧ RelV p.2 q.2.2) kvs xs ∧
      ∃ o es ep, h.get? a = some o ∧ o.ExactDict ∧ o.data = .dict es ep ∧ es.toList = xs.map (entryOfKey (tupleKind (mixKind P w))) ∧ (xs.map (·.1)).Nodup
  | .set S n => h.SetOf (intKind P w) a S n
  | .ins C dx fs => H dx = some (.own a) ∧ fs.length ≤ 1000 ∧ dx ≠ a ∧ h.get? a = some (PySem.W.instObj C dx) ∧
      ∃ mA, h.Ns1 dx mA ∧ (∀ f, RelO (fs.lookup f) (mA f)) ∧ PySem.Within mA (fs.map (·.1))
  | .own _ => ∃ o, h.get? a = some o
  | .xd fs => ∃ mA, h.Ns1 a mA ∧ ∀ f, RelO (fs.lookup f) (mA f)
  | .rng lo hi => ∃ t u v, h.get? a = some { cls := .type "range", data := .fields #[.int lo t, .int hi u, .int 1 v] }
  | .frz o u => h.get? a = some o ∧ ObjOk H h a u
  | .tbl ps => h.get? a = some { cls := .none, data := .fields ps }
  | .met f x => h.get? a = some (PySem.W.methodObj (.ref f) (.ref x))
  | .ext φ => φ h ∧ (∃ o, h.get? a = some o) ∧ ∀ h1 h2 : Heap, φ h1 → (∀ o, h1.get? a = some o → h2.get? a = some o) → φ h2
noncomputable def HOk (H : Hp) (h : Heap) : Prop := ∀ a o, H a = some o → ObjOk P w H h a o
end

section
variable {P : Program} {w : World} {H H' : Hp} {h h' : Heap} {a : Addr} {o : HO}
theorem ObjOk.lt (x : ObjOk P w H h a o) : a < h.objs.size := by
  cases o with
  | lst xs => obtain ⟨_, _, _, _, e⟩ := x; exact Heap.lt_size e
  | tup xs => obtain ⟨_, _, _, p⟩ := x; exact p.lt
  | dK kvs => obtain ⟨_, _, _, _, o, _, _, e, _⟩ := x; exact Heap.lt_size e
  | dT kvs => obtain ⟨_, _, _, _, o, _, _, e, _⟩ := x; exact Heap.lt_size e
  | set S n => obtain ⟨o, _, _, _, e, _⟩ := x; exact Heap.lt_size e
  | ins C dx fs => obtain ⟨_, _, _, e, _⟩ := x; exact Heap.lt_size e
  | own y => obtain ⟨_, e⟩ := x; exact Heap.lt_size e
  | xd fs => obtain ⟨_, ⟨_, _, _, e, _⟩, _⟩ := x; exact Heap.lt_size e
  | rng lo hi => obtain ⟨_, _, _, e⟩ := x; exact Heap.lt_size e
  | frz ob u => obtain ⟨e, _⟩ := x; exact Heap.lt_size e
  | tbl ps => exact Heap.lt_size (show h.get? a = some _ from x)
  | met f y => exact Heap.lt_size (show h.get? a = some _ from x)
  | ext φ => obtain ⟨_, ⟨_, e⟩, _⟩ := x; exact Heap.lt_size e
theorem Paired.mapP {α β : Type} {F G : α → β → Prop} : ∀ {l₁ : List α} {l₂ : List β}, Paired F l₁ l₂ → (∀ a b, F a b → G a b) → Paired G l₁ l₂
  | _, _, .nil, _ => .nil
  | _, _, .cons r t, f => .cons (f _ _ r) (Paired.mapP t f)
theorem ObjOk.stay (x : ObjOk P w H h a o) (k : ∀ b u, (b = a ∨ H b = some (.own a)) → h.get? b = some u → h'.get? b = some u)
    (ho : ∀ b, H b = some (.own a) → H' b = some (.own a)) (ht : ∀ b xs, H b = some (.tup xs) → H' b = some (.tup xs)) : ObjOk P w H' h' a o := by
  induction o with
  | lst xs => obtain ⟨z, its, n, r, e⟩ := x; exact ⟨z, its, n, r, k _ _ (.inl rfl) e⟩
  | tup xs => obtain ⟨z, its, r, ob, e, c⟩ := x; exact ⟨z, its, r, ob, k _ _ (.inl rfl) e, c⟩
  | dK kvs => obtain ⟨z, y, vs, r, ob, es, ep, e, c⟩ := x; exact ⟨z, y, vs, r, ob, es, ep, k _ _ (.inl rfl) e, c⟩
  | dT kvs =>
    obtain ⟨z, y, xs, r, ob, es, ep, e, c⟩ := x
    exact ⟨z, y, xs, Paired.mapP r fun p q z => ⟨z.1, ht _ _ z.2.1, z.2.2⟩, ob, es, ep, k _ _ (.inl rfl) e, c⟩
  | set S n => obtain ⟨ob, es, ep, t, e, c⟩ := x; exact ⟨ob, es, ep, t, k _ _ (.inl rfl) e, c⟩
  | ins C dx fs =>
    obtain ⟨d, z, ne, e, mA, ⟨od, es, ep, e2, c⟩, r⟩ := x
    exact ⟨ho _ d, z, ne, k _ _ (.inl rfl) e, mA, ⟨od, es, ep, k _ _ (.inr d) e2, c⟩, r⟩
  | own y => obtain ⟨ob, e⟩ := x; exact ⟨ob, k _ _ (.inl rfl) e⟩
  | xd fs => obtain ⟨mA, ⟨od, es, ep, e, c⟩, r⟩ := x; exact ⟨mA, ⟨od, es, ep, k _ _ (.inl rfl) e, c⟩, r⟩
  | rng lo hi => obtain ⟨t, u, v, e⟩ := x; exact ⟨t, u, v, k _ _ (.inl rfl) e⟩
  | frz ob u ih => obtain ⟨e, q⟩ := x; exact ⟨k _ _ (.inl rfl) e, ih q⟩
  | tbl ps =>
    have e : h.get? a = some { cls := .none, data := .fields ps } := x
    show h'.get? a = some { cls := .none, data := .fields ps }
    exact k a _ (.inl rfl) e
  | met f y =>
    have e : h.get? a = some (PySem.W.methodObj (.ref f) (.ref y)) := x
    show h'.get? a = some (PySem.W.methodObj (.ref f) (.ref y))
    exact k a _ (.inl rfl) e
  | ext φ => obtain ⟨p, ⟨o, e⟩, st⟩ := x; exact ⟨st _ _ p fun o q => k _ _ (.inl rfl) q, ⟨o, k _ _ (.inl rfl) e⟩, st⟩
theorem HOk.lt (x : HOk P w H h) (e : H a = some o) : a < h.objs.size := (x a o e).lt
theorem HOk.fresh (x : HOk P w H h) (e : h.objs.size ≤ a) : H a = none := by
  cases q : H a with
  | none => rfl
  | some u => exact absurd (Nat.lt_of_lt_of_le (x.lt q) e) (Nat.lt_irrefl _)
theorem HOk.kept (x : HOk P w H h) (k : ∀ b u, h.get? b = some u → h'.get? b = some u) : HOk P w H h' := fun a o e =>
  (x a o e).stay (fun b u _ q => k b u q) (fun _ q => q) fun _ _ q => q
theorem HOk.laid (x : HOk P w H h) (k : ∀ b u, h.get? b = some u → h'.get? b = some u) (hp : h.objs.size ≤ a) (new : ObjOk P w (upd H a o) h' a o) : HOk P w (upd H a o) h' := fun b u e => by
  have hn := x.fresh hp
  by_cases hb : b = a
  · subst hb; rw [upd_same] at e; cases e; exact new
  · rw [upd_ne hb] at e
    exact (x b u e).stay (fun c v _ q => k c v q) (fun c q => by rw [upd_ne (ne_of_none q hn)]; exact q) fun c xs q => by rw [upd_ne (ne_of_none q hn)]; exact q
end

noncomputable def Rd (H : Hp) (a : Addr) (u : HO) : Prop := H a = some u ∨ ∃ o, H a = some (.frz o u)
theorem Rd.ok {P : Program} {w : World} {H : Hp} {h : Heap} {a : Addr} {u : HO} (r : Rd H a u) (x : HOk P w H h) : ObjOk P w H h a u := by
  rcases r with r | ⟨o, r⟩
  · exact x a u r
  · obtain ⟨_, q⟩ := x a _ r
    exact q
noncomputable def Mut : Option HO → Prop
  | some (.lst _) => True
  | some (.dK _) => True
  | some (.dT _) => True
  | some (.set _ _) => True
  | some (.ins _ _ _) => True
  | some (.ext _) => True
  | _ => False
section
variable {P : Program} {w : World} {H : Hp} {h h' : Heap} {x e : Addr} {o' : HO}
theorem HOk.write (ok : HOk P w H h) (mu : Mut (H x)) (he : e = x ∨ H e = some (.own x)) (k : ∀ b u, b ≠ e → h.get? b = some u → h'.get? b = some u) (heo : ∃ u, h'.get? e = some u)
    (new : ObjOk P w (upd H x o') h' x o') : HOk P w (upd H x o') h' := fun b u q => by
  have nown : ∀ c y, H c = some (.own y) → c ≠ x := fun c y r z => by subst z; rw [r] at mu; exact mu
  have ntup : ∀ c xs, H c = some (.tup xs) → c ≠ x := fun c xs r z => by subst z; rw [r] at mu; exact mu
  by_cases hb : b = x
  · subst hb; rw [upd_same] at q; cases q; exact new
  · rw [upd_ne hb] at q
    by_cases hbe : b = e
    · have q' : H b = some (.own x) := by
        rcases he with z | z
        · exact absurd (hbe.trans z) hb
        · rw [hbe]; exact z
      rw [q] at q'; cases q'
      obtain ⟨v, hv⟩ := heo
      exact ⟨v, by rw [hbe]; exact hv⟩
    · refine (ok b u q).stay (fun c v hc r => k c v ?_ r) (fun c r => by rw [upd_ne (nown c b r)]; exact r) fun c xs r => by rw [upd_ne (ntup c xs r)]; exact r
      rcases hc with rfl | hc
      · exact hbe
      · rintro rfl
        rcases he with z | z
        · exact nown c b hc z
        · rw [hc] at z; cases z; exact hb rfl
end

structure Un (fs ex : List Addr) (H H' : Hp) (h h' : Heap) : Prop where
  keep : ∀ b o, h.get? b = some o → H b = none → b ∉ fs → b ∉ ex → h'.get? b = some o
  slot : ∀ b o, h.get? b = some o → H b = none → b ∈ fs → b ∉ ex → ∃ sl, h'.get? b = some { o with slots := sl }
  free : ∀ b o, h.get? b = some o → H b = none → b ∉ ex → H' b = none
  there : ∀ b o, h.get? b = some o → b ∉ ex → ∃ o', h'.get? b = some o'
  tups : ∀ b xs, H b = some (.tup xs) → H' b = some (.tup xs)
  frzs : ∀ b o u, H b = some (.frz o u) → H' b = some (.frz o u)
  tbls : ∀ b ps, H b = some (.tbl ps) → ∃ more, H' b = some (.tbl (ps ++ more))
section
variable {fs fs' ex ex' : List Addr} {H H1 H2 : Hp} {h h1 h2 h' : Heap} {a x e : Addr} {o : HO}
theorem Un.any (u : Un fs ex H H1 h h1) {b : Addr} {ob : Obj} (q : h.get? b = some ob) (n : H b = none) (hx : b ∉ ex) : ∃ sl, h1.get? b = some { ob with slots := sl } := by
  by_cases hb : b ∈ fs
  · exact u.slot b ob q n hb hx
  · exact ⟨ob.slots, u.keep b ob q n hb hx⟩
theorem Un.kept (k : ∀ b u, h.get? b = some u → h'.get? b = some u) : Un fs ex H H h h' :=
  ⟨fun b ob q _ _ _ => k b ob q, fun b ob q _ _ _ => ⟨ob.slots, k b ob q⟩, fun _ _ _ n _ => n, fun b ob q _ => ⟨ob, k b ob q⟩, fun _ _ q => q, fun _ _ _ q => q, fun _ ps q => ⟨#[], by rw [q]; simp⟩⟩
theorem Un.refl : Un fs ex H H h h := Un.kept fun _ _ q => q
theorem Un.laid (k : ∀ b u, h.get? b = some u → h'.get? b = some u) (hp : h.objs.size ≤ a) (hn : H a = none) : Un fs ex H (upd H a o) h h' where
  keep := fun b u q _ _ _ => k b u q
  slot := fun b u q _ _ _ => ⟨u.slots, k b u q⟩
  free := fun b u q n _ => by rw [upd_ne (Nat.ne_of_lt (Nat.lt_of_lt_of_le (Heap.lt_size q) hp))]; exact n
  there := fun b u q _ => ⟨u, k b u q⟩
  tups := fun b xs q => by rw [upd_ne (ne_of_none q hn)]; exact q
  frzs := fun b u xs q => by rw [upd_ne (ne_of_none q hn)]; exact q
  tbls := fun b ps q => ⟨#[], by rw [upd_ne (ne_of_none q hn), q]; simp⟩
theorem Un.write (mu : Mut (H x)) (he : e = x ∨ H e = some (.own x)) (k : ∀ b u, b ≠ e → h.get? b = some u → h'.get? b = some u) (heo : ∃ u, h'.get? e = some u) : Un fs ex H (upd H x o) h h' := by
  have hx : ∀ b, H b = none → b ≠ x := fun b n z => by subst z; rw [n] at mu; exact mu
  have hb : ∀ b, H b = none → b ≠ e := fun b n z => by
    subst z
    rcases he with r | r
    · exact hx b n r
    · rw [n] at r; cases r
  have hm : ∀ b u, H b = some u → ¬ Mut (some u) → b ≠ x := fun b u q nm z => by subst z; rw [q] at mu; exact nm mu
  refine ⟨fun b u q n _ _ => k b u (hb b n) q, fun b u q n _ _ => ⟨u.slots, k b u (hb b n) q⟩, fun b u q n _ => by rw [upd_ne (hx b n)]; exact n, fun b u q _ => ?_,
    fun b xs q => by rw [upd_ne (hm b _ q fun z => z)]; exact q, fun b u xs q => by rw [upd_ne (hm b _ q fun z => z)]; exact q, fun b ps q => ⟨#[], by rw [upd_ne (hm b _ q fun z => z), q]; simp⟩⟩
  by_cases hbe : b = e
  · subst hbe; exact heo
  · exact ⟨u, k b u hbe q⟩
end

noncomputable def trk (h : Heap) (H : Hp) : List Addr := (List.range h.objs.size).filter fun a => (H a).isSome
noncomputable def hidT (h : Heap) (H : Hp) : Heap := PySem.W.hideAll h (trk h H)
theorem hidT_size (h : Heap) (H : Hp) : (hidT h H).objs.size = h.objs.size := PySem.W.hideAll_size _ _
theorem hidT_get {h : Heap} {H : Hp} {b : Addr} {o : Obj} (e : h.get? b = some o) (n : H b = none) : (hidT h H).get? b = some o :=
  PySem.W.hideAll_get _ e fun hm => by
    have q : (H b).isSome = true := (List.mem_filter.mp hm).2
    rw [n] at q; simp at q
theorem of_hidT {h : Heap} {H : Hp} {b : Addr} {o : Obj} (e : (hidT h H).get? b = some o) : h.get? b = some o ∧ H b = none := by
  have e' : h.get? b = some o := PySem.W.of_hideAll (trk h H) e
  refine ⟨e', ?_⟩
  cases q : H b with
  | none => rfl
  | some x =>
    have hm : b ∈ trk h H := List.mem_filter.mpr ⟨List.mem_range.mpr (Heap.lt_size e'), by simp [q]⟩
    have z : (hidT h H).get? b = none := PySem.W.hideAll_none (trk h H) hm
    rw [z] at e; cases e

end L2

namespace L2
open PySem PySem.Spec PyProof.Rows

structure Mod (K : PySem.W.Frag) (mg : Str → Option Value) (base : Heap) : Prop where
  kin : K.In base
  glob : base.Ns mainGlobals mg
  blt : ∃ mb, base.Ns builtinsNs mb ∧ ∀ x : Str, x ≠ "__name__" → mb x = bootBuiltins x
  nolimit : base.NoLimit

structure Cx where
  prog : Program
  w : World
  K : PySem.W.Frag
  mg : Str → Option Value
  base : Heap
  A : Around
  N : List Str
  s₀ : Shared
  H₀ : Hp
  env : Env
  outer : List Env
  stack : List Env
  ex : List Addr
  fn : Str → Bool
  calm : Bool
  pn : List (Addr × Obj)
  xe : Value → Shared → Prop
noncomputable def frs (l : List Env) : List Addr := l.filterMap (·.frame)
noncomputable abbrev Cx.fs (X : Cx) : List Addr := frs X.outer

noncomputable def Vis (sc : Scope) (x : Str) : Prop := sc.names.lookup x = some .local ∨ sc.names.lookup x = some .cell ∨ sc.names.lookup x = some .free
noncomputable def Loc (sc : Scope) (x : Str) : Prop := sc.names.lookup x = some .local ∨ sc.names.lookup x = some .cell
noncomputable def Look (env : Env) (h : Heap) (m : Str → Option Value) (x : Str) (u : Value) : Prop :=
  (env.kindOf x = some .local ∧ m x = some u) ∨ ((env.kindOf x = some .cell ∨ env.kindOf x = some .free) ∧ ∃ c, env.cells.lookup x = some c ∧ h.IsCell c (some u))

structure Cx.Ok (X : Cx) : Prop where
  mod : Mod X.K X.mg X.base
  kind : X.env.scope.kind = .function
  glob : X.env.globals = mainGlobals
  blt : X.env.builtins = builtinsNs
  above : X.s₀.heap.objs.size ≤ X.env.locals
  inj : ∀ x y c, X.env.cells.lookup x = some c → X.env.cells.lookup y = some c → x = y
  has : ∀ x, (X.env.kindOf x = some .cell ∨ X.env.kindOf x = some .free) → ∃ c, X.env.cells.lookup x = some c
  cab : ∀ x c, X.fn x = true → X.env.cells.lookup x = some c → X.s₀.heap.objs.size ≤ c
  hd : X.calm = true → X.A.handled = none
  frames : X.A.frames = some X.stack
  stk : X.stack = X.outer ∨ (X.stack = X.env :: X.outer ∧ X.env.frame = some X.env.locals)
  exf : ∀ b ∈ X.ex, b ≠ X.env.locals ∧ ∀ x c, X.env.cells.lookup x = some c → c ≠ b
  bs : ∀ b o, X.base.get? b = some o → X.s₀.heap.get? b = some o ∧ X.H₀ b = none
  bsz : X.base.objs.size ≤ X.s₀.heap.objs.size
  noex : ∀ b o, X.base.get? b = some o → b ∉ X.ex
  exfs : ∀ b ∈ X.ex, b ∉ X.fs
  funs : X.s₀.heap.FunFrames X.base X.outer
  frf : ∀ b ∈ X.fs, X.H₀ b = none

noncomputable def Qd (A : Around) (H : Hp) : Prop := A.handled = none ∨ ∃ ea oe u vs, A.handled = some (.ref ea) ∧ H ea = some (.frz oe u) ∧ oe.data = .fields vs ∧ vs[2]? = some .none
theorem Qd.mono {A : Around} {H H' : Hp} (q : Qd A H) (k : ∀ b o u, H b = some (.frz o u) → H' b = some (.frz o u)) : Qd A H' := by
  rcases q with q | ⟨ea, oe, u, vs, e1, e2, e3, e4⟩
  · exact .inl q
  · exact .inr ⟨ea, oe, u, vs, e1, k _ _ _ e2, e3, e4⟩
structure Inv (X : Cx) (pins : List (Addr × Obj)) (σ : List (Option V)) (H : Hp) (s : Shared) : Prop where
  ok : X.Ok
  os : s.os = X.s₀.os
  bare : AllBare s.gens
  base : Un X.fs X.ex X.H₀ H X.s₀.heap s.heap
  loc : ∃ m, s.heap.Ns X.env.locals m ∧ ∀ (i : Nat) (x : Str) (v : V), X.N[i]? = some x → σ[i]? = some (some v) → Vis X.env.scope x → ∃ u, RelV v u ∧ Look X.env s.heap m x u
  cell : ∀ x c, X.env.cells.lookup x = some c → ∃ v, s.heap.IsCell c v
  free : H X.env.locals = none
  freeC : ∀ x c, X.env.cells.lookup x = some c → H c = none
  pin : ∀ p ∈ X.pn ++ pins, s.heap.get? p.1 = some p.2 ∧ H p.1 = none ∧ p.1 ≠ X.env.locals ∧ p.1 ∉ X.fs ∧ ∀ v, p.2.data ≠ .cell v
  hok : HOk X.prog X.w H s.heap
  len : σ.length = X.N.length
  qd : Qd X.A H

section
variable {X : Cx} {pins : List (Addr × Obj)} {σ : List (Option V)} {H H' : Hp} {s : Shared} {h' : Heap}

theorem Cx.Ok.nofr (ok : X.Ok) {b : Addr} {o : Obj} (e : X.base.get? b = some o) : b ∉ X.fs := fun hb => by
  have := (ok.funs.mem hb).1
  rw [e] at this; cases this
theorem Inv.bs (I : Inv X pins σ H s) : ∀ b o, X.base.get? b = some o → s.heap.get? b = some o ∧ H b = none := fun b o e =>
  ⟨I.base.keep b o (I.ok.bs b o e).1 (I.ok.bs b o e).2 (I.ok.nofr e) (I.ok.noex b o e), I.base.free b o (I.ok.bs b o e).1 (I.ok.bs b o e).2 (I.ok.noex b o e)⟩
theorem Inv.qh (I : Inv X pins σ H s) : DQ.Quiet X.A s.heap := by
  rcases I.qd with q | ⟨ea, oe, u, vs, e1, e2, e3, e4⟩
  · exact .inl q
  · exact .inr ⟨ea, oe, vs, e1, (I.hok _ _ e2).1, e3, e4⟩
theorem Inv.bk (I : Inv X pins σ H s) : ∀ b o, X.base.get? b = some o → s.heap.get? b = some o := fun b o e => (I.bs b o e).1
theorem Inv.mod (I : Inv X pins σ H s) : Mod X.K X.mg X.base := I.ok.mod
theorem Inv.kIn (I : Inv X pins σ H s) : X.K.In s.heap := I.ok.mod.kin.keeps I.bk
theorem Inv.fr (I : Inv X pins σ H s) : ∃ m, Fr X.base X.env.locals s.heap m :=
  let ⟨m, hn, _⟩ := I.loc
  ⟨m, hn, I.bk, Nat.le_trans I.ok.bsz I.ok.above⟩
theorem Inv.lt (I : Inv X pins σ H s) : X.env.locals < s.heap.objs.size := let ⟨_, hn, _⟩ := I.loc; hn.lt
theorem Inv.sz (I : Inv X pins σ H s) : X.s₀.heap.objs.size ≤ s.heap.objs.size := Nat.le_trans I.ok.above (Nat.le_of_lt I.lt)
theorem Inv.nofs (I : Inv X pins σ H s) {a : Addr} (h : s.heap.objs.size ≤ a) : a ∉ X.fs := fun hb => by
  obtain ⟨_, o, ho, _⟩ := I.ok.funs.mem hb
  exact absurd (Nat.lt_of_lt_of_le (Heap.lt_size ho) (Nat.le_trans I.sz h)) (Nat.lt_irrefl _)
theorem Inv.cne (I : Inv X pins σ H s) : ∀ x c, X.env.cells.lookup x = some c → c ≠ X.env.locals := fun x c e z => by
  obtain ⟨v, o, ho, hd⟩ := I.cell x c e
  obtain ⟨m, ⟨o', es, ep, ho', hd', _⟩, _⟩ := I.loc
  rw [z, ho'] at ho; cases ho; rw [hd'] at hd; cases hd
theorem Inv.funs (I : Inv X pins σ H s) : s.heap.FunFrames X.base X.outer := by
  have all : ∀ (l : List Env), (∀ b ∈ frs l, b ∈ X.fs) → X.s₀.heap.FunFrames X.base l → s.heap.FunFrames X.base l := by
    intro l
    induction l with
    | nil => intro _ _; trivial
    | cons env r ih =>
      intro hs hl
      obtain ⟨hk, ⟨L, o, hf, hn, ho, hd⟩, hr⟩ := hl
      have hL : L ∈ X.fs := hs L (by unfold frs; rw [List.filterMap_cons, hf]; exact List.mem_cons_self)
      obtain ⟨sl, e⟩ := I.base.slot L o ho (I.ok.frf L hL) hL fun z => I.ok.exfs L z hL
      exact ⟨hk, ⟨L, _, hf, hn, e, hd⟩, ih (fun b hb => hs b (by unfold frs; rw [List.filterMap_cons, hf]; exact List.mem_cons_of_mem _ hb)) hr⟩
  exact all X.outer (fun _ hb => hb) I.ok.funs

theorem Inv.stack (I : Inv X pins σ H s) : s.heap.FunFrames X.base X.stack := by
  rcases I.ok.stk with e | ⟨e, hf⟩
  · rw [e]; exact I.funs
  · rw [e]
    obtain ⟨m, hn, _⟩ := I.loc
    refine .cons (by rw [I.ok.kind]; decide) hf hn ?_ I.funs
    exact Heap.get?_none_of_le (Nat.le_trans I.ok.bsz I.ok.above)
theorem Inv.stkSub (I : Inv X pins σ H s) : ∀ b ∈ frs X.stack, b ∈ X.env.locals :: X.fs := fun b hb => by
  rcases I.ok.stk with e | ⟨e, hf⟩
  · rw [e] at hb; exact List.mem_cons_of_mem _ hb
  · rw [e] at hb
    unfold frs at hb
    rw [List.filterMap_cons, hf] at hb
    exact hb
theorem Inv.stkFree (I : Inv X pins σ H s) : ∀ b ∈ frs X.stack, H b = none := fun b hb => by
  rcases List.mem_cons.mp (I.stkSub b hb) with e | hb
  · rw [e]; exact I.free
  · obtain ⟨_, o, ho, _⟩ := I.ok.funs.mem hb
    exact I.base.free b o ho (I.ok.frf b hb) fun z => I.ok.exfs b z hb

theorem Inv.step {g' : Array GenState} {t' : Nat} {d' : Drawn} {ch : List Addr} (I : Inv X pins σ H s)
    (hch : ∀ b ∈ ch, (b ∈ X.ex ∨ X.s₀.heap.objs.size ≤ b) ∧ b ≠ X.env.locals ∧ (∀ x c, X.env.cells.lookup x = some c → c ≠ b) ∧ ∀ p ∈ X.pn ++ pins, p.1 ≠ b)
    (keep : ∀ b o, b ≠ X.env.locals → b ∉ X.fs → b ∉ ch → s.heap.get? b = some o → H b = none → h'.get? b = some o)
    (slot : ∀ b o, b ≠ X.env.locals → b ∈ X.fs → b ∉ ch → s.heap.get? b = some o → H b = none → ∃ sl, h'.get? b = some { o with slots := sl }) (free : ∀ b o, b ∉ ch → s.heap.get? b = some o → H b = none → H' b = none)
    (there : ∀ b o, b ∉ ch → s.heap.get? b = some o → ∃ o', h'.get? b = some o')
    (tups : ∀ b xs, H b = some (.tup xs) → H' b = some (.tup xs)) (frzs : ∀ b o u, H b = some (.frz o u) → H' b = some (.frz o u)) (tbls : ∀ b ps, H b = some (.tbl ps) → ∃ more, H' b = some (.tbl (ps ++ more)))
    (ns : ∀ m, s.heap.Ns X.env.locals m → h'.Ns X.env.locals m) (hok : HOk X.prog X.w H' h') (hg : AllBare g') :
    Inv X pins σ H' { s with heap := h', gens := g', drawn := d', toks := t' } := by
  have neL : ∀ b o, X.s₀.heap.get? b = some o → b ≠ X.env.locals := fun b o e => Nat.ne_of_lt (Nat.lt_of_lt_of_le (Heap.lt_size e) I.ok.above)
  have neC : ∀ b o, X.s₀.heap.get? b = some o → b ∉ X.ex → b ∉ ch := fun b o e hx hb => by
    rcases (hch b hb).1 with z | z
    · exact hx z
    · exact absurd (Nat.lt_of_lt_of_le (Heap.lt_size e) z) (Nat.lt_irrefl _)
  have cellK : ∀ x c, X.env.cells.lookup x = some c → ∀ v, s.heap.IsCell c v → h'.IsCell c v := fun x c e v ⟨o, ho, hd⟩ => by
    have nch : c ∉ ch := fun z => (hch c z).2.2.1 x c e rfl
    by_cases hc : c ∈ X.fs
    · obtain ⟨sl, q⟩ := slot c o (I.cne x c e) hc nch ho (I.freeC x c e)
      exact ⟨_, q, hd⟩
    · exact ⟨o, keep c o (I.cne x c e) hc nch ho (I.freeC x c e), hd⟩
  refine ⟨I.ok, I.os, hg, ⟨fun b o e n hb hx => ?_, fun b o e n hb hx => ?_, fun b o e n hx => ?_, fun b o e hx => ?_, fun b xs e => tups b xs (I.base.tups b xs e), fun b o xs e => frzs b o xs (I.base.frzs b o xs e), fun b ps e => ?_⟩, ?_, fun x c e => ?_, ?_, fun x c e => ?_, fun p hp => ?_, hok, I.len, I.qd.mono frzs⟩
  · exact keep b o (neL b o e) hb (neC b o e hx) (I.base.keep b o e n hb hx) (I.base.free b o e n hx)
  · obtain ⟨sl, e1⟩ := I.base.slot b o e n hb hx
    obtain ⟨sl', e2⟩ := slot b _ (neL b o e) hb (neC b o e hx) e1 (I.base.free b o e n hx)
    exact ⟨sl', e2⟩
  · obtain ⟨o', e1⟩ := I.base.there b o e hx
    exact free b o' (neC b o e hx) e1 (I.base.free b o e n hx)
  · obtain ⟨o', e1⟩ := I.base.there b o e hx
    exact there b o' (neC b o e hx) e1
  · obtain ⟨m1, e1⟩ := I.base.tbls b ps e
    obtain ⟨m2, e2⟩ := tbls b _ e1
    exact ⟨m1 ++ m2, by rw [e2, Array.append_assoc]⟩
  · obtain ⟨m, hn, hl⟩ := I.loc
    refine ⟨m, ns m hn, fun i x v e1 e2 e3 => ?_⟩
    obtain ⟨u, r, l⟩ := hl i x v e1 e2 e3
    refine ⟨u, r, ?_⟩
    rcases l with l | ⟨k, c, e, z⟩
    · exact .inl l
    · exact .inr ⟨k, c, e, cellK x c e _ z⟩
  · obtain ⟨v, z⟩ := I.cell x c e
    exact ⟨v, cellK x c e v z⟩
  · obtain ⟨m, ⟨o, _, _, ho, _⟩, _⟩ := I.loc
    exact free _ o (fun z => (hch _ z).2.1 rfl) ho I.free
  · obtain ⟨v, o, ho, hd⟩ := I.cell x c e
    exact free c o (fun z => (hch c z).2.2.1 x c e rfl) ho (I.freeC x c e)
  · obtain ⟨e, n, ne, nf, d⟩ := I.pin p hp
    have nch : p.1 ∉ ch := fun z => (hch p.1 z).2.2.2 p hp rfl
    exact ⟨keep p.1 p.2 ne nf nch e n, free p.1 p.2 nch e n, ne, nf, d⟩
theorem Inv.un {t' : Nat} (I : Inv X pins σ H s) (u : Un X.fs [] H H' s.heap h') (hok : HOk X.prog X.w H' h') : Inv X pins σ H' { s with heap := h', toks := t' } := by
  obtain ⟨m, ⟨o, es, ep, ho, r⟩, _⟩ := id I.loc
  obtain ⟨sl, hL⟩ := u.any ho I.free (by simp)
  exact I.step (g' := s.gens) (d' := s.drawn) (ch := []) (fun _ z => nomatch z) (fun b o _ hb _ e n => u.keep b o e n hb (by simp)) (fun b o _ hb _ e n => u.slot b o e n hb (by simp)) (fun b o _ e n => u.free b o e n (by simp)) (fun b o _ e => u.there b o e (by simp)) u.tups u.frzs u.tbls (fun m' hm => by
    obtain ⟨o', es', ep', ho', r'⟩ := hm
    rw [ho] at ho'; cases ho'
    exact ⟨_, es', ep', hL, r'⟩) hok I.bare
theorem Inv.call {g' : Array GenState} {t' : Nat} {d' : Drawn} {ch : List Addr} (I : Inv X pins σ H s) (u : Un (frs X.stack) ch H H' s.heap h') (hok : HOk X.prog X.w H' h') (hg : AllBare g')
    (hch : ∀ b ∈ ch, (b ∈ X.ex ∨ X.s₀.heap.objs.size ≤ b) ∧ b ≠ X.env.locals ∧ (∀ x c, X.env.cells.lookup x = some c → c ≠ b) ∧ ∀ p ∈ X.pn ++ pins, p.1 ≠ b) :
    Inv X pins σ H' { s with heap := h', gens := g', drawn := d', toks := t' } := by
  obtain ⟨m, ⟨o, es, ep, ho, r⟩, _⟩ := id I.loc
  obtain ⟨sl, hL⟩ := u.any ho I.free fun z => (hch _ z).2.1 rfl
  exact I.step (ch := ch) hch (fun b o hL hb hc e n => u.keep b o e n (fun z => (List.mem_cons.mp (I.stkSub b z)).elim hL hb) hc) (fun b o _ _ hc e n => u.any e n hc) (fun b o hc e n => u.free b o e n hc) (fun b o hc e => u.there b o e hc) u.tups u.frzs u.tbls (fun m' hm => by
    obtain ⟨o', es', ep', ho', r'⟩ := hm
    rw [ho] at ho'; cases ho'
    exact ⟨_, es', ep', hL, r'⟩) hok hg
theorem Inv.turned {t' : Nat} {it : Addr} (I : Inv X pins σ H s) (k : ∀ b o, b ≠ it → s.heap.get? b = some o → h'.get? b = some o) (hn : H it = none) (hL : it ≠ X.env.locals)
    (h1 : it ∈ X.ex ∨ X.s₀.heap.objs.size ≤ it) (h2 : ∀ x c, X.env.cells.lookup x = some c → c ≠ it) (h3 : ∀ p ∈ X.pn ++ pins, p.1 ≠ it) : Inv X pins σ H { s with heap := h', toks := t' } := by
  have nit : ∀ b u, H b = some u → b ≠ it := fun b u e z => by rw [z, hn] at e; cases e
  refine I.step (g' := s.gens) (d' := s.drawn) (ch := [it]) (fun b hb => ?_) (fun b o _ _ hc e _ => k b o (fun z => hc (by simp [z])) e) (fun b o _ _ hc e _ => ⟨o.slots, k b o (fun z => hc (by simp [z])) e⟩) (fun _ _ _ _ n => n)
    (fun b o hc e => ⟨o, k b o (fun z => hc (by simp [z])) e⟩) (fun _ _ e => e) (fun _ _ _ e => e) (fun b ps e => ⟨#[], by rw [e]; simp⟩) (fun m hm => ?_) (fun b u e => ?_) I.bare
  · have e : b = it := by simpa using hb
    subst e
    exact ⟨h1, hL, h2, h3⟩
  · obtain ⟨o, es, ep, ho, r⟩ := hm
    exact ⟨o, es, ep, k _ o (Ne.symm hL) ho, r⟩
  · refine (I.hok b u e).stay (fun c v hc q => k c v ?_ q) (fun _ q => q) fun _ _ q => q
    rcases hc with z | z
    · rw [z]; exact nit b u e
    · exact nit c _ z
theorem Inv.tok (I : Inv X pins σ H s) (t : Nat) : Inv X pins σ H { s with toks := t } := I.un (h' := s.heap) (t' := t) Un.refl I.hok
theorem Inv.kept {t' : Nat} (I : Inv X pins σ H s) (k : ∀ b u, s.heap.get? b = some u → h'.get? b = some u) : Inv X pins σ H { s with heap := h', toks := t' } := I.un (Un.kept k) (I.hok.kept k)
theorem Inv.laid {a : Addr} {o : HO} {t' : Nat} (I : Inv X pins σ H s) (k : ∀ b u, s.heap.get? b = some u → h'.get? b = some u) (hp : s.heap.objs.size ≤ a) (new : ObjOk X.prog X.w (upd H a o) h' a o) :
    Inv X pins σ (upd H a o) { s with heap := h', toks := t' } := I.un (Un.laid k hp (I.hok.fresh hp)) (I.hok.laid k hp new)
theorem Inv.write {x e : Addr} {o : HO} {t' : Nat} (I : Inv X pins σ H s) (mu : Mut (H x)) (he : e = x ∨ H e = some (.own x)) (k : ∀ b u, b ≠ e → s.heap.get? b = some u → h'.get? b = some u) (heo : ∃ u, h'.get? e = some u)
    (new : ObjOk X.prog X.w (upd H x o) h' x o) : Inv X pins σ (upd H x o) { s with heap := h', toks := t' } := I.un (Un.write mu he k heo) (I.hok.write mu he k heo new)
theorem Inv.pins_of {pins' : List (Addr × Obj)} (I : Inv X pins σ H s) (h : ∀ p ∈ pins', s.heap.get? p.1 = some p.2 ∧ H p.1 = none ∧ p.1 ≠ X.env.locals ∧ p.1 ∉ X.fs ∧ ∀ v, p.2.data ≠ .cell v) : Inv X pins' σ H s :=
  ⟨I.ok, I.os, I.bare, I.base, I.loc, I.cell, I.free, I.freeC, fun p hp => (List.mem_append.mp hp).elim (fun z => I.pin p (List.mem_append_left _ z)) (h p), I.hok, I.len, I.qd⟩

theorem nodup_ix {N : List Str} (hN : N.Nodup) {i j : Nat} {x : Str} (a : N[i]? = some x) (b : N[j]? = some x) : i = j := by
  obtain ⟨h1, e1⟩ := List.getElem?_eq_some_iff.mp a
  obtain ⟨h2, e2⟩ := List.getElem?_eq_some_iff.mp b
  exact (List.getElem_inj hN).mp (e1.trans e2.symm)

theorem store_ok2 {M : Model} {A : Around} {E : Value → Shared → Prop} {i : Nat} {x : Str} {v : V} {u : Value} {Q : Unit → Shared → Prop} (I : Inv X pins σ H s) (hN : X.N.Nodup) (hi : X.N[i]? = some x) (hx : Loc X.env.scope x) (r : RelV v u)
    (h : ∀ s', Inv X pins (σ.set i (some v)) H s' → (∃ a, Heap.SameBut a s.heap s'.heap ∧ (a = X.env.locals ∨ X.env.cells.lookup x = some a)) → Q () s') (hf : X.fn x = true ∨ X.env.scope.names.lookup x = some .local := by first | exact .inl rfl | exact .inr rfl | assumption) : wpAny M A (storeName X.env x u) Q E s := by
  obtain ⟨m, hn, hl⟩ := id I.loc
  have hcls : (X.env.scope.kind == .class || (X.env.scope.kind == .module && X.env.locals != X.env.globals)) = false := by rw [I.ok.kind]; rfl
  have hiσ : i < σ.length := by rw [I.len]; exact (List.getElem?_eq_some_iff.mp hi).1
  have cne := I.cne
  have tracked : ∀ {a : Addr} {h' : Heap}, (∃ o, s.heap.get? a = some o ∧ H a = none) → Heap.SameBut a s.heap h' → HOk X.prog X.w H h' := fun {a h'} ha hs b ob e => by
    obtain ⟨_, _, hfree⟩ := ha
    refine (I.hok b ob e).stay (fun c w' hc q => (hs.2 c ?_).trans q) (fun _ q => q) fun _ _ q => q
    rintro rfl
    rcases hc with rfl | hc
    · rw [hfree] at e; cases e
    · rw [hfree] at hc; cases hc
  rcases hx with hk | hk
  · refine wpAny_storeName_local hk hn (fun h' hn' hs => ?_) hcls
    obtain ⟨oL, _, _, hoL, _⟩ := id hn
    refine h _ ⟨I.ok, I.os, I.bare, ⟨fun b o e n hb hx => ?_, fun b o e n hb hx => ?_, I.base.free, fun b o e hx => ?_, I.base.tups, I.base.frzs, I.base.tbls⟩, ⟨_, hn', fun j y v' e1 e2 e3 => ?_⟩, fun y c e => ?_, I.free, I.freeC, fun p hp => ?_, tracked ⟨oL, hoL, I.free⟩ hs, by simpa using I.len, I.qd⟩ ⟨_, hs, .inl rfl⟩
    · exact (hs.2 b (Nat.ne_of_lt (Nat.lt_of_lt_of_le (Heap.lt_size e) I.ok.above))).trans (I.base.keep b o e n hb hx)
    · obtain ⟨sl, e1⟩ := I.base.slot b o e n hb hx
      exact ⟨sl, (hs.2 b (Nat.ne_of_lt (Nat.lt_of_lt_of_le (Heap.lt_size e) I.ok.above))).trans e1⟩
    · obtain ⟨o', e1⟩ := I.base.there b o e hx
      exact ⟨o', (hs.2 b (Nat.ne_of_lt (Nat.lt_of_lt_of_le (Heap.lt_size e) I.ok.above))).trans e1⟩
    · by_cases hj : j = i
      · subst hj
        rw [hi] at e1; cases e1
        rw [List.getElem?_set_self hiσ] at e2
        cases e2
        exact ⟨u, r, .inl ⟨hk, by simp⟩⟩
      · rw [List.getElem?_set_ne (Ne.symm hj)] at e2
        obtain ⟨u', r', q⟩ := hl j y v' e1 e2 e3
        refine ⟨u', r', ?_⟩
        rcases q with ⟨k, e⟩ | ⟨k, c, e, z⟩
        · refine .inl ⟨k, ?_⟩
          have : y ≠ x := fun e => hj (nodup_ix hN e1 (e ▸ hi))
          simp [this, e]
        · exact .inr ⟨k, c, e, z.sameBut hs (cne y c e)⟩
    · obtain ⟨w', z⟩ := I.cell y c e
      exact ⟨w', z.sameBut hs (cne y c e)⟩
    · obtain ⟨e, n, ne, nf, d⟩ := I.pin p hp
      exact ⟨(hs.2 p.1 ne).trans e, n, ne, nf, d⟩
  · have hfn : X.fn x = true := by
      rcases hf with z | z
      · exact z
      · rw [z] at hk; cases hk
    obtain ⟨c, hc⟩ := I.ok.has x (.inl hk)
    obtain ⟨w', z⟩ := I.cell x c hc
    refine wpAny_storeName_cell I.ok.kind hk hc z (fun h' hc' hs => ?_)
    obtain ⟨oc, hoc, hocd⟩ := id z
    refine h { s with heap := h' } ⟨I.ok, I.os, I.bare, ⟨fun b o e n hb hx => ?_, fun b o e n hb hx => ?_, I.base.free, fun b o e hx => ?_, I.base.tups, I.base.frzs, I.base.tbls⟩, ⟨m, hn.sameBut hs (Ne.symm (cne x c hc)), fun j y v' e1 e2 e3 => ?_⟩, fun y c' e => ?_, I.free, I.freeC, fun p hp => ?_, tracked ⟨oc, hoc, I.freeC x c hc⟩ hs, by simpa using I.len, I.qd⟩ ⟨c, hs, .inr hc⟩
    · exact (hs.2 b (Nat.ne_of_lt (Nat.lt_of_lt_of_le (Heap.lt_size e) (I.ok.cab x c hfn hc)))).trans (I.base.keep b o e n hb hx)
    · obtain ⟨sl, e1⟩ := I.base.slot b o e n hb hx
      exact ⟨sl, (hs.2 b (Nat.ne_of_lt (Nat.lt_of_lt_of_le (Heap.lt_size e) (I.ok.cab x c hfn hc)))).trans e1⟩
    · obtain ⟨o', e1⟩ := I.base.there b o e hx
      exact ⟨o', (hs.2 b (Nat.ne_of_lt (Nat.lt_of_lt_of_le (Heap.lt_size e) (I.ok.cab x c hfn hc)))).trans e1⟩
    · by_cases hj : j = i
      · subst hj
        rw [hi] at e1; cases e1
        rw [List.getElem?_set_self hiσ] at e2
        cases e2
        exact ⟨u, r, .inr ⟨.inl hk, c, hc, hc'⟩⟩
      · rw [List.getElem?_set_ne (Ne.symm hj)] at e2
        obtain ⟨u', r', q⟩ := hl j y v' e1 e2 e3
        refine ⟨u', r', ?_⟩
        rcases q with q | ⟨k, c', e, z'⟩
        · exact .inl q
        · refine .inr ⟨k, c', e, z'.sameBut hs ?_⟩
          rintro rfl
          exact hj (nodup_ix hN e1 (I.ok.inj _ _ _ e hc ▸ hi))
    · by_cases hcc : c' = c
      · subst hcc; exact ⟨_, hc'⟩
      · obtain ⟨w2, z2⟩ := I.cell y c' e
        exact ⟨w2, z2.sameBut hs hcc⟩
    · obtain ⟨e, n, ne, nf, d⟩ := I.pin p hp
      refine ⟨(hs.2 p.1 ?_).trans e, n, ne, nf, d⟩
      intro q
      rw [q, hoc] at e
      have q' : oc = p.2 := Option.some.inj e
      exact d w' (by rw [← q']; exact hocd)
theorem store_ok {M : Model} {A : Around} {E : Value → Shared → Prop} {i : Nat} {x : Str} {v : V} {u : Value} {Q : Unit → Shared → Prop} (I : Inv X pins σ H s) (hN : X.N.Nodup) (hi : X.N[i]? = some x) (hx : Loc X.env.scope x) (r : RelV v u)
    (h : ∀ s', Inv X pins (σ.set i (some v)) H s' → Q () s') (hf : X.fn x = true ∨ X.env.scope.names.lookup x = some .local := by first | exact .inl rfl | exact .inr rfl | assumption) : wpAny M A (storeName X.env x u) Q E s :=
  store_ok2 I hN hi hx r (fun s' I' _ => h s' I') hf
theorem Inv.call' {s' : Shared} {ch : List Addr} (I : Inv X pins σ H s) (ho : s'.os = s.os) (u : Un (frs X.stack) ch H H' s.heap s'.heap) (hok : HOk X.prog X.w H' s'.heap) (hg : AllBare s'.gens)
    (hch : ∀ b ∈ ch, (b ∈ X.ex ∨ X.s₀.heap.objs.size ≤ b) ∧ b ≠ X.env.locals ∧ (∀ x c, X.env.cells.lookup x = some c → c ≠ b) ∧ ∀ p ∈ X.pn ++ pins, p.1 ≠ b) : Inv X pins σ H' s' := by
  obtain ⟨h', g', d', t', o'⟩ := s'
  have e : o' = s.os := ho
  subst e
  exact I.call (g' := g') (t' := t') (d' := d') u hok hg hch
end

noncomputable abbrev XK := Value → Option Addr → Hp → Prop
noncomputable abbrev St := List (Option V)
noncomputable abbrev VK := V → Hp → Prop
noncomputable abbrev TE := St → Hp → VK → Prop
noncomputable abbrev TT := St → Hp → (Bool → Hp → Prop) → Prop
noncomputable abbrev TA := St → Hp → (List V → Hp → Prop) → Prop
structure Ends where
  nx : St → Hp → Prop
  rt : VK
  bk : St → Hp → Prop := fun _ _ => False
  ct : St → Hp → Prop := fun _ _ => False
noncomputable abbrev TS := Ends → St → Hp → Prop

noncomputable def EP (X : Cx) (pins : List (Addr × Obj)) (σ : St) (Q : VK) (u : Value) (s' : Shared) : Prop := ∃ v H', Inv X pins σ H' s' ∧ RelV v u ∧ Q v H'
noncomputable def TP (X : Cx) (pins : List (Addr × Obj)) (σ : St) (Q : Bool → Hp → Prop) (b : Bool) (s' : Shared) : Prop := ∃ H', Inv X pins σ H' s' ∧ Q b H'
noncomputable def AP (X : Cx) (pins : List (Addr × Obj)) (σ : St) (Q : List V → Hp → Prop) (us : List Value) (s' : Shared) : Prop := ∃ vs H', Inv X pins σ H' s' ∧ Vals vs us ∧ Q vs H'
noncomputable def SP (X : Cx) (pins : List (Addr × Obj)) (D : Ends) (f : Flow) (s' : Shared) : Prop :=
  match f with
  | .next => ∃ σ' H', Inv X pins σ' H' s' ∧ D.nx σ' H'
  | .brk => ∃ σ' H', Inv X pins σ' H' s' ∧ D.bk σ' H'
  | .cont => ∃ σ' H', Inv X pins σ' H' s' ∧ D.ct σ' H'
  | .ret u => ∃ v σ' H', Inv X pins σ' H' s' ∧ RelV v u ∧ D.rt v H'

noncomputable def PE (X : Cx) (e : Expr) (t : TE) : Prop :=
  ∀ (pins : List (Addr × Obj)) (s : Shared) (σ : St) (H : Hp) (Q : VK), Inv X pins σ H s → t σ H Q → wpAny (model X.prog X.w) X.A (eval e X.env) (EP X pins σ Q) X.xe s
noncomputable def PT (X : Cx) (e : Expr) (t : TT) : Prop :=
  ∀ (pins : List (Addr × Obj)) (s : Shared) (σ : St) (H : Hp) (Q : Bool → Hp → Prop), Inv X pins σ H s → t σ H Q → wpAny (model X.prog X.w) X.A (isTrue e X.env (eval e X.env)) (TP X pins σ Q) X.xe s
noncomputable def PW (X : Cx) (e : Expr) (t : TT) : Prop :=
  ∀ (whole : Sem Value) (pins : List (Addr × Obj)) (s : Shared) (σ : St) (H : Hp) (Q : Bool → Hp → Prop), Inv X pins σ H s → t σ H Q → wpAny (model X.prog X.w) X.A (isTrue e X.env whole) (TP X pins σ Q) X.xe s
theorem PW.pt {X : Cx} {e : Expr} {t : TT} (h : PW X e t) : PT X e t := h _
noncomputable def PA (X : Cx) (es : List Expr) (t : TA) : Prop :=
  ∀ (pos : Pos) (pins : List (Addr × Obj)) (s : Shared) (σ : St) (H : Hp) (Q : List V → Hp → Prop), Inv X pins σ H s → t σ H Q → wpAny (model X.prog X.w) X.A (spliced (backTo pos (starEach es X.env))) (AP X pins σ Q) X.xe s
noncomputable def PS (X : Cx) (st : Stmt) (t : TS) : Prop :=
  ∀ (pins : List (Addr × Obj)) (s : Shared) (σ : St) (H : Hp) (D : Ends), Inv X pins σ H s → t D σ H → wpAny (model X.prog X.w) X.A (exec st X.env) (SP X pins D) X.xe s
noncomputable def PSs (X : Cx) (st : List Stmt) (t : TS) : Prop :=
  ∀ (pins : List (Addr × Obj)) (s : Shared) (σ : St) (H : Hp) (D : Ends), Inv X pins σ H s → t D σ H → wpAny (model X.prog X.w) X.A (execs st X.env) (SP X pins D) X.xe s
theorem thn {α : Type} {t : Sem α} {Q Q' : α → Shared → Prop} {M : Model} {A : Around} {E : Value → Shared → Prop} {s : Shared} (h : wpAny M A t Q E s) (hQ : ∀ a s, Q a s → Q' a s) : wpAny M A t Q' E s := wpAny_mono h hQ fun _ _ x => x
end L2

namespace L2
open PySem PySem.Spec PyProof.Rows
section
variable {X : Cx}

theorem bin {a b : Expr} {ta tb : TE} (ha : PE X a ta) (hb : PE X b tb) {pins : List (Addr × Obj)} {s : Shared} {σ : St} {H : Hp} {R : V → V → Hp → Prop} (I : Inv X pins σ H s) (h : ta σ H fun x H1 => tb σ H1 fun y H2 => R x y H2)
    {α : Type} {Q : α → Shared → Prop} {f : Value → Value → Sem α}
    (hf : ∀ v u s2 x y H2, Inv X pins σ H2 s2 → RelV x v → RelV y u → R x y H2 → wpAny (model X.prog X.w) X.A (f v u) Q X.xe s2) :
    wpAny (model X.prog X.w) X.A (eval a X.env) (fun v s₁ => wpAny (model X.prog X.w) X.A (eval b X.env) (fun u s₂ => wpAny (model X.prog X.w) X.A (f v u) Q X.xe s₂) X.xe s₁) X.xe s := by
  refine thn (ha pins s σ H _ I h) fun v s1 ⟨x, H1, I1, r1, q1⟩ => ?_
  refine thn (hb pins s1 σ H1 _ I1 q1) fun u s2 ⟨y, H2, I2, r2, q2⟩ => ?_
  exact hf v u s2 x y H2 I2 r1 r2 q2

noncomputable def tVar (i : Nat) : TE := fun σ H Q => ∃ v, σ[i]? = some (some v) ∧ Q v H
noncomputable def tC (v : V) : TE := fun _ H Q => Q v H
theorem pe_var {i : Nat} {x : Str} {pos : Pos} (hN : X.N[i]? = some x) (hv : Vis X.env.scope x) (hd : (x == ("__debug__" : Str)) = false := by decide) (hcd : (x == ("__classdict__" : Str)) = false := by decide) : PE X (.Name x pos) (tVar i) := by
  intro pins s σ H Q I h
  obtain ⟨v, e, h⟩ := h
  obtain ⟨m, hn, hl⟩ := I.loc
  obtain ⟨u, r, l⟩ := hl i x v hN e hv
  have fin : EP X pins σ Q u s := ⟨v, H, I, r, h⟩
  rcases l with ⟨hk, hm⟩ | ⟨hk, c, hc, hcell⟩
  · exact wpAny_Name (wpAny_loadName_local I.ok.kind hk hn hm fin) hd
  · rcases hk with hk | hk
    · exact wpAny_Name (wpAny_loadName_cell I.ok.kind hk hc hcell fin) hd
    · exact wpAny_Name (wpAny_loadName_free I.ok.kind hk hc hcell fin hcd) hd
theorem pe_int {i j pos} : PE X (.Constant (.int i) j pos) (tC (.int i)) := fun _ _ _ H _ I h => wpAny_Constant_int ⟨.int i, H, I.tok _, ⟨_, rfl⟩, h⟩
theorem pe_bl {b j pos} : PE X (.Constant (.bool b) j pos) (tC (.bl b)) := fun _ _ _ H _ I h => Constant_bool ⟨.bl b, H, I, rfl, h⟩
theorem pe_str {x j pos} : PE X (.Constant (.str x) j pos) (tC (.str x)) := fun _ _ _ H _ I h => Calls.Constant_str ⟨.str x, H, I.tok _, ⟨_, rfl⟩, h⟩

noncomputable def Gl (X : Cx) (x : Str) : Prop := X.env.kindOf x = some .globalImplicit
theorem ld_glob {E : Value → Shared → Prop} {pins : List (Addr × Obj)} {s : Shared} {σ : St} {H : Hp} {x : Str} {u : Value} {pos : Pos} {Q : Value → Shared → Prop} (I : Inv X pins σ H s) (hg : Gl X x) (hm : X.mg x = some u) (h : Q u s)
    (hd : (x == ("__debug__" : Str)) = false := by decide) : wpAny (model X.prog X.w) X.A (eval (.Name x pos) X.env) Q E s :=
  Calls.Name_function_global I.ok.kind hg (Calls.loadGlobal_global (by rw [I.ok.glob]; exact I.mod.glob.keeps I.bk) hm h) hd
theorem ld_blt {E : Value → Shared → Prop} {pins : List (Addr × Obj)} {s : Shared} {σ : St} {H : Hp} {x : Str} {u : Value} {pos : Pos} {Q : Value → Shared → Prop} (I : Inv X pins σ H s) (hg : Gl X x) (hm : X.mg x = none) (hv : bootBuiltins x = some u) (h : Q u s)
    (hn : x ≠ "__name__" := by decide) (hd : (x == ("__debug__" : Str)) = false := by decide) : wpAny (model X.prog X.w) X.A (eval (.Name x pos) X.env) Q E s := by
  obtain ⟨mb, h1, h2⟩ := I.mod.blt
  exact Calls.Name_function_global I.ok.kind hg (Calls.loadGlobal_builtin (by rw [I.ok.glob]; exact I.mod.glob.keeps I.bk) hm (by rw [I.ok.blt]; exact h1.keeps I.bk) ((h2 x hn).trans hv) h) hd
theorem pe_bltn {x : Str} {v : V} {u : Value} {pos : Pos} (hg : Gl X x) (hm : X.mg x = none) (hv : bootBuiltins x = some u) (r : RelV v u) (hn : x ≠ "__name__" := by decide) (hd : (x == ("__debug__" : Str)) = false := by decide) : PE X (.Name x pos) (tC v) :=
  fun _ _ _ H _ I h => ld_blt I hg hm hv ⟨v, H, I, r, h⟩ hn hd

variable {a b : Expr} {ta tb : TE} {pos : Pos}
noncomputable def PC (X : Cx) (op : CmpOp) (a b : Expr) (t : TE) : Prop :=
  ∀ (pins : List (Addr × Obj)) (s : Shared) (σ : St) (H : Hp) (Q : VK), Inv X pins σ H s → t σ H Q →
    wpAny (model X.prog X.w) X.A (eval a X.env) (fun v s₁ => wpAny (model X.prog X.w) X.A (eval b X.env) (fun u s₂ => wpAny (model X.prog X.w) X.A (compareOp op v u) (EP X pins σ Q) X.xe s₂) X.xe s₁) X.xe s
theorem nobehind (b : Expr) {op : CmpOp} (h : op ≠ .In) (h2 : op ≠ .NotIn) : behindInMarks op b = false := by
  have e1 : (op == CmpOp.In) = false := by cases op <;> first | rfl | exact absurd rfl h
  have e2 : (op == CmpOp.NotIn) = false := by cases op <;> first | rfl | exact absurd rfl h2
  cases b <;> simp [behindInMarks, e1, e2]
noncomputable def tB (t : TE) : TT := fun σ H Q => t σ H fun x H1 => ∃ c, x = .bl c ∧ Q c H1
theorem pt_cmp {op : CmpOp} {t : TE} (h : PC X op a b t) (h1 : behindInMarks op b = false := by first | exact nobehind _ (by decide) (by decide) | rfl) : PT X (.Compare a [op] [b] pos) (tB t) := by
  intro pins s σ H Q I hw
  refine wpAny_isTrue_Compare1 (thn (h pins s σ H _ I hw) fun v s1 h1 => thn h1 fun u s2 h2 => thn h2 fun c s3 ⟨x, H1, I1, r1, q1⟩ => ?_) h1
  obtain ⟨d, rfl, q⟩ := q1
  cases r1
  exact wpAny_truthy_bool ⟨H1, I1, q⟩
theorem pt_val {e : Expr} {t : TE} (h : PE X e t) (he : ∀ whole, isTrue e X.env whole = (do let v ← whole; standAt e.pos; holding [v] (truthy v)) := by intro _; rfl) : PT X e (tB t) := by
  intro pins s σ H Q I hw
  refine isTrue_plain (thn (h pins s σ H _ I hw) fun v s1 ⟨x, H1, I1, r1, q1⟩ => ?_) (he _)
  obtain ⟨d, rfl, q⟩ := q1
  cases r1
  exact wpAny_truthy_bool ⟨H1, I1, q⟩

variable {tA tB' : TT} {rest : List Expr}
noncomputable def tOr (t u : TT) : TT := fun σ H Q => t σ H fun c H1 => if c = true then Q true H1 else u σ H1 Q
noncomputable def tNot (t : TT) : TT := fun σ H Q => t σ H fun c H1 => Q (!c) H1
theorem pw_and1 (ha : PT X a tA) : PW X (.BoolOp .And [a] pos) tA := by
  intro wh pins s σ H Q I h
  refine isTrue_and (thn (ha pins s σ H Q I h) fun c s1 e => ?_)
  cases c with
  | true => exact isTrue_and_nil e
  | false => exact e
theorem pw_or1 (ha : PT X a tA) : PW X (.BoolOp .Or [a] pos) tA := by
  intro wh pins s σ H Q I h
  refine isTrue_or (thn (ha pins s σ H Q I h) fun c s1 e => ?_)
  cases c with
  | false => exact isTrue_or_nil e
  | true => exact e
theorem pw_or (ha : PT X a tA) (hb : PW X (.BoolOp .Or (b :: rest) pos) tB') : PW X (.BoolOp .Or (a :: b :: rest) pos) (tOr tA tB') := by
  intro wh pins s σ H Q I h
  refine isTrue_or (thn (ha pins s σ H _ I h) fun c s1 ⟨H1, I1, q1⟩ => ?_)
  cases c with
  | true => exact ⟨H1, I1, q1⟩
  | false => exact hb wh pins s1 σ H1 Q I1 q1
theorem pt_not (ha : PT X a tA) : PT X (.UnaryOp .Not a pos) (tNot tA) := by
  intro pins s σ H Q I h
  exact isTrue_not (ha pins s σ H (fun c H1 => Q (!c) H1) I h)
noncomputable def tAndV (ta tb : TE) : TE := fun σ H Q => ta σ H fun x H1 => ∃ c, x = .bl c ∧ if c = true then tb σ H1 Q else Q (.bl false) H1
noncomputable def tNotV (ta : TE) : TE := fun σ H Q => ta σ H fun x H1 => ∃ c, x = .bl c ∧ Q (.bl (!c)) H1
theorem pe_one {op} {t : TE} (h : PE X a t) : PE X (.BoolOp op [a] pos) t := fun pins s σ H Q I hw => BoolOp_one (h pins s σ H Q I hw)
theorem pe_and (ha : PE X a ta) (hb : PE X (.BoolOp .And (b :: rest) pos) tb) : PE X (.BoolOp .And (a :: b :: rest) pos) (tAndV ta tb) := by
  intro pins s σ H Q I h
  refine BoolOp_and (thn (ha pins s σ H _ I h) fun v s1 ⟨x, H1, I1, r1, q1⟩ => ?_)
  obtain ⟨c, rfl, q1⟩ := q1
  cases r1
  refine wpAny_truthy_bool ?_
  cases c with
  | true => exact hb pins s1 σ H1 Q I1 q1
  | false => exact ⟨.bl false, H1, I1, rfl, q1⟩
theorem pe_not (ha : PE X a ta) : PE X (.UnaryOp .Not a pos) (tNotV ta) := by
  intro pins s σ H Q I h
  refine UnaryOp_ (thn (ha pins s σ H _ I h) fun v s1 ⟨x, H1, I1, r1, q1⟩ => ?_)
  obtain ⟨c, rfl, q1⟩ := q1
  cases r1
  exact not_of (wpAny_truthy_bool ⟨.bl (!c), H1, I1, rfl, q1⟩)
end
end L2

namespace L2
open PySem PySem.Spec PyProof.Rows

noncomputable def SqL (K : PySem.W.Frag) (H : Hp) (a : Addr) (xs : List V) : Prop :=
  Rd H a (.lst xs) ∨
    ∃ (o : Obj) (its : Array Value) (n : Nat), K.lookup a = some o ∧ o.cls = .type "list" ∧ o.dict = none ∧ o.data = .seq its n ∧ its.size ≤ sizeLine ∧ Vals xs its.toList
noncomputable def SqT (K : PySem.W.Frag) (H : Hp) (a : Addr) (xs : List V) : Prop :=
  Rd H a (.tup xs) ∨
    ∃ (o : Obj) (its : Array Value) (n : Nat), K.lookup a = some o ∧ o.cls = .type "tuple" ∧ o.data = .seq its n ∧ its.size ≤ sizeLine ∧ Vals xs its.toList
noncomputable def absV : Value → Option V
  | .none => some .non
  | .bool b => some (.bl b)
  | .int i _ => some (.int i)
  | .str x _ => some (.str x)
  | .bytes b _ => some (.byt b)
  | .float b _ => some (.flt b)
  | .ref a => some (.ref a)
  | .type n => some (.ty n)
  | _ => none
theorem RelV.abs {x : V} {u : Value} (r : RelV x u) : absV u = some x := by
  cases x with
  | non => cases r; rfl
  | bl _ => cases r; rfl
  | int _ => obtain ⟨t, rfl⟩ := r; rfl
  | str _ => obtain ⟨t, rfl⟩ := r; rfl
  | byt _ => obtain ⟨t, rfl⟩ := r; rfl
  | flt _ => obtain ⟨t, rfl⟩ := r; rfl
  | ref _ => cases r; rfl
  | ty _ => cases r; rfl
theorem RelV.inj {x y : V} {u : Value} (r : RelV x u) (q : RelV y u) : x = y := Option.some.inj (r.abs.symm.trans q.abs)
theorem Vals.inj : ∀ {xs ys : List V} {us : List Value}, Vals xs us → Vals ys us → xs = ys
  | _, _, _, .nil, .nil => rfl
  | _, _, _, .cons r t, .cons r' t' => by rw [r.inj r', Vals.inj t t']
section
variable {X : Cx} {pins : List (Addr × Obj)} {σ : St} {H : Hp} {s : Shared} {a : Addr} {xs ys : List V}
theorem SqL.of {K : PySem.W.Frag} (h : H a = some (.lst xs)) : SqL K H a xs := .inl (.inl h)
theorem Inv.list (I : Inv X pins σ H s) (h : SqL X.K H a xs) : ∃ its : List Value, Vals xs its ∧ PlainL s.heap a its.toArray ∧ xs.length ≤ sizeLine := by
  rcases h with h | ⟨o, its, n, hk, hc, hd, hs, hz, r⟩
  · obtain ⟨z, its, n, r, e⟩ := h.ok I.hok
    exact ⟨its, r, ⟨_, n, e, rfl, rfl, rfl⟩, z⟩
  · refine ⟨its.toList, r, ⟨o, n, I.kIn a o hk, hc, hd, by simpa using hs⟩, ?_⟩
    have e := r.length
    simp only [Array.length_toList] at e
    omega
theorem Inv.tuple (I : Inv X pins σ H s) (h : SqT X.K H a xs) : ∃ its : List Value, Vals xs its ∧ IsTup s.heap a its.toArray ∧ xs.length ≤ sizeLine := by
  rcases h with h | ⟨o, its, n, hk, hc, hs, hz, r⟩
  · obtain ⟨z, its, r, p⟩ := h.ok I.hok
    exact ⟨its, r, p, z⟩
  · refine ⟨its.toList, r, ⟨o, I.kIn a o hk, hc, n, by simpa using hs⟩, ?_⟩
    have e := r.length
    simp only [Array.length_toList] at e
    omega
theorem Inv.list_inj (I : Inv X pins σ H s) (h : SqL X.K H a xs) (h' : SqL X.K H a ys) : xs = ys := by
  obtain ⟨its, r, ⟨o, n, e, _, _, d⟩, _⟩ := I.list h
  obtain ⟨its', r', ⟨o', n', e', _, _, d'⟩, _⟩ := I.list h'
  rw [e] at e'; cases e'
  rw [d] at d'
  injection d' with d1 _
  have : its = its' := by simpa using congrArg Array.toList d1
  subst this
  exact r.inj r'
theorem Inv.tuple_inj (I : Inv X pins σ H s) (h : SqT X.K H a xs) (h' : SqT X.K H a ys) : xs = ys := by
  obtain ⟨its, r, ⟨o, e, _, n, d⟩, _⟩ := I.tuple h
  obtain ⟨its', r', ⟨o', e', _, n', d'⟩, _⟩ := I.tuple h'
  rw [e] at e'; cases e'
  rw [d] at d'
  injection d' with d1 _
  have : its = its' := by simpa using congrArg Array.toList d1
  subst this
  exact r.inj r'
end

section
variable {X : Cx} {pins : List (Addr × Obj)} {σ : St} {H : Hp} {s : Shared} {E : Value → Shared → Prop}
end

section
variable {X : Cx} {st : Stmt} {rest : List Stmt} {t u : TS} {e : Expr} {te : TE} {pos : Pos}
noncomputable def tNext : TS := fun D σ H => D.nx σ H
noncomputable def tSeq (t u : TS) : TS := fun D σ H => t { D with nx := u D } σ H
theorem pss_nil : PSs X [] tNext := fun _ _ σ H _ I h => wpAny_execs_nil ⟨σ, H, I, h⟩
theorem pss_cons (h1 : PS X st t) (h2 : PSs X rest u) : PSs X (st :: rest) (tSeq t u) := by
  intro pins s σ H D I h
  refine wpAny_execs_cons (thn (h1 pins s σ H { D with nx := u D } I h) fun f s1 q => ?_)
  cases f with
  | next =>
    obtain ⟨σ', H', I', q⟩ := q
    exact h2 pins s1 σ' H' D I' q
  | ret v => exact q
  | brk => exact q
  | cont => exact q
theorem pss_one (h1 : PS X st t) : PSs X [st] t := by
  intro pins s σ H D I h
  refine wpAny_execs_cons (thn (h1 pins s σ H D I h) fun f s1 q => ?_)
  cases f with
  | next => exact wpAny_execs_nil q
  | ret v => exact q
  | brk => exact q
  | cont => exact q
theorem Inv.quiet {pins : List (Addr × Obj)} {σ : St} {H : Hp} {s : Shared} (I : Inv X pins σ H s) : interactive X.env = false := by simp [interactive, I.ok.kind]
noncomputable def tDrop (te : TE) : TS := fun D σ H => te σ H fun _ H1 => D.nx σ H1
theorem ps_expr (he : PE X e te) (hs : swapsWith e none pos.line X.env = pure false := by rfl) : PS X (.Expr e pos) (tDrop te) := by
  intro pins s σ H D I h
  exact wpAny_Expr_any (thn (he pins s σ H _ I h) fun v s1 ⟨x, H1, I1, r1, q1⟩ => ⟨σ, H1, I1, q1⟩) I.quiet hs
noncomputable def tRet (te : TE) : TS := fun D σ H => te σ H D.rt
theorem ps_ret (he : PE X e te) : PS X (.Return (some e) pos) (tRet te) := by
  intro pins s σ H D I h
  exact wpAny_Return_some (thn (he pins s σ H _ I h) fun v s1 ⟨x, H1, I1, r1, q1⟩ => ⟨x, σ, H1, I1, r1, q1⟩)
noncomputable def tIfS (c : TT) (t u : TS) : TS := fun D σ H => c σ H fun b H1 => if b = true then t D σ H1 else u D σ H1
theorem ps_if {c : Expr} {a b : List Stmt} {tc : TT} (hc : PT X c tc) (ha : PSs X a t) (hb : PSs X b u) : PS X (.If c a b pos) (tIfS tc t u) := by
  intro pins s σ H D I h
  refine wpAny_If (thn (hc pins s σ H _ I h) fun d s1 ⟨H1, I1, q1⟩ => ?_)
  cases d with
  | true => exact ha pins s1 σ H1 D I1 q1
  | false => exact hb pins s1 σ H1 D I1 q1
end

noncomputable abbrev TG := V → St → Hp → (St → Hp → Prop) → Prop
noncomputable abbrev TGs := List V → St → Hp → (St → Hp → Prop) → Prop
noncomputable def PG (X : Cx) (target : Expr) (t : TG) : Prop :=
  ∀ (pins : List (Addr × Obj)) (s : Shared) (σ : St) (H : Hp) (v : V) (u : Value) (Q : St → Hp → Prop), Inv X pins σ H s → RelV v u → t v σ H Q →
    wpAny (model X.prog X.w) X.A (assign target X.env u) (fun _ s' => ∃ σ' H', Inv X pins σ' H' s' ∧ Q σ' H') X.xe s
noncomputable def PGs (X : Cx) (ts : List Expr) (t : TGs) : Prop :=
  ∀ (pins : List (Addr × Obj)) (s : Shared) (σ : St) (H : Hp) (vs : List V) (us : List Value) (Q : St → Hp → Prop), Inv X pins σ H s → Vals vs us → t vs σ H Q →
    wpAny (model X.prog X.w) X.A (assignInOrder ((assignEach ts X.env).map (·.2)) us) (fun _ s' => ∃ σ' H', Inv X pins σ' H' s' ∧ Q σ' H') X.xe s
noncomputable abbrev TSet := V → V → V → Hp → (Hp → Prop) → Prop
noncomputable def PSet (X : Cx) (t : TSet) : Prop :=
  ∀ (pins : List (Addr × Obj)) (s : Shared) (σ : St) (H : Hp) (o i v : V) (ov iv u : Value) (Q : Hp → Prop), Inv X pins σ H s → RelV o ov → RelV i iv → RelV v u → t o i v H Q →
    wpAny (model X.prog X.w) X.A (setItem ov iv u) (fun _ s' => ∃ H', Inv X pins σ H' s' ∧ Q H') X.xe s
section
variable {X : Cx} {pos : Pos}
noncomputable def gName (i : Nat) : TG := fun v σ H Q => Q (σ.set i (some v)) H
theorem pg_name {i : Nat} {x : Str} (hN : X.N.Nodup) (hi : X.N[i]? = some x) (hx : Loc X.env.scope x) (hf : X.fn x = true ∨ X.env.scope.names.lookup x = some .local := by first | exact .inl rfl | exact .inr rfl | assumption) : PG X (.Name x pos) (gName i) := by
  intro pins s σ H v u Q I r h
  exact wpAny_assign_Name (store_ok I hN hi hx r (fun s' I' => ⟨_, H, I', h⟩) hf)
noncomputable def gNil : TGs := fun vs σ H Q => vs = [] ∧ Q σ H
noncomputable def gCons (t : TG) (u : TGs) : TGs := fun vs σ H Q => ∃ v r, vs = v :: r ∧ t v σ H fun σ' H' => u r σ' H' Q
theorem pgs_nil : PGs X [] gNil := by
  intro pins s σ H vs us Q I r h
  obtain ⟨e, h⟩ := h
  subst e
  cases r
  exact assignInOrder_nil ⟨σ, H, I, h⟩
theorem pgs_cons {e : Expr} {es : List Expr} {t : TG} {u : TGs} (h1 : PG X e t) (h2 : PGs X es u)
    (hs : (assignEach (e :: es) X.env).map (·.2) = assign e X.env :: (assignEach es X.env).map (·.2) := by rfl) : PGs X (e :: es) (gCons t u) := by
  intro pins s σ H vs us Q I r h
  obtain ⟨v, vr, e1, h⟩ := h
  subst e1
  cases r with
  | cons r rr =>
    rw [hs]
    refine assignInOrder_cons (thn (h1 pins s σ H _ _ _ I r h) fun _ s1 ⟨σ1, H1, I1, q1⟩ => ?_)
    exact h2 pins s1 σ1 H1 _ _ Q I1 rr q1
noncomputable def gTup (K : PySem.W.Frag) (n : Nat) (t : TGs) : TG := fun v σ H Q => ∃ a xs, v = .ref a ∧ SqT K H a xs ∧ xs.length = n ∧ t xs σ H Q
theorem pg_tup {es : List Expr} {k : Nat} {t : TGs} {n : Nat} (hc : X.calm = true) (h : PGs X es t)
    (hn : (assignEach es X.env).length = n := by rfl) (hst : (assignEach es X.env).findIdx? (·.1) = none := by rfl) : PG X (.Tuple es k pos) (gTup X.K n t) := by
  intro pins s σ H v u Q I r hw
  obtain ⟨a, xs, e1, hq, hl, hw⟩ := hw
  subst e1
  cases r
  obtain ⟨its, rv, ht, hz⟩ := I.tuple hq
  refine assign_Tuple_tuple (I.ok.hd hc) ht (by simp [hn, ← hl, rv.length]) hst fun h' hx => ?_
  have I1 : Inv X pins σ H { s with heap := h' } := I.kept (t' := s.toks) fun b o e => hx b o (Nat.ne_of_lt (Heap.lt_size e)) e
  exact h pins _ σ H xs _ Q I1 (by simpa using rv) hw
noncomputable def gSub (to ti : TE) (t : TSet) : TG := fun v σ H Q => to σ H fun o H1 => ti σ H1 fun i H2 => t o i v H2 fun H3 => Q σ H3
theorem pg_sub {o i : Expr} {to ti : TE} {t : TSet} (ho : PE X o to) (hi : PE X i ti) (hs : PSet X t)
    (ha : ∀ v, assign (.Subscript o i pos) X.env v = (do
      let ov ← holding [v] (eval o X.env)
      let iv ← holding [v, ov] (eval i X.env)
      standAt pos
      holding [v, ov, iv] (setItem ov iv v)
      release [v, ov, iv] []) := by intro _; rfl) : PG X (.Subscript o i pos) (gSub to ti t) := by
  intro pins s σ H v u Q I r h
  rw [ha]
  refine wpAny_bind (wpAny_holding (thn (ho pins s σ H _ I h) fun ov s1 ⟨x, H1, I1, r1, q1⟩ => ?_))
  refine wpAny_bind (wpAny_holding (thn (hi pins s1 σ H1 _ I1 q1) fun iv s2 ⟨y, H2, I2, r2, q2⟩ => ?_))
  refine wpAny_bind (wpAny_standAt (wpAny_bind (wpAny_holding (thn (hs pins s2 σ H2 x y v ov iv u _ I2 r1 r2 r q2) fun _ s3 ⟨H3, I3, q3⟩ => ?_))))
  exact wpAny_release ⟨σ, H3, I3, q3⟩
noncomputable def tAsg (te : TE) (g : TG) : TS := fun D σ H => te σ H fun x H1 => g x σ H1 D.nx
theorem ps_asg {tg e : Expr} {te : TE} {g : TG} (he : PE X e te) (hg : PG X tg g) (hs : swapsWithSole [tg] e pos.line X.env = pure false := by rfl) (hw : swappedStores [tg] e X.env = pure none := by rfl)
    (h1 : (assignEach [tg] X.env).map (·.2) = [assign tg X.env] := by rfl) : PS X (.Assign [tg] e pos) (tAsg te g) := by
  intro pins s σ H D I h
  refine wpAny_Assign_stores (thn (he pins s σ H _ I h) fun v s1 ⟨x, H1, I1, r1, q1⟩ => ?_) hs hw
  rw [h1]
  exact thn (hg pins s1 σ H1 x v _ I1 r1 q1) fun _ s2 q => q
theorem ps_set {i : Nat} {x : Str} {e : Expr} {te : TE} {pos' : Pos} (hN : X.N.Nodup) (hi : X.N[i]? = some x) (hx : Loc X.env.scope x) (he : PE X e te) (hs : swapsWith e (some (.Name x pos')) pos.line X.env = pure false := by rfl) (hf : X.fn x = true ∨ X.env.scope.names.lookup x = some .local := by first | exact .inl rfl | exact .inr rfl | assumption) :
    PS X (.Assign [.Name x pos'] e pos) (tAsg te (gName i)) := by
  intro pins s σ H D I h
  refine wpAny_Assign_Name (thn (he pins s σ H _ I h) fun v s1 ⟨y, H1, I1, r1, q1⟩ => ?_) hs
  exact store_ok I1 hN hi hx r1 (fun s2 I2 => ⟨_, H1, I2, q1⟩) hf
noncomputable def tPar (i j : Nat) (ta : TA) : TS := fun D σ H => ta σ H fun vs H1 => ∃ v w, vs = [v, w] ∧ D.nx ((σ.set i (some v)).set j (some w)) H1
theorem ps_par {i j : Nat} {x y : Str} {a b : Expr} {ta : TA} {px py pt : Pos} {kt k2 pt2} (hc : X.calm = true) (hN : X.N.Nodup) (hi : X.N[i]? = some x) (hj : X.N[j]? = some y) (hij : i ≠ j)
    (hx : X.env.scope.names.lookup x = some .local) (hy : X.env.scope.names.lookup y = some .local) (ha : PA X [a, b] ta)
    (hw : swappedStores [.Tuple [.Name x px, .Name y py] kt pt] (.Tuple [a, b] k2 pt2) X.env = pure (some [x, y]))
    (hs : swapsWithSole [.Tuple [.Name x px, .Name y py] kt pt] (.Tuple [a, b] k2 pt2) pos.line X.env = pure false := by rfl) :
    PS X (.Assign [.Tuple [.Name x px, .Name y py] kt pt] (.Tuple [a, b] k2 pt2) pos) (tPar i j ta) := by
  intro pins s σ H D I h
  rw [exec_Assign_arm]
  refine wpAny_bind (wpAny_standAt ?_)
  rw [hs]
  refine wpAny_bind (wpAny_pure ?_)
  rw [if_neg (by decide)]
  refine wpAny_bind (Tuple_ (thn (ha _ pins s σ H _ I h) fun us s1 ⟨vs, H1, I1, r1, q1⟩ => ?_))
  obtain ⟨v, w, e1, q1⟩ := q1
  subst e1
  obtain ⟨u1, u2, rfl, rv, rw'⟩ : ∃ u1 u2, us = [u1, u2] ∧ RelV v u1 ∧ RelV w u2 := by
    cases r1 with
    | cons p q =>
      cases q with
      | cons p' q' =>
        cases q'
        exact ⟨_, _, rfl, p, p'⟩
  refine wpAny_newObj_type ?_ (by show 2 ≤ sizeLine; decide)
  have I2 : Inv X pins σ H1 { s1 with heap := s1.heap.push { cls := .type "tuple", data := .seq [u1, u2].toArray } } := I1.kept (t' := s1.toks) fun b o e => Heap.get?_push_of_some _ e
  rw [hw]
  refine wpAny_bind (wpAny_pure ?_)
  show wpAny (model X.prog X.w) X.A (do rule "assign.swapped-stores"; let items ← unpackItems (.ref s1.heap.objs.size) 2 none; assignInOrder [fun v => bindName X.env y v, fun v => bindName X.env x v] items.reverse; pure Flow.next) _ _ _
  refine wpAny_bind (wpAny_rule (wpAny_bind (unpackItems_tuple (items := #[u1, u2]) (I.ok.hd hc) (IsTup.new s1.heap _) fun h' hx' => ?_)))
  have I3 := I2.kept (h' := h') (t' := s1.toks) fun b o e => hx' b o (Nat.ne_of_lt (Heap.lt_size e)) e
  show wpAny _ _ (assignInOrder [fun v => bindName X.env y v, fun v => bindName X.env x v] [u2, u1] >>= fun _ => pure Flow.next) _ _ _
  refine wpAny_bind (assignInOrder_cons (wpAny_bindName (store_ok I3 hN hj (.inl hy) rw' (fun s2 I4 => ?_) (.inr hy))))
  refine assignInOrder_cons (wpAny_bindName (store_ok I4 hN hi (.inl hx) rv (fun s3 I5 => assignInOrder_nil (wpAny_pure ?_)) (.inr hx)))
  rw [List.set_comm _ _ (Ne.symm hij)] at I5
  exact ⟨_, H1, I5, q1⟩
end

section
variable {X : Cx} {pos : Pos}
noncomputable def tWhile (c : TT) (tb : TS) : TS := fun D σ H => ∃ W : Nat → St → Hp → Prop, (∃ m, W m σ H) ∧ ∀ m σ H, W m σ H →
  c σ H fun b H1 => if b = true then ∃ N : St → Hp → Prop, (∀ σ' H', N σ' H' → ∃ m', m' < m ∧ W m' σ' H') ∧ tb { D with nx := N, ct := N, bk := D.nx } σ H1 else D.nx σ H1
theorem ps_while {c : Expr} {body : List Stmt} {tc : TT} {tb : TS} (hp : PassesOwn (model X.prog X.w) X.A X.env X.xe) (hc : PT X c tc) (hb : PSs X body tb) : PS X (.While c body [] pos) (tWhile tc tb) := by
  intro pins s σ H D I h
  obtain ⟨W, ⟨m0, w0⟩, turn⟩ := h
  refine wpAny_While (codeAny_whileLoop (fun n s' => ∃ σ' H', Inv X pins σ' H' s' ∧ W n σ' H') ?_ m0 ⟨σ, H, I, w0⟩)
  rintro n s1 ⟨σ1, H1, I1, w1⟩
  refine wpAny_passesOwn hp (thn (hc pins s1 σ1 H1 _ I1 (turn n σ1 H1 w1)) fun b s2 ⟨H2, I2, q2⟩ => ?_)
  cases b with
  | true =>
    obtain ⟨N, hN, q2⟩ := q2
    rw [if_pos rfl]
    refine wpAny_passesOwn hp (thn (hb pins s2 σ1 H2 _ I2 q2) fun f s3 q3 => ?_)
    cases f with
    | next =>
      obtain ⟨σ3, H3, I3, n3⟩ := q3
      obtain ⟨m', hm, w3⟩ := hN σ3 H3 n3
      exact ⟨m', hm, σ3, H3, I3, w3⟩
    | cont =>
      obtain ⟨σ3, H3, I3, n3⟩ := q3
      obtain ⟨m', hm, w3⟩ := hN σ3 H3 n3
      exact ⟨m', hm, σ3, H3, I3, w3⟩
    | brk => exact q3
    | ret v => exact q3
  | false =>
    rw [if_neg Bool.false_ne_true]
    exact wpAny_execs_nil ⟨σ1, H2, I2, q2⟩
end

structure It where
  go : Nat → Hp → Prop
  yld : Nat → Hp → V → Hp → Prop
  stop : Nat → Hp → Prop
noncomputable def FpOk (X : Cx) (pins : List (Addr × Obj)) (H : Hp) (b : Addr) : Prop :=
  H b = none ∧ b ≠ X.env.locals ∧ b ∉ X.fs ∧ (b ∈ X.ex ∨ X.s₀.heap.objs.size ≤ b) ∧ (∀ x c, X.env.cells.lookup x = some c → c ≠ b) ∧ ∀ p ∈ X.pn ++ pins, p.1 ≠ b
theorem Inv.fpOk {X : Cx} {pins : List (Addr × Obj)} {σ : St} {H H' : Hp} {s : Shared} {b : Addr} (I : Inv X pins σ H s) (hb : s.heap.objs.size ≤ b) (hn : H' b = none) : FpOk X pins H' b := by
  refine ⟨hn, Nat.ne_of_gt (Nat.lt_of_lt_of_le I.lt hb), I.nofs hb, .inr (Nat.le_trans I.sz hb), fun x c e z => ?_, fun p hp z => ?_⟩
  · obtain ⟨v, q⟩ := I.cell x c e
    exact absurd (Nat.lt_of_lt_of_le q.lt (by rw [z]; exact hb)) (Nat.lt_irrefl _)
  · exact absurd (Nat.lt_of_lt_of_le (Heap.lt_size (I.pin p hp).1) (by rw [z]; exact hb)) (Nat.lt_irrefl _)
structure Turn (P : Program) (w : World) (K : PySem.W.Frag) (B : Around) (tg : Expr) (J : It) (fp : List Addr) (it : Addr) (tn : Nat → Heap → Prop) : Prop where
  mem : it ∈ fp
  obj : ∀ i h, tn i h → ∀ b ∈ fp, ∃ o, h.get? b = some o ∧ ∀ v, o.data ≠ .cell v
  keep : ∀ i h h', tn i h → (∀ b ∈ fp, ∀ o, h.get? b = some o → h'.get? b = some o) → tn i h'
  item : ∀ (X : Cx), X.prog = P → X.w = w → X.K = K → X.A = B → ∀ (i : Nat) (pins : List (Addr × Obj)) (s : Shared) (σ : St) (H : Hp) (E : Value → Shared → Prop), Inv X pins σ H s → (∀ b ∈ fp, FpOk X pins H b) → tn i s.heap → J.go i H →
    wpAny (model P w) X.A (pyNext (.ref it)) (fun r s1 => ∃ u, r = some u ∧
      wpAny (model P w) X.A (letOwnedTupleGo tg (.ref it) u) (fun _ s2 => ∃ x H', Inv X pins σ H' s2 ∧ RelV x u ∧ J.yld i H x H' ∧ tn (i + 1) s2.heap ∧ ∀ b ∈ fp, H' b = none) E s1) E s
  done : ∀ (X : Cx), X.prog = P → X.w = w → X.K = K → X.A = B → ∀ (i : Nat) (pins : List (Addr × Obj)) (s : Shared) (σ : St) (H : Hp) (E : Value → Shared → Prop), Inv X pins σ H s → (∀ b ∈ fp, FpOk X pins H b) → tn i s.heap → J.stop i H →
    wpAny (model P w) X.A (pyNext (.ref it)) (fun r s1 => r = none ∧ Inv X pins σ H s1) E s
  self : ∀ (A : Around) (i : Nat) (s : Shared) (Q : Value → Shared → Prop) (E : Value → Shared → Prop), tn i s.heap → Q (.ref it) s → wpAny (model P w) A (pyIter (.ref it)) Q E s
noncomputable abbrev TI := St → Hp → (It → Hp → Prop) → Prop
noncomputable def PIE (X : Cx) (pins : List (Addr × Obj)) (σ : St) (tg : Expr) (R : It → Hp → Prop) (itv : Value) (s2 : Shared) : Prop :=
  ∃ (it : Addr) (fp : List Addr) (tn : Nat → Heap → Prop) (J : It) (H' : Hp), itv = .ref it ∧ Inv X pins σ H' s2 ∧ Turn X.prog X.w X.K X.A tg J fp it tn ∧ tn 0 s2.heap ∧ (∀ b ∈ fp, FpOk X pins H' b) ∧ R J H'
noncomputable def PI (X : Cx) (tg iter : Expr) (wi : TI) : Prop :=
  ∀ (pins : List (Addr × Obj)) (s : Shared) (σ : St) (H : Hp) (R : It → Hp → Prop), Inv X pins σ H s → wi σ H R →
    wpAny (model X.prog X.w) X.A (eval iter X.env) (fun v s1 => wpAny (model X.prog X.w) X.A (pyIter v) (PIE X pins σ tg R) X.xe s1) X.xe s

theorem go_of {M : Model} {A : Around} {E : Value → Shared → Prop} {s : Shared} {tg : Expr} {it : Addr} {u : Value} {o : Obj} {n : String} {vs : Array Value} {Q : Unit → Shared → Prop} (ho : s.heap.get? it = some o) (hc : o.cls = .type n) (hd : o.data = .fields vs)
    (hn : ["enumerate", "zip", "dict_itemiterator", "dict_reverseitemiterator", "odict_iterator", "itertools.zip_longest", "itertools.pairwise"].contains n = false) (hQ : Q () s) : wpAny M A (letOwnedTupleGo tg (.ref it) u) Q E s := by
  unfold letOwnedTupleGo
  cases tg <;> first
    | exact wpAny_pure hQ
    | (cases u <;> first
        | exact wpAny_pure hQ
        | (refine wpAny_bind (wpAny_load ho ?_)
           rw [hc, hd]
           show wpAny M A (if (["enumerate", "zip", "dict_itemiterator", "dict_reverseitemiterator", "odict_iterator", "itertools.zip_longest", "itertools.pairwise"].contains n && vs[0]? == some (rawInt _)) = true then _ else _) Q E s
           rw [if_neg (by intro h; rw [hn, Bool.false_and] at h; cases h)]
           exact wpAny_pure hQ))

noncomputable def Itl (K : PySem.W.Frag) (a : Addr) : It :=
  ⟨fun i H => ∃ xs x, SqL K H a xs ∧ xs[i]? = some x, fun i H x H' => H' = H ∧ ∀ xs, SqL K H a xs → xs[i]? = some x, fun i H => ∃ xs, SqL K H a xs ∧ xs.length ≤ i⟩
noncomputable def Itt (K : PySem.W.Frag) (a : Addr) : It :=
  ⟨fun i H => ∃ xs x, SqT K H a xs ∧ xs[i]? = some x, fun i H x H' => H' = H ∧ ∀ xs, SqT K H a xs → xs[i]? = some x, fun i H => ∃ xs, SqT K H a xs ∧ xs.length ≤ i⟩
noncomputable def Itr (lo : Int) (n : Nat) : It := ⟨fun i _ => i < n, fun i H x H' => H' = H ∧ x = .int (lo + i), fun i _ => n ≤ i⟩
theorem turn_list {P : Program} {w : World} {K : PySem.W.Frag} {B : Around} {tg : Expr} (a it : Addr) : Turn P w K B tg (Itl K a) [it] it (fun i h => h.IsListIter it a i) where
  mem := by simp
  obj := fun i h st b hb => by
    have e : b = it := by simpa using hb
    subst e
    obtain ⟨o, e, c, d⟩ := st
    exact ⟨o, e, fun v z => by rw [d] at z; cases z⟩
  keep := fun i h h' st k => st.at fun o e => k it (by simp) o e
  item := by
    intro X hP hw hK hB i pins s σ H E I hf st hg
    subst hP hw hK
    obtain ⟨xs, x, hq, hx⟩ := hg
    obtain ⟨its, rv, p, hz⟩ := I.list hq
    obtain ⟨u, hu, ru⟩ := rv.get hx
    obtain ⟨f0, f1, f2, f3, f4, f5⟩ := hf it (by simp)
    refine wpAny_pyNext_list_item st p.isList (x := u) (by simpa using hu) fun h' st' sb => ?_
    have I1 : Inv X pins σ H { s with heap := h' } := I.turned (t' := s.toks) (fun b o hb e => (sb.2 b hb).trans e) f0 f1 f3 f4 f5
    obtain ⟨o, e, c, d⟩ := id st'
    exact ⟨u, rfl, go_of (s := { s with heap := h' }) e c d (by decide) ⟨x, H, I1, ru, ⟨rfl, fun ys hy => by rw [I.list_inj hy hq]; exact hx⟩, st', fun b hb => (hf b hb).1⟩⟩
  done := by
    intro X hP hw hK hB i pins s σ H E I hf st hg
    subst hP hw hK
    obtain ⟨xs, hq, hx⟩ := hg
    obtain ⟨its, rv, p, hz⟩ := I.list hq
    obtain ⟨f0, f1, f2, f3, f4, f5⟩ := hf it (by simp)
    have hl := rv.length
    exact DQ.list_end I.qh st p.isList (by simp; omega) fun h' eb => ⟨rfl, I.turned (t' := s.toks) (fun b o hb e => eb b o hb e) f0 f1 f3 f4 f5⟩
  self := fun _ _ _ _ _ st h => wpAny_pyIter_listiter st h
theorem turn_tuple {P : Program} {w : World} {K : PySem.W.Frag} {B : Around} {tg : Expr} (a it : Addr) : Turn P w K B tg (Itt K a) [it] it (fun i h => h.IsTupleIter it a i) where
  mem := by simp
  obj := fun i h st b hb => by
    have e : b = it := by simpa using hb
    subst e
    obtain ⟨o, e, c, d⟩ := st
    exact ⟨o, e, fun v z => by rw [d] at z; cases z⟩
  keep := fun i h h' st k => st.at fun o e => k it (by simp) o e
  item := by
    intro X hP hw hK hB i pins s σ H E I hf st hg
    subst hP hw hK
    obtain ⟨xs, x, hq, hx⟩ := hg
    obtain ⟨its, rv, p, hz⟩ := I.tuple hq
    obtain ⟨u, hu, ru⟩ := rv.get hx
    obtain ⟨f0, f1, f2, f3, f4, f5⟩ := hf it (by simp)
    refine wpAny_pyNext_tuple_item st (show s.heap.IsTuple a its.toArray from p) (x := u) (by simpa using hu) fun h' st' sb => ?_
    have I1 : Inv X pins σ H { s with heap := h' } := I.turned (t' := s.toks) (fun b o hb e => (sb.2 b hb).trans e) f0 f1 f3 f4 f5
    obtain ⟨o, e, c, d⟩ := id st'
    exact ⟨u, rfl, go_of (s := { s with heap := h' }) e c d (by decide) ⟨x, H, I1, ru, ⟨rfl, fun ys hy => by rw [I.tuple_inj hy hq]; exact hx⟩, st', fun b hb => (hf b hb).1⟩⟩
  done := by
    intro X hP hw hK hB i pins s σ H E I hf st hg
    subst hP hw hK
    obtain ⟨xs, hq, hx⟩ := hg
    obtain ⟨its, rv, p, hz⟩ := I.tuple hq
    obtain ⟨f0, f1, f2, f3, f4, f5⟩ := hf it (by simp)
    have hl := rv.length
    exact DQ.tuple_end I.qh st (show s.heap.IsTuple a its.toArray from p) (by simp; omega) fun h' eb => ⟨rfl, I.turned (t' := s.toks) (fun b o hb e => eb b o hb e) f0 f1 f3 f4 f5⟩
  self := fun _ _ _ _ _ st h => wpAny_pyIter_tupleiter st h
theorem turn_range {P : Program} {w : World} {K : PySem.W.Frag} {B : Around} {tg : Expr} (it : Addr) (lo : Int) (n : Nat) : Turn P w K B tg (Itr lo n) [it] it (fun i h => IsRangeIter h it (lo + (i : Nat) * 1) ((n : Int) - (i : Nat)) 1) where
  mem := by simp
  obj := fun i h st b hb => by
    have e : b = it := by simpa using hb
    subst e
    exact ⟨_, st, fun v z => by
      have z' : Data.fields _ = Data.cell v := z
      cases z'⟩
  keep := fun i h h' st k => k it (by simp) _ st
  item := by
    intro X hP hw hK hB i pins s σ H E I hf st hg
    subst hP hw hK
    obtain ⟨f0, f1, f2, f3, f4, f5⟩ := hf it (by simp)
    have hlt : i < n := hg
    refine wpAny_pyNext_range_item st (by omega) fun h' st' sb => ?_
    have I1 : Inv X pins σ H { s with heap := h', toks := s.toks + 1 } := I.turned (fun b o hb e => (sb.2 b hb).trans e) f0 f1 f3 f4 f5
    have st2 : IsRangeIter h' it (lo + ((i + 1 : Nat) : Int) * 1) ((n : Int) - ((i + 1 : Nat) : Int)) 1 := by
      have e1 : lo + ((i + 1 : Nat) : Int) * 1 = lo + (i : Nat) * 1 + 1 := by omega
      have e2 : (n : Int) - ((i + 1 : Nat) : Int) = (n : Int) - (i : Nat) - 1 := by omega
      rw [e1, e2]
      exact st'
    refine ⟨_, rfl, go_of (s := { s with heap := h', toks := s.toks + 1 }) (n := "range_iterator") st2 rfl rfl (by decide) ⟨.int (lo + i), H, I1, ⟨s.toks, ?_⟩, ⟨rfl, rfl⟩, st2, fun b hb => (hf b hb).1⟩⟩
    rw [Int.mul_one]
  done := by
    intro X hP hw hK hB i pins s σ H E I hf st hg
    subst hP hw hK
    obtain ⟨f0, f1, f2, f3, f4, f5⟩ := hf it (by simp)
    exact DQ.range_end I.qh st (by have : n ≤ i := hg; omega) fun h' eb => ⟨rfl, I.turned (t' := s.toks) (fun b o hb e => eb b o hb e) f0 f1 f3 f4 f5⟩
  self := fun _ _ _ _ _ st h => wpAny_pyIter_rangeiter st h
end L2

namespace L2
open PySem PySem.Spec PyProof.Rows
section
variable {X : Cx} {tg : Expr}
theorem range_it {pins : List (Addr × Obj)} {σ : St} {H : Hp} {s : Shared} {R : It → Hp → Prop} {E : Value → Shared → Prop} {lo hi : Int} {t u v : Tok} {tk : Nat} (I : Inv X pins σ H s) (h1 : -(2 ^ 62) ≤ lo) (h2 : lo < 2 ^ 62) (h3 : -(2 ^ 62) ≤ hi) (h4 : hi < 2 ^ 62)
    (q : R (Itr lo (hi - lo).toNat) H) : wpAny (model X.prog X.w) X.A (pyIter (.ref s.heap.objs.size)) (PIE X pins σ tg R) E { s with heap := s.heap.push { cls := .type "range", data := .fields #[.int lo t, .int hi u, .int 1 v] }, toks := tk } := by
  refine wpAny_pyIter_range (IsRange.new ..) (small_one h1 h2 h3 h4) ?_
  have I1 : Inv X pins σ H { s with heap := s.heap.push { cls := .type "range", data := .fields #[.int lo t, .int hi u, .int 1 v] }, toks := tk } := I.kept fun b o e => Heap.get?_push_of_some _ e
  refine ⟨(s.heap.push { cls := .type "range", data := .fields #[.int lo t, .int hi u, .int 1 v] }).objs.size, [(s.heap.push { cls := .type "range", data := .fields #[.int lo t, .int hi u, .int 1 v] }).objs.size], _, _, H, rfl,
    I1.kept (t' := tk) fun b o e => Heap.get?_push_of_some _ e, turn_range _ lo (hi - lo).toNat, ?_, fun b hb => ?_, q⟩
  · have e1 : lo + ((0 : Nat) : Int) * 1 = lo := by simp
    have e2 : (((hi - lo).toNat : Nat) : Int) - ((0 : Nat) : Int) = Builtin.Range.rangeSize lo hi 1 := by rw [rangeSize_one]; split <;> omega
    show IsRangeIter _ _ (lo + ((0 : Nat) : Int) * 1) ((((hi - lo).toNat : Nat) : Int) - ((0 : Nat) : Int)) 1
    rw [e1, e2]
    exact Heap.get?_push_size _ rfl
  · have e : b = (s.heap.push { cls := .type "range", data := .fields #[.int lo t, .int hi u, .int 1 v] }).objs.size := by simpa using hb
    subst e
    exact I1.fpOk (Nat.le_refl _) (I1.hok.fresh (Nat.le_refl _))
noncomputable def iRng1 (ta : TA) : TI := fun σ H R => ta σ H fun vs H1 => ∃ j : Int, vs = [.int j] ∧ -(2 ^ 62) ≤ j ∧ j < 2 ^ 62 ∧ R (Itr 0 j.toNat) H1
theorem pi_range1 {a : Expr} {ta : TA} {p pos : Pos} (hg : Gl X "range") (hm : X.mg "range" = none) (ha : PA X [a] ta) (hs : starEach [a] X.env = [(false, eval a X.env)] := by rfl) : PI X tg (.Call (.Name "range" p) [a] [] pos) (iRng1 ta) := by
  intro pins s σ H R I h
  refine Call_ (ld_blt I hg hm boot_range (PyProof.Rows.callWith_type1 (thn (ha pos pins s σ H _ I h) fun us s1 ⟨vs, H1, I1, r1, q1⟩ => ?_) hs rfl))
  obtain ⟨j, e, q1, q2, q⟩ := q1
  subst e
  cases r1 with
  | cons r rr =>
    cases rr
    obtain ⟨t, rfl⟩ := r
    exact call_range_1 (range_it I1 (by omega) (by omega) q1 q2 (by simpa using q))
noncomputable def tFor (wi : TI) (g : TG) (tb : TS) : TS := fun D σ H => wi σ H fun J H1 => ∃ W : Nat → Nat → St → Hp → Prop, (∃ m, W 0 m σ H1) ∧ ∀ i m σ H, W i m σ H →
  (J.stop i H ∧ D.nx σ H) ∨ (J.go i H ∧ ∃ N : St → Hp → Prop, (∀ σ' H', N σ' H' → ∃ m', m' < m ∧ W (i + 1) m' σ' H') ∧ ∀ x H', J.yld i H x H' → g x σ H' fun σ2 H2 => tb { D with nx := N, ct := N, bk := D.nx } σ2 H2)
noncomputable def pinsAt (fp : List Addr) (h : Heap) : List (Addr × Obj) := fp.filterMap fun b => (h.get? b).map fun o => (b, o)
theorem mem_pinsAt {fp : List Addr} {h : Heap} {b : Addr} {o : Obj} (hb : b ∈ fp) (e : h.get? b = some o) : (b, o) ∈ pinsAt fp h := List.mem_filterMap.mpr ⟨b, hb, by rw [e]; rfl⟩
theorem of_pinsAt {fp : List Addr} {h : Heap} {p : Addr × Obj} (hp : p ∈ pinsAt fp h) : p.1 ∈ fp ∧ h.get? p.1 = some p.2 := by
  obtain ⟨b, hb, e⟩ := List.mem_filterMap.mp hp
  cases q : h.get? b with
  | none => rw [q] at e; cases e
  | some o =>
    rw [q] at e
    have e' : (b, o) = p := Option.some.inj e
    subst e'
    exact ⟨hb, q⟩
theorem Inv.pinned {pins : List (Addr × Obj)} {σ : St} {H : Hp} {s : Shared} {fp : List Addr} (I : Inv X pins σ H s) (hf : ∀ b ∈ fp, FpOk X pins H b) (ho : ∀ b ∈ fp, ∃ o, s.heap.get? b = some o ∧ ∀ v, o.data ≠ .cell v) : Inv X (pins ++ pinsAt fp s.heap) σ H s :=
  I.pins_of fun p hp => (List.mem_append.mp hp).elim (fun z => I.pin p (List.mem_append_right _ z)) fun z => by
    obtain ⟨hb, e⟩ := of_pinsAt z
    obtain ⟨f0, f1, f2, _⟩ := hf p.1 hb
    obtain ⟨o, e', d⟩ := ho p.1 hb
    rw [e] at e'; cases e'
    exact ⟨e, f0, f1, f2, d⟩
theorem Inv.unpinned {pins pl : List (Addr × Obj)} {σ : St} {H : Hp} {s : Shared} (I : Inv X (pins ++ pl) σ H s) : Inv X pins σ H s := I.pins_of fun p hp => I.pin p (List.mem_append_right _ (List.mem_append_left _ hp))
theorem ps_for {iter : Expr} {body : List Stmt} {wi : TI} {g : TG} {tb : TS} {pos : Pos} (hp : PassesOwn (model X.prog X.w) X.A X.env X.xe) (hi : PI X tg iter wi) (hg : PG X tg g) (hb : PSs X body tb)
    (hs : ∀ x, foldedSetIterable iter X.env x = pure x := by intro _; rfl) : PS X (.For tg iter body [] pos) (tFor wi g tb) := by
  intro pins s σ H D I h
  refine wpAny_For (thn (hi pins s σ H _ I h) fun v s1 h1 => thn h1 fun itv s2 h2 => ?_) hs
  obtain ⟨it, fp, tn, J, H2, e, I2, T, st2, f2, W, ⟨m0, w0⟩, turn⟩ := h2
  subst e
  -- what stays true of the iterator's objects through the loop
  have stat : ∀ {H' : Hp}, (∀ b ∈ fp, H' b = none) → ∀ b ∈ fp, FpOk X pins H' b := fun hn b hb => ⟨hn b hb, (f2 b hb).2⟩
  refine codeAny_forLoop_any (fun n s' => ∃ i σ' H', Inv X pins σ' H' s' ∧ tn i s'.heap ∧ (∀ b ∈ fp, H' b = none) ∧ W i n σ' H') ?_ m0 ⟨0, σ, H2, I2, st2, fun b hb => (f2 b hb).1, w0⟩
  rintro n s3 ⟨i, σ3, H3, I3, st3, fr3, w3⟩
  rcases turn i n σ3 H3 w3 with ⟨stop, qn⟩ | ⟨go, N, hN, step⟩
  · refine wpAny_passesOwn hp (thn (T.done X rfl rfl rfl rfl i pins s3 σ3 H3 X.xe I3 (stat fr3) st3 stop) fun r s4 ⟨hr, I4⟩ => ?_)
    subst hr
    exact wpAny_execs_nil ⟨σ3, H3, I4, qn⟩
  · refine wpAny_passesOwn hp (thn (T.item X rfl rfl rfl rfl i pins s3 σ3 H3 X.xe I3 (stat fr3) st3 go) fun r s4 ⟨u, hr, h4⟩ => ?_)
    subst hr
    refine wpAny_passesOwn hp (thn h4 fun _ s5 ⟨x, H5, I5, r5, y5, st5, fr5⟩ => ?_)
    have I5' := I5.pinned (stat fr5) (T.obj _ _ st5)
    refine wpAny_passesOwn hp (thn (hg _ s5 σ3 H5 x u _ I5' r5 (step x H5 y5)) fun _ s6 ⟨σ6, H6, I6, q6⟩ => ?_)
    refine wpAny_passesOwn hp (thn (hb _ s6 σ6 H6 _ I6 q6) fun f s7 q7 => ?_)
    have again : ∀ {σ7 : St} {H7 : Hp}, Inv X (pins ++ pinsAt fp s5.heap) σ7 H7 s7 → N σ7 H7 → ∃ m, m < n ∧ ∃ i σ' H', Inv X pins σ' H' s7 ∧ tn i s7.heap ∧ (∀ b ∈ fp, H' b = none) ∧ W i m σ' H' := fun {σ7 H7} I7 n7 => by
      obtain ⟨m', hm, w7⟩ := hN σ7 H7 n7
      refine ⟨m', hm, i + 1, σ7, H7, I7.unpinned, T.keep _ _ _ st5 fun b hb o e => (I7.pin (b, o) (List.mem_append_right _ (List.mem_append_right _ (mem_pinsAt hb e)))).1, fun b hb => ?_, w7⟩
      obtain ⟨o, e, d⟩ := T.obj _ _ st5 b hb
      exact (I7.pin (b, o) (List.mem_append_right _ (List.mem_append_right _ (mem_pinsAt hb e)))).2.1
    cases f with
    | next => obtain ⟨σ7, H7, I7, n7⟩ := q7; exact again I7 n7
    | cont => obtain ⟨σ7, H7, I7, n7⟩ := q7; exact again I7 n7
    | brk => obtain ⟨σ7, H7, I7, q7⟩ := q7; exact ⟨σ7, H7, I7.unpinned, q7⟩
    | ret v => obtain ⟨x7, σ7, H7, I7, r7, q7⟩ := q7; exact ⟨x7, σ7, H7, I7.unpinned, r7, q7⟩
end

theorem for_list {K : PySem.W.Frag} {a : Addr} {xs : List V} {g : TG} {tb : TS} {D : Ends} {σ : St} {H : Hp} (Pv : Nat → St → Hp → Prop) (h0 : Pv 0 σ H) (hl : ∀ i σ H, i ≤ xs.length → Pv i σ H → SqL K H a xs)
    (hs : ∀ i x σ H, xs[i]? = some x → Pv i σ H → g x σ H fun σ2 H2 => tb { D with nx := Pv (i + 1), ct := Pv (i + 1), bk := D.nx } σ2 H2) (hd : ∀ σ H, Pv xs.length σ H → D.nx σ H) :
    ∃ W : Nat → Nat → St → Hp → Prop, (∃ m, W 0 m σ H) ∧ ∀ i m σ H, W i m σ H →
      ((Itl K a).stop i H ∧ D.nx σ H) ∨ ((Itl K a).go i H ∧ ∃ N : St → Hp → Prop, (∀ σ' H', N σ' H' → ∃ m', m' < m ∧ W (i + 1) m' σ' H') ∧ ∀ x H', (Itl K a).yld i H x H' → g x σ H' fun σ2 H2 => tb { D with nx := N, ct := N, bk := D.nx } σ2 H2) := by
  refine ⟨fun i m σ H => m = xs.length - i ∧ i ≤ xs.length ∧ Pv i σ H, ⟨xs.length, by simp, Nat.zero_le _, h0⟩, ?_⟩
  rintro i m σ H ⟨rfl, hi, p⟩
  have q := hl i σ H hi p
  by_cases hlt : i < xs.length
  · refine .inr ⟨⟨xs, xs[i], q, by simp [hlt]⟩, Pv (i + 1), fun σ' H' p' => ⟨xs.length - (i + 1), by omega, rfl, hlt, p'⟩, fun x H' y => ?_⟩
    obtain ⟨e, y⟩ := y
    subst e
    exact hs i x σ _ (y xs q) p
  · have e : i = xs.length := by omega
    subst e
    exact .inl ⟨⟨xs, q, Nat.le_refl _⟩, hd σ H p⟩
theorem for_tup {K : PySem.W.Frag} {a : Addr} {xs : List V} {g : TG} {tb : TS} {D : Ends} {σ : St} {H : Hp} (Pv : Nat → St → Hp → Prop) (h0 : Pv 0 σ H) (hl : ∀ i σ H, i ≤ xs.length → Pv i σ H → SqT K H a xs)
    (hs : ∀ i x σ H, xs[i]? = some x → Pv i σ H → g x σ H fun σ2 H2 => tb { D with nx := Pv (i + 1), ct := Pv (i + 1), bk := D.nx } σ2 H2) (hd : ∀ σ H, Pv xs.length σ H → D.nx σ H) :
    ∃ W : Nat → Nat → St → Hp → Prop, (∃ m, W 0 m σ H) ∧ ∀ i m σ H, W i m σ H →
      ((Itt K a).stop i H ∧ D.nx σ H) ∨ ((Itt K a).go i H ∧ ∃ N : St → Hp → Prop, (∀ σ' H', N σ' H' → ∃ m', m' < m ∧ W (i + 1) m' σ' H') ∧ ∀ x H', (Itt K a).yld i H x H' → g x σ H' fun σ2 H2 => tb { D with nx := N, ct := N, bk := D.nx } σ2 H2) := by
  refine ⟨fun i m σ H => m = xs.length - i ∧ i ≤ xs.length ∧ Pv i σ H, ⟨xs.length, by simp, Nat.zero_le _, h0⟩, ?_⟩
  rintro i m σ H ⟨rfl, hi, p⟩
  have q := hl i σ H hi p
  by_cases hlt : i < xs.length
  · refine .inr ⟨⟨xs, xs[i], q, by simp [hlt]⟩, Pv (i + 1), fun σ' H' p' => ⟨xs.length - (i + 1), by omega, rfl, hlt, p'⟩, fun x H' y => ?_⟩
    obtain ⟨e, y⟩ := y
    subst e
    exact hs i x σ _ (y xs q) p
  · have e : i = xs.length := by omega
    subst e
    exact .inl ⟨⟨xs, q, Nat.le_refl _⟩, hd σ H p⟩
theorem for_range {lo : Int} {n : Nat} {g : TG} {tb : TS} {D : Ends} {σ : St} {H : Hp} (Pv : Nat → St → Hp → Prop) (h0 : Pv 0 σ H)
    (hs : ∀ i σ H, i < n → Pv i σ H → g (.int (lo + i)) σ H fun σ2 H2 => tb { D with nx := Pv (i + 1), ct := Pv (i + 1), bk := D.nx } σ2 H2) (hd : ∀ σ H, Pv n σ H → D.nx σ H) :
    ∃ W : Nat → Nat → St → Hp → Prop, (∃ m, W 0 m σ H) ∧ ∀ i m σ H, W i m σ H →
      ((Itr lo n).stop i H ∧ D.nx σ H) ∨ ((Itr lo n).go i H ∧ ∃ N : St → Hp → Prop, (∀ σ' H', N σ' H' → ∃ m', m' < m ∧ W (i + 1) m' σ' H') ∧ ∀ x H', (Itr lo n).yld i H x H' → g x σ H' fun σ2 H2 => tb { D with nx := N, ct := N, bk := D.nx } σ2 H2) := by
  refine ⟨fun i m σ H => m = n - i ∧ i ≤ n ∧ Pv i σ H, ⟨n, by simp, Nat.zero_le _, h0⟩, ?_⟩
  rintro i m σ H ⟨rfl, hi, p⟩
  by_cases hlt : i < n
  · refine .inr ⟨hlt, Pv (i + 1), fun σ' H' p' => ⟨n - (i + 1), by omega, rfl, hlt, p'⟩, fun x H' y => ?_⟩
    obtain ⟨e, y⟩ := y
    subst e y
    exact hs i σ _ hlt p
  · have e : i = n := by omega
    subst e
    exact .inl ⟨Nat.le_refl _, hd σ H p⟩
end L2

namespace L2
open PySem PySem.Spec PyProof.Rows

noncomputable abbrev R2 := V → V → Hp → VK → Prop
noncomputable def OpR (X : Cx) (f : Value → Value → Sem Value) (r : R2) : Prop :=
  ∀ (pins : List (Addr × Obj)) (s : Shared) (σ : St) (H : Hp) (x y : V) (v u : Value) (Q : VK), Inv X pins σ H s → RelV x v → RelV y u → r x y H Q →
    wpAny (model X.prog X.w) X.A (f v u) (EP X pins σ Q) X.xe s
noncomputable def UnR (X : Cx) (f : Value → Sem Value) (r : V → Hp → VK → Prop) : Prop :=
  ∀ (pins : List (Addr × Obj)) (s : Shared) (σ : St) (H : Hp) (x : V) (v : Value) (Q : VK), Inv X pins σ H s → RelV x v → r x H Q →
    wpAny (model X.prog X.w) X.A (f v) (EP X pins σ Q) X.xe s
noncomputable def CallR (X : Cx) (f : Value) (r : List V → Hp → VK → Prop) : Prop :=
  ∀ (pins : List (Addr × Obj)) (s : Shared) (σ : St) (H : Hp) (xs : List V) (us : List Value) (Q : VK), Inv X pins σ H s → Vals xs us → r xs H Q →
    wpAny (model X.prog X.w) X.A (call f us) (EP X pins σ Q) X.xe s
noncomputable def tOp (r : R2) (ta tb : TE) : TE := fun σ H Q => ta σ H fun x H1 => tb σ H1 fun y H2 => r x y H2 Q
noncomputable def tUn (r : V → Hp → VK → Prop) (ta : TE) : TE := fun σ H Q => ta σ H fun x H1 => r x H1 Q
noncomputable def rI (C : Int → Int → Prop) (g : Int → Int → V) : R2 := fun x y H Q => ∃ i j, x = .int i ∧ y = .int j ∧ C i j ∧ Q (g i j) H
noncomputable def rI0 (g : Int → Int → V) : R2 := fun x y H Q => ∃ i j, x = .int i ∧ y = .int j ∧ Q (g i j) H
noncomputable def rU (g : Int → V) : V → Hp → VK → Prop := fun x H Q => ∃ i, x = .int i ∧ Q (g i) H

section
variable {X : Cx} {a b c : Expr} {ta tb tc : TE} {pos : Pos}

theorem binT (ha : PE X a ta) (hb : PE X b tb) {pins : List (Addr × Obj)} {s : Shared} {σ : St} {H : Hp} {R : V → V → Hp → Prop} (I : Inv X pins σ H s)
    (h : ta σ H fun x H1 => tb σ H1 fun y H2 => R x y H2) {Q : Value → Shared → Prop} {f : Value → Value → Sem Value}
    (hf : ∀ v u s2 x y H2, Inv X pins σ H2 s2 → RelV x v → RelV y u → R x y H2 → wpAny (model X.prog X.w) X.A (f v u) Q X.xe s2) :
    wpAny (model X.prog X.w) X.A (eval a X.env) (fun v s₁ => wpAny (model X.prog X.w) X.A (eval b X.env) (fun u s₂ => wpAny (model X.prog X.w) X.A (f v u) Q X.xe s₂) X.xe s₁) X.xe s := by
  refine thn (ha pins s σ H _ I h) fun v s1 ⟨x, H1, I1, r1, q1⟩ => ?_
  refine thn (hb pins s1 σ H1 _ I1 q1) fun u s2 ⟨y, H2, I2, r2, q2⟩ => ?_
  exact hf v u s2 x y H2 I2 r1 r2 q2

theorem pe_op {op : Operator} {r : R2} (ho : OpR X (binaryOp op) r) (ha : PE X a ta) (hb : PE X b tb) : PE X (.BinOp a op b pos) (tOp r ta tb) := by
  intro pins s σ H Q I h
  exact wpAny_BinOp (binT ha hb I h fun v u s2 x y H2 I2 rx ry q => ho pins s2 σ H2 x y v u Q I2 rx ry q)
theorem pe_un {op : UnaryOp} {r : V → Hp → VK → Prop} (ho : UnR X (unaryOp op) r) (ha : PE X a ta) : PE X (.UnaryOp op a pos) (tUn r ta) := by
  intro pins s σ H Q I h
  exact UnaryOp_ (thn (ha pins s σ H _ I h) fun v s1 ⟨x, H1, I1, r1, q1⟩ => ho pins s1 σ H1 x v Q I1 r1 q1)
theorem opI {f : Value → Value → Sem Value} {C : Int → Int → Prop} {g : Int → Int → Int}
    (rule : ∀ (i j : Int) (t u : Tok) (s : Shared) (Q : Value → Shared → Prop) (E : Value → Shared → Prop), C i j → Q (.int (g i j) s.toks) { s with toks := s.toks + 1 } → wpAny (model X.prog X.w) X.A (f (.int i t) (.int j u)) Q E s) :
    OpR X f (rI C fun i j => .int (g i j)) := by
  intro pins s σ H x y v u Q I rx ry h
  obtain ⟨i, j, rfl, rfl, hc, q⟩ := h
  obtain ⟨t, rfl⟩ := rx
  obtain ⟨t', rfl⟩ := ry
  exact rule i j t t' s _ _ hc ⟨.int (g i j), H, I.tok _, ⟨_, rfl⟩, q⟩
theorem opI0 {f : Value → Value → Sem Value} {g : Int → Int → Int}
    (rule : ∀ (i j : Int) (t u : Tok) (s : Shared) (Q : Value → Shared → Prop) (E : Value → Shared → Prop), Q (.int (g i j) s.toks) { s with toks := s.toks + 1 } → wpAny (model X.prog X.w) X.A (f (.int i t) (.int j u)) Q E s) :
    OpR X f (rI0 fun i j => .int (g i j)) := by
  intro pins s σ H x y v u Q I rx ry h
  obtain ⟨i, j, rfl, rfl, q⟩ := h
  obtain ⟨t, rfl⟩ := rx
  obtain ⟨t', rfl⟩ := ry
  exact rule i j t t' s _ _ ⟨.int (g i j), H, I.tok _, ⟨_, rfl⟩, q⟩
theorem opB0 {f : Value → Value → Sem Value} {g : Int → Int → Bool}
    (rule : ∀ (i j : Int) (t u : Tok) (s : Shared) (Q : Value → Shared → Prop) (E : Value → Shared → Prop), Q (.bool (g i j)) s → wpAny (model X.prog X.w) X.A (f (.int i t) (.int j u)) Q E s) :
    OpR X f (rI0 fun i j => .bl (g i j)) := by
  intro pins s σ H x y v u Q I rx ry h
  obtain ⟨i, j, rfl, rfl, q⟩ := h
  obtain ⟨t, rfl⟩ := rx
  obtain ⟨t', rfl⟩ := ry
  exact rule i j t t' s _ _ ⟨.bl (g i j), H, I, rfl, q⟩

noncomputable def CPow (i j : Int) : Prop := 0 ≤ j ∧ j ≤ 1000000 ∧ i.natAbs < 2 ^ 64
theorem op_add : OpR X (binaryOp .Add) (rI0 fun i j => .int (i + j)) := opI0 fun _ _ _ _ _ _ _ q => add_int q
theorem op_sub : OpR X (binaryOp .Sub) (rI0 fun i j => .int (i - j)) := opI0 fun _ _ _ _ _ _ _ q => sub_int q
theorem op_modN : OpR X (binaryOp .Mod) (rI (fun _ j => j ≠ 0) fun i j => .int (i.fmod j)) := opI fun _ _ _ _ _ _ _ hc q => mod_int' hc q
theorem op_pow : OpR X (binaryOp .Pow) (rI CPow fun i j => .int (i ^ j.toNat)) := opI fun _ _ _ _ _ _ _ hc q => pow_int_small hc.1 hc.2.1 hc.2.2 q
theorem unI {f : Value → Sem Value} {g : Int → Int}
    (rule : ∀ (i : Int) (t : Tok) (s : Shared) (Q : Value → Shared → Prop) (E : Value → Shared → Prop), Q (.int (g i) s.toks) { s with toks := s.toks + 1 } → wpAny (model X.prog X.w) X.A (f (.int i t)) Q E s) :
    UnR X f (rU fun i => .int (g i)) := by
  intro pins s σ H x v Q I rx h
  obtain ⟨i, rfl, q⟩ := h
  obtain ⟨t, rfl⟩ := rx
  exact rule i t s _ _ ⟨.int (g i), H, I.tok _, ⟨_, rfl⟩, q⟩
theorem un_neg : UnR X (unaryOp .USub) (rU fun i => .int (-i)) := unI fun _ _ _ _ _ q => neg_int q
end

section
variable {X : Cx} {a b c : Expr} {ta tb tc : TE} {pos : Pos}
theorem op_lt : OpR X (compareOp .Lt) (rI0 fun i j => .bl (decide (i < j))) := opB0 fun _ _ _ _ _ _ _ q => lt_int q
theorem op_le : OpR X (compareOp .LtE) (rI0 fun i j => .bl (decide (i ≤ j))) := opB0 fun _ _ _ _ _ _ _ q => le_int q
theorem op_gt : OpR X (compareOp .Gt) (rI0 fun i j => .bl (decide (j < i))) := opB0 fun _ _ _ _ _ _ _ q => gt_int q
theorem op_ge : OpR X (compareOp .GtE) (rI0 fun i j => .bl (decide (j ≤ i))) := opB0 fun _ _ _ _ _ _ _ q => ge_int q
theorem OpR.or {f : Value → Value → Sem Value} {r r' : R2} (h : OpR X f r) (h' : OpR X f r') : OpR X f (fun x y H Q => r x y H Q ∨ r' x y H Q) := by
  intro pins s σ H x y v u Q I rx ry q
  rcases q with q | q
  · exact h pins s σ H x y v u Q I rx ry q
  · exact h' pins s σ H x y v u Q I rx ry q

theorem nomark (b : Expr) {op : CmpOp} (h : op ≠ .In := by decide) (h2 : op ≠ .NotIn := by decide) : behindInMarks op b = false := by
  have e1 : (op == CmpOp.In) = false := by cases op <;> first | rfl | exact absurd rfl h
  have e2 : (op == CmpOp.NotIn) = false := by cases op <;> first | rfl | exact absurd rfl h2
  cases b <;> simp [behindInMarks, e1, e2]
theorem pe_cmpR {op : CmpOp} {r : R2} (ho : OpR X (compareOp op) r) (ha : PE X a ta) (hb : PE X b tb) (hm : behindInMarks op b = false) : PE X (.Compare a [op] [b] pos) (tOp r ta tb) := by
  intro pins s σ H Q I h
  exact wpAny_Compare1 (binT ha hb I h fun v u s2 x y H2 I2 rx ry q => ho pins s2 σ H2 x y v u Q I2 rx ry q) hm
noncomputable def tTest (t : TE) : TT := fun σ H Q => t σ H fun x H' => ∃ k, x = .bl k ∧ Q k H'
theorem pt_cmpR {op : CmpOp} {r : R2} (ho : OpR X (compareOp op) r) (ha : PE X a ta) (hb : PE X b tb) (hm : behindInMarks op b = false) : PT X (.Compare a [op] [b] pos) (tTest (tOp r ta tb)) := by
  intro pins s σ H Q I h
  refine wpAny_isTrue_Compare1 (thn (ha pins s σ H _ I h) fun v s1 ⟨x, H1, I1, r1, q1⟩ => thn (hb pins s1 σ H1 _ I1 q1) fun u s2 ⟨y, H2, I2, r2, q2⟩ =>
    thn (ho pins s2 σ H2 x y v u _ I2 r1 r2 q2) fun c s3 ⟨z, H3, I3, r3, k, e, q3⟩ => ?_) hm
  subst e
  cases r3
  exact wpAny_truthy_bool ⟨H3, I3, q3⟩
theorem line63 : (sizeLine : Nat) < 2 ^ 63 := by rw [sizeLine_eq]; decide
theorem op_add_str : OpR X (binaryOp .Add) (fun x y H Q => ∃ i j, x = .str i ∧ y = .str j ∧ i.length + j.length ≤ sizeLine ∧ Q (.str (i ++ j)) H) := by
  intro pins s σ H x y v u Q I rx ry h
  obtain ⟨i, j, rfl, rfl, hz, q⟩ := h
  obtain ⟨t, rfl⟩ := rx
  obtain ⟨t', rfl⟩ := ry
  exact add_str (fun t' tk => ⟨.str (i ++ j), H, I.tok _, ⟨_, rfl⟩, q⟩) hz
theorem vals1 {x : V} {us : List Value} (r : Vals [x] us) : ∃ u, us = [u] ∧ RelV x u := by
  cases r with
  | cons r1 r2 => cases r2; exact ⟨_, rfl, r1⟩
theorem vals2 {x y : V} {us : List Value} (r : Vals [x, y] us) : ∃ u w', us = [u, w'] ∧ RelV x u ∧ RelV y w' := by
  cases r with
  | cons r1 r2 =>
    cases r2 with
    | cons r3 r4 => cases r4; exact ⟨_, _, rfl, r1, r3⟩
theorem call_abs : CallR X (.builtin "abs") (fun xs H Q => ∃ i, xs = [.int i] ∧ Q (.int (if i < 0 then -i else i)) H) := by
  intro pins s σ H xs us Q I r h
  obtain ⟨i, rfl, q⟩ := h
  obtain ⟨u, rfl, t, rfl⟩ := vals1 r
  exact call_abs_int fun u tk => ⟨.int (if i < 0 then -i else i), H, I.tok _, ⟨_, rfl⟩, q⟩
theorem call_max2 (hc : X.calm = true) : CallR X (.builtin "max") (fun xs H Q => ∃ i j, xs = [.int i, .int j] ∧ Q (.int (if j > i then j else i)) H) := by
  intro pins s σ H xs us Q I r h
  obtain ⟨i, j, rfl, q⟩ := h
  obtain ⟨u, w', rfl, ⟨t, rfl⟩, ⟨t', rfl⟩⟩ := vals2 r
  refine max_two_ints (I.ok.hd hc) fun h' tk k => ⟨_, H, I.kept k, ?_, q⟩
  by_cases hj : j > i
  · rw [if_pos hj, if_pos hj]; exact ⟨_, rfl⟩
  · rw [if_neg hj, if_neg hj]; exact ⟨_, rfl⟩
theorem call_min2 (hc : X.calm = true) : CallR X (.builtin "min") (fun xs H Q => ∃ i j, xs = [.int i, .int j] ∧ Q (.int (if j < i then j else i)) H) := by
  intro pins s σ H xs us Q I r h
  obtain ⟨i, j, rfl, q⟩ := h
  obtain ⟨u, w', rfl, ⟨t, rfl⟩, ⟨t', rfl⟩⟩ := vals2 r
  refine min_two_ints (I.ok.hd hc) fun h' tk k => ⟨_, H, I.kept k, ?_, q⟩
  by_cases hj : j < i
  · rw [if_pos hj, if_pos hj]; exact ⟨_, rfl⟩
  · rw [if_neg hj, if_neg hj]; exact ⟨_, rfl⟩
theorem call_int1 : CallR X (.type "int") (fun xs H Q => (∃ i, xs = [.int i] ∧ Q (.int i) H) ∨ ∃ k, xs = [.bl k] ∧ Q (.int (if k then 1 else 0)) H) := by
  intro pins s σ H xs us Q I r h
  rcases h with ⟨i, rfl, q⟩ | ⟨k, rfl, q⟩
  · obtain ⟨u, rfl, t, rfl⟩ := vals1 r
    exact call_int_int ⟨.int i, H, I, ⟨_, rfl⟩, q⟩
  · obtain ⟨u, rfl, r1⟩ := vals1 r
    cases r1
    exact call_int_bool ⟨.int (if k then 1 else 0), H, I.tok _, ⟨_, rfl⟩, q⟩
end
end L2

namespace L2
open PySem PySem.Spec PyProof.Rows

section
variable {prog : Program} {w : World} {A : Around} {E : Value → Shared → Prop} {s : Shared} {K : PySem.W.Frag} {x dx C f : Addr} {mA : Str → Option Value} {name : Str} {v : Value}

end

section
variable {P : Program} {w : World} {H H' : Hp} {h h' : Heap} {a C dx : Addr} {fs fs' : List (Str × V)}
end

section
variable {X : Cx} {pins : List (Addr × Obj)} {σ : St} {H : Hp} {s : Shared} {a C dx : Addr} {fs : List (Str × V)} {f : Str} {v : V} {A : Around} {E : Value → Shared → Prop}

end

section
variable {X : Cx} {o e value : Expr} {f : Str} {pos pos' tpos : Pos} {ta tv : TE}
end

section
variable {X : Cx} {pins : List (Addr × Obj)} {σ : St} {H : Hp} {s : Shared} {A : Around} {E : Value → Shared → Prop} {Q : Value → Shared → Prop} {c : Value} {b : Bool}
end
end L2

namespace L2
open PySem PySem.Spec PyProof.Rows

structure Room (k : Nat) (A : Around) : Prop where
  hd : 100 ≤ k → A.handled = none
  dp : A.depth + 3 * k + 5 < recursionLimit
  un : A.units + 16 * k + 200 < cLine
theorem Room.mono {j k : Nat} {A : Around} (r : Room k A) (h : j ≤ k) : Room j A := ⟨fun z => r.hd (Nat.le_trans z h), by have := r.dp; omega, by have := r.un; omega⟩
theorem Room.deeper {k : Nat} {A : Around} (r : Room (k + 1) A) (env : Env) : Room k (A.deeper env) :=
  ⟨fun z => r.hd (Nat.le_succ_of_le z), by have := r.dp; show A.depth + 1 + 3 * k + 5 < _; omega, by have := r.un; show A.units + 3 + 16 * k + 200 < _; omega⟩
theorem Room.depth {k : Nat} {A : Around} (r : Room k A) : A.depth < recursionLimit := by have := r.dp; omega
theorem Room.units {k : Nat} {A : Around} (r : Room k A) : A.units + 64 < cLine := by have := r.un; omega
noncomputable def tNil : TA := fun _ H Q => Q [] H
noncomputable def tCons (ta : TE) (tr : TA) : TA := fun σ H Q => ta σ H fun x H1 => tr σ H1 fun xs H2 => Q (x :: xs) H2
section
variable {X : Cx} {e : Expr} {es : List Expr} {te : TE} {t : TA} {pos : Pos}
theorem pa_nil : PA X [] tNil := fun _ _ _ _ H Q I h => Calls.spliced_nil ⟨[], H, I, .nil, h⟩
theorem pa_cons (ha : PE X e te) (hr : PA X es t) (hs : starEach (e :: es) X.env = (false, eval e X.env) :: starEach es X.env := by rfl) : PA X (e :: es) (tCons te t) := by
  intro pos pins s σ H Q I h
  rw [hs]
  show wpAny _ _ (spliced ((false, eval e X.env) :: backTo pos (starEach es X.env))) _ _ s
  refine Calls.spliced_cons (thn (ha pins s σ H _ I h) fun u s1 ⟨x, H1, I1, r1, q1⟩ => ?_)
  exact thn (hr pos pins s1 σ H1 _ I1 q1) fun us s2 ⟨xs, H2, I2, r2, q2⟩ => ⟨x :: xs, H2, I2, .cons r1 r2, q2⟩

noncomputable def tTup (t : TA) : TE := fun σ H Q => t σ H fun xs H1 => xs.length ≤ sizeLine ∧ ∀ p, H1 p = none → Q (.ref p) (upd H1 p (.tup xs))
noncomputable def tLst (t : TA) : TE := fun σ H Q => t σ H fun xs H1 => xs.length ≤ sizeLine ∧ ∀ p, H1 p = none → Q (.ref p) (upd H1 p (.lst xs))
theorem pe_tup {x1} (h : PA X es t) : PE X (.Tuple es x1 pos) (tTup t) := by
  intro pins s σ H Q I hq
  refine wpAny_Tuple_spliced (thn (h pos pins s σ H _ I hq) fun us s1 ⟨xs, H1, I1, r, z, q⟩ => ⟨by rw [← r.length]; exact z, ?_⟩)
  have hf : H1 s1.heap.objs.size = none := I1.hok.fresh (Nat.le_refl _)
  refine ⟨.ref s1.heap.objs.size, upd H1 s1.heap.objs.size (.tup xs), I1.laid (t' := s1.toks) (fun b u e => Heap.get?_push_of_some _ e) (Nat.le_refl _) ?_, rfl, q _ hf⟩
  exact ⟨z, us, r, ⟨_, Heap.get?_push_size _ rfl, rfl, _, rfl⟩⟩
theorem pe_lst (h : PA X es t) : PE X (.List es pos) (tLst t) := by
  intro pins s σ H Q I hq
  refine wpAny_List_spliced (thn (h pos pins s σ H _ I hq) fun us s1 ⟨xs, H1, I1, r, z, q⟩ => ⟨by rw [← r.length]; exact z, ?_⟩)
  have hf : H1 s1.heap.objs.size = none := I1.hok.fresh (Nat.le_refl _)
  refine ⟨.ref s1.heap.objs.size, upd H1 s1.heap.objs.size (.lst xs), I1.laid (t' := s1.toks) (fun b u e => Heap.get?_push_of_some _ e) (Nat.le_refl _) ?_, rfl, q _ hf⟩
  exact ⟨z, us, 0, r, Heap.get?_push_size _ rfl⟩
end

noncomputable abbrev Sp := List V → Hp → VK → XK → Prop
noncomputable abbrev CXT := List Env → Hp → Shared → XK → Value → Shared → Prop

structure Env0 (P : Program) (w : World) (K : PySem.W.Frag) (mg : Str → Option Value) (base : Heap) (A : Around) (outer : List Env) (s : Shared) (H : Hp) : Prop where
  frames : A.frames = some outer
  mod : Mod K mg base
  bs : ∀ b o, base.get? b = some o → s.heap.get? b = some o ∧ H b = none
  bsz : base.objs.size ≤ s.heap.objs.size
  funs : s.heap.FunFrames base outer
  frf : ∀ b ∈ frs outer, H b = none
  hok : HOk P w H s.heap
  bare : AllBare s.gens
  qd : Qd A H
noncomputable def CE (outer : List Env) (P : Program) (w : World) (H : Hp) (s : Shared) (Q : VK) (u : Value) (s' : Shared) : Prop :=
  ∃ v H', s'.os = s.os ∧ AllBare s'.gens ∧ Un (frs outer) [] H H' s.heap s'.heap ∧ HOk P w H' s'.heap ∧ RelV v u ∧ Q v H'
noncomputable def CR (CX : CXT) (outer : List Env) (P : Program) (w : World) (H : Hp) (s : Shared) (Q : VK) (E : XK) (r : Result) (s' : Shared) : Prop :=
  match r with
  | .ok (.ret u) => CE outer P w H s Q u s'
  | .ok _ => False
  | .error e => CX outer H s E e s'
structure FnOk (P : Program) (w : World) (K : PySem.W.Frag) (mg : Str → Option Value) (base : Heap) (CX : CXT) (k : Nat) (f : Addr) (fd : FuncData) (ps : List Str) (sp : Sp) : Prop where
  len : ∀ vs H Q E, sp vs H Q E → vs.length = ps.length
  run : ∀ (A : Around) (outer : List Env) (s : Shared) (H : Hp) (args : Args) (us : List Value) (vs : List V) (Q : VK) (E : XK), Room k A → Env0 P w K mg base A outer s H → BindsTo s fd args (ps.zip us) → Vals vs us → sp vs H Q E →
    codeAny (model P w) A (.call (.ref f) args) (CR CX outer P w H s Q E) s
section
variable {X : Cx} {pins : List (Addr × Obj)} {σ : St} {H : Hp} {s s' : Shared}
theorem Inv.env0 (I : Inv X pins σ H s) : Env0 X.prog X.w X.K X.mg X.base X.A X.stack s H :=
  ⟨I.ok.frames, I.ok.mod, I.bs, Nat.le_trans I.ok.bsz I.sz, I.stack, I.stkFree, I.hok, I.bare, I.qd⟩
theorem Inv.after {Q : VK} {u : Value} (I : Inv X pins σ H s) (h : CE X.stack X.prog X.w H s Q u s') : EP X pins σ Q u s' := by
  obtain ⟨v, H', os, bare, un, hok, r, q⟩ := h
  obtain ⟨hh, g, d, t, os'⟩ := s'
  obtain rfl : os' = s.os := os
  exact ⟨v, H', I.call (h' := hh) (g' := g) (d' := d) (t' := t) (ch := []) un hok bare (fun b z => absurd z (by simp)), r, q⟩
end

noncomputable def tCall (sp : Sp) (dvs : List V) (E : XK) (t : TA) : TE := fun σ H Q => t σ H fun vs H1 => sp (vs ++ dvs) H1 Q E
noncomputable def Binds (K : PySem.W.Frag) (fd : FuncData) (ps : List Str) (ds : List Value) : Prop :=
  ∀ (s : Shared) (us : List Value), K.In s.heap → (us ++ ds).length = ps.length → BindsTo s fd ⟨us, []⟩ (ps.zip (us ++ ds))
theorem Binds.all {K : PySem.W.Frag} {fd : FuncData} {ps : List Str} (h : ∀ us : List Value, us.length = ps.length → bindArgs fd ⟨us, []⟩ = pure (ps.zip us)) : Binds K fd ps [] := fun s us _ hl => by
  rw [List.append_nil] at hl ⊢
  exact .of_eq (h us hl)

noncomputable def Passes (CX : CXT) (X : Cx) (E : XK) : Prop := ∀ (pins : List (Addr × Obj)) (σ : St) (H : Hp) (s : Shared) (e : Value) (s' : Shared), Inv X pins σ H s → CX X.stack H s E e s' → X.xe e s'

section
variable {X : Cx} {CX : CXT} {k : Nat} {f C : Addr} {fd : FuncData} {ps : List Str} {sp : Sp} {dvs : List V} {ds : List Value} {E : XK} {x m : Str} {p pos apos : Pos} {e o : Expr} {es : List Expr} {ta : TE} {t : TA}

theorem run_fn {pins : List (Addr × Obj)} {σ : St} {H : Hp} {s : Shared} {Q : VK} {us : List Value} {vs : List V} (F : FnOk X.prog X.w X.K X.mg X.base CX k f fd ps sp) (hr : Room k X.A) (hb : Binds X.K fd ps ds) (hd : Vals dvs ds) (hx : Passes CX X E)
    (I : Inv X pins σ H s) (r : Vals vs us) (h : sp (vs ++ dvs) H Q E) : wpAny (model X.prog X.w) X.A (call (.ref f) us) (EP X pins σ Q) X.xe s := by
  have r2 : Vals (vs ++ dvs) (us ++ ds) := r.append hd
  have hl : (us ++ ds).length = ps.length := by rw [← r2.length]; exact F.len _ _ _ _ h
  refine wpAny_call (codeAny_mono (F.run X.A X.stack s H ⟨us, []⟩ (us ++ ds) (vs ++ dvs) Q E hr I.env0 (hb s us I.kIn hl) r2 h) fun r s' hq => ?_)
  cases r with
  | error e => exact hx pins σ H s e s' I hq
  | ok fl =>
    cases fl with
    | ret u => exact I.after hq
    | next => exact False.elim hq
    | brk => exact False.elim hq
    | cont => exact False.elim hq

theorem pe_call (F : FnOk X.prog X.w X.K X.mg X.base CX k f fd ps sp) (hr : Room k X.A) (hg : Gl X x) (hm : X.mg x = some (.ref f)) (hk : PySem.W.keepIn X.K (.ref f) = true) (hb : Binds X.K fd ps ds) (hd : Vals dvs ds) (hx : Passes CX X E)
    (ha : PA X (e :: es) t) (hdb : (x == ("__debug__" : Str)) = false := by decide) (he : starEach (e :: es) X.env = (false, eval e X.env) :: starEach es X.env := by rfl) (hpl : (backTo pos (starEach es X.env)).any (·.1) = false := by rfl) :
    PE X (.Call (.Name x p) (e :: es) [] pos) (tCall sp dvs E t) := by
  intro pins s σ H Q I h
  refine wpAny_Call_Name_kw (ld_glob I hg hm ?_ hdb)
  refine PySem.W.callWith_K (h₀ := X.base) I.ok.mod.kin hk (thn (ha pos pins s σ H _ I h) fun us s1 ⟨vs, H1, I1, r, q⟩ => ⟨I1.kIn, ?_⟩) he hpl
  exact run_fn F hr hb hd hx I1 r q
end

section
variable {X : Cx} {CX : CXT} {k : Nat} {f C : Addr} {fd : FuncData} {ps ks : List Str} {sp : Sp} {E : XK} {x m : Str} {p pos apos kpos : Pos} {e o : Expr} {es : List Expr} {kws : List Keyword} {te ta : TE} {t tk : TA} {nm : Option Str}
variable {g : List Value → List Value → List Value} {gV : List V → List V → List V}
end

structure FnScope (N P : List Str) (sc : Scope) : Prop where
  kind : sc.kind = .function
  co : sc.isCoroutine = false
  gen : sc.isGenerator = false
  nd : N.Nodup
  pre : N.take P.length = P
  par : ∀ x ∈ P, sc.names.lookup x = some .local ∨ sc.names.lookup x = some .cell
  nofree : ∀ y ∈ sc.names, y.2 ≠ .free

theorem bindL_out {kindOf : Str → Option NameKind} {x : Str} : ∀ {binds : List (Str × Value)} {m : Str → Option Value}, (∀ v, (x, v) ∉ binds) → bindL kindOf binds m x = m x
  | [], _, _ => rfl
  | (n, v) :: r, m, h => by
    unfold bindL
    rw [bindL_out fun w hw => h w (List.mem_cons_of_mem _ hw)]
    split
    · have : x ≠ n := by rintro rfl; exact h v List.mem_cons_self
      simp [this]
    · rfl
theorem bindC_out {kindOf : Str → Option NameKind} {x : Str} : ∀ {binds : List (Str × Value)} {m : Str → Option Value}, (∀ v, (x, v) ∉ binds) → bindC kindOf binds m x = m x
  | [], _, _ => rfl
  | (n, v) :: r, m, h => by
    unfold bindC
    rw [bindC_out fun w hw => h w (List.mem_cons_of_mem _ hw)]
    split
    · rfl
    · have : x ≠ n := by rintro rfl; exact h v List.mem_cons_self
      simp [this]
theorem bindL_get {kindOf : Str → Option NameKind} {x : Str} {v : Value} : ∀ {P : List Str} {vs : List Value} {i : Nat} {m : Str → Option Value}, P.Nodup → P[i]? = some x → vs[i]? = some v → kindOf x = some .local →
    bindL kindOf (P.zip vs) m x = some v
  | [], _, _, _, _, h, _, _ => by simp at h
  | _ :: _, [], _, _, _, _, h, _ => by simp at h
  | p :: P, w :: vs, 0, m, nd, h1, h2, hk => by
    simp at h1 h2; subst h1; subst h2
    show bindL kindOf ((p, w) :: P.zip vs) m p = _
    unfold bindL
    rw [bindL_out fun v hv => (List.nodup_cons.mp nd).1 (List.of_mem_zip hv).1, if_pos hk]
    simp
  | p :: P, w :: vs, i + 1, m, nd, h1, h2, hk => by
    show bindL kindOf ((p, w) :: P.zip vs) m x = _
    unfold bindL
    exact bindL_get (i := i) (List.nodup_cons.mp nd).2 (by simpa using h1) (by simpa using h2) hk
theorem bindC_get {kindOf : Str → Option NameKind} {x : Str} {v : Value} : ∀ {P : List Str} {vs : List Value} {i : Nat} {m : Str → Option Value}, P.Nodup → P[i]? = some x → vs[i]? = some v → kindOf x ≠ some .local →
    bindC kindOf (P.zip vs) m x = some v
  | [], _, _, _, _, h, _, _ => by simp at h
  | _ :: _, [], _, _, _, _, h, _ => by simp at h
  | p :: P, w :: vs, 0, m, nd, h1, h2, hk => by
    simp at h1 h2; subst h1; subst h2
    show bindC kindOf ((p, w) :: P.zip vs) m p = _
    unfold bindC
    rw [bindC_out fun v hv => (List.nodup_cons.mp nd).1 (List.of_mem_zip hv).1, if_neg hk]
    simp
  | p :: P, w :: vs, i + 1, m, nd, h1, h2, hk => by
    show bindC kindOf ((p, w) :: P.zip vs) m x = _
    unfold bindC
    exact bindC_get (i := i) (List.nodup_cons.mp nd).2 (by simpa using h1) (by simpa using h2) hk

noncomputable def start (N : List Str) (vs : List V) : St := vs.map some ++ List.replicate (N.length - vs.length) none

noncomputable def cxOf (CX : CXT) (P : Program) (w : World) (K : PySem.W.Frag) (mg : Str → Option Value) (base : Heap) (N : List Str) (qual : Str) (scope : Scope) (f : Addr) (cd : Value) (A : Around) (outer : List Env) (s : Shared) (H : Hp) (E : XK) : Cx where
  prog := P
  w := w
  K := K
  mg := mg
  base := base
  A := A.deeper (envOfC qual scope s.heap.objs.size f cd)
  N := N
  s₀ := s
  H₀ := H
  env := envOfC qual scope s.heap.objs.size f cd
  outer := outer
  stack := envOfC qual scope s.heap.objs.size f cd :: outer
  ex := []
  calm := A.handled.isNone
  fn := fun _ => true
  pn := []
  xe := fun e s' => wpAny (model P w) (A.deeper (envOfC qual scope s.heap.objs.size f cd)) (leaving (envOfC qual scope s.heap.objs.size f cd) e) (fun _ s'' => CX outer H s E e s'') (fun e' s'' => CX outer H s E e' s'') s'

theorem cell_has {sc : Scope} {n : Nat} {x : Str} (h : sc.names.lookup x = some .cell) : ∃ c, (cellsFrom n sc.names []).lookup x = some c := by
  have q := PySem.W.cellsFrom_some sc.names n [] (.inl h)
  exact Option.isSome_iff_exists.mp q

theorem inv_start {CX : CXT} {P : Program} {w : World} {K : PySem.W.Frag} {mg : Str → Option Value} {base : Heap} {N ps : List Str} {qual : Str} {scope : Scope} {f : Addr} {cd : Value} {A : Around} {outer : List Env} {s s1 : Shared} {H : Hp} {E : XK} {us : List Value} {vs : List V}
    (S : FnScope N ps scope) (e0 : Env0 P w K mg base A outer s H) (hl : vs.length = ps.length) (r : Vals vs us)
    (x : InCallC s s.heap.objs.size (bindL (envOfC qual scope s.heap.objs.size f cd).kindOf (ps.zip us) fun _ => none) (cellsFrom (s.heap.objs.size + 1) scope.names []) (bindC (envOfC qual scope s.heap.objs.size f cd).kindOf (ps.zip us) fun _ => none) s1) :
    Inv (cxOf CX P w K mg base N qual scope f cd A outer s H E) [] (start N vs) H s1 := by
  have hpl : ps.length ≤ N.length := by have := congrArg List.length S.pre; rw [List.length_take] at this; omega
  obtain ⟨h1, tk, rfl, hk⟩ := x.done
  have noA : ∀ b : Addr, b ∉ (cxOf CX P w K mg base N qual scope f cd A outer s H E).ex := fun b z => absurd (show b ∈ ([] : List Addr) from z) (by simp)
  refine ⟨⟨e0.mod, S.kind, rfl, rfl, Nat.le_refl _, fun y z c h1 h2 => ?_, fun y hy => ?_, fun y c _ h => ?_, fun z => Option.isNone_iff_eq_none.mp z, Around.frames_deeper e0.frames, .inr ⟨rfl, rfl⟩, fun b z => absurd z (noA b), e0.bs, e0.bsz, fun b _ _ => noA b, fun b z => absurd z (noA b), e0.funs, e0.frf⟩,
    rfl, e0.bare, Un.kept hk, ⟨_, x.toInCall.ns, fun i y v h1 h2 h3 => ?_⟩, fun y c h => ⟨_, x.cell y c h⟩, e0.hok.fresh (Nat.le_refl _), fun y c h => ?_, fun p hp => absurd (show p ∈ ([] : List (Addr × Obj)) from hp) (by simp), e0.hok.kept hk, ?_, e0.qd⟩
  · exact name_of_addr x.apart (PySem.mem_of_lookup h1) (PySem.mem_of_lookup h2)
  · have hy : scope.names.lookup y = some .cell ∨ scope.names.lookup y = some .free := hy
    rcases hy with hy | hy
    · exact cell_has hy
    · exact absurd rfl (S.nofree _ (PySem.mem_of_lookup hy))
  · exact Nat.le_of_lt (x.above y c (PySem.mem_of_lookup h))
  · have hi : i < vs.length := by
      unfold start at h2
      by_cases hi : i < vs.length
      · exact hi
      · rw [List.getElem?_append_right (by simpa using hi)] at h2
        rw [List.getElem?_replicate] at h2
        split at h2 <;> cases h2
    have ha : vs[i]? = some v := by
      unfold start at h2
      rw [List.getElem?_append_left (by simpa using hi), List.getElem?_map] at h2
      cases e : vs[i]? with
      | none => rw [e] at h2; cases h2
      | some a => rw [e] at h2; cases h2; rfl
    obtain ⟨u, hu, rv⟩ := r.get ha
    have hp : ps[i]? = some y := by
      rw [← S.pre, List.getElem?_take_of_lt (by omega)]; exact h1
    have ndP : ps.Nodup := by rw [← S.pre]; exact S.nd.sublist (List.take_sublist _ _)
    refine ⟨u, rv, ?_⟩
    rcases S.par y (List.mem_of_getElem? hp) with k | k
    · exact .inl ⟨k, bindL_get ndP hp hu k⟩
    · obtain ⟨c, e⟩ := cell_has (n := s.heap.objs.size + 1) k
      refine .inr ⟨.inl k, c, e, ?_⟩
      have q := x.cell y c e
      rw [bindC_get ndP hp hu (by show scope.names.lookup y ≠ _; rw [k]; decide)] at q
      exact q
  · exact e0.hok.fresh (Nat.le_of_lt (x.above y c (PySem.mem_of_lookup h)))
  · unfold start
    show _ = N.length
    rw [List.length_append, List.length_map, List.length_replicate]
    omega

theorem fn_of {CX : CXT} {P : Program} {w : World} {K : PySem.W.Frag} {mg : Str → Option Value} {base : Heap} {k : Nat} {f : Addr} {name qual : Str} {params : Arguments} {body : List Stmt} {scope : Scope} {dV kV doc pm cdv ct oc : Value} {an od : Option Addr}
    {osl : Array (Option Value)} {N ps : List Str} {sp : Sp} (lk : K.lookup f = some ⟨oc, od, .func (PySem.W.fnOf name qual params body scope dV kV doc pm an cdv ct), osl⟩) (hcd : PySem.W.codeIn K cdv qual = true) (S : FnScope N ps scope)
    (len : ∀ vs H Q E, sp vs H Q E → vs.length = ps.length)
    (hbody : ∀ (A : Around) (outer : List Env) (s : Shared) (H : Hp) (vs : List V) (Q : VK) (E : XK), Room k (A.deeper (envOfC qual scope s.heap.objs.size f cdv)) → sp vs H Q E →
      ∃ t, PSs (cxOf CX P w K mg base N qual scope f cdv A outer s H E) body t ∧ t { nx := fun _ H' => Q .non H', rt := Q } (start N vs) H) :
    FnOk P w K mg base CX (k + 1) f (PySem.W.fnOf name qual params body scope dV kV doc pm an cdv ct) ps sp := by
  refine ⟨len, fun A outer s H args us vs Q E hr e0 hb r hsp => ?_⟩
  have hl := len _ _ _ _ hsp
  have KX : K.In s.heap := e0.mod.kin.keeps fun b o e => (e0.bs b o e).1
  have lim : s.heap.NoLimit := e0.mod.nolimit.keeps fun b o e => (e0.bs b o e).1
  have hkind : ∀ y ∈ ps.zip us, scope.names.lookup y.1 = some .local ∨ (scope.names.lookup y.1 = some .cell ∧ ((cellsFrom (s.heap.objs.size + 1) scope.names []).lookup y.1).isSome = true) := fun ⟨n, v⟩ hy => by
    rcases S.par n (List.of_mem_zip hy).1 with q | q
    · exact .inl q
    · exact .inr ⟨q, PySem.W.cellsFrom_some _ _ _ (.inl q)⟩
  refine codeAny_call_function hr.depth (KX _ _ lk) rfl S.co S.gen rfl (PySem.W.codeRec_of KX hcd) (hb _ _ _ _ ?_)
  refine wpAny_newFunctionEnv_cells S.kind hkind fun env he s1 x => ?_
  subst he
  refine ⟨lim.keeps x.toInCall.keep, codeAny_func ?_⟩
  obtain ⟨t, ht, hq⟩ := hbody A outer s H vs Q E (hr.deeper _) hsp
  have I : Inv (cxOf CX P w K mg base N qual scope f cdv A outer s H E) [] (start N vs) H s1 := inv_start S e0 hl r x
  refine wpAny_mono (ht [] s1 (start N vs) H _ I hq) (fun fl s' hs => ?_) fun e s' hs => hs
  have fin : ∀ {σ' : St} {H' : Hp} {v : V} {u : Value}, Inv (cxOf CX P w K mg base N qual scope f cdv A outer s H E) [] σ' H' s' → RelV v u → Q v H' → CE outer P w H s Q u s' :=
    fun {σ' H' v u} J rv q => ⟨v, H', J.os, J.bare, J.base, J.hok, rv, q⟩
  cases fl with
  | ret u =>
    obtain ⟨v, σ', H', J, rv, q⟩ := hs
    exact fin J rv q
  | next =>
    obtain ⟨σ', H', J, q⟩ := hs
    exact fin (v := V.non) (u := Value.none) J rfl q
  | brk =>
    obtain ⟨_, _, _, q⟩ := hs
    exact False.elim q
  | cont =>
    obtain ⟨_, _, _, q⟩ := hs
    exact False.elim q
end L2

namespace L2
open PySem PySem.Spec PyProof.Rows
section
variable {X : Cx} {x : Str} {p pos : Pos} {e : Expr} {es : List Expr} {t : TA} {id T : String} {r : List V → Hp → VK → Prop}

noncomputable def tCB (r : List V → Hp → VK → Prop) (t : TA) : TE := fun σ H Q => t σ H fun vs H1 => r vs H1 Q
theorem pe_callB (hc : CallR X (.builtin id) r) (hg : Gl X x) (hm : X.mg x = none) (hv : bootBuiltins x = some (.builtin id)) (ha : PA X (e :: es) t) (hn : x ≠ "__name__" := by decide) (hdb : (x == ("__debug__" : Str)) = false := by decide)
    (he : starEach (e :: es) X.env = (false, eval e X.env) :: starEach es X.env := by rfl) (hpl : (backTo pos (starEach es X.env)).any (·.1) = false := by rfl) : PE X (.Call (.Name x p) (e :: es) [] pos) (tCB r t) := by
  intro pins s σ H Q I h
  refine wpAny_Call_Name_kw (ld_blt I hg hm hv ?_ hn hdb)
  exact PyProof.Rows.callWith_builtin1 (thn (ha pos pins s σ H _ I h) fun us s1 ⟨vs, H1, I1, r1, q1⟩ => hc pins s1 σ H1 vs us Q I1 r1 q1) he hpl
theorem pe_callTy (hc : CallR X (.type T) r) (hg : Gl X x) (hm : X.mg x = none) (hv : bootBuiltins x = some (.type T)) (ha : PA X (e :: es) t) (hn : x ≠ "__name__" := by decide) (hdb : (x == ("__debug__" : Str)) = false := by decide)
    (he : starEach (e :: es) X.env = (false, eval e X.env) :: starEach es X.env := by rfl) (hpl : (backTo pos (starEach es X.env)).any (·.1) = false := by rfl) : PE X (.Call (.Name x p) (e :: es) [] pos) (tCB r t) := by
  intro pins s σ H Q I h
  refine wpAny_Call_Name_kw (ld_blt I hg hm hv ?_ hn hdb)
  exact PyProof.Rows.callWith_type1 (thn (ha pos pins s σ H _ I h) fun us s1 ⟨vs, H1, I1, r1, q1⟩ => hc pins s1 σ H1 vs us Q I1 r1 q1) he hpl
end
end L2

namespace HT
open PySem PyProof.Rows

section
open PySem.SeqAt
open PySem.AutoSeq1 (wpAny_loadPart')
open PySem.MeetsSeq PySem.MeetsSeq2 PySem.MeetsSeq3

end

section
variable {prog : Program} {w : World} {A : Around} {E : Value → Shared → Prop} {s : Shared}

theorem cat_tup {t b : Addr} {vs ws : List Value} {Q : Value → Shared → Prop} (ht : IsTup s.heap t vs.toArray) (hb : IsTup s.heap b ws.toArray) (hv : vs ≠ [])
    (h1 : ws = [] → Q (.ref t) s) (h2 : ws ≠ [] → Q (.ref s.heap.objs.size) { s with heap := s.heap.push { cls := .type "tuple", data := .seq (vs ++ ws).toArray } })
    (hsz : vs.length + ws.length ≤ sizeLine) : wpAny (model prog w) A (binaryOp .Add (.ref t) (.ref b)) Q E s := by
  obtain ⟨⟨cls, dd, data, sl⟩, ho, hc, n, hd⟩ := id ht
  obtain ⟨⟨cls2, dd2, data2, sl2⟩, ho2, hc2, n2, hd2⟩ := id hb
  simp only at hc hd hc2 hd2
  subst hc hd hc2 hd2
  have e : vs.toArray ++ ws.toArray = (vs ++ ws).toArray := by simp
  by_cases hw : ws = []
  · exact concat_meets ⟨_, ho, rfl⟩ ⟨_, ho2, rfl⟩ noFill_tuple_add seq_tuple_add PySem.F.slot_tuple_add PySem.F.entry_tuple_add (PySem.F.args_tuple_add_2 _ _)
      (tuple_addW1 t b vs.toArray ws.toArray n n2 dd dd2 sl sl2 (by simpa using hv) (by simp [hw])) ⟨ho, ho2, h1 hw⟩
  · refine concat_meets ⟨_, ho, rfl⟩ ⟨_, ho2, rfl⟩ noFill_tuple_add seq_tuple_add PySem.F.slot_tuple_add PySem.F.entry_tuple_add (PySem.F.args_tuple_add_2 _ _)
      (tuple_addW2 t b vs.toArray ws.toArray n n2 dd dd2 sl sl2 (by simpa using hv) (by simpa using hw) (by rw [List.size_toArray, List.size_toArray]; exact hsz)) ⟨ho, ho2, ?_⟩
    rw [e]
    exact h2 hw

noncomputable def sIx (n d : Nat) : Option Int → Nat
  | none => d
  | some v => if v < 0 then (v + (n : Int)).toNat else min v.toNat n
theorem sIx_le (n d : Nat) (hd : d ≤ n) (o : Option Int) : sIx n d o ≤ n := by
  cases o with
  | none => exact hd
  | some v =>
    show (if v < 0 then (v + (n : Int)).toNat else min v.toNat n) ≤ n
    by_cases hv : v < 0
    · rw [if_pos hv]; omega
    · rw [if_neg hv]; exact Nat.min_le_right _ _
theorem clip_eq (v : Int) (n d : Nat) : (if v < 0 then max (v + (n : Int)) 0 else min v (n : Int)) = ((sIx n d (some v) : Nat) : Int) := by
  show (if v < 0 then max (v + (n : Int)) 0 else min v (n : Int)) = (((if v < 0 then (v + (n : Int)).toNat else min v.toNat n) : Nat) : Int)
  by_cases hv : v < 0
  · simp only [if_pos hv]; omega
  · simp only [if_neg hv]; omega
theorem adjust_gen (lo hi : Option Int) (n : Nat) : Builtin.Slice.sliceAdjust lo hi 1 (n : Int) = (((sIx n 0 lo : Nat) : Int), ((sIx n n hi : Nat) : Int)) := by
  have h1 : ¬ ((1 : Int) < 0) := by omega
  unfold Builtin.Slice.sliceAdjust
  simp only [h1, if_false]
  refine Prod.ext ?_ ?_
  · cases lo with
    | none => rfl
    | some v => exact clip_eq v n 0
  · cases hi with
    | none => rfl
    | some v => exact clip_eq v n n
theorem places_gen (i j : Nat) : Builtin.Slice.slicePlaces (i : Int) (j : Int) 1 = j - i := by
  unfold Builtin.Slice.slicePlaces
  have h1 : (1 : Int) > 0 := by omega
  simp only [h1, if_true, Int.ediv_one]
  split <;> omega
theorem slicePart_ {v : Value} {o : Option Int} {Q : Option Int → Shared → Prop} (p : IsPart v o) (h : Q o s) : wpAny (model prog w) A (Builtin.Slice.slicePartIndex v) Q E s := by
  cases p with
  | none => exact slicePart_none h
  | int i t => exact slicePart_int h
theorem sliceApplied_gen {sl : Addr} {vl vu : Value} {lo hi : Option Int} {n : Nat} {Q : Int × Int × Nat → Shared → Prop} (hs : s.heap.IsSliceOf sl vl vu .none) (pl : IsPart vl lo) (pu : IsPart vu hi)
    (h : Q (((sIx n 0 lo : Nat) : Int), 1, sIx n n hi - sIx n 0 lo) s) : wpAny (model prog w) A (Builtin.Slice.sliceApplied (.ref sl) (pure (n : Int))) Q E s := by
  obtain ⟨os, hos, hcs, hds⟩ := id hs
  unfold Builtin.Slice.sliceApplied Builtin.Slice.sliceFields
  refine wpAny_bind (wpAny_bind (wpAny_field hos hds (x := vl) rfl (wpAny_bind (wpAny_field hos hds (x := vu) rfl (wpAny_bind (wpAny_field hos hds (x := .none) rfl (wpAny_pure ?_)))))))
  refine wpAny_bind (slicePart_none ?_)
  show wpAny _ _ (if ((1 : Int) == 0) = true then _ else _) _ _ s
  rw [if_neg (by decide)]
  refine wpAny_bind (slicePart_ pl (wpAny_bind (slicePart_ pu (wpAny_bind (wpAny_pure ?_)))))
  show wpAny _ _ (match Builtin.Slice.sliceAdjust lo hi 1 (n : Int) with | (lo, hi) => pure (lo, (1 : Int), Builtin.Slice.slicePlaces lo hi 1)) _ _ s
  rw [adjust_gen lo hi n]
  show wpAny _ _ (pure (((sIx n 0 lo : Nat) : Int), (1 : Int), Builtin.Slice.slicePlaces ((sIx n 0 lo : Nat) : Int) ((sIx n n hi : Nat) : Int) 1)) _ _ s
  rw [places_gen]
  exact wpAny_pure h
theorem pick_gen (xs : Array Value) (i k : Nat) : ((List.range k).filterMap fun (m : Nat) => xs[((i : Int) + (m : Int) * 1).toNat]?).toArray = ((xs.toList.drop i).take k).toArray := by
  have e : (fun (m : Nat) => xs[((i : Int) + (m : Int) * 1).toNat]?) = fun m => xs[i + m]? := by
    funext m
    have : ((i : Int) + (m : Int) * 1).toNat = i + m := by omega
    rw [this]
  rw [e]
  have := pick_run xs i k
  rw [List.filterMap_map] at this
  have e2 : ((fun x => xs[x]?) ∘ fun x => i + x) = fun m => xs[i + m]? := rfl
  rw [e2] at this
  rw [this]

theorem getItem_tuple_cut {t sl : Addr} {items : Array Value} {vl vu : Value} {lo hi : Option Int} {Q : Value → Shared → Prop} (ht : IsTup s.heap t items) (hs : s.heap.IsSliceOf sl vl vu .none) (pl : IsPart vl lo) (pu : IsPart vu hi)
    (hw : ¬ (sIx items.size 0 lo = 0 ∧ sIx items.size items.size hi = items.size))
    (h : Q (.ref s.heap.objs.size) { s with heap := s.heap.push { cls := .type "tuple", data := .seq ((items.toList.drop (sIx items.size 0 lo)).take (sIx items.size items.size hi - sIx items.size 0 lo)).toArray } })
    (hsz : items.size ≤ sizeLine) : wpAny (model prog w) A (getItem (.ref t) (.ref sl)) Q E s := by
  have htake : sizeOk (.seq ((items.toList.drop (sIx items.size 0 lo)).take (sIx items.size items.size hi - sIx items.size 0 lo)).toArray) := by
    show ((items.toList.drop (sIx items.size 0 lo)).take (sIx items.size items.size hi - sIx items.size 0 lo)).toArray.size ≤ sizeLine
    rw [List.size_toArray, List.length_take, List.length_drop, Array.length_toList]
    omega
  have hj : sIx items.size items.size hi ≤ items.size := sIx_le _ _ (Nat.le_refl _) hi
  obtain ⟨os, hos, hcs, hds⟩ := id hs
  have hTs : s.TypeIs (.ref sl) "slice" := ⟨os, hos, hcs⟩
  unfold getItem
  try with_reducible refine wpAny_holding ?_
  first | refine wpAny_bind (wpAny_pure ?_) | skip
  refine wpAny_bind (wpAny_sequenceKey ht.typeIs (by decide) ?_)
  refine wpAny_bind (wpAny_callSpecial?_slot (name := Str.ofString "__getitem__") ht.typeIs PyProof.Rows.slot_tuple_getitem
    (wpAny_call_entry PyProof.Rows.slot_tuple_getitem ht.typeIs entry_tuple_getitem ?_ (args_tuple_getitem _ _)))
  show wpAny _ _ (Builtin.Tuple.tupleItemsOf (.ref t) >>= _) _ _ s
  refine wpAny_bind (tupleItemsOf_ ht ?_)
  refine wpAny_bind (wpAny_typeOf hTs ?_)
  rw [if_pos (by decide)]
  refine wpAny_bind (sliceApplied_gen hs pl pu ?_)
  have hno : ¬ ((((sIx items.size 0 lo : Nat) : Int) == 0 && (1 : Int) == 1 && (sIx items.size items.size hi - sIx items.size 0 lo) == items.size) = true) := by
    intro q
    rw [Bool.and_eq_true, Bool.and_eq_true] at q
    have q1 : ((sIx items.size 0 lo : Nat) : Int) = 0 := eq_of_beq q.1.1
    have q2 : sIx items.size items.size hi - sIx items.size 0 lo = items.size := eq_of_beq q.2
    exact hw ⟨by omega, by omega⟩
  show wpAny _ _ (if (((sIx items.size 0 lo : Nat) : Int) == 0 && (1 : Int) == 1 && (sIx items.size items.size hi - sIx items.size 0 lo) == items.size) = true then _ else _) _ _ s
  rw [if_neg hno, pick_gen]
  first
    | exact wpAny_bind (m := Builtin.Tuple.tupleExact _) (wpAny_newObj_type (wpAny_pure ⟨_, rfl, wpAny_pure h⟩) htake)
    | exact wpAny_bind (m := Builtin.Tuple.tupleExact _) (wpAny_newObj_type (wpAny_bind (wpAny_pure (wpAny_pure ⟨_, rfl, wpAny_pure h⟩))) htake)
    | exact wpAny_bind (wpAny_bind (m := Builtin.Tuple.tupleExact _) (wpAny_newObj_type (wpAny_pure (wpAny_pure ⟨_, rfl, wpAny_pure h⟩)) htake))
    | exact wpAny_bind (wpAny_bind (m := Builtin.Tuple.tupleExact _) (wpAny_newObj_type (wpAny_pure ⟨_, rfl, wpAny_pure h⟩) htake))
end
end HT

namespace L2
open PySem PySem.Spec PyProof.Rows

noncomputable abbrev TO := St → Hp → (Option Int → Hp → Prop) → Prop
noncomputable def PO (X : Cx) (e : Option Expr) (t : TO) : Prop :=
  ∀ (pins : List (Addr × Obj)) (s : Shared) (σ : St) (H : Hp) (Q : Option Int → Hp → Prop), Inv X pins σ H s → t σ H Q →
    wpAny (model X.prog X.w) X.A (evalPart e X.env) (fun u s' => ∃ o H', Inv X pins σ H' s' ∧ IsPart u o ∧ Q o H') X.xe s
noncomputable def tNoPart : TO := fun _ H Q => Q none H
noncomputable def tPart (t : TE) : TO := fun σ H Q => t σ H fun x H1 => ∃ i, x = .int i ∧ Q (some i) H1

section
variable {X : Cx} {e : Expr} {te : TE} {lo hi : Option Expr} {tl th : TO} {pos p2 : Pos}

theorem po_none : PO X none tNoPart := by
  intro pins s σ H Q I h
  rw [evalPart_none]
  exact wpAny_pure ⟨none, H, I, .none, h⟩
theorem po_some (h : PE X e te) : PO X (some e) (tPart te) := by
  intro pins s σ H Q I hw
  rw [evalPart_some]
  refine thn (h pins s σ H _ I hw) fun u s1 ⟨x, H1, I1, r1, q1⟩ => ?_
  obtain ⟨i, rfl, q⟩ := q1
  obtain ⟨t, rfl⟩ := r1
  exact ⟨some i, H1, I1, .int i t, q⟩

noncomputable def SlR (X : Cx) (r : V → Option Int → Option Int → Hp → VK → Prop) : Prop :=
  ∀ (pins : List (Addr × Obj)) (s : Shared) (σ : St) (H : Hp) (x : V) (v vl vu : Value) (lo hi : Option Int) (sl : Addr) (Q : VK), Inv X pins σ H s → RelV x v → s.heap.IsSliceOf sl vl vu .none → IsPart vl lo → IsPart vu hi → r x lo hi H Q →
    ∃ T id, typeLookup (.type T) "__getitem__" = pure (some (.builtin id)) ∧ s.TypeIs v T ∧ wpAny (model X.prog X.w) X.A (getItem v (.ref sl)) (EP X pins σ Q) X.xe s
theorem SlR.or {r r' : V → Option Int → Option Int → Hp → VK → Prop} (h : SlR X r) (h' : SlR X r') : SlR X (fun x lo hi H Q => r x lo hi H Q ∨ r' x lo hi H Q) := by
  intro pins s σ H x v vl vu lo hi sl Q I rx hs pl pu q
  rcases q with q | q
  · exact h pins s σ H x v vl vu lo hi sl Q I rx hs pl pu q
  · exact h' pins s σ H x v vl vu lo hi sl Q I rx hs pl pu q
noncomputable def tSl (r : V → Option Int → Option Int → Hp → VK → Prop) (te : TE) (tl th : TO) : TE := fun σ H Q => te σ H fun x H1 => tl σ H1 fun l H2 => th σ H2 fun u H3 => r x l u H3 Q
theorem pe_slice {r : V → Option Int → Option Int → Hp → VK → Prop} (hr : SlR X r) (he : PE X e te) (hl : PO X lo tl) (hu : PO X hi th) : PE X (.Subscript e (.Slice lo hi none p2) pos) (tSl r te tl th) := by
  intro pins s σ H Q I h
  refine Subscript_ (thn (he pins s σ H _ I h) fun v s1 ⟨x, H1, I1, r1, q1⟩ => ?_)
  refine wpAny_Slice (thn (hl pins s1 σ H1 _ I1 q1) fun vl s2 ⟨l, H2, I2, pl, q2⟩ => thn (hu pins s2 σ H2 _ I2 q2) fun vu s3 ⟨u, H3, I3, pu, q3⟩ => ?_)
  rw [evalPart_none]
  refine wpAny_pure ?_
  have I4 : Inv X pins σ H3 { s3 with heap := s3.heap.push { cls := .type "slice", data := .fields #[vl, vu, .none] } } := I3.kept (t' := s3.toks) fun b ob q => Heap.get?_push_of_some _ q
  obtain ⟨T, id, hT, ht, hg⟩ := hr pins { s3 with heap := s3.heap.push { cls := .type "slice", data := .fields #[vl, vu, .none] } } σ H3 x v vl vu l u s3.heap.objs.size Q I4 r1 (Heap.IsSliceOf.new ..) pl pu q3
  show wpAny (model X.prog X.w) X.A (subscriptTail e (.Slice lo hi none p2) v (.ref s3.heap.objs.size)) (EP X pins σ Q) X.xe { s3 with heap := s3.heap.push { cls := .type "slice", data := .fields #[vl, vu, .none] } }
  exact tail_any (ops := [.ref s3.heap.objs.size, v]) ht hT hg (by with_unfolding_all rfl)

noncomputable def cutV (xs : List V) (lo hi : Option Int) : List V := (xs.drop (HT.sIx xs.length 0 lo)).take (HT.sIx xs.length xs.length hi - HT.sIx xs.length 0 lo)
theorem cutV_length (xs : List V) (lo hi : Option Int) : (cutV xs lo hi).length ≤ xs.length := by
  unfold cutV
  rw [List.length_take, List.length_drop]
  omega
noncomputable def rSlT (K : PySem.W.Frag) : V → Option Int → Option Int → Hp → VK → Prop := fun x lo hi H Q => ∃ a xs, x = .ref a ∧ SqT K H a xs ∧
  ¬ (HT.sIx xs.length 0 lo = 0 ∧ HT.sIx xs.length xs.length hi = xs.length) ∧ ∀ p, H p = none → Q (.ref p) (upd H p (.tup (cutV xs lo hi)))
theorem sl_tup : SlR X (rSlT X.K) := by
  intro pins s σ H x v vl vu lo hi sl Q I rx hs pl pu h
  obtain ⟨a, xs, rfl, hx, hw, q⟩ := h
  cases rx
  obtain ⟨its, r, ht, hz⟩ := I.tuple hx
  have hlen : its.toArray.size = xs.length := by rw [List.size_toArray]; exact r.length.symm
  refine ⟨"tuple", _, PyProof.Rows.slot_tuple_getitem.lookup, ht.typeIs, ?_⟩
  refine HT.getItem_tuple_cut ht hs pl pu (by rw [hlen]; exact hw) ?_ (by rw [hlen]; exact hz)
  rw [hlen]
  refine ⟨.ref s.heap.objs.size, _, I.laid (t' := s.toks) (o := .tup (cutV xs lo hi)) (fun b ob q => Heap.get?_push_of_some _ q) (Nat.le_refl _) ?_, rfl, q _ (I.hok.fresh (Nat.le_refl _))⟩
  exact ⟨Nat.le_trans (cutV_length xs lo hi) hz, _, (r.drop (HT.sIx xs.length 0 lo)).take (HT.sIx xs.length xs.length hi - HT.sIx xs.length 0 lo), IsTup.new _ _⟩

noncomputable def rCatT (K : PySem.W.Frag) : R2 := fun x y H Q => ∃ a b xs ys, x = .ref a ∧ y = .ref b ∧ SqT K H a xs ∧ SqT K H b ys ∧ xs ≠ [] ∧ xs.length + ys.length ≤ sizeLine ∧
  (ys = [] → Q (.ref a) H) ∧ (ys ≠ [] → ∀ p, H p = none → Q (.ref p) (upd H p (.tup (xs ++ ys))))
theorem Vals.nil_iff {xs : List V} {us : List Value} (r : Vals xs us) : us = [] ↔ xs = [] := by
  cases r with
  | nil => simp
  | cons _ _ => simp
theorem op_catT : OpR X (binaryOp .Add) (rCatT X.K) := by
  intro pins s σ H x y v u Q I rx ry h
  obtain ⟨a, b, xs, ys, rfl, rfl, ha, hb, hx, hz, q1, q2⟩ := h
  cases rx
  cases ry
  obtain ⟨its, r1, p1, _⟩ := I.tuple ha
  obtain ⟨its2, r2, p2, _⟩ := I.tuple hb
  refine HT.cat_tup p1 p2 (fun z => hx (r1.nil_iff.mp z)) (fun z => ⟨.ref a, H, I, rfl, q1 (r2.nil_iff.mp z)⟩) (fun z => ?_) (by rw [← r1.length, ← r2.length]; exact hz)
  refine ⟨.ref s.heap.objs.size, _, I.laid (t' := s.toks) (o := .tup (xs ++ ys)) (fun b ob q => Heap.get?_push_of_some _ q) (Nat.le_refl _) ?_, rfl, q2 (fun w => z (r2.nil_iff.mpr w)) _ (I.hok.fresh (Nat.le_refl _))⟩
  exact ⟨by rw [List.length_append]; exact hz, _, r1.append r2, IsTup.new _ _⟩
end
end L2

namespace L2
open PySem PySem.Spec PyProof.Rows

noncomputable def ixN (n : Nat) (i : Int) : Option Nat := if 0 ≤ i then (if i < n then some i.toNat else none) else if -(n : Int) ≤ i then some (i + n).toNat else none
noncomputable def atI {α : Type} (xs : List α) (i : Int) : Option α := (ixN xs.length i).bind fun j => xs[j]?
theorem ixN_seq {n : Nat} {i : Int} {j : Nat} (h : ixN n i = some j) : seqIndex? i n = some j ∧ j < n ∧ -(n : Int) ≤ i ∧ i < n := by
  unfold ixN at h
  by_cases h0 : 0 ≤ i
  · rw [if_pos h0] at h
    by_cases h1 : i < n
    · rw [if_pos h1] at h
      have e : i.toNat = j := Option.some.inj h
      exact ⟨by rw [seqIndex_of h0 h1, e], by omega, by omega, h1⟩
    · rw [if_neg h1] at h; cases h
  · rw [if_neg h0] at h
    by_cases h1 : -(n : Int) ≤ i
    · rw [if_pos h1] at h
      have e : (i + n).toNat = j := Option.some.inj h
      exact ⟨by rw [seqIndex_neg (by omega) h1, e], by omega, h1, by omega⟩
    · rw [if_neg h1] at h; cases h
theorem atI_get {α : Type} {xs : List α} {i : Int} {v : α} (h : atI xs i = some v) : ∃ j, seqIndex? i xs.length = some j ∧ xs[j]? = some v ∧ j < xs.length ∧ -(xs.length : Int) ≤ i ∧ i < xs.length := by
  unfold atI at h
  cases e : ixN xs.length i with
  | none => rw [e] at h; cases h
  | some j =>
    rw [e] at h
    obtain ⟨h1, h2, h3, h4⟩ := ixN_seq e
    exact ⟨j, h1, h, h2, h3, h4⟩
theorem atI_nat {α : Type} {xs : List α} {j : Nat} {v : α} (h : xs[j]? = some v) : atI xs (j : Int) = some v := by
  have hj : j < xs.length := (List.getElem?_eq_some_iff.mp h).1
  have e : ixN xs.length (j : Int) = some j := by
    unfold ixN
    rw [if_pos (by omega), if_pos (by omega)]; simp
  unfold atI; rw [e]; exact h
noncomputable def PlainIx (b : Expr) : Prop := ∀ o i, subscripted b false o i = operate [o, i] (getItem o i)
noncomputable def IxR (X : Cx) (r : R2) : Prop :=
  ∀ (value slice : Expr) (pins : List (Addr × Obj)) (s : Shared) (σ : St) (H : Hp) (x y : V) (v u : Value) (Q : VK), Inv X pins σ H s → RelV x v → RelV y u → r x y H Q →
    subscripted slice false v u = operate [v, u] (getItem v u) → wpAny (model X.prog X.w) X.A (subscriptTail value slice v u) (EP X pins σ Q) X.xe s
noncomputable def MtR (X : Cx) (id : String) (r : V → List V → Hp → VK → Prop) : Prop :=
  ∀ (pins : List (Addr × Obj)) (s : Shared) (σ : St) (H : Hp) (x : V) (xs : List V) (v : Value) (us : List Value) (Q : VK), Inv X pins σ H s → RelV x v → Vals xs us → r x xs H Q →
    wpAny (model X.prog X.w) X.A (call (.builtin id) (v :: us)) (EP X pins σ Q) X.xe s
section
variable {X : Cx} {a b : Expr} {ta tb : TE} {pos : Pos}
theorem IxR.or {r r' : R2} (h : IxR X r) (h' : IxR X r') : IxR X (fun x y H Q => r x y H Q ∨ r' x y H Q) := by
  intro value slice pins s σ H x y v u Q I rx ry q hs
  rcases q with q | q
  · exact h value slice pins s σ H x y v u Q I rx ry q hs
  · exact h' value slice pins s σ H x y v u Q I rx ry q hs
theorem pe_ix {r : R2} (hr : IxR X r) (ha : PE X a ta) (hb : PE X b tb) (hs : PlainIx b) : PE X (.Subscript a b pos) (tOp r ta tb) := by
  intro pins s σ H Q I h
  exact Subscript_ (binT ha hb I h fun v u s2 x y H2 I2 rx ry q => hr a b pins s2 σ H2 x y v u Q I2 rx ry q (hs _ _))

noncomputable def rIxL (K : PySem.W.Frag) : R2 := fun x y H Q => ∃ p xs i v, x = .ref p ∧ y = .int i ∧ SqL K H p xs ∧ atI xs i = some v ∧ Q v H
noncomputable def rIxT (K : PySem.W.Frag) : R2 := fun x y H Q => ∃ p xs i v, x = .ref p ∧ y = .int i ∧ SqT K H p xs ∧ atI xs i = some v ∧ Q v H
theorem ix_list : IxR X (rIxL X.K) := by
  intro value slice pins s σ H x y v u Q I rx ry h hs
  obtain ⟨p, xs, i, z, rfl, rfl, hq, he, q⟩ := h
  cases rx
  obtain ⟨t, rfl⟩ := ry
  obtain ⟨its, r, pl, hz⟩ := I.list hq
  obtain ⟨j, h1, h2, h3, h4, h5⟩ := atI_get he
  obtain ⟨w, ew, rw'⟩ := r.get h2
  have hl := r.length
  have hn := line63
  have fin : EP X pins σ Q w s := ⟨z, H, I, rw', q⟩
  by_cases h0 : 0 ≤ i
  · have hj : i.toNat = j := by
      rw [seqIndex_of h0 h5] at h1
      exact Option.some.inj h1
    exact item_listR pl.isList h0 (by omega) (by rw [hj]; simpa using ew) fin hs
  · have hj : (i + (its.toArray.size : Int)).toNat = j := by
      rw [seqIndex_neg (by omega) h4] at h1
      rw [List.size_toArray, ← hl]
      exact Option.some.inj h1
    exact subscriptTail_builtinR (x := w) pl.isList.typeIs slot_list_getitem.lookup
      (wpAny_getItem_list_neg (Q := fun r s' => r = w ∧ EP X pins σ Q r s') pl.isList (by omega) (by rw [List.size_toArray] <;> omega) (by omega) (by rw [hj]; simpa using ew) ⟨rfl, fin⟩) hs
theorem ix_tup : IxR X (rIxT X.K) := by
  intro value slice pins s σ H x y v u Q I rx ry h hs
  obtain ⟨p, xs, i, z, rfl, rfl, hq, he, q⟩ := h
  cases rx
  obtain ⟨t, rfl⟩ := ry
  obtain ⟨its, r, pl, hz⟩ := I.tuple hq
  obtain ⟨j, h1, h2, h3, h4, h5⟩ := atI_get he
  obtain ⟨w, ew, rw'⟩ := r.get h2
  have hl := r.length
  have hn := line63
  have fin : EP X pins σ Q w s := ⟨z, H, I, rw', q⟩
  exact subscriptTail_builtinR (x := w) pl.typeIs slot_tuple_getitem.lookup
    (getItem_tuple (j := j) (Q := fun r s' => r = w ∧ EP X pins σ Q r s') pl (by omega) (by omega) (by rw [List.size_toArray, ← hl]; exact h1) (by simpa using ew) ⟨rfl, fin⟩) hs
theorem mapSeq_set (its : List Value) (n j : Nat) (u : Value) : Obj.mapSeq (·.setIfInBounds j u) { cls := .type "list", data := .seq its.toArray n } = { cls := .type "list", data := .seq (its.set j u).toArray n } := by
  simp [Obj.mapSeq]
theorem Inv.lst {pins : List (Addr × Obj)} {σ : St} {H : Hp} {s : Shared} {p : Addr} {xs : List V} (I : Inv X pins σ H s) (h : H p = some (.lst xs)) :
    ∃ (its : List Value) (n : Nat), Vals xs its ∧ s.heap.get? p = some { cls := .type "list", data := .seq its.toArray n } ∧ xs.length ≤ sizeLine := by
  obtain ⟨z, its, n, r, e⟩ := I.hok p _ h
  exact ⟨its, n, r, e, z⟩
theorem Inv.lstUpd {pins : List (Addr × Obj)} {σ : St} {H : Hp} {s : Shared} {p : Addr} {xs ys : List V} {its its' : List Value} {n n' : Nat} {f : Obj → Obj} (I : Inv X pins σ H s) (h : H p = some (.lst xs))
    (ho : s.heap.get? p = some { cls := .type "list", data := .seq its.toArray n }) (hf : f { cls := .type "list", data := .seq its.toArray n } = { cls := .type "list", data := .seq its'.toArray n' }) (r : Vals ys its') (hz : ys.length ≤ sizeLine) (t : Nat) :
    Inv X pins σ (upd H p (.lst ys)) { s with heap := s.heap.update p f, toks := t } := by
  have e : (s.heap.update p f).get? p = some { cls := .type "list", data := .seq its'.toArray n' } := by
    rw [Heap.get?_update_self f ho (by rw [hf] <;> rfl), hf]
  refine I.write (x := p) (e := p) (by rw [h]; trivial) (.inl rfl) (fun b u hb q => (Heap.get?_update_other _ _ (Ne.symm hb)).trans q) ⟨_, e⟩ ?_
  exact ⟨hz, its', n', r, e⟩
noncomputable def rSetL : V → V → V → Hp → (Hp → Prop) → Prop := fun o i v H Q => ∃ p xs k j, o = .ref p ∧ i = .int k ∧ H p = some (.lst xs) ∧ ixN xs.length k = some j ∧ Q (upd H p (.lst (xs.set j v)))
theorem set_list : PSet X rSetL := by
  intro pins s σ H o i v ov iv u Q I ro ri rv h
  obtain ⟨p, xs, k, j, rfl, rfl, hp, hj, q⟩ := h
  cases ro
  obtain ⟨t, rfl⟩ := ri
  obtain ⟨its, n, r, ho, hz⟩ := I.lst hp
  obtain ⟨h1, h2, h3, h4⟩ := ixN_seq hj
  have hl := r.length
  have hn := line63
  have I' : Inv X pins σ (upd H p (.lst (xs.set j v))) { s with heap := s.heap.update p (Obj.mapSeq (·.setIfInBounds j u)) } :=
    I.lstUpd hp ho (mapSeq_set its n j u) (r.set rv j) (by rw [List.length_set]; exact hz) s.toks
  by_cases h0 : 0 ≤ k
  · have hk : k.toNat = j := by
      rw [seqIndex_of h0 h4] at h1
      exact Option.some.inj h1
    exact PySem.W.ki_setAt ho h0 (by omega) (by rw [List.size_toArray, ← hl]; exact h4) (by rw [hk]; exact ⟨_, I', q⟩)
  · have hk : (k + (its.toArray.size : Int)).toNat = j := by
      rw [seqIndex_neg (by omega) h3] at h1
      rw [List.size_toArray, ← hl]
      exact Option.some.inj h1
    exact PySem.W.ki_setBack ho (by omega) (by rw [List.size_toArray, ← hl]; exact h3) (by omega) (by rw [hk]; exact ⟨_, I', q⟩)

theorem slice_bounds (lo hi : Option Int) (n : Nat) : (sliceBounds lo hi none n).1 = ((HT.sIx n 0 lo : Nat) : Int) ∧ (sliceBounds lo hi none n).2.1 = ((HT.sIx n n hi : Nat) : Int) ∧ (sliceBounds lo hi none n).2.2 = 1 := by
  refine ⟨?_, ?_, rfl⟩
  · cases lo with
    | none => simp [sliceBounds, HT.sIx]
    | some i =>
      simp only [sliceBounds, HT.sIx, Option.getD_none, show (1 : Int) > 0 by decide, if_true]
      by_cases h : i < 0
      · simp only [h, if_true] <;> omega
      · simp only [h, if_false] <;> omega
  · cases hi with
    | none => simp [sliceBounds, HT.sIx]
    | some i =>
      simp only [sliceBounds, HT.sIx, Option.getD_none, show (1 : Int) > 0 by decide, if_true]
      by_cases h : i < 0
      · simp only [h, if_true] <;> omega
      · simp only [h, if_false] <;> omega
theorem slicePick_cut (its : List Value) (lo hi : Option Int) : slicePick its.toArray lo hi none = ((its.drop (HT.sIx its.length 0 lo)).take (HT.sIx its.length its.length hi - HT.sIx its.length 0 lo)).toArray := by
  obtain ⟨h1, h2, h3⟩ := slice_bounds lo hi its.toArray.size
  unfold slicePick
  rw [h1, h2, h3]
  simp only [sliceRange_one, pick_run, List.size_toArray] <;> rfl
noncomputable def rSlL (K : PySem.W.Frag) : V → Option Int → Option Int → Hp → VK → Prop := fun x lo hi H Q => ∃ a xs, x = .ref a ∧ SqL K H a xs ∧ ∀ p, H p = none → Q (.ref p) (upd H p (.lst (cutV xs lo hi)))
theorem sl_list : SlR X (rSlL X.K) := by
  intro pins s σ H x v vl vu lo hi sl Q I rx hs pl pu h
  obtain ⟨a, xs, rfl, hx, q⟩ := h
  cases rx
  obtain ⟨its, r, ht, hz⟩ := I.list hx
  have hlen := r.length
  refine ⟨"list", _, slot_list_getitem.lookup, ht.isList.typeIs, ?_⟩
  refine wpAny_getItem_list_slice ht.isList hs pl pu .none (by simp) ?_ (by rw [List.size_toArray] <;> omega)
  rw [slicePick_cut, ← hlen]
  refine ⟨.ref s.heap.objs.size, _, I.laid (t' := s.toks) (o := .lst (cutV xs lo hi)) (fun b ob q => Heap.get?_push_of_some _ q) (Nat.le_refl _) ?_, rfl, q _ (I.hok.fresh (Nat.le_refl _))⟩
  exact ⟨Nat.le_trans (cutV_length xs lo hi) hz, _, 0, (r.drop (HT.sIx xs.length 0 lo)).take (HT.sIx xs.length xs.length hi - HT.sIx xs.length 0 lo), Heap.get?_push_size _ rfl⟩

theorem call_len_seq : CallR X (.builtin "len") (fun xs H Q => ∃ p ys, xs = [.ref p] ∧ (SqL X.K H p ys ∨ SqT X.K H p ys) ∧ Q (.int ys.length) H) := by
  intro pins s σ H xs us Q I r h
  obtain ⟨p, ys, rfl, hq, q⟩ := h
  obtain ⟨u, rfl, rx⟩ := vals1 r
  cases rx
  have hn := line63
  rcases hq with hq | hq
  · obtain ⟨its, r', pl, hz⟩ := I.list hq
    have hlen := r'.length
    exact Calls.call_len_list pl.isList (by simp only [List.size_toArray] <;> omega) ⟨.int ys.length, H, I.tok _, ⟨s.toks + 1, by rw [List.size_toArray, hlen]⟩, q⟩
  · obtain ⟨its, r', pl, hz⟩ := I.tuple hq
    have hlen := r'.length
    exact len_tuple pl (by simp only [List.size_toArray] <;> omega) ⟨.int ys.length, H, I.tok _, ⟨s.toks + 1, by rw [List.size_toArray, hlen]⟩, q⟩
theorem call_list_of : CallR X (.type "list") (fun xs H Q => ∃ p ys, xs = [.ref p] ∧ (SqL X.K H p ys ∨ SqT X.K H p ys) ∧ ∀ l, H l = none → Q (.ref l) (upd H l (.lst ys))) := by
  intro pins s σ H xs us Q I r h
  obtain ⟨p, ys, rfl, hq, q⟩ := h
  obtain ⟨u, rfl, rx⟩ := vals1 r
  cases rx
  have fin : ∀ (its : List Value), Vals ys its → ys.length ≤ sizeLine → ∀ (h' : Heap) (c' : Nat), (∀ b o', s.heap.get? b = some o' → h'.get? b = some o') →
      h'.get? s.heap.objs.size = some { cls := .type "list", dict := none, data := .seq its.toArray c', slots := #[] } → EP X pins σ Q (.ref s.heap.objs.size) { s with heap := h' } := fun its r' hz h' c' kp e =>
    ⟨.ref s.heap.objs.size, _, I.laid (t' := s.toks) kp (Nat.le_refl _) (show ObjOk X.prog X.w _ h' _ (.lst ys) from ⟨hz, its, c', r', e⟩), rfl, q _ (I.hok.fresh (Nat.le_refl _))⟩
  rcases hq with hq | hq
  · obtain ⟨its, r', pl, hz⟩ := I.list hq
    have hlen := r'.length
    obtain ⟨o, ho, hc, n, hd⟩ := pl.isList
    exact call_list_seq p (.inl rfl) ho hc hd (fun h' c' kp e => fin its r' hz h' c' kp e) (by simp only [List.size_toArray] <;> omega)
  · obtain ⟨its, r', pl, hz⟩ := I.tuple hq
    have hlen := r'.length
    obtain ⟨o, ho, hc, n, hd⟩ := pl
    exact call_list_seq p (.inr rfl) ho hc hd (fun h' c' kp e => fin its r' hz h' c' kp e) (by simp only [List.size_toArray] <;> omega)
noncomputable def tyV (K : PySem.W.Frag) (T : String) (x : V) (H : Hp) : Prop := match x with
  | .str _ => T = "str"
  | .int _ => T = "int"
  | .ref p => (T = "list" ∧ ∃ xs, SqL K H p xs) ∨ (T = "tuple" ∧ ∃ o, K.lookup p = some o ∧ o.cls = .type "tuple" ∧ o.dict = none) ∨
      (T = "dict" ∧ ((∃ kvs, H p = some (.dK kvs)) ∨ ∃ kvs, H p = some (.dT kvs))) ∨ (T = "set" ∧ ∃ S n, H p = some (.set S n))
  | _ => False
theorem tyV_is {pins : List (Addr × Obj)} {σ : St} {H : Hp} {s : Shared} {T : String} {x : V} {v : Value} (I : Inv X pins σ H s) (r : RelV x v) (ty : tyV X.K T x H) :
    s.TypeIs v T ∧ ∀ a, v = .ref a → ∃ ob, s.heap.get? a = some ob ∧ ob.dict = none := by
  cases x with
  | str z =>
    obtain ⟨t, rfl⟩ := r
    cases (show T = "str" from ty)
    exact ⟨typeIs_str s z t, fun _ e => nomatch e⟩
  | int i =>
    obtain ⟨t, rfl⟩ := r
    cases (show T = "int" from ty)
    exact ⟨typeIs_int s i t, fun _ e => nomatch e⟩
  | ref p =>
    cases r
    rcases ty with ⟨rfl, xs, hq⟩ | ⟨rfl, o, hk, hc, hd⟩ | ⟨rfl, hk⟩ | ⟨rfl, S, n, hk⟩
    · obtain ⟨its, _, pl, _⟩ := I.list hq
      refine ⟨pl.isList.typeIs, fun a e => ?_⟩
      cases e
      obtain ⟨o, n, e, c, hd, _⟩ := pl
      exact ⟨o, e, hd⟩
    · refine ⟨⟨o, I.kIn p o hk, hc⟩, fun a e => ?_⟩
      cases e
      exact ⟨o, I.kIn _ o hk, hd⟩
    · have z : ∃ o, s.heap.get? p = some o ∧ o.ExactDict := by
        rcases hk with ⟨kvs, hk⟩ | ⟨kvs, hk⟩
        · obtain ⟨_, _, _, _, o, _, _, e, ex, _⟩ := I.hok p _ hk
          exact ⟨o, e, ex⟩
        · obtain ⟨_, _, _, _, o, _, _, e, ex, _⟩ := I.hok p _ hk
          exact ⟨o, e, ex⟩
      obtain ⟨o, e, ex⟩ := z
      refine ⟨⟨o, e, ex.1⟩, fun a e2 => ?_⟩
      cases e2
      exact ⟨o, e, ex.2.1⟩
    · obtain ⟨o, _, _, _, e, ex, _⟩ := I.hok p _ hk
      refine ⟨⟨o, e, ex.1⟩, fun a e2 => ?_⟩
      cases e2
      exact ⟨o, e, ex.2.1⟩
  | _ => exact False.elim ty
noncomputable def tBM (K : PySem.W.Frag) (T : String) (r : V → List V → Hp → VK → Prop) (to : TE) (t : TA) : TE := fun σ H Q => to σ H fun x H1 => tyV K T x H1 ∧ t σ H1 fun xs H2 => r x xs H2 Q
variable {o e : Expr} {es : List Expr} {to : TE} {t : TA} {name : Str} {apos cpos : Pos} {T id : String} {r : V → List V → Hp → VK → Prop}
theorem pe_bm (pa : PlainAttrs T) (slot : Slot T name id) (hty : typeOf (.builtin id) = pure (.type "method_descriptor")) (hm : MtR X id r) (ho : PE X o to) (ha : PA X (e :: es) t)
    (hbase : attributeBase o name X.env (eval o X.env) = eval o X.env := by rfl)
    (hfew : ((backTo cpos (starEach (e :: es) X.env)).all (fun x => !x.1) && (backToKw cpos (keywordEach [] X.env)).all (fun x => x.1.isSome)
      && decide ((e :: es).length + ([] : List Keyword).length + (if ([] : List Keyword).isEmpty then 0 else 1) < 30)) = true := by rfl)
    (hline : (apos.endLine == cpos.line) = true := by rfl) (hs : starEach (e :: es) X.env = (false, eval e X.env) :: starEach es X.env := by rfl) (hplain : (backTo cpos (starEach es X.env)).any (·.1) = false := by rfl) :
    PE X (.Call (.Attribute o name apos) (e :: es) [] cpos) (tBM X.K T r to t) := by
  intro pins s σ H Q I h
  refine wpAny_Call_method_late hbase hfew hline rfl (thn (ho pins s σ H _ I h) fun v s1 ⟨x, H1, I1, r1, ty, q1⟩ => ?_)
  obtain ⟨h1, h2⟩ := tyV_is I1 r1 ty
  refine ⟨T, id, pa, slot, hty, h1, h2, ?_⟩
  have hA := ha cpos pins s1 σ H1 _ I1 q1
  rw [hs] at hA ⊢
  refine Calls.callWith_builtin (by show (false || (backTo cpos (starEach es X.env)).any (·.1)) = false; rw [hplain] <;> rfl) (Calls.evalArgs_plain ?_)
  exact thn hA fun us s2 ⟨vs, H2, I2, r2, q2⟩ => hm pins s2 σ H2 x vs v us Q I2 r1 r2 q2
end
end L2

namespace L2
open PySem PySem.Spec PyProof.Rows

noncomputable def MtM (X : Cx) (id : String) (r : V → List V → Hp → VK → Prop) : Prop :=
  ∀ (pins : List (Addr × Obj)) (s : Shared) (σ : St) (H : Hp) (x : V) (xs : List V) (v : Value) (us : List Value) (Q : VK), Inv X pins σ H s → RelV x v → Vals xs us → r x xs H Q →
    wpAny (model X.prog X.w) X.A (call (.builtin id) (v :: us)) (EP X pins σ Q) X.xe s

theorem Vals.one : ∀ {x : V} {us : List Value}, Vals [x] us → ∃ u, us = [u] ∧ RelV x u
  | _, _, .cons r .nil => ⟨_, rfl, r⟩
section
variable {X : Cx} {pins : List (Addr × Obj)} {σ : St} {H : Hp} {s : Shared} {l b : Addr} {xs ys zs : List V}

theorem Inv.lset {its its' : List Value} {n : Nat} {f : Array Value → Array Value} {t' : Nat} (I : Inv X pins σ H s) (hH : H l = some (.lst xs))
    (e : s.heap.get? l = some { cls := .type "list", data := .seq its.toArray n }) (hf : f its.toArray = its'.toArray) (hv : Vals ys its') (hz : ys.length ≤ sizeLine) :
    Inv X pins σ (upd H l (.lst ys)) { s with heap := s.heap.update l (Obj.mapSeq f), toks := t' } := by
  have q := PySem.IsL.update e f
  rw [hf] at q
  refine I.write (x := l) (e := l) (by rw [hH]; exact trivial) (.inl rfl) (fun b' u hb hu => (Heap.get?_update_other s.heap (Obj.mapSeq f) (Ne.symm hb)).trans hu) ⟨_, q⟩ ?_
  exact ⟨hz, its', _, hv, q⟩
theorem Inv.lnew {its : List Value} {t' : Nat} (I : Inv X pins σ H s) (hv : Vals ys its) (hz : ys.length ≤ sizeLine) :
    Inv X pins σ (upd H s.heap.objs.size (.lst ys)) { s with heap := s.heap.push { cls := .type "list", data := .seq its.toArray }, toks := t' } :=
  I.laid (fun _ _ q => Heap.get?_push_of_some _ q) (Nat.le_refl _) ⟨hz, its, 0, hv, Heap.get?_push_size _ rfl⟩
theorem Inv.fresh (I : Inv X pins σ H s) : H s.heap.objs.size = none := I.hok.fresh (Nat.le_refl _)
theorem Inv.lstM (I : Inv X pins σ H s) (hH : H l = some (.lst xs)) : xs.length ≤ sizeLine ∧ ∃ (its : List Value) (n : Nat), Vals xs its ∧ xs.length = its.length ∧ s.heap.get? l = some { cls := .type "list", data := .seq its.toArray n } := by
  obtain ⟨z, its, n, r, e⟩ := I.hok l _ hH
  exact ⟨z, its, n, r, r.length, e⟩

theorem notLongL {n : Nat} (h : n ≤ sizeLine) : Builtin.List.listTooLong n = false := by
  unfold Builtin.List.listTooLong
  exact decide_eq_false (by omega)
end

section
variable {X : Cx}

noncomputable def rAppend : V → List V → Hp → VK → Prop := fun x vs H Q => ∃ l xs y, x = .ref l ∧ vs = [y] ∧ H l = some (.lst xs) ∧ xs.length < sizeLine ∧ Q .non (upd H l (.lst (xs ++ [y])))
theorem mt_append : MtM X "list.append" rAppend := by
  intro pins s σ H x vs v us Q I rx rv h
  obtain ⟨l, xs, y, rfl, rfl, hH, hz, q⟩ := h
  cases rx
  obtain ⟨u, rfl, ru⟩ := rv.one
  obtain ⟨z, its, n, r, hl, e⟩ := I.lstM hH
  refine call_meets F.slot_list_append ⟨_, e, rfl⟩ F.entry_list_append (F.args_list_append_2 _ _) (PySem.list_append l its.toArray n u (by rw [List.size_toArray]; omega)) ⟨e, ?_⟩
  refine ⟨.non, _, I.lset (its' := its ++ [u]) hH e (by simp) (r.append (.cons ru .nil)) ?_, rfl, q⟩
  rw [List.length_append, List.length_singleton]
  omega

noncomputable def rExtend : V → List V → Hp → VK → Prop := fun x vs H Q => ∃ l b xs zs, x = .ref l ∧ vs = [.ref b] ∧ H l = some (.lst xs) ∧ H b = some (.lst zs) ∧ xs.length + zs.length ≤ sizeLine ∧ Q .non (upd H l (.lst (xs ++ zs)))
theorem mt_extend : MtM X "list.extend" rExtend := by
  intro pins s σ H x vs v us Q I rx rv h
  obtain ⟨l, b, xs, zs, rfl, rfl, hH, hB, hz, q⟩ := h
  cases rx
  obtain ⟨u, rfl, ru⟩ := rv.one
  cases ru
  obtain ⟨z, its, n, r, hl, e⟩ := I.lstM hH
  obtain ⟨z2, its2, n2, r2, hl2, e2⟩ := I.lstM hB
  have hsz : its.toArray.size + its2.toArray.size ≤ sizeLine := by rw [List.size_toArray, List.size_toArray]; omega
  have hlong : ¬ (!its.toArray.isEmpty && Builtin.List.listTooLong (its.toArray.size + its2.toArray.size)) = true := by
    rw [notLongL hsz, Bool.and_false]
    exact Bool.false_ne_true
  refine call_meets F.slot_list_extend ⟨_, e, rfl⟩ F.entry_list_extend (F.args_list_extend_2 _ _)
    (AutoSeq1.list_extend_list_list_0 l its.toArray n b its2.toArray n2 hlong (by rw [List.size_toArray]; omega) (by omega)) ⟨e, e2, ?_⟩
  refine ⟨.non, _, I.lset (its' := its ++ its2) hH e (by simp) (r.append r2) ?_, rfl, q⟩
  rw [List.length_append]
  omega

noncomputable def rCat : R2 := fun x y H Q => ∃ l b xs zs, x = .ref l ∧ y = .ref b ∧ H l = some (.lst xs) ∧ H b = some (.lst zs) ∧ xs.length + zs.length ≤ sizeLine ∧ ∀ p, H p = none → Q (.ref p) (upd H p (.lst (xs ++ zs)))
theorem op_cat : OpR X (binaryOp .Add) rCat := by
  intro pins s σ H x y v u Q I rx ry h
  obtain ⟨l, b, xs, zs, rfl, rfl, hH, hB, hz, q⟩ := h
  cases rx
  cases ry
  obtain ⟨z, its, n, r, hl, e⟩ := I.lstM hH
  obtain ⟨z2, its2, n2, r2, hl2, e2⟩ := I.lstM hB
  refine PySem.P.add_list e e2 ?_ (by rw [List.size_toArray, List.size_toArray]; omega)
  have ea : its.toArray ++ its2.toArray = (its ++ its2).toArray := by simp
  rw [ea]
  exact ⟨.ref _, _, I.lnew (t' := s.toks) (r.append r2) (by rw [List.length_append]; omega), rfl, q _ I.fresh⟩
end

section
variable {prog : Program} {w : World} {A : Around} {E : Value → Shared → Prop} {s : Shared}
end

section
variable {X : Cx}
end
end L2

namespace Att
open PySem PySem.W PySem.Calls PyProof.Rows

theorem ints_of_wellAll {P : Params} {h : Heap} : ∀ (ns : List Int) (vs : List Value), WellAll P h vs (ns.map WData.int) → IntsAre vs ns := by
  intro ns
  induction ns with
  | nil =>
    intro vs w
    rw [List.map_nil] at w
    cases w
    exact .nil
  | cons n ns ih =>
    intro vs w
    rw [List.map_cons] at w
    cases w with
    | cons a b =>
      cases a
      exact .cons _ _ (ih _ b)

theorem script_of {l : OpenLaw} {n : Nat} (hn : l.most = some n) {P : Params} {h : Heap} {args : List WData} {vals : List Value}
    (hpre : l.row.toRowW.claim.pre args = true) (hwl : WellAll P h vals args) :
    ∃ a vs ns, vals = [Value.ref a] ∧ args = [WData.list (ns.map WData.int)] ∧ h.get? a = some { cls := .type "list", data := .seq vs.toArray } ∧ IntsAre vs ns ∧ ns.length ≤ n := by
  have hsh : WShape.hasAll [] args [.list .int] = true := (pre_splitW hpre).1
  have hc : l.pre.holds [] { args := args } = true := (pre_splitW hpre).2
  obtain ⟨d, r, rfl, h1, h2⟩ := hasAllW_cons hsh
  obtain rfl := hasAllW_nil h2
  obtain ⟨xs, rfl, h3⟩ := hasW_list h1
  obtain ⟨ns, rfl⟩ := items_int h3
  have hlen : ns.length ≤ n := by
    unfold OpenLaw.pre at hc
    have h4 : (WTm.not (.lt (.lit (.int (n : Int))) (.len (.arg 0)))).holds [] { args := [.list (ns.map .int)] } = true := by
      have h4 := (holds_andW hc).1
      rw [hn] at h4
      exact h4
    have h5 := condW_of h4 (w_not (w_lt w_lit (w_len_list (w_arg rfl))))
    rw [List.length_map] at h5
    refine Nat.le_of_not_lt fun q => ?_
    have q' : (n : Int) < ((ns.length : Nat) : Int) := by omega
    first
      | (rw [decide_eq_true q'] at h5; exact absurd h5 (by decide))
      | (simp at h5; omega)
  cases hwl with
  | cons w1 w2 =>
    cases w2
    cases w1 with
    | list ho hall => exact ⟨_, _, ns, rfl, rfl, ho, ints_of_wellAll ns _ hall, hlen⟩

theorem post_true (l : OpenLaw) (args : List WData) : l.row.toRowW.claim.post args (.bool true) args = true :=
  postW_of (r := l.row.toRowW) (X := (true == true))
    (show WShape.has [] (.bool true) .bool = true by first | rfl | decide | simp [WShape.has, WShape.arms, WShape.armsAll])
    (show (WTm.eq .res (.lit (.bool true))).value [] { args := args, res := some (.bool true), after := args } = some (.bool (true == true)) from w_eq_bool (w_res rfl) w_lit) rfl

theorem attach_call {l : OpenLaw} {n : Nat} {q : Program} {loose : List Str} {XP : (Str → Option Value) → Heap → Prop} {YP : World → Heap → Prop} {d : DefRec}
    (hn : l.most = some n) (hdf : d.params.defaults = [])
    (call : ∀ (w : World) (s₀ s₁ : Shared) (mg mb : Str → Option Value) (fa : Addr) (o : Obj) (pm cd doc : Value) (a : Addr) (vs : List Value) (ns : List Int),
      Ground q loose [] XP w s₀ mg mb s₁.heap → YP w s₁.heap →
      s₁.heap.get? fa = some o → o.data = .func (docDef d.name d.params d.body d.scope pm cd doc) → s₁.heap.CodeRec cd d.name → mg d.name = some (.ref fa) →
      s₁.heap.get? a = some { cls := .type "list", data := .seq vs.toArray } → IntsAre vs ns → ns.length ≤ n → s₁.gens = #[] →
      codeAny (model l.prog w) callerA (.call (.ref fa) ⟨[.ref a], []⟩) (fun r s' => r = .ok (.ret (.bool true)) ∧ OldK s₁.heap s'.heap ∧ s'.os = s₁.os ∧ AllBare s'.gens) s₁) :
    WalkO q loose XP YP l.row.toRowW d [] (fun f vs => PySem.call f vs) := by
  intro w s₀ s₁ mg mb G Y fa o pm cd doc dV kV ho hd hcd hD hmg hg args vals as hpre hlay hrd hwl hlo
  obtain rfl : dV = .none := Dflts.none hD hdf
  obtain rfl : kV = .none := Dflts.noKw hD
  obtain ⟨a, vs, ns, rfl, rfl, hobj, hints, hlen⟩ := script_of hn hpre hwl
  refine enter_call (codeAny_mono (call w s₀ s₁ mg mb fa o pm cd doc a vs ns G Y ho (fd_plain hd) hcd hmg hobj hints hlen hg) fun r s' hq => ?_)
  obtain ⟨rfl, h2, h3, h4⟩ := hq
  exact ⟨.inl ⟨.bool true, .bool true, [], rfl, fun _ => rfl, .bool true, post_true l _, fun _ => ⟨List.Pairwise.nil, fun _ hm => (nomatch hm)⟩⟩, h2, h3, h4⟩

section
variable {prog : Program} {w : World} {A : Around} {E : Value → Shared → Prop} {s : Shared} {K : Frag}

end
end Att

namespace L2
open PySem PySem.Spec PyProof.Rows

theorem vals_ints : ∀ {vs : List Value} {ns : List Int}, IntsAre vs ns → Vals (ns.map V.int) vs
  | _, _, .nil => .nil
  | _, _, .cons n t h => .cons ⟨t, rfl⟩ (vals_ints h)

noncomputable def Only (H : Hp) : Prop := ∀ b, H b = none ∨ ∃ o xs, H b = some (.frz o (.lst xs))

theorem law_call {P : Program} {w : World} {K : PySem.W.Frag} {mg mb : Str → Option Value} {CX : CXT} {k : Nat} {fa a : Addr} {fd : FuncData} {x : Str} {sp : Sp} {s₁ : Shared} {vs : List Value} {ns : List Int}
    (KX : K.In s₁.heap) (hns : s₁.heap.Ns mainGlobals mg) (hb : s₁.heap.Ns builtinsNs mb) (hbb : ∀ x : Str, x ≠ "__name__" → mb x = bootBuiltins x) (hlim : s₁.heap.NoLimit) (hg : s₁.gens = #[])
    (ha : s₁.heap.get? a = some { cls := .type "list", data := .seq vs.toArray }) (hi : IntsAre vs ns) (hl : ns.length ≤ sizeLine) (hr : Room k callerA)
    (F : ∀ base : Heap, K.In base → base.Ns mainGlobals mg → FnOk P w K mg base CX k fa fd [x] sp) (hbind : ∀ (s : Shared) (u : Value), BindsTo s fd ⟨[u], []⟩ [(x, u)])
    (hsp : ∀ H : Hp, Only H → SqL K H a (ns.map V.int) → sp [.ref a] H (fun v _ => v = .bl true) fun _ _ _ => False)
    (hCX : ∀ H e s', CX [] H s₁ (fun _ _ _ => False) e s' → False) :
    codeAny (model P w) callerA (.call (.ref fa) ⟨[.ref a], []⟩) (fun r s' => r = .ok (.ret (.bool true)) ∧ OldK s₁.heap s'.heap ∧ s'.os = s₁.os ∧ AllBare s'.gens) s₁ := by
  have rv := vals_ints hi
  have lenV := hi.length
  -- from an abstract heap in which nothing but the script may be tracked
  have core : ∀ H : Hp, Only H → SqL K H a (ns.map V.int) → HOk P w H s₁.heap → (∀ b, H b ≠ none → b = a) → (H a ≠ none → K.lookup a = none) →
      codeAny (model P w) callerA (.call (.ref fa) ⟨[.ref a], []⟩) (fun r s' => r = .ok (.ret (.bool true)) ∧ OldK s₁.heap s'.heap ∧ s'.os = s₁.os ∧ AllBare s'.gens) s₁ := by
    intro H hO hS hok hA hK
    have base_of : ∀ {b : Addr} {o : Obj}, s₁.heap.get? b = some o → H b = none → (hidT s₁.heap H).get? b = some o := fun e n => hidT_get e n
    have noA : ∀ {b : Addr} {o : Obj} {es : Array DictEntry} {ep : Nat}, s₁.heap.get? b = some o → o.data = .dict es ep → H b = none := fun {b o es ep} e d => by
      cases q : H b with
      | none => rfl
      | some u =>
        have e' : b = a := hA b (by rw [q]; simp)
        subst e'
        rw [ha] at e; cases e
        have d' : Data.seq vs.toArray _ = Data.dict es ep := d
        cases d'
    have nsK : ∀ {b : Addr} {m : Str → Option Value}, s₁.heap.Ns b m → (hidT s₁.heap H).Ns b m := fun {b m} ⟨o, es, ep, e, d, r⟩ => ⟨o, es, ep, base_of e (noA e d), d, r⟩
    have hKb : K.In (hidT s₁.heap H) := fun b o e => base_of (KX b o e) (by
      cases q : H b with
      | none => rfl
      | some u =>
        have e' : b = a := hA b (by rw [q]; simp)
        subst e'
        rw [hK (by rw [q]; simp)] at e; cases e)
    have hM : Mod K mg (hidT s₁.heap H) := ⟨hKb, nsK hns, ⟨mb, nsK hb, hbb⟩, let ⟨mc, h1, h2⟩ := hlim; ⟨mc, nsK h1, h2⟩⟩
    have e0 : Env0 P w K mg (hidT s₁.heap H) callerA [] s₁ H := ⟨rfl, hM, fun b o e => of_hidT e, Nat.le_of_eq (hidT_size _ _), trivial, fun b hb => absurd (show b ∈ ([] : List Addr) from hb) (by simp), hok, .of_eq hg, .inl rfl⟩
    refine codeAny_mono ((F _ hKb (nsK hns)).run callerA [] s₁ H ⟨[.ref a], []⟩ [.ref a] [.ref a] _ _ hr e0 (hbind s₁ (.ref a)) (.cons rfl .nil) (hsp H hO hS)) fun r s' h => ?_
    cases r with
    | error e => exact (hCX H e s' h).elim
    | ok fl =>
      cases fl with
      | next => exact False.elim h
      | brk => exact False.elim h
      | cont => exact False.elim h
      | ret u =>
        obtain ⟨v, H', os, bare, un, hok', r', q⟩ := h
        have q' : v = .bl true := q
        subst q'
        obtain rfl : u = Value.bool true := r'
        refine ⟨rfl, OldK.of_keep fun b o e => ?_, os, bare⟩
        cases q : H b with
        | none => exact un.keep b o e q (by intro z; exact absurd (show b ∈ ([] : List Addr) from z) (by simp)) (by simp)
        | some u =>
          rcases hO b with z | ⟨ob, xs, z⟩
          · rw [q] at z; cases z
          · have z2 := un.frzs b ob _ z
            obtain ⟨e1, _⟩ := hok b _ z
            obtain ⟨e2, _⟩ := hok' b _ z2
            rw [e] at e1; cases e1
            exact e2
  cases hk : K.lookup a with
  | some o =>
    -- the script is one of the module's own objects
    have e := KX a o hk
    rw [ha] at e
    cases e
    refine core (fun _ => none) (fun _ => .inl rfl) (.inr ⟨_, vs.toArray, _, hk, rfl, rfl, rfl, by rw [List.size_toArray, lenV]; exact hl, by simpa using rv⟩) (fun b u z => by have z' : (none : Option HO) = some u := z; cases z') (fun b z => absurd rfl z) fun z => absurd rfl z
  | none =>
    refine core (fun b => if b = a then some (.frz { cls := .type "list", data := .seq vs.toArray } (.lst (ns.map V.int))) else none) (fun b => ?_) (.inl (.inr ⟨{ cls := .type "list", data := .seq vs.toArray }, if_pos rfl⟩)) (fun b u z => ?_) (fun b z => ?_) fun _ => hk
    · by_cases hb : b = a
      · exact .inr ⟨_, _, if_pos hb⟩
      · exact .inl (if_neg hb)
    · by_cases hb : b = a
      · have z' := (if_pos hb).symm.trans z
        cases z'
        subst hb
        exact ⟨ha, by rw [List.length_map]; exact hl, vs, _, rv, ha⟩
      · have z' := (if_neg hb).symm.trans z
        cases z'
    · by_cases hb : b = a
      · exact hb
      · exact absurd (if_neg hb) z
end L2

namespace L2
open PySem PySem.Spec PyProof.Rows

theorem walk_of {l : PySem.W.OpenLaw} {n k : Nat} {q : Program} {loose : List Str} {XP : (Str → Option Value) → Heap → Prop} {YP : World → Heap → Prop} {d : DefRec} {K : Params → PySem.W.Frag} {CX : World → CXT} {sp : World → Sp} {x : Str}
    (hn : l.most = some n) (hn2 : n ≤ sizeLine) (hdf : d.params.defaults = []) (hr : Room k callerA)
    (hY : ∀ (w : World) (h : Heap), YP w h → (K w.params).In h)
    (F : ∀ (w : World) (mg : Str → Option Value) (fa : Addr) (h : Heap), (K w.params).In h → h.Ns mainGlobals mg → mg d.name = some (.ref fa) →
      ∃ fd : FuncData, (∀ (s : Shared) (u : Value), BindsTo s fd ⟨[u], []⟩ [(x, u)]) ∧
        ∀ base : Heap, (K w.params).In base → base.Ns mainGlobals mg → FnOk l.prog w (K w.params) mg base (CX w) k fa fd [x] (sp w))
    (hsp : ∀ (w : World) (H : Hp) (a : Addr) (ns : List Int), ns.length ≤ n → Only H → SqL (K w.params) H a (ns.map V.int) → sp w [.ref a] H (fun v _ => v = .bl true) fun _ _ _ => False)
    (hCX : ∀ (w : World) (H : Hp) (s : Shared) (e : Value) (s' : Shared), CX w [] H s (fun _ _ _ => False) e s' → False) :
    PySem.W.WalkO q loose XP YP l.row.toRowW d [] (fun f vs => PySem.call f vs) := by
  refine Att.attach_call hn hdf fun w s₀ s₁ mg mb fa o pm cd doc a vs ns G Y ho hd hcd hmg hobj hints hlen hg => ?_
  have KX := hY w _ Y
  obtain ⟨fd, hb, hF⟩ := F w mg fa _ KX G.T.g hmg
  exact law_call KX G.T.g G.T.b G.T.builtins G.T.nolimit hg hobj hints (Nat.le_trans hlen hn2) hr hF hb (fun H hO hS => hsp w H a ns hlen hO hS) fun H e s' => hCX w H s₁ e s'
end L2

namespace L2
open PySem PySem.Spec PyProof.Rows

noncomputable def defArgs (s : Stmt) : Arguments := match s with
  | .FunctionDef _ a _ _ _ _ _ _ _ _ => a
  | _ => { posonlyargs := [], args := [], vararg := none, kwonlyargs := [], kw_defaults := [], kwarg := none, defaults := [] }
noncomputable def defBody (s : Stmt) : List Stmt := match s with
  | .FunctionDef _ _ b _ _ _ _ _ _ _ => b
  | _ => []
noncomputable def defScope (s : Stmt) : Scope := match s with
  | .FunctionDef _ _ _ _ _ _ sc _ _ _ => sc
  | _ => { kind := .function, names := [], isGenerator := false, isCoroutine := false }

noncomputable abbrev E0 : XK := fun _ _ _ => False
structure Fun (K : PySem.W.Frag) (x qual : Str) (st : Stmt) (f : Addr) (fd : FuncData) : Prop where
  ex : ∃ (oc : Value) (od : Option Addr) (kV doc pm : Value) (an : Option Addr) (cdv ct : Value) (osl : Array (Option Value)),
    fd = PySem.W.fnOf x qual (defArgs st) (defBody st) (defScope st) .none kV doc pm an cdv ct ∧ K.lookup f = some ⟨oc, od, .func fd, osl⟩ ∧ PySem.W.codeIn K cdv qual = true
  kp : PySem.W.keepIn K (.ref f) = true
section
variable {P : Program} {w : World} {K : PySem.W.Frag} {mg : Str → Option Value} {base : Heap}
theorem Fun.binds {x qual : Str} {st : Stmt} {f : Addr} {fd : FuncData} {ps : List Str} (F : Fun K x qual st f fd)
    (h : ∀ (kV doc pm : Value) (an : Option Addr) (cdv ct : Value) (us : List Value), us.length = ps.length → bindArgs (PySem.W.fnOf x qual (defArgs st) (defBody st) (defScope st) .none kV doc pm an cdv ct) ⟨us, []⟩ = pure (ps.zip us)) : Binds K fd ps [] := by
  obtain ⟨oc, od, kV, doc, pm, an, cdv, ct, osl, rfl, lk, hcd⟩ := F.ex
  exact .all (h kV doc pm an cdv ct)
theorem fun_mk {x qual : Str} {st : Stmt} {f : Addr} {oc : Value} {od an : Option Addr} {osl : Array (Option Value)} {kV doc pm cdv ct : Value} (l : K.lookup f = some ⟨oc, od, .func (PySem.W.fnOf x qual (defArgs st) (defBody st) (defScope st) .none kV doc pm an cdv ct), osl⟩)
    (c : PySem.W.codeIn K cdv qual = true) (k : PySem.W.keepIn K (.ref f) = true) : Fun K x qual st f (PySem.W.fnOf x qual (defArgs st) (defBody st) (defScope st) .none kV doc pm an cdv ct) := ⟨⟨oc, od, kV, doc, pm, an, cdv, ct, osl, rfl, l, c⟩, k⟩
end
theorem small1000 {n : Nat} (h : n ≤ 1000) : n < sizeLine := Nat.lt_of_le_of_lt h (by decide)

section
variable {X : Cx}
end

theorem iteF {A B : Prop} (h : B) : if false = true then A else B := by
  rw [if_neg Bool.false_ne_true]
  exact h
theorem iteT {A B : Prop} (h : A) : if true = true then A else B := by
  rw [if_pos rfl]
  exact h
noncomputable def Same (H H' : Hp) : Prop := ∀ b o, H b = some o → H' b = some o
theorem Same.free {H H' : Hp} (e : Same H H') {l : Addr} (h : H' l = Option.none) : H l = Option.none := by
  cases q : H l with
  | none => rfl
  | some o =>
    rw [e l o q] at h
    cases h
end L2


end
section
set_option Elab.async false
set_option linter.all false
set_option maxRecDepth 100000
namespace DQ
open PySem PySem.Spec PyProof.Rows
structure Fly (B : Heap) (l : List Env) (e : Addr) (cls : Value) (dct : Option Addr) (fl : Value) (h : Heap) : Prop where
  stay : B.StaysIn h
  new : B.get? e = none
  frames : h.FunFrames B l
  obj : ∃ oe vs T oT ts, h.get? e = some oe ∧ oe.cls = cls ∧ oe.dict = dct ∧ oe.data = .fields vs ∧ vs[2]? = some .none ∧ vs[1]? = some (.ref T) ∧ B.get? T = none ∧ T ≠ e ∧ h.get? T = some oT ∧ oT.data = .fields ts ∧ ts[3]? = some fl
theorem Fly.tail {B : Heap} {env : Env} {l : List Env} {e : Addr} {cls : Value} {dct : Option Addr} {fl : Value} {h : Heap} (f : Fly B (env :: l) e cls dct fl h) : Fly B l e cls dct fl h := ⟨f.stay, f.new, f.frames.2.2, f.obj⟩
section
variable {M : Model} {A : Around} {E : Value → Shared → Prop} {s : Shared} {B : Heap} {env : Env} {outer l : List Env} {L e : Addr} {cls : Value} {dct : Option Addr} {fl : Value}
theorem apart {h : Heap} {oe : Obj} {vs : Array Value} (hl : h.FunFrames B l) (he : h.get? e = some oe) (hd : oe.data = .fields vs) : e ∉ l.filterMap (·.frame) := fun z => by
  obtain ⟨_, o, h1, h2⟩ := hl.mem z
  rw [he] at h1
  cases h1
  exact h2 vs hd
theorem entry_new {oe : Obj} {vs : Array Value} {head : Value} {hn : Bool} {Q : Unit → Shared → Prop} (hfr : A.frames = some (env :: outer)) (hl : s.heap.FunFrames B (env :: outer)) (hf : env.frame = some L)
    (he : s.heap.get? e = some oe) (hs : B.StaysIn s.heap) (hb : B.get? e = none) (hd : oe.data = .fields vs) (hz : 2 < vs.size) (h2 : vs[2]? = some .none)
    (h : ∀ h', Fly B (env :: outer) e oe.cls oe.dict (rawInt L) h' → s.heap.UpToSlots h' → Q () { s with heap := h' }) :
    wpAny M A (frameOf env >>= fun a => entryPlaceOf L hn >>= fun pl => EntryCells.newEntry head a .none (rawInt L) .none pl >>= fun b => setField (.ref e) 1 b) Q E s := by
  have ne := apart hl he hd
  refine wpAny_bind (wpAny_frameOf_fun hfr hl hf fun h1 k1 => wpAny_bind (wpAny_entryPlaceOf fun pl hpl => wpAny_bind ?_))
  unfold EntryCells.newEntry newFields
  refine wpAny_newObj_type ?_ (hpl.sizeOk5 _ _ _ _ _)
  generalize hT : ([head, Value.ref L, Value.none, rawInt L, Value.none] ++ (if pl.isEmpty then List.replicate 6 Value.none else pl)).toArray = ts
  have h3 : ts[3]? = some (rawInt L) := by
    rw [← hT]
    rcases hpl with rfl | ⟨_, _, _, _, _, _, _, rfl⟩ <;> simp
  have e1 : h1.get? e = some oe := (k1.2.1 e ne).trans he
  have s1 : B.StaysIn h1 := fun b o hbo => (k1.2.1 b fun z => by rw [(hl.mem z).1] at hbo; cases hbo).trans (hs b o hbo)
  generalize hoT : ({ cls := .type "traceback", dict := none, data := .fields ts } : Obj) = oT
  have dT : oT.data = .fields ts := by rw [← hoT]
  have fT : oT.isFreed = false := Obj.isFreed_of_fields dT
  have e2 : (h1.push oT).get? e = some oe := Heap.get?_push_of_some _ e1
  have nT : h1.objs.size ≠ e := Nat.ne_of_gt (Heap.lt_size e1)
  refine wpAny_setField e2 hd (Nat.lt_trans (by decide) hz) (h _ ?_ ?_)
  · have d3 := Obj.data_mapFields hd (·.setIfInBounds 1 (Value.ref h1.objs.size))
    have e3 := Heap.get?_update_self (Obj.mapFields (·.setIfInBounds 1 (Value.ref h1.objs.size))) e2 (Obj.isFreed_of_fields d3)
    have keep : ∀ b o, b ≠ e → h1.get? b = some o → ((h1.push oT).update e (Obj.mapFields (·.setIfInBounds 1 (Value.ref h1.objs.size)))).get? b = some o := fun b o hbe x => by
      rw [Heap.get?_update_other _ _ (Ne.symm hbe)]
      exact Heap.get?_push_of_some _ x
    have gT : (h1.push oT).get? h1.objs.size = some oT := Heap.get?_push_size _ fT
    refine ⟨fun b o x => keep b o (fun z => by rw [z, hb] at x; cases x) (s1 b o x), hb, hl.of_keeps fun b o x y => ?_, _, _, h1.objs.size, oT, ts, e3, Obj.cls_mapFields _ _, ?_, d3, ?_, ?_, s1.fresh, nT, ?_, dT, h3⟩
    · obtain ⟨sl, z⟩ := k1.2.2 b o x
      exact ⟨_, keep b _ (fun w => y vs (by rw [w, he] at x; cases x; exact hd)) z, rfl⟩
    · obtain ⟨c, d, dd, sl⟩ := oe
      cases hd
      rfl
    · rw [Array.getElem?_setIfInBounds_ne (by decide)]
      exact h2
    · rw [Array.getElem?_setIfInBounds_self_of_lt (Nat.lt_trans (by decide) hz)]
    · rw [Heap.get?_update_other _ _ (Ne.symm nT)]
      exact gT
  · intro b o x y
    obtain ⟨sl, z⟩ := k1.2.2 b o x
    refine ⟨sl, ?_⟩
    rw [Heap.get?_update_other _ _ (fun w => y vs (by rw [← w, he] at x; cases x; exact hd))]
    exact Heap.get?_push_of_some _ z
theorem fly_land {Q : Unit → Shared → Prop} (f : Fly B l e cls dct fl s.heap) (h : ∀ h', Fly B l e cls dct .none h' → s.heap.UpToSlots h' → Q () { s with heap := h' }) : wpAny M A (setFlight (.ref e) none) Q E s := by
  obtain ⟨st, nw, fr, oe, vs, T, oT, ts, g1, g2, g3, g4, g5, g6, g7, g8, g9, g10, g11⟩ := f
  have hz : 3 < ts.size := (Array.getElem?_eq_some_iff.mp g11).1
  unfold setFlight
  refine wpAny_bind (wpAny_field g1 g4 g6 ?_)
  rw [if_pos (by simp)]
  have oth : ∀ b o, b ≠ T → s.heap.get? b = some o → (s.heap.update T (Obj.mapFields (·.setIfInBounds 3 Value.none))).get? b = some o := fun b o hb x => by
    rw [Heap.get?_update_other _ _ (Ne.symm hb)]
    exact x
  have nr : ∀ b o, s.heap.get? b = some o → (∀ vs, o.data ≠ .fields vs) → b ≠ T := fun b o x y z => by
    rw [z, g9] at x
    cases x
    exact y ts g10
  refine wpAny_setField g9 g10 hz (h _ ⟨fun b o x => oth b o (fun z => by rw [z, g7] at x; cases x) (st b o x), nw, fr.of_keeps fun b o x y => ⟨o, oth b o (nr b o x y) x, rfl⟩, ?_⟩ fun b o x y => ⟨o.slots, oth b o (nr b o x y) x⟩)
  exact ⟨oe, vs, T, _, _, oth e oe (Ne.symm g8) g1, g2, g3, g4, g5, g6, g7, g8, Heap.get?_update_self _ g9 (Obj.isFreed_of_fields (Obj.data_mapFields g10 _)), Obj.data_mapFields g10 _, by rw [Array.getElem?_setIfInBounds_self_of_lt hz]; rfl⟩
theorem fly_note {Q : Unit → Shared → Prop} (hfr : A.frames = some (env :: outer)) (hf : env.frame = some L) (f : Fly B (env :: outer) e cls dct .none s.heap)
    (h : ∀ h', Fly B (env :: outer) e cls dct (rawInt L) h' → s.heap.UpToSlots h' → Q () { s with heap := h' }) : wpAny M A (noteFrame (.ref e) env) Q E s := by
  obtain ⟨st, nw, fr, oe, vs, T, oT, ts, g1, g2, g3, g4, g5, g6, g7, g8, g9, g10, g11⟩ := f
  unfold noteFrame
  simp only [hf]
  refine wpAny_bind (wpAny_field g1 g4 g6 ?_)
  rw [if_pos (by simp)]
  refine wpAny_bind (wpAny_field g9 g10 g11 ?_)
  rw [if_neg (by simp [rawInt])]
  have oth : ∀ b o, b ≠ T → s.heap.get? b = some o → (s.heap.update T (Obj.mapFields (·.setIfInBounds 3 Value.none))).get? b = some o := fun b o hb x => by
    rw [Heap.get?_update_other _ _ (Ne.symm hb)]
    exact x
  have nr : ∀ b o, s.heap.get? b = some o → (∀ vs, o.data ≠ .fields vs) → b ≠ T := fun b o x y z => by
    rw [z, g9] at x
    cases x
    exact y ts g10
  refine wpAny_bind (wpAny_setField g9 g10 (Array.getElem?_eq_some_iff.mp g11).1 ?_)
  refine entry_new hfr (fr.of_keeps fun b o x y => ⟨o, oth b o (nr b o x y) x, rfl⟩) hf (oth e oe (Ne.symm g8) g1) (fun b o x => oth b o (fun z => by rw [z, g7] at x; cases x) (st b o x)) nw g4 (Array.getElem?_eq_some_iff.mp g5).1 g5 fun h' k1 k2 => h h' (g2 ▸ g3 ▸ k1) ?_
  intro b o x y
  exact k2 b o (oth b o (nr b o x y) x) y
theorem fly_leave {Q : Unit → Shared → Prop} (hfr : A.frames = some (env :: outer)) (hf : env.frame = some L) (f : Fly B (env :: outer) e cls dct .none s.heap)
    (h : ∀ h', Fly B outer e cls dct .none h' → s.heap.UpToSlots h' → Q () { s with heap := h' }) : wpAny M A (leaving env (.ref e)) Q E s := by
  unfold leaving
  refine wpAny_bind (fly_note hfr hf f fun h1 k1 u1 => ?_)
  exact fly_land (s := { s with heap := h1 }) k1 fun h2 k2 u2 => h h2 k2.tail (u1.trans u2)
theorem fly_first {oe : Obj} {vs : Array Value} {Q : Unit → Shared → Prop} (hfr : A.frames = some (env :: outer)) (hf : env.frame = some L) (hl : s.heap.FunFrames B (env :: outer)) (he : s.heap.get? e = some oe) (hs : B.StaysIn s.heap) (hb : B.get? e = none) (hd : oe.data = .fields vs) (h1 : vs[1]? = some .none) (h2 : vs[2]? = some .none)
    (h : ∀ h', Fly B outer e oe.cls oe.dict .none h' → s.heap.UpToSlots h' → Q () { s with heap := h' }) : wpAny M A (leaving env (.ref e)) Q E s := by
  unfold leaving noteFrame
  simp only [hf]
  refine wpAny_bind (wpAny_bind (wpAny_field he hd h1 ?_))
  rw [if_neg (by decide)]
  refine entry_new hfr hl hf he hs hb hd (Array.getElem?_eq_some_iff.mp h2).1 h2 fun h' k1 u1 => ?_
  exact fly_land (s := { s with heap := h' }) k1 fun h2 k2 u2 => h h2 k2.tail (u1.trans u2)
end
end DQ


end
section
set_option Elab.async false
set_option linter.all false
set_option maxRecDepth 100000
namespace DQ
open PySem PySem.Spec PyProof.Rows
open PySem.W (Looks findIn mroIn specialIn takesIn clsIn looks_findIn looks_mroIn looks_find findObj KitX)
structure ExcC (K : PySem.W.Frag) (C : Addr) : Prop where
  ga : findIn K (.ref C) "__getattribute__" = some (some (.builtin "BaseException.__getattribute__"))
  gt : findIn K (.ref C) "__getattr__" = some none
  cl : findIn K (.ref C) "__class__" = some (some (.builtin "object.__class__"))
  gs : specialIn K (.builtin "object.__class__") "__get__" = some (some (.builtin "getset_descriptor.__get__"))
  tk : takesIn K (.builtin "object.__class__") = some true
  bx : mroIn K C (.type "BaseException") = some true
  ob : mroIn K C (.type "object") = some true
  is : (clsIn K C).isSome = true
section
variable {prog : Program} {w : World} {A : Around} {E : Value → Shared → Prop} {s : Shared} {K : PySem.W.Frag} {e C : Addr} {oe : Obj} {od : Option Obj}
end
end DQ


end
section
set_option Elab.async false
set_option linter.all false
set_option maxRecDepth 100000
set_option maxHeartbeats 4000000
namespace DL
open PySem PySem.Spec PyProof.Rows L2

inductive D where
  | non
  | bl (b : Bool)
  | int (i : Int)
  | str (x : Str)
  | tup (xs : List D)
  | rol (xs : List D)
  | ref (n : Nat)
  | err (c : Str) (xs : List D)
inductive SO where
  | lst (xs : List D)
noncomputable abbrev Sto := List SO
noncomputable abbrev Ro := List (Option D)

noncomputable def SqF (K : PySem.W.Frag) (H : Hp) (a : Addr) (xs : List V) : Prop :=
  (∃ o, H a = some (.frz o (.lst xs))) ∨ ∃ (o : Obj) (its : Array Value) (n : Nat), K.lookup a = some o ∧ o.cls = .type "list" ∧ o.dict = none ∧ o.data = .seq its n ∧ its.size ≤ sizeLine ∧ Vals xs its.toList
theorem SqF.sq {K : PySem.W.Frag} {H : Hp} {a : Addr} {xs : List V} (h : SqF K H a xs) : SqL K H a xs := by
  rcases h with ⟨o, h⟩ | h
  · exact .inl (.inr ⟨o, h⟩)
  · exact .inr h

noncomputable def EOk (H : Hp) (p C : Addr) (xs : List V) : Prop := ∃ oe u vs, H p = some (.frz oe u) ∧ oe.cls = .ref C ∧ oe.data = .fields vs ∧ vs[2]? = some .none ∧ ((xs = [] ∧ oe.dict = none) ∨ ∃ dx fs, oe.dict = some dx ∧ H dx = some (.xd fs) ∧ fs.map (·.2) = xs)

mutual
inductive Rep (K : PySem.W.Frag) (H : Hp) (α : List Addr) : V → D → Prop where
  | non : Rep K H α .non .non
  | bl (b : Bool) : Rep K H α (.bl b) (.bl b)
  | int (i : Int) : Rep K H α (.int i) (.int i)
  | str (x : Str) : Rep K H α (.str x) (.str x)
  | tup {p : Addr} {xs : List V} {ds : List D} : SqT K H p xs → Reps K H α xs ds → Rep K H α (.ref p) (.tup ds)
  | rol {p : Addr} {xs : List V} {ds : List D} : SqF K H p xs → Reps K H α xs ds → Rep K H α (.ref p) (.rol ds)
  | ref {p : Addr} {n : Nat} : α[n]? = some p → Rep K H α (.ref p) (.ref n)
  | err {p C : Addr} {c : Str} {xs : List V} {ds : List D} : PySem.W.nsIn K mainGlobals c = some (some (.ref C)) → EOk H p C xs → Reps K H α xs ds → Rep K H α (.ref p) (.err c ds)
inductive Reps (K : PySem.W.Frag) (H : Hp) (α : List Addr) : List V → List D → Prop where
  | nil : Reps K H α [] []
  | cons {v : V} {d : D} {vs : List V} {ds : List D} : Rep K H α v d → Reps K H α vs ds → Reps K H α (v :: vs) (d :: ds)
end

structure Ext (K : PySem.W.Frag) (H H' : Hp) (α α' : List Addr) : Prop where
  tup : ∀ p xs, SqT K H p xs → SqT K H' p xs
  rol : ∀ p xs, SqF K H p xs → SqF K H' p xs
  err : ∀ p C xs, EOk H p C xs → EOk H' p C xs
  al : ∃ β, α' = α ++ β
section
variable {K : PySem.W.Frag} {H H1 H2 H' : Hp} {α α1 α2 α' : List Addr}
theorem Ext.refl : Ext K H H α α := ⟨fun _ _ h => h, fun _ _ h => h, fun _ _ _ h => h, [], (List.append_nil _).symm⟩
theorem Ext.trans (a : Ext K H H1 α α1) (b : Ext K H1 H2 α1 α2) : Ext K H H2 α α2 := by
  obtain ⟨b1, e1⟩ := a.al
  obtain ⟨b2, e2⟩ := b.al
  exact ⟨fun p xs h => b.tup p xs (a.tup p xs h), fun p xs h => b.rol p xs (a.rol p xs h), fun p C xs h => b.err p C xs (a.err p C xs h), b1 ++ b2, by rw [e2, e1, List.append_assoc]⟩
theorem Ext.get (e : Ext K H H' α α') {n : Nat} {p : Addr} (h : α[n]? = some p) : α'[n]? = some p := by
  obtain ⟨β, e1⟩ := e.al
  have hl : n < α.length := (List.getElem?_eq_some_iff.mp h).1
  rw [e1, List.getElem?_append_left hl]
  exact h
mutual
theorem Rep.mono (e : Ext K H H' α α') : ∀ {v : V} {d : D}, Rep K H α v d → Rep K H' α' v d
  | _, _, .non => .non
  | _, _, .bl b => .bl b
  | _, _, .int i => .int i
  | _, _, .str x => .str x
  | _, _, .tup h r => .tup (e.tup _ _ h) (Reps.mono e r)
  | _, _, .rol h r => .rol (e.rol _ _ h) (Reps.mono e r)
  | _, _, .ref h => .ref (e.get h)
  | _, _, .err n h r => .err n (e.err _ _ _ h) (Reps.mono e r)
theorem Reps.mono (e : Ext K H H' α α') : ∀ {vs : List V} {ds : List D}, Reps K H α vs ds → Reps K H' α' vs ds
  | _, _, .nil => .nil
  | _, _, .cons r t => .cons (Rep.mono e r) (Reps.mono e t)
end
theorem Reps.length : ∀ {vs : List V} {ds : List D}, Reps K H α vs ds → vs.length = ds.length
  | _, _, .nil => rfl
  | _, _, .cons _ t => by rw [List.length_cons, List.length_cons, Reps.length t]
theorem Reps.get : ∀ {vs : List V} {ds : List D} {i : Nat} {d : D}, Reps K H α vs ds → ds[i]? = some d → ∃ v, vs[i]? = some v ∧ Rep K H α v d
  | _, _, _, _, .nil, e => by simp at e
  | _, _, 0, _, .cons r _, e => by simp at e; subst e; exact ⟨_, rfl, r⟩
  | _, _, i + 1, d, .cons _ t, e => by
    obtain ⟨u, h1, h2⟩ := Reps.get (i := i) (d := d) t (by simpa using e)
    exact ⟨u, by simpa using h1, h2⟩
theorem Reps.set {v : V} {d : D} (r : Rep K H α v d) : ∀ {vs : List V} {ds : List D} (i : Nat), Reps K H α vs ds → Reps K H α (vs.set i v) (ds.set i d)
  | _, _, _, .nil => .nil
  | _, _, 0, .cons _ t => .cons r t
  | _, _, i + 1, .cons q t => .cons q (Reps.set r i t)
theorem Reps.append : ∀ {vs ws : List V} {ds es : List D}, Reps K H α vs ds → Reps K H α ws es → Reps K H α (vs ++ ws) (ds ++ es)
  | _, _, _, _, .nil, s => s
  | _, _, _, _, .cons r t, s => .cons r (Reps.append t s)
theorem Reps.ints : ∀ (ns : List Int), Reps K H α (ns.map V.int) (ns.map D.int)
  | [] => .nil
  | n :: r => .cons (.int n) (Reps.ints r)
theorem sqT_upd {p q : Addr} {xs : List V} {o : HO} (h : SqT K H q xs) (hp : ∀ u, H p = some u → (∀ ys, u ≠ .tup ys) ∧ ∀ ob w, u ≠ .frz ob w) : SqT K (upd H p o) q xs := by
  rcases h with (h | ⟨ob, h⟩) | h
  · refine .inl (.inl ?_)
    rw [upd_ne (fun e => (hp _ (e ▸ h)).1 _ rfl)]
    exact h
  · refine .inl (.inr ⟨ob, ?_⟩)
    rw [upd_ne (fun e => (hp _ (e ▸ h)).2 _ _ rfl)]
    exact h
  · exact .inr h
theorem sqF_upd {p q : Addr} {xs : List V} {o : HO} (h : SqF K H q xs) (hp : ∀ u, H p = some u → ∀ ob w, u ≠ .frz ob w) : SqF K (upd H p o) q xs := by
  rcases h with ⟨ob, h⟩ | h
  · refine .inl ⟨ob, ?_⟩
    rw [upd_ne (fun e => hp _ (e ▸ h) _ _ rfl)]
    exact h
  · exact .inr h
theorem eok_upd {p q C : Addr} {xs : List V} {o : HO} (h : EOk H q C xs) (hp : ∀ u, H p = some u → (∀ ob w, u ≠ .frz ob w) ∧ ∀ fs, u ≠ .xd fs) : EOk (upd H p o) q C xs := by
  obtain ⟨oe, u, vs, h1, h2, h3, h4, h5⟩ := h
  refine ⟨oe, u, vs, ?_, h2, h3, h4, ?_⟩
  · rw [upd_ne (fun e => (hp _ (e ▸ h1)).1 _ _ rfl)]
    exact h1
  · rcases h5 with h5 | ⟨dx, fs, k1, k2, k3⟩
    · exact .inl h5
    · refine .inr ⟨dx, fs, k1, ?_, k3⟩
      rw [upd_ne (fun e => (hp _ (e ▸ k2)).2 _ rfl)]
      exact k2
theorem Ext.new {p : Addr} {o : HO} (h : H p = none) {β : List Addr} : Ext K H (upd H p o) α (α ++ β) :=
  ⟨fun q xs z => sqT_upd z (fun u e => (by rw [h] at e; cases e)), fun q xs z => sqF_upd z (fun u e => (by rw [h] at e; cases e)), fun q C xs z => eok_upd z (fun u e => (by rw [h] at e; cases e)), β, rfl⟩
theorem Ext.new0 {p : Addr} {o : HO} (h : H p = none) : Ext K H (upd H p o) α α := by
  have e := Ext.new (K := K) (H := H) (α := α) (o := o) h (β := [])
  rw [List.append_nil] at e
  exact e
theorem Ext.wr {p : Addr} {o : HO} {xs : List V} (h : H p = some (.lst xs)) : Ext K H (upd H p o) α α :=
  ⟨fun q xs z => sqT_upd z (fun u e => (by rw [h] at e; cases e; exact ⟨fun ys z => (nomatch z), fun ob w z => (nomatch z)⟩)), fun q xs z => sqF_upd z (fun u e => (by rw [h] at e; cases e; exact fun ob w z => (nomatch z))), fun q C xs z => eok_upd z (fun u e => (by rw [h] at e; cases e; exact ⟨fun ob w z => (nomatch z), fun fs z => (nomatch z)⟩)), [], (List.append_nil _).symm⟩

noncomputable def SOk (K : PySem.W.Frag) (H : Hp) (α : List Addr) (p : Addr) : SO → Prop
  | .lst ds => ∃ xs, H p = some (.lst xs) ∧ Reps K H α xs ds
structure HR (K : PySem.W.Frag) (H : Hp) (α : List Addr) (M : Sto) : Prop where
  len : α.length = M.length
  nd : α.Nodup
  ob : ∀ (n : Nat) (p : Addr) (o : SO), α[n]? = some p → M[n]? = some o → SOk K H α p o
theorem HR.nil : HR K H [] [] := ⟨rfl, List.nodup_nil, fun n p o h => by simp at h⟩
theorem HR.at (h : HR K H α M) {n : Nat} {p : Addr} {ds : List D} (e : α[n]? = some p) (m : M[n]? = some (.lst ds)) : ∃ xs, H p = some (.lst xs) ∧ Reps K H α xs ds := h.ob n p _ e m
theorem HR.some_at {M : Sto} (h : HR K H α M) {n : Nat} {p : Addr} (e : α[n]? = some p) : ∃ xs, H p = some (.lst xs) := by
  have hl : n < α.length := (List.getElem?_eq_some_iff.mp e).1
  have hm : n < M.length := by rw [← h.len]; exact hl
  have q := h.ob n p M[n] e (List.getElem?_eq_getElem hm)
  cases r : M[n] with
  | lst ds =>
    rw [r] at q
    obtain ⟨xs, q, _⟩ := q
    exact ⟨xs, q⟩
theorem HR.tup {M : Sto} {p : Addr} {o : HO} (h : HR K H α M) (hp : H p = none) : HR K (upd H p o) α M :=
  ⟨h.len, h.nd, fun n q so e m => by
    cases so with
    | lst ds =>
      obtain ⟨xs, h1, h2⟩ := h.ob n q _ e m
      exact ⟨xs, by rw [upd_ne (ne_of_none h1 hp)]; exact h1, Reps.mono (Ext.new0 hp) h2⟩⟩
theorem HR.new {M : Sto} {p : Addr} {xs : List V} {ds : List D} (h : HR K H α M) (hp : H p = none) (r : Reps K H α xs ds) : HR K (upd H p (.lst xs)) (α ++ [p]) (M ++ [.lst ds]) := by
  have ex : Ext K H (upd H p (.lst xs)) α (α ++ [p]) := Ext.new hp
  refine ⟨by rw [List.length_append, List.length_append, h.len]; rfl, ?_, fun n q so e m => ?_⟩
  · refine List.nodup_append.mpr ⟨h.nd, by simp, fun a ha b hb => ?_⟩
    have hb' : b = p := by simpa using hb
    obtain ⟨n, hn, e⟩ := List.getElem_of_mem ha
    obtain ⟨xs, z⟩ := h.some_at (n := n) (p := a) (by rw [List.getElem?_eq_getElem hn, e])
    rw [hb']
    exact ne_of_none z hp
  · by_cases hn : n < α.length
    · rw [List.getElem?_append_left hn] at e
      rw [List.getElem?_append_left (by rw [← h.len]; exact hn)] at m
      cases so with
      | lst es =>
        obtain ⟨ys, h1, h2⟩ := h.ob n q _ e m
        exact ⟨ys, by rw [upd_ne (ne_of_none h1 hp)]; exact h1, Reps.mono ex h2⟩
    · have en : n = α.length := by
        have : n < (α ++ [p]).length := (List.getElem?_eq_some_iff.mp e).1
        rw [List.length_append, List.length_singleton] at this
        omega
      subst en
      rw [List.getElem?_append_right (Nat.le_refl _), Nat.sub_self] at e
      rw [h.len, List.getElem?_append_right (Nat.le_refl _), Nat.sub_self] at m
      cases e
      cases m
      exact ⟨xs, upd_same, Reps.mono ex r⟩
theorem nodup_at {n m : Nat} {p : Addr} (h : α.Nodup) (a : α[n]? = some p) (b : α[m]? = some p) : n = m := by
  obtain ⟨h1, e1⟩ := List.getElem?_eq_some_iff.mp a
  obtain ⟨h2, e2⟩ := List.getElem?_eq_some_iff.mp b
  exact (List.getElem_inj h).mp (e1.trans e2.symm)
theorem HR.wr {M : Sto} {n : Nat} {p : Addr} {xs ys : List V} {ds : List D} (h : HR K H α M) (e : α[n]? = some p) (hp : H p = some (.lst ys)) (r : Reps K H α xs ds) : HR K (upd H p (.lst xs)) α (M.set n (.lst ds)) := by
  have ex : Ext K H (upd H p (.lst xs)) α α := Ext.wr hp
  have hn : n < M.length := by rw [← h.len]; exact (List.getElem?_eq_some_iff.mp e).1
  refine ⟨by rw [List.length_set]; exact h.len, h.nd, fun k q so e' m => ?_⟩
  by_cases hk : k = n
  · subst hk
    rw [e] at e'
    cases e'
    rw [List.getElem?_set_self hn] at m
    cases m
    exact ⟨xs, upd_same, Reps.mono ex r⟩
  · rw [List.getElem?_set_ne (Ne.symm hk)] at m
    cases so with
    | lst es =>
      obtain ⟨zs, h1, h2⟩ := h.ob k q _ e' m
      have hq : q ≠ p := fun z => hk (nodup_at h.nd (z ▸ e') e)
      exact ⟨zs, by rw [upd_ne hq]; exact h1, Reps.mono ex h2⟩

end
inductive Out (β : Type) where
  | ok (a : β) (M : Sto)
  | exc (c : Str) (M : Sto)
  | bad
noncomputable def Out.bind {β γ : Type} (o : Out β) (f : β → Sto → Out γ) : Out γ := match o with
  | .ok a M => f a M
  | .exc c M => .exc c M
  | .bad => .bad
inductive Fl where
  | nx (ρ : Ro) (M : Sto)
  | ret (d : D) (M : Sto)
  | brk (ρ : Ro) (M : Sto)
  | cnt (ρ : Ro) (M : Sto)
  | exc (c : Str) (M : Sto)
  | bad

noncomputable def OG {β γ : Type} (K : PySem.W.Frag) (R : Hp → List Addr → γ → β → Prop) (H : Hp) (α : List Addr) (ξ : XK) (Q : γ → Hp → Prop) : Out β → Prop
  | .ok d M' => ∀ v H' α', Ext K H H' α α' → HR K H' α' M' → R H' α' v d → Q v H'
  | .exc c M' => ∀ C H' α', PySem.W.nsIn K mainGlobals c = some (some (.ref C)) → Ext K H H' α α' → HR K H' α' M' → ξ (.ref C) none H'
  | .bad => False
theorem OG.ext {β γ : Type} {K : PySem.W.Frag} {R : Hp → List Addr → γ → β → Prop} {H H1 : Hp} {α α1 : List Addr} {ξ : XK} {Q : γ → Hp → Prop} {o : Out β} (h : OG K R H α ξ Q o) (e : Ext K H H1 α α1) : OG K R H1 α1 ξ Q o := by
  cases o with
  | ok d M' => exact fun v H' α' e' => h v H' α' (e.trans e')
  | exc c M' => exact fun C H' α' n e' => h C H' α' n (e.trans e')
  | bad => exact h
noncomputable abbrev OP (K : PySem.W.Frag) := OG K (Rep K)
noncomputable abbrev OT (K : PySem.W.Frag) := OG (β := Bool) (γ := Bool) K (fun _ _ v d => v = d)
noncomputable abbrev OA (K : PySem.W.Frag) := OG K (Reps K)

noncomputable def SR (K : PySem.W.Frag) (H : Hp) (α : List Addr) (σ : L2.St) (ρ : Ro) : Prop := σ.length = ρ.length ∧ ∀ (i : Nat) (d : D), ρ[i]? = some (some d) → ∃ v, σ[i]? = some (some v) ∧ Rep K H α v d
theorem SR.mono {K : PySem.W.Frag} {H H' : Hp} {α α' : List Addr} {σ : L2.St} {ρ : Ro} (h : SR K H α σ ρ) (e : Ext K H H' α α') : SR K H' α' σ ρ :=
  ⟨h.1, fun i d q => let ⟨v, a, b⟩ := h.2 i d q; ⟨v, a, Rep.mono e b⟩⟩
theorem SR.set {K : PySem.W.Frag} {H : Hp} {α : List Addr} {σ : L2.St} {ρ : Ro} {v : V} {d : D} (h : SR K H α σ ρ) (i : Nat) (r : Rep K H α v d) : SR K H α (σ.set i (some v)) (ρ.set i (some d)) := by
  refine ⟨by rw [List.length_set, List.length_set]; exact h.1, fun j e q => ?_⟩
  by_cases hj : j = i
  · subst hj
    have hl : j < ρ.length := by
      have := (List.getElem?_eq_some_iff.mp q).1
      rw [List.length_set] at this
      exact this
    rw [List.getElem?_set_self hl] at q
    cases q
    exact ⟨v, by rw [List.getElem?_set_self (by rw [h.1]; exact hl)], r⟩
  · rw [List.getElem?_set_ne (Ne.symm hj)] at q
    rw [List.getElem?_set_ne (Ne.symm hj)]
    exact h.2 j e q

noncomputable abbrev Ev := Ro → Sto → Out D
noncomputable abbrev Tv := Ro → Sto → Out Bool
noncomputable abbrev Av := Ro → Sto → Out (List D)
noncomputable abbrev Sv := Ro → Sto → Fl

noncomputable def DE (X : Cx) (ξ : XK) (e : Expr) (f : Ev) : Prop := ∃ t : TE, PE X e t ∧ ∀ σ ρ H α M Q, SR X.K H α σ ρ → HR X.K H α M → OP X.K H α ξ Q (f ρ M) → t σ H Q
noncomputable def DT (X : Cx) (ξ : XK) (e : Expr) (f : Tv) : Prop := ∃ t : TT, PT X e t ∧ ∀ σ ρ H α M Q, SR X.K H α σ ρ → HR X.K H α M → OT X.K H α ξ Q (f ρ M) → t σ H Q
noncomputable def DW (X : Cx) (ξ : XK) (e : Expr) (f : Tv) : Prop := ∃ t : TT, PW X e t ∧ ∀ σ ρ H α M Q, SR X.K H α σ ρ → HR X.K H α M → OT X.K H α ξ Q (f ρ M) → t σ H Q
noncomputable def DA (X : Cx) (ξ : XK) (es : List Expr) (f : Av) : Prop := ∃ t : TA, PA X es t ∧ ∀ σ ρ H α M Q, SR X.K H α σ ρ → HR X.K H α M → OA X.K H α ξ Q (f ρ M) → t σ H Q

theorem OG.seq {β γ β' γ' : Type} {K : PySem.W.Frag} {R : Hp → List Addr → γ → β → Prop} {R' : Hp → List Addr → γ' → β' → Prop} {H : Hp} {α : List Addr} {ξ : XK} {Q : γ' → Hp → Prop} {Q1 : γ → Hp → Prop} {o : Out β} {f : β → Sto → Out β'}
    (h : OG K R' H α ξ Q (o.bind f)) (k : ∀ d M' v H' α', Ext K H H' α α' → HR K H' α' M' → R H' α' v d → OG K R' H' α' ξ Q (f d M') → Q1 v H') : OG K R H α ξ Q1 o := by
  cases o with
  | ok d M' => exact fun v H' α' e hr r => k d M' v H' α' e hr r (OG.ext (o := f d M') h e)
  | exc c M' => exact h
  | bad => exact h

section
variable {X : Cx} {ξ : XK} {a b e : Expr} {fa fb : Ev} {pos : Pos}
noncomputable def eVar (i : Nat) : Ev := fun ρ M => match ρ[i]? with | some (some d) => .ok d M | _ => .bad
noncomputable def eC (d : D) : Ev := fun _ M => .ok d M
theorem de_var (i : Nat) {x : Str} (hN : X.N[i]? = some x := by rfl) (hv : Vis X.env.scope x := by first | exact Or.inl rfl | exact Or.inr (Or.inl rfl) | exact Or.inr (Or.inr rfl)) (hd : (x == ("__debug__" : Str)) = false := by decide)
    (hcd : (x == ("__classdict__" : Str)) = false := by decide) : DE X ξ (.Name x pos) (eVar i) := by
  refine ⟨_, pe_var hN hv hd hcd, fun σ ρ H α M Q s h q => ?_⟩
  unfold eVar at q
  cases e : ρ[i]? with
  | none => rw [e] at q; exact q.elim
  | some o =>
    cases o with
    | none => rw [e] at q; exact q.elim
    | some d =>
      rw [e] at q
      obtain ⟨v, h1, h2⟩ := s.2 i d e
      exact ⟨v, h1, q v H α Ext.refl h h2⟩
theorem de_int {i : Int} {j pos} : DE X ξ (.Constant (.int i) j pos) (eC (.int i)) := ⟨_, pe_int, fun _ _ H α M _ _ h q => q _ H α Ext.refl h (.int i)⟩
theorem de_bl {i : Bool} {j pos} : DE X ξ (.Constant (.bool i) j pos) (eC (.bl i)) := ⟨_, pe_bl, fun _ _ H α M _ _ h q => q _ H α Ext.refl h (.bl i)⟩
theorem de_str {x : Str} {j pos} : DE X ξ (.Constant (.str x) j pos) (eC (.str x)) := ⟨_, pe_str, fun _ _ H α M _ _ h q => q _ H α Ext.refl h (.str x)⟩

noncomputable abbrev Bo := D → D → Sto → Out D
noncomputable def e2 (f : Bo) (fa fb : Ev) : Ev := fun ρ M => (fa ρ M).bind fun x M1 => (fb ρ M1).bind fun y M2 => f x y M2
noncomputable def BO (X : Cx) (ξ : XK) (r : R2) (f : Bo) : Prop := ∀ H α M v w x y Q, HR X.K H α M → Rep X.K H α v x → Rep X.K H α w y → OP X.K H α ξ Q (f x y M) → r v w H Q
theorem two {r : R2} {f : Bo} (hb : BO X ξ r f) {ta tb : TE} (qa : ∀ σ ρ H α M Q, SR X.K H α σ ρ → HR X.K H α M → OP X.K H α ξ Q (fa ρ M) → ta σ H Q)
    (qb : ∀ σ ρ H α M Q, SR X.K H α σ ρ → HR X.K H α M → OP X.K H α ξ Q (fb ρ M) → tb σ H Q) : ∀ σ ρ H α M Q, SR X.K H α σ ρ → HR X.K H α M → OP X.K H α ξ Q (e2 f fa fb ρ M) → tOp r ta tb σ H Q := by
  intro σ ρ H α M Q s h q
  refine qa σ ρ H α M _ s h (OG.seq q fun x M1 v H1 α1 e1 h1 r1 q1 => ?_)
  refine qb σ ρ H1 α1 M1 _ (s.mono e1) h1 (OG.seq q1 fun y M2 w H2 α2 e2 h2 r2 q2 => ?_)
  exact hb H2 α2 M2 v w x y Q h2 (Rep.mono e2 r1) r2 q2
theorem de_op {op : Operator} {r : R2} {f : Bo} (ho : OpR X (binaryOp op) r) (hf : BO X ξ r f) (ha : DE X ξ a fa) (hb : DE X ξ b fb) : DE X ξ (.BinOp a op b pos) (e2 f fa fb) := by
  obtain ⟨ta, ha, qa⟩ := ha
  obtain ⟨tb, hb, qb⟩ := hb
  exact ⟨_, pe_op ho ha hb, two hf qa qb⟩
theorem de_cmp {op : CmpOp} {r : R2} {f : Bo} (ho : OpR X (compareOp op) r) (hf : BO X ξ r f) (ha : DE X ξ a fa) (hb : DE X ξ b fb) (hm : behindInMarks op b = false := by first | exact nomark _ | with_unfolding_all rfl) : DE X ξ (.Compare a [op] [b] pos) (e2 f fa fb) := by
  obtain ⟨ta, ha, qa⟩ := ha
  obtain ⟨tb, hb, qb⟩ := hb
  exact ⟨_, pe_cmpR ho ha hb hm, two hf qa qb⟩
noncomputable def tv (f : Ev) : Tv := fun ρ M => (f ρ M).bind fun x M1 => match x with | .bl k => .ok k M1 | _ => .bad
theorem dt_of {t : TE} {f : Ev} (qa : ∀ σ ρ H α M Q, SR X.K H α σ ρ → HR X.K H α M → OP X.K H α ξ Q (f ρ M) → t σ H Q) : ∀ σ ρ H α M Q, SR X.K H α σ ρ → HR X.K H α M → OT X.K H α ξ Q (tv f ρ M) → tTest t σ H Q := by
  intro σ ρ H α M Q s h q
  refine qa σ ρ H α M _ s h (OG.seq q fun x M1 v H1 α1 e1 h1 r1 q1 => ?_)
  cases r1 with
  | bl k => exact ⟨k, rfl, q1 k H1 α1 Ext.refl h1 rfl⟩
  | _ => exact q1.elim
theorem dt_cmp {op : CmpOp} {r : R2} {f : Bo} (ho : OpR X (compareOp op) r) (hf : BO X ξ r f) (ha : DE X ξ a fa) (hb : DE X ξ b fb) (hm : behindInMarks op b = false := by first | exact nomark _ | with_unfolding_all rfl) : DT X ξ (.Compare a [op] [b] pos) (tv (e2 f fa fb)) := by
  obtain ⟨ta, ha, qa⟩ := ha
  obtain ⟨tb, hb, qb⟩ := hb
  exact ⟨_, pt_cmpR ho ha hb hm, dt_of (two hf qa qb)⟩
theorem dt_val (h : DE X ξ e fa) (he : ∀ whole, isTrue e X.env whole = (do let v ← whole; standAt e.pos; holding [v] (truthy v)) := by intro _; rfl) : DT X ξ e (tv fa) := by
  obtain ⟨ta, ha, qa⟩ := h
  exact ⟨_, pt_val ha he, dt_of qa⟩
variable {ga gb : Tv} {rest : List Expr}
noncomputable def tAnd2 (f g : Tv) : Tv := fun ρ M => (f ρ M).bind fun k M1 => if k = true then g ρ M1 else .ok false M1
noncomputable def tOr2 (f g : Tv) : Tv := fun ρ M => (f ρ M).bind fun k M1 => if k = true then .ok true M1 else g ρ M1
noncomputable def tNot1 (f : Tv) : Tv := fun ρ M => (f ρ M).bind fun k M1 => .ok (!k) M1
theorem dw_and1 (ha : DT X ξ a ga) : DW X ξ (.BoolOp .And [a] pos) ga := let ⟨_, h, q⟩ := ha; ⟨_, pw_and1 h, q⟩
theorem dw_or1 (ha : DT X ξ a ga) : DW X ξ (.BoolOp .Or [a] pos) ga := let ⟨_, h, q⟩ := ha; ⟨_, pw_or1 h, q⟩
theorem dw_or (ha : DT X ξ a ga) (hb : DW X ξ (.BoolOp .Or (b :: rest) pos) gb) : DW X ξ (.BoolOp .Or (a :: b :: rest) pos) (tOr2 ga gb) := by
  obtain ⟨ta, ha, qa⟩ := ha
  obtain ⟨tb, hb, qb⟩ := hb
  refine ⟨_, pw_or ha hb, fun σ ρ H α M Q s h q => ?_⟩
  refine qa σ ρ H α M _ s h (OG.seq q fun k M1 v H1 α1 e1 h1 r1 q1 => ?_)
  cases r1
  cases k with
  | true => exact iteT (q1 true H1 α1 Ext.refl h1 rfl)
  | false => exact iteF (qb σ ρ H1 α1 M1 Q (s.mono e1) h1 q1)
theorem dt_w (h : DW X ξ e ga) : DT X ξ e ga := let ⟨_, h, q⟩ := h; ⟨_, h.pt, q⟩
theorem dt_not (ha : DT X ξ a ga) : DT X ξ (.UnaryOp .Not a pos) (tNot1 ga) := by
  obtain ⟨ta, ha, qa⟩ := ha
  refine ⟨_, pt_not ha, fun σ ρ H α M Q s h q => ?_⟩
  refine qa σ ρ H α M _ s h (OG.seq q fun k M1 v H1 α1 e1 h1 r1 q1 => ?_)
  cases r1
  exact q1 (!k) H1 α1 Ext.refl h1 rfl
noncomputable def eAnd2 (f g : Ev) : Ev := fun ρ M => (f ρ M).bind fun x M1 => match x with | .bl k => if k = true then g ρ M1 else .ok (.bl false) M1 | _ => .bad
noncomputable def eOr2 (f g : Ev) : Ev := fun ρ M => (f ρ M).bind fun x M1 => match x with | .bl k => if k = true then .ok (.bl true) M1 else g ρ M1 | _ => .bad
noncomputable def eNot1 (f : Ev) : Ev := fun ρ M => (f ρ M).bind fun x M1 => match x with | .bl k => .ok (.bl (!k)) M1 | _ => .bad
theorem de_one {op} (ha : DE X ξ a fa) : DE X ξ (.BoolOp op [a] pos) fa := let ⟨_, h, q⟩ := ha; ⟨_, pe_one h, q⟩
theorem de_and (ha : DE X ξ a fa) (hb : DE X ξ (.BoolOp .And (b :: rest) pos) fb) : DE X ξ (.BoolOp .And (a :: b :: rest) pos) (eAnd2 fa fb) := by
  obtain ⟨ta, ha, qa⟩ := ha
  obtain ⟨tb, hb, qb⟩ := hb
  refine ⟨_, pe_and ha hb, fun σ ρ H α M Q s h q => ?_⟩
  refine qa σ ρ H α M _ s h (OG.seq q fun x M1 v H1 α1 e1 h1 r1 q1 => ?_)
  cases r1 with
  | bl k =>
    refine ⟨k, rfl, ?_⟩
    cases k with
    | true => exact iteT (qb σ ρ H1 α1 M1 Q (s.mono e1) h1 q1)
    | false => exact iteF (q1 _ H1 α1 Ext.refl h1 (.bl false))
  | _ => exact q1.elim
theorem de_not (ha : DE X ξ a fa) : DE X ξ (.UnaryOp .Not a pos) (eNot1 fa) := by
  obtain ⟨ta, ha, qa⟩ := ha
  refine ⟨_, pe_not ha, fun σ ρ H α M Q s h q => ?_⟩
  refine qa σ ρ H α M _ s h (OG.seq q fun x M1 v H1 α1 e1 h1 r1 q1 => ?_)
  cases r1 with
  | bl k => exact ⟨k, rfl, q1 _ H1 α1 Ext.refl h1 (.bl (!k))⟩
  | _ => exact q1.elim
noncomputable def eIf (c : Tv) (f g : Ev) : Ev := fun ρ M => (c ρ M).bind fun k M1 => if k = true then f ρ M1 else g ρ M1
variable {es : List Expr} {fs : Av}
noncomputable def aNil : Av := fun _ M => .ok [] M
noncomputable def aCons (f : Ev) (g : Av) : Av := fun ρ M => (f ρ M).bind fun x M1 => (g ρ M1).bind fun xs M2 => .ok (x :: xs) M2
theorem da_nil : DA X ξ [] aNil := ⟨_, pa_nil, fun _ _ H α M _ _ h q => q _ H α Ext.refl h .nil⟩
theorem da_cons (ha : DE X ξ e fa) (hr : DA X ξ es fs) (hs : starEach (e :: es) X.env = (false, eval e X.env) :: starEach es X.env := by rfl) : DA X ξ (e :: es) (aCons fa fs) := by
  obtain ⟨ta, ha, qa⟩ := ha
  obtain ⟨tb, hb, qb⟩ := hr
  refine ⟨_, pa_cons ha hb hs, fun σ ρ H α M Q s h q => ?_⟩
  refine qa σ ρ H α M _ s h (OG.seq q fun x M1 v H1 α1 e1 h1 r1 q1 => ?_)
  refine qb σ ρ H1 α1 M1 _ (s.mono e1) h1 (OG.seq q1 fun y M2 w H2 α2 e2 h2 r2 q2 => ?_)
  exact q2 _ H2 α2 Ext.refl h2 (.cons (Rep.mono e2 r1) r2)
noncomputable def eTup (f : Av) : Ev := fun ρ M => (f ρ M).bind fun xs M1 => if xs.length ≤ 1000 then .ok (.tup xs) M1 else .bad
noncomputable def eLst (f : Av) : Ev := fun ρ M => (f ρ M).bind fun xs M1 => if xs.length ≤ 1000 then .ok (.ref M1.length) (M1 ++ [.lst xs]) else .bad
theorem small {n : Nat} (h : n ≤ 1000) : n ≤ sizeLine := Nat.le_of_lt (small1000 h)
theorem de_tup {x1} (ha : DA X ξ es fs) : DE X ξ (.Tuple es x1 pos) (eTup fs) := by
  obtain ⟨ta, ha, qa⟩ := ha
  refine ⟨_, pe_tup ha, fun σ ρ H α M Q s h q => ?_⟩
  refine qa σ ρ H α M _ s h (OG.seq q fun xs M1 vs H1 α1 e1 h1 r1 q1 => ?_)
  by_cases hl : xs.length ≤ 1000
  · rw [if_pos hl] at q1
    refine ⟨by rw [r1.length]; exact small hl, fun p hp => q1 _ _ α1 (Ext.new0 hp) (h1.tup hp) (.tup (.inl (.inl upd_same)) (Reps.mono (Ext.new0 hp) r1))⟩
  · rw [if_neg hl] at q1
    exact q1.elim
theorem HR.last {K : PySem.W.Frag} {H : Hp} {α : List Addr} {M : Sto} (h : HR K H α M) (p : Addr) : (α ++ [p])[M.length]? = some p := by
  rw [← h.len, List.getElem?_append_right (Nat.le_refl _), Nat.sub_self]
  rfl
theorem de_lst (ha : DA X ξ es fs) : DE X ξ (.List es pos) (eLst fs) := by
  obtain ⟨ta, ha, qa⟩ := ha
  refine ⟨_, pe_lst ha, fun σ ρ H α M Q s h q => ?_⟩
  refine qa σ ρ H α M _ s h (OG.seq q fun xs M1 vs H1 α1 e1 h1 r1 q1 => ?_)
  by_cases hl : xs.length ≤ 1000
  · rw [if_pos hl] at q1
    refine ⟨by rw [r1.length]; exact small hl, fun p hp => q1 _ _ (α1 ++ [p]) (Ext.new hp) (h1.new hp r1) (.ref (h1.last p))⟩
  · rw [if_neg hl] at q1
    exact q1.elim
end
end DL


end
section
set_option Elab.async false
set_option linter.all false
set_option maxRecDepth 100000
set_option maxHeartbeats 4000000
namespace DL
open PySem PySem.Spec PyProof.Rows L2
open PySem.SeqAt (EqAt RcAt RcNeAt)

noncomputable def mulFits (i j : Int) : Prop := Builtin.Int.intBits i ≤ 64 ∨ Builtin.Int.intBits j ≤ 64 ∨ (Builtin.Int.intBits i ≤ 60000000 ∧ Builtin.Int.intBits j ≤ 60000000)
instance (i j : Int) : Decidable (mulFits i j) := by unfold mulFits; infer_instance
theorem mulFits.ok {i j : Int} (h : mulFits i j) : IntMulOk i j := by
  rcases h with h | h | ⟨h1, h2⟩
  · exact .of_left h
  · exact .of_right h
  · exact .of_le h1 h2 (by decide)
theorem mulFits_of {i j : Int} (m n : Nat) (h1 : i.natAbs < 2 ^ m) (h2 : j.natAbs < 2 ^ n) (hm : m ≤ 60000000 := by decide) (hn : n ≤ 60000000 := by decide) : mulFits i j :=
  .inr (.inr ⟨Nat.le_trans (intBits_le_iff.mpr h1) hm, Nat.le_trans (intBits_le_iff.mpr h2) hn⟩)
noncomputable def divFits (j : Int) : Prop := j ≠ 0 ∧ j.natAbs.log2 < 9000
instance (j : Int) : Decidable (divFits j) := by unfold divFits; infer_instance
section
variable {X : Cx}
theorem op_mulG : OpR X (binaryOp .Mult) (rI mulFits fun i j => .int (i * j)) := opI fun _ _ _ _ _ _ _ hc q => mul_int q hc.ok
theorem op_fdivG : OpR X (binaryOp .FloorDiv) (rI (fun _ j => divFits j) fun i j => .int (i.fdiv j)) := opI fun _ _ _ _ _ _ _ hc q => floordiv_int hc.1 q (.inl (PyProof.noPylong_of_log2 hc.2))
end
noncomputable def dAdd : Bo := fun x y M => match x, y with
  | .int i, .int j => .ok (.int (i + j)) M
  | .str i, .str j => if i.length + j.length ≤ 100000 then .ok (.str (i ++ j)) M else .bad
  | .ref n, .ref m => match M[n]?, M[m]? with
    | some (.lst xs), some (.lst ys) => if xs.length + ys.length ≤ 10000000 then .ok (.ref M.length) (M ++ [.lst (xs ++ ys)]) else .bad
    | _, _ => .bad
  | .tup xs, .tup ys => if xs.length + ys.length ≤ 100000 ∧ xs ≠ [] then .ok (.tup (xs ++ ys)) M else .bad
  | _, _ => .bad
noncomputable def dSub : Bo := fun x y M => match x, y with | .int i, .int j => .ok (.int (i - j)) M | _, _ => .bad
noncomputable def dMul : Bo := fun x y M => match x, y with | .int i, .int j => if mulFits i j then .ok (.int (i * j)) M else .bad | _, _ => .bad
noncomputable def dDiv : Bo := fun x y M => match x, y with | .int i, .int j => if divFits j then .ok (.int (i.fdiv j)) M else .bad | _, _ => .bad
noncomputable def dMod : Bo := fun x y M => match x, y with | .int i, .int j => if j ≠ 0 then .ok (.int (i.fmod j)) M else .bad | _, _ => .bad
noncomputable def dPow : Bo := fun x y M => match x, y with | .int i, .int j => if 0 ≤ j ∧ j ≤ 1000000 ∧ i.natAbs < 2 ^ 64 then .ok (.int (i ^ j.toNat)) M else .bad | _, _ => .bad
noncomputable def dLt : Bo := fun x y M => match x, y with | .int i, .int j => .ok (.bl (decide (i < j))) M | _, _ => .bad
noncomputable def dLe : Bo := fun x y M => match x, y with | .int i, .int j => .ok (.bl (decide (i ≤ j))) M | _, _ => .bad
noncomputable def dGt : Bo := fun x y M => match x, y with | .int i, .int j => .ok (.bl (decide (j < i))) M | _, _ => .bad
noncomputable def dGe : Bo := fun x y M => match x, y with | .int i, .int j => .ok (.bl (decide (j ≤ i))) M | _, _ => .bad

theorem line5 {n : Nat} (h : n ≤ 100000) : n ≤ sizeLine := Nat.le_trans h (by decide)
section
variable {X : Cx} {ξ : XK}
theorem bo_int {r : R2} {f : Bo} {C : Int → Int → Prop} [∀ i j, Decidable (C i j)] {g : Int → Int → D} {gV : Int → Int → V} (hg : ∀ H α i j, Rep X.K H α (gV i j) (g i j))
    (hf : ∀ x y M, f x y M = match x, y with | .int i, .int j => if C i j then .ok (g i j) M else .bad | _, _ => .bad) (hr : ∀ i j H Q, C i j → Q (gV i j) H → r (.int i) (.int j) H Q) : BO X ξ r f := by
  intro H α M v w x y Q h rv rw' q
  rw [hf] at q
  cases rv <;> first | exact q.elim | skip
  cases rw' <;> first | exact q.elim | skip
  rename_i i j
  by_cases c : C i j
  · simp only [if_pos c] at q
    exact hr i j H Q c (q _ H α Ext.refl h (hg H α i j))
  · simp only [if_neg c] at q
    exact q.elim
theorem bo_sub : BO X ξ (rI0 fun i j => .int (i - j)) dSub := bo_int (C := fun _ _ => True) (fun _ _ i j => .int (i - j)) (fun x y M => by cases x <;> cases y <;> simp [dSub]) fun i j H Q _ q => ⟨i, j, rfl, rfl, q⟩
theorem bo_mul : BO X ξ (rI mulFits fun i j => .int (i * j)) dMul := bo_int (C := mulFits) (fun _ _ i j => .int (i * j)) (fun x y M => by cases x <;> cases y <;> rfl) fun i j H Q c q => ⟨i, j, rfl, rfl, c, q⟩
theorem bo_div : BO X ξ (rI (fun _ j => divFits j) fun i j => .int (i.fdiv j)) dDiv := bo_int (C := fun _ j => divFits j) (fun _ _ i j => .int (i.fdiv j)) (fun x y M => by cases x <;> cases y <;> rfl) fun i j H Q c q => ⟨i, j, rfl, rfl, c, q⟩
theorem bo_mod : BO X ξ (rI (fun _ j => j ≠ 0) fun i j => .int (i.fmod j)) dMod := bo_int (C := fun _ j => j ≠ 0) (fun _ _ i j => .int (i.fmod j)) (fun x y M => by cases x <;> cases y <;> rfl) fun i j H Q c q => ⟨i, j, rfl, rfl, c, q⟩
theorem bo_pow : BO X ξ (rI CPow fun i j => .int (i ^ j.toNat)) dPow := bo_int (C := fun i j => 0 ≤ j ∧ j ≤ 1000000 ∧ i.natAbs < 2 ^ 64) (fun _ _ i j => .int (i ^ j.toNat)) (fun x y M => by cases x <;> cases y <;> rfl) fun i j H Q c q => ⟨i, j, rfl, rfl, c, q⟩
theorem bo_lt : BO X ξ (rI0 fun i j => .bl (decide (i < j))) dLt := bo_int (C := fun _ _ => True) (fun _ _ i j => .bl _) (fun x y M => by cases x <;> cases y <;> simp [dLt]) fun i j H Q _ q => ⟨i, j, rfl, rfl, q⟩
theorem bo_le : BO X ξ (rI0 fun i j => .bl (decide (i ≤ j))) dLe := bo_int (C := fun _ _ => True) (fun _ _ i j => .bl _) (fun x y M => by cases x <;> cases y <;> simp [dLe]) fun i j H Q _ q => ⟨i, j, rfl, rfl, q⟩
theorem bo_gt : BO X ξ (rI0 fun i j => .bl (decide (j < i))) dGt := bo_int (C := fun _ _ => True) (fun _ _ i j => .bl _) (fun x y M => by cases x <;> cases y <;> simp [dGt]) fun i j H Q _ q => ⟨i, j, rfl, rfl, q⟩
theorem bo_ge : BO X ξ (rI0 fun i j => .bl (decide (j ≤ i))) dGe := bo_int (C := fun _ _ => True) (fun _ _ i j => .bl _) (fun x y M => by cases x <;> cases y <;> simp [dGe]) fun i j H Q _ q => ⟨i, j, rfl, rfl, q⟩
theorem op_addG : OpR X (binaryOp .Add) (fun x y H Q => (rI0 (fun i j => .int (i + j)) x y H Q ∨ (∃ i j, x = .str i ∧ y = .str j ∧ i.length + j.length ≤ sizeLine ∧ Q (.str (i ++ j)) H)) ∨ (rCat x y H Q ∨ rCatT X.K x y H Q)) :=
  OpR.or (OpR.or op_add op_add_str) (OpR.or op_cat op_catT)
theorem bo_add : BO X ξ (fun x y H Q => (rI0 (fun i j => .int (i + j)) x y H Q ∨ (∃ i j, x = .str i ∧ y = .str j ∧ i.length + j.length ≤ sizeLine ∧ Q (.str (i ++ j)) H)) ∨ (rCat x y H Q ∨ rCatT X.K x y H Q)) dAdd := by
  intro H α M v w x y Q h rv rw' q
  cases rv with
  | int i =>
    cases rw' with
    | int j => exact .inl (.inl ⟨i, j, rfl, rfl, q _ H α Ext.refl h (.int (i + j))⟩)
    | _ => exact q.elim
  | str i =>
    cases rw' with
    | str j =>
      by_cases c : i.length + j.length ≤ 100000
      · simp only [dAdd, if_pos c] at q
        exact .inl (.inr ⟨i, j, rfl, rfl, line5 c, q _ H α Ext.refl h (.str _)⟩)
      · simp only [dAdd, if_neg c] at q
        exact q.elim
    | _ => exact q.elim
  | @tup p xs ds hp rp =>
    cases rw' with
    | @tup p2 xs2 ds2 hp2 rp2 =>
      by_cases c : ds.length + ds2.length ≤ 100000 ∧ ds ≠ []
      · simp only [dAdd, if_pos c] at q
        have nx : xs ≠ [] := fun z => c.2 (by have := rp.length; rw [z] at this; exact List.eq_nil_of_length_eq_zero this.symm)
        refine .inr (.inr ⟨p, p2, xs, xs2, rfl, rfl, hp, hp2, nx, by rw [rp.length, rp2.length]; exact line5 c.1, fun z => ?_, fun _ l hl => ?_⟩)
        · subst z
          cases rp2
          rw [List.append_nil] at q
          exact q _ H α Ext.refl h (.tup hp rp)
        · exact q _ _ α (Ext.new0 hl) (h.tup hl) (.tup (.inl (.inl upd_same)) (Reps.mono (Ext.new0 hl) (rp.append rp2)))
      · simp only [dAdd, if_neg c] at q
        exact q.elim
    | _ => exact q.elim
  | @ref p n hp =>
    cases rw' with
    | @ref p2 n2 hp2 =>
      cases e1 : M[n]? with
      | none => simp only [dAdd, e1] at q; exact q.elim
      | some o1 =>
        cases e2 : M[n2]? with
        | none => cases o1; simp only [dAdd, e1, e2] at q; exact q.elim
        | some o2 =>
          cases o1 with
          | lst ds =>
            cases o2 with
            | lst ds2 =>
              by_cases c : ds.length + ds2.length ≤ 10000000
              · simp only [dAdd, e1, e2, if_pos c] at q
                obtain ⟨xs, g1, r1⟩ := h.at hp e1
                obtain ⟨ys, g2, r2⟩ := h.at hp2 e2
                refine .inr (.inl ⟨p, p2, xs, ys, rfl, rfl, g1, g2, by rw [r1.length, r2.length]; exact Nat.le_trans c (by decide), fun l hl => ?_⟩)
                exact q _ _ (α ++ [l]) (Ext.new hl) (h.new hl (r1.append r2)) (.ref (h.last l))
              · simp only [dAdd, e1, e2, if_neg c] at q
                exact q.elim
    | _ => exact q.elim
  | _ => exact q.elim
variable {a b e : Expr} {fa fb : Ev} {pos : Pos}
theorem de_add (ha : DE X ξ a fa) (hb : DE X ξ b fb) : DE X ξ (.BinOp a .Add b pos) (e2 dAdd fa fb) := de_op op_addG bo_add ha hb
theorem de_sub (ha : DE X ξ a fa) (hb : DE X ξ b fb) : DE X ξ (.BinOp a .Sub b pos) (e2 dSub fa fb) := de_op op_sub bo_sub ha hb
theorem de_mul (ha : DE X ξ a fa) (hb : DE X ξ b fb) : DE X ξ (.BinOp a .Mult b pos) (e2 dMul fa fb) := de_op op_mulG bo_mul ha hb
theorem de_div (ha : DE X ξ a fa) (hb : DE X ξ b fb) : DE X ξ (.BinOp a .FloorDiv b pos) (e2 dDiv fa fb) := de_op op_fdivG bo_div ha hb
theorem de_mod (ha : DE X ξ a fa) (hb : DE X ξ b fb) : DE X ξ (.BinOp a .Mod b pos) (e2 dMod fa fb) := de_op op_modN bo_mod ha hb
theorem de_pow (ha : DE X ξ a fa) (hb : DE X ξ b fb) : DE X ξ (.BinOp a .Pow b pos) (e2 dPow fa fb) := de_op op_pow bo_pow ha hb
noncomputable def eNeg (f : Ev) : Ev := fun ρ M => (f ρ M).bind fun x M1 => match x with | .int i => .ok (.int (-i)) M1 | _ => .bad
theorem de_neg (ha : DE X ξ a fa) : DE X ξ (.UnaryOp .USub a pos) (eNeg fa) := by
  obtain ⟨ta, ha, qa⟩ := ha
  refine ⟨_, pe_un un_neg ha, fun σ ρ H α M Q s h q => ?_⟩
  refine qa σ ρ H α M _ s h (OG.seq q fun x M1 v H1 α1 e1 h1 r1 q1 => ?_)
  cases r1 with
  | int i => exact ⟨i, rfl, q1 _ H1 α1 Ext.refl h1 (.int (-i))⟩
  | _ => exact q1.elim
noncomputable def atD (xs : List D) (i : Int) (M : Sto) : Out D := match atI xs i with | some d => .ok d M | none => .bad
noncomputable def dIx : Bo := fun x y M => match x, y with
  | .tup xs, .int i => atD xs i M
  | .rol xs, .int i => atD xs i M
  | .ref n, .int i => match M[n]? with | some (.lst xs) => atD xs i M | _ => .bad
  | _, _ => .bad
theorem Reps.atI {K : PySem.W.Frag} {H : Hp} {α : List Addr} {vs : List V} {ds : List D} {i : Int} {d : D} (r : Reps K H α vs ds) (h : L2.atI ds i = some d) : ∃ v, L2.atI vs i = some v ∧ Rep K H α v d := by
  unfold L2.atI at h ⊢
  rw [r.length]
  cases e : ixN ds.length i with
  | none => rw [e] at h; cases h
  | some j =>
    rw [e] at h
    exact r.get h
theorem bo_ix : BO X ξ (fun x y H Q => rIxL X.K x y H Q ∨ rIxT X.K x y H Q) dIx := by
  intro H α M v w x y Q h rv rw' q
  cases rw' with
  | int i =>
    cases rv with
    | @tup p xs ds hp rp =>
      have q' : OP X.K H α ξ Q (atD ds i M) := q
      unfold atD at q'
      cases e : L2.atI ds i with
      | none => rw [e] at q'; exact q'.elim
      | some d =>
        rw [e] at q'
        obtain ⟨v, h1, h2⟩ := rp.atI e
        exact .inr ⟨p, xs, i, v, rfl, rfl, hp, h1, q' v H α Ext.refl h h2⟩
    | @rol p xs ds hp rp =>
      have q' : OP X.K H α ξ Q (atD ds i M) := q
      unfold atD at q'
      cases e : L2.atI ds i with
      | none => rw [e] at q'; exact q'.elim
      | some d =>
        rw [e] at q'
        obtain ⟨v, h1, h2⟩ := rp.atI e
        exact .inl ⟨p, xs, i, v, rfl, rfl, hp.sq, h1, q' v H α Ext.refl h h2⟩
    | @ref p n hp =>
      cases e1 : M[n]? with
      | none => simp only [dIx, e1] at q; exact q.elim
      | some o1 =>
        cases o1 with
        | lst ds =>
          simp only [dIx, e1, atD] at q
          obtain ⟨xs, g1, r1⟩ := h.at hp e1
          cases e : L2.atI ds i with
          | none => rw [e] at q; exact q.elim
          | some d =>
            rw [e] at q
            obtain ⟨v, h1, h2⟩ := r1.atI e
            exact .inl ⟨p, xs, i, v, rfl, rfl, SqL.of g1, h1, q v H α Ext.refl h h2⟩
    | _ => exact q.elim
  | _ => cases rv <;> exact q.elim
theorem de_ix (ha : DE X ξ a fa) (hb : DE X ξ b fb) (hs : PlainIx b := by exact fun _ _ => rfl) : DE X ξ (.Subscript a b pos) (e2 dIx fa fb) := by
  obtain ⟨ta, ha, qa⟩ := ha
  obtain ⟨tb, hb, qb⟩ := hb
  exact ⟨_, pe_ix (IxR.or ix_list ix_tup) ha hb hs, two bo_ix qa qb⟩
end

inductive Kd where
  | non | bl (b : Bool) | int (i : Int) | str (x : Str) | tup (xs : List D) | lst (xs : List D)
noncomputable def kd (M : Sto) : D → Option Kd
  | .non => some .non
  | .bl b => some (.bl b)
  | .int i => some (.int i)
  | .str x => some (.str x)
  | .tup xs => some (.tup xs)
  | .rol xs => some (.lst xs)
  | .ref n => match M[n]? with | some (.lst xs) => some (.lst xs) | _ => none
  | .err _ _ => none
noncomputable def eqL (f : D → D → Option Bool) : List D → List D → Option Bool
  | [], [] => some true
  | x :: xs, y :: ys => match f x y with | some a => (match eqL f xs ys with | some b => some (a && b) | none => none) | none => none
  | _, _ => some false
noncomputable def eqK (f : D → D → Option Bool) : Kd → Kd → Option Bool
  | .non, .non => some true
  | .bl a, .bl b => some (a == b)
  | .bl a, .int b => some ((if a then 1 else 0) == b)
  | .int a, .bl b => some (a == (if b then 1 else 0))
  | .int a, .int b => some (a == b)
  | .str a, .str b => some (a == b)
  | .tup xs, .tup ys => eqL f xs ys
  | .lst xs, .lst ys => if xs.length = ys.length then eqL f xs ys else some false
  | _, _ => some false
noncomputable def eqF : Nat → Sto → D → D → Option Bool
  | 0, _, _, _ => none
  | n + 1, M, x, y => match kd M x, kd M y with | some a, some b => eqK (eqF n M) a b | _, _ => none

inductive Vw (X : Cx) (H : Hp) (α : List Addr) (s : Shared) : Kd → Value → Prop where
  | non : Vw X H α s .non .none
  | bl (b : Bool) : Vw X H α s (.bl b) (.bool b)
  | int (i : Int) (t : Tok) : Vw X H α s (.int i) (.int i t)
  | str (x : Str) (t : Tok) : Vw X H α s (.str x) (.str x t)
  | tup {p : Addr} {xs : List V} {ds : List D} {its : List Value} : s.heap.IsTuple p its.toArray → Vals xs its → Reps X.K H α xs ds → Vw X H α s (.tup ds) (.ref p)
  | lst {p : Addr} {xs : List V} {ds : List D} {its : List Value} : s.heap.IsList p its.toArray → Vals xs its → Reps X.K H α xs ds → Vw X H α s (.lst ds) (.ref p)
section
variable {X : Cx} {ξ : XK} {pins : List (Addr × Obj)} {σ : L2.St} {H : Hp} {s : Shared} {α : List Addr} {M : Sto}
theorem vw (I : Inv X pins σ H s) (h : HR X.K H α M) {v : V} {x : D} {u : Value} {k : Kd} (r : Rep X.K H α v x) (ru : RelV v u) (e : kd M x = some k) : Vw X H α s k u := by
  cases r with
  | non => cases e; cases ru; exact .non
  | bl b => cases e; cases ru; exact .bl b
  | int i => cases e; obtain ⟨t, rfl⟩ := ru; exact .int i t
  | str x => cases e; obtain ⟨t, rfl⟩ := ru; exact .str x t
  | err _ _ _ => cases e
  | @tup p xs ds hp rp =>
    cases e; cases ru
    obtain ⟨its, h1, h2, _⟩ := I.tuple hp
    exact .tup h2 h1 rp
  | @rol p xs ds hp rp =>
    cases e; cases ru
    obtain ⟨its, h1, h2, _⟩ := I.list hp.sq
    exact .lst h2.isList h1 rp
  | @ref p n hp =>
    cases ru
    cases e1 : M[n]? with
    | none => simp only [kd, e1] at e; cases e
    | some o =>
      cases o with
      | lst ds =>
        simp only [kd, e1] at e
        cases e
        obtain ⟨xs, g1, r1⟩ := h.at hp e1
        obtain ⟨its, h1, h2, _⟩ := I.list (SqL.of g1)
        exact .lst h2.isList h1 r1
noncomputable def Eq3 (A : Around) (s : Shared) (u z : Value) (b : Bool) : Prop := EqAt A s u z b ∧ RcAt A s u z b ∧ RcNeAt A s u z (!b)
theorem eqL_get {f : D → D → Option Bool} : ∀ {xs ys : List D} {b : Bool}, eqL f xs ys = some b →
    (∀ (j : Nat) x y, xs[j]? = some x → ys[j]? = some y → ∃ c, f x y = some c) ∧
    b = ((List.range (min xs.length ys.length)).all (fun j => match xs[j]?, ys[j]? with | some x, some y => (f x y).getD false | _, _ => false) && xs.length == ys.length)
  | [], [], b, e => by
    simp only [eqL, Option.some.injEq] at e
    subst e
    exact ⟨fun j x y h => (by simp at h), (by simp)⟩
  | x :: xs, [], b, e => by
    simp only [eqL, Option.some.injEq] at e
    subst e
    exact ⟨fun j x y h1 h2 => (by simp at h2), (by simp)⟩
  | [], y :: ys, b, e => by
    simp only [eqL, Option.some.injEq] at e
    subst e
    exact ⟨fun j x y h1 h2 => (by simp at h1), (by simp)⟩
  | x :: xs, y :: ys, b, e => by
    cases e1 : f x y with
    | none => simp only [eqL, e1] at e; cases e
    | some a =>
      cases e2 : eqL f xs ys with
      | none => simp only [eqL, e1, e2] at e; cases e
      | some c =>
        simp only [eqL, e1, e2, Option.some.injEq] at e
        subst e
        obtain ⟨h1, h2⟩ := eqL_get e2
        refine ⟨fun j x' y' g1 g2 => ?_, ?_⟩
        · cases j with
          | zero =>
            simp at g1 g2
            subst g1 g2
            exact ⟨a, e1⟩
          | succ j =>
            simp at g1 g2
            exact h1 j x' y' g1 g2
        · have em : min (x :: xs).length (y :: ys).length = min xs.length ys.length + 1 := by simp only [List.length_cons]; omega
          rw [em, List.range_succ_eq_map, List.all_cons, List.all_map, h2]
          simp [e1, Bool.and_assoc, Function.comp_def]
theorem same_rep (I : Inv X pins σ H s) (h : HR X.K H α M) : ∀ (n : Nat) {v : V} {x y : D} {b : Bool}, Rep X.K H α v x → Rep X.K H α v y → eqF n M x y = some b → b = true := by
  intro n
  induction n with
  | zero => intro v x y b _ _ e; simp only [eqF] at e; cases e
  | succ n ih =>
    have lists : ∀ (vs : List V) (xs ys : List D) (b : Bool), Reps X.K H α vs xs → Reps X.K H α vs ys → eqL (eqF n M) xs ys = some b → b = true := by
      intro vs
      induction vs with
      | nil =>
        intro xs ys b r1 r2 e
        cases r1; cases r2
        simp only [eqL, Option.some.injEq] at e
        exact e.symm
      | cons v vs iv =>
        intro xs ys b r1 r2 e
        cases r1 with
        | cons p1 t1 =>
          cases r2 with
          | cons p2 t2 =>
            rename_i d1 ds1 d2 ds2
            cases e1 : eqF n M d1 d2 with
            | none => simp only [eqL, e1] at e; cases e
            | some a =>
              cases e2 : eqL (eqF n M) ds1 ds2 with
              | none => simp only [eqL, e1, e2] at e; cases e
              | some c =>
                simp only [eqL, e1, e2, Option.some.injEq] at e
                rw [← e, ih p1 p2 e1, iv _ _ _ t1 t2 e2]
                rfl
    intro v x y b r1 r2 e
    have nl : ∀ {p : Addr} {xs ys : List V}, SqT X.K H p xs → SqL X.K H p ys → False := fun {p xs ys} a c => by
      obtain ⟨i1, _, ⟨o1, g1, c1, _⟩, _⟩ := I.tuple a
      obtain ⟨i2, _, ⟨o2, _, g2, c2, _⟩, _⟩ := I.list c
      rw [g1] at g2
      cases g2
      rw [c1] at c2
      exact absurd c2 (by decide)
    have ll : ∀ {p : Addr} {n : Nat} {ds : List D}, α[n]? = some p → M[n]? = some (.lst ds) → ∃ vs, SqL X.K H p vs ∧ Reps X.K H α vs ds := fun {p n ds} a c => by
      obtain ⟨xs, g1, r1⟩ := h.at a c
      exact ⟨xs, SqL.of g1, r1⟩
    cases r1 with
    | non => cases r2; simp only [eqF, kd, eqK, Option.some.injEq] at e; exact e.symm
    | bl c => cases r2; simp only [eqF, kd, eqK, Option.some.injEq, beq_self_eq_true] at e; exact e.symm
    | int c => cases r2; simp only [eqF, kd, eqK, Option.some.injEq, beq_self_eq_true] at e; exact e.symm
    | str c => cases r2; simp only [eqF, kd, eqK, Option.some.injEq, beq_self_eq_true] at e; exact e.symm
    | err _ _ _ => simp [eqF, kd] at e
    | @tup p xs ds hp rp =>
      cases r2 with
      | @tup _ xs2 ds2 hp2 rp2 =>
        cases I.tuple_inj hp hp2
        simp only [eqF, kd, eqK] at e
        exact lists _ _ _ _ rp rp2 e
      | @rol _ xs2 ds2 hp2 rp2 => exact (nl hp hp2.sq).elim
      | err _ _ _ => simp [eqF, kd] at e
      | @ref _ n2 hp2 =>
        obtain ⟨ys, g⟩ := h.some_at hp2
        exact (nl hp (SqL.of g)).elim
    | @rol p xs ds hp rp =>
      cases r2 with
      | @tup _ xs2 ds2 hp2 rp2 => exact (nl hp2 hp.sq).elim
      | err _ _ _ => simp [eqF, kd] at e
      | @rol _ xs2 ds2 hp2 rp2 =>
        cases I.list_inj hp.sq hp2.sq
        simp only [eqF, kd, eqK, if_pos (rp.length.symm.trans rp2.length)] at e
        exact lists _ _ _ _ rp rp2 e
      | @ref _ n2 hp2 =>
        cases e1 : M[n2]? with
        | none => simp only [eqF, kd, e1] at e; cases e
        | some o =>
          cases o with
          | lst ds2 =>
            obtain ⟨ys, g, r⟩ := ll hp2 e1
            cases I.list_inj hp.sq g
            simp only [eqF, kd, e1, eqK, if_pos (rp.length.symm.trans r.length)] at e
            exact lists _ _ _ _ rp r e
    | @ref p n1 hp =>
      cases e0 : M[n1]? with
      | none => simp only [eqF, kd, e0] at e; cases e
      | some o0 =>
        cases o0 with
        | lst ds =>
          obtain ⟨xs, g0, rp⟩ := ll hp e0
          cases r2 with
          | @tup _ xs2 ds2 hp2 rp2 => exact (nl hp2 g0).elim
          | err _ _ _ => simp [eqF, kd, e0] at e
          | @rol _ xs2 ds2 hp2 rp2 =>
            cases I.list_inj g0 hp2.sq
            simp only [eqF, kd, e0, eqK, if_pos (rp.length.symm.trans rp2.length)] at e
            exact lists _ _ _ _ rp rp2 e
          | @ref _ n2 hp2 =>
            cases e1 : M[n2]? with
            | none => simp only [eqF, kd, e0, e1] at e; cases e
            | some o =>
              cases o with
              | lst ds2 =>
                obtain ⟨ys, g, r⟩ := ll hp2 e1
                cases I.list_inj g0 g
                simp only [eqF, kd, e0, e1, eqK, if_pos (rp.length.symm.trans r.length)] at e
                exact lists _ _ _ _ rp r e
end
end DL


end
section
set_option Elab.async false
set_option linter.all false
set_option maxRecDepth 100000
set_option maxHeartbeats 4000000
namespace DL
open PySem PySem.Spec PyProof.Rows L2
open PySem.SeqAt (EqAt RcAt RcNeAt)
section
variable {X : Cx} {ξ : XK} {pins : List (Addr × Obj)} {σ : L2.St} {H : Hp} {s : Shared} {α : List Addr} {M : Sto}
theorem items_eq {A : Around} {n : Nat} {xs1 xs2 : List V} {ds1 ds2 : List D} {i1 i2 : List Value} {b : Bool} (v1 : Vals xs1 i1) (v2 : Vals xs2 i2) (r1 : Reps X.K H α xs1 ds1) (r2 : Reps X.K H α xs2 ds2)
    (ih : ∀ (x y : D) (v w : V) (u z : Value) (b : Bool), eqF n M x y = some b → Rep X.K H α v x → Rep X.K H α w y → RelV v u → RelV w z → EqAt A s u z b) (e : eqL (eqF n M) ds1 ds2 = some b) :
    ∃ f : Nat → Bool, (∀ (j : Nat) (h1 : j < i1.toArray.size) (h2 : j < i2.toArray.size), EqAt A s i1.toArray[j] i2.toArray[j] (f j)) ∧ b = ((List.range (min i1.toArray.size i2.toArray.size)).all f && i1.toArray.size == i2.toArray.size) := by
  obtain ⟨g1, g2⟩ := eqL_get e
  have l1 : i1.toArray.size = ds1.length := by rw [List.size_toArray, ← v1.length, r1.length]
  have l2 : i2.toArray.size = ds2.length := by rw [List.size_toArray, ← v2.length, r2.length]
  refine ⟨_, fun j h1 h2 => ?_, by rw [l1, l2]; exact g2⟩
  have k1 : j < ds1.length := by rw [← l1]; exact h1
  have k2 : j < ds2.length := by rw [← l2]; exact h2
  obtain ⟨c, hc⟩ := g1 j _ _ (List.getElem?_eq_getElem k1) (List.getElem?_eq_getElem k2)
  obtain ⟨v, a1, a2⟩ := r1.get (List.getElem?_eq_getElem k1)
  obtain ⟨w, b1, b2⟩ := r2.get (List.getElem?_eq_getElem k2)
  obtain ⟨u, a3, a4⟩ := v1.get a1
  obtain ⟨z, b3, b4⟩ := v2.get b1
  have q := ih _ _ v w u z c hc a2 b2 a4 b4
  simp only [List.getElem?_eq_getElem k1, List.getElem?_eq_getElem k2, hc, Option.getD_some]
  have e1 : i1.toArray[j] = u := by
    have := List.getElem?_eq_some_iff.mp a3
    obtain ⟨_, z⟩ := this
    simpa using z
  have e2 : i2.toArray[j] = z := by
    have := List.getElem?_eq_some_iff.mp b3
    obtain ⟨_, z⟩ := this
    simpa using z
  rw [e1, e2]
  exact q
theorem refs3 (I : Inv X pins σ H s) (h : HR X.K H α M) {n : Nat} {x y : D} {v w : V} {p q : Addr} {b : Bool} {A : Around} (e : eqF n M x y = some b) (rx : Rep X.K H α v x) (ry : Rep X.K H α w y) (rv : RelV v (.ref p)) (rw' : RelV w (.ref q))
    (k : RcAt A s (.ref p) (.ref q) b) (k' : RcNeAt A s (.ref p) (.ref q) (!b)) : Eq3 A s (.ref p) (.ref q) b := by
  refine ⟨?_, k, k'⟩
  by_cases c : p = q
  · subst c
    cases RelV.inj rv rw'
    rw [same_rep I h n rx ry e]
    exact EqAt.same _
  · exact EqAt.of_refs c k
theorem eq3 (I : Inv X pins σ H s) (h : HR X.K H α M) : ∀ (n : Nat) (x y : D) (v w : V) (u z : Value) (b : Bool) (A : Around), A.units + n < cLine → eqF n M x y = some b → Rep X.K H α v x → Rep X.K H α w y → RelV v u → RelV w z → Eq3 A s u z b := by
  intro n
  induction n with
  | zero => intro x y v w u z b A _ e; simp only [eqF] at e; cases e
  | succ n ih =>
    intro x y v w u z b A hn e rx ry rv rw'
    have hu : A.units < cLine := by omega
    have e0 := e
    unfold eqF at e
    cases ka : kd M x with
    | none => rw [ka] at e; cases e
    | some ka' =>
      cases kb : kd M y with
      | none => rw [ka, kb] at e; cases e
      | some kb' =>
        rw [ka, kb] at e
        have va := vw I h rx rv ka
        have vb := vw I h ry rw' kb
        have deep : ∀ (x y : D) (v w : V) (u z : Value) (b : Bool), eqF n M x y = some b → Rep X.K H α v x → Rep X.K H α w y → RelV v u → RelV w z → EqAt A.in1 s u z b := fun x y v w u z b e a1 a2 a3 a4 =>
          (ih x y v w u z b A.in1 (by rw [Around.in1_units]; omega) e a1 a2 a3 a4).1
        cases va with
        | non =>
          cases vb <;> simp only [eqK, Option.some.injEq] at e <;> subst e
          · exact ⟨EqAt.same _, .none_none, .none_none⟩
          · exact ⟨.none_bool _, .none_bool _, .none_bool _⟩
          · exact ⟨.none_int _ _, .none_int _ _, .none_int _ _⟩
          · exact ⟨.none_str _ _, .none_str _ _, .none_str _ _⟩
          · rename_i g _ _; exact ⟨.none_tuple g hu, .none_tuple g hu, .none_tuple g hu⟩
          · rename_i g _ _; exact ⟨.none_list g hu, .none_list g hu, .none_list g hu⟩
        | bl c =>
          cases vb <;> simp only [eqK, Option.some.injEq] at e <;> subst e
          · exact ⟨.bool_none _, .bool_none _, .bool_none _⟩
          · exact ⟨.bool_bool _ _, .bool_bool _ _, .bool_bool _ _⟩
          · exact ⟨.bool_int _ _ _, .bool_int _ _ _, .bool_int _ _ _⟩
          · exact ⟨.bool_str _ _ _, .bool_str _ _ _, .bool_str _ _ _⟩
          · rename_i g _ _; exact ⟨.bool_tuple _ g hu, .bool_tuple _ g hu, .bool_tuple _ g hu⟩
          · rename_i g _ _; exact ⟨.bool_list _ g hu, .bool_list _ g hu, .bool_list _ g hu⟩
        | int c t =>
          cases vb <;> simp only [eqK, Option.some.injEq] at e <;> subst e
          · exact ⟨.int_none _ _, .int_none _ _, .int_none _ _⟩
          · exact ⟨.int_bool _ _ _, .int_bool _ _ _, .int_bool _ _ _⟩
          · exact ⟨.int_int _ _ _ _, .int_int _ _ _ _, .int_int _ _ _ _⟩
          · exact ⟨.int_str _ _ _ _, .int_str _ _ _ _, .int_str _ _ _ _⟩
          · rename_i g _ _; exact ⟨.int_tuple _ _ g hu, .int_tuple _ _ g hu, .int_tuple _ _ g hu⟩
          · rename_i g _ _; exact ⟨.int_list _ _ g hu, .int_list _ _ g hu, .int_list _ _ g hu⟩
        | str c t =>
          cases vb <;> simp only [eqK, Option.some.injEq] at e <;> subst e
          · exact ⟨.str_none _ _, .str_none _ _, .str_none _ _⟩
          · exact ⟨.str_bool _ _ _, .str_bool _ _ _, .str_bool _ _ _⟩
          · exact ⟨.str_int _ _ _ _, .str_int _ _ _ _, .str_int _ _ _ _⟩
          · exact ⟨.str_str _ _ _ _, .str_str _ _ _ _, .str_str _ _ _ _⟩
          · rename_i g _ _; exact ⟨.str_tuple _ _ g hu, .str_tuple _ _ g hu, .str_tuple _ _ g hu⟩
          · rename_i g _ _; exact ⟨.str_list _ _ g hu, .str_list _ _ g hu, .str_list _ _ g hu⟩
        | @tup p xs ds its g1 w1 q1 =>
          cases vb with
          | @tup p2 xs2 ds2 its2 g2 w2 q2 =>
            simp only [eqK] at e
            obtain ⟨f, hf, hb⟩ := items_eq w1 w2 q1 q2 deep e
            subst hb
            exact refs3 I h e0 rx ry rv rw' (.tuples g1 g2 hu hf) (.tuples g1 g2 hu hf)
          | @lst p2 xs2 ds2 its2 g2 w2 q2 =>
            simp only [eqK, Option.some.injEq] at e
            subst e
            exact refs3 I h e0 rx ry rv rw' (.tuple_list g1 g2 hu) (.tuple_list g1 g2 hu)
          | non => simp only [eqK, Option.some.injEq] at e; subst e; exact ⟨.tuple_none g1 hu, .tuple_none g1 hu, .tuple_none g1 hu⟩
          | bl c => simp only [eqK, Option.some.injEq] at e; subst e; exact ⟨.tuple_bool _ g1 hu, .tuple_bool _ g1 hu, .tuple_bool _ g1 hu⟩
          | int c t => simp only [eqK, Option.some.injEq] at e; subst e; exact ⟨.tuple_int _ _ g1 hu, .tuple_int _ _ g1 hu, .tuple_int _ _ g1 hu⟩
          | str c t => simp only [eqK, Option.some.injEq] at e; subst e; exact ⟨.tuple_str _ _ g1 hu, .tuple_str _ _ g1 hu, .tuple_str _ _ g1 hu⟩
        | @lst p xs ds its g1 w1 q1 =>
          cases vb with
          | @lst p2 xs2 ds2 its2 g2 w2 q2 =>
            simp only [eqK] at e
            have l1 : its.toArray.size = ds.length := by rw [List.size_toArray, ← w1.length, q1.length]
            have l2 : its2.toArray.size = ds2.length := by rw [List.size_toArray, ← w2.length, q2.length]
            by_cases c : ds.length = ds2.length
            · rw [if_pos c] at e
              have hs : its.toArray.size = its2.toArray.size := by rw [l1, l2, c]
              obtain ⟨f, hf, hb⟩ := items_eq w1 w2 q1 q2 deep e
              rw [hs, Nat.min_self, beq_self_eq_true, Bool.and_true, ← hs] at hb
              subst hb
              exact refs3 I h e0 rx ry rv rw' (.lists g1 g2 hs hu hf) (.lists g1 g2 hs hu hf)
            · rw [if_neg c] at e
              have e' : false = b := Option.some.inj e
              subst e'
              have hs : (its.toArray.size != its2.toArray.size) = true := by rw [l1, l2]; simpa using c
              exact refs3 I h e0 rx ry rv rw' (.lists_lengths g1 g2 hs hu) (.lists_lengths g1 g2 hs hu)
          | @tup p2 xs2 ds2 its2 g2 w2 q2 =>
            simp only [eqK, Option.some.injEq] at e
            subst e
            exact refs3 I h e0 rx ry rv rw' (.list_tuple g1 g2 hu) (.list_tuple g1 g2 hu)
          | non => simp only [eqK, Option.some.injEq] at e; subst e; exact ⟨.list_none g1 hu, .list_none g1 hu, .list_none g1 hu⟩
          | bl c => simp only [eqK, Option.some.injEq] at e; subst e; exact ⟨.list_bool _ g1 hu, .list_bool _ g1 hu, .list_bool _ g1 hu⟩
          | int c t => simp only [eqK, Option.some.injEq] at e; subst e; exact ⟨.list_int _ _ g1 hu, .list_int _ _ g1 hu, .list_int _ _ g1 hu⟩
          | str c t => simp only [eqK, Option.some.injEq] at e; subst e; exact ⟨.list_str _ _ g1 hu, .list_str _ _ g1 hu, .list_str _ _ g1 hu⟩
end
section
variable {X : Cx} {ξ : XK}
noncomputable def rEqD (X : Cx) (neg : Bool) : R2 := fun v w H Q => ∃ α M x y b, HR X.K H α M ∧ Rep X.K H α v x ∧ Rep X.K H α w y ∧ eqF 12 M x y = some b ∧ Q (.bl (neg ^^ b)) H
theorem op_eqD (hu : X.A.units + 64 < cLine) : OpR X (compareOp .Eq) (rEqD X false) := by
  intro pins s σ H v w u z Q I rv rw' ⟨α, M, x, y, b, h, rx, ry, e, q⟩
  refine (eq3 I h 12 x y v w u z b X.A (by omega) e rx ry rv rw').2.1 _ _ _ _ ⟨.bl b, H, I, rfl, ?_⟩
  simpa using q
theorem op_neD (hu : X.A.units + 64 < cLine) : OpR X (compareOp .NotEq) (rEqD X true) := by
  intro pins s σ H v w u z Q I rv rw' ⟨α, M, x, y, b, h, rx, ry, e, q⟩
  refine (eq3 I h 12 x y v w u z b X.A (by omega) e rx ry rv rw').2.2 _ _ _ _ ⟨.bl (!b), H, I, rfl, ?_⟩
  simpa using q
noncomputable def dEq : Bo := fun x y M => match eqF 12 M x y with | some b => .ok (.bl b) M | none => .bad
noncomputable def dNe : Bo := fun x y M => match eqF 12 M x y with | some b => .ok (.bl (!b)) M | none => .bad
theorem bo_eq : BO X ξ (rEqD X false) dEq := by
  intro H α M v w x y Q h rv rw' q
  unfold dEq at q
  cases e : eqF 12 M x y with
  | none => rw [e] at q; exact q.elim
  | some b => rw [e] at q; exact ⟨α, M, x, y, b, h, rv, rw', e, by simpa using q _ H α Ext.refl h (.bl b)⟩
theorem bo_ne : BO X ξ (rEqD X true) dNe := by
  intro H α M v w x y Q h rv rw' q
  unfold dNe at q
  cases e : eqF 12 M x y with
  | none => rw [e] at q; exact q.elim
  | some b => rw [e] at q; exact ⟨α, M, x, y, b, h, rv, rw', e, by simpa using q _ H α Ext.refl h (.bl (!b))⟩
noncomputable def isP : D → D → Option Bool
  | .non, .non => some true
  | .bl a, .bl b => some (a == b)
  | _, .non => some false
  | _, .bl _ => some false
  | _, _ => none
noncomputable def dIs : Bo := fun x y M => match isP x y with | some b => .ok (.bl b) M | none => .bad
noncomputable def dIsNot : Bo := fun x y M => match isP x y with | some b => .ok (.bl (!b)) M | none => .bad
noncomputable def flatD : D → Bool
  | .non => true
  | .bl _ => true
  | .int _ => true
  | .str _ => true
  | _ => false
noncomputable def eqFl : D → D → Bool
  | .non, .non => true
  | .bl a, .bl b => a == b
  | .bl a, .int b => (if a then 1 else 0) == b
  | .int a, .bl b => a == (if b then 1 else 0)
  | .int a, .int b => a == b
  | .str a, .str b => a == b
  | _, _ => false
noncomputable def seqD (M : Sto) : D → Option (List D)
  | .tup xs => some xs
  | .rol xs => some xs
  | .ref n => match M[n]? with | some (.lst xs) => some xs | _ => none
  | _ => none
theorem seqD_ok {K : PySem.W.Frag} {H : Hp} {α : List Addr} {M : Sto} (h : HR K H α M) {v : V} {x : D} {ds : List D} (r : Rep K H α v x) (e : seqD M x = some ds) : ∃ p xs, v = .ref p ∧ (SqL K H p xs ∨ SqT K H p xs) ∧ Reps K H α xs ds := by
  cases r with
  | @tup p xs ds hp rp => cases e; exact ⟨p, xs, rfl, .inr hp, rp⟩
  | @rol p xs ds hp rp => cases e; exact ⟨p, xs, rfl, .inl hp.sq, rp⟩
  | @ref p n hp =>
    cases e1 : M[n]? with
    | none => simp only [seqD, e1] at e; cases e
    | some o =>
      cases o with
      | lst es =>
        simp only [seqD, e1] at e
        cases e
        obtain ⟨xs, g1, r1⟩ := h.at hp e1
        exact ⟨p, xs, rfl, .inl (SqL.of g1), r1⟩
  | _ => cases e
noncomputable def inD (x y : D) (M : Sto) : Option Bool := match seqD M y with | some ds => if flatD x = true ∧ ds.all flatD = true then some (ds.any fun y => eqFl y x) else none | none => none
variable {e : Expr} {es : List Expr} {fs : Av} {fa : Ev} {p pos : Pos} {x : Str} {id T : String} {r : List V → Hp → VK → Prop} {f : List D → Sto → Out D}
noncomputable def eCall (f : List D → Sto → Out D) (fs : Av) : Ev := fun ρ M => (fs ρ M).bind f
noncomputable def CO (X : Cx) (ξ : XK) (r : List V → Hp → VK → Prop) (f : List D → Sto → Out D) : Prop := ∀ H α M vs ds Q, HR X.K H α M → Reps X.K H α vs ds → OP X.K H α ξ Q (f ds M) → r vs H Q
theorem de_callB (hc : CallR X (.builtin id) r) (hf : CO X ξ r f) (hm : X.mg x = none) (hv : bootBuiltins x = some (.builtin id)) (ha : DA X ξ (e :: es) fs) (hg : Gl X x := by rfl) (hn : x ≠ "__name__" := by decide) (hdb : (x == ("__debug__" : Str)) = false := by decide)
    (he : starEach (e :: es) X.env = (false, eval e X.env) :: starEach es X.env := by rfl) (hpl : (backTo pos (starEach es X.env)).any (·.1) = false := by rfl) : DE X ξ (.Call (.Name x p) (e :: es) [] pos) (eCall f fs) := by
  obtain ⟨ta, ha, qa⟩ := ha
  refine ⟨_, pe_callB hc hg hm hv ha hn hdb he hpl, fun σ ρ H α M Q s h q => ?_⟩
  exact qa σ ρ H α M _ s h (OG.seq q fun ds M1 vs H1 α1 e1 h1 r1 q1 => hf H1 α1 M1 vs ds Q h1 r1 q1)
theorem de_callTy (hc : CallR X (.type T) r) (hf : CO X ξ r f) (hm : X.mg x = none) (hv : bootBuiltins x = some (.type T)) (ha : DA X ξ (e :: es) fs) (hg : Gl X x := by rfl) (hn : x ≠ "__name__" := by decide) (hdb : (x == ("__debug__" : Str)) = false := by decide)
    (he : starEach (e :: es) X.env = (false, eval e X.env) :: starEach es X.env := by rfl) (hpl : (backTo pos (starEach es X.env)).any (·.1) = false := by rfl) : DE X ξ (.Call (.Name x p) (e :: es) [] pos) (eCall f fs) := by
  obtain ⟨ta, ha, qa⟩ := ha
  refine ⟨_, pe_callTy hc hg hm hv ha hn hdb he hpl, fun σ ρ H α M Q s h q => ?_⟩
  exact qa σ ρ H α M _ s h (OG.seq q fun ds M1 vs H1 α1 e1 h1 r1 q1 => hf H1 α1 M1 vs ds Q h1 r1 q1)
noncomputable def bLen : List D → Sto → Out D := fun ds M => match ds with
  | [x] => match seqD M x with | some xs => .ok (.int xs.length) M | none => .bad
  | _ => .bad
theorem co_len : CO X ξ (fun xs H Q => ∃ p ys, xs = [.ref p] ∧ (SqL X.K H p ys ∨ SqT X.K H p ys) ∧ Q (.int ys.length) H) bLen := by
  intro H α M vs ds Q h rs q
  unfold bLen at q
  match rs with
  | .nil => exact q.elim
  | .cons (.non) (.cons _ _) => exact q.elim
  | .cons _ (.cons _ _) => exact q.elim
  | .cons (d := x) r .nil =>
    cases e : seqD M x with
    | none => simp only [e] at q; exact q.elim
    | some ys =>
      simp only [e] at q
      obtain ⟨p, xs, rfl, h2, h3⟩ := seqD_ok h r e
      exact ⟨p, xs, rfl, h2, by rw [h3.length]; exact q _ H α Ext.refl h (.int _)⟩
noncomputable def bAbs : List D → Sto → Out D := fun ds M => match ds with | [.int i] => .ok (.int (if i < 0 then -i else i)) M | _ => .bad
theorem co_abs : CO X ξ (fun xs H Q => ∃ i, xs = [.int i] ∧ Q (.int (if i < 0 then -i else i)) H) bAbs := by
  intro H α M vs ds Q h rs q
  match rs with
  | .nil => exact q.elim
  | .cons r (.cons _ _) => cases r <;> exact q.elim
  | .cons r .nil =>
    cases r with
    | int i => exact ⟨i, rfl, q _ H α Ext.refl h (.int _)⟩
    | _ => exact q.elim
noncomputable def bMax : List D → Sto → Out D := fun ds M => match ds with | [.int i, .int j] => .ok (.int (if j > i then j else i)) M | _ => .bad
noncomputable def bMin : List D → Sto → Out D := fun ds M => match ds with | [.int i, .int j] => .ok (.int (if j < i then j else i)) M | _ => .bad
theorem co_two {g : Int → Int → Int} {f : List D → Sto → Out D} (hf : ∀ ds M, f ds M = match ds with | [.int i, .int j] => .ok (.int (g i j)) M | _ => .bad) : CO X ξ (fun xs H Q => ∃ i j, xs = [.int i, .int j] ∧ Q (.int (g i j)) H) f := by
  intro H α M vs ds Q h rs q
  rw [hf] at q
  match rs with
  | .nil => exact q.elim
  | .cons r .nil => cases r <;> exact q.elim
  | .cons r (.cons r' (.cons _ _)) => cases r <;> cases r' <;> exact q.elim
  | .cons r (.cons r' .nil) =>
    cases r with
    | int i =>
      cases r' with
      | int j => exact ⟨i, j, rfl, q _ H α Ext.refl h (.int _)⟩
      | _ => exact q.elim
    | _ => cases r' <;> exact q.elim
theorem co_max : CO X ξ (fun xs H Q => ∃ i j, xs = [.int i, .int j] ∧ Q (.int (if j > i then j else i)) H) bMax := co_two (g := fun i j => if j > i then j else i) fun ds M => rfl
theorem co_min : CO X ξ (fun xs H Q => ∃ i j, xs = [.int i, .int j] ∧ Q (.int (if j < i then j else i)) H) bMin := co_two (g := fun i j => if j < i then j else i) fun ds M => rfl
noncomputable def bInt : List D → Sto → Out D := fun ds M => match ds with | [.int i] => .ok (.int i) M | [.bl k] => .ok (.int (if k then 1 else 0)) M | _ => .bad
theorem co_int : CO X ξ (fun xs H Q => (∃ i, xs = [.int i] ∧ Q (.int i) H) ∨ ∃ k, xs = [.bl k] ∧ Q (.int (if k then 1 else 0)) H) bInt := by
  intro H α M vs ds Q h rs q
  match rs with
  | .nil => exact q.elim
  | .cons r (.cons _ _) => cases r <;> exact q.elim
  | .cons r .nil =>
    cases r with
    | int i => exact .inl ⟨i, rfl, q _ H α Ext.refl h (.int _)⟩
    | bl k => exact .inr ⟨k, rfl, q _ H α Ext.refl h (.int _)⟩
    | _ => exact q.elim
noncomputable def bList : List D → Sto → Out D := fun ds M => match ds with
  | [x] => match seqD M x with | some xs => .ok (.ref M.length) (M ++ [.lst xs]) | none => .bad
  | _ => .bad
theorem co_list : CO X ξ (fun xs H Q => ∃ p ys, xs = [.ref p] ∧ (SqL X.K H p ys ∨ SqT X.K H p ys) ∧ ∀ l, H l = none → Q (.ref l) (upd H l (.lst ys))) bList := by
  intro H α M vs ds Q h rs q
  unfold bList at q
  match rs with
  | .nil => exact q.elim
  | .cons _ (.cons _ _) => exact q.elim
  | .cons (d := x) r .nil =>
    cases e : seqD M x with
    | none => simp only [e] at q; exact q.elim
    | some ys =>
      simp only [e] at q
      obtain ⟨p, xs, rfl, h2, h3⟩ := seqD_ok h r e
      exact ⟨p, xs, rfl, h2, fun l hl => q _ _ (α ++ [l]) (Ext.new hl) (h.new hl h3) (.ref (h.last l))⟩
noncomputable def tyName (M : Sto) (x : D) : Option String := match kd M x with
  | some .non => some "NoneType"
  | some (.bl _) => some "bool"
  | some (.int _) => some "int"
  | some (.str _) => some "str"
  | some (.tup _) => some "tuple"
  | some (.lst _) => some "list"
  | none => none
noncomputable def isiT (t T : String) : Bool := t == T || (t == "bool" && T == "int")
noncomputable def eIsi (T : String) (f : Ev) : Ev := fun ρ M => (f ρ M).bind fun x M1 => match tyName M1 x with | some t => .ok (.bl (isiT t T)) M1 | none => .bad
noncomputable def rIsi (X : Cx) (T : String) : List V → Hp → VK → Prop := fun vs H Q => ∃ v α M x t, vs = [v, .ty T] ∧ HR X.K H α M ∧ Rep X.K H α v x ∧ tyName M x = some t ∧ Q (.bl (isiT t T)) H
structure Kit (K : PySem.W.Frag) (T : String) : Prop where
  non : PySem.W.kitOne K (.type "NoneType") (.type T) = some (isiT "NoneType" T)
  bl : PySem.W.kitOne K (.type "bool") (.type T) = some (isiT "bool" T)
  int : PySem.W.kitOne K (.type "int") (.type T) = some (isiT "int" T)
  str : PySem.W.kitOne K (.type "str") (.type T) = some (isiT "str" T)
  tup : PySem.W.kitOne K (.type "tuple") (.type T) = some (isiT "tuple" T)
  lst : PySem.W.kitOne K (.type "list") (.type T) = some (isiT "list" T)
theorem kit_int {K : PySem.W.Frag} : Kit K "int" := ⟨rfl, rfl, rfl, rfl, rfl, rfl⟩
theorem kit_bool {K : PySem.W.Frag} : Kit K "bool" := ⟨rfl, rfl, rfl, rfl, rfl, rfl⟩
theorem kit_tuple {K : PySem.W.Frag} : Kit K "tuple" := ⟨rfl, rfl, rfl, rfl, rfl, rfl⟩
theorem kit_list {K : PySem.W.Frag} : Kit K "list" := ⟨rfl, rfl, rfl, rfl, rfl, rfl⟩
theorem call_isi (kt : Kit X.K T) : CallR X (.builtin "isinstance") (rIsi X T) := by
  intro pins s σ H vs us Q I rs ⟨v, α, M, x, t, e1, h, rx, et, q⟩
  subst e1
  obtain ⟨u, w, rfl, ru, rw'⟩ := vals2 rs
  cases rw'
  unfold tyName at et
  cases ek : kd M x with
  | none => rw [ek] at et; cases et
  | some k =>
    rw [ek] at et
    have va := vw I h rx ru ek
    have fin : ∀ tk, EP X pins σ Q (.bool (isiT t T)) { s with toks := tk } := fun tk => ⟨.bl _, H, I.tok tk, rfl, q⟩
    cases va with
    | non => cases et; exact PySem.W.kia_one PySem.W.kitx_none I.kIn True.intro kt.non (fun z => nomatch z) fin
    | bl b => cases et; exact PySem.W.kia_one PySem.W.kitx_bool I.kIn True.intro kt.bl (fun z => nomatch z) fin
    | int i t => cases et; exact PySem.W.kia_one PySem.W.kitx_int I.kIn True.intro kt.int (fun z => nomatch z) fin
    | str i t => cases et; exact PySem.W.kia_one PySem.W.kitx_str I.kIn True.intro kt.str (fun z => nomatch z) fin
    | tup g _ _ => cases et; obtain ⟨o, h1, h2, _⟩ := g; exact PySem.W.kia_one PySem.W.kitx_tuple I.kIn ⟨o, h1, h2⟩ kt.tup (fun z => nomatch z) fin
    | lst g _ _ => cases et; obtain ⟨o, h1, h2, _⟩ := g; exact PySem.W.kia_one PySem.W.kitx_list I.kIn ⟨o, h1, h2⟩ kt.lst (fun z => nomatch z) fin
theorem de_isi {y : Str} {p2 : Pos} (kt : Kit X.K T) (hm : X.mg "isinstance" = none) (hmT : X.mg y = none) (hvT : bootBuiltins y = some (.type T)) (ha : DE X ξ e fa) (hg : Gl X "isinstance" := by rfl) (hgT : Gl X y := by rfl) (hn : y ≠ "__name__" := by decide) (hdb : (y == ("__debug__" : Str)) = false := by decide)
    (he : starEach [e, .Name y p2] X.env = (false, eval e X.env) :: starEach [.Name y p2] X.env := by rfl) (he2 : starEach [.Name y p2] X.env = (false, eval (.Name y p2) X.env) :: starEach [] X.env := by rfl) (hpl : (backTo pos (starEach [.Name y p2] X.env)).any (·.1) = false := by rfl) : DE X ξ (.Call (.Name "isinstance" p) [e, .Name y p2] [] pos) (eIsi T fa) := by
  obtain ⟨ta, ha, qa⟩ := ha
  refine ⟨_, pe_callB (call_isi kt) hg hm (by with_unfolding_all rfl) (pa_cons ha (pa_cons (pe_bltn hgT hmT hvT (v := .ty T) rfl hn hdb) pa_nil he2) he) (by decide) (by decide) he hpl, fun σ ρ H α M Q s h q => ?_⟩
  refine qa σ ρ H α M _ s h (OG.seq q fun x M1 v H1 α1 e1 h1 r1 q1 => ?_)
  cases et : tyName M1 x with
  | none => simp only [et] at q1; exact q1.elim
  | some t =>
    simp only [et] at q1
    exact ⟨v, α1, M1, x, t, rfl, h1, r1, et, q1 _ H1 α1 Ext.refl h1 (.bl _)⟩
end
end DL


end
section
set_option Elab.async false
set_option linter.all false
set_option maxRecDepth 100000
set_option maxHeartbeats 4000000
namespace DL
open PySem PySem.Spec PyProof.Rows L2
noncomputable def CXE (P : Program) (w : World) : CXT := fun outer H s E e s' => ∃ (ea C : Addr) (dct : Option Addr) (B : Heap) (H' : Hp), e = .ref ea ∧ s'.os = s.os ∧ AllBare s'.gens ∧ Un (frs outer) [] H H' s.heap s'.heap ∧ HOk P w H' s'.heap ∧
  DQ.Fly B outer ea (.ref C) dct .none s'.heap ∧ (∀ b u, H' b = some u → ∃ o, B.get? b = some o) ∧ (∀ b o, s.heap.get? b = some o → b ∉ frs outer → ∃ o', B.get? b = some o') ∧ E (.ref C) dct H'
structure Thr (X : Cx) (ξ : XK) : Prop where
  own : PassesOwn (model X.prog X.w) X.A X.env X.xe
  ps : Passes (CXE X.prog X.w) X ξ
  mak : ∀ (pins : List (Addr × Obj)) (σ : L2.St) (H : Hp) (s : Shared) (h' : Heap) (e : Addr) (oe : Obj) (vs : Array Value) (C : Addr), Inv X pins σ H s → (∀ b o, s.heap.get? b = some o → h'.get? b = some o) → s.heap.get? e = none → h'.get? e = some oe → oe.cls = .ref C → oe.dict = none →
    oe.data = .fields vs → vs[1]? = some .none → vs[2]? = some .none → ξ (.ref C) none H → X.xe (.ref e) { s with heap := h' }
theorem funs_base {h b1 b2 : Heap} : ∀ {l : List Env}, h.FunFrames b1 l → (∀ b ∈ frs l, b2.get? b = none) → h.FunFrames b2 l
  | [], _, _ => trivial
  | env :: r, ⟨h1, ⟨L, o, h2, h3, h4, h5⟩, h6⟩, k => ⟨h1, ⟨L, o, h2, k L (by unfold frs; rw [List.filterMap_cons, h2]; exact List.mem_cons_self), h4, h5⟩, funs_base h6 fun b hb => k b (by
      unfold frs
      rw [List.filterMap_cons, h2]
      exact List.mem_cons_of_mem _ hb)⟩
section
variable {X : Cx} {pins : List (Addr × Obj)} {σ : L2.St} {H H' : Hp} {s : Shared} {h1 h2 B : Heap}
theorem settle (hx : X.ex = []) (I : Inv X pins σ H s) (u : Un (frs X.stack) [] H H' s.heap h1) (hok : HOk X.prog X.w H' h1) (t1 : ∀ b q, H' b = some q → ∃ o, B.get? b = some o) (t2 : ∀ b o, s.heap.get? b = some o → b ∉ frs X.stack → ∃ o', B.get? b = some o')
    (st1 : B.StaysIn h1) (st2 : B.StaysIn h2) (up : h1.UpToSlots h2) : Un X.fs [] X.H₀ H' X.s₀.heap h2 ∧ HOk X.prog X.w H' h2 ∧ ∀ b o, X.s₀.heap.get? b = some o → b ∉ X.fs → ∃ o', B.get? b = some o' := by
  have kB : ∀ b ob o, B.get? b = some ob → h1.get? b = some o → h2.get? b = some o := fun b ob o e x => by
    have z := st1 b ob e
    rw [x] at z
    cases z
    exact st2 b _ e
  have nx : ∀ b, b ∉ X.ex := fun b => by rw [hx]; simp
  have nL : ∀ b o, X.s₀.heap.get? b = some o → b ∉ X.fs → b ∉ frs X.stack := fun b o e n z => by
    rcases List.mem_cons.mp (I.stkSub b z) with q | q
    · exact absurd (Heap.lt_size e) (by rw [q]; exact Nat.not_lt_of_le I.ok.above)
    · exact n q
  have th : ∀ b o, X.s₀.heap.get? b = some o → b ∉ X.fs → ∃ o', B.get? b = some o' := fun b o e n => by
    obtain ⟨o', e'⟩ := I.base.there b o e (nx b)
    exact t2 b o' e' (nL b o e n)
  have sl : ∀ b o, X.s₀.heap.get? b = some o → X.H₀ b = none → b ∈ X.fs → ∃ sl, h2.get? b = some { o with slots := sl } := fun b o e n hb => by
    obtain ⟨s1, e1⟩ := I.base.slot b o e n hb (nx b)
    obtain ⟨s2, e2⟩ := u.any e1 (I.base.free b o e n (nx b)) (by simp)
    obtain ⟨_, o', g1, g2⟩ := I.ok.funs.mem hb
    rw [e] at g1
    cases g1
    obtain ⟨s3, e3⟩ := up b _ e2 g2
    exact ⟨s3, e3⟩
  refine ⟨⟨fun b o e n hb _ => ?_, fun b o e n hb _ => sl b o e n hb, fun b o e n _ => ?_, fun b o e _ => ?_, fun b xs e => u.tups b xs (I.base.tups b xs e), fun b o xs e => u.frzs b o xs (I.base.frzs b o xs e), fun b ps e => ?_⟩, fun a o e => ?_, th⟩
  · obtain ⟨ob, g⟩ := th b o e hb
    exact kB b ob o g (u.keep b o (I.base.keep b o e n hb (nx b)) (I.base.free b o e n (nx b)) (nL b o e hb) (by simp))
  · obtain ⟨o', e'⟩ := I.base.there b o e (nx b)
    exact u.free b o' e' (I.base.free b o e n (nx b)) (by simp)
  · by_cases hb : b ∈ X.fs
    · obtain ⟨s1, e1⟩ := sl b o e (I.ok.frf b hb) hb
      exact ⟨_, e1⟩
    · obtain ⟨ob, g⟩ := th b o e hb
      exact ⟨ob, st2 b ob g⟩
  · obtain ⟨m1, e1⟩ := I.base.tbls b ps e
    obtain ⟨m2, e2⟩ := u.tbls b _ e1
    exact ⟨m1 ++ m2, by rw [e2, Array.append_assoc]⟩
  · refine (hok a o e).stay (fun b q hb x => ?_) (fun _ q => q) fun _ _ q => q
    have tr : ∃ q, H' b = some q := by
      rcases hb with z | z
      · exact ⟨o, z ▸ e⟩
      · exact ⟨_, z⟩
    obtain ⟨q', z⟩ := tr
    obtain ⟨ob, g⟩ := t1 b q' z
    exact kB b ob q g x
end
theorem ok_there {P : Program} {w : World} {H : Hp} {h : Heap} {a : Addr} {o : HO} (x : ObjOk P w H h a o) : ∃ ob, h.get? a = some ob := by
  cases o with
  | lst xs => obtain ⟨_, _, _, _, e⟩ := x; exact ⟨_, e⟩
  | tup xs => obtain ⟨_, _, _, ob, e, _⟩ := x; exact ⟨_, e⟩
  | dK kvs => obtain ⟨_, _, _, _, o, _, _, e, _⟩ := x; exact ⟨_, e⟩
  | dT kvs => obtain ⟨_, _, _, _, o, _, _, e, _⟩ := x; exact ⟨_, e⟩
  | set S n => obtain ⟨o, _, _, _, e, _⟩ := x; exact ⟨_, e⟩
  | ins C dx fs => obtain ⟨_, _, _, e, _⟩ := x; exact ⟨_, e⟩
  | own y => exact x
  | xd fs => obtain ⟨_, ⟨_, _, _, e, _⟩, _⟩ := x; exact ⟨_, e⟩
  | rng lo hi => obtain ⟨_, _, _, e⟩ := x; exact ⟨_, e⟩
  | frz ob u => obtain ⟨e, _⟩ := x; exact ⟨_, e⟩
  | tbl ps => exact ⟨_, (show h.get? a = some _ from x)⟩
  | met f y => exact ⟨_, (show h.get? a = some _ from x)⟩
  | ext φ => obtain ⟨_, e, _⟩ := x; exact e
noncomputable def noFr (h : Heap) (l : List Addr) : Heap := hidT h fun b => if b ∈ l then some (.own 0) else none
theorem noFr_get {h : Heap} {l : List Addr} {b : Addr} {o : Obj} (e : h.get? b = some o) (n : b ∉ l) : (noFr h l).get? b = some o := hidT_get e (if_neg n)
theorem of_noFr {h : Heap} {l : List Addr} {b : Addr} {o : Obj} (e : (noFr h l).get? b = some o) : h.get? b = some o ∧ b ∉ l := by
  obtain ⟨a, n⟩ := of_hidT e
  refine ⟨a, fun z => ?_⟩
  simp only [if_pos z] at n
  cases n
theorem noFr_none {h : Heap} {l : List Addr} {b : Addr} (n : b ∈ l) : (noFr h l).get? b = none := by
  cases q : (noFr h l).get? b with
  | none => rfl
  | some o => exact absurd n (of_noFr q).2
theorem thr_fn {P : Program} {w : World} {K : PySem.W.Frag} {mg : Str → Option Value} {base : Heap} {N : List Str} {qual : Str} {scope : Scope} {f : Addr} {cd : Value} {A : Around} {outer : List Env} {s : Shared} {H : Hp} {E : XK} :
    Thr (cxOf (CXE P w) P w K mg base N qual scope f cd A outer s H E) E := by
  refine ⟨PassesOwn.leaving, fun pins σ H1 s1 e s2 I h => ?_, fun pins σ H1 s1 h' e oe vs C I k hn he hc hdi hd v1 v2 q => ?_⟩
  · obtain ⟨ea, C, dct, B, H2, rfl, os, bare, un, hok, fl, t1, t2, q⟩ := h
    refine DQ.fly_leave (outer := outer) I.ok.frames rfl fl fun h3 f3 up => ?_
    obtain ⟨a1, a2, a3⟩ := settle rfl I un hok t1 t2 fl.stay f3.stay up
    exact ⟨ea, C, dct, B, H2, rfl, os.trans I.os, bare, a1, a2, f3, t1, a3, q⟩
  · have st := I.stack
    have t2 : ∀ b o, s1.heap.get? b = some o → b ∉ frs (cxOf (CXE P w) P w K mg base N qual scope f cd A outer s H E).stack → ∃ o', (noFr s1.heap (frs (cxOf (CXE P w) P w K mg base N qual scope f cd A outer s H E).stack)).get? b = some o' := fun b o x n => ⟨o, noFr_get x n⟩
    have hs : (noFr s1.heap (frs (cxOf (CXE P w) P w K mg base N qual scope f cd A outer s H E).stack)).StaysIn h' := fun b o x => k b o (of_noFr x).1
    have hl : h'.FunFrames (noFr s1.heap (frs (cxOf (CXE P w) P w K mg base N qual scope f cd A outer s H E).stack)) (cxOf (CXE P w) P w K mg base N qual scope f cd A outer s H E).stack :=
      (funs_base st fun b hb => noFr_none hb).of_keeps fun b o x _ => ⟨o, k b o x, rfl⟩
    have hb : (noFr s1.heap (frs (cxOf (CXE P w) P w K mg base N qual scope f cd A outer s H E).stack)).get? e = none := by
      cases z : (noFr s1.heap (frs (cxOf (CXE P w) P w K mg base N qual scope f cd A outer s H E).stack)).get? e with
      | none => rfl
      | some o =>
        have := (of_noFr z).1
        rw [hn] at this
        cases this
    have t1 : ∀ b u, H1 b = some u → ∃ o, (noFr s1.heap (frs (cxOf (CXE P w) P w K mg base N qual scope f cd A outer s H E).stack)).get? b = some o := fun b u x => by
      obtain ⟨o, g⟩ := ok_there (I.hok b u x)
      exact ⟨o, noFr_get g fun z => by rw [I.stkFree b z] at x; cases x⟩
    refine DQ.fly_first (s := { s1 with heap := h' }) (outer := outer) I.ok.frames rfl hl he hs hb hd v1 v2 fun h3 f3 up => ?_
    obtain ⟨a1, a2, a3⟩ := settle rfl I (Un.kept k) (I.hok.kept k) t1 t2 hs f3.stay up
    rw [hc, hdi] at f3
    exact ⟨e, C, none, _, H1, rfl, I.os, I.bare, a1, a2, f3, t1, a3, q⟩
end DL


end
section
set_option Elab.async false
set_option linter.all false
set_option maxRecDepth 100000
set_option maxHeartbeats 4000000
namespace DL
open PySem PySem.Spec PyProof.Rows L2
noncomputable def FP (K : PySem.W.Frag) (H : Hp) (α : List Addr) (ξ : XK) (Dn : Ends) : Fl → Prop
  | .nx ρ' M' => ∀ σ' H' α', Ext K H H' α α' → HR K H' α' M' → SR K H' α' σ' ρ' → Dn.nx σ' H'
  | .brk ρ' M' => ∀ σ' H' α', Ext K H H' α α' → HR K H' α' M' → SR K H' α' σ' ρ' → Dn.bk σ' H'
  | .cnt ρ' M' => ∀ σ' H' α', Ext K H H' α α' → HR K H' α' M' → SR K H' α' σ' ρ' → Dn.ct σ' H'
  | .ret d M' => ∀ v H' α', Ext K H H' α α' → HR K H' α' M' → Rep K H' α' v d → Dn.rt v H'
  | .exc c M' => ∀ C H' α', PySem.W.nsIn K mainGlobals c = some (some (.ref C)) → Ext K H H' α α' → HR K H' α' M' → ξ (.ref C) none H'
  | .bad => False
theorem FP.ext {K : PySem.W.Frag} {H H1 : Hp} {α α1 : List Addr} {ξ : XK} {Dn : Ends} {o : Fl} (h : FP K H α ξ Dn o) (e : Ext K H H1 α α1) : FP K H1 α1 ξ Dn o := by
  cases o with
  | nx ρ M => exact fun σ' H' α' e' => h σ' H' α' (e.trans e')
  | brk ρ M => exact fun σ' H' α' e' => h σ' H' α' (e.trans e')
  | cnt ρ M => exact fun σ' H' α' e' => h σ' H' α' (e.trans e')
  | ret d M => exact fun v H' α' e' => h v H' α' (e.trans e')
  | exc c M => exact fun C H' α' n e' => h C H' α' n (e.trans e')
  | bad => exact h
noncomputable def DS (X : Cx) (ξ : XK) (st : Stmt) (g : Sv) : Prop := ∃ t : TS, PS X st t ∧ ∀ σ ρ H α M Dn, SR X.K H α σ ρ → HR X.K H α M → FP X.K H α ξ Dn (g ρ M) → t Dn σ H
noncomputable def DSs (X : Cx) (ξ : XK) (st : List Stmt) (g : Sv) : Prop := ∃ t : TS, PSs X st t ∧ ∀ σ ρ H α M Dn, SR X.K H α σ ρ → HR X.K H α M → FP X.K H α ξ Dn (g ρ M) → t Dn σ H
noncomputable def bindF {β : Type} (o : Out β) (k : β → Sto → Fl) : Fl := match o with
  | .ok a M => k a M
  | .exc c M => .exc c M
  | .bad => .bad
theorem FP.seq {β γ : Type} {K : PySem.W.Frag} {R : Hp → List Addr → γ → β → Prop} {H : Hp} {α : List Addr} {ξ : XK} {Dn : Ends} {Q1 : γ → Hp → Prop} {o : Out β} {f : β → Sto → Fl}
    (h : FP K H α ξ Dn (bindF o f)) (k : ∀ d M' v H' α', Ext K H H' α α' → HR K H' α' M' → R H' α' v d → FP K H' α' ξ Dn (f d M') → Q1 v H') : OG K R H α ξ Q1 o := by
  cases o with
  | ok d M' => exact fun v H' α' e hr r => k d M' v H' α' e hr r (FP.ext (o := f d M') h e)
  | exc c M' => exact h
  | bad => exact h
noncomputable def sSeq (g h : Sv) : Sv := fun ρ M => match g ρ M with
  | .nx ρ1 M1 => h ρ1 M1
  | o => o
noncomputable def sNil : Sv := fun ρ M => .nx ρ M
noncomputable def sRet (f : Ev) : Sv := fun ρ M => bindF (f ρ M) fun d M1 => .ret d M1
noncomputable def sRetN : Sv := fun _ M => .ret .non M
noncomputable def sDrop (f : Ev) : Sv := fun ρ M => bindF (f ρ M) fun _ M1 => .nx ρ M1
noncomputable def sIf (c : Tv) (g h : Sv) : Sv := fun ρ M => bindF (c ρ M) fun k M1 => if k = true then g ρ M1 else h ρ M1
noncomputable def sBrk : Sv := fun ρ M => .brk ρ M
noncomputable def sCnt : Sv := fun ρ M => .cnt ρ M
noncomputable abbrev Tg := D → Ro → Option Ro
noncomputable abbrev Tgs := List D → Ro → Option Ro
noncomputable def gNm (i : Nat) : Tg := fun d ρ => some (ρ.set i (some d))
noncomputable def gNl : Tgs := fun ds ρ => match ds with | [] => some ρ | _ => none
noncomputable def gCs (g : Tg) (gs : Tgs) : Tgs := fun ds ρ => match ds with | d :: r => (match g d ρ with | some ρ1 => gs r ρ1 | none => none) | [] => none
noncomputable def gTp (gs : Tgs) : Tg := fun d ρ => match d with | .tup ds => gs ds ρ | _ => none
noncomputable def sAsg (g : Tg) (f : Ev) : Sv := fun ρ M => bindF (f ρ M) fun d M1 => match g d ρ with | some ρ1 => .nx ρ1 M1 | none => .bad
noncomputable def sPar (i j : Nat) (fs : Av) : Sv := fun ρ M => bindF (fs ρ M) fun ds M1 => match ds with | [v, w] => .nx ((ρ.set i (some v)).set j (some w)) M1 | _ => .bad
noncomputable def sPut (fo fi fe : Ev) : Sv := fun ρ M => bindF (fe ρ M) fun d M1 => bindF (fo ρ M1) fun o M2 => bindF (fi ρ M2) fun i M3 => match o, i with
  | .ref n, .int k => (match M3[n]? with
    | some (.lst xs) => (match ixN xs.length k with | some j => .nx ρ (M3.set n (.lst (xs.set j d))) | none => .bad)
    | _ => .bad)
  | _, _ => .bad
section
variable {X : Cx} {ξ : XK} {st : Stmt} {sts : List Stmt} {g h : Sv} {e : Expr} {f : Ev} {pos : Pos} {c : Expr} {fc : Tv}
theorem dss_nil : DSs X ξ [] sNil := ⟨_, pss_nil, fun σ ρ H α M Dn s h q => q σ H α Ext.refl h s⟩
theorem dss_cons (h1 : DS X ξ st g) (h2 : DSs X ξ sts h) : DSs X ξ (st :: sts) (sSeq g h) := by
  obtain ⟨t1, p1, q1⟩ := h1
  obtain ⟨t2, p2, q2⟩ := h2
  refine ⟨_, pss_cons p1 p2, fun σ ρ H α M Dn s hh q => q1 σ ρ H α M { Dn with nx := t2 Dn } s hh ?_⟩
  unfold sSeq at q
  cases e : g ρ M with
  | nx ρ1 M1 => rw [e] at q; exact fun σ' H' α' ex hr sr => q2 σ' ρ1 H' α' M1 Dn sr hr (FP.ext q ex)
  | brk ρ1 M1 => rw [e] at q; exact q
  | cnt ρ1 M1 => rw [e] at q; exact q
  | ret d M1 => rw [e] at q; exact q
  | exc c M1 => rw [e] at q; exact q
  | bad => rw [e] at q; exact q
theorem dss_one (h1 : DS X ξ st g) : DSs X ξ [st] g := let ⟨_, p, q⟩ := h1; ⟨_, pss_one p, q⟩
theorem ds_ret (he : DE X ξ e f) : DS X ξ (.Return (some e) pos) (sRet f) := by
  obtain ⟨t, p, q⟩ := he
  exact ⟨_, ps_ret p, fun σ ρ H α M Dn s hh w => q σ ρ H α M _ s hh (FP.seq w fun d M1 v H1 α1 e1 h1 r1 w1 => w1 v H1 α1 Ext.refl h1 r1)⟩
theorem ds_expr (he : DE X ξ e f) (hs : swapsWith e none pos.line X.env = pure false := by rfl) : DS X ξ (.Expr e pos) (sDrop f) := by
  obtain ⟨t, p, q⟩ := he
  exact ⟨_, ps_expr p hs, fun σ ρ H α M Dn s hh w => q σ ρ H α M _ s hh (FP.seq w fun d M1 v H1 α1 e1 h1 r1 w1 => w1 σ H1 α1 Ext.refl h1 (s.mono e1))⟩
theorem ds_if {a b : List Stmt} (hc : DT X ξ c fc) (ha : DSs X ξ a g) (hb : DSs X ξ b h) : DS X ξ (.If c a b pos) (sIf fc g h) := by
  obtain ⟨tc, pc, qc⟩ := hc
  obtain ⟨ta, pa, qa⟩ := ha
  obtain ⟨tb, pb, qb⟩ := hb
  refine ⟨_, ps_if pc pa pb, fun σ ρ H α M Dn s hh w => qc σ ρ H α M _ s hh (FP.seq w fun k M1 v H1 α1 e1 h1 r1 w1 => ?_)⟩
  cases r1
  cases k with
  | true => exact iteT (qa σ ρ H1 α1 M1 Dn (s.mono e1) h1 w1)
  | false => exact iteF (qb σ ρ H1 α1 M1 Dn (s.mono e1) h1 w1)
noncomputable def DG (X : Cx) (tg : Expr) (g : Tg) : Prop := ∃ t : TG, PG X tg t ∧ ∀ v d σ ρ H α ρ' Q, SR X.K H α σ ρ → Rep X.K H α v d → g d ρ = some ρ' → (∀ σ', SR X.K H α σ' ρ' → Q σ' H) → t v σ H Q
noncomputable def DGs (X : Cx) (tgs : List Expr) (g : Tgs) : Prop := ∃ t : TGs, PGs X tgs t ∧ ∀ vs ds σ ρ H α ρ' Q, SR X.K H α σ ρ → Reps X.K H α vs ds → g ds ρ = some ρ' → (∀ σ', SR X.K H α σ' ρ' → Q σ' H) → t vs σ H Q
theorem dg_name (i : Nat) {x : Str} (hN : X.N.Nodup) (hi : X.N[i]? = some x := by rfl) (hx : Loc X.env.scope x := by first | exact Or.inl rfl | exact Or.inr rfl) (hf : X.fn x = true ∨ X.env.scope.names.lookup x = some .local := by first | exact .inl rfl | exact .inr rfl | assumption) : DG X (.Name x pos) (gNm i) := by
  refine ⟨_, pg_name hN hi hx hf, fun v d σ ρ H α ρ' Q s r e k => ?_⟩
  cases e
  exact k _ (s.set i r)
theorem dgs_nil : DGs X [] gNl := by
  refine ⟨_, pgs_nil, fun vs ds σ ρ H α ρ' Q s r e k => ?_⟩
  cases r with
  | nil => cases e; exact ⟨rfl, k _ s⟩
  | cons _ _ => cases e
theorem dgs_cons {es : List Expr} {g : Tg} {gs : Tgs} (h1 : DG X e g) (h2 : DGs X es gs) (hs : (assignEach (e :: es) X.env).map (·.2) = assign e X.env :: (assignEach es X.env).map (·.2) := by rfl) : DGs X (e :: es) (gCs g gs) := by
  obtain ⟨t1, p1, q1⟩ := h1
  obtain ⟨t2, p2, q2⟩ := h2
  refine ⟨_, pgs_cons p1 p2 hs, fun vs ds σ ρ H α ρ' Q s r e k => ?_⟩
  cases r with
  | nil => cases e
  | cons r rr =>
    rename_i v d vs ds
    cases e1 : g d ρ with
    | none => simp only [gCs, e1] at e; cases e
    | some ρ1 =>
      simp only [gCs, e1] at e
      exact ⟨v, vs, rfl, q1 v d σ ρ H α ρ1 _ s r e1 fun σ' s' => q2 vs ds σ' ρ1 H α ρ' Q s' rr e k⟩
theorem dg_tup {es : List Expr} {k : Nat} {gs : Tgs} {n : Nat} (hc : X.calm = true) (h : DGs X es gs) (hn : (assignEach es X.env).length = n := by rfl) (hlen : ∀ ds ρ ρ', gs ds ρ = some ρ' → ds.length = n) (hst : (assignEach es X.env).findIdx? (·.1) = none := by rfl) : DG X (.Tuple es k pos) (gTp gs) := by
  obtain ⟨t, p, q⟩ := h
  refine ⟨_, pg_tup hc p hn hst, fun v d σ ρ H α ρ' Q s r e k => ?_⟩
  cases r with
  | @tup a xs ds hp rp =>
    have e' : gs ds ρ = some ρ' := e
    exact ⟨a, xs, rfl, hp, by rw [rp.length]; exact hlen ds ρ ρ' e', q xs ds σ ρ H α ρ' Q s rp e' k⟩
  | _ => cases e
theorem gNl_len {ds : List D} {ρ ρ' : Ro} (h : gNl ds ρ = some ρ') : ds.length = 0 := by cases ds with | nil => rfl | cons _ _ => cases h
theorem gCs_len {g : Tg} {gs : Tgs} {n : Nat} (h : ∀ ds ρ ρ', gs ds ρ = some ρ' → ds.length = n) (ds : List D) (ρ ρ' : Ro) (e : gCs g gs ds ρ = some ρ') : ds.length = n + 1 := by
  cases ds with
  | nil => cases e
  | cons d r =>
    cases e1 : g d ρ with
    | none => simp only [gCs, e1] at e; cases e
    | some ρ1 => simp only [gCs, e1] at e; rw [List.length_cons, h r ρ1 ρ' e]
theorem ds_set (i : Nat) {x : Str} {pos' : Pos} (hN : X.N.Nodup) (he : DE X ξ e f) (hi : X.N[i]? = some x := by rfl) (hx : Loc X.env.scope x := by first | exact Or.inl rfl | exact Or.inr rfl) (hs : swapsWith e (some (.Name x pos')) pos.line X.env = pure false := by rfl) (hf : X.fn x = true ∨ X.env.scope.names.lookup x = some .local := by first | exact .inl rfl | exact .inr rfl | assumption) :
    DS X ξ (.Assign [.Name x pos'] e pos) (sAsg (gNm i) f) := by
  obtain ⟨t, p, q⟩ := he
  exact ⟨_, ps_set hN hi hx p hs hf, fun σ ρ H α M Dn s hh w => q σ ρ H α M _ s hh (FP.seq w fun d M1 v H1 α1 e1 h1 r1 w1 => w1 _ H1 α1 Ext.refl h1 ((s.mono e1).set i r1))⟩
theorem ds_asg {tg : Expr} {gt : Tg} (he : DE X ξ e f) (hg : DG X tg gt) (hs : swapsWithSole [tg] e pos.line X.env = pure false := by rfl) (hw : swappedStores [tg] e X.env = pure none := by rfl)
    (h1 : (assignEach [tg] X.env).map (·.2) = [assign tg X.env] := by rfl) : DS X ξ (.Assign [tg] e pos) (sAsg gt f) := by
  obtain ⟨t, p, q⟩ := he
  obtain ⟨tt, pt, qt⟩ := hg
  refine ⟨_, ps_asg p pt hs hw h1, fun σ ρ H α M Dn s hh w => q σ ρ H α M _ s hh (FP.seq w fun d M1 v H1 α1 e1 h1 r1 w1 => ?_)⟩
  cases eg : gt d ρ with
  | none => simp only [eg] at w1; exact w1.elim
  | some ρ1 =>
    simp only [eg] at w1
    exact qt v d σ ρ H1 α1 ρ1 _ (s.mono e1) r1 eg fun σ' s' => w1 σ' H1 α1 Ext.refl h1 s'
theorem ds_par (i j : Nat) {x y : Str} {a b : Expr} {fs : Av} {px py pt : Pos} {kt k2 pt2} (hc : X.calm = true) (hN : X.N.Nodup) (ha : DA X ξ [a, b] fs) (hi : X.N[i]? = some x := by rfl) (hj : X.N[j]? = some y := by rfl) (hij : i ≠ j := by decide)
    (hx : X.env.scope.names.lookup x = some .local := by rfl) (hy : X.env.scope.names.lookup y = some .local := by rfl)
    (hw : swappedStores [.Tuple [.Name x px, .Name y py] kt pt] (.Tuple [a, b] k2 pt2) X.env = pure (some [x, y]) := by rfl)
    (hs : swapsWithSole [.Tuple [.Name x px, .Name y py] kt pt] (.Tuple [a, b] k2 pt2) pos.line X.env = pure false := by rfl) :
    DS X ξ (.Assign [.Tuple [.Name x px, .Name y py] kt pt] (.Tuple [a, b] k2 pt2) pos) (sPar i j fs) := by
  obtain ⟨t, p, q⟩ := ha
  refine ⟨_, ps_par hc hN hi hj hij hx hy p hw hs, fun σ ρ H α M Dn s hh w => q σ ρ H α M _ s hh (FP.seq w fun ds M1 vs H1 α1 e1 h1 r1 w1 => ?_)⟩
  match r1 with
  | .nil => exact w1.elim
  | .cons _ .nil => exact w1.elim
  | .cons _ (.cons _ (.cons _ _)) => exact w1.elim
  | .cons r (.cons r' .nil) => exact ⟨_, _, rfl, w1 _ H1 α1 Ext.refl h1 (((s.mono e1).set i r).set j r')⟩
theorem ds_put {o i : Expr} {fo fi : Ev} {pos' : Pos} (ho : DE X ξ o fo) (hi : DE X ξ i fi) (he : DE X ξ e f)
    (ha : ∀ v, assign (.Subscript o i pos') X.env v = (do
      let ov ← holding [v] (eval o X.env)
      let iv ← holding [v, ov] (eval i X.env)
      standAt pos'
      holding [v, ov, iv] (setItem ov iv v)
      release [v, ov, iv] []) := by intro _; rfl) (hs : swapsWithSole [.Subscript o i pos'] e pos.line X.env = pure false := by rfl) (hw : swappedStores [.Subscript o i pos'] e X.env = pure none := by rfl)
    (h1 : (assignEach [.Subscript o i pos'] X.env).map (·.2) = [assign (.Subscript o i pos') X.env] := by rfl) : DS X ξ (.Assign [.Subscript o i pos'] e pos) (sPut fo fi f) := by
  obtain ⟨t, p, q⟩ := he
  obtain ⟨to, po, qo⟩ := ho
  obtain ⟨ti, pi, qi⟩ := hi
  refine ⟨_, ps_asg p (pg_sub po pi set_list ha) hs hw h1, fun σ ρ H α M Dn s hh w => q σ ρ H α M _ s hh (FP.seq w fun d M1 v H1 α1 e1 h1 r1 w1 => ?_)⟩
  refine qo σ ρ H1 α1 M1 _ (s.mono e1) h1 (FP.seq w1 fun od M2 ov H2 α2 e2 h2 r2 w2 => ?_)
  refine qi σ ρ H2 α2 M2 _ ((s.mono e1).mono e2) h2 (FP.seq w2 fun kd M3 kv H3 α3 e3 h3 r3 w3 => ?_)
  cases Rep.mono e3 r2 with
  | @ref p n hp =>
    cases r3 with
    | int k =>
      cases em : M3[n]? with
      | none => simp only [em] at w3; exact w3.elim
      | some so =>
        cases so with
        | lst ds =>
          cases ej : ixN ds.length k with
          | none => simp only [em, ej] at w3; exact w3.elim
          | some j =>
            simp only [em, ej] at w3
            obtain ⟨xs, g1, g2⟩ := h3.at hp em
            refine ⟨p, xs, k, j, rfl, rfl, g1, by rw [g2.length]; exact ej, ?_⟩
            exact w3 σ _ α3 (Ext.wr g1) (h3.wr hp g1 (Reps.set (Rep.mono e3 (Rep.mono e2 r1)) j g2)) ((((s.mono e1).mono e2).mono e3).mono (Ext.wr g1))
    | _ => exact w3.elim
  | _ => exact w3.elim
noncomputable def whN (c : Tv) (g : Sv) : Nat → Ro → Sto → Option Fl
  | 0, _, _ => none
  | n + 1, ρ, M => match c ρ M with
    | .ok true M1 => (match g ρ M1 with
      | .nx ρ2 M2 => whN c g n ρ2 M2
      | .cnt ρ2 M2 => whN c g n ρ2 M2
      | .brk ρ2 M2 => some (.nx ρ2 M2)
      | o => some o)
    | .ok false M1 => some (.nx ρ M1)
    | .exc e M1 => some (.exc e M1)
    | .bad => some .bad
theorem whN_more {c : Tv} {g : Sv} : ∀ {n : Nat} {ρ : Ro} {M : Sto} {o : Fl}, whN c g n ρ M = some o → ∀ k, whN c g (n + k) ρ M = some o
  | 0, _, _, _, e, _ => by simp only [whN] at e; cases e
  | n + 1, ρ, M, o, e, k => by
    have ek : n + 1 + k = (n + k) + 1 := by omega
    rw [ek]
    unfold whN at e ⊢
    cases ec : c ρ M with
    | bad => rw [ec] at e; exact e
    | exc x M1 => rw [ec] at e; exact e
    | ok b M1 =>
      rw [ec] at e
      cases b with
      | false => exact e
      | true =>
        cases eg : g ρ M1 with
        | nx ρ2 M2 => simp only [eg] at e ⊢; exact whN_more e k
        | cnt ρ2 M2 => simp only [eg] at e ⊢; exact whN_more e k
        | brk ρ2 M2 => simp only [eg] at e ⊢; exact e
        | ret d M2 => simp only [eg] at e ⊢; exact e
        | exc x M2 => simp only [eg] at e ⊢; exact e
        | bad => simp only [eg] at e ⊢; exact e
open Classical in
noncomputable def sWh (c : Tv) (g : Sv) : Sv := fun ρ M => if h : ∃ o n, whN c g n ρ M = some o then Classical.choose h else .bad
theorem sWh_of {c : Tv} {g : Sv} {n : Nat} {ρ : Ro} {M : Sto} {o : Fl} (e : whN c g n ρ M = some o) : sWh c g ρ M = o := by
  have hx : ∃ o n, whN c g n ρ M = some o := ⟨o, n, e⟩
  unfold sWh
  rw [dif_pos hx]
  obtain ⟨m, em⟩ := Classical.choose_spec hx
  have h1 := whN_more em n
  have h2 := whN_more e m
  rw [Nat.add_comm] at h2
  rw [h1] at h2
  exact Option.some.inj h2
theorem sWh_ok {c : Tv} {g : Sv} {ρ : Ro} {M : Sto} (e : sWh c g ρ M ≠ .bad) : ∃ n, whN c g n ρ M = some (sWh c g ρ M) := by
  by_cases hx : ∃ o n, whN c g n ρ M = some o
  · obtain ⟨o, n, h⟩ := hx
    exact ⟨n, by rw [sWh_of h]; exact h⟩
  · unfold sWh at e
    rw [dif_neg hx] at e
    exact absurd rfl e
theorem sWh_false {c : Tv} {g : Sv} {ρ : Ro} {M M1 : Sto} (h : c ρ M = .ok false M1) : sWh c g ρ M = .nx ρ M1 := sWh_of (n := 1) (by simp only [whN, h])
theorem sWh_true {c : Tv} {g : Sv} {ρ ρ2 : Ro} {M M1 M2 : Sto} (h : c ρ M = .ok true M1) (h2 : g ρ M1 = .nx ρ2 M2) (hb : sWh c g ρ2 M2 ≠ .bad) : sWh c g ρ M = sWh c g ρ2 M2 := by
  obtain ⟨n, e⟩ := sWh_ok hb
  exact sWh_of (n := n + 1) (by simp only [whN, h, h2]; exact e)
theorem ds_while {body : List Stmt} (hp : PassesOwn (model X.prog X.w) X.A X.env X.xe) (hc : DT X ξ c fc) (hb : DSs X ξ body g) : DS X ξ (.While c body [] pos) (sWh fc g) := by
  obtain ⟨tc, pc, qc⟩ := hc
  obtain ⟨tb, pb, qb⟩ := hb
  refine ⟨_, ps_while hp pc pb, fun σ ρ H α M Dn s hh w => ?_⟩
  have nb : sWh fc g ρ M ≠ .bad := fun z => by rw [z] at w; exact w
  obtain ⟨n, en⟩ := sWh_ok nb
  generalize sWh fc g ρ M = o at w en
  refine ⟨fun m σ' H' => ∃ ρ' α' M', Ext X.K H H' α α' ∧ SR X.K H' α' σ' ρ' ∧ HR X.K H' α' M' ∧ whN fc g m ρ' M' = some o, ⟨n, ρ, α, M, Ext.refl, s, hh, en⟩, ?_⟩
  rintro m σ1 H1 ⟨ρ1, α1, M1, e1, s1, h1, en1⟩
  cases m with
  | zero => simp only [whN] at en1; cases en1
  | succ m =>
    refine qc σ1 ρ1 H1 α1 M1 _ s1 h1 ?_
    unfold whN at en1
    cases ec : fc ρ1 M1 with
    | bad => rw [ec] at en1; cases en1; exact w.elim
    | exc x M2 =>
      rw [ec] at en1; cases en1
      exact fun C H' α' nn ex hr => w C H' α' nn (e1.trans ex) hr
    | ok b M2 =>
      rw [ec] at en1
      intro v H2 α2 e2 h2 ev
      cases ev
      cases b with
      | false =>
        cases en1
        exact iteF (w σ1 H2 α2 (e1.trans e2) h2 (s1.mono e2))
      | true =>
        refine iteT ⟨fun σ' H' => ∃ ρ' α' M', Ext X.K H H' α α' ∧ SR X.K H' α' σ' ρ' ∧ HR X.K H' α' M' ∧ whN fc g m ρ' M' = some o, fun σ' H' z => ⟨m, Nat.lt_succ_self m, z⟩, ?_⟩
        refine qb σ1 ρ1 H2 α2 M2 _ (s1.mono e2) h2 ?_
        have e12 := e1.trans e2
        cases eg : g ρ1 M2 with
        | nx ρ2 M3 => simp only [eg] at en1; exact fun σ' H' α' ex hr sr => ⟨ρ2, α', M3, e12.trans ex, sr, hr, en1⟩
        | cnt ρ2 M3 => simp only [eg] at en1; exact fun σ' H' α' ex hr sr => ⟨ρ2, α', M3, e12.trans ex, sr, hr, en1⟩
        | brk ρ2 M3 => simp only [eg] at en1; cases en1; exact fun σ' H' α' ex hr sr => w σ' H' α' (e12.trans ex) hr sr
        | ret d M3 => simp only [eg] at en1; cases en1; exact fun v H' α' ex hr sr => w v H' α' (e12.trans ex) hr sr
        | exc x M3 => simp only [eg] at en1; cases en1; exact fun C H' α' nn ex hr => w C H' α' nn (e12.trans ex) hr
        | bad => simp only [eg] at en1; cases en1; exact w.elim
noncomputable def forD (tg : Tg) (g : Sv) : List D → Ro → Sto → Fl
  | [], ρ, M => .nx ρ M
  | d :: r, ρ, M => match tg d ρ with
    | none => .bad
    | some ρ1 => (match g ρ1 M with
      | .nx ρ2 M2 => forD tg g r ρ2 M2
      | .cnt ρ2 M2 => forD tg g r ρ2 M2
      | .brk ρ2 M2 => .nx ρ2 M2
      | o => o)
noncomputable def forL (tg : Tg) (g : Sv) (n : Nat) : Nat → Nat → Ro → Sto → Fl
  | f, i, ρ, M => match M[n]? with
    | some (.lst xs) => (match xs[i]? with
      | none => .nx ρ M
      | some d => (match f with
        | 0 => .bad
        | f + 1 => (match tg d ρ with
          | none => .bad
          | some ρ1 => (match g ρ1 M with
            | .nx ρ2 M2 => forL tg g n f (i + 1) ρ2 M2
            | .cnt ρ2 M2 => forL tg g n f (i + 1) ρ2 M2
            | .brk ρ2 M2 => .nx ρ2 M2
            | o => o))))
    | none => .bad
noncomputable def rngD (lo : Int) (n : Nat) : List D := (List.range n).map fun (i : Nat) => D.int (lo + i)
noncomputable def forI (tg : Tg) (g : Sv) (d : D) (ρ : Ro) (M : Sto) : Fl := match d with
  | .tup xs => forD tg g xs ρ M
  | .rol xs => forD tg g xs ρ M
  | .ref n => (match M[n]? with | some (.lst xs) => forL tg g n xs.length 0 ρ M | none => .bad)
  | _ => .bad
noncomputable def sFor (tg : Tg) (f : Ev) (g : Sv) : Sv := fun ρ M => bindF (f ρ M) fun d M1 => forI tg g d ρ M1
noncomputable def sForR1 (tg : Tg) (fs : Av) (g : Sv) : Sv := fun ρ M => bindF (fs ρ M) fun ds M1 => match ds with
  | [.int j] => if -(2 ^ 62) ≤ j ∧ j < 2 ^ 62 then forD tg g (rngD 0 j.toNat) ρ M1 else .bad
  | _ => .bad
noncomputable def sForR2 (tg : Tg) (fs : Av) (g : Sv) : Sv := fun ρ M => bindF (fs ρ M) fun ds M1 => match ds with
  | [.int i, .int j] => if -(2 ^ 62) ≤ i ∧ i < 2 ^ 62 ∧ -(2 ^ 62) ≤ j ∧ j < 2 ^ 62 then forD tg g (rngD i (j - i).toNat) ρ M1 else .bad
  | _ => .bad
theorem rngD_get {lo : Int} {n i : Nat} (h : i < n) : (rngD lo n)[i]? = some (.int (lo + i)) := by
  unfold rngD
  rw [List.getElem?_map, List.getElem?_range h]
  rfl
theorem rngD_len {lo : Int} {n : Nat} : (rngD lo n).length = n := by unfold rngD; rw [List.length_map, List.length_range]
theorem rngD_drop {lo : Int} {n i : Nat} (h : i < n) : (rngD lo n).drop i = .int (lo + i) :: (rngD lo n).drop (i + 1) := by
  have hl : i < (rngD lo n).length := by rw [rngD_len]; exact h
  have e := rngD_get (lo := lo) h
  rw [List.getElem?_eq_getElem hl] at e
  rw [List.drop_eq_getElem_cons hl, Option.some.inj e]
theorem turnD {tg : Expr} {gt : Tg} {tt : TG} {tb : TS} {Dn : Ends} {H H1 : Hp} {α α1 : List Addr} {o : Fl} {k : Ro → Sto → Fl} (w : FP X.K H α ξ Dn o)
    (qt : ∀ v d σ ρ H α ρ' Q, SR X.K H α σ ρ → Rep X.K H α v d → gt d ρ = some ρ' → (∀ σ', SR X.K H α σ' ρ' → Q σ' H) → tt v σ H Q) (qb : ∀ σ ρ H α M Dn, SR X.K H α σ ρ → HR X.K H α M → FP X.K H α ξ Dn (g ρ M) → tb Dn σ H)
    {v : V} {d : D} {σ1 : L2.St} {ρ1 : Ro} {M1 : Sto} (e1 : Ext X.K H H1 α α1) (s1 : SR X.K H1 α1 σ1 ρ1) (h1 : HR X.K H1 α1 M1) (r : Rep X.K H1 α1 v d)
    (en : (match gt d ρ1 with | none => Fl.bad | some ρ2 => (match g ρ2 M1 with | .nx ρ3 M3 => k ρ3 M3 | .cnt ρ3 M3 => k ρ3 M3 | .brk ρ3 M3 => .nx ρ3 M3 | o => o)) = o)
    {N : L2.St → Hp → Prop} (hN : ∀ σ' H', (∃ ρ' α' M', Ext X.K H H' α α' ∧ SR X.K H' α' σ' ρ' ∧ HR X.K H' α' M' ∧ k ρ' M' = o) → N σ' H') : tt v σ1 H1 fun σ2 H2 => tb { Dn with nx := N, ct := N, bk := Dn.nx } σ2 H2 := by
  cases eg : gt d ρ1 with
  | none => rw [eg] at en; cases en; exact w.elim
  | some ρ2 =>
    simp only [eg] at en
    refine qt v d σ1 ρ1 H1 α1 ρ2 _ s1 r eg fun σ2 s2 => qb σ2 ρ2 H1 α1 M1 _ s2 h1 ?_
    cases ex : g ρ2 M1 with
    | nx ρ3 M3 => simp only [ex] at en; exact fun σ' H' α' e2 hr sr => hN _ _ ⟨ρ3, α', M3, e1.trans e2, sr, hr, en⟩
    | cnt ρ3 M3 => simp only [ex] at en; exact fun σ' H' α' e2 hr sr => hN _ _ ⟨ρ3, α', M3, e1.trans e2, sr, hr, en⟩
    | brk ρ3 M3 => simp only [ex] at en; cases en; exact fun σ' H' α' e2 hr sr => w σ' H' α' (e1.trans e2) hr sr
    | ret d M3 => simp only [ex] at en; cases en; exact fun v H' α' e2 hr sr => w v H' α' (e1.trans e2) hr sr
    | exc x M3 => simp only [ex] at en; cases en; exact fun C H' α' nn e2 hr => w C H' α' nn (e1.trans e2) hr
    | bad => simp only [ex] at en; cases en; exact w.elim
theorem rangeD {tg : Expr} {gt : Tg} {tt : TG} {tb : TS} {Dn : Ends} {H : Hp} {α : List Addr} {lo : Int} {n : Nat} {σ : L2.St} {ρ : Ro} {M : Sto}
    (qt : ∀ v d σ ρ H α ρ' Q, SR X.K H α σ ρ → Rep X.K H α v d → gt d ρ = some ρ' → (∀ σ', SR X.K H α σ' ρ' → Q σ' H) → tt v σ H Q) (qb : ∀ σ ρ H α M Dn, SR X.K H α σ ρ → HR X.K H α M → FP X.K H α ξ Dn (g ρ M) → tb Dn σ H)
    (s : SR X.K H α σ ρ) (hh : HR X.K H α M) (w : FP X.K H α ξ Dn (forD gt g (rngD lo n) ρ M)) :
    ∃ W : Nat → Nat → L2.St → Hp → Prop, (∃ m, W 0 m σ H) ∧ ∀ i m σ H, W i m σ H →
      ((Itr lo n).stop i H ∧ Dn.nx σ H) ∨ ((Itr lo n).go i H ∧ ∃ N : L2.St → Hp → Prop, (∀ σ' H', N σ' H' → ∃ m', m' < m ∧ W (i + 1) m' σ' H') ∧ ∀ x H', (Itr lo n).yld i H x H' → tt x σ H' fun σ2 H2 => tb { Dn with nx := N, ct := N, bk := Dn.nx } σ2 H2) := by
  generalize ho : forD gt g (rngD lo n) ρ M = o at w
  refine for_range (fun i σ' H' => ∃ ρ' α' M', Ext X.K H H' α α' ∧ SR X.K H' α' σ' ρ' ∧ HR X.K H' α' M' ∧ forD gt g ((rngD lo n).drop i) ρ' M' = o) ⟨ρ, α, M, Ext.refl, s, hh, ho⟩ ?_ ?_
  · rintro i σ1 H1 hi ⟨ρ1, α1, M1, e1, s1, h1, en⟩
    rw [rngD_drop hi] at en
    exact turnD (tg := tg) w qt qb e1 s1 h1 (.int (lo + i)) en (fun σ' H' z => z)
  · rintro σ1 H1 ⟨ρ1, α1, M1, e1, s1, h1, en⟩
    rw [List.drop_eq_nil_of_le (by rw [rngD_len]; exact Nat.le_refl _)] at en
    cases en
    exact w σ1 H1 α1 e1 h1 s1
theorem ds_forR1 {tg a : Expr} {gt : Tg} {fs : Av} {body : List Stmt} {p p2 : Pos} (hp : PassesOwn (model X.prog X.w) X.A X.env X.xe) (hm : X.mg "range" = none) (ha : DA X ξ [a] fs) (hg : DG X tg gt) (hb : DSs X ξ body g)
    (hgl : Gl X "range" := by rfl) (hs : starEach [a] X.env = [(false, eval a X.env)] := by rfl) (hf : ∀ x, foldedSetIterable (.Call (.Name "range" p) [a] [] p2) X.env x = pure x := by intro _; rfl) : DS X ξ (.For tg (.Call (.Name "range" p) [a] [] p2) body [] pos) (sForR1 gt fs g) := by
  obtain ⟨ta, pa, qa⟩ := ha
  obtain ⟨tt, pt, qt⟩ := hg
  obtain ⟨tb, pb, qb⟩ := hb
  refine ⟨_, ps_for hp (pi_range1 hgl hm pa hs) pt pb hf, fun σ ρ H α M Dn s hh w => qa σ ρ H α M _ s hh (FP.seq w fun ds M1 vs H1 α1 e1 h1 r1 w1 => ?_)⟩
  match r1 with
  | .nil => exact w1.elim
  | .cons r (.cons _ _) => cases r <;> exact w1.elim
  | .cons r .nil =>
    cases r with
    | int j =>
      by_cases c : -(2 ^ 62) ≤ j ∧ j < 2 ^ 62
      · simp only [if_pos c] at w1
        exact ⟨j, rfl, c.1, c.2, rangeD (tg := tg) qt qb (s.mono e1) h1 w1⟩
      · simp only [if_neg c] at w1
        exact w1.elim
    | _ => exact w1.elim
noncomputable def iSeq (K : PySem.W.Frag) (tl : TE) : TI := fun σ H R => tl σ H fun x H1 => ∃ a, x = .ref a ∧ (((∃ xs, SqL K H1 a xs) ∧ R (Itl K a) H1) ∨ ((∃ xs, SqT K H1 a xs) ∧ R (Itt K a) H1))
theorem pi_seq {tg l : Expr} {tl : TE} (hl : PE X l tl) : PI X tg l (iSeq X.K tl) := by
  intro pins s σ H R I h
  refine thn (hl pins s σ H _ I h) fun v s1 ⟨x, H1, I1, r1, q1⟩ => ?_
  obtain ⟨a, e, q⟩ := q1
  subst e
  cases r1
  have fp : ∀ b ∈ [s1.heap.objs.size], FpOk X pins H1 b := fun b hb => by
    have e : b = s1.heap.objs.size := by simpa using hb
    subst e
    exact I1.fpOk (Nat.le_refl _) (I1.hok.fresh (Nat.le_refl _))
  rcases q with ⟨⟨xs, hq⟩, q⟩ | ⟨⟨xs, hq⟩, q⟩
  · obtain ⟨its, rv, p, hz⟩ := I1.list hq
    refine wpAny_pyIter_list p.isList ?_
    exact ⟨s1.heap.objs.size, [s1.heap.objs.size], _, _, H1, rfl, I1.kept (t' := s1.toks) fun b o e => Heap.get?_push_of_some _ e, turn_list a _, ⟨_, Heap.get?_push_size _ rfl, rfl, rfl⟩, fp, q⟩
  · obtain ⟨its, rv, p, hz⟩ := I1.tuple hq
    refine wpAny_pyIter_tuple (show s1.heap.IsTuple a its.toArray from p) ?_
    exact ⟨s1.heap.objs.size, [s1.heap.objs.size], _, _, H1, rfl, I1.kept (t' := s1.toks) fun b o e => Heap.get?_push_of_some _ e, turn_tuple a _, ⟨_, Heap.get?_push_size _ rfl, rfl, rfl⟩, fp, q⟩
theorem ds_for {tg l : Expr} {gt : Tg} {f : Ev} {body : List Stmt} (hp : PassesOwn (model X.prog X.w) X.A X.env X.xe) (hl : DE X ξ l f) (hg : DG X tg gt) (hb : DSs X ξ body g)
    (hf : ∀ x, foldedSetIterable l X.env x = pure x := by intro _; rfl) : DS X ξ (.For tg l body [] pos) (sFor gt f g) := by
  obtain ⟨ta, pa, qa⟩ := hl
  obtain ⟨tt, pt, qt⟩ := hg
  obtain ⟨tb, pb, qb⟩ := hb
  refine ⟨_, ps_for hp (pi_seq pa) pt pb hf, fun σ ρ H α M Dn s hh w => qa σ ρ H α M _ s hh (FP.seq w fun d M1 v H1 α1 e1 h1 r1 w1 => ?_)⟩
  have s1 := s.mono e1
  have pure_ : ∀ (ds : List D) (xs : List V), Reps X.K H1 α1 xs ds → FP X.K H1 α1 ξ Dn (forD gt g ds ρ M1) → ∀ (i : Nat) σ' H', (∃ ρ' α' M', Ext X.K H1 H' α1 α' ∧ SR X.K H' α' σ' ρ' ∧ HR X.K H' α' M' ∧ forD gt g (ds.drop i) ρ' M' = forD gt g ds ρ M1) →
      (∀ x, xs[i]? = some x → tt x σ' H' fun σ2 H2 => tb { Dn with nx := fun σ H => ∃ ρ' α' M', Ext X.K H1 H α1 α' ∧ SR X.K H α' σ ρ' ∧ HR X.K H α' M' ∧ forD gt g (ds.drop (i + 1)) ρ' M' = forD gt g ds ρ M1, ct := fun σ H => ∃ ρ' α' M', Ext X.K H1 H α1 α' ∧ SR X.K H α' σ ρ' ∧ HR X.K H α' M' ∧ forD gt g (ds.drop (i + 1)) ρ' M' = forD gt g ds ρ M1, bk := Dn.nx } σ2 H2) ∧
      (i = xs.length → Dn.nx σ' H') := by
    intro ds xs r w1 i σ' H' ⟨ρ', α', M', ex, sr, hr, en⟩
    refine ⟨fun x hx => ?_, fun hi => ?_⟩
    · have hi : i < ds.length := by rw [← r.length]; exact (List.getElem?_eq_some_iff.mp hx).1
      obtain ⟨v, g1, g2⟩ := r.get (List.getElem?_eq_getElem hi)
      rw [hx] at g1
      cases g1
      rw [List.drop_eq_getElem_cons hi] at en
      exact turnD (tg := tg) w1 qt qb ex sr hr (Rep.mono ex g2) en (fun σ' H' z => z)
    · rw [hi, r.length, List.drop_length] at en
      have en' : Fl.nx ρ' M' = forD gt g ds ρ M1 := en
      rw [← en'] at w1
      exact w1 σ' H' α' ex hr sr
  cases r1 with
  | @tup p xs ds hp rp =>
    have w2 : FP X.K H1 α1 ξ Dn (forD gt g ds ρ M1) := w1
    refine ⟨p, rfl, .inr ⟨⟨xs, hp⟩, for_tup (K := X.K) (a := p) (xs := xs) (fun i σ' H' => ∃ ρ' α' M', Ext X.K H1 H' α1 α' ∧ SR X.K H' α' σ' ρ' ∧ HR X.K H' α' M' ∧ forD gt g (ds.drop i) ρ' M' = forD gt g ds ρ M1) ⟨ρ, α1, M1, Ext.refl, s1, h1, rfl⟩ ?_ ?_ ?_⟩⟩
    · rintro i σ' H' _ ⟨ρ', α', M', ex, _⟩
      exact ex.tup _ _ hp
    · intro i x σ' H' hx z
      exact (pure_ ds xs rp w2 i σ' H' z).1 x hx
    · intro σ' H' z
      exact (pure_ ds xs rp w2 _ σ' H' z).2 rfl
  | @rol p xs ds hp rp =>
    have w2 : FP X.K H1 α1 ξ Dn (forD gt g ds ρ M1) := w1
    refine ⟨p, rfl, .inl ⟨⟨xs, hp.sq⟩, for_list (K := X.K) (a := p) (xs := xs) (fun i σ' H' => ∃ ρ' α' M', Ext X.K H1 H' α1 α' ∧ SR X.K H' α' σ' ρ' ∧ HR X.K H' α' M' ∧ forD gt g (ds.drop i) ρ' M' = forD gt g ds ρ M1) ⟨ρ, α1, M1, Ext.refl, s1, h1, rfl⟩ ?_ ?_ ?_⟩⟩
    · rintro i σ' H' _ ⟨ρ', α', M', ex, _⟩
      exact (ex.rol _ _ hp).sq
    · intro i x σ' H' hx z
      exact (pure_ ds xs rp w2 i σ' H' z).1 x hx
    · intro σ' H' z
      exact (pure_ ds xs rp w2 _ σ' H' z).2 rfl
  | @ref p n hp =>
    cases em : M1[n]? with
    | none => simp only [forI, em] at w1; exact w1.elim
    | some so =>
      cases so with
      | lst ds =>
        simp only [forI, em] at w1
        obtain ⟨xs0, g0, r0⟩ := h1.at hp em
        generalize eo : forL gt g n ds.length 0 ρ M1 = o at w1
        refine ⟨p, rfl, .inl ⟨⟨xs0, SqL.of g0⟩, fun i m σ' H' => ∃ ρ' α' M', Ext X.K H1 H' α1 α' ∧ SR X.K H' α' σ' ρ' ∧ HR X.K H' α' M' ∧ forL gt g n m i ρ' M' = o, ⟨ds.length, ρ, α1, M1, Ext.refl, s1, h1, eo⟩, ?_⟩⟩
        rintro i m σ' H' ⟨ρ', α', M', ex, sr, hr, en⟩
        unfold forL at en
        cases em2 : M'[n]? with
        | none => simp only [em2] at en; cases en; exact w1.elim
        | some so2 =>
          cases so2 with
          | lst ds2 =>
            simp only [em2] at en
            obtain ⟨xs, g1, g2⟩ := hr.at (ex.get hp) em2
            cases ei : ds2[i]? with
            | none =>
              simp only [ei] at en
              cases en
              refine .inl ⟨⟨xs, SqL.of g1, ?_⟩, w1 σ' H' α' ex hr sr⟩
              rw [g2.length]
              exact List.getElem?_eq_none_iff.mp ei
            | some d =>
              simp only [ei] at en
              obtain ⟨v, k1, k2⟩ := g2.get ei
              cases m with
              | zero => cases en; exact w1.elim
              | succ m =>
                refine .inr ⟨⟨xs, v, SqL.of g1, k1⟩, fun σ2 H2 => ∃ ρ' α' M', Ext X.K H1 H2 α1 α' ∧ SR X.K H2 α' σ2 ρ' ∧ HR X.K H2 α' M' ∧ forL gt g n m (i + 1) ρ' M' = o, fun σ2 H2 z => ⟨m, Nat.lt_succ_self m, z⟩, fun x H2 y => ?_⟩
                obtain ⟨ey, y⟩ := y
                subst ey
                have ev := y xs (SqL.of g1)
                rw [k1] at ev
                cases ev
                exact turnD (tg := tg) w1 qt qb ex sr hr k2 en (fun σ' H' z => z)
  | _ => exact w1.elim
end
noncomputable def fnF (g : Sv) (n k : Nat) : List D → Sto → Out D := fun ds M => if ds.length = n then (match g (ds.map some ++ List.replicate k none) M with
  | .ret d M' => .ok d M'
  | .nx _ M' => .ok .non M'
  | .exc c M' => .exc c M'
  | _ => .bad) else .bad
noncomputable def spD (K : PySem.W.Frag) (F : List D → Sto → Out D) : Sp := fun vs H Q E => ∃ ds α M, Reps K H α vs ds ∧ HR K H α M ∧ OP K H α E Q (F ds M)
theorem start_get : ∀ {ds : List D} {k i : Nat} {d : D}, (ds.map some ++ List.replicate k none)[i]? = some (some d) → ds[i]? = some d
  | [], k, i, d, h => by
    rw [List.map_nil, List.nil_append] at h
    have := List.mem_of_getElem? h
    rw [List.mem_replicate] at this
    cases this.2
  | x :: r, k, 0, d, h => by simpa using h
  | x :: r, k, i + 1, d, h => by
    rw [List.map_cons, List.cons_append, List.getElem?_cons_succ] at h
    rw [List.getElem?_cons_succ]
    exact start_get h
theorem SR.start {K : PySem.W.Frag} {H : Hp} {α : List Addr} {N : List Str} {vs : List V} {ds : List D} {k : Nat} (r : Reps K H α vs ds) (hk : k = N.length - ds.length) : SR K H α (start N vs) (ds.map some ++ List.replicate k none) := by
  unfold L2.start
  refine ⟨by simp only [List.length_append, List.length_map, List.length_replicate, r.length, hk], fun i d h => ?_⟩
  obtain ⟨v, h1, h2⟩ := r.get (start_get h)
  refine ⟨v, ?_, h2⟩
  have hl : i < vs.length := (List.getElem?_eq_some_iff.mp h1).1
  rw [List.getElem?_append_left (by rw [List.length_map]; exact hl), List.getElem?_map, h1]
  rfl
section
variable {P : Program} {w : World} {K : PySem.W.Frag} {mg : Str → Option Value} {base : Heap}
theorem fn_ok {x qual : Str} {st : Stmt} {f : Addr} {fd : FuncData} {N ps : List Str} {k n m : Nat} {g : Sv} (F : Fun K x qual st f fd) (S : FnScope N ps (defScope st)) (hn : n = ps.length) (hm : m = N.length - n)
    (hb : ∀ (cdv : Value) (A : Around) (outer : List Env) (s : Shared) (H : Hp) (E : XK), Room k (A.deeper (envOfC qual (defScope st) s.heap.objs.size f cdv)) → Thr (cxOf (CXE P w) P w K mg base N qual (defScope st) f cdv A outer s H E) E → DSs (cxOf (CXE P w) P w K mg base N qual (defScope st) f cdv A outer s H E) E (defBody st) g) :
    FnOk P w K mg base (CXE P w) (k + 1) f fd ps (spD K (fnF g n m)) := by
  obtain ⟨oc, od, kV, doc, pm, an, cdv, ct, osl, rfl, lk, hcd⟩ := F.ex
  refine fn_of lk hcd S (fun vs H Q E h => ?_) (fun A outer s H vs Q E hr h => ?_)
  · obtain ⟨ds, α, M, r, _, q⟩ := h
    by_cases c : ds.length = n
    · rw [r.length, c, hn]
    · simp only [fnF, if_neg c] at q
      exact q.elim
  · obtain ⟨ds, α, M, r, hh, q⟩ := h
    obtain ⟨t, p, w'⟩ := hb cdv A outer s H E hr thr_fn
    by_cases c : ds.length = n
    · simp only [fnF, if_pos c] at q
      refine ⟨t, p, w' _ _ H α M _ (SR.start (N := N) r (k := m) (by rw [hm, c])) hh ?_⟩
      cases e : g (ds.map some ++ List.replicate m none) M with
      | nx ρ' M' => simp only [e] at q; exact fun σ' H' α' ex hr sr => q _ H' α' ex hr .non
      | ret d M' => simp only [e] at q; exact q
      | exc x M' => simp only [e] at q; exact q
      | brk ρ' M' => simp only [e] at q; exact q.elim
      | cnt ρ' M' => simp only [e] at q; exact q.elim
      | bad => simp only [e] at q; exact q.elim
    · simp only [fnF, if_neg c] at q
      exact q.elim
end
section
variable {X : Cx} {ξ : XK} {k : Nat} {f : Addr} {fd : FuncData} {ps : List Str} {F : List D → Sto → Out D} {x : Str} {p pos : Pos} {e : Expr} {es : List Expr} {fs : Av}
theorem de_call (G : FnOk X.prog X.w X.K X.mg X.base (CXE X.prog X.w) k f fd ps (spD X.K F)) (T : Thr X ξ) (hr : Room k X.A) (hm : X.mg x = some (.ref f)) (hk : PySem.W.keepIn X.K (.ref f) = true) (hb : Binds X.K fd ps []) (ha : DA X ξ (e :: es) fs) (hg : Gl X x := by rfl)
    (hdb : (x == ("__debug__" : Str)) = false := by decide) (he : starEach (e :: es) X.env = (false, eval e X.env) :: starEach es X.env := by rfl) (hpl : (backTo pos (starEach es X.env)).any (·.1) = false := by rfl) : DE X ξ (.Call (.Name x p) (e :: es) [] pos) (eCall F fs) := by
  obtain ⟨t, pa, qa⟩ := ha
  refine ⟨_, pe_call G hr hg hm hk hb .nil T.ps pa hdb he hpl, fun σ ρ H α M Q s hh q => qa σ ρ H α M _ s hh (OG.seq q fun ds M1 vs H1 α1 e1 h1 r1 q1 => ?_)⟩
  rw [List.append_nil]
  exact ⟨ds, α1, M1, r1, h1, q1⟩
end
end DL


end
section
set_option Elab.async false
set_option linter.all false
set_option maxRecDepth 100000
set_option maxHeartbeats 4000000
namespace DL
open PySem PySem.Spec PyProof.Rows L2
theorem bb_abs : bootBuiltins "abs" = some (.builtin "abs") := by decide +kernel
theorem bb_int : bootBuiltins "int" = some (.type "int") := by decide +kernel
theorem bb_bool : bootBuiltins "bool" = some (.type "bool") := by decide +kernel
theorem bb_list : bootBuiltins "list" = some (.type "list") := by decide +kernel
theorem bb_tuple : bootBuiltins "tuple" = some (.type "tuple") := by decide +kernel
theorem bb_max : bootBuiltins "max" = some (.builtin "max") := by decide +kernel
theorem bb_min : bootBuiltins "min" = some (.builtin "min") := by decide +kernel
theorem bb_all : bootBuiltins "all" = some (.builtin "all") := by decide +kernel
noncomputable def Cal (P : Program) (w : World) (K : PySem.W.Frag) (mg : Str → Option Value) (base : Heap) (x : Str) (k n : Nat) (F : List D → Sto → Out D) : Prop :=
  ∃ (f : Addr) (fd : FuncData) (ps : List Str), FnOk P w K mg base (CXE P w) k f fd ps (spD K F) ∧ mg x = some (.ref f) ∧ PySem.W.keepIn K (.ref f) = true ∧ ps.length = n ∧ Binds K fd ps []
theorem de_callC {X : Cx} {ξ : XK} {k n : Nat} {F : List D → Sto → Out D} {x : Str} {p pos : Pos} {e : Expr} {es : List Expr} {fs : Av} (C : Cal X.prog X.w X.K X.mg X.base x k n F) (T : Thr X ξ) (hr : Room k X.A) (ha : DA X ξ (e :: es) fs) (hg : Gl X x := by rfl)
    (hdb : (x == ("__debug__" : Str)) = false := by decide) (he : starEach (e :: es) X.env = (false, eval e X.env) :: starEach es X.env := by rfl) (hpl : (backTo pos (starEach es X.env)).any (·.1) = false := by rfl) : DE X ξ (.Call (.Name x p) (e :: es) [] pos) (eCall F fs) := by
  obtain ⟨f, fd, ps, G, hm, hk, _, hb⟩ := C
  exact de_call G T hr hm hk hb ha hg hdb he hpl
theorem law_sp {K : PySem.W.Frag} {H : Hp} {a : Addr} {ns : List Int} {n : Nat} {F : List D → Sto → Out D} (hl : ns.length ≤ n) (hO : Only H) (hS : SqL K H a (ns.map V.int)) (h : ∃ M', F [.rol (ns.map D.int)] [] = .ok (.bl true) M') :
    spD K F [.ref a] H (fun v _ => v = .bl true) (fun _ _ _ => False) := by
  obtain ⟨M', e⟩ := h
  have hF : SqF K H a (ns.map V.int) := by
    rcases hS with (h | ⟨o, h⟩) | h
    · rcases hO a with z | ⟨o, xs, z⟩
      · rw [h] at z; cases z
      · rw [h] at z; cases z
    · exact .inl ⟨o, h⟩
    · exact .inr h
  refine ⟨[.rol (ns.map D.int)], [], [], .cons (.rol hF (Reps.ints ns)) .nil, HR.nil, ?_⟩
  rw [e]
  intro v H' α' _ _ r
  cases r
  rfl
end DL


end
section
set_option Elab.async false
set_option linter.all false
set_option maxRecDepth 100000
set_option maxHeartbeats 4000000
namespace DL
open PySem PySem.Spec PyProof.Rows L2
inductive Src where
  | pur (ds : List D)
  | sto (n : Nat)
  | zip (n m : Nat)
  | enu (n : Nat)
  | rev (n l : Nat)
  | zips (ns : List Nat)
noncomputable def itemsAt (M : Sto) (i : Nat) : List Nat → Option (Option (List D))
  | [] => some (some [])
  | n :: ns => match M[n]? with
    | none => none
    | some (.lst xs) => match itemsAt M i ns with
      | none => none
      | some r => match xs[i]?, r with | some x, some ds => some (some (x :: ds)) | _, _ => some none
noncomputable def nxt (src : Src) (i : Nat) (M : Sto) : Option (Option D) := match src with
  | .pur ds => some ds[i]?
  | .sto n => match M[n]? with | some (.lst xs) => some xs[i]? | none => none
  | .zip n m => match M[n]?, M[m]? with
    | some (.lst xs), some (.lst ys) => (match xs[i]?, ys[i]? with | some x, some y => some (some (.tup [x, y])) | _, _ => some none)
    | _, _ => none
  | .enu n => match M[n]? with | some (.lst xs) => (match xs[i]? with | some x => some (some (.tup [.int i, x])) | none => some none) | none => none
  | .zips ns => match itemsAt M i ns with | some (some ds) => some (some (.tup ds)) | some none => some none | none => none
  | .rev n l => match M[n]? with | some (.lst xs) => if i < l then (match xs[l - 1 - i]? with | some x => some (some x) | none => none) else (if i = l then some none else none) | none => none
noncomputable def cnt (src : Src) (M : Sto) : Nat := match src with
  | .pur ds => ds.length
  | .sto n => match M[n]? with | some (.lst xs) => xs.length | none => 0
  | .zip n _ => match M[n]? with | some (.lst xs) => xs.length | none => 0
  | .enu n => match M[n]? with | some (.lst xs) => xs.length | none => 0
  | .rev _ l => l
  | .zips ns => match ns with | n :: _ => (match M[n]? with | some (.lst xs) => xs.length | none => 0) | [] => 0
noncomputable def refsD : List D → Option (List Nat)
  | [] => some []
  | .ref n :: r => match refsD r with | some ns => some (n :: ns) | none => none
  | _ :: _ => none
noncomputable def Ats (α : List Addr) : List Nat → List Addr → Prop
  | [], [] => True
  | n :: ns, l :: ls => α[n]? = some l ∧ Ats α ns ls
  | _, _ => False
theorem refs_ok {K : PySem.W.Frag} {H : Hp} {α : List Addr} : ∀ {vs : List V} {ds : List D} {ns : List Nat}, Reps K H α vs ds → refsD ds = some ns → ∃ ls : List Addr, vs = ls.map V.ref ∧ Ats α ns ls
  | _, _, _, .nil, e => by cases e; exact ⟨[], rfl, trivial⟩
  | _, _, ns, .cons (d := d) (ds := ds) r t, e => by
    cases r with
    | @ref p n hp =>
      cases e1 : refsD ds with
      | none => simp only [refsD, e1] at e; cases e
      | some cs =>
        simp only [refsD, e1, Option.some.injEq] at e
        subst e
        obtain ⟨ls, h1, h2⟩ := refs_ok t e1
        exact ⟨p :: ls, by rw [h1]; rfl, hp, h2⟩
    | _ => cases e
noncomputable def AllAt (M : Sto) : List Nat → Prop
  | [] => True
  | n :: ns => (∃ xs, M[n]? = some (.lst xs)) ∧ AllAt M ns
theorem items_some {M : Sto} {i : Nat} : ∀ {ns : List Nat}, AllAt M ns → ∃ r, itemsAt M i ns = some r
  | [], _ => ⟨_, rfl⟩
  | n :: ns, ⟨⟨xs, e⟩, h⟩ => by
    obtain ⟨r, hr⟩ := items_some (i := i) h
    rw [itemsAt, e]
    simp only [hr]
    cases xs[i]? <;> cases r <;> exact ⟨_, rfl⟩
theorem items_none {M : Sto} {i : Nat} : ∀ {ns : List Nat}, AllAt M ns → ∀ {n : Nat} {xs : List D}, n ∈ ns → M[n]? = some (.lst xs) → xs[i]? = none → itemsAt M i ns = some none
  | [], _, _, _, h, _, _ => by cases h
  | m :: ns, ⟨⟨ys, e⟩, h⟩, n, xs, hn, e1, e2 => by
    obtain ⟨r, hr⟩ := items_some (i := i) h
    rw [itemsAt, e]
    simp only [hr]
    rcases List.mem_cons.mp hn with z | z
    · subst z
      rw [e1] at e
      cases e
      rw [e2]
    · have := items_none h z e1 e2
      rw [hr] at this
      cases this
      cases ys[i]? <;> rfl
theorem nx_zips_none {M : Sto} {i : Nat} {ns : List Nat} (h : AllAt M ns) {n : Nat} {xs : List D} (hn : n ∈ ns) (e1 : M[n]? = some (.lst xs)) (e2 : xs[i]? = none) : nxt (.zips ns) i M = some none := by
  show (match itemsAt M i ns with | some (some ds) => some (some (D.tup ds)) | some none => some none | none => none) = _
  rw [items_none h hn e1 e2]
noncomputable def SrcR (K : PySem.W.Frag) (H : Hp) (α : List Addr) (J : It) (src : Src) : Prop := ∀ (i : Nat) H' α' M', Ext K H H' α α' → HR K H' α' M' → match nxt src i M' with
  | some none => J.stop i H'
  | some (some d) => J.go i H' ∧ ∀ x H'', J.yld i H' x H'' → Ext K H' H'' α' α' ∧ HR K H'' α' M' ∧ Rep K H'' α' x d
  | none => True
noncomputable def DI (X : Cx) (ξ : XK) (tg iter : Expr) (f : Ro → Sto → Out Src) : Prop := ∃ wi : TI, PI X tg iter wi ∧ ∀ σ ρ H α M R, SR X.K H α σ ρ → HR X.K H α M → OG X.K (SrcR X.K) H α ξ R (f ρ M) → wi σ H R
section
variable {X : Cx} {ξ : XK} {tg iter a b : Expr} {fs : Av} {f : Ev} {p pos : Pos}
noncomputable def iR1 (fs : Av) : Ro → Sto → Out Src := fun ρ M => (fs ρ M).bind fun ds M1 => match ds with
  | [.int j] => if -(2 ^ 62) ≤ j ∧ j < 2 ^ 62 then .ok (.pur (rngD 0 j.toNat)) M1 else .bad
  | _ => .bad
theorem srcR_range {K : PySem.W.Frag} {H : Hp} {α : List Addr} {lo : Int} {n : Nat} : SrcR K H α (Itr lo n) (.pur (rngD lo n)) := by
  intro i H' α' M' ex hr
  show match some (rngD lo n)[i]? with | some none => _ | some (some d) => _ | none => True
  by_cases h : i < n
  · rw [rngD_get h]
    refine ⟨h, fun x H'' y => ?_⟩
    obtain ⟨e1, e2⟩ := y
    subst e1 e2
    exact ⟨Ext.refl, hr, .int _⟩
  · rw [List.getElem?_eq_none (by rw [rngD_len]; omega)]
    exact Nat.le_of_not_lt h
noncomputable def iSq (f : Ev) : Ro → Sto → Out Src := fun ρ M => (f ρ M).bind fun d M1 => match d with
  | .tup ds => .ok (.pur ds) M1
  | .rol ds => .ok (.pur ds) M1
  | .ref n => .ok (.sto n) M1
  | _ => .bad
theorem di_seq (ha : DE X ξ a f) : DI X ξ tg a (iSq f) := by
  obtain ⟨ta, pa, qa⟩ := ha
  refine ⟨_, pi_seq pa, fun σ ρ H α M R s hh q => qa σ ρ H α M _ s hh (OG.seq q fun d M1 v H1 α1 e1 h1 r1 w1 => ?_)⟩
  cases r1 with
  | @tup p xs ds hp rp =>
    refine ⟨p, rfl, .inr ⟨⟨xs, hp⟩, w1 (Itt X.K p) H1 α1 Ext.refl h1 ?_⟩⟩
    intro i H' α' M' ex hr
    show match some ds[i]? with | some none => _ | some (some d) => _ | none => True
    cases ei : ds[i]? with
    | none => exact ⟨xs, ex.tup _ _ hp, by rw [rp.length]; exact List.getElem?_eq_none_iff.mp ei⟩
    | some d =>
      obtain ⟨v, k1, k2⟩ := rp.get ei
      refine ⟨⟨xs, v, ex.tup _ _ hp, k1⟩, fun x H'' y => ?_⟩
      obtain ⟨ey, y⟩ := y
      have z := y xs (ex.tup _ _ hp)
      rw [k1] at z
      cases z
      subst ey
      exact ⟨Ext.refl, hr, Rep.mono ex k2⟩
  | @rol p xs ds hp rp =>
    refine ⟨p, rfl, .inl ⟨⟨xs, hp.sq⟩, w1 (Itl X.K p) H1 α1 Ext.refl h1 ?_⟩⟩
    intro i H' α' M' ex hr
    show match some ds[i]? with | some none => _ | some (some d) => _ | none => True
    have hq := (ex.rol _ _ hp).sq
    cases ei : ds[i]? with
    | none => exact ⟨xs, hq, by rw [rp.length]; exact List.getElem?_eq_none_iff.mp ei⟩
    | some d =>
      obtain ⟨v, k1, k2⟩ := rp.get ei
      refine ⟨⟨xs, v, hq, k1⟩, fun x H'' y => ?_⟩
      obtain ⟨ey, y⟩ := y
      have z := y xs hq
      rw [k1] at z
      cases z
      subst ey
      exact ⟨Ext.refl, hr, Rep.mono ex k2⟩
  | @ref p n hp =>
    obtain ⟨xs0, g0⟩ := h1.some_at hp
    refine ⟨p, rfl, .inl ⟨⟨xs0, SqL.of g0⟩, w1 (Itl X.K p) H1 α1 Ext.refl h1 ?_⟩⟩
    intro i H' α' M' ex hr
    show match (match M'[n]? with | some (.lst xs) => some xs[i]? | none => none) with | some none => _ | some (some d) => _ | none => True
    cases em : M'[n]? with
    | none => exact True.intro
    | some so =>
      cases so with
      | lst ds =>
        obtain ⟨xs, g1, g2⟩ := hr.at (ex.get hp) em
        show match some ds[i]? with | some none => _ | some (some d) => _ | none => True
        cases ei : ds[i]? with
        | none => exact ⟨xs, SqL.of g1, by rw [g2.length]; exact List.getElem?_eq_none_iff.mp ei⟩
        | some d =>
          obtain ⟨v, k1, k2⟩ := g2.get ei
          refine ⟨⟨xs, v, SqL.of g1, k1⟩, fun x H'' y => ?_⟩
          obtain ⟨ey, y⟩ := y
          have z := y xs (SqL.of g1)
          rw [k1] at z
          cases z
          subst ey
          exact ⟨Ext.refl, hr, k2⟩
  | _ => exact w1.elim
end
noncomputable def blk (X : Cx) (scope : Scope) (cl : List (Str × Addr)) (N : List Str) (C : Addr) (fp : List Addr) (s : Shared) (H : Hp) : Cx :=
  { X with N := N, s₀ := s, H₀ := H, env := compEnvC scope cl C X.env, outer := X.stack, stack := X.stack, ex := fp, fn := fun _ => false, pn := [], xe := fun _ _ => False }
theorem thr_blk {X : Cx} {scope : Scope} {cl : List (Str × Addr)} {N : List Str} {C : Addr} {fp : List Addr} {s : Shared} {H : Hp} : Thr (blk X scope cl N C fp s H) E0 :=
  ⟨PassesOwn.never, fun _ _ _ _ _ _ _ ⟨_, _, _, _, _, _, _, _, _, _, _, _, _, q⟩ => q, fun _ _ _ _ _ _ _ _ _ _ _ _ _ _ _ _ _ _ q => q⟩
noncomputable def cmpL (src : Src) (tg : Tg) (c : Tv) (f : Ev) (n : Nat) : Nat → Nat → Ro → Sto → Out Unit
  | fuel, i, ρ, M => match nxt src i M with
    | none => .bad
    | some none => .ok () M
    | some (some d) => (match fuel with
      | 0 => .bad
      | fuel + 1 => (match tg d ρ with
        | none => .bad
        | some ρ1 => (match c ρ1 M with
          | .ok true M1 => (match f ρ1 M1 with
            | .ok x M2 => (match M2[n]? with
              | some (.lst xs) => if xs.length < 10000000 then cmpL src tg c f n fuel (i + 1) ρ1 (M2.set n (.lst (xs ++ [x]))) else .bad
              | none => .bad)
            | _ => .bad)
          | .ok false M1 => cmpL src tg c f n fuel (i + 1) ρ1 M1
          | _ => .bad)))
noncomputable def roB (k : Nat) (fr : List Nat) (ρ : Ro) : Ro := List.replicate k none ++ fr.map fun i => (ρ[i]?).join
noncomputable def eComp (fi : Ro → Sto → Out Src) (k : Nat) (fr : List Nat) (tg : Tg) (c : Tv) (f : Ev) : Ev := fun ρ M => (fi ρ M).bind fun src M1 => match cmpL src tg c f M1.length (cnt src M1) 0 (roB k fr ρ) (M1 ++ [.lst []]) with
  | .ok _ M2 => .ok (.ref M1.length) M2
  | _ => .bad
structure Blk (X : Cx) (scope : Scope) (cl : List (Str × Addr)) (N : List Str) (k : Nat) (fr : List Nat) : Prop where
  clos : closureFor scope X.env = pure cl
  kind : scope.kind = .function
  cell : ∀ y ∈ scope.names, y.2 ≠ .cell
  names : ∀ y ∈ scope.names, y.2 = .local → scope.names.lookup y.1 = some .local
  sub : ∀ x c, cl.lookup x = some c → X.env.cells.lookup x = some c
  has : ∀ x, ((relabel scope X.env).names.lookup x = some .cell ∨ (relabel scope X.env).names.lookup x = some .free) → ∃ c, cl.lookup x = some c
  len : N.length = k + fr.length
  at_ : ∀ (j i : Nat), fr[j]? = some i → ∃ x, N[k + j]? = some x ∧ X.N[i]? = some x ∧ X.env.kindOf x = some .cell ∧ ((relabel scope X.env).names.lookup x = some .cell ∨ (relabel scope X.env).names.lookup x = some .free) ∧ cl.lookup x = X.env.cells.lookup x
theorem compLoop_any {prog : Program} {w : World} {A : Around} {R : Result → Shared → Prop} {s : Shared} {elt target iter : Expr} {ifs : List Expr} {scope : Scope} {pos : Pos} {it acc : Value} {env : Env} (I : Nat → Shared → Prop)
    (turn : ∀ n s, I n s → wpAny (model prog w) A (pyNext it) (fun r s₁ => match r with
      | none => R (.ok .next) s₁
      | some v => wpAny (model prog w) A (letOwnedTupleGo target it v) (fun _ s₁ => wpAny (model prog w) A (assign target env v) (fun _ s₂ =>
          wpAny (model prog w) A (forIn ifs true fun c r => if r = true then do let ok ← isTrue c env (eval c env); pure (ForInStep.yield ok) else pure (ForInStep.yield r)) (fun ok s₃ =>
            if ok = true then wpAny (model prog w) A (eval elt env) (fun x s₄ =>
              wpAny (model prog w) A (call (.builtin "list.append") [acc, x]) (fun _ s₅ => ∃ m, m < n ∧ I m s₅) (fun _ _ => False) s₄) (fun _ _ => False) s₃
            else ∃ m, m < n ∧ I m s₃) (fun _ _ => False) s₂) (fun _ _ => False) s₁) (fun _ _ => False) s₁) (fun _ _ => False) s)
    (n : Nat) (h : I n s) :
    codeAny (model prog w) A (.compLoop (.ListComp elt [⟨target, iter, ifs, 0⟩] scope pos) 0 it acc env) R s := by
  refine codeAny_loop rfl I (fun n s hI => ?_) n h
  show wpAny _ A ((compTurn (.ListComp elt [⟨target, iter, ifs, 0⟩] scope pos) 0 it acc env).onRaise (fun x => do noteFrame x env; theTreesLotGoes x)) _ _ s
  refine wpAny_noted ?_
  rw [compTurn_list]
  refine wpAny_bind (wpAny_standAt (wpAny_bind (wpAny_mono (turn n s hI) (fun r s₁ h₁ => ?_) fun _ _ h' => h'.elim)))
  cases r with
  | none => exact wpAny_pure h₁
  | some v =>
    refine wpAny_bind (wpAny_mono h₁ (fun _ s₁ h₁ => ?_) fun _ _ h' => h'.elim)
    refine wpAny_bind (wpAny_mono h₁ (fun _ s₂ h₂ => wpAny_bind (wpAny_mono h₂ (fun ok s₃ h₃ => ?_) fun _ _ h' => h'.elim)) fun _ _ h' => h'.elim)
    cases ok with
    | false => exact wpAny_pure ⟨rfl, h₃⟩
    | true =>
      exact wpAny_bind (wpAny_bind (wpAny_mono h₃ (fun x s₄ h₄ => wpAny_bind (wpAny_mono h₄ (fun _ s₅ h₅ => wpAny_pure (wpAny_pure ⟨rfl, h₅⟩)) fun _ _ h' => h'.elim)) fun _ _ h' => h'.elim))
noncomputable def DC (X : Cx) (ifs : List Expr) (c : Tv) : Prop := (ifs = [] ∧ c = fun _ M => .ok true M) ∨ ∃ e, ifs = [e] ∧ DT X E0 e c
section
variable {X : Cx} {ξ : XK} {tg iter elt : Expr} {ifs : List Expr} {scope : Scope} {cl : List (Str × Addr)} {N : List Str} {k : Nat} {fr : List Nat} {fi : Ro → Sto → Out Src} {gt : Tg} {c : Tv} {f : Ev} {pos : Pos}
theorem blk_ok (B : Blk X scope cl N k fr) {pins : List (Addr × Obj)} {σ : L2.St} {H : Hp} {s : Shared} {fp : List Addr} (I : Inv X pins σ H s) (hf : ∀ b ∈ fp, FpOk X pins H b) (hlt : ∀ b ∈ fp, b < s.heap.objs.size) : (blk X scope cl N s.heap.objs.size fp s H).Ok where
  mod := I.ok.mod
  kind := B.kind
  glob := I.ok.glob
  blt := I.ok.blt
  above := Nat.le_refl _
  inj := fun x y c h1 h2 => I.ok.inj x y c (B.sub x c h1) (B.sub y c h2)
  has := fun x h => B.has x h
  cab := fun x c h => (by cases h)
  hd := I.ok.hd
  frames := I.ok.frames
  stk := .inl rfl
  exf := fun b hb => ⟨Nat.ne_of_lt (hlt b hb), fun x c h => (hf b hb).2.2.2.2.1 x c (B.sub x c h)⟩
  bs := I.bs
  bsz := Nat.le_trans I.ok.bsz I.sz
  noex := fun b o e hb => by
    rcases (hf b hb).2.2.2.1 with z | z
    · exact I.ok.noex b o e z
    · exact absurd (Nat.lt_of_lt_of_le (Heap.lt_size (I.ok.bs b o e).1) z) (Nat.lt_irrefl _)
  exfs := fun b hb z => by
    rcases List.mem_cons.mp (I.stkSub b z) with e | e
    · exact (hf b hb).2.1 e
    · exact (hf b hb).2.2.1 e
  funs := I.stack
  frf := I.stkFree
theorem join_some {α : Type} {o : Option (Option α)} {v : α} (h : o.join = some v) : o = some (some v) := by
  cases o with
  | none => cases h
  | some x => cases x with
    | none => cases h
    | some y => cases h; rfl
theorem roB_get {ρ : Ro} {i : Nat} {d : D} (h : (roB k fr ρ)[i]? = some (some d)) : ∃ j r, i = k + j ∧ fr[j]? = some r ∧ ρ[r]? = some (some d) := by
  unfold roB at h
  by_cases hi : i < k
  · rw [List.getElem?_append_left (by rw [List.length_replicate]; exact hi)] at h
    have := List.mem_of_getElem? h
    rw [List.mem_replicate] at this
    cases this.2
  · rw [List.getElem?_append_right (by rw [List.length_replicate]; omega), List.length_replicate, List.getElem?_map] at h
    cases e : fr[i - k]? with
    | none => rw [e] at h; cases h
    | some r =>
      rw [e] at h
      exact ⟨i - k, r, by omega, e, join_some (Option.some.inj h)⟩
noncomputable def stB (k : Nat) (fr : List Nat) (σ : L2.St) : L2.St := List.replicate k none ++ fr.map fun i => (σ[i]?).join
theorem stB_get {σ : L2.St} {i : Nat} {d : V} (h : (stB k fr σ)[i]? = some (some d)) : ∃ j r, i = k + j ∧ fr[j]? = some r ∧ σ[r]? = some (some d) := by
  unfold stB at h
  by_cases hi : i < k
  · rw [List.getElem?_append_left (by rw [List.length_replicate]; exact hi)] at h
    have := List.mem_of_getElem? h
    rw [List.mem_replicate] at this
    cases this.2
  · rw [List.getElem?_append_right (by rw [List.length_replicate]; omega), List.length_replicate, List.getElem?_map] at h
    cases e : fr[i - k]? with
    | none => rw [e] at h; cases h
    | some r =>
      rw [e] at h
      exact ⟨i - k, r, by omega, e, join_some (Option.some.inj h)⟩
theorem SR.blk {K : PySem.W.Frag} {H : Hp} {α : List Addr} {σ : L2.St} {ρ : Ro} (h : SR K H α σ ρ) : SR K H α (stB k fr σ) (roB k fr ρ) := by
  refine ⟨by simp [stB, roB], fun i d e => ?_⟩
  obtain ⟨j, r, rfl, e1, e2⟩ := roB_get e
  obtain ⟨v, e3, e4⟩ := h.2 r d e2
  refine ⟨v, ?_, e4⟩
  unfold stB
  rw [List.getElem?_append_right (by rw [List.length_replicate]; omega), List.length_replicate, List.getElem?_map, Nat.add_sub_cancel_left, e1]
  show some (σ[r]?).join = _
  rw [e3]
  rfl
theorem blk_inv (B : Blk X scope cl N k fr) {pins : List (Addr × Obj)} {σ : L2.St} {H : Hp} {s : Shared} {fp : List Addr} {h1 : Heap} {tk : Nat} {m : Str → Option Value} (I : Inv X pins σ H s) (hf : ∀ b ∈ fp, FpOk X pins H b) (hlt : ∀ b ∈ fp, b < s.heap.objs.size)
    (hn : h1.Ns s.heap.objs.size m) (hk : ∀ b o, s.heap.get? b = some o → h1.get? b = some o) : Inv (blk X scope cl N s.heap.objs.size fp s H) [] (stB k fr σ) H { s with heap := h1, toks := tk } where
  ok := blk_ok B I hf hlt
  os := rfl
  bare := I.bare
  base := Un.kept hk
  loc := by
    refine ⟨m, hn, fun i x v e1 e2 e3 => ?_⟩
    obtain ⟨j, r, rfl, g1, g2⟩ := stB_get e2
    obtain ⟨y, k1, k2, k3, k4, k5⟩ := B.at_ j r g1
    have exy : x = y := Option.some.inj (e1.symm.trans k1)
    subst exy
    obtain ⟨m0, hm0, hl⟩ := I.loc
    obtain ⟨u, ru, lk⟩ := hl r x v k2 g2 (.inr (.inl k3))
    refine ⟨u, ru, ?_⟩
    rcases lk with ⟨z, _⟩ | ⟨_, c, z1, ⟨o, z2, z3⟩⟩
    · rw [k3] at z; cases z
    · exact .inr ⟨k4, c, k5.trans z1, ⟨o, hk _ _ z2, z3⟩⟩
  cell := fun x c h => by
    obtain ⟨v, o, e1, e2⟩ := I.cell x c (B.sub x c h)
    exact ⟨v, o, hk _ _ e1, e2⟩
  free := I.fresh
  freeC := fun x c h => I.freeC x c (B.sub x c h)
  pin := fun p hp => (by simp [blk] at hp)
  hok := I.hok.kept hk
  len := by
    show (stB k fr σ).length = N.length
    rw [B.len]
    simp [stB]
  qd := I.qd
theorem de_comp (B : Blk X scope cl N k fr) (hi : DI X ξ tg iter fi) (hg : ∀ C fp s H, DG (blk X scope cl N C fp s H) tg gt) (ht : ∀ C fp s H, DC (blk X scope cl N C fp s H) ifs c) (he : ∀ C fp s H, DE (blk X scope cl N C fp s H) E0 elt f)
    (hs : ∀ x, foldedSetIterable iter X.env x = pure x := by intro _; rfl) : DE X ξ (.ListComp elt [⟨tg, iter, ifs, 0⟩] scope pos) (eComp fi k fr gt c f) := by
  obtain ⟨wi, pi, qi⟩ := hi
  refine ⟨fun σ H Q => ∃ ρ α M, SR X.K H α σ ρ ∧ HR X.K H α M ∧ OP X.K H α ξ Q (eComp fi k fr gt c f ρ M), ?_, fun σ ρ H α M Q s h q => ⟨ρ, α, M, s, h, q⟩⟩
  rintro pins s σ H Q I ⟨ρ, α, M, sr, hr, op⟩
  rw [eval_ListComp]
  refine wpAny_comprehension_free (use := none) rfl hs B.clos B.kind B.names ?_
  refine thn (pi pins s σ H (fun J H2 => ∃ α2 M2 src, Ext X.K H H2 α α2 ∧ HR X.K H2 α2 M2 ∧ SrcR X.K H2 α2 J src ∧ OP X.K H2 α2 ξ Q (match cmpL src gt c f M2.length (cnt src M2) 0 (roB k fr ρ) (M2 ++ [.lst []]) with | .ok _ M2' => .ok (.ref M2.length) M2' | _ => .bad)) I
    (qi σ ρ H α M _ sr hr (OG.seq op fun src M1 J H1 α1 e1 h1 r1 q1 => ⟨α1, M1, src, e1, h1, r1, q1⟩))) fun v s1 w1 => thn w1 fun itv s2 w2 => ?_
  obtain ⟨it, fp, tn, J, H2, rfl, I2, T, st2, f2, α2, M2, src, e2, h2, sc, op2⟩ := w2
  have srI := sr.mono e2
  -- the list that grows
  refine wpAny_newObj_type ?_
  have I3 : Inv X pins σ (upd H2 s2.heap.objs.size (.lst [])) { s2 with heap := s2.heap.push { cls := .type "list", data := .seq ([] : List Value).toArray } } := I2.lnew (its := []) (t' := s2.toks) .nil (Nat.zero_le _)
  have fD : H2 s2.heap.objs.size = none := I2.fresh
  generalize hD : s2.heap.objs.size = D at I3 fD
  generalize hs3 : ({ s2 with heap := s2.heap.push { cls := .type "list", data := .seq ([] : List Value).toArray } } : Shared) = s3 at I3
  generalize hH3 : upd H2 D (.lst []) = H3 at I3
  have h3 : HR X.K H3 (α2 ++ [D]) (M2 ++ [.lst []]) := by rw [← hH3]; exact h2.new fD .nil
  have e3 : Ext X.K H2 H3 α2 (α2 ++ [D]) := by rw [← hH3]; exact Ext.new fD
  have aD : (α2 ++ [D])[M2.length]? = some D := h2.last D
  have lt2 : ∀ b ∈ fp, b < s2.heap.objs.size := fun b hb => let ⟨o, e, _⟩ := T.obj _ _ st2 b hb; Heap.lt_size e
  have keep3 : ∀ b o, s2.heap.get? b = some o → s3.heap.get? b = some o := fun b o e => by rw [← hs3]; exact Heap.get?_push_of_some _ e
  have f3 : ∀ b ∈ fp, FpOk X pins H3 b := fun b hb => ⟨by rw [← hH3, upd_ne (by rw [← hD]; exact Nat.ne_of_lt (lt2 b hb))]; exact (f2 b hb).1, (f2 b hb).2⟩
  have lt3 : ∀ b ∈ fp, b < s3.heap.objs.size := fun b hb => let ⟨o, e, _⟩ := T.obj _ _ st2 b hb; Heap.lt_size (keep3 b o e)
  have st3 : tn 0 s3.heap := T.keep _ _ _ st2 fun b _ o e => keep3 b o e
  refine wpAny_newFunctionEnv B.cell (by intro y hy; simp at hy) (fun h₁ hns₁ hsb₁ => ?_) B.kind
  have keep4 : ∀ b o, s3.heap.get? b = some o → h₁.get? b = some o := fun b o e => hsb₁.extBut b o (Nat.ne_of_lt (Heap.lt_size e)) (Heap.get?_push_of_some _ e)
  have I4 := blk_inv (tk := s3.toks + ([] : List (Str × Value)).length) B I3 f3 lt3 hns₁ keep4
  have st4 : tn 0 h₁ := T.keep _ _ _ st3 fun b _ o e => keep4 b o e
  generalize hX : blk X scope cl N s3.heap.objs.size fp s3 H3 = Y at I4
  have YK : Y.K = X.K := by rw [← hX]; rfl
  have Yp : Y.prog = X.prog := by rw [← hX]; rfl
  have Yw : Y.w = X.w := by rw [← hX]; rfl
  have YA : Y.A = X.A := by rw [← hX]; rfl
  have Ye : Y.env = compEnvC scope cl s3.heap.objs.size X.env := by rw [← hX]; rfl
  obtain ⟨tt, pt, qt⟩ := hg s3.heap.objs.size fp s3 H3
  obtain ⟨te, pe, qe⟩ := he s3.heap.objs.size fp s3 H3
  have tst := ht s3.heap.objs.size fp s3 H3
  rw [hX] at pt qt pe qe tst
  cases er : cmpL src gt c f M2.length (cnt src M2) 0 (roB k fr ρ) (M2 ++ [.lst []]) with
  | exc x M9 => rw [er] at op2; exact op2.elim
  | bad => rw [er] at op2; exact op2.elim
  | ok u9 M9 =>
    rw [er] at op2
    have loop : codeAny (model X.prog X.w) X.A (.compLoop (.ListComp elt [⟨tg, iter, ifs, 0⟩] scope pos) 0 (.ref it) (.ref D) (compEnvC scope cl s3.heap.objs.size X.env)) (compPost (model X.prog X.w) X.A X.xe none (EP X pins σ Q) (.ref D) s3.heap.objs.size) { s3 with heap := h₁, toks := s3.toks + ([] : List (Str × Value)).length } := by
      refine compLoop_any (fun n s' => ∃ i σ' ρ' H' α' M', Inv Y [] σ' H' s' ∧ tn i s'.heap ∧ (∀ b ∈ fp, H' b = none) ∧ SR X.K H' α' σ' ρ' ∧ HR X.K H' α' M' ∧ Ext X.K H3 H' (α2 ++ [D]) α' ∧ cmpL src gt c f M2.length n i ρ' M' = .ok u9 M9) ?_ (cnt src M2)
        ⟨0, stB k fr σ, roB k fr ρ, H3, α2 ++ [D], M2 ++ [.lst []], I4, st4, fun b hb => (f3 b hb).1, (srI.blk).mono e3, h3, Ext.refl, er⟩
      rintro n s5 ⟨i, σ5, ρ5, H5, α5, M5, I5, st5, fr5, sr5, hr5, ex5, en⟩
      have fp5 : ∀ {H' : Hp}, (∀ b ∈ fp, H' b = none) → ∀ b ∈ fp, FpOk Y [] H' b := fun hn b hb => ⟨hn b hb, by rw [Ye]; exact Nat.ne_of_lt (lt3 b hb), by
        have := (blk_ok B I3 f3 lt3).exfs b hb
        rw [hX] at this; exact this, .inl (by rw [← hX]; exact hb), fun x c h => (by rw [Ye] at h; exact (f3 b hb).2.2.2.2.1 x c (B.sub x c h)), fun p hp => (by rw [← hX] at hp; simp [blk] at hp)⟩
      have src5 := sc i H5 α5 M5 (e3.trans ex5) hr5
      rw [cmpL] at en
      cases ex : nxt src i M5 with
      | none => rw [ex] at en; cases en
      | some od =>
        rw [ex] at src5 en
        cases od with
        | none =>
          cases en
          have fin := T.done Y Yp Yw YK YA i [] s5 σ5 H5 (fun _ _ => False) I5 (fp5 fr5) st5 src5
          rw [YA] at fin
          refine thn fin fun r s6 ⟨hr6, I6⟩ => ?_
          subst hr6
          obtain ⟨m6, hm6, _⟩ := id I6.loc
          rw [Ye] at hm6
          refine ⟨m6, hm6, fun h' sb => ?_⟩
          have un := I6.base
          have hok6 := I6.hok
          have I7 : Inv X pins σ H5 s6 := by
            refine I3.call' (s' := s6) (ch := fp) ?_ ?_ ?_ I6.bare fun b hb => ?_
            · have := I6.os
              rw [this, ← hX]; rfl
            · rw [← hX] at un
              exact un
            · rw [Yp, Yw] at hok6
              exact hok6
            · obtain ⟨_, z1, z2, z3, z4, z5⟩ := f3 b hb
              exact ⟨z3, z1, z4, z5⟩
          have hC : H5 s3.heap.objs.size = none := by have := I6.free; rw [Ye] at this; exact this
          have I8 : Inv X pins σ H5 { s6 with heap := h', toks := s6.toks } := I7.turned (it := s3.heap.objs.size) (fun b o hb e => (sb.2 b hb).trans e) hC (Nat.ne_of_gt I3.lt) (.inr I3.sz)
            (fun x c h z => by
              obtain ⟨v, o, e, _⟩ := I3.cell x c h
              exact absurd (Heap.lt_size e) (by rw [z]; exact Nat.lt_irrefl _)) (fun p hp z => by
              have := (I3.pin p hp).1
              exact absurd (Heap.lt_size this) (by rw [z]; exact Nat.lt_irrefl _))
          exact ⟨.ref D, H5, I8, rfl, op2 _ H5 α5 (e3.trans ex5) hr5 (.ref (ex5.get aD))⟩
        | some d =>
          obtain ⟨go, yl⟩ := src5
          cases n with
          | zero => cases en
          | succ n =>
            simp only at en
            have itm := T.item Y Yp Yw YK YA i [] s5 σ5 H5 (fun _ _ => False) I5 (fp5 fr5) st5 go
            rw [YA] at itm
            refine thn itm fun r s6 ⟨u, hr6, w6⟩ => ?_
            subst hr6
            refine thn w6 fun _ s7 ⟨x, H7, I7, r7, y7, st7, fr7⟩ => ?_
            obtain ⟨ex7, hr7, rp7⟩ := yl x H7 y7
            have sr5 := sr5.mono ex7
            have hr5 := hr7
            have ex5 := ex5.trans ex7
            have I7' := I7.pinned (fp5 fr7) (T.obj _ _ st7)
            cases eg : gt d ρ5 with
            | none => rw [eg] at en; cases en
            | some ρ6 =>
              rw [eg] at en
              simp only at en
              have asg := pt _ s7 σ5 H7 x u _ I7' r7 (qt x d σ5 ρ5 H7 α5 ρ6 (fun σ' H' => H' = H7 ∧ SR X.K H7 α5 σ' ρ6) (by rw [YK]; exact sr5) (by rw [YK]; exact rp7) eg fun σ' s' => ⟨rfl, by rw [YK] at s'; exact s'⟩)
              rw [Yp, Yw, YA, Ye] at asg
              refine wpAny_mono asg (fun _ s8 ⟨σ8, H8, I8, z8, sr8⟩ => ?_) (fun _ _ z => by rw [← hX] at z; exact z)
              subst z8
              have again : ∀ {σ9 : L2.St} {H9 : Hp} {s9 : Shared}, Inv Y ([] ++ pinsAt fp s7.heap) σ9 H9 s9 → Inv Y [] σ9 H9 s9 ∧ tn (i + 1) s9.heap ∧ ∀ b ∈ fp, H9 b = none := fun {σ9 H9 s9} I9 => by
                refine ⟨I9.unpinned, T.keep _ _ _ st7 fun b hb o e => (I9.pin (b, o) (List.mem_append_right _ (List.mem_append_right _ (mem_pinsAt hb e)))).1, fun b hb => ?_⟩
                obtain ⟨o, e, _⟩ := T.obj _ _ st7 b hb
                exact (I9.pin (b, o) (List.mem_append_right _ (List.mem_append_right _ (mem_pinsAt hb e)))).2.1
              -- what comes behind the tests
              have after : ∀ (kk : Bool) (M8 : Sto) (H9 : Hp) (α9 : List Addr) (s9 : Shared), Inv Y ([] ++ pinsAt fp s7.heap) σ8 H9 s9 → Ext X.K H8 H9 α5 α9 → HR X.K H9 α9 M8 → c ρ6 M5 = .ok kk M8 →
                  (if kk = true then wpAny (model X.prog X.w) X.A (eval elt (compEnvC scope cl s3.heap.objs.size X.env)) (fun x s₄ => wpAny (model X.prog X.w) X.A (call (.builtin "list.append") [.ref D, x]) (fun _ s₅ => ∃ m, m < n + 1 ∧ ∃ i σ' ρ' H' α' M', Inv Y [] σ' H' s₅ ∧ tn i s₅.heap ∧ (∀ b ∈ fp, H' b = none) ∧ SR X.K H' α' σ' ρ' ∧ HR X.K H' α' M' ∧ Ext X.K H3 H' (α2 ++ [D]) α' ∧ cmpL src gt c f M2.length m i ρ' M' = .ok u9 M9) (fun _ _ => False) s₄) (fun _ _ => False) s9
                   else ∃ m, m < n + 1 ∧ ∃ i σ' ρ' H' α' M', Inv Y [] σ' H' s9 ∧ tn i s9.heap ∧ (∀ b ∈ fp, H' b = none) ∧ SR X.K H' α' σ' ρ' ∧ HR X.K H' α' M' ∧ Ext X.K H3 H' (α2 ++ [D]) α' ∧ cmpL src gt c f M2.length m i ρ' M' = .ok u9 M9) := by
                intro kk M8 H9 α9 s9 I9 ex9 hr9 ec
                rw [ec] at en
                cases kk with
                | false =>
                  obtain ⟨a1, a2, a3⟩ := again I9
                  exact iteF ⟨n, Nat.lt_succ_self n, i + 1, σ8, ρ6, H9, α9, M8, a1, a2, a3, sr8.mono ex9, hr9, ex5.trans ex9, en⟩
                | true =>
                  simp only at en
                  refine iteT ?_
                  cases ef : f ρ6 M8 with
                  | exc x9 M10 => rw [ef] at en; cases en
                  | bad => rw [ef] at en; cases en
                  | ok y M10 =>
                    rw [ef] at en
                    simp only at en
                    have ev := pe _ s9 σ8 H9 (fun v H' => ∃ α', Ext X.K H9 H' α9 α' ∧ HR X.K H' α' M10 ∧ Rep X.K H' α' v y) I9 (qe σ8 ρ6 H9 α9 M8 _ (by rw [YK]; exact sr8.mono ex9) (by rw [YK]; exact hr9) (by
                      rw [ef, YK]
                      exact fun v H' α' e h r => ⟨α', e, h, r⟩))
                    rw [Yp, Yw, YA, Ye] at ev
                    refine wpAny_mono ev (fun yv s10 ⟨v, H10, I10, r10, α10, ex10, hr10, rp10⟩ => ?_) (fun _ _ z => by rw [← hX] at z; exact z)
                    cases em : M10[M2.length]? with
                    | none => rw [em] at en; cases en
                    | some so =>
                      cases so with
                      | lst ds =>
                        rw [em] at en
                        simp only at en
                        by_cases cz : ds.length < 10000000
                        · rw [if_pos cz] at en
                          have aD10 := ex10.get (ex9.get (ex5.get aD))
                          obtain ⟨xs, g1, g2⟩ := hr10.at aD10 em
                          have ap := mt_append (X := Y) _ s10 σ8 H10 (.ref D) [v] (.ref D) [yv] (fun _ H' => H' = upd H10 D (.lst (xs ++ [v]))) I10 rfl (.cons r10 .nil) ⟨D, xs, v, rfl, rfl, g1, by rw [g2.length]; exact Nat.lt_of_lt_of_le cz (by decide), rfl⟩
                          rw [Yp, Yw, YA] at ap
                          refine wpAny_mono ap (fun _ s11 ⟨v11, H11, I11, _, z11⟩ => ?_) (fun _ _ z => by rw [← hX] at z; exact z)
                          subst z11
                          obtain ⟨a1, a2, a3⟩ := again I11
                          have exw : Ext X.K H10 (upd H10 D (.lst (xs ++ [v]))) α10 α10 := Ext.wr g1
                          exact ⟨n, Nat.lt_succ_self n, i + 1, σ8, ρ6, _, α10, _, a1, a2, a3, ((sr8.mono ex9).mono ex10).mono exw, hr10.wr aD10 g1 (g2.append (.cons rp10 .nil)), ((ex5.trans ex9).trans ex10).trans exw, en⟩
                        · rw [if_neg cz] at en
                          cases en
              rcases tst with ⟨rfl, ec⟩ | ⟨e, rfl, tt', ptt, qtt⟩
              · refine wpAny_tests_nil ?_
                exact after true M5 H8 α5 s8 I8 Ext.refl hr5 (by rw [ec])
              · refine wpAny_tests_one ?_
                cases ec : c ρ6 M5 with
                | exc x9 M10 => rw [ec] at en; cases en
                | bad => rw [ec] at en; cases en
                | ok kk M8 =>
                  have tv' := ptt _ s8 σ8 H8 (fun b H' => b = kk ∧ ∃ α', Ext X.K H8 H' α5 α' ∧ HR X.K H' α' M8) I8 (qtt σ8 ρ6 H8 α5 M5 _ (by rw [YK]; exact sr8) (by rw [YK]; exact hr5) (by
                    rw [ec, YK]
                    exact fun v H' α' e h r => ⟨r, α', e, h⟩))
                  rw [Yp, Yw, YA, Ye] at tv'
                  refine wpAny_mono tv' (fun b s9 ⟨H9, I9, zb, α9, ex9, hr9⟩ => ?_) (fun _ _ z => by rw [← hX] at z; exact z)
                  subst zb
                  exact after b M8 H9 α9 s9 I9 ex9 hr9 ec
    exact codeAny_compStart_list loop (T.self X.A 0 _ _ _ st4 loop)
end
end DL


end
section
set_option Elab.async false
set_option linter.all false
set_option maxRecDepth 100000
set_option maxHeartbeats 4000000
namespace DL
open PySem PySem.Spec PyProof.Rows L2
theorem noKind {names : List (Str × NameKind)} (h : names.all (fun y => y.2 != .cell && y.2 != .free) = true) (x : Str) : ¬ (names.lookup x = some .cell ∨ names.lookup x = some .free) := by
  induction names with
  | nil => intro z; rcases z with z | z <;> simp at z
  | cons y r ih =>
    rw [List.all_cons, Bool.and_eq_true] at h
    obtain ⟨n, kd⟩ := y
    rw [List.lookup_cons]
    cases e : x == n with
    | true =>
      simp only
      intro z
      have h1 := h.1
      rcases z with z | z <;> (cases z; simp at h1)
    | false => exact ih h.2
theorem relabel0 {names : List (Str × NameKind)} {env : Env} (h : names.all (fun y => y.2 != .cell && y.2 != .free) = true) :
    (names.map fun (n, k) => if (k == NameKind.free && env.scope.kind == .function && env.kindOf n == some .cell) then (n, NameKind.cell) else (n, k)) = names := by
  induction names with
  | nil => rfl
  | cons y r ih =>
    rw [List.all_cons, Bool.and_eq_true] at h
    obtain ⟨n, kd⟩ := y
    have hk : (kd == NameKind.free) = false := by
      have h1 := h.1
      rw [Bool.and_eq_true] at h1
      have h2 := h1.2
      cases kd <;> first | rfl | simp at h2
    rw [List.map_cons, ih h.2]
    simp [hk]
theorem blk0 {X : Cx} {scope : Scope} {N : List Str} {k : Nat} (h : scope.names.all (fun y => y.2 != .cell && y.2 != .free) = true) (hk : scope.kind = .function) (hn : ∀ y ∈ scope.names, y.2 = .local → scope.names.lookup y.1 = some .local) (hl : N.length = k) : Blk X scope [] N k [] where
  clos := closureFor_none fun y hy z => by
    have := List.all_eq_true.mp h y hy
    rw [z] at this
    simp at this
  kind := hk
  cell := fun y hy z => by
    have := List.all_eq_true.mp h y hy
    rw [z] at this
    simp at this
  names := hn
  sub := fun x c z => (by cases z)
  has := fun x z => by
    have e : (relabel scope X.env).names = scope.names := relabel0 h
    rw [e] at z
    exact absurd z (noKind h x)
  len := hl
  at_ := fun j i z => (by simp at z)
section
variable {X : Cx} {ξ : XK}
noncomputable def rAll (X : Cx) : List V → Hp → VK → Prop := fun vs H Q => ∃ (p : Addr) (bs : List Bool), vs = [.ref p] ∧ SqL X.K H p (bs.map V.bl) ∧ Q (.bl (bs.all id)) H
theorem bools_get : ∀ {bs : List Bool} {us : List Value} {i : Nat} {u : Value}, Vals (bs.map V.bl) us → us[i]? = some u → ∃ b, bs[i]? = some b ∧ u = .bool b
  | [], us, i, u, h, e => by cases h; simp at e
  | b :: r, us, i, u, h, e => by
    cases h with
    | cons h1 h2 =>
      cases i with
      | zero => simp at e; subst e; exact ⟨b, rfl, h1⟩
      | succ i => simp at e; obtain ⟨b', g1, g2⟩ := bools_get h2 e; exact ⟨b', by simpa using g1, g2⟩
theorem range_all' (bs : List Bool) : ((List.range bs.length).all fun i => (bs[i]?).getD true) = bs.all id := by
  rw [Bool.eq_iff_iff, List.all_eq_true, List.all_eq_true]
  constructor
  · intro h b hb
    obtain ⟨i, hi, e⟩ := List.getElem_of_mem hb
    have := h i (List.mem_range.mpr hi)
    simp only [List.getElem?_eq_getElem hi, Option.getD_some, e] at this
    exact this
  · intro h i hi
    have hi' := List.mem_range.mp hi
    simp only [List.getElem?_eq_getElem hi', Option.getD_some]
    exact h _ (List.getElem_mem hi')
theorem call_all (hc : X.calm = true) : CallR X (.builtin "all") (rAll X) := by
  intro pins s σ H vs us Q I rs ⟨p, bs, e, hl, q⟩
  subst e
  obtain ⟨u, rfl, ru⟩ := vals1 rs
  cases ru
  obtain ⟨its, hv, hp, hz⟩ := I.list hl
  have hlt : p < s.heap.objs.size := by obtain ⟨_, e, _⟩ := hp.isList; exact Heap.lt_size e
  refine call_all_walk (wpAny_pyIter_list hp.isList ?_)
  refine ⟨s.heap.objs.size, [s.heap.objs.size, p], [s.heap.objs.size], its.toArray.size, _, _, fun i => (bs[i]?).getD true, rfl, Walks.list (A := X.A.in1) (I.ok.hd hc) _ p (Nat.ne_of_lt hlt) its.toArray,
    ⟨⟨_, Heap.get?_push_size _ rfl, rfl, rfl⟩, hp.isList.push _⟩, fun i v s' Q' E' hP hQ => ?_, fun h' tk hk => ?_⟩
  · obtain ⟨b, e, rfl⟩ := bools_get (i := i) (u := v) hv (by simpa using hP)
    simp only [e, Option.getD_some] at hQ
    exact wpAny_truthy_bool hQ
  · have e : ((List.range its.toArray.size).all fun i => (bs[i]?).getD true) = bs.all id := by
      rw [List.size_toArray, ← hv.length, List.length_map]; exact range_all' bs
    rw [e]
    exact ⟨.bl (bs.all id), H, I.kept fun b o e => hk b o (fun hm => by rw [List.mem_singleton.mp hm] at e; exact Nat.lt_irrefl _ (Heap.lt_size e)) (Heap.get?_push_of_some _ e), rfl, q⟩
noncomputable def boolsD : List D → Option (List Bool)
  | [] => some []
  | .bl b :: r => match boolsD r with | some bs => some (b :: bs) | none => none
  | _ :: _ => none
theorem boolsD_ok {K : PySem.W.Frag} {H : Hp} {α : List Addr} : ∀ {vs : List V} {ds : List D} {bs : List Bool}, Reps K H α vs ds → boolsD ds = some bs → vs = bs.map V.bl
  | _, _, _, .nil, e => by cases e; rfl
  | _, _, bs, .cons (d := d) (ds := ds) r t, e => by
    cases r with
    | bl b =>
      cases e1 : boolsD ds with
      | none => simp only [boolsD, e1] at e; cases e
      | some cs =>
        simp only [boolsD, e1, Option.some.injEq] at e
        subst e
        rw [boolsD_ok t e1]
        rfl
    | _ => cases e
noncomputable def bAll : List D → Sto → Out D := fun ds M => match ds with
  | [.ref n] => (match M[n]? with | some (.lst xs) => (match boolsD xs with | some bs => .ok (.bl (bs.all id)) M | none => .bad) | none => .bad)
  | _ => .bad
theorem co_all : CO X ξ (rAll X) bAll := by
  intro H α M vs ds Q h rs q
  match rs with
  | .nil => exact q.elim
  | .cons r (.cons _ _) => cases r <;> exact q.elim
  | .cons r .nil =>
    cases r with
    | @ref p n hp =>
      cases e1 : M[n]? with
      | none => simp only [bAll, e1] at q; exact q.elim
      | some so =>
        cases so with
        | lst es =>
          cases e2 : boolsD es with
          | none => simp only [bAll, e1, e2] at q; exact q.elim
          | some bs =>
            simp only [bAll, e1, e2] at q
            obtain ⟨xs, g1, g2⟩ := h.at hp e1
            have := boolsD_ok g2 e2
            subst this
            exact ⟨p, bs, rfl, SqL.of g1, q _ H α Ext.refl h (.bl _)⟩
    | _ => exact q.elim
end
section
variable {prog : Program} {w : World} {A : Around} {E : Value → Shared → Prop} {s : Shared}
end
section
variable {X : Cx} {ξ : XK} {e : Expr} {f : Ev} {p2 p3 p4 pos : Pos} {j : Nat}
end
end DL


end
section
set_option Elab.async false
set_option linter.all false
set_option maxRecDepth 100000
set_option maxHeartbeats 4000000
namespace DL
open PySem PySem.Spec PyProof.Rows L2
section
variable {X : Cx} {ξ : XK}
end
end DL


end
section
set_option Elab.async false
set_option linter.all false
set_option maxRecDepth 100000
set_option maxHeartbeats 4000000
namespace DL
open PySem PySem.Spec PyProof.Rows L2
section
variable {M : Model} {A : Around} {E : Value → Shared → Prop} {s : Shared}
end
section
variable {X : Cx} {ξ : XK} {tg iter elt : Expr} {ifs : List Expr} {scope : Scope} {cl : List (Str × Addr)} {N : List Str} {k : Nat} {fr : List Nat} {fi : Ro → Sto → Out Src} {gt : Tg} {c : Tv} {f : Ev} {pos : Pos}
end
section
variable {X : Cx} {scope0 : Scope} {cl0 : List (Str × Addr)} {N0 : List Str} {k0 : Nat} {fr0 : List Nat} {C : Addr} {fp : List Addr} {s : Shared} {H : Hp} {scope : Scope} {N : List Str} {k : Nat} {fr : List Nat} {dn : List (Str × NameKind)}
end
end DL


end
section
set_option Elab.async false
set_option linter.all false
set_option maxRecDepth 100000
set_option maxHeartbeats 4000000
namespace DL
open PySem PySem.Spec PyProof.Rows L2
open PySem.W (nsIn excIn tailIn nsOkIn mroIn clsIn typeIn findIn specialIn takesIn kitOne Looks)
noncomputable abbrev bmV : List Value := [.type "ValueError", .type "Exception", .type "BaseException", .type "object"]
noncomputable def clsAt (K : PySem.W.Frag) (c : Str) : Option Addr := match nsIn K mainGlobals c with | some (some (.ref C)) => some C | _ => none
theorem clsAt_ns {K : PySem.W.Frag} {c : Str} {C : Addr} (h : clsAt K c = some C) : nsIn K mainGlobals c = some (some (.ref C)) := by
  unfold clsAt at h
  split at h
  · rename_i C' e; cases h; exact e
  · cases h
noncomputable def exOk (K : PySem.W.Frag) (c : Str) : Bool := match clsAt K c with
  | some C => excIn K C bmV "ValueError.__new__" && findIn K (.ref C) "__getattribute__" == some (some (.builtin "BaseException.__getattribute__")) && findIn K (.ref C) "__getattr__" == some none && findIn K (.ref C) "__class__" == some (some (.builtin "object.__class__")) &&
    specialIn K (.builtin "object.__class__") "__get__" == some (some (.builtin "getset_descriptor.__get__")) && takesIn K (.builtin "object.__class__") == some true && mroIn K C (.type "BaseException") == some true && mroIn K C (.type "object") == some true && (clsIn K C).isSome
  | none => false
theorem exOk_at {K : PySem.W.Frag} {c : Str} (h : exOk K c = true) : ∃ C, nsIn K mainGlobals c = some (some (.ref C)) ∧ excIn K C bmV "ValueError.__new__" = true ∧ DQ.ExcC K C := by
  unfold exOk at h
  split at h
  · rename_i C e
    simp only [Bool.and_eq_true, beq_iff_eq] at h
    obtain ⟨⟨⟨⟨⟨⟨⟨⟨h1, h2⟩, h3⟩, h4⟩, h5⟩, h6⟩, h7⟩, h8⟩, h9⟩ := h
    exact ⟨C, clsAt_ns e, h1, h2, h3, h4, h5, h6, h7, h8, h9⟩
  · cases h
theorem exc_obj {K : PySem.W.Frag} {h : Heap} {C : Addr} {bmB : List Value} {newId : String} (X : K.In h) (q : excIn K C bmB newId = true) :
    ∃ bm N nm q bs hdct sn sub ab col dd k0 k1 k2 k3 k5 mN, h.get? C = some (excClassObj nm q C N bs bm hdct sn sub ab col dd k0 k1 k2 k3 k5 newId) ∧ h.Ns N mN ∧ mN "__init__" = none ∧ OwnTail h bmB bm := by
  unfold excIn at q
  split at q
  · rename_i dd cd sl ho
    split at q
    · rename_i C' bm k0 k1 k2 k3 n k5 hm hs
      simp only [Bool.and_eq_true, beq_iff_eq, Bool.not_eq_true'] at q
      obtain ⟨⟨⟨⟨⟨rfl, rfl⟩, hdel⟩, ht⟩, hok⟩, hni⟩ := q
      obtain ⟨nm, bs, mro, ns, qn, hd, sn, sub, ab, col, del⟩ := cd
      dsimp only at hm hdel hok hni
      subst hm hdel
      obtain ⟨l⟩ := sl
      simp only at hs
      subst hs
      exact ⟨bm, ns, nm, qn, bs, hd, sn, sub, ab, col, dd, k0, k1, k2, k3, k5, _, X _ _ ho, .of_isNs (PySem.W.isNs_of_in X hok), PySem.W.nsMap_none_of_in X hok hni, PySem.W.tail_of_in X ht⟩
    · cases q
  · cases q
noncomputable def eIsE (tab : List (Str × Bool)) (f : Ev) : Ev := fun ρ M => (f ρ M).bind fun x M1 => match x with | .err c _ => (match tab.lookup c with | some b => .ok (.bl b) M1 | none => .bad) | _ => .bad
section
variable {X : Cx} {ξ : XK} {e : Expr} {fa : Ev} {p pos : Pos} {tab : List (Str × Bool)}
noncomputable def sRaise (c : Str) (fs : Av) : Sv := fun ρ M => bindF (fs ρ M) fun ds M1 => if ds.length ≤ 1000 then .exc c M1 else .bad
theorem ds_raise {x : Str} {np cpos : Pos} {a : Expr} {as : List Expr} {fs : Av} (T : Thr X ξ) (hx : exOk X.K x = true) (gl : ∀ c v, nsIn X.K mainGlobals c = some (some v) → X.mg c = some v) (hh : X.A.handled = none) (ha : DA X ξ (a :: as) fs) (hg : Gl X x := by rfl) (hdb : (x == ("__debug__" : Str)) = false := by decide)
    (he : starEach (a :: as) X.env = (false, eval a X.env) :: starEach as X.env := by rfl) (hpl : (backTo cpos (starEach as X.env)).any (·.1) = false := by rfl) : DS X ξ (.Raise (some (.Call (.Name x np) (a :: as) [] cpos)) none pos) (sRaise x fs) := by
  obtain ⟨ta, pa, qa⟩ := ha
  obtain ⟨C, hC, hq, _⟩ := exOk_at hx
  refine ⟨fun Dn σ H => ta σ H fun vs H1 => vs.length ≤ sizeLine ∧ ξ (.ref C) none H1, fun pins s σ H Dn I h => ?_, fun σ ρ H α M Dn s h q => ?_⟩
  · obtain ⟨tl, N, nm, q, bs, hdct, sn, sub, ab, col, dd, k0, k1, k2, k3, k5, mN, gC, hN, hni, TL⟩ := exc_obj I.ok.mod.kin hq
    refine wpAny_Raise_call_subT (C := C) (nm := nm) (q := q) (N := N) (bs := bs) (bm := tl) (hdct := hdct) (sn := sn) (sub := sub) (ab := ab) (col := col) (dd := dd) (k0 := k0) (k1 := k1) (k2 := k2) (k3 := k3) (k5 := k5) F.excBase_ValueError (mN := mN)
      (TL.hasType F.excBase_ValueError.hasBase) hh (by rw [he]; show (false || (backTo cpos (starEach as X.env)).any (·.1)) = false; rw [hpl]; rfl) hni (ld_glob I hg (gl x _ hC) ⟨rfl, ?_⟩ hdb)
    have hs := pa cpos pins s σ H _ I h
    rw [he] at hs ⊢
    refine Calls.evalArgs_plain (wpAny_mono hs (fun us s2 ⟨vs, H1, I1, r1, z1, z2⟩ => ⟨rfl, by rw [← r1.length]; exact z1, I1.bk _ _ gC, hN.keeps I1.bk, TL.keeps I1.bk, fun h' e m => ?_⟩) fun _ _ y => y)
    obtain ⟨t, g1, g2, g3⟩ := m.there
    exact T.mak pins σ H1 s2 h' e _ _ C I1 m.keeps m.new g1 rfl rfl rfl rfl rfl z2
  · refine qa σ ρ H α M _ s h (FP.seq q fun ds M1 vs H1 α1 e1 h1 r1 w1 => ?_)
    by_cases hl : ds.length ≤ 1000
    · rw [if_pos hl] at w1
      exact ⟨by rw [r1.length]; exact small hl, w1 C H1 α1 hC Ext.refl h1⟩
    · rw [if_neg hl] at w1
      exact w1.elim
end
end DL


end
section
set_option Elab.async false
set_option linter.all false
set_option maxRecDepth 100000
set_option maxHeartbeats 4000000
namespace DL
open PySem PySem.Spec PyProof.Rows L2
open PySem.W (nsIn excIn tailIn nsOkIn mroIn clsIn typeIn findIn specialIn takesIn kitOne Looks looks_mroIn looks_typeIn)
section
variable {X : Cx} {pins pins' pn : List (Addr × Obj)} {σ : L2.St} {H H' : Hp} {s : Shared} {xe : Value → Shared → Prop} {e : Addr}
end
noncomputable def sTry (gb : Sv) (cs : List Str) (i : Nat) (gh : Sv) : Sv := fun ρ M => match gb ρ M with
  | .exc c M1 => if cs.contains c = true then (match gh ((List.replicate ρ.length none).set i (some (.err c []))) M1 with
    | .ret d M2 => .ret d M2
    | .nx _ M2 => .nx (List.replicate ρ.length none) M2
    | _ => .bad) else .bad
  | o => o
section
variable {X : Cx} {ξ : XK} {d n : Str} {cs : List Str} {i : Nat} {body suite : List Stmt} {b0 : Stmt} {gb gh : Sv} {pos hpos np : Pos}
end
theorem calm_of {k : Nat} {A : Around} {env : Env} (hr : Room k (A.deeper env)) (h : 100 ≤ k) : A.handled.isNone = true := by
  have e : A.handled = none := hr.hd h
  rw [e]
  rfl
end DL


end
section
set_option Elab.async false
set_option linter.all false
set_option maxRecDepth 100000
set_option maxHeartbeats 4000000
namespace DL
open PySem PySem.Spec PyProof.Rows L2
noncomputable abbrev Me := D → List D → Sto → Out D
noncomputable def MO (X : Cx) (ξ : XK) (r : V → List V → Hp → VK → Prop) (g : Me) : Prop := ∀ H α M v vs x ds Q, HR X.K H α M → Rep X.K H α v x → Reps X.K H α vs ds → OP X.K H α ξ Q (g x ds M) → r v vs H Q
theorem HR.wrE {K : PySem.W.Frag} {H : Hp} {α : List Addr} {M : Sto} {n : Nat} {p : Addr} {xs ys : List V} {ds : List D} (h : HR K H α M) (e : α[n]? = some p) (hp : H p = some (.lst ys)) (r : Reps K H α xs ds) : Ext K H (upd H p (.lst xs)) α α ∧ HR K (upd H p (.lst xs)) α (M.set n (.lst ds)) :=
  ⟨Ext.wr hp, h.wr e hp r⟩
section
variable {X : Cx} {ξ : XK} {o e : Expr} {es : List Expr} {fo fa : Ev} {fs : Av} {name : Str} {apos cpos pos : Pos} {T id : String} {r : V → List V → Hp → VK → Prop} {g : Me}
noncomputable def lstK (x : D) (M : Sto) : Bool := match x with | .ref n => M[n]?.isSome | _ => false
noncomputable def eMtL (g : Me) (fo : Ev) (fs : Av) : Ev := fun ρ M => (fo ρ M).bind fun x M1 => if lstK x M1 = true then (fs ρ M1).bind fun ds M2 => g x ds M2 else .bad
theorem lstK_ty {K : PySem.W.Frag} {H : Hp} {α : List Addr} {M : Sto} {v : V} {x : D} (h : HR K H α M) (rx : Rep K H α v x) (k : lstK x M = true) : tyV K "list" v H := by
  cases rx with
  | @ref p n hp =>
    obtain ⟨xs, g⟩ := h.some_at hp
    exact .inl ⟨rfl, _, SqL.of g⟩
  | _ => cases k
theorem de_mt (slot : Slot "list" name id) (hty : typeOf (.builtin id) = pure (.type "method_descriptor")) (hm : MtR X id r) (hf : MO X ξ r g) (ho : DE X ξ o fo) (ha : DA X ξ (e :: es) fs)
    (hbase : attributeBase o name X.env (eval o X.env) = eval o X.env := by rfl)
    (hfew : ((backTo cpos (starEach (e :: es) X.env)).all (fun x => !x.1) && (backToKw cpos (keywordEach [] X.env)).all (fun x => x.1.isSome)
      && decide ((e :: es).length + ([] : List Keyword).length + (if ([] : List Keyword).isEmpty then 0 else 1) < 30)) = true := by rfl)
    (hline : (apos.endLine == cpos.line) = true := by rfl) (hs : starEach (e :: es) X.env = (false, eval e X.env) :: starEach es X.env := by rfl) (hplain : (backTo cpos (starEach es X.env)).any (·.1) = false := by rfl) :
    DE X ξ (.Call (.Attribute o name apos) (e :: es) [] cpos) (eMtL g fo fs) := by
  obtain ⟨to, po, qo⟩ := ho
  obtain ⟨ta, pa, qa⟩ := ha
  refine ⟨_, pe_bm PySem.F.plainAttrs_list slot hty hm po pa hbase hfew hline hs hplain, fun σ ρ H α M Q s h q => ?_⟩
  refine qo σ ρ H α M _ s h (OG.seq q fun x M1 v H1 α1 e1 h1 r1 q1 => ?_)
  by_cases k : lstK x M1 = true
  · rw [if_pos k] at q1
    exact ⟨lstK_ty h1 r1 k, qa σ ρ H1 α1 M1 _ (s.mono e1) h1 (OG.seq q1 fun ds M2 vs H2 α2 e2 h2 r2 q2 => hf H2 α2 M2 v vs x ds Q h2 (Rep.mono e2 r1) r2 q2)⟩
  · rw [if_neg k] at q1
    exact q1.elim
noncomputable def mApp : Me := fun x ds M => match x, ds with
  | .ref n, [d] => (match M[n]? with | some (.lst xs) => if xs.length < 10000000 then .ok .non (M.set n (.lst (xs ++ [d]))) else .bad | none => .bad)
  | _, _ => .bad
theorem mo_app : MO X ξ rAppend mApp := by
  intro H α M v vs x ds Q h rx rs q
  cases rx with
  | @ref p n hp =>
    match rs with
    | .nil => exact q.elim
    | .cons _ (.cons _ _) => exact q.elim
    | .cons (v := u) (d := d) ru .nil =>
      cases em : M[n]? with
      | none => simp only [mApp, em] at q; exact q.elim
      | some so =>
        cases so with
        | lst es =>
          obtain ⟨xs, g1, g2⟩ := h.at hp em
          by_cases c : es.length < 10000000
          · simp only [mApp, em, if_pos c] at q
            obtain ⟨k1, k2⟩ := h.wrE hp g1 (g2.append (.cons ru .nil))
            exact ⟨p, xs, u, rfl, rfl, g1, by rw [g2.length]; exact Nat.lt_of_lt_of_le c (by decide), q _ _ α k1 k2 .non⟩
          · simp only [mApp, em, if_neg c] at q
            exact q.elim
  | _ => cases rs <;> exact q.elim
noncomputable def mClr : Me := fun x ds M => match x, ds with
  | .ref n, [] => (match M[n]? with | some (.lst _) => .ok .non (M.set n (.lst [])) | none => .bad)
  | _, _ => .bad
noncomputable def mExt : Me := fun x ds M => match x, ds with
  | .ref n, [.ref m] => (match M[n]?, M[m]? with | some (.lst xs), some (.lst ys) => if xs.length + ys.length ≤ 10000000 then .ok .non (M.set n (.lst (xs ++ ys))) else .bad | _, _ => .bad)
  | _, _ => .bad
theorem de_append (ho : DE X ξ o fo) (ha : DE X ξ e fa) (hbase : attributeBase o "append" X.env (eval o X.env) = eval o X.env := by rfl)
    (hfew : ((backTo cpos (starEach [e] X.env)).all (fun x => !x.1) && (backToKw cpos (keywordEach [] X.env)).all (fun x => x.1.isSome)
      && decide ([e].length + ([] : List Keyword).length + (if ([] : List Keyword).isEmpty then 0 else 1) < 30)) = true := by rfl)
    (hline : (apos.endLine == cpos.line) = true := by rfl) (hs : starEach [e] X.env = (false, eval e X.env) :: starEach [] X.env := by rfl) (hplain : (backTo cpos (starEach [] X.env)).any (·.1) = false := by rfl) :
    DE X ξ (.Call (.Attribute o "append" apos) [e] [] cpos) (eMtL mApp fo (aCons fa aNil)) := de_mt PySem.F.slot_list_append PySem.F.type_list_append mt_append mo_app ho (da_cons ha da_nil hs) hbase hfew hline hs hplain
noncomputable def DO (X : Cx) (ξ : XK) (e : Option Expr) (f : Ro → Sto → Out (Option Int)) : Prop := ∃ t : TO, PO X e t ∧ ∀ σ ρ H α M (Q : Option Int → Hp → Prop), SR X.K H α σ ρ → HR X.K H α M → OG X.K (fun _ _ v d => v = d) H α ξ Q (f ρ M) → t σ H Q
noncomputable def oNo : Ro → Sto → Out (Option Int) := fun _ M => .ok none M
noncomputable def oSo (f : Ev) : Ro → Sto → Out (Option Int) := fun ρ M => (f ρ M).bind fun x M1 => match x with | .int i => .ok (some i) M1 | _ => .bad
theorem do_no : DO X ξ none oNo := ⟨_, po_none, fun σ ρ H α M Q s h q => q none H α Ext.refl h rfl⟩
theorem do_so (ha : DE X ξ e fa) : DO X ξ (some e) (oSo fa) := by
  obtain ⟨ta, pa, qa⟩ := ha
  refine ⟨_, po_some pa, fun σ ρ H α M Q s h q => ?_⟩
  refine qa σ ρ H α M _ s h (OG.seq q fun x M1 v H1 α1 e1 h1 r1 q1 => ?_)
  cases r1 with
  | int i => exact ⟨i, rfl, q1 (some i) H1 α1 Ext.refl h1 rfl⟩
  | _ => exact q1.elim
noncomputable def cutD (xs : List D) (lo hi : Option Int) : List D := (xs.drop (HT.sIx xs.length 0 lo)).take (HT.sIx xs.length xs.length hi - HT.sIx xs.length 0 lo)
theorem Reps.drop {K : PySem.W.Frag} {H : Hp} {α : List Addr} : ∀ (n : Nat) {vs : List V} {ds : List D}, Reps K H α vs ds → Reps K H α (vs.drop n) (ds.drop n)
  | 0, _, _, h => h
  | _ + 1, _, _, .nil => .nil
  | n + 1, _, _, .cons _ t => Reps.drop n t
theorem Reps.take {K : PySem.W.Frag} {H : Hp} {α : List Addr} : ∀ (n : Nat) {vs : List V} {ds : List D}, Reps K H α vs ds → Reps K H α (vs.take n) (ds.take n)
  | 0, _, _, _ => .nil
  | _ + 1, _, _, .nil => .nil
  | n + 1, _, _, .cons r t => .cons r (Reps.take n t)
theorem Reps.cut {K : PySem.W.Frag} {H : Hp} {α : List Addr} {vs : List V} {ds : List D} (r : Reps K H α vs ds) (lo hi : Option Int) : Reps K H α (cutV vs lo hi) (cutD ds lo hi) := by
  unfold cutV cutD
  rw [r.length]
  exact (r.drop _).take _
noncomputable def eSl (f : Ev) (lo hi : Ro → Sto → Out (Option Int)) : Ev := fun ρ M => (f ρ M).bind fun x M1 => (lo ρ M1).bind fun l M2 => (hi ρ M2).bind fun u M3 => match x with
  | .ref n => (match M3[n]? with | some (.lst xs) => .ok (.ref M3.length) (M3 ++ [.lst (cutD xs l u)]) | none => .bad)
  | .rol xs => .ok (.ref M3.length) (M3 ++ [.lst (cutD xs l u)])
  | .tup xs => if HT.sIx xs.length 0 l = 0 ∧ HT.sIx xs.length xs.length u = xs.length then .bad else .ok (.tup (cutD xs l u)) M3
  | _ => .bad
theorem de_sl {lo hi : Option Expr} {fl fh : Ro → Sto → Out (Option Int)} {p2 : Pos} (he : DE X ξ e fa) (hl : DO X ξ lo fl) (hh : DO X ξ hi fh) : DE X ξ (.Subscript e (.Slice lo hi none p2) pos) (eSl fa fl fh) := by
  obtain ⟨ta, pa, qa⟩ := he
  obtain ⟨tl, pl, ql⟩ := hl
  obtain ⟨th, ph, qh⟩ := hh
  refine ⟨_, pe_slice (SlR.or sl_list sl_tup) pa pl ph, fun σ ρ H α M Q s h q => ?_⟩
  refine qa σ ρ H α M _ s h (OG.seq q fun x M1 v H1 α1 e1 h1 r1 q1 => ?_)
  refine ql σ ρ H1 α1 M1 _ (s.mono e1) h1 (OG.seq q1 fun l M2 l' H2 α2 e2 h2 r2 q2 => ?_)
  refine qh σ ρ H2 α2 M2 _ ((s.mono e1).mono e2) h2 (OG.seq q2 fun u M3 u' H3 α3 e3 h3 r3 q3 => ?_)
  cases r2
  cases r3
  cases Rep.mono e3 (Rep.mono e2 r1) with
  | @ref p n hp =>
    cases em : M3[n]? with
    | none => simp only [em] at q3; exact q3.elim
    | some so =>
      cases so with
      | lst es =>
        simp only [em] at q3
        obtain ⟨xs, g1, g2⟩ := h3.at hp em
        exact .inl ⟨p, xs, rfl, SqL.of g1, fun a ha => q3 _ _ (α3 ++ [a]) (Ext.new ha) (h3.new ha (g2.cut l u)) (.ref (h3.last a))⟩
  | @rol p xs ds hp rp =>
    have q4 : OP X.K H3 α3 ξ Q (.ok (.ref M3.length) (M3 ++ [.lst (cutD ds l u)])) := q3
    exact .inl ⟨p, xs, rfl, hp.sq, fun a ha => q4 _ _ (α3 ++ [a]) (Ext.new ha) (h3.new ha (rp.cut l u)) (.ref (h3.last a))⟩
  | @tup p xs ds hp rp =>
    by_cases c : HT.sIx ds.length 0 l = 0 ∧ HT.sIx ds.length ds.length u = ds.length
    · simp only [if_pos c] at q3
      exact q3.elim
    · simp only [if_neg c] at q3
      exact .inr ⟨p, xs, rfl, hp, by rw [rp.length]; exact c, fun a ha => q3 _ _ α3 (Ext.new0 ha) (h3.tup ha) (.tup (.inl (.inl upd_same)) (Reps.mono (Ext.new0 ha) (rp.cut l u)))⟩
  | _ => exact q3.elim
noncomputable def iR2 (fs : Av) : Ro → Sto → Out Src := fun ρ M => (fs ρ M).bind fun ds M1 => match ds with
  | [.int i, .int j] => if -(2 ^ 62) ≤ i ∧ i < 2 ^ 62 ∧ -(2 ^ 62) ≤ j ∧ j < 2 ^ 62 then .ok (.pur (rngD i (j - i).toNat)) M1 else .bad
  | _ => .bad
end
noncomputable def eRv (f : Ev) : Ev := fun ρ M => (f ρ M).bind fun x M1 => match x with
  | .tup xs => .ok (.tup xs.reverse) M1
  | .ref n => (match M1[n]? with | some (.lst xs) => .ok (.ref M1.length) (M1 ++ [.lst xs.reverse]) | none => .bad)
  | .rol xs => .ok (.ref M1.length) (M1 ++ [.lst xs.reverse])
  | _ => .bad
end DL


end
section
set_option Elab.async false
set_option linter.all false
set_option maxRecDepth 100000
set_option maxHeartbeats 4000000
namespace DL
open PySem PySem.Spec PyProof.Rows L2
noncomputable def forS (tg : Tg) (g : Sv) (src : Src) : Nat → Nat → Ro → Sto → Fl
  | f, i, ρ, M => match nxt src i M with
    | none => .bad
    | some none => .nx ρ M
    | some (some d) => (match f with
      | 0 => .bad
      | f + 1 => (match tg d ρ with
        | none => .bad
        | some ρ1 => (match g ρ1 M with
          | .nx ρ2 M2 => forS tg g src f (i + 1) ρ2 M2
          | .cnt ρ2 M2 => forS tg g src f (i + 1) ρ2 M2
          | .brk ρ2 M2 => .nx ρ2 M2
          | o => o)))
noncomputable def sForS (tg : Tg) (fi : Ro → Sto → Out Src) (g : Sv) : Sv := fun ρ M => bindF (fi ρ M) fun src M1 => forS tg g src (cnt src M1) 0 ρ M1
section
variable {X : Cx} {ξ : XK} {tg iter a b : Expr} {gt : Tg} {fi : Ro → Sto → Out Src} {g : Sv} {body : List Stmt} {f fa fb : Ev} {fs : Av} {p pos : Pos}
theorem ds_forS (hp : PassesOwn (model X.prog X.w) X.A X.env X.xe) (hi : DI X ξ tg iter fi) (hg : DG X tg gt) (hb : DSs X ξ body g) (hf : ∀ x, foldedSetIterable iter X.env x = pure x := by intro _; rfl) : DS X ξ (.For tg iter body [] pos) (sForS gt fi g) := by
  obtain ⟨wi, pi, qi⟩ := hi
  obtain ⟨tt, pt, qt⟩ := hg
  obtain ⟨tb, pb, qb⟩ := hb
  refine ⟨_, ps_for hp pi pt pb hf, fun σ ρ H α M Dn s hh w => qi σ ρ H α M _ s hh (FP.seq w fun src M1 J H1 α1 e1 h1 sc w1 => ?_)⟩
  generalize eo : forS gt g src (cnt src M1) 0 ρ M1 = o at w1
  refine ⟨fun i m σ' H' => ∃ ρ' α' M', Ext X.K H1 H' α1 α' ∧ SR X.K H' α' σ' ρ' ∧ HR X.K H' α' M' ∧ forS gt g src m i ρ' M' = o, ⟨cnt src M1, ρ, α1, M1, Ext.refl, s.mono e1, h1, eo⟩, ?_⟩
  rintro i m σ' H' ⟨ρ', α', M', ex, sr, hr, en⟩
  have s5 := sc i H' α' M' ex hr
  unfold forS at en
  cases en1 : nxt src i M' with
  | none => rw [en1] at en; cases en; exact w1.elim
  | some od =>
    rw [en1] at en s5
    cases od with
    | none => cases en; exact .inl ⟨s5, w1 σ' H' α' ex hr sr⟩
    | some d =>
      obtain ⟨go, yl⟩ := s5
      cases m with
      | zero => cases en; exact w1.elim
      | succ m =>
        simp only at en
        refine .inr ⟨go, fun σ2 H2 => ∃ ρ' α' M', Ext X.K H1 H2 α1 α' ∧ SR X.K H2 α' σ2 ρ' ∧ HR X.K H2 α' M' ∧ forS gt g src m (i + 1) ρ' M' = o, fun σ2 H2 z => ⟨m, Nat.lt_succ_self m, z⟩, fun x H2 y => ?_⟩
        obtain ⟨ex7, hr7, rp7⟩ := yl x H2 y
        exact turnD (tg := tg) w1 qt qb (ex.trans ex7) (sr.mono ex7) hr7 rp7 en (fun σ' H' z => z)
end
theorem turnedN {X : Cx} {pins : List (Addr × Obj)} {σ : L2.St} {H : Hp} {s : Shared} {h' : Heap} {t' : Nat} {ch : List Addr} (I : Inv X pins σ H s) (k : ∀ b o, b ∉ ch → s.heap.get? b = some o → h'.get? b = some o) (hf : ∀ b ∈ ch, FpOk X pins H b) : Inv X pins σ H { s with heap := h', toks := t' } := by
  have nit : ∀ b u, H b = some u → b ∉ ch := fun b u e z => by rw [(hf b z).1] at e; cases e
  have hL : X.env.locals ∉ ch := fun z => (hf _ z).2.1 rfl
  refine I.step (g' := s.gens) (d' := s.drawn) (ch := ch) (fun b hb => ?_) (fun b o _ _ hc e _ => k b o hc e) (fun b o _ _ hc e _ => ⟨o.slots, k b o hc e⟩) (fun _ _ _ _ n => n)
    (fun b o hc e => ⟨o, k b o hc e⟩) (fun _ _ e => e) (fun _ _ _ e => e) (fun b ps e => ⟨#[], by rw [e]; simp⟩) (fun m hm => ?_) (fun b u e => ?_) I.bare
  · obtain ⟨_, z1, _, z3, z4, z5⟩ := hf b hb
    exact ⟨z3, z1, z4, z5⟩
  · obtain ⟨o, es, ep, ho, r⟩ := hm
    exact ⟨o, es, ep, k _ o hL ho, r⟩
  · refine (I.hok b u e).stay (fun c v hc q => k c v ?_ q) (fun _ q => q) fun _ _ q => q
    rcases hc with z | z
    · rw [z]; exact nit b u e
    · exact nit c _ z
theorem tupled {X : Cx} {pins : List (Addr × Obj)} {σ : L2.St} {H : Hp} {s : Shared} {h' : Heap} {t' : Nat} {ch : List Addr} {vs : List V} {us : List Value} (I : Inv X pins σ H s) (hf : ∀ b ∈ ch, FpOk X pins H b) (hlt : ∀ b ∈ ch, b < s.heap.objs.size) (rv : Vals vs us) (hz : vs.length ≤ sizeLine)
    (k : ∀ b o, b ∉ ch → s.heap.get? b = some o → h'.get? b = some o) (ht : h'.get? s.heap.objs.size = some { cls := .type "tuple", data := .seq us.toArray }) :
    Inv X pins σ (upd H s.heap.objs.size (.tup vs)) { s with heap := h', toks := t' } ∧ H s.heap.objs.size = none ∧ ∀ b ∈ ch, upd H s.heap.objs.size (.tup vs) b = none := by
  have fr : H s.heap.objs.size = none := I.hok.fresh (Nat.le_refl _)
  have hn : ∀ b ∈ ch, upd H s.heap.objs.size (.tup vs) b = none := fun b hb => by rw [upd_ne (Nat.ne_of_lt (hlt b hb))]; exact (hf b hb).1
  have I1 : Inv X pins σ (upd H s.heap.objs.size (.tup vs)) { s with heap := s.heap.push { cls := .type "tuple", data := .seq us.toArray }, toks := t' } :=
    I.laid (t' := t') (o := .tup vs) (fun _ _ q => Heap.get?_push_of_some _ q) (Nat.le_refl _) ⟨hz, us, rv, _, Heap.get?_push_size _ rfl, rfl, _, rfl⟩
  refine ⟨turnedN (s := { s with heap := s.heap.push { cls := .type "tuple", data := .seq us.toArray }, toks := t' }) (t' := t') (ch := ch) I1 (fun b o hb e => ?_) (fun b hb => ⟨hn b hb, (hf b hb).2⟩), fr, hn⟩
  by_cases c : b = s.heap.objs.size
  · subst c
    have e' : (s.heap.push { cls := .type "tuple", data := .seq us.toArray }).get? s.heap.objs.size = some o := e
    rw [Heap.get?_push_size _ rfl] at e'
    cases e'
    exact ht
  · refine k b o hb ?_
    have e' : (s.heap.push { cls := .type "tuple", data := .seq us.toArray }).get? b = some o := e
    have hl : b < s.heap.objs.size := by
      have q : b < s.heap.objs.size + 1 := by
        have z := Heap.lt_size e'
        rwa [Heap.size_push] at z
      exact Nat.lt_of_le_of_ne (Nat.le_of_lt_succ q) c
    have q : (s.heap.push { cls := .type "tuple", data := .seq us.toArray }).get? b = s.heap.get? b := by
      unfold Heap.get? Heap.push
      simp only [Array.getElem?_push]
      rw [if_neg (Nat.ne_of_lt hl)]
    rwa [q] at e'
noncomputable def Itz (K : PySem.W.Frag) (a b : Addr) : It :=
  ⟨fun i H => ∃ xs ys x y, SqL K H a xs ∧ SqL K H b ys ∧ xs[i]? = some x ∧ ys[i]? = some y, fun i H v H' => ∃ p, H p = none ∧ v = .ref p ∧ ∀ xs ys x y, SqL K H a xs → SqL K H b ys → xs[i]? = some x → ys[i]? = some y → H' = upd H p (.tup [x, y]),
    fun i H => ∃ xs ys, SqL K H a xs ∧ SqL K H b ys ∧ (xs.length ≤ i ∨ ys.length ≤ i)⟩
theorem turn_zip {P : Program} {w : World} {K : PySem.W.Frag} {B : Around} {elts : List Expr} {k0 : Nat} {tp : Pos} (hB : B.handled = none) {z TI TO i1 i2 a b : Addr} (D : ZipApart z TI TO i1 i2 a b) :
    Turn P w K B (.Tuple elts k0 tp) (Itz K a b) [z, TI, TO, i1, i2] z (fun i h => IsZip h z TI TO .none ∧ IsPair h TI (.ref i1) (.ref i2) ∧ (∃ x y, IsPair h TO x y) ∧ h.IsListIter i1 a i ∧ h.IsListIter i2 b i) where
  mem := by simp
  obj := fun i h st c hc => by
    obtain ⟨h1, h2, ⟨x, y, h3⟩, ⟨o4, e4, c4, d4⟩, ⟨o5, e5, c5, d5⟩⟩ := st
    simp only [List.mem_cons, List.not_mem_nil, or_false] at hc
    rcases hc with rfl | rfl | rfl | rfl | rfl
    · exact ⟨_, h1, fun v q => by cases q⟩
    · exact ⟨_, h2, fun v q => by cases q⟩
    · exact ⟨_, h3, fun v q => by cases q⟩
    · exact ⟨o4, e4, fun v q => by rw [d4] at q; cases q⟩
    · exact ⟨o5, e5, fun v q => by rw [d5] at q; cases q⟩
  keep := fun i h h' st k => by
    obtain ⟨h1, h2, ⟨x, y, h3⟩, h4, h5⟩ := st
    exact ⟨k z (by simp) _ h1, k TI (by simp) _ h2, ⟨x, y, k TO (by simp) _ h3⟩, h4.at fun o q => k i1 (by simp) o q, h5.at fun o q => k i2 (by simp) o q⟩
  item := by
    intro X hP hw hK hA i pins s σ H E I hf st hg
    subst hP hw hK hA
    obtain ⟨h1, h2, ⟨x0, y0, h3⟩, h4, h5⟩ := st
    obtain ⟨xs, ys, x, y, hq, hq2, hx, hy⟩ := hg
    obtain ⟨its, rv, p, hz⟩ := I.list hq
    obtain ⟨its2, rv2, p2, hz2⟩ := I.list hq2
    obtain ⟨u, hu, ru⟩ := rv.get hx
    obtain ⟨u2, hu2, ru2⟩ := rv2.get hy
    have lt : ∀ c ∈ [z, TI, TO, i1, i2], c < s.heap.objs.size := fun c hc => by
      simp only [List.mem_cons, List.not_mem_nil, or_false] at hc
      rcases hc with rfl | rfl | rfl | rfl | rfl
      · exact Heap.lt_size h1
      · exact Heap.lt_size h2
      · exact Heap.lt_size h3
      · obtain ⟨o, e2, _⟩ := h4; exact Heap.lt_size e2
      · obtain ⟨o, e2, _⟩ := h5; exact Heap.lt_size e2
    refine wpAny_pyNext_zip_item D h1 h2 h3 h4 h5 p.isList p2.isList (x := u) (y := u2) (by simpa using hu) (by simpa using hu2) fun h' o1 o2 o3 o4 o5 o6 o7 => ⟨_, rfl, ?_⟩
    refine wpAny_letOwnedTupleGo_zip (s := { s with heap := h' }) o1 fun h'' q1 q2 => ?_
    have pe : s.heap.objs.size ≠ z := Nat.ne_of_gt (lt z (by simp))
    obtain ⟨J1, J2, J3⟩ := tupled (h' := h'') (t' := s.toks) (ch := [z, TI, TO, i1, i2]) (vs := [x, y]) (us := [u, u2]) I hf lt (.cons ru (.cons ru2 .nil)) (by show 2 ≤ sizeLine; decide)
      (fun c o hc q => by
        simp only [List.mem_cons, List.not_mem_nil, or_false, not_or] at hc
        exact (q2.2 c hc.1).trans (o7 c o hc.1 hc.2.2.1 hc.2.2.2.1 hc.2.2.2.2 q)) ((q2.2 _ pe).trans o5)
    refine ⟨.ref s.heap.objs.size, _, J1, rfl, ⟨_, J2, rfl, fun xs' ys' x' y' hx1 hy1 hx2 hy2 => ?_⟩, ⟨q1, (q2.2 TI D.TIz).trans (o7 TI _ D.TIz D.TITO D.TIi1 D.TIi2 h2), ⟨u, u2, (q2.2 TO D.TOz).trans o2⟩, o3.at fun o q => (q2.2 i1 D.i1z).trans q, o4.at fun o q => (q2.2 i2 D.i2z).trans q⟩, J3⟩
    rw [I.list_inj hx1 hq, hx] at hx2
    rw [I.list_inj hy1 hq2, hy] at hy2
    cases hx2
    cases hy2
    rfl
  done := by
    intro X hP hw hK hA i pins s σ H E I hf st hg
    subst hP hw hK hA
    obtain ⟨h1, h2, ⟨x0, y0, h3⟩, h4, h5⟩ := st
    obtain ⟨xs, ys, hq, hq2, hx⟩ := hg
    obtain ⟨its, rv, p, hz⟩ := I.list hq
    obtain ⟨its2, rv2, p2, hz2⟩ := I.list hq2
    have he : its.toArray[i]? = none ∨ its2.toArray[i]? = none := by
      rcases hx with hx | hx
      · exact .inl (by simp only [List.getElem?_toArray]; exact List.getElem?_eq_none (by rw [← rv.length]; exact hx))
      · exact .inr (by simp only [List.getElem?_toArray]; exact List.getElem?_eq_none (by rw [← rv2.length]; exact hx))
    refine wpAny_pyNext_zip_end hB D h1 h2 h3 h4 h5 p.isList p2.isList he fun h' keep => ⟨rfl, ?_⟩
    refine turnedN (t' := s.toks) (ch := [z, TI, TO, i1, i2]) I (fun c o hc q => ?_) hf
    simp only [List.mem_cons, List.not_mem_nil, or_false, not_or] at hc
    exact keep c o hc.1 hc.2.2.1 hc.2.2.2.1 hc.2.2.2.2 q
  self := fun A i s Q E st q => wpAny_pyIter_zip st.1 q
theorem apartZ {n a b : Nat} (h1 : a < n) (h2 : b < n) : ZipApart (n + 4) (n + 2) (n + 3) n (n + 1) a b := ⟨Nat.ne_of_lt (by omega), Nat.ne_of_lt (by omega), Nat.ne_of_lt (by omega), Nat.ne_of_lt (by omega), Nat.ne_of_lt (by omega), Nat.ne_of_gt (by omega), Nat.ne_of_gt (by omega), Nat.ne_of_gt (by omega), Nat.ne_of_gt (by omega), Nat.ne_of_lt (by omega), Nat.ne_of_lt (by omega), Nat.ne_of_lt (by omega), Nat.ne_of_lt (by omega), Nat.ne_of_lt (by omega), Nat.ne_of_lt (by omega), Nat.ne_of_lt (by omega), Nat.ne_of_lt (by omega), Nat.ne_of_lt (by omega)⟩
theorem bb_zip : bootBuiltins "zip" = some (.type "zip") := by decide +kernel
section
variable {X : Cx} {ξ : XK} {a b : Expr} {elts : List Expr} {k0 : Nat} {tp : Pos} {fa : Ev} {fs : Av} {p pos : Pos} {ta : TA}
noncomputable def iZip (K : PySem.W.Frag) (t : TA) : TI := fun σ H R => t σ H fun vs H1 => ∃ l l2 xs ys, vs = [.ref l, .ref l2] ∧ SqL K H1 l xs ∧ SqL K H1 l2 ys ∧ R (Itz K l l2) H1
theorem pi_zip (hc : X.A.handled = none) (hg : Gl X "zip") (hm : X.mg "zip" = none) (ha : PA X [a, b] ta) (hs : starEach [a, b] X.env = (false, eval a X.env) :: starEach [b] X.env := by rfl) (hpl : (backTo pos (starEach [b] X.env)).any (·.1) = false := by rfl) :
    PI X (.Tuple elts k0 tp) (.Call (.Name "zip" p) [a, b] [] pos) (iZip X.K ta) := by
  intro pins s σ H R I h
  refine wpAny_Call_Name_kw (ld_blt I hg hm bb_zip (PyProof.Rows.callWith_type1 (thn (ha pos pins s σ H _ I h) fun us s1 ⟨vs, H1, I1, r1, q1⟩ => ?_) hs hpl) (by decide) (by decide))
  obtain ⟨l, l2, xs, ys, rfl, hq, hq2, q⟩ := q1
  obtain ⟨u, u2, rfl, ru, ru2⟩ := vals2 r1
  cases ru
  cases ru2
  obtain ⟨its, rv, pl, hz⟩ := I1.list hq
  obtain ⟨its2, rv2, pl2, hz2⟩ := I1.list hq2
  have lt1 : l < s1.heap.objs.size := by obtain ⟨_, e, _⟩ := pl.isList; exact Heap.lt_size e
  have lt2 : l2 < s1.heap.objs.size := by obtain ⟨_, e, _⟩ := pl2.isList; exact Heap.lt_size e
  refine call_zip_2 pl.isList pl2.isList fun h' e1 e2 e3 e4 e5 e6 e7 => ?_
  have D := apartZ lt1 lt2
  have T := turn_zip (P := X.prog) (w := X.w) (K := X.K) (B := X.A) (elts := elts) (k0 := k0) (tp := tp) hc D
  have I2 : Inv X pins σ H1 { s1 with heap := h', toks := s1.toks } := I1.kept (t' := s1.toks) e7
  refine T.self X.A 0 { s1 with heap := h' } _ _ ⟨e1, e2, ⟨_, _, e3⟩, e4, e5⟩ ⟨_, _, _, _, H1, rfl, I2, T, ⟨e1, e2, ⟨_, _, e3⟩, e4, e5⟩, fun c hc => ?_, q⟩
  have hb' : s1.heap.objs.size ≤ c := by
    simp only [List.mem_cons, List.not_mem_nil, or_false] at hc
    rcases hc with rfl | rfl | rfl | rfl | rfl <;> omega
  exact I1.fpOk hb' (I1.hok.fresh hb')
noncomputable def iEn (fs : Av) : Ro → Sto → Out Src := fun ρ M => (fs ρ M).bind fun ds M1 => match ds with | [.ref n] => .ok (.enu n) M1 | _ => .bad
noncomputable def iZp (fs : Av) : Ro → Sto → Out Src := fun ρ M => (fs ρ M).bind fun ds M1 => match ds with | [.ref n, .ref m] => .ok (.zip n m) M1 | _ => .bad
theorem di_zip (hc : X.A.handled = none) (hm : X.mg "zip" = none) (ha : DA X ξ [a, b] fs) (hg : Gl X "zip" := by rfl) (hs : starEach [a, b] X.env = (false, eval a X.env) :: starEach [b] X.env := by rfl) (hpl : (backTo pos (starEach [b] X.env)).any (·.1) = false := by rfl) :
    DI X ξ (.Tuple elts k0 tp) (.Call (.Name "zip" p) [a, b] [] pos) (iZp fs) := by
  obtain ⟨ta, pa, qa⟩ := ha
  refine ⟨_, pi_zip hc hg hm pa hs hpl, fun σ ρ H α M R s hh q => qa σ ρ H α M _ s hh (OG.seq q fun ds M1 vs H1 α1 e1 h1 r1 w1 => ?_)⟩
  match r1 with
  | .nil => exact w1.elim
  | .cons r .nil => cases r <;> exact w1.elim
  | .cons r (.cons r' (.cons _ _)) => cases r <;> cases r' <;> exact w1.elim
  | .cons r (.cons r' .nil) =>
    cases r with
    | @ref l n hp =>
      cases r' with
      | @ref l2 m hp2 =>
        obtain ⟨xs0, g0⟩ := h1.some_at hp
        obtain ⟨ys0, g0'⟩ := h1.some_at hp2
        refine ⟨l, l2, xs0, ys0, rfl, SqL.of g0, SqL.of g0', w1 _ H1 α1 Ext.refl h1 fun i H' α' M' ex hr => ?_⟩
        cases em : M'[n]? with
        | none => rw [show nxt (.zip n m) i M' = none by simp only [nxt, em]]; exact True.intro
        | some so =>
          cases em2 : M'[m]? with
          | none => cases so; rw [show nxt (.zip n m) i M' = none by simp only [nxt, em, em2]]; exact True.intro
          | some so2 =>
            cases so with
            | lst es =>
              cases so2 with
              | lst es2 =>
                obtain ⟨xs, g1, g2⟩ := hr.at (ex.get hp) em
                obtain ⟨ys, g3, g4⟩ := hr.at (ex.get hp2) em2
                cases ei : es[i]? with
                | none => rw [show nxt (.zip n m) i M' = some none by simp only [nxt, em, em2, ei]]; exact ⟨xs, ys, SqL.of g1, SqL.of g3, .inl (by rw [g2.length]; exact List.getElem?_eq_none_iff.mp ei)⟩
                | some d =>
                  cases ej : es2[i]? with
                  | none => rw [show nxt (.zip n m) i M' = some none by simp only [nxt, em, em2, ei, ej]]; exact ⟨xs, ys, SqL.of g1, SqL.of g3, .inr (by rw [g4.length]; exact List.getElem?_eq_none_iff.mp ej)⟩
                  | some d2 =>
                    obtain ⟨v, k1, k2⟩ := g2.get ei
                    obtain ⟨v2, k3, k4⟩ := g4.get ej
                    rw [show nxt (.zip n m) i M' = some (some (D.tup [d, d2])) by simp only [nxt, em, em2, ei, ej]]
                    refine ⟨⟨xs, ys, v, v2, SqL.of g1, SqL.of g3, k1, k3⟩, fun x H'' y => ?_⟩
                    obtain ⟨pp, y1, rfl, y3⟩ := y
                    have y4 := y3 xs ys v v2 (SqL.of g1) (SqL.of g3) k1 k3
                    subst y4
                    exact ⟨Ext.new0 y1, hr.tup y1, .tup (.inl (.inl upd_same)) (.cons (Rep.mono (Ext.new0 y1) k2) (.cons (Rep.mono (Ext.new0 y1) k4) .nil))⟩
      | _ => exact w1.elim
    | _ => cases r' <;> exact w1.elim
end
end DL


end
section
set_option Elab.async false
set_option linter.all false
set_option maxRecDepth 100000
set_option maxHeartbeats 4000000
namespace DL
open PySem PySem.Spec PyProof.Rows L2
open PySem.SeqAt (EqAt RcAt RcNeAt)
section
variable {X : Cx} {ξ : XK} {pins : List (Addr × Obj)} {σ : L2.St} {H : Hp} {s : Shared} {α : List Addr} {M : Sto}
noncomputable def eqs (M : Sto) (d : D) : List D → Option (List Bool)
  | [] => some []
  | x :: r => match eqF 12 M x d with | some b => (match eqs M d r with | some bs => some (b :: bs) | none => none) | none => none
end
section
variable {X : Cx} {ξ : XK}
noncomputable def inE (x y : D) (M : Sto) : Option Bool := match seqD M y with | some ds => (match eqs M x ds with | some bs => some (bs.any id) | none => none) | none => none
noncomputable def dInE : Bo := fun x y M => match inE x y M with | some b => .ok (.bl b) M | none => .bad
noncomputable def dNotInE : Bo := fun x y M => match inE x y M with | some b => .ok (.bl (!b)) M | none => .bad
noncomputable def mIdx : Me := fun x ds M => match x, ds with
  | .ref n, [d] => (match M[n]? with | some (.lst xs) => (match eqs M d xs with | some bs => (match bs.findIdx? id with | some j => .ok (.int (j : Nat)) M | none => .bad) | none => .bad) | none => .bad)
  | _, _ => .bad
noncomputable def mCnt : Me := fun x ds M => match x, ds with
  | .ref n, [d] => (match M[n]? with | some (.lst xs) => (match eqs M d xs with | some bs => .ok (.int (bs.countP id : Nat)) M | none => .bad) | none => .bad)
  | _, _ => .bad
noncomputable def intsD : List D → Option (List Int)
  | [] => some []
  | .int b :: r => match intsD r with | some bs => some (b :: bs) | none => none
  | _ :: _ => none
noncomputable def bInts (g : List Int → Option Int) : List D → Sto → Out D := fun ds M => match ds with
  | [x] => (match seqD M x with | some xs => (match x with | .tup _ => .bad | _ => (match intsD xs with | some ns => (match g ns with | some i => .ok (.int i) M | none => .bad) | none => .bad)) | none => .bad)
  | _ => .bad
end
end DL


end
section
set_option Elab.async false
set_option linter.all false
set_option maxRecDepth 100000
set_option maxHeartbeats 4000000
namespace DL
open PySem PySem.Spec PyProof.Rows L2
section
variable {X : Cx} {ξ : XK} {tg a : Expr} {fs : Av} {p pos : Pos} {ta : TA}
noncomputable def iRv (fs : Av) : Ro → Sto → Out Src := fun ρ M => (fs ρ M).bind fun ds M1 => match ds with | [.ref n] => (match M1[n]? with | some (.lst xs) => .ok (.rev n xs.length) M1 | none => .bad) | _ => .bad
end
end DL


end
section
set_option Elab.async false
set_option linter.all false
set_option maxRecDepth 100000
set_option maxHeartbeats 4000000
namespace DL
open PySem PySem.Spec PyProof.Rows L2
section
variable {X : Cx} {ξ : XK} {e e1 e2 : Expr} {es : List Expr} {f : Ev} {pos : Pos}
end
end DL


end
section
set_option Elab.async false
set_option linter.all false
set_option maxRecDepth 100000
set_option maxHeartbeats 4000000
namespace DL
open PySem PySem.Spec PyProof.Rows L2
section
variable {X : Cx} {ξ : XK} {tg iter elt : Expr} {ifs : List Expr} {scope : Scope} {cl : List (Str × Addr)} {N : List Str} {k : Nat} {fr : List Nat} {fi : Ro → Sto → Out Src} {gt : Tg} {c : Tv} {f : Ev} {pos : Pos}
end
end DL


end
section
set_option Elab.async false
set_option linter.all false
set_option maxRecDepth 100000
set_option maxHeartbeats 4000000
namespace DL
open PySem PySem.Spec PyProof.Rows L2
noncomputable def dRep : Bo := fun x y M => match x, y with
  | .ref n, .int k => match M[n]? with
    | some (.lst xs) => if (-9223372036854775808 ≤ k ∧ k < 9223372036854775808) ∧ xs.length * k.toNat ≤ 100000 then .ok (.ref M.length) (M ++ [.lst (List.replicate k.toNat xs).flatten]) else .bad
    | none => .bad
  | _, _ => .bad
section
variable {X : Cx} {ξ : XK} {a b : Expr} {fa fb : Ev} {pos : Pos}
end
end DL


end
set_option Elab.async false
set_option linter.all false
set_option maxRecDepth 100000
set_option maxHeartbeats 4000000
namespace DL
open PySem PySem.Spec L2
open PySem.W
section
variable {prog : Program} {w : World} {A : Around} {E : Value → Shared → Prop} {s : Shared}
end
section
variable {prog : Program} {w : World} {A : Around} {s : Shared} {R : Result → Shared → Prop}
variable {I : Addr} {fp wr : List Addr} {G : Array GenState → Array GenState → Prop} {n : Nat} {P : Nat → Value → Prop} {St : Nat → Shared → Prop}
end
section
variable {prog : Program} {w : World} {A : Around} {E : Value → Shared → Prop} {s : Shared}
variable {I : Addr} {fp wr : List Addr} {G : Array GenState → Array GenState → Prop} {n : Nat} {P : Nat → Value → Prop} {St : Nat → Shared → Prop}
end
section
variable {X : Cx} {ξ : XK} {a : Expr} {fs : Av} {p1 p2 p3 pos : Pos} {ta : TA}
end
end DL


section
set_option Elab.async false
set_option linter.all false
set_option maxRecDepth 100000
set_option maxHeartbeats 4000000
namespace DL3
open PySem PySem.Spec PyProof.Rows L2 DL
open Sem (wp)
section
variable {prog : Program} {w : World} {A : Around} {E : Value → Shared → Prop} {s : Shared}
end
section
variable {prog : Program} {w : World} {A : Around} {E : Value → Shared → Prop} {s : Shared}
end
section
variable {X : Cx} {ξ : XK} {y1 y2 y3 : Expr} {elts : List Expr} {k0 : Nat} {tp : Pos} {fs : Av} {p pos : Pos} {ta : TA}
end
end DL3


end
section
set_option Elab.async false
set_option linter.all false
set_option maxRecDepth 100000
set_option maxHeartbeats 4000000
namespace DL4
open PySem PySem.Spec PyProof.Rows L2 DL
open Sem (wp)
structure Ap (z TI TO i1 i2 i3 i4 l1 l2 l3 l4 : Addr) : Prop where
  z_TI : z ≠ TI
  z_TO : z ≠ TO
  z_i1 : z ≠ i1
  z_i2 : z ≠ i2
  z_i3 : z ≠ i3
  z_i4 : z ≠ i4
  TI_TO : TI ≠ TO
  TI_i1 : TI ≠ i1
  TI_i2 : TI ≠ i2
  TI_i3 : TI ≠ i3
  TI_i4 : TI ≠ i4
  TO_i1 : TO ≠ i1
  TO_i2 : TO ≠ i2
  TO_i3 : TO ≠ i3
  TO_i4 : TO ≠ i4
  i1_i2 : i1 ≠ i2
  i1_i3 : i1 ≠ i3
  i1_i4 : i1 ≠ i4
  i2_i3 : i2 ≠ i3
  i2_i4 : i2 ≠ i4
  i3_i4 : i3 ≠ i4
  l1_z : l1 ≠ z
  l1_TO : l1 ≠ TO
  l1_i1 : l1 ≠ i1
  l1_i2 : l1 ≠ i2
  l1_i3 : l1 ≠ i3
  l1_i4 : l1 ≠ i4
  l2_z : l2 ≠ z
  l2_TO : l2 ≠ TO
  l2_i1 : l2 ≠ i1
  l2_i2 : l2 ≠ i2
  l2_i3 : l2 ≠ i3
  l2_i4 : l2 ≠ i4
  l3_z : l3 ≠ z
  l3_TO : l3 ≠ TO
  l3_i1 : l3 ≠ i1
  l3_i2 : l3 ≠ i2
  l3_i3 : l3 ≠ i3
  l3_i4 : l3 ≠ i4
  l4_z : l4 ≠ z
  l4_TO : l4 ≠ TO
  l4_i1 : l4 ≠ i1
  l4_i2 : l4 ≠ i2
  l4_i3 : l4 ≠ i3
  l4_i4 : l4 ≠ i4
noncomputable abbrev IsTp (h : Heap) (T : Addr) (vs : List Value) : Prop := h.get? T = some { cls := .type "tuple", data := .seq vs.toArray }
section
variable {prog : Program} {w : World} {A : Around} {E : Value → Shared → Prop} {s : Shared}
theorem upd_tp {T : Addr} {a1 a2 a3 a4 x : Value} {k : Nat} {Q : Unit → Shared → Prop} (hT : IsTp s.heap T [a1, a2, a3, a4])
    (h : ∀ h', IsTp h' T ([a1, a2, a3, a4].set k x) → Heap.SameBut T s.heap h' → Q () { s with heap := h' }) :
    wpAny (model prog w) A (updateSeq T (·.setIfInBounds k x)) Q E s := by
  refine wpAny_updateSeq hT rfl (h _ ?_ (Heap.SameBut.update ..))
  show _ = _
  rw [Heap.get?_update_self _ hT rfl]
  simp [Obj.mapSeq]
theorem next_item {z TI TO i1 i2 i3 i4 l1 l2 l3 l4 : Addr} {k : Nat} {xs1 xs2 xs3 xs4 : Array Value} {x1 x2 x3 x4 a1 a2 a3 a4 : Value} {Q : Value → Shared → Prop} (D : Ap z TI TO i1 i2 i3 i4 l1 l2 l3 l4) (hz : IsZip s.heap z TI TO .none) (hTI : IsTp s.heap TI [.ref i1, .ref i2, .ref i3, .ref i4]) (hTO : IsTp s.heap TO [a1, a2, a3, a4]) (h1 : s.heap.IsListIter i1 l1 k) (h2 : s.heap.IsListIter i2 l2 k) (h3 : s.heap.IsListIter i3 l3 k) (h4 : s.heap.IsListIter i4 l4 k) (hl1 : s.heap.IsList l1 xs1) (hl2 : s.heap.IsList l2 xs2) (hl3 : s.heap.IsList l3 xs3) (hl4 : s.heap.IsList l4 xs4) (e1 : xs1[k]? = some x1) (e2 : xs2[k]? = some x2) (e3 : xs3[k]? = some x3) (e4 : xs4[k]? = some x4)
    (hQ : ∀ h', IsZip h' z TI TO (rawInt s.heap.objs.size) → IsTp h' TO [x1, x2, x3, x4] → h'.IsListIter i1 l1 (k + 1) → h'.IsListIter i2 l2 (k + 1) → h'.IsListIter i3 l3 (k + 1) → h'.IsListIter i4 l4 (k + 1) → IsTp h' s.heap.objs.size [x1, x2, x3, x4] → h'.objs.size = s.heap.objs.size + 1 → (∀ c o, c ≠ z → c ≠ TO → c ≠ i1 → c ≠ i2 → c ≠ i3 → c ≠ i4 → s.heap.get? c = some o → h'.get? c = some o) → Q (.ref s.heap.objs.size) { s with heap := h' }) :
    wpAny (model prog w) A (Builtin.«zip.__next__» ⟨[.ref z], []⟩) (fun fin s' => ∃ v, fin = .done (.ret v) ∧ Q v s') E s := by
  show wpAny _ _ (field (.ref z) 2 >>= _) _ _ _
  refine wpAny_bind (wpAny_field hz rfl (x := .bool false) rfl ?_)
  show wpAny _ _ (field (.ref z) 3 >>= _) _ _ _
  refine wpAny_bind (wpAny_field hz rfl (x := .ref TI) rfl ?_)
  refine wpAny_bind (wpAny_seqItems hTI rfl ?_)
  show wpAny _ _ (Builtin.SmallTypes.ownedTupleIsFree (.ref z) >>= _) _ _ _
  refine wpAny_bind ?_
  unfold Builtin.SmallTypes.ownedTupleIsFree
  refine wpAny_bind (wpAny_field hz rfl (x := .none) rfl (wpAny_pure ?_))
  simp only [if_true]
  refine wpAny_bind (wpAny_rule ?_)
  refine wpAny_bind (wpAny_field hz rfl (x := .ref TO) rfl ?_)
  refine wpAny_bind (wpAny_setField_rec hz (by simp) fun g1 hz1 hs1 => ?_)
  replace hz1 : IsZip g1 z TI TO .ellipsis := hz1
  refine wpAny_bind ?_
  simp only [List.zipIdx_cons, List.zipIdx_nil, List.forIn_cons, List.forIn_nil]
  refine wpAny_bind (wpAny_bind (wpAny_onRaise ?_))
  show wpAny _ _ (Builtin.SmallTypes.nextOf (.ref i1) >>= _) _ _ _
  refine wpAny_bind (wpAny_nextOf_list_item ((h1).extBut hs1.extBut D.z_i1.symm) ((hl1).extBut hs1.extBut D.l1_z) e1 fun g2 it1 hs2 => wpAny_pure ?_)
  have to2 : IsTp g2 TO [a1, a2, a3, a4] := hs2.extBut _ _ D.TO_i1 (hs1.extBut _ _ D.z_TO.symm (hTO))
  refine wpAny_bind (wpAny_seqItems to2 rfl ?_)
  refine wpAny_bind (upd_tp to2 fun g3 to3 hs3 => ?_)
  replace to3 : IsTp g3 TO [x1, a2, a3, a4] := to3
  refine wpAny_bind (wpAny_letGo (wpAny_pure ?_))
  refine wpAny_bind (wpAny_bind (wpAny_onRaise ?_))
  show wpAny _ _ (Builtin.SmallTypes.nextOf (.ref i2) >>= _) _ _ _
  refine wpAny_bind (wpAny_nextOf_list_item ((((h2).extBut hs1.extBut D.z_i2.symm).extBut hs2.extBut D.i1_i2.symm).extBut hs3.extBut D.TO_i2.symm) ((((hl2).extBut hs1.extBut D.l2_z).extBut hs2.extBut D.l2_i1).extBut hs3.extBut D.l2_TO) e2 fun g4 it2 hs4 => wpAny_pure ?_)
  have to4 : IsTp g4 TO [x1, a2, a3, a4] := hs4.extBut _ _ D.TO_i2 (to3)
  refine wpAny_bind (wpAny_seqItems to4 rfl ?_)
  refine wpAny_bind (upd_tp to4 fun g5 to5 hs5 => ?_)
  replace to5 : IsTp g5 TO [x1, x2, a3, a4] := to5
  refine wpAny_bind (wpAny_letGo (wpAny_pure ?_))
  refine wpAny_bind (wpAny_bind (wpAny_onRaise ?_))
  show wpAny _ _ (Builtin.SmallTypes.nextOf (.ref i3) >>= _) _ _ _
  refine wpAny_bind (wpAny_nextOf_list_item ((((((h3).extBut hs1.extBut D.z_i3.symm).extBut hs2.extBut D.i1_i3.symm).extBut hs3.extBut D.TO_i3.symm).extBut hs4.extBut D.i2_i3.symm).extBut hs5.extBut D.TO_i3.symm) ((((((hl3).extBut hs1.extBut D.l3_z).extBut hs2.extBut D.l3_i1).extBut hs3.extBut D.l3_TO).extBut hs4.extBut D.l3_i2).extBut hs5.extBut D.l3_TO) e3 fun g6 it3 hs6 => wpAny_pure ?_)
  have to6 : IsTp g6 TO [x1, x2, a3, a4] := hs6.extBut _ _ D.TO_i3 (to5)
  refine wpAny_bind (wpAny_seqItems to6 rfl ?_)
  refine wpAny_bind (upd_tp to6 fun g7 to7 hs7 => ?_)
  replace to7 : IsTp g7 TO [x1, x2, x3, a4] := to7
  refine wpAny_bind (wpAny_letGo (wpAny_pure ?_))
  refine wpAny_bind (wpAny_bind (wpAny_onRaise ?_))
  show wpAny _ _ (Builtin.SmallTypes.nextOf (.ref i4) >>= _) _ _ _
  refine wpAny_bind (wpAny_nextOf_list_item ((((((((h4).extBut hs1.extBut D.z_i4.symm).extBut hs2.extBut D.i1_i4.symm).extBut hs3.extBut D.TO_i4.symm).extBut hs4.extBut D.i2_i4.symm).extBut hs5.extBut D.TO_i4.symm).extBut hs6.extBut D.i3_i4.symm).extBut hs7.extBut D.TO_i4.symm) ((((((((hl4).extBut hs1.extBut D.l4_z).extBut hs2.extBut D.l4_i1).extBut hs3.extBut D.l4_TO).extBut hs4.extBut D.l4_i2).extBut hs5.extBut D.l4_TO).extBut hs6.extBut D.l4_i3).extBut hs7.extBut D.l4_TO) e4 fun g8 it4 hs8 => wpAny_pure ?_)
  have to8 : IsTp g8 TO [x1, x2, x3, a4] := hs8.extBut _ _ D.TO_i4 (to7)
  refine wpAny_bind (wpAny_seqItems to8 rfl ?_)
  refine wpAny_bind (upd_tp to8 fun g9 to9 hs9 => ?_)
  replace to9 : IsTp g9 TO [x1, x2, x3, x4] := to9
  refine wpAny_bind (wpAny_letGo (wpAny_pure (wpAny_pure ?_)))
  refine wpAny_bind (wpAny_seqItems to9 rfl ?_)
  refine wpAny_bind (wpAny_newTuple ?_)
  have hsz : g9.objs.size = s.heap.objs.size := by rw [hs9.1, hs8.1, hs7.1, hs6.1, hs5.1, hs4.1, hs3.1, hs2.1, hs1.1]
  have hzF : IsZip g9 z TI TO .ellipsis := hs9.extBut _ _ D.z_TO (hs8.extBut _ _ D.z_i4 (hs7.extBut _ _ D.z_TO (hs6.extBut _ _ D.z_i3 (hs5.extBut _ _ D.z_TO (hs4.extBut _ _ D.z_i2 (hs3.extBut _ _ D.z_TO (hs2.extBut _ _ D.z_i1 (hz1))))))))
  have hkF : ∀ c o, c ≠ z → c ≠ TO → c ≠ i1 → c ≠ i2 → c ≠ i3 → c ≠ i4 → s.heap.get? c = some o → g9.get? c = some o := fun c o c1 c2 d1 d2 d3 d4 e => hs9.extBut _ _ c2 (hs8.extBut _ _ d4 (hs7.extBut _ _ c2 (hs6.extBut _ _ d3 (hs5.extBut _ _ c2 (hs4.extBut _ _ d2 (hs3.extBut _ _ c2 (hs2.extBut _ _ d1 (hs1.extBut _ _ c1 (e)))))))))
  have f1 : g9.IsListIter i1 l1 (k + 1) := (((((((it1).extBut hs3.extBut D.TO_i1.symm).extBut hs4.extBut D.i1_i2).extBut hs5.extBut D.TO_i1.symm).extBut hs6.extBut D.i1_i3).extBut hs7.extBut D.TO_i1.symm).extBut hs8.extBut D.i1_i4).extBut hs9.extBut D.TO_i1.symm
  have f2 : g9.IsListIter i2 l2 (k + 1) := (((((it2).extBut hs5.extBut D.TO_i2.symm).extBut hs6.extBut D.i2_i3).extBut hs7.extBut D.TO_i2.symm).extBut hs8.extBut D.i2_i4).extBut hs9.extBut D.TO_i2.symm
  have f3 : g9.IsListIter i3 l3 (k + 1) := (((it3).extBut hs7.extBut D.TO_i3.symm).extBut hs8.extBut D.i3_i4).extBut hs9.extBut D.TO_i3.symm
  have f4 : g9.IsListIter i4 l4 (k + 1) := (it4).extBut hs9.extBut D.TO_i4.symm
  have hzlt : z < g9.objs.size := Heap.lt_size hzF
  show wpAny _ _ (Builtin.SmallTypes.ownedTupleHandOut (.ref z) (.ref g9.objs.size) >>= _) _ _ _
  refine wpAny_bind ?_
  unfold Builtin.SmallTypes.ownedTupleHandOut
  have hzP : IsZip (g9.push { cls := .type "tuple", data := .seq #[x1, x2, x3, x4] }) z TI TO .ellipsis := Heap.get?_push_of_some _ hzF
  refine wpAny_bind (wpAny_setField_rec hzP (by simp) fun h7 hz7 hs7 => ?_)
  replace hz7 : IsZip h7 z TI TO (rawInt g9.objs.size) := hz7
  refine wpAny_setField_rec hz7 (by simp) fun h8 hz8 hs8 => ?_
  replace hz8 : IsZip h8 z TI TO (rawInt g9.objs.size) := hz8
  have up : ∀ c o, c ≠ z → g9.get? c = some o → h8.get? c = some o := fun c o c1 e => hs8.extBut _ _ c1 (hs7.extBut _ _ c1 (Heap.get?_push_of_some _ e))
  have hT8 : IsTp h8 g9.objs.size [x1, x2, x3, x4] := hs8.extBut _ _ (Nat.ne_of_gt hzlt) (hs7.extBut _ _ (Nat.ne_of_gt hzlt) (Heap.get?_push_size _ rfl))
  have h8z : h8.objs.size = g9.objs.size + 1 := by rw [hs8.1, hs7.1, Heap.size_push]
  rw [hsz] at hz8 hT8 h8z
  refine wpAny_pure ⟨_, rfl, ?_⟩
  show Q (.ref g9.objs.size) _
  rw [hsz]
  exact hQ h8 hz8 (up _ _ D.z_TO.symm to9) (f1.at fun o e => up _ o D.z_i1.symm e) (f2.at fun o e => up _ o D.z_i2.symm e) (f3.at fun o e => up _ o D.z_i3.symm e) (f4.at fun o e => up _ o D.z_i4.symm e) hT8 h8z fun c o c1 c2 d1 d2 d3 d4 e => up c o c1 (hkF c o c1 c2 d1 d2 d3 d4 e)
theorem next_end {z TI TO i1 i2 i3 i4 l1 l2 l3 l4 : Addr} {k : Nat} {xs1 xs2 xs3 xs4 : Array Value} {a1 a2 a3 a4 : Value} {Q : Fin → Shared → Prop} (hh : A.handled = none) (D : Ap z TI TO i1 i2 i3 i4 l1 l2 l3 l4) (hz : IsZip s.heap z TI TO .none) (hTI : IsTp s.heap TI [.ref i1, .ref i2, .ref i3, .ref i4]) (hTO : IsTp s.heap TO [a1, a2, a3, a4]) (h1 : s.heap.IsListIter i1 l1 k) (h2 : s.heap.IsListIter i2 l2 k) (h3 : s.heap.IsListIter i3 l3 k) (h4 : s.heap.IsListIter i4 l4 k) (hl1 : s.heap.IsList l1 xs1) (hl2 : s.heap.IsList l2 xs2) (hl3 : s.heap.IsList l3 xs3) (hl4 : s.heap.IsList l4 xs4) (hend : xs1[k]? = none ∨ xs2[k]? = none ∨ xs3[k]? = none ∨ xs4[k]? = none)
    (hE : ∀ h' e, (∀ c o, c ≠ z → c ≠ TO → c ≠ i1 → c ≠ i2 → c ≠ i3 → c ≠ i4 → s.heap.get? c = some o → h'.get? c = some o) → (∃ o, h'.get? e = some o ∧ o.cls = .type "StopIteration") → E (.ref e) { s with heap := h' }) :
    wpAny (model prog w) A (Builtin.«zip.__next__» ⟨[.ref z], []⟩) Q E s := by
  show wpAny _ _ (field (.ref z) 2 >>= _) _ _ _
  refine wpAny_bind (wpAny_field hz rfl (x := .bool false) rfl ?_)
  show wpAny _ _ (field (.ref z) 3 >>= _) _ _ _
  refine wpAny_bind (wpAny_field hz rfl (x := .ref TI) rfl ?_)
  refine wpAny_bind (wpAny_seqItems hTI rfl ?_)
  show wpAny _ _ (Builtin.SmallTypes.ownedTupleIsFree (.ref z) >>= _) _ _ _
  refine wpAny_bind ?_
  unfold Builtin.SmallTypes.ownedTupleIsFree
  refine wpAny_bind (wpAny_field hz rfl (x := .none) rfl (wpAny_pure ?_))
  simp only [if_true]
  refine wpAny_bind (wpAny_rule ?_)
  refine wpAny_bind (wpAny_field hz rfl (x := .ref TO) rfl ?_)
  refine wpAny_bind (wpAny_setField_rec hz (by simp) fun g1 hz1 hs1 => ?_)
  replace hz1 : IsZip g1 z TI TO .ellipsis := hz1
  refine wpAny_bind ?_
  simp only [List.zipIdx_cons, List.zipIdx_nil, List.forIn_cons, List.forIn_nil]
  refine wpAny_bind (wpAny_bind (wpAny_onRaise ?_))
  show wpAny _ _ (Builtin.SmallTypes.nextOf (.ref i1) >>= _) _ _ _
  cases hx1 : xs1[k]? with
  | none =>
    refine wpAny_bind (wpAny_nextOf_list_end hh ((h1).extBut hs1.extBut D.z_i1.symm) ((hl1).extBut hs1.extBut D.l1_z) hx1 fun gE e hsE he => ?_)
    obtain ⟨oe, hoe, hce⟩ := he
    have hzE : IsZip gE z TI TO .ellipsis := hsE _ _ D.z_i1 (hz1)
    have hez : e ≠ z := fun x => by subst x; rw [hzE] at hoe; cases hoe; simp at hce
    refine wpAny_setField_rec hzE (by simp) fun gF _ hsF => hE gF e (fun c o c1 c2 d1 d2 d3 d4 x => hsF.extBut _ _ c1 (hsE _ _ d1 (hs1.extBut _ _ c1 (x)))) ⟨oe, hsF.extBut _ _ hez hoe, hce⟩
  | some x1 =>
    have hend1 : xs2[k]? = none ∨ xs3[k]? = none ∨ xs4[k]? = none := by rcases hend with h | h; rw [hx1] at h; cases h; exact h
    refine wpAny_bind (wpAny_nextOf_list_item ((h1).extBut hs1.extBut D.z_i1.symm) ((hl1).extBut hs1.extBut D.l1_z) hx1 fun g2 it1 hs2 => wpAny_pure ?_)
    have to2 : IsTp g2 TO [a1, a2, a3, a4] := hs2.extBut _ _ D.TO_i1 (hs1.extBut _ _ D.z_TO.symm (hTO))
    refine wpAny_bind (wpAny_seqItems to2 rfl ?_)
    refine wpAny_bind (upd_tp to2 fun g3 to3 hs3 => ?_)
    replace to3 : IsTp g3 TO [x1, a2, a3, a4] := to3
    refine wpAny_bind (wpAny_letGo (wpAny_pure ?_))
    refine wpAny_bind (wpAny_bind (wpAny_onRaise ?_))
    show wpAny _ _ (Builtin.SmallTypes.nextOf (.ref i2) >>= _) _ _ _
    cases hx2 : xs2[k]? with
    | none =>
      refine wpAny_bind (wpAny_nextOf_list_end hh ((((h2).extBut hs1.extBut D.z_i2.symm).extBut hs2.extBut D.i1_i2.symm).extBut hs3.extBut D.TO_i2.symm) ((((hl2).extBut hs1.extBut D.l2_z).extBut hs2.extBut D.l2_i1).extBut hs3.extBut D.l2_TO) hx2 fun gE e hsE he => ?_)
      obtain ⟨oe, hoe, hce⟩ := he
      have hzE : IsZip gE z TI TO .ellipsis := hsE _ _ D.z_i2 (hs3.extBut _ _ D.z_TO (hs2.extBut _ _ D.z_i1 (hz1)))
      have hez : e ≠ z := fun x => by subst x; rw [hzE] at hoe; cases hoe; simp at hce
      refine wpAny_setField_rec hzE (by simp) fun gF _ hsF => hE gF e (fun c o c1 c2 d1 d2 d3 d4 x => hsF.extBut _ _ c1 (hsE _ _ d2 (hs3.extBut _ _ c2 (hs2.extBut _ _ d1 (hs1.extBut _ _ c1 (x)))))) ⟨oe, hsF.extBut _ _ hez hoe, hce⟩
    | some x2 =>
      have hend2 : xs3[k]? = none ∨ xs4[k]? = none := by rcases hend1 with h | h; rw [hx2] at h; cases h; exact h
      refine wpAny_bind (wpAny_nextOf_list_item ((((h2).extBut hs1.extBut D.z_i2.symm).extBut hs2.extBut D.i1_i2.symm).extBut hs3.extBut D.TO_i2.symm) ((((hl2).extBut hs1.extBut D.l2_z).extBut hs2.extBut D.l2_i1).extBut hs3.extBut D.l2_TO) hx2 fun g4 it2 hs4 => wpAny_pure ?_)
      have to4 : IsTp g4 TO [x1, a2, a3, a4] := hs4.extBut _ _ D.TO_i2 (to3)
      refine wpAny_bind (wpAny_seqItems to4 rfl ?_)
      refine wpAny_bind (upd_tp to4 fun g5 to5 hs5 => ?_)
      replace to5 : IsTp g5 TO [x1, x2, a3, a4] := to5
      refine wpAny_bind (wpAny_letGo (wpAny_pure ?_))
      refine wpAny_bind (wpAny_bind (wpAny_onRaise ?_))
      show wpAny _ _ (Builtin.SmallTypes.nextOf (.ref i3) >>= _) _ _ _
      cases hx3 : xs3[k]? with
      | none =>
        refine wpAny_bind (wpAny_nextOf_list_end hh ((((((h3).extBut hs1.extBut D.z_i3.symm).extBut hs2.extBut D.i1_i3.symm).extBut hs3.extBut D.TO_i3.symm).extBut hs4.extBut D.i2_i3.symm).extBut hs5.extBut D.TO_i3.symm) ((((((hl3).extBut hs1.extBut D.l3_z).extBut hs2.extBut D.l3_i1).extBut hs3.extBut D.l3_TO).extBut hs4.extBut D.l3_i2).extBut hs5.extBut D.l3_TO) hx3 fun gE e hsE he => ?_)
        obtain ⟨oe, hoe, hce⟩ := he
        have hzE : IsZip gE z TI TO .ellipsis := hsE _ _ D.z_i3 (hs5.extBut _ _ D.z_TO (hs4.extBut _ _ D.z_i2 (hs3.extBut _ _ D.z_TO (hs2.extBut _ _ D.z_i1 (hz1)))))
        have hez : e ≠ z := fun x => by subst x; rw [hzE] at hoe; cases hoe; simp at hce
        refine wpAny_setField_rec hzE (by simp) fun gF _ hsF => hE gF e (fun c o c1 c2 d1 d2 d3 d4 x => hsF.extBut _ _ c1 (hsE _ _ d3 (hs5.extBut _ _ c2 (hs4.extBut _ _ d2 (hs3.extBut _ _ c2 (hs2.extBut _ _ d1 (hs1.extBut _ _ c1 (x)))))))) ⟨oe, hsF.extBut _ _ hez hoe, hce⟩
      | some x3 =>
        have hend3 : xs4[k]? = none := by rcases hend2 with h | h; rw [hx3] at h; cases h; exact h
        refine wpAny_bind (wpAny_nextOf_list_item ((((((h3).extBut hs1.extBut D.z_i3.symm).extBut hs2.extBut D.i1_i3.symm).extBut hs3.extBut D.TO_i3.symm).extBut hs4.extBut D.i2_i3.symm).extBut hs5.extBut D.TO_i3.symm) ((((((hl3).extBut hs1.extBut D.l3_z).extBut hs2.extBut D.l3_i1).extBut hs3.extBut D.l3_TO).extBut hs4.extBut D.l3_i2).extBut hs5.extBut D.l3_TO) hx3 fun g6 it3 hs6 => wpAny_pure ?_)
        have to6 : IsTp g6 TO [x1, x2, a3, a4] := hs6.extBut _ _ D.TO_i3 (to5)
        refine wpAny_bind (wpAny_seqItems to6 rfl ?_)
        refine wpAny_bind (upd_tp to6 fun g7 to7 hs7 => ?_)
        replace to7 : IsTp g7 TO [x1, x2, x3, a4] := to7
        refine wpAny_bind (wpAny_letGo (wpAny_pure ?_))
        refine wpAny_bind (wpAny_bind (wpAny_onRaise ?_))
        show wpAny _ _ (Builtin.SmallTypes.nextOf (.ref i4) >>= _) _ _ _
        refine wpAny_bind (wpAny_nextOf_list_end hh ((((((((h4).extBut hs1.extBut D.z_i4.symm).extBut hs2.extBut D.i1_i4.symm).extBut hs3.extBut D.TO_i4.symm).extBut hs4.extBut D.i2_i4.symm).extBut hs5.extBut D.TO_i4.symm).extBut hs6.extBut D.i3_i4.symm).extBut hs7.extBut D.TO_i4.symm) ((((((((hl4).extBut hs1.extBut D.l4_z).extBut hs2.extBut D.l4_i1).extBut hs3.extBut D.l4_TO).extBut hs4.extBut D.l4_i2).extBut hs5.extBut D.l4_TO).extBut hs6.extBut D.l4_i3).extBut hs7.extBut D.l4_TO) hend3 fun gE e hsE he => ?_)
        obtain ⟨oe, hoe, hce⟩ := he
        have hzE : IsZip gE z TI TO .ellipsis := hsE _ _ D.z_i4 (hs7.extBut _ _ D.z_TO (hs6.extBut _ _ D.z_i3 (hs5.extBut _ _ D.z_TO (hs4.extBut _ _ D.z_i2 (hs3.extBut _ _ D.z_TO (hs2.extBut _ _ D.z_i1 (hz1)))))))
        have hez : e ≠ z := fun x => by subst x; rw [hzE] at hoe; cases hoe; simp at hce
        refine wpAny_setField_rec hzE (by simp) fun gF _ hsF => hE gF e (fun c o c1 c2 d1 d2 d3 d4 x => hsF.extBut _ _ c1 (hsE _ _ d4 (hs7.extBut _ _ c2 (hs6.extBut _ _ d3 (hs5.extBut _ _ c2 (hs4.extBut _ _ d2 (hs3.extBut _ _ c2 (hs2.extBut _ _ d1 (hs1.extBut _ _ c1 (x)))))))))) ⟨oe, hsF.extBut _ _ hez hoe, hce⟩
theorem py_item {z TI TO i1 i2 i3 i4 l1 l2 l3 l4 : Addr} {k : Nat} {xs1 xs2 xs3 xs4 : Array Value} {x1 x2 x3 x4 a1 a2 a3 a4 : Value} {Q : Option Value → Shared → Prop} (D : Ap z TI TO i1 i2 i3 i4 l1 l2 l3 l4) (hz : IsZip s.heap z TI TO .none) (hTI : IsTp s.heap TI [.ref i1, .ref i2, .ref i3, .ref i4]) (hTO : IsTp s.heap TO [a1, a2, a3, a4]) (h1 : s.heap.IsListIter i1 l1 k) (h2 : s.heap.IsListIter i2 l2 k) (h3 : s.heap.IsListIter i3 l3 k) (h4 : s.heap.IsListIter i4 l4 k) (hl1 : s.heap.IsList l1 xs1) (hl2 : s.heap.IsList l2 xs2) (hl3 : s.heap.IsList l3 xs3) (hl4 : s.heap.IsList l4 xs4) (e1 : xs1[k]? = some x1) (e2 : xs2[k]? = some x2) (e3 : xs3[k]? = some x3) (e4 : xs4[k]? = some x4)
    (hQ : ∀ h', IsZip h' z TI TO (rawInt s.heap.objs.size) → IsTp h' TO [x1, x2, x3, x4] → h'.IsListIter i1 l1 (k + 1) → h'.IsListIter i2 l2 (k + 1) → h'.IsListIter i3 l3 (k + 1) → h'.IsListIter i4 l4 (k + 1) → IsTp h' s.heap.objs.size [x1, x2, x3, x4] → h'.objs.size = s.heap.objs.size + 1 → (∀ c o, c ≠ z → c ≠ TO → c ≠ i1 → c ≠ i2 → c ≠ i3 → c ≠ i4 → s.heap.get? c = some o → h'.get? c = some o) → Q (some (.ref s.heap.objs.size)) { s with heap := h' }) :
    wpAny (model prog w) A (pyNext (.ref z)) Q E s := by
  have hT : s.TypeIs (.ref z) "zip" := ⟨_, hz, rfl⟩
  unfold pyNext
  exact wpAny_bind (wpAny_attempt (wpAny_callSpecial?_slot (name := Str.ofString "__next__") hT F.slot_zip_next
    (wpAny_call_entry F.slot_zip_next hT F.entry_zip_next
      (next_item D hz hTI hTO h1 h2 h3 h4 hl1 hl2 hl3 hl4 e1 e2 e3 e4 fun h' b0 b1 b2 b3 b4 b5 b6 b7 b8 => wpAny_pure (hQ h' b0 b1 b2 b3 b4 b5 b6 b7 b8)) (F.args_zip_next_1 _))))
theorem py_end {z TI TO i1 i2 i3 i4 l1 l2 l3 l4 : Addr} {k : Nat} {xs1 xs2 xs3 xs4 : Array Value} {a1 a2 a3 a4 : Value} {Q : Option Value → Shared → Prop} (hh : A.handled = none) (D : Ap z TI TO i1 i2 i3 i4 l1 l2 l3 l4) (hz : IsZip s.heap z TI TO .none) (hTI : IsTp s.heap TI [.ref i1, .ref i2, .ref i3, .ref i4]) (hTO : IsTp s.heap TO [a1, a2, a3, a4]) (h1 : s.heap.IsListIter i1 l1 k) (h2 : s.heap.IsListIter i2 l2 k) (h3 : s.heap.IsListIter i3 l3 k) (h4 : s.heap.IsListIter i4 l4 k) (hl1 : s.heap.IsList l1 xs1) (hl2 : s.heap.IsList l2 xs2) (hl3 : s.heap.IsList l3 xs3) (hl4 : s.heap.IsList l4 xs4) (hend : xs1[k]? = none ∨ xs2[k]? = none ∨ xs3[k]? = none ∨ xs4[k]? = none)
    (hQ : ∀ h', (∀ c o, c ≠ z → c ≠ TO → c ≠ i1 → c ≠ i2 → c ≠ i3 → c ≠ i4 → s.heap.get? c = some o → h'.get? c = some o) → Q none { s with heap := h' }) : wpAny (model prog w) A (pyNext (.ref z)) Q E s := by
  have hT : s.TypeIs (.ref z) "zip" := ⟨_, hz, rfl⟩
  unfold pyNext
  refine wpAny_bind (wpAny_attempt (wpAny_callSpecial?_slot (name := Str.ofString "__next__") hT F.slot_zip_next
    (wpAny_call_entry F.slot_zip_next hT F.entry_zip_next (next_end hh D hz hTI hTO h1 h2 h3 h4 hl1 hl2 hl3 hl4 hend fun h' e hk he => ?_) (F.args_zip_next_1 _))))
  obtain ⟨o, ho, hc⟩ := he
  refine wpAny_bind (wpAny_isInstance (T := "StopIteration") (b := true) ⟨o, ho, hc⟩ isSubtype_stop ?_)
  exact wpAny_pure (hQ _ hk)
end
theorem typeCall (a1 a2 a3 a4 : Value) : checkTypeCall "zip" ⟨[a1, a2, a3, a4], []⟩ = pure () := by kernel_rfl
theorem newCall (a1 a2 a3 a4 : Value) : checkBuiltinCall "zip.__new__" ⟨[.type "zip", a1, a2, a3, a4], []⟩ = pure () := by kernel_rfl
theorem args_init (a0 a1 a2 a3 a4 : Value) : argsOk "object.__init__" ⟨[a0, a1, a2, a3, a4], []⟩ := by
  unfold argsOk; rw [signature?_of (id := "object.__init__") (n := ['_', '_', 't', 'i', 'n', 'i', '_', '_']) (o := ['t', 'c', 'e', 'j', 'b', 'o']) (by kernel_rfl) F.owner_object]; kernel_rfl
noncomputable abbrev zH1 (h : Heap) (l1 : Addr) : Heap := h.push { cls := .type "list_iterator", data := .fields #[.ref l1, .int 0 0] }
noncomputable abbrev zH2 (h : Heap) (l1 l2 : Addr) : Heap := (zH1 h l1).push { cls := .type "list_iterator", data := .fields #[.ref l2, .int 0 0] }
noncomputable abbrev zH3 (h : Heap) (l1 l2 l3 : Addr) : Heap := (zH2 h l1 l2).push { cls := .type "list_iterator", data := .fields #[.ref l3, .int 0 0] }
noncomputable abbrev zH4 (h : Heap) (l1 l2 l3 l4 : Addr) : Heap := (zH3 h l1 l2 l3).push { cls := .type "list_iterator", data := .fields #[.ref l4, .int 0 0] }
noncomputable abbrev zH5 (h : Heap) (l1 l2 l3 l4 : Addr) : Heap := (zH4 h l1 l2 l3 l4).push { cls := .type "tuple", data := .seq #[.ref h.objs.size, .ref (zH1 h l1).objs.size, .ref (zH2 h l1 l2).objs.size, .ref (zH3 h l1 l2 l3).objs.size] }
noncomputable abbrev zH6 (h : Heap) (l1 l2 l3 l4 : Addr) : Heap := (zH5 h l1 l2 l3 l4).push { cls := .type "tuple", data := .seq #[.none, .none, .none, .none] }
noncomputable abbrev zH7 (h : Heap) (l1 l2 l3 l4 : Addr) : Heap := (zH6 h l1 l2 l3 l4).push { cls := .type "zip", data := .fields #[.none, .bool false, .bool false, .ref (zH4 h l1 l2 l3 l4).objs.size, .ref (zH5 h l1 l2 l3 l4).objs.size] }
theorem meets (l1 l2 l3 l4 : Addr) (xs1 xs2 xs3 xs4 : Array Value) :
    Meets (Builtin.«zip.__new__» ⟨[.type "zip", .ref l1, .ref l2, .ref l3, .ref l4], []⟩) (fun _ R s => s.heap.IsList l1 xs1 ∧ s.heap.IsList l2 xs2 ∧ s.heap.IsList l3 xs3 ∧ s.heap.IsList l4 xs4 ∧
      R (.ok (.ret (.ref (zH6 s.heap l1 l2 l3 l4).objs.size))) { s with heap := zH7 s.heap l1 l2 l3 l4 }) :=
  .of_wp fun prog w A R s h => by
    obtain ⟨hp, g, d, tk, os⟩ := s; obtain ⟨hl1, hl2, hl3, hl4, h⟩ := h
    have hsub := sub_zip
    have hL1 : Heap.IsList (Shared.heap ⟨hp, g, d, tk, os⟩) l1 xs1 := hl1
    have hL2 : Heap.IsList (Shared.heap ⟨(hp.push { cls := .type "list_iterator", data := .fields #[.ref l1, .int 0 0] }), g, d, tk, os⟩) l2 xs2 := Heap.IsList.push (hl2) _
    have hL3 : Heap.IsList (Shared.heap ⟨((hp.push { cls := .type "list_iterator", data := .fields #[.ref l1, .int 0 0] }).push { cls := .type "list_iterator", data := .fields #[.ref l2, .int 0 0] }), g, d, tk, os⟩) l3 xs3 := Heap.IsList.push (Heap.IsList.push (hl3) _) _
    have hL4 : Heap.IsList (Shared.heap ⟨(((hp.push { cls := .type "list_iterator", data := .fields #[.ref l1, .int 0 0] }).push { cls := .type "list_iterator", data := .fields #[.ref l2, .int 0 0] }).push { cls := .type "list_iterator", data := .fields #[.ref l3, .int 0 0] }), g, d, tk, os⟩) l4 xs4 := Heap.IsList.push (Heap.IsList.push (Heap.IsList.push (hl4) _) _) _
    wp_walk using wpAny_pyIter_list hL1, wpAny_pyIter_list hL2, wpAny_pyIter_list hL3, wpAny_pyIter_list hL4
    exact ⟨_, rfl, h⟩
section
variable {prog : Program} {w : World} {A : Around} {E : Value → Shared → Prop} {s : Shared}
theorem call_zip {l1 l2 l3 l4 : Addr} {xs1 xs2 xs3 xs4 : Array Value} {Q : Value → Shared → Prop} (hl1 : s.heap.IsList l1 xs1) (hl2 : s.heap.IsList l2 xs2) (hl3 : s.heap.IsList l3 xs3) (hl4 : s.heap.IsList l4 xs4)
    (h : ∀ h', IsZip h' (s.heap.objs.size + 6) (s.heap.objs.size + 4) (s.heap.objs.size + 5) .none → IsTp h' (s.heap.objs.size + 4) [.ref s.heap.objs.size, .ref (s.heap.objs.size + 1), .ref (s.heap.objs.size + 2), .ref (s.heap.objs.size + 3)] → IsTp h' (s.heap.objs.size + 5) [.none, .none, .none, .none] → h'.IsListIter s.heap.objs.size l1 0 → h'.IsListIter (s.heap.objs.size + 1) l2 0 → h'.IsListIter (s.heap.objs.size + 2) l3 0 → h'.IsListIter (s.heap.objs.size + 3) l4 0 → h'.objs.size = s.heap.objs.size + 7 →
      (∀ c o, s.heap.get? c = some o → h'.get? c = some o) → Q (.ref (s.heap.objs.size + 6)) { s with heap := h' }) :
    wpAny (model prog w) A (call (.type "zip") [.ref l1, .ref l2, .ref l3, .ref l4]) Q E s := by
  refine callType_new F.called_zip (by decide) (typeCall _ _ _ _) (newCall _ _ _ _) (fun obj => args_init obj _ _ _ _) F.entry_zip_new
    (meets l1 l2 l3 l4 xs1 xs2 xs3 xs4) ⟨hl1, hl2, hl3, hl4, ?_⟩
  have z1 : (zH1 s.heap l1).objs.size = s.heap.objs.size + 1 := Heap.size_push ..
  have z2 : (zH2 s.heap l1 l2).objs.size = s.heap.objs.size + 2 := by rw [Heap.size_push, z1]
  have z3 : (zH3 s.heap l1 l2 l3).objs.size = s.heap.objs.size + 3 := by rw [Heap.size_push, z2]
  have z4 : (zH4 s.heap l1 l2 l3 l4).objs.size = s.heap.objs.size + 4 := by rw [Heap.size_push, z3]
  have z5 : (zH5 s.heap l1 l2 l3 l4).objs.size = s.heap.objs.size + 5 := by rw [Heap.size_push, z4]
  have z6 : (zH6 s.heap l1 l2 l3 l4).objs.size = s.heap.objs.size + 6 := by rw [Heap.size_push, z5]
  have z7 : (zH7 s.heap l1 l2 l3 l4).objs.size = s.heap.objs.size + 7 := by rw [Heap.size_push, z6]
  have g7 : (zH7 s.heap l1 l2 l3 l4).get? (zH6 s.heap l1 l2 l3 l4).objs.size = some _ := Heap.get?_push_size _ rfl
  have g6 : (zH7 s.heap l1 l2 l3 l4).get? (zH5 s.heap l1 l2 l3 l4).objs.size = some _ := Heap.get?_push_of_some _ (Heap.get?_push_size _ rfl)
  have g5 : (zH7 s.heap l1 l2 l3 l4).get? (zH4 s.heap l1 l2 l3 l4).objs.size = some _ := Heap.get?_push_of_some _ (Heap.get?_push_of_some _ (Heap.get?_push_size _ rfl))
  have g4 : (zH7 s.heap l1 l2 l3 l4).get? (zH3 s.heap l1 l2 l3).objs.size = some _ := Heap.get?_push_of_some _ (Heap.get?_push_of_some _ (Heap.get?_push_of_some _ (Heap.get?_push_size _ rfl)))
  have g3 : (zH7 s.heap l1 l2 l3 l4).get? (zH2 s.heap l1 l2).objs.size = some _ := Heap.get?_push_of_some _ (Heap.get?_push_of_some _ (Heap.get?_push_of_some _ (Heap.get?_push_of_some _ (Heap.get?_push_size _ rfl))))
  have g2 : (zH7 s.heap l1 l2 l3 l4).get? (zH1 s.heap l1).objs.size = some _ := Heap.get?_push_of_some _ (Heap.get?_push_of_some _ (Heap.get?_push_of_some _ (Heap.get?_push_of_some _ (Heap.get?_push_of_some _ (Heap.get?_push_size _ rfl)))))
  have g1 : (zH7 s.heap l1 l2 l3 l4).get? s.heap.objs.size = some _ := Heap.get?_push_of_some _ (Heap.get?_push_of_some _ (Heap.get?_push_of_some _ (Heap.get?_push_of_some _ (Heap.get?_push_of_some _ (Heap.get?_push_of_some _ (Heap.get?_push_size _ rfl))))))
  show _ ∧ _
  rw [z4, z5, z6] at g7
  rw [z1, z2, z3, z4] at g5
  rw [z5] at g6
  rw [z1] at g2
  rw [z2] at g3
  rw [z3] at g4
  rw [z6]
  exact ⟨⟨_, g7, rfl⟩, h _ g7 g5 g6 ⟨_, g1, rfl, rfl⟩ ⟨_, g2, rfl, rfl⟩ ⟨_, g3, rfl, rfl⟩ ⟨_, g4, rfl, rfl⟩ z7 fun c o x => Heap.get?_push_of_some _ (Heap.get?_push_of_some _ (Heap.get?_push_of_some _ (Heap.get?_push_of_some _ (Heap.get?_push_of_some _ (Heap.get?_push_of_some _ (Heap.get?_push_of_some _ (x)))))))⟩
end
noncomputable def Itz (K : PySem.W.Frag) (l1 l2 l3 l4 : Addr) : It :=
  ⟨fun i H => ∃ xs1 xs2 xs3 xs4 v1 v2 v3 v4, SqL K H l1 xs1 ∧ SqL K H l2 xs2 ∧ SqL K H l3 xs3 ∧ SqL K H l4 xs4 ∧ xs1[i]? = some v1 ∧ xs2[i]? = some v2 ∧ xs3[i]? = some v3 ∧ xs4[i]? = some v4,
   fun i H x H' => ∃ p, H p = none ∧ (x = .ref p ∧ ∀ xs1 xs2 xs3 xs4 v1 v2 v3 v4, SqL K H l1 xs1 → SqL K H l2 xs2 → SqL K H l3 xs3 → SqL K H l4 xs4 → xs1[i]? = some v1 → xs2[i]? = some v2 → xs3[i]? = some v3 → xs4[i]? = some v4 → H' = upd H p (.tup [v1, v2, v3, v4])),
   fun i H => ∃ xs1 xs2 xs3 xs4, SqL K H l1 xs1 ∧ SqL K H l2 xs2 ∧ SqL K H l3 xs3 ∧ SqL K H l4 xs4 ∧ (xs1.length ≤ i ∨ xs2.length ≤ i ∨ xs3.length ≤ i ∨ xs4.length ≤ i)⟩
theorem turn_zip {P : Program} {w : World} {K : PySem.W.Frag} {B : Around} {elts : List Expr} {k0 : Nat} {tp : Pos} (hB : B.handled = none) {z TI TO i1 i2 i3 i4 l1 l2 l3 l4 : Addr} (D : Ap z TI TO i1 i2 i3 i4 l1 l2 l3 l4) :
    Turn P w K B (.Tuple elts k0 tp) (Itz K l1 l2 l3 l4) [z, TI, TO, i1, i2, i3, i4] z (fun i h => IsZip h z TI TO .none ∧ IsTp h TI [.ref i1, .ref i2, .ref i3, .ref i4] ∧ (∃ a1 a2 a3 a4, IsTp h TO [a1, a2, a3, a4]) ∧ h.IsListIter i1 l1 i ∧ h.IsListIter i2 l2 i ∧ h.IsListIter i3 l3 i ∧ h.IsListIter i4 l4 i) where
  mem := by simp
  obj := fun i h st c hc => by
    obtain ⟨h1, h2, ⟨a1, a2, a3, a4, h3⟩, ⟨o1, e1, c1, d1⟩, ⟨o2, e2, c2, d2⟩, ⟨o3, e3, c3, d3⟩, ⟨o4, e4, c4, d4⟩⟩ := st
    simp only [List.mem_cons, List.not_mem_nil, or_false] at hc
    rcases hc with rfl | rfl | rfl | rfl | rfl | rfl | rfl
    · exact ⟨_, h1, fun v q => by cases q⟩
    · exact ⟨_, h2, fun v q => by cases q⟩
    · exact ⟨_, h3, fun v q => by cases q⟩
    · exact ⟨o1, e1, fun v q => by rw [d1] at q; cases q⟩
    · exact ⟨o2, e2, fun v q => by rw [d2] at q; cases q⟩
    · exact ⟨o3, e3, fun v q => by rw [d3] at q; cases q⟩
    · exact ⟨o4, e4, fun v q => by rw [d4] at q; cases q⟩
  keep := fun i h h' st k => by
    obtain ⟨h1, h2, ⟨a1, a2, a3, a4, h3⟩, t1, t2, t3, t4⟩ := st
    exact ⟨k z (by simp) _ h1, k TI (by simp) _ h2, ⟨a1, a2, a3, a4, k TO (by simp) _ h3⟩, t1.at fun o q => k i1 (by simp) o q, t2.at fun o q => k i2 (by simp) o q, t3.at fun o q => k i3 (by simp) o q, t4.at fun o q => k i4 (by simp) o q⟩
  item := by
    intro X hP hw hK hA i pins s σ H E I hf st hg
    subst hP hw hK hA
    obtain ⟨h1, h2, ⟨a1, a2, a3, a4, h3⟩, t1, t2, t3, t4⟩ := st
    obtain ⟨xs1, xs2, xs3, xs4, v1, v2, v3, v4, q1, q2, q3, q4, m1, m2, m3, m4⟩ := hg
    obtain ⟨its1, rv1, p1, hz1⟩ := I.list q1
    obtain ⟨u1, hu1, ru1⟩ := rv1.get m1
    obtain ⟨its2, rv2, p2, hz2⟩ := I.list q2
    obtain ⟨u2, hu2, ru2⟩ := rv2.get m2
    obtain ⟨its3, rv3, p3, hz3⟩ := I.list q3
    obtain ⟨u3, hu3, ru3⟩ := rv3.get m3
    obtain ⟨its4, rv4, p4, hz4⟩ := I.list q4
    obtain ⟨u4, hu4, ru4⟩ := rv4.get m4
    have lt : ∀ c ∈ [z, TI, TO, i1, i2, i3, i4], c < s.heap.objs.size := fun c hc => by
      simp only [List.mem_cons, List.not_mem_nil, or_false] at hc
      rcases hc with rfl | rfl | rfl | rfl | rfl | rfl | rfl
      · exact Heap.lt_size h1
      · exact Heap.lt_size h2
      · exact Heap.lt_size h3
      · obtain ⟨o, e2, _⟩ := t1; exact Heap.lt_size e2
      · obtain ⟨o, e2, _⟩ := t2; exact Heap.lt_size e2
      · obtain ⟨o, e2, _⟩ := t3; exact Heap.lt_size e2
      · obtain ⟨o, e2, _⟩ := t4; exact Heap.lt_size e2
    refine py_item D h1 h2 h3 t1 t2 t3 t4 p1.isList p2.isList p3.isList p4.isList (x1 := u1) (x2 := u2) (x3 := u3) (x4 := u4) (by simpa using hu1) (by simpa using hu2) (by simpa using hu3) (by simpa using hu4) fun h' o1 o2 w1 w2 w3 w4 o5 o6 o7 => ⟨_, rfl, ?_⟩
    refine wpAny_letOwnedTupleGo_zip (s := { s with heap := h' }) o1 fun h'' r1 r2 => ?_
    have pe : s.heap.objs.size ≠ z := Nat.ne_of_gt (lt z (by simp))
    obtain ⟨J1, J2, J3⟩ := tupled (h' := h'') (t' := s.toks) (ch := [z, TI, TO, i1, i2, i3, i4]) (vs := [v1, v2, v3, v4]) (us := [u1, u2, u3, u4]) I hf lt (.cons ru1 (.cons ru2 (.cons ru3 (.cons ru4 .nil)))) (by show 4 ≤ sizeLine; decide)
      (fun c o hc q => by
        simp only [List.mem_cons, List.not_mem_nil, or_false, not_or] at hc
        exact (r2.2 c hc.1).trans (o7 c o hc.1 hc.2.2.1 hc.2.2.2.1 hc.2.2.2.2.1 hc.2.2.2.2.2.1 hc.2.2.2.2.2.2 q)) ((r2.2 _ pe).trans o5)
    refine ⟨.ref s.heap.objs.size, _, J1, rfl, ⟨_, J2, rfl, fun xs1' xs2' xs3' xs4' v1' v2' v3' v4' s1 s2 s3 s4 n1 n2 n3 n4 => ?_⟩, ⟨r1, (r2.2 TI D.z_TI.symm).trans (o7 TI _ D.z_TI.symm D.TI_TO D.TI_i1 D.TI_i2 D.TI_i3 D.TI_i4 h2), ⟨u1, u2, u3, u4, (r2.2 TO D.z_TO.symm).trans o2⟩, w1.at fun o q => (r2.2 i1 D.z_i1.symm).trans q, w2.at fun o q => (r2.2 i2 D.z_i2.symm).trans q, w3.at fun o q => (r2.2 i3 D.z_i3.symm).trans q, w4.at fun o q => (r2.2 i4 D.z_i4.symm).trans q⟩, J3⟩
    rw [I.list_inj s1 q1, m1] at n1
    cases n1
    rw [I.list_inj s2 q2, m2] at n2
    cases n2
    rw [I.list_inj s3 q3, m3] at n3
    cases n3
    rw [I.list_inj s4 q4, m4] at n4
    cases n4
    rfl
  done := by
    intro X hP hw hK hA i pins s σ H E I hf st hg
    subst hP hw hK hA
    obtain ⟨h1, h2, ⟨a1, a2, a3, a4, h3⟩, t1, t2, t3, t4⟩ := st
    obtain ⟨xs1, xs2, xs3, xs4, q1, q2, q3, q4, hx⟩ := hg
    obtain ⟨its1, rv1, p1, hz1⟩ := I.list q1
    obtain ⟨its2, rv2, p2, hz2⟩ := I.list q2
    obtain ⟨its3, rv3, p3, hz3⟩ := I.list q3
    obtain ⟨its4, rv4, p4, hz4⟩ := I.list q4
    have he : its1.toArray[i]? = none ∨ its2.toArray[i]? = none ∨ its3.toArray[i]? = none ∨ its4.toArray[i]? = none := by
      rcases hx with hx | hx | hx | hx
      · exact (.inl (by simp only [List.getElem?_toArray]; exact List.getElem?_eq_none (by rw [← rv1.length]; exact hx)))
      · exact (.inr (.inl (by simp only [List.getElem?_toArray]; exact List.getElem?_eq_none (by rw [← rv2.length]; exact hx))))
      · exact (.inr (.inr (.inl (by simp only [List.getElem?_toArray]; exact List.getElem?_eq_none (by rw [← rv3.length]; exact hx)))))
      · exact (.inr (.inr (.inr (by simp only [List.getElem?_toArray]; exact List.getElem?_eq_none (by rw [← rv4.length]; exact hx)))))
    refine py_end hB D h1 h2 h3 t1 t2 t3 t4 p1.isList p2.isList p3.isList p4.isList he fun h' keep => ⟨rfl, ?_⟩
    refine turnedN (t' := s.toks) (ch := [z, TI, TO, i1, i2, i3, i4]) I (fun c o hc q => ?_) hf
    simp only [List.mem_cons, List.not_mem_nil, or_false, not_or] at hc
    exact keep c o hc.1 hc.2.2.1 hc.2.2.2.1 hc.2.2.2.2.1 hc.2.2.2.2.2.1 hc.2.2.2.2.2.2 q
  self := fun A i s Q E st q => wpAny_pyIter_zip st.1 q
theorem apartZ {n l1 l2 l3 l4 : Nat} (h1 : l1 < n) (h2 : l2 < n) (h3 : l3 < n) (h4 : l4 < n) : Ap (n + 6) (n + 4) (n + 5) n (n + 1) (n + 2) (n + 3) l1 l2 l3 l4 := ⟨Nat.ne_of_gt (by omega), Nat.ne_of_gt (by omega), Nat.ne_of_gt (by omega), Nat.ne_of_gt (by omega), Nat.ne_of_gt (by omega), Nat.ne_of_gt (by omega), Nat.ne_of_lt (by omega), Nat.ne_of_gt (by omega), Nat.ne_of_gt (by omega), Nat.ne_of_gt (by omega), Nat.ne_of_gt (by omega), Nat.ne_of_gt (by omega), Nat.ne_of_gt (by omega), Nat.ne_of_gt (by omega), Nat.ne_of_gt (by omega), Nat.ne_of_lt (by omega), Nat.ne_of_lt (by omega), Nat.ne_of_lt (by omega), Nat.ne_of_lt (by omega), Nat.ne_of_lt (by omega), Nat.ne_of_lt (by omega), Nat.ne_of_lt (by omega), Nat.ne_of_lt (by omega), Nat.ne_of_lt (by omega), Nat.ne_of_lt (by omega), Nat.ne_of_lt (by omega), Nat.ne_of_lt (by omega), Nat.ne_of_lt (by omega), Nat.ne_of_lt (by omega), Nat.ne_of_lt (by omega), Nat.ne_of_lt (by omega), Nat.ne_of_lt (by omega), Nat.ne_of_lt (by omega), Nat.ne_of_lt (by omega), Nat.ne_of_lt (by omega), Nat.ne_of_lt (by omega), Nat.ne_of_lt (by omega), Nat.ne_of_lt (by omega), Nat.ne_of_lt (by omega), Nat.ne_of_lt (by omega), Nat.ne_of_lt (by omega), Nat.ne_of_lt (by omega), Nat.ne_of_lt (by omega), Nat.ne_of_lt (by omega), Nat.ne_of_lt (by omega)⟩
section
variable {X : Cx} {ξ : XK} {y1 y2 y3 y4 : Expr} {elts : List Expr} {k0 : Nat} {tp : Pos} {fs : Av} {p pos : Pos} {ta : TA}
noncomputable def iZip (K : PySem.W.Frag) (t : TA) : TI := fun σ H R => t σ H fun vs H1 => ∃ l1 l2 l3 l4 xs1 xs2 xs3 xs4, vs = [.ref l1, .ref l2, .ref l3, .ref l4] ∧ SqL K H1 l1 xs1 ∧ SqL K H1 l2 xs2 ∧ SqL K H1 l3 xs3 ∧ SqL K H1 l4 xs4 ∧ R (Itz K l1 l2 l3 l4) H1
theorem pi_zip (hc : X.A.handled = none) (hg : Gl X "zip") (hm : X.mg "zip" = none) (ha : PA X [y1, y2, y3, y4] ta) (hs : starEach [y1, y2, y3, y4] X.env = (false, eval y1 X.env) :: starEach [y2, y3, y4] X.env := by rfl) (hpl : (backTo pos (starEach [y2, y3, y4] X.env)).any (·.1) = false := by rfl) :
    PI X (.Tuple elts k0 tp) (.Call (.Name "zip" p) [y1, y2, y3, y4] [] pos) (iZip X.K ta) := by
  intro pins s σ H R I h
  refine wpAny_Call_Name_kw (ld_blt I hg hm bb_zip (PyProof.Rows.callWith_type1 (thn (ha pos pins s σ H _ I h) fun us s1 ⟨vs, H1, I1, r1, q1⟩ => ?_) hs hpl) (by decide) (by decide))
  obtain ⟨l1, l2, l3, l4, xs1, xs2, xs3, xs4, rfl, hq1, hq2, hq3, hq4, q⟩ := q1
  cases r1 with
  | cons ru1 rr1 =>
  cases rr1 with
  | cons ru2 rr2 =>
  cases rr2 with
  | cons ru3 rr3 =>
  cases rr3 with
  | cons ru4 rr4 =>
  cases rr4 with
  | nil =>
  cases ru1
  cases ru2
  cases ru3
  cases ru4
  obtain ⟨its1, rv1, pl1, hz1⟩ := I1.list hq1
  have lt1 : l1 < s1.heap.objs.size := by obtain ⟨_, e, _⟩ := pl1.isList; exact Heap.lt_size e
  obtain ⟨its2, rv2, pl2, hz2⟩ := I1.list hq2
  have lt2 : l2 < s1.heap.objs.size := by obtain ⟨_, e, _⟩ := pl2.isList; exact Heap.lt_size e
  obtain ⟨its3, rv3, pl3, hz3⟩ := I1.list hq3
  have lt3 : l3 < s1.heap.objs.size := by obtain ⟨_, e, _⟩ := pl3.isList; exact Heap.lt_size e
  obtain ⟨its4, rv4, pl4, hz4⟩ := I1.list hq4
  have lt4 : l4 < s1.heap.objs.size := by obtain ⟨_, e, _⟩ := pl4.isList; exact Heap.lt_size e
  refine call_zip pl1.isList pl2.isList pl3.isList pl4.isList fun h' ez eti eto ei1 ei2 ei3 ei4 esz ek => ?_
  have D := apartZ lt1 lt2 lt3 lt4
  have T := turn_zip (P := X.prog) (w := X.w) (K := X.K) (B := X.A) (elts := elts) (k0 := k0) (tp := tp) hc D
  have I2 : Inv X pins σ H1 { s1 with heap := h', toks := s1.toks } := I1.kept (t' := s1.toks) ek
  refine T.self X.A 0 { s1 with heap := h' } _ _ ⟨ez, eti, ⟨_, _, _, _, eto⟩, ei1, ei2, ei3, ei4⟩ ⟨_, _, _, _, H1, rfl, I2, T, ⟨ez, eti, ⟨_, _, _, _, eto⟩, ei1, ei2, ei3, ei4⟩, fun c hc => ?_, q⟩
  have hb' : s1.heap.objs.size ≤ c := by
    simp only [List.mem_cons, List.not_mem_nil, or_false] at hc
    rcases hc with rfl | rfl | rfl | rfl | rfl | rfl | rfl <;> omega
  exact I1.fpOk hb' (I1.hok.fresh hb')
noncomputable def iZs (fs : Av) : Ro → Sto → Out Src := fun ρ M => (fs ρ M).bind fun ds M1 => match refsD ds with | some ns => if ns.length = 4 then .ok (.zips ns) M1 else .bad | none => .bad
theorem di_zip (hc : X.A.handled = none) (hm : X.mg "zip" = none) (ha : DA X ξ [y1, y2, y3, y4] fs) (hg : Gl X "zip" := by rfl) (hs : starEach [y1, y2, y3, y4] X.env = (false, eval y1 X.env) :: starEach [y2, y3, y4] X.env := by rfl) (hpl : (backTo pos (starEach [y2, y3, y4] X.env)).any (·.1) = false := by rfl) :
    DI X ξ (.Tuple elts k0 tp) (.Call (.Name "zip" p) [y1, y2, y3, y4] [] pos) (iZs fs) := by
  obtain ⟨ta, pa, qa⟩ := ha
  refine ⟨_, pi_zip hc hg hm pa hs hpl, fun σ ρ H α M R s hh q => qa σ ρ H α M _ s hh (OG.seq q fun ds M1 vs H1 α1 e1 h1 r1 w1 => ?_)⟩
  cases er : refsD ds with
  | none => rw [er] at w1; exact w1.elim
  | some ns =>
    rw [er] at w1
    by_cases hN : ns.length = 4
    · simp only [hN, if_true] at w1
      obtain ⟨ls, rfl, hls⟩ := refs_ok r1 er
      match ns, hN with
      | [n1, n2, n3, n4], _ =>
        obtain ⟨l1, l2, l3, l4, rfl, hp1, hp2, hp3, hp4⟩ : ∃ l1 l2 l3 l4, ls = [l1, l2, l3, l4] ∧ α1[n1]? = some l1 ∧ α1[n2]? = some l2 ∧ α1[n3]? = some l3 ∧ α1[n4]? = some l4 := by
          match ls, hls with
          | [l1, l2, l3, l4], h => exact ⟨l1, l2, l3, l4, rfl, h.1, h.2.1, h.2.2.1, h.2.2.2.1⟩
        obtain ⟨zs1, g1⟩ := h1.some_at hp1
        obtain ⟨zs2, g2⟩ := h1.some_at hp2
        obtain ⟨zs3, g3⟩ := h1.some_at hp3
        obtain ⟨zs4, g4⟩ := h1.some_at hp4
        refine ⟨l1, l2, l3, l4, zs1, zs2, zs3, zs4, rfl, SqL.of g1, SqL.of g2, SqL.of g3, SqL.of g4, w1 _ H1 α1 Ext.refl h1 fun i H' α' M' ex hr => ?_⟩
        cases em1 : M'[n1]? with
        | none => rw [show nxt (.zips [n1, n2, n3, n4]) i M' = none by simp only [nxt, itemsAt, em1]]; exact True.intro
        | some so1 =>
         cases so1 with
         | lst es1 =>
          cases em2 : M'[n2]? with
          | none => rw [show nxt (.zips [n1, n2, n3, n4]) i M' = none by simp only [nxt, itemsAt, em1, em2]]; exact True.intro
          | some so2 =>
           cases so2 with
           | lst es2 =>
            cases em3 : M'[n3]? with
            | none => rw [show nxt (.zips [n1, n2, n3, n4]) i M' = none by simp only [nxt, itemsAt, em1, em2, em3]]; exact True.intro
            | some so3 =>
             cases so3 with
             | lst es3 =>
              cases em4 : M'[n4]? with
              | none => rw [show nxt (.zips [n1, n2, n3, n4]) i M' = none by simp only [nxt, itemsAt, em1, em2, em3, em4]]; exact True.intro
              | some so4 =>
               cases so4 with
               | lst es4 =>
                obtain ⟨xs1, g11, g21⟩ := hr.at (ex.get hp1) em1
                obtain ⟨xs2, g12, g22⟩ := hr.at (ex.get hp2) em2
                obtain ⟨xs3, g13, g23⟩ := hr.at (ex.get hp3) em3
                obtain ⟨xs4, g14, g24⟩ := hr.at (ex.get hp4) em4
                cases ei1 : es1[i]? with
                | none =>
                  rw [nx_zips_none (M := M') (i := i) (ns := [n1, n2, n3, n4]) ⟨⟨_, em1⟩, ⟨_, em2⟩, ⟨_, em3⟩, ⟨_, em4⟩, trivial⟩ (n := n1) (by simp) em1 ei1]
                  exact ⟨xs1, xs2, xs3, xs4, SqL.of g11, SqL.of g12, SqL.of g13, SqL.of g14, (.inl (by rw [g21.length]; exact List.getElem?_eq_none_iff.mp ei1))⟩
                | some d1 =>
                 cases ei2 : es2[i]? with
                 | none =>
                   rw [nx_zips_none (M := M') (i := i) (ns := [n1, n2, n3, n4]) ⟨⟨_, em1⟩, ⟨_, em2⟩, ⟨_, em3⟩, ⟨_, em4⟩, trivial⟩ (n := n2) (by simp) em2 ei2]
                   exact ⟨xs1, xs2, xs3, xs4, SqL.of g11, SqL.of g12, SqL.of g13, SqL.of g14, (.inr (.inl (by rw [g22.length]; exact List.getElem?_eq_none_iff.mp ei2)))⟩
                 | some d2 =>
                  cases ei3 : es3[i]? with
                  | none =>
                    rw [nx_zips_none (M := M') (i := i) (ns := [n1, n2, n3, n4]) ⟨⟨_, em1⟩, ⟨_, em2⟩, ⟨_, em3⟩, ⟨_, em4⟩, trivial⟩ (n := n3) (by simp) em3 ei3]
                    exact ⟨xs1, xs2, xs3, xs4, SqL.of g11, SqL.of g12, SqL.of g13, SqL.of g14, (.inr (.inr (.inl (by rw [g23.length]; exact List.getElem?_eq_none_iff.mp ei3))))⟩
                  | some d3 =>
                   cases ei4 : es4[i]? with
                   | none =>
                     rw [nx_zips_none (M := M') (i := i) (ns := [n1, n2, n3, n4]) ⟨⟨_, em1⟩, ⟨_, em2⟩, ⟨_, em3⟩, ⟨_, em4⟩, trivial⟩ (n := n4) (by simp) em4 ei4]
                     exact ⟨xs1, xs2, xs3, xs4, SqL.of g11, SqL.of g12, SqL.of g13, SqL.of g14, (.inr (.inr (.inr (by rw [g24.length]; exact List.getElem?_eq_none_iff.mp ei4))))⟩
                   | some d4 =>
                    obtain ⟨v1, k11, k21⟩ := g21.get ei1
                    obtain ⟨v2, k12, k22⟩ := g22.get ei2
                    obtain ⟨v3, k13, k23⟩ := g23.get ei3
                    obtain ⟨v4, k14, k24⟩ := g24.get ei4
                    rw [show nxt (.zips [n1, n2, n3, n4]) i M' = some (some (D.tup [d1, d2, d3, d4])) by simp only [nxt, itemsAt, em1, em2, em3, em4, ei1, ei2, ei3, ei4]]
                    refine ⟨⟨xs1, xs2, xs3, xs4, v1, v2, v3, v4, SqL.of g11, SqL.of g12, SqL.of g13, SqL.of g14, k11, k12, k13, k14⟩, fun x H'' y => ?_⟩
                    obtain ⟨pp, y1, rfl, y3⟩ := y
                    have y4 := y3 xs1 xs2 xs3 xs4 v1 v2 v3 v4 (SqL.of g11) (SqL.of g12) (SqL.of g13) (SqL.of g14) k11 k12 k13 k14
                    subst y4
                    exact ⟨Ext.new0 y1, hr.tup y1, .tup (.inl (.inl upd_same)) (.cons (Rep.mono (Ext.new0 y1) k21) (.cons (Rep.mono (Ext.new0 y1) k22) (.cons (Rep.mono (Ext.new0 y1) k23) (.cons (Rep.mono (Ext.new0 y1) k24) .nil))))⟩
    · simp only [hN, if_false] at w1; exact w1.elim
end
end DL4


end
section
set_option Elab.async false
set_option linter.all false
set_option maxRecDepth 100000
set_option maxHeartbeats 4000000
namespace DL
open PySem PySem.Spec PyProof.Rows L2
noncomputable def Bag (n : Nat) (M : Sto) : Prop := ∃ a b : Int, 0 ≤ a ∧ M[n]? = some (.lst [.int a, .int b])
structure Gr (n : Nat) (M M' : Sto) : Prop where
  len : M.length ≤ M'.length
  bag : Bag n M'
  keep : ∀ k, k ≠ n → k < M.length → M'[k]? = M[k]?
theorem mulFits_r {i j : Int} (h1 : -(2 ^ 64) < j) (h2 : j < 2 ^ 64) : mulFits i j := .inr (.inl (intBits_le_64 h1 h2))
theorem mulFits_l {i j : Int} (h1 : -(2 ^ 64) < i) (h2 : i < 2 ^ 64) : mulFits i j := .inl (intBits_le_64 h1 h2)
theorem at0 {x : D} {r : List D} : atI (x :: r) 0 = some x := by
  show (ixN (r.length + 1) 0).bind _ = _
  unfold ixN
  rw [if_pos (by decide), if_pos (by omega)]
  rfl
theorem at1 {x y : D} {r : List D} : atI (x :: y :: r) 1 = some y := by
  show (ixN (r.length + 2) 1).bind _ = _
  unfold ixN
  rw [if_pos (by decide), if_pos (by omega)]
  rfl
theorem ix0 {n : Nat} : ixN (n + 1) 0 = some 0 := by
  unfold ixN
  rw [if_pos (by decide), if_pos (by omega)]
  rfl
theorem ix1 {n : Nat} : ixN (n + 2) 1 = some 1 := by
  unfold ixN
  rw [if_pos (by decide), if_pos (by omega)]
  rfl
theorem Bag.lt {n : Nat} {M : Sto} (h : Bag n M) : n < M.length := let ⟨_, _, _, e⟩ := h; (List.getElem?_eq_some_iff.mp e).1
theorem Bag.app {n : Nat} {M : Sto} (h : Bag n M) (L : Sto) : Bag n (M ++ L) := by
  have hl := h.lt
  obtain ⟨a, b, h1, h2⟩ := h
  exact ⟨a, b, h1, by rw [List.getElem?_append_left hl]; exact h2⟩
theorem Gr.trans {n : Nat} {M M1 M2 : Sto} (a : Gr n M M1) (b : Gr n M1 M2) : Gr n M M2 :=
  ⟨Nat.le_trans a.len b.len, b.bag, fun k h1 h2 => (b.keep k h1 (Nat.lt_of_lt_of_le h2 a.len)).trans (a.keep k h1 h2)⟩
theorem Gr.app {n : Nat} {M : Sto} (h : Bag n M) (L : Sto) : Gr n M (M ++ L) := ⟨by simp, h.app L, fun k _ hk => by rw [List.getElem?_append_left hk]⟩
theorem Gr.new {n : Nat} {M M1 : Sto} {o : SO} {L : Sto} (hb : Bag n M) (h : Gr n (M ++ o :: L) M1) : M1[M.length]? = some o := by
  rw [h.keep _ (Nat.ne_of_gt hb.lt) (by simp)]
  simp
theorem atI_ints {ns : List Int} {k : Nat} (h : k < ns.length) : atI (ns.map D.int) (k : Int) = some (.int ns[k]) := atI_nat (by rw [List.getElem?_map, List.getElem?_eq_getElem h]; rfl)
theorem abs_nat (a : Int) : (if a < 0 then -a else a) = (a.natAbs : Int) := by split <;> omega
end DL


end
section

end
section
set_option Elab.async false
set_option linter.all false
set_option maxRecDepth 100000
set_option maxHeartbeats 4000000
namespace HD
open PySem PySem.W PyProof.Rows
noncomputable def runG (thr : Thread → Bool) (stp : SharedT → Thread → Option (SharedT × Thread)) (n : Nat) : SharedT → Thread → Option SharedT :=
  Nat.rec (motive := fun _ => SharedT → Thread → Option SharedT) (fun _ _ => none) (fun _ ih s t => Bool.rec (motive := fun _ => Option SharedT) (Option.rec (motive := fun _ => Option SharedT) none (fun r => ih r.1 r.2) (stp s t)) (some s) (thr t)) n
noncomputable def stpG (ok : Thread → Bool) (stp : SharedT → Thread → Option (SharedT × Thread)) (s : SharedT) (t : Thread) : Option (SharedT × Thread) := Bool.rec (motive := fun _ => Option (SharedT × Thread)) none (stp s t) (ok t)
section
variable {tb : String → Option Builtin} {p : Program} {w : World} {n₀ : Nat} {ann : Option Value}
theorem run_of : ∀ {n : Nat} {s s' : SharedT} {t : Thread}, runG through (stpG (stepOk n₀ ann) (stepT (denote tb) p w)) n s t = some s' → topRun tb p w n₀ ann n s.abs t = some s'.abs
  | 0, s, s', t, h => by cases h
  | n + 1, s, s', t, h => by
    unfold topRun
    change Bool.rec (motive := fun _ => Option SharedT) (Option.rec (motive := fun _ => Option SharedT) none (fun r => runG through (stpG (stepOk n₀ ann) (stepT (denote tb) p w)) n r.1 r.2) (stpG (stepOk n₀ ann) (stepT (denote tb) p w) s t)) (some s) (through t) = some s' at h
    cases ht : through t with
    | true =>
      rw [ht] at h
      have h' : some s = some s' := h
      cases h'
      rfl
    | false =>
      rw [ht] at h
      cases hk : stepOk n₀ ann t with
      | false =>
        have e : stpG (stepOk n₀ ann) (stepT (denote tb) p w) s t = none := by unfold stpG; rw [hk]
        rw [e] at h
        cases h
      | true =>
        have e : stpG (stepOk n₀ ann) (stepT (denote tb) p w) s t = stepT (denote tb) p w s t := by unfold stpG; rw [hk]
        rw [e] at h
        cases hs : stepT (denote tb) p w s t with
        | none => rw [hs] at h; cases h
        | some r =>
          obtain ⟨s2, t2⟩ := r
          rw [hs] at h
          have := stepT_spec hs
          rw [this]
          exact run_of (n := n) h
end
noncomputable def T0 (w : World) (os : OsState) : SharedT :=
  ⟨[boot_o_0, boot_o_1, boot_o_2, boot_o_3, boot_o_4, boot_o_5, boot_o_6, boot_o_7, boot_o_8, boot_o_9, boot_o_10].foldl (fun (r : Nat × BT) o => (r.1 + 1, r.2.ins r.1 (o w.params))) (0, .nil) |>.2, 11, (boot_heap w.params).life, #[], boot_drawn, boot_toks, os⟩
theorem T0_abs (w : World) (os : OsState) : (T0 w os).abs = ⟨boot_heap w.params, #[], boot_drawn, boot_toks, os⟩ := by kernel_rfl
theorem ann_str : Str.ofString "__annotations__" = ⟨#[95, 95, 97, 110, 110, 111, 116, 97, 116, 105, 111, 110, 115, 95, 95]⟩ := by decide +kernel
theorem left_shot {p q : Program} {loose : List Str} {Xt : Shared → Bool} {α : Type} {Yf : Shared → α} {Ya : World → α} {N M : Nat} (e : opening p = plainProg p.main.scope.names) (hN : Nat.ble 600 N = true) (f : ∀ s, fenceModules? p s = some s) (le : Nat.ble M N = true)
    (shot : ∀ (w : World) (os : OsState), (runG through (stpG (stepOk 11 (some (.ref 6))) (stepT (denote treeTable) p w)) M (T0 w os) (topStub p)).map (fun s => ((staticsOk (importedModules p.main.body) (boot_heap w.params) s.abs.heap && namesBound p s.abs.heap && gensDone s.abs && laidKept (boot_heap w.params) s.abs.heap),
        openSeen q loose (importedModules p.main.body) Xt true s.abs, Yf s.abs)) = some (true, openGood q loose, Ya w)) : LeftO p q loose Xt Yf Ya N := fun w => by
  obtain ⟨⟨h, gs, d, k, os⟩, e1, e2⟩ := Option.map_eq_some_iff.mp (boot_open e hN f w)
  obtain ⟨rfl, rfl, rfl, rfl⟩ : h = boot_heap w.params ∧ gs = Array.mk [] ∧ d = boot_drawn ∧ k = boot_toks := by simpa using e2
  obtain ⟨s', r1, r2⟩ := Option.map_eq_some_iff.mp (shot w os)
  obtain ⟨l1, l2, l3⟩ : _ ∧ _ ∧ _ := by simpa only [Prod.mk.injEq] using r2
  have r := run_of r1
  rw [T0_abs] at r
  have r := topRun_mono (N - M) _ _ _ _ r
  rw [show M + (N - M) = N by have := Nat.le_of_ble_eq_true le; omega] at r
  have z1 : ((boot_heap w.params).isNs mainGlobals && (Array.mk [] : Array GenState).size == 0) = true := by kernel_rfl
  have z2 : (boot_heap w.params).objs.size = 11 := rfl
  have z3 : (boot_heap w.params).nsMap mainGlobals "__annotations__" = some (.ref 6) := by
    rw [ann_str]
    kernel_rfl
  have t : topFrom treeTable p w N ⟨boot_heap w.params, Array.mk [], boot_drawn, boot_toks, os⟩ = some s'.abs := by
    unfold topFrom
    dsimp only
    rw [z1, z2, z3, r]
    show (match staticsOk (importedModules p.main.body) (boot_heap w.params) s'.abs.heap && namesBound p s'.abs.heap && gensDone s'.abs && laidKept (boot_heap w.params) s'.abs.heap with | true => _ | false => _) = _
    rw [l1]
  unfold openEnds
  rw [e1]
  show (topFrom treeTable p w N _).map _ = _
  rw [t]
  exact congrArg some (Prod.ext l2 l3)
end HD
namespace HD
open PySem PySem.W
theorem te_ok : @stepOk = @PySem.W.Fast.tw6613529449190102663 := PySem.W.Fast.te6613529449190102663
theorem te_step : @stepT = @PySem.W.Fast.tw10156331382660048174 := PySem.W.Fast.te10156331382660048174
theorem te_den : @denote = @PySem.W.Fast.tw11892475500146522536 := PySem.W.Fast.te11892475500146522536
theorem te_tab : @treeTable = @PySem.W.Fast.tw14364793385576792824 := PySem.W.Fast.te14364793385576792824
theorem te_seen : @openSeen = @PySem.W.Fast.tw4187177175401517315 := PySem.W.Fast.te4187177175401517315
theorem te_imp : @importedModules = @PySem.W.Fast.tw5923862056798008813 := PySem.W.Fast.te5923862056798008813
end HD


end
section
set_option Elab.async false
set_option linter.all false
set_option maxRecDepth 100000
set_option maxHeartbeats 4000000
namespace DL
open PySem PySem.Spec PyProof.Rows L2
noncomputable def wO {β : Type} (o : Out β) (Q : β → Sto → Prop) (E : Str → Sto → Prop) : Prop := match o with
  | .ok a M => Q a M
  | .exc c M => E c M
  | .bad => False
noncomputable def wS (f : Fl) (N : Ro → Sto → Prop) (R : D → Sto → Prop) (B C : Ro → Sto → Prop) (E : Str → Sto → Prop) : Prop := match f with
  | .nx ρ M => N ρ M
  | .ret d M => R d M
  | .brk ρ M => B ρ M
  | .cnt ρ M => C ρ M
  | .exc c M => E c M
  | .bad => False
noncomputable def Br (k : Bool) (A B : Prop) : Prop := (k = true → A) ∧ (k = false → B)
noncomputable def wG {β : Type} (o : Option β) (N : β → Prop) : Prop := match o with | some ρ => N ρ | none => False
noncomputable def wV (o : Option (Option D)) (Q : D → Prop) : Prop := match o with | some (some d) => Q d | _ => False
noncomputable def wI (x : D) (Q : Int → Prop) : Prop := match x with | .int i => Q i | _ => False
noncomputable def wB (x : D) (Q : Bool → Prop) : Prop := match x with | .bl i => Q i | _ => False
noncomputable def wR (x : D) (Q : Nat → Prop) : Prop := match x with | .ref i => Q i | _ => False
noncomputable def w1 (x : List D) (Q : D → Prop) : Prop := match x with | [v] => Q v | _ => False
noncomputable def w2 (x : List D) (Q : D → D → Prop) : Prop := match x with | [v, w] => Q v w | _ => False
noncomputable def wL (o : Option SO) (Q : List D → Prop) : Prop := match o with | some (.lst xs) => Q xs | none => False
section
variable {β : Type} {o o' : Option (Option D)} {x x' : D} {Q : D → Prop} {QI : Int → Prop} {QB : Bool → Prop} {QR : Nat → Prop} {QL : List D → Prop} {l l' : Option SO} {d : D} {i : Int} {k : Bool} {n : Nat} {xs : List D} {g g' : Option β} {QG : β → Prop} {y : β}
theorem w1_s : w1 [d] Q = Q d := rfl
theorem w2_s {Q2 : D → D → Prop} : w2 [d, x] Q2 = Q2 d x := rfl
theorem wV_s : wV (some (some d)) Q = Q d := rfl
theorem wI_i : wI (.int i) QI = QI i := rfl
theorem wB_b : wB (.bl k) QB = QB k := rfl
theorem wR_r : wR (.ref n) QR = QR n := rfl
theorem wL_l : wL (some (.lst xs)) QL = QL xs := rfl
theorem wG_s : wG (some y) QG = QG y := rfl
end
section
variable {β : Type} {Q : β → Sto → Prop} {E : Str → Sto → Prop} {N B C : Ro → Sto → Prop} {R : D → Sto → Prop} {ρ : Ro} {M : Sto} {A A' : Prop}
theorem wO_ok {d : β} : wO (.ok d M) Q E = Q d M := rfl
theorem wO_exc {c : Str} : wO (.exc c M : Out β) Q E = E c M := rfl
theorem Br_t : Br true A A' = A := by simp [Br]
theorem Br_f : Br false A A' = A' := by simp [Br]
theorem brD {p : Prop} [Decidable p] (h1 : p → A) (h2 : ¬ p → A') : Br (decide p) A A' := ⟨fun h => h1 (of_decide_eq_true h), fun h => h2 (of_decide_eq_false h)⟩
theorem brN {p : Prop} [Decidable p] (h1 : ¬ p → A) (h2 : p → A') : Br (!decide p) A A' := ⟨fun h => h1 (by simpa using h), fun h => h2 (by simpa using h)⟩
theorem wO_mono {o : Out β} {Q' : β → Sto → Prop} {E' : Str → Sto → Prop} (h : wO o Q E) (hq : ∀ d M, Q d M → Q' d M) (he : ∀ c M, E c M → E' c M) : wO o Q' E' := by
  cases o with
  | ok d M => exact hq d M h
  | exc c M => exact he c M h
  | bad => exact h
theorem wO_get {o : Out β} (h : wO o Q (fun _ _ => False)) : ∃ d M', o = .ok d M' ∧ Q d M' := by
  cases o with
  | ok d M => exact ⟨d, M, rfl, h⟩
  | exc c M => exact h.elim
  | bad => exact h.elim
theorem wO_bind {γ : Type} {o : Out γ} {f : γ → Sto → Out β} : wO (o.bind f) Q E = wO o (fun x M1 => wO (f x M1) Q E) E := by cases o <;> rfl
end
section
variable {Q : D → Sto → Prop} {E : Str → Sto → Prop} {N B C : Ro → Sto → Prop} {R : D → Sto → Prop} {ρ : Ro} {M : Sto} {e f g : Ev} {fs : Av}
theorem wO_e2 {op : Bo} : wO (e2 op f g ρ M) Q E = wO (f ρ M) (fun x M1 => wO (g ρ M1) (fun y M2 => wO (op x y M2) Q E) E) E := by
  unfold e2
  rw [wO_bind]
  congr 1
  funext x M1
  rw [wO_bind]
theorem wO_v {i : Nat} : wO (eVar i ρ M) Q E = wV ρ[i]? (fun d => Q d M) := by
  unfold eVar
  cases ρ[i]? with
  | none => rfl
  | some o => cases o <;> rfl
theorem wO_call {F : List D → Sto → Out D} : wO (eCall F fs ρ M) Q E = wO (fs ρ M) (fun ds M1 => wO (F ds M1) Q E) E := wO_bind
theorem wA_cons {Q : List D → Sto → Prop} : wO (aCons f fs ρ M) Q E = wO (f ρ M) (fun x M1 => wO (fs ρ M1) (fun xs M2 => Q (x :: xs) M2) E) E := by
  unfold aCons
  rw [wO_bind]
  congr 1
  funext x M1
  rw [wO_bind]
  congr 1
theorem wO_tup : wO (eTup fs ρ M) Q E = wO (fs ρ M) (fun xs M1 => xs.length ≤ 1000 ∧ Q (.tup xs) M1) E := by
  unfold eTup
  rw [wO_bind]
  congr 1
  funext x M1
  by_cases h : x.length ≤ 1000
  · rw [if_pos h]; simp [h, wO]
  · rw [if_neg h]; simp [h, wO]
theorem wO_lst : wO (eLst fs ρ M) Q E = wO (fs ρ M) (fun xs M1 => xs.length ≤ 1000 ∧ Q (.ref M1.length) (M1 ++ [.lst xs])) E := by
  unfold eLst
  rw [wO_bind]
  congr 1
  funext x M1
  by_cases h : x.length ≤ 1000
  · rw [if_pos h]; simp [h, wO]
  · rw [if_neg h]; simp [h, wO]
variable {t u : Tv}
theorem wT_not {Q : Bool → Sto → Prop} : wO (tNot1 t ρ M) Q E = wO (t ρ M) (fun k M1 => Q (!k) M1) E := by
  unfold tNot1
  rw [wO_bind]
  congr 1
variable {a b : Sv}
theorem wS_seq : wS (sSeq a b ρ M) N R B C E = wS (a ρ M) (fun ρ1 M1 => wS (b ρ1 M1) N R B C E) R B C E := by
  unfold sSeq
  cases a ρ M <;> rfl
theorem wS_bind {β : Type} {o : Out β} {k : β → Sto → Fl} : wS (bindF o k) N R B C E = wO o (fun x M1 => wS (k x M1) N R B C E) E := by cases o <;> rfl
theorem wS_ret : wS (sRet f ρ M) N R B C E = wO (f ρ M) R E := wS_bind
theorem wS_drop : wS (sDrop f ρ M) N R B C E = wO (f ρ M) (fun _ M1 => N ρ M1) E := wS_bind
theorem wS_asg {i : Nat} : wS (sAsg (gNm i) f ρ M) N R B C E = wO (f ρ M) (fun d M1 => N (ρ.set i (some d)) M1) E := wS_bind
theorem wS_asgT {gs : Tgs} : wS (sAsg (gTp gs) f ρ M) N R B C E = wO (f ρ M) (fun d M1 => wG (gTp gs d ρ) (fun r => N r M1)) E := by
  unfold sAsg
  rw [wS_bind]
  congr 1
  funext d M1
  cases gTp gs d ρ <;> rfl
theorem wS_par {i j : Nat} : wS (sPar i j fs ρ M) N R B C E = wO (fs ρ M) (fun ds M1 => w2 ds fun v w => N ((ρ.set i (some v)).set j (some w)) M1) E := by
  unfold sPar
  rw [wS_bind]
  congr 1
  funext ds M1
  rcases ds with _ | ⟨v, _ | ⟨w, _ | ⟨z, r⟩⟩⟩ <;> rfl
theorem wS_put {fo fi : Ev} : wS (sPut fo fi f ρ M) N R B C E = wO (f ρ M) (fun d M1 => wO (fo ρ M1) (fun o M2 => wO (fi ρ M2) (fun i M3 => wR o fun n => wI i fun k => wL M3[n]? fun xs => wG (ixN xs.length k) fun j => N ρ (M3.set n (.lst (xs.set j d)))) E) E) E := by
  unfold sPut
  rw [wS_bind]
  congr 1
  funext d M1
  rw [wS_bind]
  congr 1
  funext o M2
  rw [wS_bind]
  congr 1
  funext i M3
  cases o <;> cases i <;> try rfl
  rename_i n k
  cases e : M3[n]? with
  | none => simp only [e, wR, wI, wL, wS]
  | some s =>
    cases s with
    | lst xs =>
      cases e2 : ixN xs.length k <;> simp only [e, e2, wR, wI, wL, wG, wS]
theorem wS_raise {c : Str} : wS (sRaise c fs ρ M) N R B C E = wO (fs ρ M) (fun ds M1 => ds.length ≤ 1000 ∧ E c M1) E := by
  unfold sRaise
  rw [wS_bind]
  congr 1
  funext ds M1
  by_cases h : ds.length ≤ 1000
  · rw [if_pos h]; simp [h, wS]
  · rw [if_neg h]; simp [h, wS]
theorem wF {n k : Nat} {ds : List D} (hl : ds.length = n) : wO (fnF a n k ds M) Q E = wS (a (ds.map some ++ List.replicate k none) M) (fun _ M1 => Q .non M1) Q (fun _ _ => False) (fun _ _ => False) E := by
  unfold fnF
  rw [if_pos hl]
  cases a (ds.map some ++ List.replicate k none) M <;> rfl
theorem wS_mono {o : Fl} {N' B' C' : Ro → Sto → Prop} {R' : D → Sto → Prop} {E' : Str → Sto → Prop} (h : wS o N R B C E) (hn : ∀ ρ M, N ρ M → N' ρ M) (hr : ∀ d M, R d M → R' d M) (hb : ∀ ρ M, B ρ M → B' ρ M) (hc : ∀ ρ M, C ρ M → C' ρ M) (he : ∀ c M, E c M → E' c M) : wS o N' R' B' C' E' := by
  cases o with
  | nx ρ M => exact hn _ _ h
  | ret ρ M => exact hr _ _ h
  | brk ρ M => exact hb _ _ h
  | cnt ρ M => exact hc _ _ h
  | exc ρ M => exact he _ _ h
  | bad => exact h
variable {tg : Tg} {bd : Sv} {fi : Ro → Sto → Out Src}
theorem wS_forD (I : Nat → Ro → Sto → Prop) : ∀ (xs : List D) (k : Nat) (ρ : Ro) (M : Sto), I k ρ M → (∀ i ρ M (h : i < xs.length), I (k + i) ρ M → wG (tg xs[i] ρ) fun r => wS (bd r M) (I (k + i + 1)) R N (I (k + i + 1)) E) → (∀ ρ M, I (k + xs.length) ρ M → N ρ M) → wS (forD tg bd xs ρ M) N R B C E
  | [], k, ρ, M, h, _, hn => hn ρ M h
  | x :: xs, k, ρ, M, h, st, hn => by
    have s := st 0 ρ M (by simp) h
    unfold forD
    simp only [List.getElem_cons_zero, Nat.add_zero] at s
    cases e : tg x ρ with
    | none => rw [e] at s; exact s.elim
    | some ρ1 =>
      rw [e] at s
      simp only [wG] at s
      have rc : ∀ ρ2 M2, I (k + 1) ρ2 M2 → wS (forD tg bd xs ρ2 M2) N R B C E := fun ρ2 M2 h2 => wS_forD I xs (k + 1) ρ2 M2 h2 (fun i ρ M hi hI => by
        have z := st (i + 1) ρ M (by simp; omega) (by rw [show k + (i + 1) = k + 1 + i by omega]; exact hI)
        simp only [List.getElem_cons_succ] at z
        rw [show k + (i + 1) + 1 = k + 1 + i + 1 by omega] at z
        exact z) (fun ρ M hI => hn ρ M (by rw [show k + (x :: xs).length = k + 1 + xs.length by simp; omega]; exact hI))
      cases eg : bd ρ1 M <;> rw [eg] at s <;> simp only [eg]
      · exact rc _ _ s
      · exact s
      · exact s
      · exact rc _ _ s
      · exact s
      · exact s
theorem wS_for1 : wS (sForR1 tg fs bd ρ M) N R B C E = wO (fs ρ M) (fun ds M1 => w1 ds fun d => wI d fun j => (-(2 ^ 62) ≤ j ∧ j < 2 ^ 62) ∧ wS (forD tg bd (rngD 0 j.toNat) ρ M1) N R B C E) E := by
  unfold sForR1
  rw [wS_bind]
  congr 1
  funext ds M1
  rcases ds with _ | ⟨v, _ | ⟨w, r⟩⟩
  · rfl
  · cases v <;> try rfl
    rename_i j
    by_cases h : -(2 ^ 62) ≤ j ∧ j < 2 ^ 62
    · simp only [w1, wI, eq_true h, true_and, if_true]
    · simp only [w1, wI, eq_false h, false_and, if_false]
      rfl
  · cases v <;> rfl
theorem wS_rng (I : Nat → Ro → Sto → Prop) {n : Nat} {lo : Int} (h0 : I 0 ρ M) (st : ∀ i ρ M, i < n → I i ρ M → wG (tg (.int (lo + i)) ρ) fun r => wS (bd r M) (I (i + 1)) R N (I (i + 1)) E) (hn : ∀ ρ M, I n ρ M → N ρ M) : wS (forD tg bd (rngD lo n) ρ M) N R B C E := by
  have hl : (rngD lo n).length = n := by simp [rngD]
  refine wS_forD I _ 0 ρ M h0 (fun i ρ M h hI => ?_) (fun ρ M hI => hn ρ M (by rw [hl, Nat.zero_add] at hI; exact hI))
  have : (rngD lo n)[i] = .int (lo + i) := by simp [rngD]
  rw [this]
  rw [Nat.zero_add] at *
  exact st i ρ M (by rw [hl] at h; exact h) hI
theorem wS_for : wS (sFor tg f bd ρ M) N R B C E = wO (f ρ M) (fun d M1 => wS (forI tg bd d ρ M1) N R B C E) E := wS_bind
theorem wS_forL (I : Nat → Ro → Sto → Prop) {n : Nat} {xs : List D} : ∀ (f i : Nat) (ρ : Ro) (M : Sto), i + f = xs.length → I i ρ M → (∀ i ρ M, I i ρ M → M[n]? = some (.lst xs)) → (∀ i ρ M (h : i < xs.length), I i ρ M → wG (tg xs[i] ρ) fun r => wS (bd r M) (I (i + 1)) R N (I (i + 1)) E) → (∀ ρ M, I xs.length ρ M → N ρ M) → wS (forL tg bd n f i ρ M) N R B C E
  | f, i, ρ, M, e, h, hm, st, hn => by
    have hx := hm _ _ _ h
    unfold forL
    rw [hx]
    cases f with
    | zero =>
      have : xs[i]? = none := List.getElem?_eq_none (by omega)
      simp only [this]
      exact hn ρ M (by rw [show xs.length = i by omega]; exact h)
    | succ f =>
      have hi : i < xs.length := by omega
      have : xs[i]? = some xs[i] := List.getElem?_eq_getElem hi
      simp only [this]
      have s := st i ρ M hi h
      cases e : tg xs[i] ρ with
      | none => rw [e] at s; exact s.elim
      | some ρ1 =>
        rw [e] at s
        simp only [wG] at s
        have rc : ∀ ρ2 M2, I (i + 1) ρ2 M2 → wS (forL tg bd n f (i + 1) ρ2 M2) N R B C E := fun ρ2 M2 h2 => wS_forL I f (i + 1) ρ2 M2 (by omega) h2 hm st hn
        cases eg : bd ρ1 M <;> rw [eg] at s <;> simp only [eg]
        · exact rc _ _ s
        · exact s
        · exact s
        · exact rc _ _ s
        · exact s
        · exact s
theorem wS_forI (I : Nat → Ro → Sto → Prop) {n : Nat} {xs : List D} (hM : M[n]? = some (.lst xs)) (h0 : I 0 ρ M) (hm : ∀ i ρ M, I i ρ M → M[n]? = some (.lst xs)) (st : ∀ i ρ M (h : i < xs.length), I i ρ M → wG (tg xs[i] ρ) fun r => wS (bd r M) (I (i + 1)) R N (I (i + 1)) E) (hn : ∀ ρ M, I xs.length ρ M → N ρ M) : wS (forI tg bd (.ref n) ρ M) N R B C E := by
  show wS (match M[n]? with | some (.lst xs) => forL tg bd n xs.length 0 ρ M | none => .bad) N R B C E
  rw [hM]
  exact wS_forL I xs.length 0 ρ M (by omega) h0 hm st hn
theorem wS_forS : wS (sForS tg fi bd ρ M) N R B C E = wO (fi ρ M) (fun src M1 => wS (forS tg bd src (cnt src M1) 0 ρ M1) N R B C E) E := wS_bind
theorem wS_src (I : Nat → Ro → Sto → Prop) {src : Src} {xs : List D} : ∀ (f i : Nat) (ρ : Ro) (M : Sto), i ≤ xs.length → xs.length ≤ i + f → I i ρ M → (∀ i ρ M, i ≤ xs.length → I i ρ M → nxt src i M = some xs[i]?) → (∀ i ρ M (h : i < xs.length), I i ρ M → wG (tg xs[i] ρ) fun r => wS (bd r M) (I (i + 1)) R N (I (i + 1)) E) → (∀ ρ M, I xs.length ρ M → N ρ M) → wS (forS tg bd src f i ρ M) N R B C E
  | f, i, ρ, M, le, e, h, hm, st, hn => by
    have hx := hm _ _ _ le h
    unfold forS
    rw [hx]
    by_cases hi : i < xs.length
    · have : xs[i]? = some xs[i] := List.getElem?_eq_getElem hi
      simp only [this]
      cases f with
      | zero => omega
      | succ f =>
        have s := st i ρ M hi h
        simp only []
        cases e : tg xs[i] ρ with
        | none => rw [e] at s; exact s.elim
        | some ρ1 =>
          rw [e] at s
          simp only [wG] at s
          have rc : ∀ ρ2 M2, I (i + 1) ρ2 M2 → wS (forS tg bd src f (i + 1) ρ2 M2) N R B C E := fun ρ2 M2 h2 => wS_src I f (i + 1) ρ2 M2 (by omega) (by omega) h2 hm st hn
          cases eg : bd ρ1 M <;> rw [eg] at s <;> simp only [eg]
          · exact rc _ _ s
          · exact s
          · exact s
          · exact rc _ _ s
          · exact s
          · exact s
    · have : xs[i]? = none := List.getElem?_eq_none (by omega)
      simp only [this]
      exact hn ρ M (by rw [show xs.length = i by omega]; exact h)
theorem wS_while {c : Tv} (I : Nat → Ro → Sto → Prop) (st : ∀ n ρ M, I n ρ M → wO (c ρ M) (fun k M1 => Br k (wS (bd ρ M1) (fun ρ2 M2 => ∃ m, m < n ∧ I m ρ2 M2) R N (fun ρ2 M2 => ∃ m, m < n ∧ I m ρ2 M2) E) (N ρ M1)) E) : ∀ (n : Nat) (ρ : Ro) (M : Sto), I n ρ M → wS (sWh c bd ρ M) N R B C E := by
  intro n
  induction n using Nat.strongRecOn with
  | ind n ih =>
    intro ρ M h
    have s := st n ρ M h
    cases ec : c ρ M with
    | bad => rw [ec] at s; exact s.elim
    | exc x M1 => rw [ec] at s; rw [sWh_of (n := 1) (o := .exc x M1) (by simp only [whN, ec])]; exact s
    | ok k M1 =>
      rw [ec] at s
      cases k with
      | false =>
        rw [wO_ok, Br_f] at s
        rw [sWh_false ec]
        exact s
      | true =>
        rw [wO_ok, Br_t] at s
        cases eg : bd ρ M1 with
        | nx ρ2 M2 =>
          rw [eg] at s
          obtain ⟨m, hm, hI⟩ := s
          have r := ih m hm ρ2 M2 hI
          rw [sWh_true ec eg (by intro z; rw [z] at r; exact r)]
          exact r
        | cnt ρ2 M2 =>
          rw [eg] at s
          obtain ⟨m, hm, hI⟩ := s
          have r := ih m hm ρ2 M2 hI
          have nb : sWh c bd ρ2 M2 ≠ .bad := by intro z; rw [z] at r; exact r
          obtain ⟨j, ej⟩ := sWh_ok nb
          rw [sWh_of (n := j + 1) (o := sWh c bd ρ2 M2) (by simp only [whN, ec, eg]; exact ej)]
          exact r
        | brk ρ2 M2 => rw [eg] at s; rw [sWh_of (n := 1) (o := .nx ρ2 M2) (by simp only [whN, ec, eg])]; exact s
        | ret d M2 => rw [eg] at s; rw [sWh_of (n := 1) (o := .ret d M2) (by simp only [whN, ec, eg])]; exact s
        | exc d M2 => rw [eg] at s; rw [sWh_of (n := 1) (o := .exc d M2) (by simp only [whN, ec, eg])]; exact s
        | bad => rw [eg] at s; exact s.elim
theorem wO_comp {fi : Ro → Sto → Out Src} {k : Nat} {fr : List Nat} {c : Tv} : wO (eComp fi k fr tg c f ρ M) Q E = wO (fi ρ M) (fun src M1 => wO (cmpL src tg c f M1.length (cnt src M1) 0 (roB k fr ρ) (M1 ++ [.lst []])) (fun _ M2 => Q (.ref M1.length) M2) (fun _ _ => False)) E := by
  unfold eComp
  rw [wO_bind]
  congr 1
  funext src M1
  cases cmpL src tg c f M1.length (cnt src M1) 0 (roB k fr ρ) (M1 ++ [.lst []]) <;> rfl
theorem wO_cmp (I : Nat → Ro → Sto → Prop) {src : Src} {xs : List D} {c : Tv} {m : Nat} {Q : Sto → Prop} : ∀ (fu i : Nat) (ρ : Ro) (M : Sto), i ≤ xs.length → xs.length ≤ i + fu → I i ρ M → (∀ i ρ M, i ≤ xs.length → I i ρ M → nxt src i M = some xs[i]?) →
    (∀ i ρ M (h : i < xs.length), I i ρ M → wG (tg xs[i] ρ) fun r => wO (c r M) (fun k M1 => Br k (wO (f r M1) (fun y M2 => wL M2[m]? fun ys => ys.length < 10000000 ∧ I (i + 1) r (M2.set m (.lst (ys ++ [y])))) (fun _ _ => False)) (I (i + 1) r M1)) (fun _ _ => False)) →
    (∀ ρ M, I xs.length ρ M → Q M) → wO (cmpL src tg c f m fu i ρ M) (fun _ M2 => Q M2) (fun _ _ => False)
  | fu, i, ρ, M, le, e, h, hm, st, hn => by
    have hx := hm _ _ _ le h
    unfold cmpL
    rw [hx]
    by_cases hi : i < xs.length
    · have : xs[i]? = some xs[i] := List.getElem?_eq_getElem hi
      simp only [this]
      cases fu with
      | zero => omega
      | succ fu =>
        have s := st i ρ M hi h
        simp only []
        cases e : tg xs[i] ρ with
        | none => rw [e] at s; exact s.elim
        | some ρ1 =>
          rw [e] at s
          simp only [wG] at s
          have rc : ∀ ρ2 M2, I (i + 1) ρ2 M2 → wO (cmpL src tg c f m fu (i + 1) ρ2 M2) (fun _ M2 => Q M2) (fun _ _ => False) := fun ρ2 M2 h2 => wO_cmp I fu (i + 1) ρ2 M2 (by omega) (by omega) h2 hm st hn
          cases ec : c ρ1 M with
          | bad => rw [ec] at s; exact s.elim
          | exc _ _ => rw [ec] at s; exact s.elim
          | ok k M1 =>
            rw [ec] at s
            rw [wO_ok] at s
            cases k with
            | false =>
              rw [Br_f] at s
              simp only [ec]
              exact rc _ _ s
            | true =>
              rw [Br_t] at s
              simp only [ec]
              cases ef : f ρ1 M1 with
              | bad => rw [ef] at s; exact s.elim
              | exc _ _ => rw [ef] at s; exact s.elim
              | ok y M2 =>
                rw [ef, wO_ok] at s
                simp only [ef]
                cases ey : M2[m]? with
                | none => rw [ey] at s; exact s.elim
                | some o =>
                  cases o with
                  | lst ys =>
                    rw [ey] at s
                    simp only [wL, ey] at s ⊢
                    rw [if_pos s.1]
                    exact rc _ _ s.2
    · have : xs[i]? = none := List.getElem?_eq_none (by omega)
      simp only [this]
      exact hn ρ M (by rw [show xs.length = i by omega]; exact h)
end
end DL


end
section
set_option Elab.async false
set_option linter.all false
set_option maxRecDepth 100000
set_option maxHeartbeats 4000000
namespace DL
open PySem PySem.Spec PyProof.Rows L2
section
variable {Q : D → Sto → Prop} {E : Str → Sto → Prop} {N B C : Ro → Sto → Prop} {R : D → Sto → Prop} {ρ : Ro} {M : Sto} {f : Ev} {fs : Av} {i j : Int} {n m k : Nat} {x y d : D} {xs ys ds : List D} {lo hi : Ro → Sto → Out (Option Int)}
theorem mulFits_of64 (h : -(18446744073709551616) < i ∧ i < 18446744073709551616) : mulFits i j := mulFits_l h.1 h.2
theorem mulFits_of64r (h : -(18446744073709551616) < j ∧ j < 18446744073709551616) : mulFits i j := mulFits_r h.1 h.2
theorem divFits_of64 (h : 0 < j ∧ j < 18446744073709551616) : divFits j := by
  refine ⟨by omega, ?_⟩
  have : j.natAbs.log2 < 64 := (Nat.log2_lt (by omega)).mpr (by omega)
  omega
theorem v_add : wO (dAdd (.int i) (.int j) M) Q E = Q (.int (i + j)) M := rfl
theorem v_sub : wO (dSub (.int i) (.int j) M) Q E = Q (.int (i - j)) M := rfl
theorem v_mulF (h : mulFits i j) : wO (dMul (.int i) (.int j) M) Q E = Q (.int (i * j)) M := by
  show wO (if mulFits i j then _ else _) Q E = _
  rw [if_pos h]; rfl
theorem v_mul (h : -(18446744073709551616) < i ∧ i < 18446744073709551616) : wO (dMul (.int i) (.int j) M) Q E = Q (.int (i * j)) M := v_mulF (mulFits_of64 h)
theorem v_mulr (h : -(18446744073709551616) < j ∧ j < 18446744073709551616) : wO (dMul (.int i) (.int j) M) Q E = Q (.int (i * j)) M := v_mulF (mulFits_of64r h)
theorem v_div (h : 0 < j ∧ j < 18446744073709551616) : wO (dDiv (.int i) (.int j) M) Q E = Q (.int (i / j)) M := by
  show wO (if divFits j then _ else _) Q E = _
  rw [if_pos (divFits_of64 h), Int.fdiv_eq_ediv_of_nonneg _ (by omega)]; rfl
theorem v_mod (h : 0 < j) : wO (dMod (.int i) (.int j) M) Q E = Q (.int (i % j)) M := by
  show wO (if j ≠ 0 then _ else _) Q E = _
  rw [if_pos (by omega), Int.fmod_eq_emod_of_nonneg _ (by omega)]; rfl
theorem v_pow (h : 0 ≤ j ∧ j ≤ 1000000 ∧ i.natAbs < 18446744073709551616) : wO (dPow (.int i) (.int j) M) Q E = Q (.int (i ^ j.toNat)) M := by
  show wO (if 0 ≤ j ∧ j ≤ 1000000 ∧ i.natAbs < 2 ^ 64 then _ else _) Q E = _
  rw [if_pos ⟨h.1, h.2.1, by omega⟩]; rfl
theorem v_lt : wO (dLt (.int i) (.int j) M) Q E = Q (.bl (decide (i < j))) M := rfl
theorem v_le : wO (dLe (.int i) (.int j) M) Q E = Q (.bl (decide (i ≤ j))) M := rfl
theorem v_gt : wO (dGt (.int i) (.int j) M) Q E = Q (.bl (decide (j < i))) M := rfl
theorem v_ge : wO (dGe (.int i) (.int j) M) Q E = Q (.bl (decide (j ≤ i))) M := rfl
theorem v_cat : wO (dAdd (.ref n) (.ref m) M) Q E = wL M[n]? fun xs => wL M[m]? fun ys => xs.length + ys.length ≤ 10000000 ∧ Q (.ref M.length) (M ++ [.lst (xs ++ ys)]) := by
  show wO (match M[n]?, M[m]? with | some (.lst xs), some (.lst ys) => _ | _, _ => _) Q E = _
  cases e1 : M[n]? with
  | none => rfl
  | some o =>
    cases o with
    | lst xs =>
      cases e2 : M[m]? with
      | none => rfl
      | some p =>
        cases p with
        | lst ys =>
          by_cases h : xs.length + ys.length ≤ 10000000
          · simp [wL, h, wO]
          · simp [wL, h, wO]
theorem v_tcat (h : xs.length + ys.length ≤ 100000 ∧ xs ≠ []) : wO (dAdd (.tup xs) (.tup ys) M) Q E = Q (.tup (xs ++ ys)) M := by
  show wO (if xs.length + ys.length ≤ 100000 ∧ xs ≠ [] then _ else _) Q E = _
  rw [if_pos h]; rfl
theorem v_eq : wO (dEq x y M) Q E = wG (eqF 12 M x y) fun b => Q (.bl b) M := by
  show wO (match eqF 12 M x y with | some b => _ | none => _) Q E = _
  cases eqF 12 M x y <;> rfl
theorem v_ne : wO (dNe x y M) Q E = wG (eqF 12 M x y) fun b => Q (.bl (!b)) M := by
  show wO (match eqF 12 M x y with | some b => _ | none => _) Q E = _
  cases eqF 12 M x y <;> rfl
theorem v_is : wO (dIs x y M) Q E = wG (isP x y) fun b => Q (.bl b) M := by
  show wO (match isP x y with | some b => _ | none => _) Q E = _
  cases isP x y <;> rfl
theorem v_isN : wO (dIsNot x y M) Q E = wG (isP x y) fun b => Q (.bl (!b)) M := by
  show wO (match isP x y with | some b => _ | none => _) Q E = _
  cases isP x y <;> rfl
theorem v_atD : wO (atD xs i M) Q E = wG (atI xs i) fun d => Q d M := by
  unfold atD
  cases atI xs i <;> rfl
theorem v_ixT : wO (dIx (.tup xs) (.int i) M) Q E = wG (atI xs i) fun d => Q d M := v_atD
theorem v_ixO : wO (dIx (.rol xs) (.int i) M) Q E = wG (atI xs i) fun d => Q d M := v_atD
theorem v_ixR : wO (dIx (.ref n) (.int i) M) Q E = wL M[n]? fun xs => wG (atI xs i) fun d => Q d M := by
  show wO (match M[n]? with | some (.lst xs) => atD xs i M | _ => .bad) Q E = _
  cases e1 : M[n]? with
  | none => rfl
  | some o => cases o with | lst xs => exact v_atD
theorem v_lenR : wO (bLen [.ref n] M) Q E = wL M[n]? fun xs => Q (.int xs.length) M := by
  show wO (match (match M[n]? with | some (.lst xs) => some xs | _ => none) with | some xs => _ | none => _) Q E = _
  cases e1 : M[n]? with
  | none => rfl
  | some o => cases o with | lst xs => rfl
theorem v_lenT : wO (bLen [.tup xs] M) Q E = Q (.int xs.length) M := rfl
theorem v_lenO : wO (bLen [.rol xs] M) Q E = Q (.int xs.length) M := rfl
theorem v_abs : wO (bAbs [.int i] M) Q E = Q (.int (i.natAbs : Int)) M := by rw [← abs_nat]; rfl
theorem v_max : wO (bMax [.int i, .int j] M) Q E = Q (.int (max i j)) M := by
  have : max i j = if j > i then j else i := by split <;> omega
  rw [this]; rfl
theorem v_min : wO (bMin [.int i, .int j] M) Q E = Q (.int (min i j)) M := by
  have : min i j = if j < i then j else i := by split <;> omega
  rw [this]; rfl
theorem v_intB {k : Bool} : wO (bInt [.bl k] M) Q E = Q (.int (if k then 1 else 0)) M := rfl
theorem v_intI : wO (bInt [.int i] M) Q E = Q (.int i) M := rfl
theorem v_listR : wO (bList [.ref n] M) Q E = wL M[n]? fun xs => Q (.ref M.length) (M ++ [.lst xs]) := by
  show wO (match (match M[n]? with | some (.lst xs) => some xs | _ => none) with | some xs => _ | none => _) Q E = _
  cases e1 : M[n]? with
  | none => rfl
  | some o => cases o with | lst xs => rfl
theorem v_listT : wO (bList [.tup xs] M) Q E = Q (.ref M.length) (M ++ [.lst xs]) := rfl
theorem v_all : wO (bAll [.ref n] M) Q E = wL M[n]? fun xs => wG (boolsD xs) fun bs => Q (.bl (bs.all id)) M := by
  show wO (match M[n]? with | some (.lst xs) => (match boolsD xs with | some bs => Out.ok (.bl (bs.all id)) M | none => .bad) | none => .bad) Q E = _
  cases e1 : M[n]? with
  | none => rfl
  | some o =>
    cases o with
    | lst xs =>
      show wO (match boolsD xs with | some bs => Out.ok (.bl (bs.all id)) M | none => .bad) Q E = wG (boolsD xs) _
      cases boolsD xs <;> rfl
theorem v_ints {g : List Int → Option Int} : wO (bInts g [.ref n] M) Q E = wL M[n]? fun xs => wG (intsD xs) fun ns => wG (g ns) fun i => Q (.int i) M := by
  show wO (match (match M[n]? with | some (.lst xs) => some xs | _ => none) with | some xs => (match intsD xs with | some ns => (match g ns with | some i => Out.ok (.int i) M | none => .bad) | none => .bad) | none => .bad) Q E = _
  cases e1 : M[n]? with
  | none => rfl
  | some o =>
    cases o with
    | lst xs =>
      show wO (match intsD xs with | some ns => (match g ns with | some i => Out.ok (.int i) M | none => .bad) | none => .bad) Q E = wG (intsD xs) _
      cases intsD xs with
      | none => rfl
      | some ns =>
        show wO (match g ns with | some i => Out.ok (.int i) M | none => .bad) Q E = wG (g ns) _
        cases g ns <;> rfl
theorem v_mt {g : Me} {fo : Ev} : wO (eMtL g fo fs ρ M) Q E = wO (fo ρ M) (fun x M1 => lstK x M1 = true ∧ wO (fs ρ M1) (fun ds M2 => wO (g x ds M2) Q E) E) E := by
  unfold eMtL
  rw [wO_bind]
  congr 1
  funext x M1
  by_cases h : lstK x M1 = true
  · simp only [h, if_true, true_and]; rw [wO_bind]
  · simp [h, wO]
theorem v_lstK : lstK (.ref n) M = M[n]?.isSome := rfl
theorem v_app : wO (mApp (.ref n) [d] M) Q E = wL M[n]? fun xs => xs.length < 10000000 ∧ Q .non (M.set n (.lst (xs ++ [d]))) := by
  show wO (match M[n]? with | some (.lst xs) => if xs.length < 10000000 then _ else _ | none => _) Q E = _
  cases e1 : M[n]? with
  | none => rfl
  | some o =>
    cases o with
    | lst xs =>
      by_cases h : xs.length < 10000000
      · simp [wL, h, wO]
      · simp [wL, h, wO]
theorem v_clr : wO (mClr (.ref n) [] M) Q E = wL M[n]? fun xs => Q .non (M.set n (.lst [])) := by
  show wO (match M[n]? with | some (.lst xs) => _ | none => _) Q E = _
  cases e1 : M[n]? with
  | none => rfl
  | some o => cases o with | lst xs => rfl
theorem v_ext : wO (mExt (.ref n) [.ref m] M) Q E = wL M[n]? fun xs => wL M[m]? fun ys => xs.length + ys.length ≤ 10000000 ∧ Q .non (M.set n (.lst (xs ++ ys))) := by
  show wO (match M[n]?, M[m]? with | some (.lst xs), some (.lst ys) => if xs.length + ys.length ≤ 10000000 then _ else _ | _, _ => _) Q E = _
  cases e1 : M[n]? with
  | none => rfl
  | some o =>
    cases o with
    | lst xs =>
      cases e2 : M[m]? with
      | none => rfl
      | some p =>
        cases p with
        | lst ys =>
          by_cases h : xs.length + ys.length ≤ 10000000
          · simp [wL, h, wO]
          · simp [wL, h, wO]
noncomputable def slR (x : D) (l u : Option Int) (M3 : Sto) : Out D := match x with
  | .ref n => (match M3[n]? with | some (.lst xs) => .ok (.ref M3.length) (M3 ++ [.lst (cutD xs l u)]) | none => .bad)
  | .rol xs => .ok (.ref M3.length) (M3 ++ [.lst (cutD xs l u)])
  | .tup xs => if HT.sIx xs.length 0 l = 0 ∧ HT.sIx xs.length xs.length u = xs.length then .bad else .ok (.tup (cutD xs l u)) M3
  | _ => .bad
theorem v_slE : wO (eSl f lo hi ρ M) Q E = wO (f ρ M) (fun x M1 => wO (lo ρ M1) (fun l M2 => wO (hi ρ M2) (fun u M3 => wO (slR x l u M3) Q E) E) E) E := by
  unfold eSl
  rw [wO_bind]
  congr 1
  funext x M1
  rw [wO_bind]
  congr 1
  funext l M2
  rw [wO_bind]
  congr 1
theorem v_slR {l u : Option Int} : wO (slR (.ref n) l u M) Q E = wL M[n]? fun xs => Q (.ref M.length) (M ++ [.lst (cutD xs l u)]) := by
  unfold slR
  cases e1 : M[n]? with
  | none => simp only [e1]; rfl
  | some o => cases o with | lst xs => simp only [e1]; rfl
theorem v_oSo {Q : Option Int → Sto → Prop} : wO (oSo f ρ M) Q E = wO (f ρ M) (fun x M1 => wI x fun i => Q (some i) M1) E := by
  unfold oSo
  rw [wO_bind]
  congr 1
  funext x M1
  cases x <;> rfl
theorem cut_to (h : 0 ≤ i) : cutD xs none (some i) = xs.take i.toNat := by
  unfold cutD
  simp only [HT.sIx]
  rw [if_neg (by omega), List.drop_zero, Nat.sub_zero]
  by_cases c : i.toNat ≤ xs.length
  · rw [Nat.min_eq_left c]
  · rw [Nat.min_eq_right (by omega), List.take_of_length_le (Nat.le_refl _), List.take_of_length_le (by omega)]
theorem cut_from (h : 0 ≤ i) : cutD xs (some i) none = xs.drop i.toNat := by
  unfold cutD
  simp only [HT.sIx]
  rw [if_neg (by omega)]
  by_cases c : i.toNat ≤ xs.length
  · rw [Nat.min_eq_left c, List.take_of_length_le (by simp)]
  · rw [Nat.min_eq_right (by omega), List.drop_eq_nil_of_le (Nat.le_refl _), List.drop_eq_nil_of_le (by omega), List.take_nil]
theorem s_at0 {L : Sto} : (M ++ L)[M.length]? = L[0]? := by rw [List.getElem?_append_right (Nat.le_refl _), Nat.sub_self]
theorem s_at {L : Sto} {i : Nat} : (M ++ L)[M.length + i]? = L[i]? := by rw [List.getElem?_append_right (by omega)]; congr 1; omega
theorem s_old {L : Sto} (h : n < M.length) : (M ++ L)[n]? = M[n]? := List.getElem?_append_left h
theorem s_set0 {L : Sto} {o : SO} : (M ++ L).set M.length o = M ++ L.set 0 o := by rw [List.set_append_right _ _ (Nat.le_refl _), Nat.sub_self]
theorem s_set {L : Sto} {o : SO} {i : Nat} : (M ++ L).set (M.length + i) o = M ++ L.set i o := by rw [List.set_append_right _ _ (by omega)]; congr 2; omega
theorem s_setN {o : SO} (h : k ≠ n) : (M.set n o)[k]? = M[k]? := List.getElem?_set_ne (Ne.symm h)
theorem s_setS {o : SO} (h : n < M.length) : (M.set n o)[n]? = some o := List.getElem?_set_self h
theorem lt_get {o : SO} (h : M[n]? = some o) : n < M.length := (List.getElem?_eq_some_iff.mp h).1
noncomputable abbrev pr (x y : Int) : D := .tup [.int x, .int y]
noncomputable def prs (rs : List (Int × Int)) : List D := rs.map fun p => pr p.1 p.2
noncomputable def nts (ns : List Int) : List D := ns.map D.int
theorem prs_len {rs : List (Int × Int)} : (prs rs).length = rs.length := List.length_map _
theorem nts_len {rs : List Int} : (nts rs).length = rs.length := List.length_map _
theorem prs_app {a b : List (Int × Int)} : prs a ++ prs b = prs (a ++ b) := (List.map_append).symm
theorem nts_app {a b : List Int} : nts a ++ nts b = nts (a ++ b) := (List.map_append).symm
theorem prs_take {a : List (Int × Int)} : (prs a).take n = prs (a.take n) := List.map_take.symm
theorem prs_drop {a : List (Int × Int)} : (prs a).drop n = prs (a.drop n) := List.map_drop.symm
theorem nts_take {a : List Int} : (nts a).take n = nts (a.take n) := List.map_take.symm
theorem nts_drop {a : List Int} : (nts a).drop n = nts (a.drop n) := List.map_drop.symm
theorem prs_cons {a b : Int} {r : List (Int × Int)} : pr a b :: prs r = prs ((a, b) :: r) := rfl
theorem prs_set {a : List (Int × Int)} {b c : Int} : (prs a).set n (pr b c) = prs (a.set n (b, c)) := by unfold prs; rw [List.map_set]
theorem nts_set {a : List Int} {b : Int} : (nts a).set n (.int b) = nts (a.set n b) := by unfold nts; rw [List.map_set]
noncomputable def cy (rs : List (Int × Int)) (i : Int) : Int × Int := rs.getD (i % rs.length).toNat (0, 0)
theorem cy_nat {rs : List (Int × Int)} {k : Nat} (h : k < rs.length) : cy rs k = rs[k] := by
  unfold cy
  rw [Int.emod_eq_of_lt (by omega) (by omega)]
  simp [List.getElem?_eq_getElem h]
theorem q_int {a b : Int} : eqF (n + 1) M (.int a) (.int b) = some (decide (a = b)) := rfl
theorem q_bl {a b : Bool} : eqF (n + 1) M (.bl a) (.bl b) = some (a == b) := rfl
theorem q_pr {a b c d : Int} : eqF (n + 2) M (pr a b) (pr c d) = some (decide ((a, b) = (c, d))) := by
  show some ((a == c) && ((b == d) && true)) = _
  congr 1
  rw [Bool.eq_iff_iff]
  simp
theorem q_prsL {rs ss : List (Int × Int)} : eqL (eqF (n + 2) M) (prs rs) (prs ss) = some (decide (rs = ss)) := by
  induction rs generalizing ss with
  | nil => cases ss <;> rfl
  | cons r rs ih =>
    cases ss with
    | nil => rfl
    | cons s ss =>
      show (match eqF (n + 2) M (pr r.1 r.2) (pr s.1 s.2) with | some a => (match eqL _ (prs rs) (prs ss) with | some b => some (a && b) | none => none) | none => none) = _
      rw [q_pr, ih]
      simp only []
      congr 1
      rw [Bool.eq_iff_iff]
      obtain ⟨r1, r2⟩ := r
      obtain ⟨s1, s2⟩ := s
      simp
theorem q_ntsL {rs ss : List Int} : eqL (eqF (n + 1) M) (nts rs) (nts ss) = some (decide (rs = ss)) := by
  induction rs generalizing ss with
  | nil => cases ss <;> rfl
  | cons r rs ih =>
    cases ss with
    | nil => rfl
    | cons s ss =>
      show (match eqF (n + 1) M (.int r) (.int s) with | some a => (match eqL _ (nts rs) (nts ss) with | some b => some (a && b) | none => none) | none => none) = _
      rw [q_int, ih]
      simp only []
      congr 1
      rw [Bool.eq_iff_iff]
      simp
theorem q_lst {xs ys : List D} (h1 : M[n]? = some (.lst xs)) (h2 : M[m]? = some (.lst ys)) : eqF (k + 1) M (.ref n) (.ref m) = if xs.length = ys.length then eqL (eqF k M) xs ys else some false := by
  show (match kd M (.ref n), kd M (.ref m) with | some a, some b => eqK (eqF k M) a b | _, _ => none) = _
  have e1 : kd M (.ref n) = some (.lst xs) := by show (match M[n]? with | some (.lst xs) => some (Kd.lst xs) | _ => none) = _; rw [h1]
  have e2 : kd M (.ref m) = some (.lst ys) := by show (match M[m]? with | some (.lst xs) => some (Kd.lst xs) | _ => none) = _; rw [h2]
  rw [e1, e2]
  rfl
theorem ty_int : tyName M (.int i) = some "int" := rfl
theorem ty_bl {b : Bool} : tyName M (.bl b) = some "bool" := rfl
theorem ty_tup : tyName M (.tup xs) = some "tuple" := rfl
theorem ty_non : tyName M .non = some "NoneType" := rfl
theorem ty_ref (h : M[n]? = some (.lst xs)) : tyName M (.ref n) = some "list" := by
  show (match (match M[n]? with | some (.lst xs) => some (Kd.lst xs) | _ => none) with | some .non => _ | some (.bl _) => _ | some (.int _) => _ | some (.str _) => _ | some (.tup _) => _ | some (.lst _) => _ | none => _) = _
  rw [h]
end
end DL


end
section
set_option Elab.async false
set_option linter.all false
set_option maxRecDepth 100000
set_option maxHeartbeats 4000000
namespace DL
open PySem PySem.Spec PyProof.Rows L2
section
variable {Q : D → Sto → Prop} {E : Str → Sto → Prop} {N B C : Ro → Sto → Prop} {R : D → Sto → Prop} {ρ : Ro} {M : Sto} {f : Ev} {fs : Av} {i j : Int} {n m k : Nat} {x y z d : D} {xs ys ds : List D} {QS : Src → Sto → Prop} {tg : Tg} {bd : Sv} {b : Bool}
theorem wS_for2 : wS (sForR2 tg fs bd ρ M) N R B C E = wO (fs ρ M) (fun ds M1 => w2 ds fun x y => wI x fun i => wI y fun j => (-(2 ^ 62) ≤ i ∧ i < 2 ^ 62 ∧ -(2 ^ 62) ≤ j ∧ j < 2 ^ 62) ∧ wS (forD tg bd (rngD i (j - i).toNat) ρ M1) N R B C E) E := by
  unfold sForR2
  rw [wS_bind]
  congr 1
  funext ds M1
  rcases ds with _ | ⟨v, _ | ⟨w, _ | ⟨w', r⟩⟩⟩
  · rfl
  · cases v <;> rfl
  · cases v <;> try rfl
    cases w <;> try rfl
    rename_i i j
    by_cases h : -(2 ^ 62) ≤ i ∧ i < 2 ^ 62 ∧ -(2 ^ 62) ≤ j ∧ j < 2 ^ 62
    · simp only [w2, wI, eq_true h, true_and, if_true]
    · simp only [w2, wI, eq_false h, false_and, if_false]
      rfl
  · cases v <;> cases w <;> rfl
theorem v_R1 : wO (iR1 fs ρ M) QS E = wO (fs ρ M) (fun ds M1 => w1 ds fun d => wI d fun j => (-(2 ^ 62) ≤ j ∧ j < 2 ^ 62) ∧ QS (.pur (rngD 0 j.toNat)) M1) E := by
  unfold iR1
  rw [wO_bind]
  congr 1
  funext ds M1
  rcases ds with _ | ⟨v, _ | ⟨w, r⟩⟩
  · rfl
  · cases v <;> try rfl
    rename_i j
    by_cases h : -(2 ^ 62) ≤ j ∧ j < 2 ^ 62
    · simp only [w1, wI, eq_true h, true_and, if_true, wO_ok]
    · simp only [w1, wI, eq_false h, false_and, if_false]
      rfl
  · cases v <;> rfl
theorem v_R2 : wO (iR2 fs ρ M) QS E = wO (fs ρ M) (fun ds M1 => w2 ds fun x y => wI x fun i => wI y fun j => (-(2 ^ 62) ≤ i ∧ i < 2 ^ 62 ∧ -(2 ^ 62) ≤ j ∧ j < 2 ^ 62) ∧ QS (.pur (rngD i (j - i).toNat)) M1) E := by
  unfold iR2
  rw [wO_bind]
  congr 1
  funext ds M1
  rcases ds with _ | ⟨v, _ | ⟨w, _ | ⟨w', r⟩⟩⟩
  · rfl
  · cases v <;> rfl
  · cases v <;> try rfl
    cases w <;> try rfl
    rename_i i j
    by_cases h : -(2 ^ 62) ≤ i ∧ i < 2 ^ 62 ∧ -(2 ^ 62) ≤ j ∧ j < 2 ^ 62
    · simp only [w2, wI, eq_true h, true_and, if_true, wO_ok]
    · simp only [w2, wI, eq_false h, false_and, if_false]
      rfl
  · cases v <;> cases w <;> rfl
theorem v_En : wO (iEn fs ρ M) QS E = wO (fs ρ M) (fun ds M1 => w1 ds fun d => wR d fun n => QS (.enu n) M1) E := by
  unfold iEn
  rw [wO_bind]
  congr 1
  funext ds M1
  rcases ds with _ | ⟨v, _ | ⟨w, r⟩⟩ <;> try rfl
  · cases v <;> rfl
  · cases v <;> rfl
theorem v_Zp : wO (iZp fs ρ M) QS E = wO (fs ρ M) (fun ds M1 => w2 ds fun x y => wR x fun n => wR y fun m => QS (.zip n m) M1) E := by
  unfold iZp
  rw [wO_bind]
  congr 1
  funext ds M1
  rcases ds with _ | ⟨v, _ | ⟨w, _ | ⟨w', r⟩⟩⟩ <;> try rfl
  · cases v <;> rfl
  · cases v <;> cases w <;> rfl
  · cases v <;> cases w <;> rfl
theorem v_Rv : wO (iRv fs ρ M) QS E = wO (fs ρ M) (fun ds M1 => w1 ds fun d => wR d fun n => wL M1[n]? fun xs => QS (.rev n xs.length) M1) E := by
  unfold iRv
  rw [wO_bind]
  congr 1
  funext ds M1
  rcases ds with _ | ⟨v, _ | ⟨w, r⟩⟩ <;> try rfl
  · cases v <;> try rfl
    rename_i n
    cases e : M1[n]? with
    | none => simp only [e]; simp only [w1, wR, e]; rfl
    | some o => cases o with | lst xs => simp only [e, w1, wR]; rfl
  · cases v <;> rfl
noncomputable def kNon (Q : D → Sto → Prop) (ρ : Ro) (M : Sto) : Prop := Q .non M
theorem wF1 : wO (fnF bd 1 k [x] M) Q E = wS (bd (some x :: List.replicate k none) M) (kNon Q) Q (fun _ _ => False) (fun _ _ => False) E := wF rfl
theorem wF2 : wO (fnF bd 2 k [x, y] M) Q E = wS (bd (some x :: some y :: List.replicate k none) M) (kNon Q) Q (fun _ _ => False) (fun _ _ => False) E := wF rfl
theorem wF3 : wO (fnF bd 3 k [x, y, z] M) Q E = wS (bd (some x :: some y :: some z :: List.replicate k none) M) (kNon Q) Q (fun _ _ => False) (fun _ _ => False) E := wF rfl
theorem wF4 : wO (fnF bd 4 k [x, y, z, d] M) Q E = wS (bd (some x :: some y :: some z :: some d :: List.replicate k none) M) (kNon Q) Q (fun _ _ => False) (fun _ _ => False) E := wF rfl
theorem prs_snoc {a : List (Int × Int)} {b c : Int} : prs a ++ [pr b c] = prs (a ++ [(b, c)]) := by simp [prs]
theorem nts_snoc {a : List Int} {b : Int} : nts a ++ [D.int b] = nts (a ++ [b]) := by simp [nts]
theorem nts_cons {b : Int} {r : List Int} : D.int b :: nts r = nts (b :: r) := rfl
theorem isP_n : isP .non .non = some true := rfl
theorem isP_i : isP (.int i) .non = some false := rfl
theorem isP_t : isP (.tup xs) .non = some false := rfl
theorem isP_r : isP (.ref n) .non = some false := rfl
theorem cnt_sto (h : M[n]? = some (.lst xs)) : cnt (.sto n) M = xs.length := by show (match M[n]? with | some (.lst xs) => xs.length | none => 0) = _; rw [h]
theorem cnt_zip (h : M[n]? = some (.lst xs)) : cnt (.zip n m) M = xs.length := by show (match M[n]? with | some (.lst xs) => xs.length | none => 0) = _; rw [h]
theorem at2 {r : List D} : atI (x :: y :: z :: r) 2 = some z := by
  show (ixN (r.length + 3) 2).bind _ = _
  unfold ixN
  rw [if_pos (by decide), if_pos (by omega)]
  rfl
theorem at3 {r : List D} : atI (x :: y :: z :: d :: r) 3 = some d := by
  show (ixN (r.length + 4) 3).bind _ = _
  unfold ixN
  rw [if_pos (by decide), if_pos (by omega)]
  rfl
theorem isi_ii : isiT "int" "int" = true := rfl
theorem isi_ib : isiT "int" "bool" = false := rfl
theorem isi_bi : isiT "bool" "int" = true := rfl
theorem isi_bb : isiT "bool" "bool" = true := rfl
theorem isi_tt : isiT "tuple" "tuple" = true := rfl
theorem isi_ll : isiT "list" "list" = true := rfl
theorem isi_ti : isiT "tuple" "int" = false := rfl
theorem isi_tl : isiT "tuple" "list" = false := rfl
theorem isi_lt : isiT "list" "tuple" = false := rfl
theorem isi_li : isiT "list" "int" = false := rfl
theorem isi_nt : isiT "NoneType" "tuple" = false := rfl
theorem isi_nl : isiT "NoneType" "list" = false := rfl
theorem nx_sto (h : M[n]? = some (.lst xs)) : nxt (.sto n) k M = some xs[k]? := by
  show (match M[n]? with | some (.lst xs) => some xs[k]? | none => none) = _
  rw [h]
section
variable {g : Jv} {bb : Nat}
end
theorem nx_zip (h : M[n]? = some (.lst xs)) (h' : M[m]? = some (.lst ys)) : nxt (.zip n m) k M = some ((List.zipWith (fun a b => D.tup [a, b]) xs ys)[k]?) := by
  show (match M[n]?, M[m]? with | some (.lst xs), some (.lst ys) => (match xs[k]?, ys[k]? with | some x, some y => some (some (D.tup [x, y])) | _, _ => some none) | _, _ => none) = _
  rw [h, h', List.getElem?_zipWith]
  simp only []
  cases xs[k]? <;> cases ys[k]? <;> rfl
theorem wS_zip2 (I : Nat → Ro → Sto → Prop) (hM : M[n]? = some (.lst xs)) (hl : ys.length ≤ xs.length) (h0 : I 0 ρ M) (hm : ∀ i ρ M, I i ρ M → M[n]? = some (.lst xs) ∧ M[m]? = some (.lst ys)) (st : ∀ (i : Nat) ρ M (h : i < ys.length), I i ρ M → wG (tg (.tup [xs[i], ys[i]]) ρ) fun r => wS (bd r M) (I (i + 1)) R N (I (i + 1)) E) (hn : ∀ ρ M, I ys.length ρ M → N ρ M) : wS (forS tg bd (.zip n m) (cnt (.zip n m) M) 0 ρ M) N R B C E := by
  rw [cnt_zip hM]
  have hz : (List.zipWith (fun a b => D.tup [a, b]) xs ys).length = ys.length := by simp; omega
  refine wS_src I (xs := List.zipWith (fun a b => D.tup [a, b]) xs ys) _ 0 ρ M (by simp) (by simp; omega) h0 (fun i ρ M _ hI => ?_) (fun i ρ M h hI => ?_) (fun ρ M hI => hn ρ M (by rw [hz] at hI; exact hI))
  · rw [nx_zip (hm _ _ _ hI).1 (hm _ _ _ hI).2]
  · rw [List.getElem_zipWith]
    exact st i ρ M (by rw [hz] at h; exact h) hI
theorem wO_cmpP {src : Src} (Inv : Ro → Prop) (F : Nat → D) {Q : Sto → Prop} (hl : xs.length < 10000000) (hcnt : xs.length ≤ cnt src M) (h0 : Inv ρ) (hs : ∀ (L : Sto) (i : Nat), i ≤ xs.length → nxt src i (M ++ L) = some xs[i]?)
    (st : ∀ (i : Nat) (h : i < xs.length) (ρ : Ro) (L : Sto), Inv ρ → wG (tg xs[i] ρ) fun r => Inv r ∧ wO (f r (M ++ L)) (fun y M2 => y = F i ∧ M2 = M ++ L) (fun _ _ => False)) (hq : Q (M ++ [.lst ((List.range xs.length).map F)])) :
    wO (cmpL src tg (fun _ M => .ok true M) f M.length (cnt src M) 0 ρ (M ++ [.lst []])) (fun _ M2 => Q M2) (fun _ _ => False) := by
  refine wO_cmp (fun i ρ M' => Inv ρ ∧ M' = M ++ [.lst ((List.range i).map F)]) (xs := xs) _ 0 ρ _ (by simp) (by omega) ⟨h0, rfl⟩ (fun i ρ M' hi hI => by rw [hI.2]; exact hs _ i hi) (fun i ρ M' h hI => ?_) (fun ρ M' hI => by rw [hI.2]; exact hq)
  obtain ⟨hI, rfl⟩ := hI
  have s := st i h ρ [.lst ((List.range i).map F)] hI
  cases e : tg xs[i] ρ with
  | none => rw [e] at s; exact s.elim
  | some r =>
    rw [e] at s
    obtain ⟨hr, s⟩ := s
    show Br true _ _
    rw [Br_t]
    refine wO_mono s (fun y M2 ⟨h1, h2⟩ => ?_) (fun _ _ z => z)
    subst h1 h2
    rw [s_at0]
    refine ⟨by simp; omega, hr, ?_⟩
    rw [s_set0, List.range_succ, List.map_append]
    rfl
end
end DL


end
section
set_option Elab.async false
set_option linter.all false
set_option maxRecDepth 100000
set_option maxHeartbeats 4000000
namespace DL
open PySem PySem.Spec PyProof.Rows L2
section
variable {Q : D → Sto → Prop} {E : Str → Sto → Prop} {N B C : Ro → Sto → Prop} {R : D → Sto → Prop} {ρ : Ro} {M : Sto} {f g : Ev} {fs : Av} {i j : Int} {n m k : Nat} {x y z d : D} {xs ys ds : List D} {QL : List D → Sto → Prop} {QB : Bool → Sto → Prop} {QS : Src → Sto → Prop} {tg : Tg} {a bd : Sv} {b : Bool} {t u : Tv}
noncomputable def kU {β γ : Type} (u : β → Sto → Out γ) (Q : γ → Sto → Prop) (E : Str → Sto → Prop) (x : β) (M : Sto) : Prop := wO (u x M) Q E
noncomputable def kQ {β γ : Type} (Q : γ → Sto → Prop) (c : β → γ) (M : Sto) (x : β) : Prop := Q (c x) M
noncomputable def kB2 (op : Bo) (x : D) (Q : D → Sto → Prop) (E : Str → Sto → Prop) (y : D) (M : Sto) : Prop := wO (op x y M) Q E
noncomputable def kB1 (op : Bo) (g : Ev) (ρ : Ro) (Q : D → Sto → Prop) (E : Str → Sto → Prop) (x : D) (M : Sto) : Prop := wO (g ρ M) (kB2 op x Q E) E
theorem y_e2 {op : Bo} : wO (e2 op f g ρ M) Q E = wO (f ρ M) (kB1 op g ρ Q E) E := wO_e2
theorem y_c  : wO (eC d ρ M) Q E = Q d M := rfl
theorem y_v  : wO (eVar k ρ M) Q E = wV ρ[k]? (kQ Q id M) := wO_v
theorem y_call {F : List D → Sto → Out D} : wO (eCall F fs ρ M) Q E = wO (fs ρ M) (kU F Q E) E := wO_call
noncomputable def kA2 (x : D) (Q : List D → Sto → Prop) (xs : List D) (M : Sto) : Prop := Q (x :: xs) M
noncomputable def kA1 (fs : Av) (ρ : Ro) (Q : List D → Sto → Prop) (E : Str → Sto → Prop) (x : D) (M : Sto) : Prop := wO (fs ρ M) (kA2 x Q) E
theorem y_nil  : wO (aNil ρ M) QL E = QL [] M := rfl
theorem y_cons  : wO (aCons f fs ρ M) QL E = wO (f ρ M) (kA1 fs ρ QL E) E := wA_cons
noncomputable def kTu (Q : D → Sto → Prop) (xs : List D) (M : Sto) : Prop := xs.length ≤ 1000 ∧ Q (.tup xs) M
noncomputable def kLs (Q : D → Sto → Prop) (xs : List D) (M : Sto) : Prop := xs.length ≤ 1000 ∧ Q (.ref M.length) (M ++ [.lst xs])
theorem y_tup  : wO (eTup fs ρ M) Q E = wO (fs ρ M) (kTu Q) E := wO_tup
theorem y_lst  : wO (eLst fs ρ M) Q E = wO (fs ρ M) (kLs Q) E := wO_lst
noncomputable def oNeg (x : D) (M : Sto) : Out D := match x with | .int i => .ok (.int (-i)) M | _ => .bad
theorem y_neg  : wO (eNeg f ρ M) Q E = wO (f ρ M) (kU oNeg Q E) E := by unfold eNeg; exact wO_bind
theorem y_negI  : wO (oNeg (.int i) M) Q E = Q (.int (-i)) M := rfl
noncomputable def oIsi (T : String) (x : D) (M : Sto) : Out D := match tyName M x with | some t => .ok (.bl (isiT t T)) M | none => .bad
theorem y_isi {T : String} : wO (eIsi T f ρ M) Q E = wO (f ρ M) (kU (oIsi T) Q E) E := by unfold eIsi; exact wO_bind
noncomputable def kTy (T : String) (Q : D → Sto → Prop) (M : Sto) (t : String) : Prop := Q (.bl (isiT t T)) M
theorem y_isiO {T : String} : wO (oIsi T x M) Q E = wG (tyName M x) (kTy T Q M) := by unfold oIsi; cases tyName M x <;> rfl
noncomputable def tC (b : Bool) : Tv := fun _ M => .ok b M
noncomputable def BrO {β : Type} (k : Bool) (f g : Ro → Sto → Out β) (ρ : Ro) (M : Sto) (Q : β → Sto → Prop) (E : Str → Sto → Prop) : Prop := wO ((if k = true then f else g) ρ M) Q E
theorem y_bt {β : Type} {fO gO : Ro → Sto → Out β} {QO : β → Sto → Prop} : BrO true fO gO ρ M QO E = wO (fO ρ M) QO E := rfl
theorem y_bf {β : Type} {fO gO : Ro → Sto → Out β} {QO : β → Sto → Prop} : BrO false fO gO ρ M QO E = wO (gO ρ M) QO E := rfl
noncomputable def kIf (f g : Ev) (ρ : Ro) (Q : D → Sto → Prop) (E : Str → Sto → Prop) (k : Bool) (M : Sto) : Prop := BrO k f g ρ M Q E
theorem y_if  : wO (eIf t f g ρ M) Q E = wO (t ρ M) (kIf f g ρ Q E) E := by unfold eIf; rw [wO_bind]; congr 1; funext k M1; cases k <;> rfl
noncomputable def oAnd (g : Ev) (ρ : Ro) (x : D) (M : Sto) : Out D := match x with | .bl k => if k = true then g ρ M else .ok (.bl false) M | _ => .bad
noncomputable def oOr (g : Ev) (ρ : Ro) (x : D) (M : Sto) : Out D := match x with | .bl k => if k = true then .ok (.bl true) M else g ρ M | _ => .bad
noncomputable def oNot (x : D) (M : Sto) : Out D := match x with | .bl k => .ok (.bl (!k)) M | _ => .bad
noncomputable def oTv (x : D) (M : Sto) : Out Bool := match x with | .bl k => .ok k M | _ => .bad
theorem y_and  : wO (eAnd2 f g ρ M) Q E = wO (f ρ M) (kU (oAnd g ρ) Q E) E := by unfold eAnd2; exact wO_bind
theorem y_or  : wO (eOr2 f g ρ M) Q E = wO (f ρ M) (kU (oOr g ρ) Q E) E := by unfold eOr2; exact wO_bind
theorem y_not  : wO (eNot1 f ρ M) Q E = wO (f ρ M) (kU oNot Q E) E := by unfold eNot1; exact wO_bind
theorem y_andB  : wO (oAnd g ρ (.bl b) M) Q E = BrO b g (eC (.bl false)) ρ M Q E := by cases b <;> rfl
theorem y_orB  : wO (oOr g ρ (.bl b) M) Q E = BrO b (eC (.bl true)) g ρ M Q E := by cases b <;> rfl
theorem y_notB  : wO (oNot (.bl b) M) Q E = Q (.bl (!b)) M := rfl
theorem y_tv  : wO (tv f ρ M) QB E = wO (f ρ M) (kU oTv QB E) E := by unfold tv; exact wO_bind
theorem y_tvB  : wO (oTv (.bl b) M) QB E = QB b M := rfl
noncomputable def kTA (u : Tv) (ρ : Ro) (Q : Bool → Sto → Prop) (E : Str → Sto → Prop) (k : Bool) (M : Sto) : Prop := BrO k u (tC false) ρ M Q E
noncomputable def kTO (u : Tv) (ρ : Ro) (Q : Bool → Sto → Prop) (E : Str → Sto → Prop) (k : Bool) (M : Sto) : Prop := BrO k (tC true) u ρ M Q E
noncomputable def kTN (Q : Bool → Sto → Prop) (k : Bool) (M : Sto) : Prop := Q (!k) M
theorem y_tC  : wO (tC b ρ M) QB E = QB b M := rfl
theorem y_tand  : wO (tAnd2 t u ρ M) QB E = wO (t ρ M) (kTA u ρ QB E) E := by unfold tAnd2; rw [wO_bind]; congr 1; funext k M1; cases k <;> rfl
theorem y_tor  : wO (tOr2 t u ρ M) QB E = wO (t ρ M) (kTO u ρ QB E) E := by unfold tOr2; rw [wO_bind]; congr 1; funext k M1; cases k <;> rfl
theorem y_tnot  : wO (tNot1 t ρ M) QB E = wO (t ρ M) (kTN QB) E := wT_not
noncomputable def kSq (b : Sv) (N : Ro → Sto → Prop) (R : D → Sto → Prop) (B C : Ro → Sto → Prop) (E : Str → Sto → Prop) (ρ : Ro) (M : Sto) : Prop := wS (b ρ M) N R B C E
theorem y_seq  : wS (sSeq a bd ρ M) N R B C E = wS (a ρ M) (kSq bd N R B C E) R B C E := wS_seq
theorem y_snil  : wS (sNil ρ M) N R B C E = N ρ M := rfl
theorem y_brk  : wS (sBrk ρ M) N R B C E = B ρ M := rfl
theorem y_cnt  : wS (sCnt ρ M) N R B C E = C ρ M := rfl
theorem y_ret  : wS (sRet f ρ M) N R B C E = wO (f ρ M) R E := wS_ret
theorem y_retN  : wS (sRetN ρ M) N R B C E = R .non M := rfl
noncomputable def kDr (ρ : Ro) (N : Ro → Sto → Prop) (d : D) (M : Sto) : Prop := N ρ M
theorem y_drop  : wS (sDrop f ρ M) N R B C E = wO (f ρ M) (kDr ρ N) E := wS_drop
noncomputable def BrS (k : Bool) (a b : Sv) (ρ : Ro) (M : Sto) (N : Ro → Sto → Prop) (R : D → Sto → Prop) (B C : Ro → Sto → Prop) (E : Str → Sto → Prop) : Prop := wS ((if k = true then a else b) ρ M) N R B C E
theorem y_st  : BrS true a bd ρ M N R B C E = wS (a ρ M) N R B C E := rfl
theorem y_sf  : BrS false a bd ρ M N R B C E = wS (bd ρ M) N R B C E := rfl
theorem brS {p : Prop} [Decidable p] (h1 : p → wS (a ρ M) N R B C E) (h2 : ¬ p → wS (bd ρ M) N R B C E) : BrS (decide p) a bd ρ M N R B C E := by
  by_cases h : p
  · rw [decide_eq_true h]; exact h1 h
  · rw [decide_eq_false h]; exact h2 h
theorem midS (P : Ro → Sto → Prop) (h : BrS b a bd ρ M P R B C E) (hn : ∀ ρ M, P ρ M → N ρ M) : BrS b a bd ρ M N R B C E := by
  cases b
  · exact wS_mono h hn (fun _ _ z => z) (fun _ _ z => z) (fun _ _ z => z) (fun _ _ z => z)
  · exact wS_mono h hn (fun _ _ z => z) (fun _ _ z => z) (fun _ _ z => z) (fun _ _ z => z)
noncomputable def kSi (a b : Sv) (ρ : Ro) (N : Ro → Sto → Prop) (R : D → Sto → Prop) (B C : Ro → Sto → Prop) (E : Str → Sto → Prop) (k : Bool) (M : Sto) : Prop := BrS k a b ρ M N R B C E
theorem y_sif  : wS (sIf t a bd ρ M) N R B C E = wO (t ρ M) (kSi a bd ρ N R B C E) E := by unfold sIf; rw [wS_bind]; congr 1; funext k M1; cases k <;> rfl
noncomputable def kAs (i : Nat) (ρ : Ro) (N : Ro → Sto → Prop) (d : D) (M : Sto) : Prop := N (ρ.set i (some d)) M
theorem y_asg  : wS (sAsg (gNm k) f ρ M) N R B C E = wO (f ρ M) (kAs k ρ N) E := wS_asg
noncomputable def kAt (gs : Tgs) (ρ : Ro) (N : Ro → Sto → Prop) (d : D) (M : Sto) : Prop := wG (gTp gs d ρ) (kQ N id M)
theorem y_asgT {gs : Tgs} : wS (sAsg (gTp gs) f ρ M) N R B C E = wO (f ρ M) (kAt gs ρ N) E := wS_asgT
noncomputable def kPa2 (i j : Nat) (ρ : Ro) (N : Ro → Sto → Prop) (M : Sto) (v w : D) : Prop := N ((ρ.set i (some v)).set j (some w)) M
noncomputable def kPa (i j : Nat) (ρ : Ro) (N : Ro → Sto → Prop) (ds : List D) (M : Sto) : Prop := w2 ds (kPa2 i j ρ N M)
theorem y_par  : wS (sPar k m fs ρ M) N R B C E = wO (fs ρ M) (kPa k m ρ N) E := wS_par
noncomputable def kPu6 (n : Nat) (d : D) (xs : List D) (ρ : Ro) (N : Ro → Sto → Prop) (M : Sto) (j : Nat) : Prop := N ρ (M.set n (.lst (xs.set j d)))
noncomputable def kPu5 (n : Nat) (k : Int) (d : D) (ρ : Ro) (N : Ro → Sto → Prop) (M : Sto) (xs : List D) : Prop := wG (ixN xs.length k) (kPu6 n d xs ρ N M)
noncomputable def kPu4 (n : Nat) (d : D) (ρ : Ro) (N : Ro → Sto → Prop) (M : Sto) (k : Int) : Prop := wL M[n]? (kPu5 n k d ρ N M)
noncomputable def kPu3 (i : D) (d : D) (ρ : Ro) (N : Ro → Sto → Prop) (M : Sto) (n : Nat) : Prop := wI i (kPu4 n d ρ N M)
noncomputable def kPu2 (o : D) (d : D) (ρ : Ro) (N : Ro → Sto → Prop) (i : D) (M : Sto) : Prop := wR o (kPu3 i d ρ N M)
noncomputable def kPu1 (fi : Ev) (d : D) (ρ : Ro) (N : Ro → Sto → Prop) (E : Str → Sto → Prop) (o : D) (M : Sto) : Prop := wO (fi ρ M) (kPu2 o d ρ N) E
noncomputable def kPu (fo fi : Ev) (ρ : Ro) (N : Ro → Sto → Prop) (E : Str → Sto → Prop) (d : D) (M : Sto) : Prop := wO (fo ρ M) (kPu1 fi d ρ N E) E
theorem y_put {fo fi : Ev} : wS (sPut fo fi f ρ M) N R B C E = wO (f ρ M) (kPu fo fi ρ N E) E := wS_put
noncomputable def kRa (c : Str) (E : Str → Sto → Prop) (ds : List D) (M : Sto) : Prop := ds.length ≤ 1000 ∧ E c M
theorem y_raise {c : Str} : wS (sRaise c fs ρ M) N R B C E = wO (fs ρ M) (kRa c E) E := wS_raise
noncomputable def kR1c (tg : Tg) (bd : Sv) (ρ : Ro) (N : Ro → Sto → Prop) (R : D → Sto → Prop) (B C : Ro → Sto → Prop) (E : Str → Sto → Prop) (M : Sto) (j : Int) : Prop := (-(2 ^ 62) ≤ j ∧ j < 2 ^ 62) ∧ wS (forD tg bd (rngD 0 j.toNat) ρ M) N R B C E
noncomputable def kR1b (tg : Tg) (bd : Sv) (ρ : Ro) (N : Ro → Sto → Prop) (R : D → Sto → Prop) (B C : Ro → Sto → Prop) (E : Str → Sto → Prop) (M : Sto) (d : D) : Prop := wI d (kR1c tg bd ρ N R B C E M)
noncomputable def kR1 (tg : Tg) (bd : Sv) (ρ : Ro) (N : Ro → Sto → Prop) (R : D → Sto → Prop) (B C : Ro → Sto → Prop) (E : Str → Sto → Prop) (ds : List D) (M : Sto) : Prop := w1 ds (kR1b tg bd ρ N R B C E M)
theorem y_for1  : wS (sForR1 tg fs bd ρ M) N R B C E = wO (fs ρ M) (kR1 tg bd ρ N R B C E) E := wS_for1
noncomputable def kR2d (tg : Tg) (bd : Sv) (ρ : Ro) (N : Ro → Sto → Prop) (R : D → Sto → Prop) (B C : Ro → Sto → Prop) (E : Str → Sto → Prop) (M : Sto) (i : Int) (j : Int) : Prop := (-(2 ^ 62) ≤ i ∧ i < 2 ^ 62 ∧ -(2 ^ 62) ≤ j ∧ j < 2 ^ 62) ∧ wS (forD tg bd (rngD i (j - i).toNat) ρ M) N R B C E
noncomputable def kR2c (tg : Tg) (bd : Sv) (ρ : Ro) (N : Ro → Sto → Prop) (R : D → Sto → Prop) (B C : Ro → Sto → Prop) (E : Str → Sto → Prop) (M : Sto) (y : D) (i : Int) : Prop := wI y (kR2d tg bd ρ N R B C E M i)
noncomputable def kR2b (tg : Tg) (bd : Sv) (ρ : Ro) (N : Ro → Sto → Prop) (R : D → Sto → Prop) (B C : Ro → Sto → Prop) (E : Str → Sto → Prop) (M : Sto) (x y : D) : Prop := wI x (kR2c tg bd ρ N R B C E M y)
noncomputable def kR2 (tg : Tg) (bd : Sv) (ρ : Ro) (N : Ro → Sto → Prop) (R : D → Sto → Prop) (B C : Ro → Sto → Prop) (E : Str → Sto → Prop) (ds : List D) (M : Sto) : Prop := w2 ds (kR2b tg bd ρ N R B C E M)
theorem y_for2  : wS (sForR2 tg fs bd ρ M) N R B C E = wO (fs ρ M) (kR2 tg bd ρ N R B C E) E := wS_for2
noncomputable def kFo (tg : Tg) (bd : Sv) (ρ : Ro) (N : Ro → Sto → Prop) (R : D → Sto → Prop) (B C : Ro → Sto → Prop) (E : Str → Sto → Prop) (d : D) (M : Sto) : Prop := wS (forI tg bd d ρ M) N R B C E
theorem y_for  : wS (sFor tg f bd ρ M) N R B C E = wO (f ρ M) (kFo tg bd ρ N R B C E) E := wS_for
theorem y_forT  : wS (forI tg bd (.tup xs) ρ M) N R B C E = wS (forD tg bd xs ρ M) N R B C E := rfl
theorem y_forO  : wS (forI tg bd (.rol xs) ρ M) N R B C E = wS (forD tg bd xs ρ M) N R B C E := rfl
noncomputable def kFs (tg : Tg) (bd : Sv) (ρ : Ro) (N : Ro → Sto → Prop) (R : D → Sto → Prop) (B C : Ro → Sto → Prop) (E : Str → Sto → Prop) (src : Src) (M : Sto) : Prop := wS (forS tg bd src (cnt src M) 0 ρ M) N R B C E
theorem y_forS {fi : Ro → Sto → Out Src} : wS (sForS tg fi bd ρ M) N R B C E = wO (fi ρ M) (kFs tg bd ρ N R B C E) E := wS_forS
noncomputable def hT (cs : List Str) (gh : Sv) (i : Nat) (ρ : Ro) (c : Str) (M : Sto) : Fl := if cs.contains c = true then (match gh ((List.replicate ρ.length none).set i (some (.err c []))) M with | .ret d M2 => .ret d M2 | .nx _ M2 => .nx (List.replicate ρ.length none) M2 | _ => .bad) else .bad
noncomputable def kTr (cs : List Str) (gh : Sv) (i : Nat) (ρ : Ro) (N : Ro → Sto → Prop) (R : D → Sto → Prop) (B C : Ro → Sto → Prop) (E : Str → Sto → Prop) (c : Str) (M : Sto) : Prop := cs.contains c = true ∧ wS (gh ((List.replicate ρ.length none).set i (some (.err c []))) M) (fun _ M2 => N (List.replicate ρ.length none) M2) R (fun _ _ => False) (fun _ _ => False) (fun _ _ => False)
theorem y_try {cs : List Str} {gh : Sv} : wS (sTry a cs k gh ρ M) N R B C E = wS (a ρ M) N R B C (kTr cs gh k ρ N R B C E) := by
  unfold sTry
  cases e : a ρ M <;> try rfl
  rename_i c M1
  show wS (if cs.contains c = true then _ else _) N R B C E = kTr cs gh k ρ N R B C E c M1
  unfold kTr
  by_cases h : cs.contains c = true
  · rw [if_pos h]
    simp only [h, true_and]
    cases gh ((List.replicate ρ.length none).set k (some (.err c []))) M1 <;> rfl
  · rw [if_neg h]
    simp only [h, Bool.false_eq_true, false_and]
    rfl
noncomputable def kCo2 (Q : D → Sto → Prop) (M1 : Sto) (u : Unit) (M : Sto) : Prop := Q (.ref M1.length) M
noncomputable def kCo (tg : Tg) (c : Tv) (f : Ev) (k : Nat) (fr : List Nat) (ρ : Ro) (Q : D → Sto → Prop) (src : Src) (M : Sto) : Prop := wO (cmpL src tg c f M.length (cnt src M) 0 (roB k fr ρ) (M ++ [.lst []])) (kCo2 Q M) (fun _ _ => False)
theorem y_comp {fi : Ro → Sto → Out Src} {fr : List Nat} : wO (eComp fi k fr tg t f ρ M) Q E = wO (fi ρ M) (kCo tg t f k fr ρ Q) E := wO_comp
noncomputable def kS1c (QS : Src → Sto → Prop) (M : Sto) (j : Int) : Prop := (-(2 ^ 62) ≤ j ∧ j < 2 ^ 62) ∧ QS (.pur (rngD 0 j.toNat)) M
noncomputable def kS1b (QS : Src → Sto → Prop) (M : Sto) (d : D) : Prop := wI d (kS1c QS M)
noncomputable def kS1 (QS : Src → Sto → Prop) (ds : List D) (M : Sto) : Prop := w1 ds (kS1b QS M)
theorem y_R1  : wO (iR1 fs ρ M) QS E = wO (fs ρ M) (kS1 QS) E := v_R1
noncomputable def kS2d (QS : Src → Sto → Prop) (M : Sto) (i : Int) (j : Int) : Prop := (-(2 ^ 62) ≤ i ∧ i < 2 ^ 62 ∧ -(2 ^ 62) ≤ j ∧ j < 2 ^ 62) ∧ QS (.pur (rngD i (j - i).toNat)) M
noncomputable def kS2c (QS : Src → Sto → Prop) (M : Sto) (y : D) (i : Int) : Prop := wI y (kS2d QS M i)
noncomputable def kS2b (QS : Src → Sto → Prop) (M : Sto) (x y : D) : Prop := wI x (kS2c QS M y)
noncomputable def kS2 (QS : Src → Sto → Prop) (ds : List D) (M : Sto) : Prop := w2 ds (kS2b QS M)
theorem y_R2  : wO (iR2 fs ρ M) QS E = wO (fs ρ M) (kS2 QS) E := v_R2
noncomputable def oSq (d : D) (M : Sto) : Out Src := match d with | .tup ds => .ok (.pur ds) M | .rol ds => .ok (.pur ds) M | .ref n => .ok (.sto n) M | _ => .bad
theorem y_Sq  : wO (iSq f ρ M) QS E = wO (f ρ M) (kU oSq QS E) E := by unfold iSq; exact wO_bind
theorem y_SqT  : wO (oSq (.tup xs) M) QS E = QS (.pur xs) M := rfl
theorem y_SqO  : wO (oSq (.rol xs) M) QS E = QS (.pur xs) M := rfl
theorem y_SqR  : wO (oSq (.ref n) M) QS E = QS (.sto n) M := rfl
noncomputable def kEnb (QS : Src → Sto → Prop) (M : Sto) (d : D) : Prop := wR d (kQ QS .enu M)
noncomputable def kEn (QS : Src → Sto → Prop) (ds : List D) (M : Sto) : Prop := w1 ds (kEnb QS M)
theorem y_En  : wO (iEn fs ρ M) QS E = wO (fs ρ M) (kEn QS) E := v_En
noncomputable def kZpc (QS : Src → Sto → Prop) (M : Sto) (y : D) (n : Nat) : Prop := wR y (kQ QS (.zip n) M)
noncomputable def kZpb (QS : Src → Sto → Prop) (M : Sto) (x y : D) : Prop := wR x (kZpc QS M y)
noncomputable def kZp (QS : Src → Sto → Prop) (ds : List D) (M : Sto) : Prop := w2 ds (kZpb QS M)
theorem y_Zp  : wO (iZp fs ρ M) QS E = wO (fs ρ M) (kZp QS) E := v_Zp
noncomputable def kRvd (QS : Src → Sto → Prop) (n : Nat) (M : Sto) (xs : List D) : Prop := QS (.rev n xs.length) M
noncomputable def kRvc (QS : Src → Sto → Prop) (M : Sto) (n : Nat) : Prop := wL M[n]? (kRvd QS n M)
noncomputable def kRvb (QS : Src → Sto → Prop) (M : Sto) (d : D) : Prop := wR d (kRvc QS M)
noncomputable def kRv (QS : Src → Sto → Prop) (ds : List D) (M : Sto) : Prop := w1 ds (kRvb QS M)
theorem y_Rv  : wO (iRv fs ρ M) QS E = wO (fs ρ M) (kRv QS) E := v_Rv
noncomputable def kCat2 (xs : List D) (M : Sto) (Q : D → Sto → Prop) (ys : List D) : Prop := xs.length + ys.length ≤ 10000000 ∧ Q (.ref M.length) (M ++ [.lst (xs ++ ys)])
noncomputable def kCat (m : Nat) (M : Sto) (Q : D → Sto → Prop) (xs : List D) : Prop := wL M[m]? (kCat2 xs M Q)
theorem y_cat  : wO (dAdd (.ref n) (.ref m) M) Q E = wL M[n]? (kCat m M Q) := v_cat
noncomputable def kRep (i : Int) (M : Sto) (Q : D → Sto → Prop) (xs : List D) : Prop := ((-9223372036854775808 ≤ i ∧ i < 9223372036854775808) ∧ xs.length * i.toNat ≤ 100000) ∧ Q (.ref M.length) (M ++ [.lst (List.replicate i.toNat xs).flatten])
theorem y_rep : wO (dRep (.ref n) (.int i) M) Q E = wL M[n]? (kRep i M Q) := by
  show wO (match M[n]? with | some (.lst xs) => if (-9223372036854775808 ≤ i ∧ i < 9223372036854775808) ∧ xs.length * i.toNat ≤ 100000 then Out.ok (.ref M.length) (M ++ [.lst (List.replicate i.toNat xs).flatten]) else .bad | none => .bad) Q E = _
  cases e1 : M[n]? with
  | none => rfl
  | some o =>
    cases o with
    | lst xs =>
      show wO (if (-9223372036854775808 ≤ i ∧ i < 9223372036854775808) ∧ xs.length * i.toNat ≤ 100000 then Out.ok (.ref M.length) (M ++ [.lst (List.replicate i.toNat xs).flatten]) else .bad) Q E = kRep i M Q xs
      unfold kRep
      by_cases h : (-9223372036854775808 ≤ i ∧ i < 9223372036854775808) ∧ xs.length * i.toNat ≤ 100000
      · rw [if_pos h]; simp only [eq_true h, true_and]; rfl
      · rw [if_neg h]; simp only [eq_false h, false_and]; rfl
noncomputable def kEq (Q : D → Sto → Prop) (M : Sto) (b : Bool) : Prop := Q (.bl b) M
noncomputable def kNe (Q : D → Sto → Prop) (M : Sto) (b : Bool) : Prop := Q (.bl (!b)) M
theorem y_eq  : wO (dEq x y M) Q E = wG (eqF 12 M x y) (kEq Q M) := v_eq
theorem y_ne  : wO (dNe x y M) Q E = wG (eqF 12 M x y) (kNe Q M) := v_ne
theorem y_is  : wO (dIs x y M) Q E = wG (isP x y) (kEq Q M) := v_is
theorem y_isN  : wO (dIsNot x y M) Q E = wG (isP x y) (kNe Q M) := v_isN
theorem y_inE  : wO (dInE x y M) Q E = wG (inE x y M) (kEq Q M) := by unfold dInE; cases inE x y M <;> rfl
theorem y_notInE  : wO (dNotInE x y M) Q E = wG (inE x y M) (kNe Q M) := by unfold dNotInE; cases inE x y M <;> rfl
theorem y_ixT  : wO (dIx (.tup xs) (.int i) M) Q E = wG (atI xs i) (kQ Q id M) := v_ixT
theorem y_ixO  : wO (dIx (.rol xs) (.int i) M) Q E = wG (atI xs i) (kQ Q id M) := v_ixO
noncomputable def kIx (i : Int) (Q : D → Sto → Prop) (M : Sto) (xs : List D) : Prop := wG (atI xs i) (kQ Q id M)
theorem y_ixR  : wO (dIx (.ref n) (.int i) M) Q E = wL M[n]? (kIx i Q M) := v_ixR
noncomputable def kLen (Q : D → Sto → Prop) (M : Sto) (xs : List D) : Prop := Q (.int xs.length) M
theorem y_lenR  : wO (bLen [.ref n] M) Q E = wL M[n]? (kLen Q M) := v_lenR
noncomputable def kLi (Q : D → Sto → Prop) (M : Sto) (xs : List D) : Prop := Q (.ref M.length) (M ++ [.lst xs])
theorem y_listR  : wO (bList [.ref n] M) Q E = wL M[n]? (kLi Q M) := v_listR
noncomputable def kAl2 (Q : D → Sto → Prop) (M : Sto) (bs : List Bool) : Prop := Q (.bl (bs.all id)) M
noncomputable def kAl (Q : D → Sto → Prop) (M : Sto) (xs : List D) : Prop := wG (boolsD xs) (kAl2 Q M)
theorem y_all  : wO (bAll [.ref n] M) Q E = wL M[n]? (kAl Q M) := v_all
noncomputable def kIn2 (g : List Int → Option Int) (Q : D → Sto → Prop) (M : Sto) (ns : List Int) : Prop := wG (g ns) (kQ Q .int M)
noncomputable def kIn1 (g : List Int → Option Int) (Q : D → Sto → Prop) (M : Sto) (xs : List D) : Prop := wG (intsD xs) (kIn2 g Q M)
theorem y_ints {gi : List Int → Option Int} : wO (bInts gi [.ref n] M) Q E = wL M[n]? (kIn1 gi Q M) := v_ints
noncomputable def kMt (g : Me) (fs : Av) (ρ : Ro) (Q : D → Sto → Prop) (E : Str → Sto → Prop) (x : D) (M : Sto) : Prop := lstK x M = true ∧ wO (fs ρ M) (kU (g x) Q E) E
theorem y_mt {me : Me} {fo : Ev} : wO (eMtL me fo fs ρ M) Q E = wO (fo ρ M) (kMt me fs ρ Q E) E := v_mt
noncomputable def kApp (n : Nat) (d : D) (Q : D → Sto → Prop) (M : Sto) (xs : List D) : Prop := xs.length < 10000000 ∧ Q .non (M.set n (.lst (xs ++ [d])))
theorem y_app  : wO (mApp (.ref n) [d] M) Q E = wL M[n]? (kApp n d Q M) := v_app
noncomputable def kClr (n : Nat) (Q : D → Sto → Prop) (M : Sto) (xs : List D) : Prop := Q .non (M.set n (.lst []))
theorem y_clr  : wO (mClr (.ref n) [] M) Q E = wL M[n]? (kClr n Q M) := v_clr
noncomputable def kExt2 (n : Nat) (xs : List D) (Q : D → Sto → Prop) (M : Sto) (ys : List D) : Prop := xs.length + ys.length ≤ 10000000 ∧ Q .non (M.set n (.lst (xs ++ ys)))
noncomputable def kExt (n m : Nat) (Q : D → Sto → Prop) (M : Sto) (xs : List D) : Prop := wL M[m]? (kExt2 n xs Q M)
theorem y_ext  : wO (mExt (.ref n) [.ref m] M) Q E = wL M[n]? (kExt n m Q M) := v_ext
noncomputable def kIdx2 (Q : D → Sto → Prop) (M : Sto) (bs : List Bool) : Prop := wG (bs.findIdx? id) (kQ Q (fun (j : Nat) => .int j) M)
noncomputable def kIdx (d : D) (Q : D → Sto → Prop) (M : Sto) (xs : List D) : Prop := wG (eqs M d xs) (kIdx2 Q M)
theorem y_idx : wO (mIdx (.ref n) [d] M) Q E = wL M[n]? (kIdx d Q M) := by
  show wO (match M[n]? with | some (.lst xs) => (match eqs M d xs with | some bs => (match bs.findIdx? id with | some j => Out.ok (.int (j : Nat)) M | none => .bad) | none => .bad) | none => .bad) Q E = _
  cases e1 : M[n]? with
  | none => rfl
  | some o =>
    cases o with
    | lst xs =>
      show wO (match eqs M d xs with | some bs => (match bs.findIdx? id with | some j => Out.ok (.int (j : Nat)) M | none => .bad) | none => .bad) Q E = wG (eqs M d xs) (kIdx2 Q M)
      cases eqs M d xs with
      | none => rfl
      | some bs =>
        show wO (match bs.findIdx? id with | some j => Out.ok (.int (j : Nat)) M | none => .bad) Q E = wG (bs.findIdx? id) _
        cases bs.findIdx? id <;> rfl
noncomputable def kCn (Q : D → Sto → Prop) (M : Sto) (bs : List Bool) : Prop := Q (.int (bs.countP id : Nat)) M
noncomputable def kCnt (d : D) (Q : D → Sto → Prop) (M : Sto) (xs : List D) : Prop := wG (eqs M d xs) (kCn Q M)
theorem y_mcnt : wO (mCnt (.ref n) [d] M) Q E = wL M[n]? (kCnt d Q M) := by
  show wO (match M[n]? with | some (.lst xs) => (match eqs M d xs with | some bs => Out.ok (.int (bs.countP id : Nat)) M | none => .bad) | none => .bad) Q E = _
  cases e1 : M[n]? with
  | none => rfl
  | some o =>
    cases o with
    | lst xs =>
      show wO (match eqs M d xs with | some bs => Out.ok (.int (bs.countP id : Nat)) M | none => .bad) Q E = wG (eqs M d xs) (kCn Q M)
      cases eqs M d xs <;> rfl
noncomputable def kSl4 (l u : Option Int) (Q : D → Sto → Prop) (M : Sto) (xs : List D) : Prop := Q (.ref M.length) (M ++ [.lst (cutD xs l u)])
noncomputable def kSl3 (x : D) (l : Option Int) (Q : D → Sto → Prop) (E : Str → Sto → Prop) (u : Option Int) (M : Sto) : Prop := wO (slR x l u M) Q E
noncomputable def kSl2 (x : D) (hi : Ro → Sto → Out (Option Int)) (ρ : Ro) (Q : D → Sto → Prop) (E : Str → Sto → Prop) (l : Option Int) (M : Sto) : Prop := wO (hi ρ M) (kSl3 x l Q E) E
noncomputable def kSl1 (lo hi : Ro → Sto → Out (Option Int)) (ρ : Ro) (Q : D → Sto → Prop) (E : Str → Sto → Prop) (x : D) (M : Sto) : Prop := wO (lo ρ M) (kSl2 x hi ρ Q E) E
theorem y_sl {lo hi : Ro → Sto → Out (Option Int)} : wO (eSl f lo hi ρ M) Q E = wO (f ρ M) (kSl1 lo hi ρ Q E) E := v_slE
theorem y_slR {l u' : Option Int} : wO (slR (.ref n) l u' M) Q E = wL M[n]? (kSl4 l u' Q M) := v_slR
theorem y_oNo {QI : Option Int → Sto → Prop} : wO (oNo ρ M) QI E = QI none M := rfl
noncomputable def kOSo (Q : Option Int → Sto → Prop) (x : D) (M : Sto) : Prop := wI x (kQ Q some M)
theorem y_oSo {QI : Option Int → Sto → Prop} : wO (oSo f ρ M) QI E = wO (f ρ M) (kOSo QI) E := v_oSo
noncomputable def oRv (x : D) (M1 : Sto) : Out D := match x with | .tup xs => .ok (.tup xs.reverse) M1 | .ref n => (match M1[n]? with | some (.lst xs) => .ok (.ref M1.length) (M1 ++ [.lst xs.reverse]) | none => .bad) | .rol xs => .ok (.ref M1.length) (M1 ++ [.lst xs.reverse]) | _ => .bad
theorem y_rv  : wO (eRv f ρ M) Q E = wO (f ρ M) (kU oRv Q E) E := by unfold eRv; exact wO_bind
noncomputable def kRev (Q : D → Sto → Prop) (M : Sto) (xs : List D) : Prop := Q (.ref M.length) (M ++ [.lst xs.reverse])
theorem y_rvR  : wO (oRv (.ref n) M) Q E = wL M[n]? (kRev Q M) := by show wO (match M[n]? with | some (.lst xs) => Out.ok (.ref M.length) (M ++ [.lst xs.reverse]) | none => .bad) Q E = _; cases M[n]? with | none => rfl | some o => cases o with | lst xs => rfl
theorem y_rvT  : wO (oRv (.tup xs) M) Q E = Q (.tup xs.reverse) M := rfl
noncomputable def oIsE (tab : List (Str × Bool)) (x : D) (M : Sto) : Out D := match x with | .err c _ => (match tab.lookup c with | some b => .ok (.bl b) M | none => .bad) | _ => .bad
theorem y_isE {tab : List (Str × Bool)} : wO (eIsE tab f ρ M) Q E = wO (f ρ M) (kU (oIsE tab) Q E) E := by unfold eIsE; exact wO_bind
theorem y_isEc {tab : List (Str × Bool)} {c : Str} : wO (oIsE tab (.err c xs) M) Q E = wG (tab.lookup c) (kEq Q M) := by show wO (match tab.lookup c with | some b => Out.ok (.bl b) M | none => .bad) Q E = _; cases tab.lookup c <;> rfl
noncomputable def kWh (bd : Sv) (ρ : Ro) (I : Ro → Sto → Prop) (N : Ro → Sto → Prop) (R : D → Sto → Prop) (B C : Ro → Sto → Prop) (E : Str → Sto → Prop) (k : Bool) (M : Sto) : Prop := Br k (wS (bd ρ M) I R N I E) (N ρ M)
theorem wS_wh {c : Tv} (I : Nat → Ro → Sto → Prop) (st : ∀ n ρ M, I n ρ M → wO (c ρ M) (kWh bd ρ (fun ρ2 M2 => ∃ m, m < n ∧ I m ρ2 M2) N R B C E) E) (n : Nat) (ρ : Ro) (M : Sto) (h : I n ρ M) : wS (sWh c bd ρ M) N R B C E := wS_while I st n ρ M h
theorem kWh_n {I : Ro → Sto → Prop} {p : Prop} [Decidable p] (h1 : ¬ p → wS (bd ρ M) I R N I E) (h2 : p → N ρ M) : kWh bd ρ I N R B C E (!decide p) M := brN h1 h2
theorem kWh_d {I : Ro → Sto → Prop} {p : Prop} [Decidable p] (h1 : p → wS (bd ρ M) I R N I E) (h2 : ¬ p → N ρ M) : kWh bd ρ I N R B C E (decide p) M := brD h1 h2
theorem kCoP {src : Src} {fr : List Nat} (Inv : Ro → Prop) (F : Nat → D) (hl : xs.length < 10000000) (hcnt : xs.length ≤ cnt src M) (h0 : Inv (roB k fr ρ)) (hs : ∀ (L : Sto) (i : Nat), i ≤ xs.length → nxt src i (M ++ L) = some xs[i]?)
    (st : ∀ (i : Nat) (h : i < xs.length) (ρ : Ro) (L : Sto), Inv ρ → wG (tg xs[i] ρ) fun r => Inv r ∧ wO (f r (M ++ L)) (fun y M2 => y = F i ∧ M2 = M ++ L) (fun _ _ => False)) (hq : Q (.ref M.length) (M ++ [.lst ((List.range xs.length).map F)])) :
    kCo tg (fun _ M => .ok true M) f k fr ρ Q src M := wO_cmpP (Q := fun M2 => Q (.ref M.length) M2) Inv F hl hcnt h0 hs st hq
theorem kCoS {fr : List Nat} (Inv : Ro → Prop) (F : Nat → D) (hM : M[n]? = some (.lst xs)) (hl : xs.length < 10000000) (h0 : Inv (roB k fr ρ))
    (st : ∀ (i : Nat) (h : i < xs.length) (ρ : Ro) (L : Sto), Inv ρ → wG (tg xs[i] ρ) fun r => Inv r ∧ wO (f r (M ++ L)) (fun y M2 => y = F i ∧ M2 = M ++ L) (fun _ _ => False)) (hq : Q (.ref M.length) (M ++ [.lst ((List.range xs.length).map F)])) :
    kCo tg (fun _ M => .ok true M) f k fr ρ Q (.sto n) M :=
  kCoP (xs := xs) Inv F hl (by rw [cnt_sto hM]; exact Nat.le_refl _) h0 (fun L i hi => by rw [nx_sto]; rw [List.getElem?_append_left (lt_get hM)]; exact hM) st hq
end
end DL


end

set_option Elab.async false
set_option linter.all false
set_option maxRecDepth 100000
set_option maxHeartbeats 4000000
namespace DL
open PySem PySem.Spec L2
section
variable {E : Str → Sto → Prop} {N B C : Ro → Sto → Prop} {R : D → Sto → Prop} {ρ : Ro} {M : Sto} {fs : Av} {a b c d : Nat} {QS : Src → Sto → Prop} {tg : Tg} {bd : Sv} {xs ys zs ws : List D}
noncomputable def kZs3 (QS : Src → Sto → Prop) (ds : List D) (M : Sto) : Prop := match ds with | [.ref a, .ref b, .ref c] => QS (.zips [a, b, c]) M | _ => False
noncomputable def kZs4 (QS : Src → Sto → Prop) (ds : List D) (M : Sto) : Prop := match ds with | [.ref a, .ref b, .ref c, .ref d] => QS (.zips [a, b, c, d]) M | _ => False
theorem kZs4_r : kZs4 QS [.ref a, .ref b, .ref c, .ref d] M = QS (.zips [a, b, c, d]) M := rfl
theorem wO_weak {β : Type} {o : Out β} {Q Q' : β → Sto → Prop} (h : ∀ x M, Q x M → Q' x M) (k : wO o Q E) : wO o Q' E := wO_mono k h (fun _ _ z => z)
theorem y_Zs4 (h : wO (fs ρ M) (kZs4 QS) E) : wO (DL4.iZs fs ρ M) QS E := by
  unfold DL4.iZs
  rw [wO_bind]
  refine wO_weak (fun ds M' k => ?_) h
  unfold kZs4 at k
  split at k
  · exact k
  · exact k.elim
noncomputable def z3 (xs ys zs : List D) (L : Nat) : List D := (List.range L).map fun i => D.tup [xs.getD i .non, ys.getD i .non, zs.getD i .non]
noncomputable def z4 (xs ys zs ws : List D) (L : Nat) : List D := (List.range L).map fun i => D.tup [xs.getD i .non, ys.getD i .non, zs.getD i .non, ws.getD i .non]
theorem gD {xs : List D} {i : Nat} (h : i < xs.length) : xs[i]? = some (xs.getD i .non) := by simp [List.getElem?_eq_getElem h]
theorem nx_z4 {L i : Nat} (ha : M[a]? = some (.lst xs)) (hb : M[b]? = some (.lst ys)) (hc : M[c]? = some (.lst zs)) (hd : M[d]? = some (.lst ws)) (l1 : L ≤ xs.length) (l2 : L ≤ ys.length) (l3 : L ≤ zs.length) (l4 : ws.length = L) (hi : i ≤ L) : nxt (.zips [a, b, c, d]) i M = some (z4 xs ys zs ws L)[i]? := by
  by_cases hh : i < L
  · have : (z4 xs ys zs ws L)[i]? = some (D.tup [xs.getD i .non, ys.getD i .non, zs.getD i .non, ws.getD i .non]) := by simp [z4, hh]
    rw [this]
    simp only [nxt, itemsAt, ha, hb, hc, hd, gD (show i < xs.length by omega), gD (show i < ys.length by omega), gD (show i < zs.length by omega), gD (show i < ws.length by omega)]
  · have : (z4 xs ys zs ws L)[i]? = none := by simp [z4]; omega
    rw [this, nx_zips_none (M := M) (i := i) (ns := [a, b, c, d]) (n := d) (xs := ws) ⟨⟨_, ha⟩, ⟨_, hb⟩, ⟨_, hc⟩, ⟨_, hd⟩, trivial⟩ (by simp) hd (List.getElem?_eq_none (by omega))]
theorem wS_zip4 (I : Nat → Ro → Sto → Prop) {L : Nat} (l1 : L ≤ xs.length) (l2 : L ≤ ys.length) (l3 : L ≤ zs.length) (l4 : ws.length = L) (h0 : I 0 ρ M) (hm : ∀ i ρ M, I i ρ M → M[a]? = some (.lst xs) ∧ M[b]? = some (.lst ys) ∧ M[c]? = some (.lst zs) ∧ M[d]? = some (.lst ws))
    (st : ∀ (i : Nat) ρ M (h : i < L), I i ρ M → wG (tg (.tup [xs.getD i .non, ys.getD i .non, zs.getD i .non, ws.getD i .non]) ρ) fun r => wS (bd r M) (I (i + 1)) R N (I (i + 1)) E) (hn : ∀ ρ M, I L ρ M → N ρ M) : wS (forS tg bd (.zips [a, b, c, d]) (cnt (.zips [a, b, c, d]) M) 0 ρ M) N R B C E := by
  have zl : (z4 xs ys zs ws L).length = L := by simp [z4]
  have ce : cnt (.zips [a, b, c, d]) M = xs.length := by show (match M[a]? with | some (.lst xs) => xs.length | none => 0) = _; rw [(hm _ _ _ h0).1]
  rw [ce]
  refine wS_src I (xs := z4 xs ys zs ws L) _ 0 ρ M (by simp) (by rw [zl]; omega) h0 (fun i ρ M hi hI => ?_) (fun i ρ M h hI => ?_) (fun ρ M hI => hn ρ M (by rw [zl] at hI; exact hI))
  · obtain ⟨e1, e2, e3, e4⟩ := hm _ _ _ hI
    exact nx_z4 e1 e2 e3 e4 l1 l2 l3 l4 (by rw [zl] at hi; exact hi)
  · have e : (z4 xs ys zs ws L)[i] = D.tup [xs.getD i .non, ys.getD i .non, zs.getD i .non, ws.getD i .non] := by simp [z4]
    rw [e]
    exact st i ρ M (by rw [zl] at h; exact h) hI
end
end DL


section
set_option Elab.async false
set_option linter.all false
set_option maxRecDepth 100000
set_option maxHeartbeats 4000000
namespace DL
noncomputable abbrev Pt := Int × Int
noncomputable def X (p q : Pt) : Int := p.1 * q.2 - p.2 * q.1
section
variable {rs : List Pt} {i j : Int} {k n : Nat} {p : Pt}
theorem getD_get {α : Type} {l : List α} {n : Nat} {d : α} (h : n < l.length) : l.getD n d = l[n] := by simp [List.getElem?_eq_getElem h]
theorem emod_lt {m : Nat} (h : m ≠ 0) : (i % m).toNat < m ∧ 0 ≤ i % m := by
  have := Int.emod_lt_of_pos i (show (0 : Int) < m by omega)
  have := Int.emod_nonneg i (show (m : Int) ≠ 0 by omega)
  omega
theorem cy_mem (h : rs ≠ []) : cy rs i ∈ rs := by
  have hl : rs.length ≠ 0 := by simpa using h
  unfold cy
  rw [getD_get (emod_lt hl).1]
  exact List.getElem_mem _
theorem cy_map {f : Pt → Pt} (h : rs ≠ []) : cy (rs.map f) i = f (cy rs i) := by
  have hl : rs.length ≠ 0 := by simpa using h
  unfold cy
  rw [List.length_map, getD_get (by rw [List.length_map]; exact (emod_lt hl).1), getD_get (emod_lt hl).1, List.getElem_map]
noncomputable def cc (f : Pt → Pt → Nat) : List Pt → Nat
  | a :: b :: r => f a b + cc f (b :: r)
  | _ => 0
noncomputable def cyc (f : Pt → Pt → Nat) (rs : List Pt) : Nat := cc f (rs ++ rs.take 1)
theorem cc_map {f : Pt → Pt → Nat} {g : Pt → Pt} : ∀ (L : List Pt), cc f (L.map g) = cc (fun a b => f (g a) (g b)) L
  | [] => rfl
  | [_] => rfl
  | a :: b :: L => by
    have := cc_map (f := f) (g := g) (b :: L)
    simp only [List.map_cons, cc] at this ⊢
    omega
theorem cyc_map {f : Pt → Pt → Nat} {g : Pt → Pt} (L : List Pt) : cyc f (L.map g) = cyc (fun a b => f (g a) (g b)) L := by
  unfold cyc
  rw [← List.map_take, ← List.map_append, cc_map]
noncomputable def in1 (w a b : Pt) : Nat := if 0 ≤ X a w ∧ 0 < X w b then 1 else 0
noncomputable def in2 (w a b : Pt) : Nat := if 0 < X a w ∧ 0 ≤ X w b then 1 else 0
noncomputable def Fan (rs : List Pt) : Prop := ∀ w : Pt, w ≠ (0, 0) → cyc (in1 w) rs = 1 ∧ cyc (in2 w) rs = 1
theorem X_sw {p q : Pt} : X p q = 0 - X q p := by unfold X; grind
theorem back_X {f : Pt → Pt} {s : Int} (hs : s = 1 ∨ s = -1) (hf : ∀ p q, X (f p) (f q) = s * X p q) (w : Pt) (hw : w ≠ (0, 0)) : ∃ w' : Pt, w' ≠ (0, 0) ∧ ∀ a, X (f a) w = s * X a w' := by
  have d := hf (1, 0) (0, 1)
  have d1 : X (f (1, 0)) (f (0, 1)) = s := by rw [d]; simp [X]
  have lin : ∀ a, (f a).1 = a.1 * (f (1, 0)).1 + a.2 * (f (0, 1)).1 ∧ (f a).2 = a.1 * (f (1, 0)).2 + a.2 * (f (0, 1)).2 := by
    intro a
    have h1 := hf a (1, 0)
    have h2 := hf a (0, 1)
    generalize f a = u at *
    generalize f (1, 0) = e1 at *
    generalize f (0, 1) = e2 at *
    unfold X at *
    rcases hs with rfl | rfl <;> constructor <;> grind
  refine ⟨(X w (f (0, 1)) * s, X (f (1, 0)) w * s), ?_, ?_⟩
  · intro z
    apply hw
    have z1 := congrArg Prod.fst z
    have z2 := congrArg Prod.snd z
    simp only at z1 z2
    generalize f (1, 0) = e1 at *
    generalize f (0, 1) = e2 at *
    unfold X at *
    apply Prod.ext
    · rcases hs with rfl | rfl <;> simp only [] <;> grind
    · rcases hs with rfl | rfl <;> simp only [] <;> grind
  · intro a
    obtain ⟨l1, l2⟩ := lin a
    unfold X
    rw [l1, l2]
    rcases hs with rfl | rfl <;> simp only [] <;> grind
theorem Fan.map (h : Fan rs) {f : Pt → Pt} (hf : ∀ p q, X (f p) (f q) = X p q) : Fan (rs.map f) := fun w hw => by
  obtain ⟨w', hw', e⟩ := back_X (s := 1) (.inl rfl) (fun p q => by rw [hf, Int.one_mul]) w hw
  have e2 : ∀ a, X w (f a) = X w' a := fun a => by rw [X_sw, e, X_sw (p := w')]; omega
  have c1 : ∀ a b, in1 w (f a) (f b) = in1 w' a b := fun a b => by unfold in1; rw [e, e2, Int.one_mul]
  have c2 : ∀ a b, in2 w (f a) (f b) = in2 w' a b := fun a b => by unfold in2; rw [e, e2, Int.one_mul]
  rw [cyc_map, cyc_map, show (fun a b => in1 w (f a) (f b)) = in1 w' from funext fun a => funext fun b => c1 a b, show (fun a b => in2 w (f a) (f b)) = in2 w' from funext fun a => funext fun b => c2 a b]
  exact h w' hw'
structure Smo (rs : List Pt) : Prop where
  len : 3 ≤ rs.length
  one : ∀ i : Int, X (cy rs i) (cy rs (i + 1)) = 1
  fan : Fan rs
noncomputable def Nr (b : Int) (rs : List Pt) : Prop := ∀ p ∈ rs, (-b ≤ p.1 ∧ p.1 ≤ b) ∧ -b ≤ p.2 ∧ p.2 ≤ b
theorem Smo.ne (h : Smo rs) : rs ≠ [] := by
  intro z
  have := h.len
  rw [z] at this
  simp at this
theorem Nr.cy {b : Int} (h : Nr b rs) (hn : rs ≠ []) (i : Int) : (-b ≤ (cy rs i).1 ∧ (cy rs i).1 ≤ b) ∧ -b ≤ (cy rs i).2 ∧ (cy rs i).2 ≤ b := h _ (cy_mem hn)
theorem Smo.map (h : Smo rs) {f : Pt → Pt} (hf : ∀ p q, X (f p) (f q) = X p q) : Smo (rs.map f) := by
  refine ⟨by have := h.len; simp; omega, fun i => ?_, h.fan.map hf⟩
  rw [cy_map h.ne, cy_map h.ne, hf]
  exact h.one i
end
end DL


end
section
set_option Elab.async false
set_option linter.all false
set_option maxRecDepth 100000
set_option maxHeartbeats 4000000
namespace CC
open PySem PySem.Spec L2 DL
end CC


end
set_option maxRecDepth 100000
open PySem PySem.Spec L2 DL
local macro_rules | `(tactic| simp! [$ls,*]) => `(tactic| simp (implicitDefEqProofs := false) (disch := omega) only [y_e2, y_c, y_v, y_call, y_nil, y_cons, y_tup, y_lst, y_neg, y_negI, y_isi, y_isiO, y_bt, y_bf, y_if, y_and, y_or, y_not, y_andB, y_orB, y_notB, y_tv, y_tvB, y_tC, y_tand, y_tor, y_tnot, y_seq, y_snil, y_brk, y_cnt, y_ret, y_retN, y_drop, y_st, y_sf, y_sif, y_asg, y_asgT, y_par, y_put, y_raise, y_for1, y_for2, y_for, y_forT, y_forO, y_forS, y_try, y_comp, y_R1, y_R2, y_Sq, y_SqT, y_SqO, y_SqR, y_En, y_Zp, y_Rv, y_cat, y_rep, y_eq, y_ne, y_is, y_isN, y_inE, y_notInE, y_ixT, y_ixO, y_ixR, y_lenR, y_listR, y_all, y_ints, y_mt, y_app, y_clr, y_ext, y_idx, y_mcnt, y_sl, y_slR, y_oNo, y_oSo, y_rv, y_rvR, y_rvT, y_isE, y_isEc, kU, kQ, kB2, kB1, kA2, kA1, kTu, kLs, kTy, kIf, kTA, kTO, kTN, kSq, kDr, kSi, kAs, kAt, kPa2, kPa, kPu6, kPu5, kPu4, kPu3, kPu2, kPu1, kPu, kRa, kR1c, kR1b, kR1, kR2d, kR2c, kR2b, kR2, kFo, kFs, kTr, kS1c, kS1b, kS1, kS2d, kS2c, kS2b, kS2, kEnb, kEn, kZpc, kZpb, kZp, kRvd, kRvc, kRvb, kRv, kCat2, kCat, kRep, kEq, kNe, kIx, kLen, kLi, kAl2, kAl, kIn2, kIn1, kMt, kApp, kClr, kExt2, kExt, kIdx2, kIdx, kCn, kCnt, kSl4, kSl3, kSl2, kSl1, kOSo, kRev, prs_take, prs_drop, prs_app, prs_cons, prs_snoc, nts_take, nts_drop, nts_app, nts_cons, nts_snoc, nts_set, prs_set, kNon, decide_eq_true, decide_eq_false, wF1, wF2, wF3, wF4, wO_ok, wO_exc, wV_s, wI_i, wB_b, wR_r, wL_l, wG_s, w1_s, w2_s, v_add, v_sub, v_mul, v_mulr, v_div, v_mod, v_pow, v_lt, v_le, v_gt, v_ge, v_tcat, v_lenT, v_lenO, v_abs, v_max, v_min, v_intB, v_intI, v_listT, v_lstK, cut_to, cut_from, isP_n, isP_i, isP_t, isP_r, id, roB, at0, at1, at2, at3, gTp, gCs, gNl, gNm, List.set_cons_zero, List.set_cons_succ, List.getElem?_cons_zero, List.getElem?_cons_succ, List.length_cons, List.length_nil, List.length_append, List.length_map, List.map_cons, List.map_nil, List.cons_append, List.nil_append, List.append_assoc, List.append_nil, List.replicate_succ, List.replicate_zero, Option.join_some, Option.isSome_some, s_at0, s_at, s_old, s_set0, s_set, s_setN, s_setS, prs_len, nts_len, q_int, q_bl, q_pr, ty_int, ty_bl, ty_tup, ty_non, isi_ii, isi_ib, isi_bi, isi_bb, isi_tt, isi_ll, isi_ti, isi_tl, isi_lt, isi_li, isi_nt, isi_nl, true_and, and_true, Bool.not_true, Bool.not_false, decide_true, decide_false, Nat.reduceAdd, Nat.reduceLeDiff, Nat.reduceLT, Nat.add_zero, Nat.zero_add, Int.reducePow, Int.reduceToNat, Int.reduceNeg, Int.reduceMod, Int.reduceDiv, Int.reduceAdd, Int.reduceSub, Int.reduceMul, Int.cast_ofNat_Int, Int.reduceEq, Int.reduceLT, Int.reduceLE, $ls,*])
section
set_option Elab.async false
set_option linter.all false
set_option maxRecDepth 100000
set_option maxHeartbeats 4000000
namespace CC
open PySem PySem.Spec L2 DL
section
variable {Q : D → Sto → Prop} {E : Str → Sto → Prop} {M : Sto} {a b c d i : Int} {n : Nat} {rs : List Pt}
theorem prs_get {rs : List Pt} {i : Nat} (h : i < (prs rs).length) : (prs rs)[i] = pr (cy rs i).1 (cy rs i).2 := by
  have h' : i < rs.length := by rw [prs_len] at h; exact h
  rw [cy_nat h']
  simp [prs]
theorem Nr.big {b : Int} {rs : List Pt} (h : Nr b rs) (hb : b ≤ 18446744073709551615) (hn : rs ≠ []) (i : Int) : (-(18446744073709551616) < (cy rs i).1 ∧ (cy rs i).1 < 18446744073709551616) ∧ (-(18446744073709551616) < (cy rs i).2 ∧ (cy rs i).2 < 18446744073709551616) := by
  have := Nr.cy h hn i
  omega
end
end CC


end
section
set_option Elab.async false
set_option linter.all false
set_option maxRecDepth 100000
set_option maxHeartbeats 4000000
namespace DL
noncomputable def T (rs : List Pt) (i : Int) : Int := 0 - X (cy rs (i - 1)) (cy rs (i + 1))
section
variable {rs : List Pt} {k : Nat} {p : Pt} {j : Int}
end
end DL
namespace CC
open PySem PySem.Spec L2 DL
section
variable {Q : D → Sto → Prop} {E : Str → Sto → Prop} {M : Sto} {a b c d i : Int} {n : Nat} {rs : List Pt}
end
end CC


end
section
set_option Elab.async false
set_option linter.all false
set_option maxRecDepth 100000
set_option maxHeartbeats 4000000
namespace DL
section
variable {rs : List Pt} {k : Nat} {p : Pt} {j : Int}
theorem X_swap (p q : Pt) : X p q = 0 - X q p := by unfold X; grind
end
end DL


end
section

end
section
set_option Elab.async false
set_option linter.all false
set_option maxRecDepth 100000
set_option maxHeartbeats 4000000
namespace CE
open PySem PySem.Spec L2 DL
end CE


end
section
set_option Elab.async false
set_option linter.all false
set_option maxRecDepth 100000
set_option maxHeartbeats 4000000
namespace CE
open PySem PySem.Spec L2 DL
section
variable {Q : D → Sto → Prop} {E : Str → Sto → Prop} {M : Sto} {a b c d i : Int} {n : Nat} {rs : List Pt}
end
end CE


end
section
set_option Elab.async false
set_option linter.all false
set_option maxRecDepth 100000
set_option maxHeartbeats 4000000
namespace CF
open PySem PySem.Spec L2 DL CC
end CF


end
section
set_option Elab.async false
set_option linter.all false
set_option maxRecDepth 100000
set_option maxHeartbeats 4000000
namespace CF
open PySem PySem.Spec L2 DL
section
variable {Q : D → Sto → Prop} {E : Str → Sto → Prop} {M : Sto} {a b c d i : Int} {n : Nat} {rs : List Pt}
end
end CF


end
section
set_option Elab.async false
set_option linter.all false
set_option maxRecDepth 100000
set_option maxHeartbeats 4000000
namespace DL
open PySem PySem.Spec L2 DL
section
variable {M : Sto}
end
end DL


end
section
set_option Elab.async false
set_option linter.all false
set_option maxRecDepth 100000
set_option maxHeartbeats 4000000
namespace CB
open PySem PySem.Spec L2 DL
noncomputable def g_crossed : Sv := (sRet (e2 dSub (e2 dMul (e2 dIx (eVar 0) (eC (.int 0))) (e2 dIx (eVar 1) (eC (.int 1)))) (e2 dMul (e2 dIx (eVar 0) (eC (.int 1))) (e2 dIx (eVar 1) (eC (.int 0))))))
noncomputable def F_crossed : List D → Sto → Out D := fnF g_crossed 2 0
noncomputable def g_partner_b1 : Sv := (sSeq (sAsg (gNm 5) (e2 dDiv (eVar 1) (eVar 2)))
  (sSeq (sPar 1 2 (aCons (eVar 2) (aCons (e2 dSub (eVar 1) (e2 dMul (eVar 5) (eVar 2))) aNil)))
  (sPar 3 4 (aCons (eVar 4) (aCons (eTup (aCons (e2 dSub (e2 dIx (eVar 3) (eC (.int 0))) (e2 dMul (eVar 5) (e2 dIx (eVar 4) (eC (.int 0))))) (aCons (e2 dSub (e2 dIx (eVar 3) (eC (.int 1))) (e2 dMul (eVar 5) (e2 dIx (eVar 4) (eC (.int 1))))) aNil))) aNil)))))
noncomputable def g_partner : Sv := (sSeq (sAsg (gTp (gCs (gNm 1) (gCs (gNm 2) gNl))) (eVar 0))
  (sSeq (sAsg (gTp (gCs (gNm 3) (gCs (gNm 4) gNl))) (eTup (aCons (eTup (aCons (eC (.int 0)) (aCons (eC (.int 1)) aNil))) (aCons (eTup (aCons (eNeg (eC (.int 1))) (aCons (eC (.int 0)) aNil))) aNil))))
  (sSeq (sWh (tv (e2 dNe (eVar 2) (eC (.int 0)))) g_partner_b1)
  (sRet (eTup (aCons (e2 dMul (eVar 1) (e2 dIx (eVar 3) (eC (.int 0)))) (aCons (e2 dMul (eVar 1) (e2 dIx (eVar 3) (eC (.int 1)))) aNil)))))))
noncomputable def F_partner : List D → Sto → Out D := fnF g_partner 1 5
noncomputable def g_first_behind : Sv := (sSeq (sAsg (gNm 2) (eCall F_partner (aCons (eVar 0) aNil)))
  (sSeq (sAsg (gNm 3) (e2 dDiv (eCall F_crossed (aCons (eVar 2) (aCons (eVar 1) aNil))) (eCall F_crossed (aCons (eVar 0) (aCons (eVar 1) aNil)))))
  (sRet (eTup (aCons (e2 dSub (e2 dIx (eVar 2) (eC (.int 0))) (e2 dMul (eVar 3) (e2 dIx (eVar 0) (eC (.int 0))))) (aCons (e2 dSub (e2 dIx (eVar 2) (eC (.int 1))) (e2 dMul (eVar 3) (e2 dIx (eVar 0) (eC (.int 1))))) aNil))))))
noncomputable def F_first_behind : List D → Sto → Out D := fnF g_first_behind 2 2
noncomputable def g_expanded_b1 : Sv := (sSeq (sAsg (gNm 3) (eNeg (e2 dDiv (eNeg (eVar 0)) (eVar 1))))
  (sSeq (sDrop (eMtL mApp (eVar 2) (aCons (eVar 3) aNil)))
  (sPar 0 1 (aCons (eVar 1) (aCons (e2 dSub (e2 dMul (eVar 3) (eVar 1)) (eVar 0)) aNil)))))
noncomputable def g_expanded : Sv := (sSeq (sAsg (gNm 2) (eLst aNil))
  (sSeq (sWh (tv (e2 dNe (eVar 1) (eC (.int 0)))) g_expanded_b1)
  (sRet (eVar 2))))
noncomputable def F_expanded : List D → Sto → Out D := fnF g_expanded 2 2
noncomputable def g_row : Sv := (sSeq (sIf (tv (e2 dLe (eCall F_crossed (aCons (eVar 0) (aCons (eVar 1) aNil))) (eC (.int 0)))) (sRaise (PySem.Str.ofString "NoWedge") (aCons (eC (.str (PySem.Str.ofString "the two rays of a wedge, crossed, come to more than 0"))) aNil)) sNil)
  (sRet (eCall F_expanded (aCons (eCall F_crossed (aCons (eVar 0) (aCons (eVar 1) aNil))) (aCons (eCall F_crossed (aCons (eCall F_first_behind (aCons (eVar 0) (aCons (eVar 1) aNil))) (aCons (eVar 1) aNil))) aNil)))))
noncomputable def F_row : List D → Sto → Out D := fnF g_row 2 0
noncomputable def g_between_b1 : Sv := (sSeq (sDrop (eMtL mApp (eVar 3) (aCons (eVar 5) aNil)))
  (sPar 4 5 (aCons (eVar 5) (aCons (eTup (aCons (e2 dSub (e2 dMul (eVar 6) (e2 dIx (eVar 5) (eC (.int 0)))) (e2 dIx (eVar 4) (eC (.int 0)))) (aCons (e2 dSub (e2 dMul (eVar 6) (e2 dIx (eVar 5) (eC (.int 1)))) (e2 dIx (eVar 4) (eC (.int 1)))) aNil))) aNil))))
noncomputable def g_between : Sv := (sSeq (sAsg (gNm 2) (eCall F_row (aCons (eVar 0) (aCons (eVar 1) aNil))))
  (sSeq (sAsg (gNm 3) (eLst aNil))
  (sSeq (sPar 4 5 (aCons (eVar 0) (aCons (eCall F_first_behind (aCons (eVar 0) (aCons (eVar 1) aNil))) aNil)))
  (sSeq (sFor (gNm 6) (eVar 2) g_between_b1)
  (sRet (eVar 3))))))
noncomputable def F_between : List D → Sto → Out D := fnF g_between 2 5
noncomputable def g_law_purse : Sv := (sSeq (sAsg (gNm 2) (eC (.int 0)))
  (sSeq (sIf (tv (e2 dLt (eVar 1) (eCall bLen (aCons (eVar 0) aNil)))) (sAsg (gNm 2) (e2 dIx (eVar 0) (eVar 1))) sNil)
  (sSeq (sAsg (gNm 3) (e2 dMod (eVar 2) (e2 dMul (e2 dPow (eC (.int 10)) (eC (.int 60))) (e2 dPow (eC (.int 10)) (eC (.int 30))))))
  (sRet (eLst (aCons (e2 dMul (eVar 3) (eCall bInt (aCons (e2 dGe (eVar 3) (e2 dPow (eC (.int 10)) (eC (.int 18)))) aNil))) (aCons (e2 dAdd (e2 dAdd (e2 dMod (eVar 2) (eC (.int 2147483647))) (e2 dMul (eC (.int 7919)) (eVar 1))) (eC (.int 1))) aNil)))))))
noncomputable def F_law_purse : List D → Sto → Out D := fnF g_law_purse 2 2
noncomputable def g_law_take : Sv := (sSeq (sIf (tv (e2 dGt (e2 dIx (eVar 0) (eC (.int 0))) (eC (.int 0)))) (sSeq (sAsg (gNm 2) (e2 dMod (e2 dIx (eVar 0) (eC (.int 0))) (eVar 1)))
  (sSeq (sPut (eVar 0) (eC (.int 0)) (e2 dDiv (e2 dIx (eVar 0) (eC (.int 0))) (eVar 1)))
  (sRet (eVar 2)))) sNil)
  (sSeq (sPut (eVar 0) (eC (.int 1)) (e2 dMod (e2 dAdd (e2 dMul (e2 dIx (eVar 0) (eC (.int 1))) (eC (.int 48271))) (eC (.int 12345))) (eC (.int 2147483647))))
  (sRet (e2 dMod (e2 dDiv (e2 dMod (e2 dMul (e2 dIx (eVar 0) (eC (.int 1))) (eC (.int 69621))) (eC (.int 2147483629))) (eC (.int 5))) (eVar 1)))))
noncomputable def F_law_take : List D → Sto → Out D := fnF g_law_take 2 1
noncomputable def g_law_crossed : Sv := (sRet (e2 dSub (e2 dMul (e2 dIx (eVar 0) (eC (.int 0))) (e2 dIx (eVar 1) (eC (.int 1)))) (e2 dMul (e2 dIx (eVar 0) (eC (.int 1))) (e2 dIx (eVar 1) (eC (.int 0))))))
noncomputable def F_law_crossed : List D → Sto → Out D := fnF g_law_crossed 2 0
noncomputable def g_law_short_b1 : Sv := (sPar 1 2 (aCons (eVar 2) (aCons (e2 dMod (eVar 1) (eVar 2)) aNil)))
noncomputable def g_law_short : Sv := (sSeq (sPar 1 2 (aCons (eCall bAbs (aCons (e2 dIx (eVar 0) (eC (.int 0))) aNil)) (aCons (eCall bAbs (aCons (e2 dIx (eVar 0) (eC (.int 1))) aNil)) aNil)))
  (sSeq (sWh (tv (e2 dGt (eVar 2) (eC (.int 0)))) g_law_short_b1)
  (sSeq (sIf (tv (e2 dEq (eVar 1) (eC (.int 0)))) (sRet (eTup (aCons (eC (.int 1)) (aCons (eC (.int 0)) aNil)))) sNil)
  (sRet (eTup (aCons (e2 dDiv (e2 dIx (eVar 0) (eC (.int 0))) (eVar 1)) (aCons (e2 dDiv (e2 dIx (eVar 0) (eC (.int 1))) (eVar 1)) aNil)))))))
noncomputable def F_law_short : List D → Sto → Out D := fnF g_law_short 1 2
noncomputable def g_law_wedge : Sv := (sSeq (sAsg (gNm 1) (e2 dIx (eLst (aCons (eC (.int 4)) (aCons (eC (.int 12)) (aCons (eC (.int 30)) (aCons (eC (.int 200)) aNil))))) (eCall F_law_take (aCons (eVar 0) (aCons (eC (.int 4)) aNil)))))
  (sSeq (sAsg (gNm 2) (eCall F_law_short (aCons (eTup (aCons (e2 dSub (eCall F_law_take (aCons (eVar 0) (aCons (e2 dAdd (e2 dMul (eC (.int 2)) (eVar 1)) (eC (.int 1))) aNil))) (eVar 1)) (aCons (e2 dSub (eCall F_law_take (aCons (eVar 0) (aCons (e2 dAdd (e2 dMul (eC (.int 2)) (eVar 1)) (eC (.int 1))) aNil))) (eVar 1)) aNil))) aNil)))
  (sSeq (sAsg (gNm 3) (eCall F_law_short (aCons (eTup (aCons (e2 dSub (eCall F_law_take (aCons (eVar 0) (aCons (e2 dAdd (e2 dMul (eC (.int 2)) (eVar 1)) (eC (.int 1))) aNil))) (eVar 1)) (aCons (e2 dSub (eCall F_law_take (aCons (eVar 0) (aCons (e2 dAdd (e2 dMul (eC (.int 2)) (eVar 1)) (eC (.int 1))) aNil))) (eVar 1)) aNil))) aNil)))
  (sSeq (sIf (tv (e2 dLt (eCall F_law_crossed (aCons (eVar 2) (aCons (eVar 3) aNil))) (eC (.int 0)))) (sPar 2 3 (aCons (eVar 3) (aCons (eVar 2) aNil))) sNil)
  (sSeq (sIf (tv (e2 dEq (eCall F_law_crossed (aCons (eVar 2) (aCons (eVar 3) aNil))) (eC (.int 0)))) (sAsg (gNm 3) (eTup (aCons (e2 dSub (eC (.int 0)) (e2 dIx (eVar 2) (eC (.int 1)))) (aCons (e2 dIx (eVar 2) (eC (.int 0))) aNil)))) sNil)
  (sRet (eTup (aCons (eVar 2) (aCons (eVar 3) aNil)))))))))
noncomputable def F_law_wedge : List D → Sto → Out D := fnF g_law_wedge 1 3
noncomputable def g_law_is_whole : Sv := (sRet (eAnd2 (eIsi "int" (eVar 0)) (eNot1 (eIsi "bool" (eVar 0)))))
noncomputable def F_law_is_whole : List D → Sto → Out D := fnF g_law_is_whole 1 0
noncomputable def g_law_is_pair : Sv := (sRet (eAnd2 (eIsi "tuple" (eVar 0)) (eAnd2 (e2 dEq (eCall bLen (aCons (eVar 0) aNil)) (eC (.int 2))) (eAnd2 (eCall F_law_is_whole (aCons (e2 dIx (eVar 0) (eC (.int 0))) aNil)) (eCall F_law_is_whole (aCons (e2 dIx (eVar 0) (eC (.int 1))) aNil))))))
noncomputable def F_law_is_pair : List D → Sto → Out D := fnF g_law_is_pair 1 0
end CB


end
section
set_option Elab.async false
set_option linter.all false
set_option maxRecDepth 100000
set_option maxHeartbeats 4000000
namespace DL
theorem fmod_lt {a b : Int} (h : b ≠ 0) : (a - a.fdiv b * b).natAbs < b.natAbs := by
  have e : a - a.fdiv b * b = a.fmod b := by rw [Int.fmod_def, Int.mul_comm]
  rw [e]
  by_cases c : 0 < b
  · have h1 := Int.fmod_lt_of_pos a c
    have h2 : 0 ≤ a.fmod b := by rw [Int.fmod_eq_emod_of_nonneg _ (by omega)]; exact Int.emod_nonneg _ h
    omega
  · have e2 : a.fmod b = -((-a).fmod (-b)) := by rw [Int.neg_fmod_neg]; omega
    have h1 := Int.fmod_lt_of_pos (-a) (show 0 < -b by omega)
    have h2 : 0 ≤ (-a).fmod (-b) := by rw [Int.fmod_eq_emod_of_nonneg _ (by omega)]; exact Int.emod_nonneg _ (by omega)
    omega
theorem fdiv_le {a b : Int} (h : b ≠ 0) : (a.fdiv b).natAbs ≤ a.natAbs + 1 := by
  have h1 := fmod_lt (a := a) h
  generalize hr : a - a.fdiv b * b = r at h1
  have h2 : (a.fdiv b * b).natAbs ≤ a.natAbs + r.natAbs := by omega
  rw [Int.natAbs_mul] at h2
  apply Classical.byContradiction
  intro c
  have h3 : (a.natAbs + 2) * b.natAbs ≤ (a.fdiv b).natAbs * b.natAbs := Nat.mul_le_mul_right _ (by omega)
  have h4 : a.natAbs * 1 ≤ a.natAbs * b.natAbs := Nat.mul_le_mul_left _ (by omega)
  rw [Nat.add_mul] at h3
  omega
noncomputable def hj (t b : Int) : List Int := if h : 0 < b then -((-t) / b) :: hj b (-((-t) / b) * b - t) else []
termination_by b.toNat
decreasing_by
  have h1 := Int.emod_nonneg (-t) (show b ≠ 0 by omega)
  have h2 := Int.emod_lt_of_pos (-t) h
  have h3 := Int.emod_add_mul_ediv (-t) b
  rw [Int.neg_mul, Int.mul_comm]
  omega
theorem hj_next {t b : Int} (h : 0 < b) : 0 ≤ -((-t) / b) * b - t ∧ -((-t) / b) * b - t < b := by
  have h1 := Int.emod_nonneg (-t) (show b ≠ 0 by omega)
  have h2 := Int.emod_lt_of_pos (-t) h
  have h3 := Int.emod_add_mul_ediv (-t) b
  rw [Int.neg_mul, Int.mul_comm]
  omega
theorem hj_two {t b : Int} (h : 0 < b) (ht : b < t) : 2 ≤ -((-t) / b) := by
  have := (hj_next (t := t) h).1
  apply Classical.byContradiction
  intro c
  have : -((-t) / b) * b ≤ 1 * b := Int.mul_le_mul_of_nonneg_right (by omega) (by omega)
  omega
theorem hj_len : ∀ (n : Nat) (t b : Int), b.toNat = n → (hj t b).length ≤ n := by
  intro n
  induction n using Nat.strongRecOn with
  | ind n ih =>
    intro t b hb
    unfold hj
    by_cases h : 0 < b
    · rw [dif_pos h]
      have := hj_next (t := t) h
      have := ih (-((-t) / b) * b - t).toNat (by omega) b _ rfl
      simp only [List.length_cons]
      omega
    · rw [dif_neg h]
      simp
end DL
namespace CB
open PySem PySem.Spec L2 DL
section
variable {Q : D → Sto → Prop} {E : Str → Sto → Prop} {M : Sto} {a b c d i : Int} {n m : Nat} {u v w : Pt}
noncomputable abbrev Bd (b : Int) (p : Pt) : Prop := (-b ≤ p.1 ∧ p.1 ≤ b) ∧ -b ≤ p.2 ∧ p.2 ≤ b
theorem v_divF {j : Int} (h : j ≠ 0 ∧ -(18446744073709551616) < j ∧ j < 18446744073709551616) : wO (dDiv (.int i) (.int j) M) Q E = Q (.int (i.fdiv j)) M := by
  have : divFits j := by
    refine ⟨h.1, ?_⟩
    have : j.natAbs.log2 < 65 := (Nat.log2_lt (by omega)).mpr (by omega)
    omega
  show wO (if divFits j then _ else _) Q E = _
  rw [if_pos this]; rfl
theorem partner_w (hg : Int.gcd u.1 u.2 = 1) (hb : Bd 1000000 u) (q : ∀ w : Pt, X u w = 1 → Q (pr w.1 w.2) M) : wO (F_partner [pr u.1 u.2] M) Q E := by
  simp! [F_partner, g_partner]
  refine wS_wh (fun k ρ M' => M' = M ∧ ∃ (h l : Int) (f s : Pt) (x : Option D), ρ = [some (pr u.1 u.2), some (.int h), some (.int l), some (pr f.1 f.2), some (pr s.1 s.2), x] ∧ k = l.natAbs ∧ Int.gcd h l = 1 ∧ (-1000000 ≤ h ∧ h ≤ 1000000) ∧ (-1000000 ≤ l ∧ l ≤ 1000000) ∧ X u f = h ∧ X u s = l) ?_ u.2.natAbs _ _ ⟨rfl, u.1, u.2, (0, 1), (-1, 0), _, rfl, rfl, hg, hb.1, hb.2, by simp [X], by simp [X]⟩
  rintro k ρ M ⟨rfl, h, l, f, s, x, rfl, rfl, g, hh, hl, e1, e2⟩
  simp! [wO_ok]
  refine kWh_n (fun hl0 => ?_) (fun hl0 => ?_)
  · have f1 := fmod_lt (a := h) hl0
    have f2 := fdiv_le (a := h) hl0
    simp! [g_partner_b1, v_divF]
    refine ⟨(h - h.fdiv l * l).natAbs, f1, l, h - h.fdiv l * l, s, (f.1 - h.fdiv l * s.1, f.2 - h.fdiv l * s.2), _, rfl, rfl, ?_, hl, by omega, e2, ?_⟩
    · rw [Int.gcd_sub_mul_right_right, Int.gcd_comm]
      exact g
    · unfold X at *
      simp only
      grind
  · subst hl0
    rw [Int.gcd_zero_right] at g
    simp! [wO_ok]
    have := q (h * f.1, h * f.2) (by
      have hh2 : h * h = 1 := by
        have : h = 1 ∨ h = -1 := by omega
        rcases this with z | z <;> rw [z] <;> rfl
      unfold X at *
      simp only
      grind)
    exact this
theorem crossed_w (h : Bd 1000000 u ∨ Bd 1000000 v) : wO (F_crossed [pr u.1 u.2, pr v.1 v.2] M) Q E = Q (.int (X u v)) M := by
  rcases h with h | h
  · simp! [F_crossed, g_crossed]
    rfl
  · simp! [F_crossed, g_crossed]
    rfl
structure Wg (u v : Pt) : Prop where
  gu : Int.gcd u.1 u.2 = 1
  gv : Int.gcd v.1 v.2 = 1
  bu : Bd 1000 u
  bv : Bd 1000 v
  pos : 0 < X u v
theorem Wg.le (h : Wg u v) : X u v ≤ 2000000 := by
  obtain ⟨_, _, ⟨⟨a1, a2⟩, a3, a4⟩, ⟨⟨b1, b2⟩, b3, b4⟩, _⟩ := h
  have m : ∀ x y : Int, -1000 ≤ x → x ≤ 1000 → -1000 ≤ y → y ≤ 1000 → (x * y).natAbs ≤ 1000 * 1000 := by
    intro x y _ _ _ _
    rw [Int.natAbs_mul]
    exact Nat.mul_le_mul (by omega) (by omega)
  have p1 := m u.1 v.2 a1 a2 b3 b4
  have p2 := m u.2 v.1 a3 a4 b1 b2
  unfold X
  omega
theorem first_behind_w (h : Wg u v) (q : ∀ w : Pt, X u w = 1 → 0 ≤ X w v → X w v < X u v → Q (pr w.1 w.2) M) : wO (F_first_behind [pr u.1 u.2, pr v.1 v.2] M) Q E := by
  have bu : Bd 1000000 u := by have := h.bu; unfold Bd at *; omega
  have bv : Bd 1000000 v := by have := h.bv; unfold Bd at *; omega
  have hp := h.pos
  have hl := h.le
  simp! [F_first_behind, g_first_behind]
  refine partner_w h.gu bu fun w e => ?_
  simp! [crossed_w (u := w) (v := v) (.inr bv), crossed_w (u := u) (v := v) (.inr bv)]
  have m1 := Int.emod_nonneg (X w v) (show X u v ≠ 0 by omega)
  have m2 := Int.emod_lt_of_pos (X w v) hp
  have m3 := Int.emod_add_mul_ediv (X w v) (X u v)
  generalize X w v / X u v = k at *
  have e3 : X (w.1 - k * u.1, w.2 - k * u.2) v = X w v % X u v := by
    have : X (w.1 - k * u.1, w.2 - k * u.2) v = X w v - X u v * k := by unfold X; simp only; grind
    omega
  exact q (w.1 - k * u.1, w.2 - k * u.2) (by unfold X at *; simp only; grind) (by omega) (by omega)
structure Fb (u v w : Pt) : Prop where
  one : X u w = 1
  lo : 0 ≤ X w v
  hi : X w v < X u v
theorem Fb.uniq {w w' : Pt} (h : Fb u v w) (k : Fb u v w') : w = w' := by
  obtain ⟨h1, a1, a2⟩ := h
  obtain ⟨h2, b1, b2⟩ := k
  have e1 : w'.1 = X w' w * u.1 + w.1 ∧ w'.2 = X w' w * u.2 + w.2 := by unfold X at *; constructor <;> grind
  have e2 : X w' v = X w' w * X u v + X w v := by
    have : X w' v = X (X w' w * u.1 + w.1, X w' w * u.2 + w.2) v := by rw [← e1.1, ← e1.2]
    rw [this]
    unfold X
    simp only
    grind
  generalize X w' w = k at *
  have k0 : k = 0 := by
    apply Classical.byContradiction
    intro c
    by_cases p : 1 ≤ k
    · have : 1 * X u v ≤ k * X u v := Int.mul_le_mul_of_nonneg_right p (by omega)
      omega
    · have : k * X u v ≤ (-1) * X u v := Int.mul_le_mul_of_nonneg_right (by omega) (by omega)
      omega
  rw [k0] at e1
  apply Prod.ext <;> omega
theorem fb_ex (h : Wg u v) : ∃ w, Fb u v w := by
  obtain ⟨d, M', _, w, hw⟩ := wO_get (first_behind_w (M := []) (Q := fun _ _ => ∃ w, Fb u v w) h fun w a b c => ⟨w, a, b, c⟩)
  exact ⟨w, hw⟩
theorem fb_eq (h : Wg u v) (hw : Fb u v w) : wO (F_first_behind [pr u.1 u.2, pr v.1 v.2] M) Q E = Q (pr w.1 w.2) M := by
  obtain ⟨d, M', e, e1, e2⟩ := wO_get (first_behind_w (M := M) (Q := fun d M' => d = pr w.1 w.2 ∧ M' = M) h fun w' a b c => ⟨by rw [hw.uniq ⟨a, b, c⟩], rfl⟩)
  rw [e, e1, e2]
  rfl
theorem expanded_w {t b : Int} (hb : 0 ≤ b) (hl : b ≤ 90000) (q : Q (.ref M.length) (M ++ [.lst (nts (hj t b))])) : wO (F_expanded [.int t, .int b] M) Q E := by
  simp! [F_expanded, g_expanded]
  refine wS_wh (fun k ρ M' => ∃ (t' b' : Int) (xs : List Int) (x : Option D), ρ = [some (.int t'), some (.int b'), some (.ref M.length), x] ∧ M' = M ++ [.lst (nts xs)] ∧ 0 ≤ b' ∧ b' ≤ 90000 ∧ k = b'.toNat ∧ xs ++ hj t' b' = hj t b ∧ xs.length + b'.toNat ≤ 90000) ?_ b.toNat _ _ ⟨t, b, [], _, rfl, rfl, hb, hl, rfl, rfl, by simp; omega⟩
  rintro k ρ M' ⟨t', b', xs, x, rfl, rfl, h0, h1, rfl, e, hx⟩
  simp! [wO_ok]
  refine kWh_n (fun hl0 => ?_) (fun hl0 => ?_)
  · have n1 := hj_next (t := t') (show 0 < b' by omega)
    simp! [g_expanded_b1]
    refine ⟨by omega, (-(-t' / b') * b' - t').toNat, by omega, _, _, xs ++ [-(-t' / b')], _, rfl, rfl, n1.1, by omega, rfl, ?_, by simp; omega⟩
    rw [← e]
    conv => rhs; rw [hj, dif_pos (show 0 < b' by omega)]
    simp
  · subst hl0
    simp! [wO_ok]
    have : hj t' 0 = [] := by rw [hj, dif_neg (by omega)]
    rw [this, List.append_nil] at e
    rw [e]
    exact q
theorem row_w (h : Wg u v) (hw : Fb u v w) (hl : X u v ≤ 90000) (q : Q (.ref M.length) (M ++ [.lst (nts (hj (X u v) (X w v)))])) : wO (F_row [pr u.1 u.2, pr v.1 v.2] M) Q E := by
  have bv : Bd 1000000 v := by have := h.bv; unfold Bd at *; omega
  have hp := h.pos
  simp! [F_row, g_row, crossed_w (u := u) (v := v) (.inr bv), crossed_w (u := w) (v := v) (.inr bv), fb_eq h hw]
  exact expanded_w hw.lo (by have := hw.hi; omega) q
noncomputable def btw : Pt → Pt → List Int → List Pt
  | _, _, [] => []
  | a, r, k :: ks => r :: btw r (k * r.1 - a.1, k * r.2 - a.2) ks
theorem btw_len : ∀ (a r : Pt) (ks : List Int), (btw a r ks).length = ks.length
  | _, _, [] => rfl
  | a, r, k :: ks => by rw [btw, List.length_cons, btw_len, List.length_cons]
theorem hj_small : ∀ (n : Nat) (t b : Int), b.toNat = n → 0 ≤ b → b < t → ∀ k ∈ hj t b, 2 ≤ k ∧ k ≤ t := by
  intro n
  induction n using Nat.strongRecOn with
  | ind n ih =>
    intro t b hb h0 ht k hk
    unfold hj at hk
    by_cases h : 0 < b
    · rw [dif_pos h] at hk
      have nx := hj_next (t := t) h
      rcases List.mem_cons.mp hk with z | z
      · rw [z]
        refine ⟨hj_two h ht, ?_⟩
        apply Classical.byContradiction
        intro c
        have : (t + 1) * b ≤ -((-t) / b) * b := Int.mul_le_mul_of_nonneg_right (by omega) (by omega)
        have : t * 1 ≤ t * b := Int.mul_le_mul_of_nonneg_left (by omega) (by omega)
        rw [Int.add_mul] at *
        omega
      · have := ih (-((-t) / b) * b - t).toNat (by omega) b _ rfl nx.1 nx.2 k z
        omega
    · rw [dif_neg h] at hk
      simp at hk
theorem between_w (h : Wg u v) (hw : Fb u v w) (hl : X u v ≤ 90000) (q : Q (.ref (M.length + 1)) (M ++ [.lst (nts (hj (X u v) (X w v))), .lst (prs (btw u w (hj (X u v) (X w v))))])) : wO (F_between [pr u.1 u.2, pr v.1 v.2] M) Q E := by
  simp! [F_between, g_between]
  refine row_w h hw hl ?_
  have sm := hj_small _ (X u v) (X w v) rfl hw.lo hw.hi
  have ln := hj_len _ (X u v) (X w v) rfl
  have hi := hw.hi
  generalize hj (X u v) (X w v) = ks at *
  simp! [fb_eq h hw]
  refine wS_forI (fun i ρ M' => ∃ (a r : Pt) (pre suf : List Int) (dn : List Pt) (x : Option D), ρ = [some (pr u.1 u.2), some (pr v.1 v.2), some (.ref M.length), some (.ref (M.length + 1)), some (pr a.1 a.2), some (pr r.1 r.2), x] ∧ M' = M ++ [.lst (nts ks), .lst (prs dn)] ∧ ks = pre ++ suf ∧ pre.length = i ∧ btw u w ks = dn ++ btw a r suf ∧ dn.length = i) (n := M.length) (xs := nts ks) (by rw [s_at0]; rfl) ⟨u, w, [], ks, [], _, rfl, rfl, rfl, rfl, rfl, rfl⟩ (fun i ρ M' ⟨_, _, _, _, _, _, _, e, _⟩ => by rw [e, s_at0]; rfl) ?_ ?_
  · rintro i ρ M' hi' ⟨a, r, pre, suf, dn, x, rfl, rfl, e1, e2, e3, e4⟩
    rw [nts_len] at hi'
    obtain ⟨k, suf, rfl⟩ : ∃ k s, suf = k :: s := by
      cases suf with
      | nil => rw [e1] at hi'; simp at hi'; omega
      | cons k s => exact ⟨k, s, rfl⟩
    have ek : (nts ks)[i]'(by rw [nts_len]; exact hi') = .int k := by
      subst e1 e2
      simp [nts]
    rw [ek]
    have hk := sm k (by rw [e1]; simp)
    simp! [g_between_b1]
    refine ⟨by omega, r, (k * r.1 - a.1, k * r.2 - a.2), pre ++ [k], suf, dn ++ [(r.1, r.2)], _, rfl, rfl, by rw [e1]; simp, by simp; omega, ?_, by simp; omega⟩
    rw [e3, btw]
    simp
  · rintro ρ M' ⟨a, r, pre, suf, dn, x, rfl, rfl, e1, e2, e3, e4⟩
    have : suf = [] := by
      have := congrArg List.length e1
      rw [nts_len] at e2
      simp at this
      cases suf with
      | nil => rfl
      | cons _ _ => simp at this; omega
    subst this
    rw [btw, List.append_nil] at e3
    simp! [wO_ok]
    rw [← e3]
    exact q
end
end CB


end
section
set_option Elab.async false
set_option linter.all false
set_option maxRecDepth 100000
set_option maxHeartbeats 4000000
namespace CB
open PySem PySem.Spec L2 DL
section
variable {Q : D → Sto → Prop} {E : Str → Sto → Prop} {M : Sto} {a b c d i : Int} {n m : Nat} {u v w : Pt}
theorem purse_w {ns : List Int} {k : Nat} (hk : k < 1000) (q : ∀ a b : Int, 0 ≤ a → Q (.ref M.length) (M ++ [.lst [.int a, .int b]])) : wO (F_law_purse [.rol (ns.map D.int), .int k] M) Q E := by
  have big : mulFits 1000000000000000000000000000000000000000000000000000000000000 1000000000000000000000000000000 := mulFits_of 300 300 (by decide +kernel) (by decide +kernel) (by decide) (by decide)
  simp! [F_law_purse, g_law_purse]
  refine brS (fun h1 => ?_) (fun h1 => ?_)
  · have h2 : k < ns.length := by simpa using h1
    simp! [atI_ints h2, v_mulF big]
    obtain ⟨l, hl, l0⟩ : ∃ l : Int, ns[k] % 1000000000000000000000000000000000000000000000000000000000000000000000000000000000000000000 = l ∧ 0 ≤ l := ⟨_, rfl, by omega⟩
    rw [hl]
    refine q _ _ ?_
    split <;> omega
  · simp! [v_mulF big]
    exact q _ _ (by omega)
theorem take_w {t : Int} (hb : Bag n M) (ht : 0 < t ∧ t < 18446744073709551616) (q : ∀ r M', 0 ≤ r → r < t → Gr n M M' → Q (.int r) M') : wO (F_law_take [.ref n, .int t] M) Q E := by
  obtain ⟨a, b, ha, e⟩ := hb
  have hl : n < M.length := lt_get e
  have hs : ∀ x, (M.set n x)[n]? = some x := fun x => List.getElem?_set_self hl
  have gr : ∀ a' b', 0 ≤ a' → Gr n M (M.set n (.lst [.int a', .int b'])) := fun a' b' h => ⟨by simp, ⟨a', b', h, hs _⟩, fun k hk _ => by rw [List.getElem?_set_ne (Ne.symm hk)]⟩
  have m1 := Int.emod_nonneg a (show t ≠ 0 by omega)
  have m2 := Int.emod_lt_of_pos a ht.1
  simp! [F_law_take, g_law_take, e]
  refine brS (fun h1 => ?_) (fun h1 => ?_)
  · simp! [e, ix0]
    exact q _ _ m1 m2 (gr _ _ (Int.ediv_nonneg ha (by omega)))
  · simp! [e, ix1]
    exact q _ _ (Int.emod_nonneg _ (by omega)) (Int.emod_lt_of_pos _ ht.1) (gr _ _ ha)
theorem short_w {x y B : Int} (hB : 1 ≤ B ∧ B ≤ 1000) (hx : -B ≤ x ∧ x ≤ B) (hy : -B ≤ y ∧ y ≤ B) (q : ∀ w : Pt, Int.gcd w.1 w.2 = 1 → Bd B w → Q (pr w.1 w.2) M) : wO (F_law_short [pr x y] M) Q E := by
  simp! [F_law_short, g_law_short]
  refine wS_wh (fun k ρ M' => M' = M ∧ ∃ a b : Nat, ρ = [some (pr x y), some (.int a), some (.int b)] ∧ k = b ∧ Nat.gcd a b = Int.gcd x y ∧ a ≤ 1000 ∧ b ≤ 1000) ?_ y.natAbs _ _ ⟨rfl, x.natAbs, y.natAbs, rfl, rfl, rfl, by omega, by omega⟩
  rintro k ρ M ⟨rfl, a, b, rfl, rfl, g, ha, hk'⟩
  simp! [wO_ok]
  refine kWh_d (fun h => ?_) (fun h => ?_)
  · simp! [g_law_short_b1]
    have hb : 0 < k := by omega
    have hm := Nat.mod_lt a hb
    refine ⟨a % k, hm, k, a % k, by rw [Int.natCast_emod], rfl, ?_, ?_⟩
    · rw [← g, Nat.gcd_comm k, ← Nat.gcd_rec, Nat.gcd_comm]
    · omega
  · have k0 : k = 0 := by omega
    subst k0
    rw [Nat.gcd_zero_right] at g
    simp! [wO_ok]
    refine brS (fun hz => ?_) (fun hz => ?_)
    · simp! [wO_ok]
      exact q (1, 0) rfl ⟨by simp; omega, by simp; omega⟩
    · simp! [wO_ok]
      have b1 := Int.natAbs_ediv_le_natAbs x a
      have b2 := Int.natAbs_ediv_le_natAbs y a
      refine q (x / a, y / a) ?_ ⟨by simp only; omega, by simp only; omega⟩
      rw [g]
      exact Int.gcd_ediv_gcd_ediv_gcd (by omega)
theorem sq0 (x : Int) : 0 ≤ x * x := by
  by_cases c : 0 ≤ x
  · exact Int.mul_nonneg c c
  · have := Int.mul_nonneg (show 0 ≤ -x by omega) (show 0 ≤ -x by omega)
    rw [Int.neg_mul_neg] at this
    exact this
theorem X_le (hu : Bd 200 u) (hv : Bd 200 v) : -80000 ≤ X u v ∧ X u v ≤ 80000 := by
  obtain ⟨⟨a1, a2⟩, a3, a4⟩ := hu
  obtain ⟨⟨b1, b2⟩, b3, b4⟩ := hv
  have m : ∀ x y : Int, -200 ≤ x → x ≤ 200 → -200 ≤ y → y ≤ 200 → (x * y).natAbs ≤ 200 * 200 := by
    intro x y _ _ _ _
    rw [Int.natAbs_mul]
    exact Nat.mul_le_mul (by omega) (by omega)
  have p1 := m u.1 v.2 a1 a2 b3 b4
  have p2 := m u.2 v.1 a3 a4 b1 b2
  unfold X
  omega
theorem lcrossed_w (h : Bd 1000000 u ∨ Bd 1000000 v) : wO (F_law_crossed [pr u.1 u.2, pr v.1 v.2] M) Q E = Q (.int (X u v)) M := crossed_w h
theorem wedge_w (hb : Bag n M) (q : ∀ u v M', Wg u v → Bd 200 u → Bd 200 v → X u v ≤ 80000 → Gr n M M' → Q (.tup [pr u.1 u.2, pr v.1 v.2]) M') : wO (F_law_wedge [.ref n] M) Q E := by
  simp! [F_law_wedge, g_law_wedge]
  refine take_w (hb.app _) (by decide) fun r M1 r0 r1 g1 => ?_
  have k1 := Gr.new hb g1
  simp! [k1]
  obtain ⟨sz, hs, z0, z1⟩ : ∃ f : Int, atI [D.int 4, D.int 12, D.int 30, D.int 200] r = some (.int f) ∧ 1 ≤ f ∧ f ≤ 200 := by
    have : r = 0 ∨ r = 1 ∨ r = 2 ∨ r = 3 := by omega
    rcases this with rfl | rfl | rfl | rfl
    · exact ⟨4, rfl, by decide, by decide⟩
    · exact ⟨12, rfl, by decide, by decide⟩
    · exact ⟨30, rfl, by decide, by decide⟩
    · exact ⟨200, rfl, by decide, by decide⟩
  simp! [hs]
  refine take_w g1.bag (by omega) fun x1 M2 a0 a1 g2 => ?_
  simp! [wO_ok]
  refine take_w g2.bag (by omega) fun x2 M3 b0 b1 g3 => ?_
  simp! [wO_ok]
  refine short_w (B := 200) (by decide) (by omega) (by omega) fun u gu bu => ?_
  simp! [wO_ok]
  refine take_w g3.bag (by omega) fun x3 M4 c0 c1 g4 => ?_
  simp! [wO_ok]
  refine take_w g4.bag (by omega) fun x4 M5 d0 d1 g5 => ?_
  simp! [wO_ok]
  refine short_w (B := 200) (by decide) (by omega) (by omega) fun v gv bv => ?_
  have gr : Gr n M M5 := ((((Gr.app hb _).trans g1).trans g2).trans (g3.trans (g4.trans g5)))
  have B6 : ∀ {p : Pt}, Bd 200 p → Bd 1000000 p := fun h => by unfold Bd at *; omega
  have B3 : ∀ {p : Pt}, Bd 200 p → Bd 1000 p := fun h => by unfold Bd at *; omega
  have xl := X_le bu bv
  simp! [lcrossed_w (u := u) (v := v) (.inr (B6 bv))]
  refine midS (fun ρ M' => M' = M5 ∧ ∃ (u v : Pt) (x : Option D), ρ = [some (.ref n), x, some (pr u.1 u.2), some (pr v.1 v.2)] ∧ Int.gcd u.1 u.2 = 1 ∧ Int.gcd v.1 v.2 = 1 ∧ Bd 200 u ∧ Bd 200 v ∧ 0 ≤ X u v) ?_ ?_
  · refine brS (fun h => ?_) (fun h => ?_)
    · simp! [wO_ok]
      refine ⟨v, u, _, rfl, gv, gu, bv, bu, ?_⟩
      have : X v u = 0 - X u v := X_swap v u
      omega
    · simp! [wO_ok]
      exact ⟨u, v, _, rfl, gu, gv, bu, bv, by omega⟩
  rintro _ M5 ⟨rfl, u, v, x, rfl, gu, gv, bu, bv, hp⟩
  have xl := X_le bu bv
  simp! [lcrossed_w (u := u) (v := v) (.inr (B6 bv))]
  refine midS (fun ρ M' => M' = M5 ∧ ∃ (u v : Pt) (x : Option D), ρ = [some (.ref n), x, some (pr u.1 u.2), some (pr v.1 v.2)] ∧ Wg u v ∧ Bd 200 u ∧ Bd 200 v) ?_ ?_
  · refine brS (fun h => ?_) (fun h => ?_)
    · simp! [wO_ok]
      have bv2 : Bd 200 (0 - u.2, u.1) := by unfold Bd at *; simp only; omega
      refine ⟨u, (0 - u.2, u.1), _, rfl, ⟨gu, ?_, B3 bu, B3 bv2, ?_⟩, bu, bv2⟩
      · show Int.gcd (0 - u.2) u.1 = 1
        rw [Int.zero_sub, Int.neg_gcd, Int.gcd_comm]
        exact gu
      · have e : X u (0 - u.2, u.1) = u.1 * u.1 + u.2 * u.2 := by unfold X; simp only; grind
        rw [e]
        have h1 : 0 ≤ u.1 * u.1 := sq0 _
        have h2 : 0 ≤ u.2 * u.2 := sq0 _
        apply Classical.byContradiction
        intro c
        have e1 : u.1 * u.1 = 0 := by omega
        have e2 : u.2 * u.2 = 0 := by omega
        have f1 : u.1 = 0 := by rcases Int.mul_eq_zero.mp e1 with z | z <;> exact z
        have f2 : u.2 = 0 := by rcases Int.mul_eq_zero.mp e2 with z | z <;> exact z
        rw [f1, f2] at gu
        simp at gu
    · simp! [wO_ok]
      exact ⟨u, v, _, rfl, ⟨gu, gv, B3 bu, B3 bv, by omega⟩, bu, bv⟩
  rintro _ M5 ⟨rfl, u, v, x, rfl, hw, bu, bv⟩
  have xl := X_le bu bv
  simp! [wO_ok]
  exact q u v M5 hw bu bv xl.2 gr
noncomputable def Ch : List Pt → Prop
  | a :: b :: r => X a b = 1 ∧ Ch (b :: r)
  | _ => True
theorem chain : ∀ (n : Nat) (t b : Int) (a r v : Pt), b.toNat = n → 0 ≤ b → b < t → X a r = 1 → X a v = t → X r v = b → Int.gcd v.1 v.2 = 1 → Ch (a :: (btw a r (hj t b) ++ [v])) := by
  intro n
  induction n using Nat.strongRecOn with
  | ind n ih =>
    intro t b a r v hb h0 ht h1 h2 h3 gv
    unfold hj
    by_cases h : 0 < b
    · rw [dif_pos h]
      have nx := hj_next (t := t) h
      generalize hk : -((-t) / b) = k at *
      have q := ih (k * b - t).toNat (by omega) b (k * b - t) r (k * r.1 - a.1, k * r.2 - a.2) v rfl nx.1 nx.2 (by unfold X at *; simp only; grind) h3 (by unfold X at *; simp only; grind) gv
      rw [btw]
      exact ⟨h1, q⟩
    · rw [dif_neg h, btw]
      have b0 : b = 0 := by omega
      have e1 : v.1 = t * r.1 ∧ v.2 = t * r.2 := by unfold X at *; constructor <;> grind
      rw [e1.1, e1.2, Int.gcd_mul_left] at gv
      have t1 : t.natAbs = 1 := Nat.eq_one_of_mul_eq_one_right gv
      refine ⟨by rw [h2]; omega, trivial⟩
theorem chain_w (h : Wg u v) (hw : Fb u v w) : Ch (u :: (btw u w (hj (X u v) (X w v)) ++ [v])) := chain _ _ _ u w v rfl hw.lo hw.hi hw.one rfl rfl h.gv
noncomputable def Tr (a b d : Pt) : Prop := ∃ k : Int, 2 ≤ k ∧ a.1 + d.1 = k * b.1 ∧ a.2 + d.2 = k * b.2
noncomputable def Cv : List Pt → Prop
  | a :: b :: d :: r => Tr a b d ∧ Cv (b :: d :: r)
  | _ => True
theorem convex : ∀ (n : Nat) (t b : Int) (a r v : Pt), b.toNat = n → 0 ≤ b → b < t → X a r = 1 → X a v = t → X r v = b → Int.gcd v.1 v.2 = 1 → Cv (a :: (btw a r (hj t b) ++ [v])) ∧ ∃ rest, btw a r (hj t b) ++ [v] = r :: rest := by
  intro n
  induction n using Nat.strongRecOn with
  | ind n ih =>
    intro t b a r v hb h0 ht h1 h2 h3 gv
    unfold hj
    by_cases h : 0 < b
    · rw [dif_pos h]
      have nx := hj_next (t := t) h
      have k2 := hj_two h ht
      generalize hk : -((-t) / b) = k at *
      obtain ⟨q, rest, e⟩ := ih (k * b - t).toNat (by omega) b (k * b - t) r (k * r.1 - a.1, k * r.2 - a.2) v rfl nx.1 nx.2 (by unfold X at *; simp only; grind) h3 (by unfold X at *; simp only; grind) gv
      rw [btw]
      refine ⟨?_, _, rfl⟩
      show Cv (a :: r :: (btw r (k * r.1 - a.1, k * r.2 - a.2) (hj b (k * b - t)) ++ [v]))
      rw [e] at q ⊢
      exact ⟨⟨k, k2, by simp only; omega, by simp only; omega⟩, q⟩
    · rw [dif_neg h, btw]
      have b0 : b = 0 := by omega
      have e1 : v.1 = t * r.1 ∧ v.2 = t * r.2 := by unfold X at *; constructor <;> grind
      have gv' := gv
      rw [e1.1, e1.2, Int.gcd_mul_left] at gv'
      have t1 : t.natAbs = 1 := Nat.eq_one_of_mul_eq_one_right gv'
      have tt : t = 1 := by omega
      rw [tt] at e1
      have : v = r := by apply Prod.ext <;> omega
      rw [this]
      exact ⟨trivial, [], rfl⟩
end
section
variable {u v w : Pt}
theorem btw_v : ∀ (n : Nat) (t b : Int) (a r v : Pt), b.toNat = n → 0 ≤ b → b < t → X r v = b → X a v = t → ∀ x ∈ btw a r (hj t b), 0 ≤ X x v ∧ X x v ≤ t := by
  intro n
  induction n using Nat.strongRecOn with
  | ind n ih =>
    intro t b a r v hb h0 ht h3 h2 x hx
    unfold hj at hx
    by_cases h : 0 < b
    · rw [dif_pos h] at hx
      have nx := hj_next (t := t) h
      generalize -((-t) / b) = k at *
      rw [btw] at hx
      rcases List.mem_cons.mp hx with z | z
      · rw [z, h3]; omega
      · have := ih (k * b - t).toNat (by omega) b (k * b - t) r (k * r.1 - a.1, k * r.2 - a.2) v rfl nx.1 nx.2 (by unfold X at *; simp only; grind) h3 x z
        omega
    · rw [dif_neg h, btw] at hx
      simp at hx
theorem btw_u {u : Pt} : ∀ (n : Nat) (t b : Int) (a r v : Pt), b.toNat = n → 0 ≤ b → b < t → X a r = 1 → X a v = t → X r v = b → Int.gcd v.1 v.2 = 1 → 0 ≤ X u a → X u a ≤ X u r → X u r ≤ X u v ∧ ∀ x ∈ btw a r (hj t b), 0 ≤ X u x ∧ X u x ≤ X u v := by
  intro n
  induction n using Nat.strongRecOn with
  | ind n ih =>
    intro t b a r v hb h0 ht h1 h2 h3 gv p1 p2
    unfold hj
    by_cases h : 0 < b
    · rw [dif_pos h]
      have nx := hj_next (t := t) h
      have k2 := hj_two h ht
      generalize -((-t) / b) = k at *
      have e : X u (k * r.1 - a.1, k * r.2 - a.2) = k * X u r - X u a := by unfold X; simp only; grind
      have m : 2 * X u r ≤ k * X u r := Int.mul_le_mul_of_nonneg_right k2 (by omega)
      obtain ⟨q1, q2⟩ := ih (k * b - t).toNat (by omega) b (k * b - t) r (k * r.1 - a.1, k * r.2 - a.2) v rfl nx.1 nx.2 (by unfold X at *; simp only; grind) h3 (by unfold X at *; simp only; grind) gv (by omega) (by omega)
      refine ⟨by omega, fun x hx => ?_⟩
      rw [btw] at hx
      rcases List.mem_cons.mp hx with z | z
      · rw [z]; omega
      · exact q2 x z
    · rw [dif_neg h, btw]
      have b0 : b = 0 := by omega
      have e1 : v.1 = t * r.1 ∧ v.2 = t * r.2 := by unfold X at *; constructor <;> grind
      have gv' := gv
      rw [e1.1, e1.2, Int.gcd_mul_left] at gv'
      have t1 : t.natAbs = 1 := Nat.eq_one_of_mul_eq_one_right gv'
      have tt : t = 1 := by omega
      rw [tt] at e1
      have : v = r := by apply Prod.ext <;> omega
      rw [this]
      exact ⟨Int.le_refl _, fun x hx => by simp at hx⟩
theorem btw_bd (h : Wg u v) (hw : Fb u v w) (hu : Bd 200 u) (hv : Bd 200 v) : ∀ x ∈ btw u w (hj (X u v) (X w v)), Bd 400 x := by
  intro x hx
  have a1 := btw_v _ _ _ u w v rfl hw.lo hw.hi rfl rfl x hx
  have uu : X u u = 0 := by unfold X; grind
  have a2 := (btw_u (u := u) _ _ _ u w v rfl hw.lo hw.hi hw.one rfl rfl h.gv (by omega) (by have := hw.one; omega)).2 x hx
  have hp := h.pos
  have e1 : X u v * x.1 = X x v * u.1 + X u x * v.1 := by unfold X; grind
  have e2 : X u v * x.2 = X x v * u.2 + X u x * v.2 := by unfold X; grind
  have mb : ∀ c y : Int, 0 ≤ c → c ≤ X u v → -200 ≤ y → y ≤ 200 → -(X u v * 200) ≤ c * y ∧ c * y ≤ X u v * 200 := by
    intro c y c0 c1 y0 y1
    have q1 : c * y ≤ c * 200 := Int.mul_le_mul_of_nonneg_left y1 c0
    have q2 : c * 200 ≤ X u v * 200 := Int.mul_le_mul_of_nonneg_right c1 (by omega)
    have q3 : c * (-200) ≤ c * y := Int.mul_le_mul_of_nonneg_left y0 c0
    omega
  obtain ⟨⟨u1, u2⟩, u3, u4⟩ := hu
  obtain ⟨⟨v1, v2⟩, v3, v4⟩ := hv
  have m1 := mb _ _ a1.1 a1.2 u1 u2
  have m2 := mb _ _ a2.1 a2.2 v1 v2
  have m3 := mb _ _ a1.1 a1.2 u3 u4
  have m4 := mb _ _ a2.1 a2.2 v3 v4
  have le : ∀ y : Int, X u v * y ≤ X u v * 400 → y ≤ 400 := fun y z => Int.le_of_mul_le_mul_left z hp
  have ge : ∀ y : Int, X u v * (-400) ≤ X u v * y → -400 ≤ y := fun y z => Int.le_of_mul_le_mul_left z hp
  exact ⟨⟨ge _ (by omega), le _ (by omega)⟩, ge _ (by omega), le _ (by omega)⟩
end
end CB


end
section
set_option Elab.async false
set_option linter.all false
set_option maxRecDepth 100000
set_option maxHeartbeats 4000000
namespace CA
open PySem PySem.Spec L2 DL
end CA


end
section
set_option Elab.async false
set_option linter.all false
set_option maxRecDepth 100000
set_option maxHeartbeats 4000000
namespace CA
open PySem PySem.Spec L2 DL
section
variable {Q : D → Sto → Prop} {E : Str → Sto → Prop} {M : Sto} {a b c d i : Int} {n m : Nat} {rs : List Pt}
theorem Gr.up {k : Nat} {M M1 : Sto} {o : SO} (h : M[k]? = some o) (g : Gr n M M1) (hk : k ≠ n) : M1[k]? = some o := by
  rw [g.keep k hk (lt_get h)]
  exact h
end
end CA


end
section
set_option Elab.async false
set_option linter.all false
set_option maxRecDepth 100000
set_option maxHeartbeats 4000000
namespace CY
open PySem PySem.Spec L2 DL CA
end CY


end
section
set_option Elab.async false
set_option linter.all false
set_option maxRecDepth 100000
set_option maxHeartbeats 4000000
namespace CY
open PySem PySem.Spec L2 DL
section
variable {Q : D → Sto → Prop} {E : Str → Sto → Prop} {M : Sto} {n m : Nat} {rs : List Pt}
theorem Gr.of {M M' : Sto} (hb : Bag n M) (l : M.length ≤ M'.length) (g : ∀ k, k < M.length → M'[k]? = M[k]?) : Gr n M M' := by
  refine ⟨l, ?_, fun k _ hk => g k hk⟩
  obtain ⟨a, b, h, e⟩ := id hb
  exact ⟨a, b, h, (g n hb.lt).trans e⟩
end
end CY


end
section
set_option Elab.async false
set_option linter.all false
set_option maxRecDepth 100000
set_option maxHeartbeats 4000000
namespace CR
open PySem PySem.Spec L2 DL
end CR


end
section
set_option Elab.async false
set_option linter.all false
set_option maxRecDepth 100000
set_option maxHeartbeats 4000000
namespace CR
open PySem PySem.Spec L2 DL
section
variable {Q : D → Sto → Prop} {E : Str → Sto → Prop} {M : Sto} {k l : Nat} {p q : Rat}
end
end CR


end
section
set_option Elab.async false
set_option linter.all false
set_option maxRecDepth 100000
set_option maxHeartbeats 4000000
namespace CH
open PySem PySem.Spec L2 DL CA CR
end CH


end
section
set_option Elab.async false
set_option linter.all false
set_option maxRecDepth 100000
set_option maxHeartbeats 4000000
namespace CH
open PySem PySem.Spec L2 DL

section
variable {Q : D → Sto → Prop} {E : Str → Sto → Prop} {M : Sto} {n : Nat}
end
end CH


end
section
set_option Elab.async false
set_option linter.all false
set_option maxRecDepth 100000
set_option maxHeartbeats 4000000
namespace CS
open PySem PySem.Spec L2 DL CC CR
end CS


end
section
set_option Elab.async false
set_option linter.all false
set_option maxRecDepth 100000
set_option maxHeartbeats 4000000
namespace CS
open PySem PySem.Spec L2 DL

section
variable {Q : D → Sto → Prop} {E : Str → Sto → Prop} {M : Sto} {k l : Nat} {p q : Rat}
end
end CS


end
section
set_option Elab.async false
set_option linter.all false
set_option maxRecDepth 100000
set_option maxHeartbeats 4000000
namespace CN
open PySem PySem.Spec L2 DL





end CN


end
section
set_option Elab.async false
set_option linter.all false
set_option maxRecDepth 100000
set_option maxHeartbeats 4000000
namespace CN
open PySem PySem.Spec L2 DL


noncomputable def cq (hs : List Rat) (i : Int) : Rat := hs.getD (i % hs.length).toNat 0
section
variable {Q : D → Sto → Prop} {E : Str → Sto → Prop} {M : Sto} {k l : Nat} {p q : Rat} {n m : Nat} {rs : List Pt} {hs : List Rat} {i : Int}
end
end CN


end
section
set_option Elab.async false
set_option linter.all false
set_option maxRecDepth 100000
set_option maxHeartbeats 4000000
namespace CN
open PySem PySem.Spec L2 DL


section
variable {Q : D → Sto → Prop} {E : Str → Sto → Prop} {M : Sto} {k l : Nat} {p q : Rat} {n m : Nat} {rs : List Pt} {hs : List Rat} {i : Int}
end
end CN


end
section
set_option Elab.async false
set_option linter.all false
set_option maxRecDepth 100000
set_option maxHeartbeats 4000000
namespace CN
open PySem PySem.Spec L2 DL


noncomputable def sm (f : Int → Rat) : Nat → Rat
  | 0 => 0
  | n + 1 => sm f n + f n
end CN


end
section
set_option Elab.async false
set_option linter.all false
set_option maxRecDepth 100000
set_option maxHeartbeats 4000000
namespace CU
open PySem PySem.Spec L2 DL




end CU


end
section
set_option Elab.async false
set_option linter.all false
set_option maxRecDepth 100000
set_option maxHeartbeats 4000000
namespace CU
open PySem PySem.Spec L2 DL


open CN CS
noncomputable def thr (rs : List Pt) (hs : List Rat) : Rat × Rat := (cq hs 0 * (cy rs 1).2 - cq hs 1 * (cy rs 0).2, cq hs 1 * (cy rs 0).1 - cq hs 0 * (cy rs 1).1)
section
variable {Q : D → Sto → Prop} {E : Str → Sto → Prop} {M : Sto} {k l : Nat} {p q : Rat} {n m o : Nat} {rs : List Pt} {hs xs ys : List Rat} {i : Int}
end
end CU


end
section
set_option Elab.async false
set_option linter.all false
set_option maxRecDepth 100000
set_option maxHeartbeats 4000000
namespace CV
open PySem PySem.Spec L2 DL


open CN CU CS
noncomputable def Kp (M M' : Sto) : Prop := M.length ≤ M'.length ∧ ∀ j < M.length, M'[j]? = M[j]?
section
variable {M M' M1 M2 : Sto} {o : SO} {j : Nat}
theorem Kp.get (k : Kp M M') (h : M[j]? = some o) : M'[j]? = some o := (k.2 _ (lt_get h)).trans h
theorem Kp.trans (a : Kp M M1) (b : Kp M1 M2) : Kp M M2 := ⟨Nat.le_trans a.1 b.1, fun j h => (b.2 j (Nat.lt_of_lt_of_le h a.1)).trans (a.2 j h)⟩
theorem Kp.app {L : Sto} : Kp M (M ++ L) := ⟨by simp, fun j h => s_old h⟩
theorem Kp.gr {n : Nat} (k : Kp M M') (b : Bag n M) : Gr n M M' := CY.Gr.of b k.1 k.2
end
section
variable {Q : D → Sto → Prop} {E : Str → Sto → Prop} {M : Sto} {k l : Nat} {p q : Rat} {n m o : Nat} {rs : List Pt} {hs xs ys zs u v : List Rat} {i : Int} {f : Ev} {ρ : Ro} {mu mv N : Nat}
theorem all_true {N : Nat} : boolsD ((List.range N).map fun _ => D.bl true) = some (List.replicate N true) := by
  have : ∀ xs : List Nat, boolsD (xs.map fun _ => D.bl true) = some (List.replicate xs.length true) := by
    intro xs
    induction xs with
    | nil => rfl
    | cons x xs ih => simp only [List.map_cons, boolsD, ih, List.length_cons, List.replicate_succ]
  rw [this, List.length_range]
end
end CV


end
section

end
section

end
section

end
section

end
section

end
section

end
section

end
section

end
section

end
section

end
section

end
section

end
section

end
section

end
section
set_option Elab.async false
set_option linter.all false
set_option maxRecDepth 100000
set_option maxHeartbeats 4000000
namespace CB
open DL
section
variable {u v w : Pt}
noncomputable def kl : List Pt → List Int
  | a :: b :: d :: r => X a d :: kl (b :: d :: r)
  | _ => []
theorem Xvv (p : Pt) : X p p = 0 := by unfold X; grind
theorem desc : ∀ (r : List Pt) (a b : Pt) (v : Pt), Ch (a :: b :: r) → Cv (a :: b :: r) → (b :: r).getLast (by simp) = v → 0 ≤ X b v ∧ X b v < X a v
  | [], a, b, v, h, _, e => by
    have : b = v := e
    subst this
    rw [Xvv, h.1]
    omega
  | c :: r, a, b, v, h, k, e => by
    have ih := desc r b c v h.2 k.2 (by rw [← e]; simp [List.getLast_cons])
    obtain ⟨m, m2, e1, e2⟩ := k.1
    have ex : X a v + X c v = m * X b v := by unfold X; grind
    have : 2 * X b v ≤ m * X b v := Int.mul_le_mul_of_nonneg_right m2 (by omega)
    omega
theorem ceil_eq {t b k c : Int} (hb : 0 < b) (h0 : 0 ≤ c) (h1 : c < b) (e : t + c = k * b) : -((-t) / b) = k := by
  have : -t = c + b * (-k) := by grind
  rw [this, Int.add_mul_ediv_left _ _ (by omega), Int.ediv_eq_zero_of_lt h0 h1]
  omega
theorem only : ∀ (ws : List Pt) (u v w : Pt), Ch (u :: (ws ++ [v])) → Cv (u :: (ws ++ [v])) → Fb u v w → ws = btw u w (hj (X u v) (X w v)) ∧ kl (u :: (ws ++ [v])) = hj (X u v) (X w v)
  | [], u, v, w, h, k, f => by
    have h1 : X u v = 1 := h.1
    have l := f.lo
    have l2 := f.hi
    have w0 : X w v = 0 := by omega
    rw [w0]
    unfold hj
    rw [dif_neg (by decide)]
    exact ⟨rfl, rfl⟩
  | x :: ws, u, v, w, h, k, f => by
    have hl : (x :: (ws ++ [v])).getLast (by simp) = v := by simp [List.getLast_cons]
    have d := desc (ws ++ [v]) u x v h k hl
    have fx : Fb u v x := ⟨h.1, d.1, d.2⟩
    have ew := fx.uniq f
    subst ew
    obtain ⟨y, R, eR⟩ : ∃ y R, ws ++ [v] = y :: R := by
      cases ws with
      | nil => exact ⟨v, [], rfl⟩
      | cons y R => exact ⟨y, R ++ [v], rfl⟩
    have h' : Ch (x :: y :: R) := by rw [← eR]; exact h.2
    have kk : Cv (u :: x :: y :: R) := by rw [← eR]; exact k
    have hl2 : (y :: R).getLast (by simp) = v := by
      have : (ws ++ [v]).getLast (by simp) = v := by simp
      simpa [eR] using this
    have d2 := desc R x y v h' kk.2 hl2
    obtain ⟨m, m2, e1, e2⟩ := kk.1
    have ex : X u v + X y v = m * X x v := by unfold X; grind
    have hc := ceil_eq (by omega) d2.1 d2.2 ex
    have ey : (m * x.1 - u.1, m * x.2 - u.2) = y := by apply Prod.ext <;> simp only <;> omega
    have m3 : X u y = m := by
      have := h.1
      rw [← ey]
      unfold X at *
      simp only
      grind
    have fy : Fb x v y := ⟨h'.1, d2.1, d2.2⟩
    have ih := only ws x v y (by rw [eR]; exact h') (by rw [eR]; exact kk.2) fy
    have ej : hj (X u v) (X x v) = m :: hj (X x v) (X y v) := by
      rw [hj, dif_pos (by omega), hc]
      congr 2
      omega
    rw [ej]
    constructor
    · rw [btw, ey, ← ih.1]
    · show kl (u :: x :: (ws ++ [v])) = _
      rw [eR, kl, m3, ← eR, ih.2]
end
end CB


end
section

end
section

end
section

end
section

end
section

end
section

end
section

end
section

end
section
set_option Elab.async false
set_option linter.all false
set_option maxRecDepth 100000
set_option maxHeartbeats 4000000
namespace K11
open PySem PySem.Spec L2 DL
noncomputable def top (i : Nat) : Stmt := PySem.Challenge.pw_rayround_k11_rays_between.main.body.getD i (.Pass ⟨0, 0, 0, 0⟩)
structure Txt (K : PySem.W.Frag) (mg : Str → Option Value) : Prop where
  gl : ∀ c v, PySem.W.nsIn K mainGlobals c = some (some v) → mg c = some v
  b_len : mg "len" = none
  b_int : mg "int" = none
  b_abs : mg "abs" = none
  b_isinstance : mg "isinstance" = none
  b_bool : mg "bool" = none
  b_tuple : mg "tuple" = none
  b_list : mg "list" = none
  b_all : mg "all" = none
  b_zip : mg "zip" = none
  b_min : mg "min" = none
  b_max : mg "max" = none
  b_range : mg "range" = none
  ex_NoWedge : exOk K "NoWedge" = true
section
variable {P : Program} {w : World} {K : PySem.W.Frag} {mg : Str → Option Value} {base : Heap}
noncomputable abbrev s_crossed : Stmt := top 4
noncomputable def g_crossed : Sv := (sRet (e2 dSub (e2 dMul (e2 dIx (eVar 0) (eC (.int 0))) (e2 dIx (eVar 1) (eC (.int 1)))) (e2 dMul (e2 dIx (eVar 0) (eC (.int 1))) (e2 dIx (eVar 1) (eC (.int 0))))))
noncomputable def F_crossed : List D → Sto → Out D := fnF g_crossed 2 0
theorem sc_crossed : FnScope ["one", "other"] ["one", "other"] (defScope s_crossed) := ⟨rfl, rfl, rfl, by decide +kernel, rfl, by decide +kernel, by decide +kernel⟩
theorem ok_crossed {f : Addr} {fd : FuncData} (F : Fun K "crossed" "crossed" s_crossed f fd) (T : Txt K mg) : FnOk P w K mg base (CXE P w) 1 f fd ["one", "other"] (spD K F_crossed) :=
  fn_ok F sc_crossed rfl rfl fun cdv A outer s H E hr θ => (dss_one (ds_ret (de_sub (de_mul (de_ix (de_var 0) de_int) (de_ix (de_var 1) de_int)) (de_mul (de_ix (de_var 0) de_int) (de_ix (de_var 1) de_int)))))
noncomputable abbrev s_partner : Stmt := top 6
noncomputable def g_partner_b1 : Sv := (sSeq (sAsg (gNm 5) (e2 dDiv (eVar 1) (eVar 2)))
  (sSeq (sPar 1 2 (aCons (eVar 2) (aCons (e2 dSub (eVar 1) (e2 dMul (eVar 5) (eVar 2))) aNil)))
  (sPar 3 4 (aCons (eVar 4) (aCons (eTup (aCons (e2 dSub (e2 dIx (eVar 3) (eC (.int 0))) (e2 dMul (eVar 5) (e2 dIx (eVar 4) (eC (.int 0))))) (aCons (e2 dSub (e2 dIx (eVar 3) (eC (.int 1))) (e2 dMul (eVar 5) (e2 dIx (eVar 4) (eC (.int 1))))) aNil))) aNil)))))
noncomputable def g_partner : Sv := (sSeq (sAsg (gTp (gCs (gNm 1) (gCs (gNm 2) gNl))) (eVar 0))
  (sSeq (sAsg (gTp (gCs (gNm 3) (gCs (gNm 4) gNl))) (eTup (aCons (eTup (aCons (eC (.int 0)) (aCons (eC (.int 1)) aNil))) (aCons (eTup (aCons (eNeg (eC (.int 1))) (aCons (eC (.int 0)) aNil))) aNil))))
  (sSeq (sWh (tv (e2 dNe (eVar 2) (eC (.int 0)))) g_partner_b1)
  (sRet (eTup (aCons (e2 dMul (eVar 1) (e2 dIx (eVar 3) (eC (.int 0)))) (aCons (e2 dMul (eVar 1) (e2 dIx (eVar 3) (eC (.int 1)))) aNil)))))))
noncomputable def F_partner : List D → Sto → Out D := fnF g_partner 1 5
theorem sc_partner : FnScope ["ray", "high", "low", "first", "second", "many"] ["ray"] (defScope s_partner) := ⟨rfl, rfl, rfl, by decide +kernel, rfl, by decide +kernel, by decide +kernel⟩
theorem ok_partner {f : Addr} {fd : FuncData} (F : Fun K "partner" "partner" s_partner f fd) (T : Txt K mg) : FnOk P w K mg base (CXE P w) 101 f fd ["ray"] (spD K F_partner) :=
  fn_ok F sc_partner rfl rfl fun cdv A outer s H E hr θ => (dss_cons (ds_asg (de_var 0) (dg_tup (calm_of hr (by decide)) (dgs_cons (dg_name 1 sc_partner.nd) (dgs_cons (dg_name 2 sc_partner.nd) dgs_nil)) (hlen := (gCs_len (gCs_len (fun _ _ _ h => gNl_len h))))))
    (dss_cons (ds_asg (de_tup (da_cons (de_tup (da_cons de_int (da_cons de_int da_nil))) (da_cons (de_tup (da_cons (de_neg de_int) (da_cons de_int da_nil))) da_nil))) (dg_tup (calm_of hr (by decide)) (dgs_cons (dg_name 3 sc_partner.nd) (dgs_cons (dg_name 4 sc_partner.nd) dgs_nil)) (hlen := (gCs_len (gCs_len (fun _ _ _ h => gNl_len h))))))
    (dss_cons (ds_while θ.own (dt_cmp (op_neD hr.units) bo_ne (de_var 2) de_int) (dss_cons (ds_set 5 sc_partner.nd (de_div (de_var 1) (de_var 2)))
    (dss_cons (ds_par 1 2 (calm_of hr (by decide)) sc_partner.nd (da_cons (de_var 2) (da_cons (de_sub (de_var 1) (de_mul (de_var 5) (de_var 2))) da_nil)))
    (dss_one (ds_par 3 4 (calm_of hr (by decide)) sc_partner.nd (da_cons (de_var 4) (da_cons (de_tup (da_cons (de_sub (de_ix (de_var 3) de_int) (de_mul (de_var 5) (de_ix (de_var 4) de_int))) (da_cons (de_sub (de_ix (de_var 3) de_int) (de_mul (de_var 5) (de_ix (de_var 4) de_int))) da_nil))) da_nil)))))))
    (dss_one (ds_ret (de_tup (da_cons (de_mul (de_var 1) (de_ix (de_var 3) de_int)) (da_cons (de_mul (de_var 1) (de_ix (de_var 3) de_int)) da_nil))))))))
noncomputable abbrev s_first_behind : Stmt := top 7
noncomputable def g_first_behind : Sv := (sSeq (sAsg (gNm 2) (eCall F_partner (aCons (eVar 0) aNil)))
  (sSeq (sAsg (gNm 3) (e2 dDiv (eCall F_crossed (aCons (eVar 2) (aCons (eVar 1) aNil))) (eCall F_crossed (aCons (eVar 0) (aCons (eVar 1) aNil)))))
  (sRet (eTup (aCons (e2 dSub (e2 dIx (eVar 2) (eC (.int 0))) (e2 dMul (eVar 3) (e2 dIx (eVar 0) (eC (.int 0))))) (aCons (e2 dSub (e2 dIx (eVar 2) (eC (.int 1))) (e2 dMul (eVar 3) (e2 dIx (eVar 0) (eC (.int 1))))) aNil))))))
noncomputable def F_first_behind : List D → Sto → Out D := fnF g_first_behind 2 2
theorem sc_first_behind : FnScope ["u", "v", "w", "many"] ["u", "v"] (defScope s_first_behind) := ⟨rfl, rfl, rfl, by decide +kernel, rfl, by decide +kernel, by decide +kernel⟩
theorem ok_first_behind {f : Addr} {fd : FuncData} (F : Fun K "first_behind" "first_behind" s_first_behind f fd) (T : Txt K mg) (C_partner : Cal P w K mg base "partner" 101 1 F_partner) (C_crossed : Cal P w K mg base "crossed" 1 2 F_crossed) : FnOk P w K mg base (CXE P w) 102 f fd ["u", "v"] (spD K F_first_behind) :=
  fn_ok F sc_first_behind rfl rfl fun cdv A outer s H E hr θ => (dss_cons (ds_set 2 sc_first_behind.nd (de_callC C_partner θ (hr.mono (by decide)) (da_cons (de_var 0) da_nil)))
    (dss_cons (ds_set 3 sc_first_behind.nd (de_div (de_callC C_crossed θ (hr.mono (by decide)) (da_cons (de_var 2) (da_cons (de_var 1) da_nil))) (de_callC C_crossed θ (hr.mono (by decide)) (da_cons (de_var 0) (da_cons (de_var 1) da_nil)))))
    (dss_one (ds_ret (de_tup (da_cons (de_sub (de_ix (de_var 2) de_int) (de_mul (de_var 3) (de_ix (de_var 0) de_int))) (da_cons (de_sub (de_ix (de_var 2) de_int) (de_mul (de_var 3) (de_ix (de_var 0) de_int))) da_nil)))))))
noncomputable abbrev s_expanded : Stmt := top 8
noncomputable def g_expanded_b1 : Sv := (sSeq (sAsg (gNm 3) (eNeg (e2 dDiv (eNeg (eVar 0)) (eVar 1))))
  (sSeq (sDrop (eMtL mApp (eVar 2) (aCons (eVar 3) aNil)))
  (sPar 0 1 (aCons (eVar 1) (aCons (e2 dSub (e2 dMul (eVar 3) (eVar 1)) (eVar 0)) aNil)))))
noncomputable def g_expanded : Sv := (sSeq (sAsg (gNm 2) (eLst aNil))
  (sSeq (sWh (tv (e2 dNe (eVar 1) (eC (.int 0)))) g_expanded_b1)
  (sRet (eVar 2))))
noncomputable def F_expanded : List D → Sto → Out D := fnF g_expanded 2 2
theorem sc_expanded : FnScope ["top", "bottom", "numbers", "number"] ["top", "bottom"] (defScope s_expanded) := ⟨rfl, rfl, rfl, by decide +kernel, rfl, by decide +kernel, by decide +kernel⟩
theorem ok_expanded {f : Addr} {fd : FuncData} (F : Fun K "expanded" "expanded" s_expanded f fd) (T : Txt K mg) : FnOk P w K mg base (CXE P w) 101 f fd ["top", "bottom"] (spD K F_expanded) :=
  fn_ok F sc_expanded rfl rfl fun cdv A outer s H E hr θ => (dss_cons (ds_set 2 sc_expanded.nd (de_lst da_nil))
    (dss_cons (ds_while θ.own (dt_cmp (op_neD hr.units) bo_ne (de_var 1) de_int) (dss_cons (ds_set 3 sc_expanded.nd (de_neg (de_div (de_neg (de_var 0)) (de_var 1))))
    (dss_cons (ds_expr (de_append (de_var 2) (de_var 3)))
    (dss_one (ds_par 0 1 (calm_of hr (by decide)) sc_expanded.nd (da_cons (de_var 1) (da_cons (de_sub (de_mul (de_var 3) (de_var 1)) (de_var 0)) da_nil)))))))
    (dss_one (ds_ret (de_var 2)))))
noncomputable abbrev s_row : Stmt := top 9
noncomputable def g_row : Sv := (sSeq (sIf (tv (e2 dLe (eCall F_crossed (aCons (eVar 0) (aCons (eVar 1) aNil))) (eC (.int 0)))) (sRaise (PySem.Str.ofString "NoWedge") (aCons (eC (.str (PySem.Str.ofString "the two rays of a wedge, crossed, come to more than 0"))) aNil)) sNil)
  (sRet (eCall F_expanded (aCons (eCall F_crossed (aCons (eVar 0) (aCons (eVar 1) aNil))) (aCons (eCall F_crossed (aCons (eCall F_first_behind (aCons (eVar 0) (aCons (eVar 1) aNil))) (aCons (eVar 1) aNil))) aNil)))))
noncomputable def F_row : List D → Sto → Out D := fnF g_row 2 0
theorem sc_row : FnScope ["u", "v"] ["u", "v"] (defScope s_row) := ⟨rfl, rfl, rfl, by decide +kernel, rfl, by decide +kernel, by decide +kernel⟩
theorem ok_row {f : Addr} {fd : FuncData} (F : Fun K "row" "row" s_row f fd) (T : Txt K mg) (C_crossed : Cal P w K mg base "crossed" 1 2 F_crossed) (C_first_behind : Cal P w K mg base "first_behind" 102 2 F_first_behind) (C_expanded : Cal P w K mg base "expanded" 101 2 F_expanded) : FnOk P w K mg base (CXE P w) 103 f fd ["u", "v"] (spD K F_row) :=
  fn_ok F sc_row rfl rfl fun cdv A outer s H E hr θ => (dss_cons (ds_if (dt_cmp op_le bo_le (de_callC C_crossed θ (hr.mono (by decide)) (da_cons (de_var 0) (da_cons (de_var 1) da_nil))) de_int) (dss_one (ds_raise θ T.ex_NoWedge T.gl (hr.hd (by decide)) (da_cons de_str da_nil))) dss_nil)
    (dss_one (ds_ret (de_callC C_expanded θ (hr.mono (by decide)) (da_cons (de_callC C_crossed θ (hr.mono (by decide)) (da_cons (de_var 0) (da_cons (de_var 1) da_nil))) (da_cons (de_callC C_crossed θ (hr.mono (by decide)) (da_cons (de_callC C_first_behind θ (hr.mono (by decide)) (da_cons (de_var 0) (da_cons (de_var 1) da_nil))) (da_cons (de_var 1) da_nil))) da_nil))))))
noncomputable abbrev s_between : Stmt := top 10
noncomputable def g_between_b1 : Sv := (sSeq (sDrop (eMtL mApp (eVar 3) (aCons (eVar 5) aNil)))
  (sPar 4 5 (aCons (eVar 5) (aCons (eTup (aCons (e2 dSub (e2 dMul (eVar 6) (e2 dIx (eVar 5) (eC (.int 0)))) (e2 dIx (eVar 4) (eC (.int 0)))) (aCons (e2 dSub (e2 dMul (eVar 6) (e2 dIx (eVar 5) (eC (.int 1)))) (e2 dIx (eVar 4) (eC (.int 1)))) aNil))) aNil))))
noncomputable def g_between : Sv := (sSeq (sAsg (gNm 2) (eCall F_row (aCons (eVar 0) (aCons (eVar 1) aNil))))
  (sSeq (sAsg (gNm 3) (eLst aNil))
  (sSeq (sPar 4 5 (aCons (eVar 0) (aCons (eCall F_first_behind (aCons (eVar 0) (aCons (eVar 1) aNil))) aNil)))
  (sSeq (sFor (gNm 6) (eVar 2) g_between_b1)
  (sRet (eVar 3))))))
noncomputable def F_between : List D → Sto → Out D := fnF g_between 2 5
theorem sc_between : FnScope ["u", "v", "numbers", "rays", "ahead", "ray", "number"] ["u", "v"] (defScope s_between) := ⟨rfl, rfl, rfl, by decide +kernel, rfl, by decide +kernel, by decide +kernel⟩
theorem ok_between {f : Addr} {fd : FuncData} (F : Fun K "between" "between" s_between f fd) (T : Txt K mg) (C_row : Cal P w K mg base "row" 103 2 F_row) (C_first_behind : Cal P w K mg base "first_behind" 102 2 F_first_behind) : FnOk P w K mg base (CXE P w) 104 f fd ["u", "v"] (spD K F_between) :=
  fn_ok F sc_between rfl rfl fun cdv A outer s H E hr θ => (dss_cons (ds_set 2 sc_between.nd (de_callC C_row θ (hr.mono (by decide)) (da_cons (de_var 0) (da_cons (de_var 1) da_nil))))
    (dss_cons (ds_set 3 sc_between.nd (de_lst da_nil))
    (dss_cons (ds_par 4 5 (calm_of hr (by decide)) sc_between.nd (da_cons (de_var 0) (da_cons (de_callC C_first_behind θ (hr.mono (by decide)) (da_cons (de_var 0) (da_cons (de_var 1) da_nil))) da_nil)))
    (dss_cons (ds_for θ.own (de_var 2) (dg_name 6 sc_between.nd) (dss_cons (ds_expr (de_append (de_var 3) (de_var 5)))
    (dss_one (ds_par 4 5 (calm_of hr (by decide)) sc_between.nd (da_cons (de_var 5) (da_cons (de_tup (da_cons (de_sub (de_mul (de_var 6) (de_ix (de_var 5) de_int)) (de_ix (de_var 4) de_int)) (da_cons (de_sub (de_mul (de_var 6) (de_ix (de_var 5) de_int)) (de_ix (de_var 4) de_int)) da_nil))) da_nil))))))
    (dss_one (ds_ret (de_var 3)))))))
noncomputable abbrev s_law_purse : Stmt := top 12
noncomputable def g_law_purse : Sv := (sSeq (sAsg (gNm 2) (eC (.int 0)))
  (sSeq (sIf (tv (e2 dLt (eVar 1) (eCall bLen (aCons (eVar 0) aNil)))) (sAsg (gNm 2) (e2 dIx (eVar 0) (eVar 1))) sNil)
  (sSeq (sAsg (gNm 3) (e2 dMod (eVar 2) (e2 dMul (e2 dPow (eC (.int 10)) (eC (.int 60))) (e2 dPow (eC (.int 10)) (eC (.int 30))))))
  (sRet (eLst (aCons (e2 dMul (eVar 3) (eCall bInt (aCons (e2 dGe (eVar 3) (e2 dPow (eC (.int 10)) (eC (.int 18)))) aNil))) (aCons (e2 dAdd (e2 dAdd (e2 dMod (eVar 2) (eC (.int 2147483647))) (e2 dMul (eC (.int 7919)) (eVar 1))) (eC (.int 1))) aNil)))))))
noncomputable def F_law_purse : List D → Sto → Out D := fnF g_law_purse 2 2
theorem sc_law_purse : FnScope ["_law_script", "_law_k", "_law_cell", "_law_large"] ["_law_script", "_law_k"] (defScope s_law_purse) := ⟨rfl, rfl, rfl, by decide +kernel, rfl, by decide +kernel, by decide +kernel⟩
theorem ok_law_purse {f : Addr} {fd : FuncData} (F : Fun K "_law_purse" "_law_purse" s_law_purse f fd) (T : Txt K mg) : FnOk P w K mg base (CXE P w) 1 f fd ["_law_script", "_law_k"] (spD K F_law_purse) :=
  fn_ok F sc_law_purse rfl rfl fun cdv A outer s H E hr θ => (dss_cons (ds_set 2 sc_law_purse.nd de_int)
    (dss_cons (ds_if (dt_cmp op_lt bo_lt (de_var 1) (de_callB call_len_seq co_len T.b_len PySem.boot_len (da_cons (de_var 0) da_nil))) (dss_one (ds_set 2 sc_law_purse.nd (de_ix (de_var 0) (de_var 1)))) dss_nil)
    (dss_cons (ds_set 3 sc_law_purse.nd (de_mod (de_var 2) (de_mul (de_pow de_int de_int) (de_pow de_int de_int))))
    (dss_one (ds_ret (de_lst (da_cons (de_mul (de_var 3) (de_callTy call_int1 co_int T.b_int bb_int (da_cons (de_cmp op_ge bo_ge (de_var 3) (de_pow de_int de_int)) da_nil))) (da_cons (de_add (de_add (de_mod (de_var 2) de_int) (de_mul de_int (de_var 1))) de_int) da_nil))))))))
noncomputable abbrev s_law_take : Stmt := top 13
noncomputable def g_law_take : Sv := (sSeq (sIf (tv (e2 dGt (e2 dIx (eVar 0) (eC (.int 0))) (eC (.int 0)))) (sSeq (sAsg (gNm 2) (e2 dMod (e2 dIx (eVar 0) (eC (.int 0))) (eVar 1)))
  (sSeq (sPut (eVar 0) (eC (.int 0)) (e2 dDiv (e2 dIx (eVar 0) (eC (.int 0))) (eVar 1)))
  (sRet (eVar 2)))) sNil)
  (sSeq (sPut (eVar 0) (eC (.int 1)) (e2 dMod (e2 dAdd (e2 dMul (e2 dIx (eVar 0) (eC (.int 1))) (eC (.int 48271))) (eC (.int 12345))) (eC (.int 2147483647))))
  (sRet (e2 dMod (e2 dDiv (e2 dMod (e2 dMul (e2 dIx (eVar 0) (eC (.int 1))) (eC (.int 69621))) (eC (.int 2147483629))) (eC (.int 5))) (eVar 1)))))
noncomputable def F_law_take : List D → Sto → Out D := fnF g_law_take 2 1
theorem sc_law_take : FnScope ["_law_purse_here", "_law_many", "_law_digit"] ["_law_purse_here", "_law_many"] (defScope s_law_take) := ⟨rfl, rfl, rfl, by decide +kernel, rfl, by decide +kernel, by decide +kernel⟩
theorem ok_law_take {f : Addr} {fd : FuncData} (F : Fun K "_law_take" "_law_take" s_law_take f fd) (T : Txt K mg) : FnOk P w K mg base (CXE P w) 1 f fd ["_law_purse_here", "_law_many"] (spD K F_law_take) :=
  fn_ok F sc_law_take rfl rfl fun cdv A outer s H E hr θ => (dss_cons (ds_if (dt_cmp op_gt bo_gt (de_ix (de_var 0) de_int) de_int) (dss_cons (ds_set 2 sc_law_take.nd (de_mod (de_ix (de_var 0) de_int) (de_var 1)))
    (dss_cons (ds_put (de_var 0) de_int (de_div (de_ix (de_var 0) de_int) (de_var 1)))
    (dss_one (ds_ret (de_var 2))))) dss_nil)
    (dss_cons (ds_put (de_var 0) de_int (de_mod (de_add (de_mul (de_ix (de_var 0) de_int) de_int) de_int) de_int))
    (dss_one (ds_ret (de_mod (de_div (de_mod (de_mul (de_ix (de_var 0) de_int) de_int) de_int) de_int) (de_var 1))))))
noncomputable abbrev s_law_crossed : Stmt := top 14
noncomputable def g_law_crossed : Sv := (sRet (e2 dSub (e2 dMul (e2 dIx (eVar 0) (eC (.int 0))) (e2 dIx (eVar 1) (eC (.int 1)))) (e2 dMul (e2 dIx (eVar 0) (eC (.int 1))) (e2 dIx (eVar 1) (eC (.int 0))))))
noncomputable def F_law_crossed : List D → Sto → Out D := fnF g_law_crossed 2 0
theorem sc_law_crossed : FnScope ["_law_one", "_law_other"] ["_law_one", "_law_other"] (defScope s_law_crossed) := ⟨rfl, rfl, rfl, by decide +kernel, rfl, by decide +kernel, by decide +kernel⟩
theorem ok_law_crossed {f : Addr} {fd : FuncData} (F : Fun K "_law_crossed" "_law_crossed" s_law_crossed f fd) (T : Txt K mg) : FnOk P w K mg base (CXE P w) 1 f fd ["_law_one", "_law_other"] (spD K F_law_crossed) :=
  fn_ok F sc_law_crossed rfl rfl fun cdv A outer s H E hr θ => (dss_one (ds_ret (de_sub (de_mul (de_ix (de_var 0) de_int) (de_ix (de_var 1) de_int)) (de_mul (de_ix (de_var 0) de_int) (de_ix (de_var 1) de_int)))))
noncomputable abbrev s_law_short : Stmt := top 15
noncomputable def g_law_short_b1 : Sv := (sPar 1 2 (aCons (eVar 2) (aCons (e2 dMod (eVar 1) (eVar 2)) aNil)))
noncomputable def g_law_short : Sv := (sSeq (sPar 1 2 (aCons (eCall bAbs (aCons (e2 dIx (eVar 0) (eC (.int 0))) aNil)) (aCons (eCall bAbs (aCons (e2 dIx (eVar 0) (eC (.int 1))) aNil)) aNil)))
  (sSeq (sWh (tv (e2 dGt (eVar 2) (eC (.int 0)))) g_law_short_b1)
  (sSeq (sIf (tv (e2 dEq (eVar 1) (eC (.int 0)))) (sRet (eTup (aCons (eC (.int 1)) (aCons (eC (.int 0)) aNil)))) sNil)
  (sRet (eTup (aCons (e2 dDiv (e2 dIx (eVar 0) (eC (.int 0))) (eVar 1)) (aCons (e2 dDiv (e2 dIx (eVar 0) (eC (.int 1))) (eVar 1)) aNil)))))))
noncomputable def F_law_short : List D → Sto → Out D := fnF g_law_short 1 2
theorem sc_law_short : FnScope ["_law_pair", "_law_one", "_law_other"] ["_law_pair"] (defScope s_law_short) := ⟨rfl, rfl, rfl, by decide +kernel, rfl, by decide +kernel, by decide +kernel⟩
theorem ok_law_short {f : Addr} {fd : FuncData} (F : Fun K "_law_short" "_law_short" s_law_short f fd) (T : Txt K mg) : FnOk P w K mg base (CXE P w) 101 f fd ["_law_pair"] (spD K F_law_short) :=
  fn_ok F sc_law_short rfl rfl fun cdv A outer s H E hr θ => (dss_cons (ds_par 1 2 (calm_of hr (by decide)) sc_law_short.nd (da_cons (de_callB call_abs co_abs T.b_abs bb_abs (da_cons (de_ix (de_var 0) de_int) da_nil)) (da_cons (de_callB call_abs co_abs T.b_abs bb_abs (da_cons (de_ix (de_var 0) de_int) da_nil)) da_nil)))
    (dss_cons (ds_while θ.own (dt_cmp op_gt bo_gt (de_var 2) de_int) (dss_one (ds_par 1 2 (calm_of hr (by decide)) sc_law_short.nd (da_cons (de_var 2) (da_cons (de_mod (de_var 1) (de_var 2)) da_nil)))))
    (dss_cons (ds_if (dt_cmp (op_eqD hr.units) bo_eq (de_var 1) de_int) (dss_one (ds_ret (de_tup (da_cons de_int (da_cons de_int da_nil))))) dss_nil)
    (dss_one (ds_ret (de_tup (da_cons (de_div (de_ix (de_var 0) de_int) (de_var 1)) (da_cons (de_div (de_ix (de_var 0) de_int) (de_var 1)) da_nil))))))))
noncomputable abbrev s_law_wedge : Stmt := top 16
noncomputable def g_law_wedge : Sv := (sSeq (sAsg (gNm 1) (e2 dIx (eLst (aCons (eC (.int 4)) (aCons (eC (.int 12)) (aCons (eC (.int 30)) (aCons (eC (.int 200)) aNil))))) (eCall F_law_take (aCons (eVar 0) (aCons (eC (.int 4)) aNil)))))
  (sSeq (sAsg (gNm 2) (eCall F_law_short (aCons (eTup (aCons (e2 dSub (eCall F_law_take (aCons (eVar 0) (aCons (e2 dAdd (e2 dMul (eC (.int 2)) (eVar 1)) (eC (.int 1))) aNil))) (eVar 1)) (aCons (e2 dSub (eCall F_law_take (aCons (eVar 0) (aCons (e2 dAdd (e2 dMul (eC (.int 2)) (eVar 1)) (eC (.int 1))) aNil))) (eVar 1)) aNil))) aNil)))
  (sSeq (sAsg (gNm 3) (eCall F_law_short (aCons (eTup (aCons (e2 dSub (eCall F_law_take (aCons (eVar 0) (aCons (e2 dAdd (e2 dMul (eC (.int 2)) (eVar 1)) (eC (.int 1))) aNil))) (eVar 1)) (aCons (e2 dSub (eCall F_law_take (aCons (eVar 0) (aCons (e2 dAdd (e2 dMul (eC (.int 2)) (eVar 1)) (eC (.int 1))) aNil))) (eVar 1)) aNil))) aNil)))
  (sSeq (sIf (tv (e2 dLt (eCall F_law_crossed (aCons (eVar 2) (aCons (eVar 3) aNil))) (eC (.int 0)))) (sPar 2 3 (aCons (eVar 3) (aCons (eVar 2) aNil))) sNil)
  (sSeq (sIf (tv (e2 dEq (eCall F_law_crossed (aCons (eVar 2) (aCons (eVar 3) aNil))) (eC (.int 0)))) (sAsg (gNm 3) (eTup (aCons (e2 dSub (eC (.int 0)) (e2 dIx (eVar 2) (eC (.int 1)))) (aCons (e2 dIx (eVar 2) (eC (.int 0))) aNil)))) sNil)
  (sRet (eTup (aCons (eVar 2) (aCons (eVar 3) aNil)))))))))
noncomputable def F_law_wedge : List D → Sto → Out D := fnF g_law_wedge 1 3
theorem sc_law_wedge : FnScope ["_law_purse_here", "_law_size", "_law_u", "_law_v"] ["_law_purse_here"] (defScope s_law_wedge) := ⟨rfl, rfl, rfl, by decide +kernel, rfl, by decide +kernel, by decide +kernel⟩
theorem ok_law_wedge {f : Addr} {fd : FuncData} (F : Fun K "_law_wedge" "_law_wedge" s_law_wedge f fd) (T : Txt K mg) (C_law_take : Cal P w K mg base "_law_take" 1 2 F_law_take) (C_law_short : Cal P w K mg base "_law_short" 101 1 F_law_short) (C_law_crossed : Cal P w K mg base "_law_crossed" 1 2 F_law_crossed) : FnOk P w K mg base (CXE P w) 102 f fd ["_law_purse_here"] (spD K F_law_wedge) :=
  fn_ok F sc_law_wedge rfl rfl fun cdv A outer s H E hr θ => (dss_cons (ds_set 1 sc_law_wedge.nd (de_ix (de_lst (da_cons de_int (da_cons de_int (da_cons de_int (da_cons de_int da_nil))))) (de_callC C_law_take θ (hr.mono (by decide)) (da_cons (de_var 0) (da_cons de_int da_nil)))))
    (dss_cons (ds_set 2 sc_law_wedge.nd (de_callC C_law_short θ (hr.mono (by decide)) (da_cons (de_tup (da_cons (de_sub (de_callC C_law_take θ (hr.mono (by decide)) (da_cons (de_var 0) (da_cons (de_add (de_mul de_int (de_var 1)) de_int) da_nil))) (de_var 1)) (da_cons (de_sub (de_callC C_law_take θ (hr.mono (by decide)) (da_cons (de_var 0) (da_cons (de_add (de_mul de_int (de_var 1)) de_int) da_nil))) (de_var 1)) da_nil))) da_nil)))
    (dss_cons (ds_set 3 sc_law_wedge.nd (de_callC C_law_short θ (hr.mono (by decide)) (da_cons (de_tup (da_cons (de_sub (de_callC C_law_take θ (hr.mono (by decide)) (da_cons (de_var 0) (da_cons (de_add (de_mul de_int (de_var 1)) de_int) da_nil))) (de_var 1)) (da_cons (de_sub (de_callC C_law_take θ (hr.mono (by decide)) (da_cons (de_var 0) (da_cons (de_add (de_mul de_int (de_var 1)) de_int) da_nil))) (de_var 1)) da_nil))) da_nil)))
    (dss_cons (ds_if (dt_cmp op_lt bo_lt (de_callC C_law_crossed θ (hr.mono (by decide)) (da_cons (de_var 2) (da_cons (de_var 3) da_nil))) de_int) (dss_one (ds_par 2 3 (calm_of hr (by decide)) sc_law_wedge.nd (da_cons (de_var 3) (da_cons (de_var 2) da_nil)))) dss_nil)
    (dss_cons (ds_if (dt_cmp (op_eqD hr.units) bo_eq (de_callC C_law_crossed θ (hr.mono (by decide)) (da_cons (de_var 2) (da_cons (de_var 3) da_nil))) de_int) (dss_one (ds_set 3 sc_law_wedge.nd (de_tup (da_cons (de_sub de_int (de_ix (de_var 2) de_int)) (da_cons (de_ix (de_var 2) de_int) da_nil))))) dss_nil)
    (dss_one (ds_ret (de_tup (da_cons (de_var 2) (da_cons (de_var 3) da_nil))))))))))
noncomputable abbrev s_law_is_whole : Stmt := top 17
noncomputable def g_law_is_whole : Sv := (sRet (eAnd2 (eIsi "int" (eVar 0)) (eNot1 (eIsi "bool" (eVar 0)))))
noncomputable def F_law_is_whole : List D → Sto → Out D := fnF g_law_is_whole 1 0
theorem sc_law_is_whole : FnScope ["_law_thing"] ["_law_thing"] (defScope s_law_is_whole) := ⟨rfl, rfl, rfl, by decide +kernel, rfl, by decide +kernel, by decide +kernel⟩
theorem ok_law_is_whole {f : Addr} {fd : FuncData} (F : Fun K "_law_is_whole" "_law_is_whole" s_law_is_whole f fd) (T : Txt K mg) : FnOk P w K mg base (CXE P w) 1 f fd ["_law_thing"] (spD K F_law_is_whole) :=
  fn_ok F sc_law_is_whole rfl rfl fun cdv A outer s H E hr θ => (dss_one (ds_ret (de_and (de_isi kit_int T.b_isinstance T.b_int bb_int (de_var 0)) (de_one (de_not (de_isi kit_bool T.b_isinstance T.b_bool bb_bool (de_var 0)))))))
noncomputable abbrev s_law_is_pair : Stmt := top 18
noncomputable def g_law_is_pair : Sv := (sRet (eAnd2 (eIsi "tuple" (eVar 0)) (eAnd2 (e2 dEq (eCall bLen (aCons (eVar 0) aNil)) (eC (.int 2))) (eAnd2 (eCall F_law_is_whole (aCons (e2 dIx (eVar 0) (eC (.int 0))) aNil)) (eCall F_law_is_whole (aCons (e2 dIx (eVar 0) (eC (.int 1))) aNil))))))
noncomputable def F_law_is_pair : List D → Sto → Out D := fnF g_law_is_pair 1 0
theorem sc_law_is_pair : FnScope ["_law_thing"] ["_law_thing"] (defScope s_law_is_pair) := ⟨rfl, rfl, rfl, by decide +kernel, rfl, by decide +kernel, by decide +kernel⟩
theorem ok_law_is_pair {f : Addr} {fd : FuncData} (F : Fun K "_law_is_pair" "_law_is_pair" s_law_is_pair f fd) (T : Txt K mg) (C_law_is_whole : Cal P w K mg base "_law_is_whole" 1 1 F_law_is_whole) : FnOk P w K mg base (CXE P w) 2 f fd ["_law_thing"] (spD K F_law_is_pair) :=
  fn_ok F sc_law_is_pair rfl rfl fun cdv A outer s H E hr θ => (dss_one (ds_ret (de_and (de_isi kit_tuple T.b_isinstance T.b_tuple bb_tuple (de_var 0)) (de_and (de_cmp (op_eqD hr.units) bo_eq (de_callB call_len_seq co_len T.b_len PySem.boot_len (da_cons (de_var 0) da_nil)) de_int) (de_and (de_callC C_law_is_whole θ (hr.mono (by decide)) (da_cons (de_ix (de_var 0) de_int) da_nil)) (de_one (de_callC C_law_is_whole θ (hr.mono (by decide)) (da_cons (de_ix (de_var 0) de_int) da_nil))))))))
noncomputable abbrev s_law_good : Stmt := top 19
noncomputable def g_law_good_b1 : Sv := (sIf (tv (e2 dNe (eCall F_law_crossed (aCons (eVar 5) (aCons (eVar 6) aNil))) (eC (.int 1)))) (sRet (eC (.bl false))) sNil)
noncomputable def g_law_good_b2 : Sv := (sSeq (sIf (tOr2 (tNot1 (tv (eCall F_law_is_whole (aCons (eVar 10) aNil)))) (tv (e2 dLt (eVar 10) (eC (.int 2))))) (sRet (eC (.bl false))) sNil)
  (sIf (tv (e2 dNe (eTup (aCons (e2 dAdd (e2 dIx (eVar 7) (eC (.int 0))) (e2 dIx (eVar 9) (eC (.int 0)))) (aCons (e2 dAdd (e2 dIx (eVar 7) (eC (.int 1))) (e2 dIx (eVar 9) (eC (.int 1)))) aNil))) (eTup (aCons (e2 dMul (eVar 10) (e2 dIx (eVar 8) (eC (.int 0)))) (aCons (e2 dMul (eVar 10) (e2 dIx (eVar 8) (eC (.int 1)))) aNil))))) (sRet (eC (.bl false))) sNil))
noncomputable def g_law_good : Sv := (sSeq (sIf (tOr2 (tNot1 (tv (eIsi "list" (eVar 2)))) (tOr2 (tNot1 (tv (eIsi "list" (eVar 3)))) (tv (e2 dNe (eCall bLen (aCons (eVar 2) aNil)) (eCall bLen (aCons (eVar 3) aNil)))))) (sRet (eC (.bl false))) sNil)
  (sSeq (sIf (tNot1 (tv (eCall bAll (aCons (eComp (iSq (eVar 2)) 1 [] (gNm 0) (fun _ M => .ok true M) (eCall F_law_is_pair (aCons (eVar 0) aNil))) aNil)))) (sRet (eC (.bl false))) sNil)
  (sSeq (sAsg (gNm 4) (e2 dAdd (e2 dAdd (eLst (aCons (eVar 0) aNil)) (eVar 2)) (eLst (aCons (eVar 1) aNil))))
  (sSeq (sForS (gTp (gCs (gNm 5) (gCs (gNm 6) gNl))) (iZp (aCons (eVar 4) (aCons (eSl (eVar 4) (oSo (eC (.int 1))) oNo) aNil))) g_law_good_b1)
  (sSeq (sForS (gTp (gCs (gNm 7) (gCs (gNm 8) (gCs (gNm 9) (gCs (gNm 10) gNl))))) (DL4.iZs (aCons (eVar 4) (aCons (eVar 2) (aCons (eSl (eVar 4) (oSo (eC (.int 2))) oNo) (aCons (eVar 3) aNil))))) g_law_good_b2)
  (sRet (eC (.bl true))))))))
noncomputable def F_law_good : List D → Sto → Out D := fnF g_law_good 4 7
theorem sc_law_good : FnScope ["_law_u", "_law_v", "_law_rays", "_law_line", "_law_some", "_law_one", "_law_other", "_law_ahead", "_law_ray", "_law_behind", "_law_number"] ["_law_u", "_law_v", "_law_rays", "_law_line"] (defScope s_law_good) := ⟨rfl, rfl, rfl, by decide +kernel, rfl, by decide +kernel, by decide +kernel⟩
theorem ok_law_good {f : Addr} {fd : FuncData} (F : Fun K "_law_good" "_law_good" s_law_good f fd) (T : Txt K mg) (C_law_is_pair : Cal P w K mg base "_law_is_pair" 2 1 F_law_is_pair) (C_law_crossed : Cal P w K mg base "_law_crossed" 1 2 F_law_crossed) (C_law_is_whole : Cal P w K mg base "_law_is_whole" 1 1 F_law_is_whole) : FnOk P w K mg base (CXE P w) 101 f fd ["_law_u", "_law_v", "_law_rays", "_law_line"] (spD K F_law_good) :=
  fn_ok F sc_law_good rfl rfl fun cdv A outer s H E hr θ => (dss_cons (ds_if (dt_w (dw_or (dt_not (dt_val (de_isi kit_list T.b_isinstance T.b_list bb_list (de_var 2)))) (dw_or (dt_not (dt_val (de_isi kit_list T.b_isinstance T.b_list bb_list (de_var 3)))) (dw_or1 (dt_cmp (op_neD hr.units) bo_ne (de_callB call_len_seq co_len T.b_len PySem.boot_len (da_cons (de_var 2) da_nil)) (de_callB call_len_seq co_len T.b_len PySem.boot_len (da_cons (de_var 3) da_nil))))))) (dss_one (ds_ret de_bl)) dss_nil)
    (dss_cons (ds_if (dt_not (dt_val (de_callB (call_all (calm_of hr (by decide))) co_all T.b_all bb_all (da_cons (de_comp (blk0 (N := ["_law_ray"]) (k := 1) (by decide +kernel) rfl (by decide +kernel) rfl) (di_seq (de_var 2)) (fun _ _ _ _ => (dg_name 0 (show List.Nodup (["_law_ray"] : List Str) by decide +kernel))) (fun _ _ _ _ => (Or.inl ⟨rfl, rfl⟩)) (fun _ _ _ _ => (de_callC C_law_is_pair thr_blk (hr.mono (by decide)) (da_cons (de_var 0) da_nil)))) da_nil)))) (dss_one (ds_ret de_bl)) dss_nil)
    (dss_cons (ds_set 4 sc_law_good.nd (de_add (de_add (de_lst (da_cons (de_var 0) da_nil)) (de_var 2)) (de_lst (da_cons (de_var 1) da_nil))))
    (dss_cons (ds_forS θ.own (di_zip (hr.hd (by decide)) T.b_zip (da_cons (de_var 4) (da_cons (de_sl (de_var 4) (do_so de_int) do_no) da_nil))) (dg_tup (calm_of hr (by decide)) (dgs_cons (dg_name 5 sc_law_good.nd) (dgs_cons (dg_name 6 sc_law_good.nd) dgs_nil)) (hlen := (gCs_len (gCs_len (fun _ _ _ h => gNl_len h))))) (dss_one (ds_if (dt_cmp (op_neD hr.units) bo_ne (de_callC C_law_crossed θ (hr.mono (by decide)) (da_cons (de_var 5) (da_cons (de_var 6) da_nil))) de_int) (dss_one (ds_ret de_bl)) dss_nil)))
    (dss_cons (ds_forS θ.own (DL4.di_zip (hr.hd (by decide)) T.b_zip (da_cons (de_var 4) (da_cons (de_var 2) (da_cons (de_sl (de_var 4) (do_so de_int) do_no) (da_cons (de_var 3) da_nil))))) (dg_tup (calm_of hr (by decide)) (dgs_cons (dg_name 7 sc_law_good.nd) (dgs_cons (dg_name 8 sc_law_good.nd) (dgs_cons (dg_name 9 sc_law_good.nd) (dgs_cons (dg_name 10 sc_law_good.nd) dgs_nil)))) (hlen := (gCs_len (gCs_len (gCs_len (gCs_len (fun _ _ _ h => gNl_len h))))))) (dss_cons (ds_if (dt_w (dw_or (dt_not (dt_val (de_callC C_law_is_whole θ (hr.mono (by decide)) (da_cons (de_var 10) da_nil)))) (dw_or1 (dt_cmp op_lt bo_lt (de_var 10) de_int)))) (dss_one (ds_ret de_bl)) dss_nil)
    (dss_one (ds_if (dt_cmp (op_neD hr.units) bo_ne (de_tup (da_cons (de_add (de_ix (de_var 7) de_int) (de_ix (de_var 9) de_int)) (da_cons (de_add (de_ix (de_var 7) de_int) (de_ix (de_var 9) de_int)) da_nil))) (de_tup (da_cons (de_mul (de_var 10) (de_ix (de_var 8) de_int)) (da_cons (de_mul (de_var 10) (de_ix (de_var 8) de_int)) da_nil)))) (dss_one (ds_ret de_bl)) dss_nil))))
    (dss_one (ds_ret de_bl)))))))
noncomputable abbrev s_law : Stmt := top 20
noncomputable def g_law_b1 : Sv := (sSeq (sAsg (gTp (gCs (gNm 2) (gCs (gNm 3) gNl))) (eCall F_law_wedge (aCons (eCall F_law_purse (aCons (eVar 0) (aCons (eVar 1) aNil))) aNil)))
  (sSeq (sAsg (gNm 4) (eCall F_between (aCons (eVar 2) (aCons (eVar 3) aNil))))
  (sSeq (sAsg (gNm 5) (eCall F_row (aCons (eVar 2) (aCons (eVar 3) aNil))))
  (sSeq (sIf (tNot1 (tv (eCall F_law_good (aCons (eVar 2) (aCons (eVar 3) (aCons (eVar 4) (aCons (eVar 5) aNil))))))) (sRet (eC (.bl false))) sNil)
  (sSeq (sAsg (gNm 6) (eTup (aCons (eCall bList (aCons (eVar 4) aNil)) (aCons (eCall bList (aCons (eVar 5) aNil)) aNil))))
  (sSeq (sDrop (eMtL mApp (eVar 4) (aCons (eVar 2) aNil)))
  (sSeq (sDrop (eMtL mApp (eVar 5) (aCons (eC (.int 0)) aNil)))
  (sIf (tv (e2 dNe (eTup (aCons (eCall F_between (aCons (eVar 2) (aCons (eVar 3) aNil))) (aCons (eCall F_row (aCons (eVar 2) (aCons (eVar 3) aNil))) aNil))) (eVar 6))) (sRet (eC (.bl false))) sNil))))))))
noncomputable def g_law : Sv := (sSeq (sForR1 (gNm 1) (aCons (eCall bMax (aCons (eC (.int 1)) (aCons (eCall bMin (aCons (eC (.int 3)) (aCons (eCall bLen (aCons (eVar 0) aNil)) aNil))) aNil))) aNil) g_law_b1)
  (sRet (eC (.bl true))))
noncomputable def F_law : List D → Sto → Out D := fnF g_law 1 6
theorem sc_law : FnScope ["_law_script", "_law_k", "_law_u", "_law_v", "_law_rays", "_law_line", "_law_due"] ["_law_script"] (defScope s_law) := ⟨rfl, rfl, rfl, by decide +kernel, rfl, by decide +kernel, by decide +kernel⟩
theorem ok_law {f : Addr} {fd : FuncData} (F : Fun K "law" "law" s_law f fd) (T : Txt K mg) (C_law_purse : Cal P w K mg base "_law_purse" 1 2 F_law_purse) (C_law_wedge : Cal P w K mg base "_law_wedge" 102 1 F_law_wedge) (C_between : Cal P w K mg base "between" 104 2 F_between) (C_row : Cal P w K mg base "row" 103 2 F_row) (C_law_good : Cal P w K mg base "_law_good" 101 4 F_law_good) : FnOk P w K mg base (CXE P w) 105 f fd ["_law_script"] (spD K F_law) :=
  fn_ok F sc_law rfl rfl fun cdv A outer s H E hr θ => (dss_cons (ds_forR1 θ.own T.b_range (da_cons (de_callB (call_max2 (calm_of hr (by decide))) co_max T.b_max bb_max (da_cons de_int (da_cons (de_callB (call_min2 (calm_of hr (by decide))) co_min T.b_min bb_min (da_cons de_int (da_cons (de_callB call_len_seq co_len T.b_len PySem.boot_len (da_cons (de_var 0) da_nil)) da_nil))) da_nil))) da_nil) (dg_name 1 sc_law.nd) (dss_cons (ds_asg (de_callC C_law_wedge θ (hr.mono (by decide)) (da_cons (de_callC C_law_purse θ (hr.mono (by decide)) (da_cons (de_var 0) (da_cons (de_var 1) da_nil))) da_nil)) (dg_tup (calm_of hr (by decide)) (dgs_cons (dg_name 2 sc_law.nd) (dgs_cons (dg_name 3 sc_law.nd) dgs_nil)) (hlen := (gCs_len (gCs_len (fun _ _ _ h => gNl_len h))))))
    (dss_cons (ds_set 4 sc_law.nd (de_callC C_between θ (hr.mono (by decide)) (da_cons (de_var 2) (da_cons (de_var 3) da_nil))))
    (dss_cons (ds_set 5 sc_law.nd (de_callC C_row θ (hr.mono (by decide)) (da_cons (de_var 2) (da_cons (de_var 3) da_nil))))
    (dss_cons (ds_if (dt_not (dt_val (de_callC C_law_good θ (hr.mono (by decide)) (da_cons (de_var 2) (da_cons (de_var 3) (da_cons (de_var 4) (da_cons (de_var 5) da_nil))))))) (dss_one (ds_ret de_bl)) dss_nil)
    (dss_cons (ds_set 6 sc_law.nd (de_tup (da_cons (de_callTy call_list_of co_list T.b_list bb_list (da_cons (de_var 4) da_nil)) (da_cons (de_callTy call_list_of co_list T.b_list bb_list (da_cons (de_var 5) da_nil)) da_nil))))
    (dss_cons (ds_expr (de_append (de_var 4) (de_var 2)))
    (dss_cons (ds_expr (de_append (de_var 5) de_int))
    (dss_one (ds_if (dt_cmp (op_neD hr.units) bo_ne (de_tup (da_cons (de_callC C_between θ (hr.mono (by decide)) (da_cons (de_var 2) (da_cons (de_var 3) da_nil))) (da_cons (de_callC C_row θ (hr.mono (by decide)) (da_cons (de_var 2) (da_cons (de_var 3) da_nil))) da_nil))) (de_var 6)) (dss_one (ds_ret de_bl)) dss_nil))))))))))
    (dss_one (ds_ret de_bl)))
end
theorem all_mk {l : PySem.W.OpenLaw} {w : World} {K : PySem.W.Frag} {h : Heap} {mg : Str → Option Value} {fa f1 f2 f3 f4 f5 f6 f7 f8 f9 f10 f11 f12 f13 f14 f15 : Addr} (X : K.In h) (G : h.Ns mainGlobals mg) (hfa : mg "law" = some (.ref fa))
    {od1 an1 od2 an2 od3 an3 od4 an4 od5 an5 od6 an6 od7 an7 od8 an8 od9 an9 od10 an10 od11 an11 od12 an12 od13 an13 od14 an14 od15 an15 : Option Addr} {sl1 sl2 sl3 sl4 sl5 sl6 sl7 sl8 sl9 sl10 sl11 sl12 sl13 sl14 sl15 : Array (Option Value)} {oc1 kV1 dc1 pm1 cd1 ct1 oc2 kV2 dc2 pm2 cd2 ct2 oc3 kV3 dc3 pm3 cd3 ct3 oc4 kV4 dc4 pm4 cd4 ct4 oc5 kV5 dc5 pm5 cd5 ct5 oc6 kV6 dc6 pm6 cd6 ct6 oc7 kV7 dc7 pm7 cd7 ct7 oc8 kV8 dc8 pm8 cd8 ct8 oc9 kV9 dc9 pm9 cd9 ct9 oc10 kV10 dc10 pm10 cd10 ct10 oc11 kV11 dc11 pm11 cd11 ct11 oc12 kV12 dc12 pm12 cd12 ct12 oc13 kV13 dc13 pm13 cd13 ct13 oc14 kV14 dc14 pm14 cd14 ct14 oc15 kV15 dc15 pm15 cd15 ct15 : Value}
    (a1 : PySem.W.nsIn K mainGlobals "crossed" = some (some (.ref f1))) (l1 : K.lookup f1 = some ⟨oc1, od1, .func (PySem.W.fnOf "crossed" "crossed" (defArgs s_crossed) (defBody s_crossed) (defScope s_crossed) .none kV1 dc1 pm1 an1 cd1 ct1), sl1⟩) (c1 : PySem.W.codeIn K cd1 "crossed" = true) (k1 : PySem.W.keepIn K (.ref f1) = true)
    (a2 : PySem.W.nsIn K mainGlobals "partner" = some (some (.ref f2))) (l2 : K.lookup f2 = some ⟨oc2, od2, .func (PySem.W.fnOf "partner" "partner" (defArgs s_partner) (defBody s_partner) (defScope s_partner) .none kV2 dc2 pm2 an2 cd2 ct2), sl2⟩) (c2 : PySem.W.codeIn K cd2 "partner" = true) (k2 : PySem.W.keepIn K (.ref f2) = true)
    (a3 : PySem.W.nsIn K mainGlobals "first_behind" = some (some (.ref f3))) (l3 : K.lookup f3 = some ⟨oc3, od3, .func (PySem.W.fnOf "first_behind" "first_behind" (defArgs s_first_behind) (defBody s_first_behind) (defScope s_first_behind) .none kV3 dc3 pm3 an3 cd3 ct3), sl3⟩) (c3 : PySem.W.codeIn K cd3 "first_behind" = true) (k3 : PySem.W.keepIn K (.ref f3) = true)
    (a4 : PySem.W.nsIn K mainGlobals "expanded" = some (some (.ref f4))) (l4 : K.lookup f4 = some ⟨oc4, od4, .func (PySem.W.fnOf "expanded" "expanded" (defArgs s_expanded) (defBody s_expanded) (defScope s_expanded) .none kV4 dc4 pm4 an4 cd4 ct4), sl4⟩) (c4 : PySem.W.codeIn K cd4 "expanded" = true) (k4 : PySem.W.keepIn K (.ref f4) = true)
    (a5 : PySem.W.nsIn K mainGlobals "row" = some (some (.ref f5))) (l5 : K.lookup f5 = some ⟨oc5, od5, .func (PySem.W.fnOf "row" "row" (defArgs s_row) (defBody s_row) (defScope s_row) .none kV5 dc5 pm5 an5 cd5 ct5), sl5⟩) (c5 : PySem.W.codeIn K cd5 "row" = true) (k5 : PySem.W.keepIn K (.ref f5) = true)
    (a6 : PySem.W.nsIn K mainGlobals "between" = some (some (.ref f6))) (l6 : K.lookup f6 = some ⟨oc6, od6, .func (PySem.W.fnOf "between" "between" (defArgs s_between) (defBody s_between) (defScope s_between) .none kV6 dc6 pm6 an6 cd6 ct6), sl6⟩) (c6 : PySem.W.codeIn K cd6 "between" = true) (k6 : PySem.W.keepIn K (.ref f6) = true)
    (a7 : PySem.W.nsIn K mainGlobals "_law_purse" = some (some (.ref f7))) (l7 : K.lookup f7 = some ⟨oc7, od7, .func (PySem.W.fnOf "_law_purse" "_law_purse" (defArgs s_law_purse) (defBody s_law_purse) (defScope s_law_purse) .none kV7 dc7 pm7 an7 cd7 ct7), sl7⟩) (c7 : PySem.W.codeIn K cd7 "_law_purse" = true) (k7 : PySem.W.keepIn K (.ref f7) = true)
    (a8 : PySem.W.nsIn K mainGlobals "_law_take" = some (some (.ref f8))) (l8 : K.lookup f8 = some ⟨oc8, od8, .func (PySem.W.fnOf "_law_take" "_law_take" (defArgs s_law_take) (defBody s_law_take) (defScope s_law_take) .none kV8 dc8 pm8 an8 cd8 ct8), sl8⟩) (c8 : PySem.W.codeIn K cd8 "_law_take" = true) (k8 : PySem.W.keepIn K (.ref f8) = true)
    (a9 : PySem.W.nsIn K mainGlobals "_law_crossed" = some (some (.ref f9))) (l9 : K.lookup f9 = some ⟨oc9, od9, .func (PySem.W.fnOf "_law_crossed" "_law_crossed" (defArgs s_law_crossed) (defBody s_law_crossed) (defScope s_law_crossed) .none kV9 dc9 pm9 an9 cd9 ct9), sl9⟩) (c9 : PySem.W.codeIn K cd9 "_law_crossed" = true) (k9 : PySem.W.keepIn K (.ref f9) = true)
    (a10 : PySem.W.nsIn K mainGlobals "_law_short" = some (some (.ref f10))) (l10 : K.lookup f10 = some ⟨oc10, od10, .func (PySem.W.fnOf "_law_short" "_law_short" (defArgs s_law_short) (defBody s_law_short) (defScope s_law_short) .none kV10 dc10 pm10 an10 cd10 ct10), sl10⟩) (c10 : PySem.W.codeIn K cd10 "_law_short" = true) (k10 : PySem.W.keepIn K (.ref f10) = true)
    (a11 : PySem.W.nsIn K mainGlobals "_law_wedge" = some (some (.ref f11))) (l11 : K.lookup f11 = some ⟨oc11, od11, .func (PySem.W.fnOf "_law_wedge" "_law_wedge" (defArgs s_law_wedge) (defBody s_law_wedge) (defScope s_law_wedge) .none kV11 dc11 pm11 an11 cd11 ct11), sl11⟩) (c11 : PySem.W.codeIn K cd11 "_law_wedge" = true) (k11 : PySem.W.keepIn K (.ref f11) = true)
    (a12 : PySem.W.nsIn K mainGlobals "_law_is_whole" = some (some (.ref f12))) (l12 : K.lookup f12 = some ⟨oc12, od12, .func (PySem.W.fnOf "_law_is_whole" "_law_is_whole" (defArgs s_law_is_whole) (defBody s_law_is_whole) (defScope s_law_is_whole) .none kV12 dc12 pm12 an12 cd12 ct12), sl12⟩) (c12 : PySem.W.codeIn K cd12 "_law_is_whole" = true) (k12 : PySem.W.keepIn K (.ref f12) = true)
    (a13 : PySem.W.nsIn K mainGlobals "_law_is_pair" = some (some (.ref f13))) (l13 : K.lookup f13 = some ⟨oc13, od13, .func (PySem.W.fnOf "_law_is_pair" "_law_is_pair" (defArgs s_law_is_pair) (defBody s_law_is_pair) (defScope s_law_is_pair) .none kV13 dc13 pm13 an13 cd13 ct13), sl13⟩) (c13 : PySem.W.codeIn K cd13 "_law_is_pair" = true) (k13 : PySem.W.keepIn K (.ref f13) = true)
    (a14 : PySem.W.nsIn K mainGlobals "_law_good" = some (some (.ref f14))) (l14 : K.lookup f14 = some ⟨oc14, od14, .func (PySem.W.fnOf "_law_good" "_law_good" (defArgs s_law_good) (defBody s_law_good) (defScope s_law_good) .none kV14 dc14 pm14 an14 cd14 ct14), sl14⟩) (c14 : PySem.W.codeIn K cd14 "_law_good" = true) (k14 : PySem.W.keepIn K (.ref f14) = true)
    (a15 : PySem.W.nsIn K mainGlobals "law" = some (some (.ref f15))) (l15 : K.lookup f15 = some ⟨oc15, od15, .func (PySem.W.fnOf "law" "law" (defArgs s_law) (defBody s_law) (defScope s_law) .none kV15 dc15 pm15 an15 cd15 ct15), sl15⟩) (c15 : PySem.W.codeIn K cd15 "law" = true) (k15 : PySem.W.keepIn K (.ref f15) = true)
    (z_len : PySem.W.nsIn K mainGlobals "len" = some none)
    (z_int : PySem.W.nsIn K mainGlobals "int" = some none)
    (z_abs : PySem.W.nsIn K mainGlobals "abs" = some none)
    (z_isinstance : PySem.W.nsIn K mainGlobals "isinstance" = some none)
    (z_bool : PySem.W.nsIn K mainGlobals "bool" = some none)
    (z_tuple : PySem.W.nsIn K mainGlobals "tuple" = some none)
    (z_list : PySem.W.nsIn K mainGlobals "list" = some none)
    (z_all : PySem.W.nsIn K mainGlobals "all" = some none)
    (z_zip : PySem.W.nsIn K mainGlobals "zip" = some none)
    (z_min : PySem.W.nsIn K mainGlobals "min" = some none)
    (z_max : PySem.W.nsIn K mainGlobals "max" = some none)
    (z_range : PySem.W.nsIn K mainGlobals "range" = some none)
    (q_ex_NoWedge : exOk K "NoWedge" = true)
    : ∃ fd : FuncData, (∀ (s : Shared) (v : Value), BindsTo s fd ⟨[v], []⟩ [("_law_script", v)]) ∧ ∀ base : Heap, K.In base → base.Ns mainGlobals mg → FnOk l.prog w K mg base (CXE l.prog w) 105 fa fd ["_law_script"] (spD K F_law) := by
  have e := hfa.symm.trans (PySem.W.mg_of X G a15)
  cases e
  have T : Txt K mg := ⟨fun c v e => PySem.W.mg_of X G e, PySem.W.mg_none_of X G z_len, PySem.W.mg_none_of X G z_int, PySem.W.mg_none_of X G z_abs, PySem.W.mg_none_of X G z_isinstance, PySem.W.mg_none_of X G z_bool, PySem.W.mg_none_of X G z_tuple, PySem.W.mg_none_of X G z_list, PySem.W.mg_none_of X G z_all, PySem.W.mg_none_of X G z_zip, PySem.W.mg_none_of X G z_min, PySem.W.mg_none_of X G z_max, PySem.W.mg_none_of X G z_range, q_ex_NoWedge⟩
  have R1 := fun_mk (st := s_crossed) l1 c1 k1
  have R2 := fun_mk (st := s_partner) l2 c2 k2
  have R3 := fun_mk (st := s_first_behind) l3 c3 k3
  have R4 := fun_mk (st := s_expanded) l4 c4 k4
  have R5 := fun_mk (st := s_row) l5 c5 k5
  have R6 := fun_mk (st := s_between) l6 c6 k6
  have R7 := fun_mk (st := s_law_purse) l7 c7 k7
  have R8 := fun_mk (st := s_law_take) l8 c8 k8
  have R9 := fun_mk (st := s_law_crossed) l9 c9 k9
  have R10 := fun_mk (st := s_law_short) l10 c10 k10
  have R11 := fun_mk (st := s_law_wedge) l11 c11 k11
  have R12 := fun_mk (st := s_law_is_whole) l12 c12 k12
  have R13 := fun_mk (st := s_law_is_pair) l13 c13 k13
  have R14 := fun_mk (st := s_law_good) l14 c14 k14
  have R15 := fun_mk (st := s_law) l15 c15 k15
  refine ⟨PySem.W.fnOf "law" "law" (defArgs s_law) (defBody s_law) (defScope s_law) .none kV15 dc15 pm15 an15 cd15 ct15, fun s v => .of_eq rfl, fun base _ _ => ?_⟩
  have C1 : Cal l.prog w K mg base "crossed" 1 2 F_crossed := ⟨f1, _, ["one", "other"], ok_crossed R1 T, PySem.W.mg_of X G a1, k1, rfl, R1.binds (ps := ["one", "other"]) fun _ _ _ _ _ _ us hl => match us, hl with | [_, _], _ => rfl⟩
  have C2 : Cal l.prog w K mg base "partner" 101 1 F_partner := ⟨f2, _, ["ray"], ok_partner R2 T, PySem.W.mg_of X G a2, k2, rfl, R2.binds (ps := ["ray"]) fun _ _ _ _ _ _ us hl => match us, hl with | [_], _ => rfl⟩
  have C3 : Cal l.prog w K mg base "first_behind" 102 2 F_first_behind := ⟨f3, _, ["u", "v"], ok_first_behind R3 T C2 C1, PySem.W.mg_of X G a3, k3, rfl, R3.binds (ps := ["u", "v"]) fun _ _ _ _ _ _ us hl => match us, hl with | [_, _], _ => rfl⟩
  have C4 : Cal l.prog w K mg base "expanded" 101 2 F_expanded := ⟨f4, _, ["top", "bottom"], ok_expanded R4 T, PySem.W.mg_of X G a4, k4, rfl, R4.binds (ps := ["top", "bottom"]) fun _ _ _ _ _ _ us hl => match us, hl with | [_, _], _ => rfl⟩
  have C5 : Cal l.prog w K mg base "row" 103 2 F_row := ⟨f5, _, ["u", "v"], ok_row R5 T C1 C3 C4, PySem.W.mg_of X G a5, k5, rfl, R5.binds (ps := ["u", "v"]) fun _ _ _ _ _ _ us hl => match us, hl with | [_, _], _ => rfl⟩
  have C6 : Cal l.prog w K mg base "between" 104 2 F_between := ⟨f6, _, ["u", "v"], ok_between R6 T C5 C3, PySem.W.mg_of X G a6, k6, rfl, R6.binds (ps := ["u", "v"]) fun _ _ _ _ _ _ us hl => match us, hl with | [_, _], _ => rfl⟩
  have C7 : Cal l.prog w K mg base "_law_purse" 1 2 F_law_purse := ⟨f7, _, ["_law_script", "_law_k"], ok_law_purse R7 T, PySem.W.mg_of X G a7, k7, rfl, R7.binds (ps := ["_law_script", "_law_k"]) fun _ _ _ _ _ _ us hl => match us, hl with | [_, _], _ => rfl⟩
  have C8 : Cal l.prog w K mg base "_law_take" 1 2 F_law_take := ⟨f8, _, ["_law_purse_here", "_law_many"], ok_law_take R8 T, PySem.W.mg_of X G a8, k8, rfl, R8.binds (ps := ["_law_purse_here", "_law_many"]) fun _ _ _ _ _ _ us hl => match us, hl with | [_, _], _ => rfl⟩
  have C9 : Cal l.prog w K mg base "_law_crossed" 1 2 F_law_crossed := ⟨f9, _, ["_law_one", "_law_other"], ok_law_crossed R9 T, PySem.W.mg_of X G a9, k9, rfl, R9.binds (ps := ["_law_one", "_law_other"]) fun _ _ _ _ _ _ us hl => match us, hl with | [_, _], _ => rfl⟩
  have C10 : Cal l.prog w K mg base "_law_short" 101 1 F_law_short := ⟨f10, _, ["_law_pair"], ok_law_short R10 T, PySem.W.mg_of X G a10, k10, rfl, R10.binds (ps := ["_law_pair"]) fun _ _ _ _ _ _ us hl => match us, hl with | [_], _ => rfl⟩
  have C11 : Cal l.prog w K mg base "_law_wedge" 102 1 F_law_wedge := ⟨f11, _, ["_law_purse_here"], ok_law_wedge R11 T C8 C10 C9, PySem.W.mg_of X G a11, k11, rfl, R11.binds (ps := ["_law_purse_here"]) fun _ _ _ _ _ _ us hl => match us, hl with | [_], _ => rfl⟩
  have C12 : Cal l.prog w K mg base "_law_is_whole" 1 1 F_law_is_whole := ⟨f12, _, ["_law_thing"], ok_law_is_whole R12 T, PySem.W.mg_of X G a12, k12, rfl, R12.binds (ps := ["_law_thing"]) fun _ _ _ _ _ _ us hl => match us, hl with | [_], _ => rfl⟩
  have C13 : Cal l.prog w K mg base "_law_is_pair" 2 1 F_law_is_pair := ⟨f13, _, ["_law_thing"], ok_law_is_pair R13 T C12, PySem.W.mg_of X G a13, k13, rfl, R13.binds (ps := ["_law_thing"]) fun _ _ _ _ _ _ us hl => match us, hl with | [_], _ => rfl⟩
  have C14 : Cal l.prog w K mg base "_law_good" 101 4 F_law_good := ⟨f14, _, ["_law_u", "_law_v", "_law_rays", "_law_line"], ok_law_good R14 T C13 C9 C12, PySem.W.mg_of X G a14, k14, rfl, R14.binds (ps := ["_law_u", "_law_v", "_law_rays", "_law_line"]) fun _ _ _ _ _ _ us hl => match us, hl with | [_, _, _, _], _ => rfl⟩
  exact ok_law R15 T C7 C11 C6 C5 C14
end K11


end
section
set_option Elab.async false
set_option linter.all false
set_option maxRecDepth 100000
set_option maxHeartbeats 4000000
namespace K11
open PySem PySem.Spec L2 DL
open CB (Bd Wg Fb btw Ch Cv Tr kl)
open CV
theorem e_purse : F_law_purse = CB.F_law_purse := rfl
theorem e_wedge : F_law_wedge = CB.F_law_wedge := rfl
theorem e_between : F_between = CB.F_between := rfl
theorem e_row : F_row = CB.F_row := rfl
theorem e_crossed : F_law_crossed = CB.F_law_crossed := rfl
theorem e_whole : F_law_is_whole = CB.F_law_is_whole := rfl
theorem e_pair : F_law_is_pair = CB.F_law_is_pair := rfl
theorem ch_at : ∀ {L : List Pt}, Ch L → ∀ {i : Nat} (h : i + 1 < L.length), X L[i] L[i + 1] = 1
  | [], _, _, h => by simp at h
  | [_], _, _, h => by simp at h
  | a :: b :: r, hc, 0, _ => hc.1
  | a :: b :: r, hc, i + 1, h => by
    have := ch_at (L := b :: r) hc.2 (i := i) (by simp at h ⊢; omega)
    simpa using this
theorem tri : ∀ {L : List Pt}, Ch L → Cv L → ∀ {i : Nat} (h : i + 2 < L.length), ∃ k, (kl L)[i]? = some k ∧ 2 ≤ k ∧ L[i].1 + L[i + 2].1 = k * L[i + 1].1 ∧ L[i].2 + L[i + 2].2 = k * L[i + 1].2
  | [], _, _, _, h => by simp at h
  | [_], _, _, _, h => by simp at h
  | [_, _], _, _, i, h => by simp at h; omega
  | a :: b :: d :: r, hc, hv, 0, _ => by
    obtain ⟨m, m2, e1, e2⟩ := hv.1
    have x1 := hc.1
    have : X a d = m := by
      have d1 : d = (m * b.1 - a.1, m * b.2 - a.2) := by apply Prod.ext <;> simp only <;> omega
      rw [d1]
      unfold X at *
      simp only
      grind
    exact ⟨m, by rw [kl, this]; rfl, m2, e1, e2⟩
  | a :: b :: d :: r, hc, hv, i + 1, h => by
    obtain ⟨k, h1, h2, h3, h4⟩ := tri (L := b :: d :: r) hc.2 hv.2 (i := i) (by simp at h ⊢; omega)
    exact ⟨k, by rw [kl]; simpa using h1, h2, by simpa using h3, by simpa using h4⟩
section
variable {Q : D → Sto → Prop} {E : Str → Sto → Prop} {M : Sto} {n m p : Nat} {u v w : Pt} {bs : List Pt} {ks : List Int}
theorem pair_w {a b : Int} : wO (CB.F_law_is_pair [pr a b] M) Q E = Q (.bl true) M := by
  simp! [CB.F_law_is_pair, CB.g_law_is_pair, CB.F_law_is_whole, CB.g_law_is_whole]
theorem whole_w {a : Int} : wO (CB.F_law_is_whole [.int a] M) Q E = Q (.bl true) M := by
  simp! [CB.F_law_is_whole, CB.g_law_is_whole]
theorem good_w (hc : Ch (u :: (bs ++ [v]))) (hv : Cv (u :: (bs ++ [v]))) (hk : kl (u :: (bs ++ [v])) = ks) (hl : bs.length = ks.length) (hl2 : bs.length ≤ 90000) (hb : ∀ x ∈ u :: (bs ++ [v]), Bd 1000000 x) (h : M[n]? = some (.lst (prs bs))) (h' : M[m]? = some (.lst (nts ks)))
    (q : ∀ M', Kp M M' → Q (.bl true) M') : wO (F_law_good [pr u.1 u.2, pr v.1 v.2, .ref n, .ref m] M) Q E := by
  have hn := lt_get h
  have hm := lt_get h'
  simp! [F_law_good, g_law_good, ty_ref h, ty_ref h', h, h', e_pair]
  refine kCoS (fun ρ => ∃ x, ρ = [x]) (fun _ => D.bl true) h (by rw [prs_len]; omega) ⟨_, rfl⟩ ?_ ?_
  · rintro i hi ρ L ⟨x, rfl⟩
    rw [CC.prs_get]
    simp! [pair_w]
    exact ⟨_, rfl⟩
  rw [prs_len]
  have K1 : Kp M (M ++ [SO.lst ((List.range bs.length).map fun _ => D.bl true)]) := Kp.app
  simp! [all_true]
  rw [show (List.replicate bs.length true).all id = true by simp]
  generalize M ++ [SO.lst ((List.range bs.length).map fun _ => D.bl true)] = M1 at *
  have h1 := K1.get h
  have h1' := K1.get h'
  have hn1 := lt_get h1
  simp! [h1]
  refine ⟨by omega, by omega, ?_⟩
  rw [show ((u.1, u.2) : Pt) = u from rfl, show ((v.1, v.2) : Pt) = v from rfl]
  have lz : (u :: (bs ++ [v])).length = bs.length + 2 := by simp
  have r4 : (M1 ++ [SO.lst [pr u.1 u.2], SO.lst (prs (u :: bs)), SO.lst [pr v.1 v.2], SO.lst (prs (u :: (bs ++ [v]))), SO.lst (prs (List.drop 1 (u :: (bs ++ [v]))))])[M1.length + 3]? = some (.lst (prs (u :: (bs ++ [v])))) := by rw [s_at]; rfl
  have r5 : (M1 ++ [SO.lst [pr u.1 u.2], SO.lst (prs (u :: bs)), SO.lst [pr v.1 v.2], SO.lst (prs (u :: (bs ++ [v]))), SO.lst (prs (List.drop 1 (u :: (bs ++ [v]))))])[M1.length + 4]? = some (.lst (prs (List.drop 1 (u :: (bs ++ [v]))))) := by rw [s_at]; rfl
  have K2 : Kp M1 (M1 ++ [SO.lst [pr u.1 u.2], SO.lst (prs (u :: bs)), SO.lst [pr v.1 v.2], SO.lst (prs (u :: (bs ++ [v]))), SO.lst (prs (List.drop 1 (u :: (bs ++ [v]))))]) := Kp.app
  generalize M1 ++ [SO.lst [pr u.1 u.2], SO.lst (prs (u :: bs)), SO.lst [pr v.1 v.2], SO.lst (prs (u :: (bs ++ [v]))), SO.lst (prs (List.drop 1 (u :: (bs ++ [v]))))] = M2 at *
  generalize hzs : u :: (bs ++ [v]) = zs at *
  have h2 := K2.get h1
  have h2' := K2.get h1'
  have dl : (List.drop 1 zs).length = bs.length + 1 := by rw [List.length_drop]; omega
  generalize hoz : M1.length + 3 = oz at *
  generalize hoy : M1.length + 4 = oy at *
  refine wS_zip2 (xs := prs zs) (ys := prs (List.drop 1 zs)) (fun i ρ M' => M' = M2 ∧ ∃ x5 x6, ρ = [some (pr u.1 u.2), some (pr v.1 v.2), some (.ref n), some (.ref m), some (.ref oz), x5, x6, none, none, none, none]) r4 (by rw [prs_len, prs_len]; omega) ⟨rfl, _, _, rfl⟩ (fun i ρ M' hI => by rw [hI.1]; exact ⟨r4, r5⟩) ?_ ?_
  · rintro i ρ _ hi ⟨rfl, x5, x6, rfl⟩
    have hi' : i + 1 < zs.length := by rw [prs_len] at hi; omega
    have e1 : (prs zs)[i]'(by rw [prs_len]; omega) = pr (zs[i]).1 (zs[i]).2 := by simp [prs]
    have e2 : (prs (List.drop 1 zs))[i] = pr (zs[i + 1]).1 (zs[i + 1]).2 := by simp [prs, Nat.add_comm]
    rw [e1, e2]
    have x1 := ch_at hc hi'
    have b1 := hb _ (List.getElem_mem (show i < zs.length by omega))
    simp! [g_law_good_b1, e_crossed, CB.lcrossed_w (.inl b1), x1]
    exact ⟨_, _, rfl⟩
  · rintro ρ M3 ⟨rfl, x5, x6, rfl⟩
    simp! [wO_ok]
    refine y_Zs4 ?_
    simp! [r4, kZs4_r]
    have K4 : Kp M3 (M3 ++ [SO.lst (prs (List.drop 2 zs))]) := Kp.app
    have r6 : (M3 ++ [SO.lst (prs (List.drop 2 zs))])[M3.length]? = some (.lst (prs (List.drop 2 zs))) := by simp
    generalize M3 ++ [SO.lst (prs (List.drop 2 zs))] = M4 at *
    have KK := (K1.trans K2).trans K4
    have g1 := K4.get r4
    have g2 := K4.get h2
    have g4 := K4.get h2'
    refine wS_zip4 (xs := prs zs) (ys := prs bs) (zs := prs (List.drop 2 zs)) (ws := nts ks) (L := ks.length) (fun i ρ M' => M' = M4 ∧ ∃ x7 x8 x9 x10, ρ = [some (pr u.1 u.2), some (pr v.1 v.2), some (.ref n), some (.ref m), some (.ref oz), x5, x6, x7, x8, x9, x10]) (by rw [prs_len]; omega) (by rw [prs_len]; omega) (by rw [prs_len, List.length_drop]; omega) nts_len ⟨rfl, _, _, _, _, rfl⟩ (fun i ρ M' hI => by rw [hI.1]; exact ⟨g1, g2, r6, g4⟩) ?_ ?_
    · rintro i ρ _ hi ⟨rfl, x7, x8, x9, x10, rfl⟩
      have hi' : i + 2 < zs.length := by omega
      obtain ⟨k, k1, k2, k3, k4⟩ := tri hc hv hi'
      rw [hk] at k1
      have e1 : (prs zs).getD i .non = pr (zs[i]).1 (zs[i]).2 := by simp [prs, show i < zs.length by omega]
      have e2 : (prs bs).getD i .non = pr (zs[i + 1]).1 (zs[i + 1]).2 := by
        have : zs[i + 1]? = bs[i]? := by
          rw [← hzs]
          simp [List.getElem?_append_left (show i < bs.length by omega)]
        rw [List.getElem?_eq_getElem (show i + 1 < zs.length by omega), List.getElem?_eq_getElem (show i < bs.length by omega)] at this
        rw [Option.some.inj this]
        simp [prs, show i < bs.length by omega]
      have e3 : (prs (List.drop 2 zs)).getD i .non = pr (zs[i + 2]).1 (zs[i + 2]).2 := by
        have : (List.drop 2 zs)[i]? = zs[i + 2]? := by simp [Nat.add_comm]
        rw [List.getElem?_eq_getElem (show i < (List.drop 2 zs).length by rw [List.length_drop]; omega), List.getElem?_eq_getElem hi'] at this
        have h2 : i < (prs (List.drop 2 zs)).length := by rw [prs_len, List.length_drop]; omega
        rw [List.getD_eq_getElem?_getD, List.getElem?_eq_getElem h2]
        rw [← Option.some.inj this]
        simp [prs]
      have e4 : (nts ks).getD i .non = .int k := by
        rw [List.getD_eq_getElem?_getD, nts, List.getElem?_map, k1]
        rfl
      rw [e1, e2, e3, e4]
      have b2 := hb _ (List.getElem_mem (show i + 1 < zs.length by omega))
      simp! [g_law_good_b2, e_whole, whole_w, k3, k4]
      exact ⟨_, _, _, _, rfl⟩
    · rintro ρ _ ⟨rfl, x7, x8, x9, x10, rfl⟩
      simp! [wO_ok]
      exact q _ KK
theorem q_pair {a b a' b' : Nat} {ps : List Int} {cs : List Pt} (h1 : M[a]? = some (.lst (prs cs))) (h2 : M[b]? = some (.lst (nts ps))) (h3 : M[a']? = some (.lst (prs cs))) (h4 : M[b']? = some (.lst (nts ps))) : eqF 12 M (.tup [.ref a, .ref b]) (.tup [.ref a', .ref b']) = some true := by
  show eqL (eqF 11 M) [.ref a, .ref b] [.ref a', .ref b'] = _
  have s1 : eqF 11 M (.ref b) (.ref b') = some true := by rw [q_lst h2 h4, if_pos rfl, q_ntsL, decide_eq_true rfl]
  have s2 : eqF 11 M (.ref a) (.ref a') = some true := by rw [q_lst h1 h3, if_pos rfl, q_prsL, decide_eq_true rfl]
  simp [eqL, s1, s2]
theorem turn_ok {N : Ro → Sto → Prop} {R : D → Sto → Prop} {B C : Ro → Sto → Prop} {ns : List Int} {i : Nat} {x2 x3 x4 x5 x6 : Option D} (hi0 : i < 1000) (hN : ∀ x2 x3 x4 x5 x6 M', N [some (.rol (ns.map D.int)), some (.int i), x2, x3, x4, x5, x6] M') : wS (g_law_b1 [some (.rol (ns.map D.int)), some (.int i), x2, x3, x4, x5, x6] M) N R B C E := by
  simp! [g_law_b1, e_purse]
  refine CB.purse_w hi0 fun a b ha => ?_
  have B0 : Bag M.length (M ++ [.lst [.int a, .int b]]) := ⟨a, b, ha, by simp⟩
  generalize M ++ [SO.lst [.int a, .int b]] = M0 at *
  generalize M.length = n at *
  simp! [e_wedge]
  refine CB.wedge_w B0 fun u v M1 hw bu bv xl g1 => ?_
  obtain ⟨w, hf⟩ := CB.fb_ex hw
  simp! [e_between]
  refine CB.between_w hw hf (by omega) ?_
  have c1 := CB.chain_w hw hf
  have c2 := (CB.convex _ _ _ u w v rfl hf.lo hf.hi hf.one rfl rfl hw.gv).1
  have o1 := CB.only _ u v w c1 c2 hf
  have hjl : (hj (X u v) (X w v)).length ≤ 90000 := by
    have := DL.hj_len _ (X u v) (X w v) rfl
    have := hf.hi
    omega
  have bb := CB.btw_bd hw hf bu bv
  have btl := CB.btw_len u w (hj (X u v) (X w v))
  have rowW {M : Sto} {Q : D → Sto → Prop} {E : Str → Sto → Prop} (q : Q (.ref M.length) (M ++ [.lst (nts (hj (X u v) (X w v)))])) : wO (CB.F_row [pr u.1 u.2, pr v.1 v.2] M) Q E := CB.row_w hw hf (by omega) q
  have betW {M : Sto} {Q : D → Sto → Prop} {E : Str → Sto → Prop} (q : Q (.ref (M.length + 1)) (M ++ [.lst (nts (hj (X u v) (X w v))), .lst (prs (btw u w (hj (X u v) (X w v))))])) : wO (CB.F_between [pr u.1 u.2, pr v.1 v.2] M) Q E := CB.between_w hw hf (by omega) q
  generalize hj (X u v) (X w v) = ks at *
  generalize btw u w ks = bs at *
  have K2 : Kp M1 (M1 ++ [SO.lst (nts ks), SO.lst (prs bs)]) := Kp.app
  have r2 : (M1 ++ [SO.lst (nts ks), SO.lst (prs bs)])[M1.length + 1]? = some (.lst (prs bs)) := by rw [s_at]; rfl
  generalize M1 ++ [SO.lst (nts ks), SO.lst (prs bs)] = M2 at *
  generalize M1.length + 1 = ob at *
  simp! [e_row]
  refine rowW ?_
  have K3 : Kp M2 (M2 ++ [SO.lst (nts ks)]) := Kp.app
  have t3 : (M2 ++ [SO.lst (nts ks)])[M2.length]? = some (.lst (nts ks)) := by simp
  have r3 := K3.get r2
  have obn : ob < M2.length := lt_get r2
  generalize M2 ++ [SO.lst (nts ks)] = M3 at *
  generalize M2.length = ok at *
  simp! [wO_ok]
  refine good_w c1 c2 o1.2 btl (by omega) (fun x hx => ?_) r3 t3 fun M4 K4 => ?_
  · have bd : Bd 400 x := by
      simp only [List.mem_cons, List.mem_append, List.not_mem_nil, or_false] at hx
      rcases hx with rfl | hx | rfl
      · unfold Bd at *; omega
      · exact bb x hx
      · unfold Bd at *; omega
    unfold Bd at *
    omega
  have r4 := K4.get r3
  have t4 := K4.get t3
  have lr4 := lt_get r4
  have lt4 := lt_get t4
  simp! [r4, t4]
  have ne : ob ≠ ok := by omega
  refine ⟨by omega, ?_⟩
  have K5 : Kp M4 (M4 ++ [SO.lst (prs bs), SO.lst (nts ks)]) := Kp.app
  have h5 : (M4 ++ [SO.lst (prs bs), SO.lst (nts ks)])[M4.length]? = some (.lst (prs bs)) := by rw [s_at0]; rfl
  have i5 : (M4 ++ [SO.lst (prs bs), SO.lst (nts ks)])[M4.length + 1]? = some (.lst (nts ks)) := by rw [s_at]; rfl
  have t5 := K5.get t4
  have l5 : M4.length < (M4 ++ [SO.lst (prs bs), SO.lst (nts ks)]).length := by simp
  generalize M4 ++ [SO.lst (prs bs), SO.lst (nts ks)] = M5 at *
  have h6 : (M5.set ob (SO.lst (prs (bs ++ [(u.1, u.2)]))))[M4.length]? = some (.lst (prs bs)) := by rw [s_setN (by omega)]; exact h5
  have i6 : (M5.set ob (SO.lst (prs (bs ++ [(u.1, u.2)]))))[M4.length + 1]? = some (.lst (nts ks)) := by rw [s_setN (by omega)]; exact i5
  have t6 : (M5.set ob (SO.lst (prs (bs ++ [(u.1, u.2)]))))[ok]? = some (.lst (nts ks)) := by rw [s_setN (by omega)]; exact t5
  generalize M5.set ob (SO.lst (prs (bs ++ [(u.1, u.2)]))) = M6 at *
  have l6 := lt_get t6
  refine ⟨by omega, ?_⟩
  have h7 : (M6.set ok (SO.lst (nts (ks ++ [0]))))[M4.length]? = some (.lst (prs bs)) := by rw [s_setN (by omega)]; exact h6
  have i7 : (M6.set ok (SO.lst (nts (ks ++ [0]))))[M4.length + 1]? = some (.lst (nts ks)) := by rw [s_setN (by omega)]; exact i6
  generalize M6.set ok (SO.lst (nts (ks ++ [0]))) = M7 at *
  refine betW ?_
  have K8 : Kp M7 (M7 ++ [SO.lst (nts ks), SO.lst (prs bs)]) := Kp.app
  have r8 : (M7 ++ [SO.lst (nts ks), SO.lst (prs bs)])[M7.length + 1]? = some (.lst (prs bs)) := by rw [s_at]; rfl
  generalize M7 ++ [SO.lst (nts ks), SO.lst (prs bs)] = M8 at *
  simp! [wO_ok]
  refine rowW ?_
  have K9 : Kp M8 (M8 ++ [SO.lst (nts ks)]) := Kp.app
  have t9 : (M8 ++ [SO.lst (nts ks)])[M8.length]? = some (.lst (nts ks)) := by simp
  have e9 := q_pair (K9.get r8) t9 (K9.get (K8.get h7)) (K9.get (K8.get i7))
  simp! [e9]
  exact hN _ _ _ _ _ _
theorem law_true (ns : List Int) (h : ns.length ≤ 63) : ∃ M', F_law [.rol (ns.map D.int)] [] = .ok (.bl true) M' := by
  have w : wO (F_law [.rol (ns.map D.int)] []) (fun d _ => d = .bl true) (fun _ _ => False) := by
    simp! [F_law, g_law]
    refine ⟨by omega, ?_⟩
    refine wS_rng (fun _ ρ _ => ∃ x1 x2 x3 x4 x5 x6, ρ = [some (.rol (ns.map D.int)), x1, x2, x3, x4, x5, x6]) ⟨_, _, _, _, _, _, rfl⟩ ?_ ?_
    · rintro i ρ M hi ⟨x1, x2, x3, x4, x5, x6, rfl⟩
      rw [show (0 : Int) + (i : Int) = i by omega]
      simp! [wO_ok]
      exact turn_ok (by omega) fun _ _ _ _ _ _ => ⟨_, _, _, _, _, _, rfl⟩
    · rintro ρ M ⟨x1, x2, x3, x4, x5, x6, rfl⟩
      simp! [wO_ok]
  obtain ⟨d, M', e, rfl⟩ := wO_get w
  exact ⟨M', e⟩
end
end K11


end
set_option Elab.async false
set_option linter.all false
set_option maxRecDepth 100000
set_option maxHeartbeats 4000000
namespace K11
open PySem PySem.Spec L2 DL
noncomputable def fO (n : Str) (st : Stmt) (cd : Nat) (m : Str) (t : Nat) : Obj := ⟨.type "function", none, .func (PySem.W.fnOf n n (defArgs st) (defBody st) (defScope st) .none .none .none (.str m t) none (.ref cd) .none), #[]⟩
noncomputable def topP (p : Program) (i : Nat) : Stmt := p.main.body.getD i (.Pass ⟨0, 0, 0, 0⟩)
noncomputable def Kf (p : Program) (P : Params) : PySem.W.Frag := [(3, { cls := Value.type "dict", data := Data.dict #[{ hash := PyData.keyHash P (Str.ofString "__name__"), key := Value.str (Str.ofString "__name__") 165, val := Value.str (Str.ofString "law_rayround_k11_rays_between") 288 }, { hash := PyData.keyHash P (Str.ofString "__doc__"), key := Value.str (Str.ofString "__doc__") 166, val := Value.none }, { hash := PyData.keyHash P (Str.ofString "__package__"), key := Value.str (Str.ofString "__package__") 167, val := Value.none }, { hash := PyData.keyHash P (Str.ofString "__loader__"), key := Value.str (Str.ofString "__loader__") 168, val := Value.builtin "__main__.__loader__#opaque" }, { hash := PyData.keyHash P (Str.ofString "__spec__"), key := Value.str (Str.ofString "__spec__") 169, val := Value.none }, { hash := PyData.keyHash P (Str.ofString "__annotations__"), key := Value.str (Str.ofString "__annotations__") 170, val := Value.ref 6 }, { hash := PyData.keyHash P (Str.ofString "__builtins__"), key := Value.str (Str.ofString "__builtins__") 171, val := Value.ref 4 }, { hash := PyData.keyHash P (Str.ofString "__file__"), key := Value.str (Str.ofString "__file__") 173, val := Value.str (Str.ofString "/claim/cut.py") 172 }, { hash := PyData.keyHash P (Str.ofString "__cached__"), key := Value.str (Str.ofString "__cached__") 174, val := Value.none }, { hash := PyData.keyHash P (Str.ofString "RayError"), key := Value.str (Str.ofString "RayError") 206, val := Value.ref 24 }, { hash := PyData.keyHash P (Str.ofString "NoWedge"), key := Value.str (Str.ofString "NoWedge") 222, val := Value.ref 37 }, { hash := PyData.keyHash P (Str.ofString "crossed"), key := Value.str (Str.ofString "crossed") 232, val := Value.ref 46 }, { hash := PyData.keyHash P (Str.ofString "partner"), key := Value.str (Str.ofString "partner") 246, val := Value.ref 53 }, { hash := PyData.keyHash P (Str.ofString "first_behind"), key := Value.str (Str.ofString "first_behind") 256, val := Value.ref 60 }, { hash := PyData.keyHash P (Str.ofString "expanded"), key := Value.str (Str.ofString "expanded") 266, val := Value.ref 67 }, { hash := PyData.keyHash P (Str.ofString "row"), key := Value.str (Str.ofString "row") 274, val := Value.ref 74 }, { hash := PyData.keyHash P (Str.ofString "between"), key := Value.str (Str.ofString "between") 287, val := Value.ref 81 }, { hash := PyData.keyHash P (Str.ofString "_law_purse"), key := Value.str (Str.ofString "_law_purse") 299, val := Value.ref 88 }, { hash := PyData.keyHash P (Str.ofString "_law_take"), key := Value.str (Str.ofString "_law_take") 308, val := Value.ref 95 }, { hash := PyData.keyHash P (Str.ofString "_law_crossed"), key := Value.str (Str.ofString "_law_crossed") 316, val := Value.ref 102 }, { hash := PyData.keyHash P (Str.ofString "_law_short"), key := Value.str (Str.ofString "_law_short") 325, val := Value.ref 109 }, { hash := PyData.keyHash P (Str.ofString "_law_wedge"), key := Value.str (Str.ofString "_law_wedge") 335, val := Value.ref 116 }, { hash := PyData.keyHash P (Str.ofString "_law_is_whole"), key := Value.str (Str.ofString "_law_is_whole") 342, val := Value.ref 123 }, { hash := PyData.keyHash P (Str.ofString "_law_is_pair"), key := Value.str (Str.ofString "_law_is_pair") 349, val := Value.ref 130 }, { hash := PyData.keyHash P (Str.ofString "_law_good"), key := Value.str (Str.ofString "_law_good") 355, val := Value.ref 135 }, { hash := PyData.keyHash P (Str.ofString "law"), key := Value.str (Str.ofString "law") 368, val := Value.ref 142 }] 26 }),
  (46, fO "crossed" (topP p 4) 45 "rayround.pairs" 223),
  (45, { cls := Value.type "code", data := Data.fields #[Value.str (Str.ofString "crossed") 225, Value.str (Str.ofString "crossed") 226, Value.str (Str.ofString "/claim/cut.py") 227, Value.int 7 0, Value.int 2 0, Value.int 0 0, Value.int 0 0, Value.int 3 0, Value.ref 40, Value.bool true, Value.int 181 0, Value.ref 41, Value.none, Value.ref 42, Value.ref 43, Value.ref 44, Value.int 230 0, Value.int 7 0, Value.str (Str.ofString "/claim/cut.py") 231] }),
  (53, fO "partner" (topP p 6) 52 "rayround.wedges" 233),
  (52, { cls := Value.type "code", data := Data.fields #[Value.str (Str.ofString "partner") 235, Value.str (Str.ofString "partner") 236, Value.str (Str.ofString "/claim/cut.py") 237, Value.int 10 0, Value.int 1 0, Value.int 0 0, Value.int 0 0, Value.int 3 0, Value.ref 47, Value.bool true, Value.int 181 0, Value.ref 48, Value.none, Value.ref 49, Value.ref 50, Value.ref 51, Value.int 244 0, Value.int 10 0, Value.str (Str.ofString "/claim/cut.py") 245] }),
  (60, fO "first_behind" (topP p 7) 59 "rayround.wedges" 233),
  (59, { cls := Value.type "code", data := Data.fields #[Value.str (Str.ofString "first_behind") 247, Value.str (Str.ofString "first_behind") 248, Value.str (Str.ofString "/claim/cut.py") 249, Value.int 18 0, Value.int 2 0, Value.int 0 0, Value.int 0 0, Value.int 3 0, Value.ref 54, Value.bool true, Value.int 181 0, Value.ref 55, Value.none, Value.ref 56, Value.ref 57, Value.ref 58, Value.int 254 0, Value.int 18 0, Value.str (Str.ofString "/claim/cut.py") 255] }),
  (67, fO "expanded" (topP p 8) 66 "rayround.wedges" 233),
  (66, { cls := Value.type "code", data := Data.fields #[Value.str (Str.ofString "expanded") 257, Value.str (Str.ofString "expanded") 258, Value.str (Str.ofString "/claim/cut.py") 259, Value.int 22 0, Value.int 2 0, Value.int 0 0, Value.int 0 0, Value.int 3 0, Value.ref 61, Value.bool true, Value.int 181 0, Value.ref 62, Value.none, Value.ref 63, Value.ref 64, Value.ref 65, Value.int 264 0, Value.int 22 0, Value.str (Str.ofString "/claim/cut.py") 265] }),
  (74, fO "row" (topP p 9) 73 "rayround.wedges" 233),
  (73, { cls := Value.type "code", data := Data.fields #[Value.str (Str.ofString "row") 267, Value.str (Str.ofString "row") 268, Value.str (Str.ofString "/claim/cut.py") 269, Value.int 29 0, Value.int 2 0, Value.int 0 0, Value.int 0 0, Value.int 3 0, Value.ref 68, Value.bool true, Value.int 181 0, Value.ref 69, Value.none, Value.ref 70, Value.ref 71, Value.ref 72, Value.int 272 0, Value.int 29 0, Value.str (Str.ofString "/claim/cut.py") 273] }),
  (81, fO "between" (topP p 10) 80 "rayround.wedges" 233),
  (80, { cls := Value.type "code", data := Data.fields #[Value.str (Str.ofString "between") 275, Value.str (Str.ofString "between") 276, Value.str (Str.ofString "/claim/cut.py") 277, Value.int 33 0, Value.int 2 0, Value.int 0 0, Value.int 0 0, Value.int 3 0, Value.ref 75, Value.bool true, Value.int 181 0, Value.ref 76, Value.none, Value.ref 77, Value.ref 78, Value.ref 79, Value.int 285 0, Value.int 33 0, Value.str (Str.ofString "/claim/cut.py") 286] }),
  (88, fO "_law_purse" (topP p 12) 87 "law_rayround_k11_rays_between" 288),
  (87, { cls := Value.type "code", data := Data.fields #[Value.str (Str.ofString "_law_purse") 290, Value.str (Str.ofString "_law_purse") 291, Value.str (Str.ofString "/claim/cut.py") 292, Value.int 42 0, Value.int 2 0, Value.int 0 0, Value.int 0 0, Value.int 3 0, Value.ref 82, Value.bool true, Value.int 181 0, Value.ref 83, Value.none, Value.ref 84, Value.ref 85, Value.ref 86, Value.int 297 0, Value.int 42 0, Value.str (Str.ofString "/claim/cut.py") 298] }),
  (95, fO "_law_take" (topP p 13) 94 "law_rayround_k11_rays_between" 288),
  (94, { cls := Value.type "code", data := Data.fields #[Value.str (Str.ofString "_law_take") 300, Value.str (Str.ofString "_law_take") 301, Value.str (Str.ofString "/claim/cut.py") 302, Value.int 48 0, Value.int 2 0, Value.int 0 0, Value.int 0 0, Value.int 3 0, Value.ref 89, Value.bool true, Value.int 181 0, Value.ref 90, Value.none, Value.ref 91, Value.ref 92, Value.ref 93, Value.int 306 0, Value.int 48 0, Value.str (Str.ofString "/claim/cut.py") 307] }),
  (102, fO "_law_crossed" (topP p 14) 101 "law_rayround_k11_rays_between" 288),
  (101, { cls := Value.type "code", data := Data.fields #[Value.str (Str.ofString "_law_crossed") 309, Value.str (Str.ofString "_law_crossed") 310, Value.str (Str.ofString "/claim/cut.py") 311, Value.int 55 0, Value.int 2 0, Value.int 0 0, Value.int 0 0, Value.int 3 0, Value.ref 96, Value.bool true, Value.int 181 0, Value.ref 97, Value.none, Value.ref 98, Value.ref 99, Value.ref 100, Value.int 314 0, Value.int 55 0, Value.str (Str.ofString "/claim/cut.py") 315] }),
  (109, fO "_law_short" (topP p 15) 108 "law_rayround_k11_rays_between" 288),
  (108, { cls := Value.type "code", data := Data.fields #[Value.str (Str.ofString "_law_short") 317, Value.str (Str.ofString "_law_short") 318, Value.str (Str.ofString "/claim/cut.py") 319, Value.int 57 0, Value.int 1 0, Value.int 0 0, Value.int 0 0, Value.int 3 0, Value.ref 103, Value.bool true, Value.int 181 0, Value.ref 104, Value.none, Value.ref 105, Value.ref 106, Value.ref 107, Value.int 323 0, Value.int 57 0, Value.str (Str.ofString "/claim/cut.py") 324] }),
  (116, fO "_law_wedge" (topP p 16) 115 "law_rayround_k11_rays_between" 288),
  (115, { cls := Value.type "code", data := Data.fields #[Value.str (Str.ofString "_law_wedge") 326, Value.str (Str.ofString "_law_wedge") 327, Value.str (Str.ofString "/claim/cut.py") 328, Value.int 64 0, Value.int 1 0, Value.int 0 0, Value.int 0 0, Value.int 3 0, Value.ref 110, Value.bool true, Value.int 181 0, Value.ref 111, Value.none, Value.ref 112, Value.ref 113, Value.ref 114, Value.int 333 0, Value.int 64 0, Value.str (Str.ofString "/claim/cut.py") 334] }),
  (123, fO "_law_is_whole" (topP p 17) 122 "law_rayround_k11_rays_between" 288),
  (122, { cls := Value.type "code", data := Data.fields #[Value.str (Str.ofString "_law_is_whole") 336, Value.str (Str.ofString "_law_is_whole") 337, Value.str (Str.ofString "/claim/cut.py") 338, Value.int 73 0, Value.int 1 0, Value.int 0 0, Value.int 0 0, Value.int 3 0, Value.ref 117, Value.bool true, Value.int 181 0, Value.ref 118, Value.none, Value.ref 119, Value.ref 120, Value.ref 121, Value.int 340 0, Value.int 73 0, Value.str (Str.ofString "/claim/cut.py") 341] }),
  (130, fO "_law_is_pair" (topP p 18) 129 "law_rayround_k11_rays_between" 288),
  (129, { cls := Value.type "code", data := Data.fields #[Value.str (Str.ofString "_law_is_pair") 343, Value.str (Str.ofString "_law_is_pair") 344, Value.str (Str.ofString "/claim/cut.py") 345, Value.int 75 0, Value.int 1 0, Value.int 0 0, Value.int 0 0, Value.int 3 0, Value.ref 124, Value.bool true, Value.int 181 0, Value.ref 125, Value.none, Value.ref 126, Value.ref 127, Value.ref 128, Value.int 347 0, Value.int 75 0, Value.str (Str.ofString "/claim/cut.py") 348] }),
  (135, fO "_law_good" (topP p 19) 134 "law_rayround_k11_rays_between" 288),
  (134, { cls := Value.type "code", data := Data.fields #[Value.str (Str.ofString "_law_good") 350, Value.str (Str.ofString "_law_good") 351, Value.str (Str.ofString "/claim/cut.py") 352, Value.int 77 0, Value.int 4 0, Value.int 0 0, Value.int 0 0, Value.int 3 0, Value.ref 131, Value.bool true, Value.int 181 0, Value.ref 132, Value.none, Value.none, Value.none, Value.ref 133, Value.int 353 0, Value.int 77 0, Value.str (Str.ofString "/claim/cut.py") 354] }),
  (142, fO "law" (topP p 20) 141 "law_rayround_k11_rays_between" 288),
  (141, { cls := Value.type "code", data := Data.fields #[Value.str (Str.ofString "law") 356, Value.str (Str.ofString "law") 357, Value.str (Str.ofString "/claim/cut.py") 358, Value.int 92 0, Value.int 1 0, Value.int 0 0, Value.int 0 0, Value.int 3 0, Value.ref 136, Value.bool true, Value.int 181 0, Value.ref 137, Value.none, Value.ref 138, Value.ref 139, Value.ref 140, Value.int 366 0, Value.int 92 0, Value.str (Str.ofString "/claim/cut.py") 367] }),
  (23, { cls := Value.type "dict", data := Data.dict #[{ hash := PyData.keyHash P (Str.ofString "__module__"), key := Value.str (Str.ofString "__module__") 196, val := Value.str (Str.ofString "rayround.errors") 187 }, { hash := PyData.keyHash P (Str.ofString "__firstlineno__"), key := Value.str (Str.ofString "__firstlineno__") 200, val := Value.int 2 199 }, { hash := PyData.keyHash P (Str.ofString "__static_attributes__"), key := Value.str (Str.ofString "__static_attributes__") 201, val := Value.ref 22 }, { hash := PyData.keyHash P (Str.ofString "__weakref__"), key := Value.str (Str.ofString "__weakref__") 203, val := Value.ref 25 }, { hash := PyData.keyHash P (Str.ofString "__doc__"), key := Value.str (Str.ofString "__doc__") 204, val := Value.none }] 3 }),
  (24, { cls := Value.type "type", data := Data.cls { name := Str.ofString "RayError", bases := [Value.type "ValueError"], mro := [Value.ref 24, Value.type "ValueError", Value.type "Exception", Value.type "BaseException", Value.type "object"], ns := 23, qualname := Str.ofString "RayError", subclasses := [Value.ref 37] }, slots := #[some (Value.ref 15), none, some (Value.str (Str.ofString "RayError") 189), some (Value.str (Str.ofString "RayError") 197), some (Value.builtin "ValueError.__new__"), some (Value.bool true)] }),
  (36, { cls := Value.type "dict", data := Data.dict #[{ hash := PyData.keyHash P (Str.ofString "__module__"), key := Value.str (Str.ofString "__module__") 214, val := Value.str (Str.ofString "rayround.errors") 187 }, { hash := PyData.keyHash P (Str.ofString "__firstlineno__"), key := Value.str (Str.ofString "__firstlineno__") 218, val := Value.int 4 217 }, { hash := PyData.keyHash P (Str.ofString "__static_attributes__"), key := Value.str (Str.ofString "__static_attributes__") 219, val := Value.ref 35 }, { hash := PyData.keyHash P (Str.ofString "__doc__"), key := Value.str (Str.ofString "__doc__") 220, val := Value.none }] 2 }),
  (37, { cls := Value.type "type", data := Data.cls { name := Str.ofString "NoWedge", bases := [Value.ref 24], mro := [Value.ref 37, Value.ref 24, Value.type "ValueError", Value.type "Exception", Value.type "BaseException", Value.type "object"], ns := 36, qualname := Str.ofString "NoWedge" }, slots := #[some (Value.ref 28), none, some (Value.str (Str.ofString "NoWedge") 207), some (Value.str (Str.ofString "NoWedge") 215), some (Value.builtin "ValueError.__new__"), some (Value.bool true)] })]
noncomputable def asK : List Addr := [3, 46, 45, 53, 52, 60, 59, 67, 66, 74, 73, 81, 80, 88, 87, 95, 94, 102, 101, 109, 108, 116, 115, 123, 122, 130, 129, 135, 134, 142, 141, 23, 24, 36, 37]
theorem asK_ok (p : Program) (P : Params) : asK = (Kf p P).map (·.1) := rfl
noncomputable def qf (p : Program) : Program := { p with main := { p.main with body := [topP p 20] } }
noncomputable def lo : List Str := [("__name__" : Str), ("RayError" : Str), ("NoWedge" : Str), ("crossed" : Str), ("partner" : Str), ("first_behind" : Str), ("expanded" : Str), ("row" : Str), ("between" : Str), ("_law_purse" : Str), ("_law_take" : Str), ("_law_crossed" : Str), ("_law_short" : Str), ("_law_wedge" : Str), ("_law_is_whole" : Str), ("_law_is_pair" : Str), ("_law_good" : Str)]
theorem walk {l : PySem.W.OpenLaw} {q : Program} {loose : List Str} {XP : (Str → Option Value) → Heap → Prop} {YP : World → Heap → Prop} {d : DefRec} {K : Params → PySem.W.Frag} (hn : l.most = some 63) (hdf : d.params.defaults = [])
    (hY : ∀ (w : World) (h : Heap), YP w h → (K w.params).In h)
    (F : ∀ (w : World) (mg : Str → Option Value) (fa : Addr) (h : Heap), (K w.params).In h → h.Ns mainGlobals mg → mg d.name = some (.ref fa) →
      ∃ fd : FuncData, (∀ (s : Shared) (u : Value), BindsTo s fd ⟨[u], []⟩ [("_law_script", u)]) ∧ ∀ base : Heap, (K w.params).In base → base.Ns mainGlobals mg → FnOk l.prog w (K w.params) mg base (CXE l.prog w) 105 fa fd ["_law_script"] (spD (K w.params) F_law)) :
    PySem.W.WalkO q loose XP YP l.row.toRowW d [] (fun f vs => PySem.call f vs) :=
  L2.walk_of (n := 63) (k := 105) (x := "_law_script") (CX := fun w => CXE l.prog w) (sp := fun w => spD (K w.params) F_law) hn (by decide) hdf ⟨fun _ => rfl, by decide, by decide⟩ hY F (fun _ _ a ns hl hO hS => DL.law_sp hl hO hS (law_true ns hl)) fun _ _ _ _ _ ⟨_, _, _, _, _, _, _, _, _, _, _, _, _, q⟩ => q
end K11
open PySem PySem.W PyProof.Rows
lay_quick PySem.Challenge.pw_rayround_k11_rays_between
namespace K11
noncomputable abbrev Hk : Hook := kHook (Kf PySem.Challenge.pw_rayround_k11_rays_between) asK (asK_ok PySem.Challenge.pw_rayround_k11_rays_between)
noncomputable def Xs (s : Shared) : Bool := xlAt (qf PySem.Challenge.pw_rayround_k11_rays_between) [] s && recOk (RowW.records (OpenRow.toRowW (OpenLaw.row PySem.Challenge.rw_rayround_k11_rays_between))) s
set_option maxRecDepth 1000000 in
set_option maxHeartbeats 0 in
theorem shot (w : World) (os : OsState) : (HD.runG through (HD.stpG (stepOk 11 (some (.ref 6))) (stepT (denote treeTable) PySem.Challenge.pw_rayround_k11_rays_between w)) 946 (HD.T0 w os) (topStub PySem.Challenge.pw_rayround_k11_rays_between)).map (fun s => ((staticsOk (importedModules PySem.Challenge.pw_rayround_k11_rays_between.main.body) (boot_heap w.params) s.abs.heap && namesBound PySem.Challenge.pw_rayround_k11_rays_between s.abs.heap && gensDone s.abs && laidKept (boot_heap w.params) s.abs.heap),
    openSeen (qf PySem.Challenge.pw_rayround_k11_rays_between) lo (importedModules PySem.Challenge.pw_rayround_k11_rays_between.main.body) (fun s => xlAt (qf PySem.Challenge.pw_rayround_k11_rays_between) [] s && recOk [] s) true s.abs, asK.map s.abs.heap.get?)) = some (true, openGood (qf PySem.Challenge.pw_rayround_k11_rays_between) lo, (Kf PySem.Challenge.pw_rayround_k11_rays_between w.params).map fun x => some x.2) := by
  rw [HD.te_ok, HD.te_step, HD.te_den, HD.te_tab, HD.te_seen, HD.te_imp, PySem.W.Fast.te7296052263870968094]
  kernel_rfl
end K11
set_option maxRecDepth 1000000 in
set_option maxHeartbeats 0 in
theorem PySem.Challenge.cw_rayround_k11_rays_between_holds : PySem.Challenge.rw_rayround_k11_rays_between.Holds := by
  w_on; o_law
  refine holds_open (q := K11.qf PySem.Challenge.pw_rayround_k11_rays_between) (loose := K11.lo) (Xt := fun s => xlAt (K11.qf PySem.Challenge.pw_rayround_k11_rays_between) [] s && recOk [] s) (XP := XL (K11.qf PySem.Challenge.pw_rayround_k11_rays_between) []) (Yf := Hook.obs K11.Hk) (Ya := Hook.val K11.Hk) (YP := Hook.says K11.Hk) (N := 1546) ?hl (Hook.of K11.Hk) (Hook.keeps K11.Hk) (fun s e => xl_of s (Bool.and_eq_true_iff.mp e).1) XL.keeps (by rfl) (by rfl) (by rfl) (fun s e => recFacts_of (Bool.and_eq_true_iff.mp e).2) (by rfl) (by first | assumption | decide +kernel) (by decide +kernel) ⟨rfl, rfl, rfl, rfl, rfl, by decide +kernel⟩ ?hw ?hc
  case hl => exact HD.left_shot rfl (by decide) (fun s => rfl) (by decide) K11.shot
  case hw => w_witness2
  case hc =>
    refine K11.walk (l := PySem.Challenge.rw_rayround_k11_rays_between) rfl rfl (fun w h Y => PySem.W.kIn_of Y) ?F
    intro w mg fa h KX G hmg
    refine K11.all_mk (f1 := 46) (od1 := none) (an1 := none) (sl1 := #[]) (oc1 := .type "function") (kV1 := .none) (dc1 := .none) (pm1 := .str "rayround.pairs" 223) (cd1 := .ref 45) (ct1 := .none) (f2 := 53) (od2 := none) (an2 := none) (sl2 := #[]) (oc2 := .type "function") (kV2 := .none) (dc2 := .none) (pm2 := .str "rayround.wedges" 233) (cd2 := .ref 52) (ct2 := .none) (f3 := 60) (od3 := none) (an3 := none) (sl3 := #[]) (oc3 := .type "function") (kV3 := .none) (dc3 := .none) (pm3 := .str "rayround.wedges" 233) (cd3 := .ref 59) (ct3 := .none) (f4 := 67) (od4 := none) (an4 := none) (sl4 := #[]) (oc4 := .type "function") (kV4 := .none) (dc4 := .none) (pm4 := .str "rayround.wedges" 233) (cd4 := .ref 66) (ct4 := .none) (f5 := 74) (od5 := none) (an5 := none) (sl5 := #[]) (oc5 := .type "function") (kV5 := .none) (dc5 := .none) (pm5 := .str "rayround.wedges" 233) (cd5 := .ref 73) (ct5 := .none) (f6 := 81) (od6 := none) (an6 := none) (sl6 := #[]) (oc6 := .type "function") (kV6 := .none) (dc6 := .none) (pm6 := .str "rayround.wedges" 233) (cd6 := .ref 80) (ct6 := .none) (f7 := 88) (od7 := none) (an7 := none) (sl7 := #[]) (oc7 := .type "function") (kV7 := .none) (dc7 := .none) (pm7 := .str "law_rayround_k11_rays_between" 288) (cd7 := .ref 87) (ct7 := .none) (f8 := 95) (od8 := none) (an8 := none) (sl8 := #[]) (oc8 := .type "function") (kV8 := .none) (dc8 := .none) (pm8 := .str "law_rayround_k11_rays_between" 288) (cd8 := .ref 94) (ct8 := .none) (f9 := 102) (od9 := none) (an9 := none) (sl9 := #[]) (oc9 := .type "function") (kV9 := .none) (dc9 := .none) (pm9 := .str "law_rayround_k11_rays_between" 288) (cd9 := .ref 101) (ct9 := .none) (f10 := 109) (od10 := none) (an10 := none) (sl10 := #[]) (oc10 := .type "function") (kV10 := .none) (dc10 := .none) (pm10 := .str "law_rayround_k11_rays_between" 288) (cd10 := .ref 108) (ct10 := .none) (f11 := 116) (od11 := none) (an11 := none) (sl11 := #[]) (oc11 := .type "function") (kV11 := .none) (dc11 := .none) (pm11 := .str "law_rayround_k11_rays_between" 288) (cd11 := .ref 115) (ct11 := .none) (f12 := 123) (od12 := none) (an12 := none) (sl12 := #[]) (oc12 := .type "function") (kV12 := .none) (dc12 := .none) (pm12 := .str "law_rayround_k11_rays_between" 288) (cd12 := .ref 122) (ct12 := .none) (f13 := 130) (od13 := none) (an13 := none) (sl13 := #[]) (oc13 := .type "function") (kV13 := .none) (dc13 := .none) (pm13 := .str "law_rayround_k11_rays_between" 288) (cd13 := .ref 129) (ct13 := .none) (f14 := 135) (od14 := none) (an14 := none) (sl14 := #[]) (oc14 := .type "function") (kV14 := .none) (dc14 := .none) (pm14 := .str "law_rayround_k11_rays_between" 288) (cd14 := .ref 134) (ct14 := .none) (f15 := 142) (od15 := none) (an15 := none) (sl15 := #[]) (oc15 := .type "function") (kV15 := .none) (dc15 := .none) (pm15 := .str "law_rayround_k11_rays_between" 288) (cd15 := .ref 141) (ct15 := .none) KX G hmg ?a1 ?l1 ?c1 ?k1 ?a2 ?l2 ?c2 ?k2 ?a3 ?l3 ?c3 ?k3 ?a4 ?l4 ?c4 ?k4 ?a5 ?l5 ?c5 ?k5 ?a6 ?l6 ?c6 ?k6 ?a7 ?l7 ?c7 ?k7 ?a8 ?l8 ?c8 ?k8 ?a9 ?l9 ?c9 ?k9 ?a10 ?l10 ?c10 ?k10 ?a11 ?l11 ?c11 ?k11 ?a12 ?l12 ?c12 ?k12 ?a13 ?l13 ?c13 ?k13 ?a14 ?l14 ?c14 ?k14 ?a15 ?l15 ?c15 ?k15 ?z_len ?z_int ?z_abs ?z_isinstance ?z_bool ?z_tuple ?z_list ?z_all ?z_zip ?z_min ?z_max ?z_range ?q_ex_NoWedge
    all_goals kernel_rfl


