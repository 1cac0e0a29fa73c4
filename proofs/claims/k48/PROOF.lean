import PyProof.Rows.All
import Wide.All
import OpenK.AllK
import Wide.FinOn
import Lean
import PyProof.EqAt
import PyProof.EqKinds
import PyProof.TupleCall
import PySem.Challenge.RW_rayround_k48_corners_and_back
section
set_option Elab.async false
set_option linter.all false
set_option maxRecDepth 100000
namespace DQ
open PySem PySem.Spec PyProof.Rows
noncomputable def ZbT (A : Around) (h : Heap) : Prop := A.handled = none ∨ ∃ ea oe vs, A.handled = some (.ref ea) ∧ h.get? ea = some oe ∧ oe.data = .fields vs ∧ vs[2]? = some .none
theorem ZbT.keeps {A : Around} {h h' : Heap} (q : ZbT A h) (k : ∀ b o, h.get? b = some o → h'.get? b = some o) : ZbT A h' := by
  rcases q with q | ⟨ea, oe, vs, e1, e2, e3, e4⟩
  · exact .inl q
  · exact .inr ⟨ea, oe, vs, e1, k _ _ e2, e3, e4⟩
theorem Zdw : entryFor table "proto.unchain" = some Builtin.«proto.unchain» := entryFor_of_fast (by kernel_rfl)
section
variable {prog : Program} {w : World} {A : Around} {E : Value → Shared → Prop} {s : Shared}
theorem ZeE {α : Type} {Q : α → Shared → Prop} {e : Addr} {oe : Obj} {vs : Array Value} (q : ZbT A s.heap) (he : s.heap.get? e = some oe) (hd : oe.data = .fields vs) (hz : 2 < vs.size)
    (h : ∀ h', (∀ b o, b ≠ e → s.heap.get? b = some o → h'.get? b = some o) → (∃ o, h'.get? e = some o ∧ o.cls = oe.cls) → E (.ref e) { s with heap := h' }) : wpAny (model prog w) A (raiseNew (.ref e) : Sem α) Q E s := by
  have same : E (.ref e) s := h s.heap (fun _ _ _ x => x) ⟨oe, he, rfl⟩
  unfold raiseNew
  refine wpAny_bind (wpAny_handled ?_)
  rcases q with q | ⟨ea, oa, ws, q1, q2, q3, q4⟩
  · rw [q]
    exact wpAny_bind (wpAny_pure (wpAny_throw same))
  · rw [q1]
    dsimp only
    by_cases c : (Value.ref ea != Value.ref e) = true
    · rw [if_pos c]
      refine wpAny_bind (wpAny_holding (wpAny_runValue (codeAny_builtin Zdw ?_)))
      unfold Builtin.«proto.unchain»
      refine wpAny_bind (wpAny_field q2 q3 q4 ?_)
      refine wpAny_bind (wpAny_pure ?_)
      have sf : wpAny (model prog w) A (setField (.ref e) 2 (.ref ea)) (fun _ s' => wpAny (model prog w) A (throw (Value.ref e) : Sem α) Q E s') E s := by
        refine wpAny_setField he hd hz (wpAny_throw (h _ (fun b o hb x => ?_) ⟨_, Heap.get?_update_self _ he (Obj.isFreed_of_fields (Obj.data_mapFields hd _)), Obj.cls_mapFields _ _⟩))
        rw [Heap.get?_update_other _ _ (Ne.symm hb)]
        exact x
      exact wpAny_pure (wpAny_bind sf)
    · rw [if_neg c]
      exact wpAny_throw same
theorem Zcm {α : Type} {Q : α → Shared → Prop} (q : ZbT A s.heap)
    (h : ∀ h' e, (∀ b o, s.heap.get? b = some o → h'.get? b = some o) → (∃ o, h'.get? e = some o ∧ o.cls = .type "StopIteration") → E (.ref e) { s with heap := h' }) :
    wpAny (model prog w) A (newExc (.type "StopIteration") [] >>= fun x => (raiseNew x : Sem α)) Q E s := by
  refine wpAny_bind ?_
  simp only [newExc, newTuple]
  refine wpAny_bind (wpAny_newObj_type ?_ (by size_fits))
  refine wpAny_bind (m := firstArgMember _ _) (wpAny_of_eq (a := Value.none) (by first | rfl | (simp only [firstArgMember]; rfl)) ?_)
  refine wpAny_newObj_type ?_ (by size_fits)
  refine ZeE (q.keeps fun b o x => Heap.get?_push_of_some _ (Heap.get?_push_of_some _ x)) (Heap.get?_push_size _ rfl) rfl (by rw [Array.size_append]; exact Nat.lt_of_lt_of_le (by decide : 2 < 6) (Nat.le_add_right _ _)) fun h' k he => ?_
  exact h h' _ (fun b o x => k b o (Nat.ne_of_lt (Nat.lt_of_lt_of_le (Heap.lt_size x) (by rw [Heap.size_push]; exact Nat.le_succ _))) (Heap.get?_push_of_some _ (Heap.get?_push_of_some _ x))) he
theorem ZjH {e : Addr} {Q : Bool → Shared → Prop} (he : ∃ o, s.heap.get? e = some o ∧ o.cls = .type "StopIteration") (h : Q true s) : wpAny (model prog w) A (isInstance (.ref e) (.type "StopIteration")) Q E s :=
  let ⟨o, e1, e2⟩ := he
  wpAny_isInstance (T := "StopIteration") (b := true) ⟨o, e1, e2⟩ isSubtype_stop h
theorem ZbT.in1 {h : Heap} (q : ZbT A h) : ZbT A.in1 h := q
noncomputable def Zgb (it : Addr) (s : Shared) (e : Value) (s' : Shared) : Prop := ∃ a, e = .ref a ∧ (∃ o, s'.heap.get? a = some o ∧ o.cls = .type "StopIteration") ∧ ∃ h', Heap.ExtBut it s.heap h' ∧ s' = { s with heap := h' }
theorem Zgc {it : Addr} {T id : String} {b : Builtin} {Q : Option Value → Shared → Prop} (hT : s.TypeIs (.ref it) T) (sl : Slot T (Str.ofString "__next__") id) (hb : entryFor table id = some b) (ha : argsOk id ⟨[.ref it], []⟩)
    (h : wpAny (model prog w) A.in1 (b ⟨[.ref it], []⟩) (fun _ _ => False) (Zgb it s) s) (hQ : ∀ h', Heap.ExtBut it s.heap h' → Q none { s with heap := h' }) : wpAny (model prog w) A (pyNext (.ref it)) Q E s := by
  unfold pyNext
  refine wpAny_bind (wpAny_attempt (wpAny_callSpecial?_slot (name := Str.ofString "__next__") hT sl (wpAny_call_entry sl hT hb (wpAny_mono h (fun _ _ z => z.elim) fun e s' z => ?_) ha)))
  obtain ⟨a, rfl, ho, h', eb, rfl⟩ := z
  exact wpAny_bind (ZjH ho (wpAny_pure (hQ h' eb)))
theorem Zgd {it : Addr} {x left step : Int} {Q : Option Value → Shared → Prop} (q : ZbT A s.heap) (hit : IsRangeIter s.heap it x left step) (hl : left ≤ 0)
    (hQ : ∀ h', Heap.ExtBut it s.heap h' → Q none { s with heap := h' }) : wpAny (model prog w) A (pyNext (.ref it)) Q E s := by
  refine Zgc ⟨_, hit, rfl⟩ F.slot_range_iterator_next F.entry_range_iterator_next (F.args_range_iterator_next_1 _) ?_ hQ
  refine wpAny_bind (m := field (.ref it) 0) (wpAny_field hit rfl (x := rawInt x) rfl ?_)
  refine wpAny_bind (m := field (.ref it) 1) (wpAny_field hit rfl (x := rawInt left) rfl ?_)
  refine wpAny_bind (m := field (.ref it) 2) (wpAny_field hit rfl (x := rawInt step) rfl ?_)
  dsimp only [rawInt]
  rw [if_pos hl]
  refine wpAny_bind (wpAny_rule (wpAny_bind ?_))
  exact Zcm q.in1 fun h' e k ho => ⟨e, rfl, ho, h', fun b o _ z => k b o z, rfl⟩
theorem Zlb {it l : Addr} {i : Nat} {o ol : Obj} {items : Array Value} {n : Nat} (q : ZbT A s.heap) (ho : s.heap.get? it = some o) (hd : o.data = .fields #[.ref l, .int i 0]) (hol : s.heap.get? l = some ol) (hdl : ol.data = .seq items n) (hx : items[i]? = none) :
    wpAny (model prog w) A.in1 (Builtin.«list_iterator.__next__» ⟨[.ref it], []⟩) (fun _ _ => False) (Zgb it s) s := by
  refine wpAny_bind (m := field (.ref it) 0) (wpAny_field ho hd (x := .ref l) rfl ?_)
  dsimp only
  rw [if_neg (show ¬ ((Value.ref l == Value.none) = true) from Bool.false_ne_true)]
  refine wpAny_bind (m := field (.ref it) 1) (wpAny_field ho hd (x := .int i 0) rfl ?_)
  refine wpAny_bind (m := seqItems? (.ref l)) (wpAny_seqItems hol hdl ?_)
  simp only [Int.toNat_natCast, hx]
  refine wpAny_bind (wpAny_rule (wpAny_bind (wpAny_setField ho hd (by simp) ?_)))
  have q2 : ZbT A.in1 (s.heap.update it (Obj.mapFields (·.setIfInBounds 0 Value.none))) := by
    rcases q with q | ⟨ea, oe, vs, e1, e2, e3, e4⟩
    · exact .inl q
    · refine .inr ⟨ea, oe, vs, e1, ?_, e3, e4⟩
      rw [Heap.get?_update_other _ _ (fun z => ?_)]
      · exact e2
      · rw [← z, ho] at e2
        cases e2
        rw [hd] at e3
        cases e3
        simp at e4
  refine Zcm q2 fun h' e k ho => ⟨e, rfl, ho, h', fun b o hb z => k b o ?_, rfl⟩
  rw [Heap.get?_update_other _ _ (Ne.symm hb)]
  exact z
theorem Zlc {it l : Addr} {i : Nat} {o ol : Obj} {items : Array Value} {n : Nat} (q : ZbT A s.heap) (ho : s.heap.get? it = some o) (hd : o.data = .fields #[.ref l, .int i 0]) (hol : s.heap.get? l = some ol) (hdl : ol.data = .seq items n) (hx : items[i]? = none) :
    wpAny (model prog w) A.in1 (Builtin.«tuple_iterator.__next__» ⟨[.ref it], []⟩) (fun _ _ => False) (Zgb it s) s := by
  refine wpAny_bind (m := field (.ref it) 0) (wpAny_field ho hd (x := .ref l) rfl ?_)
  dsimp only
  rw [if_neg (show ¬ ((Value.ref l == Value.none) = true) from Bool.false_ne_true)]
  refine wpAny_bind (m := field (.ref it) 1) (wpAny_field ho hd (x := .int i 0) rfl ?_)
  refine wpAny_bind (m := seqItems? (.ref l)) (wpAny_seqItems hol hdl ?_)
  simp only [Int.toNat_natCast, hx]
  refine wpAny_bind (wpAny_rule (wpAny_bind (wpAny_setField ho hd (by simp) ?_)))
  have q2 : ZbT A.in1 (s.heap.update it (Obj.mapFields (·.setIfInBounds 0 Value.none))) := by
    rcases q with q | ⟨ea, oe, vs, e1, e2, e3, e4⟩
    · exact .inl q
    · refine .inr ⟨ea, oe, vs, e1, ?_, e3, e4⟩
      rw [Heap.get?_update_other _ _ (fun z => ?_)]
      · exact e2
      · rw [← z, ho] at e2
        cases e2
        rw [hd] at e3
        cases e3
        simp at e4
  refine Zcm q2 fun h' e k ho => ⟨e, rfl, ho, h', fun b o hb z => k b o ?_, rfl⟩
  rw [Heap.get?_update_other _ _ (Ne.symm hb)]
  exact z
theorem ZhP {it l : Addr} {i : Nat} {items} {Q : Option Value → Shared → Prop} (q : ZbT A s.heap) (hit : s.heap.IsListIter it l i) (hl : s.heap.IsList l items) (hx : items[i]? = none)
    (hQ : ∀ h', Heap.ExtBut it s.heap h' → Q none { s with heap := h' }) : wpAny (model prog w) A (pyNext (.ref it)) Q E s := by
  obtain ⟨o, ho, hc, hd⟩ := id hit
  obtain ⟨ol, hol, _, nl, hdl⟩ := hl
  exact Zgc hit.typeIs slot_listiter_next entry_listiter_next (args_listiter_next _) (Zlb q ho hd hol hdl hx) hQ
theorem Zge {it l : Addr} {i : Nat} {items} {Q : Option Value → Shared → Prop} (q : ZbT A s.heap) (hit : s.heap.IsTupleIter it l i) (hl : s.heap.IsTuple l items) (hx : items[i]? = none)
    (hQ : ∀ h', Heap.ExtBut it s.heap h' → Q none { s with heap := h' }) : wpAny (model prog w) A (pyNext (.ref it)) Q E s := by
  obtain ⟨o, ho, hc, hd⟩ := id hit
  obtain ⟨ol, hol, _, nl, hdl⟩ := hl
  exact Zgc hit.typeIs F.slot_tuple_iterator_next F.entry_tuple_iterator_next (F.args_tuple_iterator_next_1 _) (Zlc q ho hd hol hdl hx) hQ
end
end DQ
end
section
set_option Elab.async false
set_option linter.all false
set_option maxRecDepth 100000
namespace L2
open PySem PySem.Spec PyProof.Rows
noncomputable abbrev Key := Sum Int Str
noncomputable def Zld : Key → Value → Bool
  | .inl k, v => Value.isInt k v
  | .inr x, v => Value.isStrOf x v
noncomputable def Zq8 (w : World) : Key → Int
  | .inl k => hashInt k
  | .inr x => hashStr w x
theorem ZT : ∀ {k : Key} {v : Value}, Zld k v = true → (∃ i t, k = Sum.inl i ∧ v = Value.int i t) ∨ (∃ x t, k = Sum.inr x ∧ v = Value.str x t)
  | .inl i, v, h => by
    obtain ⟨t, e⟩ := Value.isInt_shape (k := i) (v := v) h
    exact .inl ⟨i, t, rfl, e⟩
  | .inr x, v, h => by
    obtain ⟨t, e⟩ := Value.isStrOf_shape (x := x) (v := v) h
    exact .inr ⟨x, t, rfl, e⟩
theorem Zle (a b : Int) : decide ((Sum.inl a : Key) = Sum.inl b) = (a == b) := by
  by_cases e : a = b
  · subst e; simp
  · have h : ¬ (Sum.inl a : Key) = Sum.inl b := fun q => e (Sum.inl.inj q)
    rw [decide_eq_false h]
    exact (beq_eq_false_iff_ne.mpr e).symm
theorem Zlf (a b : Str) : decide ((Sum.inr a : Key) = Sum.inr b) = decide (a = b) := by
  by_cases e : a = b
  · subst e; simp
  · have h : ¬ (Sum.inr a : Key) = Sum.inr b := fun q => e (Sum.inr.inj q)
    rw [decide_eq_false h, decide_eq_false e]
theorem Zlg (a : Int) (b : Str) : decide ((Sum.inl a : Key) = Sum.inr b) = false := decide_eq_false (fun q => nomatch q)
theorem Zlh (a : Str) (b : Int) : decide ((Sum.inr a : Key) = Sum.inl b) = false := decide_eq_false (fun q => nomatch q)
noncomputable def Zgf (prog : Program) (w : World) : PySem.KeyKind prog w Key where
  is := Zld
  hash := Zq8 w
  inj := fun v a b ha hb => by
    rcases ZT ha with ⟨i, t, rfl, rfl⟩ | ⟨x, t, rfl, rfl⟩
    · rcases ZT hb with ⟨j, u, rfl, e⟩ | ⟨y, u, rfl, e⟩
      · injection e with e1 _; rw [e1]
      · exact nomatch e
    · rcases ZT hb with ⟨j, u, rfl, e⟩ | ⟨y, u, rfl, e⟩
      · exact nomatch e
      · injection e with e1 _; rw [e1]
  byValue := fun k v h => by
    rcases ZT h with ⟨i, t, rfl, rfl⟩ | ⟨x, t, rfl, rfl⟩ <;> rfl
  pyHash := fun hv h => by
    rcases ZT hv with ⟨i, t, rfl, rfl⟩ | ⟨x, t, rfl, rfl⟩
    · exact wpAny_pyHash_int h
    · exact wpAny_pyHash_str h
  eqBool := fun hu hv h => by
    rcases ZT hu with ⟨i, t, rfl, rfl⟩ | ⟨x, t, rfl, rfl⟩
    · rcases ZT hv with ⟨j, u, rfl, rfl⟩ | ⟨y, u, rfl, rfl⟩
      · rw [Zle] at h; exact wpAny_eqBool_int h
      · rw [Zlg] at h; exact SeqAt.EqAt.int_str i t y u _ _ _ _ h
    · rcases ZT hv with ⟨j, u, rfl, rfl⟩ | ⟨y, u, rfl, rfl⟩
      · rw [Zlh] at h; exact SeqAt.EqAt.str_int x t j u _ _ _ _ h
      · rw [Zlf] at h; exact wpAny_eqBool_str h
  «strs» := fun k x t v h => by
    rcases ZT h with ⟨i, u, rfl, e⟩ | ⟨y, u, rfl, e⟩
    · exact nomatch e
    · injection e with e1 _
      subst e1
      cases v <;> rfl
end L2
namespace L2
open PySem PySem.Spec PyProof.Rows
inductive V where
  | non | bl (b : Bool) | int (i : Int) | str (x : Str) | byt (b : Array UInt8) | flt (b : UInt64) | ref (a : Addr) | ty (n : String)
  deriving DecidableEq
noncomputable def Zat : V → Value → Prop
  | .non, u => u = Value.none
  | .bl b, u => u = Value.bool b
  | .int i, u => ∃ t, u = Value.int i t
  | .str x, u => ∃ t, u = Value.str x t
  | .byt b, u => ∃ t, u = Value.bytes b t
  | .flt b, u => ∃ t, u = Value.float b t
  | .ref a, u => u = Value.ref a
  | .ty n, u => u = Value.type n
noncomputable abbrev Z3 : List V → List Value → Prop := Paired Zat
theorem Z3.length {xs : List V} {us : List Value} (r : Z3 xs us) : xs.length = us.length := Paired.length r
theorem Z3.get : ∀ {xs : List V} {us : List Value} {i : Nat} {x : V}, Z3 xs us → xs[i]? = some x → ∃ u, us[i]? = some u ∧ Zat x u
  | _, _, _, _, .nil, e => by simp at e
  | _, _, 0, _, .cons r _, e => by simp at e; subst e; exact ⟨_, rfl, r⟩
  | _, _, i + 1, x, .cons _ t, e => by
    obtain ⟨u, h1, h2⟩ := Z3.get (i := i) (x := x) t (by simpa using e)
    exact ⟨u, by simpa using h1, h2⟩
theorem Z3.set {x : V} {u : Value} (r : Zat x u) : ∀ {xs : List V} {us : List Value} (i : Nat), Z3 xs us → Z3 (xs.set i x) (us.set i u)
  | _, _, _, .nil => .nil
  | _, _, 0, .cons _ t => .cons r t
  | _, _, i + 1, .cons q t => .cons q (Z3.set r i t)
theorem Z3.append : ∀ {xs ys : List V} {us ws : List Value}, Z3 xs us → Z3 ys ws → Z3 (xs ++ ys) (us ++ ws)
  | _, _, _, _, .nil, s => s
  | _, _, _, _, .cons r t, s => .cons r (Z3.append t s)
theorem Z3.take : ∀ {xs : List V} {us : List Value} (n : Nat), Z3 xs us → Z3 (xs.take n) (us.take n)
  | _, _, 0, _ => .nil
  | _, _, _ + 1, .nil => .nil
  | _, _, n + 1, .cons r t => .cons r (Z3.take n t)
theorem Z3.drop : ∀ {xs : List V} {us : List Value} (n : Nat), Z3 xs us → Z3 (xs.drop n) (us.drop n)
  | _, _, 0, r => r
  | _, _, _ + 1, .nil => .nil
  | _, _, n + 1, .cons _ t => Z3.drop n t
noncomputable def Zp8 : Option V → Option Value → Prop
  | some v, some u => Zat v u
  | none, none => True
  | _, _ => False
noncomputable def KV {κ : Type} : List (κ × V) → List (κ × Value) → Prop := Paired fun (p : κ × V) (q : κ × Value) => p.1 = q.1 ∧ Zat p.2 q.2
noncomputable def kV : Key → V
  | .inl i => .int i
  | .inr x => .str x
inductive HO where
  | lst (xs : List V)
  | tup (xs : List V)
  | dK (kvs : List (Key × V)) | dT (kvs : List (List Key × V))
  | set (S : Int → Bool) (n : Nat)
  | ins (C dx : Addr) (fs : List (Str × V))
  | own (x : Addr)
  | xd (fs : List (Str × V))
  | met (f x : Addr)
  | rng (lo hi : Int)
  | frz (o : Obj) (u : HO)
  | tbl (ps : Array Value)
  | ext (φ : Heap → Prop)
noncomputable abbrev Hp := Addr → Option HO
noncomputable def upd (H : Hp) (a : Addr) (o : HO) : Hp := fun b => if b = a then some o else H b
theorem ZaH {H : Hp} {a : Addr} {o : HO} : upd H a o a = some o := by unfold upd; rw [if_pos rfl]
theorem ZR {H : Hp} {a b : Addr} {o : HO} (h : b ≠ a) : upd H a o b = H b := by unfold upd; rw [if_neg h]
theorem Zad {H : Hp} {a b : Addr} {o : HO} (h : H a = some o) (h' : H b = none) : a ≠ b := by
  intro e; subst e; rw [h] at h'; cases h'
section
variable (P : Program) (w : World)
noncomputable def Zb8 (H : Hp) (h : Heap) (a : Addr) : HO → Prop
  | .lst xs => xs.length ≤ sizeLine ∧ ∃ (its : List Value) (n : Nat), Z3 xs its ∧ h.get? a = some { cls := .type "list", data := .seq its.toArray n }
  | .tup xs => xs.length ≤ sizeLine ∧ ∃ its : List Value, Z3 xs its ∧ IsTup h a its.toArray
  | .dK kvs => kvs.length ≤ sizeLine ∧ (a == sysModules) = false ∧ ∃ vs, KV kvs vs ∧ h.DictOf (Zgf P w) a vs
  | .dT kvs => kvs.length ≤ sizeLine ∧ (a == sysModules) = false ∧ ∃ xs : List (List Key × Addr × Value),
      Paired (fun (p : List Key × V) (q : List Key × Addr × Value) => p.1 = q.1 ∧ H q.2.1 = some (.tup (p.1.map kV)) ∧ Zat p.2 q.2.2) kvs xs ∧
      ∃ o es ep, h.get? a = some o ∧ o.ExactDict ∧ o.data = .dict es ep ∧ es.toList = xs.map (entryOfKey (tupleKind (Zgf P w))) ∧ (xs.map (·.1)).Nodup
  | .set S n => h.SetOf (intKind P w) a S n
  | .ins C dx fs => H dx = some (.own a) ∧ fs.length ≤ 1000 ∧ dx ≠ a ∧ h.get? a = some (PySem.W.instObj C dx) ∧
      ∃ mA, h.Ns1 dx mA ∧ (∀ f, Zp8 (fs.lookup f) (mA f)) ∧ PySem.Within mA (fs.map (·.1))
  | .own _ => ∃ o, h.get? a = some o
  | .xd fs => ∃ mA, h.Ns1 a mA ∧ ∀ f, Zp8 (fs.lookup f) (mA f)
  | .rng lo hi => ∃ t u v, h.get? a = some { cls := .type "range", data := .fields #[.int lo t, .int hi u, .int 1 v] }
  | .frz o u => h.get? a = some o ∧ Zb8 H h a u
  | .tbl ps => h.get? a = some { cls := .none, data := .fields ps }
  | .met f x => h.get? a = some (PySem.W.methodObj (.ref f) (.ref x))
  | .ext φ => φ h ∧ (∃ o, h.get? a = some o) ∧ ∀ h1 h2 : Heap, φ h1 → (∀ o, h1.get? a = some o → h2.get? a = some o) → φ h2
noncomputable def HOk (H : Hp) (h : Heap) : Prop := ∀ a o, H a = some o → Zb8 P w H h a o
end
section
variable {P : Program} {w : World} {H H' : Hp} {h h' : Heap} {a : Addr} {o : HO}
theorem Zb8.lt (x : Zb8 P w H h a o) : a < h.objs.size := by
  cases o with
  | lst xs => obtain ⟨_, _, _, _, e⟩ := x; exact Heap.lt_size e
  | tup xs => obtain ⟨_, _, _, p⟩ := x; exact p.lt
  | dK kvs => obtain ⟨_, _, _, _, o, _, _, e, _⟩ := x; exact Heap.lt_size e
  | dT kvs => obtain ⟨_, _, _, _, o, _, _, e, _⟩ := x; exact Heap.lt_size e
  | set S n => obtain ⟨o, _, _, _, e, _⟩ := x; exact Heap.lt_size e
  | ins C dx fs => obtain ⟨_, _, _, e, _⟩ := x; exact Heap.lt_size e
  | own y => obtain ⟨_, e⟩ := x; exact Heap.lt_size e
  | xd fs => obtain ⟨_, ⟨_, _, _, e, _⟩, _⟩ := x; exact Heap.lt_size e
  | rng lo hi => obtain ⟨_, _, _, e⟩ := x; exact Heap.lt_size e
  | frz ob u => obtain ⟨e, _⟩ := x; exact Heap.lt_size e
  | tbl ps => exact Heap.lt_size (show h.get? a = some _ from x)
  | met f y => exact Heap.lt_size (show h.get? a = some _ from x)
  | ext φ => obtain ⟨_, ⟨_, e⟩, _⟩ := x; exact Heap.lt_size e
theorem Paired.mapP {α β : Type} {F G : α → β → Prop} : ∀ {l₁ : List α} {l₂ : List β}, Paired F l₁ l₂ → (∀ a b, F a b → G a b) → Paired G l₁ l₂
  | _, _, .nil, _ => .nil
  | _, _, .cons r t, f => .cons (f _ _ r) (Paired.mapP t f)
theorem Zb8.stay (x : Zb8 P w H h a o) (k : ∀ b u, (b = a ∨ H b = some (.own a)) → h.get? b = some u → h'.get? b = some u)
    (ho : ∀ b, H b = some (.own a) → H' b = some (.own a)) (ht : ∀ b xs, H b = some (.tup xs) → H' b = some (.tup xs)) : Zb8 P w H' h' a o := by
  induction o with
  | lst xs => obtain ⟨z, its, n, r, e⟩ := x; exact ⟨z, its, n, r, k _ _ (.inl rfl) e⟩
  | tup xs => obtain ⟨z, its, r, ob, e, c⟩ := x; exact ⟨z, its, r, ob, k _ _ (.inl rfl) e, c⟩
  | dK kvs => obtain ⟨z, y, vs, r, ob, es, ep, e, c⟩ := x; exact ⟨z, y, vs, r, ob, es, ep, k _ _ (.inl rfl) e, c⟩
  | dT kvs =>
    obtain ⟨z, y, xs, r, ob, es, ep, e, c⟩ := x
    exact ⟨z, y, xs, Paired.mapP r fun p q z => ⟨z.1, ht _ _ z.2.1, z.2.2⟩, ob, es, ep, k _ _ (.inl rfl) e, c⟩
  | set S n => obtain ⟨ob, es, ep, t, e, c⟩ := x; exact ⟨ob, es, ep, t, k _ _ (.inl rfl) e, c⟩
  | ins C dx fs =>
    obtain ⟨d, z, ne, e, mA, ⟨od, es, ep, e2, c⟩, r⟩ := x
    exact ⟨ho _ d, z, ne, k _ _ (.inl rfl) e, mA, ⟨od, es, ep, k _ _ (.inr d) e2, c⟩, r⟩
  | own y => obtain ⟨ob, e⟩ := x; exact ⟨ob, k _ _ (.inl rfl) e⟩
  | xd fs => obtain ⟨mA, ⟨od, es, ep, e, c⟩, r⟩ := x; exact ⟨mA, ⟨od, es, ep, k _ _ (.inl rfl) e, c⟩, r⟩
  | rng lo hi => obtain ⟨t, u, v, e⟩ := x; exact ⟨t, u, v, k _ _ (.inl rfl) e⟩
  | frz ob u ih => obtain ⟨e, q⟩ := x; exact ⟨k _ _ (.inl rfl) e, ih q⟩
  | tbl ps =>
    have e : h.get? a = some { cls := .none, data := .fields ps } := x
    show h'.get? a = some { cls := .none, data := .fields ps }
    exact k a _ (.inl rfl) e
  | met f y =>
    have e : h.get? a = some (PySem.W.methodObj (.ref f) (.ref y)) := x
    show h'.get? a = some (PySem.W.methodObj (.ref f) (.ref y))
    exact k a _ (.inl rfl) e
  | ext φ => obtain ⟨p, ⟨o, e⟩, st⟩ := x; exact ⟨st _ _ p fun o q => k _ _ (.inl rfl) q, ⟨o, k _ _ (.inl rfl) e⟩, st⟩
theorem HOk.lt (x : HOk P w H h) (e : H a = some o) : a < h.objs.size := (x a o e).lt
theorem HOk.fresh (x : HOk P w H h) (e : h.objs.size ≤ a) : H a = none := by
  cases q : H a with
  | none => rfl
  | some u => exact absurd (Nat.lt_of_lt_of_le (x.lt q) e) (Nat.lt_irrefl _)
theorem HOk.kept (x : HOk P w H h) (k : ∀ b u, h.get? b = some u → h'.get? b = some u) : HOk P w H h' := fun a o e =>
  (x a o e).stay (fun b u _ q => k b u q) (fun _ q => q) fun _ _ q => q
theorem HOk.laid (x : HOk P w H h) (k : ∀ b u, h.get? b = some u → h'.get? b = some u) (hp : h.objs.size ≤ a) (new : Zb8 P w (upd H a o) h' a o) : HOk P w (upd H a o) h' := fun b u e => by
  have hn := x.fresh hp
  by_cases hb : b = a
  · subst hb; rw [ZaH] at e; cases e; exact new
  · rw [ZR hb] at e
    exact (x b u e).stay (fun c v _ q => k c v q) (fun c q => by rw [ZR (Zad q hn)]; exact q) fun c xs q => by rw [ZR (Zad q hn)]; exact q
end
noncomputable def Rd (H : Hp) (a : Addr) (u : HO) : Prop := H a = some u ∨ ∃ o, H a = some (.frz o u)
theorem Rd.ok {P : Program} {w : World} {H : Hp} {h : Heap} {a : Addr} {u : HO} (r : Rd H a u) (x : HOk P w H h) : Zb8 P w H h a u := by
  rcases r with r | ⟨o, r⟩
  · exact x a u r
  · obtain ⟨_, q⟩ := x a _ r
    exact q
noncomputable def Mut : Option HO → Prop
  | some (.lst _) => True
  | some (.dK _) => True
  | some (.dT _) => True
  | some (.set _ _) => True
  | some (.ins _ _ _) => True
  | some (.ext _) => True
  | _ => False
section
variable {P : Program} {w : World} {H : Hp} {h h' : Heap} {x e : Addr} {o' : HO}
theorem HOk.write (ok : HOk P w H h) (mu : Mut (H x)) (he : e = x ∨ H e = some (.own x)) (k : ∀ b u, b ≠ e → h.get? b = some u → h'.get? b = some u) (heo : ∃ u, h'.get? e = some u)
    (new : Zb8 P w (upd H x o') h' x o') : HOk P w (upd H x o') h' := fun b u q => by
  have nown : ∀ c y, H c = some (.own y) → c ≠ x := fun c y r z => by subst z; rw [r] at mu; exact mu
  have ntup : ∀ c xs, H c = some (.tup xs) → c ≠ x := fun c xs r z => by subst z; rw [r] at mu; exact mu
  by_cases hb : b = x
  · subst hb; rw [ZaH] at q; cases q; exact new
  · rw [ZR hb] at q
    by_cases hbe : b = e
    · have q' : H b = some (.own x) := by
        rcases he with z | z
        · exact absurd (hbe.trans z) hb
        · rw [hbe]; exact z
      rw [q] at q'; cases q'
      obtain ⟨v, hv⟩ := heo
      exact ⟨v, by rw [hbe]; exact hv⟩
    · refine (ok b u q).stay (fun c v hc r => k c v ?_ r) (fun c r => by rw [ZR (nown c b r)]; exact r) fun c xs r => by rw [ZR (ntup c xs r)]; exact r
      rcases hc with rfl | hc
      · exact hbe
      · rintro rfl
        rcases he with z | z
        · exact nown c b hc z
        · rw [hc] at z; cases z; exact hb rfl
end
structure Un (fs ex : List Addr) (H H' : Hp) (h h' : Heap) : Prop where
  keep : ∀ b o, h.get? b = some o → H b = none → b ∉ fs → b ∉ ex → h'.get? b = some o
  slot : ∀ b o, h.get? b = some o → H b = none → b ∈ fs → b ∉ ex → ∃ sl, h'.get? b = some { o with slots := sl }
  free : ∀ b o, h.get? b = some o → H b = none → b ∉ ex → H' b = none
  there : ∀ b o, h.get? b = some o → b ∉ ex → ∃ o', h'.get? b = some o'
  tups : ∀ b xs, H b = some (.tup xs) → H' b = some (.tup xs)
  frzs : ∀ b o u, H b = some (.frz o u) → H' b = some (.frz o u)
  tbls : ∀ b ps, H b = some (.tbl ps) → ∃ more, H' b = some (.tbl (ps ++ more))
section
variable {fs fs' ex ex' : List Addr} {H H1 H2 : Hp} {h h1 h2 h' : Heap} {a x e : Addr} {o : HO}
theorem Un.any (u : Un fs ex H H1 h h1) {b : Addr} {ob : Obj} (q : h.get? b = some ob) (n : H b = none) (hx : b ∉ ex) : ∃ sl, h1.get? b = some { ob with slots := sl } := by
  by_cases hb : b ∈ fs
  · exact u.slot b ob q n hb hx
  · exact ⟨ob.slots, u.keep b ob q n hb hx⟩
theorem Un.kept (k : ∀ b u, h.get? b = some u → h'.get? b = some u) : Un fs ex H H h h' :=
  ⟨fun b ob q _ _ _ => k b ob q, fun b ob q _ _ _ => ⟨ob.slots, k b ob q⟩, fun _ _ _ n _ => n, fun b ob q _ => ⟨ob, k b ob q⟩, fun _ _ q => q, fun _ _ _ q => q, fun _ ps q => ⟨#[], by rw [q]; simp⟩⟩
theorem Un.refl : Un fs ex H H h h := Un.kept fun _ _ q => q
theorem Un.laid (k : ∀ b u, h.get? b = some u → h'.get? b = some u) (hp : h.objs.size ≤ a) (hn : H a = none) : Un fs ex H (upd H a o) h h' where
  keep := fun b u q _ _ _ => k b u q
  slot := fun b u q _ _ _ => ⟨u.slots, k b u q⟩
  free := fun b u q n _ => by rw [ZR (Nat.ne_of_lt (Nat.lt_of_lt_of_le (Heap.lt_size q) hp))]; exact n
  there := fun b u q _ => ⟨u, k b u q⟩
  tups := fun b xs q => by rw [ZR (Zad q hn)]; exact q
  frzs := fun b u xs q => by rw [ZR (Zad q hn)]; exact q
  tbls := fun b ps q => ⟨#[], by rw [ZR (Zad q hn), q]; simp⟩
theorem Un.write (mu : Mut (H x)) (he : e = x ∨ H e = some (.own x)) (k : ∀ b u, b ≠ e → h.get? b = some u → h'.get? b = some u) (heo : ∃ u, h'.get? e = some u) : Un fs ex H (upd H x o) h h' := by
  have hx : ∀ b, H b = none → b ≠ x := fun b n z => by subst z; rw [n] at mu; exact mu
  have hb : ∀ b, H b = none → b ≠ e := fun b n z => by
    subst z
    rcases he with r | r
    · exact hx b n r
    · rw [n] at r; cases r
  have hm : ∀ b u, H b = some u → ¬ Mut (some u) → b ≠ x := fun b u q nm z => by subst z; rw [q] at mu; exact nm mu
  refine ⟨fun b u q n _ _ => k b u (hb b n) q, fun b u q n _ _ => ⟨u.slots, k b u (hb b n) q⟩, fun b u q n _ => by rw [ZR (hx b n)]; exact n, fun b u q _ => ?_,
    fun b xs q => by rw [ZR (hm b _ q fun z => z)]; exact q, fun b u xs q => by rw [ZR (hm b _ q fun z => z)]; exact q, fun b ps q => ⟨#[], by rw [ZR (hm b _ q fun z => z), q]; simp⟩⟩
  by_cases hbe : b = e
  · subst hbe; exact heo
  · exact ⟨u, k b u hbe q⟩
end
noncomputable def trk (h : Heap) (H : Hp) : List Addr := (List.range h.objs.size).filter fun a => (H a).isSome
noncomputable def ZhN (h : Heap) (H : Hp) : Heap := PySem.W.hideAll h (trk h H)
theorem Zgg (h : Heap) (H : Hp) : (ZhN h H).objs.size = h.objs.size := PySem.W.hideAll_size _ _
theorem Zff {h : Heap} {H : Hp} {b : Addr} {o : Obj} (e : h.get? b = some o) (n : H b = none) : (ZhN h H).get? b = some o :=
  PySem.W.hideAll_get _ e fun hm => by
    have q : (H b).isSome = true := (List.mem_filter.mp hm).2
    rw [n] at q; simp at q
theorem Zgh {h : Heap} {H : Hp} {b : Addr} {o : Obj} (e : (ZhN h H).get? b = some o) : h.get? b = some o ∧ H b = none := by
  have e' : h.get? b = some o := PySem.W.of_hideAll (trk h H) e
  refine ⟨e', ?_⟩
  cases q : H b with
  | none => rfl
  | some x =>
    have hm : b ∈ trk h H := List.mem_filter.mpr ⟨List.mem_range.mpr (Heap.lt_size e'), by simp [q]⟩
    have z : (ZhN h H).get? b = none := PySem.W.hideAll_none (trk h H) hm
    rw [z] at e; cases e
end L2
namespace L2
open PySem PySem.Spec PyProof.Rows
structure Mod (K : PySem.W.Frag) (mg : Str → Option Value) (base : Heap) : Prop where
  kin : K.In base
  glob : base.Ns mainGlobals mg
  blt : ∃ mb, base.Ns builtinsNs mb ∧ ∀ x : Str, x ≠ "__name__" → mb x = bootBuiltins x
  nolimit : base.NoLimit
structure Cx where
  prog : Program
  w : World
  K : PySem.W.Frag
  mg : Str → Option Value
  base : Heap
  A : Around
  N : List Str
  s₀ : Shared
  H₀ : Hp
  env : Env
  outer : List Env
  stack : List Env
  ex : List Addr
  fn : Str → Bool
  calm : Bool
  pn : List (Addr × Obj)
  xe : Value → Shared → Prop
noncomputable def frs (l : List Env) : List Addr := l.filterMap (·.frame)
noncomputable abbrev Cx.fs (X : Cx) : List Addr := frs X.outer
noncomputable def Vis (sc : Scope) (x : Str) : Prop := sc.names.lookup x = some .local ∨ sc.names.lookup x = some .cell ∨ sc.names.lookup x = some .free
noncomputable def Loc (sc : Scope) (x : Str) : Prop := sc.names.lookup x = some .local ∨ sc.names.lookup x = some .cell
noncomputable def Zq9 (env : Env) (h : Heap) (m : Str → Option Value) (x : Str) (u : Value) : Prop :=
  (env.kindOf x = some .local ∧ m x = some u) ∨ ((env.kindOf x = some .cell ∨ env.kindOf x = some .free) ∧ ∃ c, env.cells.lookup x = some c ∧ h.IsCell c (some u))
structure Cx.Ok (X : Cx) : Prop where
  mod : Mod X.K X.mg X.base
  kind : X.env.scope.kind = .function
  glob : X.env.globals = mainGlobals
  blt : X.env.builtins = builtinsNs
  above : X.s₀.heap.objs.size ≤ X.env.locals
  inj : ∀ x y c, X.env.cells.lookup x = some c → X.env.cells.lookup y = some c → x = y
  has : ∀ x, (X.env.kindOf x = some .cell ∨ X.env.kindOf x = some .free) → ∃ c, X.env.cells.lookup x = some c
  cab : ∀ x c, X.fn x = true → X.env.cells.lookup x = some c → X.s₀.heap.objs.size ≤ c
  hd : X.calm = true → X.A.handled = none
  frames : X.A.frames = some X.stack
  stk : X.stack = X.outer ∨ (X.stack = X.env :: X.outer ∧ X.env.frame = some X.env.locals)
  exf : ∀ b ∈ X.ex, b ≠ X.env.locals ∧ ∀ x c, X.env.cells.lookup x = some c → c ≠ b
  bs : ∀ b o, X.base.get? b = some o → X.s₀.heap.get? b = some o ∧ X.H₀ b = none
  bsz : X.base.objs.size ≤ X.s₀.heap.objs.size
  noex : ∀ b o, X.base.get? b = some o → b ∉ X.ex
  exfs : ∀ b ∈ X.ex, b ∉ X.fs
  funs : X.s₀.heap.FunFrames X.base X.outer
  frf : ∀ b ∈ X.fs, X.H₀ b = none
noncomputable def Qd (A : Around) (H : Hp) : Prop := A.handled = none ∨ ∃ ea oe u vs, A.handled = some (.ref ea) ∧ H ea = some (.frz oe u) ∧ oe.data = .fields vs ∧ vs[2]? = some .none
theorem Qd.mono {A : Around} {H H' : Hp} (q : Qd A H) (k : ∀ b o u, H b = some (.frz o u) → H' b = some (.frz o u)) : Qd A H' := by
  rcases q with q | ⟨ea, oe, u, vs, e1, e2, e3, e4⟩
  · exact .inl q
  · exact .inr ⟨ea, oe, u, vs, e1, k _ _ _ e2, e3, e4⟩
structure Inv (X : Cx) (pins : List (Addr × Obj)) (σ : List (Option V)) (H : Hp) (s : Shared) : Prop where
  ok : X.Ok
  os : s.os = X.s₀.os
  bare : AllBare s.gens
  base : Un X.fs X.ex X.H₀ H X.s₀.heap s.heap
  loc : ∃ m, s.heap.Ns X.env.locals m ∧ ∀ (i : Nat) (x : Str) (v : V), X.N[i]? = some x → σ[i]? = some (some v) → Vis X.env.scope x → ∃ u, Zat v u ∧ Zq9 X.env s.heap m x u
  cell : ∀ x c, X.env.cells.lookup x = some c → ∃ v, s.heap.IsCell c v
  free : H X.env.locals = none
  freeC : ∀ x c, X.env.cells.lookup x = some c → H c = none
  pin : ∀ p ∈ X.pn ++ pins, s.heap.get? p.1 = some p.2 ∧ H p.1 = none ∧ p.1 ≠ X.env.locals ∧ p.1 ∉ X.fs ∧ ∀ v, p.2.data ≠ .cell v
  hok : HOk X.prog X.w H s.heap
  len : σ.length = X.N.length
  qd : Qd X.A H
section
variable {X : Cx} {pins : List (Addr × Obj)} {σ : List (Option V)} {H H' : Hp} {s : Shared} {h' : Heap}
theorem Cx.Ok.nofr (ok : X.Ok) {b : Addr} {o : Obj} (e : X.base.get? b = some o) : b ∉ X.fs := fun hb => by
  have := (ok.funs.mem hb).1
  rw [e] at this; cases this
theorem Inv.bs (I : Inv X pins σ H s) : ∀ b o, X.base.get? b = some o → s.heap.get? b = some o ∧ H b = none := fun b o e =>
  ⟨I.base.keep b o (I.ok.bs b o e).1 (I.ok.bs b o e).2 (I.ok.nofr e) (I.ok.noex b o e), I.base.free b o (I.ok.bs b o e).1 (I.ok.bs b o e).2 (I.ok.noex b o e)⟩
theorem Inv.qh (I : Inv X pins σ H s) : DQ.ZbT X.A s.heap := by
  rcases I.qd with q | ⟨ea, oe, u, vs, e1, e2, e3, e4⟩
  · exact .inl q
  · exact .inr ⟨ea, oe, vs, e1, (I.hok _ _ e2).1, e3, e4⟩
theorem Inv.bk (I : Inv X pins σ H s) : ∀ b o, X.base.get? b = some o → s.heap.get? b = some o := fun b o e => (I.bs b o e).1
theorem Inv.mod (I : Inv X pins σ H s) : Mod X.K X.mg X.base := I.ok.mod
theorem Inv.kIn (I : Inv X pins σ H s) : X.K.In s.heap := I.ok.mod.kin.keeps I.bk
theorem Inv.fr (I : Inv X pins σ H s) : ∃ m, Fr X.base X.env.locals s.heap m :=
  let ⟨m, hn, _⟩ := I.loc
  ⟨m, hn, I.bk, Nat.le_trans I.ok.bsz I.ok.above⟩
theorem Inv.lt (I : Inv X pins σ H s) : X.env.locals < s.heap.objs.size := let ⟨_, hn, _⟩ := I.loc; hn.lt
theorem Inv.sz (I : Inv X pins σ H s) : X.s₀.heap.objs.size ≤ s.heap.objs.size := Nat.le_trans I.ok.above (Nat.le_of_lt I.lt)
theorem Inv.nofs (I : Inv X pins σ H s) {a : Addr} (h : s.heap.objs.size ≤ a) : a ∉ X.fs := fun hb => by
  obtain ⟨_, o, ho, _⟩ := I.ok.funs.mem hb
  exact absurd (Nat.lt_of_lt_of_le (Heap.lt_size ho) (Nat.le_trans I.sz h)) (Nat.lt_irrefl _)
theorem Inv.cne (I : Inv X pins σ H s) : ∀ x c, X.env.cells.lookup x = some c → c ≠ X.env.locals := fun x c e z => by
  obtain ⟨v, o, ho, hd⟩ := I.cell x c e
  obtain ⟨m, ⟨o', es, ep, ho', hd', _⟩, _⟩ := I.loc
  rw [z, ho'] at ho; cases ho; rw [hd'] at hd; cases hd
theorem Inv.funs (I : Inv X pins σ H s) : s.heap.FunFrames X.base X.outer := by
  have all : ∀ (l : List Env), (∀ b ∈ frs l, b ∈ X.fs) → X.s₀.heap.FunFrames X.base l → s.heap.FunFrames X.base l := by
    intro l
    induction l with
    | nil => intro _ _; trivial
    | cons env r ih =>
      intro hs hl
      obtain ⟨hk, ⟨L, o, hf, hn, ho, hd⟩, hr⟩ := hl
      have hL : L ∈ X.fs := hs L (by unfold frs; rw [List.filterMap_cons, hf]; exact List.mem_cons_self)
      obtain ⟨sl, e⟩ := I.base.slot L o ho (I.ok.frf L hL) hL fun z => I.ok.exfs L z hL
      exact ⟨hk, ⟨L, _, hf, hn, e, hd⟩, ih (fun b hb => hs b (by unfold frs; rw [List.filterMap_cons, hf]; exact List.mem_cons_of_mem _ hb)) hr⟩
  exact all X.outer (fun _ hb => hb) I.ok.funs
theorem Inv.stack (I : Inv X pins σ H s) : s.heap.FunFrames X.base X.stack := by
  rcases I.ok.stk with e | ⟨e, hf⟩
  · rw [e]; exact I.funs
  · rw [e]
    obtain ⟨m, hn, _⟩ := I.loc
    refine .cons (by rw [I.ok.kind]; decide) hf hn ?_ I.funs
    exact Heap.get?_none_of_le (Nat.le_trans I.ok.bsz I.ok.above)
theorem Inv.stkSub (I : Inv X pins σ H s) : ∀ b ∈ frs X.stack, b ∈ X.env.locals :: X.fs := fun b hb => by
  rcases I.ok.stk with e | ⟨e, hf⟩
  · rw [e] at hb; exact List.mem_cons_of_mem _ hb
  · rw [e] at hb
    unfold frs at hb
    rw [List.filterMap_cons, hf] at hb
    exact hb
theorem Inv.stkFree (I : Inv X pins σ H s) : ∀ b ∈ frs X.stack, H b = none := fun b hb => by
  rcases List.mem_cons.mp (I.stkSub b hb) with e | hb
  · rw [e]; exact I.free
  · obtain ⟨_, o, ho, _⟩ := I.ok.funs.mem hb
    exact I.base.free b o ho (I.ok.frf b hb) fun z => I.ok.exfs b z hb
theorem Inv.step {g' : Array GenState} {t' : Nat} {d' : Drawn} {ch : List Addr} (I : Inv X pins σ H s)
    (hch : ∀ b ∈ ch, (b ∈ X.ex ∨ X.s₀.heap.objs.size ≤ b) ∧ b ≠ X.env.locals ∧ (∀ x c, X.env.cells.lookup x = some c → c ≠ b) ∧ ∀ p ∈ X.pn ++ pins, p.1 ≠ b)
    (keep : ∀ b o, b ≠ X.env.locals → b ∉ X.fs → b ∉ ch → s.heap.get? b = some o → H b = none → h'.get? b = some o)
    (slot : ∀ b o, b ≠ X.env.locals → b ∈ X.fs → b ∉ ch → s.heap.get? b = some o → H b = none → ∃ sl, h'.get? b = some { o with slots := sl }) (free : ∀ b o, b ∉ ch → s.heap.get? b = some o → H b = none → H' b = none)
    (there : ∀ b o, b ∉ ch → s.heap.get? b = some o → ∃ o', h'.get? b = some o')
    (tups : ∀ b xs, H b = some (.tup xs) → H' b = some (.tup xs)) (frzs : ∀ b o u, H b = some (.frz o u) → H' b = some (.frz o u)) (tbls : ∀ b ps, H b = some (.tbl ps) → ∃ more, H' b = some (.tbl (ps ++ more)))
    (ns : ∀ m, s.heap.Ns X.env.locals m → h'.Ns X.env.locals m) (hok : HOk X.prog X.w H' h') (hg : AllBare g') :
    Inv X pins σ H' { s with heap := h', gens := g', drawn := d', toks := t' } := by
  have neL : ∀ b o, X.s₀.heap.get? b = some o → b ≠ X.env.locals := fun b o e => Nat.ne_of_lt (Nat.lt_of_lt_of_le (Heap.lt_size e) I.ok.above)
  have neC : ∀ b o, X.s₀.heap.get? b = some o → b ∉ X.ex → b ∉ ch := fun b o e hx hb => by
    rcases (hch b hb).1 with z | z
    · exact hx z
    · exact absurd (Nat.lt_of_lt_of_le (Heap.lt_size e) z) (Nat.lt_irrefl _)
  have cellK : ∀ x c, X.env.cells.lookup x = some c → ∀ v, s.heap.IsCell c v → h'.IsCell c v := fun x c e v ⟨o, ho, hd⟩ => by
    have nch : c ∉ ch := fun z => (hch c z).2.2.1 x c e rfl
    by_cases hc : c ∈ X.fs
    · obtain ⟨sl, q⟩ := slot c o (I.cne x c e) hc nch ho (I.freeC x c e)
      exact ⟨_, q, hd⟩
    · exact ⟨o, keep c o (I.cne x c e) hc nch ho (I.freeC x c e), hd⟩
  refine ⟨I.ok, I.os, hg, ⟨fun b o e n hb hx => ?_, fun b o e n hb hx => ?_, fun b o e n hx => ?_, fun b o e hx => ?_, fun b xs e => tups b xs (I.base.tups b xs e), fun b o xs e => frzs b o xs (I.base.frzs b o xs e), fun b ps e => ?_⟩, ?_, fun x c e => ?_, ?_, fun x c e => ?_, fun p hp => ?_, hok, I.len, I.qd.mono frzs⟩
  · exact keep b o (neL b o e) hb (neC b o e hx) (I.base.keep b o e n hb hx) (I.base.free b o e n hx)
  · obtain ⟨sl, e1⟩ := I.base.slot b o e n hb hx
    obtain ⟨sl', e2⟩ := slot b _ (neL b o e) hb (neC b o e hx) e1 (I.base.free b o e n hx)
    exact ⟨sl', e2⟩
  · obtain ⟨o', e1⟩ := I.base.there b o e hx
    exact free b o' (neC b o e hx) e1 (I.base.free b o e n hx)
  · obtain ⟨o', e1⟩ := I.base.there b o e hx
    exact there b o' (neC b o e hx) e1
  · obtain ⟨m1, e1⟩ := I.base.tbls b ps e
    obtain ⟨m2, e2⟩ := tbls b _ e1
    exact ⟨m1 ++ m2, by rw [e2, Array.append_assoc]⟩
  · obtain ⟨m, hn, hl⟩ := I.loc
    refine ⟨m, ns m hn, fun i x v e1 e2 e3 => ?_⟩
    obtain ⟨u, r, l⟩ := hl i x v e1 e2 e3
    refine ⟨u, r, ?_⟩
    rcases l with l | ⟨k, c, e, z⟩
    · exact .inl l
    · exact .inr ⟨k, c, e, cellK x c e _ z⟩
  · obtain ⟨v, z⟩ := I.cell x c e
    exact ⟨v, cellK x c e v z⟩
  · obtain ⟨m, ⟨o, _, _, ho, _⟩, _⟩ := I.loc
    exact free _ o (fun z => (hch _ z).2.1 rfl) ho I.free
  · obtain ⟨v, o, ho, hd⟩ := I.cell x c e
    exact free c o (fun z => (hch c z).2.2.1 x c e rfl) ho (I.freeC x c e)
  · obtain ⟨e, n, ne, nf, d⟩ := I.pin p hp
    have nch : p.1 ∉ ch := fun z => (hch p.1 z).2.2.2 p hp rfl
    exact ⟨keep p.1 p.2 ne nf nch e n, free p.1 p.2 nch e n, ne, nf, d⟩
theorem Inv.un {t' : Nat} (I : Inv X pins σ H s) (u : Un X.fs [] H H' s.heap h') (hok : HOk X.prog X.w H' h') : Inv X pins σ H' { s with heap := h', toks := t' } := by
  obtain ⟨m, ⟨o, es, ep, ho, r⟩, _⟩ := id I.loc
  obtain ⟨sl, hL⟩ := u.any ho I.free (by simp)
  exact I.step (g' := s.gens) (d' := s.drawn) (ch := []) (fun _ z => nomatch z) (fun b o _ hb _ e n => u.keep b o e n hb (by simp)) (fun b o _ hb _ e n => u.slot b o e n hb (by simp)) (fun b o _ e n => u.free b o e n (by simp)) (fun b o _ e => u.there b o e (by simp)) u.tups u.frzs u.tbls (fun m' hm => by
    obtain ⟨o', es', ep', ho', r'⟩ := hm
    rw [ho] at ho'; cases ho'
    exact ⟨_, es', ep', hL, r'⟩) hok I.bare
theorem Inv.call {g' : Array GenState} {t' : Nat} {d' : Drawn} {ch : List Addr} (I : Inv X pins σ H s) (u : Un (frs X.stack) ch H H' s.heap h') (hok : HOk X.prog X.w H' h') (hg : AllBare g')
    (hch : ∀ b ∈ ch, (b ∈ X.ex ∨ X.s₀.heap.objs.size ≤ b) ∧ b ≠ X.env.locals ∧ (∀ x c, X.env.cells.lookup x = some c → c ≠ b) ∧ ∀ p ∈ X.pn ++ pins, p.1 ≠ b) :
    Inv X pins σ H' { s with heap := h', gens := g', drawn := d', toks := t' } := by
  obtain ⟨m, ⟨o, es, ep, ho, r⟩, _⟩ := id I.loc
  obtain ⟨sl, hL⟩ := u.any ho I.free fun z => (hch _ z).2.1 rfl
  exact I.step (ch := ch) hch (fun b o hL hb hc e n => u.keep b o e n (fun z => (List.mem_cons.mp (I.stkSub b z)).elim hL hb) hc) (fun b o _ _ hc e n => u.any e n hc) (fun b o hc e n => u.free b o e n hc) (fun b o hc e => u.there b o e hc) u.tups u.frzs u.tbls (fun m' hm => by
    obtain ⟨o', es', ep', ho', r'⟩ := hm
    rw [ho] at ho'; cases ho'
    exact ⟨_, es', ep', hL, r'⟩) hok hg
theorem Inv.turned {t' : Nat} {it : Addr} (I : Inv X pins σ H s) (k : ∀ b o, b ≠ it → s.heap.get? b = some o → h'.get? b = some o) (hn : H it = none) (hL : it ≠ X.env.locals)
    (h1 : it ∈ X.ex ∨ X.s₀.heap.objs.size ≤ it) (h2 : ∀ x c, X.env.cells.lookup x = some c → c ≠ it) (h3 : ∀ p ∈ X.pn ++ pins, p.1 ≠ it) : Inv X pins σ H { s with heap := h', toks := t' } := by
  have nit : ∀ b u, H b = some u → b ≠ it := fun b u e z => by rw [z, hn] at e; cases e
  refine I.step (g' := s.gens) (d' := s.drawn) (ch := [it]) (fun b hb => ?_) (fun b o _ _ hc e _ => k b o (fun z => hc (by simp [z])) e) (fun b o _ _ hc e _ => ⟨o.slots, k b o (fun z => hc (by simp [z])) e⟩) (fun _ _ _ _ n => n)
    (fun b o hc e => ⟨o, k b o (fun z => hc (by simp [z])) e⟩) (fun _ _ e => e) (fun _ _ _ e => e) (fun b ps e => ⟨#[], by rw [e]; simp⟩) (fun m hm => ?_) (fun b u e => ?_) I.bare
  · have e : b = it := by simpa using hb
    subst e
    exact ⟨h1, hL, h2, h3⟩
  · obtain ⟨o, es, ep, ho, r⟩ := hm
    exact ⟨o, es, ep, k _ o (Ne.symm hL) ho, r⟩
  · refine (I.hok b u e).stay (fun c v hc q => k c v ?_ q) (fun _ q => q) fun _ _ q => q
    rcases hc with z | z
    · rw [z]; exact nit b u e
    · exact nit c _ z
theorem Inv.tok (I : Inv X pins σ H s) (t : Nat) : Inv X pins σ H { s with toks := t } := I.un (h' := s.heap) (t' := t) Un.refl I.hok
theorem Inv.kept {t' : Nat} (I : Inv X pins σ H s) (k : ∀ b u, s.heap.get? b = some u → h'.get? b = some u) : Inv X pins σ H { s with heap := h', toks := t' } := I.un (Un.kept k) (I.hok.kept k)
theorem Inv.laid {a : Addr} {o : HO} {t' : Nat} (I : Inv X pins σ H s) (k : ∀ b u, s.heap.get? b = some u → h'.get? b = some u) (hp : s.heap.objs.size ≤ a) (new : Zb8 X.prog X.w (upd H a o) h' a o) :
    Inv X pins σ (upd H a o) { s with heap := h', toks := t' } := I.un (Un.laid k hp (I.hok.fresh hp)) (I.hok.laid k hp new)
theorem Inv.write {x e : Addr} {o : HO} {t' : Nat} (I : Inv X pins σ H s) (mu : Mut (H x)) (he : e = x ∨ H e = some (.own x)) (k : ∀ b u, b ≠ e → s.heap.get? b = some u → h'.get? b = some u) (heo : ∃ u, h'.get? e = some u)
    (new : Zb8 X.prog X.w (upd H x o) h' x o) : Inv X pins σ (upd H x o) { s with heap := h', toks := t' } := I.un (Un.write mu he k heo) (I.hok.write mu he k heo new)
theorem Inv.pins_of {pins' : List (Addr × Obj)} (I : Inv X pins σ H s) (h : ∀ p ∈ pins', s.heap.get? p.1 = some p.2 ∧ H p.1 = none ∧ p.1 ≠ X.env.locals ∧ p.1 ∉ X.fs ∧ ∀ v, p.2.data ≠ .cell v) : Inv X pins' σ H s :=
  ⟨I.ok, I.os, I.bare, I.base, I.loc, I.cell, I.free, I.freeC, fun p hp => (List.mem_append.mp hp).elim (fun z => I.pin p (List.mem_append_left _ z)) (h p), I.hok, I.len, I.qd⟩
theorem Zfg {N : List Str} (hN : N.Nodup) {i j : Nat} {x : Str} (a : N[i]? = some x) (b : N[j]? = some x) : i = j := by
  obtain ⟨h1, e1⟩ := List.getElem?_eq_some_iff.mp a
  obtain ⟨h2, e2⟩ := List.getElem?_eq_some_iff.mp b
  exact (List.getElem_inj hN).mp (e1.trans e2.symm)
theorem Zd0 {M : Model} {A : Around} {E : Value → Shared → Prop} {i : Nat} {x : Str} {v : V} {u : Value} {Q : Unit → Shared → Prop} (I : Inv X pins σ H s) (hN : X.N.Nodup) (hi : X.N[i]? = some x) (hx : Loc X.env.scope x) (r : Zat v u)
    (h : ∀ s', Inv X pins (σ.set i (some v)) H s' → (∃ a, Heap.SameBut a s.heap s'.heap ∧ (a = X.env.locals ∨ X.env.cells.lookup x = some a)) → Q () s') (hf : X.fn x = true ∨ X.env.scope.names.lookup x = some .local := by first | exact .inl rfl | exact .inr rfl | assumption) : wpAny M A (storeName X.env x u) Q E s := by
  obtain ⟨m, hn, hl⟩ := id I.loc
  have hcls : (X.env.scope.kind == .class || (X.env.scope.kind == .module && X.env.locals != X.env.globals)) = false := by rw [I.ok.kind]; rfl
  have hiσ : i < σ.length := by rw [I.len]; exact (List.getElem?_eq_some_iff.mp hi).1
  have cne := I.cne
  have tracked : ∀ {a : Addr} {h' : Heap}, (∃ o, s.heap.get? a = some o ∧ H a = none) → Heap.SameBut a s.heap h' → HOk X.prog X.w H h' := fun {a h'} ha hs b ob e => by
    obtain ⟨_, _, hfree⟩ := ha
    refine (I.hok b ob e).stay (fun c w' hc q => (hs.2 c ?_).trans q) (fun _ q => q) fun _ _ q => q
    rintro rfl
    rcases hc with rfl | hc
    · rw [hfree] at e; cases e
    · rw [hfree] at hc; cases hc
  rcases hx with hk | hk
  · refine wpAny_storeName_local hk hn (fun h' hn' hs => ?_) hcls
    obtain ⟨oL, _, _, hoL, _⟩ := id hn
    refine h _ ⟨I.ok, I.os, I.bare, ⟨fun b o e n hb hx => ?_, fun b o e n hb hx => ?_, I.base.free, fun b o e hx => ?_, I.base.tups, I.base.frzs, I.base.tbls⟩, ⟨_, hn', fun j y v' e1 e2 e3 => ?_⟩, fun y c e => ?_, I.free, I.freeC, fun p hp => ?_, tracked ⟨oL, hoL, I.free⟩ hs, by simpa using I.len, I.qd⟩ ⟨_, hs, .inl rfl⟩
    · exact (hs.2 b (Nat.ne_of_lt (Nat.lt_of_lt_of_le (Heap.lt_size e) I.ok.above))).trans (I.base.keep b o e n hb hx)
    · obtain ⟨sl, e1⟩ := I.base.slot b o e n hb hx
      exact ⟨sl, (hs.2 b (Nat.ne_of_lt (Nat.lt_of_lt_of_le (Heap.lt_size e) I.ok.above))).trans e1⟩
    · obtain ⟨o', e1⟩ := I.base.there b o e hx
      exact ⟨o', (hs.2 b (Nat.ne_of_lt (Nat.lt_of_lt_of_le (Heap.lt_size e) I.ok.above))).trans e1⟩
    · by_cases hj : j = i
      · subst hj
        rw [hi] at e1; cases e1
        rw [List.getElem?_set_self hiσ] at e2
        cases e2
        exact ⟨u, r, .inl ⟨hk, by simp⟩⟩
      · rw [List.getElem?_set_ne (Ne.symm hj)] at e2
        obtain ⟨u', r', q⟩ := hl j y v' e1 e2 e3
        refine ⟨u', r', ?_⟩
        rcases q with ⟨k, e⟩ | ⟨k, c, e, z⟩
        · refine .inl ⟨k, ?_⟩
          have : y ≠ x := fun e => hj (Zfg hN e1 (e ▸ hi))
          simp [this, e]
        · exact .inr ⟨k, c, e, z.sameBut hs (cne y c e)⟩
    · obtain ⟨w', z⟩ := I.cell y c e
      exact ⟨w', z.sameBut hs (cne y c e)⟩
    · obtain ⟨e, n, ne, nf, d⟩ := I.pin p hp
      exact ⟨(hs.2 p.1 ne).trans e, n, ne, nf, d⟩
  · have hfn : X.fn x = true := by
      rcases hf with z | z
      · exact z
      · rw [z] at hk; cases hk
    obtain ⟨c, hc⟩ := I.ok.has x (.inl hk)
    obtain ⟨w', z⟩ := I.cell x c hc
    refine wpAny_storeName_cell I.ok.kind hk hc z (fun h' hc' hs => ?_)
    obtain ⟨oc, hoc, hocd⟩ := id z
    refine h { s with heap := h' } ⟨I.ok, I.os, I.bare, ⟨fun b o e n hb hx => ?_, fun b o e n hb hx => ?_, I.base.free, fun b o e hx => ?_, I.base.tups, I.base.frzs, I.base.tbls⟩, ⟨m, hn.sameBut hs (Ne.symm (cne x c hc)), fun j y v' e1 e2 e3 => ?_⟩, fun y c' e => ?_, I.free, I.freeC, fun p hp => ?_, tracked ⟨oc, hoc, I.freeC x c hc⟩ hs, by simpa using I.len, I.qd⟩ ⟨c, hs, .inr hc⟩
    · exact (hs.2 b (Nat.ne_of_lt (Nat.lt_of_lt_of_le (Heap.lt_size e) (I.ok.cab x c hfn hc)))).trans (I.base.keep b o e n hb hx)
    · obtain ⟨sl, e1⟩ := I.base.slot b o e n hb hx
      exact ⟨sl, (hs.2 b (Nat.ne_of_lt (Nat.lt_of_lt_of_le (Heap.lt_size e) (I.ok.cab x c hfn hc)))).trans e1⟩
    · obtain ⟨o', e1⟩ := I.base.there b o e hx
      exact ⟨o', (hs.2 b (Nat.ne_of_lt (Nat.lt_of_lt_of_le (Heap.lt_size e) (I.ok.cab x c hfn hc)))).trans e1⟩
    · by_cases hj : j = i
      · subst hj
        rw [hi] at e1; cases e1
        rw [List.getElem?_set_self hiσ] at e2
        cases e2
        exact ⟨u, r, .inr ⟨.inl hk, c, hc, hc'⟩⟩
      · rw [List.getElem?_set_ne (Ne.symm hj)] at e2
        obtain ⟨u', r', q⟩ := hl j y v' e1 e2 e3
        refine ⟨u', r', ?_⟩
        rcases q with q | ⟨k, c', e, z'⟩
        · exact .inl q
        · refine .inr ⟨k, c', e, z'.sameBut hs ?_⟩
          rintro rfl
          exact hj (Zfg hN e1 (I.ok.inj _ _ _ e hc ▸ hi))
    · by_cases hcc : c' = c
      · subst hcc; exact ⟨_, hc'⟩
      · obtain ⟨w2, z2⟩ := I.cell y c' e
        exact ⟨w2, z2.sameBut hs hcc⟩
    · obtain ⟨e, n, ne, nf, d⟩ := I.pin p hp
      refine ⟨(hs.2 p.1 ?_).trans e, n, ne, nf, d⟩
      intro q
      rw [q, hoc] at e
      have q' : oc = p.2 := Option.some.inj e
      exact d w' (by rw [← q']; exact hocd)
theorem ZcL {M : Model} {A : Around} {E : Value → Shared → Prop} {i : Nat} {x : Str} {v : V} {u : Value} {Q : Unit → Shared → Prop} (I : Inv X pins σ H s) (hN : X.N.Nodup) (hi : X.N[i]? = some x) (hx : Loc X.env.scope x) (r : Zat v u)
    (h : ∀ s', Inv X pins (σ.set i (some v)) H s' → Q () s') (hf : X.fn x = true ∨ X.env.scope.names.lookup x = some .local := by first | exact .inl rfl | exact .inr rfl | assumption) : wpAny M A (storeName X.env x u) Q E s :=
  Zd0 I hN hi hx r (fun s' I' _ => h s' I') hf
theorem Inv.call' {s' : Shared} {ch : List Addr} (I : Inv X pins σ H s) (ho : s'.os = s.os) (u : Un (frs X.stack) ch H H' s.heap s'.heap) (hok : HOk X.prog X.w H' s'.heap) (hg : AllBare s'.gens)
    (hch : ∀ b ∈ ch, (b ∈ X.ex ∨ X.s₀.heap.objs.size ≤ b) ∧ b ≠ X.env.locals ∧ (∀ x c, X.env.cells.lookup x = some c → c ≠ b) ∧ ∀ p ∈ X.pn ++ pins, p.1 ≠ b) : Inv X pins σ H' s' := by
  obtain ⟨h', g', d', t', o'⟩ := s'
  have e : o' = s.os := ho
  subst e
  exact I.call (g' := g') (t' := t') (d' := d') u hok hg hch
end
noncomputable abbrev XK := Value → Option Addr → Hp → Prop
noncomputable abbrev St := List (Option V)
noncomputable abbrev VK := V → Hp → Prop
noncomputable abbrev TE := St → Hp → VK → Prop
noncomputable abbrev TT := St → Hp → (Bool → Hp → Prop) → Prop
noncomputable abbrev TA := St → Hp → (List V → Hp → Prop) → Prop
structure Ends where
  nx : St → Hp → Prop
  rt : VK
  bk : St → Hp → Prop := fun _ _ => False
  ct : St → Hp → Prop := fun _ _ => False
noncomputable abbrev TS := Ends → St → Hp → Prop
noncomputable def EP (X : Cx) (pins : List (Addr × Obj)) (σ : St) (Q : VK) (u : Value) (s' : Shared) : Prop := ∃ v H', Inv X pins σ H' s' ∧ Zat v u ∧ Q v H'
noncomputable def TP (X : Cx) (pins : List (Addr × Obj)) (σ : St) (Q : Bool → Hp → Prop) (b : Bool) (s' : Shared) : Prop := ∃ H', Inv X pins σ H' s' ∧ Q b H'
noncomputable def AP (X : Cx) (pins : List (Addr × Obj)) (σ : St) (Q : List V → Hp → Prop) (us : List Value) (s' : Shared) : Prop := ∃ vs H', Inv X pins σ H' s' ∧ Z3 vs us ∧ Q vs H'
noncomputable def SP (X : Cx) (pins : List (Addr × Obj)) (D : Ends) (f : Flow) (s' : Shared) : Prop :=
  match f with
  | .next => ∃ σ' H', Inv X pins σ' H' s' ∧ D.nx σ' H'
  | .brk => ∃ σ' H', Inv X pins σ' H' s' ∧ D.bk σ' H'
  | .cont => ∃ σ' H', Inv X pins σ' H' s' ∧ D.ct σ' H'
  | .ret u => ∃ v σ' H', Inv X pins σ' H' s' ∧ Zat v u ∧ D.rt v H'
noncomputable def PE (X : Cx) (e : Expr) (t : TE) : Prop :=
  ∀ (pins : List (Addr × Obj)) (s : Shared) (σ : St) (H : Hp) (Q : VK), Inv X pins σ H s → t σ H Q → wpAny (model X.prog X.w) X.A (eval e X.env) (EP X pins σ Q) X.xe s
noncomputable def PT (X : Cx) (e : Expr) (t : TT) : Prop :=
  ∀ (pins : List (Addr × Obj)) (s : Shared) (σ : St) (H : Hp) (Q : Bool → Hp → Prop), Inv X pins σ H s → t σ H Q → wpAny (model X.prog X.w) X.A (isTrue e X.env (eval e X.env)) (TP X pins σ Q) X.xe s
noncomputable def PW (X : Cx) (e : Expr) (t : TT) : Prop :=
  ∀ (whole : Sem Value) (pins : List (Addr × Obj)) (s : Shared) (σ : St) (H : Hp) (Q : Bool → Hp → Prop), Inv X pins σ H s → t σ H Q → wpAny (model X.prog X.w) X.A (isTrue e X.env whole) (TP X pins σ Q) X.xe s
theorem PW.pt {X : Cx} {e : Expr} {t : TT} (h : PW X e t) : PT X e t := h _
noncomputable def PA (X : Cx) (es : List Expr) (t : TA) : Prop :=
  ∀ (pos : Pos) (pins : List (Addr × Obj)) (s : Shared) (σ : St) (H : Hp) (Q : List V → Hp → Prop), Inv X pins σ H s → t σ H Q → wpAny (model X.prog X.w) X.A (spliced (backTo pos (starEach es X.env))) (AP X pins σ Q) X.xe s
noncomputable def PS (X : Cx) (st : Stmt) (t : TS) : Prop :=
  ∀ (pins : List (Addr × Obj)) (s : Shared) (σ : St) (H : Hp) (D : Ends), Inv X pins σ H s → t D σ H → wpAny (model X.prog X.w) X.A (exec st X.env) (SP X pins D) X.xe s
noncomputable def PSs (X : Cx) (st : List Stmt) (t : TS) : Prop :=
  ∀ (pins : List (Addr × Obj)) (s : Shared) (σ : St) (H : Hp) (D : Ends), Inv X pins σ H s → t D σ H → wpAny (model X.prog X.w) X.A (execs st X.env) (SP X pins D) X.xe s
theorem thn {α : Type} {t : Sem α} {Q Q' : α → Shared → Prop} {M : Model} {A : Around} {E : Value → Shared → Prop} {s : Shared} (h : wpAny M A t Q E s) (hQ : ∀ a s, Q a s → Q' a s) : wpAny M A t Q' E s := wpAny_mono h hQ fun _ _ x => x
end L2
namespace L2
open PySem PySem.Spec PyProof.Rows
section
variable {X : Cx}
theorem bin {a b : Expr} {ta tb : TE} (ha : PE X a ta) (hb : PE X b tb) {pins : List (Addr × Obj)} {s : Shared} {σ : St} {H : Hp} {R : V → V → Hp → Prop} (I : Inv X pins σ H s) (h : ta σ H fun x H1 => tb σ H1 fun y H2 => R x y H2)
    {α : Type} {Q : α → Shared → Prop} {f : Value → Value → Sem α}
    (hf : ∀ v u s2 x y H2, Inv X pins σ H2 s2 → Zat x v → Zat y u → R x y H2 → wpAny (model X.prog X.w) X.A (f v u) Q X.xe s2) :
    wpAny (model X.prog X.w) X.A (eval a X.env) (fun v s₁ => wpAny (model X.prog X.w) X.A (eval b X.env) (fun u s₂ => wpAny (model X.prog X.w) X.A (f v u) Q X.xe s₂) X.xe s₁) X.xe s := by
  refine thn (ha pins s σ H _ I h) fun v s1 ⟨x, H1, I1, r1, q1⟩ => ?_
  refine thn (hb pins s1 σ H1 _ I1 q1) fun u s2 ⟨y, H2, I2, r2, q2⟩ => ?_
  exact hf v u s2 x y H2 I2 r1 r2 q2
noncomputable def Zra (i : Nat) : TE := fun σ H Q => ∃ v, σ[i]? = some (some v) ∧ Q v H
noncomputable def tC (v : V) : TE := fun _ H Q => Q v H
theorem Zli {i : Nat} {x : Str} {pos : Pos} (hN : X.N[i]? = some x) (hv : Vis X.env.scope x) (hd : (x == ("__debug__" : Str)) = false := by decide) (hcd : (x == ("__classdict__" : Str)) = false := by decide) : PE X (.Name x pos) (Zra i) := by
  intro pins s σ H Q I h
  obtain ⟨v, e, h⟩ := h
  obtain ⟨m, hn, hl⟩ := I.loc
  obtain ⟨u, r, l⟩ := hl i x v hN e hv
  have fin : EP X pins σ Q u s := ⟨v, H, I, r, h⟩
  rcases l with ⟨hk, hm⟩ | ⟨hk, c, hc, hcell⟩
  · exact wpAny_Name (wpAny_loadName_local I.ok.kind hk hn hm fin) hd
  · rcases hk with hk | hk
    · exact wpAny_Name (wpAny_loadName_cell I.ok.kind hk hc hcell fin) hd
    · exact wpAny_Name (wpAny_loadName_free I.ok.kind hk hc hcell fin hcd) hd
theorem Zlj {i j pos} : PE X (.Constant (.int i) j pos) (tC (.int i)) := fun _ _ _ H _ I h => wpAny_Constant_int ⟨.int i, H, I.tok _, ⟨_, rfl⟩, h⟩
theorem Zob {b j pos} : PE X (.Constant (.bool b) j pos) (tC (.bl b)) := fun _ _ _ H _ I h => Constant_bool ⟨.bl b, H, I, rfl, h⟩
theorem Zlk {j pos} : PE X (.Constant .none j pos) (tC .non) := fun _ _ _ H _ I h => Constant_none ⟨.non, H, I, rfl, h⟩
theorem Zll {x j pos} : PE X (.Constant (.str x) j pos) (tC (.str x)) := fun _ _ _ H _ I h => Calls.Constant_str ⟨.str x, H, I.tok _, ⟨_, rfl⟩, h⟩
noncomputable def Gl (X : Cx) (x : Str) : Prop := X.env.kindOf x = some .globalImplicit
theorem Zgi {E : Value → Shared → Prop} {pins : List (Addr × Obj)} {s : Shared} {σ : St} {H : Hp} {x : Str} {u : Value} {pos : Pos} {Q : Value → Shared → Prop} (I : Inv X pins σ H s) (hg : Gl X x) (hm : X.mg x = some u) (h : Q u s)
    (hd : (x == ("__debug__" : Str)) = false := by decide) : wpAny (model X.prog X.w) X.A (eval (.Name x pos) X.env) Q E s :=
  Calls.Name_function_global I.ok.kind hg (Calls.loadGlobal_global (by rw [I.ok.glob]; exact I.mod.glob.keeps I.bk) hm h) hd
theorem Zcy {E : Value → Shared → Prop} {pins : List (Addr × Obj)} {s : Shared} {σ : St} {H : Hp} {x : Str} {u : Value} {pos : Pos} {Q : Value → Shared → Prop} (I : Inv X pins σ H s) (hg : Gl X x) (hm : X.mg x = none) (hv : bootBuiltins x = some u) (h : Q u s)
    (hn : x ≠ "__name__" := by decide) (hd : (x == ("__debug__" : Str)) = false := by decide) : wpAny (model X.prog X.w) X.A (eval (.Name x pos) X.env) Q E s := by
  obtain ⟨mb, h1, h2⟩ := I.mod.blt
  exact Calls.Name_function_global I.ok.kind hg (Calls.loadGlobal_builtin (by rw [I.ok.glob]; exact I.mod.glob.keeps I.bk) hm (by rw [I.ok.blt]; exact h1.keeps I.bk) ((h2 x hn).trans hv) h) hd
theorem ZjI {x : Str} {v : V} {u : Value} {pos : Pos} (hg : Gl X x) (hm : X.mg x = none) (hv : bootBuiltins x = some u) (r : Zat v u) (hn : x ≠ "__name__" := by decide) (hd : (x == ("__debug__" : Str)) = false := by decide) : PE X (.Name x pos) (tC v) :=
  fun _ _ _ H _ I h => Zcy I hg hm hv ⟨v, H, I, r, h⟩ hn hd
variable {a b : Expr} {ta tb : TE} {pos : Pos}
noncomputable def PC (X : Cx) (op : CmpOp) (a b : Expr) (t : TE) : Prop :=
  ∀ (pins : List (Addr × Obj)) (s : Shared) (σ : St) (H : Hp) (Q : VK), Inv X pins σ H s → t σ H Q →
    wpAny (model X.prog X.w) X.A (eval a X.env) (fun v s₁ => wpAny (model X.prog X.w) X.A (eval b X.env) (fun u s₂ => wpAny (model X.prog X.w) X.A (compareOp op v u) (EP X pins σ Q) X.xe s₂) X.xe s₁) X.xe s
theorem ZhQ (b : Expr) {op : CmpOp} (h : op ≠ .In) (h2 : op ≠ .NotIn) : behindInMarks op b = false := by
  have e1 : (op == CmpOp.In) = false := by cases op <;> first | rfl | exact absurd rfl h
  have e2 : (op == CmpOp.NotIn) = false := by cases op <;> first | rfl | exact absurd rfl h2
  cases b <;> simp [behindInMarks, e1, e2]
noncomputable def tB (t : TE) : TT := fun σ H Q => t σ H fun x H1 => ∃ c, x = .bl c ∧ Q c H1
theorem Zp9 {op : CmpOp} {t : TE} (h : PC X op a b t) (h1 : behindInMarks op b = false := by first | exact ZhQ _ (by decide) (by decide) | rfl) : PT X (.Compare a [op] [b] pos) (tB t) := by
  intro pins s σ H Q I hw
  refine wpAny_isTrue_Compare1 (thn (h pins s σ H _ I hw) fun v s1 h1 => thn h1 fun u s2 h2 => thn h2 fun c s3 ⟨x, H1, I1, r1, q1⟩ => ?_) h1
  obtain ⟨d, rfl, q⟩ := q1
  cases r1
  exact wpAny_truthy_bool ⟨H1, I1, q⟩
theorem Zlm {e : Expr} {t : TE} (h : PE X e t) (he : ∀ whole, isTrue e X.env whole = (do let v ← whole; standAt e.pos; holding [v] (truthy v)) := by intro _; rfl) : PT X e (tB t) := by
  intro pins s σ H Q I hw
  refine isTrue_plain (thn (h pins s σ H _ I hw) fun v s1 ⟨x, H1, I1, r1, q1⟩ => ?_) (he _)
  obtain ⟨d, rfl, q⟩ := q1
  cases r1
  exact wpAny_truthy_bool ⟨H1, I1, q⟩
variable {tA tB' : TT} {rest : List Expr}
noncomputable def Zrb (t u : TT) : TT := fun σ H Q => t σ H fun c H1 => if c = true then u σ H1 Q else Q false H1
noncomputable def tOr (t u : TT) : TT := fun σ H Q => t σ H fun c H1 => if c = true then Q true H1 else u σ H1 Q
noncomputable def Zrc (t : TT) : TT := fun σ H Q => t σ H fun c H1 => Q (!c) H1
theorem pw_and1 (ha : PT X a tA) : PW X (.BoolOp .And [a] pos) tA := by
  intro wh pins s σ H Q I h
  refine isTrue_and (thn (ha pins s σ H Q I h) fun c s1 e => ?_)
  cases c with
  | true => exact isTrue_and_nil e
  | false => exact e
theorem pw_or1 (ha : PT X a tA) : PW X (.BoolOp .Or [a] pos) tA := by
  intro wh pins s σ H Q I h
  refine isTrue_or (thn (ha pins s σ H Q I h) fun c s1 e => ?_)
  cases c with
  | false => exact isTrue_or_nil e
  | true => exact e
theorem pw_and (ha : PT X a tA) (hb : PW X (.BoolOp .And (b :: rest) pos) tB') : PW X (.BoolOp .And (a :: b :: rest) pos) (Zrb tA tB') := by
  intro wh pins s σ H Q I h
  refine isTrue_and (thn (ha pins s σ H _ I h) fun c s1 ⟨H1, I1, q1⟩ => ?_)
  cases c with
  | true => exact hb wh pins s1 σ H1 Q I1 q1
  | false => exact ⟨H1, I1, q1⟩
theorem pw_or (ha : PT X a tA) (hb : PW X (.BoolOp .Or (b :: rest) pos) tB') : PW X (.BoolOp .Or (a :: b :: rest) pos) (tOr tA tB') := by
  intro wh pins s σ H Q I h
  refine isTrue_or (thn (ha pins s σ H _ I h) fun c s1 ⟨H1, I1, q1⟩ => ?_)
  cases c with
  | true => exact ⟨H1, I1, q1⟩
  | false => exact hb wh pins s1 σ H1 Q I1 q1
theorem Zln (ha : PT X a tA) : PT X (.UnaryOp .Not a pos) (Zrc tA) := by
  intro pins s σ H Q I h
  exact isTrue_not (ha pins s σ H (fun c H1 => Q (!c) H1) I h)
noncomputable def Zoc (ta tb : TE) : TE := fun σ H Q => ta σ H fun x H1 => ∃ c, x = .bl c ∧ if c = true then tb σ H1 Q else Q (.bl false) H1
noncomputable def Zod (ta : TE) : TE := fun σ H Q => ta σ H fun x H1 => ∃ c, x = .bl c ∧ Q (.bl (!c)) H1
theorem Zlo {op} {t : TE} (h : PE X a t) : PE X (.BoolOp op [a] pos) t := fun pins s σ H Q I hw => BoolOp_one (h pins s σ H Q I hw)
theorem Zlp (ha : PE X a ta) (hb : PE X (.BoolOp .And (b :: rest) pos) tb) : PE X (.BoolOp .And (a :: b :: rest) pos) (Zoc ta tb) := by
  intro pins s σ H Q I h
  refine BoolOp_and (thn (ha pins s σ H _ I h) fun v s1 ⟨x, H1, I1, r1, q1⟩ => ?_)
  obtain ⟨c, rfl, q1⟩ := q1
  cases r1
  refine wpAny_truthy_bool ?_
  cases c with
  | true => exact hb pins s1 σ H1 Q I1 q1
  | false => exact ⟨.bl false, H1, I1, rfl, q1⟩
theorem Zlq (ha : PE X a ta) : PE X (.UnaryOp .Not a pos) (Zod ta) := by
  intro pins s σ H Q I h
  refine UnaryOp_ (thn (ha pins s σ H _ I h) fun v s1 ⟨x, H1, I1, r1, q1⟩ => ?_)
  obtain ⟨c, rfl, q1⟩ := q1
  cases r1
  exact not_of (wpAny_truthy_bool ⟨.bl (!c), H1, I1, rfl, q1⟩)
end
end L2
namespace L2
open PySem PySem.Spec PyProof.Rows
noncomputable def SqL (K : PySem.W.Frag) (H : Hp) (a : Addr) (xs : List V) : Prop :=
  Rd H a (.lst xs) ∨
    ∃ (o : Obj) (its : Array Value) (n : Nat), K.lookup a = some o ∧ o.cls = .type "list" ∧ o.dict = none ∧ o.data = .seq its n ∧ its.size ≤ sizeLine ∧ Z3 xs its.toList
noncomputable def SqT (K : PySem.W.Frag) (H : Hp) (a : Addr) (xs : List V) : Prop :=
  Rd H a (.tup xs) ∨
    ∃ (o : Obj) (its : Array Value) (n : Nat), K.lookup a = some o ∧ o.cls = .type "tuple" ∧ o.data = .seq its n ∧ its.size ≤ sizeLine ∧ Z3 xs its.toList
noncomputable def Zrd : Value → Option V
  | .none => some .non
  | .bool b => some (.bl b)
  | .int i _ => some (.int i)
  | .str x _ => some (.str x)
  | .bytes b _ => some (.byt b)
  | .float b _ => some (.flt b)
  | .ref a => some (.ref a)
  | .type n => some (.ty n)
  | _ => none
theorem Zat.abs {x : V} {u : Value} (r : Zat x u) : Zrd u = some x := by
  cases x with
  | non => cases r; rfl
  | bl _ => cases r; rfl
  | int _ => obtain ⟨t, rfl⟩ := r; rfl
  | str _ => obtain ⟨t, rfl⟩ := r; rfl
  | byt _ => obtain ⟨t, rfl⟩ := r; rfl
  | flt _ => obtain ⟨t, rfl⟩ := r; rfl
  | ref _ => cases r; rfl
  | ty _ => cases r; rfl
theorem Zat.inj {x y : V} {u : Value} (r : Zat x u) (q : Zat y u) : x = y := Option.some.inj (r.abs.symm.trans q.abs)
theorem Z3.inj : ∀ {xs ys : List V} {us : List Value}, Z3 xs us → Z3 ys us → xs = ys
  | _, _, _, .nil, .nil => rfl
  | _, _, _, .cons r t, .cons r' t' => by rw [r.inj r', Z3.inj t t']
section
variable {X : Cx} {pins : List (Addr × Obj)} {σ : St} {H : Hp} {s : Shared} {a : Addr} {xs ys : List V}
theorem SqL.of {K : PySem.W.Frag} (h : H a = some (.lst xs)) : SqL K H a xs := .inl (.inl h)
theorem Inv.list (I : Inv X pins σ H s) (h : SqL X.K H a xs) : ∃ its : List Value, Z3 xs its ∧ PlainL s.heap a its.toArray ∧ xs.length ≤ sizeLine := by
  rcases h with h | ⟨o, its, n, hk, hc, hd, hs, hz, r⟩
  · obtain ⟨z, its, n, r, e⟩ := h.ok I.hok
    exact ⟨its, r, ⟨_, n, e, rfl, rfl, rfl⟩, z⟩
  · refine ⟨its.toList, r, ⟨o, n, I.kIn a o hk, hc, hd, by simpa using hs⟩, ?_⟩
    have e := r.length
    simp only [Array.length_toList] at e
    omega
theorem Inv.tuple (I : Inv X pins σ H s) (h : SqT X.K H a xs) : ∃ its : List Value, Z3 xs its ∧ IsTup s.heap a its.toArray ∧ xs.length ≤ sizeLine := by
  rcases h with h | ⟨o, its, n, hk, hc, hs, hz, r⟩
  · obtain ⟨z, its, r, p⟩ := h.ok I.hok
    exact ⟨its, r, p, z⟩
  · refine ⟨its.toList, r, ⟨o, I.kIn a o hk, hc, n, by simpa using hs⟩, ?_⟩
    have e := r.length
    simp only [Array.length_toList] at e
    omega
theorem Inv.list_inj (I : Inv X pins σ H s) (h : SqL X.K H a xs) (h' : SqL X.K H a ys) : xs = ys := by
  obtain ⟨its, r, ⟨o, n, e, _, _, d⟩, _⟩ := I.list h
  obtain ⟨its', r', ⟨o', n', e', _, _, d'⟩, _⟩ := I.list h'
  rw [e] at e'; cases e'
  rw [d] at d'
  injection d' with d1 _
  have : its = its' := by simpa using congrArg Array.toList d1
  subst this
  exact r.inj r'
theorem Inv.tuple_inj (I : Inv X pins σ H s) (h : SqT X.K H a xs) (h' : SqT X.K H a ys) : xs = ys := by
  obtain ⟨its, r, ⟨o, e, _, n, d⟩, _⟩ := I.tuple h
  obtain ⟨its', r', ⟨o', e', _, n', d'⟩, _⟩ := I.tuple h'
  rw [e] at e'; cases e'
  rw [d] at d'
  injection d' with d1 _
  have : its = its' := by simpa using congrArg Array.toList d1
  subst this
  exact r.inj r'
end
section
variable {X : Cx} {pins : List (Addr × Obj)} {σ : St} {H : Hp} {s : Shared} {E : Value → Shared → Prop}
end
section
variable {X : Cx} {st : Stmt} {rest : List Stmt} {t u : TS} {e : Expr} {te : TE} {pos : Pos}
noncomputable def tNext : TS := fun D σ H => D.nx σ H
noncomputable def Zre (t u : TS) : TS := fun D σ H => t { D with nx := u D } σ H
theorem ZjJ : PSs X [] tNext := fun _ _ σ H _ I h => wpAny_execs_nil ⟨σ, H, I, h⟩
theorem ZhR (h1 : PS X st t) (h2 : PSs X rest u) : PSs X (st :: rest) (Zre t u) := by
  intro pins s σ H D I h
  refine wpAny_execs_cons (thn (h1 pins s σ H { D with nx := u D } I h) fun f s1 q => ?_)
  cases f with
  | next =>
    obtain ⟨σ', H', I', q⟩ := q
    exact h2 pins s1 σ' H' D I' q
  | ret v => exact q
  | brk => exact q
  | cont => exact q
theorem ZjK (h1 : PS X st t) : PSs X [st] t := by
  intro pins s σ H D I h
  refine wpAny_execs_cons (thn (h1 pins s σ H D I h) fun f s1 q => ?_)
  cases f with
  | next => exact wpAny_execs_nil q
  | ret v => exact q
  | brk => exact q
  | cont => exact q
theorem Inv.quiet {pins : List (Addr × Obj)} {σ : St} {H : Hp} {s : Shared} (I : Inv X pins σ H s) : interactive X.env = false := by simp [interactive, I.ok.kind]
noncomputable def Zoe (te : TE) : TS := fun D σ H => te σ H fun _ H1 => D.nx σ H1
theorem ZjL (he : PE X e te) (hs : swapsWith e none pos.line X.env = pure false := by rfl) : PS X (.Expr e pos) (Zoe te) := by
  intro pins s σ H D I h
  exact wpAny_Expr_any (thn (he pins s σ H _ I h) fun v s1 ⟨x, H1, I1, r1, q1⟩ => ⟨σ, H1, I1, q1⟩) I.quiet hs
noncomputable def Zrf (te : TE) : TS := fun D σ H => te σ H D.rt
theorem Zlr (he : PE X e te) : PS X (.Return (some e) pos) (Zrf te) := by
  intro pins s σ H D I h
  exact wpAny_Return_some (thn (he pins s σ H _ I h) fun v s1 ⟨x, H1, I1, r1, q1⟩ => ⟨x, σ, H1, I1, r1, q1⟩)
noncomputable def Zrg (c : TT) (t u : TS) : TS := fun D σ H => c σ H fun b H1 => if b = true then t D σ H1 else u D σ H1
theorem Zof {c : Expr} {a b : List Stmt} {tc : TT} (hc : PT X c tc) (ha : PSs X a t) (hb : PSs X b u) : PS X (.If c a b pos) (Zrg tc t u) := by
  intro pins s σ H D I h
  refine wpAny_If (thn (hc pins s σ H _ I h) fun d s1 ⟨H1, I1, q1⟩ => ?_)
  cases d with
  | true => exact ha pins s1 σ H1 D I1 q1
  | false => exact hb pins s1 σ H1 D I1 q1
end
noncomputable abbrev TG := V → St → Hp → (St → Hp → Prop) → Prop
noncomputable abbrev TGs := List V → St → Hp → (St → Hp → Prop) → Prop
noncomputable def PG (X : Cx) (target : Expr) (t : TG) : Prop :=
  ∀ (pins : List (Addr × Obj)) (s : Shared) (σ : St) (H : Hp) (v : V) (u : Value) (Q : St → Hp → Prop), Inv X pins σ H s → Zat v u → t v σ H Q →
    wpAny (model X.prog X.w) X.A (assign target X.env u) (fun _ s' => ∃ σ' H', Inv X pins σ' H' s' ∧ Q σ' H') X.xe s
noncomputable def PGs (X : Cx) (ts : List Expr) (t : TGs) : Prop :=
  ∀ (pins : List (Addr × Obj)) (s : Shared) (σ : St) (H : Hp) (vs : List V) (us : List Value) (Q : St → Hp → Prop), Inv X pins σ H s → Z3 vs us → t vs σ H Q →
    wpAny (model X.prog X.w) X.A (assignInOrder ((assignEach ts X.env).map (·.2)) us) (fun _ s' => ∃ σ' H', Inv X pins σ' H' s' ∧ Q σ' H') X.xe s
noncomputable abbrev Zog := V → V → V → Hp → (Hp → Prop) → Prop
noncomputable def Zqa (X : Cx) (t : Zog) : Prop :=
  ∀ (pins : List (Addr × Obj)) (s : Shared) (σ : St) (H : Hp) (o i v : V) (ov iv u : Value) (Q : Hp → Prop), Inv X pins σ H s → Zat o ov → Zat i iv → Zat v u → t o i v H Q →
    wpAny (model X.prog X.w) X.A (setItem ov iv u) (fun _ s' => ∃ H', Inv X pins σ H' s' ∧ Q H') X.xe s
section
variable {X : Cx} {pos : Pos}
noncomputable def Zls (i : Nat) : TG := fun v σ H Q => Q (σ.set i (some v)) H
theorem ZjM {i : Nat} {x : Str} (hN : X.N.Nodup) (hi : X.N[i]? = some x) (hx : Loc X.env.scope x) (hf : X.fn x = true ∨ X.env.scope.names.lookup x = some .local := by first | exact .inl rfl | exact .inr rfl | assumption) : PG X (.Name x pos) (Zls i) := by
  intro pins s σ H v u Q I r h
  exact wpAny_assign_Name (ZcL I hN hi hx r (fun s' I' => ⟨_, H, I', h⟩) hf)
noncomputable def gNil : TGs := fun vs σ H Q => vs = [] ∧ Q σ H
noncomputable def Zoh (t : TG) (u : TGs) : TGs := fun vs σ H Q => ∃ v r, vs = v :: r ∧ t v σ H fun σ' H' => u r σ' H' Q
theorem ZjN : PGs X [] gNil := by
  intro pins s σ H vs us Q I r h
  obtain ⟨e, h⟩ := h
  subst e
  cases r
  exact assignInOrder_nil ⟨σ, H, I, h⟩
theorem ZhS {e : Expr} {es : List Expr} {t : TG} {u : TGs} (h1 : PG X e t) (h2 : PGs X es u)
    (hs : (assignEach (e :: es) X.env).map (·.2) = assign e X.env :: (assignEach es X.env).map (·.2) := by rfl) : PGs X (e :: es) (Zoh t u) := by
  intro pins s σ H vs us Q I r h
  obtain ⟨v, vr, e1, h⟩ := h
  subst e1
  cases r with
  | cons r rr =>
    rw [hs]
    refine assignInOrder_cons (thn (h1 pins s σ H _ _ _ I r h) fun _ s1 ⟨σ1, H1, I1, q1⟩ => ?_)
    exact h2 pins s1 σ1 H1 _ _ Q I1 rr q1
noncomputable def Zrh (K : PySem.W.Frag) (n : Nat) (t : TGs) : TG := fun v σ H Q => ∃ a xs, v = .ref a ∧ SqT K H a xs ∧ xs.length = n ∧ t xs σ H Q
theorem Zlt {es : List Expr} {k : Nat} {t : TGs} {n : Nat} (hc : X.calm = true) (h : PGs X es t)
    (hn : (assignEach es X.env).length = n := by rfl) (hst : (assignEach es X.env).findIdx? (·.1) = none := by rfl) : PG X (.Tuple es k pos) (Zrh X.K n t) := by
  intro pins s σ H v u Q I r hw
  obtain ⟨a, xs, e1, hq, hl, hw⟩ := hw
  subst e1
  cases r
  obtain ⟨its, rv, ht, hz⟩ := I.tuple hq
  refine assign_Tuple_tuple (I.ok.hd hc) ht (by simp [hn, ← hl, rv.length]) hst fun h' hx => ?_
  have I1 : Inv X pins σ H { s with heap := h' } := I.kept (t' := s.toks) fun b o e => hx b o (Nat.ne_of_lt (Heap.lt_size e)) e
  exact h pins _ σ H xs _ Q I1 (by simpa using rv) hw
noncomputable def Zri (to ti : TE) (t : Zog) : TG := fun v σ H Q => to σ H fun o H1 => ti σ H1 fun i H2 => t o i v H2 fun H3 => Q σ H3
theorem Zlu {o i : Expr} {to ti : TE} {t : Zog} (ho : PE X o to) (hi : PE X i ti) (hs : Zqa X t)
    (ha : ∀ v, assign (.Subscript o i pos) X.env v = (do
      let ov ← holding [v] (eval o X.env)
      let iv ← holding [v, ov] (eval i X.env)
      standAt pos
      holding [v, ov, iv] (setItem ov iv v)
      release [v, ov, iv] []) := by intro _; rfl) : PG X (.Subscript o i pos) (Zri to ti t) := by
  intro pins s σ H v u Q I r h
  rw [ha]
  refine wpAny_bind (wpAny_holding (thn (ho pins s σ H _ I h) fun ov s1 ⟨x, H1, I1, r1, q1⟩ => ?_))
  refine wpAny_bind (wpAny_holding (thn (hi pins s1 σ H1 _ I1 q1) fun iv s2 ⟨y, H2, I2, r2, q2⟩ => ?_))
  refine wpAny_bind (wpAny_standAt (wpAny_bind (wpAny_holding (thn (hs pins s2 σ H2 x y v ov iv u _ I2 r1 r2 r q2) fun _ s3 ⟨H3, I3, q3⟩ => ?_))))
  exact wpAny_release ⟨σ, H3, I3, q3⟩
noncomputable def Zqb (te : TE) (g : TG) : TS := fun D σ H => te σ H fun x H1 => g x σ H1 D.nx
theorem Zi0 {tg e : Expr} {te : TE} {g : TG} (he : PE X e te) (hg : PG X tg g) (hs : swapsWithSole [tg] e pos.line X.env = pure false := by rfl) (hw : swappedStores [tg] e X.env = pure none := by rfl)
    (h1 : (assignEach [tg] X.env).map (·.2) = [assign tg X.env] := by rfl) : PS X (.Assign [tg] e pos) (Zqb te g) := by
  intro pins s σ H D I h
  refine wpAny_Assign_stores (thn (he pins s σ H _ I h) fun v s1 ⟨x, H1, I1, r1, q1⟩ => ?_) hs hw
  rw [h1]
  exact thn (hg pins s1 σ H1 x v _ I1 r1 q1) fun _ s2 q => q
theorem Zlv {i : Nat} {x : Str} {e : Expr} {te : TE} {pos' : Pos} (hN : X.N.Nodup) (hi : X.N[i]? = some x) (hx : Loc X.env.scope x) (he : PE X e te) (hs : swapsWith e (some (.Name x pos')) pos.line X.env = pure false := by rfl) (hf : X.fn x = true ∨ X.env.scope.names.lookup x = some .local := by first | exact .inl rfl | exact .inr rfl | assumption) :
    PS X (.Assign [.Name x pos'] e pos) (Zqb te (Zls i)) := by
  intro pins s σ H D I h
  refine wpAny_Assign_Name (thn (he pins s σ H _ I h) fun v s1 ⟨y, H1, I1, r1, q1⟩ => ?_) hs
  exact ZcL I1 hN hi hx r1 (fun s2 I2 => ⟨_, H1, I2, q1⟩) hf
noncomputable def Zrj (i j : Nat) (ta : TA) : TS := fun D σ H => ta σ H fun vs H1 => ∃ v w, vs = [v, w] ∧ D.nx ((σ.set i (some v)).set j (some w)) H1
theorem Zlw {i j : Nat} {x y : Str} {a b : Expr} {ta : TA} {px py pt : Pos} {kt k2 pt2} (hc : X.calm = true) (hN : X.N.Nodup) (hi : X.N[i]? = some x) (hj : X.N[j]? = some y) (hij : i ≠ j)
    (hx : X.env.scope.names.lookup x = some .local) (hy : X.env.scope.names.lookup y = some .local) (ha : PA X [a, b] ta)
    (hw : swappedStores [.Tuple [.Name x px, .Name y py] kt pt] (.Tuple [a, b] k2 pt2) X.env = pure (some [x, y]))
    (hs : swapsWithSole [.Tuple [.Name x px, .Name y py] kt pt] (.Tuple [a, b] k2 pt2) pos.line X.env = pure false := by rfl) :
    PS X (.Assign [.Tuple [.Name x px, .Name y py] kt pt] (.Tuple [a, b] k2 pt2) pos) (Zrj i j ta) := by
  intro pins s σ H D I h
  rw [exec_Assign_arm]
  refine wpAny_bind (wpAny_standAt ?_)
  rw [hs]
  refine wpAny_bind (wpAny_pure ?_)
  rw [if_neg (by decide)]
  refine wpAny_bind (Tuple_ (thn (ha _ pins s σ H _ I h) fun us s1 ⟨vs, H1, I1, r1, q1⟩ => ?_))
  obtain ⟨v, w, e1, q1⟩ := q1
  subst e1
  obtain ⟨u1, u2, rfl, rv, rw'⟩ : ∃ u1 u2, us = [u1, u2] ∧ Zat v u1 ∧ Zat w u2 := by
    cases r1 with
    | cons p q =>
      cases q with
      | cons p' q' =>
        cases q'
        exact ⟨_, _, rfl, p, p'⟩
  refine wpAny_newObj_type ?_ (by show 2 ≤ sizeLine; decide)
  have I2 : Inv X pins σ H1 { s1 with heap := s1.heap.push { cls := .type "tuple", data := .seq [u1, u2].toArray } } := I1.kept (t' := s1.toks) fun b o e => Heap.get?_push_of_some _ e
  rw [hw]
  refine wpAny_bind (wpAny_pure ?_)
  show wpAny (model X.prog X.w) X.A (do rule "assign.swapped-stores"; let items ← unpackItems (.ref s1.heap.objs.size) 2 none; assignInOrder [fun v => bindName X.env y v, fun v => bindName X.env x v] items.reverse; pure Flow.next) _ _ _
  refine wpAny_bind (wpAny_rule (wpAny_bind (unpackItems_tuple (items := #[u1, u2]) (I.ok.hd hc) (IsTup.new s1.heap _) fun h' hx' => ?_)))
  have I3 := I2.kept (h' := h') (t' := s1.toks) fun b o e => hx' b o (Nat.ne_of_lt (Heap.lt_size e)) e
  show wpAny _ _ (assignInOrder [fun v => bindName X.env y v, fun v => bindName X.env x v] [u2, u1] >>= fun _ => pure Flow.next) _ _ _
  refine wpAny_bind (assignInOrder_cons (wpAny_bindName (ZcL I3 hN hj (.inl hy) rw' (fun s2 I4 => ?_) (.inr hy))))
  refine assignInOrder_cons (wpAny_bindName (ZcL I4 hN hi (.inl hx) rv (fun s3 I5 => assignInOrder_nil (wpAny_pure ?_)) (.inr hx)))
  rw [List.set_comm _ _ (Ne.symm hij)] at I5
  exact ⟨_, H1, I5, q1⟩
end
section
variable {X : Cx} {pos : Pos}
noncomputable def Zlx (c : TT) (tb : TS) : TS := fun D σ H => ∃ W : Nat → St → Hp → Prop, (∃ m, W m σ H) ∧ ∀ m σ H, W m σ H →
  c σ H fun b H1 => if b = true then ∃ N : St → Hp → Prop, (∀ σ' H', N σ' H' → ∃ m', m' < m ∧ W m' σ' H') ∧ tb { D with nx := N, ct := N, bk := D.nx } σ H1 else D.nx σ H1
theorem ZhT {c : Expr} {body : List Stmt} {tc : TT} {tb : TS} (hp : PassesOwn (model X.prog X.w) X.A X.env X.xe) (hc : PT X c tc) (hb : PSs X body tb) : PS X (.While c body [] pos) (Zlx tc tb) := by
  intro pins s σ H D I h
  obtain ⟨W, ⟨m0, w0⟩, turn⟩ := h
  refine wpAny_While (codeAny_whileLoop (fun n s' => ∃ σ' H', Inv X pins σ' H' s' ∧ W n σ' H') ?_ m0 ⟨σ, H, I, w0⟩)
  rintro n s1 ⟨σ1, H1, I1, w1⟩
  refine wpAny_passesOwn hp (thn (hc pins s1 σ1 H1 _ I1 (turn n σ1 H1 w1)) fun b s2 ⟨H2, I2, q2⟩ => ?_)
  cases b with
  | true =>
    obtain ⟨N, hN, q2⟩ := q2
    rw [if_pos rfl]
    refine wpAny_passesOwn hp (thn (hb pins s2 σ1 H2 _ I2 q2) fun f s3 q3 => ?_)
    cases f with
    | next =>
      obtain ⟨σ3, H3, I3, n3⟩ := q3
      obtain ⟨m', hm, w3⟩ := hN σ3 H3 n3
      exact ⟨m', hm, σ3, H3, I3, w3⟩
    | cont =>
      obtain ⟨σ3, H3, I3, n3⟩ := q3
      obtain ⟨m', hm, w3⟩ := hN σ3 H3 n3
      exact ⟨m', hm, σ3, H3, I3, w3⟩
    | brk => exact q3
    | ret v => exact q3
  | false =>
    rw [if_neg Bool.false_ne_true]
    exact wpAny_execs_nil ⟨σ1, H2, I2, q2⟩
end
structure It where
  go : Nat → Hp → Prop
  yld : Nat → Hp → V → Hp → Prop
  stop : Nat → Hp → Prop
noncomputable def Zdg (X : Cx) (pins : List (Addr × Obj)) (H : Hp) (b : Addr) : Prop :=
  H b = none ∧ b ≠ X.env.locals ∧ b ∉ X.fs ∧ (b ∈ X.ex ∨ X.s₀.heap.objs.size ≤ b) ∧ (∀ x c, X.env.cells.lookup x = some c → c ≠ b) ∧ ∀ p ∈ X.pn ++ pins, p.1 ≠ b
theorem Inv.fpOk {X : Cx} {pins : List (Addr × Obj)} {σ : St} {H H' : Hp} {s : Shared} {b : Addr} (I : Inv X pins σ H s) (hb : s.heap.objs.size ≤ b) (hn : H' b = none) : Zdg X pins H' b := by
  refine ⟨hn, Nat.ne_of_gt (Nat.lt_of_lt_of_le I.lt hb), I.nofs hb, .inr (Nat.le_trans I.sz hb), fun x c e z => ?_, fun p hp z => ?_⟩
  · obtain ⟨v, q⟩ := I.cell x c e
    exact absurd (Nat.lt_of_lt_of_le q.lt (by rw [z]; exact hb)) (Nat.lt_irrefl _)
  · exact absurd (Nat.lt_of_lt_of_le (Heap.lt_size (I.pin p hp).1) (by rw [z]; exact hb)) (Nat.lt_irrefl _)
structure Turn (P : Program) (w : World) (K : PySem.W.Frag) (B : Around) (tg : Expr) (J : It) (fp : List Addr) (it : Addr) (tn : Nat → Heap → Prop) : Prop where
  mem : it ∈ fp
  obj : ∀ i h, tn i h → ∀ b ∈ fp, ∃ o, h.get? b = some o ∧ ∀ v, o.data ≠ .cell v
  keep : ∀ i h h', tn i h → (∀ b ∈ fp, ∀ o, h.get? b = some o → h'.get? b = some o) → tn i h'
  item : ∀ (X : Cx), X.prog = P → X.w = w → X.K = K → X.A = B → ∀ (i : Nat) (pins : List (Addr × Obj)) (s : Shared) (σ : St) (H : Hp) (E : Value → Shared → Prop), Inv X pins σ H s → (∀ b ∈ fp, Zdg X pins H b) → tn i s.heap → J.go i H →
    wpAny (model P w) X.A (pyNext (.ref it)) (fun r s1 => ∃ u, r = some u ∧
      wpAny (model P w) X.A (letOwnedTupleGo tg (.ref it) u) (fun _ s2 => ∃ x H', Inv X pins σ H' s2 ∧ Zat x u ∧ J.yld i H x H' ∧ tn (i + 1) s2.heap ∧ ∀ b ∈ fp, H' b = none) E s1) E s
  done : ∀ (X : Cx), X.prog = P → X.w = w → X.K = K → X.A = B → ∀ (i : Nat) (pins : List (Addr × Obj)) (s : Shared) (σ : St) (H : Hp) (E : Value → Shared → Prop), Inv X pins σ H s → (∀ b ∈ fp, Zdg X pins H b) → tn i s.heap → J.stop i H →
    wpAny (model P w) X.A (pyNext (.ref it)) (fun r s1 => r = none ∧ Inv X pins σ H s1) E s
  self : ∀ (A : Around) (i : Nat) (s : Shared) (Q : Value → Shared → Prop) (E : Value → Shared → Prop), tn i s.heap → Q (.ref it) s → wpAny (model P w) A (pyIter (.ref it)) Q E s
noncomputable abbrev TI := St → Hp → (It → Hp → Prop) → Prop
noncomputable def PIE (X : Cx) (pins : List (Addr × Obj)) (σ : St) (tg : Expr) (R : It → Hp → Prop) (itv : Value) (s2 : Shared) : Prop :=
  ∃ (it : Addr) (fp : List Addr) (tn : Nat → Heap → Prop) (J : It) (H' : Hp), itv = .ref it ∧ Inv X pins σ H' s2 ∧ Turn X.prog X.w X.K X.A tg J fp it tn ∧ tn 0 s2.heap ∧ (∀ b ∈ fp, Zdg X pins H' b) ∧ R J H'
noncomputable def PI (X : Cx) (tg iter : Expr) (wi : TI) : Prop :=
  ∀ (pins : List (Addr × Obj)) (s : Shared) (σ : St) (H : Hp) (R : It → Hp → Prop), Inv X pins σ H s → wi σ H R →
    wpAny (model X.prog X.w) X.A (eval iter X.env) (fun v s1 => wpAny (model X.prog X.w) X.A (pyIter v) (PIE X pins σ tg R) X.xe s1) X.xe s
theorem ZjO {M : Model} {A : Around} {E : Value → Shared → Prop} {s : Shared} {tg : Expr} {it : Addr} {u : Value} {o : Obj} {n : String} {vs : Array Value} {Q : Unit → Shared → Prop} (ho : s.heap.get? it = some o) (hc : o.cls = .type n) (hd : o.data = .fields vs)
    (hn : ["enumerate", "zip", "dict_itemiterator", "dict_reverseitemiterator", "odict_iterator", "itertools.zip_longest", "itertools.pairwise"].contains n = false) (hQ : Q () s) : wpAny M A (letOwnedTupleGo tg (.ref it) u) Q E s := by
  unfold letOwnedTupleGo
  cases tg <;> first
    | exact wpAny_pure hQ
    | (cases u <;> first
        | exact wpAny_pure hQ
        | (refine wpAny_bind (wpAny_load ho ?_)
           rw [hc, hd]
           show wpAny M A (if (["enumerate", "zip", "dict_itemiterator", "dict_reverseitemiterator", "odict_iterator", "itertools.zip_longest", "itertools.pairwise"].contains n && vs[0]? == some (rawInt _)) = true then _ else _) Q E s
           rw [if_neg (by intro h; rw [hn, Bool.false_and] at h; cases h)]
           exact wpAny_pure hQ))
noncomputable def Itl (K : PySem.W.Frag) (a : Addr) : It :=
  ⟨fun i H => ∃ xs x, SqL K H a xs ∧ xs[i]? = some x, fun i H x H' => H' = H ∧ ∀ xs, SqL K H a xs → xs[i]? = some x, fun i H => ∃ xs, SqL K H a xs ∧ xs.length ≤ i⟩
noncomputable def Itt (K : PySem.W.Frag) (a : Addr) : It :=
  ⟨fun i H => ∃ xs x, SqT K H a xs ∧ xs[i]? = some x, fun i H x H' => H' = H ∧ ∀ xs, SqT K H a xs → xs[i]? = some x, fun i H => ∃ xs, SqT K H a xs ∧ xs.length ≤ i⟩
noncomputable def Itr (lo : Int) (n : Nat) : It := ⟨fun i _ => i < n, fun i H x H' => H' = H ∧ x = .int (lo + i), fun i _ => n ≤ i⟩
theorem Zgj {P : Program} {w : World} {K : PySem.W.Frag} {B : Around} {tg : Expr} (a it : Addr) : Turn P w K B tg (Itl K a) [it] it (fun i h => h.IsListIter it a i) where
  mem := by simp
  obj := fun i h st b hb => by
    have e : b = it := by simpa using hb
    subst e
    obtain ⟨o, e, c, d⟩ := st
    exact ⟨o, e, fun v z => by rw [d] at z; cases z⟩
  keep := fun i h h' st k => st.at fun o e => k it (by simp) o e
  item := by
    intro X hP hw hK hB i pins s σ H E I hf st hg
    subst hP hw hK
    obtain ⟨xs, x, hq, hx⟩ := hg
    obtain ⟨its, rv, p, hz⟩ := I.list hq
    obtain ⟨u, hu, ru⟩ := rv.get hx
    obtain ⟨f0, f1, f2, f3, f4, f5⟩ := hf it (by simp)
    refine wpAny_pyNext_list_item st p.isList (x := u) (by simpa using hu) fun h' st' sb => ?_
    have I1 : Inv X pins σ H { s with heap := h' } := I.turned (t' := s.toks) (fun b o hb e => (sb.2 b hb).trans e) f0 f1 f3 f4 f5
    obtain ⟨o, e, c, d⟩ := id st'
    exact ⟨u, rfl, ZjO (s := { s with heap := h' }) e c d (by decide) ⟨x, H, I1, ru, ⟨rfl, fun ys hy => by rw [I.list_inj hy hq]; exact hx⟩, st', fun b hb => (hf b hb).1⟩⟩
  done := by
    intro X hP hw hK hB i pins s σ H E I hf st hg
    subst hP hw hK
    obtain ⟨xs, hq, hx⟩ := hg
    obtain ⟨its, rv, p, hz⟩ := I.list hq
    obtain ⟨f0, f1, f2, f3, f4, f5⟩ := hf it (by simp)
    have hl := rv.length
    exact DQ.ZhP I.qh st p.isList (by simp; omega) fun h' eb => ⟨rfl, I.turned (t' := s.toks) (fun b o hb e => eb b o hb e) f0 f1 f3 f4 f5⟩
  self := fun _ _ _ _ _ st h => wpAny_pyIter_listiter st h
theorem ZfI {P : Program} {w : World} {K : PySem.W.Frag} {B : Around} {tg : Expr} (a it : Addr) : Turn P w K B tg (Itt K a) [it] it (fun i h => h.IsTupleIter it a i) where
  mem := by simp
  obj := fun i h st b hb => by
    have e : b = it := by simpa using hb
    subst e
    obtain ⟨o, e, c, d⟩ := st
    exact ⟨o, e, fun v z => by rw [d] at z; cases z⟩
  keep := fun i h h' st k => st.at fun o e => k it (by simp) o e
  item := by
    intro X hP hw hK hB i pins s σ H E I hf st hg
    subst hP hw hK
    obtain ⟨xs, x, hq, hx⟩ := hg
    obtain ⟨its, rv, p, hz⟩ := I.tuple hq
    obtain ⟨u, hu, ru⟩ := rv.get hx
    obtain ⟨f0, f1, f2, f3, f4, f5⟩ := hf it (by simp)
    refine wpAny_pyNext_tuple_item st (show s.heap.IsTuple a its.toArray from p) (x := u) (by simpa using hu) fun h' st' sb => ?_
    have I1 : Inv X pins σ H { s with heap := h' } := I.turned (t' := s.toks) (fun b o hb e => (sb.2 b hb).trans e) f0 f1 f3 f4 f5
    obtain ⟨o, e, c, d⟩ := id st'
    exact ⟨u, rfl, ZjO (s := { s with heap := h' }) e c d (by decide) ⟨x, H, I1, ru, ⟨rfl, fun ys hy => by rw [I.tuple_inj hy hq]; exact hx⟩, st', fun b hb => (hf b hb).1⟩⟩
  done := by
    intro X hP hw hK hB i pins s σ H E I hf st hg
    subst hP hw hK
    obtain ⟨xs, hq, hx⟩ := hg
    obtain ⟨its, rv, p, hz⟩ := I.tuple hq
    obtain ⟨f0, f1, f2, f3, f4, f5⟩ := hf it (by simp)
    have hl := rv.length
    exact DQ.Zge I.qh st (show s.heap.IsTuple a its.toArray from p) (by simp; omega) fun h' eb => ⟨rfl, I.turned (t' := s.toks) (fun b o hb e => eb b o hb e) f0 f1 f3 f4 f5⟩
  self := fun _ _ _ _ _ st h => wpAny_pyIter_tupleiter st h
theorem ZfJ {P : Program} {w : World} {K : PySem.W.Frag} {B : Around} {tg : Expr} (it : Addr) (lo : Int) (n : Nat) : Turn P w K B tg (Itr lo n) [it] it (fun i h => IsRangeIter h it (lo + (i : Nat) * 1) ((n : Int) - (i : Nat)) 1) where
  mem := by simp
  obj := fun i h st b hb => by
    have e : b = it := by simpa using hb
    subst e
    exact ⟨_, st, fun v z => by
      have z' : Data.fields _ = Data.cell v := z
      cases z'⟩
  keep := fun i h h' st k => k it (by simp) _ st
  item := by
    intro X hP hw hK hB i pins s σ H E I hf st hg
    subst hP hw hK
    obtain ⟨f0, f1, f2, f3, f4, f5⟩ := hf it (by simp)
    have hlt : i < n := hg
    refine wpAny_pyNext_range_item st (by omega) fun h' st' sb => ?_
    have I1 : Inv X pins σ H { s with heap := h', toks := s.toks + 1 } := I.turned (fun b o hb e => (sb.2 b hb).trans e) f0 f1 f3 f4 f5
    have st2 : IsRangeIter h' it (lo + ((i + 1 : Nat) : Int) * 1) ((n : Int) - ((i + 1 : Nat) : Int)) 1 := by
      have e1 : lo + ((i + 1 : Nat) : Int) * 1 = lo + (i : Nat) * 1 + 1 := by omega
      have e2 : (n : Int) - ((i + 1 : Nat) : Int) = (n : Int) - (i : Nat) - 1 := by omega
      rw [e1, e2]
      exact st'
    refine ⟨_, rfl, ZjO (s := { s with heap := h', toks := s.toks + 1 }) (n := "range_iterator") st2 rfl rfl (by decide) ⟨.int (lo + i), H, I1, ⟨s.toks, ?_⟩, ⟨rfl, rfl⟩, st2, fun b hb => (hf b hb).1⟩⟩
    rw [Int.mul_one]
  done := by
    intro X hP hw hK hB i pins s σ H E I hf st hg
    subst hP hw hK
    obtain ⟨f0, f1, f2, f3, f4, f5⟩ := hf it (by simp)
    exact DQ.Zgd I.qh st (by have : n ≤ i := hg; omega) fun h' eb => ⟨rfl, I.turned (t' := s.toks) (fun b o hb e => eb b o hb e) f0 f1 f3 f4 f5⟩
  self := fun _ _ _ _ _ st h => wpAny_pyIter_rangeiter st h
end L2
namespace L2
open PySem PySem.Spec PyProof.Rows
section
variable {X : Cx} {tg : Expr}
theorem ZhU {pins : List (Addr × Obj)} {σ : St} {H : Hp} {s : Shared} {R : It → Hp → Prop} {E : Value → Shared → Prop} {lo hi : Int} {t u v : Tok} {tk : Nat} (I : Inv X pins σ H s) (h1 : -(2 ^ 62) ≤ lo) (h2 : lo < 2 ^ 62) (h3 : -(2 ^ 62) ≤ hi) (h4 : hi < 2 ^ 62)
    (q : R (Itr lo (hi - lo).toNat) H) : wpAny (model X.prog X.w) X.A (pyIter (.ref s.heap.objs.size)) (PIE X pins σ tg R) E { s with heap := s.heap.push { cls := .type "range", data := .fields #[.int lo t, .int hi u, .int 1 v] }, toks := tk } := by
  refine wpAny_pyIter_range (IsRange.new ..) (small_one h1 h2 h3 h4) ?_
  have I1 : Inv X pins σ H { s with heap := s.heap.push { cls := .type "range", data := .fields #[.int lo t, .int hi u, .int 1 v] }, toks := tk } := I.kept fun b o e => Heap.get?_push_of_some _ e
  refine ⟨(s.heap.push { cls := .type "range", data := .fields #[.int lo t, .int hi u, .int 1 v] }).objs.size, [(s.heap.push { cls := .type "range", data := .fields #[.int lo t, .int hi u, .int 1 v] }).objs.size], _, _, H, rfl,
    I1.kept (t' := tk) fun b o e => Heap.get?_push_of_some _ e, ZfJ _ lo (hi - lo).toNat, ?_, fun b hb => ?_, q⟩
  · have e1 : lo + ((0 : Nat) : Int) * 1 = lo := by simp
    have e2 : (((hi - lo).toNat : Nat) : Int) - ((0 : Nat) : Int) = Builtin.Range.rangeSize lo hi 1 := by rw [rangeSize_one]; split <;> omega
    show IsRangeIter _ _ (lo + ((0 : Nat) : Int) * 1) ((((hi - lo).toNat : Nat) : Int) - ((0 : Nat) : Int)) 1
    rw [e1, e2]
    exact Heap.get?_push_size _ rfl
  · have e : b = (s.heap.push { cls := .type "range", data := .fields #[.int lo t, .int hi u, .int 1 v] }).objs.size := by simpa using hb
    subst e
    exact I1.fpOk (Nat.le_refl _) (I1.hok.fresh (Nat.le_refl _))
noncomputable def Zoi (ta : TA) : TI := fun σ H R => ta σ H fun vs H1 => ∃ j : Int, vs = [.int j] ∧ -(2 ^ 62) ≤ j ∧ j < 2 ^ 62 ∧ R (Itr 0 j.toNat) H1
theorem Zd1 {a : Expr} {ta : TA} {p pos : Pos} (hg : Gl X "range") (hm : X.mg "range" = none) (ha : PA X [a] ta) (hs : starEach [a] X.env = [(false, eval a X.env)] := by rfl) : PI X tg (.Call (.Name "range" p) [a] [] pos) (Zoi ta) := by
  intro pins s σ H R I h
  refine Call_ (Zcy I hg hm boot_range (PyProof.Rows.callWith_type1 (thn (ha pos pins s σ H _ I h) fun us s1 ⟨vs, H1, I1, r1, q1⟩ => ?_) hs rfl))
  obtain ⟨j, e, q1, q2, q⟩ := q1
  subst e
  cases r1 with
  | cons r rr =>
    cases rr
    obtain ⟨t, rfl⟩ := r
    exact call_range_1 (ZhU I1 (by omega) (by omega) q1 q2 (by simpa using q))
noncomputable def Zrk (wi : TI) (g : TG) (tb : TS) : TS := fun D σ H => wi σ H fun J H1 => ∃ W : Nat → Nat → St → Hp → Prop, (∃ m, W 0 m σ H1) ∧ ∀ i m σ H, W i m σ H →
  (J.stop i H ∧ D.nx σ H) ∨ (J.go i H ∧ ∃ N : St → Hp → Prop, (∀ σ' H', N σ' H' → ∃ m', m' < m ∧ W (i + 1) m' σ' H') ∧ ∀ x H', J.yld i H x H' → g x σ H' fun σ2 H2 => tb { D with nx := N, ct := N, bk := D.nx } σ2 H2)
noncomputable def ZbW (fp : List Addr) (h : Heap) : List (Addr × Obj) := fp.filterMap fun b => (h.get? b).map fun o => (b, o)
theorem Zae {fp : List Addr} {h : Heap} {b : Addr} {o : Obj} (hb : b ∈ fp) (e : h.get? b = some o) : (b, o) ∈ ZbW fp h := List.mem_filterMap.mpr ⟨b, hb, by rw [e]; rfl⟩
theorem Zgk {fp : List Addr} {h : Heap} {p : Addr × Obj} (hp : p ∈ ZbW fp h) : p.1 ∈ fp ∧ h.get? p.1 = some p.2 := by
  obtain ⟨b, hb, e⟩ := List.mem_filterMap.mp hp
  cases q : h.get? b with
  | none => rw [q] at e; cases e
  | some o =>
    rw [q] at e
    have e' : (b, o) = p := Option.some.inj e
    subst e'
    exact ⟨hb, q⟩
theorem Inv.pinned {pins : List (Addr × Obj)} {σ : St} {H : Hp} {s : Shared} {fp : List Addr} (I : Inv X pins σ H s) (hf : ∀ b ∈ fp, Zdg X pins H b) (ho : ∀ b ∈ fp, ∃ o, s.heap.get? b = some o ∧ ∀ v, o.data ≠ .cell v) : Inv X (pins ++ ZbW fp s.heap) σ H s :=
  I.pins_of fun p hp => (List.mem_append.mp hp).elim (fun z => I.pin p (List.mem_append_right _ z)) fun z => by
    obtain ⟨hb, e⟩ := Zgk z
    obtain ⟨f0, f1, f2, _⟩ := hf p.1 hb
    obtain ⟨o, e', d⟩ := ho p.1 hb
    rw [e] at e'; cases e'
    exact ⟨e, f0, f1, f2, d⟩
theorem Inv.unpinned {pins pl : List (Addr × Obj)} {σ : St} {H : Hp} {s : Shared} (I : Inv X (pins ++ pl) σ H s) : Inv X pins σ H s := I.pins_of fun p hp => I.pin p (List.mem_append_right _ (List.mem_append_left _ hp))
theorem Zgl {iter : Expr} {body : List Stmt} {wi : TI} {g : TG} {tb : TS} {pos : Pos} (hp : PassesOwn (model X.prog X.w) X.A X.env X.xe) (hi : PI X tg iter wi) (hg : PG X tg g) (hb : PSs X body tb)
    (hs : ∀ x, foldedSetIterable iter X.env x = pure x := by intro _; rfl) : PS X (.For tg iter body [] pos) (Zrk wi g tb) := by
  intro pins s σ H D I h
  refine wpAny_For (thn (hi pins s σ H _ I h) fun v s1 h1 => thn h1 fun itv s2 h2 => ?_) hs
  obtain ⟨it, fp, tn, J, H2, e, I2, T, st2, f2, W, ⟨m0, w0⟩, turn⟩ := h2
  subst e
  have stat : ∀ {H' : Hp}, (∀ b ∈ fp, H' b = none) → ∀ b ∈ fp, Zdg X pins H' b := fun hn b hb => ⟨hn b hb, (f2 b hb).2⟩
  refine codeAny_forLoop_any (fun n s' => ∃ i σ' H', Inv X pins σ' H' s' ∧ tn i s'.heap ∧ (∀ b ∈ fp, H' b = none) ∧ W i n σ' H') ?_ m0 ⟨0, σ, H2, I2, st2, fun b hb => (f2 b hb).1, w0⟩
  rintro n s3 ⟨i, σ3, H3, I3, st3, fr3, w3⟩
  rcases turn i n σ3 H3 w3 with ⟨stop, qn⟩ | ⟨go, N, hN, step⟩
  · refine wpAny_passesOwn hp (thn (T.done X rfl rfl rfl rfl i pins s3 σ3 H3 X.xe I3 (stat fr3) st3 stop) fun r s4 ⟨hr, I4⟩ => ?_)
    subst hr
    exact wpAny_execs_nil ⟨σ3, H3, I4, qn⟩
  · refine wpAny_passesOwn hp (thn (T.item X rfl rfl rfl rfl i pins s3 σ3 H3 X.xe I3 (stat fr3) st3 go) fun r s4 ⟨u, hr, h4⟩ => ?_)
    subst hr
    refine wpAny_passesOwn hp (thn h4 fun _ s5 ⟨x, H5, I5, r5, y5, st5, fr5⟩ => ?_)
    have I5' := I5.pinned (stat fr5) (T.obj _ _ st5)
    refine wpAny_passesOwn hp (thn (hg _ s5 σ3 H5 x u _ I5' r5 (step x H5 y5)) fun _ s6 ⟨σ6, H6, I6, q6⟩ => ?_)
    refine wpAny_passesOwn hp (thn (hb _ s6 σ6 H6 _ I6 q6) fun f s7 q7 => ?_)
    have again : ∀ {σ7 : St} {H7 : Hp}, Inv X (pins ++ ZbW fp s5.heap) σ7 H7 s7 → N σ7 H7 → ∃ m, m < n ∧ ∃ i σ' H', Inv X pins σ' H' s7 ∧ tn i s7.heap ∧ (∀ b ∈ fp, H' b = none) ∧ W i m σ' H' := fun {σ7 H7} I7 n7 => by
      obtain ⟨m', hm, w7⟩ := hN σ7 H7 n7
      refine ⟨m', hm, i + 1, σ7, H7, I7.unpinned, T.keep _ _ _ st5 fun b hb o e => (I7.pin (b, o) (List.mem_append_right _ (List.mem_append_right _ (Zae hb e)))).1, fun b hb => ?_, w7⟩
      obtain ⟨o, e, d⟩ := T.obj _ _ st5 b hb
      exact (I7.pin (b, o) (List.mem_append_right _ (List.mem_append_right _ (Zae hb e)))).2.1
    cases f with
    | next => obtain ⟨σ7, H7, I7, n7⟩ := q7; exact again I7 n7
    | cont => obtain ⟨σ7, H7, I7, n7⟩ := q7; exact again I7 n7
    | brk => obtain ⟨σ7, H7, I7, q7⟩ := q7; exact ⟨σ7, H7, I7.unpinned, q7⟩
    | ret v => obtain ⟨x7, σ7, H7, I7, r7, q7⟩ := q7; exact ⟨x7, σ7, H7, I7.unpinned, r7, q7⟩
end
theorem ZhV {K : PySem.W.Frag} {a : Addr} {xs : List V} {g : TG} {tb : TS} {D : Ends} {σ : St} {H : Hp} (Pv : Nat → St → Hp → Prop) (h0 : Pv 0 σ H) (hl : ∀ i σ H, i ≤ xs.length → Pv i σ H → SqL K H a xs)
    (hs : ∀ i x σ H, xs[i]? = some x → Pv i σ H → g x σ H fun σ2 H2 => tb { D with nx := Pv (i + 1), ct := Pv (i + 1), bk := D.nx } σ2 H2) (hd : ∀ σ H, Pv xs.length σ H → D.nx σ H) :
    ∃ W : Nat → Nat → St → Hp → Prop, (∃ m, W 0 m σ H) ∧ ∀ i m σ H, W i m σ H →
      ((Itl K a).stop i H ∧ D.nx σ H) ∨ ((Itl K a).go i H ∧ ∃ N : St → Hp → Prop, (∀ σ' H', N σ' H' → ∃ m', m' < m ∧ W (i + 1) m' σ' H') ∧ ∀ x H', (Itl K a).yld i H x H' → g x σ H' fun σ2 H2 => tb { D with nx := N, ct := N, bk := D.nx } σ2 H2) := by
  refine ⟨fun i m σ H => m = xs.length - i ∧ i ≤ xs.length ∧ Pv i σ H, ⟨xs.length, by simp, Nat.zero_le _, h0⟩, ?_⟩
  rintro i m σ H ⟨rfl, hi, p⟩
  have q := hl i σ H hi p
  by_cases hlt : i < xs.length
  · refine .inr ⟨⟨xs, xs[i], q, by simp [hlt]⟩, Pv (i + 1), fun σ' H' p' => ⟨xs.length - (i + 1), by omega, rfl, hlt, p'⟩, fun x H' y => ?_⟩
    obtain ⟨e, y⟩ := y
    subst e
    exact hs i x σ _ (y xs q) p
  · have e : i = xs.length := by omega
    subst e
    exact .inl ⟨⟨xs, q, Nat.le_refl _⟩, hd σ H p⟩
theorem ZjP {K : PySem.W.Frag} {a : Addr} {xs : List V} {g : TG} {tb : TS} {D : Ends} {σ : St} {H : Hp} (Pv : Nat → St → Hp → Prop) (h0 : Pv 0 σ H) (hl : ∀ i σ H, i ≤ xs.length → Pv i σ H → SqT K H a xs)
    (hs : ∀ i x σ H, xs[i]? = some x → Pv i σ H → g x σ H fun σ2 H2 => tb { D with nx := Pv (i + 1), ct := Pv (i + 1), bk := D.nx } σ2 H2) (hd : ∀ σ H, Pv xs.length σ H → D.nx σ H) :
    ∃ W : Nat → Nat → St → Hp → Prop, (∃ m, W 0 m σ H) ∧ ∀ i m σ H, W i m σ H →
      ((Itt K a).stop i H ∧ D.nx σ H) ∨ ((Itt K a).go i H ∧ ∃ N : St → Hp → Prop, (∀ σ' H', N σ' H' → ∃ m', m' < m ∧ W (i + 1) m' σ' H') ∧ ∀ x H', (Itt K a).yld i H x H' → g x σ H' fun σ2 H2 => tb { D with nx := N, ct := N, bk := D.nx } σ2 H2) := by
  refine ⟨fun i m σ H => m = xs.length - i ∧ i ≤ xs.length ∧ Pv i σ H, ⟨xs.length, by simp, Nat.zero_le _, h0⟩, ?_⟩
  rintro i m σ H ⟨rfl, hi, p⟩
  have q := hl i σ H hi p
  by_cases hlt : i < xs.length
  · refine .inr ⟨⟨xs, xs[i], q, by simp [hlt]⟩, Pv (i + 1), fun σ' H' p' => ⟨xs.length - (i + 1), by omega, rfl, hlt, p'⟩, fun x H' y => ?_⟩
    obtain ⟨e, y⟩ := y
    subst e
    exact hs i x σ _ (y xs q) p
  · have e : i = xs.length := by omega
    subst e
    exact .inl ⟨⟨xs, q, Nat.le_refl _⟩, hd σ H p⟩
theorem Zgm {lo : Int} {n : Nat} {g : TG} {tb : TS} {D : Ends} {σ : St} {H : Hp} (Pv : Nat → St → Hp → Prop) (h0 : Pv 0 σ H)
    (hs : ∀ i σ H, i < n → Pv i σ H → g (.int (lo + i)) σ H fun σ2 H2 => tb { D with nx := Pv (i + 1), ct := Pv (i + 1), bk := D.nx } σ2 H2) (hd : ∀ σ H, Pv n σ H → D.nx σ H) :
    ∃ W : Nat → Nat → St → Hp → Prop, (∃ m, W 0 m σ H) ∧ ∀ i m σ H, W i m σ H →
      ((Itr lo n).stop i H ∧ D.nx σ H) ∨ ((Itr lo n).go i H ∧ ∃ N : St → Hp → Prop, (∀ σ' H', N σ' H' → ∃ m', m' < m ∧ W (i + 1) m' σ' H') ∧ ∀ x H', (Itr lo n).yld i H x H' → g x σ H' fun σ2 H2 => tb { D with nx := N, ct := N, bk := D.nx } σ2 H2) := by
  refine ⟨fun i m σ H => m = n - i ∧ i ≤ n ∧ Pv i σ H, ⟨n, by simp, Nat.zero_le _, h0⟩, ?_⟩
  rintro i m σ H ⟨rfl, hi, p⟩
  by_cases hlt : i < n
  · refine .inr ⟨hlt, Pv (i + 1), fun σ' H' p' => ⟨n - (i + 1), by omega, rfl, hlt, p'⟩, fun x H' y => ?_⟩
    obtain ⟨e, y⟩ := y
    subst e y
    exact hs i σ _ hlt p
  · have e : i = n := by omega
    subst e
    exact .inl ⟨Nat.le_refl _, hd σ H p⟩
end L2
namespace L2
open PySem PySem.Spec PyProof.Rows
noncomputable abbrev R2 := V → V → Hp → VK → Prop
noncomputable def OpR (X : Cx) (f : Value → Value → Sem Value) (r : R2) : Prop :=
  ∀ (pins : List (Addr × Obj)) (s : Shared) (σ : St) (H : Hp) (x y : V) (v u : Value) (Q : VK), Inv X pins σ H s → Zat x v → Zat y u → r x y H Q →
    wpAny (model X.prog X.w) X.A (f v u) (EP X pins σ Q) X.xe s
noncomputable def UnR (X : Cx) (f : Value → Sem Value) (r : V → Hp → VK → Prop) : Prop :=
  ∀ (pins : List (Addr × Obj)) (s : Shared) (σ : St) (H : Hp) (x : V) (v : Value) (Q : VK), Inv X pins σ H s → Zat x v → r x H Q →
    wpAny (model X.prog X.w) X.A (f v) (EP X pins σ Q) X.xe s
noncomputable def Zb9 (X : Cx) (f : Value) (r : List V → Hp → VK → Prop) : Prop :=
  ∀ (pins : List (Addr × Obj)) (s : Shared) (σ : St) (H : Hp) (xs : List V) (us : List Value) (Q : VK), Inv X pins σ H s → Z3 xs us → r xs H Q →
    wpAny (model X.prog X.w) X.A (call f us) (EP X pins σ Q) X.xe s
noncomputable def tOp (r : R2) (ta tb : TE) : TE := fun σ H Q => ta σ H fun x H1 => tb σ H1 fun y H2 => r x y H2 Q
noncomputable def tUn (r : V → Hp → VK → Prop) (ta : TE) : TE := fun σ H Q => ta σ H fun x H1 => r x H1 Q
noncomputable def rI (C : Int → Int → Prop) (g : Int → Int → V) : R2 := fun x y H Q => ∃ i j, x = .int i ∧ y = .int j ∧ C i j ∧ Q (g i j) H
noncomputable def rI0 (g : Int → Int → V) : R2 := fun x y H Q => ∃ i j, x = .int i ∧ y = .int j ∧ Q (g i j) H
noncomputable def rU (g : Int → V) : V → Hp → VK → Prop := fun x H Q => ∃ i, x = .int i ∧ Q (g i) H
section
variable {X : Cx} {a b c : Expr} {ta tb tc : TE} {pos : Pos}
theorem Zoj (ha : PE X a ta) (hb : PE X b tb) {pins : List (Addr × Obj)} {s : Shared} {σ : St} {H : Hp} {R : V → V → Hp → Prop} (I : Inv X pins σ H s)
    (h : ta σ H fun x H1 => tb σ H1 fun y H2 => R x y H2) {Q : Value → Shared → Prop} {f : Value → Value → Sem Value}
    (hf : ∀ v u s2 x y H2, Inv X pins σ H2 s2 → Zat x v → Zat y u → R x y H2 → wpAny (model X.prog X.w) X.A (f v u) Q X.xe s2) :
    wpAny (model X.prog X.w) X.A (eval a X.env) (fun v s₁ => wpAny (model X.prog X.w) X.A (eval b X.env) (fun u s₂ => wpAny (model X.prog X.w) X.A (f v u) Q X.xe s₂) X.xe s₁) X.xe s := by
  refine thn (ha pins s σ H _ I h) fun v s1 ⟨x, H1, I1, r1, q1⟩ => ?_
  refine thn (hb pins s1 σ H1 _ I1 q1) fun u s2 ⟨y, H2, I2, r2, q2⟩ => ?_
  exact hf v u s2 x y H2 I2 r1 r2 q2
theorem Zok {op : Operator} {r : R2} (ho : OpR X (binaryOp op) r) (ha : PE X a ta) (hb : PE X b tb) : PE X (.BinOp a op b pos) (tOp r ta tb) := by
  intro pins s σ H Q I h
  exact wpAny_BinOp (Zoj ha hb I h fun v u s2 x y H2 I2 rx ry q => ho pins s2 σ H2 x y v u Q I2 rx ry q)
theorem Zol {op : UnaryOp} {r : V → Hp → VK → Prop} (ho : UnR X (unaryOp op) r) (ha : PE X a ta) : PE X (.UnaryOp op a pos) (tUn r ta) := by
  intro pins s σ H Q I h
  exact UnaryOp_ (thn (ha pins s σ H _ I h) fun v s1 ⟨x, H1, I1, r1, q1⟩ => ho pins s1 σ H1 x v Q I1 r1 q1)
theorem opI {f : Value → Value → Sem Value} {C : Int → Int → Prop} {g : Int → Int → Int}
    (rule : ∀ (i j : Int) (t u : Tok) (s : Shared) (Q : Value → Shared → Prop) (E : Value → Shared → Prop), C i j → Q (.int (g i j) s.toks) { s with toks := s.toks + 1 } → wpAny (model X.prog X.w) X.A (f (.int i t) (.int j u)) Q E s) :
    OpR X f (rI C fun i j => .int (g i j)) := by
  intro pins s σ H x y v u Q I rx ry h
  obtain ⟨i, j, rfl, rfl, hc, q⟩ := h
  obtain ⟨t, rfl⟩ := rx
  obtain ⟨t', rfl⟩ := ry
  exact rule i j t t' s _ _ hc ⟨.int (g i j), H, I.tok _, ⟨_, rfl⟩, q⟩
theorem Zqc {f : Value → Value → Sem Value} {g : Int → Int → Int}
    (rule : ∀ (i j : Int) (t u : Tok) (s : Shared) (Q : Value → Shared → Prop) (E : Value → Shared → Prop), Q (.int (g i j) s.toks) { s with toks := s.toks + 1 } → wpAny (model X.prog X.w) X.A (f (.int i t) (.int j u)) Q E s) :
    OpR X f (rI0 fun i j => .int (g i j)) := by
  intro pins s σ H x y v u Q I rx ry h
  obtain ⟨i, j, rfl, rfl, q⟩ := h
  obtain ⟨t, rfl⟩ := rx
  obtain ⟨t', rfl⟩ := ry
  exact rule i j t t' s _ _ ⟨.int (g i j), H, I.tok _, ⟨_, rfl⟩, q⟩
theorem Zom {f : Value → Value → Sem Value} {g : Int → Int → Bool}
    (rule : ∀ (i j : Int) (t u : Tok) (s : Shared) (Q : Value → Shared → Prop) (E : Value → Shared → Prop), Q (.bool (g i j)) s → wpAny (model X.prog X.w) X.A (f (.int i t) (.int j u)) Q E s) :
    OpR X f (rI0 fun i j => .bl (g i j)) := by
  intro pins s σ H x y v u Q I rx ry h
  obtain ⟨i, j, rfl, rfl, q⟩ := h
  obtain ⟨t, rfl⟩ := rx
  obtain ⟨t', rfl⟩ := ry
  exact rule i j t t' s _ _ ⟨.bl (g i j), H, I, rfl, q⟩
noncomputable def Zqd (i j : Int) : Prop := 0 ≤ j ∧ j ≤ 1000000 ∧ i.natAbs < 2 ^ 64
theorem Zly : OpR X (binaryOp .Add) (rI0 fun i j => .int (i + j)) := Zqc fun _ _ _ _ _ _ _ q => add_int q
theorem Zlz : OpR X (binaryOp .Sub) (rI0 fun i j => .int (i - j)) := Zqc fun _ _ _ _ _ _ _ q => sub_int q
theorem ZjQ : OpR X (binaryOp .Mod) (rI (fun _ j => j ≠ 0) fun i j => .int (i.fmod j)) := opI fun _ _ _ _ _ _ _ hc q => mod_int' hc q
theorem ZlA : OpR X (binaryOp .Pow) (rI Zqd fun i j => .int (i ^ j.toNat)) := opI fun _ _ _ _ _ _ _ hc q => pow_int_small hc.1 hc.2.1 hc.2.2 q
theorem unI {f : Value → Sem Value} {g : Int → Int}
    (rule : ∀ (i : Int) (t : Tok) (s : Shared) (Q : Value → Shared → Prop) (E : Value → Shared → Prop), Q (.int (g i) s.toks) { s with toks := s.toks + 1 } → wpAny (model X.prog X.w) X.A (f (.int i t)) Q E s) :
    UnR X f (rU fun i => .int (g i)) := by
  intro pins s σ H x v Q I rx h
  obtain ⟨i, rfl, q⟩ := h
  obtain ⟨t, rfl⟩ := rx
  exact rule i t s _ _ ⟨.int (g i), H, I.tok _, ⟨_, rfl⟩, q⟩
theorem ZlB : UnR X (unaryOp .USub) (rU fun i => .int (-i)) := unI fun _ _ _ _ _ q => neg_int q
end
section
variable {X : Cx} {a b c : Expr} {ta tb tc : TE} {pos : Pos}
theorem ZeF : OpR X (compareOp .Lt) (rI0 fun i j => .bl (decide (i < j))) := Zom fun _ _ _ _ _ _ _ q => lt_int q
theorem ZhW : OpR X (compareOp .Gt) (rI0 fun i j => .bl (decide (j < i))) := Zom fun _ _ _ _ _ _ _ q => gt_int q
theorem Zon : OpR X (compareOp .GtE) (rI0 fun i j => .bl (decide (j ≤ i))) := Zom fun _ _ _ _ _ _ _ q => ge_int q
theorem OpR.or {f : Value → Value → Sem Value} {r r' : R2} (h : OpR X f r) (h' : OpR X f r') : OpR X f (fun x y H Q => r x y H Q ∨ r' x y H Q) := by
  intro pins s σ H x y v u Q I rx ry q
  rcases q with q | q
  · exact h pins s σ H x y v u Q I rx ry q
  · exact h' pins s σ H x y v u Q I rx ry q
theorem Zi1 (b : Expr) {op : CmpOp} (h : op ≠ .In := by decide) (h2 : op ≠ .NotIn := by decide) : behindInMarks op b = false := by
  have e1 : (op == CmpOp.In) = false := by cases op <;> first | rfl | exact absurd rfl h
  have e2 : (op == CmpOp.NotIn) = false := by cases op <;> first | rfl | exact absurd rfl h2
  cases b <;> simp [behindInMarks, e1, e2]
theorem ZjR {op : CmpOp} {r : R2} (ho : OpR X (compareOp op) r) (ha : PE X a ta) (hb : PE X b tb) (hm : behindInMarks op b = false) : PE X (.Compare a [op] [b] pos) (tOp r ta tb) := by
  intro pins s σ H Q I h
  exact wpAny_Compare1 (Zoj ha hb I h fun v u s2 x y H2 I2 rx ry q => ho pins s2 σ H2 x y v u Q I2 rx ry q) hm
noncomputable def ZlC (t : TE) : TT := fun σ H Q => t σ H fun x H' => ∃ k, x = .bl k ∧ Q k H'
theorem ZjS {op : CmpOp} {r : R2} (ho : OpR X (compareOp op) r) (ha : PE X a ta) (hb : PE X b tb) (hm : behindInMarks op b = false) : PT X (.Compare a [op] [b] pos) (ZlC (tOp r ta tb)) := by
  intro pins s σ H Q I h
  refine wpAny_isTrue_Compare1 (thn (ha pins s σ H _ I h) fun v s1 ⟨x, H1, I1, r1, q1⟩ => thn (hb pins s1 σ H1 _ I1 q1) fun u s2 ⟨y, H2, I2, r2, q2⟩ =>
    thn (ho pins s2 σ H2 x y v u _ I2 r1 r2 q2) fun c s3 ⟨z, H3, I3, r3, k, e, q3⟩ => ?_) hm
  subst e
  cases r3
  exact wpAny_truthy_bool ⟨H3, I3, q3⟩
theorem Zfh : (sizeLine : Nat) < 2 ^ 63 := by rw [sizeLine_eq]; decide
theorem ZfK : OpR X (binaryOp .Add) (fun x y H Q => ∃ i j, x = .str i ∧ y = .str j ∧ i.length + j.length ≤ sizeLine ∧ Q (.str (i ++ j)) H) := by
  intro pins s σ H x y v u Q I rx ry h
  obtain ⟨i, j, rfl, rfl, hz, q⟩ := h
  obtain ⟨t, rfl⟩ := rx
  obtain ⟨t', rfl⟩ := ry
  exact add_str (fun t' tk => ⟨.str (i ++ j), H, I.tok _, ⟨_, rfl⟩, q⟩) hz
theorem Zdb {x : V} {us : List Value} (r : Z3 [x] us) : ∃ u, us = [u] ∧ Zat x u := by
  cases r with
  | cons r1 r2 => cases r2; exact ⟨_, rfl, r1⟩
theorem ZhX {x y : V} {us : List Value} (r : Z3 [x, y] us) : ∃ u w', us = [u, w'] ∧ Zat x u ∧ Zat y w' := by
  cases r with
  | cons r1 r2 =>
    cases r2 with
    | cons r3 r4 => cases r4; exact ⟨_, _, rfl, r1, r3⟩
theorem ZbG : Zb9 X (.builtin "abs") (fun xs H Q => ∃ i, xs = [.int i] ∧ Q (.int (if i < 0 then -i else i)) H) := by
  intro pins s σ H xs us Q I r h
  obtain ⟨i, rfl, q⟩ := h
  obtain ⟨u, rfl, t, rfl⟩ := Zdb r
  exact call_abs_int fun u tk => ⟨.int (if i < 0 then -i else i), H, I.tok _, ⟨_, rfl⟩, q⟩
theorem Zd2 (hc : X.calm = true) : Zb9 X (.builtin "max") (fun xs H Q => ∃ i j, xs = [.int i, .int j] ∧ Q (.int (if j > i then j else i)) H) := by
  intro pins s σ H xs us Q I r h
  obtain ⟨i, j, rfl, q⟩ := h
  obtain ⟨u, w', rfl, ⟨t, rfl⟩, ⟨t', rfl⟩⟩ := ZhX r
  refine max_two_ints (I.ok.hd hc) fun h' tk k => ⟨_, H, I.kept k, ?_, q⟩
  by_cases hj : j > i
  · rw [if_pos hj, if_pos hj]; exact ⟨_, rfl⟩
  · rw [if_neg hj, if_neg hj]; exact ⟨_, rfl⟩
theorem Zgn (hc : X.calm = true) : Zb9 X (.builtin "min") (fun xs H Q => ∃ i j, xs = [.int i, .int j] ∧ Q (.int (if j < i then j else i)) H) := by
  intro pins s σ H xs us Q I r h
  obtain ⟨i, j, rfl, q⟩ := h
  obtain ⟨u, w', rfl, ⟨t, rfl⟩, ⟨t', rfl⟩⟩ := ZhX r
  refine min_two_ints (I.ok.hd hc) fun h' tk k => ⟨_, H, I.kept k, ?_, q⟩
  by_cases hj : j < i
  · rw [if_pos hj, if_pos hj]; exact ⟨_, rfl⟩
  · rw [if_neg hj, if_neg hj]; exact ⟨_, rfl⟩
theorem Zca : Zb9 X (.type "int") (fun xs H Q => (∃ i, xs = [.int i] ∧ Q (.int i) H) ∨ ∃ k, xs = [.bl k] ∧ Q (.int (if k then 1 else 0)) H) := by
  intro pins s σ H xs us Q I r h
  rcases h with ⟨i, rfl, q⟩ | ⟨k, rfl, q⟩
  · obtain ⟨u, rfl, t, rfl⟩ := Zdb r
    exact call_int_int ⟨.int i, H, I, ⟨_, rfl⟩, q⟩
  · obtain ⟨u, rfl, r1⟩ := Zdb r
    cases r1
    exact call_int_bool ⟨.int (if k then 1 else 0), H, I.tok _, ⟨_, rfl⟩, q⟩
end
end L2
namespace L2
open PySem PySem.Spec PyProof.Rows
section
variable {prog : Program} {w : World} {A : Around} {E : Value → Shared → Prop} {s : Shared} {K : PySem.W.Frag} {x dx C f : Addr} {mA : Str → Option Value} {name : Str} {v : Value}
end
section
variable {P : Program} {w : World} {H H' : Hp} {h h' : Heap} {a C dx : Addr} {fs fs' : List (Str × V)}
end
section
variable {X : Cx} {pins : List (Addr × Obj)} {σ : St} {H : Hp} {s : Shared} {a C dx : Addr} {fs : List (Str × V)} {f : Str} {v : V} {A : Around} {E : Value → Shared → Prop}
end
section
variable {X : Cx} {o e value : Expr} {f : Str} {pos pos' tpos : Pos} {ta tv : TE}
end
section
variable {X : Cx} {pins : List (Addr × Obj)} {σ : St} {H : Hp} {s : Shared} {A : Around} {E : Value → Shared → Prop} {Q : Value → Shared → Prop} {c : Value} {b : Bool}
end
end L2
namespace L2
open PySem PySem.Spec PyProof.Rows
structure Room (k : Nat) (A : Around) : Prop where
  hd : 100 ≤ k → A.handled = none
  dp : A.depth + 3 * k + 5 < recursionLimit
  un : A.units + 16 * k + 200 < cLine
theorem Room.mono {j k : Nat} {A : Around} (r : Room k A) (h : j ≤ k) : Room j A := ⟨fun z => r.hd (Nat.le_trans z h), by have := r.dp; omega, by have := r.un; omega⟩
theorem Room.deeper {k : Nat} {A : Around} (r : Room (k + 1) A) (env : Env) : Room k (A.deeper env) :=
  ⟨fun z => r.hd (Nat.le_succ_of_le z), by have := r.dp; show A.depth + 1 + 3 * k + 5 < _; omega, by have := r.un; show A.units + 3 + 16 * k + 200 < _; omega⟩
theorem Room.depth {k : Nat} {A : Around} (r : Room k A) : A.depth < recursionLimit := by have := r.dp; omega
theorem Room.units {k : Nat} {A : Around} (r : Room k A) : A.units + 64 < cLine := by have := r.un; omega
noncomputable def tNil : TA := fun _ H Q => Q [] H
noncomputable def Zoo (ta : TE) (tr : TA) : TA := fun σ H Q => ta σ H fun x H1 => tr σ H1 fun xs H2 => Q (x :: xs) H2
section
variable {X : Cx} {e : Expr} {es : List Expr} {te : TE} {t : TA} {pos : Pos}
theorem Zi2 : PA X [] tNil := fun _ _ _ _ H Q I h => Calls.spliced_nil ⟨[], H, I, .nil, h⟩
theorem ZeG (ha : PE X e te) (hr : PA X es t) (hs : starEach (e :: es) X.env = (false, eval e X.env) :: starEach es X.env := by rfl) : PA X (e :: es) (Zoo te t) := by
  intro pos pins s σ H Q I h
  rw [hs]
  show wpAny _ _ (spliced ((false, eval e X.env) :: backTo pos (starEach es X.env))) _ _ s
  refine Calls.spliced_cons (thn (ha pins s σ H _ I h) fun u s1 ⟨x, H1, I1, r1, q1⟩ => ?_)
  exact thn (hr pos pins s1 σ H1 _ I1 q1) fun us s2 ⟨xs, H2, I2, r2, q2⟩ => ⟨x :: xs, H2, I2, .cons r1 r2, q2⟩
noncomputable def Zrl (t : TA) : TE := fun σ H Q => t σ H fun xs H1 => xs.length ≤ sizeLine ∧ ∀ p, H1 p = none → Q (.ref p) (upd H1 p (.tup xs))
noncomputable def Zrm (t : TA) : TE := fun σ H Q => t σ H fun xs H1 => xs.length ≤ sizeLine ∧ ∀ p, H1 p = none → Q (.ref p) (upd H1 p (.lst xs))
theorem ZlD {x1} (h : PA X es t) : PE X (.Tuple es x1 pos) (Zrl t) := by
  intro pins s σ H Q I hq
  refine wpAny_Tuple_spliced (thn (h pos pins s σ H _ I hq) fun us s1 ⟨xs, H1, I1, r, z, q⟩ => ⟨by rw [← r.length]; exact z, ?_⟩)
  have hf : H1 s1.heap.objs.size = none := I1.hok.fresh (Nat.le_refl _)
  refine ⟨.ref s1.heap.objs.size, upd H1 s1.heap.objs.size (.tup xs), I1.laid (t' := s1.toks) (fun b u e => Heap.get?_push_of_some _ e) (Nat.le_refl _) ?_, rfl, q _ hf⟩
  exact ⟨z, us, r, ⟨_, Heap.get?_push_size _ rfl, rfl, _, rfl⟩⟩
theorem ZlE (h : PA X es t) : PE X (.List es pos) (Zrm t) := by
  intro pins s σ H Q I hq
  refine wpAny_List_spliced (thn (h pos pins s σ H _ I hq) fun us s1 ⟨xs, H1, I1, r, z, q⟩ => ⟨by rw [← r.length]; exact z, ?_⟩)
  have hf : H1 s1.heap.objs.size = none := I1.hok.fresh (Nat.le_refl _)
  refine ⟨.ref s1.heap.objs.size, upd H1 s1.heap.objs.size (.lst xs), I1.laid (t' := s1.toks) (fun b u e => Heap.get?_push_of_some _ e) (Nat.le_refl _) ?_, rfl, q _ hf⟩
  exact ⟨z, us, 0, r, Heap.get?_push_size _ rfl⟩
end
noncomputable abbrev Sp := List V → Hp → VK → XK → Prop
noncomputable abbrev CXT := List Env → Hp → Shared → XK → Value → Shared → Prop
structure Env0 (P : Program) (w : World) (K : PySem.W.Frag) (mg : Str → Option Value) (base : Heap) (A : Around) (outer : List Env) (s : Shared) (H : Hp) : Prop where
  frames : A.frames = some outer
  mod : Mod K mg base
  bs : ∀ b o, base.get? b = some o → s.heap.get? b = some o ∧ H b = none
  bsz : base.objs.size ≤ s.heap.objs.size
  funs : s.heap.FunFrames base outer
  frf : ∀ b ∈ frs outer, H b = none
  hok : HOk P w H s.heap
  bare : AllBare s.gens
  qd : Qd A H
noncomputable def CE (outer : List Env) (P : Program) (w : World) (H : Hp) (s : Shared) (Q : VK) (u : Value) (s' : Shared) : Prop :=
  ∃ v H', s'.os = s.os ∧ AllBare s'.gens ∧ Un (frs outer) [] H H' s.heap s'.heap ∧ HOk P w H' s'.heap ∧ Zat v u ∧ Q v H'
noncomputable def CR (CX : CXT) (outer : List Env) (P : Program) (w : World) (H : Hp) (s : Shared) (Q : VK) (E : XK) (r : Result) (s' : Shared) : Prop :=
  match r with
  | .ok (.ret u) => CE outer P w H s Q u s'
  | .ok _ => False
  | .error e => CX outer H s E e s'
structure FnOk (P : Program) (w : World) (K : PySem.W.Frag) (mg : Str → Option Value) (base : Heap) (CX : CXT) (k : Nat) (f : Addr) (fd : FuncData) (ps : List Str) (sp : Sp) : Prop where
  len : ∀ vs H Q E, sp vs H Q E → vs.length = ps.length
  run : ∀ (A : Around) (outer : List Env) (s : Shared) (H : Hp) (args : Args) (us : List Value) (vs : List V) (Q : VK) (E : XK), Room k A → Env0 P w K mg base A outer s H → BindsTo s fd args (ps.zip us) → Z3 vs us → sp vs H Q E →
    codeAny (model P w) A (.call (.ref f) args) (CR CX outer P w H s Q E) s
section
variable {X : Cx} {pins : List (Addr × Obj)} {σ : St} {H : Hp} {s s' : Shared}
theorem Inv.env0 (I : Inv X pins σ H s) : Env0 X.prog X.w X.K X.mg X.base X.A X.stack s H :=
  ⟨I.ok.frames, I.ok.mod, I.bs, Nat.le_trans I.ok.bsz I.sz, I.stack, I.stkFree, I.hok, I.bare, I.qd⟩
theorem Inv.after {Q : VK} {u : Value} (I : Inv X pins σ H s) (h : CE X.stack X.prog X.w H s Q u s') : EP X pins σ Q u s' := by
  obtain ⟨v, H', os, bare, un, hok, r, q⟩ := h
  obtain ⟨hh, g, d, t, os'⟩ := s'
  obtain rfl : os' = s.os := os
  exact ⟨v, H', I.call (h' := hh) (g' := g) (d' := d) (t' := t) (ch := []) un hok bare (fun b z => absurd z (by simp)), r, q⟩
end
noncomputable def Zop (sp : Sp) (dvs : List V) (E : XK) (t : TA) : TE := fun σ H Q => t σ H fun vs H1 => sp (vs ++ dvs) H1 Q E
noncomputable def ZeH (K : PySem.W.Frag) (fd : FuncData) (ps : List Str) (ds : List Value) : Prop :=
  ∀ (s : Shared) (us : List Value), K.In s.heap → (us ++ ds).length = ps.length → BindsTo s fd ⟨us, []⟩ (ps.zip (us ++ ds))
theorem ZeH.all {K : PySem.W.Frag} {fd : FuncData} {ps : List Str} (h : ∀ us : List Value, us.length = ps.length → bindArgs fd ⟨us, []⟩ = pure (ps.zip us)) : ZeH K fd ps [] := fun s us _ hl => by
  rw [List.append_nil] at hl ⊢
  exact .of_eq (h us hl)
noncomputable def Zgo (CX : CXT) (X : Cx) (E : XK) : Prop := ∀ (pins : List (Addr × Obj)) (σ : St) (H : Hp) (s : Shared) (e : Value) (s' : Shared), Inv X pins σ H s → CX X.stack H s E e s' → X.xe e s'
section
variable {X : Cx} {CX : CXT} {k : Nat} {f C : Addr} {fd : FuncData} {ps : List Str} {sp : Sp} {dvs : List V} {ds : List Value} {E : XK} {x m : Str} {p pos apos : Pos} {e o : Expr} {es : List Expr} {ta : TE} {t : TA}
theorem ZlF {pins : List (Addr × Obj)} {σ : St} {H : Hp} {s : Shared} {Q : VK} {us : List Value} {vs : List V} (F : FnOk X.prog X.w X.K X.mg X.base CX k f fd ps sp) (hr : Room k X.A) (hb : ZeH X.K fd ps ds) (hd : Z3 dvs ds) (hx : Zgo CX X E)
    (I : Inv X pins σ H s) (r : Z3 vs us) (h : sp (vs ++ dvs) H Q E) : wpAny (model X.prog X.w) X.A (call (.ref f) us) (EP X pins σ Q) X.xe s := by
  have r2 : Z3 (vs ++ dvs) (us ++ ds) := r.append hd
  have hl : (us ++ ds).length = ps.length := by rw [← r2.length]; exact F.len _ _ _ _ h
  refine wpAny_call (codeAny_mono (F.run X.A X.stack s H ⟨us, []⟩ (us ++ ds) (vs ++ dvs) Q E hr I.env0 (hb s us I.kIn hl) r2 h) fun r s' hq => ?_)
  cases r with
  | error e => exact hx pins σ H s e s' I hq
  | ok fl =>
    cases fl with
    | ret u => exact I.after hq
    | next => exact False.elim hq
    | brk => exact False.elim hq
    | cont => exact False.elim hq
theorem ZjT (F : FnOk X.prog X.w X.K X.mg X.base CX k f fd ps sp) (hr : Room k X.A) (hg : Gl X x) (hm : X.mg x = some (.ref f)) (hk : PySem.W.keepIn X.K (.ref f) = true) (hb : ZeH X.K fd ps ds) (hd : Z3 dvs ds) (hx : Zgo CX X E)
    (ha : PA X (e :: es) t) (hdb : (x == ("__debug__" : Str)) = false := by decide) (he : starEach (e :: es) X.env = (false, eval e X.env) :: starEach es X.env := by rfl) (hpl : (backTo pos (starEach es X.env)).any (·.1) = false := by rfl) :
    PE X (.Call (.Name x p) (e :: es) [] pos) (Zop sp dvs E t) := by
  intro pins s σ H Q I h
  refine wpAny_Call_Name_kw (Zgi I hg hm ?_ hdb)
  refine PySem.W.callWith_K (h₀ := X.base) I.ok.mod.kin hk (thn (ha pos pins s σ H _ I h) fun us s1 ⟨vs, H1, I1, r, q⟩ => ⟨I1.kIn, ?_⟩) he hpl
  exact ZlF F hr hb hd hx I1 r q
end
section
variable {X : Cx} {CX : CXT} {k : Nat} {f C : Addr} {fd : FuncData} {ps ks : List Str} {sp : Sp} {E : XK} {x m : Str} {p pos apos kpos : Pos} {e o : Expr} {es : List Expr} {kws : List Keyword} {te ta : TE} {t tk : TA} {nm : Option Str}
variable {g : List Value → List Value → List Value} {gV : List V → List V → List V}
end
structure FnScope (N P : List Str) (sc : Scope) : Prop where
  kind : sc.kind = .function
  co : sc.isCoroutine = false
  gen : sc.isGenerator = false
  nd : N.Nodup
  pre : N.take P.length = P
  par : ∀ x ∈ P, sc.names.lookup x = some .local ∨ sc.names.lookup x = some .cell
  nofree : ∀ y ∈ sc.names, y.2 ≠ .free
theorem Zd3 {kindOf : Str → Option NameKind} {x : Str} : ∀ {binds : List (Str × Value)} {m : Str → Option Value}, (∀ v, (x, v) ∉ binds) → bindL kindOf binds m x = m x
  | [], _, _ => rfl
  | (n, v) :: r, m, h => by
    unfold bindL
    rw [Zd3 fun w hw => h w (List.mem_cons_of_mem _ hw)]
    split
    · have : x ≠ n := by rintro rfl; exact h v List.mem_cons_self
      simp [this]
    · rfl
theorem Zd4 {kindOf : Str → Option NameKind} {x : Str} : ∀ {binds : List (Str × Value)} {m : Str → Option Value}, (∀ v, (x, v) ∉ binds) → bindC kindOf binds m x = m x
  | [], _, _ => rfl
  | (n, v) :: r, m, h => by
    unfold bindC
    rw [Zd4 fun w hw => h w (List.mem_cons_of_mem _ hw)]
    split
    · rfl
    · have : x ≠ n := by rintro rfl; exact h v List.mem_cons_self
      simp [this]
theorem Zd5 {kindOf : Str → Option NameKind} {x : Str} {v : Value} : ∀ {P : List Str} {vs : List Value} {i : Nat} {m : Str → Option Value}, P.Nodup → P[i]? = some x → vs[i]? = some v → kindOf x = some .local →
    bindL kindOf (P.zip vs) m x = some v
  | [], _, _, _, _, h, _, _ => by simp at h
  | _ :: _, [], _, _, _, _, h, _ => by simp at h
  | p :: P, w :: vs, 0, m, nd, h1, h2, hk => by
    simp at h1 h2; subst h1; subst h2
    show bindL kindOf ((p, w) :: P.zip vs) m p = _
    unfold bindL
    rw [Zd3 fun v hv => (List.nodup_cons.mp nd).1 (List.of_mem_zip hv).1, if_pos hk]
    simp
  | p :: P, w :: vs, i + 1, m, nd, h1, h2, hk => by
    show bindL kindOf ((p, w) :: P.zip vs) m x = _
    unfold bindL
    exact Zd5 (i := i) (List.nodup_cons.mp nd).2 (by simpa using h1) (by simpa using h2) hk
theorem Zd6 {kindOf : Str → Option NameKind} {x : Str} {v : Value} : ∀ {P : List Str} {vs : List Value} {i : Nat} {m : Str → Option Value}, P.Nodup → P[i]? = some x → vs[i]? = some v → kindOf x ≠ some .local →
    bindC kindOf (P.zip vs) m x = some v
  | [], _, _, _, _, h, _, _ => by simp at h
  | _ :: _, [], _, _, _, _, h, _ => by simp at h
  | p :: P, w :: vs, 0, m, nd, h1, h2, hk => by
    simp at h1 h2; subst h1; subst h2
    show bindC kindOf ((p, w) :: P.zip vs) m p = _
    unfold bindC
    rw [Zd4 fun v hv => (List.nodup_cons.mp nd).1 (List.of_mem_zip hv).1, if_neg hk]
    simp
  | p :: P, w :: vs, i + 1, m, nd, h1, h2, hk => by
    show bindC kindOf ((p, w) :: P.zip vs) m x = _
    unfold bindC
    exact Zd6 (i := i) (List.nodup_cons.mp nd).2 (by simpa using h1) (by simpa using h2) hk
noncomputable def start (N : List Str) (vs : List V) : St := vs.map some ++ List.replicate (N.length - vs.length) none
noncomputable def ZeC (CX : CXT) (P : Program) (w : World) (K : PySem.W.Frag) (mg : Str → Option Value) (base : Heap) (N : List Str) (qual : Str) (scope : Scope) (f : Addr) (cd : Value) (A : Around) (outer : List Env) (s : Shared) (H : Hp) (E : XK) : Cx where
  prog := P
  w := w
  K := K
  mg := mg
  base := base
  A := A.deeper (envOfC qual scope s.heap.objs.size f cd)
  N := N
  s₀ := s
  H₀ := H
  env := envOfC qual scope s.heap.objs.size f cd
  outer := outer
  stack := envOfC qual scope s.heap.objs.size f cd :: outer
  ex := []
  calm := A.handled.isNone
  fn := fun _ => true
  pn := []
  xe := fun e s' => wpAny (model P w) (A.deeper (envOfC qual scope s.heap.objs.size f cd)) (leaving (envOfC qual scope s.heap.objs.size f cd) e) (fun _ s'' => CX outer H s E e s'') (fun e' s'' => CX outer H s E e' s'') s'
theorem Zfi {sc : Scope} {n : Nat} {x : Str} (h : sc.names.lookup x = some .cell) : ∃ c, (cellsFrom n sc.names []).lookup x = some c := by
  have q := PySem.W.cellsFrom_some sc.names n [] (.inl h)
  exact Option.isSome_iff_exists.mp q
theorem Zgp {CX : CXT} {P : Program} {w : World} {K : PySem.W.Frag} {mg : Str → Option Value} {base : Heap} {N ps : List Str} {qual : Str} {scope : Scope} {f : Addr} {cd : Value} {A : Around} {outer : List Env} {s s1 : Shared} {H : Hp} {E : XK} {us : List Value} {vs : List V}
    (S : FnScope N ps scope) (e0 : Env0 P w K mg base A outer s H) (hl : vs.length = ps.length) (r : Z3 vs us)
    (x : InCallC s s.heap.objs.size (bindL (envOfC qual scope s.heap.objs.size f cd).kindOf (ps.zip us) fun _ => none) (cellsFrom (s.heap.objs.size + 1) scope.names []) (bindC (envOfC qual scope s.heap.objs.size f cd).kindOf (ps.zip us) fun _ => none) s1) :
    Inv (ZeC CX P w K mg base N qual scope f cd A outer s H E) [] (start N vs) H s1 := by
  have hpl : ps.length ≤ N.length := by have := congrArg List.length S.pre; rw [List.length_take] at this; omega
  obtain ⟨h1, tk, rfl, hk⟩ := x.done
  have noA : ∀ b : Addr, b ∉ (ZeC CX P w K mg base N qual scope f cd A outer s H E).ex := fun b z => absurd (show b ∈ ([] : List Addr) from z) (by simp)
  refine ⟨⟨e0.mod, S.kind, rfl, rfl, Nat.le_refl _, fun y z c h1 h2 => ?_, fun y hy => ?_, fun y c _ h => ?_, fun z => Option.isNone_iff_eq_none.mp z, Around.frames_deeper e0.frames, .inr ⟨rfl, rfl⟩, fun b z => absurd z (noA b), e0.bs, e0.bsz, fun b _ _ => noA b, fun b z => absurd z (noA b), e0.funs, e0.frf⟩,
    rfl, e0.bare, Un.kept hk, ⟨_, x.toInCall.ns, fun i y v h1 h2 h3 => ?_⟩, fun y c h => ⟨_, x.cell y c h⟩, e0.hok.fresh (Nat.le_refl _), fun y c h => ?_, fun p hp => absurd (show p ∈ ([] : List (Addr × Obj)) from hp) (by simp), e0.hok.kept hk, ?_, e0.qd⟩
  · exact name_of_addr x.apart (PySem.mem_of_lookup h1) (PySem.mem_of_lookup h2)
  · have hy : scope.names.lookup y = some .cell ∨ scope.names.lookup y = some .free := hy
    rcases hy with hy | hy
    · exact Zfi hy
    · exact absurd rfl (S.nofree _ (PySem.mem_of_lookup hy))
  · exact Nat.le_of_lt (x.above y c (PySem.mem_of_lookup h))
  · have hi : i < vs.length := by
      unfold start at h2
      by_cases hi : i < vs.length
      · exact hi
      · rw [List.getElem?_append_right (by simpa using hi)] at h2
        rw [List.getElem?_replicate] at h2
        split at h2 <;> cases h2
    have ha : vs[i]? = some v := by
      unfold start at h2
      rw [List.getElem?_append_left (by simpa using hi), List.getElem?_map] at h2
      cases e : vs[i]? with
      | none => rw [e] at h2; cases h2
      | some a => rw [e] at h2; cases h2; rfl
    obtain ⟨u, hu, rv⟩ := r.get ha
    have hp : ps[i]? = some y := by
      rw [← S.pre, List.getElem?_take_of_lt (by omega)]; exact h1
    have ndP : ps.Nodup := by rw [← S.pre]; exact S.nd.sublist (List.take_sublist _ _)
    refine ⟨u, rv, ?_⟩
    rcases S.par y (List.mem_of_getElem? hp) with k | k
    · exact .inl ⟨k, Zd5 ndP hp hu k⟩
    · obtain ⟨c, e⟩ := Zfi (n := s.heap.objs.size + 1) k
      refine .inr ⟨.inl k, c, e, ?_⟩
      have q := x.cell y c e
      rw [Zd6 ndP hp hu (by show scope.names.lookup y ≠ _; rw [k]; decide)] at q
      exact q
  · exact e0.hok.fresh (Nat.le_of_lt (x.above y c (PySem.mem_of_lookup h)))
  · unfold start
    show _ = N.length
    rw [List.length_append, List.length_map, List.length_replicate]
    omega
theorem Zoq {CX : CXT} {P : Program} {w : World} {K : PySem.W.Frag} {mg : Str → Option Value} {base : Heap} {k : Nat} {f : Addr} {name qual : Str} {params : Arguments} {body : List Stmt} {scope : Scope} {dV kV doc pm cdv ct oc : Value} {an od : Option Addr}
    {osl : Array (Option Value)} {N ps : List Str} {sp : Sp} (lk : K.lookup f = some ⟨oc, od, .func (PySem.W.fnOf name qual params body scope dV kV doc pm an cdv ct), osl⟩) (hcd : PySem.W.codeIn K cdv qual = true) (S : FnScope N ps scope)
    (len : ∀ vs H Q E, sp vs H Q E → vs.length = ps.length)
    (hbody : ∀ (A : Around) (outer : List Env) (s : Shared) (H : Hp) (vs : List V) (Q : VK) (E : XK), Room k (A.deeper (envOfC qual scope s.heap.objs.size f cdv)) → sp vs H Q E →
      ∃ t, PSs (ZeC CX P w K mg base N qual scope f cdv A outer s H E) body t ∧ t { nx := fun _ H' => Q .non H', rt := Q } (start N vs) H) :
    FnOk P w K mg base CX (k + 1) f (PySem.W.fnOf name qual params body scope dV kV doc pm an cdv ct) ps sp := by
  refine ⟨len, fun A outer s H args us vs Q E hr e0 hb r hsp => ?_⟩
  have hl := len _ _ _ _ hsp
  have KX : K.In s.heap := e0.mod.kin.keeps fun b o e => (e0.bs b o e).1
  have lim : s.heap.NoLimit := e0.mod.nolimit.keeps fun b o e => (e0.bs b o e).1
  have hkind : ∀ y ∈ ps.zip us, scope.names.lookup y.1 = some .local ∨ (scope.names.lookup y.1 = some .cell ∧ ((cellsFrom (s.heap.objs.size + 1) scope.names []).lookup y.1).isSome = true) := fun ⟨n, v⟩ hy => by
    rcases S.par n (List.of_mem_zip hy).1 with q | q
    · exact .inl q
    · exact .inr ⟨q, PySem.W.cellsFrom_some _ _ _ (.inl q)⟩
  refine codeAny_call_function hr.depth (KX _ _ lk) rfl S.co S.gen rfl (PySem.W.codeRec_of KX hcd) (hb _ _ _ _ ?_)
  refine wpAny_newFunctionEnv_cells S.kind hkind fun env he s1 x => ?_
  subst he
  refine ⟨lim.keeps x.toInCall.keep, codeAny_func ?_⟩
  obtain ⟨t, ht, hq⟩ := hbody A outer s H vs Q E (hr.deeper _) hsp
  have I : Inv (ZeC CX P w K mg base N qual scope f cdv A outer s H E) [] (start N vs) H s1 := Zgp S e0 hl r x
  refine wpAny_mono (ht [] s1 (start N vs) H _ I hq) (fun fl s' hs => ?_) fun e s' hs => hs
  have fin : ∀ {σ' : St} {H' : Hp} {v : V} {u : Value}, Inv (ZeC CX P w K mg base N qual scope f cdv A outer s H E) [] σ' H' s' → Zat v u → Q v H' → CE outer P w H s Q u s' :=
    fun {σ' H' v u} J rv q => ⟨v, H', J.os, J.bare, J.base, J.hok, rv, q⟩
  cases fl with
  | ret u =>
    obtain ⟨v, σ', H', J, rv, q⟩ := hs
    exact fin J rv q
  | next =>
    obtain ⟨σ', H', J, q⟩ := hs
    exact fin (v := V.non) (u := Value.none) J rfl q
  | brk =>
    obtain ⟨_, _, _, q⟩ := hs
    exact False.elim q
  | cont =>
    obtain ⟨_, _, _, q⟩ := hs
    exact False.elim q
end L2
namespace L2
open PySem PySem.Spec PyProof.Rows
section
variable {X : Cx} {x : Str} {p pos : Pos} {e : Expr} {es : List Expr} {t : TA} {id T : String} {r : List V → Hp → VK → Prop}
noncomputable def tCB (r : List V → Hp → VK → Prop) (t : TA) : TE := fun σ H Q => t σ H fun vs H1 => r vs H1 Q
theorem Zfj (hc : Zb9 X (.builtin id) r) (hg : Gl X x) (hm : X.mg x = none) (hv : bootBuiltins x = some (.builtin id)) (ha : PA X (e :: es) t) (hn : x ≠ "__name__" := by decide) (hdb : (x == ("__debug__" : Str)) = false := by decide)
    (he : starEach (e :: es) X.env = (false, eval e X.env) :: starEach es X.env := by rfl) (hpl : (backTo pos (starEach es X.env)).any (·.1) = false := by rfl) : PE X (.Call (.Name x p) (e :: es) [] pos) (tCB r t) := by
  intro pins s σ H Q I h
  refine wpAny_Call_Name_kw (Zcy I hg hm hv ?_ hn hdb)
  exact PyProof.Rows.callWith_builtin1 (thn (ha pos pins s σ H _ I h) fun us s1 ⟨vs, H1, I1, r1, q1⟩ => hc pins s1 σ H1 vs us Q I1 r1 q1) he hpl
theorem Zgq (hc : Zb9 X (.type T) r) (hg : Gl X x) (hm : X.mg x = none) (hv : bootBuiltins x = some (.type T)) (ha : PA X (e :: es) t) (hn : x ≠ "__name__" := by decide) (hdb : (x == ("__debug__" : Str)) = false := by decide)
    (he : starEach (e :: es) X.env = (false, eval e X.env) :: starEach es X.env := by rfl) (hpl : (backTo pos (starEach es X.env)).any (·.1) = false := by rfl) : PE X (.Call (.Name x p) (e :: es) [] pos) (tCB r t) := by
  intro pins s σ H Q I h
  refine wpAny_Call_Name_kw (Zcy I hg hm hv ?_ hn hdb)
  exact PyProof.Rows.callWith_type1 (thn (ha pos pins s σ H _ I h) fun us s1 ⟨vs, H1, I1, r1, q1⟩ => hc pins s1 σ H1 vs us Q I1 r1 q1) he hpl
end
end L2
namespace HT
open PySem PyProof.Rows
section
open PySem.SeqAt
open PySem.AutoSeq1 (wpAny_loadPart')
open PySem.MeetsSeq PySem.MeetsSeq2 PySem.MeetsSeq3
end
section
variable {prog : Program} {w : World} {A : Around} {E : Value → Shared → Prop} {s : Shared}
theorem ZjU {t b : Addr} {vs ws : List Value} {Q : Value → Shared → Prop} (ht : IsTup s.heap t vs.toArray) (hb : IsTup s.heap b ws.toArray) (hv : vs ≠ [])
    (h1 : ws = [] → Q (.ref t) s) (h2 : ws ≠ [] → Q (.ref s.heap.objs.size) { s with heap := s.heap.push { cls := .type "tuple", data := .seq (vs ++ ws).toArray } })
    (hsz : vs.length + ws.length ≤ sizeLine) : wpAny (model prog w) A (binaryOp .Add (.ref t) (.ref b)) Q E s := by
  obtain ⟨⟨cls, dd, data, sl⟩, ho, hc, n, hd⟩ := id ht
  obtain ⟨⟨cls2, dd2, data2, sl2⟩, ho2, hc2, n2, hd2⟩ := id hb
  simp only at hc hd hc2 hd2
  subst hc hd hc2 hd2
  have e : vs.toArray ++ ws.toArray = (vs ++ ws).toArray := by simp
  by_cases hw : ws = []
  · exact concat_meets ⟨_, ho, rfl⟩ ⟨_, ho2, rfl⟩ noFill_tuple_add seq_tuple_add PySem.F.slot_tuple_add PySem.F.entry_tuple_add (PySem.F.args_tuple_add_2 _ _)
      (tuple_addW1 t b vs.toArray ws.toArray n n2 dd dd2 sl sl2 (by simpa using hv) (by simp [hw])) ⟨ho, ho2, h1 hw⟩
  · refine concat_meets ⟨_, ho, rfl⟩ ⟨_, ho2, rfl⟩ noFill_tuple_add seq_tuple_add PySem.F.slot_tuple_add PySem.F.entry_tuple_add (PySem.F.args_tuple_add_2 _ _)
      (tuple_addW2 t b vs.toArray ws.toArray n n2 dd dd2 sl sl2 (by simpa using hv) (by simpa using hw) (by rw [List.size_toArray, List.size_toArray]; exact hsz)) ⟨ho, ho2, ?_⟩
    rw [e]
    exact h2 hw
noncomputable def sIx (n d : Nat) : Option Int → Nat
  | none => d
  | some v => if v < 0 then (v + (n : Int)).toNat else min v.toNat n
theorem ZlG (n d : Nat) (hd : d ≤ n) (o : Option Int) : sIx n d o ≤ n := by
  cases o with
  | none => exact hd
  | some v =>
    show (if v < 0 then (v + (n : Int)).toNat else min v.toNat n) ≤ n
    by_cases hv : v < 0
    · rw [if_pos hv]; omega
    · rw [if_neg hv]; exact Nat.min_le_right _ _
theorem Zgr (v : Int) (n d : Nat) : (if v < 0 then max (v + (n : Int)) 0 else min v (n : Int)) = ((sIx n d (some v) : Nat) : Int) := by
  show (if v < 0 then max (v + (n : Int)) 0 else min v (n : Int)) = (((if v < 0 then (v + (n : Int)).toNat else min v.toNat n) : Nat) : Int)
  by_cases hv : v < 0
  · simp only [if_pos hv]; omega
  · simp only [if_neg hv]; omega
theorem ZfL (lo hi : Option Int) (n : Nat) : Builtin.Slice.sliceAdjust lo hi 1 (n : Int) = (((sIx n 0 lo : Nat) : Int), ((sIx n n hi : Nat) : Int)) := by
  have h1 : ¬ ((1 : Int) < 0) := by omega
  unfold Builtin.Slice.sliceAdjust
  simp only [h1, if_false]
  refine Prod.ext ?_ ?_
  · cases lo with
    | none => rfl
    | some v => exact Zgr v n 0
  · cases hi with
    | none => rfl
    | some v => exact Zgr v n n
theorem ZfM (i j : Nat) : Builtin.Slice.slicePlaces (i : Int) (j : Int) 1 = j - i := by
  unfold Builtin.Slice.slicePlaces
  have h1 : (1 : Int) > 0 := by omega
  simp only [h1, if_true, Int.ediv_one]
  split <;> omega
theorem Zdh {v : Value} {o : Option Int} {Q : Option Int → Shared → Prop} (p : IsPart v o) (h : Q o s) : wpAny (model prog w) A (Builtin.Slice.slicePartIndex v) Q E s := by
  cases p with
  | none => exact slicePart_none h
  | int i t => exact slicePart_int h
theorem ZcG {sl : Addr} {vl vu : Value} {lo hi : Option Int} {n : Nat} {Q : Int × Int × Nat → Shared → Prop} (hs : s.heap.IsSliceOf sl vl vu .none) (pl : IsPart vl lo) (pu : IsPart vu hi)
    (h : Q (((sIx n 0 lo : Nat) : Int), 1, sIx n n hi - sIx n 0 lo) s) : wpAny (model prog w) A (Builtin.Slice.sliceApplied (.ref sl) (pure (n : Int))) Q E s := by
  obtain ⟨os, hos, hcs, hds⟩ := id hs
  unfold Builtin.Slice.sliceApplied Builtin.Slice.sliceFields
  refine wpAny_bind (wpAny_bind (wpAny_field hos hds (x := vl) rfl (wpAny_bind (wpAny_field hos hds (x := vu) rfl (wpAny_bind (wpAny_field hos hds (x := .none) rfl (wpAny_pure ?_)))))))
  refine wpAny_bind (slicePart_none ?_)
  show wpAny _ _ (if ((1 : Int) == 0) = true then _ else _) _ _ s
  rw [if_neg (by decide)]
  refine wpAny_bind (Zdh pl (wpAny_bind (Zdh pu (wpAny_bind (wpAny_pure ?_)))))
  show wpAny _ _ (match Builtin.Slice.sliceAdjust lo hi 1 (n : Int) with | (lo, hi) => pure (lo, (1 : Int), Builtin.Slice.slicePlaces lo hi 1)) _ _ s
  rw [ZfL lo hi n]
  show wpAny _ _ (pure (((sIx n 0 lo : Nat) : Int), (1 : Int), Builtin.Slice.slicePlaces ((sIx n 0 lo : Nat) : Int) ((sIx n n hi : Nat) : Int) 1)) _ _ s
  rw [ZfM]
  exact wpAny_pure h
theorem ZhY (xs : Array Value) (i k : Nat) : ((List.range k).filterMap fun (m : Nat) => xs[((i : Int) + (m : Int) * 1).toNat]?).toArray = ((xs.toList.drop i).take k).toArray := by
  have e : (fun (m : Nat) => xs[((i : Int) + (m : Int) * 1).toNat]?) = fun m => xs[i + m]? := by
    funext m
    have : ((i : Int) + (m : Int) * 1).toNat = i + m := by omega
    rw [this]
  rw [e]
  have := pick_run xs i k
  rw [List.filterMap_map] at this
  have e2 : ((fun x => xs[x]?) ∘ fun x => i + x) = fun m => xs[i + m]? := rfl
  rw [e2] at this
  rw [this]
theorem Zcn {t sl : Addr} {items : Array Value} {vl vu : Value} {lo hi : Option Int} {Q : Value → Shared → Prop} (ht : IsTup s.heap t items) (hs : s.heap.IsSliceOf sl vl vu .none) (pl : IsPart vl lo) (pu : IsPart vu hi)
    (hw : ¬ (sIx items.size 0 lo = 0 ∧ sIx items.size items.size hi = items.size))
    (h : Q (.ref s.heap.objs.size) { s with heap := s.heap.push { cls := .type "tuple", data := .seq ((items.toList.drop (sIx items.size 0 lo)).take (sIx items.size items.size hi - sIx items.size 0 lo)).toArray } })
    (hsz : items.size ≤ sizeLine) : wpAny (model prog w) A (getItem (.ref t) (.ref sl)) Q E s := by
  have htake : sizeOk (.seq ((items.toList.drop (sIx items.size 0 lo)).take (sIx items.size items.size hi - sIx items.size 0 lo)).toArray) := by
    show ((items.toList.drop (sIx items.size 0 lo)).take (sIx items.size items.size hi - sIx items.size 0 lo)).toArray.size ≤ sizeLine
    rw [List.size_toArray, List.length_take, List.length_drop, Array.length_toList]
    omega
  have hj : sIx items.size items.size hi ≤ items.size := ZlG _ _ (Nat.le_refl _) hi
  obtain ⟨os, hos, hcs, hds⟩ := id hs
  have hTs : s.TypeIs (.ref sl) "slice" := ⟨os, hos, hcs⟩
  unfold getItem
  try with_reducible refine wpAny_holding ?_
  first | refine wpAny_bind (wpAny_pure ?_) | skip
  refine wpAny_bind (wpAny_sequenceKey ht.typeIs (by decide) ?_)
  refine wpAny_bind (wpAny_callSpecial?_slot (name := Str.ofString "__getitem__") ht.typeIs PyProof.Rows.slot_tuple_getitem
    (wpAny_call_entry PyProof.Rows.slot_tuple_getitem ht.typeIs entry_tuple_getitem ?_ (args_tuple_getitem _ _)))
  show wpAny _ _ (Builtin.Tuple.tupleItemsOf (.ref t) >>= _) _ _ s
  refine wpAny_bind (tupleItemsOf_ ht ?_)
  refine wpAny_bind (wpAny_typeOf hTs ?_)
  rw [if_pos (by decide)]
  refine wpAny_bind (ZcG hs pl pu ?_)
  have hno : ¬ ((((sIx items.size 0 lo : Nat) : Int) == 0 && (1 : Int) == 1 && (sIx items.size items.size hi - sIx items.size 0 lo) == items.size) = true) := by
    intro q
    rw [Bool.and_eq_true, Bool.and_eq_true] at q
    have q1 : ((sIx items.size 0 lo : Nat) : Int) = 0 := eq_of_beq q.1.1
    have q2 : sIx items.size items.size hi - sIx items.size 0 lo = items.size := eq_of_beq q.2
    exact hw ⟨by omega, by omega⟩
  show wpAny _ _ (if (((sIx items.size 0 lo : Nat) : Int) == 0 && (1 : Int) == 1 && (sIx items.size items.size hi - sIx items.size 0 lo) == items.size) = true then _ else _) _ _ s
  rw [if_neg hno, ZhY]
  first
    | exact wpAny_bind (m := Builtin.Tuple.tupleExact _) (wpAny_newObj_type (wpAny_pure ⟨_, rfl, wpAny_pure h⟩) htake)
    | exact wpAny_bind (m := Builtin.Tuple.tupleExact _) (wpAny_newObj_type (wpAny_bind (wpAny_pure (wpAny_pure ⟨_, rfl, wpAny_pure h⟩))) htake)
    | exact wpAny_bind (wpAny_bind (m := Builtin.Tuple.tupleExact _) (wpAny_newObj_type (wpAny_pure (wpAny_pure ⟨_, rfl, wpAny_pure h⟩)) htake))
    | exact wpAny_bind (wpAny_bind (m := Builtin.Tuple.tupleExact _) (wpAny_newObj_type (wpAny_pure ⟨_, rfl, wpAny_pure h⟩) htake))
end
end HT
namespace L2
open PySem PySem.Spec PyProof.Rows
noncomputable abbrev TO := St → Hp → (Option Int → Hp → Prop) → Prop
noncomputable def PO (X : Cx) (e : Option Expr) (t : TO) : Prop :=
  ∀ (pins : List (Addr × Obj)) (s : Shared) (σ : St) (H : Hp) (Q : Option Int → Hp → Prop), Inv X pins σ H s → t σ H Q →
    wpAny (model X.prog X.w) X.A (evalPart e X.env) (fun u s' => ∃ o H', Inv X pins σ H' s' ∧ IsPart u o ∧ Q o H') X.xe s
noncomputable def tNoPart : TO := fun _ H Q => Q none H
noncomputable def Zor (t : TE) : TO := fun σ H Q => t σ H fun x H1 => ∃ i, x = .int i ∧ Q (some i) H1
section
variable {X : Cx} {e : Expr} {te : TE} {lo hi : Option Expr} {tl th : TO} {pos p2 : Pos}
theorem ZjV : PO X none tNoPart := by
  intro pins s σ H Q I h
  rw [evalPart_none]
  exact wpAny_pure ⟨none, H, I, .none, h⟩
theorem ZjW (h : PE X e te) : PO X (some e) (Zor te) := by
  intro pins s σ H Q I hw
  rw [evalPart_some]
  refine thn (h pins s σ H _ I hw) fun u s1 ⟨x, H1, I1, r1, q1⟩ => ?_
  obtain ⟨i, rfl, q⟩ := q1
  obtain ⟨t, rfl⟩ := r1
  exact ⟨some i, H1, I1, .int i t, q⟩
noncomputable def SlR (X : Cx) (r : V → Option Int → Option Int → Hp → VK → Prop) : Prop :=
  ∀ (pins : List (Addr × Obj)) (s : Shared) (σ : St) (H : Hp) (x : V) (v vl vu : Value) (lo hi : Option Int) (sl : Addr) (Q : VK), Inv X pins σ H s → Zat x v → s.heap.IsSliceOf sl vl vu .none → IsPart vl lo → IsPart vu hi → r x lo hi H Q →
    ∃ T id, typeLookup (.type T) "__getitem__" = pure (some (.builtin id)) ∧ s.TypeIs v T ∧ wpAny (model X.prog X.w) X.A (getItem v (.ref sl)) (EP X pins σ Q) X.xe s
theorem SlR.or {r r' : V → Option Int → Option Int → Hp → VK → Prop} (h : SlR X r) (h' : SlR X r') : SlR X (fun x lo hi H Q => r x lo hi H Q ∨ r' x lo hi H Q) := by
  intro pins s σ H x v vl vu lo hi sl Q I rx hs pl pu q
  rcases q with q | q
  · exact h pins s σ H x v vl vu lo hi sl Q I rx hs pl pu q
  · exact h' pins s σ H x v vl vu lo hi sl Q I rx hs pl pu q
noncomputable def tSl (r : V → Option Int → Option Int → Hp → VK → Prop) (te : TE) (tl th : TO) : TE := fun σ H Q => te σ H fun x H1 => tl σ H1 fun l H2 => th σ H2 fun u H3 => r x l u H3 Q
theorem ZhZ {r : V → Option Int → Option Int → Hp → VK → Prop} (hr : SlR X r) (he : PE X e te) (hl : PO X lo tl) (hu : PO X hi th) : PE X (.Subscript e (.Slice lo hi none p2) pos) (tSl r te tl th) := by
  intro pins s σ H Q I h
  refine Subscript_ (thn (he pins s σ H _ I h) fun v s1 ⟨x, H1, I1, r1, q1⟩ => ?_)
  refine wpAny_Slice (thn (hl pins s1 σ H1 _ I1 q1) fun vl s2 ⟨l, H2, I2, pl, q2⟩ => thn (hu pins s2 σ H2 _ I2 q2) fun vu s3 ⟨u, H3, I3, pu, q3⟩ => ?_)
  rw [evalPart_none]
  refine wpAny_pure ?_
  have I4 : Inv X pins σ H3 { s3 with heap := s3.heap.push { cls := .type "slice", data := .fields #[vl, vu, .none] } } := I3.kept (t' := s3.toks) fun b ob q => Heap.get?_push_of_some _ q
  obtain ⟨T, id, hT, ht, hg⟩ := hr pins { s3 with heap := s3.heap.push { cls := .type "slice", data := .fields #[vl, vu, .none] } } σ H3 x v vl vu l u s3.heap.objs.size Q I4 r1 (Heap.IsSliceOf.new ..) pl pu q3
  show wpAny (model X.prog X.w) X.A (subscriptTail e (.Slice lo hi none p2) v (.ref s3.heap.objs.size)) (EP X pins σ Q) X.xe { s3 with heap := s3.heap.push { cls := .type "slice", data := .fields #[vl, vu, .none] } }
  exact tail_any (ops := [.ref s3.heap.objs.size, v]) ht hT hg (by with_unfolding_all rfl)
noncomputable def Zi3 (xs : List V) (lo hi : Option Int) : List V := (xs.drop (HT.sIx xs.length 0 lo)).take (HT.sIx xs.length xs.length hi - HT.sIx xs.length 0 lo)
theorem ZcP (xs : List V) (lo hi : Option Int) : (Zi3 xs lo hi).length ≤ xs.length := by
  unfold Zi3
  rw [List.length_take, List.length_drop]
  omega
noncomputable def Zrn (K : PySem.W.Frag) : V → Option Int → Option Int → Hp → VK → Prop := fun x lo hi H Q => ∃ a xs, x = .ref a ∧ SqT K H a xs ∧
  ¬ (HT.sIx xs.length 0 lo = 0 ∧ HT.sIx xs.length xs.length hi = xs.length) ∧ ∀ p, H p = none → Q (.ref p) (upd H p (.tup (Zi3 xs lo hi)))
theorem ZlH : SlR X (Zrn X.K) := by
  intro pins s σ H x v vl vu lo hi sl Q I rx hs pl pu h
  obtain ⟨a, xs, rfl, hx, hw, q⟩ := h
  cases rx
  obtain ⟨its, r, ht, hz⟩ := I.tuple hx
  have hlen : its.toArray.size = xs.length := by rw [List.size_toArray]; exact r.length.symm
  refine ⟨"tuple", _, PyProof.Rows.slot_tuple_getitem.lookup, ht.typeIs, ?_⟩
  refine HT.Zcn ht hs pl pu (by rw [hlen]; exact hw) ?_ (by rw [hlen]; exact hz)
  rw [hlen]
  refine ⟨.ref s.heap.objs.size, _, I.laid (t' := s.toks) (o := .tup (Zi3 xs lo hi)) (fun b ob q => Heap.get?_push_of_some _ q) (Nat.le_refl _) ?_, rfl, q _ (I.hok.fresh (Nat.le_refl _))⟩
  exact ⟨Nat.le_trans (ZcP xs lo hi) hz, _, (r.drop (HT.sIx xs.length 0 lo)).take (HT.sIx xs.length xs.length hi - HT.sIx xs.length 0 lo), IsTup.new _ _⟩
noncomputable def ZjX (K : PySem.W.Frag) : R2 := fun x y H Q => ∃ a b xs ys, x = .ref a ∧ y = .ref b ∧ SqT K H a xs ∧ SqT K H b ys ∧ xs ≠ [] ∧ xs.length + ys.length ≤ sizeLine ∧
  (ys = [] → Q (.ref a) H) ∧ (ys ≠ [] → ∀ p, H p = none → Q (.ref p) (upd H p (.tup (xs ++ ys))))
theorem Z3.nil_iff {xs : List V} {us : List Value} (r : Z3 xs us) : us = [] ↔ xs = [] := by
  cases r with
  | nil => simp
  | cons _ _ => simp
theorem ZjY : OpR X (binaryOp .Add) (ZjX X.K) := by
  intro pins s σ H x y v u Q I rx ry h
  obtain ⟨a, b, xs, ys, rfl, rfl, ha, hb, hx, hz, q1, q2⟩ := h
  cases rx
  cases ry
  obtain ⟨its, r1, p1, _⟩ := I.tuple ha
  obtain ⟨its2, r2, p2, _⟩ := I.tuple hb
  refine HT.ZjU p1 p2 (fun z => hx (r1.nil_iff.mp z)) (fun z => ⟨.ref a, H, I, rfl, q1 (r2.nil_iff.mp z)⟩) (fun z => ?_) (by rw [← r1.length, ← r2.length]; exact hz)
  refine ⟨.ref s.heap.objs.size, _, I.laid (t' := s.toks) (o := .tup (xs ++ ys)) (fun b ob q => Heap.get?_push_of_some _ q) (Nat.le_refl _) ?_, rfl, q2 (fun w => z (r2.nil_iff.mpr w)) _ (I.hok.fresh (Nat.le_refl _))⟩
  exact ⟨by rw [List.length_append]; exact hz, _, r1.append r2, IsTup.new _ _⟩
end
end L2
namespace L2
open PySem PySem.Spec PyProof.Rows
noncomputable def ixN (n : Nat) (i : Int) : Option Nat := if 0 ≤ i then (if i < n then some i.toNat else none) else if -(n : Int) ≤ i then some (i + n).toNat else none
noncomputable def atI {α : Type} (xs : List α) (i : Int) : Option α := (ixN xs.length i).bind fun j => xs[j]?
theorem Zgs {n : Nat} {i : Int} {j : Nat} (h : ixN n i = some j) : seqIndex? i n = some j ∧ j < n ∧ -(n : Int) ≤ i ∧ i < n := by
  unfold ixN at h
  by_cases h0 : 0 ≤ i
  · rw [if_pos h0] at h
    by_cases h1 : i < n
    · rw [if_pos h1] at h
      have e : i.toNat = j := Option.some.inj h
      exact ⟨by rw [seqIndex_of h0 h1, e], by omega, by omega, h1⟩
    · rw [if_neg h1] at h; cases h
  · rw [if_neg h0] at h
    by_cases h1 : -(n : Int) ≤ i
    · rw [if_pos h1] at h
      have e : (i + n).toNat = j := Option.some.inj h
      exact ⟨by rw [seqIndex_neg (by omega) h1, e], by omega, h1, by omega⟩
    · rw [if_neg h1] at h; cases h
theorem Zgt {α : Type} {xs : List α} {i : Int} {v : α} (h : atI xs i = some v) : ∃ j, seqIndex? i xs.length = some j ∧ xs[j]? = some v ∧ j < xs.length ∧ -(xs.length : Int) ≤ i ∧ i < xs.length := by
  unfold atI at h
  cases e : ixN xs.length i with
  | none => rw [e] at h; cases h
  | some j =>
    rw [e] at h
    obtain ⟨h1, h2, h3, h4⟩ := Zgs e
    exact ⟨j, h1, h, h2, h3, h4⟩
theorem ZjZ {α : Type} {xs : List α} {j : Nat} {v : α} (h : xs[j]? = some v) : atI xs (j : Int) = some v := by
  have hj : j < xs.length := (List.getElem?_eq_some_iff.mp h).1
  have e : ixN xs.length (j : Int) = some j := by
    unfold ixN
    rw [if_pos (by omega), if_pos (by omega)]; simp
  unfold atI; rw [e]; exact h
noncomputable def Zgu (b : Expr) : Prop := ∀ o i, subscripted b false o i = operate [o, i] (getItem o i)
noncomputable def IxR (X : Cx) (r : R2) : Prop :=
  ∀ (value slice : Expr) (pins : List (Addr × Obj)) (s : Shared) (σ : St) (H : Hp) (x y : V) (v u : Value) (Q : VK), Inv X pins σ H s → Zat x v → Zat y u → r x y H Q →
    subscripted slice false v u = operate [v, u] (getItem v u) → wpAny (model X.prog X.w) X.A (subscriptTail value slice v u) (EP X pins σ Q) X.xe s
noncomputable def MtR (X : Cx) (id : String) (r : V → List V → Hp → VK → Prop) : Prop :=
  ∀ (pins : List (Addr × Obj)) (s : Shared) (σ : St) (H : Hp) (x : V) (xs : List V) (v : Value) (us : List Value) (Q : VK), Inv X pins σ H s → Zat x v → Z3 xs us → r x xs H Q →
    wpAny (model X.prog X.w) X.A (call (.builtin id) (v :: us)) (EP X pins σ Q) X.xe s
section
variable {X : Cx} {a b : Expr} {ta tb : TE} {pos : Pos}
theorem IxR.or {r r' : R2} (h : IxR X r) (h' : IxR X r') : IxR X (fun x y H Q => r x y H Q ∨ r' x y H Q) := by
  intro value slice pins s σ H x y v u Q I rx ry q hs
  rcases q with q | q
  · exact h value slice pins s σ H x y v u Q I rx ry q hs
  · exact h' value slice pins s σ H x y v u Q I rx ry q hs
theorem Zos {r : R2} (hr : IxR X r) (ha : PE X a ta) (hb : PE X b tb) (hs : Zgu b) : PE X (.Subscript a b pos) (tOp r ta tb) := by
  intro pins s σ H Q I h
  exact Subscript_ (Zoj ha hb I h fun v u s2 x y H2 I2 rx ry q => hr a b pins s2 σ H2 x y v u Q I2 rx ry q (hs _ _))
noncomputable def Zqe (K : PySem.W.Frag) : R2 := fun x y H Q => ∃ p xs i v, x = .ref p ∧ y = .int i ∧ SqL K H p xs ∧ atI xs i = some v ∧ Q v H
noncomputable def Zqf (K : PySem.W.Frag) : R2 := fun x y H Q => ∃ p xs i v, x = .ref p ∧ y = .int i ∧ SqT K H p xs ∧ atI xs i = some v ∧ Q v H
theorem Zj0 : IxR X (Zqe X.K) := by
  intro value slice pins s σ H x y v u Q I rx ry h hs
  obtain ⟨p, xs, i, z, rfl, rfl, hq, he, q⟩ := h
  cases rx
  obtain ⟨t, rfl⟩ := ry
  obtain ⟨its, r, pl, hz⟩ := I.list hq
  obtain ⟨j, h1, h2, h3, h4, h5⟩ := Zgt he
  obtain ⟨w, ew, rw'⟩ := r.get h2
  have hl := r.length
  have hn := Zfh
  have fin : EP X pins σ Q w s := ⟨z, H, I, rw', q⟩
  by_cases h0 : 0 ≤ i
  · have hj : i.toNat = j := by
      rw [seqIndex_of h0 h5] at h1
      exact Option.some.inj h1
    exact item_listR pl.isList h0 (by omega) (by rw [hj]; simpa using ew) fin hs
  · have hj : (i + (its.toArray.size : Int)).toNat = j := by
      rw [seqIndex_neg (by omega) h4] at h1
      rw [List.size_toArray, ← hl]
      exact Option.some.inj h1
    exact subscriptTail_builtinR (x := w) pl.isList.typeIs slot_list_getitem.lookup
      (wpAny_getItem_list_neg (Q := fun r s' => r = w ∧ EP X pins σ Q r s') pl.isList (by omega) (by rw [List.size_toArray] <;> omega) (by omega) (by rw [hj]; simpa using ew) ⟨rfl, fin⟩) hs
theorem ZlI : IxR X (Zqf X.K) := by
  intro value slice pins s σ H x y v u Q I rx ry h hs
  obtain ⟨p, xs, i, z, rfl, rfl, hq, he, q⟩ := h
  cases rx
  obtain ⟨t, rfl⟩ := ry
  obtain ⟨its, r, pl, hz⟩ := I.tuple hq
  obtain ⟨j, h1, h2, h3, h4, h5⟩ := Zgt he
  obtain ⟨w, ew, rw'⟩ := r.get h2
  have hl := r.length
  have hn := Zfh
  have fin : EP X pins σ Q w s := ⟨z, H, I, rw', q⟩
  exact subscriptTail_builtinR (x := w) pl.typeIs slot_tuple_getitem.lookup
    (getItem_tuple (j := j) (Q := fun r s' => r = w ∧ EP X pins σ Q r s') pl (by omega) (by omega) (by rw [List.size_toArray, ← hl]; exact h1) (by simpa using ew) ⟨rfl, fin⟩) hs
theorem ZfN (its : List Value) (n j : Nat) (u : Value) : Obj.mapSeq (·.setIfInBounds j u) { cls := .type "list", data := .seq its.toArray n } = { cls := .type "list", data := .seq (its.set j u).toArray n } := by
  simp [Obj.mapSeq]
theorem Inv.lst {pins : List (Addr × Obj)} {σ : St} {H : Hp} {s : Shared} {p : Addr} {xs : List V} (I : Inv X pins σ H s) (h : H p = some (.lst xs)) :
    ∃ (its : List Value) (n : Nat), Z3 xs its ∧ s.heap.get? p = some { cls := .type "list", data := .seq its.toArray n } ∧ xs.length ≤ sizeLine := by
  obtain ⟨z, its, n, r, e⟩ := I.hok p _ h
  exact ⟨its, n, r, e, z⟩
theorem Inv.lstUpd {pins : List (Addr × Obj)} {σ : St} {H : Hp} {s : Shared} {p : Addr} {xs ys : List V} {its its' : List Value} {n n' : Nat} {f : Obj → Obj} (I : Inv X pins σ H s) (h : H p = some (.lst xs))
    (ho : s.heap.get? p = some { cls := .type "list", data := .seq its.toArray n }) (hf : f { cls := .type "list", data := .seq its.toArray n } = { cls := .type "list", data := .seq its'.toArray n' }) (r : Z3 ys its') (hz : ys.length ≤ sizeLine) (t : Nat) :
    Inv X pins σ (upd H p (.lst ys)) { s with heap := s.heap.update p f, toks := t } := by
  have e : (s.heap.update p f).get? p = some { cls := .type "list", data := .seq its'.toArray n' } := by
    rw [Heap.get?_update_self f ho (by rw [hf] <;> rfl), hf]
  refine I.write (x := p) (e := p) (by rw [h]; trivial) (.inl rfl) (fun b u hb q => (Heap.get?_update_other _ _ (Ne.symm hb)).trans q) ⟨_, e⟩ ?_
  exact ⟨hz, its', n', r, e⟩
noncomputable def rSetL : V → V → V → Hp → (Hp → Prop) → Prop := fun o i v H Q => ∃ p xs k j, o = .ref p ∧ i = .int k ∧ H p = some (.lst xs) ∧ ixN xs.length k = some j ∧ Q (upd H p (.lst (xs.set j v)))
theorem Zh0 : Zqa X rSetL := by
  intro pins s σ H o i v ov iv u Q I ro ri rv h
  obtain ⟨p, xs, k, j, rfl, rfl, hp, hj, q⟩ := h
  cases ro
  obtain ⟨t, rfl⟩ := ri
  obtain ⟨its, n, r, ho, hz⟩ := I.lst hp
  obtain ⟨h1, h2, h3, h4⟩ := Zgs hj
  have hl := r.length
  have hn := Zfh
  have I' : Inv X pins σ (upd H p (.lst (xs.set j v))) { s with heap := s.heap.update p (Obj.mapSeq (·.setIfInBounds j u)) } :=
    I.lstUpd hp ho (ZfN its n j u) (r.set rv j) (by rw [List.length_set]; exact hz) s.toks
  by_cases h0 : 0 ≤ k
  · have hk : k.toNat = j := by
      rw [seqIndex_of h0 h4] at h1
      exact Option.some.inj h1
    exact PySem.W.ki_setAt ho h0 (by omega) (by rw [List.size_toArray, ← hl]; exact h4) (by rw [hk]; exact ⟨_, I', q⟩)
  · have hk : (k + (its.toArray.size : Int)).toNat = j := by
      rw [seqIndex_neg (by omega) h3] at h1
      rw [List.size_toArray, ← hl]
      exact Option.some.inj h1
    exact PySem.W.ki_setBack ho (by omega) (by rw [List.size_toArray, ← hl]; exact h3) (by omega) (by rw [hk]; exact ⟨_, I', q⟩)
theorem Zd7 (lo hi : Option Int) (n : Nat) : (sliceBounds lo hi none n).1 = ((HT.sIx n 0 lo : Nat) : Int) ∧ (sliceBounds lo hi none n).2.1 = ((HT.sIx n n hi : Nat) : Int) ∧ (sliceBounds lo hi none n).2.2 = 1 := by
  refine ⟨?_, ?_, rfl⟩
  · cases lo with
    | none => simp [sliceBounds, HT.sIx]
    | some i =>
      simp only [sliceBounds, HT.sIx, Option.getD_none, show (1 : Int) > 0 by decide, if_true]
      by_cases h : i < 0
      · simp only [h, if_true] <;> omega
      · simp only [h, if_false] <;> omega
  · cases hi with
    | none => simp [sliceBounds, HT.sIx]
    | some i =>
      simp only [sliceBounds, HT.sIx, Option.getD_none, show (1 : Int) > 0 by decide, if_true]
      by_cases h : i < 0
      · simp only [h, if_true] <;> omega
      · simp only [h, if_false] <;> omega
theorem Zdx (its : List Value) (lo hi : Option Int) : slicePick its.toArray lo hi none = ((its.drop (HT.sIx its.length 0 lo)).take (HT.sIx its.length its.length hi - HT.sIx its.length 0 lo)).toArray := by
  obtain ⟨h1, h2, h3⟩ := Zd7 lo hi its.toArray.size
  unfold slicePick
  rw [h1, h2, h3]
  simp only [sliceRange_one, pick_run, List.size_toArray] <;> rfl
noncomputable def Zro (K : PySem.W.Frag) : V → Option Int → Option Int → Hp → VK → Prop := fun x lo hi H Q => ∃ a xs, x = .ref a ∧ SqL K H a xs ∧ ∀ p, H p = none → Q (.ref p) (upd H p (.lst (Zi3 xs lo hi)))
theorem Zj1 : SlR X (Zro X.K) := by
  intro pins s σ H x v vl vu lo hi sl Q I rx hs pl pu h
  obtain ⟨a, xs, rfl, hx, q⟩ := h
  cases rx
  obtain ⟨its, r, ht, hz⟩ := I.list hx
  have hlen := r.length
  refine ⟨"list", _, slot_list_getitem.lookup, ht.isList.typeIs, ?_⟩
  refine wpAny_getItem_list_slice ht.isList hs pl pu .none (by simp) ?_ (by rw [List.size_toArray] <;> omega)
  rw [Zdx, ← hlen]
  refine ⟨.ref s.heap.objs.size, _, I.laid (t' := s.toks) (o := .lst (Zi3 xs lo hi)) (fun b ob q => Heap.get?_push_of_some _ q) (Nat.le_refl _) ?_, rfl, q _ (I.hok.fresh (Nat.le_refl _))⟩
  exact ⟨Nat.le_trans (ZcP xs lo hi) hz, _, 0, (r.drop (HT.sIx xs.length 0 lo)).take (HT.sIx xs.length xs.length hi - HT.sIx xs.length 0 lo), Heap.get?_push_size _ rfl⟩
theorem Zm : Zb9 X (.builtin "len") (fun xs H Q => ∃ p ys, xs = [.ref p] ∧ (SqL X.K H p ys ∨ SqT X.K H p ys) ∧ Q (.int ys.length) H) := by
  intro pins s σ H xs us Q I r h
  obtain ⟨p, ys, rfl, hq, q⟩ := h
  obtain ⟨u, rfl, rx⟩ := Zdb r
  cases rx
  have hn := Zfh
  rcases hq with hq | hq
  · obtain ⟨its, r', pl, hz⟩ := I.list hq
    have hlen := r'.length
    exact Calls.call_len_list pl.isList (by simp only [List.size_toArray] <;> omega) ⟨.int ys.length, H, I.tok _, ⟨s.toks + 1, by rw [List.size_toArray, hlen]⟩, q⟩
  · obtain ⟨its, r', pl, hz⟩ := I.tuple hq
    have hlen := r'.length
    exact len_tuple pl (by simp only [List.size_toArray] <;> omega) ⟨.int ys.length, H, I.tok _, ⟨s.toks + 1, by rw [List.size_toArray, hlen]⟩, q⟩
theorem Zbx : Zb9 X (.type "list") (fun xs H Q => ∃ p ys, xs = [.ref p] ∧ (SqL X.K H p ys ∨ SqT X.K H p ys) ∧ ∀ l, H l = none → Q (.ref l) (upd H l (.lst ys))) := by
  intro pins s σ H xs us Q I r h
  obtain ⟨p, ys, rfl, hq, q⟩ := h
  obtain ⟨u, rfl, rx⟩ := Zdb r
  cases rx
  have fin : ∀ (its : List Value), Z3 ys its → ys.length ≤ sizeLine → ∀ (h' : Heap) (c' : Nat), (∀ b o', s.heap.get? b = some o' → h'.get? b = some o') →
      h'.get? s.heap.objs.size = some { cls := .type "list", dict := none, data := .seq its.toArray c', slots := #[] } → EP X pins σ Q (.ref s.heap.objs.size) { s with heap := h' } := fun its r' hz h' c' kp e =>
    ⟨.ref s.heap.objs.size, _, I.laid (t' := s.toks) kp (Nat.le_refl _) (show Zb8 X.prog X.w _ h' _ (.lst ys) from ⟨hz, its, c', r', e⟩), rfl, q _ (I.hok.fresh (Nat.le_refl _))⟩
  rcases hq with hq | hq
  · obtain ⟨its, r', pl, hz⟩ := I.list hq
    have hlen := r'.length
    obtain ⟨o, ho, hc, n, hd⟩ := pl.isList
    exact call_list_seq p (.inl rfl) ho hc hd (fun h' c' kp e => fin its r' hz h' c' kp e) (by simp only [List.size_toArray] <;> omega)
  · obtain ⟨its, r', pl, hz⟩ := I.tuple hq
    have hlen := r'.length
    obtain ⟨o, ho, hc, n, hd⟩ := pl
    exact call_list_seq p (.inr rfl) ho hc hd (fun h' c' kp e => fin its r' hz h' c' kp e) (by simp only [List.size_toArray] <;> omega)
noncomputable def tyV (K : PySem.W.Frag) (T : String) (x : V) (H : Hp) : Prop := match x with
  | .str _ => T = "str"
  | .int _ => T = "int"
  | .ref p => (T = "list" ∧ ∃ xs, SqL K H p xs) ∨ (T = "tuple" ∧ ∃ o, K.lookup p = some o ∧ o.cls = .type "tuple" ∧ o.dict = none) ∨
      (T = "dict" ∧ ((∃ kvs, H p = some (.dK kvs)) ∨ ∃ kvs, H p = some (.dT kvs))) ∨ (T = "set" ∧ ∃ S n, H p = some (.set S n))
  | _ => False
theorem ZlJ {pins : List (Addr × Obj)} {σ : St} {H : Hp} {s : Shared} {T : String} {x : V} {v : Value} (I : Inv X pins σ H s) (r : Zat x v) (ty : tyV X.K T x H) :
    s.TypeIs v T ∧ ∀ a, v = .ref a → ∃ ob, s.heap.get? a = some ob ∧ ob.dict = none := by
  cases x with
  | str z =>
    obtain ⟨t, rfl⟩ := r
    cases (show T = "str" from ty)
    exact ⟨typeIs_str s z t, fun _ e => nomatch e⟩
  | int i =>
    obtain ⟨t, rfl⟩ := r
    cases (show T = "int" from ty)
    exact ⟨typeIs_int s i t, fun _ e => nomatch e⟩
  | ref p =>
    cases r
    rcases ty with ⟨rfl, xs, hq⟩ | ⟨rfl, o, hk, hc, hd⟩ | ⟨rfl, hk⟩ | ⟨rfl, S, n, hk⟩
    · obtain ⟨its, _, pl, _⟩ := I.list hq
      refine ⟨pl.isList.typeIs, fun a e => ?_⟩
      cases e
      obtain ⟨o, n, e, c, hd, _⟩ := pl
      exact ⟨o, e, hd⟩
    · refine ⟨⟨o, I.kIn p o hk, hc⟩, fun a e => ?_⟩
      cases e
      exact ⟨o, I.kIn _ o hk, hd⟩
    · have z : ∃ o, s.heap.get? p = some o ∧ o.ExactDict := by
        rcases hk with ⟨kvs, hk⟩ | ⟨kvs, hk⟩
        · obtain ⟨_, _, _, _, o, _, _, e, ex, _⟩ := I.hok p _ hk
          exact ⟨o, e, ex⟩
        · obtain ⟨_, _, _, _, o, _, _, e, ex, _⟩ := I.hok p _ hk
          exact ⟨o, e, ex⟩
      obtain ⟨o, e, ex⟩ := z
      refine ⟨⟨o, e, ex.1⟩, fun a e2 => ?_⟩
      cases e2
      exact ⟨o, e, ex.2.1⟩
    · obtain ⟨o, _, _, _, e, ex, _⟩ := I.hok p _ hk
      refine ⟨⟨o, e, ex.1⟩, fun a e2 => ?_⟩
      cases e2
      exact ⟨o, e, ex.2.1⟩
  | _ => exact False.elim ty
noncomputable def tBM (K : PySem.W.Frag) (T : String) (r : V → List V → Hp → VK → Prop) (to : TE) (t : TA) : TE := fun σ H Q => to σ H fun x H1 => tyV K T x H1 ∧ t σ H1 fun xs H2 => r x xs H2 Q
variable {o e : Expr} {es : List Expr} {to : TE} {t : TA} {name : Str} {apos cpos : Pos} {T id : String} {r : V → List V → Hp → VK → Prop}
theorem Zot (pa : PlainAttrs T) (slot : Slot T name id) (hty : typeOf (.builtin id) = pure (.type "method_descriptor")) (hm : MtR X id r) (ho : PE X o to) (ha : PA X (e :: es) t)
    (hbase : attributeBase o name X.env (eval o X.env) = eval o X.env := by rfl)
    (hfew : ((backTo cpos (starEach (e :: es) X.env)).all (fun x => !x.1) && (backToKw cpos (keywordEach [] X.env)).all (fun x => x.1.isSome)
      && decide ((e :: es).length + ([] : List Keyword).length + (if ([] : List Keyword).isEmpty then 0 else 1) < 30)) = true := by rfl)
    (hline : (apos.endLine == cpos.line) = true := by rfl) (hs : starEach (e :: es) X.env = (false, eval e X.env) :: starEach es X.env := by rfl) (hplain : (backTo cpos (starEach es X.env)).any (·.1) = false := by rfl) :
    PE X (.Call (.Attribute o name apos) (e :: es) [] cpos) (tBM X.K T r to t) := by
  intro pins s σ H Q I h
  refine wpAny_Call_method_late hbase hfew hline rfl (thn (ho pins s σ H _ I h) fun v s1 ⟨x, H1, I1, r1, ty, q1⟩ => ?_)
  obtain ⟨h1, h2⟩ := ZlJ I1 r1 ty
  refine ⟨T, id, pa, slot, hty, h1, h2, ?_⟩
  have hA := ha cpos pins s1 σ H1 _ I1 q1
  rw [hs] at hA ⊢
  refine Calls.callWith_builtin (by show (false || (backTo cpos (starEach es X.env)).any (·.1)) = false; rw [hplain] <;> rfl) (Calls.evalArgs_plain ?_)
  exact thn hA fun us s2 ⟨vs, H2, I2, r2, q2⟩ => hm pins s2 σ H2 x vs v us Q I2 r1 r2 q2
end
end L2
namespace L2
open PySem PySem.Spec PyProof.Rows
noncomputable def MtM (X : Cx) (id : String) (r : V → List V → Hp → VK → Prop) : Prop :=
  ∀ (pins : List (Addr × Obj)) (s : Shared) (σ : St) (H : Hp) (x : V) (xs : List V) (v : Value) (us : List Value) (Q : VK), Inv X pins σ H s → Zat x v → Z3 xs us → r x xs H Q →
    wpAny (model X.prog X.w) X.A (call (.builtin id) (v :: us)) (EP X pins σ Q) X.xe s
theorem Z3.one : ∀ {x : V} {us : List Value}, Z3 [x] us → ∃ u, us = [u] ∧ Zat x u
  | _, _, .cons r .nil => ⟨_, rfl, r⟩
theorem Z3.reverse {xs : List V} {us : List Value} (h : Z3 xs us) : Z3 xs.reverse us.reverse := by
  induction h with
  | nil => exact .nil
  | cons r t ih => rw [List.reverse_cons, List.reverse_cons]; exact Z3.append ih (.cons r .nil)
section
variable {X : Cx} {pins : List (Addr × Obj)} {σ : St} {H : Hp} {s : Shared} {l b : Addr} {xs ys zs : List V}
theorem Inv.lset {its its' : List Value} {n : Nat} {f : Array Value → Array Value} {t' : Nat} (I : Inv X pins σ H s) (hH : H l = some (.lst xs))
    (e : s.heap.get? l = some { cls := .type "list", data := .seq its.toArray n }) (hf : f its.toArray = its'.toArray) (hv : Z3 ys its') (hz : ys.length ≤ sizeLine) :
    Inv X pins σ (upd H l (.lst ys)) { s with heap := s.heap.update l (Obj.mapSeq f), toks := t' } := by
  have q := PySem.IsL.update e f
  rw [hf] at q
  refine I.write (x := l) (e := l) (by rw [hH]; exact trivial) (.inl rfl) (fun b' u hb hu => (Heap.get?_update_other s.heap (Obj.mapSeq f) (Ne.symm hb)).trans hu) ⟨_, q⟩ ?_
  exact ⟨hz, its', _, hv, q⟩
theorem Inv.lnew {its : List Value} {t' : Nat} (I : Inv X pins σ H s) (hv : Z3 ys its) (hz : ys.length ≤ sizeLine) :
    Inv X pins σ (upd H s.heap.objs.size (.lst ys)) { s with heap := s.heap.push { cls := .type "list", data := .seq its.toArray }, toks := t' } :=
  I.laid (fun _ _ q => Heap.get?_push_of_some _ q) (Nat.le_refl _) ⟨hz, its, 0, hv, Heap.get?_push_size _ rfl⟩
theorem Inv.fresh (I : Inv X pins σ H s) : H s.heap.objs.size = none := I.hok.fresh (Nat.le_refl _)
theorem Inv.lstM (I : Inv X pins σ H s) (hH : H l = some (.lst xs)) : xs.length ≤ sizeLine ∧ ∃ (its : List Value) (n : Nat), Z3 xs its ∧ xs.length = its.length ∧ s.heap.get? l = some { cls := .type "list", data := .seq its.toArray n } := by
  obtain ⟨z, its, n, r, e⟩ := I.hok l _ hH
  exact ⟨z, its, n, r, r.length, e⟩
theorem Zh1 {n : Nat} (h : n ≤ sizeLine) : Builtin.List.listTooLong n = false := by
  unfold Builtin.List.listTooLong
  exact decide_eq_false (by omega)
end
section
variable {X : Cx}
noncomputable def rAppend : V → List V → Hp → VK → Prop := fun x vs H Q => ∃ l xs y, x = .ref l ∧ vs = [y] ∧ H l = some (.lst xs) ∧ xs.length < sizeLine ∧ Q .non (upd H l (.lst (xs ++ [y])))
theorem Zcb : MtM X "list.append" rAppend := by
  intro pins s σ H x vs v us Q I rx rv h
  obtain ⟨l, xs, y, rfl, rfl, hH, hz, q⟩ := h
  cases rx
  obtain ⟨u, rfl, ru⟩ := rv.one
  obtain ⟨z, its, n, r, hl, e⟩ := I.lstM hH
  refine call_meets F.slot_list_append ⟨_, e, rfl⟩ F.entry_list_append (F.args_list_append_2 _ _) (PySem.list_append l its.toArray n u (by rw [List.size_toArray]; omega)) ⟨e, ?_⟩
  refine ⟨.non, _, I.lset (its' := its ++ [u]) hH e (by simp) (r.append (.cons ru .nil)) ?_, rfl, q⟩
  rw [List.length_append, List.length_singleton]
  omega
noncomputable def rExtend : V → List V → Hp → VK → Prop := fun x vs H Q => ∃ l b xs zs, x = .ref l ∧ vs = [.ref b] ∧ H l = some (.lst xs) ∧ H b = some (.lst zs) ∧ xs.length + zs.length ≤ sizeLine ∧ Q .non (upd H l (.lst (xs ++ zs)))
theorem ZlK : MtM X "list.extend" rExtend := by
  intro pins s σ H x vs v us Q I rx rv h
  obtain ⟨l, b, xs, zs, rfl, rfl, hH, hB, hz, q⟩ := h
  cases rx
  obtain ⟨u, rfl, ru⟩ := rv.one
  cases ru
  obtain ⟨z, its, n, r, hl, e⟩ := I.lstM hH
  obtain ⟨z2, its2, n2, r2, hl2, e2⟩ := I.lstM hB
  have hsz : its.toArray.size + its2.toArray.size ≤ sizeLine := by rw [List.size_toArray, List.size_toArray]; omega
  have hlong : ¬ (!its.toArray.isEmpty && Builtin.List.listTooLong (its.toArray.size + its2.toArray.size)) = true := by
    rw [Zh1 hsz, Bool.and_false]
    exact Bool.false_ne_true
  refine call_meets F.slot_list_extend ⟨_, e, rfl⟩ F.entry_list_extend (F.args_list_extend_2 _ _)
    (AutoSeq1.list_extend_list_list_0 l its.toArray n b its2.toArray n2 hlong (by rw [List.size_toArray]; omega) (by omega)) ⟨e, e2, ?_⟩
  refine ⟨.non, _, I.lset (its' := its ++ its2) hH e (by simp) (r.append r2) ?_, rfl, q⟩
  rw [List.length_append]
  omega
noncomputable def rCat : R2 := fun x y H Q => ∃ l b xs zs, x = .ref l ∧ y = .ref b ∧ H l = some (.lst xs) ∧ H b = some (.lst zs) ∧ xs.length + zs.length ≤ sizeLine ∧ ∀ p, H p = none → Q (.ref p) (upd H p (.lst (xs ++ zs)))
theorem ZlL : OpR X (binaryOp .Add) rCat := by
  intro pins s σ H x y v u Q I rx ry h
  obtain ⟨l, b, xs, zs, rfl, rfl, hH, hB, hz, q⟩ := h
  cases rx
  cases ry
  obtain ⟨z, its, n, r, hl, e⟩ := I.lstM hH
  obtain ⟨z2, its2, n2, r2, hl2, e2⟩ := I.lstM hB
  refine PySem.P.add_list e e2 ?_ (by rw [List.size_toArray, List.size_toArray]; omega)
  have ea : its.toArray ++ its2.toArray = (its ++ its2).toArray := by simp
  rw [ea]
  exact ⟨.ref _, _, I.lnew (t' := s.toks) (r.append r2) (by rw [List.length_append]; omega), rfl, q _ I.fresh⟩
end
section
variable {prog : Program} {w : World} {A : Around} {E : Value → Shared → Prop} {s : Shared}
end
section
variable {X : Cx}
end
end L2
namespace Att
open PySem PySem.W PySem.Calls PyProof.Rows
theorem ZcQ {P : Params} {h : Heap} : ∀ (ns : List Int) (vs : List Value), WellAll P h vs (ns.map WData.int) → IntsAre vs ns := by
  intro ns
  induction ns with
  | nil =>
    intro vs w
    rw [List.map_nil] at w
    cases w
    exact .nil
  | cons n ns ih =>
    intro vs w
    rw [List.map_cons] at w
    cases w with
    | cons a b =>
      cases a
      exact .cons _ _ (ih _ b)
theorem Zgv {l : OpenLaw} {n : Nat} (hn : l.most = some n) {P : Params} {h : Heap} {args : List WData} {vals : List Value}
    (hpre : l.row.toRowW.claim.pre args = true) (hwl : WellAll P h vals args) :
    ∃ a vs ns, vals = [Value.ref a] ∧ args = [WData.list (ns.map WData.int)] ∧ h.get? a = some { cls := .type "list", data := .seq vs.toArray } ∧ IntsAre vs ns ∧ ns.length ≤ n := by
  have hsh : WShape.hasAll [] args [.list .int] = true := (pre_splitW hpre).1
  have hc : l.pre.holds [] { args := args } = true := (pre_splitW hpre).2
  obtain ⟨d, r, rfl, h1, h2⟩ := hasAllW_cons hsh
  obtain rfl := hasAllW_nil h2
  obtain ⟨xs, rfl, h3⟩ := hasW_list h1
  obtain ⟨ns, rfl⟩ := items_int h3
  have hlen : ns.length ≤ n := by
    unfold OpenLaw.pre at hc
    have h4 : (WTm.not (.lt (.lit (.int (n : Int))) (.len (.arg 0)))).holds [] { args := [.list (ns.map .int)] } = true := by
      have h4 := (holds_andW hc).1
      rw [hn] at h4
      exact h4
    have h5 := condW_of h4 (w_not (w_lt w_lit (w_len_list (w_arg rfl))))
    rw [List.length_map] at h5
    refine Nat.le_of_not_lt fun q => ?_
    have q' : (n : Int) < ((ns.length : Nat) : Int) := by omega
    first
      | (rw [decide_eq_true q'] at h5; exact absurd h5 (by decide))
      | (simp at h5; omega)
  cases hwl with
  | cons w1 w2 =>
    cases w2
    cases w1 with
    | list ho hall => exact ⟨_, _, ns, rfl, rfl, ho, ZcQ ns _ hall, hlen⟩
theorem Zgw (l : OpenLaw) (args : List WData) : l.row.toRowW.claim.post args (.bool true) args = true :=
  postW_of (r := l.row.toRowW) (X := (true == true))
    (show WShape.has [] (.bool true) .bool = true by first | rfl | decide | simp [WShape.has, WShape.arms, WShape.armsAll])
    (show (WTm.eq .res (.lit (.bool true))).value [] { args := args, res := some (.bool true), after := args } = some (.bool (true == true)) from w_eq_bool (w_res rfl) w_lit) rfl
theorem ZeI {l : OpenLaw} {n : Nat} {q : Program} {loose : List Str} {XP : (Str → Option Value) → Heap → Prop} {YP : World → Heap → Prop} {d : DefRec}
    (hn : l.most = some n) (hdf : d.params.defaults = [])
    (call : ∀ (w : World) (s₀ s₁ : Shared) (mg mb : Str → Option Value) (fa : Addr) (o : Obj) (pm cd doc : Value) (a : Addr) (vs : List Value) (ns : List Int),
      Ground q loose [] XP w s₀ mg mb s₁.heap → YP w s₁.heap →
      s₁.heap.get? fa = some o → o.data = .func (docDef d.name d.params d.body d.scope pm cd doc) → s₁.heap.CodeRec cd d.name → mg d.name = some (.ref fa) →
      s₁.heap.get? a = some { cls := .type "list", data := .seq vs.toArray } → IntsAre vs ns → ns.length ≤ n → s₁.gens = #[] →
      codeAny (model l.prog w) callerA (.call (.ref fa) ⟨[.ref a], []⟩) (fun r s' => r = .ok (.ret (.bool true)) ∧ OldK s₁.heap s'.heap ∧ s'.os = s₁.os ∧ AllBare s'.gens) s₁) :
    WalkO q loose XP YP l.row.toRowW d [] (fun f vs => PySem.call f vs) := by
  intro w s₀ s₁ mg mb G Y fa o pm cd doc dV kV ho hd hcd hD hmg hg args vals as hpre hlay hrd hwl hlo
  obtain rfl : dV = .none := Dflts.none hD hdf
  obtain rfl : kV = .none := Dflts.noKw hD
  obtain ⟨a, vs, ns, rfl, rfl, hobj, hints, hlen⟩ := Zgv hn hpre hwl
  refine enter_call (codeAny_mono (call w s₀ s₁ mg mb fa o pm cd doc a vs ns G Y ho (fd_plain hd) hcd hmg hobj hints hlen hg) fun r s' hq => ?_)
  obtain ⟨rfl, h2, h3, h4⟩ := hq
  exact ⟨.inl ⟨.bool true, .bool true, [], rfl, fun _ => rfl, .bool true, Zgw l _, fun _ => ⟨List.Pairwise.nil, fun _ hm => (nomatch hm)⟩⟩, h2, h3, h4⟩
section
variable {prog : Program} {w : World} {A : Around} {E : Value → Shared → Prop} {s : Shared} {K : Frag}
end
end Att
namespace L2
open PySem PySem.Spec PyProof.Rows
theorem Zd8 : ∀ {vs : List Value} {ns : List Int}, IntsAre vs ns → Z3 (ns.map V.int) vs
  | _, _, .nil => .nil
  | _, _, .cons n t h => .cons ⟨t, rfl⟩ (Zd8 h)
noncomputable def Zn4 (H : Hp) : Prop := ∀ b, H b = none ∨ ∃ o xs, H b = some (.frz o (.lst xs))
theorem Zh2 {P : Program} {w : World} {K : PySem.W.Frag} {mg mb : Str → Option Value} {CX : CXT} {k : Nat} {fa a : Addr} {fd : FuncData} {x : Str} {sp : Sp} {s₁ : Shared} {vs : List Value} {ns : List Int}
    (KX : K.In s₁.heap) (hns : s₁.heap.Ns mainGlobals mg) (hb : s₁.heap.Ns builtinsNs mb) (hbb : ∀ x : Str, x ≠ "__name__" → mb x = bootBuiltins x) (hlim : s₁.heap.NoLimit) (hg : s₁.gens = #[])
    (ha : s₁.heap.get? a = some { cls := .type "list", data := .seq vs.toArray }) (hi : IntsAre vs ns) (hl : ns.length ≤ sizeLine) (hr : Room k callerA)
    (F : ∀ base : Heap, K.In base → base.Ns mainGlobals mg → FnOk P w K mg base CX k fa fd [x] sp) (hbind : ∀ (s : Shared) (u : Value), BindsTo s fd ⟨[u], []⟩ [(x, u)])
    (hsp : ∀ H : Hp, Zn4 H → SqL K H a (ns.map V.int) → sp [.ref a] H (fun v _ => v = .bl true) fun _ _ _ => False)
    (hCX : ∀ H e s', CX [] H s₁ (fun _ _ _ => False) e s' → False) :
    codeAny (model P w) callerA (.call (.ref fa) ⟨[.ref a], []⟩) (fun r s' => r = .ok (.ret (.bool true)) ∧ OldK s₁.heap s'.heap ∧ s'.os = s₁.os ∧ AllBare s'.gens) s₁ := by
  have rv := Zd8 hi
  have lenV := hi.length
  have core : ∀ H : Hp, Zn4 H → SqL K H a (ns.map V.int) → HOk P w H s₁.heap → (∀ b, H b ≠ none → b = a) → (H a ≠ none → K.lookup a = none) →
      codeAny (model P w) callerA (.call (.ref fa) ⟨[.ref a], []⟩) (fun r s' => r = .ok (.ret (.bool true)) ∧ OldK s₁.heap s'.heap ∧ s'.os = s₁.os ∧ AllBare s'.gens) s₁ := by
    intro H hO hS hok hA hK
    have base_of : ∀ {b : Addr} {o : Obj}, s₁.heap.get? b = some o → H b = none → (ZhN s₁.heap H).get? b = some o := fun e n => Zff e n
    have noA : ∀ {b : Addr} {o : Obj} {es : Array DictEntry} {ep : Nat}, s₁.heap.get? b = some o → o.data = .dict es ep → H b = none := fun {b o es ep} e d => by
      cases q : H b with
      | none => rfl
      | some u =>
        have e' : b = a := hA b (by rw [q]; simp)
        subst e'
        rw [ha] at e; cases e
        have d' : Data.seq vs.toArray _ = Data.dict es ep := d
        cases d'
    have nsK : ∀ {b : Addr} {m : Str → Option Value}, s₁.heap.Ns b m → (ZhN s₁.heap H).Ns b m := fun {b m} ⟨o, es, ep, e, d, r⟩ => ⟨o, es, ep, base_of e (noA e d), d, r⟩
    have hKb : K.In (ZhN s₁.heap H) := fun b o e => base_of (KX b o e) (by
      cases q : H b with
      | none => rfl
      | some u =>
        have e' : b = a := hA b (by rw [q]; simp)
        subst e'
        rw [hK (by rw [q]; simp)] at e; cases e)
    have hM : Mod K mg (ZhN s₁.heap H) := ⟨hKb, nsK hns, ⟨mb, nsK hb, hbb⟩, let ⟨mc, h1, h2⟩ := hlim; ⟨mc, nsK h1, h2⟩⟩
    have e0 : Env0 P w K mg (ZhN s₁.heap H) callerA [] s₁ H := ⟨rfl, hM, fun b o e => Zgh e, Nat.le_of_eq (Zgg _ _), trivial, fun b hb => absurd (show b ∈ ([] : List Addr) from hb) (by simp), hok, .of_eq hg, .inl rfl⟩
    refine codeAny_mono ((F _ hKb (nsK hns)).run callerA [] s₁ H ⟨[.ref a], []⟩ [.ref a] [.ref a] _ _ hr e0 (hbind s₁ (.ref a)) (.cons rfl .nil) (hsp H hO hS)) fun r s' h => ?_
    cases r with
    | error e => exact (hCX H e s' h).elim
    | ok fl =>
      cases fl with
      | next => exact False.elim h
      | brk => exact False.elim h
      | cont => exact False.elim h
      | ret u =>
        obtain ⟨v, H', os, bare, un, hok', r', q⟩ := h
        have q' : v = .bl true := q
        subst q'
        obtain rfl : u = Value.bool true := r'
        refine ⟨rfl, OldK.of_keep fun b o e => ?_, os, bare⟩
        cases q : H b with
        | none => exact un.keep b o e q (by intro z; exact absurd (show b ∈ ([] : List Addr) from z) (by simp)) (by simp)
        | some u =>
          rcases hO b with z | ⟨ob, xs, z⟩
          · rw [q] at z; cases z
          · have z2 := un.frzs b ob _ z
            obtain ⟨e1, _⟩ := hok b _ z
            obtain ⟨e2, _⟩ := hok' b _ z2
            rw [e] at e1; cases e1
            exact e2
  cases hk : K.lookup a with
  | some o =>
    have e := KX a o hk
    rw [ha] at e
    cases e
    refine core (fun _ => none) (fun _ => .inl rfl) (.inr ⟨_, vs.toArray, _, hk, rfl, rfl, rfl, by rw [List.size_toArray, lenV]; exact hl, by simpa using rv⟩) (fun b u z => by have z' : (none : Option HO) = some u := z; cases z') (fun b z => absurd rfl z) fun z => absurd rfl z
  | none =>
    refine core (fun b => if b = a then some (.frz { cls := .type "list", data := .seq vs.toArray } (.lst (ns.map V.int))) else none) (fun b => ?_) (.inl (.inr ⟨{ cls := .type "list", data := .seq vs.toArray }, if_pos rfl⟩)) (fun b u z => ?_) (fun b z => ?_) fun _ => hk
    · by_cases hb : b = a
      · exact .inr ⟨_, _, if_pos hb⟩
      · exact .inl (if_neg hb)
    · by_cases hb : b = a
      · have z' := (if_pos hb).symm.trans z
        cases z'
        subst hb
        exact ⟨ha, by rw [List.length_map]; exact hl, vs, _, rv, ha⟩
      · have z' := (if_neg hb).symm.trans z
        cases z'
    · by_cases hb : b = a
      · exact hb
      · exact absurd (if_neg hb) z
end L2
namespace L2
open PySem PySem.Spec PyProof.Rows
theorem Zj2 {l : PySem.W.OpenLaw} {n k : Nat} {q : Program} {loose : List Str} {XP : (Str → Option Value) → Heap → Prop} {YP : World → Heap → Prop} {d : DefRec} {K : Params → PySem.W.Frag} {CX : World → CXT} {sp : World → Sp} {x : Str}
    (hn : l.most = some n) (hn2 : n ≤ sizeLine) (hdf : d.params.defaults = []) (hr : Room k callerA)
    (hY : ∀ (w : World) (h : Heap), YP w h → (K w.params).In h)
    (F : ∀ (w : World) (mg : Str → Option Value) (fa : Addr) (h : Heap), (K w.params).In h → h.Ns mainGlobals mg → mg d.name = some (.ref fa) →
      ∃ fd : FuncData, (∀ (s : Shared) (u : Value), BindsTo s fd ⟨[u], []⟩ [(x, u)]) ∧
        ∀ base : Heap, (K w.params).In base → base.Ns mainGlobals mg → FnOk l.prog w (K w.params) mg base (CX w) k fa fd [x] (sp w))
    (hsp : ∀ (w : World) (H : Hp) (a : Addr) (ns : List Int), ns.length ≤ n → Zn4 H → SqL (K w.params) H a (ns.map V.int) → sp w [.ref a] H (fun v _ => v = .bl true) fun _ _ _ => False)
    (hCX : ∀ (w : World) (H : Hp) (s : Shared) (e : Value) (s' : Shared), CX w [] H s (fun _ _ _ => False) e s' → False) :
    PySem.W.WalkO q loose XP YP l.row.toRowW d [] (fun f vs => PySem.call f vs) := by
  refine Att.ZeI hn hdf fun w s₀ s₁ mg mb fa o pm cd doc a vs ns G Y ho hd hcd hmg hobj hints hlen hg => ?_
  have KX := hY w _ Y
  obtain ⟨fd, hb, hF⟩ := F w mg fa _ KX G.T.g hmg
  exact Zh2 KX G.T.g G.T.b G.T.builtins G.T.nolimit hg hobj hints (Nat.le_trans hlen hn2) hr hF hb (fun H hO hS => hsp w H a ns hlen hO hS) fun H e s' => hCX w H s₁ e s'
end L2
namespace L2
open PySem PySem.Spec PyProof.Rows
noncomputable def Zr (s : Stmt) : Arguments := match s with
  | .FunctionDef _ a _ _ _ _ _ _ _ _ => a
  | _ => { posonlyargs := [], args := [], vararg := none, kwonlyargs := [], kw_defaults := [], kwarg := none, defaults := [] }
noncomputable def Zp (s : Stmt) : List Stmt := match s with
  | .FunctionDef _ _ b _ _ _ _ _ _ _ => b
  | _ => []
noncomputable def Zg (s : Stmt) : Scope := match s with
  | .FunctionDef _ _ _ _ _ _ sc _ _ _ => sc
  | _ => { kind := .function, names := [], isGenerator := false, isCoroutine := false }
noncomputable abbrev E0 : XK := fun _ _ _ => False
structure Fun (K : PySem.W.Frag) (x qual : Str) (st : Stmt) (f : Addr) (fd : FuncData) : Prop where
  ex : ∃ (oc : Value) (od : Option Addr) (kV doc pm : Value) (an : Option Addr) (cdv ct : Value) (osl : Array (Option Value)),
    fd = PySem.W.fnOf x qual (Zr st) (Zp st) (Zg st) .none kV doc pm an cdv ct ∧ K.lookup f = some ⟨oc, od, .func fd, osl⟩ ∧ PySem.W.codeIn K cdv qual = true
  kp : PySem.W.keepIn K (.ref f) = true
section
variable {P : Program} {w : World} {K : PySem.W.Frag} {mg : Str → Option Value} {base : Heap}
theorem Fun.binds {x qual : Str} {st : Stmt} {f : Addr} {fd : FuncData} {ps : List Str} (F : Fun K x qual st f fd)
    (h : ∀ (kV doc pm : Value) (an : Option Addr) (cdv ct : Value) (us : List Value), us.length = ps.length → bindArgs (PySem.W.fnOf x qual (Zr st) (Zp st) (Zg st) .none kV doc pm an cdv ct) ⟨us, []⟩ = pure (ps.zip us)) : ZeH K fd ps [] := by
  obtain ⟨oc, od, kV, doc, pm, an, cdv, ct, osl, rfl, lk, hcd⟩ := F.ex
  exact .all (h kV doc pm an cdv ct)
theorem ZD {x qual : Str} {st : Stmt} {f : Addr} {oc : Value} {od an : Option Addr} {osl : Array (Option Value)} {kV doc pm cdv ct : Value} (l : K.lookup f = some ⟨oc, od, .func (PySem.W.fnOf x qual (Zr st) (Zp st) (Zg st) .none kV doc pm an cdv ct), osl⟩)
    (c : PySem.W.codeIn K cdv qual = true) (k : PySem.W.keepIn K (.ref f) = true) : Fun K x qual st f (PySem.W.fnOf x qual (Zr st) (Zp st) (Zg st) .none kV doc pm an cdv ct) := ⟨⟨oc, od, kV, doc, pm, an, cdv, ct, osl, rfl, l, c⟩, k⟩
end
theorem Zgx {n : Nat} (h : n ≤ 1000) : n < sizeLine := Nat.lt_of_le_of_lt h (by decide)
section
variable {X : Cx}
end
theorem Zi4 {A B : Prop} (h : B) : if false = true then A else B := by
  rw [if_neg Bool.false_ne_true]
  exact h
theorem Zi5 {A B : Prop} (h : A) : if true = true then A else B := by
  rw [if_pos rfl]
  exact h
noncomputable def Zqg (H H' : Hp) : Prop := ∀ b o, H b = some o → H' b = some o
theorem Zqg.free {H H' : Hp} (e : Zqg H H') {l : Addr} (h : H' l = Option.none) : H l = Option.none := by
  cases q : H l with
  | none => rfl
  | some o =>
    rw [e l o q] at h
    cases h
end L2
end
section
set_option Elab.async false
set_option linter.all false
set_option maxRecDepth 100000
namespace DQ
open PySem PySem.Spec PyProof.Rows
structure Fly (B : Heap) (l : List Env) (e : Addr) (cls : Value) (dct : Option Addr) (fl : Value) (h : Heap) : Prop where
  stay : B.StaysIn h
  new : B.get? e = none
  frames : h.FunFrames B l
  obj : ∃ oe vs T oT ts, h.get? e = some oe ∧ oe.cls = cls ∧ oe.dict = dct ∧ oe.data = .fields vs ∧ vs[2]? = some .none ∧ vs[1]? = some (.ref T) ∧ B.get? T = none ∧ T ≠ e ∧ h.get? T = some oT ∧ oT.data = .fields ts ∧ ts[3]? = some fl
theorem Fly.tail {B : Heap} {env : Env} {l : List Env} {e : Addr} {cls : Value} {dct : Option Addr} {fl : Value} {h : Heap} (f : Fly B (env :: l) e cls dct fl h) : Fly B l e cls dct fl h := ⟨f.stay, f.new, f.frames.2.2, f.obj⟩
section
variable {M : Model} {A : Around} {E : Value → Shared → Prop} {s : Shared} {B : Heap} {env : Env} {outer l : List Env} {L e : Addr} {cls : Value} {dct : Option Addr} {fl : Value}
theorem apart {h : Heap} {oe : Obj} {vs : Array Value} (hl : h.FunFrames B l) (he : h.get? e = some oe) (hd : oe.data = .fields vs) : e ∉ l.filterMap (·.frame) := fun z => by
  obtain ⟨_, o, h1, h2⟩ := hl.mem z
  rw [he] at h1
  cases h1
  exact h2 vs hd
theorem Zd9 {oe : Obj} {vs : Array Value} {head : Value} {hn : Bool} {Q : Unit → Shared → Prop} (hfr : A.frames = some (env :: outer)) (hl : s.heap.FunFrames B (env :: outer)) (hf : env.frame = some L)
    (he : s.heap.get? e = some oe) (hs : B.StaysIn s.heap) (hb : B.get? e = none) (hd : oe.data = .fields vs) (hz : 2 < vs.size) (h2 : vs[2]? = some .none)
    (h : ∀ h', Fly B (env :: outer) e oe.cls oe.dict (rawInt L) h' → s.heap.UpToSlots h' → Q () { s with heap := h' }) :
    wpAny M A (frameOf env >>= fun a => entryPlaceOf L hn >>= fun pl => EntryCells.newEntry head a .none (rawInt L) .none pl >>= fun b => setField (.ref e) 1 b) Q E s := by
  have ne := apart hl he hd
  refine wpAny_bind (wpAny_frameOf_fun hfr hl hf fun h1 k1 => wpAny_bind (wpAny_entryPlaceOf fun pl hpl => wpAny_bind ?_))
  unfold EntryCells.newEntry newFields
  refine wpAny_newObj_type ?_ (hpl.sizeOk5 _ _ _ _ _)
  generalize hT : ([head, Value.ref L, Value.none, rawInt L, Value.none] ++ (if pl.isEmpty then List.replicate 6 Value.none else pl)).toArray = ts
  have h3 : ts[3]? = some (rawInt L) := by
    rw [← hT]
    rcases hpl with rfl | ⟨_, _, _, _, _, _, _, rfl⟩ <;> simp
  have e1 : h1.get? e = some oe := (k1.2.1 e ne).trans he
  have s1 : B.StaysIn h1 := fun b o hbo => (k1.2.1 b fun z => by rw [(hl.mem z).1] at hbo; cases hbo).trans (hs b o hbo)
  generalize hoT : ({ cls := .type "traceback", dict := none, data := .fields ts } : Obj) = oT
  have dT : oT.data = .fields ts := by rw [← hoT]
  have fT : oT.isFreed = false := Obj.isFreed_of_fields dT
  have e2 : (h1.push oT).get? e = some oe := Heap.get?_push_of_some _ e1
  have nT : h1.objs.size ≠ e := Nat.ne_of_gt (Heap.lt_size e1)
  refine wpAny_setField e2 hd (Nat.lt_trans (by decide) hz) (h _ ?_ ?_)
  · have d3 := Obj.data_mapFields hd (·.setIfInBounds 1 (Value.ref h1.objs.size))
    have e3 := Heap.get?_update_self (Obj.mapFields (·.setIfInBounds 1 (Value.ref h1.objs.size))) e2 (Obj.isFreed_of_fields d3)
    have keep : ∀ b o, b ≠ e → h1.get? b = some o → ((h1.push oT).update e (Obj.mapFields (·.setIfInBounds 1 (Value.ref h1.objs.size)))).get? b = some o := fun b o hbe x => by
      rw [Heap.get?_update_other _ _ (Ne.symm hbe)]
      exact Heap.get?_push_of_some _ x
    have gT : (h1.push oT).get? h1.objs.size = some oT := Heap.get?_push_size _ fT
    refine ⟨fun b o x => keep b o (fun z => by rw [z, hb] at x; cases x) (s1 b o x), hb, hl.of_keeps fun b o x y => ?_, _, _, h1.objs.size, oT, ts, e3, Obj.cls_mapFields _ _, ?_, d3, ?_, ?_, s1.fresh, nT, ?_, dT, h3⟩
    · obtain ⟨sl, z⟩ := k1.2.2 b o x
      exact ⟨_, keep b _ (fun w => y vs (by rw [w, he] at x; cases x; exact hd)) z, rfl⟩
    · obtain ⟨c, d, dd, sl⟩ := oe
      cases hd
      rfl
    · rw [Array.getElem?_setIfInBounds_ne (by decide)]
      exact h2
    · rw [Array.getElem?_setIfInBounds_self_of_lt (Nat.lt_trans (by decide) hz)]
    · rw [Heap.get?_update_other _ _ (Ne.symm nT)]
      exact gT
  · intro b o x y
    obtain ⟨sl, z⟩ := k1.2.2 b o x
    refine ⟨sl, ?_⟩
    rw [Heap.get?_update_other _ _ (fun w => y vs (by rw [← w, he] at x; cases x; exact hd))]
    exact Heap.get?_push_of_some _ z
theorem Zfk {Q : Unit → Shared → Prop} (f : Fly B l e cls dct fl s.heap) (h : ∀ h', Fly B l e cls dct .none h' → s.heap.UpToSlots h' → Q () { s with heap := h' }) : wpAny M A (setFlight (.ref e) none) Q E s := by
  obtain ⟨st, nw, fr, oe, vs, T, oT, ts, g1, g2, g3, g4, g5, g6, g7, g8, g9, g10, g11⟩ := f
  have hz : 3 < ts.size := (Array.getElem?_eq_some_iff.mp g11).1
  unfold setFlight
  refine wpAny_bind (wpAny_field g1 g4 g6 ?_)
  rw [if_pos (by simp)]
  have oth : ∀ b o, b ≠ T → s.heap.get? b = some o → (s.heap.update T (Obj.mapFields (·.setIfInBounds 3 Value.none))).get? b = some o := fun b o hb x => by
    rw [Heap.get?_update_other _ _ (Ne.symm hb)]
    exact x
  have nr : ∀ b o, s.heap.get? b = some o → (∀ vs, o.data ≠ .fields vs) → b ≠ T := fun b o x y z => by
    rw [z, g9] at x
    cases x
    exact y ts g10
  refine wpAny_setField g9 g10 hz (h _ ⟨fun b o x => oth b o (fun z => by rw [z, g7] at x; cases x) (st b o x), nw, fr.of_keeps fun b o x y => ⟨o, oth b o (nr b o x y) x, rfl⟩, ?_⟩ fun b o x y => ⟨o.slots, oth b o (nr b o x y) x⟩)
  exact ⟨oe, vs, T, _, _, oth e oe (Ne.symm g8) g1, g2, g3, g4, g5, g6, g7, g8, Heap.get?_update_self _ g9 (Obj.isFreed_of_fields (Obj.data_mapFields g10 _)), Obj.data_mapFields g10 _, by rw [Array.getElem?_setIfInBounds_self_of_lt hz]; rfl⟩
theorem Zh3 {Q : Unit → Shared → Prop} (hfr : A.frames = some (env :: outer)) (hf : env.frame = some L) (f : Fly B (env :: outer) e cls dct .none s.heap)
    (h : ∀ h', Fly B (env :: outer) e cls dct (rawInt L) h' → s.heap.UpToSlots h' → Q () { s with heap := h' }) : wpAny M A (noteFrame (.ref e) env) Q E s := by
  obtain ⟨st, nw, fr, oe, vs, T, oT, ts, g1, g2, g3, g4, g5, g6, g7, g8, g9, g10, g11⟩ := f
  unfold noteFrame
  simp only [hf]
  refine wpAny_bind (wpAny_field g1 g4 g6 ?_)
  rw [if_pos (by simp)]
  refine wpAny_bind (wpAny_field g9 g10 g11 ?_)
  rw [if_neg (by simp [rawInt])]
  have oth : ∀ b o, b ≠ T → s.heap.get? b = some o → (s.heap.update T (Obj.mapFields (·.setIfInBounds 3 Value.none))).get? b = some o := fun b o hb x => by
    rw [Heap.get?_update_other _ _ (Ne.symm hb)]
    exact x
  have nr : ∀ b o, s.heap.get? b = some o → (∀ vs, o.data ≠ .fields vs) → b ≠ T := fun b o x y z => by
    rw [z, g9] at x
    cases x
    exact y ts g10
  refine wpAny_bind (wpAny_setField g9 g10 (Array.getElem?_eq_some_iff.mp g11).1 ?_)
  refine Zd9 hfr (fr.of_keeps fun b o x y => ⟨o, oth b o (nr b o x y) x, rfl⟩) hf (oth e oe (Ne.symm g8) g1) (fun b o x => oth b o (fun z => by rw [z, g7] at x; cases x) (st b o x)) nw g4 (Array.getElem?_eq_some_iff.mp g5).1 g5 fun h' k1 k2 => h h' (g2 ▸ g3 ▸ k1) ?_
  intro b o x y
  exact k2 b o (oth b o (nr b o x y) x) y
theorem Zgy {Q : Unit → Shared → Prop} (hfr : A.frames = some (env :: outer)) (hf : env.frame = some L) (f : Fly B (env :: outer) e cls dct .none s.heap)
    (h : ∀ h', Fly B outer e cls dct .none h' → s.heap.UpToSlots h' → Q () { s with heap := h' }) : wpAny M A (leaving env (.ref e)) Q E s := by
  unfold leaving
  refine wpAny_bind (Zh3 hfr hf f fun h1 k1 u1 => ?_)
  exact Zfk (s := { s with heap := h1 }) k1 fun h2 k2 u2 => h h2 k2.tail (u1.trans u2)
theorem Zgz {oe : Obj} {vs : Array Value} {Q : Unit → Shared → Prop} (hfr : A.frames = some (env :: outer)) (hf : env.frame = some L) (hl : s.heap.FunFrames B (env :: outer)) (he : s.heap.get? e = some oe) (hs : B.StaysIn s.heap) (hb : B.get? e = none) (hd : oe.data = .fields vs) (h1 : vs[1]? = some .none) (h2 : vs[2]? = some .none)
    (h : ∀ h', Fly B outer e oe.cls oe.dict .none h' → s.heap.UpToSlots h' → Q () { s with heap := h' }) : wpAny M A (leaving env (.ref e)) Q E s := by
  unfold leaving noteFrame
  simp only [hf]
  refine wpAny_bind (wpAny_bind (wpAny_field he hd h1 ?_))
  rw [if_neg (by decide)]
  refine Zd9 hfr hl hf he hs hb hd (Array.getElem?_eq_some_iff.mp h2).1 h2 fun h' k1 u1 => ?_
  exact Zfk (s := { s with heap := h' }) k1 fun h2 k2 u2 => h h2 k2.tail (u1.trans u2)
end
end DQ
end
section
set_option Elab.async false
set_option linter.all false
set_option maxRecDepth 100000
namespace DQ
open PySem PySem.Spec PyProof.Rows
open PySem.W (Looks findIn mroIn specialIn takesIn clsIn looks_findIn looks_mroIn looks_find findObj KitX)
structure ExcC (K : PySem.W.Frag) (C : Addr) : Prop where
  ga : findIn K (.ref C) "__getattribute__" = some (some (.builtin "BaseException.__getattribute__"))
  gt : findIn K (.ref C) "__getattr__" = some none
  cl : findIn K (.ref C) "__class__" = some (some (.builtin "object.__class__"))
  gs : specialIn K (.builtin "object.__class__") "__get__" = some (some (.builtin "getset_descriptor.__get__"))
  tk : takesIn K (.builtin "object.__class__") = some true
  bx : mroIn K C (.type "BaseException") = some true
  ob : mroIn K C (.type "object") = some true
  is : (clsIn K C).isSome = true
section
variable {prog : Program} {w : World} {A : Around} {E : Value → Shared → Prop} {s : Shared} {K : PySem.W.Frag} {e C : Addr} {oe : Obj} {od : Option Obj}
end
end DQ
end
section
set_option Elab.async false
set_option linter.all false
set_option maxRecDepth 100000
set_option maxHeartbeats 4000000
namespace DL
open PySem PySem.Spec PyProof.Rows L2
inductive D where
  | non
  | bl (b : Bool)
  | int (i : Int)
  | str (x : Str)
  | tup (xs : List D)
  | rol (xs : List D)
  | ref (n : Nat)
  | err (c : Str) (xs : List D)
inductive SO where
  | lst (xs : List D)
noncomputable abbrev Sto := List SO
noncomputable abbrev Ro := List (Option D)
noncomputable def SqF (K : PySem.W.Frag) (H : Hp) (a : Addr) (xs : List V) : Prop :=
  (∃ o, H a = some (.frz o (.lst xs))) ∨ ∃ (o : Obj) (its : Array Value) (n : Nat), K.lookup a = some o ∧ o.cls = .type "list" ∧ o.dict = none ∧ o.data = .seq its n ∧ its.size ≤ sizeLine ∧ Z3 xs its.toList
theorem SqF.sq {K : PySem.W.Frag} {H : Hp} {a : Addr} {xs : List V} (h : SqF K H a xs) : SqL K H a xs := by
  rcases h with ⟨o, h⟩ | h
  · exact .inl (.inr ⟨o, h⟩)
  · exact .inr h
noncomputable def EOk (H : Hp) (p C : Addr) (xs : List V) : Prop := ∃ oe u vs, H p = some (.frz oe u) ∧ oe.cls = .ref C ∧ oe.data = .fields vs ∧ vs[2]? = some .none ∧ ((xs = [] ∧ oe.dict = none) ∨ ∃ dx fs, oe.dict = some dx ∧ H dx = some (.xd fs) ∧ fs.map (·.2) = xs)
mutual
inductive Rep (K : PySem.W.Frag) (H : Hp) (α : List Addr) : V → D → Prop where
  | non : Rep K H α .non .non
  | bl (b : Bool) : Rep K H α (.bl b) (.bl b)
  | int (i : Int) : Rep K H α (.int i) (.int i)
  | str (x : Str) : Rep K H α (.str x) (.str x)
  | tup {p : Addr} {xs : List V} {ds : List D} : SqT K H p xs → Reps K H α xs ds → Rep K H α (.ref p) (.tup ds)
  | rol {p : Addr} {xs : List V} {ds : List D} : SqF K H p xs → Reps K H α xs ds → Rep K H α (.ref p) (.rol ds)
  | ref {p : Addr} {n : Nat} : α[n]? = some p → Rep K H α (.ref p) (.ref n)
  | err {p C : Addr} {c : Str} {xs : List V} {ds : List D} : PySem.W.nsIn K mainGlobals c = some (some (.ref C)) → EOk H p C xs → Reps K H α xs ds → Rep K H α (.ref p) (.err c ds)
inductive Reps (K : PySem.W.Frag) (H : Hp) (α : List Addr) : List V → List D → Prop where
  | nil : Reps K H α [] []
  | cons {v : V} {d : D} {vs : List V} {ds : List D} : Rep K H α v d → Reps K H α vs ds → Reps K H α (v :: vs) (d :: ds)
end
structure Ext (K : PySem.W.Frag) (H H' : Hp) (α α' : List Addr) : Prop where
  tup : ∀ p xs, SqT K H p xs → SqT K H' p xs
  rol : ∀ p xs, SqF K H p xs → SqF K H' p xs
  err : ∀ p C xs, EOk H p C xs → EOk H' p C xs
  al : ∃ β, α' = α ++ β
section
variable {K : PySem.W.Frag} {H H1 H2 H' : Hp} {α α1 α2 α' : List Addr}
theorem Ext.refl : Ext K H H α α := ⟨fun _ _ h => h, fun _ _ h => h, fun _ _ _ h => h, [], (List.append_nil _).symm⟩
theorem Ext.trans (a : Ext K H H1 α α1) (b : Ext K H1 H2 α1 α2) : Ext K H H2 α α2 := by
  obtain ⟨b1, e1⟩ := a.al
  obtain ⟨b2, e2⟩ := b.al
  exact ⟨fun p xs h => b.tup p xs (a.tup p xs h), fun p xs h => b.rol p xs (a.rol p xs h), fun p C xs h => b.err p C xs (a.err p C xs h), b1 ++ b2, by rw [e2, e1, List.append_assoc]⟩
theorem Ext.get (e : Ext K H H' α α') {n : Nat} {p : Addr} (h : α[n]? = some p) : α'[n]? = some p := by
  obtain ⟨β, e1⟩ := e.al
  have hl : n < α.length := (List.getElem?_eq_some_iff.mp h).1
  rw [e1, List.getElem?_append_left hl]
  exact h
mutual
theorem Rep.mono (e : Ext K H H' α α') : ∀ {v : V} {d : D}, Rep K H α v d → Rep K H' α' v d
  | _, _, .non => .non
  | _, _, .bl b => .bl b
  | _, _, .int i => .int i
  | _, _, .str x => .str x
  | _, _, .tup h r => .tup (e.tup _ _ h) (Reps.mono e r)
  | _, _, .rol h r => .rol (e.rol _ _ h) (Reps.mono e r)
  | _, _, .ref h => .ref (e.get h)
  | _, _, .err n h r => .err n (e.err _ _ _ h) (Reps.mono e r)
theorem Reps.mono (e : Ext K H H' α α') : ∀ {vs : List V} {ds : List D}, Reps K H α vs ds → Reps K H' α' vs ds
  | _, _, .nil => .nil
  | _, _, .cons r t => .cons (Rep.mono e r) (Reps.mono e t)
end
theorem Reps.length : ∀ {vs : List V} {ds : List D}, Reps K H α vs ds → vs.length = ds.length
  | _, _, .nil => rfl
  | _, _, .cons _ t => by rw [List.length_cons, List.length_cons, Reps.length t]
theorem Reps.get : ∀ {vs : List V} {ds : List D} {i : Nat} {d : D}, Reps K H α vs ds → ds[i]? = some d → ∃ v, vs[i]? = some v ∧ Rep K H α v d
  | _, _, _, _, .nil, e => by simp at e
  | _, _, 0, _, .cons r _, e => by simp at e; subst e; exact ⟨_, rfl, r⟩
  | _, _, i + 1, d, .cons _ t, e => by
    obtain ⟨u, h1, h2⟩ := Reps.get (i := i) (d := d) t (by simpa using e)
    exact ⟨u, by simpa using h1, h2⟩
theorem Reps.set {v : V} {d : D} (r : Rep K H α v d) : ∀ {vs : List V} {ds : List D} (i : Nat), Reps K H α vs ds → Reps K H α (vs.set i v) (ds.set i d)
  | _, _, _, .nil => .nil
  | _, _, 0, .cons _ t => .cons r t
  | _, _, i + 1, .cons q t => .cons q (Reps.set r i t)
theorem Reps.append : ∀ {vs ws : List V} {ds es : List D}, Reps K H α vs ds → Reps K H α ws es → Reps K H α (vs ++ ws) (ds ++ es)
  | _, _, _, _, .nil, s => s
  | _, _, _, _, .cons r t, s => .cons r (Reps.append t s)
theorem Reps.ints : ∀ (ns : List Int), Reps K H α (ns.map V.int) (ns.map D.int)
  | [] => .nil
  | n :: r => .cons (.int n) (Reps.ints r)
theorem ZgA {p q : Addr} {xs : List V} {o : HO} (h : SqT K H q xs) (hp : ∀ u, H p = some u → (∀ ys, u ≠ .tup ys) ∧ ∀ ob w, u ≠ .frz ob w) : SqT K (upd H p o) q xs := by
  rcases h with (h | ⟨ob, h⟩) | h
  · refine .inl (.inl ?_)
    rw [ZR (fun e => (hp _ (e ▸ h)).1 _ rfl)]
    exact h
  · refine .inl (.inr ⟨ob, ?_⟩)
    rw [ZR (fun e => (hp _ (e ▸ h)).2 _ _ rfl)]
    exact h
  · exact .inr h
theorem ZgB {p q : Addr} {xs : List V} {o : HO} (h : SqF K H q xs) (hp : ∀ u, H p = some u → ∀ ob w, u ≠ .frz ob w) : SqF K (upd H p o) q xs := by
  rcases h with ⟨ob, h⟩ | h
  · refine .inl ⟨ob, ?_⟩
    rw [ZR (fun e => hp _ (e ▸ h) _ _ rfl)]
    exact h
  · exact .inr h
theorem ZgC {p q C : Addr} {xs : List V} {o : HO} (h : EOk H q C xs) (hp : ∀ u, H p = some u → (∀ ob w, u ≠ .frz ob w) ∧ ∀ fs, u ≠ .xd fs) : EOk (upd H p o) q C xs := by
  obtain ⟨oe, u, vs, h1, h2, h3, h4, h5⟩ := h
  refine ⟨oe, u, vs, ?_, h2, h3, h4, ?_⟩
  · rw [ZR (fun e => (hp _ (e ▸ h1)).1 _ _ rfl)]
    exact h1
  · rcases h5 with h5 | ⟨dx, fs, k1, k2, k3⟩
    · exact .inl h5
    · refine .inr ⟨dx, fs, k1, ?_, k3⟩
      rw [ZR (fun e => (hp _ (e ▸ k2)).2 _ rfl)]
      exact k2
theorem Ext.new {p : Addr} {o : HO} (h : H p = none) {β : List Addr} : Ext K H (upd H p o) α (α ++ β) :=
  ⟨fun q xs z => ZgA z (fun u e => (by rw [h] at e; cases e)), fun q xs z => ZgB z (fun u e => (by rw [h] at e; cases e)), fun q C xs z => ZgC z (fun u e => (by rw [h] at e; cases e)), β, rfl⟩
theorem Ext.new0 {p : Addr} {o : HO} (h : H p = none) : Ext K H (upd H p o) α α := by
  have e := Ext.new (K := K) (H := H) (α := α) (o := o) h (β := [])
  rw [List.append_nil] at e
  exact e
theorem Ext.wr {p : Addr} {o : HO} {xs : List V} (h : H p = some (.lst xs)) : Ext K H (upd H p o) α α :=
  ⟨fun q xs z => ZgA z (fun u e => (by rw [h] at e; cases e; exact ⟨fun ys z => (nomatch z), fun ob w z => (nomatch z)⟩)), fun q xs z => ZgB z (fun u e => (by rw [h] at e; cases e; exact fun ob w z => (nomatch z))), fun q C xs z => ZgC z (fun u e => (by rw [h] at e; cases e; exact ⟨fun ob w z => (nomatch z), fun fs z => (nomatch z)⟩)), [], (List.append_nil _).symm⟩
noncomputable def SOk (K : PySem.W.Frag) (H : Hp) (α : List Addr) (p : Addr) : SO → Prop
  | .lst ds => ∃ xs, H p = some (.lst xs) ∧ Reps K H α xs ds
structure HR (K : PySem.W.Frag) (H : Hp) (α : List Addr) (M : Sto) : Prop where
  len : α.length = M.length
  nd : α.Nodup
  ob : ∀ (n : Nat) (p : Addr) (o : SO), α[n]? = some p → M[n]? = some o → SOk K H α p o
theorem HR.nil : HR K H [] [] := ⟨rfl, List.nodup_nil, fun n p o h => by simp at h⟩
theorem HR.at (h : HR K H α M) {n : Nat} {p : Addr} {ds : List D} (e : α[n]? = some p) (m : M[n]? = some (.lst ds)) : ∃ xs, H p = some (.lst xs) ∧ Reps K H α xs ds := h.ob n p _ e m
theorem HR.some_at {M : Sto} (h : HR K H α M) {n : Nat} {p : Addr} (e : α[n]? = some p) : ∃ xs, H p = some (.lst xs) := by
  have hl : n < α.length := (List.getElem?_eq_some_iff.mp e).1
  have hm : n < M.length := by rw [← h.len]; exact hl
  have q := h.ob n p M[n] e (List.getElem?_eq_getElem hm)
  cases r : M[n] with
  | lst ds =>
    rw [r] at q
    obtain ⟨xs, q, _⟩ := q
    exact ⟨xs, q⟩
theorem HR.tup {M : Sto} {p : Addr} {o : HO} (h : HR K H α M) (hp : H p = none) : HR K (upd H p o) α M :=
  ⟨h.len, h.nd, fun n q so e m => by
    cases so with
    | lst ds =>
      obtain ⟨xs, h1, h2⟩ := h.ob n q _ e m
      exact ⟨xs, by rw [ZR (Zad h1 hp)]; exact h1, Reps.mono (Ext.new0 hp) h2⟩⟩
theorem HR.new {M : Sto} {p : Addr} {xs : List V} {ds : List D} (h : HR K H α M) (hp : H p = none) (r : Reps K H α xs ds) : HR K (upd H p (.lst xs)) (α ++ [p]) (M ++ [.lst ds]) := by
  have ex : Ext K H (upd H p (.lst xs)) α (α ++ [p]) := Ext.new hp
  refine ⟨by rw [List.length_append, List.length_append, h.len]; rfl, ?_, fun n q so e m => ?_⟩
  · refine List.nodup_append.mpr ⟨h.nd, by simp, fun a ha b hb => ?_⟩
    have hb' : b = p := by simpa using hb
    obtain ⟨n, hn, e⟩ := List.getElem_of_mem ha
    obtain ⟨xs, z⟩ := h.some_at (n := n) (p := a) (by rw [List.getElem?_eq_getElem hn, e])
    rw [hb']
    exact Zad z hp
  · by_cases hn : n < α.length
    · rw [List.getElem?_append_left hn] at e
      rw [List.getElem?_append_left (by rw [← h.len]; exact hn)] at m
      cases so with
      | lst es =>
        obtain ⟨ys, h1, h2⟩ := h.ob n q _ e m
        exact ⟨ys, by rw [ZR (Zad h1 hp)]; exact h1, Reps.mono ex h2⟩
    · have en : n = α.length := by
        have : n < (α ++ [p]).length := (List.getElem?_eq_some_iff.mp e).1
        rw [List.length_append, List.length_singleton] at this
        omega
      subst en
      rw [List.getElem?_append_right (Nat.le_refl _), Nat.sub_self] at e
      rw [h.len, List.getElem?_append_right (Nat.le_refl _), Nat.sub_self] at m
      cases e
      cases m
      exact ⟨xs, ZaH, Reps.mono ex r⟩
theorem Zh4 {n m : Nat} {p : Addr} (h : α.Nodup) (a : α[n]? = some p) (b : α[m]? = some p) : n = m := by
  obtain ⟨h1, e1⟩ := List.getElem?_eq_some_iff.mp a
  obtain ⟨h2, e2⟩ := List.getElem?_eq_some_iff.mp b
  exact (List.getElem_inj h).mp (e1.trans e2.symm)
theorem HR.wr {M : Sto} {n : Nat} {p : Addr} {xs ys : List V} {ds : List D} (h : HR K H α M) (e : α[n]? = some p) (hp : H p = some (.lst ys)) (r : Reps K H α xs ds) : HR K (upd H p (.lst xs)) α (M.set n (.lst ds)) := by
  have ex : Ext K H (upd H p (.lst xs)) α α := Ext.wr hp
  have hn : n < M.length := by rw [← h.len]; exact (List.getElem?_eq_some_iff.mp e).1
  refine ⟨by rw [List.length_set]; exact h.len, h.nd, fun k q so e' m => ?_⟩
  by_cases hk : k = n
  · subst hk
    rw [e] at e'
    cases e'
    rw [List.getElem?_set_self hn] at m
    cases m
    exact ⟨xs, ZaH, Reps.mono ex r⟩
  · rw [List.getElem?_set_ne (Ne.symm hk)] at m
    cases so with
    | lst es =>
      obtain ⟨zs, h1, h2⟩ := h.ob k q _ e' m
      have hq : q ≠ p := fun z => hk (Zh4 h.nd (z ▸ e') e)
      exact ⟨zs, by rw [ZR hq]; exact h1, Reps.mono ex h2⟩
end
inductive Out (β : Type) where
  | ok (a : β) (M : Sto)
  | exc (c : Str) (M : Sto)
  | bad
noncomputable def Out.bind {β γ : Type} (o : Out β) (f : β → Sto → Out γ) : Out γ := match o with
  | .ok a M => f a M
  | .exc c M => .exc c M
  | .bad => .bad
inductive Fl where
  | nx (ρ : Ro) (M : Sto)
  | ret (d : D) (M : Sto)
  | brk (ρ : Ro) (M : Sto)
  | cnt (ρ : Ro) (M : Sto)
  | exc (c : Str) (M : Sto)
  | bad
noncomputable def OG {β γ : Type} (K : PySem.W.Frag) (R : Hp → List Addr → γ → β → Prop) (H : Hp) (α : List Addr) (ξ : XK) (Q : γ → Hp → Prop) : Out β → Prop
  | .ok d M' => ∀ v H' α', Ext K H H' α α' → HR K H' α' M' → R H' α' v d → Q v H'
  | .exc c M' => ∀ C H' α', PySem.W.nsIn K mainGlobals c = some (some (.ref C)) → Ext K H H' α α' → HR K H' α' M' → ξ (.ref C) none H'
  | .bad => False
theorem OG.ext {β γ : Type} {K : PySem.W.Frag} {R : Hp → List Addr → γ → β → Prop} {H H1 : Hp} {α α1 : List Addr} {ξ : XK} {Q : γ → Hp → Prop} {o : Out β} (h : OG K R H α ξ Q o) (e : Ext K H H1 α α1) : OG K R H1 α1 ξ Q o := by
  cases o with
  | ok d M' => exact fun v H' α' e' => h v H' α' (e.trans e')
  | exc c M' => exact fun C H' α' n e' => h C H' α' n (e.trans e')
  | bad => exact h
noncomputable abbrev OP (K : PySem.W.Frag) := OG K (Rep K)
noncomputable abbrev OT (K : PySem.W.Frag) := OG (β := Bool) (γ := Bool) K (fun _ _ v d => v = d)
noncomputable abbrev OA (K : PySem.W.Frag) := OG K (Reps K)
noncomputable def SR (K : PySem.W.Frag) (H : Hp) (α : List Addr) (σ : L2.St) (ρ : Ro) : Prop := σ.length = ρ.length ∧ ∀ (i : Nat) (d : D), ρ[i]? = some (some d) → ∃ v, σ[i]? = some (some v) ∧ Rep K H α v d
theorem SR.mono {K : PySem.W.Frag} {H H' : Hp} {α α' : List Addr} {σ : L2.St} {ρ : Ro} (h : SR K H α σ ρ) (e : Ext K H H' α α') : SR K H' α' σ ρ :=
  ⟨h.1, fun i d q => let ⟨v, a, b⟩ := h.2 i d q; ⟨v, a, Rep.mono e b⟩⟩
theorem SR.set {K : PySem.W.Frag} {H : Hp} {α : List Addr} {σ : L2.St} {ρ : Ro} {v : V} {d : D} (h : SR K H α σ ρ) (i : Nat) (r : Rep K H α v d) : SR K H α (σ.set i (some v)) (ρ.set i (some d)) := by
  refine ⟨by rw [List.length_set, List.length_set]; exact h.1, fun j e q => ?_⟩
  by_cases hj : j = i
  · subst hj
    have hl : j < ρ.length := by
      have := (List.getElem?_eq_some_iff.mp q).1
      rw [List.length_set] at this
      exact this
    rw [List.getElem?_set_self hl] at q
    cases q
    exact ⟨v, by rw [List.getElem?_set_self (by rw [h.1]; exact hl)], r⟩
  · rw [List.getElem?_set_ne (Ne.symm hj)] at q
    rw [List.getElem?_set_ne (Ne.symm hj)]
    exact h.2 j e q
noncomputable abbrev Ev := Ro → Sto → Out D
noncomputable abbrev Tv := Ro → Sto → Out Bool
noncomputable abbrev Av := Ro → Sto → Out (List D)
noncomputable abbrev Sv := Ro → Sto → Fl
noncomputable def DE (X : Cx) (ξ : XK) (e : Expr) (f : Ev) : Prop := ∃ t : TE, PE X e t ∧ ∀ σ ρ H α M Q, SR X.K H α σ ρ → HR X.K H α M → OP X.K H α ξ Q (f ρ M) → t σ H Q
noncomputable def DT (X : Cx) (ξ : XK) (e : Expr) (f : Tv) : Prop := ∃ t : TT, PT X e t ∧ ∀ σ ρ H α M Q, SR X.K H α σ ρ → HR X.K H α M → OT X.K H α ξ Q (f ρ M) → t σ H Q
noncomputable def DW (X : Cx) (ξ : XK) (e : Expr) (f : Tv) : Prop := ∃ t : TT, PW X e t ∧ ∀ σ ρ H α M Q, SR X.K H α σ ρ → HR X.K H α M → OT X.K H α ξ Q (f ρ M) → t σ H Q
noncomputable def DA (X : Cx) (ξ : XK) (es : List Expr) (f : Av) : Prop := ∃ t : TA, PA X es t ∧ ∀ σ ρ H α M Q, SR X.K H α σ ρ → HR X.K H α M → OA X.K H α ξ Q (f ρ M) → t σ H Q
theorem OG.seq {β γ β' γ' : Type} {K : PySem.W.Frag} {R : Hp → List Addr → γ → β → Prop} {R' : Hp → List Addr → γ' → β' → Prop} {H : Hp} {α : List Addr} {ξ : XK} {Q : γ' → Hp → Prop} {Q1 : γ → Hp → Prop} {o : Out β} {f : β → Sto → Out β'}
    (h : OG K R' H α ξ Q (o.bind f)) (k : ∀ d M' v H' α', Ext K H H' α α' → HR K H' α' M' → R H' α' v d → OG K R' H' α' ξ Q (f d M') → Q1 v H') : OG K R H α ξ Q1 o := by
  cases o with
  | ok d M' => exact fun v H' α' e hr r => k d M' v H' α' e hr r (OG.ext (o := f d M') h e)
  | exc c M' => exact h
  | bad => exact h
section
variable {X : Cx} {ξ : XK} {a b e : Expr} {fa fb : Ev} {pos : Pos}
noncomputable def Zd (i : Nat) : Ev := fun ρ M => match ρ[i]? with | some (some d) => .ok d M | _ => .bad
noncomputable def eC (d : D) : Ev := fun _ M => .ok d M
theorem Zc (i : Nat) {x : Str} (hN : X.N[i]? = some x := by rfl) (hv : Vis X.env.scope x := by first | exact Or.inl rfl | exact Or.inr (Or.inl rfl) | exact Or.inr (Or.inr rfl)) (hd : (x == ("__debug__" : Str)) = false := by decide)
    (hcd : (x == ("__classdict__" : Str)) = false := by decide) : DE X ξ (.Name x pos) (Zd i) := by
  refine ⟨_, Zli hN hv hd hcd, fun σ ρ H α M Q s h q => ?_⟩
  unfold Zd at q
  cases e : ρ[i]? with
  | none => rw [e] at q; exact q.elim
  | some o =>
    cases o with
    | none => rw [e] at q; exact q.elim
    | some d =>
      rw [e] at q
      obtain ⟨v, h1, h2⟩ := s.2 i d e
      exact ⟨v, h1, q v H α Ext.refl h h2⟩
theorem Ze {i : Int} {j pos} : DE X ξ (.Constant (.int i) j pos) (eC (.int i)) := ⟨_, Zlj, fun _ _ H α M _ _ h q => q _ H α Ext.refl h (.int i)⟩
theorem ZcR {i : Bool} {j pos} : DE X ξ (.Constant (.bool i) j pos) (eC (.bl i)) := ⟨_, Zob, fun _ _ H α M _ _ h q => q _ H α Ext.refl h (.bl i)⟩
theorem Zi6 {j pos} : DE X ξ (.Constant .none j pos) (eC .non) := ⟨_, Zlk, fun _ _ H α M _ _ h q => q _ H α Ext.refl h .non⟩
theorem Zcz {x : Str} {j pos} : DE X ξ (.Constant (.str x) j pos) (eC (.str x)) := ⟨_, Zll, fun _ _ H α M _ _ h q => q _ H α Ext.refl h (.str x)⟩
noncomputable abbrev Bo := D → D → Sto → Out D
noncomputable def e2 (f : Bo) (fa fb : Ev) : Ev := fun ρ M => (fa ρ M).bind fun x M1 => (fb ρ M1).bind fun y M2 => f x y M2
noncomputable def BO (X : Cx) (ξ : XK) (r : R2) (f : Bo) : Prop := ∀ H α M v w x y Q, HR X.K H α M → Rep X.K H α v x → Rep X.K H α w y → OP X.K H α ξ Q (f x y M) → r v w H Q
theorem two {r : R2} {f : Bo} (hb : BO X ξ r f) {ta tb : TE} (qa : ∀ σ ρ H α M Q, SR X.K H α σ ρ → HR X.K H α M → OP X.K H α ξ Q (fa ρ M) → ta σ H Q)
    (qb : ∀ σ ρ H α M Q, SR X.K H α σ ρ → HR X.K H α M → OP X.K H α ξ Q (fb ρ M) → tb σ H Q) : ∀ σ ρ H α M Q, SR X.K H α σ ρ → HR X.K H α M → OP X.K H α ξ Q (e2 f fa fb ρ M) → tOp r ta tb σ H Q := by
  intro σ ρ H α M Q s h q
  refine qa σ ρ H α M _ s h (OG.seq q fun x M1 v H1 α1 e1 h1 r1 q1 => ?_)
  refine qb σ ρ H1 α1 M1 _ (s.mono e1) h1 (OG.seq q1 fun y M2 w H2 α2 e2 h2 r2 q2 => ?_)
  exact hb H2 α2 M2 v w x y Q h2 (Rep.mono e2 r1) r2 q2
theorem ZfO {op : Operator} {r : R2} {f : Bo} (ho : OpR X (binaryOp op) r) (hf : BO X ξ r f) (ha : DE X ξ a fa) (hb : DE X ξ b fb) : DE X ξ (.BinOp a op b pos) (e2 f fa fb) := by
  obtain ⟨ta, ha, qa⟩ := ha
  obtain ⟨tb, hb, qb⟩ := hb
  exact ⟨_, Zok ho ha hb, two hf qa qb⟩
theorem Zdi {op : CmpOp} {r : R2} {f : Bo} (ho : OpR X (compareOp op) r) (hf : BO X ξ r f) (ha : DE X ξ a fa) (hb : DE X ξ b fb) (hm : behindInMarks op b = false := by first | exact Zi1 _ | with_unfolding_all rfl) : DE X ξ (.Compare a [op] [b] pos) (e2 f fa fb) := by
  obtain ⟨ta, ha, qa⟩ := ha
  obtain ⟨tb, hb, qb⟩ := hb
  exact ⟨_, ZjR ho ha hb hm, two hf qa qb⟩
noncomputable def tv (f : Ev) : Tv := fun ρ M => (f ρ M).bind fun x M1 => match x with | .bl k => .ok k M1 | _ => .bad
theorem ZlM {t : TE} {f : Ev} (qa : ∀ σ ρ H α M Q, SR X.K H α σ ρ → HR X.K H α M → OP X.K H α ξ Q (f ρ M) → t σ H Q) : ∀ σ ρ H α M Q, SR X.K H α σ ρ → HR X.K H α M → OT X.K H α ξ Q (tv f ρ M) → ZlC t σ H Q := by
  intro σ ρ H α M Q s h q
  refine qa σ ρ H α M _ s h (OG.seq q fun x M1 v H1 α1 e1 h1 r1 q1 => ?_)
  cases r1 with
  | bl k => exact ⟨k, rfl, q1 k H1 α1 Ext.refl h1 rfl⟩
  | _ => exact q1.elim
theorem ZS {op : CmpOp} {r : R2} {f : Bo} (ho : OpR X (compareOp op) r) (hf : BO X ξ r f) (ha : DE X ξ a fa) (hb : DE X ξ b fb) (hm : behindInMarks op b = false := by first | exact Zi1 _ | with_unfolding_all rfl) : DT X ξ (.Compare a [op] [b] pos) (tv (e2 f fa fb)) := by
  obtain ⟨ta, ha, qa⟩ := ha
  obtain ⟨tb, hb, qb⟩ := hb
  exact ⟨_, ZjS ho ha hb hm, ZlM (two hf qa qb)⟩
theorem ZbX (h : DE X ξ e fa) (he : ∀ whole, isTrue e X.env whole = (do let v ← whole; standAt e.pos; holding [v] (truthy v)) := by intro _; rfl) : DT X ξ e (tv fa) := by
  obtain ⟨ta, ha, qa⟩ := h
  exact ⟨_, Zlm ha he, ZlM qa⟩
variable {ga gb : Tv} {rest : List Expr}
noncomputable def ZfP (f g : Tv) : Tv := fun ρ M => (f ρ M).bind fun k M1 => if k = true then g ρ M1 else .ok false M1
noncomputable def Zfl (f g : Tv) : Tv := fun ρ M => (f ρ M).bind fun k M1 => if k = true then .ok true M1 else g ρ M1
noncomputable def Zcc (f : Tv) : Tv := fun ρ M => (f ρ M).bind fun k M1 => .ok (!k) M1
theorem Zj3 (ha : DT X ξ a ga) : DW X ξ (.BoolOp .And [a] pos) ga := let ⟨_, h, q⟩ := ha; ⟨_, pw_and1 h, q⟩
theorem Zdj (ha : DT X ξ a ga) : DW X ξ (.BoolOp .Or [a] pos) ga := let ⟨_, h, q⟩ := ha; ⟨_, pw_or1 h, q⟩
theorem ZlN (ha : DT X ξ a ga) (hb : DW X ξ (.BoolOp .And (b :: rest) pos) gb) : DW X ξ (.BoolOp .And (a :: b :: rest) pos) (ZfP ga gb) := by
  obtain ⟨ta, ha, qa⟩ := ha
  obtain ⟨tb, hb, qb⟩ := hb
  refine ⟨_, pw_and ha hb, fun σ ρ H α M Q s h q => ?_⟩
  refine qa σ ρ H α M _ s h (OG.seq q fun k M1 v H1 α1 e1 h1 r1 q1 => ?_)
  cases r1
  cases k with
  | true => exact Zi5 (qb σ ρ H1 α1 M1 Q (s.mono e1) h1 q1)
  | false => exact Zi4 (q1 false H1 α1 Ext.refl h1 rfl)
theorem Zdy (ha : DT X ξ a ga) (hb : DW X ξ (.BoolOp .Or (b :: rest) pos) gb) : DW X ξ (.BoolOp .Or (a :: b :: rest) pos) (Zfl ga gb) := by
  obtain ⟨ta, ha, qa⟩ := ha
  obtain ⟨tb, hb, qb⟩ := hb
  refine ⟨_, pw_or ha hb, fun σ ρ H α M Q s h q => ?_⟩
  refine qa σ ρ H α M _ s h (OG.seq q fun k M1 v H1 α1 e1 h1 r1 q1 => ?_)
  cases r1
  cases k with
  | true => exact Zi5 (q1 true H1 α1 Ext.refl h1 rfl)
  | false => exact Zi4 (qb σ ρ H1 α1 M1 Q (s.mono e1) h1 q1)
theorem Zj4 (h : DW X ξ e ga) : DT X ξ e ga := let ⟨_, h, q⟩ := h; ⟨_, h.pt, q⟩
theorem ZcS (ha : DT X ξ a ga) : DT X ξ (.UnaryOp .Not a pos) (Zcc ga) := by
  obtain ⟨ta, ha, qa⟩ := ha
  refine ⟨_, Zln ha, fun σ ρ H α M Q s h q => ?_⟩
  refine qa σ ρ H α M _ s h (OG.seq q fun k M1 v H1 α1 e1 h1 r1 q1 => ?_)
  cases r1
  exact q1 (!k) H1 α1 Ext.refl h1 rfl
noncomputable def ZfQ (f g : Ev) : Ev := fun ρ M => (f ρ M).bind fun x M1 => match x with | .bl k => if k = true then g ρ M1 else .ok (.bl false) M1 | _ => .bad
noncomputable def Zou (f g : Ev) : Ev := fun ρ M => (f ρ M).bind fun x M1 => match x with | .bl k => if k = true then .ok (.bl true) M1 else g ρ M1 | _ => .bad
noncomputable def ZfR (f : Ev) : Ev := fun ρ M => (f ρ M).bind fun x M1 => match x with | .bl k => .ok (.bl (!k)) M1 | _ => .bad
theorem ZlO {op} (ha : DE X ξ a fa) : DE X ξ (.BoolOp op [a] pos) fa := let ⟨_, h, q⟩ := ha; ⟨_, Zlo h, q⟩
theorem ZlP (ha : DE X ξ a fa) (hb : DE X ξ (.BoolOp .And (b :: rest) pos) fb) : DE X ξ (.BoolOp .And (a :: b :: rest) pos) (ZfQ fa fb) := by
  obtain ⟨ta, ha, qa⟩ := ha
  obtain ⟨tb, hb, qb⟩ := hb
  refine ⟨_, Zlp ha hb, fun σ ρ H α M Q s h q => ?_⟩
  refine qa σ ρ H α M _ s h (OG.seq q fun x M1 v H1 α1 e1 h1 r1 q1 => ?_)
  cases r1 with
  | bl k =>
    refine ⟨k, rfl, ?_⟩
    cases k with
    | true => exact Zi5 (qb σ ρ H1 α1 M1 Q (s.mono e1) h1 q1)
    | false => exact Zi4 (q1 _ H1 α1 Ext.refl h1 (.bl false))
  | _ => exact q1.elim
theorem ZlQ (ha : DE X ξ a fa) : DE X ξ (.UnaryOp .Not a pos) (ZfR fa) := by
  obtain ⟨ta, ha, qa⟩ := ha
  refine ⟨_, Zlq ha, fun σ ρ H α M Q s h q => ?_⟩
  refine qa σ ρ H α M _ s h (OG.seq q fun x M1 v H1 α1 e1 h1 r1 q1 => ?_)
  cases r1 with
  | bl k => exact ⟨k, rfl, q1 _ H1 α1 Ext.refl h1 (.bl (!k))⟩
  | _ => exact q1.elim
noncomputable def eIf (c : Tv) (f g : Ev) : Ev := fun ρ M => (c ρ M).bind fun k M1 => if k = true then f ρ M1 else g ρ M1
variable {es : List Expr} {fs : Av}
noncomputable def aNil : Av := fun _ M => .ok [] M
noncomputable def Zb (f : Ev) (g : Av) : Av := fun ρ M => (f ρ M).bind fun x M1 => (g ρ M1).bind fun xs M2 => .ok (x :: xs) M2
theorem Zf : DA X ξ [] aNil := ⟨_, Zi2, fun _ _ H α M _ _ h q => q _ H α Ext.refl h .nil⟩
theorem Za (ha : DE X ξ e fa) (hr : DA X ξ es fs) (hs : starEach (e :: es) X.env = (false, eval e X.env) :: starEach es X.env := by rfl) : DA X ξ (e :: es) (Zb fa fs) := by
  obtain ⟨ta, ha, qa⟩ := ha
  obtain ⟨tb, hb, qb⟩ := hr
  refine ⟨_, ZeG ha hb hs, fun σ ρ H α M Q s h q => ?_⟩
  refine qa σ ρ H α M _ s h (OG.seq q fun x M1 v H1 α1 e1 h1 r1 q1 => ?_)
  refine qb σ ρ H1 α1 M1 _ (s.mono e1) h1 (OG.seq q1 fun y M2 w H2 α2 e2 h2 r2 q2 => ?_)
  exact q2 _ H2 α2 Ext.refl h2 (.cons (Rep.mono e2 r1) r2)
noncomputable def Zal (f : Av) : Ev := fun ρ M => (f ρ M).bind fun xs M1 => if xs.length ≤ 1000 then .ok (.tup xs) M1 else .bad
noncomputable def Zbb (f : Av) : Ev := fun ρ M => (f ρ M).bind fun xs M1 => if xs.length ≤ 1000 then .ok (.ref M1.length) (M1 ++ [.lst xs]) else .bad
theorem Zj5 {n : Nat} (h : n ≤ 1000) : n ≤ sizeLine := Nat.le_of_lt (Zgx h)
theorem ZJ {x1} (ha : DA X ξ es fs) : DE X ξ (.Tuple es x1 pos) (Zal fs) := by
  obtain ⟨ta, ha, qa⟩ := ha
  refine ⟨_, ZlD ha, fun σ ρ H α M Q s h q => ?_⟩
  refine qa σ ρ H α M _ s h (OG.seq q fun xs M1 vs H1 α1 e1 h1 r1 q1 => ?_)
  by_cases hl : xs.length ≤ 1000
  · rw [if_pos hl] at q1
    refine ⟨by rw [r1.length]; exact Zj5 hl, fun p hp => q1 _ _ α1 (Ext.new0 hp) (h1.tup hp) (.tup (.inl (.inl ZaH)) (Reps.mono (Ext.new0 hp) r1))⟩
  · rw [if_neg hl] at q1
    exact q1.elim
theorem HR.last {K : PySem.W.Frag} {H : Hp} {α : List Addr} {M : Sto} (h : HR K H α M) (p : Addr) : (α ++ [p])[M.length]? = some p := by
  rw [← h.len, List.getElem?_append_right (Nat.le_refl _), Nat.sub_self]
  rfl
theorem Zam (ha : DA X ξ es fs) : DE X ξ (.List es pos) (Zbb fs) := by
  obtain ⟨ta, ha, qa⟩ := ha
  refine ⟨_, ZlE ha, fun σ ρ H α M Q s h q => ?_⟩
  refine qa σ ρ H α M _ s h (OG.seq q fun xs M1 vs H1 α1 e1 h1 r1 q1 => ?_)
  by_cases hl : xs.length ≤ 1000
  · rw [if_pos hl] at q1
    refine ⟨by rw [r1.length]; exact Zj5 hl, fun p hp => q1 _ _ (α1 ++ [p]) (Ext.new hp) (h1.new hp r1) (.ref (h1.last p))⟩
  · rw [if_neg hl] at q1
    exact q1.elim
end
end DL
end
section
set_option Elab.async false
set_option linter.all false
set_option maxRecDepth 100000
set_option maxHeartbeats 4000000
namespace DL
open PySem PySem.Spec PyProof.Rows L2
open PySem.SeqAt (EqAt RcAt RcNeAt)
noncomputable def ZC (i j : Int) : Prop := Builtin.Int.intBits i ≤ 64 ∨ Builtin.Int.intBits j ≤ 64 ∨ (Builtin.Int.intBits i ≤ 60000000 ∧ Builtin.Int.intBits j ≤ 60000000)
instance (i j : Int) : Decidable (ZC i j) := by unfold ZC; infer_instance
theorem ZC.ok {i j : Int} (h : ZC i j) : IntMulOk i j := by
  rcases h with h | h | ⟨h1, h2⟩
  · exact .of_left h
  · exact .of_right h
  · exact .of_le h1 h2 (by decide)
theorem ZN {i j : Int} (m n : Nat) (h1 : i.natAbs < 2 ^ m) (h2 : j.natAbs < 2 ^ n) (hm : m ≤ 60000000 := by decide) (hn : n ≤ 60000000 := by decide) : ZC i j :=
  .inr (.inr ⟨Nat.le_trans (intBits_le_iff.mpr h1) hm, Nat.le_trans (intBits_le_iff.mpr h2) hn⟩)
noncomputable def Za9 (j : Int) : Prop := j ≠ 0 ∧ j.natAbs.log2 < 9000
instance (j : Int) : Decidable (Za9 j) := by unfold Za9; infer_instance
section
variable {X : Cx}
theorem Zj6 : OpR X (binaryOp .Mult) (rI ZC fun i j => .int (i * j)) := opI fun _ _ _ _ _ _ _ hc q => mul_int q hc.ok
theorem Zh5 : OpR X (binaryOp .FloorDiv) (rI (fun _ j => Za9 j) fun i j => .int (i.fdiv j)) := opI fun _ _ _ _ _ _ _ hc q => floordiv_int hc.1 q (.inl (PyProof.noPylong_of_log2 hc.2))
end
noncomputable def dAdd : Bo := fun x y M => match x, y with
  | .int i, .int j => .ok (.int (i + j)) M
  | .str i, .str j => if i.length + j.length ≤ 100000 then .ok (.str (i ++ j)) M else .bad
  | .ref n, .ref m => match M[n]?, M[m]? with
    | some (.lst xs), some (.lst ys) => if xs.length + ys.length ≤ 10000000 then .ok (.ref M.length) (M ++ [.lst (xs ++ ys)]) else .bad
    | _, _ => .bad
  | .tup xs, .tup ys => if xs.length + ys.length ≤ 100000 ∧ xs ≠ [] then .ok (.tup (xs ++ ys)) M else .bad
  | _, _ => .bad
noncomputable def dSub : Bo := fun x y M => match x, y with | .int i, .int j => .ok (.int (i - j)) M | _, _ => .bad
noncomputable def dMul : Bo := fun x y M => match x, y with | .int i, .int j => if ZC i j then .ok (.int (i * j)) M else .bad | _, _ => .bad
noncomputable def dDiv : Bo := fun x y M => match x, y with | .int i, .int j => if Za9 j then .ok (.int (i.fdiv j)) M else .bad | _, _ => .bad
noncomputable def dMod : Bo := fun x y M => match x, y with | .int i, .int j => if j ≠ 0 then .ok (.int (i.fmod j)) M else .bad | _, _ => .bad
noncomputable def dPow : Bo := fun x y M => match x, y with | .int i, .int j => if 0 ≤ j ∧ j ≤ 1000000 ∧ i.natAbs < 2 ^ 64 then .ok (.int (i ^ j.toNat)) M else .bad | _, _ => .bad
noncomputable def dLt : Bo := fun x y M => match x, y with | .int i, .int j => .ok (.bl (decide (i < j))) M | _, _ => .bad
noncomputable def dLe : Bo := fun x y M => match x, y with | .int i, .int j => .ok (.bl (decide (i ≤ j))) M | _, _ => .bad
noncomputable def dGt : Bo := fun x y M => match x, y with | .int i, .int j => .ok (.bl (decide (j < i))) M | _, _ => .bad
noncomputable def dGe : Bo := fun x y M => match x, y with | .int i, .int j => .ok (.bl (decide (j ≤ i))) M | _, _ => .bad
theorem ZlR {n : Nat} (h : n ≤ 100000) : n ≤ sizeLine := Nat.le_trans h (by decide)
section
variable {X : Cx} {ξ : XK}
theorem ZcA {r : R2} {f : Bo} {C : Int → Int → Prop} [∀ i j, Decidable (C i j)] {g : Int → Int → D} {gV : Int → Int → V} (hg : ∀ H α i j, Rep X.K H α (gV i j) (g i j))
    (hf : ∀ x y M, f x y M = match x, y with | .int i, .int j => if C i j then .ok (g i j) M else .bad | _, _ => .bad) (hr : ∀ i j H Q, C i j → Q (gV i j) H → r (.int i) (.int j) H Q) : BO X ξ r f := by
  intro H α M v w x y Q h rv rw' q
  rw [hf] at q
  cases rv <;> first | exact q.elim | skip
  cases rw' <;> first | exact q.elim | skip
  rename_i i j
  by_cases c : C i j
  · simp only [if_pos c] at q
    exact hr i j H Q c (q _ H α Ext.refl h (hg H α i j))
  · simp only [if_neg c] at q
    exact q.elim
theorem ZlS : BO X ξ (rI0 fun i j => .int (i - j)) dSub := ZcA (C := fun _ _ => True) (fun _ _ i j => .int (i - j)) (fun x y M => by cases x <;> cases y <;> simp [dSub]) fun i j H Q _ q => ⟨i, j, rfl, rfl, q⟩
theorem ZlT : BO X ξ (rI ZC fun i j => .int (i * j)) dMul := ZcA (C := ZC) (fun _ _ i j => .int (i * j)) (fun x y M => by cases x <;> cases y <;> rfl) fun i j H Q c q => ⟨i, j, rfl, rfl, c, q⟩
theorem ZlU : BO X ξ (rI (fun _ j => Za9 j) fun i j => .int (i.fdiv j)) dDiv := ZcA (C := fun _ j => Za9 j) (fun _ _ i j => .int (i.fdiv j)) (fun x y M => by cases x <;> cases y <;> rfl) fun i j H Q c q => ⟨i, j, rfl, rfl, c, q⟩
theorem ZlV : BO X ξ (rI (fun _ j => j ≠ 0) fun i j => .int (i.fmod j)) dMod := ZcA (C := fun _ j => j ≠ 0) (fun _ _ i j => .int (i.fmod j)) (fun x y M => by cases x <;> cases y <;> rfl) fun i j H Q c q => ⟨i, j, rfl, rfl, c, q⟩
theorem ZlW : BO X ξ (rI Zqd fun i j => .int (i ^ j.toNat)) dPow := ZcA (C := fun i j => 0 ≤ j ∧ j ≤ 1000000 ∧ i.natAbs < 2 ^ 64) (fun _ _ i j => .int (i ^ j.toNat)) (fun x y M => by cases x <;> cases y <;> rfl) fun i j H Q c q => ⟨i, j, rfl, rfl, c, q⟩
theorem ZeJ : BO X ξ (rI0 fun i j => .bl (decide (i < j))) dLt := ZcA (C := fun _ _ => True) (fun _ _ i j => .bl _) (fun x y M => by cases x <;> cases y <;> simp [dLt]) fun i j H Q _ q => ⟨i, j, rfl, rfl, q⟩
theorem Zh6 : BO X ξ (rI0 fun i j => .bl (decide (j < i))) dGt := ZcA (C := fun _ _ => True) (fun _ _ i j => .bl _) (fun x y M => by cases x <;> cases y <;> simp [dGt]) fun i j H Q _ q => ⟨i, j, rfl, rfl, q⟩
theorem Zov : BO X ξ (rI0 fun i j => .bl (decide (j ≤ i))) dGe := ZcA (C := fun _ _ => True) (fun _ _ i j => .bl _) (fun x y M => by cases x <;> cases y <;> simp [dGe]) fun i j H Q _ q => ⟨i, j, rfl, rfl, q⟩
theorem Zj7 : OpR X (binaryOp .Add) (fun x y H Q => (rI0 (fun i j => .int (i + j)) x y H Q ∨ (∃ i j, x = .str i ∧ y = .str j ∧ i.length + j.length ≤ sizeLine ∧ Q (.str (i ++ j)) H)) ∨ (rCat x y H Q ∨ ZjX X.K x y H Q)) :=
  OpR.or (OpR.or Zly ZfK) (OpR.or ZlL ZjY)
theorem ZlX : BO X ξ (fun x y H Q => (rI0 (fun i j => .int (i + j)) x y H Q ∨ (∃ i j, x = .str i ∧ y = .str j ∧ i.length + j.length ≤ sizeLine ∧ Q (.str (i ++ j)) H)) ∨ (rCat x y H Q ∨ ZjX X.K x y H Q)) dAdd := by
  intro H α M v w x y Q h rv rw' q
  cases rv with
  | int i =>
    cases rw' with
    | int j => exact .inl (.inl ⟨i, j, rfl, rfl, q _ H α Ext.refl h (.int (i + j))⟩)
    | _ => exact q.elim
  | str i =>
    cases rw' with
    | str j =>
      by_cases c : i.length + j.length ≤ 100000
      · simp only [dAdd, if_pos c] at q
        exact .inl (.inr ⟨i, j, rfl, rfl, ZlR c, q _ H α Ext.refl h (.str _)⟩)
      · simp only [dAdd, if_neg c] at q
        exact q.elim
    | _ => exact q.elim
  | @tup p xs ds hp rp =>
    cases rw' with
    | @tup p2 xs2 ds2 hp2 rp2 =>
      by_cases c : ds.length + ds2.length ≤ 100000 ∧ ds ≠ []
      · simp only [dAdd, if_pos c] at q
        have nx : xs ≠ [] := fun z => c.2 (by have := rp.length; rw [z] at this; exact List.eq_nil_of_length_eq_zero this.symm)
        refine .inr (.inr ⟨p, p2, xs, xs2, rfl, rfl, hp, hp2, nx, by rw [rp.length, rp2.length]; exact ZlR c.1, fun z => ?_, fun _ l hl => ?_⟩)
        · subst z
          cases rp2
          rw [List.append_nil] at q
          exact q _ H α Ext.refl h (.tup hp rp)
        · exact q _ _ α (Ext.new0 hl) (h.tup hl) (.tup (.inl (.inl ZaH)) (Reps.mono (Ext.new0 hl) (rp.append rp2)))
      · simp only [dAdd, if_neg c] at q
        exact q.elim
    | _ => exact q.elim
  | @ref p n hp =>
    cases rw' with
    | @ref p2 n2 hp2 =>
      cases e1 : M[n]? with
      | none => simp only [dAdd, e1] at q; exact q.elim
      | some o1 =>
        cases e2 : M[n2]? with
        | none => cases o1; simp only [dAdd, e1, e2] at q; exact q.elim
        | some o2 =>
          cases o1 with
          | lst ds =>
            cases o2 with
            | lst ds2 =>
              by_cases c : ds.length + ds2.length ≤ 10000000
              · simp only [dAdd, e1, e2, if_pos c] at q
                obtain ⟨xs, g1, r1⟩ := h.at hp e1
                obtain ⟨ys, g2, r2⟩ := h.at hp2 e2
                refine .inr (.inl ⟨p, p2, xs, ys, rfl, rfl, g1, g2, by rw [r1.length, r2.length]; exact Nat.le_trans c (by decide), fun l hl => ?_⟩)
                exact q _ _ (α ++ [l]) (Ext.new hl) (h.new hl (r1.append r2)) (.ref (h.last l))
              · simp only [dAdd, e1, e2, if_neg c] at q
                exact q.elim
    | _ => exact q.elim
  | _ => exact q.elim
variable {a b e : Expr} {fa fb : Ev} {pos : Pos}
theorem ZL (ha : DE X ξ a fa) (hb : DE X ξ b fb) : DE X ξ (.BinOp a .Add b pos) (e2 dAdd fa fb) := ZfO Zj7 ZlX ha hb
theorem ZY (ha : DE X ξ a fa) (hb : DE X ξ b fb) : DE X ξ (.BinOp a .Sub b pos) (e2 dSub fa fb) := ZfO Zlz ZlS ha hb
theorem ZA (ha : DE X ξ a fa) (hb : DE X ξ b fb) : DE X ξ (.BinOp a .Mult b pos) (e2 dMul fa fb) := ZfO Zj6 ZlT ha hb
theorem ZcB (ha : DE X ξ a fa) (hb : DE X ξ b fb) : DE X ξ (.BinOp a .FloorDiv b pos) (e2 dDiv fa fb) := ZfO Zh5 ZlU ha hb
theorem ZaT (ha : DE X ξ a fa) (hb : DE X ξ b fb) : DE X ξ (.BinOp a .Mod b pos) (e2 dMod fa fb) := ZfO ZjQ ZlV ha hb
theorem ZgD (ha : DE X ξ a fa) (hb : DE X ξ b fb) : DE X ξ (.BinOp a .Pow b pos) (e2 dPow fa fb) := ZfO ZlA ZlW ha hb
noncomputable def Zfm (f : Ev) : Ev := fun ρ M => (f ρ M).bind fun x M1 => match x with | .int i => .ok (.int (-i)) M1 | _ => .bad
theorem Zea (ha : DE X ξ a fa) : DE X ξ (.UnaryOp .USub a pos) (Zfm fa) := by
  obtain ⟨ta, ha, qa⟩ := ha
  refine ⟨_, Zol ZlB ha, fun σ ρ H α M Q s h q => ?_⟩
  refine qa σ ρ H α M _ s h (OG.seq q fun x M1 v H1 α1 e1 h1 r1 q1 => ?_)
  cases r1 with
  | int i => exact ⟨i, rfl, q1 _ H1 α1 Ext.refl h1 (.int (-i))⟩
  | _ => exact q1.elim
noncomputable def atD (xs : List D) (i : Int) (M : Sto) : Out D := match atI xs i with | some d => .ok d M | none => .bad
noncomputable def dIx : Bo := fun x y M => match x, y with
  | .tup xs, .int i => atD xs i M
  | .rol xs, .int i => atD xs i M
  | .ref n, .int i => match M[n]? with | some (.lst xs) => atD xs i M | _ => .bad
  | _, _ => .bad
theorem Reps.atI {K : PySem.W.Frag} {H : Hp} {α : List Addr} {vs : List V} {ds : List D} {i : Int} {d : D} (r : Reps K H α vs ds) (h : L2.atI ds i = some d) : ∃ v, L2.atI vs i = some v ∧ Rep K H α v d := by
  unfold L2.atI at h ⊢
  rw [r.length]
  cases e : ixN ds.length i with
  | none => rw [e] at h; cases h
  | some j =>
    rw [e] at h
    exact r.get h
theorem Zow : BO X ξ (fun x y H Q => Zqe X.K x y H Q ∨ Zqf X.K x y H Q) dIx := by
  intro H α M v w x y Q h rv rw' q
  cases rw' with
  | int i =>
    cases rv with
    | @tup p xs ds hp rp =>
      have q' : OP X.K H α ξ Q (atD ds i M) := q
      unfold atD at q'
      cases e : L2.atI ds i with
      | none => rw [e] at q'; exact q'.elim
      | some d =>
        rw [e] at q'
        obtain ⟨v, h1, h2⟩ := rp.atI e
        exact .inr ⟨p, xs, i, v, rfl, rfl, hp, h1, q' v H α Ext.refl h h2⟩
    | @rol p xs ds hp rp =>
      have q' : OP X.K H α ξ Q (atD ds i M) := q
      unfold atD at q'
      cases e : L2.atI ds i with
      | none => rw [e] at q'; exact q'.elim
      | some d =>
        rw [e] at q'
        obtain ⟨v, h1, h2⟩ := rp.atI e
        exact .inl ⟨p, xs, i, v, rfl, rfl, hp.sq, h1, q' v H α Ext.refl h h2⟩
    | @ref p n hp =>
      cases e1 : M[n]? with
      | none => simp only [dIx, e1] at q; exact q.elim
      | some o1 =>
        cases o1 with
        | lst ds =>
          simp only [dIx, e1, atD] at q
          obtain ⟨xs, g1, r1⟩ := h.at hp e1
          cases e : L2.atI ds i with
          | none => rw [e] at q; exact q.elim
          | some d =>
            rw [e] at q
            obtain ⟨v, h1, h2⟩ := r1.atI e
            exact .inl ⟨p, xs, i, v, rfl, rfl, SqL.of g1, h1, q v H α Ext.refl h h2⟩
    | _ => exact q.elim
  | _ => cases rv <;> exact q.elim
theorem Zl (ha : DE X ξ a fa) (hb : DE X ξ b fb) (hs : Zgu b := by exact fun _ _ => rfl) : DE X ξ (.Subscript a b pos) (e2 dIx fa fb) := by
  obtain ⟨ta, ha, qa⟩ := ha
  obtain ⟨tb, hb, qb⟩ := hb
  exact ⟨_, Zos (IxR.or Zj0 ZlI) ha hb hs, two Zow qa qb⟩
end
inductive Kd where
  | non | bl (b : Bool) | int (i : Int) | str (x : Str) | tup (xs : List D) | lst (xs : List D)
noncomputable def kd (M : Sto) : D → Option Kd
  | .non => some .non
  | .bl b => some (.bl b)
  | .int i => some (.int i)
  | .str x => some (.str x)
  | .tup xs => some (.tup xs)
  | .rol xs => some (.lst xs)
  | .ref n => match M[n]? with | some (.lst xs) => some (.lst xs) | _ => none
  | .err _ _ => none
noncomputable def eqL (f : D → D → Option Bool) : List D → List D → Option Bool
  | [], [] => some true
  | x :: xs, y :: ys => match f x y with | some a => (match eqL f xs ys with | some b => some (a && b) | none => none) | none => none
  | _, _ => some false
noncomputable def eqK (f : D → D → Option Bool) : Kd → Kd → Option Bool
  | .non, .non => some true
  | .bl a, .bl b => some (a == b)
  | .bl a, .int b => some ((if a then 1 else 0) == b)
  | .int a, .bl b => some (a == (if b then 1 else 0))
  | .int a, .int b => some (a == b)
  | .str a, .str b => some (a == b)
  | .tup xs, .tup ys => eqL f xs ys
  | .lst xs, .lst ys => if xs.length = ys.length then eqL f xs ys else some false
  | _, _ => some false
noncomputable def eqF : Nat → Sto → D → D → Option Bool
  | 0, _, _, _ => none
  | n + 1, M, x, y => match kd M x, kd M y with | some a, some b => eqK (eqF n M) a b | _, _ => none
inductive Vw (X : Cx) (H : Hp) (α : List Addr) (s : Shared) : Kd → Value → Prop where
  | non : Vw X H α s .non .none
  | bl (b : Bool) : Vw X H α s (.bl b) (.bool b)
  | int (i : Int) (t : Tok) : Vw X H α s (.int i) (.int i t)
  | str (x : Str) (t : Tok) : Vw X H α s (.str x) (.str x t)
  | tup {p : Addr} {xs : List V} {ds : List D} {its : List Value} : s.heap.IsTuple p its.toArray → Z3 xs its → Reps X.K H α xs ds → Vw X H α s (.tup ds) (.ref p)
  | lst {p : Addr} {xs : List V} {ds : List D} {its : List Value} : s.heap.IsList p its.toArray → Z3 xs its → Reps X.K H α xs ds → Vw X H α s (.lst ds) (.ref p)
section
variable {X : Cx} {ξ : XK} {pins : List (Addr × Obj)} {σ : L2.St} {H : Hp} {s : Shared} {α : List Addr} {M : Sto}
theorem vw (I : Inv X pins σ H s) (h : HR X.K H α M) {v : V} {x : D} {u : Value} {k : Kd} (r : Rep X.K H α v x) (ru : Zat v u) (e : kd M x = some k) : Vw X H α s k u := by
  cases r with
  | non => cases e; cases ru; exact .non
  | bl b => cases e; cases ru; exact .bl b
  | int i => cases e; obtain ⟨t, rfl⟩ := ru; exact .int i t
  | str x => cases e; obtain ⟨t, rfl⟩ := ru; exact .str x t
  | err _ _ _ => cases e
  | @tup p xs ds hp rp =>
    cases e; cases ru
    obtain ⟨its, h1, h2, _⟩ := I.tuple hp
    exact .tup h2 h1 rp
  | @rol p xs ds hp rp =>
    cases e; cases ru
    obtain ⟨its, h1, h2, _⟩ := I.list hp.sq
    exact .lst h2.isList h1 rp
  | @ref p n hp =>
    cases ru
    cases e1 : M[n]? with
    | none => simp only [kd, e1] at e; cases e
    | some o =>
      cases o with
      | lst ds =>
        simp only [kd, e1] at e
        cases e
        obtain ⟨xs, g1, r1⟩ := h.at hp e1
        obtain ⟨its, h1, h2, _⟩ := I.list (SqL.of g1)
        exact .lst h2.isList h1 r1
noncomputable def Eq3 (A : Around) (s : Shared) (u z : Value) (b : Bool) : Prop := EqAt A s u z b ∧ RcAt A s u z b ∧ RcNeAt A s u z (!b)
theorem ZgE {f : D → D → Option Bool} : ∀ {xs ys : List D} {b : Bool}, eqL f xs ys = some b →
    (∀ (j : Nat) x y, xs[j]? = some x → ys[j]? = some y → ∃ c, f x y = some c) ∧
    b = ((List.range (min xs.length ys.length)).all (fun j => match xs[j]?, ys[j]? with | some x, some y => (f x y).getD false | _, _ => false) && xs.length == ys.length)
  | [], [], b, e => by
    simp only [eqL, Option.some.injEq] at e
    subst e
    exact ⟨fun j x y h => (by simp at h), (by simp)⟩
  | x :: xs, [], b, e => by
    simp only [eqL, Option.some.injEq] at e
    subst e
    exact ⟨fun j x y h1 h2 => (by simp at h2), (by simp)⟩
  | [], y :: ys, b, e => by
    simp only [eqL, Option.some.injEq] at e
    subst e
    exact ⟨fun j x y h1 h2 => (by simp at h1), (by simp)⟩
  | x :: xs, y :: ys, b, e => by
    cases e1 : f x y with
    | none => simp only [eqL, e1] at e; cases e
    | some a =>
      cases e2 : eqL f xs ys with
      | none => simp only [eqL, e1, e2] at e; cases e
      | some c =>
        simp only [eqL, e1, e2, Option.some.injEq] at e
        subst e
        obtain ⟨h1, h2⟩ := ZgE e2
        refine ⟨fun j x' y' g1 g2 => ?_, ?_⟩
        · cases j with
          | zero =>
            simp at g1 g2
            subst g1 g2
            exact ⟨a, e1⟩
          | succ j =>
            simp at g1 g2
            exact h1 j x' y' g1 g2
        · have em : min (x :: xs).length (y :: ys).length = min xs.length ys.length + 1 := by simp only [List.length_cons]; omega
          rw [em, List.range_succ_eq_map, List.all_cons, List.all_map, h2]
          simp [e1, Bool.and_assoc, Function.comp_def]
theorem Zh7 (I : Inv X pins σ H s) (h : HR X.K H α M) : ∀ (n : Nat) {v : V} {x y : D} {b : Bool}, Rep X.K H α v x → Rep X.K H α v y → eqF n M x y = some b → b = true := by
  intro n
  induction n with
  | zero => intro v x y b _ _ e; simp only [eqF] at e; cases e
  | succ n ih =>
    have lists : ∀ (vs : List V) (xs ys : List D) (b : Bool), Reps X.K H α vs xs → Reps X.K H α vs ys → eqL (eqF n M) xs ys = some b → b = true := by
      intro vs
      induction vs with
      | nil =>
        intro xs ys b r1 r2 e
        cases r1; cases r2
        simp only [eqL, Option.some.injEq] at e
        exact e.symm
      | cons v vs iv =>
        intro xs ys b r1 r2 e
        cases r1 with
        | cons p1 t1 =>
          cases r2 with
          | cons p2 t2 =>
            rename_i d1 ds1 d2 ds2
            cases e1 : eqF n M d1 d2 with
            | none => simp only [eqL, e1] at e; cases e
            | some a =>
              cases e2 : eqL (eqF n M) ds1 ds2 with
              | none => simp only [eqL, e1, e2] at e; cases e
              | some c =>
                simp only [eqL, e1, e2, Option.some.injEq] at e
                rw [← e, ih p1 p2 e1, iv _ _ _ t1 t2 e2]
                rfl
    intro v x y b r1 r2 e
    have nl : ∀ {p : Addr} {xs ys : List V}, SqT X.K H p xs → SqL X.K H p ys → False := fun {p xs ys} a c => by
      obtain ⟨i1, _, ⟨o1, g1, c1, _⟩, _⟩ := I.tuple a
      obtain ⟨i2, _, ⟨o2, _, g2, c2, _⟩, _⟩ := I.list c
      rw [g1] at g2
      cases g2
      rw [c1] at c2
      exact absurd c2 (by decide)
    have ll : ∀ {p : Addr} {n : Nat} {ds : List D}, α[n]? = some p → M[n]? = some (.lst ds) → ∃ vs, SqL X.K H p vs ∧ Reps X.K H α vs ds := fun {p n ds} a c => by
      obtain ⟨xs, g1, r1⟩ := h.at a c
      exact ⟨xs, SqL.of g1, r1⟩
    cases r1 with
    | non => cases r2; simp only [eqF, kd, eqK, Option.some.injEq] at e; exact e.symm
    | bl c => cases r2; simp only [eqF, kd, eqK, Option.some.injEq, beq_self_eq_true] at e; exact e.symm
    | int c => cases r2; simp only [eqF, kd, eqK, Option.some.injEq, beq_self_eq_true] at e; exact e.symm
    | str c => cases r2; simp only [eqF, kd, eqK, Option.some.injEq, beq_self_eq_true] at e; exact e.symm
    | err _ _ _ => simp [eqF, kd] at e
    | @tup p xs ds hp rp =>
      cases r2 with
      | @tup _ xs2 ds2 hp2 rp2 =>
        cases I.tuple_inj hp hp2
        simp only [eqF, kd, eqK] at e
        exact lists _ _ _ _ rp rp2 e
      | @rol _ xs2 ds2 hp2 rp2 => exact (nl hp hp2.sq).elim
      | err _ _ _ => simp [eqF, kd] at e
      | @ref _ n2 hp2 =>
        obtain ⟨ys, g⟩ := h.some_at hp2
        exact (nl hp (SqL.of g)).elim
    | @rol p xs ds hp rp =>
      cases r2 with
      | @tup _ xs2 ds2 hp2 rp2 => exact (nl hp2 hp.sq).elim
      | err _ _ _ => simp [eqF, kd] at e
      | @rol _ xs2 ds2 hp2 rp2 =>
        cases I.list_inj hp.sq hp2.sq
        simp only [eqF, kd, eqK, if_pos (rp.length.symm.trans rp2.length)] at e
        exact lists _ _ _ _ rp rp2 e
      | @ref _ n2 hp2 =>
        cases e1 : M[n2]? with
        | none => simp only [eqF, kd, e1] at e; cases e
        | some o =>
          cases o with
          | lst ds2 =>
            obtain ⟨ys, g, r⟩ := ll hp2 e1
            cases I.list_inj hp.sq g
            simp only [eqF, kd, e1, eqK, if_pos (rp.length.symm.trans r.length)] at e
            exact lists _ _ _ _ rp r e
    | @ref p n1 hp =>
      cases e0 : M[n1]? with
      | none => simp only [eqF, kd, e0] at e; cases e
      | some o0 =>
        cases o0 with
        | lst ds =>
          obtain ⟨xs, g0, rp⟩ := ll hp e0
          cases r2 with
          | @tup _ xs2 ds2 hp2 rp2 => exact (nl hp2 g0).elim
          | err _ _ _ => simp [eqF, kd, e0] at e
          | @rol _ xs2 ds2 hp2 rp2 =>
            cases I.list_inj g0 hp2.sq
            simp only [eqF, kd, e0, eqK, if_pos (rp.length.symm.trans rp2.length)] at e
            exact lists _ _ _ _ rp rp2 e
          | @ref _ n2 hp2 =>
            cases e1 : M[n2]? with
            | none => simp only [eqF, kd, e0, e1] at e; cases e
            | some o =>
              cases o with
              | lst ds2 =>
                obtain ⟨ys, g, r⟩ := ll hp2 e1
                cases I.list_inj g0 g
                simp only [eqF, kd, e0, e1, eqK, if_pos (rp.length.symm.trans r.length)] at e
                exact lists _ _ _ _ rp r e
end
end DL
end
section
set_option Elab.async false
set_option linter.all false
set_option maxRecDepth 100000
set_option maxHeartbeats 4000000
namespace DL
open PySem PySem.Spec PyProof.Rows L2
open PySem.SeqAt (EqAt RcAt RcNeAt)
section
variable {X : Cx} {ξ : XK} {pins : List (Addr × Obj)} {σ : L2.St} {H : Hp} {s : Shared} {α : List Addr} {M : Sto}
theorem Zfn {A : Around} {n : Nat} {xs1 xs2 : List V} {ds1 ds2 : List D} {i1 i2 : List Value} {b : Bool} (v1 : Z3 xs1 i1) (v2 : Z3 xs2 i2) (r1 : Reps X.K H α xs1 ds1) (r2 : Reps X.K H α xs2 ds2)
    (ih : ∀ (x y : D) (v w : V) (u z : Value) (b : Bool), eqF n M x y = some b → Rep X.K H α v x → Rep X.K H α w y → Zat v u → Zat w z → EqAt A s u z b) (e : eqL (eqF n M) ds1 ds2 = some b) :
    ∃ f : Nat → Bool, (∀ (j : Nat) (h1 : j < i1.toArray.size) (h2 : j < i2.toArray.size), EqAt A s i1.toArray[j] i2.toArray[j] (f j)) ∧ b = ((List.range (min i1.toArray.size i2.toArray.size)).all f && i1.toArray.size == i2.toArray.size) := by
  obtain ⟨g1, g2⟩ := ZgE e
  have l1 : i1.toArray.size = ds1.length := by rw [List.size_toArray, ← v1.length, r1.length]
  have l2 : i2.toArray.size = ds2.length := by rw [List.size_toArray, ← v2.length, r2.length]
  refine ⟨_, fun j h1 h2 => ?_, by rw [l1, l2]; exact g2⟩
  have k1 : j < ds1.length := by rw [← l1]; exact h1
  have k2 : j < ds2.length := by rw [← l2]; exact h2
  obtain ⟨c, hc⟩ := g1 j _ _ (List.getElem?_eq_getElem k1) (List.getElem?_eq_getElem k2)
  obtain ⟨v, a1, a2⟩ := r1.get (List.getElem?_eq_getElem k1)
  obtain ⟨w, b1, b2⟩ := r2.get (List.getElem?_eq_getElem k2)
  obtain ⟨u, a3, a4⟩ := v1.get a1
  obtain ⟨z, b3, b4⟩ := v2.get b1
  have q := ih _ _ v w u z c hc a2 b2 a4 b4
  simp only [List.getElem?_eq_getElem k1, List.getElem?_eq_getElem k2, hc, Option.getD_some]
  have e1 : i1.toArray[j] = u := by
    have := List.getElem?_eq_some_iff.mp a3
    obtain ⟨_, z⟩ := this
    simpa using z
  have e2 : i2.toArray[j] = z := by
    have := List.getElem?_eq_some_iff.mp b3
    obtain ⟨_, z⟩ := this
    simpa using z
  rw [e1, e2]
  exact q
theorem ZgF (I : Inv X pins σ H s) (h : HR X.K H α M) {n : Nat} {x y : D} {v w : V} {p q : Addr} {b : Bool} {A : Around} (e : eqF n M x y = some b) (rx : Rep X.K H α v x) (ry : Rep X.K H α w y) (rv : Zat v (.ref p)) (rw' : Zat w (.ref q))
    (k : RcAt A s (.ref p) (.ref q) b) (k' : RcNeAt A s (.ref p) (.ref q) (!b)) : Eq3 A s (.ref p) (.ref q) b := by
  refine ⟨?_, k, k'⟩
  by_cases c : p = q
  · subst c
    cases Zat.inj rv rw'
    rw [Zh7 I h n rx ry e]
    exact EqAt.same _
  · exact EqAt.of_refs c k
theorem eq3 (I : Inv X pins σ H s) (h : HR X.K H α M) : ∀ (n : Nat) (x y : D) (v w : V) (u z : Value) (b : Bool) (A : Around), A.units + n < cLine → eqF n M x y = some b → Rep X.K H α v x → Rep X.K H α w y → Zat v u → Zat w z → Eq3 A s u z b := by
  intro n
  induction n with
  | zero => intro x y v w u z b A _ e; simp only [eqF] at e; cases e
  | succ n ih =>
    intro x y v w u z b A hn e rx ry rv rw'
    have hu : A.units < cLine := by omega
    have e0 := e
    unfold eqF at e
    cases ka : kd M x with
    | none => rw [ka] at e; cases e
    | some ka' =>
      cases kb : kd M y with
      | none => rw [ka, kb] at e; cases e
      | some kb' =>
        rw [ka, kb] at e
        have va := vw I h rx rv ka
        have vb := vw I h ry rw' kb
        have deep : ∀ (x y : D) (v w : V) (u z : Value) (b : Bool), eqF n M x y = some b → Rep X.K H α v x → Rep X.K H α w y → Zat v u → Zat w z → EqAt A.in1 s u z b := fun x y v w u z b e a1 a2 a3 a4 =>
          (ih x y v w u z b A.in1 (by rw [Around.in1_units]; omega) e a1 a2 a3 a4).1
        cases va with
        | non =>
          cases vb <;> simp only [eqK, Option.some.injEq] at e <;> subst e
          · exact ⟨EqAt.same _, .none_none, .none_none⟩
          · exact ⟨.none_bool _, .none_bool _, .none_bool _⟩
          · exact ⟨.none_int _ _, .none_int _ _, .none_int _ _⟩
          · exact ⟨.none_str _ _, .none_str _ _, .none_str _ _⟩
          · rename_i g _ _; exact ⟨.none_tuple g hu, .none_tuple g hu, .none_tuple g hu⟩
          · rename_i g _ _; exact ⟨.none_list g hu, .none_list g hu, .none_list g hu⟩
        | bl c =>
          cases vb <;> simp only [eqK, Option.some.injEq] at e <;> subst e
          · exact ⟨.bool_none _, .bool_none _, .bool_none _⟩
          · exact ⟨.bool_bool _ _, .bool_bool _ _, .bool_bool _ _⟩
          · exact ⟨.bool_int _ _ _, .bool_int _ _ _, .bool_int _ _ _⟩
          · exact ⟨.bool_str _ _ _, .bool_str _ _ _, .bool_str _ _ _⟩
          · rename_i g _ _; exact ⟨.bool_tuple _ g hu, .bool_tuple _ g hu, .bool_tuple _ g hu⟩
          · rename_i g _ _; exact ⟨.bool_list _ g hu, .bool_list _ g hu, .bool_list _ g hu⟩
        | int c t =>
          cases vb <;> simp only [eqK, Option.some.injEq] at e <;> subst e
          · exact ⟨.int_none _ _, .int_none _ _, .int_none _ _⟩
          · exact ⟨.int_bool _ _ _, .int_bool _ _ _, .int_bool _ _ _⟩
          · exact ⟨.int_int _ _ _ _, .int_int _ _ _ _, .int_int _ _ _ _⟩
          · exact ⟨.int_str _ _ _ _, .int_str _ _ _ _, .int_str _ _ _ _⟩
          · rename_i g _ _; exact ⟨.int_tuple _ _ g hu, .int_tuple _ _ g hu, .int_tuple _ _ g hu⟩
          · rename_i g _ _; exact ⟨.int_list _ _ g hu, .int_list _ _ g hu, .int_list _ _ g hu⟩
        | str c t =>
          cases vb <;> simp only [eqK, Option.some.injEq] at e <;> subst e
          · exact ⟨.str_none _ _, .str_none _ _, .str_none _ _⟩
          · exact ⟨.str_bool _ _ _, .str_bool _ _ _, .str_bool _ _ _⟩
          · exact ⟨.str_int _ _ _ _, .str_int _ _ _ _, .str_int _ _ _ _⟩
          · exact ⟨.str_str _ _ _ _, .str_str _ _ _ _, .str_str _ _ _ _⟩
          · rename_i g _ _; exact ⟨.str_tuple _ _ g hu, .str_tuple _ _ g hu, .str_tuple _ _ g hu⟩
          · rename_i g _ _; exact ⟨.str_list _ _ g hu, .str_list _ _ g hu, .str_list _ _ g hu⟩
        | @tup p xs ds its g1 w1 q1 =>
          cases vb with
          | @tup p2 xs2 ds2 its2 g2 w2 q2 =>
            simp only [eqK] at e
            obtain ⟨f, hf, hb⟩ := Zfn w1 w2 q1 q2 deep e
            subst hb
            exact ZgF I h e0 rx ry rv rw' (.tuples g1 g2 hu hf) (.tuples g1 g2 hu hf)
          | @lst p2 xs2 ds2 its2 g2 w2 q2 =>
            simp only [eqK, Option.some.injEq] at e
            subst e
            exact ZgF I h e0 rx ry rv rw' (.tuple_list g1 g2 hu) (.tuple_list g1 g2 hu)
          | non => simp only [eqK, Option.some.injEq] at e; subst e; exact ⟨.tuple_none g1 hu, .tuple_none g1 hu, .tuple_none g1 hu⟩
          | bl c => simp only [eqK, Option.some.injEq] at e; subst e; exact ⟨.tuple_bool _ g1 hu, .tuple_bool _ g1 hu, .tuple_bool _ g1 hu⟩
          | int c t => simp only [eqK, Option.some.injEq] at e; subst e; exact ⟨.tuple_int _ _ g1 hu, .tuple_int _ _ g1 hu, .tuple_int _ _ g1 hu⟩
          | str c t => simp only [eqK, Option.some.injEq] at e; subst e; exact ⟨.tuple_str _ _ g1 hu, .tuple_str _ _ g1 hu, .tuple_str _ _ g1 hu⟩
        | @lst p xs ds its g1 w1 q1 =>
          cases vb with
          | @lst p2 xs2 ds2 its2 g2 w2 q2 =>
            simp only [eqK] at e
            have l1 : its.toArray.size = ds.length := by rw [List.size_toArray, ← w1.length, q1.length]
            have l2 : its2.toArray.size = ds2.length := by rw [List.size_toArray, ← w2.length, q2.length]
            by_cases c : ds.length = ds2.length
            · rw [if_pos c] at e
              have hs : its.toArray.size = its2.toArray.size := by rw [l1, l2, c]
              obtain ⟨f, hf, hb⟩ := Zfn w1 w2 q1 q2 deep e
              rw [hs, Nat.min_self, beq_self_eq_true, Bool.and_true, ← hs] at hb
              subst hb
              exact ZgF I h e0 rx ry rv rw' (.lists g1 g2 hs hu hf) (.lists g1 g2 hs hu hf)
            · rw [if_neg c] at e
              have e' : false = b := Option.some.inj e
              subst e'
              have hs : (its.toArray.size != its2.toArray.size) = true := by rw [l1, l2]; simpa using c
              exact ZgF I h e0 rx ry rv rw' (.lists_lengths g1 g2 hs hu) (.lists_lengths g1 g2 hs hu)
          | @tup p2 xs2 ds2 its2 g2 w2 q2 =>
            simp only [eqK, Option.some.injEq] at e
            subst e
            exact ZgF I h e0 rx ry rv rw' (.list_tuple g1 g2 hu) (.list_tuple g1 g2 hu)
          | non => simp only [eqK, Option.some.injEq] at e; subst e; exact ⟨.list_none g1 hu, .list_none g1 hu, .list_none g1 hu⟩
          | bl c => simp only [eqK, Option.some.injEq] at e; subst e; exact ⟨.list_bool _ g1 hu, .list_bool _ g1 hu, .list_bool _ g1 hu⟩
          | int c t => simp only [eqK, Option.some.injEq] at e; subst e; exact ⟨.list_int _ _ g1 hu, .list_int _ _ g1 hu, .list_int _ _ g1 hu⟩
          | str c t => simp only [eqK, Option.some.injEq] at e; subst e; exact ⟨.list_str _ _ g1 hu, .list_str _ _ g1 hu, .list_str _ _ g1 hu⟩
end
section
variable {X : Cx} {ξ : XK}
noncomputable def Zn5 (X : Cx) (neg : Bool) : R2 := fun v w H Q => ∃ α M x y b, HR X.K H α M ∧ Rep X.K H α v x ∧ Rep X.K H α w y ∧ eqF 12 M x y = some b ∧ Q (.bl (neg ^^ b)) H
theorem Zdk (hu : X.A.units + 64 < cLine) : OpR X (compareOp .Eq) (Zn5 X false) := by
  intro pins s σ H v w u z Q I rv rw' ⟨α, M, x, y, b, h, rx, ry, e, q⟩
  refine (eq3 I h 12 x y v w u z b X.A (by omega) e rx ry rv rw').2.1 _ _ _ _ ⟨.bl b, H, I, rfl, ?_⟩
  simpa using q
theorem Zbc (hu : X.A.units + 64 < cLine) : OpR X (compareOp .NotEq) (Zn5 X true) := by
  intro pins s σ H v w u z Q I rv rw' ⟨α, M, x, y, b, h, rx, ry, e, q⟩
  refine (eq3 I h 12 x y v w u z b X.A (by omega) e rx ry rv rw').2.2 _ _ _ _ ⟨.bl (!b), H, I, rfl, ?_⟩
  simpa using q
noncomputable def dEq : Bo := fun x y M => match eqF 12 M x y with | some b => .ok (.bl b) M | none => .bad
noncomputable def dNe : Bo := fun x y M => match eqF 12 M x y with | some b => .ok (.bl (!b)) M | none => .bad
theorem ZfS : BO X ξ (Zn5 X false) dEq := by
  intro H α M v w x y Q h rv rw' q
  unfold dEq at q
  cases e : eqF 12 M x y with
  | none => rw [e] at q; exact q.elim
  | some b => rw [e] at q; exact ⟨α, M, x, y, b, h, rv, rw', e, by simpa using q _ H α Ext.refl h (.bl b)⟩
theorem Zco : BO X ξ (Zn5 X true) dNe := by
  intro H α M v w x y Q h rv rw' q
  unfold dNe at q
  cases e : eqF 12 M x y with
  | none => rw [e] at q; exact q.elim
  | some b => rw [e] at q; exact ⟨α, M, x, y, b, h, rv, rw', e, by simpa using q _ H α Ext.refl h (.bl (!b))⟩
noncomputable def ZgG : V → Bool
  | .non => true
  | .bl _ => true
  | _ => false
noncomputable def rIs (neg : Bool) : R2 := fun v w H Q => ZgG w = true ∧ Q (.bl (neg ^^ decide (v = w))) H
theorem Zh8 {v w : V} {u z : Value} (rv : Zat v u) (rw' : Zat w z) (p : ZgG w = true) : plainIs u z = true ∧ (u == z) = decide (v = w) := by
  cases w with
  | non =>
    cases rw'
    cases v with
    | non => cases rv; exact ⟨rfl, rfl⟩
    | bl b => cases rv; exact ⟨rfl, by rw [decide_eq_false (fun z => (nomatch z))]; rfl⟩
    | int b => obtain ⟨t, rfl⟩ := rv; exact ⟨rfl, by rw [decide_eq_false (fun z => (nomatch z))]; rfl⟩
    | str b => obtain ⟨t, rfl⟩ := rv; exact ⟨rfl, by rw [decide_eq_false (fun z => (nomatch z))]; rfl⟩
    | byt b => obtain ⟨t, rfl⟩ := rv; exact ⟨rfl, by rw [decide_eq_false (fun z => (nomatch z))]; rfl⟩
    | flt b => obtain ⟨t, rfl⟩ := rv; exact ⟨rfl, by rw [decide_eq_false (fun z => (nomatch z))]; rfl⟩
    | ref b => cases rv; exact ⟨rfl, by rw [decide_eq_false (fun z => (nomatch z))]; rfl⟩
    | ty b => cases rv; exact ⟨rfl, by rw [decide_eq_false (fun z => (nomatch z))]; rfl⟩
  | bl c =>
    cases rw'
    cases v with
    | non => cases rv; exact ⟨rfl, by rw [decide_eq_false (fun z => (nomatch z))]; rfl⟩
    | bl b => cases rv; refine ⟨rfl, ?_⟩; cases b <;> cases c <;> rfl
    | int b => obtain ⟨t, rfl⟩ := rv; exact ⟨rfl, by rw [decide_eq_false (fun z => (nomatch z))]; rfl⟩
    | str b => obtain ⟨t, rfl⟩ := rv; exact ⟨rfl, by rw [decide_eq_false (fun z => (nomatch z))]; rfl⟩
    | byt b => obtain ⟨t, rfl⟩ := rv; exact ⟨rfl, by rw [decide_eq_false (fun z => (nomatch z))]; rfl⟩
    | flt b => obtain ⟨t, rfl⟩ := rv; exact ⟨rfl, by rw [decide_eq_false (fun z => (nomatch z))]; rfl⟩
    | ref b => cases rv; exact ⟨rfl, by rw [decide_eq_false (fun z => (nomatch z))]; rfl⟩
    | ty b => cases rv; exact ⟨rfl, by rw [decide_eq_false (fun z => (nomatch z))]; rfl⟩
  | _ => cases p
theorem ZgH : OpR X (compareOp .IsNot) (rIs true) := by
  intro pins s σ H v w u z Q I rv rw' ⟨p, q⟩
  obtain ⟨h1, h2⟩ := Zh8 rv rw' p
  refine wpAny_isNot_plain h1 ⟨.bl (!(u == z)), H, I, rfl, ?_⟩
  rw [h2]
  simpa using q
noncomputable def isP : D → D → Option Bool
  | .non, .non => some true
  | .bl a, .bl b => some (a == b)
  | _, .non => some false
  | _, .bl _ => some false
  | _, _ => none
noncomputable def dIs : Bo := fun x y M => match isP x y with | some b => .ok (.bl b) M | none => .bad
noncomputable def dIsNot : Bo := fun x y M => match isP x y with | some b => .ok (.bl (!b)) M | none => .bad
theorem ZlY {K : PySem.W.Frag} {H : Hp} {α : List Addr} {v w : V} {x y : D} {b : Bool} (rv : Rep K H α v x) (rw' : Rep K H α w y) (e : isP x y = some b) : ZgG w = true ∧ decide (v = w) = b := by
  cases rw' with
  | non => cases rv <;> cases e <;> exact ⟨rfl, by first | rfl | exact decide_eq_false (fun z => (nomatch z))⟩
  | bl c =>
    cases rv with
    | bl d => cases e; refine ⟨rfl, ?_⟩; cases c <;> cases d <;> rfl
    | _ => cases e; exact ⟨rfl, decide_eq_false (fun z => (nomatch z))⟩
  | _ => cases rv <;> cases e
theorem Zh9 : BO X ξ (rIs true) dIsNot := by
  intro H α M v w x y Q h rv rw' q
  unfold dIsNot at q
  cases e : isP x y with
  | none => rw [e] at q; exact q.elim
  | some b =>
    rw [e] at q
    obtain ⟨p, d⟩ := ZlY rv rw' e
    exact ⟨p, by rw [d]; simpa using q _ H α Ext.refl h (.bl (!b))⟩
noncomputable def ZlZ : D → Bool
  | .non => true
  | .bl _ => true
  | .int _ => true
  | .str _ => true
  | _ => false
noncomputable def Zrp : D → D → Bool
  | .non, .non => true
  | .bl a, .bl b => a == b
  | .bl a, .int b => (if a then 1 else 0) == b
  | .int a, .bl b => a == (if b then 1 else 0)
  | .int a, .int b => a == b
  | .str a, .str b => a == b
  | _, _ => false
noncomputable def ZfT (M : Sto) : D → Option (List D)
  | .tup xs => some xs
  | .rol xs => some xs
  | .ref n => match M[n]? with | some (.lst xs) => some xs | _ => none
  | _ => none
theorem ZgI {K : PySem.W.Frag} {H : Hp} {α : List Addr} {M : Sto} (h : HR K H α M) {v : V} {x : D} {ds : List D} (r : Rep K H α v x) (e : ZfT M x = some ds) : ∃ p xs, v = .ref p ∧ (SqL K H p xs ∨ SqT K H p xs) ∧ Reps K H α xs ds := by
  cases r with
  | @tup p xs ds hp rp => cases e; exact ⟨p, xs, rfl, .inr hp, rp⟩
  | @rol p xs ds hp rp => cases e; exact ⟨p, xs, rfl, .inl hp.sq, rp⟩
  | @ref p n hp =>
    cases e1 : M[n]? with
    | none => simp only [ZfT, e1] at e; cases e
    | some o =>
      cases o with
      | lst es =>
        simp only [ZfT, e1] at e
        cases e
        obtain ⟨xs, g1, r1⟩ := h.at hp e1
        exact ⟨p, xs, rfl, .inl (SqL.of g1), r1⟩
  | _ => cases e
noncomputable def inD (x y : D) (M : Sto) : Option Bool := match ZfT M y with | some ds => if ZlZ x = true ∧ ds.all ZlZ = true then some (ds.any fun y => Zrp y x) else none | none => none
variable {e : Expr} {es : List Expr} {fs : Av} {fa : Ev} {p pos : Pos} {x : Str} {id T : String} {r : List V → Hp → VK → Prop} {f : List D → Sto → Out D}
noncomputable def Zh (f : List D → Sto → Out D) (fs : Av) : Ev := fun ρ M => (fs ρ M).bind f
noncomputable def CO (X : Cx) (ξ : XK) (r : List V → Hp → VK → Prop) (f : List D → Sto → Out D) : Prop := ∀ H α M vs ds Q, HR X.K H α M → Reps X.K H α vs ds → OP X.K H α ξ Q (f ds M) → r vs H Q
theorem Zo (hc : Zb9 X (.builtin id) r) (hf : CO X ξ r f) (hm : X.mg x = none) (hv : bootBuiltins x = some (.builtin id)) (ha : DA X ξ (e :: es) fs) (hg : Gl X x := by rfl) (hn : x ≠ "__name__" := by decide) (hdb : (x == ("__debug__" : Str)) = false := by decide)
    (he : starEach (e :: es) X.env = (false, eval e X.env) :: starEach es X.env := by rfl) (hpl : (backTo pos (starEach es X.env)).any (·.1) = false := by rfl) : DE X ξ (.Call (.Name x p) (e :: es) [] pos) (Zh f fs) := by
  obtain ⟨ta, ha, qa⟩ := ha
  refine ⟨_, Zfj hc hg hm hv ha hn hdb he hpl, fun σ ρ H α M Q s h q => ?_⟩
  exact qa σ ρ H α M _ s h (OG.seq q fun ds M1 vs H1 α1 e1 h1 r1 q1 => hf H1 α1 M1 vs ds Q h1 r1 q1)
theorem ZaU (hc : Zb9 X (.type T) r) (hf : CO X ξ r f) (hm : X.mg x = none) (hv : bootBuiltins x = some (.type T)) (ha : DA X ξ (e :: es) fs) (hg : Gl X x := by rfl) (hn : x ≠ "__name__" := by decide) (hdb : (x == ("__debug__" : Str)) = false := by decide)
    (he : starEach (e :: es) X.env = (false, eval e X.env) :: starEach es X.env := by rfl) (hpl : (backTo pos (starEach es X.env)).any (·.1) = false := by rfl) : DE X ξ (.Call (.Name x p) (e :: es) [] pos) (Zh f fs) := by
  obtain ⟨ta, ha, qa⟩ := ha
  refine ⟨_, Zgq hc hg hm hv ha hn hdb he hpl, fun σ ρ H α M Q s h q => ?_⟩
  exact qa σ ρ H α M _ s h (OG.seq q fun ds M1 vs H1 α1 e1 h1 r1 q1 => hf H1 α1 M1 vs ds Q h1 r1 q1)
noncomputable def bLen : List D → Sto → Out D := fun ds M => match ds with
  | [x] => match ZfT M x with | some xs => .ok (.int xs.length) M | none => .bad
  | _ => .bad
theorem Z8 : CO X ξ (fun xs H Q => ∃ p ys, xs = [.ref p] ∧ (SqL X.K H p ys ∨ SqT X.K H p ys) ∧ Q (.int ys.length) H) bLen := by
  intro H α M vs ds Q h rs q
  unfold bLen at q
  match rs with
  | .nil => exact q.elim
  | .cons (.non) (.cons _ _) => exact q.elim
  | .cons _ (.cons _ _) => exact q.elim
  | .cons (d := x) r .nil =>
    cases e : ZfT M x with
    | none => simp only [e] at q; exact q.elim
    | some ys =>
      simp only [e] at q
      obtain ⟨p, xs, rfl, h2, h3⟩ := ZgI h r e
      exact ⟨p, xs, rfl, h2, by rw [h3.length]; exact q _ H α Ext.refl h (.int _)⟩
noncomputable def bAbs : List D → Sto → Out D := fun ds M => match ds with | [.int i] => .ok (.int (if i < 0 then -i else i)) M | _ => .bad
theorem Zdl : CO X ξ (fun xs H Q => ∃ i, xs = [.int i] ∧ Q (.int (if i < 0 then -i else i)) H) bAbs := by
  intro H α M vs ds Q h rs q
  match rs with
  | .nil => exact q.elim
  | .cons r (.cons _ _) => cases r <;> exact q.elim
  | .cons r .nil =>
    cases r with
    | int i => exact ⟨i, rfl, q _ H α Ext.refl h (.int _)⟩
    | _ => exact q.elim
noncomputable def bMax : List D → Sto → Out D := fun ds M => match ds with | [.int i, .int j] => .ok (.int (if j > i then j else i)) M | _ => .bad
noncomputable def bMin : List D → Sto → Out D := fun ds M => match ds with | [.int i, .int j] => .ok (.int (if j < i then j else i)) M | _ => .bad
theorem Zi7 {g : Int → Int → Int} {f : List D → Sto → Out D} (hf : ∀ ds M, f ds M = match ds with | [.int i, .int j] => .ok (.int (g i j)) M | _ => .bad) : CO X ξ (fun xs H Q => ∃ i j, xs = [.int i, .int j] ∧ Q (.int (g i j)) H) f := by
  intro H α M vs ds Q h rs q
  rw [hf] at q
  match rs with
  | .nil => exact q.elim
  | .cons r .nil => cases r <;> exact q.elim
  | .cons r (.cons r' (.cons _ _)) => cases r <;> cases r' <;> exact q.elim
  | .cons r (.cons r' .nil) =>
    cases r with
    | int i =>
      cases r' with
      | int j => exact ⟨i, j, rfl, q _ H α Ext.refl h (.int _)⟩
      | _ => exact q.elim
    | _ => cases r' <;> exact q.elim
theorem Zi8 : CO X ξ (fun xs H Q => ∃ i j, xs = [.int i, .int j] ∧ Q (.int (if j > i then j else i)) H) bMax := Zi7 (g := fun i j => if j > i then j else i) fun ds M => rfl
theorem Zl0 : CO X ξ (fun xs H Q => ∃ i j, xs = [.int i, .int j] ∧ Q (.int (if j < i then j else i)) H) bMin := Zi7 (g := fun i j => if j < i then j else i) fun ds M => rfl
noncomputable def bInt : List D → Sto → Out D := fun ds M => match ds with | [.int i] => .ok (.int i) M | [.bl k] => .ok (.int (if k then 1 else 0)) M | _ => .bad
theorem Zfo : CO X ξ (fun xs H Q => (∃ i, xs = [.int i] ∧ Q (.int i) H) ∨ ∃ k, xs = [.bl k] ∧ Q (.int (if k then 1 else 0)) H) bInt := by
  intro H α M vs ds Q h rs q
  match rs with
  | .nil => exact q.elim
  | .cons r (.cons _ _) => cases r <;> exact q.elim
  | .cons r .nil =>
    cases r with
    | int i => exact .inl ⟨i, rfl, q _ H α Ext.refl h (.int _)⟩
    | bl k => exact .inr ⟨k, rfl, q _ H α Ext.refl h (.int _)⟩
    | _ => exact q.elim
noncomputable def bList : List D → Sto → Out D := fun ds M => match ds with
  | [x] => match ZfT M x with | some xs => .ok (.ref M.length) (M ++ [.lst xs]) | none => .bad
  | _ => .bad
theorem ZeK : CO X ξ (fun xs H Q => ∃ p ys, xs = [.ref p] ∧ (SqL X.K H p ys ∨ SqT X.K H p ys) ∧ ∀ l, H l = none → Q (.ref l) (upd H l (.lst ys))) bList := by
  intro H α M vs ds Q h rs q
  unfold bList at q
  match rs with
  | .nil => exact q.elim
  | .cons _ (.cons _ _) => exact q.elim
  | .cons (d := x) r .nil =>
    cases e : ZfT M x with
    | none => simp only [e] at q; exact q.elim
    | some ys =>
      simp only [e] at q
      obtain ⟨p, xs, rfl, h2, h3⟩ := ZgI h r e
      exact ⟨p, xs, rfl, h2, fun l hl => q _ _ (α ++ [l]) (Ext.new hl) (h.new hl h3) (.ref (h.last l))⟩
noncomputable def Zbd (M : Sto) (x : D) : Option String := match kd M x with
  | some .non => some "NoneType"
  | some (.bl _) => some "bool"
  | some (.int _) => some "int"
  | some (.str _) => some "str"
  | some (.tup _) => some "tuple"
  | some (.lst _) => some "list"
  | none => none
noncomputable def ZcM (t T : String) : Bool := t == T || (t == "bool" && T == "int")
noncomputable def Zf9 (T : String) (f : Ev) : Ev := fun ρ M => (f ρ M).bind fun x M1 => match Zbd M1 x with | some t => .ok (.bl (ZcM t T)) M1 | none => .bad
noncomputable def Zrq (X : Cx) (T : String) : List V → Hp → VK → Prop := fun vs H Q => ∃ v α M x t, vs = [v, .ty T] ∧ HR X.K H α M ∧ Rep X.K H α v x ∧ Zbd M x = some t ∧ Q (.bl (ZcM t T)) H
structure Kit (K : PySem.W.Frag) (T : String) : Prop where
  non : PySem.W.kitOne K (.type "NoneType") (.type T) = some (ZcM "NoneType" T)
  bl : PySem.W.kitOne K (.type "bool") (.type T) = some (ZcM "bool" T)
  int : PySem.W.kitOne K (.type "int") (.type T) = some (ZcM "int" T)
  str : PySem.W.kitOne K (.type "str") (.type T) = some (ZcM "str" T)
  tup : PySem.W.kitOne K (.type "tuple") (.type T) = some (ZcM "tuple" T)
  lst : PySem.W.kitOne K (.type "list") (.type T) = some (ZcM "list" T)
theorem Zj8 {K : PySem.W.Frag} : Kit K "int" := ⟨rfl, rfl, rfl, rfl, rfl, rfl⟩
theorem Zfp {K : PySem.W.Frag} : Kit K "bool" := ⟨rfl, rfl, rfl, rfl, rfl, rfl⟩
theorem Zeb {K : PySem.W.Frag} : Kit K "tuple" := ⟨rfl, rfl, rfl, rfl, rfl, rfl⟩
theorem Zia {K : PySem.W.Frag} : Kit K "list" := ⟨rfl, rfl, rfl, rfl, rfl, rfl⟩
theorem Zib (kt : Kit X.K T) : Zb9 X (.builtin "isinstance") (Zrq X T) := by
  intro pins s σ H vs us Q I rs ⟨v, α, M, x, t, e1, h, rx, et, q⟩
  subst e1
  obtain ⟨u, w, rfl, ru, rw'⟩ := ZhX rs
  cases rw'
  unfold Zbd at et
  cases ek : kd M x with
  | none => rw [ek] at et; cases et
  | some k =>
    rw [ek] at et
    have va := vw I h rx ru ek
    have fin : ∀ tk, EP X pins σ Q (.bool (ZcM t T)) { s with toks := tk } := fun tk => ⟨.bl _, H, I.tok tk, rfl, q⟩
    cases va with
    | non => cases et; exact PySem.W.kia_one PySem.W.kitx_none I.kIn True.intro kt.non (fun z => nomatch z) fin
    | bl b => cases et; exact PySem.W.kia_one PySem.W.kitx_bool I.kIn True.intro kt.bl (fun z => nomatch z) fin
    | int i t => cases et; exact PySem.W.kia_one PySem.W.kitx_int I.kIn True.intro kt.int (fun z => nomatch z) fin
    | str i t => cases et; exact PySem.W.kia_one PySem.W.kitx_str I.kIn True.intro kt.str (fun z => nomatch z) fin
    | tup g _ _ => cases et; obtain ⟨o, h1, h2, _⟩ := g; exact PySem.W.kia_one PySem.W.kitx_tuple I.kIn ⟨o, h1, h2⟩ kt.tup (fun z => nomatch z) fin
    | lst g _ _ => cases et; obtain ⟨o, h1, h2, _⟩ := g; exact PySem.W.kia_one PySem.W.kitx_list I.kIn ⟨o, h1, h2⟩ kt.lst (fun z => nomatch z) fin
theorem Zdm {y : Str} {p2 : Pos} (kt : Kit X.K T) (hm : X.mg "isinstance" = none) (hmT : X.mg y = none) (hvT : bootBuiltins y = some (.type T)) (ha : DE X ξ e fa) (hg : Gl X "isinstance" := by rfl) (hgT : Gl X y := by rfl) (hn : y ≠ "__name__" := by decide) (hdb : (y == ("__debug__" : Str)) = false := by decide)
    (he : starEach [e, .Name y p2] X.env = (false, eval e X.env) :: starEach [.Name y p2] X.env := by rfl) (he2 : starEach [.Name y p2] X.env = (false, eval (.Name y p2) X.env) :: starEach [] X.env := by rfl) (hpl : (backTo pos (starEach [.Name y p2] X.env)).any (·.1) = false := by rfl) : DE X ξ (.Call (.Name "isinstance" p) [e, .Name y p2] [] pos) (Zf9 T fa) := by
  obtain ⟨ta, ha, qa⟩ := ha
  refine ⟨_, Zfj (Zib kt) hg hm (by with_unfolding_all rfl) (ZeG ha (ZeG (ZjI hgT hmT hvT (v := .ty T) rfl hn hdb) Zi2 he2) he) (by decide) (by decide) he hpl, fun σ ρ H α M Q s h q => ?_⟩
  refine qa σ ρ H α M _ s h (OG.seq q fun x M1 v H1 α1 e1 h1 r1 q1 => ?_)
  cases et : Zbd M1 x with
  | none => simp only [et] at q1; exact q1.elim
  | some t =>
    simp only [et] at q1
    exact ⟨v, α1, M1, x, t, rfl, h1, r1, et, q1 _ H1 α1 Ext.refl h1 (.bl _)⟩
end
end DL
end
section
set_option Elab.async false
set_option linter.all false
set_option maxRecDepth 100000
set_option maxHeartbeats 4000000
namespace DL
open PySem PySem.Spec PyProof.Rows L2
noncomputable def CXE (P : Program) (w : World) : CXT := fun outer H s E e s' => ∃ (ea C : Addr) (dct : Option Addr) (B : Heap) (H' : Hp), e = .ref ea ∧ s'.os = s.os ∧ AllBare s'.gens ∧ Un (frs outer) [] H H' s.heap s'.heap ∧ HOk P w H' s'.heap ∧
  DQ.Fly B outer ea (.ref C) dct .none s'.heap ∧ (∀ b u, H' b = some u → ∃ o, B.get? b = some o) ∧ (∀ b o, s.heap.get? b = some o → b ∉ frs outer → ∃ o', B.get? b = some o') ∧ E (.ref C) dct H'
structure Thr (X : Cx) (ξ : XK) : Prop where
  own : PassesOwn (model X.prog X.w) X.A X.env X.xe
  ps : Zgo (CXE X.prog X.w) X ξ
  mak : ∀ (pins : List (Addr × Obj)) (σ : L2.St) (H : Hp) (s : Shared) (h' : Heap) (e : Addr) (oe : Obj) (vs : Array Value) (C : Addr), Inv X pins σ H s → (∀ b o, s.heap.get? b = some o → h'.get? b = some o) → s.heap.get? e = none → h'.get? e = some oe → oe.cls = .ref C → oe.dict = none →
    oe.data = .fields vs → vs[1]? = some .none → vs[2]? = some .none → ξ (.ref C) none H → X.xe (.ref e) { s with heap := h' }
theorem Zec {h b1 b2 : Heap} : ∀ {l : List Env}, h.FunFrames b1 l → (∀ b ∈ frs l, b2.get? b = none) → h.FunFrames b2 l
  | [], _, _ => trivial
  | env :: r, ⟨h1, ⟨L, o, h2, h3, h4, h5⟩, h6⟩, k => ⟨h1, ⟨L, o, h2, k L (by unfold frs; rw [List.filterMap_cons, h2]; exact List.mem_cons_self), h4, h5⟩, Zec h6 fun b hb => k b (by
      unfold frs
      rw [List.filterMap_cons, h2]
      exact List.mem_cons_of_mem _ hb)⟩
section
variable {X : Cx} {pins : List (Addr × Obj)} {σ : L2.St} {H H' : Hp} {s : Shared} {h1 h2 B : Heap}
theorem Zi9 (hx : X.ex = []) (I : Inv X pins σ H s) (u : Un (frs X.stack) [] H H' s.heap h1) (hok : HOk X.prog X.w H' h1) (t1 : ∀ b q, H' b = some q → ∃ o, B.get? b = some o) (t2 : ∀ b o, s.heap.get? b = some o → b ∉ frs X.stack → ∃ o', B.get? b = some o')
    (st1 : B.StaysIn h1) (st2 : B.StaysIn h2) (up : h1.UpToSlots h2) : Un X.fs [] X.H₀ H' X.s₀.heap h2 ∧ HOk X.prog X.w H' h2 ∧ ∀ b o, X.s₀.heap.get? b = some o → b ∉ X.fs → ∃ o', B.get? b = some o' := by
  have kB : ∀ b ob o, B.get? b = some ob → h1.get? b = some o → h2.get? b = some o := fun b ob o e x => by
    have z := st1 b ob e
    rw [x] at z
    cases z
    exact st2 b _ e
  have nx : ∀ b, b ∉ X.ex := fun b => by rw [hx]; simp
  have nL : ∀ b o, X.s₀.heap.get? b = some o → b ∉ X.fs → b ∉ frs X.stack := fun b o e n z => by
    rcases List.mem_cons.mp (I.stkSub b z) with q | q
    · exact absurd (Heap.lt_size e) (by rw [q]; exact Nat.not_lt_of_le I.ok.above)
    · exact n q
  have th : ∀ b o, X.s₀.heap.get? b = some o → b ∉ X.fs → ∃ o', B.get? b = some o' := fun b o e n => by
    obtain ⟨o', e'⟩ := I.base.there b o e (nx b)
    exact t2 b o' e' (nL b o e n)
  have sl : ∀ b o, X.s₀.heap.get? b = some o → X.H₀ b = none → b ∈ X.fs → ∃ sl, h2.get? b = some { o with slots := sl } := fun b o e n hb => by
    obtain ⟨s1, e1⟩ := I.base.slot b o e n hb (nx b)
    obtain ⟨s2, e2⟩ := u.any e1 (I.base.free b o e n (nx b)) (by simp)
    obtain ⟨_, o', g1, g2⟩ := I.ok.funs.mem hb
    rw [e] at g1
    cases g1
    obtain ⟨s3, e3⟩ := up b _ e2 g2
    exact ⟨s3, e3⟩
  refine ⟨⟨fun b o e n hb _ => ?_, fun b o e n hb _ => sl b o e n hb, fun b o e n _ => ?_, fun b o e _ => ?_, fun b xs e => u.tups b xs (I.base.tups b xs e), fun b o xs e => u.frzs b o xs (I.base.frzs b o xs e), fun b ps e => ?_⟩, fun a o e => ?_, th⟩
  · obtain ⟨ob, g⟩ := th b o e hb
    exact kB b ob o g (u.keep b o (I.base.keep b o e n hb (nx b)) (I.base.free b o e n (nx b)) (nL b o e hb) (by simp))
  · obtain ⟨o', e'⟩ := I.base.there b o e (nx b)
    exact u.free b o' e' (I.base.free b o e n (nx b)) (by simp)
  · by_cases hb : b ∈ X.fs
    · obtain ⟨s1, e1⟩ := sl b o e (I.ok.frf b hb) hb
      exact ⟨_, e1⟩
    · obtain ⟨ob, g⟩ := th b o e hb
      exact ⟨ob, st2 b ob g⟩
  · obtain ⟨m1, e1⟩ := I.base.tbls b ps e
    obtain ⟨m2, e2⟩ := u.tbls b _ e1
    exact ⟨m1 ++ m2, by rw [e2, Array.append_assoc]⟩
  · refine (hok a o e).stay (fun b q hb x => ?_) (fun _ q => q) fun _ _ q => q
    have tr : ∃ q, H' b = some q := by
      rcases hb with z | z
      · exact ⟨o, z ▸ e⟩
      · exact ⟨_, z⟩
    obtain ⟨q', z⟩ := tr
    obtain ⟨ob, g⟩ := t1 b q' z
    exact kB b ob q g x
end
theorem Zic {P : Program} {w : World} {H : Hp} {h : Heap} {a : Addr} {o : HO} (x : Zb8 P w H h a o) : ∃ ob, h.get? a = some ob := by
  cases o with
  | lst xs => obtain ⟨_, _, _, _, e⟩ := x; exact ⟨_, e⟩
  | tup xs => obtain ⟨_, _, _, ob, e, _⟩ := x; exact ⟨_, e⟩
  | dK kvs => obtain ⟨_, _, _, _, o, _, _, e, _⟩ := x; exact ⟨_, e⟩
  | dT kvs => obtain ⟨_, _, _, _, o, _, _, e, _⟩ := x; exact ⟨_, e⟩
  | set S n => obtain ⟨o, _, _, _, e, _⟩ := x; exact ⟨_, e⟩
  | ins C dx fs => obtain ⟨_, _, _, e, _⟩ := x; exact ⟨_, e⟩
  | own y => exact x
  | xd fs => obtain ⟨_, ⟨_, _, _, e, _⟩, _⟩ := x; exact ⟨_, e⟩
  | rng lo hi => obtain ⟨_, _, _, e⟩ := x; exact ⟨_, e⟩
  | frz ob u => obtain ⟨e, _⟩ := x; exact ⟨_, e⟩
  | tbl ps => exact ⟨_, (show h.get? a = some _ from x)⟩
  | met f y => exact ⟨_, (show h.get? a = some _ from x)⟩
  | ext φ => obtain ⟨_, e, _⟩ := x; exact e
noncomputable def ZhO (h : Heap) (l : List Addr) : Heap := ZhN h fun b => if b ∈ l then some (.own 0) else none
theorem Zfq {h : Heap} {l : List Addr} {b : Addr} {o : Obj} (e : h.get? b = some o) (n : b ∉ l) : (ZhO h l).get? b = some o := Zff e (if_neg n)
theorem ZeL {h : Heap} {l : List Addr} {b : Addr} {o : Obj} (e : (ZhO h l).get? b = some o) : h.get? b = some o ∧ b ∉ l := by
  obtain ⟨a, n⟩ := Zgh e
  refine ⟨a, fun z => ?_⟩
  simp only [if_pos z] at n
  cases n
theorem ZgJ {h : Heap} {l : List Addr} {b : Addr} (n : b ∈ l) : (ZhO h l).get? b = none := by
  cases q : (ZhO h l).get? b with
  | none => rfl
  | some o => exact absurd n (ZeL q).2
theorem Zl1 {P : Program} {w : World} {K : PySem.W.Frag} {mg : Str → Option Value} {base : Heap} {N : List Str} {qual : Str} {scope : Scope} {f : Addr} {cd : Value} {A : Around} {outer : List Env} {s : Shared} {H : Hp} {E : XK} :
    Thr (ZeC (CXE P w) P w K mg base N qual scope f cd A outer s H E) E := by
  refine ⟨PassesOwn.leaving, fun pins σ H1 s1 e s2 I h => ?_, fun pins σ H1 s1 h' e oe vs C I k hn he hc hdi hd v1 v2 q => ?_⟩
  · obtain ⟨ea, C, dct, B, H2, rfl, os, bare, un, hok, fl, t1, t2, q⟩ := h
    refine DQ.Zgy (outer := outer) I.ok.frames rfl fl fun h3 f3 up => ?_
    obtain ⟨a1, a2, a3⟩ := Zi9 rfl I un hok t1 t2 fl.stay f3.stay up
    exact ⟨ea, C, dct, B, H2, rfl, os.trans I.os, bare, a1, a2, f3, t1, a3, q⟩
  · have st := I.stack
    have t2 : ∀ b o, s1.heap.get? b = some o → b ∉ frs (ZeC (CXE P w) P w K mg base N qual scope f cd A outer s H E).stack → ∃ o', (ZhO s1.heap (frs (ZeC (CXE P w) P w K mg base N qual scope f cd A outer s H E).stack)).get? b = some o' := fun b o x n => ⟨o, Zfq x n⟩
    have hs : (ZhO s1.heap (frs (ZeC (CXE P w) P w K mg base N qual scope f cd A outer s H E).stack)).StaysIn h' := fun b o x => k b o (ZeL x).1
    have hl : h'.FunFrames (ZhO s1.heap (frs (ZeC (CXE P w) P w K mg base N qual scope f cd A outer s H E).stack)) (ZeC (CXE P w) P w K mg base N qual scope f cd A outer s H E).stack :=
      (Zec st fun b hb => ZgJ hb).of_keeps fun b o x _ => ⟨o, k b o x, rfl⟩
    have hb : (ZhO s1.heap (frs (ZeC (CXE P w) P w K mg base N qual scope f cd A outer s H E).stack)).get? e = none := by
      cases z : (ZhO s1.heap (frs (ZeC (CXE P w) P w K mg base N qual scope f cd A outer s H E).stack)).get? e with
      | none => rfl
      | some o =>
        have := (ZeL z).1
        rw [hn] at this
        cases this
    have t1 : ∀ b u, H1 b = some u → ∃ o, (ZhO s1.heap (frs (ZeC (CXE P w) P w K mg base N qual scope f cd A outer s H E).stack)).get? b = some o := fun b u x => by
      obtain ⟨o, g⟩ := Zic (I.hok b u x)
      exact ⟨o, Zfq g fun z => by rw [I.stkFree b z] at x; cases x⟩
    refine DQ.Zgz (s := { s1 with heap := h' }) (outer := outer) I.ok.frames rfl hl he hs hb hd v1 v2 fun h3 f3 up => ?_
    obtain ⟨a1, a2, a3⟩ := Zi9 rfl I (Un.kept k) (I.hok.kept k) t1 t2 hs f3.stay up
    rw [hc, hdi] at f3
    exact ⟨e, C, none, _, H1, rfl, I.os, I.bare, a1, a2, f3, t1, a3, q⟩
end DL
end
section
set_option Elab.async false
set_option linter.all false
set_option maxRecDepth 100000
set_option maxHeartbeats 4000000
namespace DL
open PySem PySem.Spec PyProof.Rows L2
noncomputable def FP (K : PySem.W.Frag) (H : Hp) (α : List Addr) (ξ : XK) (Dn : Ends) : Fl → Prop
  | .nx ρ' M' => ∀ σ' H' α', Ext K H H' α α' → HR K H' α' M' → SR K H' α' σ' ρ' → Dn.nx σ' H'
  | .brk ρ' M' => ∀ σ' H' α', Ext K H H' α α' → HR K H' α' M' → SR K H' α' σ' ρ' → Dn.bk σ' H'
  | .cnt ρ' M' => ∀ σ' H' α', Ext K H H' α α' → HR K H' α' M' → SR K H' α' σ' ρ' → Dn.ct σ' H'
  | .ret d M' => ∀ v H' α', Ext K H H' α α' → HR K H' α' M' → Rep K H' α' v d → Dn.rt v H'
  | .exc c M' => ∀ C H' α', PySem.W.nsIn K mainGlobals c = some (some (.ref C)) → Ext K H H' α α' → HR K H' α' M' → ξ (.ref C) none H'
  | .bad => False
theorem FP.ext {K : PySem.W.Frag} {H H1 : Hp} {α α1 : List Addr} {ξ : XK} {Dn : Ends} {o : Fl} (h : FP K H α ξ Dn o) (e : Ext K H H1 α α1) : FP K H1 α1 ξ Dn o := by
  cases o with
  | nx ρ M => exact fun σ' H' α' e' => h σ' H' α' (e.trans e')
  | brk ρ M => exact fun σ' H' α' e' => h σ' H' α' (e.trans e')
  | cnt ρ M => exact fun σ' H' α' e' => h σ' H' α' (e.trans e')
  | ret d M => exact fun v H' α' e' => h v H' α' (e.trans e')
  | exc c M => exact fun C H' α' n e' => h C H' α' n (e.trans e')
  | bad => exact h
noncomputable def DS (X : Cx) (ξ : XK) (st : Stmt) (g : Sv) : Prop := ∃ t : TS, PS X st t ∧ ∀ σ ρ H α M Dn, SR X.K H α σ ρ → HR X.K H α M → FP X.K H α ξ Dn (g ρ M) → t Dn σ H
noncomputable def DSs (X : Cx) (ξ : XK) (st : List Stmt) (g : Sv) : Prop := ∃ t : TS, PSs X st t ∧ ∀ σ ρ H α M Dn, SR X.K H α σ ρ → HR X.K H α M → FP X.K H α ξ Dn (g ρ M) → t Dn σ H
noncomputable def ZaF {β : Type} (o : Out β) (k : β → Sto → Fl) : Fl := match o with
  | .ok a M => k a M
  | .exc c M => .exc c M
  | .bad => .bad
theorem FP.seq {β γ : Type} {K : PySem.W.Frag} {R : Hp → List Addr → γ → β → Prop} {H : Hp} {α : List Addr} {ξ : XK} {Dn : Ends} {Q1 : γ → Hp → Prop} {o : Out β} {f : β → Sto → Fl}
    (h : FP K H α ξ Dn (ZaF o f)) (k : ∀ d M' v H' α', Ext K H H' α α' → HR K H' α' M' → R H' α' v d → FP K H' α' ξ Dn (f d M') → Q1 v H') : OG K R H α ξ Q1 o := by
  cases o with
  | ok d M' => exact fun v H' α' e hr r => k d M' v H' α' e hr r (FP.ext (o := f d M') h e)
  | exc c M' => exact h
  | bad => exact h
noncomputable def Zu (g h : Sv) : Sv := fun ρ M => match g ρ M with
  | .nx ρ1 M1 => h ρ1 M1
  | o => o
noncomputable def sNil : Sv := fun ρ M => .nx ρ M
noncomputable def ZM (f : Ev) : Sv := fun ρ M => ZaF (f ρ M) fun d M1 => .ret d M1
noncomputable def Zl2 : Sv := fun _ M => .ret .non M
noncomputable def Zbe (f : Ev) : Sv := fun ρ M => ZaF (f ρ M) fun _ M1 => .nx ρ M1
noncomputable def sIf (c : Tv) (g h : Sv) : Sv := fun ρ M => ZaF (c ρ M) fun k M1 => if k = true then g ρ M1 else h ρ M1
noncomputable def Zrr : Sv := fun ρ M => .brk ρ M
noncomputable def Zrs : Sv := fun ρ M => .cnt ρ M
noncomputable abbrev Tg := D → Ro → Option Ro
noncomputable abbrev Tgs := List D → Ro → Option Ro
noncomputable def gNm (i : Nat) : Tg := fun d ρ => some (ρ.set i (some d))
noncomputable def gNl : Tgs := fun ds ρ => match ds with | [] => some ρ | _ => none
noncomputable def gCs (g : Tg) (gs : Tgs) : Tgs := fun ds ρ => match ds with | d :: r => (match g d ρ with | some ρ1 => gs r ρ1 | none => none) | [] => none
noncomputable def gTp (gs : Tgs) : Tg := fun d ρ => match d with | .tup ds => gs ds ρ | _ => none
noncomputable def ZH (g : Tg) (f : Ev) : Sv := fun ρ M => ZaF (f ρ M) fun d M1 => match g d ρ with | some ρ1 => .nx ρ1 M1 | none => .bad
noncomputable def Zda (i j : Nat) (fs : Av) : Sv := fun ρ M => ZaF (fs ρ M) fun ds M1 => match ds with | [v, w] => .nx ((ρ.set i (some v)).set j (some w)) M1 | _ => .bad
noncomputable def Zid (fo fi fe : Ev) : Sv := fun ρ M => ZaF (fe ρ M) fun d M1 => ZaF (fo ρ M1) fun o M2 => ZaF (fi ρ M2) fun i M3 => match o, i with
  | .ref n, .int k => (match M3[n]? with
    | some (.lst xs) => (match ixN xs.length k with | some j => .nx ρ (M3.set n (.lst (xs.set j d))) | none => .bad)
    | _ => .bad)
  | _, _ => .bad
section
variable {X : Cx} {ξ : XK} {st : Stmt} {sts : List Stmt} {g h : Sv} {e : Expr} {f : Ev} {pos : Pos} {c : Expr} {fc : Tv}
theorem ZI : DSs X ξ [] sNil := ⟨_, ZjJ, fun σ ρ H α M Dn s h q => q σ H α Ext.refl h s⟩
theorem Zi (h1 : DS X ξ st g) (h2 : DSs X ξ sts h) : DSs X ξ (st :: sts) (Zu g h) := by
  obtain ⟨t1, p1, q1⟩ := h1
  obtain ⟨t2, p2, q2⟩ := h2
  refine ⟨_, ZhR p1 p2, fun σ ρ H α M Dn s hh q => q1 σ ρ H α M { Dn with nx := t2 Dn } s hh ?_⟩
  unfold Zu at q
  cases e : g ρ M with
  | nx ρ1 M1 => rw [e] at q; exact fun σ' H' α' ex hr sr => q2 σ' ρ1 H' α' M1 Dn sr hr (FP.ext q ex)
  | brk ρ1 M1 => rw [e] at q; exact q
  | cnt ρ1 M1 => rw [e] at q; exact q
  | ret d M1 => rw [e] at q; exact q
  | exc c M1 => rw [e] at q; exact q
  | bad => rw [e] at q; exact q
theorem Zk (h1 : DS X ξ st g) : DSs X ξ [st] g := let ⟨_, p, q⟩ := h1; ⟨_, ZjK p, q⟩
theorem Zv (he : DE X ξ e f) : DS X ξ (.Return (some e) pos) (ZM f) := by
  obtain ⟨t, p, q⟩ := he
  exact ⟨_, Zlr p, fun σ ρ H α M Dn s hh w => q σ ρ H α M _ s hh (FP.seq w fun d M1 v H1 α1 e1 h1 r1 w1 => w1 v H1 α1 Ext.refl h1 r1)⟩
theorem Zbl (he : DE X ξ e f) (hs : swapsWith e none pos.line X.env = pure false := by rfl) : DS X ξ (.Expr e pos) (Zbe f) := by
  obtain ⟨t, p, q⟩ := he
  exact ⟨_, ZjL p hs, fun σ ρ H α M Dn s hh w => q σ ρ H α M _ s hh (FP.seq w fun d M1 v H1 α1 e1 h1 r1 w1 => w1 σ H1 α1 Ext.refl h1 (s.mono e1))⟩
theorem ZaI {a b : List Stmt} (hc : DT X ξ c fc) (ha : DSs X ξ a g) (hb : DSs X ξ b h) : DS X ξ (.If c a b pos) (sIf fc g h) := by
  obtain ⟨tc, pc, qc⟩ := hc
  obtain ⟨ta, pa, qa⟩ := ha
  obtain ⟨tb, pb, qb⟩ := hb
  refine ⟨_, Zof pc pa pb, fun σ ρ H α M Dn s hh w => qc σ ρ H α M _ s hh (FP.seq w fun k M1 v H1 α1 e1 h1 r1 w1 => ?_)⟩
  cases r1
  cases k with
  | true => exact Zi5 (qa σ ρ H1 α1 M1 Dn (s.mono e1) h1 w1)
  | false => exact Zi4 (qb σ ρ H1 α1 M1 Dn (s.mono e1) h1 w1)
noncomputable def DG (X : Cx) (tg : Expr) (g : Tg) : Prop := ∃ t : TG, PG X tg t ∧ ∀ v d σ ρ H α ρ' Q, SR X.K H α σ ρ → Rep X.K H α v d → g d ρ = some ρ' → (∀ σ', SR X.K H α σ' ρ' → Q σ' H) → t v σ H Q
noncomputable def DGs (X : Cx) (tgs : List Expr) (g : Tgs) : Prop := ∃ t : TGs, PGs X tgs t ∧ ∀ vs ds σ ρ H α ρ' Q, SR X.K H α σ ρ → Reps X.K H α vs ds → g ds ρ = some ρ' → (∀ σ', SR X.K H α σ' ρ' → Q σ' H) → t vs σ H Q
theorem Zn (i : Nat) {x : Str} (hN : X.N.Nodup) (hi : X.N[i]? = some x := by rfl) (hx : Loc X.env.scope x := by first | exact Or.inl rfl | exact Or.inr rfl) (hf : X.fn x = true ∨ X.env.scope.names.lookup x = some .local := by first | exact .inl rfl | exact .inr rfl | assumption) : DG X (.Name x pos) (gNm i) := by
  refine ⟨_, ZjM hN hi hx hf, fun v d σ ρ H α ρ' Q s r e k => ?_⟩
  cases e
  exact k _ (s.set i r)
theorem Z5 : DGs X [] gNl := by
  refine ⟨_, ZjN, fun vs ds σ ρ H α ρ' Q s r e k => ?_⟩
  cases r with
  | nil => cases e; exact ⟨rfl, k _ s⟩
  | cons _ _ => cases e
theorem Zq {es : List Expr} {g : Tg} {gs : Tgs} (h1 : DG X e g) (h2 : DGs X es gs) (hs : (assignEach (e :: es) X.env).map (·.2) = assign e X.env :: (assignEach es X.env).map (·.2) := by rfl) : DGs X (e :: es) (gCs g gs) := by
  obtain ⟨t1, p1, q1⟩ := h1
  obtain ⟨t2, p2, q2⟩ := h2
  refine ⟨_, ZhS p1 p2 hs, fun vs ds σ ρ H α ρ' Q s r e k => ?_⟩
  cases r with
  | nil => cases e
  | cons r rr =>
    rename_i v d vs ds
    cases e1 : g d ρ with
    | none => simp only [gCs, e1] at e; cases e
    | some ρ1 =>
      simp only [gCs, e1] at e
      exact ⟨v, vs, rfl, q1 v d σ ρ H α ρ1 _ s r e1 fun σ' s' => q2 vs ds σ' ρ1 H α ρ' Q s' rr e k⟩
theorem ZaG {es : List Expr} {k : Nat} {gs : Tgs} {n : Nat} (hc : X.calm = true) (h : DGs X es gs) (hn : (assignEach es X.env).length = n := by rfl) (hlen : ∀ ds ρ ρ', gs ds ρ = some ρ' → ds.length = n) (hst : (assignEach es X.env).findIdx? (·.1) = none := by rfl) : DG X (.Tuple es k pos) (gTp gs) := by
  obtain ⟨t, p, q⟩ := h
  refine ⟨_, Zlt hc p hn hst, fun v d σ ρ H α ρ' Q s r e k => ?_⟩
  cases r with
  | @tup a xs ds hp rp =>
    have e' : gs ds ρ = some ρ' := e
    exact ⟨a, xs, rfl, hp, by rw [rp.length]; exact hlen ds ρ ρ' e', q xs ds σ ρ H α ρ' Q s rp e' k⟩
  | _ => cases e
theorem Z6 {ds : List D} {ρ ρ' : Ro} (h : gNl ds ρ = some ρ') : ds.length = 0 := by cases ds with | nil => rfl | cons _ _ => cases h
theorem Zw {g : Tg} {gs : Tgs} {n : Nat} (h : ∀ ds ρ ρ', gs ds ρ = some ρ' → ds.length = n) (ds : List D) (ρ ρ' : Ro) (e : gCs g gs ds ρ = some ρ') : ds.length = n + 1 := by
  cases ds with
  | nil => cases e
  | cons d r =>
    cases e1 : g d ρ with
    | none => simp only [gCs, e1] at e; cases e
    | some ρ1 => simp only [gCs, e1] at e; rw [List.length_cons, h r ρ1 ρ' e]
theorem Zy (i : Nat) {x : Str} {pos' : Pos} (hN : X.N.Nodup) (he : DE X ξ e f) (hi : X.N[i]? = some x := by rfl) (hx : Loc X.env.scope x := by first | exact Or.inl rfl | exact Or.inr rfl) (hs : swapsWith e (some (.Name x pos')) pos.line X.env = pure false := by rfl) (hf : X.fn x = true ∨ X.env.scope.names.lookup x = some .local := by first | exact .inl rfl | exact .inr rfl | assumption) :
    DS X ξ (.Assign [.Name x pos'] e pos) (ZH (gNm i) f) := by
  obtain ⟨t, p, q⟩ := he
  exact ⟨_, Zlv hN hi hx p hs hf, fun σ ρ H α M Dn s hh w => q σ ρ H α M _ s hh (FP.seq w fun d M1 v H1 α1 e1 h1 r1 w1 => w1 _ H1 α1 Ext.refl h1 ((s.mono e1).set i r1))⟩
theorem Zed {tg : Expr} {gt : Tg} (he : DE X ξ e f) (hg : DG X tg gt) (hs : swapsWithSole [tg] e pos.line X.env = pure false := by rfl) (hw : swappedStores [tg] e X.env = pure none := by rfl)
    (h1 : (assignEach [tg] X.env).map (·.2) = [assign tg X.env] := by rfl) : DS X ξ (.Assign [tg] e pos) (ZH gt f) := by
  obtain ⟨t, p, q⟩ := he
  obtain ⟨tt, pt, qt⟩ := hg
  refine ⟨_, Zi0 p pt hs hw h1, fun σ ρ H α M Dn s hh w => q σ ρ H α M _ s hh (FP.seq w fun d M1 v H1 α1 e1 h1 r1 w1 => ?_)⟩
  cases eg : gt d ρ with
  | none => simp only [eg] at w1; exact w1.elim
  | some ρ1 =>
    simp only [eg] at w1
    exact qt v d σ ρ H1 α1 ρ1 _ (s.mono e1) r1 eg fun σ' s' => w1 σ' H1 α1 Ext.refl h1 s'
theorem ZcT (i j : Nat) {x y : Str} {a b : Expr} {fs : Av} {px py pt : Pos} {kt k2 pt2} (hc : X.calm = true) (hN : X.N.Nodup) (ha : DA X ξ [a, b] fs) (hi : X.N[i]? = some x := by rfl) (hj : X.N[j]? = some y := by rfl) (hij : i ≠ j := by decide)
    (hx : X.env.scope.names.lookup x = some .local := by rfl) (hy : X.env.scope.names.lookup y = some .local := by rfl)
    (hw : swappedStores [.Tuple [.Name x px, .Name y py] kt pt] (.Tuple [a, b] k2 pt2) X.env = pure (some [x, y]) := by rfl)
    (hs : swapsWithSole [.Tuple [.Name x px, .Name y py] kt pt] (.Tuple [a, b] k2 pt2) pos.line X.env = pure false := by rfl) :
    DS X ξ (.Assign [.Tuple [.Name x px, .Name y py] kt pt] (.Tuple [a, b] k2 pt2) pos) (Zda i j fs) := by
  obtain ⟨t, p, q⟩ := ha
  refine ⟨_, Zlw hc hN hi hj hij hx hy p hw hs, fun σ ρ H α M Dn s hh w => q σ ρ H α M _ s hh (FP.seq w fun ds M1 vs H1 α1 e1 h1 r1 w1 => ?_)⟩
  match r1 with
  | .nil => exact w1.elim
  | .cons _ .nil => exact w1.elim
  | .cons _ (.cons _ (.cons _ _)) => exact w1.elim
  | .cons r (.cons r' .nil) => exact ⟨_, _, rfl, w1 _ H1 α1 Ext.refl h1 (((s.mono e1).set i r).set j r')⟩
theorem Zja {o i : Expr} {fo fi : Ev} {pos' : Pos} (ho : DE X ξ o fo) (hi : DE X ξ i fi) (he : DE X ξ e f)
    (ha : ∀ v, assign (.Subscript o i pos') X.env v = (do
      let ov ← holding [v] (eval o X.env)
      let iv ← holding [v, ov] (eval i X.env)
      standAt pos'
      holding [v, ov, iv] (setItem ov iv v)
      release [v, ov, iv] []) := by intro _; rfl) (hs : swapsWithSole [.Subscript o i pos'] e pos.line X.env = pure false := by rfl) (hw : swappedStores [.Subscript o i pos'] e X.env = pure none := by rfl)
    (h1 : (assignEach [.Subscript o i pos'] X.env).map (·.2) = [assign (.Subscript o i pos') X.env] := by rfl) : DS X ξ (.Assign [.Subscript o i pos'] e pos) (Zid fo fi f) := by
  obtain ⟨t, p, q⟩ := he
  obtain ⟨to, po, qo⟩ := ho
  obtain ⟨ti, pi, qi⟩ := hi
  refine ⟨_, Zi0 p (Zlu po pi Zh0 ha) hs hw h1, fun σ ρ H α M Dn s hh w => q σ ρ H α M _ s hh (FP.seq w fun d M1 v H1 α1 e1 h1 r1 w1 => ?_)⟩
  refine qo σ ρ H1 α1 M1 _ (s.mono e1) h1 (FP.seq w1 fun od M2 ov H2 α2 e2 h2 r2 w2 => ?_)
  refine qi σ ρ H2 α2 M2 _ ((s.mono e1).mono e2) h2 (FP.seq w2 fun kd M3 kv H3 α3 e3 h3 r3 w3 => ?_)
  cases Rep.mono e3 r2 with
  | @ref p n hp =>
    cases r3 with
    | int k =>
      cases em : M3[n]? with
      | none => simp only [em] at w3; exact w3.elim
      | some so =>
        cases so with
        | lst ds =>
          cases ej : ixN ds.length k with
          | none => simp only [em, ej] at w3; exact w3.elim
          | some j =>
            simp only [em, ej] at w3
            obtain ⟨xs, g1, g2⟩ := h3.at hp em
            refine ⟨p, xs, k, j, rfl, rfl, g1, by rw [g2.length]; exact ej, ?_⟩
            exact w3 σ _ α3 (Ext.wr g1) (h3.wr hp g1 (Reps.set (Rep.mono e3 (Rep.mono e2 r1)) j g2)) ((((s.mono e1).mono e2).mono e3).mono (Ext.wr g1))
    | _ => exact w3.elim
  | _ => exact w3.elim
noncomputable def whN (c : Tv) (g : Sv) : Nat → Ro → Sto → Option Fl
  | 0, _, _ => none
  | n + 1, ρ, M => match c ρ M with
    | .ok true M1 => (match g ρ M1 with
      | .nx ρ2 M2 => whN c g n ρ2 M2
      | .cnt ρ2 M2 => whN c g n ρ2 M2
      | .brk ρ2 M2 => some (.nx ρ2 M2)
      | o => some o)
    | .ok false M1 => some (.nx ρ M1)
    | .exc e M1 => some (.exc e M1)
    | .bad => some .bad
theorem ZcN {c : Tv} {g : Sv} : ∀ {n : Nat} {ρ : Ro} {M : Sto} {o : Fl}, whN c g n ρ M = some o → ∀ k, whN c g (n + k) ρ M = some o
  | 0, _, _, _, e, _ => by simp only [whN] at e; cases e
  | n + 1, ρ, M, o, e, k => by
    have ek : n + 1 + k = (n + k) + 1 := by omega
    rw [ek]
    unfold whN at e ⊢
    cases ec : c ρ M with
    | bad => rw [ec] at e; exact e
    | exc x M1 => rw [ec] at e; exact e
    | ok b M1 =>
      rw [ec] at e
      cases b with
      | false => exact e
      | true =>
        cases eg : g ρ M1 with
        | nx ρ2 M2 => simp only [eg] at e ⊢; exact ZcN e k
        | cnt ρ2 M2 => simp only [eg] at e ⊢; exact ZcN e k
        | brk ρ2 M2 => simp only [eg] at e ⊢; exact e
        | ret d M2 => simp only [eg] at e ⊢; exact e
        | exc x M2 => simp only [eg] at e ⊢; exact e
        | bad => simp only [eg] at e ⊢; exact e
open Classical in
noncomputable def sWh (c : Tv) (g : Sv) : Sv := fun ρ M => if h : ∃ o n, whN c g n ρ M = some o then Classical.choose h else .bad
theorem ZcC {c : Tv} {g : Sv} {n : Nat} {ρ : Ro} {M : Sto} {o : Fl} (e : whN c g n ρ M = some o) : sWh c g ρ M = o := by
  have hx : ∃ o n, whN c g n ρ M = some o := ⟨o, n, e⟩
  unfold sWh
  rw [dif_pos hx]
  obtain ⟨m, em⟩ := Classical.choose_spec hx
  have h1 := ZcN em n
  have h2 := ZcN e m
  rw [Nat.add_comm] at h2
  rw [h1] at h2
  exact Option.some.inj h2
theorem ZgK {c : Tv} {g : Sv} {ρ : Ro} {M : Sto} (e : sWh c g ρ M ≠ .bad) : ∃ n, whN c g n ρ M = some (sWh c g ρ M) := by
  by_cases hx : ∃ o n, whN c g n ρ M = some o
  · obtain ⟨o, n, h⟩ := hx
    exact ⟨n, by rw [ZcC h]; exact h⟩
  · unfold sWh at e
    rw [dif_neg hx] at e
    exact absurd rfl e
theorem Zee {c : Tv} {g : Sv} {ρ : Ro} {M M1 : Sto} (h : c ρ M = .ok false M1) : sWh c g ρ M = .nx ρ M1 := ZcC (n := 1) (by simp only [whN, h])
theorem Zfr {c : Tv} {g : Sv} {ρ ρ2 : Ro} {M M1 M2 : Sto} (h : c ρ M = .ok true M1) (h2 : g ρ M1 = .nx ρ2 M2) (hb : sWh c g ρ2 M2 ≠ .bad) : sWh c g ρ M = sWh c g ρ2 M2 := by
  obtain ⟨n, e⟩ := ZgK hb
  exact ZcC (n := n + 1) (by simp only [whN, h, h2]; exact e)
theorem Zfs {body : List Stmt} (hp : PassesOwn (model X.prog X.w) X.A X.env X.xe) (hc : DT X ξ c fc) (hb : DSs X ξ body g) : DS X ξ (.While c body [] pos) (sWh fc g) := by
  obtain ⟨tc, pc, qc⟩ := hc
  obtain ⟨tb, pb, qb⟩ := hb
  refine ⟨_, ZhT hp pc pb, fun σ ρ H α M Dn s hh w => ?_⟩
  have nb : sWh fc g ρ M ≠ .bad := fun z => by rw [z] at w; exact w
  obtain ⟨n, en⟩ := ZgK nb
  generalize sWh fc g ρ M = o at w en
  refine ⟨fun m σ' H' => ∃ ρ' α' M', Ext X.K H H' α α' ∧ SR X.K H' α' σ' ρ' ∧ HR X.K H' α' M' ∧ whN fc g m ρ' M' = some o, ⟨n, ρ, α, M, Ext.refl, s, hh, en⟩, ?_⟩
  rintro m σ1 H1 ⟨ρ1, α1, M1, e1, s1, h1, en1⟩
  cases m with
  | zero => simp only [whN] at en1; cases en1
  | succ m =>
    refine qc σ1 ρ1 H1 α1 M1 _ s1 h1 ?_
    unfold whN at en1
    cases ec : fc ρ1 M1 with
    | bad => rw [ec] at en1; cases en1; exact w.elim
    | exc x M2 =>
      rw [ec] at en1; cases en1
      exact fun C H' α' nn ex hr => w C H' α' nn (e1.trans ex) hr
    | ok b M2 =>
      rw [ec] at en1
      intro v H2 α2 e2 h2 ev
      cases ev
      cases b with
      | false =>
        cases en1
        exact Zi4 (w σ1 H2 α2 (e1.trans e2) h2 (s1.mono e2))
      | true =>
        refine Zi5 ⟨fun σ' H' => ∃ ρ' α' M', Ext X.K H H' α α' ∧ SR X.K H' α' σ' ρ' ∧ HR X.K H' α' M' ∧ whN fc g m ρ' M' = some o, fun σ' H' z => ⟨m, Nat.lt_succ_self m, z⟩, ?_⟩
        refine qb σ1 ρ1 H2 α2 M2 _ (s1.mono e2) h2 ?_
        have e12 := e1.trans e2
        cases eg : g ρ1 M2 with
        | nx ρ2 M3 => simp only [eg] at en1; exact fun σ' H' α' ex hr sr => ⟨ρ2, α', M3, e12.trans ex, sr, hr, en1⟩
        | cnt ρ2 M3 => simp only [eg] at en1; exact fun σ' H' α' ex hr sr => ⟨ρ2, α', M3, e12.trans ex, sr, hr, en1⟩
        | brk ρ2 M3 => simp only [eg] at en1; cases en1; exact fun σ' H' α' ex hr sr => w σ' H' α' (e12.trans ex) hr sr
        | ret d M3 => simp only [eg] at en1; cases en1; exact fun v H' α' ex hr sr => w v H' α' (e12.trans ex) hr sr
        | exc x M3 => simp only [eg] at en1; cases en1; exact fun C H' α' nn ex hr => w C H' α' nn (e12.trans ex) hr
        | bad => simp only [eg] at en1; cases en1; exact w.elim
noncomputable def ZbU (tg : Tg) (g : Sv) : List D → Ro → Sto → Fl
  | [], ρ, M => .nx ρ M
  | d :: r, ρ, M => match tg d ρ with
    | none => .bad
    | some ρ1 => (match g ρ1 M with
      | .nx ρ2 M2 => ZbU tg g r ρ2 M2
      | .cnt ρ2 M2 => ZbU tg g r ρ2 M2
      | .brk ρ2 M2 => .nx ρ2 M2
      | o => o)
noncomputable def ZgL (tg : Tg) (g : Sv) (n : Nat) : Nat → Nat → Ro → Sto → Fl
  | f, i, ρ, M => match M[n]? with
    | some (.lst xs) => (match xs[i]? with
      | none => .nx ρ M
      | some d => (match f with
        | 0 => .bad
        | f + 1 => (match tg d ρ with
          | none => .bad
          | some ρ1 => (match g ρ1 M with
            | .nx ρ2 M2 => ZgL tg g n f (i + 1) ρ2 M2
            | .cnt ρ2 M2 => ZgL tg g n f (i + 1) ρ2 M2
            | .brk ρ2 M2 => .nx ρ2 M2
            | o => o))))
    | none => .bad
noncomputable def Zbw (lo : Int) (n : Nat) : List D := (List.range n).map fun (i : Nat) => D.int (lo + i)
noncomputable def Zjb (tg : Tg) (g : Sv) (d : D) (ρ : Ro) (M : Sto) : Fl := match d with
  | .tup xs => ZbU tg g xs ρ M
  | .rol xs => ZbU tg g xs ρ M
  | .ref n => (match M[n]? with | some (.lst xs) => ZgL tg g n xs.length 0 ρ M | none => .bad)
  | _ => .bad
noncomputable def Zk9 (tg : Tg) (f : Ev) (g : Sv) : Sv := fun ρ M => ZaF (f ρ M) fun d M1 => Zjb tg g d ρ M1
noncomputable def ZaV (tg : Tg) (fs : Av) (g : Sv) : Sv := fun ρ M => ZaF (fs ρ M) fun ds M1 => match ds with
  | [.int j] => if -(2 ^ 62) ≤ j ∧ j < 2 ^ 62 then ZbU tg g (Zbw 0 j.toNat) ρ M1 else .bad
  | _ => .bad
noncomputable def ZgM (tg : Tg) (fs : Av) (g : Sv) : Sv := fun ρ M => ZaF (fs ρ M) fun ds M1 => match ds with
  | [.int i, .int j] => if -(2 ^ 62) ≤ i ∧ i < 2 ^ 62 ∧ -(2 ^ 62) ≤ j ∧ j < 2 ^ 62 then ZbU tg g (Zbw i (j - i).toNat) ρ M1 else .bad
  | _ => .bad
theorem Zft {lo : Int} {n i : Nat} (h : i < n) : (Zbw lo n)[i]? = some (.int (lo + i)) := by
  unfold Zbw
  rw [List.getElem?_map, List.getElem?_range h]
  rfl
theorem Zdz {lo : Int} {n : Nat} : (Zbw lo n).length = n := by unfold Zbw; rw [List.length_map, List.length_range]
theorem ZgN {lo : Int} {n i : Nat} (h : i < n) : (Zbw lo n).drop i = .int (lo + i) :: (Zbw lo n).drop (i + 1) := by
  have hl : i < (Zbw lo n).length := by rw [Zdz]; exact h
  have e := Zft (lo := lo) h
  rw [List.getElem?_eq_getElem hl] at e
  rw [List.drop_eq_getElem_cons hl, Option.some.inj e]
theorem Zie {tg : Expr} {gt : Tg} {tt : TG} {tb : TS} {Dn : Ends} {H H1 : Hp} {α α1 : List Addr} {o : Fl} {k : Ro → Sto → Fl} (w : FP X.K H α ξ Dn o)
    (qt : ∀ v d σ ρ H α ρ' Q, SR X.K H α σ ρ → Rep X.K H α v d → gt d ρ = some ρ' → (∀ σ', SR X.K H α σ' ρ' → Q σ' H) → tt v σ H Q) (qb : ∀ σ ρ H α M Dn, SR X.K H α σ ρ → HR X.K H α M → FP X.K H α ξ Dn (g ρ M) → tb Dn σ H)
    {v : V} {d : D} {σ1 : L2.St} {ρ1 : Ro} {M1 : Sto} (e1 : Ext X.K H H1 α α1) (s1 : SR X.K H1 α1 σ1 ρ1) (h1 : HR X.K H1 α1 M1) (r : Rep X.K H1 α1 v d)
    (en : (match gt d ρ1 with | none => Fl.bad | some ρ2 => (match g ρ2 M1 with | .nx ρ3 M3 => k ρ3 M3 | .cnt ρ3 M3 => k ρ3 M3 | .brk ρ3 M3 => .nx ρ3 M3 | o => o)) = o)
    {N : L2.St → Hp → Prop} (hN : ∀ σ' H', (∃ ρ' α' M', Ext X.K H H' α α' ∧ SR X.K H' α' σ' ρ' ∧ HR X.K H' α' M' ∧ k ρ' M' = o) → N σ' H') : tt v σ1 H1 fun σ2 H2 => tb { Dn with nx := N, ct := N, bk := Dn.nx } σ2 H2 := by
  cases eg : gt d ρ1 with
  | none => rw [eg] at en; cases en; exact w.elim
  | some ρ2 =>
    simp only [eg] at en
    refine qt v d σ1 ρ1 H1 α1 ρ2 _ s1 r eg fun σ2 s2 => qb σ2 ρ2 H1 α1 M1 _ s2 h1 ?_
    cases ex : g ρ2 M1 with
    | nx ρ3 M3 => simp only [ex] at en; exact fun σ' H' α' e2 hr sr => hN _ _ ⟨ρ3, α', M3, e1.trans e2, sr, hr, en⟩
    | cnt ρ3 M3 => simp only [ex] at en; exact fun σ' H' α' e2 hr sr => hN _ _ ⟨ρ3, α', M3, e1.trans e2, sr, hr, en⟩
    | brk ρ3 M3 => simp only [ex] at en; cases en; exact fun σ' H' α' e2 hr sr => w σ' H' α' (e1.trans e2) hr sr
    | ret d M3 => simp only [ex] at en; cases en; exact fun v H' α' e2 hr sr => w v H' α' (e1.trans e2) hr sr
    | exc x M3 => simp only [ex] at en; cases en; exact fun C H' α' nn e2 hr => w C H' α' nn (e1.trans e2) hr
    | bad => simp only [ex] at en; cases en; exact w.elim
theorem Zl3 {tg : Expr} {gt : Tg} {tt : TG} {tb : TS} {Dn : Ends} {H : Hp} {α : List Addr} {lo : Int} {n : Nat} {σ : L2.St} {ρ : Ro} {M : Sto}
    (qt : ∀ v d σ ρ H α ρ' Q, SR X.K H α σ ρ → Rep X.K H α v d → gt d ρ = some ρ' → (∀ σ', SR X.K H α σ' ρ' → Q σ' H) → tt v σ H Q) (qb : ∀ σ ρ H α M Dn, SR X.K H α σ ρ → HR X.K H α M → FP X.K H α ξ Dn (g ρ M) → tb Dn σ H)
    (s : SR X.K H α σ ρ) (hh : HR X.K H α M) (w : FP X.K H α ξ Dn (ZbU gt g (Zbw lo n) ρ M)) :
    ∃ W : Nat → Nat → L2.St → Hp → Prop, (∃ m, W 0 m σ H) ∧ ∀ i m σ H, W i m σ H →
      ((Itr lo n).stop i H ∧ Dn.nx σ H) ∨ ((Itr lo n).go i H ∧ ∃ N : L2.St → Hp → Prop, (∀ σ' H', N σ' H' → ∃ m', m' < m ∧ W (i + 1) m' σ' H') ∧ ∀ x H', (Itr lo n).yld i H x H' → tt x σ H' fun σ2 H2 => tb { Dn with nx := N, ct := N, bk := Dn.nx } σ2 H2) := by
  generalize ho : ZbU gt g (Zbw lo n) ρ M = o at w
  refine Zgm (fun i σ' H' => ∃ ρ' α' M', Ext X.K H H' α α' ∧ SR X.K H' α' σ' ρ' ∧ HR X.K H' α' M' ∧ ZbU gt g ((Zbw lo n).drop i) ρ' M' = o) ⟨ρ, α, M, Ext.refl, s, hh, ho⟩ ?_ ?_
  · rintro i σ1 H1 hi ⟨ρ1, α1, M1, e1, s1, h1, en⟩
    rw [ZgN hi] at en
    exact Zie (tg := tg) w qt qb e1 s1 h1 (.int (lo + i)) en (fun σ' H' z => z)
  · rintro σ1 H1 ⟨ρ1, α1, M1, e1, s1, h1, en⟩
    rw [List.drop_eq_nil_of_le (by rw [Zdz]; exact Nat.le_refl _)] at en
    cases en
    exact w σ1 H1 α1 e1 h1 s1
theorem Zbm {tg a : Expr} {gt : Tg} {fs : Av} {body : List Stmt} {p p2 : Pos} (hp : PassesOwn (model X.prog X.w) X.A X.env X.xe) (hm : X.mg "range" = none) (ha : DA X ξ [a] fs) (hg : DG X tg gt) (hb : DSs X ξ body g)
    (hgl : Gl X "range" := by rfl) (hs : starEach [a] X.env = [(false, eval a X.env)] := by rfl) (hf : ∀ x, foldedSetIterable (.Call (.Name "range" p) [a] [] p2) X.env x = pure x := by intro _; rfl) : DS X ξ (.For tg (.Call (.Name "range" p) [a] [] p2) body [] pos) (ZaV gt fs g) := by
  obtain ⟨ta, pa, qa⟩ := ha
  obtain ⟨tt, pt, qt⟩ := hg
  obtain ⟨tb, pb, qb⟩ := hb
  refine ⟨_, Zgl hp (Zd1 hgl hm pa hs) pt pb hf, fun σ ρ H α M Dn s hh w => qa σ ρ H α M _ s hh (FP.seq w fun ds M1 vs H1 α1 e1 h1 r1 w1 => ?_)⟩
  match r1 with
  | .nil => exact w1.elim
  | .cons r (.cons _ _) => cases r <;> exact w1.elim
  | .cons r .nil =>
    cases r with
    | int j =>
      by_cases c : -(2 ^ 62) ≤ j ∧ j < 2 ^ 62
      · simp only [if_pos c] at w1
        exact ⟨j, rfl, c.1, c.2, Zl3 (tg := tg) qt qb (s.mono e1) h1 w1⟩
      · simp only [if_neg c] at w1
        exact w1.elim
    | _ => exact w1.elim
noncomputable def Zrt (K : PySem.W.Frag) (tl : TE) : TI := fun σ H R => tl σ H fun x H1 => ∃ a, x = .ref a ∧ (((∃ xs, SqL K H1 a xs) ∧ R (Itl K a) H1) ∨ ((∃ xs, SqT K H1 a xs) ∧ R (Itt K a) H1))
theorem Zjc {tg l : Expr} {tl : TE} (hl : PE X l tl) : PI X tg l (Zrt X.K tl) := by
  intro pins s σ H R I h
  refine thn (hl pins s σ H _ I h) fun v s1 ⟨x, H1, I1, r1, q1⟩ => ?_
  obtain ⟨a, e, q⟩ := q1
  subst e
  cases r1
  have fp : ∀ b ∈ [s1.heap.objs.size], Zdg X pins H1 b := fun b hb => by
    have e : b = s1.heap.objs.size := by simpa using hb
    subst e
    exact I1.fpOk (Nat.le_refl _) (I1.hok.fresh (Nat.le_refl _))
  rcases q with ⟨⟨xs, hq⟩, q⟩ | ⟨⟨xs, hq⟩, q⟩
  · obtain ⟨its, rv, p, hz⟩ := I1.list hq
    refine wpAny_pyIter_list p.isList ?_
    exact ⟨s1.heap.objs.size, [s1.heap.objs.size], _, _, H1, rfl, I1.kept (t' := s1.toks) fun b o e => Heap.get?_push_of_some _ e, Zgj a _, ⟨_, Heap.get?_push_size _ rfl, rfl, rfl⟩, fp, q⟩
  · obtain ⟨its, rv, p, hz⟩ := I1.tuple hq
    refine wpAny_pyIter_tuple (show s1.heap.IsTuple a its.toArray from p) ?_
    exact ⟨s1.heap.objs.size, [s1.heap.objs.size], _, _, H1, rfl, I1.kept (t' := s1.toks) fun b o e => Heap.get?_push_of_some _ e, ZfI a _, ⟨_, Heap.get?_push_size _ rfl, rfl, rfl⟩, fp, q⟩
theorem Zjd {tg l : Expr} {gt : Tg} {f : Ev} {body : List Stmt} (hp : PassesOwn (model X.prog X.w) X.A X.env X.xe) (hl : DE X ξ l f) (hg : DG X tg gt) (hb : DSs X ξ body g)
    (hf : ∀ x, foldedSetIterable l X.env x = pure x := by intro _; rfl) : DS X ξ (.For tg l body [] pos) (Zk9 gt f g) := by
  obtain ⟨ta, pa, qa⟩ := hl
  obtain ⟨tt, pt, qt⟩ := hg
  obtain ⟨tb, pb, qb⟩ := hb
  refine ⟨_, Zgl hp (Zjc pa) pt pb hf, fun σ ρ H α M Dn s hh w => qa σ ρ H α M _ s hh (FP.seq w fun d M1 v H1 α1 e1 h1 r1 w1 => ?_)⟩
  have s1 := s.mono e1
  have pure_ : ∀ (ds : List D) (xs : List V), Reps X.K H1 α1 xs ds → FP X.K H1 α1 ξ Dn (ZbU gt g ds ρ M1) → ∀ (i : Nat) σ' H', (∃ ρ' α' M', Ext X.K H1 H' α1 α' ∧ SR X.K H' α' σ' ρ' ∧ HR X.K H' α' M' ∧ ZbU gt g (ds.drop i) ρ' M' = ZbU gt g ds ρ M1) →
      (∀ x, xs[i]? = some x → tt x σ' H' fun σ2 H2 => tb { Dn with nx := fun σ H => ∃ ρ' α' M', Ext X.K H1 H α1 α' ∧ SR X.K H α' σ ρ' ∧ HR X.K H α' M' ∧ ZbU gt g (ds.drop (i + 1)) ρ' M' = ZbU gt g ds ρ M1, ct := fun σ H => ∃ ρ' α' M', Ext X.K H1 H α1 α' ∧ SR X.K H α' σ ρ' ∧ HR X.K H α' M' ∧ ZbU gt g (ds.drop (i + 1)) ρ' M' = ZbU gt g ds ρ M1, bk := Dn.nx } σ2 H2) ∧
      (i = xs.length → Dn.nx σ' H') := by
    intro ds xs r w1 i σ' H' ⟨ρ', α', M', ex, sr, hr, en⟩
    refine ⟨fun x hx => ?_, fun hi => ?_⟩
    · have hi : i < ds.length := by rw [← r.length]; exact (List.getElem?_eq_some_iff.mp hx).1
      obtain ⟨v, g1, g2⟩ := r.get (List.getElem?_eq_getElem hi)
      rw [hx] at g1
      cases g1
      rw [List.drop_eq_getElem_cons hi] at en
      exact Zie (tg := tg) w1 qt qb ex sr hr (Rep.mono ex g2) en (fun σ' H' z => z)
    · rw [hi, r.length, List.drop_length] at en
      have en' : Fl.nx ρ' M' = ZbU gt g ds ρ M1 := en
      rw [← en'] at w1
      exact w1 σ' H' α' ex hr sr
  cases r1 with
  | @tup p xs ds hp rp =>
    have w2 : FP X.K H1 α1 ξ Dn (ZbU gt g ds ρ M1) := w1
    refine ⟨p, rfl, .inr ⟨⟨xs, hp⟩, ZjP (K := X.K) (a := p) (xs := xs) (fun i σ' H' => ∃ ρ' α' M', Ext X.K H1 H' α1 α' ∧ SR X.K H' α' σ' ρ' ∧ HR X.K H' α' M' ∧ ZbU gt g (ds.drop i) ρ' M' = ZbU gt g ds ρ M1) ⟨ρ, α1, M1, Ext.refl, s1, h1, rfl⟩ ?_ ?_ ?_⟩⟩
    · rintro i σ' H' _ ⟨ρ', α', M', ex, _⟩
      exact ex.tup _ _ hp
    · intro i x σ' H' hx z
      exact (pure_ ds xs rp w2 i σ' H' z).1 x hx
    · intro σ' H' z
      exact (pure_ ds xs rp w2 _ σ' H' z).2 rfl
  | @rol p xs ds hp rp =>
    have w2 : FP X.K H1 α1 ξ Dn (ZbU gt g ds ρ M1) := w1
    refine ⟨p, rfl, .inl ⟨⟨xs, hp.sq⟩, ZhV (K := X.K) (a := p) (xs := xs) (fun i σ' H' => ∃ ρ' α' M', Ext X.K H1 H' α1 α' ∧ SR X.K H' α' σ' ρ' ∧ HR X.K H' α' M' ∧ ZbU gt g (ds.drop i) ρ' M' = ZbU gt g ds ρ M1) ⟨ρ, α1, M1, Ext.refl, s1, h1, rfl⟩ ?_ ?_ ?_⟩⟩
    · rintro i σ' H' _ ⟨ρ', α', M', ex, _⟩
      exact (ex.rol _ _ hp).sq
    · intro i x σ' H' hx z
      exact (pure_ ds xs rp w2 i σ' H' z).1 x hx
    · intro σ' H' z
      exact (pure_ ds xs rp w2 _ σ' H' z).2 rfl
  | @ref p n hp =>
    cases em : M1[n]? with
    | none => simp only [Zjb, em] at w1; exact w1.elim
    | some so =>
      cases so with
      | lst ds =>
        simp only [Zjb, em] at w1
        obtain ⟨xs0, g0, r0⟩ := h1.at hp em
        generalize eo : ZgL gt g n ds.length 0 ρ M1 = o at w1
        refine ⟨p, rfl, .inl ⟨⟨xs0, SqL.of g0⟩, fun i m σ' H' => ∃ ρ' α' M', Ext X.K H1 H' α1 α' ∧ SR X.K H' α' σ' ρ' ∧ HR X.K H' α' M' ∧ ZgL gt g n m i ρ' M' = o, ⟨ds.length, ρ, α1, M1, Ext.refl, s1, h1, eo⟩, ?_⟩⟩
        rintro i m σ' H' ⟨ρ', α', M', ex, sr, hr, en⟩
        unfold ZgL at en
        cases em2 : M'[n]? with
        | none => simp only [em2] at en; cases en; exact w1.elim
        | some so2 =>
          cases so2 with
          | lst ds2 =>
            simp only [em2] at en
            obtain ⟨xs, g1, g2⟩ := hr.at (ex.get hp) em2
            cases ei : ds2[i]? with
            | none =>
              simp only [ei] at en
              cases en
              refine .inl ⟨⟨xs, SqL.of g1, ?_⟩, w1 σ' H' α' ex hr sr⟩
              rw [g2.length]
              exact List.getElem?_eq_none_iff.mp ei
            | some d =>
              simp only [ei] at en
              obtain ⟨v, k1, k2⟩ := g2.get ei
              cases m with
              | zero => cases en; exact w1.elim
              | succ m =>
                refine .inr ⟨⟨xs, v, SqL.of g1, k1⟩, fun σ2 H2 => ∃ ρ' α' M', Ext X.K H1 H2 α1 α' ∧ SR X.K H2 α' σ2 ρ' ∧ HR X.K H2 α' M' ∧ ZgL gt g n m (i + 1) ρ' M' = o, fun σ2 H2 z => ⟨m, Nat.lt_succ_self m, z⟩, fun x H2 y => ?_⟩
                obtain ⟨ey, y⟩ := y
                subst ey
                have ev := y xs (SqL.of g1)
                rw [k1] at ev
                cases ev
                exact Zie (tg := tg) w1 qt qb ex sr hr k2 en (fun σ' H' z => z)
  | _ => exact w1.elim
end
noncomputable def fnF (g : Sv) (n k : Nat) : List D → Sto → Out D := fun ds M => if ds.length = n then (match g (ds.map some ++ List.replicate k none) M with
  | .ret d M' => .ok d M'
  | .nx _ M' => .ok .non M'
  | .exc c M' => .exc c M'
  | _ => .bad) else .bad
noncomputable def spD (K : PySem.W.Frag) (F : List D → Sto → Out D) : Sp := fun vs H Q E => ∃ ds α M, Reps K H α vs ds ∧ HR K H α M ∧ OP K H α E Q (F ds M)
theorem Zef : ∀ {ds : List D} {k i : Nat} {d : D}, (ds.map some ++ List.replicate k none)[i]? = some (some d) → ds[i]? = some d
  | [], k, i, d, h => by
    rw [List.map_nil, List.nil_append] at h
    have := List.mem_of_getElem? h
    rw [List.mem_replicate] at this
    cases this.2
  | x :: r, k, 0, d, h => by simpa using h
  | x :: r, k, i + 1, d, h => by
    rw [List.map_cons, List.cons_append, List.getElem?_cons_succ] at h
    rw [List.getElem?_cons_succ]
    exact Zef h
theorem SR.start {K : PySem.W.Frag} {H : Hp} {α : List Addr} {N : List Str} {vs : List V} {ds : List D} {k : Nat} (r : Reps K H α vs ds) (hk : k = N.length - ds.length) : SR K H α (start N vs) (ds.map some ++ List.replicate k none) := by
  unfold L2.start
  refine ⟨by simp only [List.length_append, List.length_map, List.length_replicate, r.length, hk], fun i d h => ?_⟩
  obtain ⟨v, h1, h2⟩ := r.get (Zef h)
  refine ⟨v, ?_, h2⟩
  have hl : i < vs.length := (List.getElem?_eq_some_iff.mp h1).1
  rw [List.getElem?_append_left (by rw [List.length_map]; exact hl), List.getElem?_map, h1]
  rfl
section
variable {P : Program} {w : World} {K : PySem.W.Frag} {mg : Str → Option Value} {base : Heap}
theorem Z4 {x qual : Str} {st : Stmt} {f : Addr} {fd : FuncData} {N ps : List Str} {k n m : Nat} {g : Sv} (F : Fun K x qual st f fd) (S : FnScope N ps (Zg st)) (hn : n = ps.length) (hm : m = N.length - n)
    (hb : ∀ (cdv : Value) (A : Around) (outer : List Env) (s : Shared) (H : Hp) (E : XK), Room k (A.deeper (envOfC qual (Zg st) s.heap.objs.size f cdv)) → Thr (ZeC (CXE P w) P w K mg base N qual (Zg st) f cdv A outer s H E) E → DSs (ZeC (CXE P w) P w K mg base N qual (Zg st) f cdv A outer s H E) E (Zp st) g) :
    FnOk P w K mg base (CXE P w) (k + 1) f fd ps (spD K (fnF g n m)) := by
  obtain ⟨oc, od, kV, doc, pm, an, cdv, ct, osl, rfl, lk, hcd⟩ := F.ex
  refine Zoq lk hcd S (fun vs H Q E h => ?_) (fun A outer s H vs Q E hr h => ?_)
  · obtain ⟨ds, α, M, r, _, q⟩ := h
    by_cases c : ds.length = n
    · rw [r.length, c, hn]
    · simp only [fnF, if_neg c] at q
      exact q.elim
  · obtain ⟨ds, α, M, r, hh, q⟩ := h
    obtain ⟨t, p, w'⟩ := hb cdv A outer s H E hr Zl1
    by_cases c : ds.length = n
    · simp only [fnF, if_pos c] at q
      refine ⟨t, p, w' _ _ H α M _ (SR.start (N := N) r (k := m) (by rw [hm, c])) hh ?_⟩
      cases e : g (ds.map some ++ List.replicate m none) M with
      | nx ρ' M' => simp only [e] at q; exact fun σ' H' α' ex hr sr => q _ H' α' ex hr .non
      | ret d M' => simp only [e] at q; exact q
      | exc x M' => simp only [e] at q; exact q
      | brk ρ' M' => simp only [e] at q; exact q.elim
      | cnt ρ' M' => simp only [e] at q; exact q.elim
      | bad => simp only [e] at q; exact q.elim
    · simp only [fnF, if_neg c] at q
      exact q.elim
end
section
variable {X : Cx} {ξ : XK} {k : Nat} {f : Addr} {fd : FuncData} {ps : List Str} {F : List D → Sto → Out D} {x : Str} {p pos : Pos} {e : Expr} {es : List Expr} {fs : Av}
theorem Zj9 (G : FnOk X.prog X.w X.K X.mg X.base (CXE X.prog X.w) k f fd ps (spD X.K F)) (T : Thr X ξ) (hr : Room k X.A) (hm : X.mg x = some (.ref f)) (hk : PySem.W.keepIn X.K (.ref f) = true) (hb : ZeH X.K fd ps []) (ha : DA X ξ (e :: es) fs) (hg : Gl X x := by rfl)
    (hdb : (x == ("__debug__" : Str)) = false := by decide) (he : starEach (e :: es) X.env = (false, eval e X.env) :: starEach es X.env := by rfl) (hpl : (backTo pos (starEach es X.env)).any (·.1) = false := by rfl) : DE X ξ (.Call (.Name x p) (e :: es) [] pos) (Zh F fs) := by
  obtain ⟨t, pa, qa⟩ := ha
  refine ⟨_, ZjT G hr hg hm hk hb .nil T.ps pa hdb he hpl, fun σ ρ H α M Q s hh q => qa σ ρ H α M _ s hh (OG.seq q fun ds M1 vs H1 α1 e1 h1 r1 q1 => ?_)⟩
  rw [List.append_nil]
  exact ⟨ds, α1, M1, r1, h1, q1⟩
end
end DL
end
section
set_option Elab.async false
set_option linter.all false
set_option maxRecDepth 100000
set_option maxHeartbeats 4000000
namespace DL
open PySem PySem.Spec PyProof.Rows L2
theorem Zdn : bootBuiltins "abs" = some (.builtin "abs") := by decide +kernel
theorem Zeg : bootBuiltins "int" = some (.type "int") := by decide +kernel
theorem ZgO : bootBuiltins "bool" = some (.type "bool") := by decide +kernel
theorem ZcU : bootBuiltins "list" = some (.type "list") := by decide +kernel
theorem Zfu : bootBuiltins "tuple" = some (.type "tuple") := by decide +kernel
theorem Zeh : bootBuiltins "max" = some (.builtin "max") := by decide +kernel
theorem Zl4 : bootBuiltins "min" = some (.builtin "min") := by decide +kernel
theorem Zl5 : bootBuiltins "all" = some (.builtin "all") := by decide +kernel
noncomputable def Cal (P : Program) (w : World) (K : PySem.W.Frag) (mg : Str → Option Value) (base : Heap) (x : Str) (k n : Nat) (F : List D → Sto → Out D) : Prop :=
  ∃ (f : Addr) (fd : FuncData) (ps : List Str), FnOk P w K mg base (CXE P w) k f fd ps (spD K F) ∧ mg x = some (.ref f) ∧ PySem.W.keepIn K (.ref f) = true ∧ ps.length = n ∧ ZeH K fd ps []
theorem Zj {X : Cx} {ξ : XK} {k n : Nat} {F : List D → Sto → Out D} {x : Str} {p pos : Pos} {e : Expr} {es : List Expr} {fs : Av} (C : Cal X.prog X.w X.K X.mg X.base x k n F) (T : Thr X ξ) (hr : Room k X.A) (ha : DA X ξ (e :: es) fs) (hg : Gl X x := by rfl)
    (hdb : (x == ("__debug__" : Str)) = false := by decide) (he : starEach (e :: es) X.env = (false, eval e X.env) :: starEach es X.env := by rfl) (hpl : (backTo pos (starEach es X.env)).any (·.1) = false := by rfl) : DE X ξ (.Call (.Name x p) (e :: es) [] pos) (Zh F fs) := by
  obtain ⟨f, fd, ps, G, hm, hk, _, hb⟩ := C
  exact Zj9 G T hr hm hk hb ha hg hdb he hpl
theorem Zl6 {K : PySem.W.Frag} {H : Hp} {a : Addr} {ns : List Int} {n : Nat} {F : List D → Sto → Out D} (hl : ns.length ≤ n) (hO : Zn4 H) (hS : SqL K H a (ns.map V.int)) (h : ∃ M', F [.rol (ns.map D.int)] [] = .ok (.bl true) M') :
    spD K F [.ref a] H (fun v _ => v = .bl true) (fun _ _ _ => False) := by
  obtain ⟨M', e⟩ := h
  have hF : SqF K H a (ns.map V.int) := by
    rcases hS with (h | ⟨o, h⟩) | h
    · rcases hO a with z | ⟨o, xs, z⟩
      · rw [h] at z; cases z
      · rw [h] at z; cases z
    · exact .inl ⟨o, h⟩
    · exact .inr h
  refine ⟨[.rol (ns.map D.int)], [], [], .cons (.rol hF (Reps.ints ns)) .nil, HR.nil, ?_⟩
  rw [e]
  intro v H' α' _ _ r
  cases r
  rfl
end DL
end
section
set_option Elab.async false
set_option linter.all false
set_option maxRecDepth 100000
set_option maxHeartbeats 4000000
namespace DL
open PySem PySem.Spec PyProof.Rows L2
inductive Src where
  | pur (ds : List D)
  | sto (n : Nat)
  | zip (n m : Nat)
  | enu (n : Nat)
  | rev (n l : Nat)
noncomputable def nxt (src : Src) (i : Nat) (M : Sto) : Option (Option D) := match src with
  | .pur ds => some ds[i]?
  | .sto n => match M[n]? with | some (.lst xs) => some xs[i]? | none => none
  | .zip n m => match M[n]?, M[m]? with
    | some (.lst xs), some (.lst ys) => (match xs[i]?, ys[i]? with | some x, some y => some (some (.tup [x, y])) | _, _ => some none)
    | _, _ => none
  | .enu n => match M[n]? with | some (.lst xs) => (match xs[i]? with | some x => some (some (.tup [.int i, x])) | none => some none) | none => none
  | .rev n l => match M[n]? with | some (.lst xs) => if i < l then (match xs[l - 1 - i]? with | some x => some (some x) | none => none) else (if i = l then some none else none) | none => none
noncomputable def cnt (src : Src) (M : Sto) : Nat := match src with
  | .pur ds => ds.length
  | .sto n => match M[n]? with | some (.lst xs) => xs.length | none => 0
  | .zip n _ => match M[n]? with | some (.lst xs) => xs.length | none => 0
  | .enu n => match M[n]? with | some (.lst xs) => xs.length | none => 0
  | .rev _ l => l
noncomputable def Zl7 (K : PySem.W.Frag) (H : Hp) (α : List Addr) (J : It) (src : Src) : Prop := ∀ (i : Nat) H' α' M', Ext K H H' α α' → HR K H' α' M' → match nxt src i M' with
  | some none => J.stop i H'
  | some (some d) => J.go i H' ∧ ∀ x H'', J.yld i H' x H'' → Ext K H' H'' α' α' ∧ HR K H'' α' M' ∧ Rep K H'' α' x d
  | none => True
noncomputable def DI (X : Cx) (ξ : XK) (tg iter : Expr) (f : Ro → Sto → Out Src) : Prop := ∃ wi : TI, PI X tg iter wi ∧ ∀ σ ρ H α M R, SR X.K H α σ ρ → HR X.K H α M → OG X.K (Zl7 X.K) H α ξ R (f ρ M) → wi σ H R
section
variable {X : Cx} {ξ : XK} {tg iter a b : Expr} {fs : Av} {f : Ev} {p pos : Pos}
noncomputable def iR1 (fs : Av) : Ro → Sto → Out Src := fun ρ M => (fs ρ M).bind fun ds M1 => match ds with
  | [.int j] => if -(2 ^ 62) ≤ j ∧ j < 2 ^ 62 then .ok (.pur (Zbw 0 j.toNat)) M1 else .bad
  | _ => .bad
theorem ZfU {K : PySem.W.Frag} {H : Hp} {α : List Addr} {lo : Int} {n : Nat} : Zl7 K H α (Itr lo n) (.pur (Zbw lo n)) := by
  intro i H' α' M' ex hr
  show match some (Zbw lo n)[i]? with | some none => _ | some (some d) => _ | none => True
  by_cases h : i < n
  · rw [Zft h]
    refine ⟨h, fun x H'' y => ?_⟩
    obtain ⟨e1, e2⟩ := y
    subst e1 e2
    exact ⟨Ext.refl, hr, .int _⟩
  · rw [List.getElem?_eq_none (by rw [Zdz]; omega)]
    exact Nat.le_of_not_lt h
theorem ZgP (hm : X.mg "range" = none) (ha : DA X ξ [a] fs) (hgl : Gl X "range" := by rfl) (hs : starEach [a] X.env = [(false, eval a X.env)] := by rfl) : DI X ξ tg (.Call (.Name "range" p) [a] [] pos) (iR1 fs) := by
  obtain ⟨ta, pa, qa⟩ := ha
  refine ⟨_, Zd1 hgl hm pa hs, fun σ ρ H α M R s hh q => qa σ ρ H α M _ s hh (OG.seq q fun ds M1 vs H1 α1 e1 h1 r1 w1 => ?_)⟩
  match r1 with
  | .nil => exact w1.elim
  | .cons r (.cons _ _) => cases r <;> exact w1.elim
  | .cons r .nil =>
    cases r with
    | int j =>
      by_cases c : -(2 ^ 62) ≤ j ∧ j < 2 ^ 62
      · simp only [if_pos c] at w1
        exact ⟨j, rfl, c.1, c.2, w1 _ H1 α1 Ext.refl h1 ZfU⟩
      · simp only [if_neg c] at w1
        exact w1.elim
    | _ => exact w1.elim
noncomputable def iSq (f : Ev) : Ro → Sto → Out Src := fun ρ M => (f ρ M).bind fun d M1 => match d with
  | .tup ds => .ok (.pur ds) M1
  | .rol ds => .ok (.pur ds) M1
  | .ref n => .ok (.sto n) M1
  | _ => .bad
theorem Zby (ha : DE X ξ a f) : DI X ξ tg a (iSq f) := by
  obtain ⟨ta, pa, qa⟩ := ha
  refine ⟨_, Zjc pa, fun σ ρ H α M R s hh q => qa σ ρ H α M _ s hh (OG.seq q fun d M1 v H1 α1 e1 h1 r1 w1 => ?_)⟩
  cases r1 with
  | @tup p xs ds hp rp =>
    refine ⟨p, rfl, .inr ⟨⟨xs, hp⟩, w1 (Itt X.K p) H1 α1 Ext.refl h1 ?_⟩⟩
    intro i H' α' M' ex hr
    show match some ds[i]? with | some none => _ | some (some d) => _ | none => True
    cases ei : ds[i]? with
    | none => exact ⟨xs, ex.tup _ _ hp, by rw [rp.length]; exact List.getElem?_eq_none_iff.mp ei⟩
    | some d =>
      obtain ⟨v, k1, k2⟩ := rp.get ei
      refine ⟨⟨xs, v, ex.tup _ _ hp, k1⟩, fun x H'' y => ?_⟩
      obtain ⟨ey, y⟩ := y
      have z := y xs (ex.tup _ _ hp)
      rw [k1] at z
      cases z
      subst ey
      exact ⟨Ext.refl, hr, Rep.mono ex k2⟩
  | @rol p xs ds hp rp =>
    refine ⟨p, rfl, .inl ⟨⟨xs, hp.sq⟩, w1 (Itl X.K p) H1 α1 Ext.refl h1 ?_⟩⟩
    intro i H' α' M' ex hr
    show match some ds[i]? with | some none => _ | some (some d) => _ | none => True
    have hq := (ex.rol _ _ hp).sq
    cases ei : ds[i]? with
    | none => exact ⟨xs, hq, by rw [rp.length]; exact List.getElem?_eq_none_iff.mp ei⟩
    | some d =>
      obtain ⟨v, k1, k2⟩ := rp.get ei
      refine ⟨⟨xs, v, hq, k1⟩, fun x H'' y => ?_⟩
      obtain ⟨ey, y⟩ := y
      have z := y xs hq
      rw [k1] at z
      cases z
      subst ey
      exact ⟨Ext.refl, hr, Rep.mono ex k2⟩
  | @ref p n hp =>
    obtain ⟨xs0, g0⟩ := h1.some_at hp
    refine ⟨p, rfl, .inl ⟨⟨xs0, SqL.of g0⟩, w1 (Itl X.K p) H1 α1 Ext.refl h1 ?_⟩⟩
    intro i H' α' M' ex hr
    show match (match M'[n]? with | some (.lst xs) => some xs[i]? | none => none) with | some none => _ | some (some d) => _ | none => True
    cases em : M'[n]? with
    | none => exact True.intro
    | some so =>
      cases so with
      | lst ds =>
        obtain ⟨xs, g1, g2⟩ := hr.at (ex.get hp) em
        show match some ds[i]? with | some none => _ | some (some d) => _ | none => True
        cases ei : ds[i]? with
        | none => exact ⟨xs, SqL.of g1, by rw [g2.length]; exact List.getElem?_eq_none_iff.mp ei⟩
        | some d =>
          obtain ⟨v, k1, k2⟩ := g2.get ei
          refine ⟨⟨xs, v, SqL.of g1, k1⟩, fun x H'' y => ?_⟩
          obtain ⟨ey, y⟩ := y
          have z := y xs (SqL.of g1)
          rw [k1] at z
          cases z
          subst ey
          exact ⟨Ext.refl, hr, k2⟩
  | _ => exact w1.elim
end
noncomputable def blk (X : Cx) (scope : Scope) (cl : List (Str × Addr)) (N : List Str) (C : Addr) (fp : List Addr) (s : Shared) (H : Hp) : Cx :=
  { X with N := N, s₀ := s, H₀ := H, env := compEnvC scope cl C X.env, outer := X.stack, stack := X.stack, ex := fp, fn := fun _ => false, pn := [], xe := fun _ _ => False }
theorem Zb0 {X : Cx} {scope : Scope} {cl : List (Str × Addr)} {N : List Str} {C : Addr} {fp : List Addr} {s : Shared} {H : Hp} : Thr (blk X scope cl N C fp s H) E0 :=
  ⟨PassesOwn.never, fun _ _ _ _ _ _ _ ⟨_, _, _, _, _, _, _, _, _, _, _, _, _, q⟩ => q, fun _ _ _ _ _ _ _ _ _ _ _ _ _ _ _ _ _ _ q => q⟩
noncomputable def Zb7 (src : Src) (tg : Tg) (c : Tv) (f : Ev) (n : Nat) : Nat → Nat → Ro → Sto → Out Unit
  | fuel, i, ρ, M => match nxt src i M with
    | none => .bad
    | some none => .ok () M
    | some (some d) => (match fuel with
      | 0 => .bad
      | fuel + 1 => (match tg d ρ with
        | none => .bad
        | some ρ1 => (match c ρ1 M with
          | .ok true M1 => (match f ρ1 M1 with
            | .ok x M2 => (match M2[n]? with
              | some (.lst xs) => if xs.length < 10000000 then Zb7 src tg c f n fuel (i + 1) ρ1 (M2.set n (.lst (xs ++ [x]))) else .bad
              | none => .bad)
            | _ => .bad)
          | .ok false M1 => Zb7 src tg c f n fuel (i + 1) ρ1 M1
          | _ => .bad)))
noncomputable def roB (k : Nat) (fr : List Nat) (ρ : Ro) : Ro := List.replicate k none ++ fr.map fun i => (ρ[i]?).join
noncomputable def ZX (fi : Ro → Sto → Out Src) (k : Nat) (fr : List Nat) (tg : Tg) (c : Tv) (f : Ev) : Ev := fun ρ M => (fi ρ M).bind fun src M1 => match Zb7 src tg c f M1.length (cnt src M1) 0 (roB k fr ρ) (M1 ++ [.lst []]) with
  | .ok _ M2 => .ok (.ref M1.length) M2
  | _ => .bad
structure Blk (X : Cx) (scope : Scope) (cl : List (Str × Addr)) (N : List Str) (k : Nat) (fr : List Nat) : Prop where
  clos : closureFor scope X.env = pure cl
  kind : scope.kind = .function
  cell : ∀ y ∈ scope.names, y.2 ≠ .cell
  names : ∀ y ∈ scope.names, y.2 = .local → scope.names.lookup y.1 = some .local
  sub : ∀ x c, cl.lookup x = some c → X.env.cells.lookup x = some c
  has : ∀ x, ((relabel scope X.env).names.lookup x = some .cell ∨ (relabel scope X.env).names.lookup x = some .free) → ∃ c, cl.lookup x = some c
  len : N.length = k + fr.length
  at_ : ∀ (j i : Nat), fr[j]? = some i → ∃ x, N[k + j]? = some x ∧ X.N[i]? = some x ∧ X.env.kindOf x = some .cell ∧ ((relabel scope X.env).names.lookup x = some .cell ∨ (relabel scope X.env).names.lookup x = some .free) ∧ cl.lookup x = X.env.cells.lookup x
theorem Zbz {prog : Program} {w : World} {A : Around} {R : Result → Shared → Prop} {s : Shared} {elt target iter : Expr} {ifs : List Expr} {scope : Scope} {pos : Pos} {it acc : Value} {env : Env} (I : Nat → Shared → Prop)
    (turn : ∀ n s, I n s → wpAny (model prog w) A (pyNext it) (fun r s₁ => match r with
      | none => R (.ok .next) s₁
      | some v => wpAny (model prog w) A (letOwnedTupleGo target it v) (fun _ s₁ => wpAny (model prog w) A (assign target env v) (fun _ s₂ =>
          wpAny (model prog w) A (forIn ifs true fun c r => if r = true then do let ok ← isTrue c env (eval c env); pure (ForInStep.yield ok) else pure (ForInStep.yield r)) (fun ok s₃ =>
            if ok = true then wpAny (model prog w) A (eval elt env) (fun x s₄ =>
              wpAny (model prog w) A (call (.builtin "list.append") [acc, x]) (fun _ s₅ => ∃ m, m < n ∧ I m s₅) (fun _ _ => False) s₄) (fun _ _ => False) s₃
            else ∃ m, m < n ∧ I m s₃) (fun _ _ => False) s₂) (fun _ _ => False) s₁) (fun _ _ => False) s₁) (fun _ _ => False) s)
    (n : Nat) (h : I n s) :
    codeAny (model prog w) A (.compLoop (.ListComp elt [⟨target, iter, ifs, 0⟩] scope pos) 0 it acc env) R s := by
  refine codeAny_loop rfl I (fun n s hI => ?_) n h
  show wpAny _ A ((compTurn (.ListComp elt [⟨target, iter, ifs, 0⟩] scope pos) 0 it acc env).onRaise (fun x => do noteFrame x env; theTreesLotGoes x)) _ _ s
  refine wpAny_noted ?_
  rw [compTurn_list]
  refine wpAny_bind (wpAny_standAt (wpAny_bind (wpAny_mono (turn n s hI) (fun r s₁ h₁ => ?_) fun _ _ h' => h'.elim)))
  cases r with
  | none => exact wpAny_pure h₁
  | some v =>
    refine wpAny_bind (wpAny_mono h₁ (fun _ s₁ h₁ => ?_) fun _ _ h' => h'.elim)
    refine wpAny_bind (wpAny_mono h₁ (fun _ s₂ h₂ => wpAny_bind (wpAny_mono h₂ (fun ok s₃ h₃ => ?_) fun _ _ h' => h'.elim)) fun _ _ h' => h'.elim)
    cases ok with
    | false => exact wpAny_pure ⟨rfl, h₃⟩
    | true =>
      exact wpAny_bind (wpAny_bind (wpAny_mono h₃ (fun x s₄ h₄ => wpAny_bind (wpAny_mono h₄ (fun _ s₅ h₅ => wpAny_pure (wpAny_pure ⟨rfl, h₅⟩)) fun _ _ h' => h'.elim)) fun _ _ h' => h'.elim))
noncomputable def DC (X : Cx) (ifs : List Expr) (c : Tv) : Prop := (ifs = [] ∧ c = fun _ M => .ok true M) ∨ ∃ e, ifs = [e] ∧ DT X E0 e c
section
variable {X : Cx} {ξ : XK} {tg iter elt : Expr} {ifs : List Expr} {scope : Scope} {cl : List (Str × Addr)} {N : List Str} {k : Nat} {fr : List Nat} {fi : Ro → Sto → Out Src} {gt : Tg} {c : Tv} {f : Ev} {pos : Pos}
theorem ZgQ (B : Blk X scope cl N k fr) {pins : List (Addr × Obj)} {σ : L2.St} {H : Hp} {s : Shared} {fp : List Addr} (I : Inv X pins σ H s) (hf : ∀ b ∈ fp, Zdg X pins H b) (hlt : ∀ b ∈ fp, b < s.heap.objs.size) : (blk X scope cl N s.heap.objs.size fp s H).Ok where
  mod := I.ok.mod
  kind := B.kind
  glob := I.ok.glob
  blt := I.ok.blt
  above := Nat.le_refl _
  inj := fun x y c h1 h2 => I.ok.inj x y c (B.sub x c h1) (B.sub y c h2)
  has := fun x h => B.has x h
  cab := fun x c h => (by cases h)
  hd := I.ok.hd
  frames := I.ok.frames
  stk := .inl rfl
  exf := fun b hb => ⟨Nat.ne_of_lt (hlt b hb), fun x c h => (hf b hb).2.2.2.2.1 x c (B.sub x c h)⟩
  bs := I.bs
  bsz := Nat.le_trans I.ok.bsz I.sz
  noex := fun b o e hb => by
    rcases (hf b hb).2.2.2.1 with z | z
    · exact I.ok.noex b o e z
    · exact absurd (Nat.lt_of_lt_of_le (Heap.lt_size (I.ok.bs b o e).1) z) (Nat.lt_irrefl _)
  exfs := fun b hb z => by
    rcases List.mem_cons.mp (I.stkSub b z) with e | e
    · exact (hf b hb).2.1 e
    · exact (hf b hb).2.2.1 e
  funs := I.stack
  frf := I.stkFree
theorem join_some {α : Type} {o : Option (Option α)} {v : α} (h : o.join = some v) : o = some (some v) := by
  cases o with
  | none => cases h
  | some x => cases x with
    | none => cases h
    | some y => cases h; rfl
theorem Zka {ρ : Ro} {i : Nat} {d : D} (h : (roB k fr ρ)[i]? = some (some d)) : ∃ j r, i = k + j ∧ fr[j]? = some r ∧ ρ[r]? = some (some d) := by
  unfold roB at h
  by_cases hi : i < k
  · rw [List.getElem?_append_left (by rw [List.length_replicate]; exact hi)] at h
    have := List.mem_of_getElem? h
    rw [List.mem_replicate] at this
    cases this.2
  · rw [List.getElem?_append_right (by rw [List.length_replicate]; omega), List.length_replicate, List.getElem?_map] at h
    cases e : fr[i - k]? with
    | none => rw [e] at h; cases h
    | some r =>
      rw [e] at h
      exact ⟨i - k, r, by omega, e, join_some (Option.some.inj h)⟩
noncomputable def stB (k : Nat) (fr : List Nat) (σ : L2.St) : L2.St := List.replicate k none ++ fr.map fun i => (σ[i]?).join
theorem ZgR {σ : L2.St} {i : Nat} {d : V} (h : (stB k fr σ)[i]? = some (some d)) : ∃ j r, i = k + j ∧ fr[j]? = some r ∧ σ[r]? = some (some d) := by
  unfold stB at h
  by_cases hi : i < k
  · rw [List.getElem?_append_left (by rw [List.length_replicate]; exact hi)] at h
    have := List.mem_of_getElem? h
    rw [List.mem_replicate] at this
    cases this.2
  · rw [List.getElem?_append_right (by rw [List.length_replicate]; omega), List.length_replicate, List.getElem?_map] at h
    cases e : fr[i - k]? with
    | none => rw [e] at h; cases h
    | some r =>
      rw [e] at h
      exact ⟨i - k, r, by omega, e, join_some (Option.some.inj h)⟩
theorem SR.blk {K : PySem.W.Frag} {H : Hp} {α : List Addr} {σ : L2.St} {ρ : Ro} (h : SR K H α σ ρ) : SR K H α (stB k fr σ) (roB k fr ρ) := by
  refine ⟨by simp [stB, roB], fun i d e => ?_⟩
  obtain ⟨j, r, rfl, e1, e2⟩ := Zka e
  obtain ⟨v, e3, e4⟩ := h.2 r d e2
  refine ⟨v, ?_, e4⟩
  unfold stB
  rw [List.getElem?_append_right (by rw [List.length_replicate]; omega), List.length_replicate, List.getElem?_map, Nat.add_sub_cancel_left, e1]
  show some (σ[r]?).join = _
  rw [e3]
  rfl
theorem ZgS (B : Blk X scope cl N k fr) {pins : List (Addr × Obj)} {σ : L2.St} {H : Hp} {s : Shared} {fp : List Addr} {h1 : Heap} {tk : Nat} {m : Str → Option Value} (I : Inv X pins σ H s) (hf : ∀ b ∈ fp, Zdg X pins H b) (hlt : ∀ b ∈ fp, b < s.heap.objs.size)
    (hn : h1.Ns s.heap.objs.size m) (hk : ∀ b o, s.heap.get? b = some o → h1.get? b = some o) : Inv (blk X scope cl N s.heap.objs.size fp s H) [] (stB k fr σ) H { s with heap := h1, toks := tk } where
  ok := ZgQ B I hf hlt
  os := rfl
  bare := I.bare
  base := Un.kept hk
  loc := by
    refine ⟨m, hn, fun i x v e1 e2 e3 => ?_⟩
    obtain ⟨j, r, rfl, g1, g2⟩ := ZgR e2
    obtain ⟨y, k1, k2, k3, k4, k5⟩ := B.at_ j r g1
    have exy : x = y := Option.some.inj (e1.symm.trans k1)
    subst exy
    obtain ⟨m0, hm0, hl⟩ := I.loc
    obtain ⟨u, ru, lk⟩ := hl r x v k2 g2 (.inr (.inl k3))
    refine ⟨u, ru, ?_⟩
    rcases lk with ⟨z, _⟩ | ⟨_, c, z1, ⟨o, z2, z3⟩⟩
    · rw [k3] at z; cases z
    · exact .inr ⟨k4, c, k5.trans z1, ⟨o, hk _ _ z2, z3⟩⟩
  cell := fun x c h => by
    obtain ⟨v, o, e1, e2⟩ := I.cell x c (B.sub x c h)
    exact ⟨v, o, hk _ _ e1, e2⟩
  free := I.fresh
  freeC := fun x c h => I.freeC x c (B.sub x c h)
  pin := fun p hp => (by simp [blk] at hp)
  hok := I.hok.kept hk
  len := by
    show (stB k fr σ).length = N.length
    rw [B.len]
    simp [stB]
  qd := I.qd
theorem Zbn (B : Blk X scope cl N k fr) (hi : DI X ξ tg iter fi) (hg : ∀ C fp s H, DG (blk X scope cl N C fp s H) tg gt) (ht : ∀ C fp s H, DC (blk X scope cl N C fp s H) ifs c) (he : ∀ C fp s H, DE (blk X scope cl N C fp s H) E0 elt f)
    (hs : ∀ x, foldedSetIterable iter X.env x = pure x := by intro _; rfl) : DE X ξ (.ListComp elt [⟨tg, iter, ifs, 0⟩] scope pos) (ZX fi k fr gt c f) := by
  obtain ⟨wi, pi, qi⟩ := hi
  refine ⟨fun σ H Q => ∃ ρ α M, SR X.K H α σ ρ ∧ HR X.K H α M ∧ OP X.K H α ξ Q (ZX fi k fr gt c f ρ M), ?_, fun σ ρ H α M Q s h q => ⟨ρ, α, M, s, h, q⟩⟩
  rintro pins s σ H Q I ⟨ρ, α, M, sr, hr, op⟩
  rw [eval_ListComp]
  refine wpAny_comprehension_free (use := none) rfl hs B.clos B.kind B.names ?_
  refine thn (pi pins s σ H (fun J H2 => ∃ α2 M2 src, Ext X.K H H2 α α2 ∧ HR X.K H2 α2 M2 ∧ Zl7 X.K H2 α2 J src ∧ OP X.K H2 α2 ξ Q (match Zb7 src gt c f M2.length (cnt src M2) 0 (roB k fr ρ) (M2 ++ [.lst []]) with | .ok _ M2' => .ok (.ref M2.length) M2' | _ => .bad)) I
    (qi σ ρ H α M _ sr hr (OG.seq op fun src M1 J H1 α1 e1 h1 r1 q1 => ⟨α1, M1, src, e1, h1, r1, q1⟩))) fun v s1 w1 => thn w1 fun itv s2 w2 => ?_
  obtain ⟨it, fp, tn, J, H2, rfl, I2, T, st2, f2, α2, M2, src, e2, h2, sc, op2⟩ := w2
  have srI := sr.mono e2
  refine wpAny_newObj_type ?_
  have I3 : Inv X pins σ (upd H2 s2.heap.objs.size (.lst [])) { s2 with heap := s2.heap.push { cls := .type "list", data := .seq ([] : List Value).toArray } } := I2.lnew (its := []) (t' := s2.toks) .nil (Nat.zero_le _)
  have fD : H2 s2.heap.objs.size = none := I2.fresh
  generalize hD : s2.heap.objs.size = D at I3 fD
  generalize hs3 : ({ s2 with heap := s2.heap.push { cls := .type "list", data := .seq ([] : List Value).toArray } } : Shared) = s3 at I3
  generalize hH3 : upd H2 D (.lst []) = H3 at I3
  have h3 : HR X.K H3 (α2 ++ [D]) (M2 ++ [.lst []]) := by rw [← hH3]; exact h2.new fD .nil
  have e3 : Ext X.K H2 H3 α2 (α2 ++ [D]) := by rw [← hH3]; exact Ext.new fD
  have aD : (α2 ++ [D])[M2.length]? = some D := h2.last D
  have lt2 : ∀ b ∈ fp, b < s2.heap.objs.size := fun b hb => let ⟨o, e, _⟩ := T.obj _ _ st2 b hb; Heap.lt_size e
  have keep3 : ∀ b o, s2.heap.get? b = some o → s3.heap.get? b = some o := fun b o e => by rw [← hs3]; exact Heap.get?_push_of_some _ e
  have f3 : ∀ b ∈ fp, Zdg X pins H3 b := fun b hb => ⟨by rw [← hH3, ZR (by rw [← hD]; exact Nat.ne_of_lt (lt2 b hb))]; exact (f2 b hb).1, (f2 b hb).2⟩
  have lt3 : ∀ b ∈ fp, b < s3.heap.objs.size := fun b hb => let ⟨o, e, _⟩ := T.obj _ _ st2 b hb; Heap.lt_size (keep3 b o e)
  have st3 : tn 0 s3.heap := T.keep _ _ _ st2 fun b _ o e => keep3 b o e
  refine wpAny_newFunctionEnv B.cell (by intro y hy; simp at hy) (fun h₁ hns₁ hsb₁ => ?_) B.kind
  have keep4 : ∀ b o, s3.heap.get? b = some o → h₁.get? b = some o := fun b o e => hsb₁.extBut b o (Nat.ne_of_lt (Heap.lt_size e)) (Heap.get?_push_of_some _ e)
  have I4 := ZgS (tk := s3.toks + ([] : List (Str × Value)).length) B I3 f3 lt3 hns₁ keep4
  have st4 : tn 0 h₁ := T.keep _ _ _ st3 fun b _ o e => keep4 b o e
  generalize hX : blk X scope cl N s3.heap.objs.size fp s3 H3 = Y at I4
  have YK : Y.K = X.K := by rw [← hX]; rfl
  have Yp : Y.prog = X.prog := by rw [← hX]; rfl
  have Yw : Y.w = X.w := by rw [← hX]; rfl
  have YA : Y.A = X.A := by rw [← hX]; rfl
  have Ye : Y.env = compEnvC scope cl s3.heap.objs.size X.env := by rw [← hX]; rfl
  obtain ⟨tt, pt, qt⟩ := hg s3.heap.objs.size fp s3 H3
  obtain ⟨te, pe, qe⟩ := he s3.heap.objs.size fp s3 H3
  have tst := ht s3.heap.objs.size fp s3 H3
  rw [hX] at pt qt pe qe tst
  cases er : Zb7 src gt c f M2.length (cnt src M2) 0 (roB k fr ρ) (M2 ++ [.lst []]) with
  | exc x M9 => rw [er] at op2; exact op2.elim
  | bad => rw [er] at op2; exact op2.elim
  | ok u9 M9 =>
    rw [er] at op2
    have loop : codeAny (model X.prog X.w) X.A (.compLoop (.ListComp elt [⟨tg, iter, ifs, 0⟩] scope pos) 0 (.ref it) (.ref D) (compEnvC scope cl s3.heap.objs.size X.env)) (compPost (model X.prog X.w) X.A X.xe none (EP X pins σ Q) (.ref D) s3.heap.objs.size) { s3 with heap := h₁, toks := s3.toks + ([] : List (Str × Value)).length } := by
      refine Zbz (fun n s' => ∃ i σ' ρ' H' α' M', Inv Y [] σ' H' s' ∧ tn i s'.heap ∧ (∀ b ∈ fp, H' b = none) ∧ SR X.K H' α' σ' ρ' ∧ HR X.K H' α' M' ∧ Ext X.K H3 H' (α2 ++ [D]) α' ∧ Zb7 src gt c f M2.length n i ρ' M' = .ok u9 M9) ?_ (cnt src M2)
        ⟨0, stB k fr σ, roB k fr ρ, H3, α2 ++ [D], M2 ++ [.lst []], I4, st4, fun b hb => (f3 b hb).1, (srI.blk).mono e3, h3, Ext.refl, er⟩
      rintro n s5 ⟨i, σ5, ρ5, H5, α5, M5, I5, st5, fr5, sr5, hr5, ex5, en⟩
      have fp5 : ∀ {H' : Hp}, (∀ b ∈ fp, H' b = none) → ∀ b ∈ fp, Zdg Y [] H' b := fun hn b hb => ⟨hn b hb, by rw [Ye]; exact Nat.ne_of_lt (lt3 b hb), by
        have := (ZgQ B I3 f3 lt3).exfs b hb
        rw [hX] at this; exact this, .inl (by rw [← hX]; exact hb), fun x c h => (by rw [Ye] at h; exact (f3 b hb).2.2.2.2.1 x c (B.sub x c h)), fun p hp => (by rw [← hX] at hp; simp [blk] at hp)⟩
      have src5 := sc i H5 α5 M5 (e3.trans ex5) hr5
      rw [Zb7] at en
      cases ex : nxt src i M5 with
      | none => rw [ex] at en; cases en
      | some od =>
        rw [ex] at src5 en
        cases od with
        | none =>
          cases en
          have fin := T.done Y Yp Yw YK YA i [] s5 σ5 H5 (fun _ _ => False) I5 (fp5 fr5) st5 src5
          rw [YA] at fin
          refine thn fin fun r s6 ⟨hr6, I6⟩ => ?_
          subst hr6
          obtain ⟨m6, hm6, _⟩ := id I6.loc
          rw [Ye] at hm6
          refine ⟨m6, hm6, fun h' sb => ?_⟩
          have un := I6.base
          have hok6 := I6.hok
          have I7 : Inv X pins σ H5 s6 := by
            refine I3.call' (s' := s6) (ch := fp) ?_ ?_ ?_ I6.bare fun b hb => ?_
            · have := I6.os
              rw [this, ← hX]; rfl
            · rw [← hX] at un
              exact un
            · rw [Yp, Yw] at hok6
              exact hok6
            · obtain ⟨_, z1, z2, z3, z4, z5⟩ := f3 b hb
              exact ⟨z3, z1, z4, z5⟩
          have hC : H5 s3.heap.objs.size = none := by have := I6.free; rw [Ye] at this; exact this
          have I8 : Inv X pins σ H5 { s6 with heap := h', toks := s6.toks } := I7.turned (it := s3.heap.objs.size) (fun b o hb e => (sb.2 b hb).trans e) hC (Nat.ne_of_gt I3.lt) (.inr I3.sz)
            (fun x c h z => by
              obtain ⟨v, o, e, _⟩ := I3.cell x c h
              exact absurd (Heap.lt_size e) (by rw [z]; exact Nat.lt_irrefl _)) (fun p hp z => by
              have := (I3.pin p hp).1
              exact absurd (Heap.lt_size this) (by rw [z]; exact Nat.lt_irrefl _))
          exact ⟨.ref D, H5, I8, rfl, op2 _ H5 α5 (e3.trans ex5) hr5 (.ref (ex5.get aD))⟩
        | some d =>
          obtain ⟨go, yl⟩ := src5
          cases n with
          | zero => cases en
          | succ n =>
            simp only at en
            have itm := T.item Y Yp Yw YK YA i [] s5 σ5 H5 (fun _ _ => False) I5 (fp5 fr5) st5 go
            rw [YA] at itm
            refine thn itm fun r s6 ⟨u, hr6, w6⟩ => ?_
            subst hr6
            refine thn w6 fun _ s7 ⟨x, H7, I7, r7, y7, st7, fr7⟩ => ?_
            obtain ⟨ex7, hr7, rp7⟩ := yl x H7 y7
            have sr5 := sr5.mono ex7
            have hr5 := hr7
            have ex5 := ex5.trans ex7
            have I7' := I7.pinned (fp5 fr7) (T.obj _ _ st7)
            cases eg : gt d ρ5 with
            | none => rw [eg] at en; cases en
            | some ρ6 =>
              rw [eg] at en
              simp only at en
              have asg := pt _ s7 σ5 H7 x u _ I7' r7 (qt x d σ5 ρ5 H7 α5 ρ6 (fun σ' H' => H' = H7 ∧ SR X.K H7 α5 σ' ρ6) (by rw [YK]; exact sr5) (by rw [YK]; exact rp7) eg fun σ' s' => ⟨rfl, by rw [YK] at s'; exact s'⟩)
              rw [Yp, Yw, YA, Ye] at asg
              refine wpAny_mono asg (fun _ s8 ⟨σ8, H8, I8, z8, sr8⟩ => ?_) (fun _ _ z => by rw [← hX] at z; exact z)
              subst z8
              have again : ∀ {σ9 : L2.St} {H9 : Hp} {s9 : Shared}, Inv Y ([] ++ ZbW fp s7.heap) σ9 H9 s9 → Inv Y [] σ9 H9 s9 ∧ tn (i + 1) s9.heap ∧ ∀ b ∈ fp, H9 b = none := fun {σ9 H9 s9} I9 => by
                refine ⟨I9.unpinned, T.keep _ _ _ st7 fun b hb o e => (I9.pin (b, o) (List.mem_append_right _ (List.mem_append_right _ (Zae hb e)))).1, fun b hb => ?_⟩
                obtain ⟨o, e, _⟩ := T.obj _ _ st7 b hb
                exact (I9.pin (b, o) (List.mem_append_right _ (List.mem_append_right _ (Zae hb e)))).2.1
              have after : ∀ (kk : Bool) (M8 : Sto) (H9 : Hp) (α9 : List Addr) (s9 : Shared), Inv Y ([] ++ ZbW fp s7.heap) σ8 H9 s9 → Ext X.K H8 H9 α5 α9 → HR X.K H9 α9 M8 → c ρ6 M5 = .ok kk M8 →
                  (if kk = true then wpAny (model X.prog X.w) X.A (eval elt (compEnvC scope cl s3.heap.objs.size X.env)) (fun x s₄ => wpAny (model X.prog X.w) X.A (call (.builtin "list.append") [.ref D, x]) (fun _ s₅ => ∃ m, m < n + 1 ∧ ∃ i σ' ρ' H' α' M', Inv Y [] σ' H' s₅ ∧ tn i s₅.heap ∧ (∀ b ∈ fp, H' b = none) ∧ SR X.K H' α' σ' ρ' ∧ HR X.K H' α' M' ∧ Ext X.K H3 H' (α2 ++ [D]) α' ∧ Zb7 src gt c f M2.length m i ρ' M' = .ok u9 M9) (fun _ _ => False) s₄) (fun _ _ => False) s9
                   else ∃ m, m < n + 1 ∧ ∃ i σ' ρ' H' α' M', Inv Y [] σ' H' s9 ∧ tn i s9.heap ∧ (∀ b ∈ fp, H' b = none) ∧ SR X.K H' α' σ' ρ' ∧ HR X.K H' α' M' ∧ Ext X.K H3 H' (α2 ++ [D]) α' ∧ Zb7 src gt c f M2.length m i ρ' M' = .ok u9 M9) := by
                intro kk M8 H9 α9 s9 I9 ex9 hr9 ec
                rw [ec] at en
                cases kk with
                | false =>
                  obtain ⟨a1, a2, a3⟩ := again I9
                  exact Zi4 ⟨n, Nat.lt_succ_self n, i + 1, σ8, ρ6, H9, α9, M8, a1, a2, a3, sr8.mono ex9, hr9, ex5.trans ex9, en⟩
                | true =>
                  simp only at en
                  refine Zi5 ?_
                  cases ef : f ρ6 M8 with
                  | exc x9 M10 => rw [ef] at en; cases en
                  | bad => rw [ef] at en; cases en
                  | ok y M10 =>
                    rw [ef] at en
                    simp only at en
                    have ev := pe _ s9 σ8 H9 (fun v H' => ∃ α', Ext X.K H9 H' α9 α' ∧ HR X.K H' α' M10 ∧ Rep X.K H' α' v y) I9 (qe σ8 ρ6 H9 α9 M8 _ (by rw [YK]; exact sr8.mono ex9) (by rw [YK]; exact hr9) (by
                      rw [ef, YK]
                      exact fun v H' α' e h r => ⟨α', e, h, r⟩))
                    rw [Yp, Yw, YA, Ye] at ev
                    refine wpAny_mono ev (fun yv s10 ⟨v, H10, I10, r10, α10, ex10, hr10, rp10⟩ => ?_) (fun _ _ z => by rw [← hX] at z; exact z)
                    cases em : M10[M2.length]? with
                    | none => rw [em] at en; cases en
                    | some so =>
                      cases so with
                      | lst ds =>
                        rw [em] at en
                        simp only at en
                        by_cases cz : ds.length < 10000000
                        · rw [if_pos cz] at en
                          have aD10 := ex10.get (ex9.get (ex5.get aD))
                          obtain ⟨xs, g1, g2⟩ := hr10.at aD10 em
                          have ap := Zcb (X := Y) _ s10 σ8 H10 (.ref D) [v] (.ref D) [yv] (fun _ H' => H' = upd H10 D (.lst (xs ++ [v]))) I10 rfl (.cons r10 .nil) ⟨D, xs, v, rfl, rfl, g1, by rw [g2.length]; exact Nat.lt_of_lt_of_le cz (by decide), rfl⟩
                          rw [Yp, Yw, YA] at ap
                          refine wpAny_mono ap (fun _ s11 ⟨v11, H11, I11, _, z11⟩ => ?_) (fun _ _ z => by rw [← hX] at z; exact z)
                          subst z11
                          obtain ⟨a1, a2, a3⟩ := again I11
                          have exw : Ext X.K H10 (upd H10 D (.lst (xs ++ [v]))) α10 α10 := Ext.wr g1
                          exact ⟨n, Nat.lt_succ_self n, i + 1, σ8, ρ6, _, α10, _, a1, a2, a3, ((sr8.mono ex9).mono ex10).mono exw, hr10.wr aD10 g1 (g2.append (.cons rp10 .nil)), ((ex5.trans ex9).trans ex10).trans exw, en⟩
                        · rw [if_neg cz] at en
                          cases en
              rcases tst with ⟨rfl, ec⟩ | ⟨e, rfl, tt', ptt, qtt⟩
              · refine wpAny_tests_nil ?_
                exact after true M5 H8 α5 s8 I8 Ext.refl hr5 (by rw [ec])
              · refine wpAny_tests_one ?_
                cases ec : c ρ6 M5 with
                | exc x9 M10 => rw [ec] at en; cases en
                | bad => rw [ec] at en; cases en
                | ok kk M8 =>
                  have tv' := ptt _ s8 σ8 H8 (fun b H' => b = kk ∧ ∃ α', Ext X.K H8 H' α5 α' ∧ HR X.K H' α' M8) I8 (qtt σ8 ρ6 H8 α5 M5 _ (by rw [YK]; exact sr8) (by rw [YK]; exact hr5) (by
                    rw [ec, YK]
                    exact fun v H' α' e h r => ⟨r, α', e, h⟩))
                  rw [Yp, Yw, YA, Ye] at tv'
                  refine wpAny_mono tv' (fun b s9 ⟨H9, I9, zb, α9, ex9, hr9⟩ => ?_) (fun _ _ z => by rw [← hX] at z; exact z)
                  subst zb
                  exact after b M8 H9 α9 s9 I9 ex9 hr9 ec
    exact codeAny_compStart_list loop (T.self X.A 0 _ _ _ st4 loop)
end
end DL
end
section
set_option Elab.async false
set_option linter.all false
set_option maxRecDepth 100000
set_option maxHeartbeats 4000000
namespace DL
open PySem PySem.Spec PyProof.Rows L2
theorem Zl8 {names : List (Str × NameKind)} (h : names.all (fun y => y.2 != .cell && y.2 != .free) = true) (x : Str) : ¬ (names.lookup x = some .cell ∨ names.lookup x = some .free) := by
  induction names with
  | nil => intro z; rcases z with z | z <;> simp at z
  | cons y r ih =>
    rw [List.all_cons, Bool.and_eq_true] at h
    obtain ⟨n, kd⟩ := y
    rw [List.lookup_cons]
    cases e : x == n with
    | true =>
      simp only
      intro z
      have h1 := h.1
      rcases z with z | z <;> (cases z; simp at h1)
    | false => exact ih h.2
theorem Zif {names : List (Str × NameKind)} {env : Env} (h : names.all (fun y => y.2 != .cell && y.2 != .free) = true) :
    (names.map fun (n, k) => if (k == NameKind.free && env.scope.kind == .function && env.kindOf n == some .cell) then (n, NameKind.cell) else (n, k)) = names := by
  induction names with
  | nil => rfl
  | cons y r ih =>
    rw [List.all_cons, Bool.and_eq_true] at h
    obtain ⟨n, kd⟩ := y
    have hk : (kd == NameKind.free) = false := by
      have h1 := h.1
      rw [Bool.and_eq_true] at h1
      have h2 := h1.2
      cases kd <;> first | rfl | simp at h2
    rw [List.map_cons, ih h.2]
    simp [hk]
theorem Zla {X : Cx} {scope : Scope} {N : List Str} {k : Nat} (h : scope.names.all (fun y => y.2 != .cell && y.2 != .free) = true) (hk : scope.kind = .function) (hn : ∀ y ∈ scope.names, y.2 = .local → scope.names.lookup y.1 = some .local) (hl : N.length = k) : Blk X scope [] N k [] where
  clos := closureFor_none fun y hy z => by
    have := List.all_eq_true.mp h y hy
    rw [z] at this
    simp at this
  kind := hk
  cell := fun y hy z => by
    have := List.all_eq_true.mp h y hy
    rw [z] at this
    simp at this
  names := hn
  sub := fun x c z => (by cases z)
  has := fun x z => by
    have e : (relabel scope X.env).names = scope.names := Zif h
    rw [e] at z
    exact absurd z (Zl8 h x)
  len := hl
  at_ := fun j i z => (by simp at z)
theorem ZcV {env : Env} : ∀ (names : List (Str × NameKind)) (acc : List (Str × Addr)), (∀ y ∈ names, y.2 = .free → ∃ c, env.cells.lookup y.1 = some c) →
    (forIn names acc fun (x : Str × NameKind) (cs : List (Str × Addr)) => if x.2 == NameKind.free then (do let a ← cellOf env x.1; pure (ForInStep.yield ((x.1, a) :: cs))) else (pure (ForInStep.yield cs) : Sem _)) =
      (pure (((names.filter fun y => y.2 == .free).map fun y => (y.1, (env.cells.lookup y.1).getD 0)).reverse ++ acc) : Sem (List (Str × Addr)))
  | [], acc, _ => by simp
  | (n, kd) :: r, acc, h => by
    rw [List.forIn_cons]
    by_cases hk : (kd == NameKind.free) = true
    · obtain ⟨c, hc⟩ := h (n, kd) List.mem_cons_self (by simpa using hk)
      have e1 : cellOf env n = pure c := by unfold cellOf; rw [hc]
      have ih := ZcV r ((n, c) :: acc) fun y hy => h y (List.mem_cons_of_mem _ hy)
      simp only [hk, if_true, e1, pure_bind]
      refine Eq.trans ih ?_
      simp [List.filter_cons, hk, hc]
    · have ih := ZcV r acc fun y hy => h y (List.mem_cons_of_mem _ hy)
      simp only [hk, if_false, pure_bind]
      refine Eq.trans ih ?_
      simp [List.filter_cons, hk]
noncomputable def clF (scope : Scope) (env : Env) : List (Str × Addr) := ((scope.names.filter fun y => y.2 == .free).map fun y => (y.1, (env.cells.lookup y.1).getD 0)).reverse
theorem ZbH {env : Env} : ∀ {l : List (Str × NameKind)} {x : Str} {c : Addr}, (l.map fun y => (y.1, (env.cells.lookup y.1).getD 0)).lookup x = some c → c = (env.cells.lookup x).getD 0 ∧ ∃ y ∈ l, y.1 = x
  | [], x, c, h => by simp at h
  | y :: r, x, c, h => by
    rw [List.map_cons, List.lookup_cons] at h
    cases e : x == y.1 with
    | true =>
      rw [e] at h
      have ex : x = y.1 := by simpa using e
      cases h
      exact ⟨by rw [ex], y, List.mem_cons_self, ex.symm⟩
    | false =>
      rw [e] at h
      obtain ⟨h1, z, h2, h3⟩ := ZbH h
      exact ⟨h1, z, List.mem_cons_of_mem _ h2, h3⟩
theorem ZaJ {α : Type} : ∀ {l : List (Str × α)} {x : Str}, (∃ y ∈ l, y.1 = x) → ∃ c, l.lookup x = some c
  | [], x, h => by obtain ⟨y, h1, _⟩ := h; simp at h1
  | z :: r, x, h => by
    rw [List.lookup_cons]
    cases e : x == z.1 with
    | true => exact ⟨_, rfl⟩
    | false =>
      obtain ⟨y, h1, h2⟩ := h
      rcases List.mem_cons.mp h1 with q | q
      · subst q; rw [h2] at e; simp at e
      · exact ZaJ ⟨y, q, h2⟩
theorem ZG {env : Env} (nc : ∀ n, env.scope.names.lookup n = env.kindOf n) : ∀ {names : List (Str × NameKind)} {x : Str} {kd : NameKind}, (names.map fun (n, k) => if (k == NameKind.free && env.scope.kind == .function && env.kindOf n == some .cell) then (n, NameKind.cell) else (n, k)).lookup x = some kd →
    names.lookup x = some kd ∨ (names.lookup x = some .free ∧ kd = .cell)
  | [], x, kd, h => by simp at h
  | (n, q) :: r, x, kd, h => by
    rw [List.map_cons, List.lookup_cons] at h
    rw [List.lookup_cons]
    dsimp only at h ⊢
    by_cases c : (q == NameKind.free && env.scope.kind == .function && env.kindOf n == some .cell) = true
    · rw [if_pos c] at h
      dsimp only at h
      cases e : x == n with
      | true =>
        rw [e] at h
        cases h
        simp only [Bool.and_eq_true, beq_iff_eq] at c
        exact .inr ⟨by rw [c.1.1], rfl⟩
      | false => rw [e] at h; exact ZG nc h
    · rw [if_neg c] at h
      dsimp only at h
      cases e : x == n with
      | true => rw [e] at h; exact .inl h
      | false => rw [e] at h; exact ZG nc h
theorem ZaE {env : Env} : ∀ {names : List (Str × NameKind)} {x : Str}, names.lookup x = some .free → (∃ kd, (kd = NameKind.cell ∨ kd = NameKind.free) ∧ (names.map fun (n, k) => if (k == NameKind.free && env.scope.kind == .function && env.kindOf n == some .cell) then (n, NameKind.cell) else (n, k)).lookup x = some kd)
  | [], x, h => by simp at h
  | (n, q) :: r, x, h => by
    rw [List.lookup_cons] at h
    rw [List.map_cons, List.lookup_cons]
    by_cases c : (q == NameKind.free && env.scope.kind == .function && env.kindOf n == some .cell) = true
    · dsimp only
      rw [if_pos c]
      cases e : x == n with
      | true => exact ⟨_, .inl rfl, rfl⟩
      | false => rw [e] at h; exact ZaE h
    · dsimp only
      rw [if_neg c]
      cases e : x == n with
      | true => rw [e] at h; exact ⟨q, .inr (Option.some.inj h), rfl⟩
      | false => rw [e] at h; exact ZaE h
noncomputable def Zl9 (XN N : List Str) (dn sn : List (Str × NameKind)) (k : Nat) (fr : List Nat) : Bool :=
  (sn.all fun y => y.2 != .cell && (y.2 != .free || dn.lookup y.1 == some .cell) && (y.2 != .local || sn.lookup y.1 == some .local)) && N.length == k + fr.length &&
    (List.range fr.length).all fun j => match fr[j]? with
      | some i => (match N[k + j]?, XN[i]? with | some x, some y => x == y && dn.lookup x == some .cell && sn.lookup x == some .free | _, _ => false)
      | none => false
theorem Zox {X : Cx} {scope : Scope} {N : List Str} {k n : Nat} {fr : List Nat} {XN : List Str} {dn : List (Str × NameKind)} (hN : X.N = XN) (hd : X.env.scope.names = dn) (hc : X.env.cells = cellsFrom n dn []) (hk : scope.kind = .function) (h : Zl9 XN N dn scope.names k fr = true) : Blk X scope (clF scope X.env) N k fr := by
  unfold Zl9 at h
  simp only [Bool.and_eq_true, List.all_eq_true, bne_iff_ne, ne_eq, Bool.or_eq_true, beq_iff_eq] at h
  obtain ⟨⟨h1, h2⟩, h3⟩ := h
  have kind : ∀ x, X.env.kindOf x = dn.lookup x := fun x => by rw [← hd]; rfl
  have cel : ∀ x, dn.lookup x = some .cell → ∃ c, X.env.cells.lookup x = some c := fun x e => by
    have := PySem.W.cellsFrom_some dn n [] (.inl e)
    rw [hc]
    exact Option.isSome_iff_exists.mp this
  have frc : ∀ y ∈ scope.names, y.2 = .free → ∃ c, X.env.cells.lookup y.1 = some c := fun y hy e => by
    rcases (h1 y hy).1.2 with z | z
    · exact absurd e z
    · exact cel _ z
  have sub : ∀ x c, (clF scope X.env).lookup x = some c → X.env.cells.lookup x = some c := fun x c e => by
    unfold clF at e
    rw [← List.map_reverse] at e
    obtain ⟨e1, y, e2, e3⟩ := ZbH e
    have e4 := List.mem_filter.mp (List.mem_reverse.mp e2)
    obtain ⟨c', g⟩ := frc y e4.1 (by simpa using e4.2)
    rw [e3] at g
    rw [g] at e1 ⊢
    rw [e1]
    rfl
  have has : ∀ x, scope.names.lookup x = some .free → ∃ c, (clF scope X.env).lookup x = some c := fun x e => by
    refine ZaJ ?_
    have m := PySem.mem_of_lookup e
    exact ⟨(x, (X.env.cells.lookup x).getD 0), List.mem_reverse.mpr (List.mem_map.mpr ⟨(x, .free), List.mem_filter.mpr ⟨m, by simp⟩, rfl⟩), rfl⟩
  refine ⟨?_, hk, fun y hy => (h1 y hy).1.1, fun y hy e => ?_, sub, fun x z => ?_, h2, fun j i e => ?_⟩
  · have := ZcV (env := X.env) scope.names [] frc
    rw [List.append_nil] at this
    unfold closureFor
    exact (congrArg (fun (m : Sem (List (Str × Addr))) => m >>= fun cs => (pure cs : Sem (List (Str × Addr)))) this).trans (pure_bind _ _)
  · rcases (h1 y hy).2 with z | z
    · exact absurd e z
    · exact z
  · have nc : ∀ m, X.env.scope.names.lookup m = X.env.kindOf m := fun m => rfl
    refine has x ?_
    rcases z with z | z
    · rcases ZG nc z with q | q
      · exact absurd rfl (h1 _ (PySem.mem_of_lookup q)).1.1
      · exact q.1
    · rcases ZG nc z with q | q
      · exact q
      · cases q.2
  · have hj : j < fr.length := (List.getElem?_eq_some_iff.mp e).1
    have q := h3 j (List.mem_range.mpr hj)
    rw [e] at q
    dsimp only at q
    cases e1 : N[k + j]? with
    | none => rw [e1] at q; cases q
    | some x =>
      cases e2 : XN[i]? with
      | none => rw [e1, e2] at q; cases q
      | some y =>
        rw [e1, e2] at q
        simp only [Bool.and_eq_true, beq_iff_eq] at q
        obtain ⟨⟨q1, q2⟩, q3⟩ := q
        subst q1
        obtain ⟨kd, r1, r2⟩ := ZaE (env := X.env) q3
        obtain ⟨c, r3⟩ := has x q3
        refine ⟨x, rfl, by rw [hN]; exact e2, by rw [kind]; exact q2, ?_, r3.trans (sub x c r3).symm⟩
        rcases r1 with r1 | r1
        · exact .inl (r1 ▸ r2)
        · exact .inr (r1 ▸ r2)
section
variable {X : Cx} {ξ : XK}
noncomputable def Zqh (X : Cx) : List V → Hp → VK → Prop := fun vs H Q => ∃ (p : Addr) (bs : List Bool), vs = [.ref p] ∧ SqL X.K H p (bs.map V.bl) ∧ Q (.bl (bs.all id)) H
theorem ZcW : ∀ {bs : List Bool} {us : List Value} {i : Nat} {u : Value}, Z3 (bs.map V.bl) us → us[i]? = some u → ∃ b, bs[i]? = some b ∧ u = .bool b
  | [], us, i, u, h, e => by cases h; simp at e
  | b :: r, us, i, u, h, e => by
    cases h with
    | cons h1 h2 =>
      cases i with
      | zero => simp at e; subst e; exact ⟨b, rfl, h1⟩
      | succ i => simp at e; obtain ⟨b', g1, g2⟩ := ZcW h2 e; exact ⟨b', by simpa using g1, g2⟩
theorem ZfV (bs : List Bool) : ((List.range bs.length).all fun i => (bs[i]?).getD true) = bs.all id := by
  rw [Bool.eq_iff_iff, List.all_eq_true, List.all_eq_true]
  constructor
  · intro h b hb
    obtain ⟨i, hi, e⟩ := List.getElem_of_mem hb
    have := h i (List.mem_range.mpr hi)
    simp only [List.getElem?_eq_getElem hi, Option.getD_some, e] at this
    exact this
  · intro h i hi
    have hi' := List.mem_range.mp hi
    simp only [List.getElem?_eq_getElem hi', Option.getD_some]
    exact h _ (List.getElem_mem hi')
theorem Zig (hc : X.calm = true) : Zb9 X (.builtin "all") (Zqh X) := by
  intro pins s σ H vs us Q I rs ⟨p, bs, e, hl, q⟩
  subst e
  obtain ⟨u, rfl, ru⟩ := Zdb rs
  cases ru
  obtain ⟨its, hv, hp, hz⟩ := I.list hl
  have hlt : p < s.heap.objs.size := by obtain ⟨_, e, _⟩ := hp.isList; exact Heap.lt_size e
  refine call_all_walk (wpAny_pyIter_list hp.isList ?_)
  refine ⟨s.heap.objs.size, [s.heap.objs.size, p], [s.heap.objs.size], its.toArray.size, _, _, fun i => (bs[i]?).getD true, rfl, Walks.list (A := X.A.in1) (I.ok.hd hc) _ p (Nat.ne_of_lt hlt) its.toArray,
    ⟨⟨_, Heap.get?_push_size _ rfl, rfl, rfl⟩, hp.isList.push _⟩, fun i v s' Q' E' hP hQ => ?_, fun h' tk hk => ?_⟩
  · obtain ⟨b, e, rfl⟩ := ZcW (i := i) (u := v) hv (by simpa using hP)
    simp only [e, Option.getD_some] at hQ
    exact wpAny_truthy_bool hQ
  · have e : ((List.range its.toArray.size).all fun i => (bs[i]?).getD true) = bs.all id := by
      rw [List.size_toArray, ← hv.length, List.length_map]; exact ZfV bs
    rw [e]
    exact ⟨.bl (bs.all id), H, I.kept fun b o e => hk b o (fun hm => by rw [List.mem_singleton.mp hm] at e; exact Nat.lt_irrefl _ (Heap.lt_size e)) (Heap.get?_push_of_some _ e), rfl, q⟩
noncomputable def ZW : List D → Option (List Bool)
  | [] => some []
  | .bl b :: r => match ZW r with | some bs => some (b :: bs) | none => none
  | _ :: _ => none
theorem ZcX {K : PySem.W.Frag} {H : Hp} {α : List Addr} : ∀ {vs : List V} {ds : List D} {bs : List Bool}, Reps K H α vs ds → ZW ds = some bs → vs = bs.map V.bl
  | _, _, _, .nil, e => by cases e; rfl
  | _, _, bs, .cons (d := d) (ds := ds) r t, e => by
    cases r with
    | bl b =>
      cases e1 : ZW ds with
      | none => simp only [ZW, e1] at e; cases e
      | some cs =>
        simp only [ZW, e1, Option.some.injEq] at e
        subst e
        rw [ZcX t e1]
        rfl
    | _ => cases e
noncomputable def bAll : List D → Sto → Out D := fun ds M => match ds with
  | [.ref n] => (match M[n]? with | some (.lst xs) => (match ZW xs with | some bs => .ok (.bl (bs.all id)) M | none => .bad) | none => .bad)
  | _ => .bad
theorem Zma : CO X ξ (Zqh X) bAll := by
  intro H α M vs ds Q h rs q
  match rs with
  | .nil => exact q.elim
  | .cons r (.cons _ _) => cases r <;> exact q.elim
  | .cons r .nil =>
    cases r with
    | @ref p n hp =>
      cases e1 : M[n]? with
      | none => simp only [bAll, e1] at q; exact q.elim
      | some so =>
        cases so with
        | lst es =>
          cases e2 : ZW es with
          | none => simp only [bAll, e1, e2] at q; exact q.elim
          | some bs =>
            simp only [bAll, e1, e2] at q
            obtain ⟨xs, g1, g2⟩ := h.at hp e1
            have := ZcX g2 e2
            subst this
            exact ⟨p, bs, rfl, SqL.of g1, q _ H α Ext.refl h (.bl _)⟩
    | _ => exact q.elim
end
section
variable {prog : Program} {w : World} {A : Around} {E : Value → Shared → Prop} {s : Shared}
end
section
variable {X : Cx} {ξ : XK} {e : Expr} {f : Ev} {p2 p3 p4 pos : Pos} {j : Nat}
theorem Reps.rev {K : PySem.W.Frag} {H : Hp} {α : List Addr} : ∀ {vs : List V} {ds : List D}, Reps K H α vs ds → Reps K H α vs.reverse ds.reverse
  | _, _, .nil => .nil
  | _, _, .cons r t => by
    rw [List.reverse_cons, List.reverse_cons]
    exact (Reps.rev t).append (.cons r .nil)
end
end DL
end
section
set_option Elab.async false
set_option linter.all false
set_option maxRecDepth 100000
set_option maxHeartbeats 4000000
namespace DL
open PySem PySem.Spec PyProof.Rows L2
theorem Zmb : bootBuiltins "any" = some (.builtin "any") := by decide +kernel
section
variable {X : Cx} {ξ : XK}
noncomputable def Zqi (X : Cx) : List V → Hp → VK → Prop := fun vs H Q => ∃ (p : Addr) (bs : List Bool), vs = [.ref p] ∧ SqL X.K H p (bs.map V.bl) ∧ Q (.bl (bs.any id)) H
theorem ZfW (bs : List Bool) : ((List.range bs.length).any fun i => (bs[i]?).getD true) = bs.any id := by
  rw [Bool.eq_iff_iff, List.any_eq_true, List.any_eq_true]
  constructor
  · rintro ⟨i, hi, h⟩
    have hi' := List.mem_range.mp hi
    simp only [List.getElem?_eq_getElem hi', Option.getD_some] at h
    exact ⟨_, List.getElem_mem hi', h⟩
  · rintro ⟨b, hb, h⟩
    obtain ⟨i, hi, e⟩ := List.getElem_of_mem hb
    refine ⟨i, List.mem_range.mpr hi, ?_⟩
    simp only [List.getElem?_eq_getElem hi, Option.getD_some, e]
    exact h
theorem Zih (hc : X.calm = true) : Zb9 X (.builtin "any") (Zqi X) := by
  intro pins s σ H vs us Q I rs ⟨p, bs, e, hl, q⟩
  subst e
  obtain ⟨u, rfl, ru⟩ := Zdb rs
  cases ru
  obtain ⟨its, hv, hp, hz⟩ := I.list hl
  have hlt : p < s.heap.objs.size := by obtain ⟨_, e, _⟩ := hp.isList; exact Heap.lt_size e
  refine call_any_walk (wpAny_pyIter_list hp.isList ?_)
  refine ⟨s.heap.objs.size, [s.heap.objs.size, p], [s.heap.objs.size], its.toArray.size, _, _, fun i => (bs[i]?).getD true, rfl, Walks.list (A := X.A.in1) (I.ok.hd hc) _ p (Nat.ne_of_lt hlt) its.toArray,
    ⟨⟨_, Heap.get?_push_size _ rfl, rfl, rfl⟩, hp.isList.push _⟩, fun i v s' Q' E' hP hQ => ?_, fun h' tk hk => ?_⟩
  · obtain ⟨b, e, rfl⟩ := ZcW (i := i) (u := v) hv (by simpa using hP)
    simp only [e, Option.getD_some] at hQ
    exact wpAny_truthy_bool hQ
  · have e : ((List.range its.toArray.size).any fun i => (bs[i]?).getD true) = bs.any id := by
      rw [List.size_toArray, ← hv.length, List.length_map]; exact ZfW bs
    rw [e]
    exact ⟨.bl (bs.any id), H, I.kept fun b o e => hk b o (fun hm => by rw [List.mem_singleton.mp hm] at e; exact Nat.lt_irrefl _ (Heap.lt_size e)) (Heap.get?_push_of_some _ e), rfl, q⟩
noncomputable def bAny : List D → Sto → Out D := fun ds M => match ds with
  | [.ref n] => (match M[n]? with | some (.lst xs) => (match ZW xs with | some bs => .ok (.bl (bs.any id)) M | none => .bad) | none => .bad)
  | _ => .bad
theorem Zmc : CO X ξ (Zqi X) bAny := by
  intro H α M vs ds Q h rs q
  match rs with
  | .nil => exact q.elim
  | .cons r (.cons _ _) => cases r <;> exact q.elim
  | .cons r .nil =>
    cases r with
    | @ref p n hp =>
      cases e1 : M[n]? with
      | none => simp only [bAny, e1] at q; exact q.elim
      | some so =>
        cases so with
        | lst es =>
          cases e2 : ZW es with
          | none => simp only [bAny, e1, e2] at q; exact q.elim
          | some bs =>
            simp only [bAny, e1, e2] at q
            obtain ⟨xs, g1, g2⟩ := h.at hp e1
            have := ZcX g2 e2
            subst this
            exact ⟨p, bs, rfl, SqL.of g1, q _ H α Ext.refl h (.bl _)⟩
    | _ => exact q.elim
end
end DL
end
section
set_option Elab.async false
set_option linter.all false
set_option maxRecDepth 100000
set_option maxHeartbeats 4000000
namespace DL
open PySem PySem.Spec PyProof.Rows L2
theorem ZaW : ∀ (names : List (Str × NameKind)) (n : Nat) (acc : List (Str × Addr)), cellsFrom n names acc = cellsFrom n names [] ++ acc
  | [], _, _ => rfl
  | (x, kd) :: r, n, acc => by
    unfold cellsFrom
    split
    · rw [ZaW r (n + 1) ((x, n) :: acc), ZaW r (n + 1) [(x, n)]]
      simp
    · exact ZaW r n acc
theorem Zb1 : ∀ (names : List (Str × NameKind)) (n : Nat) (x : Str) (c : Addr), (x, c) ∈ cellsFrom n names [] → (x, NameKind.cell) ∈ names
  | [], _, _, _, h => by simp [cellsFrom] at h
  | (y, kd) :: r, n, x, c, h => by
    unfold cellsFrom at h
    split at h
    · rename_i hk
      rw [ZaW] at h
      rcases List.mem_append.mp h with h | h
      · exact List.mem_cons_of_mem _ (Zb1 r (n + 1) x c h)
      · have e := List.mem_singleton.mp h
        cases e
        have : kd = .cell := by simpa using hk
        rw [this]
        exact List.mem_cons_self
    · exact List.mem_cons_of_mem _ (Zb1 r n x c h)
theorem ZdA {α : Type} : ∀ {l r : List (Str × α)} {x : Str} {c : α}, (l ++ r).lookup x = some c → l.lookup x = some c ∨ (l.lookup x = none ∧ r.lookup x = some c)
  | [], r, x, c, h => .inr ⟨rfl, h⟩
  | (y, d) :: l, r, x, c, h => by
    rw [List.cons_append, List.lookup_cons] at h
    rw [List.lookup_cons]
    cases e : x == y with
    | true => rw [e] at h; exact .inl h
    | false => rw [e] at h; exact ZdA h
theorem Zdo {α : Type} : ∀ {l r : List (Str × α)} {x : Str}, (∀ c, (x, c) ∉ l) → (l ++ r).lookup x = r.lookup x
  | [], _, _, _ => rfl
  | (y, d) :: l, r, x, h => by
    rw [List.cons_append, List.lookup_cons]
    cases e : x == y with
    | true =>
      have : x = y := by simpa using e
      exact absurd (by rw [this]; exact List.mem_cons_self) (h d)
    | false => exact Zdo fun c hc => h c (List.mem_cons_of_mem _ hc)
section
variable {M : Model} {A : Around} {E : Value → Shared → Prop} {s : Shared}
theorem ZgT {scope : Scope} {globals : Addr} {cl : List (Str × Addr)} {qual : Str} {env : Env} {Q : Env → Shared → Prop}
    (hQ : Q (newEnv scope s.heap.objs.size globals (cellsFrom (s.heap.objs.size + 1) scope.names cl) qual none .none (some env) builtinsNs) { s with heap := pushCells (s.heap.push { cls := .type "dict", data := .dict #[] }) scope.names }) :
    wpAny M A (newFunctionEnv scope globals cl [] qual none .none (some env)) Q E s := by
  simp only [newFunctionEnv, Option.isSome_some, if_true]
  refine wpAny_bind (wpAny_alloc ?_)
  refine wpAny_bind (wpAny_layCells _ (fun name kind cells => by cases hkc : kind == NameKind.cell <;> simp [hkc]) _ _ _ _ ?_)
  rw [show ({ s with heap := s.heap.push { cls := .type "dict", data := .dict #[] } } : Shared).heap.objs.size = s.heap.objs.size + 1 from Heap.size_push ..]
  exact wpAny_bind (wpAny_pure (wpAny_pure hQ))
end
theorem _root_.PySem.W.cellsFrom_mem {x : Str} : ∀ (names : List (Str × NameKind)) (n : Nat) (acc : List (Str × Addr)), (x, NameKind.cell) ∈ names → ((cellsFrom n names acc).lookup x).isSome = true
  | [], _, _, h => by simp at h
  | (y, kd) :: r, n, acc, h => by
    have acc_some : ∀ (names : List (Str × NameKind)) (n : Nat) (acc : List (Str × Addr)), (acc.lookup x).isSome = true → ((cellsFrom n names acc).lookup x).isSome = true := fun names n acc h => PySem.W.cellsFrom_some names n acc (.inr h)
    unfold cellsFrom
    split
    · rcases List.mem_cons.mp h with e | e
      · cases e
        refine acc_some _ _ _ ?_
        rw [List.lookup_cons]
        simp
      · exact PySem.W.cellsFrom_mem r _ _ e
    · rename_i hk
      rcases List.mem_cons.mp h with e | e
      · cases e
        simp at hk
      · exact PySem.W.cellsFrom_mem r _ _ e
noncomputable def Zfv (X : Cx) (scope : Scope) (cl : List (Str × Addr)) (N : List Str) (C : Addr) (fp : List Addr) (s : Shared) (H : Hp) : Cx :=
  { blk X scope (cellsFrom (C + 1) scope.names cl) N C fp s H with fn := fun x => scope.names.any fun y => y.1 == x && y.2 == .cell }
theorem Zii {X : Cx} {scope : Scope} {cl : List (Str × Addr)} {N : List Str} {C : Addr} {fp : List Addr} {s : Shared} {H : Hp} : Thr (Zfv X scope cl N C fp s H) E0 :=
  ⟨PassesOwn.never, fun _ _ _ _ _ _ _ ⟨_, _, _, _, _, _, _, _, _, _, _, _, _, q⟩ => q, fun _ _ _ _ _ _ _ _ _ _ _ _ _ _ _ _ _ _ q => q⟩
structure BlkC (X : Cx) (scope : Scope) (cl : List (Str × Addr)) (N : List Str) (k : Nat) (fr : List Nat) : Prop where
  clos : closureFor scope X.env = pure cl
  kind : scope.kind = .function
  names : ∀ y ∈ scope.names, y.2 = .local → scope.names.lookup y.1 = some .local
  sub : ∀ x c, cl.lookup x = some c → X.env.cells.lookup x = some c
  has : ∀ n x, ((relabel scope X.env).names.lookup x = some .cell ∨ (relabel scope X.env).names.lookup x = some .free) → ∃ c, (cellsFrom n scope.names cl).lookup x = some c
  len : N.length = k + fr.length
  at_ : ∀ (j i : Nat), fr[j]? = some i → ∃ x, N[k + j]? = some x ∧ X.N[i]? = some x ∧ X.env.kindOf x = some .cell ∧ ((relabel scope X.env).names.lookup x = some .cell ∨ (relabel scope X.env).names.lookup x = some .free) ∧ cl.lookup x = X.env.cells.lookup x ∧ (x, NameKind.cell) ∉ scope.names
section
variable {X : Cx} {ξ : XK} {tg iter elt : Expr} {ifs : List Expr} {scope : Scope} {cl : List (Str × Addr)} {N : List Str} {k : Nat} {fr : List Nat} {fi : Ro → Sto → Out Src} {gt : Tg} {c : Tv} {f : Ev} {pos : Pos}
theorem Zij (h : Heap) : CellsOk (pushCells (h.push { cls := .type "dict", data := .dict #[] }) scope.names) (h.objs.size + 1) (cellsFrom (h.objs.size + 1) scope.names []) := by
  have := cellsFrom_ok scope.names (h.push { cls := .type "dict", data := .dict #[] }) (h.objs.size + 1) [] ⟨fun _ _ hm => (nomatch hm), List.Pairwise.nil⟩ (by rw [Heap.size_push]; exact Nat.le_refl _)
  rw [Heap.size_push] at this
  exact this
theorem ZbA (B : BlkC X scope cl N k fr) {h : Heap} {x : Str} {c : Addr} (e : (cellsFrom (h.objs.size + 1) scope.names cl).lookup x = some c) : (X.env.cells.lookup x = some c) ∨ ((x, c) ∈ cellsFrom (h.objs.size + 1) scope.names [] ∧ h.objs.size + 1 ≤ c) := by
  rw [ZaW] at e
  rcases ZdA e with z | ⟨_, z⟩
  · have m := PySem.mem_of_lookup z
    exact .inr ⟨m, ((Zij h).empty x c m).2⟩
  · exact .inl (B.sub x c z)
theorem ZgU (B : BlkC X scope cl N k fr) {pins : List (Addr × Obj)} {σ : L2.St} {H : Hp} {s : Shared} {fp : List Addr} (I : Inv X pins σ H s) (hf : ∀ b ∈ fp, Zdg X pins H b) (hlt : ∀ b ∈ fp, b < s.heap.objs.size) {b : Addr} (hb : b ∈ fp) {x : Str} {c : Addr} (h : (cellsFrom (s.heap.objs.size + 1) scope.names cl).lookup x = some c) : c ≠ b := by
  rcases ZbA B h with z | ⟨_, z⟩
  · exact (hf b hb).2.2.2.2.1 x c z
  · exact Nat.ne_of_gt (Nat.lt_trans (hlt b hb) z)
theorem ZgV (B : BlkC X scope cl N k fr) {pins : List (Addr × Obj)} {σ : L2.St} {H : Hp} {s : Shared} {fp : List Addr} (I : Inv X pins σ H s) (hf : ∀ b ∈ fp, Zdg X pins H b) (hlt : ∀ b ∈ fp, b < s.heap.objs.size) : (Zfv X scope cl N s.heap.objs.size fp s H).Ok where
  mod := I.ok.mod
  kind := B.kind
  glob := I.ok.glob
  blt := I.ok.blt
  above := Nat.le_refl _
  inj := fun x y c h1 h2 => by
    have old : ∀ {x c}, X.env.cells.lookup x = some c → c < s.heap.objs.size := fun {x c} e => by
      obtain ⟨v, q⟩ := I.cell x c e
      exact q.lt
    rcases ZbA B h1 with z | ⟨m1, z⟩ <;> rcases ZbA B h2 with w | ⟨m2, w⟩
    · exact I.ok.inj x y c z w
    · exact absurd (Nat.lt_trans (old z) w) (Nat.lt_irrefl _)
    · exact absurd (Nat.lt_trans (old w) z) (Nat.lt_irrefl _)
    · exact name_of_addr (Zij (scope := scope) s.heap).apart m1 m2
  has := fun x h => B.has _ x h
  cab := fun x c h e => by
    obtain ⟨y, hy, hz⟩ := List.any_eq_true.mp h
    simp only [Bool.and_eq_true, beq_iff_eq] at hz
    have e' : (cellsFrom (s.heap.objs.size + 1) scope.names [] ++ cl).lookup x = some c := by rw [← ZaW]; exact e
    have hs := PySem.W.cellsFrom_mem scope.names (s.heap.objs.size + 1) [] (x := x) (by rw [← hz.1, ← hz.2]; exact hy)
    rcases ZdA e' with z | ⟨z, _⟩
    · exact Nat.le_of_lt ((Zij (scope := scope) s.heap).empty x c (PySem.mem_of_lookup z)).2
    · rw [z] at hs; cases hs
  hd := I.ok.hd
  frames := I.ok.frames
  stk := .inl rfl
  exf := fun b hb => ⟨Nat.ne_of_lt (hlt b hb), fun x c h => ZgU B I hf hlt hb h⟩
  bs := I.bs
  bsz := Nat.le_trans I.ok.bsz I.sz
  noex := fun b o e hb => by
    rcases (hf b hb).2.2.2.1 with z | z
    · exact I.ok.noex b o e z
    · exact absurd (Nat.lt_of_lt_of_le (Heap.lt_size (I.ok.bs b o e).1) z) (Nat.lt_irrefl _)
  exfs := fun b hb z => by
    rcases List.mem_cons.mp (I.stkSub b z) with e | e
    · exact (hf b hb).2.1 e
    · exact (hf b hb).2.2.1 e
  funs := I.stack
  frf := I.stkFree
theorem Zik (B : BlkC X scope cl N k fr) {pins : List (Addr × Obj)} {σ : L2.St} {H : Hp} {s : Shared} {fp : List Addr} (I : Inv X pins σ H s) (hf : ∀ b ∈ fp, Zdg X pins H b) (hlt : ∀ b ∈ fp, b < s.heap.objs.size) :
    Inv (Zfv X scope cl N s.heap.objs.size fp s H) [] (stB k fr σ) H { s with heap := pushCells (s.heap.push { cls := .type "dict", data := .dict #[] }) scope.names } := by
  have hk : ∀ b o, s.heap.get? b = some o → (pushCells (s.heap.push { cls := .type "dict", data := .dict #[] }) scope.names).get? b = some o := fun b o e => pushCells_keeps _ _ b o (Heap.get?_push_of_some _ e)
  have hn : (pushCells (s.heap.push { cls := .type "dict", data := .dict #[] }) scope.names).Ns s.heap.objs.size (fun _ => none) := (Heap.Ns.new s.heap (.type "dict")).keeps (pushCells_keeps _ _)
  have nw := Zij (scope := scope) s.heap
  exact {
    ok := ZgV B I hf hlt
    os := rfl
    bare := I.bare
    base := Un.kept hk
    loc := by
      refine ⟨_, hn, fun i x v e1 e2 e3 => ?_⟩
      obtain ⟨j, r, rfl, g1, g2⟩ := ZgR e2
      obtain ⟨y, k1, k2, k3, k4, k5, k6⟩ := B.at_ j r g1
      have exy : x = y := Option.some.inj (e1.symm.trans k1)
      subst exy
      obtain ⟨m0, hm0, hl⟩ := I.loc
      obtain ⟨u, ru, lk⟩ := hl r x v k2 g2 (.inr (.inl k3))
      refine ⟨u, ru, ?_⟩
      rcases lk with ⟨z, _⟩ | ⟨_, c, z1, ⟨o, z2, z3⟩⟩
      · rw [k3] at z; cases z
      · refine .inr ⟨k4, c, ?_, ⟨o, hk _ _ z2, z3⟩⟩
        show (cellsFrom (s.heap.objs.size + 1) scope.names cl).lookup x = some c
        rw [ZaW, Zdo fun c' hc' => k6 (Zb1 _ _ _ _ hc')]
        exact k5.trans z1
    cell := fun x c h => by
      rcases ZbA B h with z | ⟨m, _⟩
      · obtain ⟨v, o, e1, e2⟩ := I.cell x c z
        exact ⟨v, o, hk _ _ e1, e2⟩
      · exact ⟨none, (nw.empty x c m).1⟩
    free := I.fresh
    freeC := fun x c h => by
      rcases ZbA B h with z | ⟨_, z⟩
      · exact I.freeC x c z
      · exact I.hok.fresh (Nat.le_of_lt z)
    pin := fun p hp => (by simp [Zfv, blk] at hp)
    hok := I.hok.kept hk
    len := by
      show (stB k fr σ).length = N.length
      rw [B.len]
      simp [stB]
    qd := I.qd }
theorem Zil (B : BlkC X scope cl N k fr) (hi : DI X ξ tg iter fi) (hg : ∀ C fp s H, DG (Zfv X scope cl N C fp s H) tg gt) (ht : ∀ C fp s H, DC (Zfv X scope cl N C fp s H) ifs c) (he : ∀ C fp s H, DE (Zfv X scope cl N C fp s H) E0 elt f)
    (hs : ∀ x, foldedSetIterable iter X.env x = pure x := by intro _; rfl) : DE X ξ (.ListComp elt [⟨tg, iter, ifs, 0⟩] scope pos) (ZX fi k fr gt c f) := by
  obtain ⟨wi, pi, qi⟩ := hi
  refine ⟨fun σ H Q => ∃ ρ α M, SR X.K H α σ ρ ∧ HR X.K H α M ∧ OP X.K H α ξ Q (ZX fi k fr gt c f ρ M), ?_, fun σ ρ H α M Q s h q => ⟨ρ, α, M, s, h, q⟩⟩
  rintro pins s σ H Q I ⟨ρ, α, M, sr, hr, op⟩
  rw [eval_ListComp]
  refine wpAny_comprehension_free (use := none) rfl hs B.clos B.kind B.names ?_
  refine thn (pi pins s σ H (fun J H2 => ∃ α2 M2 src, Ext X.K H H2 α α2 ∧ HR X.K H2 α2 M2 ∧ Zl7 X.K H2 α2 J src ∧ OP X.K H2 α2 ξ Q (match Zb7 src gt c f M2.length (cnt src M2) 0 (roB k fr ρ) (M2 ++ [.lst []]) with | .ok _ M2' => .ok (.ref M2.length) M2' | _ => .bad)) I
    (qi σ ρ H α M _ sr hr (OG.seq op fun src M1 J H1 α1 e1 h1 r1 q1 => ⟨α1, M1, src, e1, h1, r1, q1⟩))) fun v s1 w1 => thn w1 fun itv s2 w2 => ?_
  obtain ⟨it, fp, tn, J, H2, rfl, I2, T, st2, f2, α2, M2, src, e2, h2, sc, op2⟩ := w2
  have srI := sr.mono e2
  refine wpAny_newObj_type ?_
  have I3 : Inv X pins σ (upd H2 s2.heap.objs.size (.lst [])) { s2 with heap := s2.heap.push { cls := .type "list", data := .seq ([] : List Value).toArray } } := I2.lnew (its := []) (t' := s2.toks) .nil (Nat.zero_le _)
  have fD : H2 s2.heap.objs.size = none := I2.fresh
  generalize hD : s2.heap.objs.size = D at I3 fD
  generalize hs3 : ({ s2 with heap := s2.heap.push { cls := .type "list", data := .seq ([] : List Value).toArray } } : Shared) = s3 at I3
  generalize hH3 : upd H2 D (.lst []) = H3 at I3
  have h3 : HR X.K H3 (α2 ++ [D]) (M2 ++ [.lst []]) := by rw [← hH3]; exact h2.new fD .nil
  have e3 : Ext X.K H2 H3 α2 (α2 ++ [D]) := by rw [← hH3]; exact Ext.new fD
  have aD : (α2 ++ [D])[M2.length]? = some D := h2.last D
  have lt2 : ∀ b ∈ fp, b < s2.heap.objs.size := fun b hb => let ⟨o, e, _⟩ := T.obj _ _ st2 b hb; Heap.lt_size e
  have keep3 : ∀ b o, s2.heap.get? b = some o → s3.heap.get? b = some o := fun b o e => by rw [← hs3]; exact Heap.get?_push_of_some _ e
  have f3 : ∀ b ∈ fp, Zdg X pins H3 b := fun b hb => ⟨by rw [← hH3, ZR (by rw [← hD]; exact Nat.ne_of_lt (lt2 b hb))]; exact (f2 b hb).1, (f2 b hb).2⟩
  have lt3 : ∀ b ∈ fp, b < s3.heap.objs.size := fun b hb => let ⟨o, e, _⟩ := T.obj _ _ st2 b hb; Heap.lt_size (keep3 b o e)
  have st3 : tn 0 s3.heap := T.keep _ _ _ st2 fun b _ o e => keep3 b o e
  refine ZgT ?_
  have keep4 : ∀ b o, s3.heap.get? b = some o → (pushCells (s3.heap.push { cls := .type "dict", data := .dict #[] }) scope.names).get? b = some o := fun b o e => pushCells_keeps _ _ b o (Heap.get?_push_of_some _ e)
  have I4 := Zik B I3 f3 lt3
  generalize pushCells (s3.heap.push { cls := .type "dict", data := .dict #[] }) scope.names = h₁ at keep4 I4
  have st4 : tn 0 h₁ := T.keep _ _ _ st3 fun b _ o e => keep4 b o e
  generalize hX : Zfv X scope cl N s3.heap.objs.size fp s3 H3 = Y at I4
  have YK : Y.K = X.K := by rw [← hX]; rfl
  have Yp : Y.prog = X.prog := by rw [← hX]; rfl
  have Yw : Y.w = X.w := by rw [← hX]; rfl
  have YA : Y.A = X.A := by rw [← hX]; rfl
  have Ye : Y.env = compEnvC scope (cellsFrom (s3.heap.objs.size + 1) scope.names cl) s3.heap.objs.size X.env := by rw [← hX]; rfl
  obtain ⟨tt, pt, qt⟩ := hg s3.heap.objs.size fp s3 H3
  obtain ⟨te, pe, qe⟩ := he s3.heap.objs.size fp s3 H3
  have tst := ht s3.heap.objs.size fp s3 H3
  rw [hX] at pt qt pe qe tst
  cases er : Zb7 src gt c f M2.length (cnt src M2) 0 (roB k fr ρ) (M2 ++ [.lst []]) with
  | exc x M9 => rw [er] at op2; exact op2.elim
  | bad => rw [er] at op2; exact op2.elim
  | ok u9 M9 =>
    rw [er] at op2
    have loop : codeAny (model X.prog X.w) X.A (.compLoop (.ListComp elt [⟨tg, iter, ifs, 0⟩] scope pos) 0 (.ref it) (.ref D) (compEnvC scope (cellsFrom (s3.heap.objs.size + 1) scope.names cl) s3.heap.objs.size X.env)) (compPost (model X.prog X.w) X.A X.xe none (EP X pins σ Q) (.ref D) s3.heap.objs.size) { s3 with heap := h₁ } := by
      refine Zbz (fun n s' => ∃ i σ' ρ' H' α' M', Inv Y [] σ' H' s' ∧ tn i s'.heap ∧ (∀ b ∈ fp, H' b = none) ∧ SR X.K H' α' σ' ρ' ∧ HR X.K H' α' M' ∧ Ext X.K H3 H' (α2 ++ [D]) α' ∧ Zb7 src gt c f M2.length n i ρ' M' = .ok u9 M9) ?_ (cnt src M2)
        ⟨0, stB k fr σ, roB k fr ρ, H3, α2 ++ [D], M2 ++ [.lst []], I4, st4, fun b hb => (f3 b hb).1, (srI.blk).mono e3, h3, Ext.refl, er⟩
      rintro n s5 ⟨i, σ5, ρ5, H5, α5, M5, I5, st5, fr5, sr5, hr5, ex5, en⟩
      have fp5 : ∀ {H' : Hp}, (∀ b ∈ fp, H' b = none) → ∀ b ∈ fp, Zdg Y [] H' b := fun hn b hb => ⟨hn b hb, by rw [Ye]; exact Nat.ne_of_lt (lt3 b hb), by
        have := (ZgV B I3 f3 lt3).exfs b hb
        rw [hX] at this; exact this, .inl (by rw [← hX]; exact hb), fun x c h => (by rw [Ye] at h; exact ZgU B I3 f3 lt3 hb h), fun p hp => (by rw [← hX] at hp; simp [Zfv, blk] at hp)⟩
      have src5 := sc i H5 α5 M5 (e3.trans ex5) hr5
      rw [Zb7] at en
      cases ex : nxt src i M5 with
      | none => rw [ex] at en; cases en
      | some od =>
        rw [ex] at src5 en
        cases od with
        | none =>
          cases en
          have fin := T.done Y Yp Yw YK YA i [] s5 σ5 H5 (fun _ _ => False) I5 (fp5 fr5) st5 src5
          rw [YA] at fin
          refine thn fin fun r s6 ⟨hr6, I6⟩ => ?_
          subst hr6
          obtain ⟨m6, hm6, _⟩ := id I6.loc
          rw [Ye] at hm6
          refine ⟨m6, hm6, fun h' sb => ?_⟩
          have un := I6.base
          have hok6 := I6.hok
          have I7 : Inv X pins σ H5 s6 := by
            refine I3.call' (s' := s6) (ch := fp) ?_ ?_ ?_ I6.bare fun b hb => ?_
            · have := I6.os
              rw [this, ← hX]; rfl
            · rw [← hX] at un
              exact un
            · rw [Yp, Yw] at hok6
              exact hok6
            · obtain ⟨_, z1, z2, z3, z4, z5⟩ := f3 b hb
              exact ⟨z3, z1, z4, z5⟩
          have hC : H5 s3.heap.objs.size = none := by have := I6.free; rw [Ye] at this; exact this
          have I8 : Inv X pins σ H5 { s6 with heap := h', toks := s6.toks } := I7.turned (it := s3.heap.objs.size) (fun b o hb e => (sb.2 b hb).trans e) hC (Nat.ne_of_gt I3.lt) (.inr I3.sz)
            (fun x c h z => by
              obtain ⟨v, o, e, _⟩ := I3.cell x c h
              exact absurd (Heap.lt_size e) (by rw [z]; exact Nat.lt_irrefl _)) (fun p hp z => by
              have := (I3.pin p hp).1
              exact absurd (Heap.lt_size this) (by rw [z]; exact Nat.lt_irrefl _))
          exact ⟨.ref D, H5, I8, rfl, op2 _ H5 α5 (e3.trans ex5) hr5 (.ref (ex5.get aD))⟩
        | some d =>
          obtain ⟨go, yl⟩ := src5
          cases n with
          | zero => cases en
          | succ n =>
            simp only at en
            have itm := T.item Y Yp Yw YK YA i [] s5 σ5 H5 (fun _ _ => False) I5 (fp5 fr5) st5 go
            rw [YA] at itm
            refine thn itm fun r s6 ⟨u, hr6, w6⟩ => ?_
            subst hr6
            refine thn w6 fun _ s7 ⟨x, H7, I7, r7, y7, st7, fr7⟩ => ?_
            obtain ⟨ex7, hr7, rp7⟩ := yl x H7 y7
            have sr5 := sr5.mono ex7
            have hr5 := hr7
            have ex5 := ex5.trans ex7
            have I7' := I7.pinned (fp5 fr7) (T.obj _ _ st7)
            cases eg : gt d ρ5 with
            | none => rw [eg] at en; cases en
            | some ρ6 =>
              rw [eg] at en
              simp only at en
              have asg := pt _ s7 σ5 H7 x u _ I7' r7 (qt x d σ5 ρ5 H7 α5 ρ6 (fun σ' H' => H' = H7 ∧ SR X.K H7 α5 σ' ρ6) (by rw [YK]; exact sr5) (by rw [YK]; exact rp7) eg fun σ' s' => ⟨rfl, by rw [YK] at s'; exact s'⟩)
              rw [Yp, Yw, YA, Ye] at asg
              refine wpAny_mono asg (fun _ s8 ⟨σ8, H8, I8, z8, sr8⟩ => ?_) (fun _ _ z => by rw [← hX] at z; exact z)
              subst z8
              have again : ∀ {σ9 : L2.St} {H9 : Hp} {s9 : Shared}, Inv Y ([] ++ ZbW fp s7.heap) σ9 H9 s9 → Inv Y [] σ9 H9 s9 ∧ tn (i + 1) s9.heap ∧ ∀ b ∈ fp, H9 b = none := fun {σ9 H9 s9} I9 => by
                refine ⟨I9.unpinned, T.keep _ _ _ st7 fun b hb o e => (I9.pin (b, o) (List.mem_append_right _ (List.mem_append_right _ (Zae hb e)))).1, fun b hb => ?_⟩
                obtain ⟨o, e, _⟩ := T.obj _ _ st7 b hb
                exact (I9.pin (b, o) (List.mem_append_right _ (List.mem_append_right _ (Zae hb e)))).2.1
              have after : ∀ (kk : Bool) (M8 : Sto) (H9 : Hp) (α9 : List Addr) (s9 : Shared), Inv Y ([] ++ ZbW fp s7.heap) σ8 H9 s9 → Ext X.K H8 H9 α5 α9 → HR X.K H9 α9 M8 → c ρ6 M5 = .ok kk M8 →
                  (if kk = true then wpAny (model X.prog X.w) X.A (eval elt (compEnvC scope (cellsFrom (s3.heap.objs.size + 1) scope.names cl) s3.heap.objs.size X.env)) (fun x s₄ => wpAny (model X.prog X.w) X.A (call (.builtin "list.append") [.ref D, x]) (fun _ s₅ => ∃ m, m < n + 1 ∧ ∃ i σ' ρ' H' α' M', Inv Y [] σ' H' s₅ ∧ tn i s₅.heap ∧ (∀ b ∈ fp, H' b = none) ∧ SR X.K H' α' σ' ρ' ∧ HR X.K H' α' M' ∧ Ext X.K H3 H' (α2 ++ [D]) α' ∧ Zb7 src gt c f M2.length m i ρ' M' = .ok u9 M9) (fun _ _ => False) s₄) (fun _ _ => False) s9
                   else ∃ m, m < n + 1 ∧ ∃ i σ' ρ' H' α' M', Inv Y [] σ' H' s9 ∧ tn i s9.heap ∧ (∀ b ∈ fp, H' b = none) ∧ SR X.K H' α' σ' ρ' ∧ HR X.K H' α' M' ∧ Ext X.K H3 H' (α2 ++ [D]) α' ∧ Zb7 src gt c f M2.length m i ρ' M' = .ok u9 M9) := by
                intro kk M8 H9 α9 s9 I9 ex9 hr9 ec
                rw [ec] at en
                cases kk with
                | false =>
                  obtain ⟨a1, a2, a3⟩ := again I9
                  exact Zi4 ⟨n, Nat.lt_succ_self n, i + 1, σ8, ρ6, H9, α9, M8, a1, a2, a3, sr8.mono ex9, hr9, ex5.trans ex9, en⟩
                | true =>
                  simp only at en
                  refine Zi5 ?_
                  cases ef : f ρ6 M8 with
                  | exc x9 M10 => rw [ef] at en; cases en
                  | bad => rw [ef] at en; cases en
                  | ok y M10 =>
                    rw [ef] at en
                    simp only at en
                    have ev := pe _ s9 σ8 H9 (fun v H' => ∃ α', Ext X.K H9 H' α9 α' ∧ HR X.K H' α' M10 ∧ Rep X.K H' α' v y) I9 (qe σ8 ρ6 H9 α9 M8 _ (by rw [YK]; exact sr8.mono ex9) (by rw [YK]; exact hr9) (by
                      rw [ef, YK]
                      exact fun v H' α' e h r => ⟨α', e, h, r⟩))
                    rw [Yp, Yw, YA, Ye] at ev
                    refine wpAny_mono ev (fun yv s10 ⟨v, H10, I10, r10, α10, ex10, hr10, rp10⟩ => ?_) (fun _ _ z => by rw [← hX] at z; exact z)
                    cases em : M10[M2.length]? with
                    | none => rw [em] at en; cases en
                    | some so =>
                      cases so with
                      | lst ds =>
                        rw [em] at en
                        simp only at en
                        by_cases cz : ds.length < 10000000
                        · rw [if_pos cz] at en
                          have aD10 := ex10.get (ex9.get (ex5.get aD))
                          obtain ⟨xs, g1, g2⟩ := hr10.at aD10 em
                          have ap := Zcb (X := Y) _ s10 σ8 H10 (.ref D) [v] (.ref D) [yv] (fun _ H' => H' = upd H10 D (.lst (xs ++ [v]))) I10 rfl (.cons r10 .nil) ⟨D, xs, v, rfl, rfl, g1, by rw [g2.length]; exact Nat.lt_of_lt_of_le cz (by decide), rfl⟩
                          rw [Yp, Yw, YA] at ap
                          refine wpAny_mono ap (fun _ s11 ⟨v11, H11, I11, _, z11⟩ => ?_) (fun _ _ z => by rw [← hX] at z; exact z)
                          subst z11
                          obtain ⟨a1, a2, a3⟩ := again I11
                          have exw : Ext X.K H10 (upd H10 D (.lst (xs ++ [v]))) α10 α10 := Ext.wr g1
                          exact ⟨n, Nat.lt_succ_self n, i + 1, σ8, ρ6, _, α10, _, a1, a2, a3, ((sr8.mono ex9).mono ex10).mono exw, hr10.wr aD10 g1 (g2.append (.cons rp10 .nil)), ((ex5.trans ex9).trans ex10).trans exw, en⟩
                        · rw [if_neg cz] at en
                          cases en
              rcases tst with ⟨rfl, ec⟩ | ⟨e, rfl, tt', ptt, qtt⟩
              · refine wpAny_tests_nil ?_
                exact after true M5 H8 α5 s8 I8 Ext.refl hr5 (by rw [ec])
              · refine wpAny_tests_one ?_
                cases ec : c ρ6 M5 with
                | exc x9 M10 => rw [ec] at en; cases en
                | bad => rw [ec] at en; cases en
                | ok kk M8 =>
                  have tv' := ptt _ s8 σ8 H8 (fun b H' => b = kk ∧ ∃ α', Ext X.K H8 H' α5 α' ∧ HR X.K H' α' M8) I8 (qtt σ8 ρ6 H8 α5 M5 _ (by rw [YK]; exact sr8) (by rw [YK]; exact hr5) (by
                    rw [ec, YK]
                    exact fun v H' α' e h r => ⟨r, α', e, h⟩))
                  rw [Yp, Yw, YA, Ye] at tv'
                  refine wpAny_mono tv' (fun b s9 ⟨H9, I9, zb, α9, ex9, hr9⟩ => ?_) (fun _ _ z => by rw [← hX] at z; exact z)
                  subst zb
                  exact after b M8 H9 α9 s9 I9 ex9 hr9 ec
    exact codeAny_compStart_list loop (T.self X.A 0 _ _ _ st4 loop)
end
noncomputable def Zkb (XN N : List Str) (dn sn : List (Str × NameKind)) (k : Nat) (fr : List Nat) : Bool :=
  (sn.all fun y => (y.2 != .free || dn.lookup y.1 == some .cell) && (y.2 != .local || sn.lookup y.1 == some .local)) && N.length == k + fr.length &&
    (List.range fr.length).all fun j => match fr[j]? with
      | some i => (match N[k + j]?, XN[i]? with | some x, some y => x == y && dn.lookup x == some .cell && sn.lookup x == some .free && sn.all (fun y => !(y.1 == x && y.2 == .cell)) | _, _ => false)
      | none => false
theorem Zru {X : Cx} {scope : Scope} {N : List Str} {k : Nat} {fr : List Nat} {XN : List Str} {dn : List (Str × NameKind)} (hN : X.N = XN) (hd : X.env.scope.names = dn) (cel : ∀ x, dn.lookup x = some .cell → ∃ c, X.env.cells.lookup x = some c) (hk : scope.kind = .function) (h : Zl9 XN N dn scope.names k fr = true) : Blk X scope (clF scope X.env) N k fr := by
  unfold Zl9 at h
  simp only [Bool.and_eq_true, List.all_eq_true, bne_iff_ne, ne_eq, Bool.or_eq_true, beq_iff_eq] at h
  obtain ⟨⟨h1, h2⟩, h3⟩ := h
  have kind : ∀ x, X.env.kindOf x = dn.lookup x := fun x => by rw [← hd]; rfl
  have frc : ∀ y ∈ scope.names, y.2 = .free → ∃ c, X.env.cells.lookup y.1 = some c := fun y hy e => by
    rcases (h1 y hy).1.2 with z | z
    · exact absurd e z
    · exact cel _ z
  have sub : ∀ x c, (clF scope X.env).lookup x = some c → X.env.cells.lookup x = some c := fun x c e => by
    unfold clF at e
    rw [← List.map_reverse] at e
    obtain ⟨e1, y, e2, e3⟩ := ZbH e
    have e4 := List.mem_filter.mp (List.mem_reverse.mp e2)
    obtain ⟨c', g⟩ := frc y e4.1 (by simpa using e4.2)
    rw [e3] at g
    rw [g] at e1 ⊢
    rw [e1]
    rfl
  have has : ∀ x, scope.names.lookup x = some .free → ∃ c, (clF scope X.env).lookup x = some c := fun x e => by
    refine ZaJ ?_
    have m := PySem.mem_of_lookup e
    exact ⟨(x, (X.env.cells.lookup x).getD 0), List.mem_reverse.mpr (List.mem_map.mpr ⟨(x, .free), List.mem_filter.mpr ⟨m, by simp⟩, rfl⟩), rfl⟩
  refine ⟨?_, hk, fun y hy => (h1 y hy).1.1, fun y hy e => ?_, sub, fun x z => ?_, h2, fun j i e => ?_⟩
  · have := ZcV (env := X.env) scope.names [] frc
    rw [List.append_nil] at this
    unfold closureFor
    exact (congrArg (fun (m : Sem (List (Str × Addr))) => m >>= fun cs => (pure cs : Sem (List (Str × Addr)))) this).trans (pure_bind _ _)
  · rcases (h1 y hy).2 with z | z
    · exact absurd e z
    · exact z
  · have nc : ∀ m, X.env.scope.names.lookup m = X.env.kindOf m := fun m => rfl
    refine has x ?_
    rcases z with z | z
    · rcases ZG nc z with q | q
      · exact absurd rfl (h1 _ (PySem.mem_of_lookup q)).1.1
      · exact q.1
    · rcases ZG nc z with q | q
      · exact q
      · cases q.2
  · have hj : j < fr.length := (List.getElem?_eq_some_iff.mp e).1
    have q := h3 j (List.mem_range.mpr hj)
    rw [e] at q
    dsimp only at q
    cases e1 : N[k + j]? with
    | none => rw [e1] at q; cases q
    | some x =>
      cases e2 : XN[i]? with
      | none => rw [e1, e2] at q; cases q
      | some y =>
        rw [e1, e2] at q
        simp only [Bool.and_eq_true, beq_iff_eq] at q
        obtain ⟨⟨q1, q2⟩, q3⟩ := q
        subst q1
        obtain ⟨kd, r1, r2⟩ := ZaE (env := X.env) q3
        obtain ⟨c, r3⟩ := has x q3
        refine ⟨x, rfl, by rw [hN]; exact e2, by rw [kind]; exact q2, ?_, r3.trans (sub x c r3).symm⟩
        rcases r1 with r1 | r1
        · exact .inl (r1 ▸ r2)
        · exact .inr (r1 ▸ r2)
theorem Zoy {X : Cx} {scope : Scope} {N : List Str} {k : Nat} {fr : List Nat} {XN : List Str} {dn : List (Str × NameKind)} (hN : X.N = XN) (hd : X.env.scope.names = dn) (cel : ∀ x, dn.lookup x = some .cell → ∃ c, X.env.cells.lookup x = some c) (hk : scope.kind = .function) (h : Zkb XN N dn scope.names k fr = true) : BlkC X scope (clF scope X.env) N k fr := by
  unfold Zkb at h
  simp only [Bool.and_eq_true, List.all_eq_true, bne_iff_ne, ne_eq, Bool.or_eq_true, beq_iff_eq] at h
  obtain ⟨⟨h1, h2⟩, h3⟩ := h
  have kind : ∀ x, X.env.kindOf x = dn.lookup x := fun x => by rw [← hd]; rfl
  have frc : ∀ y ∈ scope.names, y.2 = .free → ∃ c, X.env.cells.lookup y.1 = some c := fun y hy e => by
    rcases (h1 y hy).1 with z | z
    · exact absurd e z
    · exact cel _ z
  have sub : ∀ x c, (clF scope X.env).lookup x = some c → X.env.cells.lookup x = some c := fun x c e => by
    unfold clF at e
    rw [← List.map_reverse] at e
    obtain ⟨e1, y, e2, e3⟩ := ZbH e
    have e4 := List.mem_filter.mp (List.mem_reverse.mp e2)
    obtain ⟨c', g⟩ := frc y e4.1 (by simpa using e4.2)
    rw [e3] at g
    rw [g] at e1 ⊢
    rw [e1]
    rfl
  have has : ∀ x, scope.names.lookup x = some .free → ∃ c, (clF scope X.env).lookup x = some c := fun x e => by
    refine ZaJ ?_
    have m := PySem.mem_of_lookup e
    exact ⟨(x, (X.env.cells.lookup x).getD 0), List.mem_reverse.mpr (List.mem_map.mpr ⟨(x, .free), List.mem_filter.mpr ⟨m, by simp⟩, rfl⟩), rfl⟩
  refine ⟨?_, hk, fun y hy e => ?_, sub, fun n x z => ?_, h2, fun j i e => ?_⟩
  · have := ZcV (env := X.env) scope.names [] frc
    rw [List.append_nil] at this
    unfold closureFor
    exact (congrArg (fun (m : Sem (List (Str × Addr))) => m >>= fun cs => (pure cs : Sem (List (Str × Addr)))) this).trans (pure_bind _ _)
  · rcases (h1 y hy).2 with z | z
    · exact absurd e z
    · exact z
  · have nc : ∀ m, X.env.scope.names.lookup m = X.env.kindOf m := fun m => rfl
    have own : scope.names.lookup x = some .cell → ∃ c, (cellsFrom n scope.names (clF scope X.env)).lookup x = some c := fun e => Option.isSome_iff_exists.mp (PySem.W.cellsFrom_some scope.names n _ (.inl e))
    have oth : scope.names.lookup x = some .free → ∃ c, (cellsFrom n scope.names (clF scope X.env)).lookup x = some c := fun e => by
      obtain ⟨c, hc⟩ := has x e
      exact Option.isSome_iff_exists.mp (PySem.W.cellsFrom_some scope.names n _ (.inr (by rw [hc]; rfl)))
    rcases z with z | z
    · rcases ZG nc z with q | q
      · exact own q
      · exact oth q.1
    · rcases ZG nc z with q | q
      · exact oth q
      · cases q.2
  · have hj : j < fr.length := (List.getElem?_eq_some_iff.mp e).1
    have q := h3 j (List.mem_range.mpr hj)
    rw [e] at q
    dsimp only at q
    cases e1 : N[k + j]? with
    | none => rw [e1] at q; cases q
    | some x =>
      cases e2 : XN[i]? with
      | none => rw [e1, e2] at q; cases q
      | some y =>
        rw [e1, e2] at q
        simp only [Bool.and_eq_true, beq_iff_eq] at q
        obtain ⟨⟨⟨q1, q2⟩, q3⟩, q4⟩ := q
        subst q1
        obtain ⟨kd, r1, r2⟩ := ZaE (env := X.env) q3
        obtain ⟨c, r3⟩ := has x q3
        refine ⟨x, rfl, by rw [hN]; exact e2, by rw [kind]; exact q2, ?_, r3.trans (sub x c r3).symm, fun hm => ?_⟩
        · rcases r1 with r1 | r1
          · exact .inl (r1 ▸ r2)
          · exact .inr (r1 ▸ r2)
        · have := List.all_eq_true.mp q4 _ hm
          simp at this
theorem Zmd {X : Cx} {scope : Scope} {N : List Str} {k n : Nat} {fr : List Nat} {XN : List Str} {dn : List (Str × NameKind)} (hN : X.N = XN) (hd : X.env.scope.names = dn) (hc : X.env.cells = cellsFrom n dn []) (hk : scope.kind = .function) (h : Zkb XN N dn scope.names k fr = true) : BlkC X scope (clF scope X.env) N k fr :=
  Zoy hN hd (fun x e => by
    have := PySem.W.cellsFrom_some dn n [] (.inl e)
    rw [hc]
    exact Option.isSome_iff_exists.mp this) hk h
noncomputable def Zoz (names dn : List (Str × NameKind)) : List (Str × NameKind) := names.map fun (n, k) => if (k == NameKind.free && dn.lookup n == some .cell) then (n, NameKind.cell) else (n, k)
theorem ZgW {X : Cx} {scope : Scope} {dn : List (Str × NameKind)} (hd : X.env.scope.names = dn) (hk : X.env.scope.kind = .function) : (relabel scope X.env).names = Zoz scope.names dn := by
  unfold relabel Zoz
  rw [← hd]
  show scope.names.map _ = _
  apply List.map_congr_left
  rintro ⟨n, k⟩ _
  have e : (ScopeKind.function == ScopeKind.function) = true := by decide
  simp only [hk, e, Bool.and_true]
  rfl
section
variable {X : Cx} {scope0 : Scope} {cl0 : List (Str × Addr)} {N0 : List Str} {k0 : Nat} {fr0 : List Nat} {C : Addr} {fp : List Addr} {s : Shared} {H : Hp} {scope : Scope} {N : List Str} {k : Nat} {fr : List Nat} {dn : List (Str × NameKind)}
theorem Zme (B0 : BlkC X scope0 cl0 N0 k0 fr0) (hd : X.env.scope.names = dn) (hk0 : X.env.scope.kind = .function) (hk : scope.kind = .function) (h : Zl9 N0 N (Zoz scope0.names dn) scope.names k fr = true) : Blk (Zfv X scope0 cl0 N0 C fp s H) scope (clF scope (Zfv X scope0 cl0 N0 C fp s H).env) N k fr :=
  Zru rfl (ZgW hd hk0) (fun x e => B0.has _ x (.inl (by rw [ZgW hd hk0]; exact e))) hk h
end
theorem Zfw {X : Cx} {ξ : XK} {tg iter elt : Expr} {ifs : List Expr} {scope : Scope} {cl : List (Str × Addr)} {N : List Str} {k : Nat} {fr : List Nat} {fi : Ro → Sto → Out Src} {gt : Tg} {c : Tv} {f : Ev} {pos : Pos} (B : BlkC X scope cl N k fr) (hi : DI X ξ tg iter fi) (hg : ∀ C fp s H, DG (Zfv X scope cl N C fp s H) tg gt) (ht : ∀ C fp s H, DC (Zfv X scope cl N C fp s H) ifs c) (he : BlkC X scope cl N k fr → ∀ C fp s H, DE (Zfv X scope cl N C fp s H) E0 elt f)
    (hs : ∀ x, foldedSetIterable iter X.env x = pure x := by intro _; rfl) : DE X ξ (.ListComp elt [⟨tg, iter, ifs, 0⟩] scope pos) (ZX fi k fr gt c f) := Zil B hi hg ht (he B) hs
end DL
end
section
set_option Elab.async false
set_option linter.all false
set_option maxRecDepth 100000
set_option maxHeartbeats 4000000
namespace DL
open PySem PySem.Spec PyProof.Rows L2
open PySem.W (nsIn excIn tailIn nsOkIn mroIn clsIn typeIn findIn specialIn takesIn kitOne Looks)
noncomputable abbrev bmV : List Value := [.type "ValueError", .type "Exception", .type "BaseException", .type "object"]
noncomputable def Zkc (K : PySem.W.Frag) (c : Str) : Option Addr := match nsIn K mainGlobals c with | some (some (.ref C)) => some C | _ => none
theorem Zim {K : PySem.W.Frag} {c : Str} {C : Addr} (h : Zkc K c = some C) : nsIn K mainGlobals c = some (some (.ref C)) := by
  unfold Zkc at h
  split at h
  · rename_i C' e; cases h; exact e
  · cases h
noncomputable def ZgX (K : PySem.W.Frag) (c : Str) : Bool := match Zkc K c with
  | some C => excIn K C bmV "ValueError.__new__" && findIn K (.ref C) "__getattribute__" == some (some (.builtin "BaseException.__getattribute__")) && findIn K (.ref C) "__getattr__" == some none && findIn K (.ref C) "__class__" == some (some (.builtin "object.__class__")) &&
    specialIn K (.builtin "object.__class__") "__get__" == some (some (.builtin "getset_descriptor.__get__")) && takesIn K (.builtin "object.__class__") == some true && mroIn K C (.type "BaseException") == some true && mroIn K C (.type "object") == some true && (clsIn K C).isSome
  | none => false
theorem Zkd {K : PySem.W.Frag} {c : Str} (h : ZgX K c = true) : ∃ C, nsIn K mainGlobals c = some (some (.ref C)) ∧ excIn K C bmV "ValueError.__new__" = true ∧ DQ.ExcC K C := by
  unfold ZgX at h
  split at h
  · rename_i C e
    simp only [Bool.and_eq_true, beq_iff_eq] at h
    obtain ⟨⟨⟨⟨⟨⟨⟨⟨h1, h2⟩, h3⟩, h4⟩, h5⟩, h6⟩, h7⟩, h8⟩, h9⟩ := h
    exact ⟨C, Zim e, h1, h2, h3, h4, h5, h6, h7, h8, h9⟩
  · cases h
theorem Zke {K : PySem.W.Frag} {h : Heap} {C : Addr} {bmB : List Value} {newId : String} (X : K.In h) (q : excIn K C bmB newId = true) :
    ∃ bm N nm q bs hdct sn sub ab col dd k0 k1 k2 k3 k5 mN, h.get? C = some (excClassObj nm q C N bs bm hdct sn sub ab col dd k0 k1 k2 k3 k5 newId) ∧ h.Ns N mN ∧ mN "__init__" = none ∧ OwnTail h bmB bm := by
  unfold excIn at q
  split at q
  · rename_i dd cd sl ho
    split at q
    · rename_i C' bm k0 k1 k2 k3 n k5 hm hs
      simp only [Bool.and_eq_true, beq_iff_eq, Bool.not_eq_true'] at q
      obtain ⟨⟨⟨⟨⟨rfl, rfl⟩, hdel⟩, ht⟩, hok⟩, hni⟩ := q
      obtain ⟨nm, bs, mro, ns, qn, hd, sn, sub, ab, col, del⟩ := cd
      dsimp only at hm hdel hok hni
      subst hm hdel
      obtain ⟨l⟩ := sl
      simp only at hs
      subst hs
      exact ⟨bm, ns, nm, qn, bs, hd, sn, sub, ab, col, dd, k0, k1, k2, k3, k5, _, X _ _ ho, .of_isNs (PySem.W.isNs_of_in X hok), PySem.W.nsMap_none_of_in X hok hni, PySem.W.tail_of_in X ht⟩
    · cases q
  · cases q
noncomputable def Zqj (tab : List (Str × Bool)) (f : Ev) : Ev := fun ρ M => (f ρ M).bind fun x M1 => match x with | .err c _ => (match tab.lookup c with | some b => .ok (.bl b) M1 | none => .bad) | _ => .bad
section
variable {X : Cx} {ξ : XK} {e : Expr} {fa : Ev} {p pos : Pos} {tab : List (Str × Bool)}
noncomputable def ZaX (c : Str) (fs : Av) : Sv := fun ρ M => ZaF (fs ρ M) fun ds M1 => if ds.length ≤ 1000 then .exc c M1 else .bad
theorem Zcd {x : Str} {np cpos : Pos} {a : Expr} {as : List Expr} {fs : Av} (T : Thr X ξ) (hx : ZgX X.K x = true) (gl : ∀ c v, nsIn X.K mainGlobals c = some (some v) → X.mg c = some v) (hh : X.A.handled = none) (ha : DA X ξ (a :: as) fs) (hg : Gl X x := by rfl) (hdb : (x == ("__debug__" : Str)) = false := by decide)
    (he : starEach (a :: as) X.env = (false, eval a X.env) :: starEach as X.env := by rfl) (hpl : (backTo cpos (starEach as X.env)).any (·.1) = false := by rfl) : DS X ξ (.Raise (some (.Call (.Name x np) (a :: as) [] cpos)) none pos) (ZaX x fs) := by
  obtain ⟨ta, pa, qa⟩ := ha
  obtain ⟨C, hC, hq, _⟩ := Zkd hx
  refine ⟨fun Dn σ H => ta σ H fun vs H1 => vs.length ≤ sizeLine ∧ ξ (.ref C) none H1, fun pins s σ H Dn I h => ?_, fun σ ρ H α M Dn s h q => ?_⟩
  · obtain ⟨tl, N, nm, q, bs, hdct, sn, sub, ab, col, dd, k0, k1, k2, k3, k5, mN, gC, hN, hni, TL⟩ := Zke I.ok.mod.kin hq
    refine wpAny_Raise_call_subT (C := C) (nm := nm) (q := q) (N := N) (bs := bs) (bm := tl) (hdct := hdct) (sn := sn) (sub := sub) (ab := ab) (col := col) (dd := dd) (k0 := k0) (k1 := k1) (k2 := k2) (k3 := k3) (k5 := k5) F.excBase_ValueError (mN := mN)
      (TL.hasType F.excBase_ValueError.hasBase) hh (by rw [he]; show (false || (backTo cpos (starEach as X.env)).any (·.1)) = false; rw [hpl]; rfl) hni (Zgi I hg (gl x _ hC) ⟨rfl, ?_⟩ hdb)
    have hs := pa cpos pins s σ H _ I h
    rw [he] at hs ⊢
    refine Calls.evalArgs_plain (wpAny_mono hs (fun us s2 ⟨vs, H1, I1, r1, z1, z2⟩ => ⟨rfl, by rw [← r1.length]; exact z1, I1.bk _ _ gC, hN.keeps I1.bk, TL.keeps I1.bk, fun h' e m => ?_⟩) fun _ _ y => y)
    obtain ⟨t, g1, g2, g3⟩ := m.there
    exact T.mak pins σ H1 s2 h' e _ _ C I1 m.keeps m.new g1 rfl rfl rfl rfl rfl z2
  · refine qa σ ρ H α M _ s h (FP.seq q fun ds M1 vs H1 α1 e1 h1 r1 w1 => ?_)
    by_cases hl : ds.length ≤ 1000
    · rw [if_pos hl] at w1
      exact ⟨by rw [r1.length]; exact Zj5 hl, w1 C H1 α1 hC Ext.refl h1⟩
    · rw [if_neg hl] at w1
      exact w1.elim
end
end DL
end
section
set_option Elab.async false
set_option linter.all false
set_option maxRecDepth 100000
set_option maxHeartbeats 4000000
namespace DL
open PySem PySem.Spec PyProof.Rows L2
open PySem.W (nsIn excIn tailIn nsOkIn mroIn clsIn typeIn findIn specialIn takesIn kitOne Looks looks_mroIn looks_typeIn)
section
variable {X : Cx} {pins pins' pn : List (Addr × Obj)} {σ : L2.St} {H H' : Hp} {s : Shared} {xe : Value → Shared → Prop} {e : Addr}
end
noncomputable def Zqk (gb : Sv) (cs : List Str) (i : Nat) (gh : Sv) : Sv := fun ρ M => match gb ρ M with
  | .exc c M1 => if cs.contains c = true then (match gh ((List.replicate ρ.length none).set i (some (.err c []))) M1 with
    | .ret d M2 => .ret d M2
    | .nx _ M2 => .nx (List.replicate ρ.length none) M2
    | _ => .bad) else .bad
  | o => o
section
variable {X : Cx} {ξ : XK} {d n : Str} {cs : List Str} {i : Nat} {body suite : List Stmt} {b0 : Stmt} {gb gh : Sv} {pos hpos np : Pos}
end
theorem Zz {k : Nat} {A : Around} {env : Env} (hr : Room k (A.deeper env)) (h : 100 ≤ k) : A.handled.isNone = true := by
  have e : A.handled = none := hr.hd h
  rw [e]
  rfl
end DL
end
section
set_option Elab.async false
set_option linter.all false
set_option maxRecDepth 100000
set_option maxHeartbeats 4000000
namespace DL
open PySem PySem.Spec PyProof.Rows L2
noncomputable abbrev Me := D → List D → Sto → Out D
noncomputable def MO (X : Cx) (ξ : XK) (r : V → List V → Hp → VK → Prop) (g : Me) : Prop := ∀ H α M v vs x ds Q, HR X.K H α M → Rep X.K H α v x → Reps X.K H α vs ds → OP X.K H α ξ Q (g x ds M) → r v vs H Q
theorem HR.wrE {K : PySem.W.Frag} {H : Hp} {α : List Addr} {M : Sto} {n : Nat} {p : Addr} {xs ys : List V} {ds : List D} (h : HR K H α M) (e : α[n]? = some p) (hp : H p = some (.lst ys)) (r : Reps K H α xs ds) : Ext K H (upd H p (.lst xs)) α α ∧ HR K (upd H p (.lst xs)) α (M.set n (.lst ds)) :=
  ⟨Ext.wr hp, h.wr e hp r⟩
section
variable {X : Cx} {ξ : XK} {o e : Expr} {es : List Expr} {fo fa : Ev} {fs : Av} {name : Str} {apos cpos pos : Pos} {T id : String} {r : V → List V → Hp → VK → Prop} {g : Me}
noncomputable def Zkf (x : D) (M : Sto) : Bool := match x with | .ref n => M[n]?.isSome | _ => false
noncomputable def ZeM (g : Me) (fo : Ev) (fs : Av) : Ev := fun ρ M => (fo ρ M).bind fun x M1 => if Zkf x M1 = true then (fs ρ M1).bind fun ds M2 => g x ds M2 else .bad
theorem Zkg {K : PySem.W.Frag} {H : Hp} {α : List Addr} {M : Sto} {v : V} {x : D} (h : HR K H α M) (rx : Rep K H α v x) (k : Zkf x M = true) : tyV K "list" v H := by
  cases rx with
  | @ref p n hp =>
    obtain ⟨xs, g⟩ := h.some_at hp
    exact .inl ⟨rfl, _, SqL.of g⟩
  | _ => cases k
theorem ZoA (slot : Slot "list" name id) (hty : typeOf (.builtin id) = pure (.type "method_descriptor")) (hm : MtR X id r) (hf : MO X ξ r g) (ho : DE X ξ o fo) (ha : DA X ξ (e :: es) fs)
    (hbase : attributeBase o name X.env (eval o X.env) = eval o X.env := by rfl)
    (hfew : ((backTo cpos (starEach (e :: es) X.env)).all (fun x => !x.1) && (backToKw cpos (keywordEach [] X.env)).all (fun x => x.1.isSome)
      && decide ((e :: es).length + ([] : List Keyword).length + (if ([] : List Keyword).isEmpty then 0 else 1) < 30)) = true := by rfl)
    (hline : (apos.endLine == cpos.line) = true := by rfl) (hs : starEach (e :: es) X.env = (false, eval e X.env) :: starEach es X.env := by rfl) (hplain : (backTo cpos (starEach es X.env)).any (·.1) = false := by rfl) :
    DE X ξ (.Call (.Attribute o name apos) (e :: es) [] cpos) (ZeM g fo fs) := by
  obtain ⟨to, po, qo⟩ := ho
  obtain ⟨ta, pa, qa⟩ := ha
  refine ⟨_, Zot PySem.F.plainAttrs_list slot hty hm po pa hbase hfew hline hs hplain, fun σ ρ H α M Q s h q => ?_⟩
  refine qo σ ρ H α M _ s h (OG.seq q fun x M1 v H1 α1 e1 h1 r1 q1 => ?_)
  by_cases k : Zkf x M1 = true
  · rw [if_pos k] at q1
    exact ⟨Zkg h1 r1 k, qa σ ρ H1 α1 M1 _ (s.mono e1) h1 (OG.seq q1 fun ds M2 vs H2 α2 e2 h2 r2 q2 => hf H2 α2 M2 v vs x ds Q h2 (Rep.mono e2 r1) r2 q2)⟩
  · rw [if_neg k] at q1
    exact q1.elim
noncomputable def mApp : Me := fun x ds M => match x, ds with
  | .ref n, [d] => (match M[n]? with | some (.lst xs) => if xs.length < 10000000 then .ok .non (M.set n (.lst (xs ++ [d]))) else .bad | none => .bad)
  | _, _ => .bad
theorem Zmf : MO X ξ rAppend mApp := by
  intro H α M v vs x ds Q h rx rs q
  cases rx with
  | @ref p n hp =>
    match rs with
    | .nil => exact q.elim
    | .cons _ (.cons _ _) => exact q.elim
    | .cons (v := u) (d := d) ru .nil =>
      cases em : M[n]? with
      | none => simp only [mApp, em] at q; exact q.elim
      | some so =>
        cases so with
        | lst es =>
          obtain ⟨xs, g1, g2⟩ := h.at hp em
          by_cases c : es.length < 10000000
          · simp only [mApp, em, if_pos c] at q
            obtain ⟨k1, k2⟩ := h.wrE hp g1 (g2.append (.cons ru .nil))
            exact ⟨p, xs, u, rfl, rfl, g1, by rw [g2.length]; exact Nat.lt_of_lt_of_le c (by decide), q _ _ α k1 k2 .non⟩
          · simp only [mApp, em, if_neg c] at q
            exact q.elim
  | _ => cases rs <;> exact q.elim
noncomputable def Zql : Me := fun x ds M => match x, ds with
  | .ref n, [] => (match M[n]? with | some (.lst _) => .ok .non (M.set n (.lst [])) | none => .bad)
  | _, _ => .bad
noncomputable def Zqm : Me := fun x ds M => match x, ds with
  | .ref n, [.ref m] => (match M[n]?, M[m]? with | some (.lst xs), some (.lst ys) => if xs.length + ys.length ≤ 10000000 then .ok .non (M.set n (.lst (xs ++ ys))) else .bad | _, _ => .bad)
  | _, _ => .bad
theorem Zbf (ho : DE X ξ o fo) (ha : DE X ξ e fa) (hbase : attributeBase o "append" X.env (eval o X.env) = eval o X.env := by rfl)
    (hfew : ((backTo cpos (starEach [e] X.env)).all (fun x => !x.1) && (backToKw cpos (keywordEach [] X.env)).all (fun x => x.1.isSome)
      && decide ([e].length + ([] : List Keyword).length + (if ([] : List Keyword).isEmpty then 0 else 1) < 30)) = true := by rfl)
    (hline : (apos.endLine == cpos.line) = true := by rfl) (hs : starEach [e] X.env = (false, eval e X.env) :: starEach [] X.env := by rfl) (hplain : (backTo cpos (starEach [] X.env)).any (·.1) = false := by rfl) :
    DE X ξ (.Call (.Attribute o "append" apos) [e] [] cpos) (ZeM mApp fo (Zb fa aNil)) := ZoA PySem.F.slot_list_append PySem.F.type_list_append Zcb Zmf ho (Za ha Zf hs) hbase hfew hline hs hplain
noncomputable def DO (X : Cx) (ξ : XK) (e : Option Expr) (f : Ro → Sto → Out (Option Int)) : Prop := ∃ t : TO, PO X e t ∧ ∀ σ ρ H α M (Q : Option Int → Hp → Prop), SR X.K H α σ ρ → HR X.K H α M → OG X.K (fun _ _ v d => v = d) H α ξ Q (f ρ M) → t σ H Q
noncomputable def oNo : Ro → Sto → Out (Option Int) := fun _ M => .ok none M
noncomputable def oSo (f : Ev) : Ro → Sto → Out (Option Int) := fun ρ M => (f ρ M).bind fun x M1 => match x with | .int i => .ok (some i) M1 | _ => .bad
theorem Zin : DO X ξ none oNo := ⟨_, ZjV, fun σ ρ H α M Q s h q => q none H α Ext.refl h rfl⟩
theorem Zio (ha : DE X ξ e fa) : DO X ξ (some e) (oSo fa) := by
  obtain ⟨ta, pa, qa⟩ := ha
  refine ⟨_, ZjW pa, fun σ ρ H α M Q s h q => ?_⟩
  refine qa σ ρ H α M _ s h (OG.seq q fun x M1 v H1 α1 e1 h1 r1 q1 => ?_)
  cases r1 with
  | int i => exact ⟨i, rfl, q1 (some i) H1 α1 Ext.refl h1 rfl⟩
  | _ => exact q1.elim
noncomputable def ZeN (xs : List D) (lo hi : Option Int) : List D := (xs.drop (HT.sIx xs.length 0 lo)).take (HT.sIx xs.length xs.length hi - HT.sIx xs.length 0 lo)
theorem Reps.drop {K : PySem.W.Frag} {H : Hp} {α : List Addr} : ∀ (n : Nat) {vs : List V} {ds : List D}, Reps K H α vs ds → Reps K H α (vs.drop n) (ds.drop n)
  | 0, _, _, h => h
  | _ + 1, _, _, .nil => .nil
  | n + 1, _, _, .cons _ t => Reps.drop n t
theorem Reps.take {K : PySem.W.Frag} {H : Hp} {α : List Addr} : ∀ (n : Nat) {vs : List V} {ds : List D}, Reps K H α vs ds → Reps K H α (vs.take n) (ds.take n)
  | 0, _, _, _ => .nil
  | _ + 1, _, _, .nil => .nil
  | n + 1, _, _, .cons r t => .cons r (Reps.take n t)
theorem Reps.cut {K : PySem.W.Frag} {H : Hp} {α : List Addr} {vs : List V} {ds : List D} (r : Reps K H α vs ds) (lo hi : Option Int) : Reps K H α (Zi3 vs lo hi) (ZeN ds lo hi) := by
  unfold Zi3 ZeN
  rw [r.length]
  exact (r.drop _).take _
noncomputable def eSl (f : Ev) (lo hi : Ro → Sto → Out (Option Int)) : Ev := fun ρ M => (f ρ M).bind fun x M1 => (lo ρ M1).bind fun l M2 => (hi ρ M2).bind fun u M3 => match x with
  | .ref n => (match M3[n]? with | some (.lst xs) => .ok (.ref M3.length) (M3 ++ [.lst (ZeN xs l u)]) | none => .bad)
  | .rol xs => .ok (.ref M3.length) (M3 ++ [.lst (ZeN xs l u)])
  | .tup xs => if HT.sIx xs.length 0 l = 0 ∧ HT.sIx xs.length xs.length u = xs.length then .bad else .ok (.tup (ZeN xs l u)) M3
  | _ => .bad
theorem Zip {lo hi : Option Expr} {fl fh : Ro → Sto → Out (Option Int)} {p2 : Pos} (he : DE X ξ e fa) (hl : DO X ξ lo fl) (hh : DO X ξ hi fh) : DE X ξ (.Subscript e (.Slice lo hi none p2) pos) (eSl fa fl fh) := by
  obtain ⟨ta, pa, qa⟩ := he
  obtain ⟨tl, pl, ql⟩ := hl
  obtain ⟨th, ph, qh⟩ := hh
  refine ⟨_, ZhZ (SlR.or Zj1 ZlH) pa pl ph, fun σ ρ H α M Q s h q => ?_⟩
  refine qa σ ρ H α M _ s h (OG.seq q fun x M1 v H1 α1 e1 h1 r1 q1 => ?_)
  refine ql σ ρ H1 α1 M1 _ (s.mono e1) h1 (OG.seq q1 fun l M2 l' H2 α2 e2 h2 r2 q2 => ?_)
  refine qh σ ρ H2 α2 M2 _ ((s.mono e1).mono e2) h2 (OG.seq q2 fun u M3 u' H3 α3 e3 h3 r3 q3 => ?_)
  cases r2
  cases r3
  cases Rep.mono e3 (Rep.mono e2 r1) with
  | @ref p n hp =>
    cases em : M3[n]? with
    | none => simp only [em] at q3; exact q3.elim
    | some so =>
      cases so with
      | lst es =>
        simp only [em] at q3
        obtain ⟨xs, g1, g2⟩ := h3.at hp em
        exact .inl ⟨p, xs, rfl, SqL.of g1, fun a ha => q3 _ _ (α3 ++ [a]) (Ext.new ha) (h3.new ha (g2.cut l u)) (.ref (h3.last a))⟩
  | @rol p xs ds hp rp =>
    have q4 : OP X.K H3 α3 ξ Q (.ok (.ref M3.length) (M3 ++ [.lst (ZeN ds l u)])) := q3
    exact .inl ⟨p, xs, rfl, hp.sq, fun a ha => q4 _ _ (α3 ++ [a]) (Ext.new ha) (h3.new ha (rp.cut l u)) (.ref (h3.last a))⟩
  | @tup p xs ds hp rp =>
    by_cases c : HT.sIx ds.length 0 l = 0 ∧ HT.sIx ds.length ds.length u = ds.length
    · simp only [if_pos c] at q3
      exact q3.elim
    · simp only [if_neg c] at q3
      exact .inr ⟨p, xs, rfl, hp, by rw [rp.length]; exact c, fun a ha => q3 _ _ α3 (Ext.new0 ha) (h3.tup ha) (.tup (.inl (.inl ZaH)) (Reps.mono (Ext.new0 ha) (rp.cut l u)))⟩
  | _ => exact q3.elim
noncomputable def iR2 (fs : Av) : Ro → Sto → Out Src := fun ρ M => (fs ρ M).bind fun ds M1 => match ds with
  | [.int i, .int j] => if -(2 ^ 62) ≤ i ∧ i < 2 ^ 62 ∧ -(2 ^ 62) ≤ j ∧ j < 2 ^ 62 then .ok (.pur (Zbw i (j - i).toNat)) M1 else .bad
  | _ => .bad
end
noncomputable def eRv (f : Ev) : Ev := fun ρ M => (f ρ M).bind fun x M1 => match x with
  | .tup xs => .ok (.tup xs.reverse) M1
  | .ref n => (match M1[n]? with | some (.lst xs) => .ok (.ref M1.length) (M1 ++ [.lst xs.reverse]) | none => .bad)
  | .rol xs => .ok (.ref M1.length) (M1 ++ [.lst xs.reverse])
  | _ => .bad
end DL
end
section
set_option Elab.async false
set_option linter.all false
set_option maxRecDepth 100000
set_option maxHeartbeats 4000000
namespace DL
open PySem PySem.Spec PyProof.Rows L2
noncomputable def ZfX (tg : Tg) (g : Sv) (src : Src) : Nat → Nat → Ro → Sto → Fl
  | f, i, ρ, M => match nxt src i M with
    | none => .bad
    | some none => .nx ρ M
    | some (some d) => (match f with
      | 0 => .bad
      | f + 1 => (match tg d ρ with
        | none => .bad
        | some ρ1 => (match g ρ1 M with
          | .nx ρ2 M2 => ZfX tg g src f (i + 1) ρ2 M2
          | .cnt ρ2 M2 => ZfX tg g src f (i + 1) ρ2 M2
          | .brk ρ2 M2 => .nx ρ2 M2
          | o => o)))
noncomputable def Zdc (tg : Tg) (fi : Ro → Sto → Out Src) (g : Sv) : Sv := fun ρ M => ZaF (fi ρ M) fun src M1 => ZfX tg g src (cnt src M1) 0 ρ M1
section
variable {X : Cx} {ξ : XK} {tg iter a b : Expr} {gt : Tg} {fi : Ro → Sto → Out Src} {g : Sv} {body : List Stmt} {f fa fb : Ev} {fs : Av} {p pos : Pos}
theorem ZeO (hp : PassesOwn (model X.prog X.w) X.A X.env X.xe) (hi : DI X ξ tg iter fi) (hg : DG X tg gt) (hb : DSs X ξ body g) (hf : ∀ x, foldedSetIterable iter X.env x = pure x := by intro _; rfl) : DS X ξ (.For tg iter body [] pos) (Zdc gt fi g) := by
  obtain ⟨wi, pi, qi⟩ := hi
  obtain ⟨tt, pt, qt⟩ := hg
  obtain ⟨tb, pb, qb⟩ := hb
  refine ⟨_, Zgl hp pi pt pb hf, fun σ ρ H α M Dn s hh w => qi σ ρ H α M _ s hh (FP.seq w fun src M1 J H1 α1 e1 h1 sc w1 => ?_)⟩
  generalize eo : ZfX gt g src (cnt src M1) 0 ρ M1 = o at w1
  refine ⟨fun i m σ' H' => ∃ ρ' α' M', Ext X.K H1 H' α1 α' ∧ SR X.K H' α' σ' ρ' ∧ HR X.K H' α' M' ∧ ZfX gt g src m i ρ' M' = o, ⟨cnt src M1, ρ, α1, M1, Ext.refl, s.mono e1, h1, eo⟩, ?_⟩
  rintro i m σ' H' ⟨ρ', α', M', ex, sr, hr, en⟩
  have s5 := sc i H' α' M' ex hr
  unfold ZfX at en
  cases en1 : nxt src i M' with
  | none => rw [en1] at en; cases en; exact w1.elim
  | some od =>
    rw [en1] at en s5
    cases od with
    | none => cases en; exact .inl ⟨s5, w1 σ' H' α' ex hr sr⟩
    | some d =>
      obtain ⟨go, yl⟩ := s5
      cases m with
      | zero => cases en; exact w1.elim
      | succ m =>
        simp only at en
        refine .inr ⟨go, fun σ2 H2 => ∃ ρ' α' M', Ext X.K H1 H2 α1 α' ∧ SR X.K H2 α' σ2 ρ' ∧ HR X.K H2 α' M' ∧ ZfX gt g src m (i + 1) ρ' M' = o, fun σ2 H2 z => ⟨m, Nat.lt_succ_self m, z⟩, fun x H2 y => ?_⟩
        obtain ⟨ex7, hr7, rp7⟩ := yl x H2 y
        exact Zie (tg := tg) w1 qt qb (ex.trans ex7) (sr.mono ex7) hr7 rp7 en (fun σ' H' z => z)
end
theorem ZgY {X : Cx} {pins : List (Addr × Obj)} {σ : L2.St} {H : Hp} {s : Shared} {h' : Heap} {t' : Nat} {ch : List Addr} (I : Inv X pins σ H s) (k : ∀ b o, b ∉ ch → s.heap.get? b = some o → h'.get? b = some o) (hf : ∀ b ∈ ch, Zdg X pins H b) : Inv X pins σ H { s with heap := h', toks := t' } := by
  have nit : ∀ b u, H b = some u → b ∉ ch := fun b u e z => by rw [(hf b z).1] at e; cases e
  have hL : X.env.locals ∉ ch := fun z => (hf _ z).2.1 rfl
  refine I.step (g' := s.gens) (d' := s.drawn) (ch := ch) (fun b hb => ?_) (fun b o _ _ hc e _ => k b o hc e) (fun b o _ _ hc e _ => ⟨o.slots, k b o hc e⟩) (fun _ _ _ _ n => n)
    (fun b o hc e => ⟨o, k b o hc e⟩) (fun _ _ e => e) (fun _ _ _ e => e) (fun b ps e => ⟨#[], by rw [e]; simp⟩) (fun m hm => ?_) (fun b u e => ?_) I.bare
  · obtain ⟨_, z1, _, z3, z4, z5⟩ := hf b hb
    exact ⟨z3, z1, z4, z5⟩
  · obtain ⟨o, es, ep, ho, r⟩ := hm
    exact ⟨o, es, ep, k _ o hL ho, r⟩
  · refine (I.hok b u e).stay (fun c v hc q => k c v ?_ q) (fun _ q => q) fun _ _ q => q
    rcases hc with z | z
    · rw [z]; exact nit b u e
    · exact nit c _ z
theorem Zje {X : Cx} {pins : List (Addr × Obj)} {σ : L2.St} {H : Hp} {s : Shared} {h' : Heap} {t' : Nat} {ch : List Addr} {vs : List V} {us : List Value} (I : Inv X pins σ H s) (hf : ∀ b ∈ ch, Zdg X pins H b) (hlt : ∀ b ∈ ch, b < s.heap.objs.size) (rv : Z3 vs us) (hz : vs.length ≤ sizeLine)
    (k : ∀ b o, b ∉ ch → s.heap.get? b = some o → h'.get? b = some o) (ht : h'.get? s.heap.objs.size = some { cls := .type "tuple", data := .seq us.toArray }) :
    Inv X pins σ (upd H s.heap.objs.size (.tup vs)) { s with heap := h', toks := t' } ∧ H s.heap.objs.size = none ∧ ∀ b ∈ ch, upd H s.heap.objs.size (.tup vs) b = none := by
  have fr : H s.heap.objs.size = none := I.hok.fresh (Nat.le_refl _)
  have hn : ∀ b ∈ ch, upd H s.heap.objs.size (.tup vs) b = none := fun b hb => by rw [ZR (Nat.ne_of_lt (hlt b hb))]; exact (hf b hb).1
  have I1 : Inv X pins σ (upd H s.heap.objs.size (.tup vs)) { s with heap := s.heap.push { cls := .type "tuple", data := .seq us.toArray }, toks := t' } :=
    I.laid (t' := t') (o := .tup vs) (fun _ _ q => Heap.get?_push_of_some _ q) (Nat.le_refl _) ⟨hz, us, rv, _, Heap.get?_push_size _ rfl, rfl, _, rfl⟩
  refine ⟨ZgY (s := { s with heap := s.heap.push { cls := .type "tuple", data := .seq us.toArray }, toks := t' }) (t' := t') (ch := ch) I1 (fun b o hb e => ?_) (fun b hb => ⟨hn b hb, (hf b hb).2⟩), fr, hn⟩
  by_cases c : b = s.heap.objs.size
  · subst c
    have e' : (s.heap.push { cls := .type "tuple", data := .seq us.toArray }).get? s.heap.objs.size = some o := e
    rw [Heap.get?_push_size _ rfl] at e'
    cases e'
    exact ht
  · refine k b o hb ?_
    have e' : (s.heap.push { cls := .type "tuple", data := .seq us.toArray }).get? b = some o := e
    have hl : b < s.heap.objs.size := by
      have q : b < s.heap.objs.size + 1 := by
        have z := Heap.lt_size e'
        rwa [Heap.size_push] at z
      exact Nat.lt_of_le_of_ne (Nat.le_of_lt_succ q) c
    have q : (s.heap.push { cls := .type "tuple", data := .seq us.toArray }).get? b = s.heap.get? b := by
      unfold Heap.get? Heap.push
      simp only [Array.getElem?_push]
      rw [if_neg (Nat.ne_of_lt hl)]
    rwa [q] at e'
noncomputable def Ite (K : PySem.W.Frag) (a : Addr) : It :=
  ⟨fun i H => ∃ xs x, SqL K H a xs ∧ xs[i]? = some x, fun i H y H' => ∃ p, H p = none ∧ y = .ref p ∧ ∀ xs x, SqL K H a xs → xs[i]? = some x → H' = upd H p (.tup [.int i, x]), fun i H => ∃ xs, SqL K H a xs ∧ xs.length ≤ i⟩
noncomputable def Itz (K : PySem.W.Frag) (a b : Addr) : It :=
  ⟨fun i H => ∃ xs ys x y, SqL K H a xs ∧ SqL K H b ys ∧ xs[i]? = some x ∧ ys[i]? = some y, fun i H v H' => ∃ p, H p = none ∧ v = .ref p ∧ ∀ xs ys x y, SqL K H a xs → SqL K H b ys → xs[i]? = some x → ys[i]? = some y → H' = upd H p (.tup [x, y]),
    fun i H => ∃ xs ys, SqL K H a xs ∧ SqL K H b ys ∧ (xs.length ≤ i ∨ ys.length ≤ i)⟩
theorem ZgZ {P : Program} {w : World} {K : PySem.W.Frag} {B : Around} {elts : List Expr} {k0 : Nat} {tp : Pos} (hB : B.handled = none) (a e it : Addr) (hne : e ≠ it) :
    Turn P w K B (.Tuple elts k0 tp) (Ite K a) [e, it] e (fun i h => (∃ old, IsEnum h e it (i : Int) old) ∧ h.IsListIter it a i) where
  mem := by simp
  obj := fun i h st b hb => by
    obtain ⟨⟨old, h1⟩, o, e2, c2, d2⟩ := st
    rcases List.mem_cons.mp hb with z | z
    · subst z; exact ⟨_, h1, fun v z => by cases z⟩
    · have z' : b = it := by simpa using z
      subst z'
      exact ⟨o, e2, fun v z => by rw [d2] at z; cases z⟩
  keep := fun i h h' st k => ⟨let ⟨old, z⟩ := st.1; ⟨old, k e (by simp) _ z⟩, st.2.at fun o z => k it (by simp) o z⟩
  item := by
    intro X hP hw hK hA i pins s σ H E I hf st hg
    subst hP hw hK hA
    obtain ⟨⟨old, h1⟩, h2⟩ := st
    obtain ⟨xs, x, hq, hx⟩ := hg
    obtain ⟨its, rv, p, hz⟩ := I.list hq
    obtain ⟨u, hu, ru⟩ := rv.get hx
    have lt : ∀ b ∈ [e, it], b < s.heap.objs.size := fun b hb => by
      rcases List.mem_cons.mp hb with z | z
      · subst z; exact Heap.lt_size h1
      · have z' : b = it := by simpa using z
        subst z'
        obtain ⟨o, e2, _⟩ := h2
        exact Heap.lt_size e2
    refine wpAny_pyNext_enum_item h1 h2 p.isList (x := u) (by simpa using hu) hne fun h' o1 o2 o3 o4 o5 => ⟨_, rfl, ?_⟩
    refine wpAny_letOwnedTupleGo_enum (s := { s with heap := h', toks := s.toks + 1 }) o1 fun h'' q1 q2 => ?_
    have pe : s.heap.objs.size ≠ e := Nat.ne_of_gt (lt e (by simp))
    have ie : it ≠ e := Ne.symm hne
    obtain ⟨J1, J2, J3⟩ := Zje (h' := h'') (t' := s.toks + 1) (ch := [e, it]) (vs := [.int i, x]) (us := [.int i s.toks, u]) I hf lt (.cons ⟨_, rfl⟩ (.cons ru .nil)) (by show 2 ≤ sizeLine; decide)
      (fun b o hb z => by
        have n1 : b ≠ e := fun y => hb (by simp [y])
        have n2 : b ≠ it := fun y => hb (by simp [y])
        exact (q2.2 b n1).trans (o5 b o n1 n2 z)) ((q2.2 _ pe).trans o3)
    refine ⟨.ref s.heap.objs.size, _, J1, rfl, ⟨_, J2, rfl, fun ys y hy hy2 => ?_⟩, ⟨⟨u, by simpa using q1⟩, o2.at fun o z => (q2.2 it ie).trans z⟩, J3⟩
    rw [I.list_inj hy hq, hx] at hy2
    cases hy2
    rfl
  done := by
    intro X hP hw hK hA i pins s σ H E I hf st hg
    subst hP hw hK hA
    obtain ⟨⟨old, h1⟩, h2⟩ := st
    obtain ⟨xs, hq, hx⟩ := hg
    obtain ⟨its, rv, p, hz⟩ := I.list hq
    obtain ⟨f0, f1, f2, f3, f4, f5⟩ := hf it (by simp)
    refine wpAny_pyNext_enum_end hB h1 h2 p.isList (by simp only [List.getElem?_toArray]; exact List.getElem?_eq_none (by rw [← rv.length]; exact hx)) fun h' ext => ⟨rfl, ?_⟩
    exact I.turned (t' := s.toks) (it := it) (fun b o hb z => ext b o hb z) f0 f1 f3 f4 f5
  self := fun A i s Q E st q => by
    obtain ⟨⟨old, h1⟩, _⟩ := st
    have hT : s.TypeIs (.ref e) "enumerate" := ⟨_, h1, rfl⟩
    refine wpAny_pyIter_slot hT F.slot_enumerate_iter (wpAny_call_entry F.slot_enumerate_iter hT F.entry_enumerate_iter ?_ (F.args_enumerate_iter_1 _))
    show wpAny _ _ (ret (.ref e)) _ _ s
    exact wpAny_pure ⟨_, rfl, "enumerate", _, hT, F.slot_enumerate_next.lookup, q⟩
theorem Ziq {P : Program} {w : World} {K : PySem.W.Frag} {B : Around} {elts : List Expr} {k0 : Nat} {tp : Pos} (hB : B.handled = none) {z TI TO i1 i2 a b : Addr} (D : ZipApart z TI TO i1 i2 a b) :
    Turn P w K B (.Tuple elts k0 tp) (Itz K a b) [z, TI, TO, i1, i2] z (fun i h => IsZip h z TI TO .none ∧ IsPair h TI (.ref i1) (.ref i2) ∧ (∃ x y, IsPair h TO x y) ∧ h.IsListIter i1 a i ∧ h.IsListIter i2 b i) where
  mem := by simp
  obj := fun i h st c hc => by
    obtain ⟨h1, h2, ⟨x, y, h3⟩, ⟨o4, e4, c4, d4⟩, ⟨o5, e5, c5, d5⟩⟩ := st
    simp only [List.mem_cons, List.not_mem_nil, or_false] at hc
    rcases hc with rfl | rfl | rfl | rfl | rfl
    · exact ⟨_, h1, fun v q => by cases q⟩
    · exact ⟨_, h2, fun v q => by cases q⟩
    · exact ⟨_, h3, fun v q => by cases q⟩
    · exact ⟨o4, e4, fun v q => by rw [d4] at q; cases q⟩
    · exact ⟨o5, e5, fun v q => by rw [d5] at q; cases q⟩
  keep := fun i h h' st k => by
    obtain ⟨h1, h2, ⟨x, y, h3⟩, h4, h5⟩ := st
    exact ⟨k z (by simp) _ h1, k TI (by simp) _ h2, ⟨x, y, k TO (by simp) _ h3⟩, h4.at fun o q => k i1 (by simp) o q, h5.at fun o q => k i2 (by simp) o q⟩
  item := by
    intro X hP hw hK hA i pins s σ H E I hf st hg
    subst hP hw hK hA
    obtain ⟨h1, h2, ⟨x0, y0, h3⟩, h4, h5⟩ := st
    obtain ⟨xs, ys, x, y, hq, hq2, hx, hy⟩ := hg
    obtain ⟨its, rv, p, hz⟩ := I.list hq
    obtain ⟨its2, rv2, p2, hz2⟩ := I.list hq2
    obtain ⟨u, hu, ru⟩ := rv.get hx
    obtain ⟨u2, hu2, ru2⟩ := rv2.get hy
    have lt : ∀ c ∈ [z, TI, TO, i1, i2], c < s.heap.objs.size := fun c hc => by
      simp only [List.mem_cons, List.not_mem_nil, or_false] at hc
      rcases hc with rfl | rfl | rfl | rfl | rfl
      · exact Heap.lt_size h1
      · exact Heap.lt_size h2
      · exact Heap.lt_size h3
      · obtain ⟨o, e2, _⟩ := h4; exact Heap.lt_size e2
      · obtain ⟨o, e2, _⟩ := h5; exact Heap.lt_size e2
    refine wpAny_pyNext_zip_item D h1 h2 h3 h4 h5 p.isList p2.isList (x := u) (y := u2) (by simpa using hu) (by simpa using hu2) fun h' o1 o2 o3 o4 o5 o6 o7 => ⟨_, rfl, ?_⟩
    refine wpAny_letOwnedTupleGo_zip (s := { s with heap := h' }) o1 fun h'' q1 q2 => ?_
    have pe : s.heap.objs.size ≠ z := Nat.ne_of_gt (lt z (by simp))
    obtain ⟨J1, J2, J3⟩ := Zje (h' := h'') (t' := s.toks) (ch := [z, TI, TO, i1, i2]) (vs := [x, y]) (us := [u, u2]) I hf lt (.cons ru (.cons ru2 .nil)) (by show 2 ≤ sizeLine; decide)
      (fun c o hc q => by
        simp only [List.mem_cons, List.not_mem_nil, or_false, not_or] at hc
        exact (q2.2 c hc.1).trans (o7 c o hc.1 hc.2.2.1 hc.2.2.2.1 hc.2.2.2.2 q)) ((q2.2 _ pe).trans o5)
    refine ⟨.ref s.heap.objs.size, _, J1, rfl, ⟨_, J2, rfl, fun xs' ys' x' y' hx1 hy1 hx2 hy2 => ?_⟩, ⟨q1, (q2.2 TI D.TIz).trans (o7 TI _ D.TIz D.TITO D.TIi1 D.TIi2 h2), ⟨u, u2, (q2.2 TO D.TOz).trans o2⟩, o3.at fun o q => (q2.2 i1 D.i1z).trans q, o4.at fun o q => (q2.2 i2 D.i2z).trans q⟩, J3⟩
    rw [I.list_inj hx1 hq, hx] at hx2
    rw [I.list_inj hy1 hq2, hy] at hy2
    cases hx2
    cases hy2
    rfl
  done := by
    intro X hP hw hK hA i pins s σ H E I hf st hg
    subst hP hw hK hA
    obtain ⟨h1, h2, ⟨x0, y0, h3⟩, h4, h5⟩ := st
    obtain ⟨xs, ys, hq, hq2, hx⟩ := hg
    obtain ⟨its, rv, p, hz⟩ := I.list hq
    obtain ⟨its2, rv2, p2, hz2⟩ := I.list hq2
    have he : its.toArray[i]? = none ∨ its2.toArray[i]? = none := by
      rcases hx with hx | hx
      · exact .inl (by simp only [List.getElem?_toArray]; exact List.getElem?_eq_none (by rw [← rv.length]; exact hx))
      · exact .inr (by simp only [List.getElem?_toArray]; exact List.getElem?_eq_none (by rw [← rv2.length]; exact hx))
    refine wpAny_pyNext_zip_end hB D h1 h2 h3 h4 h5 p.isList p2.isList he fun h' keep => ⟨rfl, ?_⟩
    refine ZgY (t' := s.toks) (ch := [z, TI, TO, i1, i2]) I (fun c o hc q => ?_) hf
    simp only [List.mem_cons, List.not_mem_nil, or_false, not_or] at hc
    exact keep c o hc.1 hc.2.2.1 hc.2.2.2.1 hc.2.2.2.2 q
  self := fun A i s Q E st q => wpAny_pyIter_zip st.1 q
theorem Zmg {n a b : Nat} (h1 : a < n) (h2 : b < n) : ZipApart (n + 4) (n + 2) (n + 3) n (n + 1) a b := ⟨Nat.ne_of_lt (by omega), Nat.ne_of_lt (by omega), Nat.ne_of_lt (by omega), Nat.ne_of_lt (by omega), Nat.ne_of_lt (by omega), Nat.ne_of_gt (by omega), Nat.ne_of_gt (by omega), Nat.ne_of_gt (by omega), Nat.ne_of_gt (by omega), Nat.ne_of_lt (by omega), Nat.ne_of_lt (by omega), Nat.ne_of_lt (by omega), Nat.ne_of_lt (by omega), Nat.ne_of_lt (by omega), Nat.ne_of_lt (by omega), Nat.ne_of_lt (by omega), Nat.ne_of_lt (by omega), Nat.ne_of_lt (by omega)⟩
theorem Zmh : bootBuiltins "zip" = some (.type "zip") := by decide +kernel
theorem Zei : bootBuiltins "enumerate" = some (.type "enumerate") := by decide +kernel
section
variable {X : Cx} {ξ : XK} {a b : Expr} {elts : List Expr} {k0 : Nat} {tp : Pos} {fa : Ev} {fs : Av} {p pos : Pos} {ta : TA}
noncomputable def ZoB (K : PySem.W.Frag) (t : TA) : TI := fun σ H R => t σ H fun vs H1 => ∃ l xs, vs = [.ref l] ∧ SqL K H1 l xs ∧ R (Ite K l) H1
noncomputable def Zrv (K : PySem.W.Frag) (t : TA) : TI := fun σ H R => t σ H fun vs H1 => ∃ l l2 xs ys, vs = [.ref l, .ref l2] ∧ SqL K H1 l xs ∧ SqL K H1 l2 ys ∧ R (Itz K l l2) H1
theorem Zkh (hc : X.A.handled = none) (hg : Gl X "enumerate") (hm : X.mg "enumerate" = none) (ha : PA X [a] ta) (hs : starEach [a] X.env = (false, eval a X.env) :: starEach [] X.env := by rfl) (hpl : (backTo pos (starEach [] X.env)).any (·.1) = false := by rfl) :
    PI X (.Tuple elts k0 tp) (.Call (.Name "enumerate" p) [a] [] pos) (ZoB X.K ta) := by
  intro pins s σ H R I h
  refine wpAny_Call_Name_kw (Zcy I hg hm Zei (PyProof.Rows.callWith_type1 (thn (ha pos pins s σ H _ I h) fun us s1 ⟨vs, H1, I1, r1, q1⟩ => ?_) hs hpl) (by decide) (by decide))
  obtain ⟨l, xs, rfl, hq, q⟩ := q1
  obtain ⟨u, rfl, ru⟩ := Zdb r1
  cases ru
  obtain ⟨its, rv, pl, hz⟩ := I1.list hq
  refine call_enumerate_list pl.isList fun h' e1 e2 e3 e4 => ?_
  have T := ZgZ (P := X.prog) (w := X.w) (K := X.K) (B := X.A) (elts := elts) (k0 := k0) (tp := tp) hc l (s1.heap.objs.size + 1) s1.heap.objs.size (Nat.ne_of_gt (Nat.lt_succ_self _))
  have I2 : Inv X pins σ H1 { s1 with heap := h', toks := s1.toks } := I1.kept (t' := s1.toks) e4
  refine T.self X.A 0 { s1 with heap := h' } _ _ ⟨⟨_, e1⟩, e2⟩ ⟨_, _, _, _, H1, rfl, I2, T, ⟨⟨_, e1⟩, e2⟩, fun b hb => ?_, q⟩
  have hb' : s1.heap.objs.size ≤ b := by
    simp only [List.mem_cons, List.not_mem_nil, or_false] at hb
    rcases hb with rfl | rfl <;> omega
  exact I1.fpOk hb' (I1.hok.fresh hb')
theorem Zmi (hc : X.A.handled = none) (hg : Gl X "zip") (hm : X.mg "zip" = none) (ha : PA X [a, b] ta) (hs : starEach [a, b] X.env = (false, eval a X.env) :: starEach [b] X.env := by rfl) (hpl : (backTo pos (starEach [b] X.env)).any (·.1) = false := by rfl) :
    PI X (.Tuple elts k0 tp) (.Call (.Name "zip" p) [a, b] [] pos) (Zrv X.K ta) := by
  intro pins s σ H R I h
  refine wpAny_Call_Name_kw (Zcy I hg hm Zmh (PyProof.Rows.callWith_type1 (thn (ha pos pins s σ H _ I h) fun us s1 ⟨vs, H1, I1, r1, q1⟩ => ?_) hs hpl) (by decide) (by decide))
  obtain ⟨l, l2, xs, ys, rfl, hq, hq2, q⟩ := q1
  obtain ⟨u, u2, rfl, ru, ru2⟩ := ZhX r1
  cases ru
  cases ru2
  obtain ⟨its, rv, pl, hz⟩ := I1.list hq
  obtain ⟨its2, rv2, pl2, hz2⟩ := I1.list hq2
  have lt1 : l < s1.heap.objs.size := by obtain ⟨_, e, _⟩ := pl.isList; exact Heap.lt_size e
  have lt2 : l2 < s1.heap.objs.size := by obtain ⟨_, e, _⟩ := pl2.isList; exact Heap.lt_size e
  refine call_zip_2 pl.isList pl2.isList fun h' e1 e2 e3 e4 e5 e6 e7 => ?_
  have D := Zmg lt1 lt2
  have T := Ziq (P := X.prog) (w := X.w) (K := X.K) (B := X.A) (elts := elts) (k0 := k0) (tp := tp) hc D
  have I2 : Inv X pins σ H1 { s1 with heap := h', toks := s1.toks } := I1.kept (t' := s1.toks) e7
  refine T.self X.A 0 { s1 with heap := h' } _ _ ⟨e1, e2, ⟨_, _, e3⟩, e4, e5⟩ ⟨_, _, _, _, H1, rfl, I2, T, ⟨e1, e2, ⟨_, _, e3⟩, e4, e5⟩, fun c hc => ?_, q⟩
  have hb' : s1.heap.objs.size ≤ c := by
    simp only [List.mem_cons, List.not_mem_nil, or_false] at hc
    rcases hc with rfl | rfl | rfl | rfl | rfl <;> omega
  exact I1.fpOk hb' (I1.hok.fresh hb')
noncomputable def iEn (fs : Av) : Ro → Sto → Out Src := fun ρ M => (fs ρ M).bind fun ds M1 => match ds with | [.ref n] => .ok (.enu n) M1 | _ => .bad
noncomputable def iZp (fs : Av) : Ro → Sto → Out Src := fun ρ M => (fs ρ M).bind fun ds M1 => match ds with | [.ref n, .ref m] => .ok (.zip n m) M1 | _ => .bad
theorem ZeP (hc : X.A.handled = none) (hm : X.mg "enumerate" = none) (ha : DA X ξ [a] fs) (hg : Gl X "enumerate" := by rfl) (hs : starEach [a] X.env = (false, eval a X.env) :: starEach [] X.env := by rfl) (hpl : (backTo pos (starEach [] X.env)).any (·.1) = false := by rfl) :
    DI X ξ (.Tuple elts k0 tp) (.Call (.Name "enumerate" p) [a] [] pos) (iEn fs) := by
  obtain ⟨ta, pa, qa⟩ := ha
  refine ⟨_, Zkh hc hg hm pa hs hpl, fun σ ρ H α M R s hh q => qa σ ρ H α M _ s hh (OG.seq q fun ds M1 vs H1 α1 e1 h1 r1 w1 => ?_)⟩
  match r1 with
  | .nil => exact w1.elim
  | .cons r (.cons _ _) => cases r <;> exact w1.elim
  | .cons r .nil =>
    cases r with
    | @ref l n hp =>
      obtain ⟨xs0, g0⟩ := h1.some_at hp
      refine ⟨l, xs0, rfl, SqL.of g0, w1 _ H1 α1 Ext.refl h1 fun i H' α' M' ex hr => ?_⟩
      cases em : M'[n]? with
      | none => rw [show nxt (.enu n) i M' = none by simp only [nxt, em]]; exact True.intro
      | some so =>
        cases so with
        | lst es =>
          obtain ⟨xs, g1, g2⟩ := hr.at (ex.get hp) em
          cases ei : es[i]? with
          | none => rw [show nxt (.enu n) i M' = some none by simp only [nxt, em, ei]]; exact ⟨xs, SqL.of g1, by rw [g2.length]; exact List.getElem?_eq_none_iff.mp ei⟩
          | some d =>
            obtain ⟨v, k1, k2⟩ := g2.get ei
            rw [show nxt (.enu n) i M' = some (some (D.tup [D.int i, d])) by simp only [nxt, em, ei]]
            refine ⟨⟨xs, v, SqL.of g1, k1⟩, fun x H'' y => ?_⟩
            obtain ⟨pp, y1, rfl, y3⟩ := y
            have y4 := y3 xs v (SqL.of g1) k1
            subst y4
            exact ⟨Ext.new0 y1, hr.tup y1, .tup (.inl (.inl ZaH)) (.cons (.int i) (.cons (Rep.mono (Ext.new0 y1) k2) .nil))⟩
    | _ => exact w1.elim
theorem Zmj (hc : X.A.handled = none) (hm : X.mg "zip" = none) (ha : DA X ξ [a, b] fs) (hg : Gl X "zip" := by rfl) (hs : starEach [a, b] X.env = (false, eval a X.env) :: starEach [b] X.env := by rfl) (hpl : (backTo pos (starEach [b] X.env)).any (·.1) = false := by rfl) :
    DI X ξ (.Tuple elts k0 tp) (.Call (.Name "zip" p) [a, b] [] pos) (iZp fs) := by
  obtain ⟨ta, pa, qa⟩ := ha
  refine ⟨_, Zmi hc hg hm pa hs hpl, fun σ ρ H α M R s hh q => qa σ ρ H α M _ s hh (OG.seq q fun ds M1 vs H1 α1 e1 h1 r1 w1 => ?_)⟩
  match r1 with
  | .nil => exact w1.elim
  | .cons r .nil => cases r <;> exact w1.elim
  | .cons r (.cons r' (.cons _ _)) => cases r <;> cases r' <;> exact w1.elim
  | .cons r (.cons r' .nil) =>
    cases r with
    | @ref l n hp =>
      cases r' with
      | @ref l2 m hp2 =>
        obtain ⟨xs0, g0⟩ := h1.some_at hp
        obtain ⟨ys0, g0'⟩ := h1.some_at hp2
        refine ⟨l, l2, xs0, ys0, rfl, SqL.of g0, SqL.of g0', w1 _ H1 α1 Ext.refl h1 fun i H' α' M' ex hr => ?_⟩
        cases em : M'[n]? with
        | none => rw [show nxt (.zip n m) i M' = none by simp only [nxt, em]]; exact True.intro
        | some so =>
          cases em2 : M'[m]? with
          | none => cases so; rw [show nxt (.zip n m) i M' = none by simp only [nxt, em, em2]]; exact True.intro
          | some so2 =>
            cases so with
            | lst es =>
              cases so2 with
              | lst es2 =>
                obtain ⟨xs, g1, g2⟩ := hr.at (ex.get hp) em
                obtain ⟨ys, g3, g4⟩ := hr.at (ex.get hp2) em2
                cases ei : es[i]? with
                | none => rw [show nxt (.zip n m) i M' = some none by simp only [nxt, em, em2, ei]]; exact ⟨xs, ys, SqL.of g1, SqL.of g3, .inl (by rw [g2.length]; exact List.getElem?_eq_none_iff.mp ei)⟩
                | some d =>
                  cases ej : es2[i]? with
                  | none => rw [show nxt (.zip n m) i M' = some none by simp only [nxt, em, em2, ei, ej]]; exact ⟨xs, ys, SqL.of g1, SqL.of g3, .inr (by rw [g4.length]; exact List.getElem?_eq_none_iff.mp ej)⟩
                  | some d2 =>
                    obtain ⟨v, k1, k2⟩ := g2.get ei
                    obtain ⟨v2, k3, k4⟩ := g4.get ej
                    rw [show nxt (.zip n m) i M' = some (some (D.tup [d, d2])) by simp only [nxt, em, em2, ei, ej]]
                    refine ⟨⟨xs, ys, v, v2, SqL.of g1, SqL.of g3, k1, k3⟩, fun x H'' y => ?_⟩
                    obtain ⟨pp, y1, rfl, y3⟩ := y
                    have y4 := y3 xs ys v v2 (SqL.of g1) (SqL.of g3) k1 k3
                    subst y4
                    exact ⟨Ext.new0 y1, hr.tup y1, .tup (.inl (.inl ZaH)) (.cons (Rep.mono (Ext.new0 y1) k2) (.cons (Rep.mono (Ext.new0 y1) k4) .nil))⟩
      | _ => exact w1.elim
    | _ => cases r' <;> exact w1.elim
end
end DL
end
section
set_option Elab.async false
set_option linter.all false
set_option maxRecDepth 100000
set_option maxHeartbeats 4000000
namespace DL
open PySem PySem.Spec PyProof.Rows L2
open PySem.SeqAt (EqAt RcAt RcNeAt)
section
variable {X : Cx} {ξ : XK} {pins : List (Addr × Obj)} {σ : L2.St} {H : Hp} {s : Shared} {α : List Addr} {M : Sto}
noncomputable def eqs (M : Sto) (d : D) : List D → Option (List Bool)
  | [] => some []
  | x :: r => match eqF 12 M x d with | some b => (match eqs M d r with | some bs => some (b :: bs) | none => none) | none => none
end
section
variable {X : Cx} {ξ : XK}
noncomputable def inE (x y : D) (M : Sto) : Option Bool := match ZfT M y with | some ds => (match eqs M x ds with | some bs => some (bs.any id) | none => none) | none => none
noncomputable def Zqn : Bo := fun x y M => match inE x y M with | some b => .ok (.bl b) M | none => .bad
noncomputable def Zg0 : Bo := fun x y M => match inE x y M with | some b => .ok (.bl (!b)) M | none => .bad
noncomputable def Zrw : Me := fun x ds M => match x, ds with
  | .ref n, [d] => (match M[n]? with | some (.lst xs) => (match eqs M d xs with | some bs => (match bs.findIdx? id with | some j => .ok (.int (j : Nat)) M | none => .bad) | none => .bad) | none => .bad)
  | _, _ => .bad
noncomputable def Zrx : Me := fun x ds M => match x, ds with
  | .ref n, [d] => (match M[n]? with | some (.lst xs) => (match eqs M d xs with | some bs => .ok (.int (bs.countP id : Nat)) M | none => .bad) | none => .bad)
  | _, _ => .bad
noncomputable def ZbV : List D → Option (List Int)
  | [] => some []
  | .int b :: r => match ZbV r with | some bs => some (b :: bs) | none => none
  | _ :: _ => none
theorem Zfx {K : PySem.W.Frag} {H : Hp} {α : List Addr} : ∀ {vs : List V} {ds : List D} {bs : List Int}, Reps K H α vs ds → ZbV ds = some bs → vs = bs.map V.int
  | _, _, _, .nil, e => by cases e; rfl
  | _, _, bs, .cons (d := d) (ds := ds) r t, e => by
    cases r with
    | int b =>
      cases e1 : ZbV ds with
      | none => simp only [ZbV, e1] at e; cases e
      | some cs =>
        simp only [ZbV, e1, Option.some.injEq] at e
        subst e
        rw [Zfx t e1]
        rfl
    | _ => cases e
noncomputable def Zir (X : Cx) (g : List Int → Option V) : List V → Hp → VK → Prop := fun vs H Q => ∃ (p : Addr) (ns : List Int) (v : V), vs = [.ref p] ∧ SqL X.K H p (ns.map V.int) ∧ g ns = some v ∧ Q v H
theorem ZdB : ∀ {ns : List Int} {us : List Value} {i : Nat} {u : Value}, Z3 (ns.map V.int) us → us[i]? = some u → ∃ t, u = .int (ns.getD i 0) t
  | [], us, i, u, h, e => by cases h; simp at e
  | b :: r, us, i, u, h, e => by
    cases h with
    | cons h1 h2 =>
      cases i with
      | zero => simp at e; subst e; exact h1
      | succ i => simp at e; obtain ⟨t, g⟩ := ZdB h2 e; exact ⟨t, by simpa using g⟩
theorem Zg1 (hc : X.calm = true) {pins : List (Addr × Obj)} {σ : L2.St} {H : Hp} {s : Shared} {p : Addr} {ns : List Int} (I : Inv X pins σ H s) (hl : SqL X.K H p (ns.map V.int)) {Q : Value → Shared → Prop} {E : Value → Shared → Prop}
    (q : ∀ (its : List Value) (it : Addr), Z3 (ns.map V.int) its → its.length = ns.length → it = s.heap.objs.size → Walks X.prog X.w X.A.in1 it [it, p] [it] its.toArray.size (fun i v => its.toArray[i]? = some v) (fun i h => h.IsListIter it p i ∧ h.IsList p its.toArray) →
      (∀ b ∈ [it, p], b < (s.heap.push { cls := .type "list_iterator", data := .fields #[.ref p, .int 0 0] }).objs.size) → ((s.heap.push { cls := .type "list_iterator", data := .fields #[.ref p, .int 0 0] }).IsListIter it p 0 ∧ (s.heap.push { cls := .type "list_iterator", data := .fields #[.ref p, .int 0 0] }).IsList p its.toArray) →
      (∀ h' tk, (∀ b o, b ∉ [it] → (s.heap.push { cls := .type "list_iterator", data := .fields #[.ref p, .int 0 0] }).get? b = some o → h'.get? b = some o) → Inv X pins σ H { s with heap := h', toks := tk }) → Q (.ref it) { s with heap := s.heap.push { cls := .type "list_iterator", data := .fields #[.ref p, .int 0 0] } }) :
    wpAny (model X.prog X.w) X.A.in1 (pyIter (.ref p)) Q E s := by
  obtain ⟨its, hv, hp, hz⟩ := I.list hl
  have hlt : p < s.heap.objs.size := by obtain ⟨_, e, _⟩ := hp.isList; exact Heap.lt_size e
  refine wpAny_pyIter_list hp.isList ?_
  refine q its s.heap.objs.size hv (by rw [← hv.length, List.length_map]) rfl (Walks.list (A := X.A.in1) (I.ok.hd hc) _ p (Nat.ne_of_lt hlt) its.toArray) (fun b hb => ?_) ⟨⟨_, Heap.get?_push_size _ rfl, rfl, rfl⟩, hp.isList.push _⟩ fun h' tk hk => ?_
  · rw [Heap.size_push]
    simp only [List.mem_cons, List.not_mem_nil, or_false] at hb
    rcases hb with rfl | rfl
    · exact Nat.lt_succ_self _
    · exact Nat.lt_succ_of_lt hlt
  · exact I.kept fun b o e => hk b o (fun hm => by rw [List.mem_singleton.mp hm] at e; exact Nat.lt_irrefl _ (Heap.lt_size e)) (Heap.get?_push_of_some _ e)
theorem Zis {ns : List Int} (h : 0 < ns.length) : ns.max? = some (ns.getD (argBest (fun i j => decide (ns.getD i 0 > ns.getD j 0)) (ns.length - 1)) 0) := by
  obtain ⟨h1, h2⟩ := argBest_gt (fun i => ns.getD i 0) (ns.length - 1)
  refine List.max?_eq_some_iff.mpr ⟨?_, fun b hb => ?_⟩
  · have hl : argBest (fun i j => decide (ns.getD i 0 > ns.getD j 0)) (ns.length - 1) < ns.length := by omega
    rw [List.getD_eq_getElem?_getD, List.getElem?_eq_getElem hl]
    exact List.getElem_mem hl
  · obtain ⟨j, hj, rfl⟩ := List.getElem_of_mem hb
    have := h2 j (by omega)
    rwa [show ns.getD j 0 = ns[j] by rw [List.getD_eq_getElem?_getD, List.getElem?_eq_getElem hj]; rfl] at this
noncomputable def Zn6 (ns : List Int) : Option V := ns.max?.map V.int
theorem ZcY (hc : X.calm = true) : Zb9 X (.builtin "max") (Zir X Zn6) := by
  intro pins s σ H vs us Q I rs ⟨p, ns, v, e, hl, hg, q⟩
  subst e
  obtain ⟨u, rfl, ru⟩ := Zdb rs
  cases ru
  have hn : 0 < ns.length := by cases ns with | nil => cases hg | cons _ _ => simp
  unfold Zn6 at hg
  rw [Zis hn] at hg
  cases hg
  refine call_max_walk (Zg1 hc I hl fun its it hv hlen ei W hfp st back => ?_)
  refine ⟨it, _, _, _, _, _, _, rfl, W, st, hfp, by rw [List.size_toArray, hlen]; exact hn, CmpOf.ints_gt (fun i => ns.getD i 0) (fun i v hP => ZdB hv (by simpa using hP)), fun v h' tk hP hk => ⟨_, H, back h' tk hk, ?_, q⟩⟩
  rw [List.size_toArray, hlen] at hP
  exact ZdB hv (by simpa using hP)
noncomputable def ZcZ (g : List Int → Option Int) : List D → Sto → Out D := fun ds M => match ds with
  | [x] => (match ZfT M x with | some xs => (match x with | .tup _ => .bad | _ => (match ZbV xs with | some ns => (match g ns with | some i => .ok (.int i) M | none => .bad) | none => .bad)) | none => .bad)
  | _ => .bad
theorem Zki {g : List Int → Option Int} {gV : List Int → Option V} (hg : ∀ ns i, g ns = some i → gV ns = some (.int i)) : CO X ξ (Zir X gV) (ZcZ g) := by
  intro H α M vs ds Q h rs q
  unfold ZcZ at q
  match rs with
  | .nil => exact q.elim
  | .cons _ (.cons _ _) => exact q.elim
  | .cons (d := x) r .nil =>
    have fin : ∀ (p : Addr) (xs : List V) (ys : List D), SqL X.K H p xs → Reps X.K H α xs ys → OP X.K H α ξ Q (match ZbV ys with | some ns => (match g ns with | some i => .ok (.int i) M | none => .bad) | none => .bad) → Zir X gV [.ref p] H Q := fun p xs ys k1 k2 q => by
      cases e1 : ZbV ys with
      | none => rw [e1] at q; exact q.elim
      | some ns =>
        cases e2 : g ns with
        | none => simp only [e1, e2] at q; exact q.elim
        | some i =>
          simp only [e1, e2] at q
          have := Zfx k2 e1
          subst this
          exact ⟨p, ns, .int i, rfl, k1, hg _ _ e2, q _ H α Ext.refl h (.int i)⟩
    cases r with
    | @rol p xs ds hp rp => exact fin p xs ds hp.sq rp q
    | @ref p n hp =>
      cases em : M[n]? with
      | none => simp only [ZfT, em] at q; exact q.elim
      | some so =>
        cases so with
        | lst es =>
          simp only [ZfT, em] at q
          obtain ⟨xs, g1, g2⟩ := h.at hp em
          exact fin p xs es (SqL.of g1) g2 q
    | tup _ _ => exact q.elim
    | _ => exact q.elim
theorem ZeQ : CO X ξ (Zir X Zn6) (ZcZ List.max?) := Zki fun ns i e => by unfold Zn6; rw [e]; rfl
end
end DL
end
section
set_option Elab.async false
set_option linter.all false
set_option maxRecDepth 100000
set_option maxHeartbeats 4000000
namespace DL
open PySem PySem.Spec PyProof.Rows L2
theorem ZeR : bootBuiltins "reversed" = some (.type "reversed") := by decide +kernel
section
variable {X : Cx} {ξ : XK} {tg a : Expr} {fs : Av} {p pos : Pos} {ta : TA}
noncomputable def iRv (fs : Av) : Ro → Sto → Out Src := fun ρ M => (fs ρ M).bind fun ds M1 => match ds with | [.ref n] => (match M1[n]? with | some (.lst xs) => .ok (.rev n xs.length) M1 | none => .bad) | _ => .bad
end
end DL
end
section
set_option Elab.async false
set_option linter.all false
set_option maxRecDepth 100000
set_option maxHeartbeats 4000000
namespace DL
open PySem PySem.Spec PyProof.Rows L2
section
variable {X : Cx} {ξ : XK} {e e1 e2 : Expr} {es : List Expr} {f : Ev} {pos : Pos}
noncomputable def eFm (f : Ev) : Ev := fun ρ M => (f ρ M).bind fun x M1 => match x with
  | .int i => if i.natAbs.log2 < 1900 then .ok (.str (Str.ofString (toString i))) M1 else .bad
  | .str y => if y.length ≤ 100000 then .ok (.str y) M1 else .bad
  | _ => .bad
theorem Zkj (ha : DE X ξ e f) : DE X ξ (.FormattedValue e (-1) none pos) (eFm f) := by
  obtain ⟨ta, pa, qa⟩ := ha
  refine ⟨fun σ H Q => ta σ H fun x H1 => (∃ i, x = .int i ∧ i.natAbs.log2 < 1900 ∧ Q (.str (Str.ofString (toString i))) H1) ∨ ∃ y, x = .str y ∧ y.length ≤ 100000 ∧ Q (.str y) H1, fun pins s σ H Q I h => ?_, fun σ ρ H α M Q s h q => ?_⟩
  · refine wpAny_FormattedValue_plain (wpAny_mono (pa pins s σ H _ I h) (fun v s1 ⟨x, H1, I1, r1, q1⟩ => ?_) fun _ _ z => z)
    rcases q1 with ⟨i, rfl, hi, q⟩ | ⟨y, rfl, hy, q⟩
    · obtain ⟨t, rfl⟩ := r1
      exact wpAny_formatField_int (by omega) ⟨.str (Str.ofString (toString i)), H1, I1.tok _, ⟨_, rfl⟩, q⟩
    · obtain ⟨t, rfl⟩ := r1
      exact wpAny_formatField_str ⟨.str y, H1, I1, ⟨_, rfl⟩, q⟩ ⟨.str y, H1, I1.tok _, ⟨_, rfl⟩, q⟩ (Nat.le_trans hy (by rw [sizeLine_eq]; decide))
  · refine qa σ ρ H α M _ s h (OG.seq q fun x M1 v H1 α1 e1 h1 r1 q1 => ?_)
    cases r1 with
    | int i =>
      by_cases hi : i.natAbs.log2 < 1900
      · simp only [hi, if_true] at q1
        exact .inl ⟨i, rfl, hi, q1 _ H1 α1 Ext.refl h1 (.str _)⟩
      · simp only [hi, if_false] at q1
        exact q1.elim
    | str y =>
      by_cases hi : y.length ≤ 100000
      · simp only [hi, if_true] at q1
        exact .inr ⟨y, rfl, hi, q1 _ H1 α1 Ext.refl h1 (.str _)⟩
      · simp only [hi, if_false] at q1
        exact q1.elim
    | _ => exact q1.elim
noncomputable abbrev Jv := Str → Ro → Sto → Out Str
noncomputable def PJ (X : Cx) (es : List Expr) (t : L2.St → Hp → Str → (Str → Hp → Prop) → Prop) : Prop :=
  ∀ (pins : List (Addr × Obj)) (s : Shared) (σ : L2.St) (H : Hp) (acc : Str) (Q : Str → Hp → Prop), Inv X pins σ H s → t σ H acc Q → Joins (model X.prog X.w) X.A X.xe (evalEach es X.env) acc (fun out s1 => out.length ≤ 100000 ∧ ∃ H', Inv X pins σ H' s1 ∧ Q out H') s
noncomputable def DJ (X : Cx) (ξ : XK) (es : List Expr) (g : Jv) : Prop := ∃ t, PJ X es t ∧ ∀ σ ρ H α M acc (Q : Str → Hp → Prop), SR X.K H α σ ρ → HR X.K H α M → OG X.K (fun _ _ v d => v = d) H α ξ Q (g acc ρ M) → t σ H acc Q
noncomputable def jNil : Jv := fun acc _ M => if acc.length ≤ 100000 then .ok acc M else .bad
noncomputable def Zbg (f : Ev) (g : Jv) : Jv := fun acc ρ M => (f ρ M).bind fun x M1 => match x with
  | .str y => if (acc ++ y).length ≤ 100000 then g (acc ++ y) ρ M1 else .bad
  | _ => .bad
noncomputable def eFs (g : Jv) : Ev := fun ρ M => (g Str.empty ρ M).bind fun x M1 => .ok (.str x) M1
theorem Zjf : DJ X ξ [] jNil := by
  refine ⟨fun σ H acc Q => acc.length ≤ 100000 ∧ Q acc H, fun pins s σ H acc Q I h => ⟨h.1, H, I, h.2⟩, fun σ ρ H α M acc Q s h q => ?_⟩
  unfold jNil at q
  by_cases hl : acc.length ≤ 100000
  · rw [if_pos hl] at q
    exact ⟨hl, q acc H α Ext.refl h rfl⟩
  · rw [if_neg hl] at q
    exact q.elim
theorem ZbB {g : Jv} (ha : DE X ξ e f) (hr : DJ X ξ es g) : DJ X ξ (e :: es) (Zbg f g) := by
  obtain ⟨ta, pa, qa⟩ := ha
  obtain ⟨tr, pr', qr⟩ := hr
  refine ⟨fun σ H acc Q => ta σ H fun x H1 => ∃ y, x = .str y ∧ (acc ++ y).length ≤ 100000 ∧ tr σ H1 (acc ++ y) Q, fun pins s σ H acc Q I h => ?_, fun σ ρ H α M acc Q s h q => ?_⟩
  · show wpAny _ _ (eval e X.env) _ _ s
    refine wpAny_mono (pa pins s σ H _ I h) (fun v s1 ⟨x, H1, I1, r1, q1⟩ => ?_) fun _ _ z => z
    obtain ⟨y, rfl, hy, q⟩ := q1
    obtain ⟨t, rfl⟩ := r1
    exact ⟨y, t, rfl, Nat.le_trans hy (by rw [sizeLine_eq]; decide), pr' pins s1 σ H1 (acc ++ y) Q I1 q⟩
  · refine qa σ ρ H α M _ s h (OG.seq q fun x M1 v H1 α1 e1 h1 r1 q1 => ?_)
    cases r1 with
    | str y =>
      by_cases hi : (acc ++ y).length ≤ 100000
      · simp only [hi, if_true] at q1
        exact ⟨y, rfl, hi, qr σ ρ H1 α1 M1 (acc ++ y) Q (s.mono e1) h1 q1⟩
      · simp only [hi, if_false] at q1
        exact q1.elim
    | _ => exact q1.elim
theorem Zmk {g : Jv} (h : DJ X ξ (e1 :: e2 :: es) g) : DE X ξ (.JoinedStr (e1 :: e2 :: es) pos) (eFs g) := by
  obtain ⟨t, pj, qj⟩ := h
  refine ⟨fun σ H Q => t σ H Str.empty fun x H1 => Q (.str x) H1, fun pins s σ H Q I h => ?_, fun σ ρ H α M Q s h q => ?_⟩
  · refine wpAny_JoinedStr ?_
    have := pj pins s σ H Str.empty _ I h
    have mono : ∀ (ms : List (Sem Value)) (acc : Str) (P R : Str → Shared → Prop) (s : Shared), (∀ o s, P o s → R o s) → Joins (model X.prog X.w) X.A X.xe ms acc P s → Joins (model X.prog X.w) X.A X.xe ms acc R s := by
      intro ms
      induction ms with
      | nil => intro acc P R s hp hj; exact hp _ _ hj
      | cons m r ih =>
        intro acc P R s hp hj
        exact wpAny_mono hj (fun v s1 ⟨y, t, e, l, k⟩ => ⟨y, t, e, l, ih _ P R s1 hp k⟩) fun _ _ z => z
    refine mono _ _ _ _ s (fun o s1 ⟨hl, H', I', q⟩ => ?_) this
    exact ⟨Nat.le_trans hl (by rw [sizeLine_eq]; decide), .str o, H', I'.tok _, ⟨_, rfl⟩, q⟩
  · refine qj σ ρ H α M Str.empty _ s h (OG.seq q fun x M1 v H1 α1 e1 h1 r1 q1 => ?_)
    cases r1
    exact q1 _ H1 α1 Ext.refl h1 (.str x)
end
end DL
end
section
set_option Elab.async false
set_option linter.all false
set_option maxRecDepth 100000
set_option maxHeartbeats 4000000
namespace DL
open PySem PySem.Spec PyProof.Rows L2
theorem ZfY {β γ : Type} {o : Out β} {f : β → Sto → Out γ} {g : γ → Sto → Fl} : ZaF (o.bind f) g = ZaF o fun x M => ZaF (f x M) g := by cases o <;> rfl
section
variable {X : Cx} {ξ : XK} {tg iter elt : Expr} {ifs : List Expr} {scope : Scope} {cl : List (Str × Addr)} {N : List Str} {k : Nat} {fr : List Nat} {fi : Ro → Sto → Out Src} {gt : Tg} {c : Tv} {f : Ev} {pos : Pos}
theorem Zg2 (iv : Nat) {x : Str} {pos' spos : Pos} (hN : X.N.Nodup) (B : Blk X scope cl N k fr) (hi : DI X ξ tg iter fi) (hg : ∀ C fp s H, DG (blk X scope cl N C fp s H) tg gt) (ht : ∀ C fp s H, DC (blk X scope cl N C fp s H) ifs c) (he : ∀ C fp s H, DE (blk X scope cl N C fp s H) E0 elt f)
    (hiv : X.N[iv]? = some x := by rfl) (hxl : Loc X.env.scope x := by first | exact Or.inl rfl | exact Or.inr rfl) (hsw : swapsWith (.ListComp elt [⟨tg, iter, ifs, 0⟩] scope pos) (some (.Name x pos')) spos.line X.env = pure true := by rfl) (hf : X.fn x = true ∨ X.env.scope.names.lookup x = some .local := by first | exact .inl rfl | exact .inr rfl | assumption)
    (hs : ∀ x, foldedSetIterable iter X.env x = pure x := by intro _; rfl) : DS X ξ (.Assign [.Name x pos'] (.ListComp elt [⟨tg, iter, ifs, 0⟩] scope pos) spos) (ZH (gNm iv) (ZX fi k fr gt c f)) := by
  obtain ⟨wi, pi, qi⟩ := hi
  refine ⟨fun Dn σ H => ∃ ρ α M, SR X.K H α σ ρ ∧ HR X.K H α M ∧ FP X.K H α ξ Dn (ZH (gNm iv) (ZX fi k fr gt c f) ρ M), ?_, fun σ ρ H α M Dn s h q => ⟨ρ, α, M, s, h, q⟩⟩
  rintro pins s σ H Dn I ⟨ρ, α, M, sr, hr, op⟩
  rw [exec_Assign_Name_used _ _ _ _ hsw]
  refine wpAny_bind (wpAny_standAt (wpAny_bind ?_))
  show wpAny _ X.A (do let _ ← comprehension (.ListComp elt [⟨tg, iter, ifs, 0⟩] scope pos) scope X.env _ (newList []) false (eval iter X.env) (some (assign (.Name x pos') X.env))) _ _ s
  have op : FP X.K H α ξ Dn (ZaF (fi ρ M) fun src M1 => ZaF (match Zb7 src gt c f M1.length (cnt src M1) 0 (roB k fr ρ) (M1 ++ [.lst []]) with | .ok _ M2' => .ok (.ref M1.length) M2' | _ => .bad) fun d M1 => Fl.nx (ρ.set iv (some d)) M1) := by
    have e : ZH (gNm iv) (ZX fi k fr gt c f) ρ M = (ZaF (fi ρ M) fun src M1 => ZaF (match Zb7 src gt c f M1.length (cnt src M1) 0 (roB k fr ρ) (M1 ++ [.lst []]) with | .ok _ M2' => .ok (.ref M1.length) M2' | _ => .bad) fun d M1 => Fl.nx (ρ.set iv (some d)) M1) := by
      unfold ZH ZX
      rw [ZfY]
      rfl
    rw [← e]
    exact op
  refine wpAny_bind (wpAny_mono (wpAny_comprehension_free (Q := fun _ s' => SP X pins Dn .next s') (use := some (assign (.Name x pos') X.env)) rfl hs B.clos B.kind B.names ?_) (fun _ s' hq => wpAny_pure (wpAny_pure hq)) fun _ _ e => e)
  refine thn (pi pins s σ H (fun J H2 => ∃ α2 M2 src, Ext X.K H H2 α α2 ∧ HR X.K H2 α2 M2 ∧ Zl7 X.K H2 α2 J src ∧ FP X.K H2 α2 ξ Dn (ZaF (match Zb7 src gt c f M2.length (cnt src M2) 0 (roB k fr ρ) (M2 ++ [.lst []]) with | .ok _ M2' => .ok (.ref M2.length) M2' | _ => .bad) fun d M1 => Fl.nx (ρ.set iv (some d)) M1)) I
    (qi σ ρ H α M _ sr hr (FP.seq op fun src M1 J H1 α1 e1 h1 r1 q1 => ⟨α1, M1, src, e1, h1, r1, q1⟩))) fun v s1 w1 => thn w1 fun itv s2 w2 => ?_
  obtain ⟨it, fp, tn, J, H2, rfl, I2, T, st2, f2, α2, M2, src, e2, h2, sc, op2⟩ := w2
  have srI := sr.mono e2
  refine wpAny_newObj_type ?_
  have I3 : Inv X pins σ (upd H2 s2.heap.objs.size (.lst [])) { s2 with heap := s2.heap.push { cls := .type "list", data := .seq ([] : List Value).toArray } } := I2.lnew (its := []) (t' := s2.toks) .nil (Nat.zero_le _)
  have fD : H2 s2.heap.objs.size = none := I2.fresh
  generalize hD : s2.heap.objs.size = D at I3 fD
  generalize hs3 : ({ s2 with heap := s2.heap.push { cls := .type "list", data := .seq ([] : List Value).toArray } } : Shared) = s3 at I3
  generalize hH3 : upd H2 D (.lst []) = H3 at I3
  have h3 : HR X.K H3 (α2 ++ [D]) (M2 ++ [.lst []]) := by rw [← hH3]; exact h2.new fD .nil
  have e3 : Ext X.K H2 H3 α2 (α2 ++ [D]) := by rw [← hH3]; exact Ext.new fD
  have aD : (α2 ++ [D])[M2.length]? = some D := h2.last D
  have lt2 : ∀ b ∈ fp, b < s2.heap.objs.size := fun b hb => let ⟨o, e, _⟩ := T.obj _ _ st2 b hb; Heap.lt_size e
  have keep3 : ∀ b o, s2.heap.get? b = some o → s3.heap.get? b = some o := fun b o e => by rw [← hs3]; exact Heap.get?_push_of_some _ e
  have f3 : ∀ b ∈ fp, Zdg X pins H3 b := fun b hb => ⟨by rw [← hH3, ZR (by rw [← hD]; exact Nat.ne_of_lt (lt2 b hb))]; exact (f2 b hb).1, (f2 b hb).2⟩
  have lt3 : ∀ b ∈ fp, b < s3.heap.objs.size := fun b hb => let ⟨o, e, _⟩ := T.obj _ _ st2 b hb; Heap.lt_size (keep3 b o e)
  have st3 : tn 0 s3.heap := T.keep _ _ _ st2 fun b _ o e => keep3 b o e
  refine wpAny_newFunctionEnv B.cell (by intro y hy; simp at hy) (fun h₁ hns₁ hsb₁ => ?_) B.kind
  have keep4 : ∀ b o, s3.heap.get? b = some o → h₁.get? b = some o := fun b o e => hsb₁.extBut b o (Nat.ne_of_lt (Heap.lt_size e)) (Heap.get?_push_of_some _ e)
  have I4 := ZgS (tk := s3.toks + ([] : List (Str × Value)).length) B I3 f3 lt3 hns₁ keep4
  have st4 : tn 0 h₁ := T.keep _ _ _ st3 fun b _ o e => keep4 b o e
  generalize hX : blk X scope cl N s3.heap.objs.size fp s3 H3 = Y at I4
  have YK : Y.K = X.K := by rw [← hX]; rfl
  have Yp : Y.prog = X.prog := by rw [← hX]; rfl
  have Yw : Y.w = X.w := by rw [← hX]; rfl
  have YA : Y.A = X.A := by rw [← hX]; rfl
  have Ye : Y.env = compEnvC scope cl s3.heap.objs.size X.env := by rw [← hX]; rfl
  obtain ⟨tt, pt, qt⟩ := hg s3.heap.objs.size fp s3 H3
  obtain ⟨te, pe, qe⟩ := he s3.heap.objs.size fp s3 H3
  have tst := ht s3.heap.objs.size fp s3 H3
  rw [hX] at pt qt pe qe tst
  cases er : Zb7 src gt c f M2.length (cnt src M2) 0 (roB k fr ρ) (M2 ++ [.lst []]) with
  | exc x M9 => rw [er] at op2; exact op2.elim
  | bad => rw [er] at op2; exact op2.elim
  | ok u9 M9 =>
    rw [er] at op2
    have loop : codeAny (model X.prog X.w) X.A (.compLoop (.ListComp elt [⟨tg, iter, ifs, 0⟩] scope pos) 0 (.ref it) (.ref D) (compEnvC scope cl s3.heap.objs.size X.env)) (compPost (model X.prog X.w) X.A X.xe (some (assign (.Name x pos') X.env)) (fun _ s' => SP X pins Dn .next s') (.ref D) s3.heap.objs.size) { s3 with heap := h₁, toks := s3.toks + ([] : List (Str × Value)).length } := by
      refine Zbz (fun n s' => ∃ i σ' ρ' H' α' M', Inv Y [] σ' H' s' ∧ tn i s'.heap ∧ (∀ b ∈ fp, H' b = none) ∧ SR X.K H' α' σ' ρ' ∧ HR X.K H' α' M' ∧ Ext X.K H3 H' (α2 ++ [D]) α' ∧ Zb7 src gt c f M2.length n i ρ' M' = .ok u9 M9) ?_ (cnt src M2)
        ⟨0, stB k fr σ, roB k fr ρ, H3, α2 ++ [D], M2 ++ [.lst []], I4, st4, fun b hb => (f3 b hb).1, (srI.blk).mono e3, h3, Ext.refl, er⟩
      rintro n s5 ⟨i, σ5, ρ5, H5, α5, M5, I5, st5, fr5, sr5, hr5, ex5, en⟩
      have fp5 : ∀ {H' : Hp}, (∀ b ∈ fp, H' b = none) → ∀ b ∈ fp, Zdg Y [] H' b := fun hn b hb => ⟨hn b hb, by rw [Ye]; exact Nat.ne_of_lt (lt3 b hb), by
        have := (ZgQ B I3 f3 lt3).exfs b hb
        rw [hX] at this; exact this, .inl (by rw [← hX]; exact hb), fun x c h => (by rw [Ye] at h; exact (f3 b hb).2.2.2.2.1 x c (B.sub x c h)), fun p hp => (by rw [← hX] at hp; simp [blk] at hp)⟩
      have src5 := sc i H5 α5 M5 (e3.trans ex5) hr5
      rw [Zb7] at en
      cases ex : nxt src i M5 with
      | none => rw [ex] at en; cases en
      | some od =>
        rw [ex] at src5 en
        cases od with
        | none =>
          cases en
          have fin := T.done Y Yp Yw YK YA i [] s5 σ5 H5 (fun _ _ => False) I5 (fp5 fr5) st5 src5
          rw [YA] at fin
          refine thn fin fun r s6 ⟨hr6, I6⟩ => ?_
          subst hr6
          obtain ⟨m6, hm6, _⟩ := id I6.loc
          rw [Ye] at hm6
          have un := I6.base
          have hok6 := I6.hok
          have I7 : Inv X pins σ H5 s6 := by
            refine I3.call' (s' := s6) (ch := fp) ?_ ?_ ?_ I6.bare fun b hb => ?_
            · have := I6.os
              rw [this, ← hX]; rfl
            · rw [← hX] at un
              exact un
            · rw [Yp, Yw] at hok6
              exact hok6
            · obtain ⟨_, z1, z2, z3, z4, z5⟩ := f3 b hb
              exact ⟨z3, z1, z4, z5⟩
          have hC : H5 s3.heap.objs.size = none := by have := I6.free; rw [Ye] at this; exact this
          refine wpAny_assign_Name (Zd0 (v := .ref D) I7 hN hiv hxl rfl (fun s8 I8 ⟨a, sb8, ha⟩ => ?_) hf)
          have nca : s3.heap.objs.size ≠ a := by
            rcases ha with e | e
            · rw [e]; exact Nat.ne_of_gt I3.lt
            · intro z
              obtain ⟨v, o, e', _⟩ := I3.cell x a e
              exact absurd (Heap.lt_size e') (by rw [← z]; exact Nat.lt_irrefl _)
          refine ⟨m6, hm6.sameBut sb8 nca, fun h' sb => ?_⟩
          have I9 : Inv X pins (σ.set iv (some (.ref D))) H5 { s8 with heap := h', toks := s8.toks } := I8.turned (it := s3.heap.objs.size) (fun b o hb e => (sb.2 b hb).trans e) hC (Nat.ne_of_gt I3.lt) (.inr I3.sz)
            (fun x c h z => by
              obtain ⟨v, o, e, _⟩ := I3.cell x c h
              exact absurd (Heap.lt_size e) (by rw [z]; exact Nat.lt_irrefl _)) (fun p hp z => by
              have := (I3.pin p hp).1
              exact absurd (Heap.lt_size this) (by rw [z]; exact Nat.lt_irrefl _))
          exact ⟨_, H5, I9, op2 _ H5 α5 (e3.trans ex5) hr5 ((srI.mono (e3.trans ex5)).set iv (.ref (ex5.get aD)))⟩
        | some d =>
          obtain ⟨go, yl⟩ := src5
          cases n with
          | zero => cases en
          | succ n =>
            simp only at en
            have itm := T.item Y Yp Yw YK YA i [] s5 σ5 H5 (fun _ _ => False) I5 (fp5 fr5) st5 go
            rw [YA] at itm
            refine thn itm fun r s6 ⟨u, hr6, w6⟩ => ?_
            subst hr6
            refine thn w6 fun _ s7 ⟨x, H7, I7, r7, y7, st7, fr7⟩ => ?_
            obtain ⟨ex7, hr7, rp7⟩ := yl x H7 y7
            have sr5 := sr5.mono ex7
            have hr5 := hr7
            have ex5 := ex5.trans ex7
            have I7' := I7.pinned (fp5 fr7) (T.obj _ _ st7)
            cases eg : gt d ρ5 with
            | none => rw [eg] at en; cases en
            | some ρ6 =>
              rw [eg] at en
              simp only at en
              have asg := pt _ s7 σ5 H7 x u _ I7' r7 (qt x d σ5 ρ5 H7 α5 ρ6 (fun σ' H' => H' = H7 ∧ SR X.K H7 α5 σ' ρ6) (by rw [YK]; exact sr5) (by rw [YK]; exact rp7) eg fun σ' s' => ⟨rfl, by rw [YK] at s'; exact s'⟩)
              rw [Yp, Yw, YA, Ye] at asg
              refine wpAny_mono asg (fun _ s8 ⟨σ8, H8, I8, z8, sr8⟩ => ?_) (fun _ _ z => by rw [← hX] at z; exact z)
              subst z8
              have again : ∀ {σ9 : L2.St} {H9 : Hp} {s9 : Shared}, Inv Y ([] ++ ZbW fp s7.heap) σ9 H9 s9 → Inv Y [] σ9 H9 s9 ∧ tn (i + 1) s9.heap ∧ ∀ b ∈ fp, H9 b = none := fun {σ9 H9 s9} I9 => by
                refine ⟨I9.unpinned, T.keep _ _ _ st7 fun b hb o e => (I9.pin (b, o) (List.mem_append_right _ (List.mem_append_right _ (Zae hb e)))).1, fun b hb => ?_⟩
                obtain ⟨o, e, _⟩ := T.obj _ _ st7 b hb
                exact (I9.pin (b, o) (List.mem_append_right _ (List.mem_append_right _ (Zae hb e)))).2.1
              have after : ∀ (kk : Bool) (M8 : Sto) (H9 : Hp) (α9 : List Addr) (s9 : Shared), Inv Y ([] ++ ZbW fp s7.heap) σ8 H9 s9 → Ext X.K H8 H9 α5 α9 → HR X.K H9 α9 M8 → c ρ6 M5 = .ok kk M8 →
                  (if kk = true then wpAny (model X.prog X.w) X.A (eval elt (compEnvC scope cl s3.heap.objs.size X.env)) (fun x s₄ => wpAny (model X.prog X.w) X.A (call (.builtin "list.append") [.ref D, x]) (fun _ s₅ => ∃ m, m < n + 1 ∧ ∃ i σ' ρ' H' α' M', Inv Y [] σ' H' s₅ ∧ tn i s₅.heap ∧ (∀ b ∈ fp, H' b = none) ∧ SR X.K H' α' σ' ρ' ∧ HR X.K H' α' M' ∧ Ext X.K H3 H' (α2 ++ [D]) α' ∧ Zb7 src gt c f M2.length m i ρ' M' = .ok u9 M9) (fun _ _ => False) s₄) (fun _ _ => False) s9
                   else ∃ m, m < n + 1 ∧ ∃ i σ' ρ' H' α' M', Inv Y [] σ' H' s9 ∧ tn i s9.heap ∧ (∀ b ∈ fp, H' b = none) ∧ SR X.K H' α' σ' ρ' ∧ HR X.K H' α' M' ∧ Ext X.K H3 H' (α2 ++ [D]) α' ∧ Zb7 src gt c f M2.length m i ρ' M' = .ok u9 M9) := by
                intro kk M8 H9 α9 s9 I9 ex9 hr9 ec
                rw [ec] at en
                cases kk with
                | false =>
                  obtain ⟨a1, a2, a3⟩ := again I9
                  exact Zi4 ⟨n, Nat.lt_succ_self n, i + 1, σ8, ρ6, H9, α9, M8, a1, a2, a3, sr8.mono ex9, hr9, ex5.trans ex9, en⟩
                | true =>
                  simp only at en
                  refine Zi5 ?_
                  cases ef : f ρ6 M8 with
                  | exc x9 M10 => rw [ef] at en; cases en
                  | bad => rw [ef] at en; cases en
                  | ok y M10 =>
                    rw [ef] at en
                    simp only at en
                    have ev := pe _ s9 σ8 H9 (fun v H' => ∃ α', Ext X.K H9 H' α9 α' ∧ HR X.K H' α' M10 ∧ Rep X.K H' α' v y) I9 (qe σ8 ρ6 H9 α9 M8 _ (by rw [YK]; exact sr8.mono ex9) (by rw [YK]; exact hr9) (by
                      rw [ef, YK]
                      exact fun v H' α' e h r => ⟨α', e, h, r⟩))
                    rw [Yp, Yw, YA, Ye] at ev
                    refine wpAny_mono ev (fun yv s10 ⟨v, H10, I10, r10, α10, ex10, hr10, rp10⟩ => ?_) (fun _ _ z => by rw [← hX] at z; exact z)
                    cases em : M10[M2.length]? with
                    | none => rw [em] at en; cases en
                    | some so =>
                      cases so with
                      | lst ds =>
                        rw [em] at en
                        simp only at en
                        by_cases cz : ds.length < 10000000
                        · rw [if_pos cz] at en
                          have aD10 := ex10.get (ex9.get (ex5.get aD))
                          obtain ⟨xs, g1, g2⟩ := hr10.at aD10 em
                          have ap := Zcb (X := Y) _ s10 σ8 H10 (.ref D) [v] (.ref D) [yv] (fun _ H' => H' = upd H10 D (.lst (xs ++ [v]))) I10 rfl (.cons r10 .nil) ⟨D, xs, v, rfl, rfl, g1, by rw [g2.length]; exact Nat.lt_of_lt_of_le cz (by decide), rfl⟩
                          rw [Yp, Yw, YA] at ap
                          refine wpAny_mono ap (fun _ s11 ⟨v11, H11, I11, _, z11⟩ => ?_) (fun _ _ z => by rw [← hX] at z; exact z)
                          subst z11
                          obtain ⟨a1, a2, a3⟩ := again I11
                          have exw : Ext X.K H10 (upd H10 D (.lst (xs ++ [v]))) α10 α10 := Ext.wr g1
                          exact ⟨n, Nat.lt_succ_self n, i + 1, σ8, ρ6, _, α10, _, a1, a2, a3, ((sr8.mono ex9).mono ex10).mono exw, hr10.wr aD10 g1 (g2.append (.cons rp10 .nil)), ((ex5.trans ex9).trans ex10).trans exw, en⟩
                        · rw [if_neg cz] at en
                          cases en
              rcases tst with ⟨rfl, ec⟩ | ⟨e, rfl, tt', ptt, qtt⟩
              · refine wpAny_tests_nil ?_
                exact after true M5 H8 α5 s8 I8 Ext.refl hr5 (by rw [ec])
              · refine wpAny_tests_one ?_
                cases ec : c ρ6 M5 with
                | exc x9 M10 => rw [ec] at en; cases en
                | bad => rw [ec] at en; cases en
                | ok kk M8 =>
                  have tv' := ptt _ s8 σ8 H8 (fun b H' => b = kk ∧ ∃ α', Ext X.K H8 H' α5 α' ∧ HR X.K H' α' M8) I8 (qtt σ8 ρ6 H8 α5 M5 _ (by rw [YK]; exact sr8) (by rw [YK]; exact hr5) (by
                    rw [ec, YK]
                    exact fun v H' α' e h r => ⟨r, α', e, h⟩))
                  rw [Yp, Yw, YA, Ye] at tv'
                  refine wpAny_mono tv' (fun b s9 ⟨H9, I9, zb, α9, ex9, hr9⟩ => ?_) (fun _ _ z => by rw [← hX] at z; exact z)
                  subst zb
                  exact after b M8 H9 α9 s9 I9 ex9 hr9 ec
    exact codeAny_compStart_list loop (T.self X.A 0 _ _ _ st4 loop)
end
end DL
end
section
set_option Elab.async false
set_option linter.all false
set_option maxRecDepth 100000
set_option maxHeartbeats 4000000
namespace DL
open PySem PySem.Spec PyProof.Rows L2
noncomputable def Zry : Bo := fun x y M => match x, y with
  | .ref n, .int k => match M[n]? with
    | some (.lst xs) => if (-9223372036854775808 ≤ k ∧ k < 9223372036854775808) ∧ xs.length * k.toNat ≤ 100000 then .ok (.ref M.length) (M ++ [.lst (List.replicate k.toNat xs).flatten]) else .bad
    | none => .bad
  | _, _ => .bad
section
variable {X : Cx} {ξ : XK} {a b : Expr} {fa fb : Ev} {pos : Pos}
end
end DL
end
set_option Elab.async false
set_option linter.all false
set_option maxRecDepth 100000
set_option maxHeartbeats 4000000
namespace DL
open PySem PySem.Spec L2
open PySem.W
theorem ZfZ : typeLookup (.type "list_reverseiterator") "__len__" = pure none := by rw [typeLookup_type, builtinLookup_eq_fast]; kernel_rfl
theorem Zit : typeLookup (.type "list_reverseiterator") "__length_hint__" = pure (some (.builtin "list_reverseiterator.__length_hint__")) := by rw [typeLookup_type, builtinLookup_eq_fast]; kernel_rfl
theorem Zkk : isSubtype (.type "list_reverseiterator") (.type "list_reverseiterator") = pure true := by rw [isSubtype_type]; kernel_rfl
theorem Zg3 : splitId "list_reverseiterator.__length_hint__" = some ("list_reverseiterator", "__length_hint__") := by decide +kernel
section
variable {prog : Program} {w : World} {A : Around} {E : Value → Shared → Prop} {s : Shared}
theorem Ziu {I : Addr} {Q : Bool → Shared → Prop} (hT : s.TypeIs (.ref I) "list_reverseiterator") (h : Q false s) : wpAny (model prog w) A (Builtin.List.listLengthHint (.ref I)) Q E s := by
  unfold Builtin.List.listLengthHint
  refine wpAny_bind (wpAny_specialOf hT ZfZ ?_)
  show wpAny _ A (specialOf (Value.ref I) (Str.ofString "__length_hint__") >>= _) _ _ _
  refine wpAny_bind (wpAny_specialOf hT Zit ?_)
  simp only [Zg3]
  refine wpAny_bind (wpAny_isInstance hT Zkk ?_)
  exact wpAny_pure h
end
section
variable {prog : Program} {w : World} {A : Around} {s : Shared} {R : Result → Shared → Prop}
variable {I : Addr} {fp wr : List Addr} {G : Array GenState → Array GenState → Prop} {n : Nat} {P : Nat → Value → Prop} {St : Nat → Shared → Prop}
theorem Zf0 (W : WalksS prog w A.in1 I fp wr G n P St) (hT : ∀ i s, St i s → s.TypeIs (.ref I) "list_reverseiterator") (S : Addr) (res : Value) (c₀ : Nat) (hst : St 0 s) (hSf : S ∉ fp) (hI : I ∈ fp)
    (hS : s.heap.get? S = some { cls := .type "list", data := .seq #[] c₀ })
    (hR : ∀ s' acc' c', Moved (S :: wr) G s s' → s'.heap.get? S = some { cls := .type "list", dict := none, data := .seq acc' c', slots := #[] } → ItemsOf P acc' n → R (.ok (.ret res)) s') (hn : n ≤ sizeLine) :
    wpAny (model prog w) A.in1 (Builtin.List.listExtendWith (.ref S) (.ref I) res)
      (fun fin s' => match fin with | .done f => R (.ok f) s' | .again c' => c'.quiet = true ∧ codeAny (model prog w) A c' R s') (fun e s' => R (.error e) s') s := by
  have hSI : S ≠ I := fun e => hSf (e ▸ hI)
  unfold Builtin.List.listExtendWith
  refine wpAny_bind (wpAny_typeOf (hT 0 _ hst) ?_)
  have h1 : Builtin.List.listSameRef (.ref S) (.ref I) = false := by simp [Builtin.List.listSameRef, hSI]
  have h2 : (Value.type "list_reverseiterator" == Value.type "list") = false := by decide
  have h3 : (Value.type "list_reverseiterator" == Value.type "tuple") = false := by decide
  simp only [h1, h2, h3, Bool.or_false, Bool.false_eq_true, if_false]
  refine wpAny_bind (W.self 0 _ _ _ hst ?_)
  refine wpAny_bind (wpAny_holding ?_)
  refine Ziu (hT 0 _ hst) ?_
  refine wpAny_pure ⟨plainId_quiet F.plain_extend_loop _, codeAny_extend_loopS W hn _ hSf _ n 0 _ _ _ rfl (Nat.zero_le _) hst hS (ItemsOf.nil P) fun s' acc' c' hm hS' hacc => ?_⟩
  exact hR s' acc' c' hm hS' hacc
theorem ZdC (W : WalksS prog w A.in1 I fp wr G n P St) (hT : ∀ i s, St i s → s.TypeIs (.ref I) "list_reverseiterator") (S : Addr) (hst : St 0 s) (hSf : S ∉ fp) (hI : I ∈ fp)
    (hS : s.heap.get? S = some { cls := .type "list", data := .seq #[] })
    (hR : ∀ s' acc' c', Moved (S :: wr) G s s' → s'.heap.get? S = some { cls := .type "list", dict := none, data := .seq acc' c', slots := #[] } → ItemsOf P acc' n → R (.ok (.ret .none)) s') (hn : n ≤ sizeLine) :
    wpAny (model prog w) A.in1 (Builtin.«list.__init__» ⟨[.ref S, .ref I], []⟩)
      (fun fin s' => match fin with | .done f => R (.ok f) s' | .again c' => c'.quiet = true ∧ codeAny (model prog w) A c' R s') (fun e s' => R (.error e) s') s := by
  show wpAny _ A.in1 (do let old ← Builtin.List.listItems (.ref S); Builtin.List.listUpdate (.ref S) (fun _ => #[]); letGo old.toList.reverse; Builtin.List.listExtendWith (.ref S) (.ref I) .none) _ _ s
  refine wpAny_bind ?_
  unfold Builtin.List.listItems
  refine wpAny_bind (wpAny_seqItems hS rfl (wpAny_pure ?_))
  show wpAny _ A.in1 (updateSeq S (fun _ => #[]) >>= fun _ => letGo (#[] : Array Value).toList.reverse >>= fun _ => Builtin.List.listExtendWith (.ref S) (.ref I) .none) _ _ s
  refine wpAny_bind (wpAny_updateSeq hS rfl ?_)
  have hS₂ := Heap.get?_update_self (Obj.mapSeq (fun _ => (#[] : Array Value))) hS rfl
  have oth : ∀ b o, b ≠ S → s.heap.get? b = some o → (s.heap.update S (Obj.mapSeq (fun _ => (#[] : Array Value)))).get? b = some o :=
    fun b o hb e => (Heap.get?_update_other _ _ (Ne.symm hb)).trans e
  refine wpAny_bind (wpAny_letGo ?_)
  refine Zf0 W hT S .none _ (W.frame 0 s _ s.toks hst (Nat.le_refl _) fun b hb o e => oth b o (fun h => hSf (h ▸ hb)) e) hSf hI hS₂ (fun s' acc' c' hm hS' hacc => ?_) hn
  exact hR s' acc' c' (Moved.trans W.gtrans ((Moved.refl W.grefl).then_heap (Nat.le_refl _) fun b o hb e => oth b o (fun h => hb (h ▸ List.mem_cons_self)) e) hm) hS' hacc
end
section
variable {prog : Program} {w : World} {A : Around} {E : Value → Shared → Prop} {s : Shared}
variable {I : Addr} {fp wr : List Addr} {G : Array GenState → Array GenState → Prop} {n : Nat} {P : Nat → Value → Prop} {St : Nat → Shared → Prop}
theorem ZdD {Q : Value → Shared → Prop} (W : WalksS prog w A.in1.in1 I fp wr G n P St) (hT : ∀ i s, St i s → s.TypeIs (.ref I) "list_reverseiterator") (hst : St 0 s) (hfp : ∀ b ∈ fp, b < s.heap.objs.size) (hI : I ∈ fp)
    (hQ : ∀ s' acc' c', Moved (s.heap.objs.size :: wr) G { s with heap := s.heap.push { cls := .type "list", data := .seq #[] } } s' →
      s'.heap.get? s.heap.objs.size = some { cls := .type "list", dict := none, data := .seq acc' c', slots := #[] } → ItemsOf P acc' n → Q (.ref s.heap.objs.size) s') (hn : n ≤ sizeLine) :
    wpAny (model prog w) A (call (.type "list") [.ref I]) Q E s := by
  have hSf : s.heap.objs.size ∉ fp := fun hm => Nat.lt_irrefl _ (hfp _ hm)
  refine callType_codes (Q₁ := fun obj s₁ => obj = .ref s.heap.objs.size ∧ s₁ = { s with heap := s.heap.push { cls := .type "list", data := .seq #[] } }) F.called_list (F.typeCall_list_1 _) F.entry_list_init
    (code_list_new _ ⟨rfl, rfl⟩) fun obj s₁ h₁ => ?_
  obtain ⟨rfl, rfl⟩ := h₁
  have hS : (s.heap.push { cls := .type "list", data := .seq #[] }).get? s.heap.objs.size = some { cls := .type "list", data := .seq #[] } := Heap.get?_push_size _ rfl
  refine ⟨⟨_, hS, rfl⟩, F.args_list_init_2 _ _, ZdC W hT _ (W.frame 0 s _ s.toks hst (Nat.le_refl _) fun b _ o e => Heap.get?_push_of_some _ e) hSf hI hS (fun s' acc' c' hm hS' hacc => ?_) hn⟩
  exact ⟨rfl, hQ s' acc' c' hm hS' hacc⟩
end
section
variable {X : Cx} {ξ : XK} {a : Expr} {fs : Av} {p1 p2 p3 pos : Pos} {ta : TA}
noncomputable def tLR (K : PySem.W.Frag) (t : TA) : TE := fun σ H Q => t σ H fun vs H1 => ∃ l xs, vs = [.ref l] ∧ SqL K H1 l xs ∧ ∀ p, H1 p = none → Q (.ref p) (upd H1 p (.lst xs.reverse))
theorem Zg4 {its : List Value} {acc : Array Value} (h : ItemsOf (fun i v => its.toArray[its.toArray.size - 1 - i]? = some v) acc its.toArray.size) : acc = its.reverse.toArray := by
  obtain ⟨hz, hv⟩ := h
  apply Array.ext'
  apply List.ext_getElem?
  intro i
  rw [List.toList_toArray]
  by_cases hi : i < acc.size
  · have e : acc.toList[i]? = some acc[i] := by rw [Array.getElem?_toList]; exact Array.getElem?_eq_getElem hi
    have := hv i _ (Array.getElem?_eq_getElem hi)
    rw [e, ← this, List.getElem?_toArray, List.size_toArray, List.getElem?_reverse (by rw [hz, List.size_toArray] at hi; exact hi)]
  · rw [List.getElem?_eq_none (by rw [Array.length_toList]; omega), List.getElem?_eq_none (by rw [hz, List.size_toArray] at hi; rw [List.length_reverse]; omega)]
theorem ZoC (hc : X.A.handled = none) (hgl : Gl X "list") (hml : X.mg "list" = none) (hg : Gl X "reversed") (hm : X.mg "reversed" = none) (ha : PA X [a] ta) (hs : starEach [a] X.env = (false, eval a X.env) :: starEach [] X.env := by rfl) (hpl : (backTo p3 (starEach [] X.env)).any (·.1) = false := by rfl) (hs1 : starEach [.Call (.Name "reversed" p2) [a] [] p3] X.env = (false, eval (.Call (.Name "reversed" p2) [a] [] p3) X.env) :: starEach [] X.env := by rfl) (hpl1 : (backTo pos (starEach [] X.env)).any (·.1) = false := by rfl) :
    PE X (.Call (.Name "list" p1) [.Call (.Name "reversed" p2) [a] [] p3] [] pos) (tLR X.K ta) := by
  intro pins s σ H Q I h
  refine wpAny_Call_Name_kw (Zcy I hgl hml ZcU (PyProof.Rows.callWith_type1 ?_ hs1 hpl1) (by decide) (by decide))
  rw [hs1]
  show wpAny _ _ (spliced ((false, eval (.Call (.Name "reversed" p2) [a] [] p3) X.env) :: backTo pos (starEach [] X.env))) _ _ s
  refine Calls.spliced_cons ?_
  refine wpAny_Call_Name_kw (Zcy I hg hm ZeR (PyProof.Rows.callWith_type1 (thn (ha p3 pins s σ H _ I h) fun us s1 ⟨vs, H1, I1, r1, q1⟩ => ?_) hs hpl) (by decide) (by decide))
  obtain ⟨l, xs, rfl, hq, q⟩ := q1
  obtain ⟨u, rfl, ru⟩ := Zdb r1
  cases ru
  obtain ⟨its, rv, pl, hz⟩ := I1.list hq
  have hll : l < s1.heap.objs.size := by
    obtain ⟨o, ho, _⟩ := pl.isList
    exact Heap.lt_size ho
  refine call_reversed_list pl.isList (Calls.spliced_nil ?_)
  have W := (PySem.Walks.listRev (prog := X.prog) (w := X.w) (A := X.A.in1.in1) hc s1.heap.objs.size l (Nat.ne_of_lt hll) its.toArray).toS
  have hsz : its.toArray.size ≤ sizeLine := by rw [List.size_toArray, ← rv.length]; exact hz
  refine ZdD W (fun i s x => x.2.1.typeIs) ⟨Nat.zero_le _, ⟨_, Heap.get?_push_size _ rfl, rfl, ?_⟩, ?_⟩ ?_ (by simp) (fun s' acc c hmv hS hit => ?_) hsz
  · show Data.fields #[.ref l, rawInt ((its.toArray.size : Int) - 1)] = _
    rw [show (its.toArray.size : Int) - 1 - ((0 : Nat) : Int) = (its.toArray.size : Int) - 1 by omega]
  · exact pl.isList.at fun o e => Heap.get?_push_of_some _ e
  · intro b hb
    have : b = s1.heap.objs.size ∨ b = l := by simpa using hb
    have hz2 : (s1.heap.push (revObj l ((its.toArray.size : Int) - 1))).objs.size = s1.heap.objs.size + 1 := by simp [Heap.push]
    show b < (s1.heap.push (revObj l ((its.toArray.size : Int) - 1))).objs.size
    rw [hz2]
    rcases this with rfl | rfl
    · exact Nat.lt_succ_self _
    · exact Nat.lt_succ_of_lt hll
  · have ea := Zg4 hit
    subst ea
    have hz2 : (s1.heap.push (revObj l ((its.toArray.size : Int) - 1))).objs.size = s1.heap.objs.size + 1 := by simp [Heap.push]
    have K : ∀ b u, s1.heap.get? b = some u → s'.heap.get? b = some u := by
      intro b u hb
      have hlt := Heap.lt_size hb
      refine hmv.heap b u ?_ (Heap.get?_push_of_some _ (Heap.get?_push_of_some _ hb))
      intro hmem
      have : b = s1.heap.objs.size + 1 ∨ b = s1.heap.objs.size := by
        simp only [List.mem_cons, List.not_mem_nil, or_false] at hmem
        rcases hmem with e | e
        · exact .inl (e.trans hz2)
        · exact .inr e
      rcases this with e | e
      · exact absurd (e ▸ hlt) (Nat.not_lt.mpr (Nat.le_succ _))
      · exact absurd (e ▸ hlt) (Nat.lt_irrefl _)
    have es : s' = { s1 with heap := s'.heap, toks := s'.toks } := by
      obtain ⟨h1, g1, d1, t1, o1⟩ := s1
      obtain ⟨h2, g2, d2, t2, o2⟩ := s'
      have e1 : g2 = g1 := hmv.gens
      have e2 : d2 = d1 := hmv.drawn
      have e3 : o2 = o1 := hmv.os
      subst e1 e2 e3
      rfl
    have hS' : s'.heap.get? (s1.heap.objs.size + 1) = some { cls := .type "list", dict := none, data := .seq its.reverse.toArray c, slots := #[] } := by
      rw [← hz2]; exact hS
    show EP X pins σ Q (.ref (s1.heap.push (revObj l ((its.toArray.size : Int) - 1))).objs.size) s'
    rw [hz2, es]
    refine ⟨.ref _, _, I1.laid (t' := s'.toks) (o := .lst xs.reverse) K (Nat.le_succ _) ?_, rfl, q _ (I1.hok.fresh (Nat.le_succ _))⟩
    exact ⟨by rw [List.length_reverse]; exact hz, its.reverse, c, rv.reverse, hS'⟩
noncomputable def bLR : List D → Sto → Out D := fun ds M1 => match ds with
  | [.ref n] => (match M1[n]? with | some (.lst xs) => .ok (.ref M1.length) (M1 ++ [.lst xs.reverse]) | none => .bad)
  | [.rol xs] => .ok (.ref M1.length) (M1 ++ [.lst xs.reverse])
  | _ => .bad
theorem ZoD (hc : X.A.handled = none) (hml : X.mg "list" = none) (hm : X.mg "reversed" = none) (ha : DA X ξ [a] fs) (hgl : Gl X "list" := by rfl) (hg : Gl X "reversed" := by rfl) (hs : starEach [a] X.env = (false, eval a X.env) :: starEach [] X.env := by rfl) (hpl : (backTo p3 (starEach [] X.env)).any (·.1) = false := by rfl) (hs1 : starEach [.Call (.Name "reversed" p2) [a] [] p3] X.env = (false, eval (.Call (.Name "reversed" p2) [a] [] p3) X.env) :: starEach [] X.env := by rfl) (hpl1 : (backTo pos (starEach [] X.env)).any (·.1) = false := by rfl) :
    DE X ξ (.Call (.Name "list" p1) [.Call (.Name "reversed" p2) [a] [] p3] [] pos) (Zh bLR fs) := by
  obtain ⟨ta, pa, qa⟩ := ha
  refine ⟨_, ZoC hc hgl hml hg hm pa hs hpl hs1 hpl1, fun σ ρ H α M Q s hh w => qa σ ρ H α M _ s hh (OG.seq w fun ds M1 vs H1 α1 e1 h1 r1 w1 => ?_)⟩
  match r1 with
  | .nil => exact w1.elim
  | .cons r (.cons _ _) => cases r <;> exact w1.elim
  | .cons r .nil =>
    cases r with
    | @rol a xs ds hp rp =>
      have w2 : OP X.K H1 α1 ξ Q (.ok (.ref M1.length) (M1 ++ [.lst ds.reverse])) := w1
      exact ⟨a, xs, rfl, hp.sq, fun l hl => w2 _ _ (α1 ++ [l]) (Ext.new hl) (h1.new hl rp.rev) (.ref (h1.last l))⟩
    | @ref a n hp =>
      cases em : M1[n]? with
      | none => simp only [bLR, em] at w1; exact w1.elim
      | some so =>
        cases so with
        | lst es =>
          simp only [bLR, em] at w1
          obtain ⟨xs, g1, g2⟩ := h1.at hp em
          exact ⟨a, xs, rfl, SqL.of g1, fun l hl => w1 _ _ (α1 ++ [l]) (Ext.new hl) (h1.new hl g2.rev) (.ref (h1.last l))⟩
    | _ => exact w1.elim
end
end DL
section
set_option Elab.async false
set_option linter.all false
set_option maxRecDepth 100000
set_option maxHeartbeats 4000000
namespace DL
open PySem PySem.Spec PyProof.Rows L2
noncomputable def Bag (n : Nat) (M : Sto) : Prop := ∃ a b : Int, 0 ≤ a ∧ M[n]? = some (.lst [.int a, .int b])
structure Gr (n : Nat) (M M' : Sto) : Prop where
  len : M.length ≤ M'.length
  bag : Bag n M'
  keep : ∀ k, k ≠ n → k < M.length → M'[k]? = M[k]?
theorem Zkl {g : Sv} {n k : Nat} {ds : List D} {M M' : Sto} {d : D} (hl : ds.length = n) (h : g (ds.map some ++ List.replicate k none) M = .ret d M') : fnF g n k ds M = .ok d M' := by
  unfold fnF
  rw [if_pos hl, h]
theorem Zg5 {g h : Sv} {ρ ρ1 : Ro} {M M1 : Sto} (e : g ρ M = .nx ρ1 M1) : Zu g h ρ M = h ρ1 M1 := by
  unfold Zu
  rw [e]
theorem Zg6 {i j : Int} (h1 : -(2 ^ 64) < j) (h2 : j < 2 ^ 64) : ZC i j := .inr (.inl (intBits_le_64 h1 h2))
theorem Zg7 {i j : Int} (h1 : -(2 ^ 64) < i) (h2 : i < 2 ^ 64) : ZC i j := .inl (intBits_le_64 h1 h2)
theorem at0 {x : D} {r : List D} : atI (x :: r) 0 = some x := by
  show (ixN (r.length + 1) 0).bind _ = _
  unfold ixN
  rw [if_pos (by decide), if_pos (by omega)]
  rfl
theorem at1 {x y : D} {r : List D} : atI (x :: y :: r) 1 = some y := by
  show (ixN (r.length + 2) 1).bind _ = _
  unfold ixN
  rw [if_pos (by decide), if_pos (by omega)]
  rfl
theorem ix0 {n : Nat} : ixN (n + 1) 0 = some 0 := by
  unfold ixN
  rw [if_pos (by decide), if_pos (by omega)]
  rfl
theorem ix1 {n : Nat} : ixN (n + 2) 1 = some 1 := by
  unfold ixN
  rw [if_pos (by decide), if_pos (by omega)]
  rfl
theorem Bag.lt {n : Nat} {M : Sto} (h : Bag n M) : n < M.length := let ⟨_, _, _, e⟩ := h; (List.getElem?_eq_some_iff.mp e).1
theorem Bag.app {n : Nat} {M : Sto} (h : Bag n M) (L : Sto) : Bag n (M ++ L) := by
  have hl := h.lt
  obtain ⟨a, b, h1, h2⟩ := h
  exact ⟨a, b, h1, by rw [List.getElem?_append_left hl]; exact h2⟩
theorem Gr.trans {n : Nat} {M M1 M2 : Sto} (a : Gr n M M1) (b : Gr n M1 M2) : Gr n M M2 :=
  ⟨Nat.le_trans a.len b.len, b.bag, fun k h1 h2 => (b.keep k h1 (Nat.lt_of_lt_of_le h2 a.len)).trans (a.keep k h1 h2)⟩
theorem Gr.app {n : Nat} {M : Sto} (h : Bag n M) (L : Sto) : Gr n M (M ++ L) := ⟨by simp, h.app L, fun k _ hk => by rw [List.getElem?_append_left hk]⟩
theorem Gr.app2 {n : Nat} {M M1 : Sto} (h : Gr n M M1) (L : Sto) : Gr n M (M1 ++ L) := h.trans (.app h.bag L)
theorem Gr.new {n : Nat} {M M1 : Sto} {o : SO} {L : Sto} (hb : Bag n M) (h : Gr n (M ++ o :: L) M1) : M1[M.length]? = some o := by
  rw [h.keep _ (Nat.ne_of_gt hb.lt) (by simp)]
  simp
theorem Ziv {ns : List Int} {k : Nat} (h : k < ns.length) : atI (ns.map D.int) (k : Int) = some (.int ns[k]) := ZjZ (by rw [List.getElem?_map, List.getElem?_eq_getElem h]; rfl)
theorem Zfy {ρ : Ro} {i : Nat} {x : Option D} (h : ρ[i]? = some x) : ρ.set i x = ρ := by
  apply List.ext_getElem?
  intro k
  by_cases hk : k = i
  · subst hk
    rw [List.getElem?_set_self (List.getElem?_eq_some_iff.mp h).1, h]
  · rw [List.getElem?_set_ne (Ne.symm hk)]
noncomputable def cEu (i j : Nat) : Sv := Zda i j (Zb (Zd j) (Zb (e2 dMod (Zd i) (Zd j)) aNil))
theorem Zml {c : Tv} {i j : Nat} {M : Sto} (hij : i ≠ j) (hc : ∀ (ρ : Ro) (b : Nat), ρ[j]? = some (some (.int b)) → c ρ M = .ok (decide (b ≠ 0)) M) : ∀ (b a : Nat) (ρ : Ro), ρ[i]? = some (some (.int a)) → ρ[j]? = some (some (.int b)) →
    sWh c (cEu i j) ρ M = .nx ((ρ.set i (some (.int (Nat.gcd a b : Nat)))).set j (some (.int 0))) M := by
  intro b
  induction b using Nat.strongRecOn with
  | ind b ih =>
    intro a ρ hi hj
    by_cases h0 : b = 0
    · subst h0
      rw [Zee (M1 := M) (by rw [hc ρ 0 hj]; rfl), Nat.gcd_zero_right, Zfy hi, Zfy (x := some (.int 0)) hj]
    · have hl : i < ρ.length := (List.getElem?_eq_some_iff.mp hi).1
      have hl2 : j < ρ.length := (List.getElem?_eq_some_iff.mp hj).1
      have ht : c ρ M = .ok true M := by rw [hc ρ b hj, decide_eq_true h0]
      have hb : cEu i j ρ M = .nx ((ρ.set i (some (.int b))).set j (some (.int (a % b : Nat)))) M := by
        have hb0 : ¬ (b : Int) = 0 := by omega
        have hm : (a : Int).fmod (b : Int) = ((a % b : Nat) : Int) := by rw [Int.fmod_eq_emod_of_nonneg _ (by omega)]; rfl
        simp [cEu, Zda, Zb, aNil, Zd, e2, dMod, Out.bind, ZaF, hi, hj, hb0, hm, h0]
      have g1 : ((ρ.set i (some (.int b))).set j (some (.int (a % b : Nat))))[i]? = some (some (.int b)) := by
        rw [List.getElem?_set_ne (Ne.symm hij), List.getElem?_set_self hl]
      have g2 : ((ρ.set i (some (.int b))).set j (some (.int (a % b : Nat))))[j]? = some (some (.int (a % b : Nat))) := by
        rw [List.getElem?_set_self (by simpa using hl2)]
      have q := ih (a % b) (Nat.mod_lt _ (by omega)) b _ g1 g2
      rw [Zfr ht hb (by rw [q]; intro z; cases z), q]
      have eg : Nat.gcd b (a % b) = Nat.gcd a b := by rw [Nat.gcd_comm b, ← Nat.gcd_rec, Nat.gcd_comm]
      rw [eg, List.set_comm _ _ (Ne.symm hij), List.set_set, List.set_set]
theorem Zmm {M : Sto} {a b : Int} : eqF 12 M (.int a) (.int b) = some (a == b) := rfl
theorem ne0 {j : Nat} {M : Sto} (ρ : Ro) (b : Nat) (h : ρ[j]? = some (some (.int b))) : tv (e2 dNe (Zd j) (eC (.int 0))) ρ M = .ok (decide (b ≠ 0)) M := by
  simp [tv, e2, Zd, eC, h, Out.bind, dNe, Zmm]
  by_cases c : b = 0
  · subst c; rfl
  · have : ¬ (b : Int) = 0 := by omega
    simp [c, this]
theorem Zg8 (a : Int) : (if a < 0 then -a else a) = (a.natAbs : Int) := by split <;> omega
noncomputable def Zrz : Sv := (Zu (Zda 2 3 (Zb (Zh bAbs (Zb (Zd 0) aNil)) (Zb (Zh bAbs (Zb (Zd 1) aNil)) aNil)))
  (Zu (sWh (tv (e2 dNe (Zd 3) (eC (.int 0)))) (Zda 2 3 (Zb (Zd 3) (Zb (e2 dMod (Zd 2) (Zd 3)) aNil))))
  (ZM (Zd 2))))
noncomputable def FGcd : List D → Sto → Out D := fnF Zrz 2 2
theorem Zmn (a b : Int) (M : Sto) : FGcd [.int a, .int b] M = .ok (.int (Int.gcd a b : Nat)) M := by
  refine Zkl rfl ?_
  refine (Zg5 (ρ1 := [some (.int a), some (.int b), some (.int (a.natAbs : Nat)), some (.int (b.natAbs : Nat))]) (M1 := M) ?_).trans ?_
  · simp [fnF, Zu, sNil, ZM, Zl2, Zbe, sIf, ZH, Zda, Zid, ZaF, gNm, gNl, gCs, gTp, DL.e2, Zd, eC, Zal, Zbb, Zh, Zb, aNil, tv, ZfP, Zfl, Zcc, ZfQ, Zou, ZfR, eIf, Zfm, Zf9, Out.bind, dAdd, dSub, dMul, dDiv, dMod, dPow, dLt, dLe, dGt, dGe, dIx, atD, at0, at1, ix0, ix1, bLen, bAbs, bMax, bMin, bInt, bList, ZfT, Zbd, kd, ZcM, dIs, dIsNot, isP, Zg8]
  · have q := Zml (c := tv (e2 dNe (Zd 3) (eC (.int 0)))) (i := 2) (j := 3) (M := M) (by decide) ne0 b.natAbs a.natAbs [some (.int a), some (.int b), some (.int (a.natAbs : Nat)), some (.int (b.natAbs : Nat))] rfl rfl
    refine (Zg5 q).trans ?_
    rfl
end DL
end
section
set_option Elab.async false
set_option linter.all false
set_option maxRecDepth 100000
set_option maxHeartbeats 4000000
namespace DL
open PySem PySem.Spec PyProof.Rows L2
end DL
end
section
set_option Elab.async false
set_option linter.all false
set_option maxRecDepth 100000
set_option maxHeartbeats 4000000
namespace HD
open PySem PySem.W PyProof.Rows
noncomputable def Zn7 (thr : Thread → Bool) (stp : SharedT → Thread → Option (SharedT × Thread)) (n : Nat) : SharedT → Thread → Option SharedT :=
  Nat.rec (motive := fun _ => SharedT → Thread → Option SharedT) (fun _ _ => none) (fun _ ih s t => Bool.rec (motive := fun _ => Option SharedT) (Option.rec (motive := fun _ => Option SharedT) none (fun r => ih r.1 r.2) (stp s t)) (some s) (thr t)) n
noncomputable def Ziw (ok : Thread → Bool) (stp : SharedT → Thread → Option (SharedT × Thread)) (s : SharedT) (t : Thread) : Option (SharedT × Thread) := Bool.rec (motive := fun _ => Option (SharedT × Thread)) none (stp s t) (ok t)
section
variable {tb : String → Option Builtin} {p : Program} {w : World} {n₀ : Nat} {ann : Option Value}
theorem Zjg : ∀ {n : Nat} {s s' : SharedT} {t : Thread}, Zn7 through (Ziw (stepOk n₀ ann) (stepT (denote tb) p w)) n s t = some s' → topRun tb p w n₀ ann n s.abs t = some s'.abs
  | 0, s, s', t, h => by cases h
  | n + 1, s, s', t, h => by
    unfold topRun
    change Bool.rec (motive := fun _ => Option SharedT) (Option.rec (motive := fun _ => Option SharedT) none (fun r => Zn7 through (Ziw (stepOk n₀ ann) (stepT (denote tb) p w)) n r.1 r.2) (Ziw (stepOk n₀ ann) (stepT (denote tb) p w) s t)) (some s) (through t) = some s' at h
    cases ht : through t with
    | true =>
      rw [ht] at h
      have h' : some s = some s' := h
      cases h'
      rfl
    | false =>
      rw [ht] at h
      cases hk : stepOk n₀ ann t with
      | false =>
        have e : Ziw (stepOk n₀ ann) (stepT (denote tb) p w) s t = none := by unfold Ziw; rw [hk]
        rw [e] at h
        cases h
      | true =>
        have e : Ziw (stepOk n₀ ann) (stepT (denote tb) p w) s t = stepT (denote tb) p w s t := by unfold Ziw; rw [hk]
        rw [e] at h
        cases hs : stepT (denote tb) p w s t with
        | none => rw [hs] at h; cases h
        | some r =>
          obtain ⟨s2, t2⟩ := r
          rw [hs] at h
          have := stepT_spec hs
          rw [this]
          exact Zjg (n := n) h
end
noncomputable def T0 (w : World) (os : OsState) : SharedT :=
  ⟨[boot_o_0, boot_o_1, boot_o_2, boot_o_3, boot_o_4, boot_o_5, boot_o_6, boot_o_7, boot_o_8, boot_o_9, boot_o_10].foldl (fun (r : Nat × BT) o => (r.1 + 1, r.2.ins r.1 (o w.params))) (0, .nil) |>.2, 11, (boot_heap w.params).life, #[], boot_drawn, boot_toks, os⟩
theorem Zmo (w : World) (os : OsState) : (T0 w os).abs = ⟨boot_heap w.params, #[], boot_drawn, boot_toks, os⟩ := by kernel_rfl
theorem Zkm : Str.ofString "__annotations__" = ⟨#[95, 95, 97, 110, 110, 111, 116, 97, 116, 105, 111, 110, 115, 95, 95]⟩ := by decide +kernel
theorem Zg9 {p q : Program} {loose : List Str} {Xt : Shared → Bool} {α : Type} {Yf : Shared → α} {Ya : World → α} {N M : Nat} (e : opening p = plainProg p.main.scope.names) (hN : Nat.ble 600 N = true) (f : ∀ s, fenceModules? p s = some s) (le : Nat.ble M N = true)
    (ZoE : ∀ (w : World) (os : OsState), (Zn7 through (Ziw (stepOk 11 (some (.ref 6))) (stepT (denote treeTable) p w)) M (T0 w os) (topStub p)).map (fun s => ((staticsOk (importedModules p.main.body) (boot_heap w.params) s.abs.heap && namesBound p s.abs.heap && gensDone s.abs && laidKept (boot_heap w.params) s.abs.heap),
        openSeen q loose (importedModules p.main.body) Xt true s.abs, Yf s.abs)) = some (true, openGood q loose, Ya w)) : LeftO p q loose Xt Yf Ya N := fun w => by
  obtain ⟨⟨h, gs, d, k, os⟩, e1, e2⟩ := Option.map_eq_some_iff.mp (boot_open e hN f w)
  obtain ⟨rfl, rfl, rfl, rfl⟩ : h = boot_heap w.params ∧ gs = Array.mk [] ∧ d = boot_drawn ∧ k = boot_toks := by simpa using e2
  obtain ⟨s', r1, r2⟩ := Option.map_eq_some_iff.mp (ZoE w os)
  obtain ⟨l1, l2, l3⟩ : _ ∧ _ ∧ _ := by simpa only [Prod.mk.injEq] using r2
  have r := Zjg r1
  rw [Zmo] at r
  have r := topRun_mono (N - M) _ _ _ _ r
  rw [show M + (N - M) = N by have := Nat.le_of_ble_eq_true le; omega] at r
  have z1 : ((boot_heap w.params).isNs mainGlobals && (Array.mk [] : Array GenState).size == 0) = true := by kernel_rfl
  have z2 : (boot_heap w.params).objs.size = 11 := rfl
  have z3 : (boot_heap w.params).nsMap mainGlobals "__annotations__" = some (.ref 6) := by
    rw [Zkm]
    kernel_rfl
  have t : topFrom treeTable p w N ⟨boot_heap w.params, Array.mk [], boot_drawn, boot_toks, os⟩ = some s'.abs := by
    unfold topFrom
    dsimp only
    rw [z1, z2, z3, r]
    show (match staticsOk (importedModules p.main.body) (boot_heap w.params) s'.abs.heap && namesBound p s'.abs.heap && gensDone s'.abs && laidKept (boot_heap w.params) s'.abs.heap with | true => _ | false => _) = _
    rw [l1]
  unfold openEnds
  rw [e1]
  show (topFrom treeTable p w N _).map _ = _
  rw [t]
  exact congrArg some (Prod.ext l2 l3)
end HD
namespace HD
open PySem PySem.W
theorem ZoF : @stepOk = @PySem.W.Fast.tw6613529449190102663 := PySem.W.Fast.te6613529449190102663
theorem Zkn : @stepT = @PySem.W.Fast.tw10156331382660048174 := PySem.W.Fast.te10156331382660048174
theorem Zmp : @denote = @PySem.W.Fast.tw11892475500146522536 := PySem.W.Fast.te11892475500146522536
theorem Zmq : @treeTable = @PySem.W.Fast.tw14364793385576792824 := PySem.W.Fast.te14364793385576792824
theorem Zko : @openSeen = @PySem.W.Fast.tw4187177175401517315 := PySem.W.Fast.te4187177175401517315
theorem Zmr : @importedModules = @PySem.W.Fast.tw5923862056798008813 := PySem.W.Fast.te5923862056798008813
end HD
end
section
set_option Elab.async false
set_option linter.all false
set_option maxRecDepth 100000
set_option maxHeartbeats 4000000
namespace DL
open PySem PySem.Spec PyProof.Rows L2
noncomputable def wO {β : Type} (o : Out β) (Q : β → Sto → Prop) (E : Str → Sto → Prop) : Prop := match o with
  | .ok a M => Q a M
  | .exc c M => E c M
  | .bad => False
noncomputable def wS (f : Fl) (N : Ro → Sto → Prop) (R : D → Sto → Prop) (B C : Ro → Sto → Prop) (E : Str → Sto → Prop) : Prop := match f with
  | .nx ρ M => N ρ M
  | .ret d M => R d M
  | .brk ρ M => B ρ M
  | .cnt ρ M => C ρ M
  | .exc c M => E c M
  | .bad => False
noncomputable def Br (k : Bool) (A B : Prop) : Prop := (k = true → A) ∧ (k = false → B)
noncomputable def wG {β : Type} (o : Option β) (N : β → Prop) : Prop := match o with | some ρ => N ρ | none => False
noncomputable def wV (o : Option (Option D)) (Q : D → Prop) : Prop := match o with | some (some d) => Q d | _ => False
noncomputable def wI (x : D) (Q : Int → Prop) : Prop := match x with | .int i => Q i | _ => False
noncomputable def wB (x : D) (Q : Bool → Prop) : Prop := match x with | .bl i => Q i | _ => False
noncomputable def wR (x : D) (Q : Nat → Prop) : Prop := match x with | .ref i => Q i | _ => False
noncomputable def w1 (x : List D) (Q : D → Prop) : Prop := match x with | [v] => Q v | _ => False
noncomputable def w2 (x : List D) (Q : D → D → Prop) : Prop := match x with | [v, w] => Q v w | _ => False
noncomputable def wL (o : Option SO) (Q : List D → Prop) : Prop := match o with | some (.lst xs) => Q xs | none => False
section
variable {β : Type} {o o' : Option (Option D)} {x x' : D} {Q : D → Prop} {QI : Int → Prop} {QB : Bool → Prop} {QR : Nat → Prop} {QL : List D → Prop} {l l' : Option SO} {d : D} {i : Int} {k : Bool} {n : Nat} {xs : List D} {g g' : Option β} {QG : β → Prop} {y : β}
theorem ZrA : w1 [d] Q = Q d := rfl
theorem ZrB {Q2 : D → D → Prop} : w2 [d, x] Q2 = Q2 d x := rfl
theorem ZrC : wV (some (some d)) Q = Q d := rfl
theorem ZrD : wI (.int i) QI = QI i := rfl
theorem ZrE : wB (.bl k) QB = QB k := rfl
theorem ZrF : wR (.ref n) QR = QR n := rfl
theorem ZrG : wL (some (.lst xs)) QL = QL xs := rfl
theorem ZrH : wG (some y) QG = QG y := rfl
end
section
variable {β : Type} {Q : β → Sto → Prop} {E : Str → Sto → Prop} {N B C : Ro → Sto → Prop} {R : D → Sto → Prop} {ρ : Ro} {M : Sto} {A A' : Prop}
theorem Zs {d : β} : wO (.ok d M) Q E = Q d M := rfl
theorem Zms {c : Str} : wO (.exc c M : Out β) Q E = E c M := rfl
theorem Zn8 : Br true A A' = A := by simp [Br]
theorem Zqo : Br false A A' = A' := by simp [Br]
theorem brD {p : Prop} [Decidable p] (h1 : p → A) (h2 : ¬ p → A') : Br (decide p) A A' := ⟨fun h => h1 (of_decide_eq_true h), fun h => h2 (of_decide_eq_false h)⟩
theorem ZdE {o : Out β} {Q' : β → Sto → Prop} {E' : Str → Sto → Prop} (h : wO o Q E) (hq : ∀ d M, Q d M → Q' d M) (he : ∀ c M, E c M → E' c M) : wO o Q' E' := by
  cases o with
  | ok d M => exact hq d M h
  | exc c M => exact he c M h
  | bad => exact h
theorem Zha {o : Out β} (h : wO o Q (fun _ _ => False)) : ∃ d M', o = .ok d M' ∧ Q d M' := by
  cases o with
  | ok d M => exact ⟨d, M, rfl, h⟩
  | exc c M => exact h.elim
  | bad => exact h.elim
theorem Zx {γ : Type} {o : Out γ} {f : γ → Sto → Out β} : wO (o.bind f) Q E = wO o (fun x M1 => wO (f x M1) Q E) E := by cases o <;> rfl
end
section
variable {Q : D → Sto → Prop} {E : Str → Sto → Prop} {N B C : Ro → Sto → Prop} {R : D → Sto → Prop} {ρ : Ro} {M : Sto} {e f g : Ev} {fs : Av}
theorem ZoG {op : Bo} : wO (e2 op f g ρ M) Q E = wO (f ρ M) (fun x M1 => wO (g ρ M1) (fun y M2 => wO (op x y M2) Q E) E) E := by
  unfold e2
  rw [Zx]
  congr 1
  funext x M1
  rw [Zx]
theorem ZrI {i : Nat} : wO (Zd i ρ M) Q E = wV ρ[i]? (fun d => Q d M) := by
  unfold Zd
  cases ρ[i]? with
  | none => rfl
  | some o => cases o <;> rfl
theorem Zkp {F : List D → Sto → Out D} : wO (Zh F fs ρ M) Q E = wO (fs ρ M) (fun ds M1 => wO (F ds M1) Q E) E := Zx
theorem Zkq {Q : List D → Sto → Prop} : wO (Zb f fs ρ M) Q E = wO (f ρ M) (fun x M1 => wO (fs ρ M1) (fun xs M2 => Q (x :: xs) M2) E) E := by
  unfold Zb
  rw [Zx]
  congr 1
  funext x M1
  rw [Zx]
  congr 1
theorem Zmt : wO (Zal fs ρ M) Q E = wO (fs ρ M) (fun xs M1 => xs.length ≤ 1000 ∧ Q (.tup xs) M1) E := by
  unfold Zal
  rw [Zx]
  congr 1
  funext x M1
  by_cases h : x.length ≤ 1000
  · rw [if_pos h]; simp [h, wO]
  · rw [if_neg h]; simp [h, wO]
theorem Zmu : wO (Zbb fs ρ M) Q E = wO (fs ρ M) (fun xs M1 => xs.length ≤ 1000 ∧ Q (.ref M1.length) (M1 ++ [.lst xs])) E := by
  unfold Zbb
  rw [Zx]
  congr 1
  funext x M1
  by_cases h : x.length ≤ 1000
  · rw [if_pos h]; simp [h, wO]
  · rw [if_neg h]; simp [h, wO]
variable {t u : Tv}
theorem Zmv {Q : Bool → Sto → Prop} : wO (Zcc t ρ M) Q E = wO (t ρ M) (fun k M1 => Q (!k) M1) E := by
  unfold Zcc
  rw [Zx]
  congr 1
variable {a b : Sv}
theorem Zmw : wS (Zu a b ρ M) N R B C E = wS (a ρ M) (fun ρ1 M1 => wS (b ρ1 M1) N R B C E) R B C E := by
  unfold Zu
  cases a ρ M <;> rfl
theorem Zan {β : Type} {o : Out β} {k : β → Sto → Fl} : wS (ZaF o k) N R B C E = wO o (fun x M1 => wS (k x M1) N R B C E) E := by cases o <;> rfl
theorem Zmx : wS (ZM f ρ M) N R B C E = wO (f ρ M) R E := Zan
theorem Zkr : wS (Zbe f ρ M) N R B C E = wO (f ρ M) (fun _ M1 => N ρ M1) E := Zan
theorem Zmy {i : Nat} : wS (ZH (gNm i) f ρ M) N R B C E = wO (f ρ M) (fun d M1 => N (ρ.set i (some d)) M1) E := Zan
theorem Zks {gs : Tgs} : wS (ZH (gTp gs) f ρ M) N R B C E = wO (f ρ M) (fun d M1 => wG (gTp gs d ρ) (fun r => N r M1)) E := by
  unfold ZH
  rw [Zan]
  congr 1
  funext d M1
  cases gTp gs d ρ <;> rfl
theorem Zmz {i j : Nat} : wS (Zda i j fs ρ M) N R B C E = wO (fs ρ M) (fun ds M1 => w2 ds fun v w => N ((ρ.set i (some v)).set j (some w)) M1) E := by
  unfold Zda
  rw [Zan]
  congr 1
  funext ds M1
  rcases ds with _ | ⟨v, _ | ⟨w, _ | ⟨z, r⟩⟩⟩ <;> rfl
theorem ZmA {fo fi : Ev} : wS (Zid fo fi f ρ M) N R B C E = wO (f ρ M) (fun d M1 => wO (fo ρ M1) (fun o M2 => wO (fi ρ M2) (fun i M3 => wR o fun n => wI i fun k => wL M3[n]? fun xs => wG (ixN xs.length k) fun j => N ρ (M3.set n (.lst (xs.set j d)))) E) E) E := by
  unfold Zid
  rw [Zan]
  congr 1
  funext d M1
  rw [Zan]
  congr 1
  funext o M2
  rw [Zan]
  congr 1
  funext i M3
  cases o <;> cases i <;> try rfl
  rename_i n k
  cases e : M3[n]? with
  | none => simp only [e, wR, wI, wL, wS]
  | some s =>
    cases s with
    | lst xs =>
      cases e2 : ixN xs.length k <;> simp only [e, e2, wR, wI, wL, wG, wS]
theorem Zix {c : Str} : wS (ZaX c fs ρ M) N R B C E = wO (fs ρ M) (fun ds M1 => ds.length ≤ 1000 ∧ E c M1) E := by
  unfold ZaX
  rw [Zan]
  congr 1
  funext ds M1
  by_cases h : ds.length ≤ 1000
  · rw [if_pos h]; simp [h, wS]
  · rw [if_neg h]; simp [h, wS]
theorem wF {n k : Nat} {ds : List D} (hl : ds.length = n) : wO (fnF a n k ds M) Q E = wS (a (ds.map some ++ List.replicate k none) M) (fun _ M1 => Q .non M1) Q (fun _ _ => False) (fun _ _ => False) E := by
  unfold fnF
  rw [if_pos hl]
  cases a (ds.map some ++ List.replicate k none) M <;> rfl
theorem Zhb {o : Fl} {N' B' C' : Ro → Sto → Prop} {R' : D → Sto → Prop} {E' : Str → Sto → Prop} (h : wS o N R B C E) (hn : ∀ ρ M, N ρ M → N' ρ M) (hr : ∀ d M, R d M → R' d M) (hb : ∀ ρ M, B ρ M → B' ρ M) (hc : ∀ ρ M, C ρ M → C' ρ M) (he : ∀ c M, E c M → E' c M) : wS o N' R' B' C' E' := by
  cases o with
  | nx ρ M => exact hn _ _ h
  | ret ρ M => exact hr _ _ h
  | brk ρ M => exact hb _ _ h
  | cnt ρ M => exact hc _ _ h
  | exc ρ M => exact he _ _ h
  | bad => exact h
variable {tg : Tg} {bd : Sv} {fi : Ro → Sto → Out Src}
theorem Zhc (I : Nat → Ro → Sto → Prop) : ∀ (xs : List D) (k : Nat) (ρ : Ro) (M : Sto), I k ρ M → (∀ i ρ M (h : i < xs.length), I (k + i) ρ M → wG (tg xs[i] ρ) fun r => wS (bd r M) (I (k + i + 1)) R N (I (k + i + 1)) E) → (∀ ρ M, I (k + xs.length) ρ M → N ρ M) → wS (ZbU tg bd xs ρ M) N R B C E
  | [], k, ρ, M, h, _, hn => hn ρ M h
  | x :: xs, k, ρ, M, h, st, hn => by
    have s := st 0 ρ M (by simp) h
    unfold ZbU
    simp only [List.getElem_cons_zero, Nat.add_zero] at s
    cases e : tg x ρ with
    | none => rw [e] at s; exact s.elim
    | some ρ1 =>
      rw [e] at s
      simp only [wG] at s
      have rc : ∀ ρ2 M2, I (k + 1) ρ2 M2 → wS (ZbU tg bd xs ρ2 M2) N R B C E := fun ρ2 M2 h2 => Zhc I xs (k + 1) ρ2 M2 h2 (fun i ρ M hi hI => by
        have z := st (i + 1) ρ M (by simp; omega) (by rw [show k + (i + 1) = k + 1 + i by omega]; exact hI)
        simp only [List.getElem_cons_succ] at z
        rw [show k + (i + 1) + 1 = k + 1 + i + 1 by omega] at z
        exact z) (fun ρ M hI => hn ρ M (by rw [show k + (x :: xs).length = k + 1 + xs.length by simp; omega]; exact hI))
      cases eg : bd ρ1 M <;> rw [eg] at s <;> simp only [eg]
      · exact rc _ _ s
      · exact s
      · exact s
      · exact rc _ _ s
      · exact s
      · exact s
theorem Zkt : wS (ZaV tg fs bd ρ M) N R B C E = wO (fs ρ M) (fun ds M1 => w1 ds fun d => wI d fun j => (-(2 ^ 62) ≤ j ∧ j < 2 ^ 62) ∧ wS (ZbU tg bd (Zbw 0 j.toNat) ρ M1) N R B C E) E := by
  unfold ZaV
  rw [Zan]
  congr 1
  funext ds M1
  rcases ds with _ | ⟨v, _ | ⟨w, r⟩⟩
  · rfl
  · cases v <;> try rfl
    rename_i j
    by_cases h : -(2 ^ 62) ≤ j ∧ j < 2 ^ 62
    · simp only [w1, wI, eq_true h, true_and, if_true]
    · simp only [w1, wI, eq_false h, false_and, if_false]
      rfl
  · cases v <;> rfl
theorem Zc0 (I : Nat → Ro → Sto → Prop) {n : Nat} {lo : Int} (h0 : I 0 ρ M) (st : ∀ i ρ M, i < n → I i ρ M → wG (tg (.int (lo + i)) ρ) fun r => wS (bd r M) (I (i + 1)) R N (I (i + 1)) E) (hn : ∀ ρ M, I n ρ M → N ρ M) : wS (ZbU tg bd (Zbw lo n) ρ M) N R B C E := by
  have hl : (Zbw lo n).length = n := by simp [Zbw]
  refine Zhc I _ 0 ρ M h0 (fun i ρ M h hI => ?_) (fun ρ M hI => hn ρ M (by rw [hl, Nat.zero_add] at hI; exact hI))
  have : (Zbw lo n)[i] = .int (lo + i) := by simp [Zbw]
  rw [this]
  rw [Nat.zero_add] at *
  exact st i ρ M (by rw [hl] at h; exact h) hI
theorem ZmB : wS (Zk9 tg f bd ρ M) N R B C E = wO (f ρ M) (fun d M1 => wS (Zjb tg bd d ρ M1) N R B C E) E := Zan
theorem Zhd (I : Nat → Ro → Sto → Prop) {n : Nat} {xs : List D} : ∀ (f i : Nat) (ρ : Ro) (M : Sto), i + f = xs.length → I i ρ M → (∀ i ρ M, I i ρ M → M[n]? = some (.lst xs)) → (∀ i ρ M (h : i < xs.length), I i ρ M → wG (tg xs[i] ρ) fun r => wS (bd r M) (I (i + 1)) R N (I (i + 1)) E) → (∀ ρ M, I xs.length ρ M → N ρ M) → wS (ZgL tg bd n f i ρ M) N R B C E
  | f, i, ρ, M, e, h, hm, st, hn => by
    have hx := hm _ _ _ h
    unfold ZgL
    rw [hx]
    cases f with
    | zero =>
      have : xs[i]? = none := List.getElem?_eq_none (by omega)
      simp only [this]
      exact hn ρ M (by rw [show xs.length = i by omega]; exact h)
    | succ f =>
      have hi : i < xs.length := by omega
      have : xs[i]? = some xs[i] := List.getElem?_eq_getElem hi
      simp only [this]
      have s := st i ρ M hi h
      cases e : tg xs[i] ρ with
      | none => rw [e] at s; exact s.elim
      | some ρ1 =>
        rw [e] at s
        simp only [wG] at s
        have rc : ∀ ρ2 M2, I (i + 1) ρ2 M2 → wS (ZgL tg bd n f (i + 1) ρ2 M2) N R B C E := fun ρ2 M2 h2 => Zhd I f (i + 1) ρ2 M2 (by omega) h2 hm st hn
        cases eg : bd ρ1 M <;> rw [eg] at s <;> simp only [eg]
        · exact rc _ _ s
        · exact s
        · exact s
        · exact rc _ _ s
        · exact s
        · exact s
theorem Zhe (I : Nat → Ro → Sto → Prop) {n : Nat} {xs : List D} (hM : M[n]? = some (.lst xs)) (h0 : I 0 ρ M) (hm : ∀ i ρ M, I i ρ M → M[n]? = some (.lst xs)) (st : ∀ i ρ M (h : i < xs.length), I i ρ M → wG (tg xs[i] ρ) fun r => wS (bd r M) (I (i + 1)) R N (I (i + 1)) E) (hn : ∀ ρ M, I xs.length ρ M → N ρ M) : wS (Zjb tg bd (.ref n) ρ M) N R B C E := by
  show wS (match M[n]? with | some (.lst xs) => ZgL tg bd n xs.length 0 ρ M | none => .bad) N R B C E
  rw [hM]
  exact Zhd I xs.length 0 ρ M (by omega) h0 hm st hn
theorem Zku : wS (Zdc tg fi bd ρ M) N R B C E = wO (fi ρ M) (fun src M1 => wS (ZfX tg bd src (cnt src M1) 0 ρ M1) N R B C E) E := Zan
theorem Zjh (I : Nat → Ro → Sto → Prop) {src : Src} {xs : List D} : ∀ (f i : Nat) (ρ : Ro) (M : Sto), i ≤ xs.length → xs.length ≤ i + f → I i ρ M → (∀ i ρ M, i ≤ xs.length → I i ρ M → nxt src i M = some xs[i]?) → (∀ i ρ M (h : i < xs.length), I i ρ M → wG (tg xs[i] ρ) fun r => wS (bd r M) (I (i + 1)) R N (I (i + 1)) E) → (∀ ρ M, I xs.length ρ M → N ρ M) → wS (ZfX tg bd src f i ρ M) N R B C E
  | f, i, ρ, M, le, e, h, hm, st, hn => by
    have hx := hm _ _ _ le h
    unfold ZfX
    rw [hx]
    by_cases hi : i < xs.length
    · have : xs[i]? = some xs[i] := List.getElem?_eq_getElem hi
      simp only [this]
      cases f with
      | zero => omega
      | succ f =>
        have s := st i ρ M hi h
        simp only []
        cases e : tg xs[i] ρ with
        | none => rw [e] at s; exact s.elim
        | some ρ1 =>
          rw [e] at s
          simp only [wG] at s
          have rc : ∀ ρ2 M2, I (i + 1) ρ2 M2 → wS (ZfX tg bd src f (i + 1) ρ2 M2) N R B C E := fun ρ2 M2 h2 => Zjh I f (i + 1) ρ2 M2 (by omega) (by omega) h2 hm st hn
          cases eg : bd ρ1 M <;> rw [eg] at s <;> simp only [eg]
          · exact rc _ _ s
          · exact s
          · exact s
          · exact rc _ _ s
          · exact s
          · exact s
    · have : xs[i]? = none := List.getElem?_eq_none (by omega)
      simp only [this]
      exact hn ρ M (by rw [show xs.length = i by omega]; exact h)
theorem Ziy {c : Tv} (I : Nat → Ro → Sto → Prop) (st : ∀ n ρ M, I n ρ M → wO (c ρ M) (fun k M1 => Br k (wS (bd ρ M1) (fun ρ2 M2 => ∃ m, m < n ∧ I m ρ2 M2) R N (fun ρ2 M2 => ∃ m, m < n ∧ I m ρ2 M2) E) (N ρ M1)) E) : ∀ (n : Nat) (ρ : Ro) (M : Sto), I n ρ M → wS (sWh c bd ρ M) N R B C E := by
  intro n
  induction n using Nat.strongRecOn with
  | ind n ih =>
    intro ρ M h
    have s := st n ρ M h
    cases ec : c ρ M with
    | bad => rw [ec] at s; exact s.elim
    | exc x M1 => rw [ec] at s; rw [ZcC (n := 1) (o := .exc x M1) (by simp only [whN, ec])]; exact s
    | ok k M1 =>
      rw [ec] at s
      cases k with
      | false =>
        rw [Zs, Zqo] at s
        rw [Zee ec]
        exact s
      | true =>
        rw [Zs, Zn8] at s
        cases eg : bd ρ M1 with
        | nx ρ2 M2 =>
          rw [eg] at s
          obtain ⟨m, hm, hI⟩ := s
          have r := ih m hm ρ2 M2 hI
          rw [Zfr ec eg (by intro z; rw [z] at r; exact r)]
          exact r
        | cnt ρ2 M2 =>
          rw [eg] at s
          obtain ⟨m, hm, hI⟩ := s
          have r := ih m hm ρ2 M2 hI
          have nb : sWh c bd ρ2 M2 ≠ .bad := by intro z; rw [z] at r; exact r
          obtain ⟨j, ej⟩ := ZgK nb
          rw [ZcC (n := j + 1) (o := sWh c bd ρ2 M2) (by simp only [whN, ec, eg]; exact ej)]
          exact r
        | brk ρ2 M2 => rw [eg] at s; rw [ZcC (n := 1) (o := .nx ρ2 M2) (by simp only [whN, ec, eg])]; exact s
        | ret d M2 => rw [eg] at s; rw [ZcC (n := 1) (o := .ret d M2) (by simp only [whN, ec, eg])]; exact s
        | exc d M2 => rw [eg] at s; rw [ZcC (n := 1) (o := .exc d M2) (by simp only [whN, ec, eg])]; exact s
        | bad => rw [eg] at s; exact s.elim
theorem Zkv {fi : Ro → Sto → Out Src} {k : Nat} {fr : List Nat} {c : Tv} : wO (ZX fi k fr tg c f ρ M) Q E = wO (fi ρ M) (fun src M1 => wO (Zb7 src tg c f M1.length (cnt src M1) 0 (roB k fr ρ) (M1 ++ [.lst []])) (fun _ M2 => Q (.ref M1.length) M2) (fun _ _ => False)) E := by
  unfold ZX
  rw [Zx]
  congr 1
  funext src M1
  cases Zb7 src tg c f M1.length (cnt src M1) 0 (roB k fr ρ) (M1 ++ [.lst []]) <;> rfl
theorem Zhf (I : Nat → Ro → Sto → Prop) {src : Src} {xs : List D} {c : Tv} {m : Nat} {Q : Sto → Prop} : ∀ (fu i : Nat) (ρ : Ro) (M : Sto), i ≤ xs.length → xs.length ≤ i + fu → I i ρ M → (∀ i ρ M, i ≤ xs.length → I i ρ M → nxt src i M = some xs[i]?) →
    (∀ i ρ M (h : i < xs.length), I i ρ M → wG (tg xs[i] ρ) fun r => wO (c r M) (fun k M1 => Br k (wO (f r M1) (fun y M2 => wL M2[m]? fun ys => ys.length < 10000000 ∧ I (i + 1) r (M2.set m (.lst (ys ++ [y])))) (fun _ _ => False)) (I (i + 1) r M1)) (fun _ _ => False)) →
    (∀ ρ M, I xs.length ρ M → Q M) → wO (Zb7 src tg c f m fu i ρ M) (fun _ M2 => Q M2) (fun _ _ => False)
  | fu, i, ρ, M, le, e, h, hm, st, hn => by
    have hx := hm _ _ _ le h
    unfold Zb7
    rw [hx]
    by_cases hi : i < xs.length
    · have : xs[i]? = some xs[i] := List.getElem?_eq_getElem hi
      simp only [this]
      cases fu with
      | zero => omega
      | succ fu =>
        have s := st i ρ M hi h
        simp only []
        cases e : tg xs[i] ρ with
        | none => rw [e] at s; exact s.elim
        | some ρ1 =>
          rw [e] at s
          simp only [wG] at s
          have rc : ∀ ρ2 M2, I (i + 1) ρ2 M2 → wO (Zb7 src tg c f m fu (i + 1) ρ2 M2) (fun _ M2 => Q M2) (fun _ _ => False) := fun ρ2 M2 h2 => Zhf I fu (i + 1) ρ2 M2 (by omega) (by omega) h2 hm st hn
          cases ec : c ρ1 M with
          | bad => rw [ec] at s; exact s.elim
          | exc _ _ => rw [ec] at s; exact s.elim
          | ok k M1 =>
            rw [ec] at s
            rw [Zs] at s
            cases k with
            | false =>
              rw [Zqo] at s
              simp only [ec]
              exact rc _ _ s
            | true =>
              rw [Zn8] at s
              simp only [ec]
              cases ef : f ρ1 M1 with
              | bad => rw [ef] at s; exact s.elim
              | exc _ _ => rw [ef] at s; exact s.elim
              | ok y M2 =>
                rw [ef, Zs] at s
                simp only [ef]
                cases ey : M2[m]? with
                | none => rw [ey] at s; exact s.elim
                | some o =>
                  cases o with
                  | lst ys =>
                    rw [ey] at s
                    simp only [wL, ey] at s ⊢
                    rw [if_pos s.1]
                    exact rc _ _ s.2
    · have : xs[i]? = none := List.getElem?_eq_none (by omega)
      simp only [this]
      exact hn ρ M (by rw [show xs.length = i by omega]; exact h)
end
end DL
end
section
set_option Elab.async false
set_option linter.all false
set_option maxRecDepth 100000
set_option maxHeartbeats 4000000
namespace DL
open PySem PySem.Spec PyProof.Rows L2
section
variable {Q : D → Sto → Prop} {E : Str → Sto → Prop} {N B C : Ro → Sto → Prop} {R : D → Sto → Prop} {ρ : Ro} {M : Sto} {f : Ev} {fs : Av} {i j : Int} {n m k : Nat} {x y d : D} {xs ys ds : List D} {lo hi : Ro → Sto → Out (Option Int)}
theorem Zej (h : -(18446744073709551616) < i ∧ i < 18446744073709551616) : ZC i j := Zg7 h.1 h.2
theorem ZdF (h : -(18446744073709551616) < j ∧ j < 18446744073709551616) : ZC i j := Zg6 h.1 h.2
theorem Zek (h : 0 < j ∧ j < 18446744073709551616) : Za9 j := by
  refine ⟨by omega, ?_⟩
  have : j.natAbs.log2 < 64 := (Nat.log2_lt (by omega)).mpr (by omega)
  omega
theorem ZoH : wO (dAdd (.int i) (.int j) M) Q E = Q (.int (i + j)) M := rfl
theorem ZoI : wO (dSub (.int i) (.int j) M) Q E = Q (.int (i - j)) M := rfl
theorem Za1 (h : ZC i j) : wO (dMul (.int i) (.int j) M) Q E = Q (.int (i * j)) M := by
  show wO (if ZC i j then _ else _) Q E = _
  rw [if_pos h]; rfl
theorem ZoJ (h : -(18446744073709551616) < i ∧ i < 18446744073709551616) : wO (dMul (.int i) (.int j) M) Q E = Q (.int (i * j)) M := Za1 (Zej h)
theorem ZmC (h : -(18446744073709551616) < j ∧ j < 18446744073709551616) : wO (dMul (.int i) (.int j) M) Q E = Q (.int (i * j)) M := Za1 (ZdF h)
theorem ZoK (h : 0 < j ∧ j < 18446744073709551616) : wO (dDiv (.int i) (.int j) M) Q E = Q (.int (i / j)) M := by
  show wO (if Za9 j then _ else _) Q E = _
  rw [if_pos (Zek h), Int.fdiv_eq_ediv_of_nonneg _ (by omega)]; rfl
theorem ZoL (h : 0 < j) : wO (dMod (.int i) (.int j) M) Q E = Q (.int (i % j)) M := by
  show wO (if j ≠ 0 then _ else _) Q E = _
  rw [if_pos (by omega), Int.fmod_eq_emod_of_nonneg _ (by omega)]; rfl
theorem ZoM (h : 0 ≤ j ∧ j ≤ 1000000 ∧ i.natAbs < 18446744073709551616) : wO (dPow (.int i) (.int j) M) Q E = Q (.int (i ^ j.toNat)) M := by
  show wO (if 0 ≤ j ∧ j ≤ 1000000 ∧ i.natAbs < 2 ^ 64 then _ else _) Q E = _
  rw [if_pos ⟨h.1, h.2.1, by omega⟩]; rfl
theorem ZrJ : wO (dLt (.int i) (.int j) M) Q E = Q (.bl (decide (i < j))) M := rfl
theorem ZrK : wO (dLe (.int i) (.int j) M) Q E = Q (.bl (decide (i ≤ j))) M := rfl
theorem ZrL : wO (dGt (.int i) (.int j) M) Q E = Q (.bl (decide (j < i))) M := rfl
theorem ZrM : wO (dGe (.int i) (.int j) M) Q E = Q (.bl (decide (j ≤ i))) M := rfl
theorem ZoN : wO (dAdd (.ref n) (.ref m) M) Q E = wL M[n]? fun xs => wL M[m]? fun ys => xs.length + ys.length ≤ 10000000 ∧ Q (.ref M.length) (M ++ [.lst (xs ++ ys)]) := by
  show wO (match M[n]?, M[m]? with | some (.lst xs), some (.lst ys) => _ | _, _ => _) Q E = _
  cases e1 : M[n]? with
  | none => rfl
  | some o =>
    cases o with
    | lst xs =>
      cases e2 : M[m]? with
      | none => rfl
      | some p =>
        cases p with
        | lst ys =>
          by_cases h : xs.length + ys.length ≤ 10000000
          · simp [wL, h, wO]
          · simp [wL, h, wO]
theorem ZmD (h : xs.length + ys.length ≤ 100000 ∧ xs ≠ []) : wO (dAdd (.tup xs) (.tup ys) M) Q E = Q (.tup (xs ++ ys)) M := by
  show wO (if xs.length + ys.length ≤ 100000 ∧ xs ≠ [] then _ else _) Q E = _
  rw [if_pos h]; rfl
theorem ZrN : wO (dEq x y M) Q E = wG (eqF 12 M x y) fun b => Q (.bl b) M := by
  show wO (match eqF 12 M x y with | some b => _ | none => _) Q E = _
  cases eqF 12 M x y <;> rfl
theorem ZrO : wO (dNe x y M) Q E = wG (eqF 12 M x y) fun b => Q (.bl (!b)) M := by
  show wO (match eqF 12 M x y with | some b => _ | none => _) Q E = _
  cases eqF 12 M x y <;> rfl
theorem ZrP : wO (dIs x y M) Q E = wG (isP x y) fun b => Q (.bl b) M := by
  show wO (match isP x y with | some b => _ | none => _) Q E = _
  cases isP x y <;> rfl
theorem ZoO : wO (dIsNot x y M) Q E = wG (isP x y) fun b => Q (.bl (!b)) M := by
  show wO (match isP x y with | some b => _ | none => _) Q E = _
  cases isP x y <;> rfl
theorem Zkw : wO (atD xs i M) Q E = wG (atI xs i) fun d => Q d M := by
  unfold atD
  cases atI xs i <;> rfl
theorem ZoP : wO (dIx (.tup xs) (.int i) M) Q E = wG (atI xs i) fun d => Q d M := Zkw
theorem ZoQ : wO (dIx (.rol xs) (.int i) M) Q E = wG (atI xs i) fun d => Q d M := Zkw
theorem ZoR : wO (dIx (.ref n) (.int i) M) Q E = wL M[n]? fun xs => wG (atI xs i) fun d => Q d M := by
  show wO (match M[n]? with | some (.lst xs) => atD xs i M | _ => .bad) Q E = _
  cases e1 : M[n]? with
  | none => rfl
  | some o => cases o with | lst xs => exact Zkw
theorem ZmE : wO (bLen [.ref n] M) Q E = wL M[n]? fun xs => Q (.int xs.length) M := by
  show wO (match (match M[n]? with | some (.lst xs) => some xs | _ => none) with | some xs => _ | none => _) Q E = _
  cases e1 : M[n]? with
  | none => rfl
  | some o => cases o with | lst xs => rfl
theorem ZmF : wO (bLen [.tup xs] M) Q E = Q (.int xs.length) M := rfl
theorem ZmG : wO (bLen [.rol xs] M) Q E = Q (.int xs.length) M := rfl
theorem ZoS : wO (bAbs [.int i] M) Q E = Q (.int (i.natAbs : Int)) M := by rw [← Zg8]; rfl
theorem ZoT : wO (bMax [.int i, .int j] M) Q E = Q (.int (max i j)) M := by
  have : max i j = if j > i then j else i := by split <;> omega
  rw [this]; rfl
theorem ZoU : wO (bMin [.int i, .int j] M) Q E = Q (.int (min i j)) M := by
  have : min i j = if j < i then j else i := by split <;> omega
  rw [this]; rfl
theorem ZmH {k : Bool} : wO (bInt [.bl k] M) Q E = Q (.int (if k then 1 else 0)) M := rfl
theorem ZmI : wO (bInt [.int i] M) Q E = Q (.int i) M := rfl
theorem Zkx : wO (bList [.ref n] M) Q E = wL M[n]? fun xs => Q (.ref M.length) (M ++ [.lst xs]) := by
  show wO (match (match M[n]? with | some (.lst xs) => some xs | _ => none) with | some xs => _ | none => _) Q E = _
  cases e1 : M[n]? with
  | none => rfl
  | some o => cases o with | lst xs => rfl
theorem Zky : wO (bList [.tup xs] M) Q E = Q (.ref M.length) (M ++ [.lst xs]) := rfl
theorem ZoV : wO (bAll [.ref n] M) Q E = wL M[n]? fun xs => wG (ZW xs) fun bs => Q (.bl (bs.all id)) M := by
  show wO (match M[n]? with | some (.lst xs) => (match ZW xs with | some bs => Out.ok (.bl (bs.all id)) M | none => .bad) | none => .bad) Q E = _
  cases e1 : M[n]? with
  | none => rfl
  | some o =>
    cases o with
    | lst xs =>
      show wO (match ZW xs with | some bs => Out.ok (.bl (bs.all id)) M | none => .bad) Q E = wG (ZW xs) _
      cases ZW xs <;> rfl
theorem ZmJ {g : List Int → Option Int} : wO (ZcZ g [.ref n] M) Q E = wL M[n]? fun xs => wG (ZbV xs) fun ns => wG (g ns) fun i => Q (.int i) M := by
  show wO (match (match M[n]? with | some (.lst xs) => some xs | _ => none) with | some xs => (match ZbV xs with | some ns => (match g ns with | some i => Out.ok (.int i) M | none => .bad) | none => .bad) | none => .bad) Q E = _
  cases e1 : M[n]? with
  | none => rfl
  | some o =>
    cases o with
    | lst xs =>
      show wO (match ZbV xs with | some ns => (match g ns with | some i => Out.ok (.int i) M | none => .bad) | none => .bad) Q E = wG (ZbV xs) _
      cases ZbV xs with
      | none => rfl
      | some ns =>
        show wO (match g ns with | some i => Out.ok (.int i) M | none => .bad) Q E = wG (g ns) _
        cases g ns <;> rfl
theorem ZrQ {g : Me} {fo : Ev} : wO (ZeM g fo fs ρ M) Q E = wO (fo ρ M) (fun x M1 => Zkf x M1 = true ∧ wO (fs ρ M1) (fun ds M2 => wO (g x ds M2) Q E) E) E := by
  unfold ZeM
  rw [Zx]
  congr 1
  funext x M1
  by_cases h : Zkf x M1 = true
  · simp only [h, if_true, true_and]; rw [Zx]
  · simp [h, wO]
theorem ZmK : Zkf (.ref n) M = M[n]?.isSome := rfl
theorem ZoW : wO (mApp (.ref n) [d] M) Q E = wL M[n]? fun xs => xs.length < 10000000 ∧ Q .non (M.set n (.lst (xs ++ [d]))) := by
  show wO (match M[n]? with | some (.lst xs) => if xs.length < 10000000 then _ else _ | none => _) Q E = _
  cases e1 : M[n]? with
  | none => rfl
  | some o =>
    cases o with
    | lst xs =>
      by_cases h : xs.length < 10000000
      · simp [wL, h, wO]
      · simp [wL, h, wO]
theorem ZoX : wO (Zql (.ref n) [] M) Q E = wL M[n]? fun xs => Q .non (M.set n (.lst [])) := by
  show wO (match M[n]? with | some (.lst xs) => _ | none => _) Q E = _
  cases e1 : M[n]? with
  | none => rfl
  | some o => cases o with | lst xs => rfl
theorem ZoY : wO (Zqm (.ref n) [.ref m] M) Q E = wL M[n]? fun xs => wL M[m]? fun ys => xs.length + ys.length ≤ 10000000 ∧ Q .non (M.set n (.lst (xs ++ ys))) := by
  show wO (match M[n]?, M[m]? with | some (.lst xs), some (.lst ys) => if xs.length + ys.length ≤ 10000000 then _ else _ | _, _ => _) Q E = _
  cases e1 : M[n]? with
  | none => rfl
  | some o =>
    cases o with
    | lst xs =>
      cases e2 : M[m]? with
      | none => rfl
      | some p =>
        cases p with
        | lst ys =>
          by_cases h : xs.length + ys.length ≤ 10000000
          · simp [wL, h, wO]
          · simp [wL, h, wO]
noncomputable def slR (x : D) (l u : Option Int) (M3 : Sto) : Out D := match x with
  | .ref n => (match M3[n]? with | some (.lst xs) => .ok (.ref M3.length) (M3 ++ [.lst (ZeN xs l u)]) | none => .bad)
  | .rol xs => .ok (.ref M3.length) (M3 ++ [.lst (ZeN xs l u)])
  | .tup xs => if HT.sIx xs.length 0 l = 0 ∧ HT.sIx xs.length xs.length u = xs.length then .bad else .ok (.tup (ZeN xs l u)) M3
  | _ => .bad
theorem ZoZ : wO (eSl f lo hi ρ M) Q E = wO (f ρ M) (fun x M1 => wO (lo ρ M1) (fun l M2 => wO (hi ρ M2) (fun u M3 => wO (slR x l u M3) Q E) E) E) E := by
  unfold eSl
  rw [Zx]
  congr 1
  funext x M1
  rw [Zx]
  congr 1
  funext l M2
  rw [Zx]
  congr 1
theorem Zo0 {l u : Option Int} : wO (slR (.ref n) l u M) Q E = wL M[n]? fun xs => Q (.ref M.length) (M ++ [.lst (ZeN xs l u)]) := by
  unfold slR
  cases e1 : M[n]? with
  | none => simp only [e1]; rfl
  | some o => cases o with | lst xs => simp only [e1]; rfl
theorem Zo1 {Q : Option Int → Sto → Prop} : wO (oSo f ρ M) Q E = wO (f ρ M) (fun x M1 => wI x fun i => Q (some i) M1) E := by
  unfold oSo
  rw [Zx]
  congr 1
  funext x M1
  cases x <;> rfl
theorem ZmL (h : 0 ≤ i) : ZeN xs none (some i) = xs.take i.toNat := by
  unfold ZeN
  simp only [HT.sIx]
  rw [if_neg (by omega), List.drop_zero, Nat.sub_zero]
  by_cases c : i.toNat ≤ xs.length
  · rw [Nat.min_eq_left c]
  · rw [Nat.min_eq_right (by omega), List.take_of_length_le (Nat.le_refl _), List.take_of_length_le (by omega)]
theorem Ziz (h : 0 ≤ i) : ZeN xs (some i) none = xs.drop i.toNat := by
  unfold ZeN
  simp only [HT.sIx]
  rw [if_neg (by omega)]
  by_cases c : i.toNat ≤ xs.length
  · rw [Nat.min_eq_left c, List.take_of_length_le (by simp)]
  · rw [Nat.min_eq_right (by omega), List.drop_eq_nil_of_le (Nat.le_refl _), List.drop_eq_nil_of_le (by omega), List.take_nil]
theorem Zhg {L : Sto} : (M ++ L)[M.length]? = L[0]? := by rw [List.getElem?_append_right (Nat.le_refl _), Nat.sub_self]
theorem ZmM {L : Sto} {i : Nat} : (M ++ L)[M.length + i]? = L[i]? := by rw [List.getElem?_append_right (by omega)]; congr 1; omega
theorem Zdd {L : Sto} (h : n < M.length) : (M ++ L)[n]? = M[n]? := List.getElem?_append_left h
theorem Zji {L : Sto} {o : SO} : (M ++ L).set M.length o = M ++ L.set 0 o := by rw [List.set_append_right _ _ (Nat.le_refl _), Nat.sub_self]
theorem Zo2 {L : Sto} {o : SO} {i : Nat} : (M ++ L).set (M.length + i) o = M ++ L.set i o := by rw [List.set_append_right _ _ (by omega)]; congr 2; omega
theorem ZmN {o : SO} (h : k ≠ n) : (M.set n o)[k]? = M[k]? := List.getElem?_set_ne (Ne.symm h)
theorem Zjj {o : SO} (h : n < M.length) : (M.set n o)[n]? = some o := List.getElem?_set_self h
theorem Zt {o : SO} (h : M[n]? = some o) : n < M.length := (List.getElem?_eq_some_iff.mp h).1
noncomputable abbrev pr (x y : Int) : D := .tup [.int x, .int y]
noncomputable def prs (rs : List (Int × Int)) : List D := rs.map fun p => pr p.1 p.2
noncomputable def nts (ns : List Int) : List D := ns.map D.int
theorem ZZ {rs : List (Int × Int)} : (prs rs).length = rs.length := List.length_map _
theorem Zcp {rs : List Int} : (nts rs).length = rs.length := List.length_map _
theorem Zkz {a b : List (Int × Int)} : prs a ++ prs b = prs (a ++ b) := (List.map_append).symm
theorem ZkA {a b : List Int} : nts a ++ nts b = nts (a ++ b) := (List.map_append).symm
theorem ZiA {a : List (Int × Int)} : (prs a).take n = prs (a.take n) := List.map_take.symm
theorem ZiB {a : List (Int × Int)} : (prs a).drop n = prs (a.drop n) := List.map_drop.symm
theorem ZiC {a : List Int} : (nts a).take n = nts (a.take n) := List.map_take.symm
theorem ZiD {a : List Int} : (nts a).drop n = nts (a.drop n) := List.map_drop.symm
theorem ZiE {a b : Int} {r : List (Int × Int)} : pr a b :: prs r = prs ((a, b) :: r) := rfl
theorem ZkB {a : List (Int × Int)} {b c : Int} : (prs a).set n (pr b c) = prs (a.set n (b, c)) := by unfold prs; rw [List.map_set]
theorem ZkC {a : List Int} {b : Int} : (nts a).set n (.int b) = nts (a.set n b) := by unfold nts; rw [List.map_set]
noncomputable def cy (rs : List (Int × Int)) (i : Int) : Int × Int := rs.getD (i % rs.length).toNat (0, 0)
noncomputable def cn (rs : List Int) (i : Int) : Int := rs.getD (i % rs.length).toNat 0
theorem Zhh {i : Int} {n : Nat} (h : -(n : Int) ≤ i ∧ i < n) : ixN n i = some (i % n).toNat := by
  unfold ixN
  by_cases c : 0 ≤ i
  · rw [if_pos c, if_pos h.2, Int.emod_eq_of_lt c h.2]
  · rw [if_neg c, if_pos h.1]
    have : i % n = i + n := by
      rw [← Int.add_emod_right, Int.emod_eq_of_lt (by omega) (by omega)]
    rw [this]
theorem Zdp {rs : List (Int × Int)} (h : -(rs.length : Int) ≤ i ∧ i < rs.length) : atI (prs rs) i = some (pr (cy rs i).1 (cy rs i).2) := by
  unfold atI
  rw [ZZ, Zhh h]
  have hp : (i % rs.length).toNat < rs.length := by
    have := Int.emod_lt_of_pos i (show (0 : Int) < rs.length by omega)
    have := Int.emod_nonneg i (show (rs.length : Int) ≠ 0 by omega)
    omega
  simp [prs, cy, List.getElem?_eq_getElem hp]
theorem Zhi {rs : List Int} (h : -(rs.length : Int) ≤ i ∧ i < rs.length) : atI (nts rs) i = some (.int (cn rs i)) := by
  unfold atI
  rw [Zcp, Zhh h]
  have hp : (i % rs.length).toNat < rs.length := by
    have := Int.emod_lt_of_pos i (show (0 : Int) < rs.length by omega)
    have := Int.emod_nonneg i (show (rs.length : Int) ≠ 0 by omega)
    omega
  simp [nts, cn, List.getElem?_eq_getElem hp]
theorem ZcD {rs : List (Int × Int)} : cy rs (i % rs.length) = cy rs i := by unfold cy; rw [Int.emod_emod_of_dvd _ (Int.dvd_refl _)]
theorem Zhj {rs : List Int} : cn rs (i % rs.length) = cn rs i := by unfold cn; rw [Int.emod_emod_of_dvd _ (Int.dvd_refl _)]
theorem Zhk {rs : List (Int × Int)} : cy rs (i + rs.length) = cy rs i := by unfold cy; rw [Int.add_emod_right]
theorem Zc1 {rs : List (Int × Int)} : cy rs (i - rs.length) = cy rs i := by unfold cy; rw [Int.sub_emod_right]
theorem Zc2 {rs : List (Int × Int)} {k : Nat} (h : k < rs.length) : cy rs k = rs[k] := by
  unfold cy
  rw [Int.emod_eq_of_lt (by omega) (by omega)]
  simp [List.getElem?_eq_getElem h]
theorem Zfz {rs : List Int} {k : Nat} (h : k < rs.length) : cn rs k = rs[k] := by
  unfold cn
  rw [Int.emod_eq_of_lt (by omega) (by omega)]
  simp [List.getElem?_eq_getElem h]
theorem Zo3 {a b : Int} : eqF (n + 1) M (.int a) (.int b) = some (decide (a = b)) := rfl
theorem ZrR {a b : Bool} : eqF (n + 1) M (.bl a) (.bl b) = some (a == b) := rfl
theorem Zqp {a b c d : Int} : eqF (n + 2) M (pr a b) (pr c d) = some (decide ((a, b) = (c, d))) := by
  show some ((a == c) && ((b == d) && true)) = _
  congr 1
  rw [Bool.eq_iff_iff]
  simp
theorem Zjk {rs ss : List (Int × Int)} : eqL (eqF (n + 2) M) (prs rs) (prs ss) = some (decide (rs = ss)) := by
  induction rs generalizing ss with
  | nil => cases ss <;> rfl
  | cons r rs ih =>
    cases ss with
    | nil => rfl
    | cons s ss =>
      show (match eqF (n + 2) M (pr r.1 r.2) (pr s.1 s.2) with | some a => (match eqL _ (prs rs) (prs ss) with | some b => some (a && b) | none => none) | none => none) = _
      rw [Zqp, ih]
      simp only []
      congr 1
      rw [Bool.eq_iff_iff]
      obtain ⟨r1, r2⟩ := r
      obtain ⟨s1, s2⟩ := s
      simp
theorem ZmO {xs ys : List D} (h1 : M[n]? = some (.lst xs)) (h2 : M[m]? = some (.lst ys)) : eqF (k + 1) M (.ref n) (.ref m) = if xs.length = ys.length then eqL (eqF k M) xs ys else some false := by
  show (match kd M (.ref n), kd M (.ref m) with | some a, some b => eqK (eqF k M) a b | _, _ => none) = _
  have e1 : kd M (.ref n) = some (.lst xs) := by show (match M[n]? with | some (.lst xs) => some (Kd.lst xs) | _ => none) = _; rw [h1]
  have e2 : kd M (.ref m) = some (.lst ys) := by show (match M[m]? with | some (.lst xs) => some (Kd.lst xs) | _ => none) = _; rw [h2]
  rw [e1, e2]
  rfl
theorem ZmP : Zbd M (.int i) = some "int" := rfl
theorem Zo4 {b : Bool} : Zbd M (.bl b) = some "bool" := rfl
theorem ZmQ : Zbd M (.tup xs) = some "tuple" := rfl
theorem ZmR : Zbd M .non = some "NoneType" := rfl
theorem ZmS (h : M[n]? = some (.lst xs)) : Zbd M (.ref n) = some "list" := by
  show (match (match M[n]? with | some (.lst xs) => some (Kd.lst xs) | _ => none) with | some .non => _ | some (.bl _) => _ | some (.int _) => _ | some (.str _) => _ | some (.tup _) => _ | some (.lst _) => _ | none => _) = _
  rw [h]
end
end DL
end
section
set_option Elab.async false
set_option linter.all false
set_option maxRecDepth 100000
set_option maxHeartbeats 4000000
namespace DL
open PySem PySem.Spec PyProof.Rows L2
section
variable {Q : D → Sto → Prop} {E : Str → Sto → Prop} {N B C : Ro → Sto → Prop} {R : D → Sto → Prop} {ρ : Ro} {M : Sto} {f : Ev} {fs : Av} {i j : Int} {n m k : Nat} {x y z d : D} {xs ys ds : List D} {QS : Src → Sto → Prop} {tg : Tg} {bd : Sv} {b : Bool}
theorem ZkD : wS (ZgM tg fs bd ρ M) N R B C E = wO (fs ρ M) (fun ds M1 => w2 ds fun x y => wI x fun i => wI y fun j => (-(2 ^ 62) ≤ i ∧ i < 2 ^ 62 ∧ -(2 ^ 62) ≤ j ∧ j < 2 ^ 62) ∧ wS (ZbU tg bd (Zbw i (j - i).toNat) ρ M1) N R B C E) E := by
  unfold ZgM
  rw [Zan]
  congr 1
  funext ds M1
  rcases ds with _ | ⟨v, _ | ⟨w, _ | ⟨w', r⟩⟩⟩
  · rfl
  · cases v <;> rfl
  · cases v <;> try rfl
    cases w <;> try rfl
    rename_i i j
    by_cases h : -(2 ^ 62) ≤ i ∧ i < 2 ^ 62 ∧ -(2 ^ 62) ≤ j ∧ j < 2 ^ 62
    · simp only [w2, wI, eq_true h, true_and, if_true]
    · simp only [w2, wI, eq_false h, false_and, if_false]
      rfl
  · cases v <;> cases w <;> rfl
theorem ZrS : wO (iR1 fs ρ M) QS E = wO (fs ρ M) (fun ds M1 => w1 ds fun d => wI d fun j => (-(2 ^ 62) ≤ j ∧ j < 2 ^ 62) ∧ QS (.pur (Zbw 0 j.toNat)) M1) E := by
  unfold iR1
  rw [Zx]
  congr 1
  funext ds M1
  rcases ds with _ | ⟨v, _ | ⟨w, r⟩⟩
  · rfl
  · cases v <;> try rfl
    rename_i j
    by_cases h : -(2 ^ 62) ≤ j ∧ j < 2 ^ 62
    · simp only [w1, wI, eq_true h, true_and, if_true, Zs]
    · simp only [w1, wI, eq_false h, false_and, if_false]
      rfl
  · cases v <;> rfl
theorem ZrT : wO (iR2 fs ρ M) QS E = wO (fs ρ M) (fun ds M1 => w2 ds fun x y => wI x fun i => wI y fun j => (-(2 ^ 62) ≤ i ∧ i < 2 ^ 62 ∧ -(2 ^ 62) ≤ j ∧ j < 2 ^ 62) ∧ QS (.pur (Zbw i (j - i).toNat)) M1) E := by
  unfold iR2
  rw [Zx]
  congr 1
  funext ds M1
  rcases ds with _ | ⟨v, _ | ⟨w, _ | ⟨w', r⟩⟩⟩
  · rfl
  · cases v <;> rfl
  · cases v <;> try rfl
    cases w <;> try rfl
    rename_i i j
    by_cases h : -(2 ^ 62) ≤ i ∧ i < 2 ^ 62 ∧ -(2 ^ 62) ≤ j ∧ j < 2 ^ 62
    · simp only [w2, wI, eq_true h, true_and, if_true, Zs]
    · simp only [w2, wI, eq_false h, false_and, if_false]
      rfl
  · cases v <;> cases w <;> rfl
theorem ZrU : wO (iEn fs ρ M) QS E = wO (fs ρ M) (fun ds M1 => w1 ds fun d => wR d fun n => QS (.enu n) M1) E := by
  unfold iEn
  rw [Zx]
  congr 1
  funext ds M1
  rcases ds with _ | ⟨v, _ | ⟨w, r⟩⟩ <;> try rfl
  · cases v <;> rfl
  · cases v <;> rfl
theorem ZrV : wO (iZp fs ρ M) QS E = wO (fs ρ M) (fun ds M1 => w2 ds fun x y => wR x fun n => wR y fun m => QS (.zip n m) M1) E := by
  unfold iZp
  rw [Zx]
  congr 1
  funext ds M1
  rcases ds with _ | ⟨v, _ | ⟨w, _ | ⟨w', r⟩⟩⟩ <;> try rfl
  · cases v <;> rfl
  · cases v <;> cases w <;> rfl
  · cases v <;> cases w <;> rfl
theorem ZrW : wO (iRv fs ρ M) QS E = wO (fs ρ M) (fun ds M1 => w1 ds fun d => wR d fun n => wL M1[n]? fun xs => QS (.rev n xs.length) M1) E := by
  unfold iRv
  rw [Zx]
  congr 1
  funext ds M1
  rcases ds with _ | ⟨v, _ | ⟨w, r⟩⟩ <;> try rfl
  · cases v <;> try rfl
    rename_i n
    cases e : M1[n]? with
    | none => simp only [e]; simp only [w1, wR, e]; rfl
    | some o => cases o with | lst xs => simp only [e, w1, wR]; rfl
  · cases v <;> rfl
noncomputable def ZmT (Q : D → Sto → Prop) (ρ : Ro) (M : Sto) : Prop := Q .non M
theorem wF1 : wO (fnF bd 1 k [x] M) Q E = wS (bd (some x :: List.replicate k none) M) (ZmT Q) Q (fun _ _ => False) (fun _ _ => False) E := wF rfl
theorem wF2 : wO (fnF bd 2 k [x, y] M) Q E = wS (bd (some x :: some y :: List.replicate k none) M) (ZmT Q) Q (fun _ _ => False) (fun _ _ => False) E := wF rfl
theorem wF3 : wO (fnF bd 3 k [x, y, z] M) Q E = wS (bd (some x :: some y :: some z :: List.replicate k none) M) (ZmT Q) Q (fun _ _ => False) (fun _ _ => False) E := wF rfl
theorem wF4 : wO (fnF bd 4 k [x, y, z, d] M) Q E = wS (bd (some x :: some y :: some z :: some d :: List.replicate k none) M) (ZmT Q) Q (fun _ _ => False) (fun _ _ => False) E := wF rfl
theorem ZiF {a : List (Int × Int)} {b c : Int} : prs a ++ [pr b c] = prs (a ++ [(b, c)]) := by simp [prs]
theorem ZiG {a : List Int} {b : Int} : nts a ++ [D.int b] = nts (a ++ [b]) := by simp [nts]
theorem ZiH {b : Int} {r : List Int} : D.int b :: nts r = nts (b :: r) := rfl
theorem Zo5 : isP .non .non = some true := rfl
theorem Zo6 : isP (.int i) .non = some false := rfl
theorem Zo7 : isP (.tup xs) .non = some false := rfl
theorem Zo8 : isP (.ref n) .non = some false := rfl
theorem Zhl (h : M[n]? = some (.lst xs)) : cnt (.sto n) M = xs.length := by show (match M[n]? with | some (.lst xs) => xs.length | none => 0) = _; rw [h]
theorem ZkE (h : M[n]? = some (.lst xs)) : cnt (.enu n) M = xs.length := by show (match M[n]? with | some (.lst xs) => xs.length | none => 0) = _; rw [h]
theorem ZkF (h : M[n]? = some (.lst xs)) : cnt (.zip n m) M = xs.length := by show (match M[n]? with | some (.lst xs) => xs.length | none => 0) = _; rw [h]
theorem at2 {r : List D} : atI (x :: y :: z :: r) 2 = some z := by
  show (ixN (r.length + 3) 2).bind _ = _
  unfold ixN
  rw [if_pos (by decide), if_pos (by omega)]
  rfl
theorem at3 {r : List D} : atI (x :: y :: z :: d :: r) 3 = some d := by
  show (ixN (r.length + 4) 3).bind _ = _
  unfold ixN
  rw [if_pos (by decide), if_pos (by omega)]
  rfl
theorem ZmU : ZcM "int" "int" = true := rfl
theorem ZmV : ZcM "int" "bool" = false := rfl
theorem ZmW : ZcM "bool" "int" = true := rfl
theorem ZmX : ZcM "bool" "bool" = true := rfl
theorem ZmY : ZcM "tuple" "tuple" = true := rfl
theorem ZmZ : ZcM "list" "list" = true := rfl
theorem Zm0 : ZcM "tuple" "int" = false := rfl
theorem Zm1 : ZcM "tuple" "list" = false := rfl
theorem Zm2 : ZcM "list" "tuple" = false := rfl
theorem Zm3 : ZcM "list" "int" = false := rfl
theorem Zm4 : ZcM "NoneType" "tuple" = false := rfl
theorem Zm5 : ZcM "NoneType" "list" = false := rfl
theorem Zm6 (h : M[n]? = some (.lst xs)) : nxt (.enu n) k M = some ((xs[k]?).map fun d => D.tup [.int k, d]) := by
  show (match M[n]? with | some (.lst xs) => (match xs[k]? with | some x => some (some (D.tup [.int k, x])) | none => some none) | none => none) = _
  rw [h]
  simp only []
  cases xs[k]? <;> rfl
theorem Zjl (h : M[n]? = some (.lst xs)) : nxt (.sto n) k M = some xs[k]? := by
  show (match M[n]? with | some (.lst xs) => some xs[k]? | none => none) = _
  rw [h]
section
variable {g : Jv} {bb : Nat}
end
theorem Zhm (I : Nat → Ro → Sto → Prop) (hM : M[n]? = some (.lst xs)) (h0 : I 0 ρ M) (hm : ∀ i ρ M, I i ρ M → M[n]? = some (.lst xs)) (st : ∀ (i : Nat) ρ M (h : i < xs.length), I i ρ M → wG (tg (.tup [.int i, xs[i]]) ρ) fun r => wS (bd r M) (I (i + 1)) R N (I (i + 1)) E) (hn : ∀ ρ M, I xs.length ρ M → N ρ M) : wS (ZfX tg bd (.enu n) (cnt (.enu n) M) 0 ρ M) N R B C E := by
  rw [ZkE hM]
  have hl : (xs.mapIdx fun (k : Nat) d => D.tup [.int k, d]).length = xs.length := by simp
  refine Zjh I (xs := xs.mapIdx fun (k : Nat) d => D.tup [.int k, d]) _ 0 ρ M (by simp) (by simp) h0 (fun i ρ M _ hI => ?_) (fun i ρ M h hI => ?_) (fun ρ M hI => hn ρ M (by rw [hl] at hI; exact hI))
  · rw [Zm6 (hm _ _ _ hI), List.getElem?_mapIdx]
  · rw [List.getElem_mapIdx]
    exact st i ρ M (by rw [hl] at h; exact h) hI
theorem Zm7 (h : M[n]? = some (.lst xs)) (h' : M[m]? = some (.lst ys)) : nxt (.zip n m) k M = some ((List.zipWith (fun a b => D.tup [a, b]) xs ys)[k]?) := by
  show (match M[n]?, M[m]? with | some (.lst xs), some (.lst ys) => (match xs[k]?, ys[k]? with | some x, some y => some (some (D.tup [x, y])) | _, _ => some none) | _, _ => none) = _
  rw [h, h', List.getElem?_zipWith]
  simp only []
  cases xs[k]? <;> cases ys[k]? <;> rfl
theorem ZkG {src : Src} (Inv : Ro → Prop) (F : Nat → D) {Q : Sto → Prop} (hl : xs.length < 10000000) (hcnt : xs.length ≤ cnt src M) (h0 : Inv ρ) (hs : ∀ (L : Sto) (i : Nat), i ≤ xs.length → nxt src i (M ++ L) = some xs[i]?)
    (st : ∀ (i : Nat) (h : i < xs.length) (ρ : Ro) (L : Sto), Inv ρ → wG (tg xs[i] ρ) fun r => Inv r ∧ wO (f r (M ++ L)) (fun y M2 => y = F i ∧ M2 = M ++ L) (fun _ _ => False)) (hq : Q (M ++ [.lst ((List.range xs.length).map F)])) :
    wO (Zb7 src tg (fun _ M => .ok true M) f M.length (cnt src M) 0 ρ (M ++ [.lst []])) (fun _ M2 => Q M2) (fun _ _ => False) := by
  refine Zhf (fun i ρ M' => Inv ρ ∧ M' = M ++ [.lst ((List.range i).map F)]) (xs := xs) _ 0 ρ _ (by simp) (by omega) ⟨h0, rfl⟩ (fun i ρ M' hi hI => by rw [hI.2]; exact hs _ i hi) (fun i ρ M' h hI => ?_) (fun ρ M' hI => by rw [hI.2]; exact hq)
  obtain ⟨hI, rfl⟩ := hI
  have s := st i h ρ [.lst ((List.range i).map F)] hI
  cases e : tg xs[i] ρ with
  | none => rw [e] at s; exact s.elim
  | some r =>
    rw [e] at s
    obtain ⟨hr, s⟩ := s
    show Br true _ _
    rw [Zn8]
    refine ZdE s (fun y M2 ⟨h1, h2⟩ => ?_) (fun _ _ z => z)
    subst h1 h2
    rw [Zhg]
    refine ⟨by simp; omega, hr, ?_⟩
    rw [Zji, List.range_succ, List.map_append]
    rfl
theorem ZeS {lo : Int} : (Zbw lo n).length = n := by simp [Zbw]
theorem ZkH {lo : Int} (h : k < (Zbw lo n).length) : (Zbw lo n)[k] = .int (lo + k) := by simp [Zbw]
theorem ZdG {F : Nat → Int} : (List.range n).map (fun i => D.int (F i)) = nts ((List.range n).map F) := by simp [nts]
end
end DL
end
section
set_option Elab.async false
set_option linter.all false
set_option maxRecDepth 100000
set_option maxHeartbeats 4000000
namespace DL
open PySem PySem.Spec PyProof.Rows L2
section
variable {Q : D → Sto → Prop} {E : Str → Sto → Prop} {N B C : Ro → Sto → Prop} {R : D → Sto → Prop} {ρ : Ro} {M : Sto} {f g : Ev} {fs : Av} {i j : Int} {n m k : Nat} {x y z d : D} {xs ys ds : List D} {QL : List D → Sto → Prop} {QB : Bool → Sto → Prop} {QS : Src → Sto → Prop} {tg : Tg} {a bd : Sv} {b : Bool} {t u : Tv}
noncomputable def kU {β γ : Type} (u : β → Sto → Out γ) (Q : γ → Sto → Prop) (E : Str → Sto → Prop) (x : β) (M : Sto) : Prop := wO (u x M) Q E
noncomputable def kQ {β γ : Type} (Q : γ → Sto → Prop) (c : β → γ) (M : Sto) (x : β) : Prop := Q (c x) M
noncomputable def kB2 (op : Bo) (x : D) (Q : D → Sto → Prop) (E : Str → Sto → Prop) (y : D) (M : Sto) : Prop := wO (op x y M) Q E
noncomputable def kB1 (op : Bo) (g : Ev) (ρ : Ro) (Q : D → Sto → Prop) (E : Str → Sto → Prop) (x : D) (M : Sto) : Prop := wO (g ρ M) (kB2 op x Q E) E
theorem ZrX {op : Bo} : wO (e2 op f g ρ M) Q E = wO (f ρ M) (kB1 op g ρ Q E) E := ZoG
theorem y_c  : wO (eC d ρ M) Q E = Q d M := rfl
theorem y_v  : wO (Zd k ρ M) Q E = wV ρ[k]? (kQ Q id M) := ZrI
theorem Zm8 {F : List D → Sto → Out D} : wO (Zh F fs ρ M) Q E = wO (fs ρ M) (kU F Q E) E := Zkp
noncomputable def kA2 (x : D) (Q : List D → Sto → Prop) (xs : List D) (M : Sto) : Prop := Q (x :: xs) M
noncomputable def kA1 (fs : Av) (ρ : Ro) (Q : List D → Sto → Prop) (E : Str → Sto → Prop) (x : D) (M : Sto) : Prop := wO (fs ρ M) (kA2 x Q) E
theorem Zo9  : wO (aNil ρ M) QL E = QL [] M := rfl
theorem Zm9  : wO (Zb f fs ρ M) QL E = wO (f ρ M) (kA1 fs ρ QL E) E := Zkq
noncomputable def kTu (Q : D → Sto → Prop) (xs : List D) (M : Sto) : Prop := xs.length ≤ 1000 ∧ Q (.tup xs) M
noncomputable def kLs (Q : D → Sto → Prop) (xs : List D) (M : Sto) : Prop := xs.length ≤ 1000 ∧ Q (.ref M.length) (M ++ [.lst xs])
theorem Zpa  : wO (Zal fs ρ M) Q E = wO (fs ρ M) (kTu Q) E := Zmt
theorem Zpb  : wO (Zbb fs ρ M) Q E = wO (fs ρ M) (kLs Q) E := Zmu
noncomputable def Zqq (x : D) (M : Sto) : Out D := match x with | .int i => .ok (.int (-i)) M | _ => .bad
theorem Zpc  : wO (Zfm f ρ M) Q E = wO (f ρ M) (kU Zqq Q E) E := by unfold Zfm; exact Zx
theorem Zna  : wO (Zqq (.int i) M) Q E = Q (.int (-i)) M := rfl
noncomputable def Zpd (T : String) (x : D) (M : Sto) : Out D := match Zbd M x with | some t => .ok (.bl (ZcM t T)) M | none => .bad
theorem Zpe {T : String} : wO (Zf9 T f ρ M) Q E = wO (f ρ M) (kU (Zpd T) Q E) E := by unfold Zf9; exact Zx
noncomputable def kTy (T : String) (Q : D → Sto → Prop) (M : Sto) (t : String) : Prop := Q (.bl (ZcM t T)) M
theorem Znb {T : String} : wO (Zpd T x M) Q E = wG (Zbd M x) (kTy T Q M) := by unfold Zpd; cases Zbd M x <;> rfl
noncomputable def tC (b : Bool) : Tv := fun _ M => .ok b M
noncomputable def BrO {β : Type} (k : Bool) (f g : Ro → Sto → Out β) (ρ : Ro) (M : Sto) (Q : β → Sto → Prop) (E : Str → Sto → Prop) : Prop := wO ((if k = true then f else g) ρ M) Q E
theorem ZrY {β : Type} {fO gO : Ro → Sto → Out β} {QO : β → Sto → Prop} : BrO true fO gO ρ M QO E = wO (fO ρ M) QO E := rfl
theorem ZrZ {β : Type} {fO gO : Ro → Sto → Out β} {QO : β → Sto → Prop} : BrO false fO gO ρ M QO E = wO (gO ρ M) QO E := rfl
theorem brO {β : Type} {fO gO : Ro → Sto → Out β} {QO : β → Sto → Prop} {p : Prop} [Decidable p] (h1 : p → wO (fO ρ M) QO E) (h2 : ¬ p → wO (gO ρ M) QO E) : BrO (decide p) fO gO ρ M QO E := by
  by_cases h : p
  · rw [decide_eq_true h]; exact h1 h
  · rw [decide_eq_false h]; exact h2 h
theorem Zr0 {β : Type} {fO gO : Ro → Sto → Out β} {QO : β → Sto → Prop} (P : β → Sto → Prop) (h : BrO b fO gO ρ M P E) (hn : ∀ x M, P x M → QO x M) : BrO b fO gO ρ M QO E := by
  cases b
  · exact ZdE h hn (fun _ _ z => z)
  · exact ZdE h hn (fun _ _ z => z)
noncomputable def kIf (f g : Ev) (ρ : Ro) (Q : D → Sto → Prop) (E : Str → Sto → Prop) (k : Bool) (M : Sto) : Prop := BrO k f g ρ M Q E
theorem Zr1  : wO (eIf t f g ρ M) Q E = wO (t ρ M) (kIf f g ρ Q E) E := by unfold eIf; rw [Zx]; congr 1; funext k M1; cases k <;> rfl
noncomputable def Zqr (g : Ev) (ρ : Ro) (x : D) (M : Sto) : Out D := match x with | .bl k => if k = true then g ρ M else .ok (.bl false) M | _ => .bad
noncomputable def oOr (g : Ev) (ρ : Ro) (x : D) (M : Sto) : Out D := match x with | .bl k => if k = true then .ok (.bl true) M else g ρ M | _ => .bad
noncomputable def Zqs (x : D) (M : Sto) : Out D := match x with | .bl k => .ok (.bl (!k)) M | _ => .bad
noncomputable def oTv (x : D) (M : Sto) : Out Bool := match x with | .bl k => .ok k M | _ => .bad
theorem Zpf  : wO (ZfQ f g ρ M) Q E = wO (f ρ M) (kU (Zqr g ρ) Q E) E := by unfold ZfQ; exact Zx
theorem Zr2  : wO (Zou f g ρ M) Q E = wO (f ρ M) (kU (oOr g ρ) Q E) E := by unfold Zou; exact Zx
theorem Zpg  : wO (ZfR f ρ M) Q E = wO (f ρ M) (kU Zqs Q E) E := by unfold ZfR; exact Zx
theorem Znc  : wO (Zqr g ρ (.bl b) M) Q E = BrO b g (eC (.bl false)) ρ M Q E := by cases b <;> rfl
theorem Zph  : wO (oOr g ρ (.bl b) M) Q E = BrO b (eC (.bl true)) g ρ M Q E := by cases b <;> rfl
theorem Znd  : wO (Zqs (.bl b) M) Q E = Q (.bl (!b)) M := rfl
theorem Zr3  : wO (tv f ρ M) QB E = wO (f ρ M) (kU oTv QB E) E := by unfold tv; exact Zx
theorem Zpi  : wO (oTv (.bl b) M) QB E = QB b M := rfl
noncomputable def kTA (u : Tv) (ρ : Ro) (Q : Bool → Sto → Prop) (E : Str → Sto → Prop) (k : Bool) (M : Sto) : Prop := BrO k u (tC false) ρ M Q E
noncomputable def kTO (u : Tv) (ρ : Ro) (Q : Bool → Sto → Prop) (E : Str → Sto → Prop) (k : Bool) (M : Sto) : Prop := BrO k (tC true) u ρ M Q E
noncomputable def kTN (Q : Bool → Sto → Prop) (k : Bool) (M : Sto) : Prop := Q (!k) M
theorem Zr4  : wO (tC b ρ M) QB E = QB b M := rfl
theorem Zne  : wO (ZfP t u ρ M) QB E = wO (t ρ M) (kTA u ρ QB E) E := by unfold ZfP; rw [Zx]; congr 1; funext k M1; cases k <;> rfl
theorem Zpj  : wO (Zfl t u ρ M) QB E = wO (t ρ M) (kTO u ρ QB E) E := by unfold Zfl; rw [Zx]; congr 1; funext k M1; cases k <;> rfl
theorem Znf  : wO (Zcc t ρ M) QB E = wO (t ρ M) (kTN QB) E := Zmv
noncomputable def kSq (b : Sv) (N : Ro → Sto → Prop) (R : D → Sto → Prop) (B C : Ro → Sto → Prop) (E : Str → Sto → Prop) (ρ : Ro) (M : Sto) : Prop := wS (b ρ M) N R B C E
theorem Zpk  : wS (Zu a bd ρ M) N R B C E = wS (a ρ M) (kSq bd N R B C E) R B C E := Zmw
theorem Zng  : wS (sNil ρ M) N R B C E = N ρ M := rfl
theorem Zpl  : wS (Zrr ρ M) N R B C E = B ρ M := rfl
theorem Zpm  : wS (Zrs ρ M) N R B C E = C ρ M := rfl
theorem Zpn  : wS (ZM f ρ M) N R B C E = wO (f ρ M) R E := Zmx
theorem Znh  : wS (Zl2 ρ M) N R B C E = R .non M := rfl
noncomputable def kDr (ρ : Ro) (N : Ro → Sto → Prop) (d : D) (M : Sto) : Prop := N ρ M
theorem Zni  : wS (Zbe f ρ M) N R B C E = wO (f ρ M) (kDr ρ N) E := Zkr
noncomputable def BrS (k : Bool) (a b : Sv) (ρ : Ro) (M : Sto) (N : Ro → Sto → Prop) (R : D → Sto → Prop) (B C : Ro → Sto → Prop) (E : Str → Sto → Prop) : Prop := wS ((if k = true then a else b) ρ M) N R B C E
theorem Zr5  : BrS true a bd ρ M N R B C E = wS (a ρ M) N R B C E := rfl
theorem Zr6  : BrS false a bd ρ M N R B C E = wS (bd ρ M) N R B C E := rfl
theorem brS {p : Prop} [Decidable p] (h1 : p → wS (a ρ M) N R B C E) (h2 : ¬ p → wS (bd ρ M) N R B C E) : BrS (decide p) a bd ρ M N R B C E := by
  by_cases h : p
  · rw [decide_eq_true h]; exact h1 h
  · rw [decide_eq_false h]; exact h2 h
theorem Zr7 (h1 : b = true → wS (a ρ M) N R B C E) (h2 : b = false → wS (bd ρ M) N R B C E) : BrS b a bd ρ M N R B C E := by
  cases b
  · exact h2 rfl
  · exact h1 rfl
theorem Zqt (P : Ro → Sto → Prop) (h : BrS b a bd ρ M P R B C E) (hn : ∀ ρ M, P ρ M → N ρ M) : BrS b a bd ρ M N R B C E := by
  cases b
  · exact Zhb h hn (fun _ _ z => z) (fun _ _ z => z) (fun _ _ z => z) (fun _ _ z => z)
  · exact Zhb h hn (fun _ _ z => z) (fun _ _ z => z) (fun _ _ z => z) (fun _ _ z => z)
noncomputable def kSi (a b : Sv) (ρ : Ro) (N : Ro → Sto → Prop) (R : D → Sto → Prop) (B C : Ro → Sto → Prop) (E : Str → Sto → Prop) (k : Bool) (M : Sto) : Prop := BrS k a b ρ M N R B C E
theorem Zpo  : wS (sIf t a bd ρ M) N R B C E = wO (t ρ M) (kSi a bd ρ N R B C E) E := by unfold sIf; rw [Zan]; congr 1; funext k M1; cases k <;> rfl
noncomputable def kAs (i : Nat) (ρ : Ro) (N : Ro → Sto → Prop) (d : D) (M : Sto) : Prop := N (ρ.set i (some d)) M
theorem Zpp  : wS (ZH (gNm k) f ρ M) N R B C E = wO (f ρ M) (kAs k ρ N) E := Zmy
noncomputable def kAt (gs : Tgs) (ρ : Ro) (N : Ro → Sto → Prop) (d : D) (M : Sto) : Prop := wG (gTp gs d ρ) (kQ N id M)
theorem Znj {gs : Tgs} : wS (ZH (gTp gs) f ρ M) N R B C E = wO (f ρ M) (kAt gs ρ N) E := Zks
noncomputable def Zqu (i j : Nat) (ρ : Ro) (N : Ro → Sto → Prop) (M : Sto) (v w : D) : Prop := N ((ρ.set i (some v)).set j (some w)) M
noncomputable def kPa (i j : Nat) (ρ : Ro) (N : Ro → Sto → Prop) (ds : List D) (M : Sto) : Prop := w2 ds (Zqu i j ρ N M)
theorem Zpq  : wS (Zda k m fs ρ M) N R B C E = wO (fs ρ M) (kPa k m ρ N) E := Zmz
noncomputable def Zqv (n : Nat) (d : D) (xs : List D) (ρ : Ro) (N : Ro → Sto → Prop) (M : Sto) (j : Nat) : Prop := N ρ (M.set n (.lst (xs.set j d)))
noncomputable def Zqw (n : Nat) (k : Int) (d : D) (ρ : Ro) (N : Ro → Sto → Prop) (M : Sto) (xs : List D) : Prop := wG (ixN xs.length k) (Zqv n d xs ρ N M)
noncomputable def Zqx (n : Nat) (d : D) (ρ : Ro) (N : Ro → Sto → Prop) (M : Sto) (k : Int) : Prop := wL M[n]? (Zqw n k d ρ N M)
noncomputable def Zqy (i : D) (d : D) (ρ : Ro) (N : Ro → Sto → Prop) (M : Sto) (n : Nat) : Prop := wI i (Zqx n d ρ N M)
noncomputable def Zqz (o : D) (d : D) (ρ : Ro) (N : Ro → Sto → Prop) (i : D) (M : Sto) : Prop := wR o (Zqy i d ρ N M)
noncomputable def ZqA (fi : Ev) (d : D) (ρ : Ro) (N : Ro → Sto → Prop) (E : Str → Sto → Prop) (o : D) (M : Sto) : Prop := wO (fi ρ M) (Zqz o d ρ N) E
noncomputable def kPu (fo fi : Ev) (ρ : Ro) (N : Ro → Sto → Prop) (E : Str → Sto → Prop) (d : D) (M : Sto) : Prop := wO (fo ρ M) (ZqA fi d ρ N E) E
theorem Zpr {fo fi : Ev} : wS (Zid fo fi f ρ M) N R B C E = wO (f ρ M) (kPu fo fi ρ N E) E := ZmA
noncomputable def kRa (c : Str) (E : Str → Sto → Prop) (ds : List D) (M : Sto) : Prop := ds.length ≤ 1000 ∧ E c M
theorem ZkI {c : Str} : wS (ZaX c fs ρ M) N R B C E = wO (fs ρ M) (kRa c E) E := Zix
noncomputable def ZqB (tg : Tg) (bd : Sv) (ρ : Ro) (N : Ro → Sto → Prop) (R : D → Sto → Prop) (B C : Ro → Sto → Prop) (E : Str → Sto → Prop) (M : Sto) (j : Int) : Prop := (-(2 ^ 62) ≤ j ∧ j < 2 ^ 62) ∧ wS (ZbU tg bd (Zbw 0 j.toNat) ρ M) N R B C E
noncomputable def ZqC (tg : Tg) (bd : Sv) (ρ : Ro) (N : Ro → Sto → Prop) (R : D → Sto → Prop) (B C : Ro → Sto → Prop) (E : Str → Sto → Prop) (M : Sto) (d : D) : Prop := wI d (ZqB tg bd ρ N R B C E M)
noncomputable def kR1 (tg : Tg) (bd : Sv) (ρ : Ro) (N : Ro → Sto → Prop) (R : D → Sto → Prop) (B C : Ro → Sto → Prop) (E : Str → Sto → Prop) (ds : List D) (M : Sto) : Prop := w1 ds (ZqC tg bd ρ N R B C E M)
theorem Znk  : wS (ZaV tg fs bd ρ M) N R B C E = wO (fs ρ M) (kR1 tg bd ρ N R B C E) E := Zkt
noncomputable def ZqD (tg : Tg) (bd : Sv) (ρ : Ro) (N : Ro → Sto → Prop) (R : D → Sto → Prop) (B C : Ro → Sto → Prop) (E : Str → Sto → Prop) (M : Sto) (i : Int) (j : Int) : Prop := (-(2 ^ 62) ≤ i ∧ i < 2 ^ 62 ∧ -(2 ^ 62) ≤ j ∧ j < 2 ^ 62) ∧ wS (ZbU tg bd (Zbw i (j - i).toNat) ρ M) N R B C E
noncomputable def ZqE (tg : Tg) (bd : Sv) (ρ : Ro) (N : Ro → Sto → Prop) (R : D → Sto → Prop) (B C : Ro → Sto → Prop) (E : Str → Sto → Prop) (M : Sto) (y : D) (i : Int) : Prop := wI y (ZqD tg bd ρ N R B C E M i)
noncomputable def ZqF (tg : Tg) (bd : Sv) (ρ : Ro) (N : Ro → Sto → Prop) (R : D → Sto → Prop) (B C : Ro → Sto → Prop) (E : Str → Sto → Prop) (M : Sto) (x y : D) : Prop := wI x (ZqE tg bd ρ N R B C E M y)
noncomputable def kR2 (tg : Tg) (bd : Sv) (ρ : Ro) (N : Ro → Sto → Prop) (R : D → Sto → Prop) (B C : Ro → Sto → Prop) (E : Str → Sto → Prop) (ds : List D) (M : Sto) : Prop := w2 ds (ZqF tg bd ρ N R B C E M)
theorem Znl  : wS (ZgM tg fs bd ρ M) N R B C E = wO (fs ρ M) (kR2 tg bd ρ N R B C E) E := ZkD
noncomputable def kFo (tg : Tg) (bd : Sv) (ρ : Ro) (N : Ro → Sto → Prop) (R : D → Sto → Prop) (B C : Ro → Sto → Prop) (E : Str → Sto → Prop) (d : D) (M : Sto) : Prop := wS (Zjb tg bd d ρ M) N R B C E
theorem Zps  : wS (Zk9 tg f bd ρ M) N R B C E = wO (f ρ M) (kFo tg bd ρ N R B C E) E := ZmB
theorem Znm  : wS (Zjb tg bd (.tup xs) ρ M) N R B C E = wS (ZbU tg bd xs ρ M) N R B C E := rfl
theorem Znn  : wS (Zjb tg bd (.rol xs) ρ M) N R B C E = wS (ZbU tg bd xs ρ M) N R B C E := rfl
noncomputable def kFs (tg : Tg) (bd : Sv) (ρ : Ro) (N : Ro → Sto → Prop) (R : D → Sto → Prop) (B C : Ro → Sto → Prop) (E : Str → Sto → Prop) (src : Src) (M : Sto) : Prop := wS (ZfX tg bd src (cnt src M) 0 ρ M) N R B C E
theorem Zno {fi : Ro → Sto → Out Src} : wS (Zdc tg fi bd ρ M) N R B C E = wO (fi ρ M) (kFs tg bd ρ N R B C E) E := Zku
noncomputable def hT (cs : List Str) (gh : Sv) (i : Nat) (ρ : Ro) (c : Str) (M : Sto) : Fl := if cs.contains c = true then (match gh ((List.replicate ρ.length none).set i (some (.err c []))) M with | .ret d M2 => .ret d M2 | .nx _ M2 => .nx (List.replicate ρ.length none) M2 | _ => .bad) else .bad
noncomputable def kTr (cs : List Str) (gh : Sv) (i : Nat) (ρ : Ro) (N : Ro → Sto → Prop) (R : D → Sto → Prop) (B C : Ro → Sto → Prop) (E : Str → Sto → Prop) (c : Str) (M : Sto) : Prop := cs.contains c = true ∧ wS (gh ((List.replicate ρ.length none).set i (some (.err c []))) M) (fun _ M2 => N (List.replicate ρ.length none) M2) R (fun _ _ => False) (fun _ _ => False) (fun _ _ => False)
theorem Zpt {cs : List Str} {gh : Sv} : wS (Zqk a cs k gh ρ M) N R B C E = wS (a ρ M) N R B C (kTr cs gh k ρ N R B C E) := by
  unfold Zqk
  cases e : a ρ M <;> try rfl
  rename_i c M1
  show wS (if cs.contains c = true then _ else _) N R B C E = kTr cs gh k ρ N R B C E c M1
  unfold kTr
  by_cases h : cs.contains c = true
  · rw [if_pos h]
    simp only [h, true_and]
    cases gh ((List.replicate ρ.length none).set k (some (.err c []))) M1 <;> rfl
  · rw [if_neg h]
    simp only [h, Bool.false_eq_true, false_and]
    rfl
noncomputable def Zr8 (Q : D → Sto → Prop) (M1 : Sto) (u : Unit) (M : Sto) : Prop := Q (.ref M1.length) M
noncomputable def kCo (tg : Tg) (c : Tv) (f : Ev) (k : Nat) (fr : List Nat) (ρ : Ro) (Q : D → Sto → Prop) (src : Src) (M : Sto) : Prop := wO (Zb7 src tg c f M.length (cnt src M) 0 (roB k fr ρ) (M ++ [.lst []])) (Zr8 Q M) (fun _ _ => False)
theorem Znp {fi : Ro → Sto → Out Src} {fr : List Nat} : wO (ZX fi k fr tg t f ρ M) Q E = wO (fi ρ M) (kCo tg t f k fr ρ Q) E := Zkv
noncomputable def ZqG (QS : Src → Sto → Prop) (M : Sto) (j : Int) : Prop := (-(2 ^ 62) ≤ j ∧ j < 2 ^ 62) ∧ QS (.pur (Zbw 0 j.toNat)) M
noncomputable def ZqH (QS : Src → Sto → Prop) (M : Sto) (d : D) : Prop := wI d (ZqG QS M)
noncomputable def kS1 (QS : Src → Sto → Prop) (ds : List D) (M : Sto) : Prop := w1 ds (ZqH QS M)
theorem Zr9  : wO (iR1 fs ρ M) QS E = wO (fs ρ M) (kS1 QS) E := ZrS
noncomputable def ZqI (QS : Src → Sto → Prop) (M : Sto) (i : Int) (j : Int) : Prop := (-(2 ^ 62) ≤ i ∧ i < 2 ^ 62 ∧ -(2 ^ 62) ≤ j ∧ j < 2 ^ 62) ∧ QS (.pur (Zbw i (j - i).toNat)) M
noncomputable def ZqJ (QS : Src → Sto → Prop) (M : Sto) (y : D) (i : Int) : Prop := wI y (ZqI QS M i)
noncomputable def ZqK (QS : Src → Sto → Prop) (M : Sto) (x y : D) : Prop := wI x (ZqJ QS M y)
noncomputable def kS2 (QS : Src → Sto → Prop) (ds : List D) (M : Sto) : Prop := w2 ds (ZqK QS M)
theorem Zsa  : wO (iR2 fs ρ M) QS E = wO (fs ρ M) (kS2 QS) E := ZrT
noncomputable def oSq (d : D) (M : Sto) : Out Src := match d with | .tup ds => .ok (.pur ds) M | .rol ds => .ok (.pur ds) M | .ref n => .ok (.sto n) M | _ => .bad
theorem Zsb  : wO (iSq f ρ M) QS E = wO (f ρ M) (kU oSq QS E) E := by unfold iSq; exact Zx
theorem Zpu  : wO (oSq (.tup xs) M) QS E = QS (.pur xs) M := rfl
theorem Zpv  : wO (oSq (.rol xs) M) QS E = QS (.pur xs) M := rfl
theorem Zpw  : wO (oSq (.ref n) M) QS E = QS (.sto n) M := rfl
noncomputable def ZqL (QS : Src → Sto → Prop) (M : Sto) (d : D) : Prop := wR d (kQ QS .enu M)
noncomputable def kEn (QS : Src → Sto → Prop) (ds : List D) (M : Sto) : Prop := w1 ds (ZqL QS M)
theorem Zsc  : wO (iEn fs ρ M) QS E = wO (fs ρ M) (kEn QS) E := ZrU
noncomputable def ZqM (QS : Src → Sto → Prop) (M : Sto) (y : D) (n : Nat) : Prop := wR y (kQ QS (.zip n) M)
noncomputable def ZqN (QS : Src → Sto → Prop) (M : Sto) (x y : D) : Prop := wR x (ZqM QS M y)
noncomputable def kZp (QS : Src → Sto → Prop) (ds : List D) (M : Sto) : Prop := w2 ds (ZqN QS M)
theorem Zsd  : wO (iZp fs ρ M) QS E = wO (fs ρ M) (kZp QS) E := ZrV
noncomputable def ZqO (QS : Src → Sto → Prop) (n : Nat) (M : Sto) (xs : List D) : Prop := QS (.rev n xs.length) M
noncomputable def ZqP (QS : Src → Sto → Prop) (M : Sto) (n : Nat) : Prop := wL M[n]? (ZqO QS n M)
noncomputable def ZqQ (QS : Src → Sto → Prop) (M : Sto) (d : D) : Prop := wR d (ZqP QS M)
noncomputable def kRv (QS : Src → Sto → Prop) (ds : List D) (M : Sto) : Prop := w1 ds (ZqQ QS M)
theorem Zse  : wO (iRv fs ρ M) QS E = wO (fs ρ M) (kRv QS) E := ZrW
noncomputable def Znq (xs : List D) (M : Sto) (Q : D → Sto → Prop) (ys : List D) : Prop := xs.length + ys.length ≤ 10000000 ∧ Q (.ref M.length) (M ++ [.lst (xs ++ ys)])
noncomputable def ZqR (m : Nat) (M : Sto) (Q : D → Sto → Prop) (xs : List D) : Prop := wL M[m]? (Znq xs M Q)
theorem Zpx  : wO (dAdd (.ref n) (.ref m) M) Q E = wL M[n]? (ZqR m M Q) := ZoN
noncomputable def Zn9 (i : Int) (M : Sto) (Q : D → Sto → Prop) (xs : List D) : Prop := ((-9223372036854775808 ≤ i ∧ i < 9223372036854775808) ∧ xs.length * i.toNat ≤ 100000) ∧ Q (.ref M.length) (M ++ [.lst (List.replicate i.toNat xs).flatten])
theorem Zpy : wO (Zry (.ref n) (.int i) M) Q E = wL M[n]? (Zn9 i M Q) := by
  show wO (match M[n]? with | some (.lst xs) => if (-9223372036854775808 ≤ i ∧ i < 9223372036854775808) ∧ xs.length * i.toNat ≤ 100000 then Out.ok (.ref M.length) (M ++ [.lst (List.replicate i.toNat xs).flatten]) else .bad | none => .bad) Q E = _
  cases e1 : M[n]? with
  | none => rfl
  | some o =>
    cases o with
    | lst xs =>
      show wO (if (-9223372036854775808 ≤ i ∧ i < 9223372036854775808) ∧ xs.length * i.toNat ≤ 100000 then Out.ok (.ref M.length) (M ++ [.lst (List.replicate i.toNat xs).flatten]) else .bad) Q E = Zn9 i M Q xs
      unfold Zn9
      by_cases h : (-9223372036854775808 ≤ i ∧ i < 9223372036854775808) ∧ xs.length * i.toNat ≤ 100000
      · rw [if_pos h]; simp only [eq_true h, true_and]; rfl
      · rw [if_neg h]; simp only [eq_false h, false_and]; rfl
noncomputable def kEq (Q : D → Sto → Prop) (M : Sto) (b : Bool) : Prop := Q (.bl b) M
noncomputable def kNe (Q : D → Sto → Prop) (M : Sto) (b : Bool) : Prop := Q (.bl (!b)) M
theorem Zsf  : wO (dEq x y M) Q E = wG (eqF 12 M x y) (kEq Q M) := ZrN
theorem Zsg  : wO (dNe x y M) Q E = wG (eqF 12 M x y) (kNe Q M) := ZrO
theorem Zsh  : wO (dIs x y M) Q E = wG (isP x y) (kEq Q M) := ZrP
theorem Zpz  : wO (dIsNot x y M) Q E = wG (isP x y) (kNe Q M) := ZoO
theorem ZpA  : wO (Zqn x y M) Q E = wG (inE x y M) (kEq Q M) := by unfold Zqn; cases inE x y M <;> rfl
theorem ZiI  : wO (Zg0 x y M) Q E = wG (inE x y M) (kNe Q M) := by unfold Zg0; cases inE x y M <;> rfl
theorem ZpB  : wO (dIx (.tup xs) (.int i) M) Q E = wG (atI xs i) (kQ Q id M) := ZoP
theorem ZpC  : wO (dIx (.rol xs) (.int i) M) Q E = wG (atI xs i) (kQ Q id M) := ZoQ
noncomputable def kIx (i : Int) (Q : D → Sto → Prop) (M : Sto) (xs : List D) : Prop := wG (atI xs i) (kQ Q id M)
theorem ZpD  : wO (dIx (.ref n) (.int i) M) Q E = wL M[n]? (kIx i Q M) := ZoR
noncomputable def ZqS (Q : D → Sto → Prop) (M : Sto) (xs : List D) : Prop := Q (.int xs.length) M
theorem Znr  : wO (bLen [.ref n] M) Q E = wL M[n]? (ZqS Q M) := ZmE
noncomputable def kLi (Q : D → Sto → Prop) (M : Sto) (xs : List D) : Prop := Q (.ref M.length) (M ++ [.lst xs])
theorem ZkJ  : wO (bList [.ref n] M) Q E = wL M[n]? (kLi Q M) := Zkx
noncomputable def ZqT (Q : D → Sto → Prop) (M : Sto) (bs : List Bool) : Prop := Q (.bl (bs.all id)) M
noncomputable def kAl (Q : D → Sto → Prop) (M : Sto) (xs : List D) : Prop := wG (ZW xs) (ZqT Q M)
theorem ZpE  : wO (bAll [.ref n] M) Q E = wL M[n]? (kAl Q M) := ZoV
noncomputable def ZqU (g : List Int → Option Int) (Q : D → Sto → Prop) (M : Sto) (ns : List Int) : Prop := wG (g ns) (kQ Q .int M)
noncomputable def ZqV (g : List Int → Option Int) (Q : D → Sto → Prop) (M : Sto) (xs : List D) : Prop := wG (ZbV xs) (ZqU g Q M)
theorem Zns {gi : List Int → Option Int} : wO (ZcZ gi [.ref n] M) Q E = wL M[n]? (ZqV gi Q M) := ZmJ
noncomputable def kMt (g : Me) (fs : Av) (ρ : Ro) (Q : D → Sto → Prop) (E : Str → Sto → Prop) (x : D) (M : Sto) : Prop := Zkf x M = true ∧ wO (fs ρ M) (kU (g x) Q E) E
theorem Zsi {me : Me} {fo : Ev} : wO (ZeM me fo fs ρ M) Q E = wO (fo ρ M) (kMt me fs ρ Q E) E := ZrQ
noncomputable def ZqW (n : Nat) (d : D) (Q : D → Sto → Prop) (M : Sto) (xs : List D) : Prop := xs.length < 10000000 ∧ Q .non (M.set n (.lst (xs ++ [d])))
theorem ZpF  : wO (mApp (.ref n) [d] M) Q E = wL M[n]? (ZqW n d Q M) := ZoW
noncomputable def ZqX (n : Nat) (Q : D → Sto → Prop) (M : Sto) (xs : List D) : Prop := Q .non (M.set n (.lst []))
theorem ZpG  : wO (Zql (.ref n) [] M) Q E = wL M[n]? (ZqX n Q M) := ZoX
noncomputable def Znt (n : Nat) (xs : List D) (Q : D → Sto → Prop) (M : Sto) (ys : List D) : Prop := xs.length + ys.length ≤ 10000000 ∧ Q .non (M.set n (.lst (xs ++ ys)))
noncomputable def ZqY (n m : Nat) (Q : D → Sto → Prop) (M : Sto) (xs : List D) : Prop := wL M[m]? (Znt n xs Q M)
theorem ZpH  : wO (Zqm (.ref n) [.ref m] M) Q E = wL M[n]? (ZqY n m Q M) := ZoY
noncomputable def ZkK (Q : D → Sto → Prop) (M : Sto) (bs : List Bool) : Prop := wG (bs.findIdx? id) (kQ Q (fun (j : Nat) => .int j) M)
noncomputable def ZqZ (d : D) (Q : D → Sto → Prop) (M : Sto) (xs : List D) : Prop := wG (eqs M d xs) (ZkK Q M)
theorem ZpI : wO (Zrw (.ref n) [d] M) Q E = wL M[n]? (ZqZ d Q M) := by
  show wO (match M[n]? with | some (.lst xs) => (match eqs M d xs with | some bs => (match bs.findIdx? id with | some j => Out.ok (.int (j : Nat)) M | none => .bad) | none => .bad) | none => .bad) Q E = _
  cases e1 : M[n]? with
  | none => rfl
  | some o =>
    cases o with
    | lst xs =>
      show wO (match eqs M d xs with | some bs => (match bs.findIdx? id with | some j => Out.ok (.int (j : Nat)) M | none => .bad) | none => .bad) Q E = wG (eqs M d xs) (ZkK Q M)
      cases eqs M d xs with
      | none => rfl
      | some bs =>
        show wO (match bs.findIdx? id with | some j => Out.ok (.int (j : Nat)) M | none => .bad) Q E = wG (bs.findIdx? id) _
        cases bs.findIdx? id <;> rfl
noncomputable def kCn (Q : D → Sto → Prop) (M : Sto) (bs : List Bool) : Prop := Q (.int (bs.countP id : Nat)) M
noncomputable def Zq0 (d : D) (Q : D → Sto → Prop) (M : Sto) (xs : List D) : Prop := wG (eqs M d xs) (kCn Q M)
theorem Znu : wO (Zrx (.ref n) [d] M) Q E = wL M[n]? (Zq0 d Q M) := by
  show wO (match M[n]? with | some (.lst xs) => (match eqs M d xs with | some bs => Out.ok (.int (bs.countP id : Nat)) M | none => .bad) | none => .bad) Q E = _
  cases e1 : M[n]? with
  | none => rfl
  | some o =>
    cases o with
    | lst xs =>
      show wO (match eqs M d xs with | some bs => Out.ok (.int (bs.countP id : Nat)) M | none => .bad) Q E = wG (eqs M d xs) (kCn Q M)
      cases eqs M d xs <;> rfl
noncomputable def Zq1 (l u : Option Int) (Q : D → Sto → Prop) (M : Sto) (xs : List D) : Prop := Q (.ref M.length) (M ++ [.lst (ZeN xs l u)])
noncomputable def Zq2 (x : D) (l : Option Int) (Q : D → Sto → Prop) (E : Str → Sto → Prop) (u : Option Int) (M : Sto) : Prop := wO (slR x l u M) Q E
noncomputable def Zq3 (x : D) (hi : Ro → Sto → Out (Option Int)) (ρ : Ro) (Q : D → Sto → Prop) (E : Str → Sto → Prop) (l : Option Int) (M : Sto) : Prop := wO (hi ρ M) (Zq2 x l Q E) E
noncomputable def Zq4 (lo hi : Ro → Sto → Out (Option Int)) (ρ : Ro) (Q : D → Sto → Prop) (E : Str → Sto → Prop) (x : D) (M : Sto) : Prop := wO (lo ρ M) (Zq3 x hi ρ Q E) E
theorem Zsj {lo hi : Ro → Sto → Out (Option Int)} : wO (eSl f lo hi ρ M) Q E = wO (f ρ M) (Zq4 lo hi ρ Q E) E := ZoZ
theorem ZpJ {l u' : Option Int} : wO (slR (.ref n) l u' M) Q E = wL M[n]? (Zq1 l u' Q M) := Zo0
theorem ZpK {QI : Option Int → Sto → Prop} : wO (oNo ρ M) QI E = QI none M := rfl
noncomputable def Zq5 (Q : Option Int → Sto → Prop) (x : D) (M : Sto) : Prop := wI x (kQ Q some M)
theorem ZpL {QI : Option Int → Sto → Prop} : wO (oSo f ρ M) QI E = wO (f ρ M) (Zq5 QI) E := Zo1
noncomputable def oRv (x : D) (M1 : Sto) : Out D := match x with | .tup xs => .ok (.tup xs.reverse) M1 | .ref n => (match M1[n]? with | some (.lst xs) => .ok (.ref M1.length) (M1 ++ [.lst xs.reverse]) | none => .bad) | .rol xs => .ok (.ref M1.length) (M1 ++ [.lst xs.reverse]) | _ => .bad
theorem Zsk  : wO (eRv f ρ M) Q E = wO (f ρ M) (kU oRv Q E) E := by unfold eRv; exact Zx
noncomputable def ZpM (Q : D → Sto → Prop) (M : Sto) (xs : List D) : Prop := Q (.ref M.length) (M ++ [.lst xs.reverse])
theorem ZpN  : wO (oRv (.ref n) M) Q E = wL M[n]? (ZpM Q M) := by show wO (match M[n]? with | some (.lst xs) => Out.ok (.ref M.length) (M ++ [.lst xs.reverse]) | none => .bad) Q E = _; cases M[n]? with | none => rfl | some o => cases o with | lst xs => rfl
theorem ZpO  : wO (oRv (.tup xs) M) Q E = Q (.tup xs.reverse) M := rfl
noncomputable def Zq6 (tab : List (Str × Bool)) (x : D) (M : Sto) : Out D := match x with | .err c _ => (match tab.lookup c with | some b => .ok (.bl b) M | none => .bad) | _ => .bad
theorem ZpP {tab : List (Str × Bool)} : wO (Zqj tab f ρ M) Q E = wO (f ρ M) (kU (Zq6 tab) Q E) E := by unfold Zqj; exact Zx
theorem Znv {tab : List (Str × Bool)} {c : Str} : wO (Zq6 tab (.err c xs) M) Q E = wG (tab.lookup c) (kEq Q M) := by show wO (match tab.lookup c with | some b => Out.ok (.bl b) M | none => .bad) Q E = _; cases tab.lookup c <;> rfl
noncomputable def kWh (bd : Sv) (ρ : Ro) (I : Ro → Sto → Prop) (N : Ro → Sto → Prop) (R : D → Sto → Prop) (B C : Ro → Sto → Prop) (E : Str → Sto → Prop) (k : Bool) (M : Sto) : Prop := Br k (wS (bd ρ M) I R N I E) (N ρ M)
theorem ZpQ {c : Tv} (I : Nat → Ro → Sto → Prop) (st : ∀ n ρ M, I n ρ M → wO (c ρ M) (kWh bd ρ (fun ρ2 M2 => ∃ m, m < n ∧ I m ρ2 M2) N R B C E) E) (n : Nat) (ρ : Ro) (M : Sto) (h : I n ρ M) : wS (sWh c bd ρ M) N R B C E := Ziy I st n ρ M h
theorem ZpR {I : Ro → Sto → Prop} {p : Prop} [Decidable p] (h1 : p → wS (bd ρ M) I R N I E) (h2 : ¬ p → N ρ M) : kWh bd ρ I N R B C E (decide p) M := brD h1 h2
theorem Zoa {src : Src} {fr : List Nat} (Inv : Ro → Prop) (F : Nat → D) (hl : xs.length < 10000000) (hcnt : xs.length ≤ cnt src M) (h0 : Inv (roB k fr ρ)) (hs : ∀ (L : Sto) (i : Nat), i ≤ xs.length → nxt src i (M ++ L) = some xs[i]?)
    (st : ∀ (i : Nat) (h : i < xs.length) (ρ : Ro) (L : Sto), Inv ρ → wG (tg xs[i] ρ) fun r => Inv r ∧ wO (f r (M ++ L)) (fun y M2 => y = F i ∧ M2 = M ++ L) (fun _ _ => False)) (hq : Q (.ref M.length) (M ++ [.lst ((List.range xs.length).map F)])) :
    kCo tg (fun _ M => .ok true M) f k fr ρ Q src M := ZkG (Q := fun M2 => Q (.ref M.length) M2) Inv F hl hcnt h0 hs st hq
theorem Zsl {fr : List Nat} (Inv : Ro → Prop) (F : Nat → D) (hl : n < 10000000) (h0 : Inv (roB k fr ρ))
    (st : ∀ (i : Nat) (h : i < n) (ρ : Ro) (L : Sto), Inv ρ → wG (tg (.int i) ρ) fun r => Inv r ∧ wO (f r (M ++ L)) (fun y M2 => y = F i ∧ M2 = M ++ L) (fun _ _ => False)) (hq : Q (.ref M.length) (M ++ [.lst ((List.range n).map F)])) :
    kCo tg (fun _ M => .ok true M) f k fr ρ Q (.pur (Zbw 0 n)) M := by
  refine Zoa (xs := Zbw 0 n) Inv F (by rw [ZeS]; exact hl) (by simp [cnt]) h0 (fun L i hi => rfl) (fun i hi ρ L hI => ?_) (by rw [ZeS]; exact hq)
  rw [ZkH]
  have := st i (by rw [ZeS] at hi; exact hi) ρ L hI
  rw [show (0 : Int) + (i : Nat) = i by omega]
  exact this
theorem Zjm {fr : List Nat} (Inv : Ro → Prop) (F : Nat → D) (hM : M[n]? = some (.lst xs)) (hl : xs.length < 10000000) (h0 : Inv (roB k fr ρ))
    (st : ∀ (i : Nat) (h : i < xs.length) (ρ : Ro) (L : Sto), Inv ρ → wG (tg xs[i] ρ) fun r => Inv r ∧ wO (f r (M ++ L)) (fun y M2 => y = F i ∧ M2 = M ++ L) (fun _ _ => False)) (hq : Q (.ref M.length) (M ++ [.lst ((List.range xs.length).map F)])) :
    kCo tg (fun _ M => .ok true M) f k fr ρ Q (.sto n) M :=
  Zoa (xs := xs) Inv F hl (by rw [Zhl hM]; exact Nat.le_refl _) h0 (fun L i hi => by rw [Zjl]; rw [List.getElem?_append_left (Zt hM)]; exact hM) st hq
end
end DL
end
set_option Elab.async false
set_option linter.all false
set_option maxRecDepth 100000
set_option maxHeartbeats 4000000
namespace DL
open PySem PySem.Spec L2
section
variable {Q : D → Sto → Prop} {E : Str → Sto → Prop} {M : Sto} {n : Nat}
theorem ZpS : wO (bLR [.ref n] M) Q E = wL M[n]? (ZpM Q M) := by
  show wO (match M[n]? with | some (.lst xs) => Out.ok (.ref M.length) (M ++ [.lst xs.reverse]) | none => .bad) Q E = _
  cases M[n]? with
  | none => rfl
  | some o => cases o with | lst xs => rfl
end
end DL
section
set_option Elab.async false
set_option linter.all false
set_option maxRecDepth 100000
set_option maxHeartbeats 4000000
namespace DL
noncomputable abbrev Pt := Int × Int
noncomputable def X (p q : Pt) : Int := p.1 * q.2 - p.2 * q.1
section
variable {rs : List Pt} {i j : Int} {k n : Nat} {p : Pt}
theorem Zce {α : Type} {l : List α} {n : Nat} {d : α} (h : n < l.length) : l.getD n d = l[n] := by simp [List.getElem?_eq_getElem h]
theorem Zb2 (h : 0 ≤ i ∧ i < rs.length) : cy rs i = rs.getD i.toNat (0, 0) := by
  unfold cy
  rw [Int.emod_eq_of_lt h.1 h.2]
theorem Z7 {m : Nat} (h : m ≠ 0) : (i % m).toNat < m ∧ 0 ≤ i % m := by
  have := Int.emod_lt_of_pos i (show (0 : Int) < m by omega)
  have := Int.emod_nonneg i (show (m : Int) ≠ 0 by omega)
  omega
theorem ZaY (h : rs ≠ []) : cy rs i ∈ rs := by
  have hl : rs.length ≠ 0 := by simpa using h
  unfold cy
  rw [Zce (Z7 hl).1]
  exact List.getElem_mem _
theorem ZfA {f : Pt → Pt} (h : rs ≠ []) : cy (rs.map f) i = f (cy rs i) := by
  have hl : rs.length ≠ 0 := by simpa using h
  unfold cy
  rw [List.length_map, Zce (by rw [List.length_map]; exact (Z7 hl).1), Zce (Z7 hl).1, List.getElem_map]
theorem Zjn (hk : k ≤ rs.length) : cy (rs.drop k ++ rs.take k) i = cy rs (i + k) := by
  by_cases h : rs.length = 0
  · have : rs = [] := by simpa using h
    subst this
    simp [cy]
  have hL : (rs.drop k ++ rs.take k).length = rs.length := by simp; omega
  have e1 : cy (rs.drop k ++ rs.take k) i = cy (rs.drop k ++ rs.take k) (i % rs.length) := by
    conv => rhs; rw [← hL, ZcD]
  have e2 : cy rs (i + k) = cy rs (i % rs.length + k) := by
    unfold cy
    rw [Int.emod_add_emod]
  rw [e1, e2]
  obtain ⟨a, b⟩ := Z7 (i := i) h
  generalize hm : i % (rs.length : Int) = m at *
  have hm2 : m < rs.length := by omega
  rw [Zb2 (by rw [hL]; omega)]
  by_cases c : m + k < rs.length
  · rw [Zb2 (by omega)]
    rw [List.getD_eq_getElem?_getD, List.getD_eq_getElem?_getD, List.getElem?_append_left (by simp; omega), List.getElem?_drop]
    congr 2
    omega
  · rw [← Zc1, Zb2 (by omega)]
    rw [List.getD_eq_getElem?_getD, List.getD_eq_getElem?_getD, List.getElem?_append_right (by simp; omega), List.getElem?_take_of_lt (by simp; omega)]
    congr 2
    simp
    omega
noncomputable def ins (rs : List Pt) (k : Nat) (p : Pt) : List Pt := rs.take (k + 1) ++ p :: rs.drop (k + 1)
theorem ZeT (hk : k < rs.length) : (ins rs k p).length = rs.length + 1 := by simp [ins]; omega
theorem Zjo (hk : k < rs.length) (h0 : 0 ≤ j) (h1 : j ≤ rs.length + 1) : cy (ins rs k p) j = if j ≤ k then cy rs j else if j = k + 1 then p else cy rs (j - 1) := by
  have hL := ZeT (p := p) hk
  by_cases e : j = rs.length + 1
  · subst e
    rw [if_neg (by omega), if_neg (by omega)]
    have e1 : cy (ins rs k p) (rs.length + 1) = cy (ins rs k p) 0 := by
      have := Zc1 (rs := ins rs k p) (i := (rs.length : Int) + 1)
      rw [hL] at this
      rw [← this]
      congr 1
      omega
    have e2 : cy rs ((rs.length : Int) + 1 - 1) = cy rs 0 := by
      rw [← Zc1]
      congr 1
      omega
    rw [e1, e2, Zb2 (by rw [hL]; omega), Zb2 (by omega)]
    unfold ins
    rw [List.getD_eq_getElem?_getD, List.getD_eq_getElem?_getD, List.getElem?_append_left (by simp; omega), List.getElem?_take_of_lt (by simp)]
  · have hj : j < rs.length + 1 := by omega
    rw [Zb2 (by rw [hL]; omega)]
    unfold ins
    rw [List.getD_eq_getElem?_getD]
    by_cases c1 : j ≤ k
    · rw [if_pos c1, Zb2 (by omega), List.getD_eq_getElem?_getD, List.getElem?_append_left (by simp; omega), List.getElem?_take_of_lt (by omega)]
    · rw [if_neg c1, List.getElem?_append_right (by simp; omega)]
      have hl : (rs.take (k + 1)).length = k + 1 := by simp; omega
      rw [hl]
      by_cases c2 : j = k + 1
      · rw [if_pos c2]
        have : j.toNat - (k + 1) = 0 := by omega
        rw [this]
        rfl
      · rw [if_neg c2, Zb2 (by omega), List.getD_eq_getElem?_getD]
        obtain ⟨z, hz⟩ : ∃ z, j.toNat - (k + 1) = z + 1 := ⟨j.toNat - (k + 1) - 1, by omega⟩
        rw [hz, List.getElem?_cons_succ, List.getElem?_drop]
        congr 2
        omega
theorem ZdH {P : Pt → Pt → Prop} (hn : rs.length ≠ 0) (h : ∀ i : Int, 0 ≤ i → i < rs.length → P (cy rs i) (cy rs (i + 1))) (i : Int) : P (cy rs i) (cy rs (i + 1)) := by
  have e1 : cy rs i = cy rs (i % rs.length) := ZcD.symm
  have e2 : cy rs (i + 1) = cy rs (i % rs.length + 1) := by
    unfold cy
    rw [Int.emod_add_emod]
  rw [e1, e2]
  obtain ⟨a, b⟩ := Z7 (i := i) hn
  exact h _ b (by omega)
noncomputable def cc (f : Pt → Pt → Nat) : List Pt → Nat
  | a :: b :: r => f a b + cc f (b :: r)
  | _ => 0
noncomputable def cyc (f : Pt → Pt → Nat) (rs : List Pt) : Nat := cc f (rs ++ rs.take 1)
theorem Zdq {f : Pt → Pt → Nat} : ∀ (L : List Pt) (a : Pt) (R : List Pt), cc f (L ++ a :: R) = cc f (L ++ [a]) + cc f (a :: R)
  | [], a, R => by simp [cc]
  | [b], a, R => by simp [cc]
  | b :: c :: L, a, R => by
    have := Zdq (f := f) (c :: L) a R
    simp only [List.cons_append, cc] at this ⊢
    omega
theorem Zjp {f : Pt → Pt → Nat} {g : Pt → Pt} : ∀ (L : List Pt), cc f (L.map g) = cc (fun a b => f (g a) (g b)) L
  | [] => rfl
  | [_] => rfl
  | a :: b :: L => by
    have := Zjp (f := f) (g := g) (b :: L)
    simp only [List.map_cons, cc] at this ⊢
    omega
theorem Zjq {f : Pt → Pt → Nat} : ∀ (L : List Pt), cc f L.reverse = cc (fun a b => f b a) L
  | [] => rfl
  | [_] => rfl
  | a :: b :: L => by
    have := Zjq (f := f) (b :: L)
    rw [List.reverse_cons, List.reverse_cons, List.append_assoc, List.singleton_append, Zdq]
    rw [List.reverse_cons] at this
    simp only [cc] at this ⊢
    omega
theorem ZbI {f : Pt → Pt → Nat} {a : Pt} {r : List Pt} : cyc f (a :: r) = cc f (a :: (r ++ [a])) := by simp [cyc]
theorem Zc3 {f : Pt → Pt → Nat} (A B : List Pt) : cyc f (A ++ B) = cyc f (B ++ A) := by
  cases A with
  | nil => simp
  | cons a A =>
    cases B with
    | nil => simp
    | cons b B =>
      rw [List.cons_append, ZbI, List.cons_append, ZbI]
      have e1 : a :: (A ++ b :: B ++ [a]) = (a :: A) ++ b :: (B ++ [a]) := by simp
      have e2 : b :: (B ++ a :: A ++ [b]) = (b :: B) ++ a :: (A ++ [b]) := by simp
      rw [e1, e2, Zdq (a :: A) b, Zdq (b :: B) a]
      simp only [List.cons_append]
      omega
theorem ZdI {f : Pt → Pt → Nat} {g : Pt → Pt} (L : List Pt) : cyc f (L.map g) = cyc (fun a b => f (g a) (g b)) L := by
  unfold cyc
  rw [← List.map_take, ← List.map_append, Zjp]
theorem Zhn {f : Pt → Pt → Nat} (L : List Pt) : cyc f L.reverse = cyc (fun a b => f b a) L := by
  cases L with
  | nil => rfl
  | cons a L =>
    rw [List.reverse_cons, Zc3, List.singleton_append, ZbI, ZbI, ← Zjq]
    congr 1
    simp
noncomputable def in1 (w a b : Pt) : Nat := if 0 ≤ X a w ∧ 0 < X w b then 1 else 0
noncomputable def in2 (w a b : Pt) : Nat := if 0 < X a w ∧ 0 ≤ X w b then 1 else 0
noncomputable def Fan (rs : List Pt) : Prop := ∀ w : Pt, w ≠ (0, 0) → cyc (in1 w) rs = 1 ∧ cyc (in2 w) rs = 1
theorem Znw {a b w : Pt} : X w (a.1 + b.1, a.2 + b.2) = X w a + X w b ∧ X (a.1 + b.1, a.2 + b.2) w = X a w + X b w := by unfold X; constructor <;> grind
theorem Zf1 {p q : Pt} : X p q = 0 - X q p := by unfold X; grind
theorem ZkL {a b w : Pt} : in1 w a b = in1 w a (a.1 + b.1, a.2 + b.2) + in1 w (a.1 + b.1, a.2 + b.2) b := by
  have s := Znw (a := a) (b := b) (w := w)
  have e1 := Zf1 (p := w) (q := a)
  have e2 := Zf1 (p := b) (q := w)
  unfold in1
  rw [s.1, s.2, e1, e2]
  generalize X a w = p
  generalize X w b = q
  repeat' split
  all_goals omega
theorem ZkM {a b w : Pt} : in2 w a b = in2 w a (a.1 + b.1, a.2 + b.2) + in2 w (a.1 + b.1, a.2 + b.2) b := by
  have s := Znw (a := a) (b := b) (w := w)
  have e1 := Zf1 (p := w) (q := a)
  have e2 := Zf1 (p := b) (q := w)
  unfold in2
  rw [s.1, s.2, e1, e2]
  generalize X a w = p
  generalize X w b = q
  repeat' split
  all_goals omega
theorem ZpT {L R : List Pt} {a : Pt} : cy (L ++ a :: R) L.length = a := by
  rw [Zb2 (by simp; omega)]
  simp
theorem ZpU {L R : List Pt} {a b : Pt} : cy (L ++ a :: b :: R) (L.length + 1) = b := by
  rw [Zb2 (by simp; omega)]
  rw [show ((L.length : Int) + 1).toNat = L.length + 1 by omega]
  simp
theorem Zho {r : List Pt} {a : Pt} : cy (a :: r) (r.length + 1) = a := by
  have := Zc1 (rs := a :: r) (i := (r.length : Int) + 1)
  rw [← this, List.length_cons, show (r.length : Int) + 1 - ((r.length + 1 : Nat) : Int) = 0 by omega, Zb2 (by simp)]
  rfl
theorem Zhp {f : Pt → Pt → Nat} (hk : k < rs.length) (hf : f (cy rs k) (cy rs (k + 1)) = f (cy rs k) p + f p (cy rs (k + 1))) : cyc f (ins rs k p) = cyc f rs := by
  obtain ⟨L, a, R, e, hl⟩ : ∃ L a R, rs = L ++ a :: R ∧ L.length = k := ⟨rs.take k, rs[k], rs.drop (k + 1), by rw [List.getElem_cons_drop, List.take_append_drop], by simp; omega⟩
  have ei : ins rs k p = L ++ a :: p :: R := by
    unfold ins
    rw [e, ← hl, List.take_append, List.drop_append, List.take_of_length_le (by omega), List.drop_eq_nil_of_le (by omega)]
    simp
  have ca : cy rs k = a := by rw [e, ← hl]; exact ZpT
  cases R with
  | cons b R =>
    have cb : cy rs (k + 1) = b := by rw [e, ← hl]; exact ZpU
    rw [ca, cb] at hf
    rw [ei, e, Zc3, Zc3 L]
    simp only [List.cons_append, ZbI, cc]
    omega
  | nil =>
    cases L with
    | nil =>
      have cb : cy rs (k + 1) = a := by
        rw [e, ← hl]
        exact Zho (r := []) (a := a)
      rw [ca, cb] at hf
      rw [ei, e]
      simp [cyc, cc]
      omega
    | cons b L =>
      have cb : cy rs (k + 1) = b := by
        rw [e, ← hl]
        have := Zho (r := L ++ [a]) (a := b)
        simp only [List.length_append, List.length_cons, List.length_nil] at this ⊢
        exact this
      rw [ca, cb] at hf
      rw [ei, e]
      simp only [List.cons_append, ZbI]
      have e1 : b :: (L ++ [a, p] ++ [b]) = (b :: L) ++ a :: [p, b] := by simp
      have e2 : b :: (L ++ [a] ++ [b]) = (b :: L) ++ a :: [b] := by simp
      rw [e1, e2, Zdq, Zdq (b :: L) a [b]]
      simp only [cc]
      omega
theorem Fan.rot (h : Fan rs) : Fan (rs.drop k ++ rs.take k) := fun w hw => by
  rw [Zc3, Zc3 (rs.drop k), List.take_append_drop]
  exact h w hw
theorem Fan.ins (h : Fan rs) (hk : k < rs.length) : Fan (ins rs k ((cy rs k).1 + (cy rs (k + 1)).1, (cy rs k).2 + (cy rs (k + 1)).2)) := fun w hw => by
  rw [Zhp hk ZkL, Zhp hk ZkM]
  exact h w hw
theorem Zjr {f : Pt → Pt} {s : Int} (hs : s = 1 ∨ s = -1) (hf : ∀ p q, X (f p) (f q) = s * X p q) (w : Pt) (hw : w ≠ (0, 0)) : ∃ w' : Pt, w' ≠ (0, 0) ∧ ∀ a, X (f a) w = s * X a w' := by
  have d := hf (1, 0) (0, 1)
  have d1 : X (f (1, 0)) (f (0, 1)) = s := by rw [d]; simp [X]
  have lin : ∀ a, (f a).1 = a.1 * (f (1, 0)).1 + a.2 * (f (0, 1)).1 ∧ (f a).2 = a.1 * (f (1, 0)).2 + a.2 * (f (0, 1)).2 := by
    intro a
    have h1 := hf a (1, 0)
    have h2 := hf a (0, 1)
    generalize f a = u at *
    generalize f (1, 0) = e1 at *
    generalize f (0, 1) = e2 at *
    unfold X at *
    rcases hs with rfl | rfl <;> constructor <;> grind
  refine ⟨(X w (f (0, 1)) * s, X (f (1, 0)) w * s), ?_, ?_⟩
  · intro z
    apply hw
    have z1 := congrArg Prod.fst z
    have z2 := congrArg Prod.snd z
    simp only at z1 z2
    generalize f (1, 0) = e1 at *
    generalize f (0, 1) = e2 at *
    unfold X at *
    apply Prod.ext
    · rcases hs with rfl | rfl <;> simp only [] <;> grind
    · rcases hs with rfl | rfl <;> simp only [] <;> grind
  · intro a
    obtain ⟨l1, l2⟩ := lin a
    unfold X
    rw [l1, l2]
    rcases hs with rfl | rfl <;> simp only [] <;> grind
theorem Fan.map (h : Fan rs) {f : Pt → Pt} (hf : ∀ p q, X (f p) (f q) = X p q) : Fan (rs.map f) := fun w hw => by
  obtain ⟨w', hw', e⟩ := Zjr (s := 1) (.inl rfl) (fun p q => by rw [hf, Int.one_mul]) w hw
  have e2 : ∀ a, X w (f a) = X w' a := fun a => by rw [Zf1, e, Zf1 (p := w')]; omega
  have c1 : ∀ a b, in1 w (f a) (f b) = in1 w' a b := fun a b => by unfold in1; rw [e, e2, Int.one_mul]
  have c2 : ∀ a b, in2 w (f a) (f b) = in2 w' a b := fun a b => by unfold in2; rw [e, e2, Int.one_mul]
  rw [ZdI, ZdI, show (fun a b => in1 w (f a) (f b)) = in1 w' from funext fun a => funext fun b => c1 a b, show (fun a b => in2 w (f a) (f b)) = in2 w' from funext fun a => funext fun b => c2 a b]
  exact h w' hw'
theorem Fan.flip (h : Fan rs) {f : Pt → Pt} (hf : ∀ p q, X (f p) (f q) = -1 * X p q) : Fan (rs.map f).reverse := fun w hw => by
  obtain ⟨w', hw', e⟩ := Zjr (s := -1) (.inr rfl) hf w hw
  have e2 : ∀ a, X w (f a) = -1 * X w' a := fun a => by rw [Zf1, e, Zf1 (p := w')]; omega
  have c1 : ∀ a b, in1 w (f b) (f a) = in2 w' a b := fun a b => by
    unfold in1 in2
    rw [e, e2, Zf1 (p := b)]
    have := Zf1 (p := a) (q := w')
    simp only [show (0 ≤ -1 * (0 - X w' b) ∧ 0 < -1 * X w' a) = (0 < X a w' ∧ 0 ≤ X w' b) from propext ⟨fun _ => by omega, fun _ => by omega⟩]
  have c2 : ∀ a b, in2 w (f b) (f a) = in1 w' a b := fun a b => by
    unfold in1 in2
    rw [e, e2, Zf1 (p := b)]
    have := Zf1 (p := a) (q := w')
    simp only [show (0 < -1 * (0 - X w' b) ∧ 0 ≤ -1 * X w' a) = (0 ≤ X a w' ∧ 0 < X w' b) from propext ⟨fun _ => by omega, fun _ => by omega⟩]
  rw [Zhn, Zhn, ZdI, ZdI, show (fun a b => in1 w (f b) (f a)) = in2 w' from funext fun a => funext fun b => c1 a b, show (fun a b => in2 w (f b) (f a)) = in1 w' from funext fun a => funext fun b => c2 a b]
  exact ⟨(h w' hw').2, (h w' hw').1⟩
structure Smo (rs : List Pt) : Prop where
  len : 3 ≤ rs.length
  one : ∀ i : Int, X (cy rs i) (cy rs (i + 1)) = 1
  fan : Fan rs
noncomputable def Nr (b : Int) (rs : List Pt) : Prop := ∀ p ∈ rs, (-b ≤ p.1 ∧ p.1 ≤ b) ∧ -b ≤ p.2 ∧ p.2 ≤ b
theorem Smo.ne (h : Smo rs) : rs ≠ [] := by
  intro z
  have := h.len
  rw [z] at this
  simp at this
theorem Nr.cy {b : Int} (h : Nr b rs) (hn : rs ≠ []) (i : Int) : (-b ≤ (cy rs i).1 ∧ (cy rs i).1 ≤ b) ∧ -b ≤ (cy rs i).2 ∧ (cy rs i).2 ≤ b := h _ (ZaY hn)
theorem Smo.ins (h : Smo rs) (hk : k < rs.length) : Smo (ins rs k ((cy rs k).1 + (cy rs (k + 1)).1, (cy rs k).2 + (cy rs (k + 1)).2)) := by
  have hL := ZeT (p := ((cy rs k).1 + (cy rs (k + 1)).1, (cy rs k).2 + (cy rs (k + 1)).2)) hk
  refine ⟨by rw [hL]; have := h.len; omega, ?_, h.fan.ins hk⟩
  refine ZdH (P := fun a b => X a b = 1) (by omega) ?_
  intro i h0 h1
  rw [hL] at h1
  rw [Zjo hk h0 (by omega), Zjo hk (by omega) (by omega)]
  have ok := h.one k
  by_cases c1 : i + 1 ≤ k
  · rw [if_pos (by omega), if_pos c1]; exact h.one i
  · rw [if_neg c1]
    by_cases c2 : i = k
    · subst c2
      rw [if_pos (by omega), if_pos rfl]
      unfold X at *
      grind
    · rw [if_neg (by omega : ¬ i ≤ (k : Int)), if_neg (by omega : ¬ i + 1 = (k : Int) + 1)]
      by_cases c3 : i = k + 1
      · subst c3
        rw [if_pos rfl]
        have : (k : Int) + 1 + 1 - 1 = k + 1 := by omega
        rw [this]
        unfold X at *
        grind
      · rw [if_neg c3]
        have := h.one (i - 1)
        have e : i - 1 + 1 = i + 1 - 1 := by omega
        rw [e] at this
        exact this
theorem Smo.rot (h : Smo rs) (hk : k ≤ rs.length) : Smo (rs.drop k ++ rs.take k) := by
  refine ⟨by have := h.len; simp; omega, fun i => ?_, h.fan.rot⟩
  rw [Zjn hk, Zjn hk]
  have := h.one (i + k)
  have e : i + (k : Int) + 1 = i + 1 + k := by omega
  rw [e] at this
  exact this
theorem Smo.map (h : Smo rs) {f : Pt → Pt} (hf : ∀ p q, X (f p) (f q) = X p q) : Smo (rs.map f) := by
  refine ⟨by have := h.len; simp; omega, fun i => ?_, h.fan.map hf⟩
  rw [ZfA h.ne, ZfA h.ne, hf]
  exact h.one i
end
end DL
end
section
set_option Elab.async false
set_option linter.all false
set_option maxRecDepth 100000
set_option maxHeartbeats 4000000
namespace CC
open PySem PySem.Spec L2 DL
noncomputable def Zbh : Sv := (ZM (e2 dSub (e2 dMul (e2 dIx (Zd 0) (eC (.int 0))) (e2 dIx (Zd 1) (eC (.int 1)))) (e2 dMul (e2 dIx (Zd 0) (eC (.int 1))) (e2 dIx (Zd 1) (eC (.int 0))))))
noncomputable def F_crossed : List D → Sto → Out D := fnF Zbh 2 0
noncomputable def Zaa : Sv := (ZM (e2 dIx (Zd 0) (e2 dMod (e2 dAdd (Zd 1) (eC (.int 1))) (Zh bLen (Zb (Zd 0) aNil)))))
noncomputable def F_following : List D → Sto → Out D := fnF Zaa 2 0
noncomputable def ZU : Sv := (sIf (tv (e2 dNe (Zh F_crossed (Zb (Zd 2) (Zb (Zh F_following (Zb (Zd 0) (Zb (Zd 1) aNil))) aNil))) (eC (.int 1)))) (ZM (Zd 1)) sNil)
noncomputable def Zau : Sv := (Zu (Zdc (gTp (gCs (gNm 1) (gCs (gNm 2) gNl))) (iEn (Zb (Zd 0) aNil)) ZU)
  (ZM (eC .non)))
noncomputable def F_unspanned : List D → Sto → Out D := fnF Zau 1 2
noncomputable def Zaf : Sv := (Zu (ZH (gNm 1) (Zh F_unspanned (Zb (Zd 0) aNil)))
  (sIf (tv (e2 dIsNot (Zd 1) (eC .non))) (ZaX (PySem.Str.ofString "NotSmooth") (Zb (eFs (Zbg (eC (.str (PySem.Str.ofString "ray "))) (Zbg (eFm (Zd 1)) (Zbg (eC (.str (PySem.Str.ofString " does not cross the next one in 1"))) jNil)))) aNil)) sNil))
noncomputable def F_ask_smooth : List D → Sto → Out D := fnF Zaf 1 1
end CC
end
set_option maxRecDepth 100000
open PySem PySem.Spec L2 DL
local macro_rules | `(tactic| simp! [$ls,*]) => `(tactic| simp (implicitDefEqProofs := false) (disch := omega) only [ZrX, y_c, y_v, Zm8, Zo9, Zm9, Zpa, Zpb, Zpc, Zna, Zpe, Znb, ZrY, ZrZ, Zr1, Zpf, Zr2, Zpg, Znc, Zph, Znd, Zr3, Zpi, Zr4, Zne, Zpj, Znf, Zpk, Zng, Zpl, Zpm, Zpn, Znh, Zni, Zr5, Zr6, Zpo, Zpp, Znj, Zpq, Zpr, ZkI, Znk, Znl, Zps, Znm, Znn, Zno, Zpt, Znp, Zr9, Zsa, Zsb, Zpu, Zpv, Zpw, Zsc, Zsd, Zse, Zpx, Zpy, Zsf, Zsg, Zsh, Zpz, ZpA, ZiI, ZpB, ZpC, ZpD, Znr, ZkJ, ZpE, Zns, Zsi, ZpF, ZpG, ZpH, ZpI, Znu, Zsj, ZpJ, ZpK, ZpL, Zsk, ZpN, ZpO, ZpP, Znv, kU, kQ, kB2, kB1, kA2, kA1, kTu, kLs, kTy, kIf, kTA, kTO, kTN, kSq, kDr, kSi, kAs, kAt, Zqu, kPa, Zqv, Zqw, Zqx, Zqy, Zqz, ZqA, kPu, kRa, ZqB, ZqC, kR1, ZqD, ZqE, ZqF, kR2, kFo, kFs, kTr, ZqG, ZqH, kS1, ZqI, ZqJ, ZqK, kS2, ZqL, kEn, ZqM, ZqN, kZp, ZqO, ZqP, ZqQ, kRv, Znq, ZqR, Zn9, kEq, kNe, kIx, ZqS, kLi, ZqT, kAl, ZqU, ZqV, kMt, ZqW, ZqX, Znt, ZqY, ZkK, ZqZ, kCn, Zq0, Zq1, Zq2, Zq3, Zq4, Zq5, ZpM, ZiA, ZiB, Zkz, ZiE, ZiF, ZiC, ZiD, ZkA, ZiH, ZiG, ZkC, ZkB, ZmT, decide_eq_true, decide_eq_false, wF1, wF2, wF3, wF4, Zs, Zms, ZrC, ZrD, ZrE, ZrF, ZrG, ZrH, ZrA, ZrB, ZoH, ZoI, ZoJ, ZmC, ZoK, ZoL, ZoM, ZrJ, ZrK, ZrL, ZrM, ZmD, ZmF, ZmG, ZoS, ZoT, ZoU, ZmH, ZmI, Zky, ZmK, ZmL, Ziz, Zo5, Zo6, Zo7, Zo8, id, roB, at0, at1, at2, at3, gTp, gCs, gNl, gNm, List.set_cons_zero, List.set_cons_succ, List.getElem?_cons_zero, List.getElem?_cons_succ, List.length_cons, List.length_nil, List.length_append, List.length_map, List.map_cons, List.map_nil, List.cons_append, List.nil_append, List.append_assoc, List.append_nil, List.replicate_succ, List.replicate_zero, Option.join_some, Option.isSome_some, Zhg, ZmM, Zdd, Zji, Zo2, ZmN, Zjj, ZZ, Zcp, Zo3, ZrR, Zqp, ZmP, Zo4, ZmQ, ZmR, ZmU, ZmV, ZmW, ZmX, ZmY, ZmZ, Zm0, Zm1, Zm2, Zm3, Zm4, Zm5, true_and, and_true, Bool.not_true, Bool.not_false, decide_true, decide_false, Nat.reduceAdd, Nat.reduceLeDiff, Nat.reduceLT, Nat.add_zero, Nat.zero_add, Int.reducePow, Int.reduceToNat, Int.reduceNeg, Int.reduceMod, Int.reduceDiv, Int.reduceAdd, Int.reduceSub, Int.reduceMul, Int.cast_ofNat_Int, Int.reduceEq, Int.reduceLT, Int.reduceLE, $ls,*])
section
set_option Elab.async false
set_option linter.all false
set_option maxRecDepth 100000
set_option maxHeartbeats 4000000
namespace CC
open PySem PySem.Spec L2 DL
section
variable {Q : D → Sto → Prop} {E : Str → Sto → Prop} {M : Sto} {a b c d i : Int} {n : Nat} {rs : List Pt}
theorem Zel (ha : -(18446744073709551616) < a ∧ a < 18446744073709551616) (hb : -(18446744073709551616) < b ∧ b < 18446744073709551616) : wO (F_crossed [pr a b, pr c d] M) Q E = Q (.int (a * d - b * c)) M := by
  simp! [F_crossed, Zbh]
theorem Zb3 (h : M[n]? = some (.lst (prs rs))) (hi : 0 ≤ i ∧ i < rs.length) : wO (F_following [.ref n, .int i] M) Q E = Q (pr (cy rs (i + 1)).1 (cy rs (i + 1)).2) M := by
  have e := Z7 (i := i + 1) (m := rs.length) (by omega)
  simp! [F_following, Zaa, h, Zdp, ZcD]
theorem Zb4 {rs : List Pt} {i : Nat} (h : i < (prs rs).length) : (prs rs)[i] = pr (cy rs i).1 (cy rs i).2 := by
  have h' : i < rs.length := by rw [ZZ] at h; exact h
  rw [Zc2 h']
  simp [prs]
theorem Nr.big {b : Int} {rs : List Pt} (h : Nr b rs) (hb : b ≤ 18446744073709551615) (hn : rs ≠ []) (i : Int) : (-(18446744073709551616) < (cy rs i).1 ∧ (cy rs i).1 < 18446744073709551616) ∧ (-(18446744073709551616) < (cy rs i).2 ∧ (cy rs i).2 < 18446744073709551616) := by
  have := Nr.cy h hn i
  omega
theorem ZeU (h : M[n]? = some (.lst (prs rs))) (hs : Smo rs) (hb : Nr 18446744073709551615 rs) (k : Q .non M) : wO (F_unspanned [.ref n] M) Q E := by
  simp! [F_unspanned, Zau]
  refine Zhm (fun i ρ M' => M' = M ∧ ∃ x y, ρ = [some (.ref n), x, y]) h ⟨rfl, _, _, rfl⟩ (fun i ρ M' hI => by rw [hI.1]; exact h) ?_ ?_
  · rintro i ρ M' hi ⟨rfl, x, y, rfl⟩
    have b1 := Nr.big hb (by decide) hs.ne i
    have o1 := hs.one i
    have hi' : i < rs.length := by rw [ZZ] at hi; exact hi
    rw [Zb4]
    simp! [ZU, Zb3 h, Zel]
    unfold X at o1
    rw [o1]
    simp! [Zs]
    exact ⟨_, _, rfl⟩
  · rintro ρ M' ⟨rfl, x, y, rfl⟩
    simp! [Zs]
    exact k
theorem ZcE (h : M[n]? = some (.lst (prs rs))) (hs : Smo rs) (hb : Nr 18446744073709551615 rs) (k : Q .non M) : wO (F_ask_smooth [.ref n] M) Q E := by
  simp! [F_ask_smooth, Zaf]
  refine ZeU h hs hb ?_
  simp! [Zs]
  exact k
theorem Zc4 {w a b : Pt} {p q : Int} (h1 : X a w = p) (h2 : X w b = q) : in1 w a b = if 0 ≤ p ∧ 0 < q then 1 else 0 := by unfold in1; rw [h1, h2]
theorem Zc5 {w a b : Pt} {p q : Int} (h1 : X a w = p) (h2 : X w b = q) : in2 w a b = if 0 < p ∧ 0 ≤ q then 1 else 0 := by unfold in2; rw [h1, h2]
theorem Zsm : Fan [(1, 0), (0, 1), (-1, -1)] := by
  rintro ⟨x, y⟩ hw
  have hw' : ¬ (x = 0 ∧ y = 0) := fun z => hw (by rw [z.1, z.2])
  have a1 : X (1, 0) (x, y) = y := by simp [X]
  have a2 : X (0, 1) (x, y) = -x := by simp [X]
  have a3 : X (-1, -1) (x, y) = x - y := by simp [X]; omega
  have b1 : X (x, y) (0, 1) = x := by simp [X]
  have b2 : X (x, y) (-1, -1) = y - x := by simp [X]; omega
  have b3 : X (x, y) (1, 0) = -y := by simp [X]
  simp only [cyc, List.take_succ_cons, List.take_zero, List.cons_append, List.nil_append, cc]
  rw [Zc4 a1 b1, Zc4 a2 b2, Zc4 a3 b3, Zc5 a1 b1, Zc5 a2 b2, Zc5 a3 b3]
  constructor
  all_goals
    repeat' split
    all_goals omega
theorem Zsn (f : Int) : Fan [(1, 0), (0, 1), (-1, f), (0, -1)] := by
  rintro ⟨x, y⟩ hw
  have hw' : ¬ (x = 0 ∧ y = 0) := fun z => hw (by rw [z.1, z.2])
  have h0 : x = 0 → x * f = 0 := fun z => by rw [z, Int.zero_mul]
  have a1 : X (1, 0) (x, y) = y := by simp [X]
  have a2 : X (0, 1) (x, y) = -x := by simp [X]
  have a3 : X (-1, f) (x, y) = -y - x * f := by unfold X; simp only; grind
  have a4 : X (0, -1) (x, y) = x := by simp [X]
  have b1 : X (x, y) (0, 1) = x := by simp [X]
  have b2 : X (x, y) (-1, f) = x * f + y := by unfold X; simp only; grind
  have b3 : X (x, y) (0, -1) = -x := by simp [X]
  have b4 : X (x, y) (1, 0) = -y := by simp [X]
  simp only [cyc, List.take_succ_cons, List.take_zero, List.cons_append, List.nil_append, cc]
  rw [Zc4 a1 b1, Zc4 a2 b2, Zc4 a3 b3, Zc4 a4 b4, Zc5 a1 b1, Zc5 a2 b2, Zc5 a3 b3, Zc5 a4 b4]
  generalize x * f = z at *
  constructor
  all_goals
    repeat' split
    all_goals omega
theorem Zso : Smo [(1, 0), (0, 1), (-1, -1)] := by
  refine ⟨by decide, ZdH (P := fun a b => X a b = 1) (by decide) ?_, Zsm⟩
  intro i h0 h1
  have : i = 0 ∨ i = 1 ∨ i = 2 := by simp at h1; omega
  rcases this with rfl | rfl | rfl <;> rfl
theorem Zsp (f : Int) : Smo [(1, 0), (0, 1), (-1, f), (0, -1)] := by
  refine ⟨by simp, ZdH (P := fun a b => X a b = 1) (by simp) ?_, Zsn f⟩
  intro i h0 h1
  have : i = 0 ∨ i = 1 ∨ i = 2 ∨ i = 3 := by simp at h1; omega
  rcases this with rfl | rfl | rfl | rfl <;> simp [X, cy]
end
end CC
end
section
set_option Elab.async false
set_option linter.all false
set_option maxRecDepth 100000
set_option maxHeartbeats 4000000
namespace DL
noncomputable def T (rs : List Pt) (i : Int) : Int := 0 - X (cy rs (i - 1)) (cy rs (i + 1))
noncomputable def Zcf (rs : List Pt) : List Int := (List.range rs.length).map fun (i : Nat) => T rs i
section
variable {rs : List Pt} {k : Nat} {p : Pt} {j : Int}
theorem Zem : (Zcf rs).length = rs.length := by simp [Zcf]
end
end DL
namespace CC
open PySem PySem.Spec L2 DL
section
variable {Q : D → Sto → Prop} {E : Str → Sto → Prop} {M : Sto} {a b c d i : Int} {n : Nat} {rs : List Pt}
end
end CC
end
section
set_option Elab.async false
set_option linter.all false
set_option maxRecDepth 100000
set_option maxHeartbeats 4000000
namespace DL
section
variable {rs : List Pt} {k : Nat} {p : Pt} {j : Int}
theorem Zjs (p q : Pt) : X p q = 0 - X q p := by unfold X; grind
end
end DL
end
section
set_option Elab.async false
set_option linter.all false
set_option maxRecDepth 100000
set_option maxHeartbeats 4000000
namespace DL
noncomputable def nm (p : Pt) : Int := p.1 * p.1 + p.2 * p.2
theorem Zhq {w a b : Pt} (h1 : 0 ≤ X a w) (h2 : 0 < X w b) : in1 w a b = 1 := by unfold in1; rw [if_pos ⟨h1, h2⟩]
theorem XX (p : Pt) : X p p = 0 := by unfold X; grind
end DL
namespace DL
section
variable {rs : List Pt} {k : Nat}
end
end DL
end
section
set_option Elab.async false
set_option linter.all false
set_option maxRecDepth 100000
set_option maxHeartbeats 4000000
namespace CE
open PySem PySem.Spec L2 DL
noncomputable def Zbh : Sv := (ZM (e2 dSub (e2 dMul (e2 dIx (Zd 0) (eC (.int 0))) (e2 dIx (Zd 1) (eC (.int 1)))) (e2 dMul (e2 dIx (Zd 0) (eC (.int 1))) (e2 dIx (Zd 1) (eC (.int 0))))))
noncomputable def F_crossed : List D → Sto → Out D := fnF Zbh 2 0
noncomputable def Zaa : Sv := (ZM (e2 dIx (Zd 0) (e2 dMod (e2 dAdd (Zd 1) (eC (.int 1))) (Zh bLen (Zb (Zd 0) aNil)))))
noncomputable def F_following : List D → Sto → Out D := fnF Zaa 2 0
noncomputable def ZU : Sv := (sIf (tv (e2 dNe (Zh F_crossed (Zb (Zd 2) (Zb (Zh F_following (Zb (Zd 0) (Zb (Zd 1) aNil))) aNil))) (eC (.int 1)))) (ZM (Zd 1)) sNil)
noncomputable def Zau : Sv := (Zu (Zdc (gTp (gCs (gNm 1) (gCs (gNm 2) gNl))) (iEn (Zb (Zd 0) aNil)) ZU)
  (ZM (eC .non)))
noncomputable def F_unspanned : List D → Sto → Out D := fnF Zau 1 2
noncomputable def Zaf : Sv := (Zu (ZH (gNm 1) (Zh F_unspanned (Zb (Zd 0) aNil)))
  (sIf (tv (e2 dIsNot (Zd 1) (eC .non))) (ZaX (PySem.Str.ofString "NotSmooth") (Zb (eFs (Zbg (eC (.str (PySem.Str.ofString "ray "))) (Zbg (eFm (Zd 1)) (Zbg (eC (.str (PySem.Str.ofString " does not cross the next one in 1"))) jNil)))) aNil)) sNil))
noncomputable def F_ask_smooth : List D → Sto → Out D := fnF Zaf 1 1
noncomputable def Zcg : Sv := (Zu (Zbe (Zh F_ask_smooth (Zb (Zd 0) aNil)))
  (ZM (ZX (iR1 (Zb (Zh bLen (Zb (Zd 0) aNil)) aNil)) 1 [0] (gNm 0) (fun _ M => .ok true M) (Zh F_crossed (Zb (Zh F_following (Zb (Zd 1) (Zb (Zd 0) aNil))) (Zb (e2 dIx (Zd 1) (e2 dSub (Zd 0) (eC (.int 1)))) aNil))))))
noncomputable def F_numbers : List D → Sto → Out D := fnF Zcg 1 0
end CE
end
section
set_option Elab.async false
set_option linter.all false
set_option maxRecDepth 100000
set_option maxHeartbeats 4000000
namespace CE
open PySem PySem.Spec L2 DL
theorem Zhr : F_crossed = CC.F_crossed := rfl
theorem ZeV : F_following = CC.F_following := rfl
theorem Zen : F_ask_smooth = CC.F_ask_smooth := rfl
section
variable {Q : D → Sto → Prop} {E : Str → Sto → Prop} {M : Sto} {a b c d i : Int} {n : Nat} {rs : List Pt}
theorem Zhs (h : M[n]? = some (.lst (prs rs))) (hs : Smo rs) (hl : rs.length ≤ 1000000) (hb : Nr 18446744073709551615 rs) (q : Q (.ref M.length) (M ++ [.lst (nts (Zcf rs))])) : wO (F_numbers [.ref n] M) Q E := by
  have hm := Zt h
  have hn := hs.len
  simp! [F_numbers, Zcg, Zen]
  refine CC.ZcE h hs hb ?_
  simp! [h]
  refine ⟨by omega, ?_⟩
  rw [show ((rs.length : Int)).toNat = rs.length by omega]
  refine Zsl (fun ρ => ∃ x, ρ = [x, some (.ref n)]) (fun (i : Nat) => .int (T rs i)) (by omega) ⟨_, rfl⟩ ?_ (by rw [ZdG]; exact q)
  rintro i hi ρ L ⟨x, rfl⟩
  have b1 := CC.Nr.big hb (by decide) hs.ne (i + 1)
  have hL : (M ++ L)[n]? = some (.lst (prs rs)) := by rw [Zdd hm]; exact h
  simp! [ZeV, Zhr, CC.Zb3 hL, h, Zdp, CC.Zel]
  refine ⟨⟨_, rfl⟩, ?_⟩
  unfold T
  rw [← Zjs]
  rfl
end
end CE
end
section
set_option Elab.async false
set_option linter.all false
set_option maxRecDepth 100000
set_option maxHeartbeats 4000000
namespace CF
open PySem PySem.Spec L2 DL CC
end CF
end
section
set_option Elab.async false
set_option linter.all false
set_option maxRecDepth 100000
set_option maxHeartbeats 4000000
namespace CF
open PySem PySem.Spec L2 DL
section
variable {Q : D → Sto → Prop} {E : Str → Sto → Prop} {M : Sto} {a b c d i : Int} {n : Nat} {rs : List Pt}
end
end CF
end
section
set_option Elab.async false
set_option linter.all false
set_option maxRecDepth 100000
set_option maxHeartbeats 4000000
namespace DL
open PySem PySem.Spec L2 DL
section
variable {M : Sto}
end
end DL
end
section
set_option Elab.async false
set_option linter.all false
set_option maxRecDepth 100000
set_option maxHeartbeats 4000000
namespace CB
open PySem PySem.Spec L2 DL
noncomputable def Zbo : Sv := (Zu (ZH (gNm 2) (eC (.int 0)))
  (Zu (sIf (tv (e2 dLt (Zd 1) (Zh bLen (Zb (Zd 0) aNil)))) (ZH (gNm 2) (e2 dIx (Zd 0) (Zd 1))) sNil)
  (Zu (ZH (gNm 3) (e2 dMod (Zd 2) (e2 dMul (e2 dPow (eC (.int 10)) (eC (.int 60))) (e2 dPow (eC (.int 10)) (eC (.int 30))))))
  (ZM (Zbb (Zb (e2 dMul (Zd 3) (Zh bInt (Zb (e2 dGe (Zd 3) (e2 dPow (eC (.int 10)) (eC (.int 18)))) aNil))) (Zb (e2 dAdd (e2 dAdd (e2 dMod (Zd 2) (eC (.int 2147483647))) (e2 dMul (eC (.int 7919)) (Zd 1))) (eC (.int 1))) aNil)))))))
noncomputable def F_law_purse : List D → Sto → Out D := fnF Zbo 2 2
noncomputable def ZbJ : Sv := (Zu (sIf (tv (e2 dGt (e2 dIx (Zd 0) (eC (.int 0))) (eC (.int 0)))) (Zu (ZH (gNm 2) (e2 dMod (e2 dIx (Zd 0) (eC (.int 0))) (Zd 1)))
  (Zu (Zid (Zd 0) (eC (.int 0)) (e2 dDiv (e2 dIx (Zd 0) (eC (.int 0))) (Zd 1)))
  (ZM (Zd 2)))) sNil)
  (Zu (Zid (Zd 0) (eC (.int 1)) (e2 dMod (e2 dAdd (e2 dMul (e2 dIx (Zd 0) (eC (.int 1))) (eC (.int 48271))) (eC (.int 12345))) (eC (.int 2147483647))))
  (ZM (e2 dMod (e2 dDiv (e2 dMod (e2 dMul (e2 dIx (Zd 0) (eC (.int 1))) (eC (.int 69621))) (eC (.int 2147483629))) (eC (.int 5))) (Zd 1)))))
noncomputable def F_law_take : List D → Sto → Out D := fnF ZbJ 2 1
end CB
end
section
set_option Elab.async false
set_option linter.all false
set_option maxRecDepth 100000
set_option maxHeartbeats 4000000
namespace DL
noncomputable def hj (t b : Int) : List Int := if h : 0 < b then -((-t) / b) :: hj b (-((-t) / b) * b - t) else []
termination_by b.toNat
decreasing_by
  have h1 := Int.emod_nonneg (-t) (show b ≠ 0 by omega)
  have h2 := Int.emod_lt_of_pos (-t) h
  have h3 := Int.emod_add_mul_ediv (-t) b
  rw [Int.neg_mul, Int.mul_comm]
  omega
end DL
namespace CB
open PySem PySem.Spec L2 DL
section
variable {Q : D → Sto → Prop} {E : Str → Sto → Prop} {M : Sto} {a b c d i : Int} {n m : Nat} {u v w : Pt}
noncomputable abbrev Bd (b : Int) (p : Pt) : Prop := (-b ≤ p.1 ∧ p.1 ≤ b) ∧ -b ≤ p.2 ∧ p.2 ≤ b
structure Wg (u v : Pt) : Prop where
  gu : Int.gcd u.1 u.2 = 1
  gv : Int.gcd v.1 v.2 = 1
  bu : Bd 1000 u
  bv : Bd 1000 v
  pos : 0 < X u v
theorem Wg.le (h : Wg u v) : X u v ≤ 2000000 := by
  obtain ⟨_, _, ⟨⟨a1, a2⟩, a3, a4⟩, ⟨⟨b1, b2⟩, b3, b4⟩, _⟩ := h
  have m : ∀ x y : Int, -1000 ≤ x → x ≤ 1000 → -1000 ≤ y → y ≤ 1000 → (x * y).natAbs ≤ 1000 * 1000 := by
    intro x y _ _ _ _
    rw [Int.natAbs_mul]
    exact Nat.mul_le_mul (by omega) (by omega)
  have p1 := m u.1 v.2 a1 a2 b3 b4
  have p2 := m u.2 v.1 a3 a4 b1 b2
  unfold X
  omega
structure Fb (u v w : Pt) : Prop where
  one : X u w = 1
  lo : 0 ≤ X w v
  hi : X w v < X u v
theorem Fb.uniq {w w' : Pt} (h : Fb u v w) (k : Fb u v w') : w = w' := by
  obtain ⟨h1, a1, a2⟩ := h
  obtain ⟨h2, b1, b2⟩ := k
  have e1 : w'.1 = X w' w * u.1 + w.1 ∧ w'.2 = X w' w * u.2 + w.2 := by unfold X at *; constructor <;> grind
  have e2 : X w' v = X w' w * X u v + X w v := by
    have : X w' v = X (X w' w * u.1 + w.1, X w' w * u.2 + w.2) v := by rw [← e1.1, ← e1.2]
    rw [this]
    unfold X
    simp only
    grind
  generalize X w' w = k at *
  have k0 : k = 0 := by
    apply Classical.byContradiction
    intro c
    by_cases p : 1 ≤ k
    · have : 1 * X u v ≤ k * X u v := Int.mul_le_mul_of_nonneg_right p (by omega)
      omega
    · have : k * X u v ≤ (-1) * X u v := Int.mul_le_mul_of_nonneg_right (by omega) (by omega)
      omega
  rw [k0] at e1
  apply Prod.ext <;> omega
noncomputable def btw : Pt → Pt → List Int → List Pt
  | _, _, [] => []
  | a, r, k :: ks => r :: btw r (k * r.1 - a.1, k * r.2 - a.2) ks
end
end CB
end
section
set_option Elab.async false
set_option linter.all false
set_option maxRecDepth 100000
set_option maxHeartbeats 4000000
namespace CB
open PySem PySem.Spec L2 DL
section
variable {Q : D → Sto → Prop} {E : Str → Sto → Prop} {M : Sto} {a b c d i : Int} {n m : Nat} {u v w : Pt}
theorem ZkN {ns : List Int} {k : Nat} (hk : k < 1000) (q : ∀ a b : Int, 0 ≤ a → Q (.ref M.length) (M ++ [.lst [.int a, .int b]])) : wO (F_law_purse [.rol (ns.map D.int), .int k] M) Q E := by
  have big : ZC 1000000000000000000000000000000000000000000000000000000000000 1000000000000000000000000000000 := ZN 300 300 (by decide +kernel) (by decide +kernel) (by decide) (by decide)
  simp! [F_law_purse, Zbo]
  refine brS (fun h1 => ?_) (fun h1 => ?_)
  · have h2 : k < ns.length := by simpa using h1
    simp! [Ziv h2, Za1 big]
    obtain ⟨l, hl, l0⟩ : ∃ l : Int, ns[k] % 1000000000000000000000000000000000000000000000000000000000000000000000000000000000000000000 = l ∧ 0 ≤ l := ⟨_, rfl, by omega⟩
    rw [hl]
    refine q _ _ ?_
    split <;> omega
  · simp! [Za1 big]
    exact q _ _ (by omega)
theorem ZaZ {t : Int} (hb : Bag n M) (ht : 0 < t ∧ t < 18446744073709551616) (q : ∀ r M', 0 ≤ r → r < t → Gr n M M' → Q (.int r) M') : wO (F_law_take [.ref n, .int t] M) Q E := by
  obtain ⟨a, b, ha, e⟩ := hb
  have hl : n < M.length := Zt e
  have hs : ∀ x, (M.set n x)[n]? = some x := fun x => List.getElem?_set_self hl
  have gr : ∀ a' b', 0 ≤ a' → Gr n M (M.set n (.lst [.int a', .int b'])) := fun a' b' h => ⟨by simp, ⟨a', b', h, hs _⟩, fun k hk _ => by rw [List.getElem?_set_ne (Ne.symm hk)]⟩
  have m1 := Int.emod_nonneg a (show t ≠ 0 by omega)
  have m2 := Int.emod_lt_of_pos a ht.1
  simp! [F_law_take, ZbJ, e]
  refine brS (fun h1 => ?_) (fun h1 => ?_)
  · simp! [e, ix0]
    exact q _ _ m1 m2 (gr _ _ (Int.ediv_nonneg ha (by omega)))
  · simp! [e, ix1]
    exact q _ _ (Int.emod_nonneg _ (by omega)) (Int.emod_lt_of_pos _ ht.1) (gr _ _ ha)
noncomputable def Ch : List Pt → Prop
  | a :: b :: r => X a b = 1 ∧ Ch (b :: r)
  | _ => True
noncomputable def Tr (a b d : Pt) : Prop := ∃ k : Int, 2 ≤ k ∧ a.1 + d.1 = k * b.1 ∧ a.2 + d.2 = k * b.2
noncomputable def Cv : List Pt → Prop
  | a :: b :: d :: r => Tr a b d ∧ Cv (b :: d :: r)
  | _ => True
end
section
variable {u v w : Pt}
end
end CB
end
section
set_option Elab.async false
set_option linter.all false
set_option maxRecDepth 100000
set_option maxHeartbeats 4000000
namespace CA
open PySem PySem.Spec L2 DL
end CA
end
section
set_option Elab.async false
set_option linter.all false
set_option maxRecDepth 100000
set_option maxHeartbeats 4000000
namespace CA
open PySem PySem.Spec L2 DL
structure Tn (B a b c d : Int) : Prop where
  fa : -B ≤ a ∧ a ≤ B
  fb : -B ≤ b ∧ b ≤ B
  fc : -B ≤ c ∧ c ≤ B
  fd : -B ≤ d ∧ d ≤ B
  det : a * d - b * c = 1 ∨ a * d - b * c = -1
theorem Zga {B C x y : Int} (hx : -B ≤ x ∧ x ≤ B) (hy : -C ≤ y ∧ y ≤ C) : -(B * C) ≤ x * y ∧ x * y ≤ B * C := by
  have h : (x * y).natAbs ≤ (B * C).natAbs := by
    rw [Int.natAbs_mul, Int.natAbs_mul]
    exact Nat.mul_le_mul (by omega) (by omega)
  have : 0 ≤ B * C := Int.mul_nonneg (by omega) (by omega)
  omega
section
variable {Q : D → Sto → Prop} {E : Str → Sto → Prop} {M : Sto} {a b c d i : Int} {n m : Nat} {rs : List Pt}
theorem Zjt (h : rs ≠ []) (i : Int) : cy rs.reverse i = cy rs (-1 - i) := by
  have hl : rs.length ≠ 0 := by simpa using h
  have e1 : cy rs.reverse i = cy rs.reverse (i % rs.length) := by
    conv => rhs; rw [← List.length_reverse (as := rs), ZcD]
  have e2 : cy rs (-1 - i) = cy rs (-1 - i % rs.length) := by
    unfold cy
    congr 2
    rw [Int.sub_emod, Int.sub_emod (-1) (i % rs.length), Int.emod_emod_of_dvd _ (Int.dvd_refl _)]
  rw [e1, e2]
  obtain ⟨a, b⟩ := Z7 (i := i) hl
  generalize i % (rs.length : Int) = m at *
  rw [Zb2 (by rw [List.length_reverse]; omega), ← Zhk (rs := rs), Zb2 (by omega)]
  rw [List.getD_eq_getElem?_getD, List.getD_eq_getElem?_getD, List.getElem?_reverse (by omega)]
  congr 2
  omega
theorem ZkO (hl : 3 ≤ rs.length) (h : ∀ i : Int, X (cy rs i) (cy rs (i + 1)) = -1) (hf : Fan rs.reverse) : Smo rs.reverse := by
  have ne : rs ≠ [] := by intro z; rw [z] at hl; simp at hl
  refine ⟨by rw [List.length_reverse]; exact hl, fun i => ?_, hf⟩
  rw [Zjt ne, Zjt ne, Zjs]
  have := h (-1 - (i + 1))
  rw [show -1 - (i + 1) + 1 = -1 - i by omega] at this
  omega
theorem Gr.up {k : Nat} {M M1 : Sto} {o : SO} (h : M[k]? = some o) (g : Gr n M M1) (hk : k ≠ n) : M1[k]? = some o := by
  rw [g.keep k hk (Zt h)]
  exact h
end
end CA
end
section
set_option Elab.async false
set_option linter.all false
set_option maxRecDepth 100000
set_option maxHeartbeats 4000000
namespace CY
open PySem PySem.Spec L2 DL CA
end CY
end
section
set_option Elab.async false
set_option linter.all false
set_option maxRecDepth 100000
set_option maxHeartbeats 4000000
namespace CY
open PySem PySem.Spec L2 DL
section
variable {Q : D → Sto → Prop} {E : Str → Sto → Prop} {M : Sto} {n m : Nat} {rs : List Pt}
theorem Gr.of {M M' : Sto} (hb : Bag n M) (l : M.length ≤ M'.length) (g : ∀ k, k < M.length → M'[k]? = M[k]?) : Gr n M M' := by
  refine ⟨l, ?_, fun k _ hk => g k hk⟩
  obtain ⟨a, b, h, e⟩ := id hb
  exact ⟨a, b, h, (g n hb.lt).trans e⟩
end
end CY
end
section
set_option Elab.async false
set_option linter.all false
set_option maxRecDepth 100000
set_option maxHeartbeats 4000000
namespace CR
open PySem PySem.Spec L2 DL
noncomputable def ZbK : Sv := (ZM (ZfQ (Zf9 "int" (Zd 0)) (ZfR (Zf9 "bool" (Zd 0)))))
noncomputable def F_is_whole : List D → Sto → Out D := fnF ZbK 1 0
noncomputable def Z0 : Sv := (Zda 2 3 (Zb (Zd 3) (Zb (e2 dMod (Zd 2) (Zd 3)) aNil)))
noncomputable def Zao : Sv := (Zu (Zda 2 3 (Zb (Zh bAbs (Zb (Zd 0) aNil)) (Zb (Zh bAbs (Zb (Zd 1) aNil)) aNil)))
  (Zu (sWh (tv (e2 dNe (Zd 3) (eC (.int 0)))) Z0)
  (ZM (Zd 2))))
noncomputable def F_greatest_divisor : List D → Sto → Out D := fnF Zao 2 2
noncomputable def ZdJ : Sv := (Zu (sIf (Zfl (Zcc (tv (Zh F_is_whole (Zb (Zd 0) aNil)))) (Zcc (tv (Zh F_is_whole (Zb (Zd 1) aNil))))) (ZaX (PySem.Str.ofString "NoRatio") (Zb (eC (.str (PySem.Str.ofString "a ratio is made of two whole numbers"))) aNil)) sNil)
  (Zu (sIf (tv (e2 dEq (Zd 1) (eC (.int 0)))) (ZaX (PySem.Str.ofString "NoRatio") (Zb (eC (.str (PySem.Str.ofString "the bottom of a ratio is not 0"))) aNil)) sNil)
  (Zu (ZH (gNm 2) (Zh F_greatest_divisor (Zb (Zd 0) (Zb (Zd 1) aNil))))
  (Zu (sIf (tv (e2 dLt (Zd 1) (eC (.int 0)))) (ZH (gNm 2) (Zfm (Zd 2))) sNil)
  (ZM (Zal (Zb (e2 dDiv (Zd 0) (Zd 2)) (Zb (e2 dDiv (Zd 1) (Zd 2)) aNil))))))))
noncomputable def F_ratio : List D → Sto → Out D := fnF ZdJ 2 1
noncomputable def ZfB : Sv := (ZM (Zh F_ratio (Zb (e2 dAdd (e2 dMul (e2 dIx (Zd 0) (eC (.int 0))) (e2 dIx (Zd 1) (eC (.int 1)))) (e2 dMul (e2 dIx (Zd 1) (eC (.int 0))) (e2 dIx (Zd 0) (eC (.int 1))))) (Zb (e2 dMul (e2 dIx (Zd 0) (eC (.int 1))) (e2 dIx (Zd 1) (eC (.int 1)))) aNil))))
noncomputable def F_plus : List D → Sto → Out D := fnF ZfB 2 0
noncomputable def ZdK : Sv := (ZM (Zh F_ratio (Zb (e2 dMul (e2 dIx (Zd 0) (eC (.int 0))) (e2 dIx (Zd 1) (eC (.int 0)))) (Zb (e2 dMul (e2 dIx (Zd 0) (eC (.int 1))) (e2 dIx (Zd 1) (eC (.int 1)))) aNil))))
noncomputable def F_times : List D → Sto → Out D := fnF ZdK 2 0
noncomputable def ZcF : Sv := (Zda 2 3 (Zb (Zd 3) (Zb (e2 dMod (Zd 2) (Zd 3)) aNil)))
noncomputable def Zeo : Sv := (Zu (Zda 2 3 (Zb (Zh bAbs (Zb (Zd 0) aNil)) (Zb (Zd 1) aNil)))
  (Zu (sWh (tv (e2 dGt (Zd 3) (eC (.int 0)))) ZcF)
  (ZM (Zal (Zb (e2 dDiv (Zd 0) (Zd 2)) (Zb (e2 dDiv (Zd 1) (Zd 2)) aNil))))))
noncomputable def F_law_low : List D → Sto → Out D := fnF Zeo 2 2
end CR
end
section
set_option Elab.async false
set_option linter.all false
set_option maxRecDepth 100000
set_option maxHeartbeats 4000000
namespace CR
open PySem PySem.Spec L2 DL
noncomputable abbrev rt (q : Rat) : D := pr q.num (q.den : Int)
noncomputable def Sz (k : Nat) (q : Rat) : Prop := q.num.natAbs < 2 ^ k ∧ q.den < 2 ^ k
theorem ZpV : F_greatest_divisor = FGcd := rfl
section
variable {Q : D → Sto → Prop} {E : Str → Sto → Prop} {M : Sto} {k l : Nat} {p q : Rat}
theorem ZfC {i j : Int} (h : 0 < j) (hk : j.natAbs < 2 ^ k) (hk2 : k ≤ 8000) : wO (dDiv (.int i) (.int j) M) Q E = Q (.int (i / j)) M := by
  have : Za9 j := ⟨by omega, by
    have : j.natAbs.log2 < k := (Nat.log2_lt (by omega)).mpr hk
    omega⟩
  show wO (if Za9 j then _ else _) Q E = _
  rw [if_pos this, Int.fdiv_eq_ediv_of_nonneg _ (by omega)]; rfl
theorem Zht {t : Int} {b : Nat} (hb : b ≠ 0) : rt (Rat.normalize t b hb) = pr (t / (Int.gcd t b : Nat)) ((b : Int) / (Int.gcd t b : Nat)) := by
  unfold rt
  rw [Rat.num_normalize, Rat.den_normalize, Int.natCast_ediv]
  rfl
theorem Zju {t : Int} {b : Nat} (hb : b ≠ 0) (h : b < 2 ^ k) : 0 < Int.gcd t b ∧ Int.gcd t b < 2 ^ k := by
  have h1 : Int.gcd t b ∣ b := Int.gcd_dvd_natAbs_right t b
  have h2 := Nat.le_of_dvd (by omega) h1
  have h3 : Int.gcd t b ≠ 0 := fun z => by
    rw [z] at h1
    exact hb (Nat.eq_zero_of_zero_dvd h1)
  omega
theorem ZeW {t : Int} {b : Nat} (hb : b ≠ 0) (h : b < 2 ^ k) (hk : k ≤ 8000) : wO (F_ratio [.int t, .int b] M) Q E = Q (rt (Rat.normalize t b hb)) M := by
  obtain ⟨g0, g1⟩ := Zju (t := t) hb h
  have gw : ∀ {Q : D → Sto → Prop}, wO (FGcd [.int t, .int b] M) Q E = Q (.int (Int.gcd t b : Nat)) M := by
    intro Q
    rw [Zmn]
    rfl
  rw [Zht hb]
  generalize Int.gcd t b = g at *
  simp! [F_ratio, ZdJ, F_is_whole, ZbK, ZpV, gw]
  rw [ZfC (k := k) (by omega) (by simpa using g1) hk]
  simp! [Zs]
  rw [ZfC (k := k) (by omega) (by simpa using g1) hk]
  simp! [Zs]
theorem ZpW {t : Int} {b : Nat} (hb : b ≠ 0) (h : b < 2 ^ k) (hk : k ≤ 8000) (q' : Q (rt (Rat.normalize t b hb)) M) : wO (F_law_low [.int t, .int b] M) Q E := by
  obtain ⟨g0, g1⟩ := Zju (t := t) hb h
  rw [Zht hb] at q'
  simp! [F_law_low, Zeo]
  refine ZpQ (fun j ρ M' => M' = M ∧ ∃ a c : Nat, ρ = [some (.int t), some (.int b), some (.int a), some (.int c)] ∧ j = c ∧ Nat.gcd a c = Int.gcd t b) ?_ b _ _ ⟨rfl, t.natAbs, b, rfl, rfl, rfl⟩
  rintro j ρ M ⟨rfl, a, c, rfl, rfl, g⟩
  simp! [Zs]
  refine ZpR (fun h' => ?_) (fun h' => ?_)
  · simp! [ZcF]
    have hc : 0 < j := by omega
    refine ⟨a % j, Nat.mod_lt a hc, j, a % j, by rw [Int.natCast_emod], rfl, ?_⟩
    rw [← g, Nat.gcd_comm j, ← Nat.gcd_rec, Nat.gcd_comm]
  · have j0 : j = 0 := by omega
    subst j0
    rw [Nat.gcd_zero_right] at g
    rw [← g] at q' g0 g1
    simp! [Zs]
    rw [ZfC (k := k) (by omega) (by simpa using g1) hk]
    simp! [Zs]
    rw [ZfC (k := k) (by omega) (by simpa using g1) hk]
    simp! [Zs]
    exact q'
theorem ZdL {t : Int} {b : Nat} (hb : b ≠ 0) (ht : t.natAbs < 2 ^ k) (h : b < 2 ^ k) : Sz k (Rat.normalize t b hb) := by
  refine ⟨?_, ?_⟩
  · rw [Rat.num_normalize]
    exact Nat.lt_of_le_of_lt (Int.natAbs_ediv_le_natAbs _ _) ht
  · rw [Rat.den_normalize]
    exact Nat.lt_of_le_of_lt (Nat.div_le_self _ _) h
theorem ZbC {x y : Nat} (hx : x < 2 ^ k) (hy : y < 2 ^ l) : x * y < 2 ^ (k + l) := by
  rw [Nat.pow_add]
  exact Nat.mul_lt_mul'' hx hy
theorem Zhu (hp : Sz k p) (hq : Sz l q) (hk : k + l ≤ 8000) : wO (F_plus [rt p, rt q] M) Q E = Q (rt (p + q)) M := by
  have nz : p.den * q.den ≠ 0 := Nat.mul_ne_zero p.den_nz q.den_nz
  have f1 : ZC p.num (q.den : Int) := ZN k l hp.1 (by simpa using hq.2) (by omega) (by omega)
  have f2 : ZC q.num (p.den : Int) := ZN l k hq.1 (by simpa using hp.2) (by omega) (by omega)
  have f3 : ZC (p.den : Int) (q.den : Int) := ZN k l (by simpa using hp.2) (by simpa using hq.2) (by omega) (by omega)
  simp! [F_plus, ZfB, Za1 f1, Za1 f2, Za1 f3]
  rw [show (p.den : Int) * (q.den : Int) = ((p.den * q.den : Nat) : Int) by simp, ZeW nz (ZbC hp.2 hq.2) hk, ← Rat.add_def]
theorem Zb5 (hp : Sz k p) (hq : Sz l q) (hk : k + l ≤ 8000) : wO (F_times [rt p, rt q] M) Q E = Q (rt (p * q)) M := by
  have nz : p.den * q.den ≠ 0 := Nat.mul_ne_zero p.den_nz q.den_nz
  have f1 : ZC p.num q.num := ZN k l hp.1 hq.1 (by omega) (by omega)
  have f3 : ZC (p.den : Int) (q.den : Int) := ZN k l (by simpa using hp.2) (by simpa using hq.2) (by omega) (by omega)
  simp! [F_times, ZdK, Za1 f1, Za1 f3]
  rw [show (p.den : Int) * (q.den : Int) = ((p.den * q.den : Nat) : Int) by simp, ZeW nz (ZbC hp.2 hq.2) hk, ← Rat.mul_def]
theorem Za2 (hp : Sz k p) (hq : Sz l q) : Sz (k + l) (p * q) := by
  rw [Rat.mul_def]
  exact ZdL _ (by rw [Int.natAbs_mul]; exact ZbC hp.1 hq.1) (ZbC hp.2 hq.2)
theorem ZfD (hp : Sz k p) (hq : Sz l q) : Sz (k + l + 1) (p + q) := by
  rw [Rat.add_def]
  have h1 := ZbC hp.1 hq.2
  have h2 := ZbC hq.1 hp.2
  have h3 := ZbC hp.2 hq.2
  rw [Nat.add_comm l k] at h2
  refine ZdL _ ?_ ?_
  · have e1 : (p.num * (q.den : Int)).natAbs = p.num.natAbs * q.den := by rw [Int.natAbs_mul]; rfl
    have e2 : (q.num * (p.den : Int)).natAbs = q.num.natAbs * p.den := by rw [Int.natAbs_mul]; rfl
    have := Int.natAbs_add_le (p.num * (q.den : Int)) (q.num * (p.den : Int))
    rw [Nat.pow_succ]
    omega
  · rw [Nat.pow_succ]
    omega
end
end CR
end
section
set_option Elab.async false
set_option linter.all false
set_option maxRecDepth 100000
set_option maxHeartbeats 4000000
namespace CH
open PySem PySem.Spec L2 DL CA CR
end CH
end
section
set_option Elab.async false
set_option linter.all false
set_option maxRecDepth 100000
set_option maxHeartbeats 4000000
namespace CH
open PySem PySem.Spec L2 DL
open CR (rt Sz)
noncomputable def rts (hs : List Rat) : List D := hs.map rt
theorem ZF {hs : List Rat} : (rts hs).length = hs.length := List.length_map _
theorem Z9 {hs : List Rat} {q : Rat} : rts hs ++ [rt q] = rts (hs ++ [q]) := by simp [rts]
section
variable {Q : D → Sto → Prop} {E : Str → Sto → Prop} {M : Sto} {n : Nat}
end
end CH
end
section
set_option Elab.async false
set_option linter.all false
set_option maxRecDepth 100000
set_option maxHeartbeats 4000000
namespace CS
open PySem PySem.Spec L2 DL CC CR
noncomputable def ZdM : Sv := (ZM (Zh F_ratio (Zb (e2 dSub (e2 dMul (e2 dIx (Zd 0) (eC (.int 0))) (e2 dIx (Zd 1) (eC (.int 1)))) (e2 dMul (e2 dIx (Zd 1) (eC (.int 0))) (e2 dIx (Zd 0) (eC (.int 1))))) (Zb (e2 dMul (e2 dIx (Zd 0) (eC (.int 1))) (e2 dIx (Zd 1) (eC (.int 1)))) aNil))))
noncomputable def F_minus : List D → Sto → Out D := fnF ZdM 2 0
noncomputable def ZcO : Sv := (ZM (Zh F_plus (Zb (Zh F_times (Zb (e2 dIx (Zd 0) (eC (.int 0))) (Zb (Zal (Zb (e2 dIx (Zd 1) (eC (.int 0))) (Zb (eC (.int 1)) aNil))) aNil))) (Zb (Zh F_times (Zb (e2 dIx (Zd 0) (eC (.int 1))) (Zb (Zal (Zb (e2 dIx (Zd 1) (eC (.int 1))) (Zb (eC (.int 1)) aNil))) aNil))) aNil))))
noncomputable def F_sloped : List D → Sto → Out D := fnF ZcO 2 0
noncomputable def Zap : Sv := (Zu (ZH (gTp (gCs (gTp (gCs (gNm 2) (gCs (gNm 3) gNl))) (gCs (gTp (gCs (gNm 4) (gCs (gNm 5) gNl))) gNl))) (Zal (Zb (e2 dIx (Zd 0) (eC (.int 0))) (Zb (e2 dIx (Zd 0) (eC (.int 1))) aNil))))
  (Zu (Zda 6 7 (Zb (e2 dIx (Zd 1) (eC (.int 0))) (Zb (e2 dIx (Zd 1) (eC (.int 1))) aNil)))
  (ZM (Zal (Zb (Zh F_minus (Zb (Zh F_times (Zb (Zd 6) (Zb (Zal (Zb (Zd 5) (Zb (eC (.int 1)) aNil))) aNil))) (Zb (Zh F_times (Zb (Zd 7) (Zb (Zal (Zb (Zd 3) (Zb (eC (.int 1)) aNil))) aNil))) aNil))) (Zb (Zh F_minus (Zb (Zh F_times (Zb (Zd 7) (Zb (Zal (Zb (Zd 2) (Zb (eC (.int 1)) aNil))) aNil))) (Zb (Zh F_times (Zb (Zd 6) (Zb (Zal (Zb (Zd 4) (Zb (eC (.int 1)) aNil))) aNil))) aNil))) aNil))))))
noncomputable def F_slope_through : List D → Sto → Out D := fnF Zap 2 6
noncomputable def Za3 : Sv := (sIf (tv (e2 dNe (Zh bLen (Zb (Zd 1) aNil)) (Zh bLen (Zb (Zd 0) aNil)))) (ZaX (PySem.Str.ofString "NoHeight") (Zb (eFs (Zbg (eC (.str (PySem.Str.ofString "a height of "))) (Zbg (eFm (Zh bLen (Zb (Zd 0) aNil))) (Zbg (eC (.str (PySem.Str.ofString " rays has not "))) (Zbg (eFm (Zh bLen (Zb (Zd 1) aNil))) (Zbg (eC (.str (PySem.Str.ofString " ratios"))) jNil)))))) aNil)) sNil)
noncomputable def F_ask_height : List D → Sto → Out D := fnF Za3 2 0
end CS
end
section
set_option Elab.async false
set_option linter.all false
set_option maxRecDepth 100000
set_option maxHeartbeats 4000000
namespace CS
open PySem PySem.Spec L2 DL
open CR (rt Sz)
section
variable {Q : D → Sto → Prop} {E : Str → Sto → Prop} {M : Sto} {k l : Nat} {p q : Rat}
theorem Zdr (z : Int) : pr z 1 = rt (z : Rat) := by
  unfold rt
  rw [Rat.num_intCast, Rat.den_intCast]
  rfl
theorem Za4 {z : Int} (h : z.natAbs < 2 ^ k) (hk : 1 ≤ k) : Sz k (z : Rat) := by
  refine ⟨by rw [Rat.num_intCast]; exact h, by rw [Rat.den_intCast]; exact Nat.one_lt_two_pow (by omega)⟩
theorem ZeX (hp : Sz k p) (hq : Sz l q) (hk : k + l ≤ 8000) : wO (F_minus [rt p, rt q] M) Q E = Q (rt (p - q)) M := by
  have nz : p.den * q.den ≠ 0 := Nat.mul_ne_zero p.den_nz q.den_nz
  have f1 : ZC p.num (q.den : Int) := ZN k l hp.1 (by simpa using hq.2) (by omega) (by omega)
  have f2 : ZC q.num (p.den : Int) := ZN l k hq.1 (by simpa using hp.2) (by omega) (by omega)
  have f3 : ZC (p.den : Int) (q.den : Int) := ZN k l (by simpa using hp.2) (by simpa using hq.2) (by omega) (by omega)
  simp! [F_minus, ZdM, Za1 f1, Za1 f2, Za1 f3]
  rw [show (p.den : Int) * (q.den : Int) = ((p.den * q.den : Nat) : Int) by simp, CR.ZeW nz (CR.ZbC hp.2 hq.2) hk, ← Rat.sub_def]
theorem Zjv {t : Int} {b : Nat} (hb : b ≠ 0) (h : b < 2 ^ k) (hk : k ≤ 8000) : wO (CR.F_law_low [.int t, .int b] M) Q E = Q (rt (Rat.normalize t b hb)) M := by
  obtain ⟨d, M', e, e1, e2⟩ := Zha (CR.ZpW (Q := fun d M' => d = rt (Rat.normalize t b hb) ∧ M' = M) (E := fun _ _ => False) (t := t) hb h hk ⟨rfl, rfl⟩)
  rw [e, e1, e2]
  rfl
theorem Zhv : Rat.normalize q.num q.den q.den_nz = q := Rat.normalize_self q
theorem Zep (hp : Sz k p) (hq : Sz l q) : Sz (k + l + 1) (p - q) := by
  rw [Rat.sub_def]
  have h1 := CR.ZbC hp.1 hq.2
  have h2 := CR.ZbC hq.1 hp.2
  have h3 := CR.ZbC hp.2 hq.2
  rw [Nat.add_comm l k] at h2
  refine CR.ZdL _ ?_ ?_
  · have e1 : (p.num * (q.den : Int)).natAbs = p.num.natAbs * q.den := by rw [Int.natAbs_mul]; rfl
    have e2 : (q.num * (p.den : Int)).natAbs = q.num.natAbs * p.den := by rw [Int.natAbs_mul]; rfl
    have := Int.natAbs_sub_le (p.num * (q.den : Int)) (q.num * (p.den : Int))
    rw [Nat.pow_succ]
    omega
  · rw [Nat.pow_succ]
    omega
noncomputable def slp (m : Rat × Rat) (r : Pt) : Rat := m.1 * (r.1 : Rat) + m.2 * (r.2 : Rat)
theorem ZiJ {m : Rat × Rat} {r : Pt} (h1 : Sz k m.1) (h2 : Sz k m.2) (hr : (-200 ≤ r.1 ∧ r.1 ≤ 200) ∧ -200 ≤ r.2 ∧ r.2 ≤ 200) (hk : k ≤ 3000) : wO (F_sloped [.tup [rt m.1, rt m.2], pr r.1 r.2] M) Q E = Q (rt (slp m r)) M := by
  have s1 : Sz 8 (r.1 : Rat) := Za4 (by omega) (by decide)
  have s2 : Sz 8 (r.2 : Rat) := Za4 (by omega) (by decide)
  simp! [F_sloped, ZcO]
  rw [show D.tup [D.int r.1, D.int 1] = rt (r.1 : Rat) from Zdr r.1, CR.Zb5 h1 s1 (by omega)]
  simp! [Zs]
  rw [show D.tup [D.int r.2, D.int 1] = rt (r.2 : Rat) from Zdr r.2, CR.Zb5 h2 s2 (by omega)]
  simp! [Zs]
  rw [CR.Zhu (CR.Za2 h1 s1) (CR.Za2 h2 s2) (by omega)]
  rfl
end
end CS
end
section
set_option Elab.async false
set_option linter.all false
set_option maxRecDepth 100000
set_option maxHeartbeats 4000000
namespace CN
open PySem PySem.Spec L2 DL
open CE (F_numbers)
open CC (F_following)
open CR (F_plus F_times F_law_low)
open CS (F_ask_height)
noncomputable def ZbL : Sv := (Zu (ZH (gNm 6) (Zh F_plus (Zb (e2 dIx (Zd 1) (e2 dSub (Zd 4) (eC (.int 1)))) (Zb (Zh F_following (Zb (Zd 1) (Zb (Zd 4) aNil))) aNil))))
  (Zbe (ZeM mApp (Zd 3) (Zb (Zh F_plus (Zb (Zd 6) (Zb (Zh F_times (Zb (Zal (Zb (e2 dIx (Zd 2) (Zd 4)) (Zb (eC (.int 1)) aNil))) (Zb (Zd 5) aNil))) aNil))) aNil))))
noncomputable def ZdN : Sv := (Zu (ZH (gNm 2) (Zh F_numbers (Zb (Zd 0) aNil)))
  (Zu (Zbe (Zh F_ask_height (Zb (Zd 0) (Zb (Zd 1) aNil))))
  (Zu (ZH (gNm 3) (Zbb aNil))
  (Zu (Zdc (gTp (gCs (gNm 4) (gCs (gNm 5) gNl))) (iEn (Zb (Zd 1) aNil)) ZbL)
  (ZM (Zd 3))))))
noncomputable def F_bends : List D → Sto → Out D := fnF ZdN 2 5
end CN
end
section
set_option Elab.async false
set_option linter.all false
set_option maxRecDepth 100000
set_option maxHeartbeats 4000000
namespace CN
open PySem PySem.Spec L2 DL
open CR (rt Sz)
open CH (rts ZF Z9)
noncomputable def cq (hs : List Rat) (i : Int) : Rat := hs.getD (i % hs.length).toNat 0
theorem Zeq {hs : List Rat} {i : Int} (h : -(hs.length : Int) ≤ i ∧ i < hs.length) : atI (rts hs) i = some (rt (cq hs i)) := by
  unfold atI
  rw [ZF, Zhh h]
  have hp : (i % hs.length).toNat < hs.length := by
    have := Int.emod_lt_of_pos i (show (0 : Int) < hs.length by omega)
    have := Int.emod_nonneg i (show (hs.length : Int) ≠ 0 by omega)
    omega
  simp [rts, cq, List.getElem?_eq_getElem hp]
theorem Zjw {hs : List Rat} {i : Int} : cq hs (i % hs.length) = cq hs i := by unfold cq; rw [Int.emod_emod_of_dvd _ (Int.dvd_refl _)]
theorem ZbY {hs : List Rat} {k : Nat} (h : k < hs.length) : cq hs k = hs[k] := by
  unfold cq
  rw [Int.emod_eq_of_lt (by omega) (by omega)]
  simp [List.getElem?_eq_getElem h]
theorem Zcq {hs : List Rat} {k : Nat} {i : Int} (h : ∀ x ∈ hs, Sz k x) (hn : hs.length ≠ 0) : Sz k (cq hs i) := by
  unfold cq
  have := (Z7 (i := i) hn).1
  rw [List.getD_eq_getElem?_getD, List.getElem?_eq_getElem this]
  exact h _ (List.getElem_mem this)
theorem ZdO {hs : List Rat} {i : Nat} (h : i < (rts hs).length) : (rts hs)[i] = rt (cq hs i) := by
  rw [ZF] at h
  rw [ZbY h]
  simp [rts]
noncomputable def bnd (rs : List Pt) (hs : List Rat) (i : Int) : Rat := cq hs (i - 1) + cq hs (i + 1) + (T rs i : Rat) * cq hs i
noncomputable def bds (rs : List Pt) (hs : List Rat) (n : Nat) : List Rat := (List.range n).map fun (i : Nat) => bnd rs hs i
theorem Zcr {rs : List Pt} {hs : List Rat} {n : Nat} : (bds rs hs n).length = n := by simp [bds]
theorem ZiK {rs : List Pt} {hs : List Rat} {n : Nat} : bds rs hs (n + 1) = bds rs hs n ++ [bnd rs hs n] := by simp [bds, List.range_succ]
section
variable {Q : D → Sto → Prop} {E : Str → Sto → Prop} {M : Sto} {k l : Nat} {p q : Rat} {n m : Nat} {rs : List Pt} {hs : List Rat} {i : Int}
theorem ZpX (hb : Nr 200 rs) (hn : rs ≠ []) : (T rs i).natAbs < 2 ^ 17 := by
  have a := hb _ (ZaY (i := i - 1) hn)
  have b := hb _ (ZaY (i := i + 1) hn)
  unfold T X
  have h (x y : Int) (hx : -200 ≤ x ∧ x ≤ 200) (hy : -200 ≤ y ∧ y ≤ 200) : -40000 ≤ x * y ∧ x * y ≤ 40000 := by
    have : (x * y).natAbs ≤ 200 * 200 := by rw [Int.natAbs_mul]; exact Nat.mul_le_mul (by omega) (by omega)
    omega
  have h1 := h _ _ a.1 b.2
  have h2 := h _ _ a.2 b.1
  have h3 := h _ _ b.1 a.2
  have h4 := h _ _ b.2 a.1
  omega
theorem Znx (hb : Nr 200 rs) (hn : rs ≠ []) (hh : hs.length ≠ 0) (hz : ∀ x ∈ hs, Sz k x) : Sz (3 * k + 19) (bnd rs hs i) := by
  have := CR.ZfD (CR.ZfD (Zcq (i := i - 1) hz hh) (Zcq (i := i + 1) hz hh)) (CR.Za2 (CS.Za4 (ZpX (i := i) hb hn) (by decide)) (Zcq (i := i) hz hh))
  rw [show k + k + 1 + (17 + k) + 1 = 3 * k + 19 by omega] at this
  exact this
theorem Zjx (h : M[n]? = some (.lst (rts hs))) (hi : 0 ≤ i ∧ i < hs.length) : wO (CC.F_following [.ref n, .int i] M) Q E = Q (rt (cq hs (i + 1))) M := by
  have e := Z7 (i := i + 1) (m := hs.length) (by omega)
  simp! [CC.F_following, CC.Zaa, h, Zeq, Zjw, ZF]
theorem Zer (h : M[n]? = some (.lst (prs rs))) (h' : M[m]? = some (.lst (rts hs))) (e : hs.length = rs.length) (q : Q .non M) : wO (CS.F_ask_height [.ref n, .ref m] M) Q E := by
  simp! [CS.F_ask_height, CS.Za3, h, h', ZF, e]
  exact q
theorem ZkP (h : M[n]? = some (.lst (prs rs))) (hs' : Smo rs) (hl : rs.length ≤ 1000) (hb : Nr 200 rs) (h' : M[m]? = some (.lst (rts hs))) (e : hs.length = rs.length) (hz : ∀ x ∈ hs, Sz k x) (hk : k ≤ 2000) (q : ∀ m' M', M.length ≤ m' → M'[m']? = some (.lst (rts (bds rs hs rs.length))) → M.length ≤ M'.length → (∀ j < M.length, M'[j]? = M[j]?) → Q (.ref m') M') : wO (F_bends [.ref n, .ref m] M) Q E := by
  have hn := Zt h
  have hm := Zt h'
  have hne := hs'.ne
  have h3 := hs'.len
  simp! [F_bends, ZdN]
  refine CE.Zhs h hs' (by omega) (fun p hp => by have := hb p hp; omega) ?_
  have g1 : (M ++ [SO.lst (nts (Zcf rs))])[n]? = some (.lst (prs rs)) := by rw [Zdd hn]; exact h
  have g2 : (M ++ [SO.lst (nts (Zcf rs))])[m]? = some (.lst (rts hs)) := by rw [Zdd hm]; exact h'
  simp! [Zs]
  refine Zer g1 g2 e ?_
  simp! [Zs]
  have r0 : (M ++ [SO.lst (nts (Zcf rs)), SO.lst []])[M.length + 1]? = some (.lst (rts (bds rs hs 0))) := by simp [rts, bds]
  have G0 : M.length + 2 ≤ (M ++ [SO.lst (nts (Zcf rs)), SO.lst []]).length ∧ (M ++ [SO.lst (nts (Zcf rs)), SO.lst []])[M.length]? = some (.lst (nts (Zcf rs))) ∧ ∀ j < M.length, (M ++ [SO.lst (nts (Zcf rs)), SO.lst []])[j]? = M[j]? := ⟨by simp, by simp, fun j hj => Zdd hj⟩
  generalize M ++ [SO.lst (nts (Zcf rs)), SO.lst []] = M1 at r0 G0 ⊢
  have hm1 := (G0.2.2 m hm).trans h'
  refine Zhm (fun i ρ M' => (∃ x4 x5 x6, ρ = [some (.ref n), some (.ref m), some (.ref M.length), some (.ref (M.length + 1)), x4, x5, x6]) ∧ M'[M.length + 1]? = some (.lst (rts (bds rs hs i))) ∧ M.length + 2 ≤ M'.length ∧ M'[M.length]? = some (.lst (nts (Zcf rs))) ∧ ∀ j < M.length, M'[j]? = M[j]?) hm1 ⟨⟨_, _, _, rfl⟩, r0, G0⟩ (fun i ρ M' hI => (hI.2.2.2.2 m hm).trans h') ?_ ?_
  · rintro i ρ M2 hi ⟨⟨x4, x5, x6, rfl⟩, r2, l2, t2, o2⟩
    have hm2 := (o2 m hm).trans h'
    rw [ZdO hi]
    rw [ZF] at hi
    have hi' : i < rs.length := by omega
    have hh : hs.length ≠ 0 := by omega
    have ct : cn (Zcf rs) i = T rs i := by rw [Zfz (by rw [Zem]; exact hi')]; simp [Zcf]
    have tl := Zem (rs := rs)
    have z (i) := Zcq (i := i) hz hh
    simp! [ZbL, Zeq, Zjx hm2, hm2, ZF]
    rw [CR.Zhu (z _) (z _) (by omega)]
    simp! [t2, Zhi, ct]
    rw [show D.tup [D.int (T rs i), D.int 1] = rt (T rs i : Rat) from CS.Zdr _, CR.Zb5 (CS.Za4 (ZpX (i := i) hb hne) (by decide)) (z _) (by omega)]
    simp! [Zs]
    rw [CR.Zhu (CR.ZfD (z _) (z _)) (CR.Za2 (CS.Za4 (ZpX (i := i) hb hne) (by decide)) (z _)) (by omega)]
    simp! [r2]
    exact ⟨by rw [ZF, Zcr]; omega, ⟨_, _, _, rfl⟩, by rw [Z9, ZiK]; rfl, by rw [List.length_set]; exact l2, t2, fun j hj => by rw [List.getElem?_set_ne (by omega)]; exact o2 j hj⟩
  · rintro ρ M2 ⟨⟨x4, x5, x6, rfl⟩, r2, l2, t2, o2⟩
    simp! [Zs]
    rw [ZF, e] at r2
    exact q _ _ (by omega) r2 (by omega) o2
theorem Zny (hb : Nr 200 rs) (hn : rs ≠ []) (hh : hs.length ≠ 0) (hz : ∀ x ∈ hs, Sz k x) : ∀ x ∈ bds rs hs l, Sz (3 * k + 19) x := by
  intro x hx
  obtain ⟨j, -, rfl⟩ := List.mem_map.mp hx
  exact Znx hb hn hh hz
end
end CN
end
section
set_option Elab.async false
set_option linter.all false
set_option maxRecDepth 100000
set_option maxHeartbeats 4000000
namespace CN
open PySem PySem.Spec L2 DL
open CR (rt Sz)
open CH (rts ZF Z9)
section
variable {Q : D → Sto → Prop} {E : Str → Sto → Prop} {M : Sto} {k l : Nat} {p q : Rat} {n m : Nat} {rs : List Pt} {hs : List Rat} {i : Int}
theorem plu (a b c d e f : Int) (h1 : a * d - b * c = 1) (h2 : c * f - d * e = 1) : a + e = (a * f - b * e) * c ∧ b + f = (a * f - b * e) * d := by
  constructor
  · have : (a * f - b * e) * c = (c * f - d * e) * a + (a * d - b * c) * e := by
      simp only [Int.sub_mul]
      rw [show a * f * c = c * f * a by ac_rfl, show b * e * c = b * c * e by ac_rfl, show d * e * a = a * d * e by ac_rfl]
      omega
    rw [this, h1, h2]; omega
  · have : (a * f - b * e) * d = (c * f - d * e) * b + (a * d - b * c) * f := by
      simp only [Int.sub_mul]
      rw [show a * f * d = a * d * f by ac_rfl, show b * e * d = d * e * b by ac_rfl, show c * f * b = b * c * f by ac_rfl]
      omega
    rw [this, h1, h2]; omega
theorem Zhw (hs' : Smo rs) (i : Int) : (cy rs (i - 1)).1 + (cy rs (i + 1)).1 = -(T rs i) * (cy rs i).1 ∧ (cy rs (i - 1)).2 + (cy rs (i + 1)).2 = -(T rs i) * (cy rs i).2 := by
  have h1 := hs'.one (i - 1)
  have h2 := hs'.one i
  rw [show i - 1 + 1 = i by omega] at h1
  unfold X at h1 h2
  have := plu _ _ _ _ _ _ h1 h2
  unfold T X
  rw [show -(0 - ((cy rs (i - 1)).1 * (cy rs (i + 1)).2 - (cy rs (i - 1)).2 * (cy rs (i + 1)).1)) = (cy rs (i - 1)).1 * (cy rs (i + 1)).2 - (cy rs (i - 1)).2 * (cy rs (i + 1)).1 by omega]
  exact this
end
end CN
end
section
set_option Elab.async false
set_option linter.all false
set_option maxRecDepth 100000
set_option maxHeartbeats 4000000
namespace CN
open PySem PySem.Spec L2 DL
open CR (rt Sz)
open CH (rts ZF Z9)
noncomputable def sm (f : Int → Rat) : Nat → Rat
  | 0 => 0
  | n + 1 => sm f n + f n
end CN
end
section
set_option Elab.async false
set_option linter.all false
set_option maxRecDepth 100000
set_option maxHeartbeats 4000000
namespace CU
open PySem PySem.Spec L2 DL
open CC (F_ask_smooth)
open CS (F_ask_height F_minus F_slope_through F_sloped)
open CR (F_law_low)
end CU
end
section
set_option Elab.async false
set_option linter.all false
set_option maxRecDepth 100000
set_option maxHeartbeats 4000000
namespace CU
open PySem PySem.Spec L2 DL
open CR (rt Sz)
open CH (rts ZF Z9)
open CN CS
noncomputable def thr (rs : List Pt) (hs : List Rat) : Rat × Rat := (cq hs 0 * (cy rs 1).2 - cq hs 1 * (cy rs 0).2, cq hs 1 * (cy rs 0).1 - cq hs 0 * (cy rs 1).1)
noncomputable abbrev rp (m : Rat × Rat) : D := .tup [rt m.1, rt m.2]
theorem Znz {p q : Rat} (h : rt p = rt q) : p = q := by
  unfold rt pr at h
  injection h with h
  injection h with h1 h
  injection h with h2
  injection h1 with h1
  injection h2 with h2
  exact Rat.ext h1 (by omega)
theorem ZkQ {xs ys : List Rat} : rts xs = rts ys ↔ xs = ys := by
  refine ⟨fun h => ?_, fun h => by rw [h]⟩
  induction xs generalizing ys with
  | nil => cases ys with
    | nil => rfl
    | cons y ys => simp [rts] at h
  | cons x xs ih =>
    cases ys with
    | nil => simp [rts] at h
    | cons y ys =>
      simp only [rts, List.map_cons, List.cons.injEq] at h
      rw [Znz h.1, ih h.2]
theorem ZdP {hs : List Rat} : rts hs = prs (hs.map fun q => (q.num, (q.den : Int))) := by
  simp [rts, prs]
theorem ZnA {xs ys : List Rat} : xs.map (fun q => (q.num, (q.den : Int))) = ys.map (fun q => (q.num, (q.den : Int))) ↔ xs = ys := by
  refine ⟨fun h => ?_, fun h => by rw [h]⟩
  rw [← ZkQ, ZdP, ZdP, h]
section
variable {Q : D → Sto → Prop} {E : Str → Sto → Prop} {M : Sto} {k l : Nat} {p q : Rat} {n m o : Nat} {rs : List Pt} {hs xs ys : List Rat} {i : Int}
theorem ZnB (h1 : M[n]? = some (.lst (rts xs))) (h2 : M[m]? = some (.lst (rts ys))) : eqF (k + 3) M (.ref n) (.ref m) = some (decide (xs = ys)) := by
  rw [ZmO h1 h2, ZdP, ZdP, Zjk]
  by_cases e : xs = ys
  · subst e; simp
  · rw [decide_eq_false e]
    split
    · rw [decide_eq_false (fun z => e (ZnA.mp z))]
    · rfl
theorem Zhx (h : M[n]? = some (.lst (prs rs))) (hb : Nr 200 rs) (h2 : 2 ≤ rs.length) (h' : M[m]? = some (.lst (rts hs))) (e : 2 ≤ hs.length) (hz : ∀ x ∈ hs, Sz k x) (hk : k ≤ 2000) : wO (F_slope_through [.ref n, .ref m] M) Q E = Q (rp (thr rs hs)) M := by
  have hn : rs ≠ [] := by intro z; rw [z] at h2; simp at h2
  have a := hb _ (ZaY (i := 0) hn)
  have b := hb _ (ZaY (i := 1) hn)
  have z0 := Zcq (i := 0) hz (by omega)
  have z1 := Zcq (i := 1) hz (by omega)
  simp! [F_slope_through, Zap, h, h', Zdp, Zeq]
  have sz (z : Int) (hz : -200 ≤ z ∧ z ≤ 200) : Sz 8 (z : Rat) := Za4 (by omega) (by decide)
  have re (z : Int) : D.tup [D.int z, D.int 1] = rt (z : Rat) := Zdr z
  rw [re, CR.Zb5 z0 (sz _ b.2) (by omega)]
  simp! [Zs]
  rw [re, CR.Zb5 z1 (sz _ a.2) (by omega)]
  simp! [Zs]
  rw [ZeX (CR.Za2 z0 (sz _ b.2)) (CR.Za2 z1 (sz _ a.2)) (by omega)]
  simp! [Zs]
  rw [re, CR.Zb5 z1 (sz _ a.1) (by omega)]
  simp! [Zs]
  rw [re, CR.Zb5 z0 (sz _ b.1) (by omega)]
  simp! [Zs]
  rw [ZeX (CR.Za2 z1 (sz _ a.1)) (CR.Za2 z0 (sz _ b.1)) (by omega)]
  simp! [Zs]
  rfl
theorem Zjy {mm : Rat × Rat} {r : Pt} (h1 : Sz k mm.1) (h2 : Sz k mm.2) (hr : (-200 ≤ r.1 ∧ r.1 ≤ 200) ∧ -200 ≤ r.2 ∧ r.2 ≤ 200) : Sz (2 * k + 17) (slp mm r) := by
  have e : k + 8 + (k + 8) + 1 = 2 * k + 17 := by omega
  exact e ▸ CR.ZfD (CR.Za2 h1 (Za4 (k := 8) (by omega) (by decide))) (CR.Za2 h2 (Za4 (k := 8) (by omega) (by decide)))
theorem ZeY {F : Nat → Rat} (h1 : xs.length = n) (h : ∀ i < n, F i = cq xs i) : (List.range n).map (fun (i : Nat) => rt (F i)) = rts xs := by
  apply List.ext_getElem
  · rw [ZF, h1]; simp
  · intro i hi hi'
    simp at hi
    rw [ZdO]
    simp [h i hi]
end
end CU
end
section
set_option Elab.async false
set_option linter.all false
set_option maxRecDepth 100000
set_option maxHeartbeats 4000000
namespace CV
open PySem PySem.Spec L2 DL
open CR (rt Sz)
open CH (rts ZF Z9)
open CN CU CS
noncomputable def Kp (M M' : Sto) : Prop := M.length ≤ M'.length ∧ ∀ j < M.length, M'[j]? = M[j]?
section
variable {M M' M1 M2 : Sto} {o : SO} {j : Nat}
theorem Kp.get (k : Kp M M') (h : M[j]? = some o) : M'[j]? = some o := (k.2 _ (Zt h)).trans h
theorem Kp.refl : Kp M M := ⟨Nat.le_refl _, fun _ _ => rfl⟩
theorem Kp.trans (a : Kp M M1) (b : Kp M1 M2) : Kp M M2 := ⟨Nat.le_trans a.1 b.1, fun j h => (b.2 j (Nat.lt_of_lt_of_le h a.1)).trans (a.2 j h)⟩
theorem Kp.app {L : Sto} : Kp M (M ++ L) := ⟨by simp, fun j h => Zdd h⟩
theorem Kp.set (a : Kp M M1) (h : M.length ≤ j) : Kp M (M1.set j o) := ⟨by rw [List.length_set]; exact a.1, fun i hi => by rw [List.getElem?_set_ne (by omega)]; exact a.2 i hi⟩
theorem Kp.bag {n : Nat} (k : Kp M M') (b : Bag n M) : Bag n M' := (CY.Gr.of b k.1 k.2).bag
theorem Kp.gr {n : Nat} (k : Kp M M') (b : Bag n M) : Gr n M M' := CY.Gr.of b k.1 k.2
end
theorem ZkR {a b : Nat} {x : Rat} (h : Sz a x) (hab : a ≤ b) : Sz b x := ⟨Nat.lt_of_lt_of_le h.1 (Nat.pow_le_pow_right (by decide) hab), Nat.lt_of_lt_of_le h.2 (Nat.pow_le_pow_right (by decide) hab)⟩
theorem ZpY {a b : List Rat} {n : Nat} (h1 : a.length = n) (h2 : b.length = n) (h : ∀ i : Nat, i < n → cq a i = cq b i) : a = b := by
  apply List.ext_getElem (by omega)
  intro i h1 h2
  have := h i (by omega)
  rw [ZbY h1, ZbY h2] at this
  exact this
section
variable {Q : D → Sto → Prop} {E : Str → Sto → Prop} {M : Sto} {k l : Nat} {p q : Rat} {n m o : Nat} {rs : List Pt} {hs xs ys zs u v : List Rat} {i : Int} {f : Ev} {ρ : Ro} {mu mv N : Nat}
end
end CV
end
section
set_option Elab.async false
set_option linter.all false
set_option maxRecDepth 100000
set_option maxHeartbeats 4000000
namespace CW
open PySem PySem.Spec L2 DL
open CE (F_numbers)
end CW
end
section
set_option Elab.async false
set_option linter.all false
set_option maxRecDepth 100000
set_option maxHeartbeats 4000000
namespace CW
open PySem PySem.Spec L2 DL
open CV
section
variable {Q : D → Sto → Prop} {E : Str → Sto → Prop} {M : Sto} {n m : Nat} {rs : List Pt}
end
end CW
end
section
set_option Elab.async false
set_option linter.all false
set_option maxRecDepth 100000
set_option maxHeartbeats 4000000
namespace CB
open PySem PySem.Spec L2 DL
end CB
end
section
set_option Elab.async false
set_option linter.all false
set_option maxRecDepth 100000
set_option maxHeartbeats 4000000
namespace CL
open PySem PySem.Spec L2 DL
open CC (F_following)
end CL
end
section
set_option Elab.async false
set_option linter.all false
set_option maxRecDepth 100000
set_option maxHeartbeats 4000000
namespace CL
open PySem PySem.Spec L2 DL
open CV CB
section
variable {Q : D → Sto → Prop} {E : Str → Sto → Prop} {M : Sto} {n : Nat}
end
end CL
end
section
set_option Elab.async false
set_option linter.all false
set_option maxRecDepth 100000
set_option maxHeartbeats 4000000
namespace TW
open DL
noncomputable def nx (b : Int) (p q : Pt) : Pt := (0 - b * q.1 - p.1, 0 - b * q.2 - p.2)
noncomputable def run (p q : Pt) : List Int → Pt × Pt
  | [] => (p, q)
  | b :: bs => run q (nx b p q) bs
noncomputable def ew (p q : Pt) : Nat := in1 (1, 0) p q + in1 (-1, 0) p q
noncomputable def st (a : Pt) : Int := if 0 < a.2 ∨ (a.2 = 0 ∧ a.1 < 0) then 1 else 0
end TW
end
section
set_option Elab.async false
set_option linter.all false
set_option maxRecDepth 100000
set_option maxHeartbeats 4000000
namespace TW
open DL
section
variable {rs : List Pt}
noncomputable def Zsq (rs : List Pt) : Int → Nat → List Int
  | _, 0 => []
  | i, k + 1 => T rs (i + 1) :: Zsq rs (i + 1) k
noncomputable def sf (f : Pt → Pt → Nat) (rs : List Pt) : Int → Nat → Nat
  | _, 0 => 0
  | i, k + 1 => f (cy rs i) (cy rs (i + 1)) + sf f rs (i + 1) k
theorem ZpZ {f : Pt → Pt → Nat} (hn : rs ≠ []) : ∀ (k i : Nat), i + k = rs.length → cc f ((rs ++ rs.take 1).drop i) = sf f rs i k := by
  have l0 : 0 < rs.length := List.length_pos_iff.mpr hn
  have ga : ∀ i : Nat, i ≤ rs.length → (rs ++ rs.take 1)[i]? = some (cy rs i) := by
    intro i hi
    by_cases c : i < rs.length
    · rw [List.getElem?_append_left c, Zb2 (by omega), Zce (by omega), List.getElem?_eq_getElem c]
      simp
    · have : i = rs.length := by omega
      subst this
      rw [List.getElem?_append_right (Nat.le_refl _), Nat.sub_self, ← Zc1, Int.sub_self, Zb2 (by omega), Zce (by omega)]
      rw [List.getElem?_take_of_lt (by decide), List.getElem?_eq_getElem (by omega)]
      simp
  have lch : (rs ++ rs.take 1).length = rs.length + 1 := by simp; omega
  have dr : ∀ i : Nat, i ≤ rs.length → (rs ++ rs.take 1).drop i = cy rs i :: (rs ++ rs.take 1).drop (i + 1) := by
    intro i hi
    rw [List.drop_eq_getElem_cons (by omega)]
    have := ga i hi
    rw [List.getElem?_eq_getElem (by omega)] at this
    rw [Option.some.inj this]
  intro k
  induction k with
  | zero =>
    intro i hi
    rw [dr i (by omega), List.drop_eq_nil_of_le (by omega)]
    rfl
  | succ k ih =>
    intro i hi
    have := ih (i + 1) (by omega)
    rw [dr i (by omega)]
    rw [dr (i + 1) (by omega)] at this ⊢
    rw [cc, this, sf]
    rfl
theorem Zjz {f : Pt → Pt → Nat} (hn : rs ≠ []) : cyc f rs = sf f rs 0 rs.length := by
  have := ZpZ (f := f) hn rs.length 0 (by omega)
  exact this
end
end TW
end
section
set_option Elab.async false
set_option linter.all false
set_option maxRecDepth 100000
set_option maxHeartbeats 4000000
namespace SP
open PySem PySem.Spec L2 DL
open CB
section
noncomputable def ex (k : Nat) : Pt := if k = 0 then (1, 0) else if k = 1 then (0, 1) else if k = 2 then (-1, 0) else (0, -1)
noncomputable def op (o : Bool) (k : Nat) : List Pt := if o = true then [ex k] else []
end
end SP
end
section
set_option Elab.async false
set_option linter.all false
set_option maxRecDepth 100000
set_option maxHeartbeats 4000000
namespace CT
open PySem PySem.Spec L2 DL
end CT
end
section
set_option Elab.async false
set_option linter.all false
set_option maxRecDepth 100000
set_option maxHeartbeats 4000000
namespace CT
open PySem PySem.Spec L2 DL
open CV TW
noncomputable def Sm (L : List Int) : Prop := ∀ b ∈ L, -(1152921504606846976) ≤ b ∧ b ≤ 1152921504606846976
section
variable {Q : D → Sto → Prop} {E : Str → Sto → Prop} {M : Sto} {n m : Nat} {L : List Int}
noncomputable def ZnC (L : List Int) : Prop := ∀ b ∈ L, -1000000 ≤ b ∧ b ≤ 1000000
theorem ZnC.sm (h : ZnC L) : Sm L := fun b hb => by have := h b hb; omega
noncomputable def Cl (L : List Int) : Prop := run (1, 0) (0, 1) L = ((1, 0), (0, 1))
noncomputable instance (L : List Int) : Decidable (Cl L) := by unfold Cl; infer_instance
end
end CT
end
section
set_option Elab.async false
set_option linter.all false
set_option maxRecDepth 100000
set_option maxHeartbeats 4000000
namespace CT
open PySem PySem.Spec L2 DL
open CV
open TW (nx)
section
variable {Q : D → Sto → Prop} {E : Str → Sto → Prop} {M : Sto} {n m : Nat} {L : List Int}
end
end CT
end
section
set_option Elab.async false
set_option linter.all false
set_option maxRecDepth 100000
set_option maxHeartbeats 4000000
namespace DL
open CB (Wg Bd)
section
variable {rs : List Pt} {k : Nat}
theorem ZiL {f : Pt → Pt → Nat} (hl : rs ≠ []) (h : cyc f rs = 0) (i : Int) : f (cy rs i) (cy rs (i + 1)) = 0 := by
  have l0 : rs.length ≠ 0 := fun z => hl (List.length_eq_zero_iff.mp z)
  refine ZdH (P := fun a b => f a b = 0) l0 ?_ i
  intro i h0 h1
  rw [TW.Zjz hl] at h
  have : ∀ (k : Nat) (j : Int), TW.sf f rs j k = 0 → ∀ m : Nat, m < k → f (cy rs (j + m)) (cy rs (j + m + 1)) = 0 := by
    intro k
    induction k with
    | zero => intro j _ m hm; omega
    | succ k ih =>
      intro j h m hm
      rw [TW.sf] at h
      cases m with
      | zero =>
        rw [show j + ((0 : Nat) : Int) = j by omega]
        omega
      | succ m =>
        have := ih (j + 1) (by omega) m (by omega)
        rw [show j + ((m + 1 : Nat) : Int) = j + 1 + m by omega]
        exact this
  have := this rs.length 0 h i.toNat (by omega)
  rw [show (0 : Int) + (i.toNat : Nat) = i by omega] at this
  exact this
noncomputable def nxp (a b : Pt) : Nat := if 0 < X a b then 0 else 1
theorem Zp0 {a b : Pt} (h : nxp a b = 0) : 0 < X a b := by
  unfold nxp at h
  split at h
  · assumption
  · omega
structure Rn (rs : List Pt) : Prop where
  len : 3 ≤ rs.length
  ps : cyc nxp rs = 0
  gc : ∀ p ∈ rs, Int.gcd p.1 p.2 = 1
  fan : Fan rs
theorem Rn.ne (h : Rn rs) : rs ≠ [] := by
  intro z
  have := h.len
  rw [z] at this
  simp at this
theorem Rn.pos (h : Rn rs) (i : Int) : 0 < X (cy rs i) (cy rs (i + 1)) := Zp0 (ZiL h.ne h.ps i)
end
end DL
end
section
set_option Elab.async false
set_option linter.all false
set_option maxRecDepth 100000
set_option maxHeartbeats 4000000
namespace CZ
open PySem PySem.Spec L2 DL
section
variable {Q : D → Sto → Prop} {E : Str → Sto → Prop} {M : Sto} {n m : Nat} {rs : List Pt}
end
end CZ
end
section
set_option Elab.async false
set_option linter.all false
set_option maxRecDepth 100000
set_option maxHeartbeats 4000000
namespace DL
open TW
open CT (Cl)
section
variable {rs us : List Pt}
theorem ZnD {f : Pt → Pt → Nat} : ∀ (k : Nat) (j : Int) (m : Nat), m < k → f (cy rs (j + m)) (cy rs (j + m + 1)) ≤ sf f rs j k
  | 0, _, _, h => absurd h (Nat.not_lt_zero _)
  | k + 1, j, 0, _ => by rw [sf]; simp
  | k + 1, j, m + 1, h => by
    have := ZnD (f := f) k (j + 1) m (by omega)
    rw [sf, show j + ((m + 1 : Nat) : Int) = j + 1 + m by omega]
    omega
theorem Zhy {f : Pt → Pt → Nat} : ∀ (k : Nat) (j : Int) (m l : Nat), m < l → l < k → f (cy rs (j + m)) (cy rs (j + m + 1)) + f (cy rs (j + l)) (cy rs (j + l + 1)) ≤ sf f rs j k
  | 0, _, _, _, _, h => absurd h (Nat.not_lt_zero _)
  | k + 1, j, 0, l + 1, _, h => by
    have := ZnD (f := f) (rs := rs) k (j + 1) l (by omega)
    rw [sf, show j + ((l + 1 : Nat) : Int) = j + 1 + l by omega]
    simp
    omega
  | k + 1, j, m + 1, l + 1, h1, h => by
    have := Zhy (f := f) k (j + 1) m l (by omega) (by omega)
    rw [sf, show j + ((m + 1 : Nat) : Int) = j + 1 + m by omega, show j + ((l + 1 : Nat) : Int) = j + 1 + l by omega]
    omega
theorem ZnE (h : rs ≠ []) (i : Int) : ∃ k : Nat, k < rs.length ∧ ∀ d : Int, cy rs (i + d) = cy rs (k + d) := by
  have l0 : rs.length ≠ 0 := fun z => h (List.length_eq_zero_iff.mp z)
  obtain ⟨a, b⟩ := Z7 (i := i) l0
  refine ⟨(i % rs.length).toNat, a, fun d => ?_⟩
  rw [show (((i % rs.length).toNat : Nat) : Int) = i % rs.length by omega]
  unfold cy
  congr 2
  rw [Int.add_emod, Int.add_emod (i % rs.length) d, Int.emod_emod_of_dvd _ (Int.dvd_refl _)]
theorem ZeZ : (List.range us.length).map (fun (j : Nat) => cy us j) = us := by
  apply List.ext_getElem
  · simp
  · intro i h1 h2
    simp [Zc2 h2]
end
end DL
end
section
set_option Elab.async false
set_option linter.all false
set_option maxRecDepth 100000
set_option maxHeartbeats 4000000
namespace CB
open DL
section
variable {u v w : Pt}
noncomputable def kl : List Pt → List Int
  | a :: b :: d :: r => X a d :: kl (b :: d :: r)
  | _ => []
theorem Xvv (p : Pt) : X p p = 0 := by unfold X; grind
theorem Zp1 : ∀ (r : List Pt) (a b : Pt) (v : Pt), Ch (a :: b :: r) → Cv (a :: b :: r) → (b :: r).getLast (by simp) = v → 0 ≤ X b v ∧ X b v < X a v
  | [], a, b, v, h, _, e => by
    have : b = v := e
    subst this
    rw [Xvv, h.1]
    omega
  | c :: r, a, b, v, h, k, e => by
    have ih := Zp1 r b c v h.2 k.2 (by rw [← e]; simp [List.getLast_cons])
    obtain ⟨m, m2, e1, e2⟩ := k.1
    have ex : X a v + X c v = m * X b v := by unfold X; grind
    have : 2 * X b v ≤ m * X b v := Int.mul_le_mul_of_nonneg_right m2 (by omega)
    omega
theorem ZkS {t b k c : Int} (hb : 0 < b) (h0 : 0 ≤ c) (h1 : c < b) (e : t + c = k * b) : -((-t) / b) = k := by
  have : -t = c + b * (-k) := by grind
  rw [this, Int.add_mul_ediv_left _ _ (by omega), Int.ediv_eq_zero_of_lt h0 h1]
  omega
theorem only : ∀ (ws : List Pt) (u v w : Pt), Ch (u :: (ws ++ [v])) → Cv (u :: (ws ++ [v])) → Fb u v w → ws = btw u w (hj (X u v) (X w v)) ∧ kl (u :: (ws ++ [v])) = hj (X u v) (X w v)
  | [], u, v, w, h, k, f => by
    have h1 : X u v = 1 := h.1
    have l := f.lo
    have l2 := f.hi
    have w0 : X w v = 0 := by omega
    rw [w0]
    unfold hj
    rw [dif_neg (by decide)]
    exact ⟨rfl, rfl⟩
  | x :: ws, u, v, w, h, k, f => by
    have hl : (x :: (ws ++ [v])).getLast (by simp) = v := by simp [List.getLast_cons]
    have d := Zp1 (ws ++ [v]) u x v h k hl
    have fx : Fb u v x := ⟨h.1, d.1, d.2⟩
    have ew := fx.uniq f
    subst ew
    obtain ⟨y, R, eR⟩ : ∃ y R, ws ++ [v] = y :: R := by
      cases ws with
      | nil => exact ⟨v, [], rfl⟩
      | cons y R => exact ⟨y, R ++ [v], rfl⟩
    have h' : Ch (x :: y :: R) := by rw [← eR]; exact h.2
    have kk : Cv (u :: x :: y :: R) := by rw [← eR]; exact k
    have hl2 : (y :: R).getLast (by simp) = v := by
      have : (ws ++ [v]).getLast (by simp) = v := by simp
      simpa [eR] using this
    have d2 := Zp1 R x y v h' kk.2 hl2
    obtain ⟨m, m2, e1, e2⟩ := kk.1
    have ex : X u v + X y v = m * X x v := by unfold X; grind
    have hc := ZkS (by omega) d2.1 d2.2 ex
    have ey : (m * x.1 - u.1, m * x.2 - u.2) = y := by apply Prod.ext <;> simp only <;> omega
    have m3 : X u y = m := by
      have := h.1
      rw [← ey]
      unfold X at *
      simp only
      grind
    have fy : Fb x v y := ⟨h'.1, d2.1, d2.2⟩
    have ih := only ws x v y (by rw [eR]; exact h') (by rw [eR]; exact kk.2) fy
    have ej : hj (X u v) (X x v) = m :: hj (X x v) (X y v) := by
      rw [hj, dif_pos (by omega), hc]
      congr 2
      omega
    rw [ej]
    constructor
    · rw [btw, ey, ← ih.1]
    · show kl (u :: x :: (ws ++ [v])) = _
      rw [eR, kl, m3, ← eR, ih.2]
end
end CB
end
section
set_option Elab.async false
set_option linter.all false
set_option maxRecDepth 100000
set_option maxHeartbeats 4000000
namespace CD
open PySem PySem.Spec L2 DL
open CB (F_law_take)
open CC (F_ask_smooth)
open CS (F_minus F_sloped)
noncomputable def Zaq : Sv := (Zu (ZH (gNm 2) (e2 dIx (Zd 0) (e2 dMod (e2 dAdd (Zd 1) (eC (.int 1))) (Zh bLen (Zb (Zd 0) aNil)))))
  (ZM (e2 dAdd (e2 dAdd (eSl (Zd 0) oNo (oSo (e2 dAdd (Zd 1) (eC (.int 1))))) (Zbb (Zb (Zal (Zb (e2 dAdd (e2 dIx (e2 dIx (Zd 0) (Zd 1)) (eC (.int 0))) (e2 dIx (Zd 2) (eC (.int 0)))) (Zb (e2 dAdd (e2 dIx (e2 dIx (Zd 0) (Zd 1)) (eC (.int 1))) (e2 dIx (Zd 2) (eC (.int 1)))) aNil))) aNil))) (eSl (Zd 0) (oSo (e2 dAdd (Zd 1) (eC (.int 1)))) oNo))))
noncomputable def F_law_short_put : List D → Sto → Out D := fnF Zaq 2 1
noncomputable def ZaK : Sv := (Zu (ZH (gNm 6) (Zh F_law_short_put (Zb (Zd 3) (Zb (Zh F_law_take (Zb (Zd 0) (Zb (Zh bLen (Zb (Zd 3) aNil)) aNil))) aNil))))
  (sIf (ZfP (tv (e2 dLt (Zh bLen (Zb (Zd 3) aNil)) (Zd 4))) (tv (e2 dLt (Zh (ZcZ List.max?) (Zb (ZX (iSq (Zd 6)) 2 [] (gTp (gCs (gNm 0) (gCs (gNm 1) gNl))) (fun _ M => .ok true M) (Zh bMax (Zb (Zh bAbs (Zb (Zd 0) aNil)) (Zb (Zh bAbs (Zb (Zd 1) aNil)) aNil)))) aNil)) (eC (.int 8))))) (ZH (gNm 3) (Zd 6)) sNil))
noncomputable def ZbM : Sv := (Zu (ZH (gNm 2) (Zh F_law_take (Zb (Zd 0) (Zb (eC (.int 5)) aNil))))
  (Zu (ZH (gNm 3) (e2 dIx (Zbb (Zb (Zbb (Zb (Zal (Zb (eC (.int 1)) (Zb (eC (.int 0)) aNil))) (Zb (Zal (Zb (eC (.int 0)) (Zb (eC (.int 1)) aNil))) (Zb (Zal (Zb (Zfm (eC (.int 1))) (Zb (Zfm (eC (.int 1))) aNil))) aNil)))) (Zb (Zbb (Zb (Zal (Zb (eC (.int 1)) (Zb (eC (.int 0)) aNil))) (Zb (Zal (Zb (eC (.int 0)) (Zb (eC (.int 1)) aNil))) (Zb (Zal (Zb (Zfm (eC (.int 1))) (Zb (e2 dSub (Zd 2) (eC (.int 1))) aNil))) (Zb (Zal (Zb (eC (.int 0)) (Zb (Zfm (eC (.int 1))) aNil))) aNil))))) aNil))) (Zh bInt (Zb (e2 dGt (Zd 2) (eC (.int 0))) aNil))))
  (Zu (ZH (gNm 4) (e2 dIx (Zbb (Zb (e2 dAdd (eC (.int 3)) (Zh F_law_take (Zb (Zd 0) (Zb (e2 dSub (Zd 1) (eC (.int 2))) aNil)))) (Zb (Zd 1) aNil))) (Zh bInt (Zb (e2 dEq (Zh F_law_take (Zb (Zd 0) (Zb (eC (.int 6)) aNil))) (eC (.int 3))) aNil))))
  (Zu (ZaV (gNm 5) (Zb (e2 dMul (eC (.int 4)) (Zd 1)) aNil) ZaK)
  (ZM (Zd 3))))))
noncomputable def F_law_base : List D → Sto → Out D := fnF ZbM 2 5
noncomputable def ZaC : Sv := (Zu (ZH (gNm 3) (e2 dIx (Zbb (Zb (e2 dSub (Zh F_law_take (Zb (Zd 0) (Zb (eC (.int 5)) aNil))) (eC (.int 2))) (Zb (e2 dSub (Zh F_law_take (Zb (Zd 0) (Zb (eC (.int 15)) aNil))) (eC (.int 7))) aNil))) (Zh bInt (Zb (e2 dEq (Zh F_law_take (Zb (Zd 0) (Zb (eC (.int 8)) aNil))) (eC (.int 5))) aNil))))
  (sIf (tv (e2 dEq (Zh F_law_take (Zb (Zd 0) (Zb (eC (.int 2)) aNil))) (eC (.int 0)))) (ZH (gNm 1) (Zbb (Zb (e2 dAdd (e2 dIx (Zd 1) (eC (.int 0))) (e2 dMul (Zd 3) (e2 dIx (Zd 1) (eC (.int 2))))) (Zb (e2 dAdd (e2 dIx (Zd 1) (eC (.int 1))) (e2 dMul (Zd 3) (e2 dIx (Zd 1) (eC (.int 3))))) (Zb (e2 dIx (Zd 1) (eC (.int 2))) (Zb (e2 dIx (Zd 1) (eC (.int 3))) aNil)))))) (ZH (gNm 1) (Zbb (Zb (e2 dIx (Zd 1) (eC (.int 0))) (Zb (e2 dIx (Zd 1) (eC (.int 1))) (Zb (e2 dAdd (e2 dIx (Zd 1) (eC (.int 2))) (e2 dMul (Zd 3) (e2 dIx (Zd 1) (eC (.int 0))))) (Zb (e2 dAdd (e2 dIx (Zd 1) (eC (.int 3))) (e2 dMul (Zd 3) (e2 dIx (Zd 1) (eC (.int 1))))) aNil))))))))
noncomputable def Zbp : Sv := (Zu (ZH (gNm 1) (Zbb (Zb (eC (.int 1)) (Zb (eC (.int 0)) (Zb (eC (.int 0)) (Zb (eC (.int 1)) aNil))))))
  (Zu (ZaV (gNm 2) (Zb (Zh F_law_take (Zb (Zd 0) (Zb (eC (.int 4)) aNil))) aNil) ZaC)
  (Zu (sIf (tv (e2 dEq (Zh F_law_take (Zb (Zd 0) (Zb (eC (.int 3)) aNil))) (eC (.int 0)))) (ZH (gNm 1) (Zbb (Zb (e2 dIx (Zd 1) (eC (.int 2))) (Zb (e2 dIx (Zd 1) (eC (.int 3))) (Zb (e2 dIx (Zd 1) (eC (.int 0))) (Zb (e2 dIx (Zd 1) (eC (.int 1))) aNil)))))) sNil)
  (Zu (sIf (tv (e2 dGt (Zh (ZcZ List.max?) (Zb (ZX (iSq (Zd 1)) 1 [] (gNm 0) (fun _ M => .ok true M) (Zh bAbs (Zb (Zd 0) aNil))) aNil)) (eC (.int 14)))) (ZM (Zbb (Zb (eC (.int 0)) (Zb (eC (.int 1)) (Zb (eC (.int 1)) (Zb (eC (.int 0)) aNil)))))) sNil)
  (ZM (Zd 1))))))
noncomputable def F_law_table : List D → Sto → Out D := fnF Zbp 1 3
noncomputable def ZbN : Sv := (Zu (ZH (gNm 4) (ZX (iZp (Zb (Zd 1) (Zb (Zd 2) aNil))) 3 [0] (gTp (gCs (gTp (gCs (gNm 0) (gCs (gNm 1) gNl))) (gCs (gNm 2) gNl))) (fun _ M => .ok true M) (Zal (Zb (Zal (Zb (e2 dAdd (e2 dMul (e2 dIx (Zd 3) (eC (.int 0))) (Zd 0)) (e2 dMul (e2 dIx (Zd 3) (eC (.int 1))) (Zd 1))) (Zb (e2 dAdd (e2 dMul (e2 dIx (Zd 3) (eC (.int 2))) (Zd 0)) (e2 dMul (e2 dIx (Zd 3) (eC (.int 3))) (Zd 1))) aNil))) (Zb (Zd 2) aNil)))))
  (Zu (sIf (tv (e2 dLt (e2 dSub (e2 dMul (e2 dIx (Zd 0) (eC (.int 0))) (e2 dIx (Zd 0) (eC (.int 3)))) (e2 dMul (e2 dIx (Zd 0) (eC (.int 1))) (e2 dIx (Zd 0) (eC (.int 2))))) (eC (.int 0)))) (ZH (gNm 4) (Zh bLR (Zb (Zd 4) aNil))) sNil)
  (Zu (ZH (gNm 4) (e2 dAdd (eSl (Zd 4) (oSo (Zd 3)) oNo) (eSl (Zd 4) oNo (oSo (Zd 3)))))
  (ZM (Zal (Zb (ZX (iSq (Zd 4)) 2 [] (gTp (gCs (gNm 0) (gCs (gNm 1) gNl))) (fun _ M => .ok true M) (Zd 0)) (Zb (ZX (iSq (Zd 4)) 2 [] (gTp (gCs (gNm 0) (gCs (gNm 1) gNl))) (fun _ M => .ok true M) (Zd 1)) aNil)))))))
noncomputable def F_law_spun : List D → Sto → Out D := fnF ZbN 4 1
noncomputable def ZfE : Sv := (ZM (e2 dLt (e2 dMul (e2 dIx (Zd 0) (eC (.int 0))) (e2 dIx (Zd 1) (eC (.int 1)))) (e2 dMul (e2 dIx (Zd 1) (eC (.int 0))) (e2 dIx (Zd 0) (eC (.int 1))))))
noncomputable def F_less : List D → Sto → Out D := fnF ZfE 2 0
noncomputable def ZaL : Sv := (sIf (tv (Zh F_less (Zb (Zd 1) (Zb (Zd 2) aNil)))) (ZH (gNm 1) (Zd 2)) sNil)
noncomputable def ZbO : Sv := (Zu (ZH (gNm 1) (e2 dIx (Zd 0) (eC (.int 0))))
  (Zu (Zk9 (gNm 2) (Zd 0) ZaL)
  (ZM (Zd 1))))
noncomputable def F_greatest : List D → Sto → Out D := fnF ZbO 1 2
noncomputable def ZbP : Sv := (ZM (Zh F_minus (Zb (Zal (Zb (eC (.int 0)) (Zb (eC (.int 1)) aNil))) (Zb (Zd 0) aNil))))
noncomputable def F_contrary : List D → Sto → Out D := fnF ZbP 1 0
noncomputable def Zbq : Sv := (Zu (Zbe (Zh F_ask_smooth (Zb (Zd 0) aNil)))
  (ZM (ZX (iSq (Zd 0)) 1 [1] (gNm 0) (fun _ M => .ok true M) (Zh F_greatest (Zb (ZX (iSq (Zd 1)) 1 [0] (gNm 0) (fun _ M => .ok true M) (Zh F_contrary (Zb (Zh F_sloped (Zb (Zd 0) (Zb (Zd 1) aNil))) aNil))) aNil)))))
noncomputable def F_height_of : List D → Sto → Out D := fnF Zbq 2 0
noncomputable def ZbQ : Sv := (ZM (ZX (iSq (Zd 0)) 1 [1] (gNm 0) (fun _ M => .ok true M) (Zh (ZcZ List.max?) (Zb (ZX (iSq (Zd 1)) 2 [0] (gTp (gCs (gNm 0) (gCs (gNm 1) gNl))) (fun _ M => .ok true M) (e2 dSub (e2 dSub (eC (.int 0)) (e2 dMul (Zd 0) (e2 dIx (Zd 2) (eC (.int 0))))) (e2 dMul (Zd 1) (e2 dIx (Zd 2) (eC (.int 1)))))) aNil))))
noncomputable def F_law_hull : List D → Sto → Out D := fnF ZbQ 2 0
end CD
end
section
set_option Elab.async false
set_option linter.all false
set_option maxRecDepth 100000
set_option maxHeartbeats 4000000
namespace CD
open PySem PySem.Spec L2 DL
open CV
open CB (Bd)
open CA (Tn)
open CR (rt Sz)
open CH (rts ZF Z9)
section
variable {Q : D → Sto → Prop} {E : Str → Sto → Prop} {M : Sto} {n m p : Nat} {rs : List Pt} {a b c d : Int} {ρ : Ro} {k : Nat} {xs : List D} {tg : Tg} {f : Ev}
theorem Zq7 {fr : List Nat} (I : Ro → Prop) (F : Nat → D) (hM : M[n]? = some (.lst xs)) (hl : xs.length < 10000000) (h0 : I (roB k fr ρ))
    (st : ∀ (i : Nat) (h : i < xs.length) (ρ : Ro) (M' : Sto), Kp M M' → I ρ → wG (tg xs[i] ρ) fun r => I r ∧ wO (f r M') (fun y M2 => y = F i ∧ Kp M' M2) (fun _ _ => False))
    (hq : ∀ M', Kp M M' → M'[M.length]? = some (.lst ((List.range xs.length).map F)) → Q (.ref M.length) M') :
    kCo tg (fun _ M => .ok true M) f k fr ρ Q (.sto n) M := by
  refine Zhf (xs := xs) (Q := fun M2 => Q (.ref M.length) M2) (fun i ρ M' => I ρ ∧ Kp M M' ∧ M'[M.length]? = some (.lst ((List.range i).map F))) _ 0 _ _ (by simp) (by rw [Zhl hM]; omega) ⟨h0, Kp.app, by simp⟩ (fun i ρ M' hi hI => by rw [Zjl]; exact hI.2.1.get hM) ?_ (fun ρ M' hI => hq M' hI.2.1 hI.2.2)
  rintro i ρ M' hi ⟨hI, K, r⟩
  have s := st i hi ρ M' K hI
  cases e : tg xs[i] ρ with
  | none => rw [e] at s; exact s.elim
  | some r' =>
    rw [e] at s
    obtain ⟨hr, s⟩ := s
    show Br true _ _
    rw [Zn8]
    refine ZdE s (fun y M2 ⟨h1, h2⟩ => ?_) (fun _ _ z => z)
    subst h1
    rw [h2.get r]
    have hl2 := Zt (h2.get r)
    refine ⟨by simp; omega, hr, (K.trans h2).set (Nat.le_refl _), ?_⟩
    rw [List.getElem?_set_self hl2, List.range_succ, List.map_append]
    rfl
theorem Ze0 {at' : Nat} (h : M[n]? = some (.lst (prs rs))) (hb : Nr 1000 rs) (ha : at' < rs.length) (hl : rs.length ≤ 1000) (q : ∀ m M', Kp M M' → M.length ≤ m → M'[m]? = some (.lst (prs (ins rs at' ((cy rs at').1 + (cy rs (at' + 1)).1, (cy rs at').2 + (cy rs (at' + 1)).2)))) → Q (.ref m) M') : wO (F_law_short_put [.ref n, .int at'] M) Q E := by
  have hn := Zt h
  have em := Z7 (i := (at' : Int) + 1) (m := rs.length) (by omega)
  have le : ((at' : Int) + 1).toNat = at' + 1 := by omega
  simp! [F_law_short_put, Zaq, h, Zdp, ZcD, le]
  refine ⟨by rw [List.length_take]; omega, by rw [List.length_take, List.length_drop]; omega, q _ _ Kp.app (by omega) ?_⟩
  rw [ZmM]
  simp [ins]
theorem ZjA {L : List Int} (h : L ≠ []) : ∃ mx, L.max? = some mx ∧ ∀ x ∈ L, x ≤ mx := by
  cases e : L.max? with
  | none => exact absurd (List.max?_eq_none_iff.mp e) h
  | some mx => exact ⟨mx, rfl, fun x hx => (List.max?_eq_some_iff.mp e).2 x hx⟩
theorem Zch : ∀ {L : List Int}, ZbV (nts L) = some L
  | [] => rfl
  | x :: L => by
    have := Zch (L := L)
    show (match ZbV (nts L) with | some ns => some (x :: ns) | none => none) = _
    rw [this]
theorem Zp2 {M1 : Sto} {f : Int} (f0 : 0 ≤ f) (f1 : f < 5) : ∃ p ss, atI [D.ref M1.length, D.ref (M1.length + 1)] (if decide (0 < f) = true then 1 else 0) = some (.ref p) ∧ Smo ss ∧ Nr 7 ss ∧ ss.length ≤ 4 ∧ (M1 ++ [SO.lst [D.tup [D.int 1, D.int 0], D.tup [D.int 0, D.int 1], D.tup [D.int (-1), D.int (-1)]], SO.lst [D.tup [D.int 1, D.int 0], D.tup [D.int 0, D.int 1], D.tup [D.int (-1), D.int (f - 1)], D.tup [D.int 0, D.int (-1)]], SO.lst [D.ref M1.length, D.ref (M1.length + 1)]])[p]? = some (.lst (prs ss)) ∧ M1.length ≤ p := by
    by_cases z : 0 < f
    · refine ⟨M1.length + 1, [(1, 0), (0, 1), (-1, f - 1), (0, -1)], by rw [if_pos (decide_eq_true z)]; rfl, CC.Zsp (f - 1), ?_, by simp, by rw [ZmM]; rfl, by omega⟩
      intro x hx
      simp at hx
      rcases hx with rfl | rfl | rfl | rfl <;> simp <;> omega
    · refine ⟨M1.length, [(1, 0), (0, 1), (-1, -1)], by rw [if_neg (by simpa using z)]; rfl, CC.Zso, ?_, by simp, by rw [Zhg]; rfl, by omega⟩
      intro x hx
      simp at hx
      rcases hx with rfl | rfl | rfl <;> simp
theorem ZnF {most : Int} (hm : 4 ≤ most ∧ most ≤ 100) (hb : Bag n M) (q : ∀ ss m M', Smo ss → Nr 7 ss → ss.length ≤ most → M.length ≤ m → M'[m]? = some (.lst (prs ss)) → Gr n M M' → Q (.ref m) M') : wO (F_law_base [.ref n, .int most] M) Q E := by
  have hn := hb.lt
  simp! [F_law_base, ZbM]
  refine CB.ZaZ hb (by decide) fun f M1 f0 f1 g1 => ?_
  have hn1 := g1.bag.lt
  have B1 := g1.bag
  simp! [Zs]
  obtain ⟨p, ss, hp, s1, s2, s3, s4, s5⟩ := Zp2 (M1 := M1) f0 f1
  have B2 := B1.app [SO.lst [D.tup [D.int 1, D.int 0], D.tup [D.int 0, D.int 1], D.tup [D.int (-1), D.int (-1)]], SO.lst [D.tup [D.int 1, D.int 0], D.tup [D.int 0, D.int 1], D.tup [D.int (-1), D.int (f - 1)], D.tup [D.int 0, D.int (-1)]], SO.lst [D.ref M1.length, D.ref (M1.length + 1)]]
  have G2 : Gr n M1 (M1 ++ [SO.lst [D.tup [D.int 1, D.int 0], D.tup [D.int 0, D.int 1], D.tup [D.int (-1), D.int (-1)]], SO.lst [D.tup [D.int 1, D.int 0], D.tup [D.int 0, D.int 1], D.tup [D.int (-1), D.int (f - 1)], D.tup [D.int 0, D.int (-1)]], SO.lst [D.ref M1.length, D.ref (M1.length + 1)]]) := Gr.app B1 _
  generalize M1 ++ [SO.lst [D.tup [D.int 1, D.int 0], D.tup [D.int 0, D.int 1], D.tup [D.int (-1), D.int (-1)]], SO.lst [D.tup [D.int 1, D.int 0], D.tup [D.int 0, D.int 1], D.tup [D.int (-1), D.int (f - 1)], D.tup [D.int 0, D.int (-1)]], SO.lst [D.ref M1.length, D.ref (M1.length + 1)]] = M2 at *
  have gl1 := g1.len
  simp! [hp]
  refine CB.ZaZ B2 (by omega) fun t1 M3 t10 t11 g3 => ?_
  simp! [Zs]
  refine CB.ZaZ (g3.bag.app _) (by decide) fun t2 M4 t20 t21 g4 => ?_
  have k4 := Gr.new g3.bag g4
  have r4 := CA.Gr.up (CA.Gr.up s4 g3 (by omega)) ((Gr.app g3.bag _).trans g4) (by omega)
  have G4 := ((g1.trans G2).trans g3).trans ((Gr.app g3.bag _).trans g4)
  obtain ⟨many, hmany, m0⟩ : ∃ many : Int, atI [D.int (3 + t1), D.int most] (if decide (t2 = 3) = true then 1 else 0) = some (.int many) ∧ many ≤ most := by
    by_cases z : t2 = 3
    · exact ⟨most, by rw [if_pos (decide_eq_true z)]; rfl, by omega⟩
    · exact ⟨3 + t1, by rw [if_neg (by simpa using z)]; rfl, by omega⟩
  simp! [k4, hmany]
  clear k4 hmany hp
  refine ⟨by omega, ?_⟩
  refine Zc0 (fun i ρ M' => ∃ ss p x5 x6, ρ = [some (.ref n), some (.int most), some (.int f), some (.ref p), some (.int many), x5, x6] ∧ Smo ss ∧ Nr 7 ss ∧ ss.length ≤ most ∧ M.length ≤ p ∧ M'[p]? = some (.lst (prs ss)) ∧ Gr n M M') ⟨ss, p, _, _, rfl, s1, s2, by omega, by omega, r4, G4⟩ ?_ ?_
  · rintro i ρ M5 hi ⟨ss, p, x5, x6, rfl, s1, s2, s3, s4, s5, G⟩
    have sl := s1.len
    simp! [ZaK, s5]
    refine CB.ZaZ G.bag (by omega) fun t M6 t0 t1 g6 => ?_
    have s6 := CA.Gr.up s5 g6 (by omega)
    have G6 := G.trans g6
    obtain ⟨at', rfl⟩ : ∃ k : Nat, t = k := ⟨t.toNat, by omega⟩
    simp! [Zs]
    refine Ze0 s6 (fun x hx => by have := s2 x hx; omega) (by omega) (by omega) fun m M7 K7 m7 r7 => ?_
    have s7 := K7.get s6
    have G7 := G6.trans (K7.gr G6.bag)
    have l7 := Zt s7
    have sn := s1.ins (k := at') (by omega)
    have ln := ZeT (rs := ss) (k := at') (p := ((cy ss at').1 + (cy ss (at' + 1)).1, (cy ss at').2 + (cy ss (at' + 1)).2)) (by omega)
    generalize ins ss at' ((cy ss at').1 + (cy ss (at' + 1)).1, (cy ss at').2 + (cy ss (at' + 1)).2) = ns at *
    simp! [s7]
    refine Zr0 (fun b M' => Kp M7 M' ∧ (b = true → (ss.length : Int) < many ∧ Nr 7 ns)) ?_ ?_
    · refine brO (fun z => ?_) (fun z => ?_)
      · simp! [Zs]
        refine Zjm (fun ρ => ∃ x y, ρ = [x, y]) (fun (i : Nat) => D.int (max (cy ns i).1.natAbs (cy ns i).2.natAbs : Int)) r7 (by rw [ZZ]; omega) ⟨_, _, rfl⟩ ?_ ?_
        · rintro i hi ρ L ⟨x, y, rfl⟩
          rw [CC.Zb4]
          simp! [Zs]
          exact ⟨_, _, rfl⟩
        have ne : ns ≠ [] := fun z => by rw [z] at ln; simp at ln
        rw [ZZ, ZdG]
        obtain ⟨mx, hmx, hle⟩ := ZjA (L := (List.range ns.length).map fun (i : Nat) => (max (cy ns i).1.natAbs (cy ns i).2.natAbs : Int)) (fun z => by
          have := congrArg List.length z
          rw [List.length_map, List.length_range, ln] at this
          simp at this)
        simp! [Zch, hmx]
        refine ⟨Kp.app, fun u => ⟨z, fun x hx => ?_⟩⟩
        obtain ⟨i, hi, rfl⟩ := List.getElem_of_mem hx
        have := hle _ (List.mem_map.mpr ⟨i, List.mem_range.mpr hi, rfl⟩)
        simp only [Zc2 hi] at this
        have := of_decide_eq_true u
        omega
      · simp! [Zs]
        exact ⟨Kp.refl, fun u => by cases u⟩
    rintro b M8 ⟨K8, hb8⟩
    simp! [Zs]
    refine Zr7 (fun z => ?_) (fun z => ?_)
    · obtain ⟨h1, h2⟩ := hb8 z
      simp! [Zs]
      exact ⟨ns, m, _, _, rfl, sn, h2, by omega, by have := G6.len; omega, K8.get r7, G7.trans (K8.gr G7.bag)⟩
    · simp! [Zs]
      exact ⟨ss, p, _, _, rfl, s1, s2, s3, s4, K8.get s7, G7.trans (K8.gr G7.bag)⟩
  · rintro ρ M5 ⟨ss, p, x5, x6, rfl, s1, s2, s3, s4, s5, G⟩
    simp! [Zs]
    exact q ss p M5 s1 s2 s3 s4 s5 G
noncomputable abbrev tb (a b c d : Int) : SO := .lst [.int a, .int b, .int c, .int d]
theorem ZnG {B mm : Int} (t : Tn B a b c d) (hm : -7 ≤ mm ∧ mm ≤ 7) : Tn (8 * B) (a + mm * c) (b + mm * d) c d ∧ Tn (8 * B) a b (c + mm * a) (d + mm * b) := by
  obtain ⟨ta, tb', tc, td, te⟩ := t
  have m1 := CA.Zga (B := 7) hm ta
  have m2 := CA.Zga (B := 7) hm tb'
  have m3 := CA.Zga (B := 7) hm tc
  have m4 := CA.Zga (B := 7) hm td
  have d1 : (a + mm * c) * d - (b + mm * d) * c = a * d - b * c := by grind
  have d2 : a * (d + mm * b) - b * (c + mm * a) = a * d - b * c := by grind
  exact ⟨⟨by omega, by omega, by omega, by omega, by rw [d1]; exact te⟩, ⟨by omega, by omega, by omega, by omega, by rw [d2]; exact te⟩⟩
theorem ZkT (hb : Bag n M) (q : ∀ a b c d p M', Tn 14 a b c d → M.length ≤ p → M'[p]? = some (tb a b c d) → Gr n M M' → Q (.ref p) M') : wO (F_law_table [.ref n] M) Q E := by
  have hn := hb.lt
  simp! [F_law_table, Zbp]
  have B1 := hb.app [tb 1 0 0 1]
  have G1 : Gr n M (M ++ [tb 1 0 0 1]) := Gr.app hb _
  have r1 : (M ++ [tb 1 0 0 1])[M.length]? = some (tb 1 0 0 1) := by simp
  refine CB.ZaZ B1 (by decide) fun r M1 r0 r1' g1 => ?_
  have G2 := G1.trans g1
  have r2 := CA.Gr.up r1 g1 (by omega)
  simp! [Zs]
  refine ⟨by omega, ?_⟩
  refine Zc0 (fun i ρ M' => ∃ a b c d p x2 x3, ρ = [some (.ref n), some (.ref p), x2, x3] ∧ Tn (8 ^ i) a b c d ∧ M.length ≤ p ∧ M'[p]? = some (tb a b c d) ∧ Gr n M M') ⟨1, 0, 0, 1, _, _, _, rfl, ⟨by decide, by decide, by decide, by decide, .inl (by decide)⟩, by omega, r2, G2⟩ ?_ ?_
  · rintro i ρ M2 hi ⟨a, b, c, d, p, x2, x3, rfl, tn, pl, v1, G⟩
    simp! [ZaC]
    refine CB.ZaZ G.bag (by decide) fun s M3 s0 s1 g3 => ?_
    simp! [Zs]
    refine CB.ZaZ g3.bag (by decide) fun s' M4 s0' s1' g4 => ?_
    simp! [Zs]
    refine CB.ZaZ (g4.bag.app _) (by decide) fun t M5 t0 t1 g5 => ?_
    have k5 := Gr.new g4.bag g5
    obtain ⟨mm, hmm, m0⟩ : ∃ mm : Int, atI [D.int (s - 2), D.int (s' - 7)] (if decide (t = 5) = true then 1 else 0) = some (.int mm) ∧ (-7 ≤ mm ∧ mm ≤ 7) := by
      by_cases z : t = 5
      · exact ⟨s' - 7, by rw [if_pos (decide_eq_true z)]; rfl, by omega⟩
      · exact ⟨s - 2, by rw [if_neg (by simpa using z)]; rfl, by omega⟩
    simp! [k5, hmm]
    refine CB.ZaZ g5.bag (by decide) fun t' M6 t0' t1' g6 => ?_
    have G6 := (((G.trans g3).trans g4).trans ((Gr.app g4.bag _).trans g5)).trans g6
    have v6 := CA.Gr.up (CA.Gr.up (CA.Gr.up (CA.Gr.up v1 g3 (by omega)) g4 (by omega)) ((Gr.app g4.bag _).trans g5) (by omega)) g6 (by omega)
    have hp := Zt v6
    have gl := G6.len
    have p8 : (8 : Int) ^ (i + 1) = 8 * 8 ^ i := by rw [Int.pow_succ, Int.mul_comm]
    have ta := ZnG tn m0
    rw [← p8] at ta
    have fc := tn.fa
    have fb := tn.fb
    have fcc := tn.fc
    have fd := tn.fd
    simp! [Zs]
    refine brS (fun z => ?_) (fun z => ?_)
    · simp! [v6]
      exact ⟨a + mm * c, b + mm * d, c, d, _, _, _, rfl, ta.1, gl, by simp, G6.app2 _⟩
    · simp! [v6]
      exact ⟨a, b, c + mm * a, d + mm * b, _, _, _, rfl, ta.2, gl, by simp, G6.app2 _⟩
  · rintro ρ M2 ⟨a, b, c, d, p, x2, x3, rfl, tn, pl, v1, G⟩
    simp! [Zs]
    refine CB.ZaZ G.bag (by decide) fun s M3 s0 s1 g3 => ?_
    have v3 := CA.Gr.up v1 g3 (by have := hb.lt; omega)
    have hp := Zt v3
    simp! [Zs]
    refine Zqt (fun ρ M' => ∃ a b c d p, ρ = [some (.ref n), some (.ref p), x2, x3] ∧ (a * d - b * c = 1 ∨ a * d - b * c = -1) ∧ M.length ≤ p ∧ M'[p]? = some (tb a b c d) ∧ Gr n M M') ?_ ?_
    · refine brS (fun z => ?_) (fun z => ?_)
      · have dt : c * b - d * a = 1 ∨ c * b - d * a = -1 := by
          rcases tn.det with e | e
          · right; grind
          · left; grind
        simp! [v3]
        exact ⟨c, d, a, b, _, rfl, dt, by have := (G.trans g3).len; omega, by simp, (G.trans g3).app2 _⟩
      · simp! [Zs]
        exact ⟨a, b, c, d, p, rfl, tn.det, pl, v3, G.trans g3⟩
    · rintro _ M4 ⟨a, b, c, d, p, rfl, t4, l4, v4, G4⟩
      have hp4 := Zt v4
      simp! [Zs]
      refine Zjm (fun ρ => ∃ x, ρ = [x]) (fun (i : Nat) => D.int (([a, b, c, d].getD i 0).natAbs : Int)) v4 (by simp) ⟨_, rfl⟩ ?_ ?_
      · rintro i hi ρ L ⟨x, rfl⟩
        have : i = 0 ∨ i = 1 ∨ i = 2 ∨ i = 3 := by simp at hi; omega
        rcases this with rfl | rfl | rfl | rfl <;> simp only [List.getElem_cons_zero, List.getElem_cons_succ, List.getD_cons_zero, List.getD_cons_succ] <;> simp! [Zs] <;> exact ⟨_, rfl⟩
      have mp : ((List.range [D.int a, D.int b, D.int c, D.int d].length).map fun (i : Nat) => D.int (([a, b, c, d].getD i 0).natAbs : Int)) = nts [(a.natAbs : Int), b.natAbs, c.natAbs, d.natAbs] := rfl
      rw [mp]
      obtain ⟨mx, hmx, hle⟩ := ZjA (L := [(a.natAbs : Int), b.natAbs, c.natAbs, d.natAbs]) (by simp)
      have h1 := hle a.natAbs (by simp)
      have h2 := hle b.natAbs (by simp)
      have h3 := hle c.natAbs (by simp)
      have h4 := hle d.natAbs (by simp)
      have K5 : Kp M4 (M4 ++ [SO.lst (nts [(a.natAbs : Int), b.natAbs, c.natAbs, d.natAbs])]) := Kp.app
      have id := Zch (L := [(a.natAbs : Int), b.natAbs, c.natAbs, d.natAbs])
      generalize [(a.natAbs : Int), b.natAbs, c.natAbs, d.natAbs] = L4 at *
      simp! [id, hmx]
      generalize M4 ++ [SO.lst (nts L4)] = M5 at *
      have G5 := G4.trans (K5.gr G4.bag)
      refine brS (fun z => ?_) (fun z => ?_)
      · simp! [Zs]
        exact q 0 1 1 0 _ _ ⟨by decide, by decide, by decide, by decide, .inr (by decide)⟩ (by have := G5.len; omega) (by simp) (G5.app2 _)
      · simp! [Zs]
        exact q a b c d p M5 ⟨by omega, by omega, by omega, by omega, t4⟩ l4 (K5.get v4) G5
end
end CD
end
section
set_option Elab.async false
set_option linter.all false
set_option maxRecDepth 100000
set_option maxHeartbeats 4000000
namespace CD
open PySem PySem.Spec L2 DL
open CV
open CB (Bd)
open CA (Tn)
open CR (rt Sz)
open CH (rts ZF Z9)
noncomputable def gg (a b c d : Int) (p : Pt) : Pt := (a * p.1 + b * p.2, c * p.1 + d * p.2)
theorem Zp3 {a b c d : Int} (u v : Pt) : X (gg a b c d u) (gg a b c d v) = (a * d - b * c) * X u v := by unfold X gg; simp only; grind
noncomputable def sg {α : Type} (neg : Bool) (k : Nat) (L : List α) : List α := (if neg then L.reverse else L).drop k ++ (if neg then L.reverse else L).take k
theorem ZfF {α : Type} {neg : Bool} {k : Nat} {L : List α} : (sg neg k L).length = L.length := by
  unfold sg
  rw [List.length_append, List.length_drop, List.length_take]
  cases neg <;> simp <;> omega
noncomputable def zp (us : List Pt) (xs : List D) : List D := List.zipWith (fun u x => D.tup [pr u.1 u.2, x]) us xs
theorem Zhz {us : List Pt} {xs : List D} (h : xs.length = us.length) : (zp us xs).length = us.length := by unfold zp; simp [h]
theorem ZhA {us : List Pt} {xs : List D} {i : Nat} (h : i < (zp us xs).length) (h1 : i < us.length) (h2 : i < xs.length) : (zp us xs)[i] = D.tup [pr us[i].1 us[i].2, xs[i]] := List.getElem_zipWith
theorem ZnH {us : List Pt} {xs : List D} (h : xs.length = us.length) : (zp us xs).reverse = zp us.reverse xs.reverse := by
  unfold zp
  rw [List.reverse_zipWith h.symm]
theorem ZnI {us : List Pt} {xs : List D} {k : Nat} (h : xs.length = us.length) : (zp us xs).drop k ++ (zp us xs).take k = zp (us.drop k ++ us.take k) (xs.drop k ++ xs.take k) := by
  unfold zp
  rw [List.zipWith_append (by simp [h]), List.drop_zipWith, List.take_zipWith]
theorem ZnJ {a b c d : Int} {rs : List Pt} {k : Nat} (hs : Smo rs) (hk : k ≤ rs.length) (hd : a * d - b * c = 1 ∨ a * d - b * c = -1) : Smo (sg (decide (a * d - b * c < 0)) k (rs.map (gg a b c d))) := by
  unfold sg
  have ml : (rs.map (gg a b c d)).length = rs.length := List.length_map _
  rcases hd with hd | hd
  · rw [hd, if_neg (by decide)]
    exact (hs.map (f := gg a b c d) fun p q => by rw [Zp3, hd, Int.one_mul]).rot (by rw [ml]; exact hk)
  · rw [hd, if_pos (by decide)]
    refine Smo.rot (CA.ZkO (by rw [ml]; exact hs.len) (fun i => ?_) ?_) (by rw [List.length_reverse, ml]; exact hk)
    · rw [ZfA hs.ne, ZfA hs.ne, Zp3, hd, hs.one]; rfl
    · exact hs.fan.flip (f := gg a b c d) fun p q => by rw [Zp3, hd]
theorem Zp4 {a b c d : Int} {rs : List Pt} {neg : Bool} {k : Nat} (hr : Nr 7 rs) (t : Tn 14 a b c d) : Nr 200 (sg neg k (rs.map (gg a b c d))) := by
  intro p hp
  have : p ∈ rs.map (gg a b c d) := by
    unfold sg at hp
    cases neg
    · simp only [Bool.false_eq_true, if_false, List.mem_append] at hp
      rcases hp with hp | hp
      · exact List.mem_of_mem_drop hp
      · exact List.mem_of_mem_take hp
    · simp only [if_true, List.mem_append] at hp
      rcases hp with hp | hp
      · exact List.mem_reverse.mp (List.mem_of_mem_drop hp)
      · exact List.mem_reverse.mp (List.mem_of_mem_take hp)
  obtain ⟨x, hx, rfl⟩ := List.mem_map.mp this
  have h := hr x hx
  have m1 := CA.Zga t.fa h.1
  have m2 := CA.Zga t.fb h.2
  have m3 := CA.Zga t.fc h.1
  have m4 := CA.Zga t.fd h.2
  unfold gg
  simp only
  omega
section
variable {Q : D → Sto → Prop} {E : Str → Sto → Prop} {M : Sto} {n m p : Nat} {rs : List Pt} {a b c d : Int} {ρ : Ro} {k : Nat} {xs : List D} {tg : Tg} {f : Ev}
theorem ZnK {st : Int} (h : M[n]? = some (.lst (prs rs))) (hx : M[m]? = some (.lst xs)) (lx : xs.length = rs.length) (ht : M[p]? = some (tb a b c d)) (t : Tn 14 a b c d) (hr : Nr 7 rs) (hl : rs.length ≤ 1000) (hst : 0 ≤ st ∧ st ≤ rs.length)
    (q : ∀ o1 o2 M', Kp M M' → M.length ≤ o1 → M.length ≤ o2 → o1 ≠ o2 → M'[o1]? = some (.lst (prs (sg (decide (a * d - b * c < 0)) st.toNat (rs.map (gg a b c d))))) → M'[o2]? = some (.lst (sg (decide (a * d - b * c < 0)) st.toNat xs)) → Q (.tup [.ref o1, .ref o2]) M') : wO (F_law_spun [.ref p, .ref n, .ref m, .int st] M) Q E := by
  have hn := Zt h
  have hm := Zt hx
  have hp := Zt ht
  obtain ⟨ta, tb', tc, td, te⟩ := t
  have zl : (List.zipWith (fun a b => D.tup [a, b]) (prs rs) xs).length = rs.length := by simp [ZZ, lx]
  simp! [F_law_spun, ZbN]
  refine Zoa (xs := List.zipWith (fun a b => D.tup [a, b]) (prs rs) xs) (fun ρ => ∃ x y z, ρ = [x, y, z, some (.ref p)]) (fun (i : Nat) => D.tup [pr (gg a b c d (cy rs i)).1 (gg a b c d (cy rs i)).2, xs.getD i .non]) (by omega) (by rw [ZkF h, zl, ZZ]; omega) ⟨_, _, _, rfl⟩ (fun L i hi => ?_) ?_ ?_
  · rw [Zm7 (by rw [Zdd hn]; exact h) (by rw [Zdd hm]; exact hx)]
  · rintro i hi ρ L ⟨x, y, z, rfl⟩
    rw [zl] at hi
    have hp' : (M ++ L)[p]? = some (tb a b c d) := by rw [Zdd hp]; exact ht
    rw [List.getElem_zipWith, CC.Zb4]
    simp! [hp']
    refine ⟨⟨_, _, _, rfl⟩, ?_⟩
    rw [List.getD_eq_getElem?_getD, List.getElem?_eq_getElem (by omega)]
    rfl
  have en : ((List.range (List.zipWith (fun a b => D.tup [a, b]) (prs rs) xs).length).map fun (i : Nat) => D.tup [pr (gg a b c d (cy rs i)).1 (gg a b c d (cy rs i)).2, xs.getD i .non]) = zp (rs.map (gg a b c d)) xs := by
    rw [zl]
    apply List.ext_getElem
    · rw [Zhz (by rw [List.length_map, lx])]; simp
    · intro i h1 h2
      simp at h1
      rw [List.getElem_map, List.getElem_range, ZhA h2 (by simp; omega) (by omega), List.getElem_map, Zc2 h1, List.getD_eq_getElem?_getD, List.getElem?_eq_getElem (by omega)]
      rfl
  rw [en]
  have K1 : Kp M (M ++ [SO.lst (zp (rs.map (gg a b c d)) xs)]) := Kp.app
  have r1 : (M ++ [SO.lst (zp (rs.map (gg a b c d)) xs)])[M.length]? = some (.lst (zp (rs.map (gg a b c d)) xs)) := by simp
  generalize M ++ [SO.lst (zp (rs.map (gg a b c d)) xs)] = M1 at *
  have ht1 := K1.get ht
  have hl1 := Zt r1
  have hp1 := Zt ht1
  generalize hus : rs.map (gg a b c d) = us at *
  have lu : xs.length = us.length := by rw [← hus, List.length_map, lx]
  have lur : us.length = rs.length := by omega
  clear en zl
  simp! [ht1]
  refine Zqt (fun ρ M' => ∃ o us' xs', ρ = [some (.ref p), some (.ref n), some (.ref m), some (.int st), some (.ref o)] ∧ Kp M M' ∧ M'[o]? = some (.lst (zp us' xs')) ∧ us' = (if decide (a * d - b * c < 0) then us.reverse else us) ∧ xs' = (if decide (a * d - b * c < 0) then xs.reverse else xs)) ?_ ?_
  · refine brS (fun z => ?_) (fun z => ?_)
    · simp! [ZpS, r1]
      refine ⟨_, us.reverse, xs.reverse, rfl, K1.trans Kp.app, by rw [Zhg, ZnH lu]; rfl, by simp, by simp⟩
    · simp! [Zs]
      exact ⟨_, us, xs, rfl, K1, r1, by simp, by simp⟩
  · rintro _ M2 ⟨o, us', xs', rfl, K2, r2, e1, e2⟩
    have l2 := Zt r2
    have lu' : xs'.length = us'.length := by
      rw [e1, e2]
      split <;> simp [lu]
    have lur' : us'.length = rs.length := by
      rw [e1]
      split <;> simp [lur]
    have lz := Zhz lu'
    simp! [r2]
    refine ⟨by rw [List.length_take, List.length_drop]; omega, ?_⟩
    rw [ZnI lu']
    have g1 : sg (decide (a * d - b * c < 0)) st.toNat us = us'.drop st.toNat ++ us'.take st.toNat := by rw [e1]; rfl
    have g2 : sg (decide (a * d - b * c < 0)) st.toNat xs = xs'.drop st.toNat ++ xs'.take st.toNat := by rw [e2]; rfl
    rw [← g1, ← g2]
    have lg1 : (sg (decide (a * d - b * c < 0)) st.toNat us).length = rs.length := by rw [ZfF, lur]
    have lg2 : (sg (decide (a * d - b * c < 0)) st.toNat xs).length = rs.length := by rw [ZfF, lx]
    generalize sg (decide (a * d - b * c < 0)) st.toNat us = vs at *
    generalize sg (decide (a * d - b * c < 0)) st.toNat xs = ys at *
    generalize hM3 : M2 ++ [SO.lst ((zp us' xs').drop st.toNat), SO.lst ((zp us' xs').take st.toNat), SO.lst (zp vs ys)] = M3
    have K3 : Kp M M3 := by rw [← hM3]; exact K2.trans Kp.app
    have r3 : M3[M2.length + 2]? = some (.lst (zp vs ys)) := by rw [← hM3, ZmM]; rfl
    have l3 : M3.length = M2.length + 3 := by rw [← hM3]; simp
    have lz3 := Zhz (us := vs) (xs := ys) (by omega)
    have kl := K2.1
    refine Zjm (fun ρ => ∃ x y, ρ = [x, y]) (fun (i : Nat) => pr (cy vs i).1 (cy vs i).2) r3 (by omega) ⟨_, _, rfl⟩ ?_ ?_
    · rintro i hi ρ L ⟨x, y, rfl⟩
      have hi' : i < vs.length := by omega
      have e : (zp vs ys)[i] = D.tup [pr vs[i].1 vs[i].2, ys[i]'(by omega)] := ZhA _ _ _
      rw [e, Zc2 hi']
      simp! [Zs]
      exact ⟨_, _, rfl⟩
    have en : ((List.range (zp vs ys).length).map fun (i : Nat) => pr (cy vs i).1 (cy vs i).2) = prs vs := by
      rw [lz3]
      conv => rhs; rw [← ZeZ (us := vs)]
      unfold prs
      rw [List.map_map]
      rfl
    rw [en]
    have K4 : Kp M3 (M3 ++ [SO.lst (prs vs)]) := Kp.app
    have r4 : (M3 ++ [SO.lst (prs vs)])[M3.length]? = some (.lst (prs vs)) := by simp
    generalize M3 ++ [SO.lst (prs vs)] = M4 at *
    have r34 := K4.get r3
    have l4 := Zt r4
    simp! [Zs]
    refine Zjm (fun ρ => ∃ x y, ρ = [x, y]) (fun (i : Nat) => ys.getD i .non) r34 (by omega) ⟨_, _, rfl⟩ ?_ ?_
    · rintro i hi ρ L ⟨x, y, rfl⟩
      have hi' : i < vs.length := by omega
      have e : (zp vs ys)[i] = D.tup [pr vs[i].1 vs[i].2, ys[i]'(by omega)] := ZhA _ _ _
      rw [e, List.getD_eq_getElem?_getD, List.getElem?_eq_getElem (by omega)]
      simp! [Zs]
      exact ⟨⟨_, _, rfl⟩, rfl⟩
    have en2 : ((List.range (zp vs ys).length).map fun (i : Nat) => ys.getD i .non) = ys := by
      rw [lz3]
      apply List.ext_getElem
      · simp; omega
      · intro i h1 h2
        simp [List.getElem?_eq_getElem h2]
    rw [en2]
    simp! [Zs]
    exact q _ _ _ ((K3.trans K4).trans Kp.app) (by omega) (by omega) (by omega) (by rw [Zdd l4]; exact r4) (by simp)
end
end CD
end
section
set_option Elab.async false
set_option linter.all false
set_option maxRecDepth 100000
set_option maxHeartbeats 4000000
namespace CD
open PySem PySem.Spec L2 DL
open CV CN CU CS
open CR (rt Sz)
open CH (rts ZF Z9)
noncomputable def mxr (xs : List Rat) : Rat := xs.foldl (fun b x => if b < x then x else b) (xs.headD 0)
theorem ZdQ : ∀ (xs : List Rat) (b : Rat), (xs.foldl (fun b x => if b < x then x else b) b = b ∨ xs.foldl (fun b x => if b < x then x else b) b ∈ xs) ∧ b ≤ xs.foldl (fun b x => if b < x then x else b) b ∧ ∀ x ∈ xs, x ≤ xs.foldl (fun b x => if b < x then x else b) b
  | [], b => ⟨.inl rfl, Rat.le_refl, fun x h => by cases h⟩
  | x :: xs, b => by
    rw [List.foldl_cons]
    by_cases h : b < x
    · rw [if_pos h]
      obtain ⟨h1, h2, h3⟩ := ZdQ xs x
      refine ⟨.inr ?_, by grind, fun y hy => ?_⟩
      · rcases h1 with e | e
        · rw [e]; simp
        · exact List.mem_cons_of_mem _ e
      · rcases List.mem_cons.mp hy with rfl | hy
        · exact h2
        · exact h3 y hy
    · rw [if_neg h]
      obtain ⟨h1, h2, h3⟩ := ZdQ xs b
      refine ⟨?_, h2, fun y hy => ?_⟩
      · rcases h1 with e | e
        · exact .inl e
        · exact .inr (List.mem_cons_of_mem _ e)
      · rcases List.mem_cons.mp hy with rfl | hy
        · grind
        · exact h3 y hy
theorem ZkU {xs : List Rat} (h : xs ≠ []) : mxr xs ∈ xs := by
  cases xs with
  | nil => exact absurd rfl h
  | cons x r =>
    rcases (ZdQ (x :: r) x).1 with e | e
    · unfold mxr; rw [show (x :: r).headD 0 = x from rfl, e]; simp
    · exact e
theorem ZnL {xs : List Rat} {x : Rat} (h : x ∈ xs) : x ≤ mxr xs := (ZdQ xs _).2.2 x h
theorem ZnM {xs : List Rat} {g : Rat} (h : g ∈ xs) (hl : ∀ x ∈ xs, x ≤ g) : mxr xs = g := by
  have h1 := ZnL h
  have h2 := hl _ (ZkU (List.ne_nil_of_mem h))
  exact Rat.le_antisymm h2 h1
noncomputable def pts (ms : List (Rat × Rat)) : List D := ms.map fun m => D.tup [rt m.1, rt m.2]
theorem Zba {ms : List (Rat × Rat)} : (pts ms).length = ms.length := List.length_map _
theorem ZhB {ms : List (Rat × Rat)} {i : Nat} (h : i < (pts ms).length) : (pts ms)[i] = D.tup [rt (ms[i]'(by rw [Zba] at h; exact h)).1, rt (ms[i]'(by rw [Zba] at h; exact h)).2] := by simp [pts]
noncomputable def hts (rs : List Pt) (ms : List (Rat × Rat)) : List Rat := rs.map fun r => mxr (ms.map fun m => 0 - slp m r)
section
variable {Q : D → Sto → Prop} {E : Str → Sto → Prop} {M : Sto} {n m k l : Nat} {rs : List Pt} {p q : Rat} {xs : List Rat} {ms : List (Rat × Rat)}
theorem ZjB (hp : Sz k p) (hq : Sz l q) (hk : k + l ≤ 8000) : wO (F_less [rt p, rt q] M) Q E = Q (.bl (decide (p < q))) M := by
  have f1 : ZC p.num (q.den : Int) := ZN k l hp.1 (by simpa using hq.2) (by omega) (by omega)
  have f2 : ZC q.num (p.den : Int) := ZN l k hq.1 (by simpa using hp.2) (by omega) (by omega)
  simp! [F_less, ZfE, Za1 f1, Za1 f2]
  rw [show decide (p.num * (q.den : Int) < q.num * (p.den : Int)) = decide (p < q) from decide_eq_decide.mpr (Rat.lt_iff p q).symm]
theorem Zf2 (h : M[n]? = some (.lst (rts xs))) (hx : xs ≠ []) (hz : ∀ x ∈ xs, Sz k x) (hk : k ≤ 4000) : wO (F_greatest [.ref n] M) Q E = Q (rt (mxr xs)) M := by
  have main (Q : D → Sto → Prop) (E : Str → Sto → Prop) (q : Q (rt (mxr xs)) M) : wO (F_greatest [.ref n] M) Q E := by
    have hn := Zt h
    have hl : xs.length ≠ 0 := by simpa using hx
    have c0 : cq xs 0 = xs.headD 0 := by
      cases xs with
      | nil => exact absurd rfl hx
      | cons a r => unfold cq; simp
    simp! [F_greatest, ZbO, h, Zeq, c0]
    refine Zhe (xs := rts xs) (fun i ρ M' => M' = M ∧ ∃ b x, ρ = [some (.ref n), some (rt b), x] ∧ Sz k b ∧ b = (xs.take i).foldl (fun b x => if b < x then x else b) (xs.headD 0)) h ⟨rfl, _, _, rfl, by rw [← c0]; exact Zcq hz hl, rfl⟩ (fun i ρ M' hI => hI.1 ▸ h) ?_ ?_
    · rintro i ρ _ hi ⟨rfl, b, x, rfl, hb, e⟩
      rw [ZdO]
      have hi' : i < xs.length := by rw [ZF] at hi; exact hi
      have z := Zcq (i := i) hz hl
      simp! [ZaL]
      rw [ZjB hb z (by omega)]
      have tk : xs.take (i + 1) = xs.take i ++ [cq xs i] := by rw [List.take_succ_eq_append_getElem hi', ZbY hi']
      refine brS (fun c => ?_) (fun c => ?_)
      · simp! [Zs]
        refine ⟨_, _, rfl, z, ?_⟩
        rw [tk, List.foldl_append, ← e, List.foldl_cons, List.foldl_nil, if_pos c]
      · simp! [Zs]
        refine ⟨_, _, rfl, hb, ?_⟩
        rw [tk, List.foldl_append, ← e, List.foldl_cons, List.foldl_nil, if_neg c]
    · rintro ρ _ ⟨rfl, b, x, rfl, hb, e⟩
      simp! [Zs]
      rw [ZF, List.take_length] at e
      rw [e]
      exact q
  obtain ⟨d, M', e, e1, e2⟩ := Zha (main (fun d M' => d = rt (mxr xs) ∧ M' = M) (fun _ _ => False) ⟨rfl, rfl⟩)
  rw [e, e1, e2]
  rfl
theorem Zcs (hp : Sz k p) (hk : k ≤ 7000) : wO (F_contrary [rt p] M) Q E = Q (rt (0 - p)) M := by
  simp! [F_contrary, ZbP]
  rw [show D.tup [D.int 0, D.int 1] = rt ((0 : Int) : Rat) from CS.Zdr 0, CS.ZeX (CS.Za4 (k := 1) (by decide) (by decide)) hp (by omega)]
  rfl
theorem Ze1 (h : M[n]? = some (.lst (prs rs))) (hs : Smo rs) (hb : Nr 200 rs) (hl : rs.length ≤ 1000) (hm : M[m]? = some (.lst (pts ms))) (hne : ms ≠ []) (lm : ms.length ≤ 1000) (hz : ∀ x ∈ ms, Sz k x.1 ∧ Sz k x.2) (hk : k ≤ 1000)
    (q : ∀ M', Kp M M' → M'[M.length]? = some (.lst (rts (hts rs ms))) → Q (.ref M.length) M') : wO (F_height_of [.ref n, .ref m] M) Q E := by
  have hn := Zt h
  have hm' := Zt hm
  simp! [F_height_of, Zbq]
  refine CC.ZcE h hs (fun x hx => by have := hb x hx; omega) ?_
  simp! [Zs]
  refine Zq7 (fun ρ => ∃ x, ρ = [x, some (.ref m)]) (fun (i : Nat) => rt (cq (hts rs ms) i)) h (by rw [ZZ]; omega) ⟨_, rfl⟩ ?_ ?_
  · rintro i hi ρ M1 K1 ⟨x, rfl⟩
    rw [CC.Zb4]
    rw [ZZ] at hi
    have hm1 := K1.get hm
    have hml := Zt hm1
    have hr := hb _ (ZaY (i := i) hs.ne)
    simp! [Zs]
    refine ⟨⟨_, rfl⟩, ?_⟩
    have hxs : (hts rs ms).length = rs.length := List.length_map _
    have e : cq (hts rs ms) i = mxr (ms.map fun m => 0 - slp m (cy rs i)) := by
      rw [ZbY (by omega), Zc2 hi]
      simp [hts]
    generalize hv : (ms.map fun m => 0 - slp m (cy rs i)) = vs at *
    have lv : vs.length = ms.length := by rw [← hv, List.length_map]
    have hzv : ∀ x ∈ vs, Sz (2 * k + 19) x := by
      intro x hx
      rw [← hv] at hx
      obtain ⟨mm, hmm, rfl⟩ := List.mem_map.mp hx
      have := CS.Zep (CS.Za4 (z := 0) (k := 1) (by decide) (by decide)) (Zjy (hz mm hmm).1 (hz mm hmm).2 hr)
      exact ZkR this (by omega)
    refine Zjm (fun ρ => ∃ y, ρ = [y, some (pr (cy rs i).1 (cy rs i).2)]) (fun (j : Nat) => rt (cq vs j)) hm1 (by rw [Zba]; omega) ⟨_, rfl⟩ ?_ ?_
    · rintro j hj ρ L ⟨y, rfl⟩
      have hj' : j < ms.length := by rw [Zba] at hj; exact hj
      rw [ZhB]
      have hzj := hz _ (List.getElem_mem hj')
      have ev : cq vs j = 0 - slp ms[j] (cy rs i) := by
        rw [ZbY (by omega)]
        simp [← hv]
      simp! [ZiJ hzj.1 hzj.2 hr (by omega), Zcs (Zjy hzj.1 hzj.2 hr) (by omega)]
      refine ⟨⟨_, rfl⟩, by rw [ev]⟩
    rw [Zba, ZeY lv (fun i hi => rfl)]
    have r2 : (M1 ++ [SO.lst (rts vs)])[M1.length]? = some (.lst (rts vs)) := by simp
    simp! [Zf2 r2 (fun z => by rw [z] at lv; simp at lv; exact hne (List.length_eq_zero_iff.mp lv.symm)) hzv (by omega)]
    exact ⟨by rw [e], Kp.app⟩
  · intro M' K' r'
    rw [ZZ, ZeY (xs := hts rs ms) (List.length_map _) (fun i hi => rfl)] at r'
    exact q M' K' r'
end
end CD
end
section
set_option Elab.async false
set_option linter.all false
set_option maxRecDepth 100000
set_option maxHeartbeats 4000000
namespace DL
open TW
open CN (cq bnd ZbY Zjw)
open CS (slp)
section
variable {rs : List Pt} {hs : List Rat}
theorem Smo.once (h : Smo rs) (k : Int) {j : Nat} (h1 : 1 ≤ j) (hj : j < rs.length) (e : X (cy rs k) (cy rs (k + j)) ≤ 0) : X (cy rs k) (cy rs (k + j + 1)) ≤ 0 := by
  have hne := h.ne
  obtain ⟨a, ha, ea⟩ := ZnE hne k
  have e0 := ea 0
  simp only [Int.add_zero] at e0
  rw [show k + (j : Int) + 1 = k + ((j : Int) + 1) by omega, e0, ea]
  rw [e0, ea] at e
  obtain ⟨b, hb, ab, f0, f1⟩ : ∃ b : Nat, b < rs.length ∧ a ≠ b ∧ cy rs ((a : Int) + j) = cy rs b ∧ cy rs ((a : Int) + ((j : Int) + 1)) = cy rs (b + 1) := by
    by_cases c : a + j < rs.length
    · exact ⟨a + j, c, by omega, by rw [show ((a + j : Nat) : Int) = (a : Int) + j by omega], by rw [show ((a + j : Nat) : Int) + 1 = (a : Int) + ((j : Int) + 1) by omega]⟩
    · refine ⟨a + j - rs.length, by omega, by omega, ?_, ?_⟩
      · rw [← Zc1 (rs := rs) (i := (a : Int) + j)]; congr 1; omega
      · rw [← Zc1 (rs := rs) (i := (a : Int) + ((j : Int) + 1))]; congr 1; omega
  rw [f1]
  rw [f0] at e
  by_cases c : X (cy rs a) (cy rs (b + 1)) ≤ 0
  · exact c
  · exfalso
    have w0 : cy rs a ≠ (0, 0) := by
      intro z
      have := h.one a
      rw [z] at this
      unfold X at this
      simp at this
    have fan := (h.fan (cy rs a) w0).1
    rw [Zjz hne] at fan
    have i1 : in1 (cy rs a) (cy rs a) (cy rs (a + 1)) = 1 := Zhq (by rw [XX]; omega) (by rw [h.one a]; omega)
    have i2 : in1 (cy rs a) (cy rs b) (cy rs (b + 1)) = 1 := Zhq (by rw [Zf1]; omega) (by omega)
    rcases Nat.lt_or_gt_of_ne ab with z | z
    · have g := Zhy (f := in1 (cy rs a)) (rs := rs) rs.length 0 a b z hb
      rw [show (0 : Int) + a = a by omega, show (0 : Int) + b = b by omega, i1, i2] at g
      omega
    · have g := Zhy (f := in1 (cy rs a)) (rs := rs) rs.length 0 b a z ha
      rw [show (0 : Int) + a = a by omega, show (0 : Int) + b = b by omega, i1, i2] at g
      omega
noncomputable def cor (rs : List Pt) (hs : List Rat) (i : Int) : Rat × Rat :=
  ((0 - cq hs i) * ((cy rs (i + 1)).2 : Rat) - (0 - cq hs (i + 1)) * ((cy rs i).2 : Rat), (0 - cq hs (i + 1)) * ((cy rs i).1 : Rat) - (0 - cq hs i) * ((cy rs (i + 1)).1 : Rat))
theorem ZnN {a b : Pt} {z : Int} (h : X a b = z) : (a.1 : Rat) * b.2 - a.2 * b.1 = z := by
  rw [← h]
  unfold X
  rw [Rat.intCast_sub, Rat.intCast_mul, Rat.intCast_mul]
theorem ZdR (h : Smo rs) (i : Int) : slp (cor rs hs i) (cy rs i) = 0 - cq hs i ∧ slp (cor rs hs i) (cy rs (i + 1)) = 0 - cq hs (i + 1) := by
  have o := ZnN (h.one i)
  unfold slp cor
  simp only
  generalize cq hs i = x at *
  generalize cq hs (i + 1) = y at *
  generalize ((cy rs i).1 : Rat) = a at *
  generalize ((cy rs i).2 : Rat) = b at *
  generalize ((cy rs (i + 1)).1 : Rat) = c at *
  generalize ((cy rs (i + 1)).2 : Rat) = d at *
  constructor <;> grind
theorem ZiM (h : Smo rs) (i : Int) : (cor rs hs i).1 - (cor rs hs (i - 1)).1 = bnd rs hs i * ((cy rs i).2 : Rat) ∧ (cor rs hs i).2 - (cor rs hs (i - 1)).2 = 0 - bnd rs hs i * ((cy rs i).1 : Rat) := by
  obtain ⟨s1, s2⟩ := CN.Zhw h i
  have t1 : ((cy rs (i - 1)).1 : Rat) + (cy rs (i + 1)).1 = -(T rs i : Rat) * (cy rs i).1 := by
    rw [← Rat.intCast_add, s1, Rat.intCast_mul, Rat.intCast_neg]
  have t2 : ((cy rs (i - 1)).2 : Rat) + (cy rs (i + 1)).2 = -(T rs i : Rat) * (cy rs i).2 := by
    rw [← Rat.intCast_add, s2, Rat.intCast_mul, Rat.intCast_neg]
  unfold cor bnd
  simp only
  rw [show i - 1 + 1 = i by omega]
  generalize cq hs i = x at *
  generalize cq hs (i + 1) = y at *
  generalize cq hs (i - 1) = z at *
  generalize ((cy rs i).1 : Rat) = a at *
  generalize ((cy rs i).2 : Rat) = b at *
  generalize ((cy rs (i + 1)).1 : Rat) = c at *
  generalize ((cy rs (i + 1)).2 : Rat) = d at *
  generalize ((cy rs (i - 1)).1 : Rat) = e at *
  generalize ((cy rs (i - 1)).2 : Rat) = f at *
  generalize (T rs i : Rat) = t at *
  constructor <;> grind
theorem ZkV (h : Smo rs) (i : Int) (r : Pt) : slp (cor rs hs i) r = slp (cor rs hs (i - 1)) r + bnd rs hs i * (X r (cy rs i) : Rat) := by
  obtain ⟨s1, s2⟩ := ZiM (hs := hs) h i
  have x := ZnN (a := r) (b := cy rs i) rfl
  rw [← x]
  unfold slp
  generalize cor rs hs i = p at *
  generalize cor rs hs (i - 1) = q at *
  grind
theorem ZjC (hl : hs.length = rs.length) (i : Int) : cq hs (i + rs.length) = cq hs i := by
  unfold cq
  rw [← hl, Int.add_emod_right]
theorem ZhC (hl : hs.length = rs.length) (i : Int) : cor rs hs (i + rs.length) = cor rs hs i := by
  unfold cor
  rw [ZjC hl, show i + (rs.length : Int) + 1 = i + 1 + rs.length by omega, ZjC hl, Zhk, Zhk]
theorem ZfG {x : Rat} {z : Int} (h : 0 ≤ x) (k : 0 ≤ z) : 0 ≤ x * (z : Rat) := by
  have := Rat.mul_nonneg h (Rat.intCast_nonneg.mpr k)
  exact this
theorem ZiN {x : Rat} {z : Int} (h : 0 ≤ x) (k : z ≤ 0) : x * (z : Rat) ≤ 0 := by
  have := ZfG h (z := -z) (by omega)
  rw [Rat.intCast_neg] at this
  grind
theorem ZjD (h : Smo rs) (hl : hs.length = rs.length) (hb : ∀ i : Int, 0 ≤ bnd rs hs i) (k : Int) {j : Nat} (hj : j < rs.length) : 0 - cq hs k ≤ slp (cor rs hs (k + j)) (cy rs k) := by
  have g0 := (ZdR (hs := hs) h k).1
  have gn : slp (cor rs hs (k + (rs.length - 1 : Nat))) (cy rs k) = 0 - cq hs k := by
    have l3 := h.len
    have := (ZdR (hs := hs) h (k - 1)).2
    rw [show k - 1 + 1 = k by omega] at this
    rw [show k + ((rs.length - 1 : Nat) : Int) = k - 1 + rs.length by omega, ZhC hl]
    exact this
  have st (j : Nat) : slp (cor rs hs (k + (j + 1 : Nat))) (cy rs k) = slp (cor rs hs (k + j)) (cy rs k) + bnd rs hs (k + (j + 1 : Nat)) * (X (cy rs k) (cy rs (k + (j + 1 : Nat))) : Rat) := by
    have := ZkV (hs := hs) h (k + (j + 1 : Nat)) (cy rs k)
    rw [show k + ((j + 1 : Nat) : Int) - 1 = k + j by omega] at this
    exact this
  have A : ∀ j : Nat, (∀ i : Nat, 1 ≤ i → i ≤ j → 0 < X (cy rs k) (cy rs (k + i))) → 0 - cq hs k ≤ slp (cor rs hs (k + j)) (cy rs k) := by
    intro j
    induction j with
    | zero => intro _; rw [show k + ((0 : Nat) : Int) = k by omega, g0]; exact Rat.le_refl
    | succ j ih =>
      intro hp
      have i1 := ih fun i a b => hp i a (by omega)
      have p := ZfG (hb (k + (j + 1 : Nat))) (Int.le_of_lt (hp (j + 1) (by omega) (by omega)))
      rw [st]
      grind
  have B : ∀ d j : Nat, j + d + 1 = rs.length → 1 ≤ j → X (cy rs k) (cy rs (k + j)) ≤ 0 → 0 - cq hs k ≤ slp (cor rs hs (k + j)) (cy rs k) := by
    intro d
    induction d with
    | zero =>
      intro j e _ _
      rw [show j = rs.length - 1 by omega, gn]
      exact Rat.le_refl
    | succ d ih =>
      intro j e h1 hx
      have o := h.once k h1 (by omega) hx
      rw [show k + (j : Int) + 1 = k + (j + 1 : Nat) by omega] at o
      have i1 := ih (j + 1) (by omega) (by omega) o
      have p := ZiN (hb (k + (j + 1 : Nat))) o
      rw [st] at i1
      grind
  by_cases c : ∀ i : Nat, 1 ≤ i → i ≤ j → 0 < X (cy rs k) (cy rs (k + i))
  · exact A j c
  · have : ∃ i : Nat, 1 ≤ i ∧ i ≤ j ∧ X (cy rs k) (cy rs (k + i)) ≤ 0 := by
      by_cases d : ∃ i : Nat, 1 ≤ i ∧ i ≤ j ∧ X (cy rs k) (cy rs (k + i)) ≤ 0
      · exact d
      · exfalso
        apply c
        intro i a b
        by_cases e : X (cy rs k) (cy rs (k + i)) ≤ 0
        · exact absurd ⟨i, a, b, e⟩ d
        · omega
    obtain ⟨i, a, b, e⟩ := this
    have all : ∀ m : Nat, i + m ≤ j → X (cy rs k) (cy rs (k + (i + m : Nat))) ≤ 0 := by
      intro m
      induction m with
      | zero => intro _; exact e
      | succ m ih =>
        intro hm
        have := h.once k (j := i + m) (by omega) (by omega) (ih (by omega))
        rw [show k + ((i + m : Nat) : Int) + 1 = k + ((i + (m + 1) : Nat) : Int) by omega] at this
        exact this
    have aj := all (j - i) (by omega)
    rw [show i + (j - i) = j by omega] at aj
    exact B (rs.length - 1 - j) j (by omega) (by omega) aj
end
end DL
end
section
set_option Elab.async false
set_option linter.all false
set_option maxRecDepth 100000
set_option maxHeartbeats 4000000
namespace CO
open PySem PySem.Spec L2 DL
open CC (F_following)
open CN (F_bends)
open CS (F_slope_through)
open CD (F_contrary F_less)
open CB (F_law_take)
noncomputable def ZaD : Sv := (Zu (Zda 4 5 (Zb (e2 dIx (Zd 0) (e2 dSub (Zd 3) (eC (.int 1)))) (Zb (e2 dIx (Zd 0) (e2 dMod (e2 dAdd (Zd 3) (eC (.int 1))) (Zh bLen (Zb (Zd 0) aNil)))) aNil)))
  (Zu (ZH (gNm 6) (e2 dSub (eC (.int 0)) (e2 dSub (e2 dMul (e2 dIx (Zd 4) (eC (.int 0))) (e2 dIx (Zd 5) (eC (.int 1)))) (e2 dMul (e2 dIx (Zd 4) (eC (.int 1))) (e2 dIx (Zd 5) (eC (.int 0)))))))
  (Zu (ZH (gNm 7) (e2 dAdd (e2 dIx (Zd 1) (e2 dSub (Zd 3) (eC (.int 1)))) (e2 dIx (Zd 1) (e2 dMod (e2 dAdd (Zd 3) (eC (.int 1))) (Zh bLen (Zb (Zd 0) aNil))))))
  (Zbe (ZeM mApp (Zd 2) (Zb (e2 dAdd (Zd 7) (e2 dMul (Zd 6) (e2 dIx (Zd 1) (Zd 3)))) aNil))))))
noncomputable def Zbr : Sv := (Zu (ZH (gNm 2) (Zbb aNil))
  (Zu (ZaV (gNm 3) (Zb (Zh bLen (Zb (Zd 0) aNil)) aNil) ZaD)
  (ZM (Zd 2))))
noncomputable def F_law_bends : List D → Sto → Out D := fnF Zbr 2 6
noncomputable def Zar : Sv := (Zbe (ZeM mApp (Zd 2) (Zb (Zal (Zb (e2 dSub (Zh F_law_take (Zb (Zd 0) (Zb (eC (.int 7)) aNil))) (eC (.int 3))) (Zb (e2 dSub (Zh F_law_take (Zb (Zd 0) (Zb (eC (.int 7)) aNil))) (eC (.int 3))) aNil))) aNil)))
noncomputable def Za5 : Sv := (Zu (ZH (gNm 2) (Zbb aNil))
  (Zu (ZaV (gNm 3) (Zb (e2 dAdd (eC (.int 1)) (Zh F_law_take (Zb (Zd 0) (Zb (Zd 1) aNil)))) aNil) Zar)
  (ZM (Zd 2))))
noncomputable def F_law_points : List D → Sto → Out D := fnF Za5 2 2
noncomputable def Zas : Sv := (ZM (Zh bAny (Zb (ZX (iSq (Zh F_bends (Zb (Zd 0) (Zb (Zd 1) aNil)))) 1 [] (gNm 0) (fun _ M => .ok true M) (Zh F_less (Zb (Zd 0) (Zb (Zal (Zb (eC (.int 0)) (Zb (eC (.int 1)) aNil))) aNil)))) aNil)))
noncomputable def F_bends_inwards : List D → Sto → Out D := fnF Zas 2 0
noncomputable def Za6 : Sv := (Zu (ZH (gNm 5) (Zbb (Zb (Zh F_contrary (Zb (e2 dIx (Zd 1) (Zd 3)) aNil)) (Zb (Zh F_contrary (Zb (Zh F_following (Zb (Zd 1) (Zb (Zd 3) aNil))) aNil)) aNil))))
  (Zbe (ZeM mApp (Zd 2) (Zb (Zh F_slope_through (Zb (Zbb (Zb (Zd 4) (Zb (Zh F_following (Zb (Zd 0) (Zb (Zd 3) aNil))) aNil))) (Zb (Zd 5) aNil))) aNil))))
noncomputable def Zci : Sv := (Zu (sIf (tv (Zh F_bends_inwards (Zb (Zd 0) (Zb (Zd 1) aNil)))) (ZaX (PySem.Str.ofString "NoBend") (Zb (eC (.str (PySem.Str.ofString "the height bends inwards"))) aNil)) sNil)
  (Zu (ZH (gNm 2) (Zbb aNil))
  (Zu (Zdc (gTp (gCs (gNm 3) (gCs (gNm 4) gNl))) (iEn (Zb (Zd 0) aNil)) Za6)
  (ZM (Zd 2)))))
noncomputable def F_corners : List D → Sto → Out D := fnF Zci 2 4
end CO
end
section
set_option Elab.async false
set_option linter.all false
set_option maxRecDepth 100000
set_option maxHeartbeats 4000000
namespace CO
open PySem PySem.Spec L2 DL
open CV CN CU CS CD
open CA (Tn)
open CR (rt Sz)
open CH (rts ZF Z9)
theorem Zsr {p : Rat} (h : 0 < p) : 0 ≤ p⁻¹ := by
  by_cases c : 0 ≤ p⁻¹
  · exact c
  · exfalso
    have h1 : p⁻¹ ≤ 0 := by grind
    have h2 := Rat.mul_le_mul_of_nonneg_right h1 (show 0 ≤ p by grind)
    grind
theorem ZnO {x y p : Rat} (h : 0 < p) (a : x ≤ y) : x / p ≤ y / p := by
  rw [Rat.div_def, Rat.div_def]
  exact Rat.mul_le_mul_of_nonneg_right a (Zsr h)
noncomputable def vU (r u : Pt) : Int := 0 - u.1 * r.1 - u.2 * r.2
noncomputable def Zf3 (us : List Pt) (r : Pt) : Int := (us.map (vU r)).max?.getD 0
noncomputable def ZeD (rs us : List Pt) : List Int := rs.map (Zf3 us)
theorem Zc6 {us : List Pt} {r : Pt} (h : us ≠ []) : (∃ u ∈ us, Zf3 us r = vU r u) ∧ (∀ u ∈ us, vU r u ≤ Zf3 us r) ∧ (us.map (vU r)).max? = some (Zf3 us r) := by
  cases e : (us.map (vU r)).max? with
  | none => exact absurd (List.map_eq_nil_iff.mp (List.max?_eq_none_iff.mp e)) h
  | some mx =>
    obtain ⟨h1, h2⟩ := List.max?_eq_some_iff.mp e
    have t : Zf3 us r = mx := by unfold Zf3; rw [e]; rfl
    rw [t]
    obtain ⟨u, hu, eu⟩ := List.mem_map.mp h1
    exact ⟨⟨u, hu, eu.symm⟩, fun v hv => h2 _ (List.mem_map.mpr ⟨v, hv, rfl⟩), rfl⟩
theorem ZhD {rs : List Pt} {f : Pt → Int} (h : rs ≠ []) (i : Int) : cn (rs.map f) i = f (cy rs i) := by
  have hl : rs.length ≠ 0 := by simpa using h
  have := (Z7 (i := i) hl).1
  unfold cn cy
  rw [List.length_map, List.getD_eq_getElem?_getD, List.getD_eq_getElem?_getD, List.getElem?_map, List.getElem?_eq_getElem this]
  rfl
noncomputable def bnI (rs : List Pt) (hs : List Int) : List Int := (List.range rs.length).map fun (i : Nat) => cn hs ((i : Int) - 1) + cn hs ((i : Int) + 1) + (0 - X (cy rs ((i : Int) - 1)) (cy rs ((i : Int) + 1))) * cn hs i
theorem ZnP {p q r : Pt} (h1 : X p q = 1) (h2 : X q r = 1) : p.1 + r.1 = X p r * q.1 ∧ p.2 + r.2 = X p r * q.2 := by
  unfold X at *
  constructor <;> grind
theorem ZdS {t : Int} {p : Nat} (hp : p ≠ 0) : Rat.normalize t p hp = (t : Rat) / (p : Rat) := by
  rw [Rat.normalize_eq_mkRat, Rat.mkRat_eq_div]
section
variable {Q : D → Sto → Prop} {E : Str → Sto → Prop} {M : Sto} {n m p : Nat} {rs us : List Pt} {hs : List Int}
theorem ZnQ (h : M[n]? = some (.lst (prs rs))) (hb : Nr 200 rs) (hne : rs ≠ []) (hl : rs.length ≤ 1000) (hm : M[m]? = some (.lst (prs us))) (hu : us ≠ []) (lm : us.length ≤ 1000)
    (q : ∀ M', Kp M M' → M'[M.length]? = some (.lst (nts (ZeD rs us))) → Q (.ref M.length) M') : wO (CD.F_law_hull [.ref n, .ref m] M) Q E := by
  have hn := Zt h
  have hm' := Zt hm
  simp! [CD.F_law_hull, CD.ZbQ]
  refine Zq7 (fun ρ => ∃ x, ρ = [x, some (.ref m)]) (fun (i : Nat) => D.int (Zf3 us (cy rs i))) h (by rw [ZZ]; omega) ⟨_, rfl⟩ ?_ ?_
  · rintro i hi ρ M1 K1 ⟨x, rfl⟩
    rw [CC.Zb4]
    have hm1 := K1.get hm
    have hml := Zt hm1
    have hr := hb _ (ZaY (i := i) hne)
    generalize cy rs i = r at *
    simp! [Zs]
    refine ⟨⟨_, rfl⟩, ?_⟩
    refine Zjm (fun ρ => ∃ y z, ρ = [y, z, some (pr r.1 r.2)]) (fun (j : Nat) => D.int (vU r (cy us j))) hm1 (by rw [ZZ]; omega) ⟨_, _, rfl⟩ ?_ ?_
    · rintro j hj ρ L ⟨y, z, rfl⟩
      rw [CC.Zb4]
      simp! [Zs]
      exact ⟨⟨_, _, rfl⟩, rfl⟩
    rw [ZZ, ZdG]
    have em : (List.range us.length).map (fun (j : Nat) => vU r (cy us j)) = us.map (vU r) := by
      conv => rhs; rw [← ZeZ (us := us)]
      rw [List.map_map]
      rfl
    rw [em]
    simp! [CD.Zch, (Zc6 (r := r) hu).2.2]
    exact Kp.app
  · intro M' K' r'
    have em : (List.range (prs rs).length).map (fun (i : Nat) => D.int (Zf3 us (cy rs i))) = nts (ZeD rs us) := by
      rw [ZZ, ZdG]
      unfold ZeD
      conv => rhs; rw [← ZeZ (us := rs)]
      rw [List.map_map]
      rfl
    rw [em] at r'
    exact q M' K' r'
theorem ZiO (h : M[n]? = some (.lst (prs rs))) (hb : Nr 200 rs) (hne : rs ≠ []) (hl : rs.length ≤ 1000) (hm : M[m]? = some (.lst (nts hs))) (lh : hs.length = rs.length)
    (q : Q (.ref M.length) (M ++ [.lst (nts (bnI rs hs))])) : wO (F_law_bends [.ref n, .ref m] M) Q E := by
  have hn := Zt h
  have hm' := Zt hm
  have hl0 : rs.length ≠ 0 := by simpa using hne
  simp! [F_law_bends, Zbr, h]
  refine ⟨by omega, ?_⟩
  have bl : (bnI rs hs).length = rs.length := by simp [bnI]
  refine Zc0 (fun i ρ M' => M' = M ++ [.lst (nts ((bnI rs hs).take i))] ∧ ∃ x3 x4 x5 x6 x7, ρ = [some (.ref n), some (.ref m), some (.ref M.length), x3, x4, x5, x6, x7]) ⟨rfl, _, _, _, _, _, rfl⟩ ?_ ?_
  · rintro i ρ _ hi ⟨rfl, x3, x4, x5, x6, x7, rfl⟩
    have hi' : i < rs.length := by omega
    have em := Z7 (i := (i : Int) + 1) hl0
    have b1 := hb _ (ZaY (i := (i : Int) - 1) hne)
    have b2 := hb _ (ZaY (i := (i : Int) + 1) hne)
    rw [show (0 : Int) + (i : Int) = i by omega]
    have m1 := CA.Zga b1.1 b2.2
    have m2 := CA.Zga b1.2 b2.1
    have tk : (bnI rs hs).take (i + 1) = (bnI rs hs).take i ++ [cn hs ((i : Int) - 1) + cn hs ((i : Int) + 1) + (0 - X (cy rs ((i : Int) - 1)) (cy rs ((i : Int) + 1))) * cn hs i] := by
      rw [List.take_succ_eq_append_getElem (by omega)]
      simp [bnI]
    have cm := Zhj (rs := hs) (i := (i : Int) + 1)
    rw [lh] at cm
    unfold X at tk
    simp! [ZaD, h, hm, Zdp, Zhi, ZcD, cm, tk]
    exact ⟨by rw [List.length_take]; omega, _, _, _, _, _, rfl⟩
  · rintro ρ _ ⟨rfl, x3, x4, x5, x6, x7, rfl⟩
    simp! [Zs]
    rw [show ((rs.length : Int)).toNat = (bnI rs hs).length by omega, List.take_length]
    exact q
theorem ZkW {k : Nat} {o : SO} (h : Bag n M) (hk : k ≠ n) : Bag n (M.set k o) := by
  obtain ⟨a, b, ha, e⟩ := h
  exact ⟨a, b, ha, by rw [List.getElem?_set_ne hk]; exact e⟩
end
end CO
end
section
set_option Elab.async false
set_option linter.all false
set_option maxRecDepth 100000
set_option maxHeartbeats 4000000
namespace CO
open PySem PySem.Spec L2 DL
open CV CN CU CS CD
open CA (Tn)
open CR (rt Sz)
open CH (rts ZF Z9)
noncomputable def Zp5 (Q : D → Sto → Prop) (M : Sto) (bs : List Bool) : Prop := Q (.bl (bs.any id)) M
noncomputable def ZnR (Q : D → Sto → Prop) (M : Sto) (xs : List D) : Prop := wG (ZW xs) (Zp5 Q M)
noncomputable def Zct (rs : List Pt) (hs : List Rat) : List (Rat × Rat) := (List.range rs.length).map fun (i : Nat) => cor rs hs i
theorem ZaM {rs : List Pt} {hs : List Rat} : (Zct rs hs).length = rs.length := by simp [Zct]
theorem ZiP {rs : List Pt} {hs : List Rat} (h : Smo rs) (hl : hs.length = rs.length) (hb : ∀ i : Int, 0 ≤ bnd rs hs i) : hts rs (Zct rs hs) = hs := by
  refine CV.ZpY (n := rs.length) (List.length_map _) hl fun k hk => ?_
  have e : cq (hts rs (Zct rs hs)) k = mxr ((Zct rs hs).map fun m => 0 - slp m (cy rs k)) := by
    rw [ZbY (by rw [hts, List.length_map]; exact hk), Zc2 hk]
    simp [hts]
  rw [e]
  refine ZnM ?_ ?_
  · refine List.mem_map.mpr ⟨cor rs hs k, List.mem_map.mpr ⟨k, List.mem_range.mpr hk, rfl⟩, ?_⟩
    rw [(ZdR h k).1]
    grind
  · intro x hx
    obtain ⟨m, hm, rfl⟩ := List.mem_map.mp hx
    obtain ⟨j, hj, rfl⟩ := List.mem_map.mp hm
    have hj' := List.mem_range.mp hj
    have l : 0 - cq hs k ≤ slp (cor rs hs j) (cy rs k) := by
      by_cases c : k ≤ j
      · have := ZjD h hl hb k (j := j - k) (by omega)
        rw [show (k : Int) + ((j - k : Nat) : Int) = j by omega] at this
        exact this
      · have := ZjD h hl hb k (j := j + rs.length - k) (by omega)
        rw [show (k : Int) + ((j + rs.length - k : Nat) : Int) = (j : Int) + rs.length by omega, ZhC hl] at this
        exact this
    grind
section
variable {Q : D → Sto → Prop} {E : Str → Sto → Prop} {M : Sto} {n m k : Nat} {rs us : List Pt} {hs : List Rat}
theorem Zp6 : wO (bAny [.ref n] M) Q E = wL M[n]? (ZnR Q M) := by
  show wO (match M[n]? with | some (.lst xs) => (match ZW xs with | some bs => Out.ok (.bl (bs.any id)) M | none => .bad) | none => .bad) Q E = _
  cases M[n]? with
  | none => rfl
  | some o =>
    cases o with
    | lst xs =>
      show wO (match ZW xs with | some bs => Out.ok (.bl (bs.any id)) M | none => .bad) Q E = wG (ZW xs) (Zp5 Q M)
      cases ZW xs <;> rfl
theorem ZhE {N : Nat} : ZW ((List.range N).map fun _ => D.bl false) = some (List.replicate N false) := by
  have : ∀ xs : List Nat, ZW (xs.map fun _ => D.bl false) = some (List.replicate xs.length false) := by
    intro xs
    induction xs with
    | nil => rfl
    | cons x xs ih => rw [List.map_cons, ZW, ih]; rfl
  rw [this, List.length_range]
theorem ZhF (h : M[n]? = some (.lst (prs rs))) (hs' : Smo rs) (hl : rs.length ≤ 1000) (hb : Nr 200 rs) (h' : M[m]? = some (.lst (rts hs))) (e : hs.length = rs.length) (hz : ∀ x ∈ hs, Sz k x) (hk : k ≤ 1000) (hp : ∀ i : Int, 0 ≤ bnd rs hs i) (q : ∀ M', Kp M M' → Q (.bl false) M') : wO (F_bends_inwards [.ref n, .ref m] M) Q E := by
  have h3 := hs'.len
  simp! [F_bends_inwards, Zas]
  refine CN.ZkP h hs' hl hb h' e hz (by omega) fun m' M1 l1 r1 l2 g2 => ?_
  have K1 : Kp M M1 := ⟨l2, g2⟩
  have lr1 := Zt r1
  have bz := Zny (l := rs.length) hb hs'.ne (by omega) hz
  simp! [Zs]
  refine Zjm (fun ρ => ∃ x, ρ = [x]) (fun _ => D.bl false) r1 (by rw [ZF, Zcr]; omega) ⟨_, rfl⟩ ?_ ?_
  · rintro i hi ρ L ⟨x, rfl⟩
    rw [ZdO]
    rw [ZF, Zcr] at hi
    have z := Zcq (i := i) bz (by rw [Zcr]; omega)
    have e0 : cq (bds rs hs rs.length) i = bnd rs hs i := by rw [ZbY (by rw [Zcr]; omega)]; simp [bds]
    have nn : ¬ cq (bds rs hs rs.length) i < 0 := by rw [e0]; have := hp i; grind
    simp! [Zs]
    rw [show D.tup [D.int 0, D.int 1] = rt ((0 : Int) : Rat) from CS.Zdr 0, CD.ZjB z (CS.Za4 (k := 1) (by decide) (by decide)) (by omega)]
    rw [show decide (cq (bds rs hs rs.length) i < ((0 : Int) : Rat)) = false from decide_eq_false nn]
    exact ⟨⟨_, rfl⟩, rfl, rfl⟩
  rw [ZF, Zcr]
  simp! [Zp6, ZnR, ZhE, Zp5]
  rw [show (List.replicate rs.length false).any id = false by simp]
  exact q _ (K1.trans Kp.app)
theorem ZjE (hb : Nr 200 rs) (hn : rs ≠ []) (hz : ∀ x ∈ hs, Sz k x) (hh : hs.length ≠ 0) (i : Int) : Sz (2 * k + 23) (cor rs hs i).1 ∧ Sz (2 * k + 23) (cor rs hs i).2 := by
  have s (z : Int) (hz : -200 ≤ z ∧ z ≤ 200) : Sz 8 (z : Rat) := CS.Za4 (by omega) (by decide)
  have a := hb _ (ZaY (i := i) hn)
  have b := hb _ (ZaY (i := i + 1) hn)
  have c (j : Int) : Sz (1 + k + 1) (0 - cq hs j) := CS.Zep (CS.Za4 (z := 0) (k := 1) (by decide) (by decide)) (Zcq hz hh)
  unfold cor
  exact ⟨ZkR (CS.Zep (CR.Za2 (c i) (s _ b.2)) (CR.Za2 (c (i + 1)) (s _ a.2))) (by omega), ZkR (CS.Zep (CR.Za2 (c (i + 1)) (s _ a.1)) (CR.Za2 (c i) (s _ b.1))) (by omega)⟩
theorem ZhG (h : M[n]? = some (.lst (prs rs))) (hs' : Smo rs) (hl : rs.length ≤ 1000) (hb : Nr 200 rs) (h' : M[m]? = some (.lst (rts hs))) (e : hs.length = rs.length) (hz : ∀ x ∈ hs, Sz k x) (hk : k ≤ 900) (hp : ∀ i : Int, 0 ≤ bnd rs hs i) (q : ∀ o M', Kp M M' → M.length ≤ o → M'[o]? = some (.lst (pts (Zct rs hs))) → Q (.ref o) M') : wO (F_corners [.ref n, .ref m] M) Q E := by
  have h3 := hs'.len
  have hne := hs'.ne
  have hl0 : hs.length ≠ 0 := by omega
  simp! [F_corners, Zci]
  refine ZhF h hs' hl hb h' e hz (by omega) hp fun M1 K1 => ?_
  have hn1 := K1.get h
  have hm1 := K1.get h'
  have kl1 := K1.1
  simp! [Zs]
  have r0 : (M1 ++ [SO.lst []])[M1.length]? = some (.lst (pts ((Zct rs hs).take 0))) := by simp [pts]
  have K2 : Kp M1 (M1 ++ [SO.lst []]) := Kp.app
  have hn2 := K2.get hn1
  have hm2 := K2.get hm1
  have ln2 := Zt hn1
  have lm2 := Zt hm1
  generalize M1 ++ [SO.lst []] = M2 at *
  have oo : M.length ≤ M1.length := kl1
  generalize hoo : M1.length = o at *
  have Kx : Kp M1 M2 := K2
  refine Zhm (xs := prs rs) (fun i ρ M' => Kp M1 M' ∧ M'[o]? = some (.lst (pts ((Zct rs hs).take i))) ∧ ∃ x3 x4 x5, ρ = [some (.ref n), some (.ref m), some (.ref o), x3, x4, x5]) hn2 ⟨K2, r0, _, _, _, rfl⟩ (fun i ρ M' hI => hI.1.get hn1) ?_ ?_
  · rintro i ρ M3 hi ⟨K3, r3, x3, x4, x5, rfl⟩
    have hi' : i < rs.length := by rw [ZZ] at hi; exact hi
    rw [CC.Zb4]
    have hn3 := K3.get hn1
    have hm3 := K3.get hm1
    have z0 := Zcq (i := (i : Int)) hz hl0
    have z1 := Zcq (i := (i : Int) + 1) hz hl0
    have lo3 := Zt r3
    have ln3 := Zt hn3
    have b0 := hb _ (ZaY (i := (i : Int)) hne)
    have b1 := hb _ (ZaY (i := (i : Int) + 1) hne)
    simp! [Za6, hm3, Zeq, Zcs z0 (by omega), r3]
    rw [CN.Zjx hm3 (by omega)]
    simp! [Zcs z1 (by omega)]
    have cz (j : Int) : Sz (1 + k + 1) (0 - cq hs j) := CS.Zep (CS.Za4 (z := 0) (k := 1) (by decide) (by decide)) (Zcq hz hl0)
    have K4 : Kp M3 (M3 ++ [SO.lst (rts [0 - cq hs i, 0 - cq hs ((i : Int) + 1)])]) := Kp.app
    have e4 : (M3 ++ [SO.lst [rt (0 - cq hs i), rt (0 - cq hs ((i : Int) + 1))]]) = M3 ++ [SO.lst (rts [0 - cq hs i, 0 - cq hs ((i : Int) + 1)])] := rfl
    have b4 : (M3 ++ [SO.lst (rts [0 - cq hs i, 0 - cq hs ((i : Int) + 1)])])[M3.length]? = some (.lst (rts [0 - cq hs i, 0 - cq hs ((i : Int) + 1)])) := by simp
    rw [e4]
    refine ⟨by rw [r3]; rfl, ?_⟩
    have hn4 := K4.get hn3
    have r4 := K4.get r3
    generalize M3 ++ [SO.lst (rts [0 - cq hs i, 0 - cq hs ((i : Int) + 1)])] = M4 at *
    clear e4
    rw [CC.Zb3 hn4 (by omega)]
    simp! [Zs]
    have l4 := Zt b4
    have K5 : Kp M4 (M4 ++ [SO.lst (prs [cy rs i, cy rs ((i : Int) + 1)])]) := Kp.app
    have e5 : (M4 ++ [SO.lst [pr (cy rs i).1 (cy rs i).2, pr (cy rs ((i : Int) + 1)).1 (cy rs ((i : Int) + 1)).2]]) = M4 ++ [SO.lst (prs [cy rs i, cy rs ((i : Int) + 1)])] := rfl
    have b5 : (M4 ++ [SO.lst (prs [cy rs i, cy rs ((i : Int) + 1)])])[M4.length]? = some (.lst (prs [cy rs i, cy rs ((i : Int) + 1)])) := by simp
    first | rw [e5] | skip
    have r5 := K5.get r4
    have c5 := K5.get b4
    generalize M4 ++ [SO.lst (prs [cy rs i, cy rs ((i : Int) + 1)])] = M5 at *
    rw [CU.Zhx (k := 1 + k + 1) b5 (fun x hx => by simp at hx; rcases hx with rfl | rfl <;> assumption) (by simp) c5 (by simp) (fun x hx => by simp at hx; rcases hx with rfl | rfl <;> exact cz _) (by omega)]
    have et : thr [cy rs i, cy rs ((i : Int) + 1)] [0 - cq hs i, 0 - cq hs ((i : Int) + 1)] = cor rs hs i := rfl
    rw [et]
    have l5 := Zt r5
    simp! [r5]
    have tk : (Zct rs hs).take (i + 1) = (Zct rs hs).take i ++ [cor rs hs i] := by
      rw [List.take_succ_eq_append_getElem (by rw [ZaM]; exact hi')]
      simp [Zct]
    refine ⟨by rw [Zba, List.length_take]; omega, ((K3.trans K4).trans K5).set (by omega), ?_, _, _, _, rfl⟩
    rw [tk]
    simp [pts]
  · rintro ρ M3 ⟨K3, r3, x3, x4, x5, rfl⟩
    simp! [Zs]
    rw [ZZ, ← ZaM (rs := rs) (hs := hs), List.take_length] at r3
    exact q o M3 (K1.trans K3) oo r3
end
end CO
end
section
set_option Elab.async false
set_option linter.all false
set_option maxRecDepth 100000
set_option maxHeartbeats 4000000
namespace K48
open PySem PySem.Spec L2 DL
noncomputable def top (i : Nat) : Stmt := PySem.Challenge.pw_rayround_k48_corners_and_back.main.body.getD i (.Pass ⟨0, 0, 0, 0⟩)
structure Txt (K : PySem.W.Frag) (mg : Str → Option Value) : Prop where
  gl : ∀ c v, PySem.W.nsIn K mainGlobals c = some (some v) → mg c = some v
  b_isinstance : mg "isinstance" = none
  b_int : mg "int" = none
  b_bool : mg "bool" = none
  b_abs : mg "abs" = none
  b_len : mg "len" = none
  b_enumerate : mg "enumerate" = none
  b_range : mg "range" = none
  b_any : mg "any" = none
  b_max : mg "max" = none
  b_zip : mg "zip" = none
  b_list : mg "list" = none
  b_reversed : mg "reversed" = none
  b_tuple : mg "tuple" = none
  b_all : mg "all" = none
  b_min : mg "min" = none
  ex_NotSmooth : ZgX K "NotSmooth" = true
  ex_NoRatio : ZgX K "NoRatio" = true
  ex_NoHeight : ZgX K "NoHeight" = true
  ex_NoBend : ZgX K "NoBend" = true
section
variable {P : Program} {w : World} {K : PySem.W.Frag} {mg : Str → Option Value} {base : Heap}
noncomputable abbrev ZaN : Stmt := top 7
noncomputable def ZbK : Sv := (ZM (ZfQ (Zf9 "int" (Zd 0)) (ZfR (Zf9 "bool" (Zd 0)))))
noncomputable def F_is_whole : List D → Sto → Out D := fnF ZbK 1 0
theorem Ze2 : FnScope ["thing"] ["thing"] (Zg ZaN) := ⟨rfl, rfl, rfl, by decide +kernel, rfl, by decide +kernel, by decide +kernel⟩
theorem Ze3 {f : Addr} {fd : FuncData} (F : Fun K "is_whole" "is_whole" ZaN f fd) (T : Txt K mg) : FnOk P w K mg base (CXE P w) 1 f fd ["thing"] (spD K F_is_whole) :=
  Z4 F Ze2 rfl rfl fun cdv A outer s H E hr θ => (Zk (Zv (ZlP (Zdm Zj8 T.b_isinstance T.b_int Zeg (Zc 0)) (ZlO (ZlQ (Zdm Zfp T.b_isinstance T.b_bool ZgO (Zc 0)))))))
noncomputable abbrev ZE : Stmt := top 8
noncomputable def Z0 : Sv := (Zda 2 3 (Zb (Zd 3) (Zb (e2 dMod (Zd 2) (Zd 3)) aNil)))
noncomputable def Zao : Sv := (Zu (Zda 2 3 (Zb (Zh bAbs (Zb (Zd 0) aNil)) (Zb (Zh bAbs (Zb (Zd 1) aNil)) aNil)))
  (Zu (sWh (tv (e2 dNe (Zd 3) (eC (.int 0)))) Z0)
  (ZM (Zd 2))))
noncomputable def F_greatest_divisor : List D → Sto → Out D := fnF Zao 2 2
theorem Zab : FnScope ["one", "other", "high", "low"] ["one", "other"] (Zg ZE) := ⟨rfl, rfl, rfl, by decide +kernel, rfl, by decide +kernel, by decide +kernel⟩
theorem Zb6 {f : Addr} {fd : FuncData} (F : Fun K "greatest_divisor" "greatest_divisor" ZE f fd) (T : Txt K mg) : FnOk P w K mg base (CXE P w) 101 f fd ["one", "other"] (spD K F_greatest_divisor) :=
  Z4 F Zab rfl rfl fun cdv A outer s H E hr θ => (Zi (ZcT 2 3 (Zz hr (by decide)) Zab.nd (Za (Zo ZbG Zdl T.b_abs Zdn (Za (Zc 0) Zf)) (Za (Zo ZbG Zdl T.b_abs Zdn (Za (Zc 1) Zf)) Zf)))
    (Zi (Zfs θ.own (ZS (Zbc hr.units) Zco (Zc 3) Ze) (Zk (ZcT 2 3 (Zz hr (by decide)) Zab.nd (Za (Zc 3) (Za (ZaT (Zc 2) (Zc 3)) Zf)))))
    (Zk (Zv (Zc 2)))))
noncomputable abbrev Zbi : Stmt := top 10
noncomputable def Zbh : Sv := (ZM (e2 dSub (e2 dMul (e2 dIx (Zd 0) (eC (.int 0))) (e2 dIx (Zd 1) (eC (.int 1)))) (e2 dMul (e2 dIx (Zd 0) (eC (.int 1))) (e2 dIx (Zd 1) (eC (.int 0))))))
noncomputable def F_crossed : List D → Sto → Out D := fnF Zbh 2 0
theorem Zf4 : FnScope ["one", "other"] ["one", "other"] (Zg Zbi) := ⟨rfl, rfl, rfl, by decide +kernel, rfl, by decide +kernel, by decide +kernel⟩
theorem Zf5 {f : Addr} {fd : FuncData} (F : Fun K "crossed" "crossed" Zbi f fd) (T : Txt K mg) : FnOk P w K mg base (CXE P w) 1 f fd ["one", "other"] (spD K F_crossed) :=
  Z4 F Zf4 rfl rfl fun cdv A outer s H E hr θ => (Zk (Zv (ZY (ZA (Zl (Zc 0) Ze) (Zl (Zc 1) Ze)) (ZA (Zl (Zc 0) Ze) (Zl (Zc 1) Ze)))))
noncomputable abbrev Zav : Stmt := top 12
noncomputable def Zaa : Sv := (ZM (e2 dIx (Zd 0) (e2 dMod (e2 dAdd (Zd 1) (eC (.int 1))) (Zh bLen (Zb (Zd 0) aNil)))))
noncomputable def F_following : List D → Sto → Out D := fnF Zaa 2 0
theorem Zes : FnScope ["things", "at"] ["things", "at"] (Zg Zav) := ⟨rfl, rfl, rfl, by decide +kernel, rfl, by decide +kernel, by decide +kernel⟩
theorem Zet {f : Addr} {fd : FuncData} (F : Fun K "following" "following" Zav f fd) (T : Txt K mg) : FnOk P w K mg base (CXE P w) 1 f fd ["things", "at"] (spD K F_following) :=
  Z4 F Zes rfl rfl fun cdv A outer s H E hr θ => (Zk (Zv (Zl (Zc 0) (ZaT (ZL (Zc 1) Ze) (Zo Zm Z8 T.b_len PySem.boot_len (Za (Zc 0) Zf))))))
noncomputable abbrev Zaw : Stmt := top 13
noncomputable def ZU : Sv := (sIf (tv (e2 dNe (Zh F_crossed (Zb (Zd 2) (Zb (Zh F_following (Zb (Zd 0) (Zb (Zd 1) aNil))) aNil))) (eC (.int 1)))) (ZM (Zd 1)) sNil)
noncomputable def Zau : Sv := (Zu (Zdc (gTp (gCs (gNm 1) (gCs (gNm 2) gNl))) (iEn (Zb (Zd 0) aNil)) ZU)
  (ZM (eC .non)))
noncomputable def F_unspanned : List D → Sto → Out D := fnF Zau 1 2
theorem ZbD : FnScope ["rays", "at", "ray"] ["rays"] (Zg Zaw) := ⟨rfl, rfl, rfl, by decide +kernel, rfl, by decide +kernel, by decide +kernel⟩
theorem Zeu {f : Addr} {fd : FuncData} (F : Fun K "unspanned" "unspanned" Zaw f fd) (T : Txt K mg) (C_following : Cal P w K mg base "following" 1 2 F_following) (C_crossed : Cal P w K mg base "crossed" 1 2 F_crossed) : FnOk P w K mg base (CXE P w) 101 f fd ["rays"] (spD K F_unspanned) :=
  Z4 F ZbD rfl rfl fun cdv A outer s H E hr θ => (Zi (ZeO θ.own (ZeP (hr.hd (by decide)) T.b_enumerate (Za (Zc 0) Zf)) (ZaG (Zz hr (by decide)) (Zq (Zn 1 ZbD.nd) (Zq (Zn 2 ZbD.nd) Z5)) (hlen := (Zw (Zw (fun _ _ _ h => Z6 h))))) (Zk (ZaI (ZS (Zbc hr.units) Zco (Zj C_crossed θ (hr.mono (by decide)) (Za (Zc 2) (Za (Zj C_following θ (hr.mono (by decide)) (Za (Zc 0) (Za (Zc 1) Zf))) Zf))) Ze) (Zk (Zv (Zc 1))) ZI)))
    (Zk (Zv Zi6)))
noncomputable abbrev Zag : Stmt := top 14
noncomputable def Zaf : Sv := (Zu (ZH (gNm 1) (Zh F_unspanned (Zb (Zd 0) aNil)))
  (sIf (tv (e2 dIsNot (Zd 1) (eC .non))) (ZaX (PySem.Str.ofString "NotSmooth") (Zb (eFs (Zbg (eC (.str (PySem.Str.ofString "ray "))) (Zbg (eFm (Zd 1)) (Zbg (eC (.str (PySem.Str.ofString " does not cross the next one in 1"))) jNil)))) aNil)) sNil))
noncomputable def F_ask_smooth : List D → Sto → Out D := fnF Zaf 1 1
theorem Zcj : FnScope ["rays", "at"] ["rays"] (Zg Zag) := ⟨rfl, rfl, rfl, by decide +kernel, rfl, by decide +kernel, by decide +kernel⟩
theorem ZdT {f : Addr} {fd : FuncData} (F : Fun K "ask_smooth" "ask_smooth" Zag f fd) (T : Txt K mg) (C_unspanned : Cal P w K mg base "unspanned" 101 1 F_unspanned) : FnOk P w K mg base (CXE P w) 102 f fd ["rays"] (spD K F_ask_smooth) :=
  Z4 F Zcj rfl rfl fun cdv A outer s H E hr θ => (Zi (Zy 1 Zcj.nd (Zj C_unspanned θ (hr.mono (by decide)) (Za (Zc 0) Zf)))
    (Zk (ZaI (ZS ZgH Zh9 (Zc 1) Zi6) (Zk (Zcd θ T.ex_NotSmooth T.gl (hr.hd (by decide)) (Za (Zmk (ZbB Zcz (ZbB (Zkj (Zc 1)) (ZbB Zcz Zjf)))) Zf))) ZI)))
noncomputable abbrev Za0 : Stmt := top 16
noncomputable def Zcg : Sv := (Zu (Zbe (Zh F_ask_smooth (Zb (Zd 0) aNil)))
  (ZM (ZX (iR1 (Zb (Zh bLen (Zb (Zd 0) aNil)) aNil)) 1 [0] (gNm 0) (fun _ M => .ok true M) (Zh F_crossed (Zb (Zh F_following (Zb (Zd 1) (Zb (Zd 0) aNil))) (Zb (e2 dIx (Zd 1) (e2 dSub (Zd 0) (eC (.int 1)))) aNil))))))
noncomputable def F_numbers : List D → Sto → Out D := fnF Zcg 1 0
theorem Zf6 : FnScope ["rays"] ["rays"] (Zg Za0) := ⟨rfl, rfl, rfl, by decide +kernel, rfl, by decide +kernel, by decide +kernel⟩
theorem Zf7 {f : Addr} {fd : FuncData} (F : Fun K "numbers" "numbers" Za0 f fd) (T : Txt K mg) (C_ask_smooth : Cal P w K mg base "ask_smooth" 102 1 F_ask_smooth) (C_following : Cal P w K mg base "following" 1 2 F_following) (C_crossed : Cal P w K mg base "crossed" 1 2 F_crossed) : FnOk P w K mg base (CXE P w) 103 f fd ["rays"] (spD K F_numbers) :=
  Z4 F Zf6 rfl rfl fun cdv A outer s H E hr θ => (Zi (Zbl (Zj C_ask_smooth θ (hr.mono (by decide)) (Za (Zc 0) Zf)))
    (Zk (Zv (Zbn (Zox (XN := ["rays"]) (dn := (Zg Za0).names) (N := ["at", "rays"]) (k := 1) (fr := [0]) rfl rfl rfl rfl (by decide +kernel)) (ZgP T.b_range (Za (Zo Zm Z8 T.b_len PySem.boot_len (Za (Zc 0) Zf)) Zf)) (fun _ _ _ _ => (Zn 0 (show List.Nodup (["at", "rays"] : List Str) by decide +kernel))) (fun _ _ _ _ => (Or.inl ⟨rfl, rfl⟩)) (fun _ _ _ _ => (Zj C_crossed Zb0 (hr.mono (by decide)) (Za (Zj C_following Zb0 (hr.mono (by decide)) (Za (Zc 1) (Za (Zc 0) Zf))) (Za (Zl (Zc 1) (ZY (Zc 0) Ze)) Zf))))))))
noncomputable abbrev Zcu : Stmt := top 18
noncomputable def ZdJ : Sv := (Zu (sIf (Zfl (Zcc (tv (Zh F_is_whole (Zb (Zd 0) aNil)))) (Zcc (tv (Zh F_is_whole (Zb (Zd 1) aNil))))) (ZaX (PySem.Str.ofString "NoRatio") (Zb (eC (.str (PySem.Str.ofString "a ratio is made of two whole numbers"))) aNil)) sNil)
  (Zu (sIf (tv (e2 dEq (Zd 1) (eC (.int 0)))) (ZaX (PySem.Str.ofString "NoRatio") (Zb (eC (.str (PySem.Str.ofString "the bottom of a ratio is not 0"))) aNil)) sNil)
  (Zu (ZH (gNm 2) (Zh F_greatest_divisor (Zb (Zd 0) (Zb (Zd 1) aNil))))
  (Zu (sIf (tv (e2 dLt (Zd 1) (eC (.int 0)))) (ZH (gNm 2) (Zfm (Zd 2))) sNil)
  (ZM (Zal (Zb (e2 dDiv (Zd 0) (Zd 2)) (Zb (e2 dDiv (Zd 1) (Zd 2)) aNil))))))))
noncomputable def F_ratio : List D → Sto → Out D := fnF ZdJ 2 1
theorem ZdU : FnScope ["top", "bottom", "part"] ["top", "bottom"] (Zg Zcu) := ⟨rfl, rfl, rfl, by decide +kernel, rfl, by decide +kernel, by decide +kernel⟩
theorem ZiQ {f : Addr} {fd : FuncData} (F : Fun K "ratio" "ratio" Zcu f fd) (T : Txt K mg) (C_is_whole : Cal P w K mg base "is_whole" 1 1 F_is_whole) (C_greatest_divisor : Cal P w K mg base "greatest_divisor" 101 2 F_greatest_divisor) : FnOk P w K mg base (CXE P w) 102 f fd ["top", "bottom"] (spD K F_ratio) :=
  Z4 F ZdU rfl rfl fun cdv A outer s H E hr θ => (Zi (ZaI (Zj4 (Zdy (ZcS (ZbX (Zj C_is_whole θ (hr.mono (by decide)) (Za (Zc 0) Zf)))) (Zdj (ZcS (ZbX (Zj C_is_whole θ (hr.mono (by decide)) (Za (Zc 1) Zf))))))) (Zk (Zcd θ T.ex_NoRatio T.gl (hr.hd (by decide)) (Za Zcz Zf))) ZI)
    (Zi (ZaI (ZS (Zdk hr.units) ZfS (Zc 1) Ze) (Zk (Zcd θ T.ex_NoRatio T.gl (hr.hd (by decide)) (Za Zcz Zf))) ZI)
    (Zi (Zy 2 ZdU.nd (Zj C_greatest_divisor θ (hr.mono (by decide)) (Za (Zc 0) (Za (Zc 1) Zf))))
    (Zi (ZaI (ZS ZeF ZeJ (Zc 1) Ze) (Zk (Zy 2 ZdU.nd (Zea (Zc 2)))) ZI)
    (Zk (Zv (ZJ (Za (ZcB (Zc 0) (Zc 2)) (Za (ZcB (Zc 1) (Zc 2)) Zf)))))))))
noncomputable abbrev Zds : Stmt := top 19
noncomputable def ZfB : Sv := (ZM (Zh F_ratio (Zb (e2 dAdd (e2 dMul (e2 dIx (Zd 0) (eC (.int 0))) (e2 dIx (Zd 1) (eC (.int 1)))) (e2 dMul (e2 dIx (Zd 1) (eC (.int 0))) (e2 dIx (Zd 0) (eC (.int 1))))) (Zb (e2 dMul (e2 dIx (Zd 0) (eC (.int 1))) (e2 dIx (Zd 1) (eC (.int 1)))) aNil))))
noncomputable def F_plus : List D → Sto → Out D := fnF ZfB 2 0
theorem ZkX : FnScope ["one", "other"] ["one", "other"] (Zg Zds) := ⟨rfl, rfl, rfl, by decide +kernel, rfl, by decide +kernel, by decide +kernel⟩
theorem ZkY {f : Addr} {fd : FuncData} (F : Fun K "plus" "plus" Zds f fd) (T : Txt K mg) (C_ratio : Cal P w K mg base "ratio" 102 2 F_ratio) : FnOk P w K mg base (CXE P w) 103 f fd ["one", "other"] (spD K F_plus) :=
  Z4 F ZkX rfl rfl fun cdv A outer s H E hr θ => (Zk (Zv (Zj C_ratio θ (hr.mono (by decide)) (Za (ZL (ZA (Zl (Zc 0) Ze) (Zl (Zc 1) Ze)) (ZA (Zl (Zc 1) Ze) (Zl (Zc 0) Ze))) (Za (ZA (Zl (Zc 0) Ze) (Zl (Zc 1) Ze)) Zf)))))
noncomputable abbrev Zcv : Stmt := top 20
noncomputable def ZdM : Sv := (ZM (Zh F_ratio (Zb (e2 dSub (e2 dMul (e2 dIx (Zd 0) (eC (.int 0))) (e2 dIx (Zd 1) (eC (.int 1)))) (e2 dMul (e2 dIx (Zd 1) (eC (.int 0))) (e2 dIx (Zd 0) (eC (.int 1))))) (Zb (e2 dMul (e2 dIx (Zd 0) (eC (.int 1))) (e2 dIx (Zd 1) (eC (.int 1)))) aNil))))
noncomputable def F_minus : List D → Sto → Out D := fnF ZdM 2 0
theorem ZiR : FnScope ["one", "other"] ["one", "other"] (Zg Zcv) := ⟨rfl, rfl, rfl, by decide +kernel, rfl, by decide +kernel, by decide +kernel⟩
theorem ZiS {f : Addr} {fd : FuncData} (F : Fun K "minus" "minus" Zcv f fd) (T : Txt K mg) (C_ratio : Cal P w K mg base "ratio" 102 2 F_ratio) : FnOk P w K mg base (CXE P w) 103 f fd ["one", "other"] (spD K F_minus) :=
  Z4 F ZiR rfl rfl fun cdv A outer s H E hr θ => (Zk (Zv (Zj C_ratio θ (hr.mono (by decide)) (Za (ZY (ZA (Zl (Zc 0) Ze) (Zl (Zc 1) Ze)) (ZA (Zl (Zc 1) Ze) (Zl (Zc 0) Ze))) (Za (ZA (Zl (Zc 0) Ze) (Zl (Zc 1) Ze)) Zf)))))
noncomputable abbrev Zcw : Stmt := top 21
noncomputable def ZdK : Sv := (ZM (Zh F_ratio (Zb (e2 dMul (e2 dIx (Zd 0) (eC (.int 0))) (e2 dIx (Zd 1) (eC (.int 0)))) (Zb (e2 dMul (e2 dIx (Zd 0) (eC (.int 1))) (e2 dIx (Zd 1) (eC (.int 1)))) aNil))))
noncomputable def F_times : List D → Sto → Out D := fnF ZdK 2 0
theorem ZiT : FnScope ["one", "other"] ["one", "other"] (Zg Zcw) := ⟨rfl, rfl, rfl, by decide +kernel, rfl, by decide +kernel, by decide +kernel⟩
theorem ZiU {f : Addr} {fd : FuncData} (F : Fun K "times" "times" Zcw f fd) (T : Txt K mg) (C_ratio : Cal P w K mg base "ratio" 102 2 F_ratio) : FnOk P w K mg base (CXE P w) 103 f fd ["one", "other"] (spD K F_times) :=
  Z4 F ZiT rfl rfl fun cdv A outer s H E hr θ => (Zk (Zv (Zj C_ratio θ (hr.mono (by decide)) (Za (ZA (Zl (Zc 0) Ze) (Zl (Zc 1) Ze)) (Za (ZA (Zl (Zc 0) Ze) (Zl (Zc 1) Ze)) Zf)))))
noncomputable abbrev Zdt : Stmt := top 22
noncomputable def ZfE : Sv := (ZM (e2 dLt (e2 dMul (e2 dIx (Zd 0) (eC (.int 0))) (e2 dIx (Zd 1) (eC (.int 1)))) (e2 dMul (e2 dIx (Zd 1) (eC (.int 0))) (e2 dIx (Zd 0) (eC (.int 1))))))
noncomputable def F_less : List D → Sto → Out D := fnF ZfE 2 0
theorem ZkZ : FnScope ["one", "other"] ["one", "other"] (Zg Zdt) := ⟨rfl, rfl, rfl, by decide +kernel, rfl, by decide +kernel, by decide +kernel⟩
theorem Zk0 {f : Addr} {fd : FuncData} (F : Fun K "less" "less" Zdt f fd) (T : Txt K mg) : FnOk P w K mg base (CXE P w) 1 f fd ["one", "other"] (spD K F_less) :=
  Z4 F ZkZ rfl rfl fun cdv A outer s H E hr θ => (Zk (Zv (Zdi ZeF ZeJ (ZA (Zl (Zc 0) Ze) (Zl (Zc 1) Ze)) (ZA (Zl (Zc 1) Ze) (Zl (Zc 0) Ze)))))
noncomputable abbrev ZaO : Stmt := top 23
noncomputable def ZaL : Sv := (sIf (tv (Zh F_less (Zb (Zd 1) (Zb (Zd 2) aNil)))) (ZH (gNm 1) (Zd 2)) sNil)
noncomputable def ZbO : Sv := (Zu (ZH (gNm 1) (e2 dIx (Zd 0) (eC (.int 0))))
  (Zu (Zk9 (gNm 2) (Zd 0) ZaL)
  (ZM (Zd 1))))
noncomputable def F_greatest : List D → Sto → Out D := fnF ZbO 1 2
theorem Zbs : FnScope ["ones", "best", "one"] ["ones"] (Zg ZaO) := ⟨rfl, rfl, rfl, by decide +kernel, rfl, by decide +kernel, by decide +kernel⟩
theorem Ze4 {f : Addr} {fd : FuncData} (F : Fun K "greatest" "greatest" ZaO f fd) (T : Txt K mg) (C_less : Cal P w K mg base "less" 1 2 F_less) : FnOk P w K mg base (CXE P w) 2 f fd ["ones"] (spD K F_greatest) :=
  Z4 F Zbs rfl rfl fun cdv A outer s H E hr θ => (Zi (Zy 1 Zbs.nd (Zl (Zc 0) Ze))
    (Zi (Zjd θ.own (Zc 0) (Zn 2 Zbs.nd) (Zk (ZaI (ZbX (Zj C_less θ (hr.mono (by decide)) (Za (Zc 1) (Za (Zc 2) Zf)))) (Zk (Zy 1 Zbs.nd (Zc 2))) ZI)))
    (Zk (Zv (Zc 1)))))
noncomputable abbrev Zah : Stmt := top 25
noncomputable def Za3 : Sv := (sIf (tv (e2 dNe (Zh bLen (Zb (Zd 1) aNil)) (Zh bLen (Zb (Zd 0) aNil)))) (ZaX (PySem.Str.ofString "NoHeight") (Zb (eFs (Zbg (eC (.str (PySem.Str.ofString "a height of "))) (Zbg (eFm (Zh bLen (Zb (Zd 0) aNil))) (Zbg (eC (.str (PySem.Str.ofString " rays has not "))) (Zbg (eFm (Zh bLen (Zb (Zd 1) aNil))) (Zbg (eC (.str (PySem.Str.ofString " ratios"))) jNil)))))) aNil)) sNil)
noncomputable def F_ask_height : List D → Sto → Out D := fnF Za3 2 0
theorem ZdV : FnScope ["rays", "height"] ["rays", "height"] (Zg Zah) := ⟨rfl, rfl, rfl, by decide +kernel, rfl, by decide +kernel, by decide +kernel⟩
theorem ZdW {f : Addr} {fd : FuncData} (F : Fun K "ask_height" "ask_height" Zah f fd) (T : Txt K mg) : FnOk P w K mg base (CXE P w) 101 f fd ["rays", "height"] (spD K F_ask_height) :=
  Z4 F ZdV rfl rfl fun cdv A outer s H E hr θ => (Zk (ZaI (ZS (Zbc hr.units) Zco (Zo Zm Z8 T.b_len PySem.boot_len (Za (Zc 1) Zf)) (Zo Zm Z8 T.b_len PySem.boot_len (Za (Zc 0) Zf))) (Zk (Zcd θ T.ex_NoHeight T.gl (hr.hd (by decide)) (Za (Zmk (ZbB Zcz (ZbB (Zkj (Zo Zm Z8 T.b_len PySem.boot_len (Za (Zc 0) Zf))) (ZbB Zcz (ZbB (Zkj (Zo Zm Z8 T.b_len PySem.boot_len (Za (Zc 1) Zf))) (ZbB Zcz Zjf)))))) Zf))) ZI))
noncomputable abbrev Zcx : Stmt := top 26
noncomputable def ZbL : Sv := (Zu (ZH (gNm 6) (Zh F_plus (Zb (e2 dIx (Zd 1) (e2 dSub (Zd 4) (eC (.int 1)))) (Zb (Zh F_following (Zb (Zd 1) (Zb (Zd 4) aNil))) aNil))))
  (Zbe (ZeM mApp (Zd 3) (Zb (Zh F_plus (Zb (Zd 6) (Zb (Zh F_times (Zb (Zal (Zb (e2 dIx (Zd 2) (Zd 4)) (Zb (eC (.int 1)) aNil))) (Zb (Zd 5) aNil))) aNil))) aNil))))
noncomputable def ZdN : Sv := (Zu (ZH (gNm 2) (Zh F_numbers (Zb (Zd 0) aNil)))
  (Zu (Zbe (Zh F_ask_height (Zb (Zd 0) (Zb (Zd 1) aNil))))
  (Zu (ZH (gNm 3) (Zbb aNil))
  (Zu (Zdc (gTp (gCs (gNm 4) (gCs (gNm 5) gNl))) (iEn (Zb (Zd 1) aNil)) ZbL)
  (ZM (Zd 3))))))
noncomputable def F_bends : List D → Sto → Out D := fnF ZdN 2 5
theorem ZbR : FnScope ["rays", "height", "row", "told", "at", "own", "beside"] ["rays", "height"] (Zg Zcx) := ⟨rfl, rfl, rfl, by decide +kernel, rfl, by decide +kernel, by decide +kernel⟩
theorem ZiV {f : Addr} {fd : FuncData} (F : Fun K "bends" "bends" Zcx f fd) (T : Txt K mg) (C_numbers : Cal P w K mg base "numbers" 103 1 F_numbers) (C_ask_height : Cal P w K mg base "ask_height" 101 2 F_ask_height) (C_following : Cal P w K mg base "following" 1 2 F_following) (C_plus : Cal P w K mg base "plus" 103 2 F_plus) (C_times : Cal P w K mg base "times" 103 2 F_times) : FnOk P w K mg base (CXE P w) 104 f fd ["rays", "height"] (spD K F_bends) :=
  Z4 F ZbR rfl rfl fun cdv A outer s H E hr θ => (Zi (Zy 2 ZbR.nd (Zj C_numbers θ (hr.mono (by decide)) (Za (Zc 0) Zf)))
    (Zi (Zbl (Zj C_ask_height θ (hr.mono (by decide)) (Za (Zc 0) (Za (Zc 1) Zf))))
    (Zi (Zy 3 ZbR.nd (Zam Zf))
    (Zi (ZeO θ.own (ZeP (hr.hd (by decide)) T.b_enumerate (Za (Zc 1) Zf)) (ZaG (Zz hr (by decide)) (Zq (Zn 4 ZbR.nd) (Zq (Zn 5 ZbR.nd) Z5)) (hlen := (Zw (Zw (fun _ _ _ h => Z6 h))))) (Zi (Zy 6 ZbR.nd (Zj C_plus θ (hr.mono (by decide)) (Za (Zl (Zc 1) (ZY (Zc 4) Ze)) (Za (Zj C_following θ (hr.mono (by decide)) (Za (Zc 1) (Za (Zc 4) Zf))) Zf))))
    (Zk (Zbl (Zbf (Zc 3) (Zj C_plus θ (hr.mono (by decide)) (Za (Zc 6) (Za (Zj C_times θ (hr.mono (by decide)) (Za (ZJ (Za (Zl (Zc 2) (Zc 4)) (Za Ze Zf))) (Za (Zc 5) Zf))) Zf))))))))
    (Zk (Zv (Zc 3)))))))
noncomputable abbrev ZbS : Stmt := top 27
noncomputable def ZcO : Sv := (ZM (Zh F_plus (Zb (Zh F_times (Zb (e2 dIx (Zd 0) (eC (.int 0))) (Zb (Zal (Zb (e2 dIx (Zd 1) (eC (.int 0))) (Zb (eC (.int 1)) aNil))) aNil))) (Zb (Zh F_times (Zb (e2 dIx (Zd 0) (eC (.int 1))) (Zb (Zal (Zb (e2 dIx (Zd 1) (eC (.int 1))) (Zb (eC (.int 1)) aNil))) aNil))) aNil))))
noncomputable def F_sloped : List D → Sto → Out D := fnF ZcO 2 0
theorem ZhH : FnScope ["m", "ray"] ["m", "ray"] (Zg ZbS) := ⟨rfl, rfl, rfl, by decide +kernel, rfl, by decide +kernel, by decide +kernel⟩
theorem ZhI {f : Addr} {fd : FuncData} (F : Fun K "sloped" "sloped" ZbS f fd) (T : Txt K mg) (C_times : Cal P w K mg base "times" 103 2 F_times) (C_plus : Cal P w K mg base "plus" 103 2 F_plus) : FnOk P w K mg base (CXE P w) 104 f fd ["m", "ray"] (spD K F_sloped) :=
  Z4 F ZhH rfl rfl fun cdv A outer s H E hr θ => (Zk (Zv (Zj C_plus θ (hr.mono (by decide)) (Za (Zj C_times θ (hr.mono (by decide)) (Za (Zl (Zc 0) Ze) (Za (ZJ (Za (Zl (Zc 1) Ze) (Za Ze Zf))) Zf))) (Za (Zj C_times θ (hr.mono (by decide)) (Za (Zl (Zc 0) Ze) (Za (ZJ (Za (Zl (Zc 1) Ze) (Za Ze Zf))) Zf))) Zf)))))
noncomputable abbrev ZO : Stmt := top 28
noncomputable def Zap : Sv := (Zu (ZH (gTp (gCs (gTp (gCs (gNm 2) (gCs (gNm 3) gNl))) (gCs (gTp (gCs (gNm 4) (gCs (gNm 5) gNl))) gNl))) (Zal (Zb (e2 dIx (Zd 0) (eC (.int 0))) (Zb (e2 dIx (Zd 0) (eC (.int 1))) aNil))))
  (Zu (Zda 6 7 (Zb (e2 dIx (Zd 1) (eC (.int 0))) (Zb (e2 dIx (Zd 1) (eC (.int 1))) aNil)))
  (ZM (Zal (Zb (Zh F_minus (Zb (Zh F_times (Zb (Zd 6) (Zb (Zal (Zb (Zd 5) (Zb (eC (.int 1)) aNil))) aNil))) (Zb (Zh F_times (Zb (Zd 7) (Zb (Zal (Zb (Zd 3) (Zb (eC (.int 1)) aNil))) aNil))) aNil))) (Zb (Zh F_minus (Zb (Zh F_times (Zb (Zd 7) (Zb (Zal (Zb (Zd 2) (Zb (eC (.int 1)) aNil))) aNil))) (Zb (Zh F_times (Zb (Zd 6) (Zb (Zal (Zb (Zd 4) (Zb (eC (.int 1)) aNil))) aNil))) aNil))) aNil))))))
noncomputable def F_slope_through : List D → Sto → Out D := fnF Zap 2 6
theorem ZK : FnScope ["rays", "height", "a", "b", "c", "d", "first", "second"] ["rays", "height"] (Zg ZO) := ⟨rfl, rfl, rfl, by decide +kernel, rfl, by decide +kernel, by decide +kernel⟩
theorem ZcH {f : Addr} {fd : FuncData} (F : Fun K "slope_through" "slope_through" ZO f fd) (T : Txt K mg) (C_times : Cal P w K mg base "times" 103 2 F_times) (C_minus : Cal P w K mg base "minus" 103 2 F_minus) : FnOk P w K mg base (CXE P w) 104 f fd ["rays", "height"] (spD K F_slope_through) :=
  Z4 F ZK rfl rfl fun cdv A outer s H E hr θ => (Zi (Zed (ZJ (Za (Zl (Zc 0) Ze) (Za (Zl (Zc 0) Ze) Zf))) (ZaG (Zz hr (by decide)) (Zq (ZaG (Zz hr (by decide)) (Zq (Zn 2 ZK.nd) (Zq (Zn 3 ZK.nd) Z5)) (hlen := (Zw (Zw (fun _ _ _ h => Z6 h))))) (Zq (ZaG (Zz hr (by decide)) (Zq (Zn 4 ZK.nd) (Zq (Zn 5 ZK.nd) Z5)) (hlen := (Zw (Zw (fun _ _ _ h => Z6 h))))) Z5)) (hlen := (Zw (Zw (fun _ _ _ h => Z6 h))))))
    (Zi (ZcT 6 7 (Zz hr (by decide)) ZK.nd (Za (Zl (Zc 1) Ze) (Za (Zl (Zc 1) Ze) Zf)))
    (Zk (Zv (ZJ (Za (Zj C_minus θ (hr.mono (by decide)) (Za (Zj C_times θ (hr.mono (by decide)) (Za (Zc 6) (Za (ZJ (Za (Zc 5) (Za Ze Zf))) Zf))) (Za (Zj C_times θ (hr.mono (by decide)) (Za (Zc 7) (Za (ZJ (Za (Zc 3) (Za Ze Zf))) Zf))) Zf))) (Za (Zj C_minus θ (hr.mono (by decide)) (Za (Zj C_times θ (hr.mono (by decide)) (Za (Zc 7) (Za (ZJ (Za (Zc 2) (Za Ze Zf))) Zf))) (Za (Zj C_times θ (hr.mono (by decide)) (Za (Zc 6) (Za (ZJ (Za (Zc 4) (Za Ze Zf))) Zf))) Zf))) Zf)))))))
noncomputable abbrev ZP : Stmt := top 30
noncomputable def Zas : Sv := (ZM (Zh bAny (Zb (ZX (iSq (Zh F_bends (Zb (Zd 0) (Zb (Zd 1) aNil)))) 1 [] (gNm 0) (fun _ M => .ok true M) (Zh F_less (Zb (Zd 0) (Zb (Zal (Zb (eC (.int 0)) (Zb (eC (.int 1)) aNil))) aNil)))) aNil)))
noncomputable def F_bends_inwards : List D → Sto → Out D := fnF Zas 2 0
theorem ZcI : FnScope ["rays", "height"] ["rays", "height"] (Zg ZP) := ⟨rfl, rfl, rfl, by decide +kernel, rfl, by decide +kernel, by decide +kernel⟩
theorem ZcJ {f : Addr} {fd : FuncData} (F : Fun K "bends_inwards" "bends_inwards" ZP f fd) (T : Txt K mg) (C_bends : Cal P w K mg base "bends" 104 2 F_bends) (C_less : Cal P w K mg base "less" 1 2 F_less) : FnOk P w K mg base (CXE P w) 105 f fd ["rays", "height"] (spD K F_bends_inwards) :=
  Z4 F ZcI rfl rfl fun cdv A outer s H E hr θ => (Zk (Zv (Zo (Zih (Zz hr (by decide))) Zmc T.b_any Zmb (Za (Zbn (Zla (N := ["bend"]) (k := 1) (by decide +kernel) rfl (by decide +kernel) rfl) (Zby (Zj C_bends θ (hr.mono (by decide)) (Za (Zc 0) (Za (Zc 1) Zf)))) (fun _ _ _ _ => (Zn 0 (show List.Nodup (["bend"] : List Str) by decide +kernel))) (fun _ _ _ _ => (Or.inl ⟨rfl, rfl⟩)) (fun _ _ _ _ => (Zj C_less Zb0 (hr.mono (by decide)) (Za (Zc 0) (Za (ZJ (Za Ze (Za Ze Zf))) Zf))))) Zf))))
noncomputable abbrev ZaP : Stmt := top 31
noncomputable def ZbP : Sv := (ZM (Zh F_minus (Zb (Zal (Zb (eC (.int 0)) (Zb (eC (.int 1)) aNil))) (Zb (Zd 0) aNil))))
noncomputable def F_contrary : List D → Sto → Out D := fnF ZbP 1 0
theorem Ze5 : FnScope ["one"] ["one"] (Zg ZaP) := ⟨rfl, rfl, rfl, by decide +kernel, rfl, by decide +kernel, by decide +kernel⟩
theorem Ze6 {f : Addr} {fd : FuncData} (F : Fun K "contrary" "contrary" ZaP f fd) (T : Txt K mg) (C_minus : Cal P w K mg base "minus" 103 2 F_minus) : FnOk P w K mg base (CXE P w) 104 f fd ["one"] (spD K F_contrary) :=
  Z4 F Ze5 rfl rfl fun cdv A outer s H E hr θ => (Zk (Zv (Zj C_minus θ (hr.mono (by decide)) (Za (ZJ (Za Ze (Za Ze Zf))) (Za (Zc 0) Zf)))))
noncomputable abbrev Zbj : Stmt := top 32
noncomputable def Za6 : Sv := (Zu (ZH (gNm 5) (Zbb (Zb (Zh F_contrary (Zb (e2 dIx (Zd 1) (Zd 3)) aNil)) (Zb (Zh F_contrary (Zb (Zh F_following (Zb (Zd 1) (Zb (Zd 3) aNil))) aNil)) aNil))))
  (Zbe (ZeM mApp (Zd 2) (Zb (Zh F_slope_through (Zb (Zbb (Zb (Zd 4) (Zb (Zh F_following (Zb (Zd 0) (Zb (Zd 3) aNil))) aNil))) (Zb (Zd 5) aNil))) aNil))))
noncomputable def Zci : Sv := (Zu (sIf (tv (Zh F_bends_inwards (Zb (Zd 0) (Zb (Zd 1) aNil)))) (ZaX (PySem.Str.ofString "NoBend") (Zb (eC (.str (PySem.Str.ofString "the height bends inwards"))) aNil)) sNil)
  (Zu (ZH (gNm 2) (Zbb aNil))
  (Zu (Zdc (gTp (gCs (gNm 3) (gCs (gNm 4) gNl))) (iEn (Zb (Zd 0) aNil)) Za6)
  (ZM (Zd 2)))))
noncomputable def F_corners : List D → Sto → Out D := fnF Zci 2 4
theorem Zbk : FnScope ["rays", "height", "told", "at", "ray", "both"] ["rays", "height"] (Zg Zbj) := ⟨rfl, rfl, rfl, by decide +kernel, rfl, by decide +kernel, by decide +kernel⟩
theorem Zf8 {f : Addr} {fd : FuncData} (F : Fun K "corners" "corners" Zbj f fd) (T : Txt K mg) (C_bends_inwards : Cal P w K mg base "bends_inwards" 105 2 F_bends_inwards) (C_following : Cal P w K mg base "following" 1 2 F_following) (C_contrary : Cal P w K mg base "contrary" 104 1 F_contrary) (C_slope_through : Cal P w K mg base "slope_through" 104 2 F_slope_through) : FnOk P w K mg base (CXE P w) 106 f fd ["rays", "height"] (spD K F_corners) :=
  Z4 F Zbk rfl rfl fun cdv A outer s H E hr θ => (Zi (ZaI (ZbX (Zj C_bends_inwards θ (hr.mono (by decide)) (Za (Zc 0) (Za (Zc 1) Zf)))) (Zk (Zcd θ T.ex_NoBend T.gl (hr.hd (by decide)) (Za Zcz Zf))) ZI)
    (Zi (Zy 2 Zbk.nd (Zam Zf))
    (Zi (ZeO θ.own (ZeP (hr.hd (by decide)) T.b_enumerate (Za (Zc 0) Zf)) (ZaG (Zz hr (by decide)) (Zq (Zn 3 Zbk.nd) (Zq (Zn 4 Zbk.nd) Z5)) (hlen := (Zw (Zw (fun _ _ _ h => Z6 h))))) (Zi (Zy 5 Zbk.nd (Zam (Za (Zj C_contrary θ (hr.mono (by decide)) (Za (Zl (Zc 1) (Zc 3)) Zf)) (Za (Zj C_contrary θ (hr.mono (by decide)) (Za (Zj C_following θ (hr.mono (by decide)) (Za (Zc 1) (Za (Zc 3) Zf))) Zf)) Zf))))
    (Zk (Zbl (Zbf (Zc 2) (Zj C_slope_through θ (hr.mono (by decide)) (Za (Zam (Za (Zc 4) (Za (Zj C_following θ (hr.mono (by decide)) (Za (Zc 0) (Za (Zc 3) Zf))) Zf))) (Za (Zc 5) Zf))))))))
    (Zk (Zv (Zc 2))))))
noncomputable abbrev Z1 : Stmt := top 33
noncomputable def Zbq : Sv := (Zu (Zbe (Zh F_ask_smooth (Zb (Zd 0) aNil)))
  (ZM (ZX (iSq (Zd 0)) 1 [1] (gNm 0) (fun _ M => .ok true M) (Zh F_greatest (Zb (ZX (iSq (Zd 1)) 1 [0] (gNm 0) (fun _ M => .ok true M) (Zh F_contrary (Zb (Zh F_sloped (Zb (Zd 0) (Zb (Zd 1) aNil))) aNil))) aNil)))))
noncomputable def F_height_of : List D → Sto → Out D := fnF Zbq 2 0
theorem Zev : FnScope ["rays", "points"] ["rays", "points"] (Zg Z1) := ⟨rfl, rfl, rfl, by decide +kernel, rfl, by decide +kernel, by decide +kernel⟩
theorem Zew {f : Addr} {fd : FuncData} (F : Fun K "height_of" "height_of" Z1 f fd) (T : Txt K mg) (C_ask_smooth : Cal P w K mg base "ask_smooth" 102 1 F_ask_smooth) (C_sloped : Cal P w K mg base "sloped" 104 2 F_sloped) (C_contrary : Cal P w K mg base "contrary" 104 1 F_contrary) (C_greatest : Cal P w K mg base "greatest" 2 1 F_greatest) : FnOk P w K mg base (CXE P w) 105 f fd ["rays", "points"] (spD K F_height_of) :=
  Z4 F Zev rfl rfl fun cdv A outer s H E hr θ => (Zi (Zbl (Zj C_ask_smooth θ (hr.mono (by decide)) (Za (Zc 0) Zf)))
    (Zk (Zv (Zfw (Zmd (XN := ["rays", "points"]) (dn := (Zg Z1).names) (N := ["ray", "points"]) (k := 1) (fr := [1]) rfl rfl rfl rfl (by decide +kernel)) (Zby (Zc 0)) (fun _ _ _ _ => (Zn 0 (show List.Nodup (["ray", "points"] : List Str) by decide +kernel))) (fun _ _ _ _ => (Or.inl ⟨rfl, rfl⟩)) (fun B1 _ _ _ _ => (Zj C_greatest Zii (hr.mono (by decide)) (Za (Zbn (Zme (dn := (Zg Z1).names) (N := ["m", "ray"]) (k := 1) (fr := [0]) B1 rfl rfl rfl (by decide +kernel)) (Zby (Zc 1)) (fun _ _ _ _ => (Zn 0 (show List.Nodup (["m", "ray"] : List Str) by decide +kernel))) (fun _ _ _ _ => (Or.inl ⟨rfl, rfl⟩)) (fun _ _ _ _ => (Zj C_contrary Zb0 (hr.mono (by decide)) (Za (Zj C_sloped Zb0 (hr.mono (by decide)) (Za (Zc 0) (Za (Zc 1) Zf))) Zf)))) Zf)))))))
noncomputable abbrev Zax : Stmt := top 35
noncomputable def Zbo : Sv := (Zu (ZH (gNm 2) (eC (.int 0)))
  (Zu (sIf (tv (e2 dLt (Zd 1) (Zh bLen (Zb (Zd 0) aNil)))) (ZH (gNm 2) (e2 dIx (Zd 0) (Zd 1))) sNil)
  (Zu (ZH (gNm 3) (e2 dMod (Zd 2) (e2 dMul (e2 dPow (eC (.int 10)) (eC (.int 60))) (e2 dPow (eC (.int 10)) (eC (.int 30))))))
  (ZM (Zbb (Zb (e2 dMul (Zd 3) (Zh bInt (Zb (e2 dGe (Zd 3) (e2 dPow (eC (.int 10)) (eC (.int 18)))) aNil))) (Zb (e2 dAdd (e2 dAdd (e2 dMod (Zd 2) (eC (.int 2147483647))) (e2 dMul (eC (.int 7919)) (Zd 1))) (eC (.int 1))) aNil)))))))
noncomputable def F_law_purse : List D → Sto → Out D := fnF Zbo 2 2
theorem Za7 : FnScope ["_law_script", "_law_k", "_law_cell", "_law_large"] ["_law_script", "_law_k"] (Zg Zax) := ⟨rfl, rfl, rfl, by decide +kernel, rfl, by decide +kernel, by decide +kernel⟩
theorem Zex {f : Addr} {fd : FuncData} (F : Fun K "_law_purse" "_law_purse" Zax f fd) (T : Txt K mg) : FnOk P w K mg base (CXE P w) 1 f fd ["_law_script", "_law_k"] (spD K F_law_purse) :=
  Z4 F Za7 rfl rfl fun cdv A outer s H E hr θ => (Zi (Zy 2 Za7.nd Ze)
    (Zi (ZaI (ZS ZeF ZeJ (Zc 1) (Zo Zm Z8 T.b_len PySem.boot_len (Za (Zc 0) Zf))) (Zk (Zy 2 Za7.nd (Zl (Zc 0) (Zc 1)))) ZI)
    (Zi (Zy 3 Za7.nd (ZaT (Zc 2) (ZA (ZgD Ze Ze) (ZgD Ze Ze))))
    (Zk (Zv (Zam (Za (ZA (Zc 3) (ZaU Zca Zfo T.b_int Zeg (Za (Zdi Zon Zov (Zc 3) (ZgD Ze Ze)) Zf))) (Za (ZL (ZL (ZaT (Zc 2) Ze) (ZA Ze (Zc 1))) Ze) Zf))))))))
noncomputable abbrev ZaQ : Stmt := top 36
noncomputable def ZbJ : Sv := (Zu (sIf (tv (e2 dGt (e2 dIx (Zd 0) (eC (.int 0))) (eC (.int 0)))) (Zu (ZH (gNm 2) (e2 dMod (e2 dIx (Zd 0) (eC (.int 0))) (Zd 1)))
  (Zu (Zid (Zd 0) (eC (.int 0)) (e2 dDiv (e2 dIx (Zd 0) (eC (.int 0))) (Zd 1)))
  (ZM (Zd 2)))) sNil)
  (Zu (Zid (Zd 0) (eC (.int 1)) (e2 dMod (e2 dAdd (e2 dMul (e2 dIx (Zd 0) (eC (.int 1))) (eC (.int 48271))) (eC (.int 12345))) (eC (.int 2147483647))))
  (ZM (e2 dMod (e2 dDiv (e2 dMod (e2 dMul (e2 dIx (Zd 0) (eC (.int 1))) (eC (.int 69621))) (eC (.int 2147483629))) (eC (.int 5))) (Zd 1)))))
noncomputable def F_law_take : List D → Sto → Out D := fnF ZbJ 2 1
theorem Zc7 : FnScope ["_law_purse_here", "_law_many", "_law_digit"] ["_law_purse_here", "_law_many"] (Zg ZaQ) := ⟨rfl, rfl, rfl, by decide +kernel, rfl, by decide +kernel, by decide +kernel⟩
theorem Ze7 {f : Addr} {fd : FuncData} (F : Fun K "_law_take" "_law_take" ZaQ f fd) (T : Txt K mg) : FnOk P w K mg base (CXE P w) 1 f fd ["_law_purse_here", "_law_many"] (spD K F_law_take) :=
  Z4 F Zc7 rfl rfl fun cdv A outer s H E hr θ => (Zi (ZaI (ZS ZhW Zh6 (Zl (Zc 0) Ze) Ze) (Zi (Zy 2 Zc7.nd (ZaT (Zl (Zc 0) Ze) (Zc 1)))
    (Zi (Zja (Zc 0) Ze (ZcB (Zl (Zc 0) Ze) (Zc 1)))
    (Zk (Zv (Zc 2))))) ZI)
    (Zi (Zja (Zc 0) Ze (ZaT (ZL (ZA (Zl (Zc 0) Ze) Ze) Ze) Ze))
    (Zk (Zv (ZaT (ZcB (ZaT (ZA (Zl (Zc 0) Ze) Ze) Ze) Ze) (Zc 1))))))
noncomputable abbrev ZQ : Stmt := top 37
noncomputable def Zaq : Sv := (Zu (ZH (gNm 2) (e2 dIx (Zd 0) (e2 dMod (e2 dAdd (Zd 1) (eC (.int 1))) (Zh bLen (Zb (Zd 0) aNil)))))
  (ZM (e2 dAdd (e2 dAdd (eSl (Zd 0) oNo (oSo (e2 dAdd (Zd 1) (eC (.int 1))))) (Zbb (Zb (Zal (Zb (e2 dAdd (e2 dIx (e2 dIx (Zd 0) (Zd 1)) (eC (.int 0))) (e2 dIx (Zd 2) (eC (.int 0)))) (Zb (e2 dAdd (e2 dIx (e2 dIx (Zd 0) (Zd 1)) (eC (.int 1))) (e2 dIx (Zd 2) (eC (.int 1)))) aNil))) aNil))) (eSl (Zd 0) (oSo (e2 dAdd (Zd 1) (eC (.int 1)))) oNo))))
noncomputable def F_law_short_put : List D → Sto → Out D := fnF Zaq 2 1
theorem Zbv : FnScope ["_law_rays", "_law_at", "_law_after"] ["_law_rays", "_law_at"] (Zg ZQ) := ⟨rfl, rfl, rfl, by decide +kernel, rfl, by decide +kernel, by decide +kernel⟩
theorem ZcK {f : Addr} {fd : FuncData} (F : Fun K "_law_short_put" "_law_short_put" ZQ f fd) (T : Txt K mg) : FnOk P w K mg base (CXE P w) 1 f fd ["_law_rays", "_law_at"] (spD K F_law_short_put) :=
  Z4 F Zbv rfl rfl fun cdv A outer s H E hr θ => (Zi (Zy 2 Zbv.nd (Zl (Zc 0) (ZaT (ZL (Zc 1) Ze) (Zo Zm Z8 T.b_len PySem.boot_len (Za (Zc 0) Zf)))))
    (Zk (Zv (ZL (ZL (Zip (Zc 0) Zin (Zio (ZL (Zc 1) Ze))) (Zam (Za (ZJ (Za (ZL (Zl (Zl (Zc 0) (Zc 1)) Ze) (Zl (Zc 2) Ze)) (Za (ZL (Zl (Zl (Zc 0) (Zc 1)) Ze) (Zl (Zc 2) Ze)) Zf))) Zf))) (Zip (Zc 0) (Zio (ZL (Zc 1) Ze)) Zin)))))
noncomputable abbrev ZaR : Stmt := top 38
noncomputable def ZaK : Sv := (Zu (ZH (gNm 6) (Zh F_law_short_put (Zb (Zd 3) (Zb (Zh F_law_take (Zb (Zd 0) (Zb (Zh bLen (Zb (Zd 3) aNil)) aNil))) aNil))))
  (sIf (ZfP (tv (e2 dLt (Zh bLen (Zb (Zd 3) aNil)) (Zd 4))) (tv (e2 dLt (Zh (ZcZ List.max?) (Zb (ZX (iSq (Zd 6)) 2 [] (gTp (gCs (gNm 0) (gCs (gNm 1) gNl))) (fun _ M => .ok true M) (Zh bMax (Zb (Zh bAbs (Zb (Zd 0) aNil)) (Zb (Zh bAbs (Zb (Zd 1) aNil)) aNil)))) aNil)) (eC (.int 8))))) (ZH (gNm 3) (Zd 6)) sNil))
noncomputable def ZbM : Sv := (Zu (ZH (gNm 2) (Zh F_law_take (Zb (Zd 0) (Zb (eC (.int 5)) aNil))))
  (Zu (ZH (gNm 3) (e2 dIx (Zbb (Zb (Zbb (Zb (Zal (Zb (eC (.int 1)) (Zb (eC (.int 0)) aNil))) (Zb (Zal (Zb (eC (.int 0)) (Zb (eC (.int 1)) aNil))) (Zb (Zal (Zb (Zfm (eC (.int 1))) (Zb (Zfm (eC (.int 1))) aNil))) aNil)))) (Zb (Zbb (Zb (Zal (Zb (eC (.int 1)) (Zb (eC (.int 0)) aNil))) (Zb (Zal (Zb (eC (.int 0)) (Zb (eC (.int 1)) aNil))) (Zb (Zal (Zb (Zfm (eC (.int 1))) (Zb (e2 dSub (Zd 2) (eC (.int 1))) aNil))) (Zb (Zal (Zb (eC (.int 0)) (Zb (Zfm (eC (.int 1))) aNil))) aNil))))) aNil))) (Zh bInt (Zb (e2 dGt (Zd 2) (eC (.int 0))) aNil))))
  (Zu (ZH (gNm 4) (e2 dIx (Zbb (Zb (e2 dAdd (eC (.int 3)) (Zh F_law_take (Zb (Zd 0) (Zb (e2 dSub (Zd 1) (eC (.int 2))) aNil)))) (Zb (Zd 1) aNil))) (Zh bInt (Zb (e2 dEq (Zh F_law_take (Zb (Zd 0) (Zb (eC (.int 6)) aNil))) (eC (.int 3))) aNil))))
  (Zu (ZaV (gNm 5) (Zb (e2 dMul (eC (.int 4)) (Zd 1)) aNil) ZaK)
  (ZM (Zd 3))))))
noncomputable def F_law_base : List D → Sto → Out D := fnF ZbM 2 5
theorem Zac : FnScope ["_law_purse_here", "_law_most", "_law_lean", "_law_rays", "_law_many", "_law_turn", "_law_longer"] ["_law_purse_here", "_law_most"] (Zg ZaR) := ⟨rfl, rfl, rfl, by decide +kernel, rfl, by decide +kernel, by decide +kernel⟩
theorem Ze8 {f : Addr} {fd : FuncData} (F : Fun K "_law_base" "_law_base" ZaR f fd) (T : Txt K mg) (C_law_take : Cal P w K mg base "_law_take" 1 2 F_law_take) (C_law_short_put : Cal P w K mg base "_law_short_put" 1 2 F_law_short_put) : FnOk P w K mg base (CXE P w) 101 f fd ["_law_purse_here", "_law_most"] (spD K F_law_base) :=
  Z4 F Zac rfl rfl fun cdv A outer s H E hr θ => (Zi (Zy 2 Zac.nd (Zj C_law_take θ (hr.mono (by decide)) (Za (Zc 0) (Za Ze Zf))))
    (Zi (Zy 3 Zac.nd (Zl (Zam (Za (Zam (Za (ZJ (Za Ze (Za Ze Zf))) (Za (ZJ (Za Ze (Za Ze Zf))) (Za (ZJ (Za (Zea Ze) (Za (Zea Ze) Zf))) Zf)))) (Za (Zam (Za (ZJ (Za Ze (Za Ze Zf))) (Za (ZJ (Za Ze (Za Ze Zf))) (Za (ZJ (Za (Zea Ze) (Za (ZY (Zc 2) Ze) Zf))) (Za (ZJ (Za Ze (Za (Zea Ze) Zf))) Zf))))) Zf))) (ZaU Zca Zfo T.b_int Zeg (Za (Zdi ZhW Zh6 (Zc 2) Ze) Zf))))
    (Zi (Zy 4 Zac.nd (Zl (Zam (Za (ZL Ze (Zj C_law_take θ (hr.mono (by decide)) (Za (Zc 0) (Za (ZY (Zc 1) Ze) Zf)))) (Za (Zc 1) Zf))) (ZaU Zca Zfo T.b_int Zeg (Za (Zdi (Zdk hr.units) ZfS (Zj C_law_take θ (hr.mono (by decide)) (Za (Zc 0) (Za Ze Zf))) Ze) Zf))))
    (Zi (Zbm θ.own T.b_range (Za (ZA Ze (Zc 1)) Zf) (Zn 5 Zac.nd) (Zi (Zy 6 Zac.nd (Zj C_law_short_put θ (hr.mono (by decide)) (Za (Zc 3) (Za (Zj C_law_take θ (hr.mono (by decide)) (Za (Zc 0) (Za (Zo Zm Z8 T.b_len PySem.boot_len (Za (Zc 3) Zf)) Zf))) Zf))))
    (Zk (ZaI (Zj4 (ZlN (ZS ZeF ZeJ (Zo Zm Z8 T.b_len PySem.boot_len (Za (Zc 3) Zf)) (Zc 4)) (Zj3 (ZS ZeF ZeJ (Zo (ZcY (Zz hr (by decide))) ZeQ T.b_max Zeh (Za (Zbn (Zla (N := ["_law_x", "_law_y"]) (k := 2) (by decide +kernel) rfl (by decide +kernel) rfl) (Zby (Zc 6)) (fun _ _ _ _ => (ZaG (Zz hr (by decide)) (Zq (Zn 0 (show List.Nodup (["_law_x", "_law_y"] : List Str) by decide +kernel)) (Zq (Zn 1 (show List.Nodup (["_law_x", "_law_y"] : List Str) by decide +kernel)) Z5)) (hlen := (Zw (Zw (fun _ _ _ h => Z6 h)))))) (fun _ _ _ _ => (Or.inl ⟨rfl, rfl⟩)) (fun _ _ _ _ => (Zo (Zd2 (Zz hr (by decide))) Zi8 T.b_max Zeh (Za (Zo ZbG Zdl T.b_abs Zdn (Za (Zc 0) Zf)) (Za (Zo ZbG Zdl T.b_abs Zdn (Za (Zc 1) Zf)) Zf))))) Zf)) Ze)))) (Zk (Zy 3 Zac.nd (Zc 6))) ZI))))
    (Zk (Zv (Zc 3)))))))
noncomputable abbrev Zay : Stmt := top 39
noncomputable def ZaC : Sv := (Zu (ZH (gNm 3) (e2 dIx (Zbb (Zb (e2 dSub (Zh F_law_take (Zb (Zd 0) (Zb (eC (.int 5)) aNil))) (eC (.int 2))) (Zb (e2 dSub (Zh F_law_take (Zb (Zd 0) (Zb (eC (.int 15)) aNil))) (eC (.int 7))) aNil))) (Zh bInt (Zb (e2 dEq (Zh F_law_take (Zb (Zd 0) (Zb (eC (.int 8)) aNil))) (eC (.int 5))) aNil))))
  (sIf (tv (e2 dEq (Zh F_law_take (Zb (Zd 0) (Zb (eC (.int 2)) aNil))) (eC (.int 0)))) (ZH (gNm 1) (Zbb (Zb (e2 dAdd (e2 dIx (Zd 1) (eC (.int 0))) (e2 dMul (Zd 3) (e2 dIx (Zd 1) (eC (.int 2))))) (Zb (e2 dAdd (e2 dIx (Zd 1) (eC (.int 1))) (e2 dMul (Zd 3) (e2 dIx (Zd 1) (eC (.int 3))))) (Zb (e2 dIx (Zd 1) (eC (.int 2))) (Zb (e2 dIx (Zd 1) (eC (.int 3))) aNil)))))) (ZH (gNm 1) (Zbb (Zb (e2 dIx (Zd 1) (eC (.int 0))) (Zb (e2 dIx (Zd 1) (eC (.int 1))) (Zb (e2 dAdd (e2 dIx (Zd 1) (eC (.int 2))) (e2 dMul (Zd 3) (e2 dIx (Zd 1) (eC (.int 0))))) (Zb (e2 dAdd (e2 dIx (Zd 1) (eC (.int 3))) (e2 dMul (Zd 3) (e2 dIx (Zd 1) (eC (.int 1))))) aNil))))))))
noncomputable def Zbp : Sv := (Zu (ZH (gNm 1) (Zbb (Zb (eC (.int 1)) (Zb (eC (.int 0)) (Zb (eC (.int 0)) (Zb (eC (.int 1)) aNil))))))
  (Zu (ZaV (gNm 2) (Zb (Zh F_law_take (Zb (Zd 0) (Zb (eC (.int 4)) aNil))) aNil) ZaC)
  (Zu (sIf (tv (e2 dEq (Zh F_law_take (Zb (Zd 0) (Zb (eC (.int 3)) aNil))) (eC (.int 0)))) (ZH (gNm 1) (Zbb (Zb (e2 dIx (Zd 1) (eC (.int 2))) (Zb (e2 dIx (Zd 1) (eC (.int 3))) (Zb (e2 dIx (Zd 1) (eC (.int 0))) (Zb (e2 dIx (Zd 1) (eC (.int 1))) aNil)))))) sNil)
  (Zu (sIf (tv (e2 dGt (Zh (ZcZ List.max?) (Zb (ZX (iSq (Zd 1)) 1 [] (gNm 0) (fun _ M => .ok true M) (Zh bAbs (Zb (Zd 0) aNil))) aNil)) (eC (.int 14)))) (ZM (Zbb (Zb (eC (.int 0)) (Zb (eC (.int 1)) (Zb (eC (.int 1)) (Zb (eC (.int 0)) aNil)))))) sNil)
  (ZM (Zd 1))))))
noncomputable def F_law_table : List D → Sto → Out D := fnF Zbp 1 3
theorem Z2 : FnScope ["_law_purse_here", "_law_table_here", "_law_turn", "_law_many"] ["_law_purse_here"] (Zg Zay) := ⟨rfl, rfl, rfl, by decide +kernel, rfl, by decide +kernel, by decide +kernel⟩
theorem Zey {f : Addr} {fd : FuncData} (F : Fun K "_law_table" "_law_table" Zay f fd) (T : Txt K mg) (C_law_take : Cal P w K mg base "_law_take" 1 2 F_law_take) : FnOk P w K mg base (CXE P w) 101 f fd ["_law_purse_here"] (spD K F_law_table) :=
  Z4 F Z2 rfl rfl fun cdv A outer s H E hr θ => (Zi (Zy 1 Z2.nd (Zam (Za Ze (Za Ze (Za Ze (Za Ze Zf))))))
    (Zi (Zbm θ.own T.b_range (Za (Zj C_law_take θ (hr.mono (by decide)) (Za (Zc 0) (Za Ze Zf))) Zf) (Zn 2 Z2.nd) (Zi (Zy 3 Z2.nd (Zl (Zam (Za (ZY (Zj C_law_take θ (hr.mono (by decide)) (Za (Zc 0) (Za Ze Zf))) Ze) (Za (ZY (Zj C_law_take θ (hr.mono (by decide)) (Za (Zc 0) (Za Ze Zf))) Ze) Zf))) (ZaU Zca Zfo T.b_int Zeg (Za (Zdi (Zdk hr.units) ZfS (Zj C_law_take θ (hr.mono (by decide)) (Za (Zc 0) (Za Ze Zf))) Ze) Zf))))
    (Zk (ZaI (ZS (Zdk hr.units) ZfS (Zj C_law_take θ (hr.mono (by decide)) (Za (Zc 0) (Za Ze Zf))) Ze) (Zk (Zy 1 Z2.nd (Zam (Za (ZL (Zl (Zc 1) Ze) (ZA (Zc 3) (Zl (Zc 1) Ze))) (Za (ZL (Zl (Zc 1) Ze) (ZA (Zc 3) (Zl (Zc 1) Ze))) (Za (Zl (Zc 1) Ze) (Za (Zl (Zc 1) Ze) Zf))))))) (Zk (Zy 1 Z2.nd (Zam (Za (Zl (Zc 1) Ze) (Za (Zl (Zc 1) Ze) (Za (ZL (Zl (Zc 1) Ze) (ZA (Zc 3) (Zl (Zc 1) Ze))) (Za (ZL (Zl (Zc 1) Ze) (ZA (Zc 3) (Zl (Zc 1) Ze))) Zf)))))))))))
    (Zi (ZaI (ZS (Zdk hr.units) ZfS (Zj C_law_take θ (hr.mono (by decide)) (Za (Zc 0) (Za Ze Zf))) Ze) (Zk (Zy 1 Z2.nd (Zam (Za (Zl (Zc 1) Ze) (Za (Zl (Zc 1) Ze) (Za (Zl (Zc 1) Ze) (Za (Zl (Zc 1) Ze) Zf))))))) ZI)
    (Zi (ZaI (ZS ZhW Zh6 (Zo (ZcY (Zz hr (by decide))) ZeQ T.b_max Zeh (Za (Zbn (Zla (N := ["_law_number"]) (k := 1) (by decide +kernel) rfl (by decide +kernel) rfl) (Zby (Zc 1)) (fun _ _ _ _ => (Zn 0 (show List.Nodup (["_law_number"] : List Str) by decide +kernel))) (fun _ _ _ _ => (Or.inl ⟨rfl, rfl⟩)) (fun _ _ _ _ => (Zo ZbG Zdl T.b_abs Zdn (Za (Zc 0) Zf)))) Zf)) Ze) (Zk (Zv (Zam (Za Ze (Za Ze (Za Ze (Za Ze Zf))))))) ZI)
    (Zk (Zv (Zc 1)))))))
noncomputable abbrev Zaz : Stmt := top 40
noncomputable def ZbN : Sv := (Zu (ZH (gNm 4) (ZX (iZp (Zb (Zd 1) (Zb (Zd 2) aNil))) 3 [0] (gTp (gCs (gTp (gCs (gNm 0) (gCs (gNm 1) gNl))) (gCs (gNm 2) gNl))) (fun _ M => .ok true M) (Zal (Zb (Zal (Zb (e2 dAdd (e2 dMul (e2 dIx (Zd 3) (eC (.int 0))) (Zd 0)) (e2 dMul (e2 dIx (Zd 3) (eC (.int 1))) (Zd 1))) (Zb (e2 dAdd (e2 dMul (e2 dIx (Zd 3) (eC (.int 2))) (Zd 0)) (e2 dMul (e2 dIx (Zd 3) (eC (.int 3))) (Zd 1))) aNil))) (Zb (Zd 2) aNil)))))
  (Zu (sIf (tv (e2 dLt (e2 dSub (e2 dMul (e2 dIx (Zd 0) (eC (.int 0))) (e2 dIx (Zd 0) (eC (.int 3)))) (e2 dMul (e2 dIx (Zd 0) (eC (.int 1))) (e2 dIx (Zd 0) (eC (.int 2))))) (eC (.int 0)))) (ZH (gNm 4) (Zh bLR (Zb (Zd 4) aNil))) sNil)
  (Zu (ZH (gNm 4) (e2 dAdd (eSl (Zd 4) (oSo (Zd 3)) oNo) (eSl (Zd 4) oNo (oSo (Zd 3)))))
  (ZM (Zal (Zb (ZX (iSq (Zd 4)) 2 [] (gTp (gCs (gNm 0) (gCs (gNm 1) gNl))) (fun _ M => .ok true M) (Zd 0)) (Zb (ZX (iSq (Zd 4)) 2 [] (gTp (gCs (gNm 0) (gCs (gNm 1) gNl))) (fun _ M => .ok true M) (Zd 1)) aNil)))))))
noncomputable def F_law_spun : List D → Sto → Out D := fnF ZbN 4 1
theorem Zbt : FnScope ["_law_table_here", "_law_rays", "_law_some", "_law_at", "_law_pairs"] ["_law_table_here", "_law_rays", "_law_some", "_law_at"] (Zg Zaz) := ⟨rfl, rfl, rfl, by decide +kernel, rfl, by decide +kernel, by decide +kernel⟩
theorem Ze9 {f : Addr} {fd : FuncData} (F : Fun K "_law_spun" "_law_spun" Zaz f fd) (T : Txt K mg) : FnOk P w K mg base (CXE P w) 101 f fd ["_law_table_here", "_law_rays", "_law_some", "_law_at"] (spD K F_law_spun) :=
  Z4 F Zbt rfl rfl fun cdv A outer s H E hr θ => (Zi (Zg2 4 Zbt.nd (Zox (XN := ["_law_table_here", "_law_rays", "_law_some", "_law_at", "_law_pairs"]) (dn := (Zg Zaz).names) (N := ["_law_x", "_law_y", "_law_one", "_law_table_here"]) (k := 3) (fr := [0]) rfl rfl rfl rfl (by decide +kernel)) (Zmj (hr.hd (by decide)) T.b_zip (Za (Zc 1) (Za (Zc 2) Zf))) (fun _ _ _ _ => (ZaG (Zz hr (by decide)) (Zq (ZaG (Zz hr (by decide)) (Zq (Zn 0 (show List.Nodup (["_law_x", "_law_y", "_law_one", "_law_table_here"] : List Str) by decide +kernel)) (Zq (Zn 1 (show List.Nodup (["_law_x", "_law_y", "_law_one", "_law_table_here"] : List Str) by decide +kernel)) Z5)) (hlen := (Zw (Zw (fun _ _ _ h => Z6 h))))) (Zq (Zn 2 (show List.Nodup (["_law_x", "_law_y", "_law_one", "_law_table_here"] : List Str) by decide +kernel)) Z5)) (hlen := (Zw (Zw (fun _ _ _ h => Z6 h)))))) (fun _ _ _ _ => (Or.inl ⟨rfl, rfl⟩)) (fun _ _ _ _ => (ZJ (Za (ZJ (Za (ZL (ZA (Zl (Zc 3) Ze) (Zc 0)) (ZA (Zl (Zc 3) Ze) (Zc 1))) (Za (ZL (ZA (Zl (Zc 3) Ze) (Zc 0)) (ZA (Zl (Zc 3) Ze) (Zc 1))) Zf))) (Za (Zc 2) Zf)))))
    (Zi (ZaI (ZS ZeF ZeJ (ZY (ZA (Zl (Zc 0) Ze) (Zl (Zc 0) Ze)) (ZA (Zl (Zc 0) Ze) (Zl (Zc 0) Ze))) Ze) (Zk (Zy 4 Zbt.nd (ZoD (hr.hd (by decide)) T.b_list T.b_reversed (Za (Zc 4) Zf)))) ZI)
    (Zi (Zy 4 Zbt.nd (ZL (Zip (Zc 4) (Zio (Zc 3)) Zin) (Zip (Zc 4) Zin (Zio (Zc 3)))))
    (Zk (Zv (ZJ (Za (Zbn (Zla (N := ["_law_ray", "_law_one"]) (k := 2) (by decide +kernel) rfl (by decide +kernel) rfl) (Zby (Zc 4)) (fun _ _ _ _ => (ZaG (Zz hr (by decide)) (Zq (Zn 0 (show List.Nodup (["_law_ray", "_law_one"] : List Str) by decide +kernel)) (Zq (Zn 1 (show List.Nodup (["_law_ray", "_law_one"] : List Str) by decide +kernel)) Z5)) (hlen := (Zw (Zw (fun _ _ _ h => Z6 h)))))) (fun _ _ _ _ => (Or.inl ⟨rfl, rfl⟩)) (fun _ _ _ _ => (Zc 0))) (Za (Zbn (Zla (N := ["_law_ray", "_law_one"]) (k := 2) (by decide +kernel) rfl (by decide +kernel) rfl) (Zby (Zc 4)) (fun _ _ _ _ => (ZaG (Zz hr (by decide)) (Zq (Zn 0 (show List.Nodup (["_law_ray", "_law_one"] : List Str) by decide +kernel)) (Zq (Zn 1 (show List.Nodup (["_law_ray", "_law_one"] : List Str) by decide +kernel)) Z5)) (hlen := (Zw (Zw (fun _ _ _ h => Z6 h)))))) (fun _ _ _ _ => (Or.inl ⟨rfl, rfl⟩)) (fun _ _ _ _ => (Zc 1))) Zf))))))))
noncomputable abbrev ZaA : Stmt := top 41
noncomputable def Zde : Sv := (Zda 2 3 (Zb (Zd 3) (Zb (e2 dMod (Zd 2) (Zd 3)) aNil)))
noncomputable def Zfa : Sv := (Zu (Zda 2 3 (Zb (Zh bAbs (Zb (Zd 0) aNil)) (Zb (Zd 1) aNil)))
  (Zu (sWh (tv (e2 dGt (Zd 3) (eC (.int 0)))) Zde)
  (ZM (Zal (Zb (e2 dDiv (Zd 0) (Zd 2)) (Zb (e2 dDiv (Zd 1) (Zd 2)) aNil))))))
noncomputable def F_law_ratio : List D → Sto → Out D := fnF Zfa 2 2
theorem ZbE : FnScope ["_law_top", "_law_bottom", "_law_one", "_law_other"] ["_law_top", "_law_bottom"] (Zg ZaA) := ⟨rfl, rfl, rfl, by decide +kernel, rfl, by decide +kernel, by decide +kernel⟩
theorem Zez {f : Addr} {fd : FuncData} (F : Fun K "_law_ratio" "_law_ratio" ZaA f fd) (T : Txt K mg) : FnOk P w K mg base (CXE P w) 101 f fd ["_law_top", "_law_bottom"] (spD K F_law_ratio) :=
  Z4 F ZbE rfl rfl fun cdv A outer s H E hr θ => (Zi (ZcT 2 3 (Zz hr (by decide)) ZbE.nd (Za (Zo ZbG Zdl T.b_abs Zdn (Za (Zc 0) Zf)) (Za (Zc 1) Zf)))
    (Zi (Zfs θ.own (ZS ZhW Zh6 (Zc 3) Ze) (Zk (ZcT 2 3 (Zz hr (by decide)) ZbE.nd (Za (Zc 3) (Za (ZaT (Zc 2) (Zc 3)) Zf)))))
    (Zk (Zv (ZJ (Za (ZcB (Zc 0) (Zc 2)) (Za (ZcB (Zc 1) (Zc 2)) Zf)))))))
noncomputable abbrev Zai : Stmt := top 42
noncomputable def ZbQ : Sv := (ZM (ZX (iSq (Zd 0)) 1 [1] (gNm 0) (fun _ M => .ok true M) (Zh (ZcZ List.max?) (Zb (ZX (iSq (Zd 1)) 2 [0] (gTp (gCs (gNm 0) (gCs (gNm 1) gNl))) (fun _ M => .ok true M) (e2 dSub (e2 dSub (eC (.int 0)) (e2 dMul (Zd 0) (e2 dIx (Zd 2) (eC (.int 0))))) (e2 dMul (Zd 1) (e2 dIx (Zd 2) (eC (.int 1)))))) aNil))))
noncomputable def F_law_hull : List D → Sto → Out D := fnF ZbQ 2 0
theorem Zfb : FnScope ["_law_rays", "_law_points_here"] ["_law_rays", "_law_points_here"] (Zg Zai) := ⟨rfl, rfl, rfl, by decide +kernel, rfl, by decide +kernel, by decide +kernel⟩
theorem Zfc {f : Addr} {fd : FuncData} (F : Fun K "_law_hull" "_law_hull" Zai f fd) (T : Txt K mg) : FnOk P w K mg base (CXE P w) 101 f fd ["_law_rays", "_law_points_here"] (spD K F_law_hull) :=
  Z4 F Zfb rfl rfl fun cdv A outer s H E hr θ => (Zk (Zv (Zfw (Zmd (XN := ["_law_rays", "_law_points_here"]) (dn := (Zg Zai).names) (N := ["_law_ray", "_law_points_here"]) (k := 1) (fr := [1]) rfl rfl rfl rfl (by decide +kernel)) (Zby (Zc 0)) (fun _ _ _ _ => (Zn 0 (show List.Nodup (["_law_ray", "_law_points_here"] : List Str) by decide +kernel))) (fun _ _ _ _ => (Or.inl ⟨rfl, rfl⟩)) (fun B1 _ _ _ _ => (Zo (ZcY (Zz hr (by decide))) ZeQ T.b_max Zeh (Za (Zbn (Zme (dn := (Zg Zai).names) (N := ["_law_x", "_law_y", "_law_ray"]) (k := 2) (fr := [0]) B1 rfl rfl rfl (by decide +kernel)) (Zby (Zc 1)) (fun _ _ _ _ => (ZaG (Zz hr (by decide)) (Zq (Zn 0 (show List.Nodup (["_law_x", "_law_y", "_law_ray"] : List Str) by decide +kernel)) (Zq (Zn 1 (show List.Nodup (["_law_x", "_law_y", "_law_ray"] : List Str) by decide +kernel)) Z5)) (hlen := (Zw (Zw (fun _ _ _ h => Z6 h)))))) (fun _ _ _ _ => (Or.inl ⟨rfl, rfl⟩)) (fun _ _ _ _ => (ZY (ZY Ze (ZA (Zc 0) (Zl (Zc 2) Ze))) (ZA (Zc 1) (Zl (Zc 2) Ze))))) Zf))))))
noncomputable abbrev Zaj : Stmt := top 43
noncomputable def Zar : Sv := (Zbe (ZeM mApp (Zd 2) (Zb (Zal (Zb (e2 dSub (Zh F_law_take (Zb (Zd 0) (Zb (eC (.int 7)) aNil))) (eC (.int 3))) (Zb (e2 dSub (Zh F_law_take (Zb (Zd 0) (Zb (eC (.int 7)) aNil))) (eC (.int 3))) aNil))) aNil)))
noncomputable def Za5 : Sv := (Zu (ZH (gNm 2) (Zbb aNil))
  (Zu (ZaV (gNm 3) (Zb (e2 dAdd (eC (.int 1)) (Zh F_law_take (Zb (Zd 0) (Zb (Zd 1) aNil)))) aNil) Zar)
  (ZM (Zd 2))))
noncomputable def F_law_points : List D → Sto → Out D := fnF Za5 2 2
theorem Zbu : FnScope ["_law_purse_here", "_law_most", "_law_found", "_law_turn"] ["_law_purse_here", "_law_most"] (Zg Zaj) := ⟨rfl, rfl, rfl, by decide +kernel, rfl, by decide +kernel, by decide +kernel⟩
theorem ZdX {f : Addr} {fd : FuncData} (F : Fun K "_law_points" "_law_points" Zaj f fd) (T : Txt K mg) (C_law_take : Cal P w K mg base "_law_take" 1 2 F_law_take) : FnOk P w K mg base (CXE P w) 2 f fd ["_law_purse_here", "_law_most"] (spD K F_law_points) :=
  Z4 F Zbu rfl rfl fun cdv A outer s H E hr θ => (Zi (Zy 2 Zbu.nd (Zam Zf))
    (Zi (Zbm θ.own T.b_range (Za (ZL Ze (Zj C_law_take θ (hr.mono (by decide)) (Za (Zc 0) (Za (Zc 1) Zf)))) Zf) (Zn 3 Zbu.nd) (Zk (Zbl (Zbf (Zc 2) (ZJ (Za (ZY (Zj C_law_take θ (hr.mono (by decide)) (Za (Zc 0) (Za Ze Zf))) Ze) (Za (ZY (Zj C_law_take θ (hr.mono (by decide)) (Za (Zc 0) (Za Ze Zf))) Ze) Zf)))))))
    (Zk (Zv (Zc 2)))))
noncomputable abbrev ZaB : Stmt := top 44
noncomputable def ZaD : Sv := (Zu (Zda 4 5 (Zb (e2 dIx (Zd 0) (e2 dSub (Zd 3) (eC (.int 1)))) (Zb (e2 dIx (Zd 0) (e2 dMod (e2 dAdd (Zd 3) (eC (.int 1))) (Zh bLen (Zb (Zd 0) aNil)))) aNil)))
  (Zu (ZH (gNm 6) (e2 dSub (eC (.int 0)) (e2 dSub (e2 dMul (e2 dIx (Zd 4) (eC (.int 0))) (e2 dIx (Zd 5) (eC (.int 1)))) (e2 dMul (e2 dIx (Zd 4) (eC (.int 1))) (e2 dIx (Zd 5) (eC (.int 0)))))))
  (Zu (ZH (gNm 7) (e2 dAdd (e2 dIx (Zd 1) (e2 dSub (Zd 3) (eC (.int 1)))) (e2 dIx (Zd 1) (e2 dMod (e2 dAdd (Zd 3) (eC (.int 1))) (Zh bLen (Zb (Zd 0) aNil))))))
  (Zbe (ZeM mApp (Zd 2) (Zb (e2 dAdd (Zd 7) (e2 dMul (Zd 6) (e2 dIx (Zd 1) (Zd 3)))) aNil))))))
noncomputable def Zbr : Sv := (Zu (ZH (gNm 2) (Zbb aNil))
  (Zu (ZaV (gNm 3) (Zb (Zh bLen (Zb (Zd 0) aNil)) aNil) ZaD)
  (ZM (Zd 2))))
noncomputable def F_law_bends : List D → Sto → Out D := fnF Zbr 2 6
theorem Zak : FnScope ["_law_rays", "_law_heights", "_law_found", "_law_k", "_law_ahead", "_law_behind", "_law_number", "_law_beside"] ["_law_rays", "_law_heights"] (Zg ZaB) := ⟨rfl, rfl, rfl, by decide +kernel, rfl, by decide +kernel, by decide +kernel⟩
theorem ZeA {f : Addr} {fd : FuncData} (F : Fun K "_law_bends" "_law_bends" ZaB f fd) (T : Txt K mg) : FnOk P w K mg base (CXE P w) 101 f fd ["_law_rays", "_law_heights"] (spD K F_law_bends) :=
  Z4 F Zak rfl rfl fun cdv A outer s H E hr θ => (Zi (Zy 2 Zak.nd (Zam Zf))
    (Zi (Zbm θ.own T.b_range (Za (Zo Zm Z8 T.b_len PySem.boot_len (Za (Zc 0) Zf)) Zf) (Zn 3 Zak.nd) (Zi (ZcT 4 5 (Zz hr (by decide)) Zak.nd (Za (Zl (Zc 0) (ZY (Zc 3) Ze)) (Za (Zl (Zc 0) (ZaT (ZL (Zc 3) Ze) (Zo Zm Z8 T.b_len PySem.boot_len (Za (Zc 0) Zf)))) Zf)))
    (Zi (Zy 6 Zak.nd (ZY Ze (ZY (ZA (Zl (Zc 4) Ze) (Zl (Zc 5) Ze)) (ZA (Zl (Zc 4) Ze) (Zl (Zc 5) Ze)))))
    (Zi (Zy 7 Zak.nd (ZL (Zl (Zc 1) (ZY (Zc 3) Ze)) (Zl (Zc 1) (ZaT (ZL (Zc 3) Ze) (Zo Zm Z8 T.b_len PySem.boot_len (Za (Zc 0) Zf))))))
    (Zk (Zbl (Zbf (Zc 2) (ZL (Zc 7) (ZA (Zc 6) (Zl (Zc 1) (Zc 3)))))))))))
    (Zk (Zv (Zc 2)))))
noncomputable abbrev ZV : Stmt := top 45
noncomputable def ZbZ : Sv := (Zu (sIf (Zfl (Zcc (tv (Zf9 "tuple" (Zd 0)))) (Zfl (tv (e2 dNe (Zh bLen (Zb (Zd 0) aNil)) (eC (.int 2)))) (Zfl (tv (e2 dLt (e2 dIx (Zd 0) (eC (.int 1))) (eC (.int 1)))) (tv (Zf9 "bool" (e2 dIx (Zd 0) (eC (.int 0)))))))) (ZM (eC (.bl false))) sNil)
  (ZM (e2 dEq (Zd 0) (Zh F_law_ratio (Zb (e2 dIx (Zd 0) (eC (.int 0))) (Zb (e2 dIx (Zd 0) (eC (.int 1))) aNil))))))
noncomputable def F_law_is_ratio : List D → Sto → Out D := fnF ZbZ 1 0
theorem Zc8 : FnScope ["_law_one"] ["_law_one"] (Zg ZV) := ⟨rfl, rfl, rfl, by decide +kernel, rfl, by decide +kernel, by decide +kernel⟩
theorem Zc9 {f : Addr} {fd : FuncData} (F : Fun K "_law_is_ratio" "_law_is_ratio" ZV f fd) (T : Txt K mg) (C_law_ratio : Cal P w K mg base "_law_ratio" 101 2 F_law_ratio) : FnOk P w K mg base (CXE P w) 102 f fd ["_law_one"] (spD K F_law_is_ratio) :=
  Z4 F Zc8 rfl rfl fun cdv A outer s H E hr θ => (Zi (ZaI (Zj4 (Zdy (ZcS (ZbX (Zdm Zeb T.b_isinstance T.b_tuple Zfu (Zc 0)))) (Zdy (ZS (Zbc hr.units) Zco (Zo Zm Z8 T.b_len PySem.boot_len (Za (Zc 0) Zf)) Ze) (Zdy (ZS ZeF ZeJ (Zl (Zc 0) Ze) Ze) (Zdj (ZbX (Zdm Zfp T.b_isinstance T.b_bool ZgO (Zl (Zc 0) Ze)))))))) (Zk (Zv ZcR)) ZI)
    (Zk (Zv (Zdi (Zdk hr.units) ZfS (Zc 0) (Zj C_law_ratio θ (hr.mono (by decide)) (Za (Zl (Zc 0) Ze) (Za (Zl (Zc 0) Ze) Zf)))))))
noncomputable abbrev ZaS : Stmt := top 46
noncomputable def Zck : Sv := (Zu (sIf (Zfl (Zcc (tv (Zf9 "tuple" (Zd 5)))) (Zfl (tv (e2 dNe (Zh bLen (Zb (Zd 5) aNil)) (eC (.int 2)))) (Zcc (tv (Zh bAll (Zb (ZX (iSq (Zd 5)) 1 [] (gNm 0) (fun _ M => .ok true M) (Zh F_law_is_ratio (Zb (Zd 0) aNil))) aNil)))))) (ZM (eC (.bl false))) sNil)
  (Zu (sIf (Zfl (tv (e2 dNe (e2 dMod (Zd 2) (e2 dIx (e2 dIx (Zd 5) (eC (.int 0))) (eC (.int 1)))) (eC (.int 0)))) (tv (e2 dNe (e2 dMod (Zd 2) (e2 dIx (e2 dIx (Zd 5) (eC (.int 1))) (eC (.int 1)))) (eC (.int 0))))) (ZM (eC (.bl false))) sNil)
  (Zu (ZH (gTp (gCs (gNm 6) (gCs (gNm 7) gNl))) (Zd 5))
  (Zbe (ZeM mApp (Zd 4) (Zb (Zal (Zb (e2 dDiv (e2 dMul (e2 dIx (Zd 6) (eC (.int 0))) (Zd 2)) (e2 dIx (Zd 6) (eC (.int 1)))) (Zb (e2 dDiv (e2 dMul (e2 dIx (Zd 7) (eC (.int 0))) (Zd 2)) (e2 dIx (Zd 7) (eC (.int 1)))) aNil))) aNil))))))
noncomputable def Zcl : Sv := (Zu (ZH (gNm 10) (e2 dMod (e2 dAdd (Zd 9) (eC (.int 1))) (Zh bLen (Zb (Zd 0) aNil))))
  (Zu (ZH (gTp (gCs (gNm 11) (gCs (gNm 12) gNl))) (e2 dIx (Zd 0) (Zd 9)))
  (Zu (ZH (gTp (gCs (gNm 13) (gCs (gNm 14) gNl))) (e2 dIx (Zd 0) (Zd 10)))
  (Zu (Zda 15 16 (Zb (e2 dIx (Zd 4) (Zd 9)) (Zb (e2 dIx (Zd 4) (e2 dSub (Zd 9) (eC (.int 1)))) aNil)))
  (Zu (sIf (Zfl (tv (e2 dNe (e2 dAdd (e2 dMul (e2 dIx (Zd 15) (eC (.int 0))) (Zd 11)) (e2 dMul (e2 dIx (Zd 15) (eC (.int 1))) (Zd 12))) (e2 dSub (eC (.int 0)) (e2 dIx (Zd 1) (Zd 9))))) (tv (e2 dNe (e2 dAdd (e2 dMul (e2 dIx (Zd 15) (eC (.int 0))) (Zd 13)) (e2 dMul (e2 dIx (Zd 15) (eC (.int 1))) (Zd 14))) (e2 dSub (eC (.int 0)) (e2 dIx (Zd 1) (Zd 10)))))) (ZM (eC (.bl false))) sNil)
  (sIf (tv (e2 dNe (Zal (Zb (e2 dSub (e2 dIx (Zd 15) (eC (.int 0))) (e2 dIx (Zd 16) (eC (.int 0)))) (Zb (e2 dSub (e2 dIx (Zd 15) (eC (.int 1))) (e2 dIx (Zd 16) (eC (.int 1)))) aNil))) (Zal (Zb (e2 dMul (e2 dIx (Zd 8) (Zd 9)) (Zd 12)) (Zb (e2 dSub (eC (.int 0)) (e2 dMul (e2 dIx (Zd 8) (Zd 9)) (Zd 11))) aNil))))) (ZM (eC (.bl false))) sNil))))))
noncomputable def Zdu : Sv := (Zu (sIf (Zfl (Zcc (tv (Zf9 "list" (Zd 3)))) (tv (e2 dNe (Zh bLen (Zb (Zd 3) aNil)) (Zh bLen (Zb (Zd 0) aNil))))) (ZM (eC (.bl false))) sNil)
  (Zu (ZH (gNm 4) (Zbb aNil))
  (Zu (Zk9 (gNm 5) (Zd 3) Zck)
  (Zu (ZH (gNm 8) (Zh F_law_bends (Zb (Zd 0) (Zb (Zd 1) aNil))))
  (Zu (ZaV (gNm 9) (Zb (Zh bLen (Zb (Zd 0) aNil)) aNil) Zcl)
  (ZM (eC (.bl true))))))))
noncomputable def F_law_good : List D → Sto → Out D := fnF Zdu 4 13
theorem ZB : FnScope ["_law_rays", "_law_units", "_law_parts", "_law_found", "_law_spots", "_law_point", "_law_first", "_law_second", "_law_inner", "_law_k", "_law_after", "_law_x", "_law_y", "_law_z", "_law_w", "_law_here", "_law_ahead"] ["_law_rays", "_law_units", "_law_parts", "_law_found"] (Zg ZaS) := ⟨rfl, rfl, rfl, by decide +kernel, rfl, by decide +kernel, by decide +kernel⟩
theorem Zfd {f : Addr} {fd : FuncData} (F : Fun K "_law_good" "_law_good" ZaS f fd) (T : Txt K mg) (C_law_is_ratio : Cal P w K mg base "_law_is_ratio" 102 1 F_law_is_ratio) (C_law_bends : Cal P w K mg base "_law_bends" 101 2 F_law_bends) : FnOk P w K mg base (CXE P w) 103 f fd ["_law_rays", "_law_units", "_law_parts", "_law_found"] (spD K F_law_good) :=
  Z4 F ZB rfl rfl fun cdv A outer s H E hr θ => (Zi (ZaI (Zj4 (Zdy (ZcS (ZbX (Zdm Zia T.b_isinstance T.b_list ZcU (Zc 3)))) (Zdj (ZS (Zbc hr.units) Zco (Zo Zm Z8 T.b_len PySem.boot_len (Za (Zc 3) Zf)) (Zo Zm Z8 T.b_len PySem.boot_len (Za (Zc 0) Zf)))))) (Zk (Zv ZcR)) ZI)
    (Zi (Zy 4 ZB.nd (Zam Zf))
    (Zi (Zjd θ.own (Zc 3) (Zn 5 ZB.nd) (Zi (ZaI (Zj4 (Zdy (ZcS (ZbX (Zdm Zeb T.b_isinstance T.b_tuple Zfu (Zc 5)))) (Zdy (ZS (Zbc hr.units) Zco (Zo Zm Z8 T.b_len PySem.boot_len (Za (Zc 5) Zf)) Ze) (Zdj (ZcS (ZbX (Zo (Zig (Zz hr (by decide))) Zma T.b_all Zl5 (Za (Zbn (Zla (N := ["_law_one"]) (k := 1) (by decide +kernel) rfl (by decide +kernel) rfl) (Zby (Zc 5)) (fun _ _ _ _ => (Zn 0 (show List.Nodup (["_law_one"] : List Str) by decide +kernel))) (fun _ _ _ _ => (Or.inl ⟨rfl, rfl⟩)) (fun _ _ _ _ => (Zj C_law_is_ratio Zb0 (hr.mono (by decide)) (Za (Zc 0) Zf)))) Zf)))))))) (Zk (Zv ZcR)) ZI)
    (Zi (ZaI (Zj4 (Zdy (ZS (Zbc hr.units) Zco (ZaT (Zc 2) (Zl (Zl (Zc 5) Ze) Ze)) Ze) (Zdj (ZS (Zbc hr.units) Zco (ZaT (Zc 2) (Zl (Zl (Zc 5) Ze) Ze)) Ze)))) (Zk (Zv ZcR)) ZI)
    (Zi (Zed (Zc 5) (ZaG (Zz hr (by decide)) (Zq (Zn 6 ZB.nd) (Zq (Zn 7 ZB.nd) Z5)) (hlen := (Zw (Zw (fun _ _ _ h => Z6 h))))))
    (Zk (Zbl (Zbf (Zc 4) (ZJ (Za (ZcB (ZA (Zl (Zc 6) Ze) (Zc 2)) (Zl (Zc 6) Ze)) (Za (ZcB (ZA (Zl (Zc 7) Ze) (Zc 2)) (Zl (Zc 7) Ze)) Zf))))))))))
    (Zi (Zy 8 ZB.nd (Zj C_law_bends θ (hr.mono (by decide)) (Za (Zc 0) (Za (Zc 1) Zf))))
    (Zi (Zbm θ.own T.b_range (Za (Zo Zm Z8 T.b_len PySem.boot_len (Za (Zc 0) Zf)) Zf) (Zn 9 ZB.nd) (Zi (Zy 10 ZB.nd (ZaT (ZL (Zc 9) Ze) (Zo Zm Z8 T.b_len PySem.boot_len (Za (Zc 0) Zf))))
    (Zi (Zed (Zl (Zc 0) (Zc 9)) (ZaG (Zz hr (by decide)) (Zq (Zn 11 ZB.nd) (Zq (Zn 12 ZB.nd) Z5)) (hlen := (Zw (Zw (fun _ _ _ h => Z6 h))))))
    (Zi (Zed (Zl (Zc 0) (Zc 10)) (ZaG (Zz hr (by decide)) (Zq (Zn 13 ZB.nd) (Zq (Zn 14 ZB.nd) Z5)) (hlen := (Zw (Zw (fun _ _ _ h => Z6 h))))))
    (Zi (ZcT 15 16 (Zz hr (by decide)) ZB.nd (Za (Zl (Zc 4) (Zc 9)) (Za (Zl (Zc 4) (ZY (Zc 9) Ze)) Zf)))
    (Zi (ZaI (Zj4 (Zdy (ZS (Zbc hr.units) Zco (ZL (ZA (Zl (Zc 15) Ze) (Zc 11)) (ZA (Zl (Zc 15) Ze) (Zc 12))) (ZY Ze (Zl (Zc 1) (Zc 9)))) (Zdj (ZS (Zbc hr.units) Zco (ZL (ZA (Zl (Zc 15) Ze) (Zc 13)) (ZA (Zl (Zc 15) Ze) (Zc 14))) (ZY Ze (Zl (Zc 1) (Zc 10))))))) (Zk (Zv ZcR)) ZI)
    (Zk (ZaI (ZS (Zbc hr.units) Zco (ZJ (Za (ZY (Zl (Zc 15) Ze) (Zl (Zc 16) Ze)) (Za (ZY (Zl (Zc 15) Ze) (Zl (Zc 16) Ze)) Zf))) (ZJ (Za (ZA (Zl (Zc 8) (Zc 9)) (Zc 12)) (Za (ZY Ze (ZA (Zl (Zc 8) (Zc 9)) (Zc 11))) Zf)))) (Zk (Zv ZcR)) ZI))))))))
    (Zk (Zv ZcR)))))))
noncomputable abbrev Zdf : Stmt := top 47
noncomputable def ZdY : Sv := (Zu (ZH (gNm 13) (Zh F_corners (Zb (e2 dIx (Zd 11) (eC (.int 0))) (Zb (e2 dIx (Zd 11) (eC (.int 1))) aNil))))
  (Zu (sIf (Zcc (tv (Zh F_law_good (Zb (Zd 7) (Zb (Zd 8) (Zb (Zd 9) (Zb (Zd 13) aNil))))))) (ZM (eC (.bl false))) sNil)
  (Zu (sIf (tv (e2 dNe (Zh F_height_of (Zb (e2 dIx (Zd 11) (eC (.int 0))) (Zb (Zh bList (Zb (Zd 13) aNil)) aNil))) (Zd 10))) (ZM (eC (.bl false))) sNil)
  (Zu (Zbe (ZeM mApp (Zd 13) (Zb (e2 dIx (Zd 13) (eC (.int 0))) aNil)))
  (sIf (tv (e2 dNe (Zd 11) (Zal (Zb (Zd 7) (Zb (Zd 10) aNil))))) (ZM (eC (.bl false))) sNil)))))
noncomputable def ZdZ : Sv := (Zu (ZH (gNm 2) (Zh F_law_purse (Zb (Zd 0) (Zb (Zd 1) aNil))))
  (Zu (ZH (gNm 3) (Zh F_law_base (Zb (Zd 2) (Zb (eC (.int 14)) aNil))))
  (Zu (ZH (gNm 4) (Zh F_law_hull (Zb (Zd 3) (Zb (Zh F_law_points (Zb (Zd 2) (Zb (eC (.int 5)) aNil))) aNil))))
  (Zu (ZH (gNm 5) (Zh F_law_table (Zb (Zd 2) aNil)))
  (Zu (ZH (gNm 6) (Zh F_law_take (Zb (Zd 2) (Zb (Zh bLen (Zb (Zd 3) aNil)) aNil))))
  (Zu (ZH (gTp (gCs (gNm 7) (gCs (gNm 8) gNl))) (Zh F_law_spun (Zb (Zd 5) (Zb (Zd 3) (Zb (Zd 4) (Zb (Zd 6) aNil))))))
  (Zu (ZH (gNm 9) (e2 dAdd (eC (.int 1)) (Zh F_law_take (Zb (Zd 2) (Zb (eC (.int 3)) aNil)))))
  (Zu (ZH (gNm 10) (ZX (iSq (Zd 8)) 1 [9] (gNm 0) (fun _ M => .ok true M) (Zh F_law_ratio (Zb (Zd 0) (Zb (Zd 1) aNil)))))
  (Zu (ZH (gNm 11) (Zal (Zb (Zh bList (Zb (Zd 7) aNil)) (Zb (Zh bList (Zb (Zd 10) aNil)) aNil))))
  (ZaV (gNm 12) (Zb (eC (.int 2)) aNil) ZdY))))))))))
noncomputable def ZnS : Sv := (Zu (ZaV (gNm 1) (Zb (Zh bMax (Zb (eC (.int 1)) (Zb (Zh bMin (Zb (eC (.int 2)) (Zb (Zh bLen (Zb (Zd 0) aNil)) aNil))) aNil))) aNil) ZdZ)
  (ZM (eC (.bl true))))
noncomputable def Zfe : List D → Sto → Out D := fnF ZnS 1 13
theorem Za8 : FnScope ["_law_script", "_law_k", "_law_purse_here", "_law_rays", "_law_units", "_law_table_here", "_law_at", "_law_led", "_law_owns", "_law_parts", "_law_height", "_law_handed", "_law_again", "_law_found"] ["_law_script"] (Zg Zdf) := ⟨rfl, rfl, rfl, by decide +kernel, rfl, by decide +kernel, by decide +kernel⟩
theorem ZnT {f : Addr} {fd : FuncData} (F : Fun K "law" "law" Zdf f fd) (T : Txt K mg) (C_law_purse : Cal P w K mg base "_law_purse" 1 2 F_law_purse) (C_law_base : Cal P w K mg base "_law_base" 101 2 F_law_base) (C_law_points : Cal P w K mg base "_law_points" 2 2 F_law_points) (C_law_hull : Cal P w K mg base "_law_hull" 101 2 F_law_hull) (C_law_table : Cal P w K mg base "_law_table" 101 1 F_law_table) (C_law_take : Cal P w K mg base "_law_take" 1 2 F_law_take) (C_law_spun : Cal P w K mg base "_law_spun" 101 4 F_law_spun) (C_law_ratio : Cal P w K mg base "_law_ratio" 101 2 F_law_ratio) (C_corners : Cal P w K mg base "corners" 106 2 F_corners) (C_law_good : Cal P w K mg base "_law_good" 103 4 F_law_good) (C_height_of : Cal P w K mg base "height_of" 105 2 F_height_of) : FnOk P w K mg base (CXE P w) 107 f fd ["_law_script"] (spD K Zfe) :=
  Z4 F Za8 rfl rfl fun cdv A outer s H E hr θ => (Zi (Zbm θ.own T.b_range (Za (Zo (Zd2 (Zz hr (by decide))) Zi8 T.b_max Zeh (Za Ze (Za (Zo (Zgn (Zz hr (by decide))) Zl0 T.b_min Zl4 (Za Ze (Za (Zo Zm Z8 T.b_len PySem.boot_len (Za (Zc 0) Zf)) Zf))) Zf))) Zf) (Zn 1 Za8.nd) (Zi (Zy 2 Za8.nd (Zj C_law_purse θ (hr.mono (by decide)) (Za (Zc 0) (Za (Zc 1) Zf))))
    (Zi (Zy 3 Za8.nd (Zj C_law_base θ (hr.mono (by decide)) (Za (Zc 2) (Za Ze Zf))))
    (Zi (Zy 4 Za8.nd (Zj C_law_hull θ (hr.mono (by decide)) (Za (Zc 3) (Za (Zj C_law_points θ (hr.mono (by decide)) (Za (Zc 2) (Za Ze Zf))) Zf))))
    (Zi (Zy 5 Za8.nd (Zj C_law_table θ (hr.mono (by decide)) (Za (Zc 2) Zf)))
    (Zi (Zy 6 Za8.nd (Zj C_law_take θ (hr.mono (by decide)) (Za (Zc 2) (Za (Zo Zm Z8 T.b_len PySem.boot_len (Za (Zc 3) Zf)) Zf))))
    (Zi (Zed (Zj C_law_spun θ (hr.mono (by decide)) (Za (Zc 5) (Za (Zc 3) (Za (Zc 4) (Za (Zc 6) Zf))))) (ZaG (Zz hr (by decide)) (Zq (Zn 7 Za8.nd) (Zq (Zn 8 Za8.nd) Z5)) (hlen := (Zw (Zw (fun _ _ _ h => Z6 h))))))
    (Zi (Zy 9 Za8.nd (ZL Ze (Zj C_law_take θ (hr.mono (by decide)) (Za (Zc 2) (Za Ze Zf)))))
    (Zi (Zg2 10 Za8.nd (Zox (XN := ["_law_script", "_law_k", "_law_purse_here", "_law_rays", "_law_units", "_law_table_here", "_law_at", "_law_led", "_law_owns", "_law_parts", "_law_height", "_law_handed", "_law_again", "_law_found"]) (dn := (Zg Zdf).names) (N := ["_law_own", "_law_parts"]) (k := 1) (fr := [9]) rfl rfl rfl rfl (by decide +kernel)) (Zby (Zc 8)) (fun _ _ _ _ => (Zn 0 (show List.Nodup (["_law_own", "_law_parts"] : List Str) by decide +kernel))) (fun _ _ _ _ => (Or.inl ⟨rfl, rfl⟩)) (fun _ _ _ _ => (Zj C_law_ratio Zb0 (hr.mono (by decide)) (Za (Zc 0) (Za (Zc 1) Zf)))))
    (Zi (Zy 11 Za8.nd (ZJ (Za (ZaU Zbx ZeK T.b_list ZcU (Za (Zc 7) Zf)) (Za (ZaU Zbx ZeK T.b_list ZcU (Za (Zc 10) Zf)) Zf))))
    (Zk (Zbm θ.own T.b_range (Za Ze Zf) (Zn 12 Za8.nd) (Zi (Zy 13 Za8.nd (Zj C_corners θ (hr.mono (by decide)) (Za (Zl (Zc 11) Ze) (Za (Zl (Zc 11) Ze) Zf))))
    (Zi (ZaI (ZcS (ZbX (Zj C_law_good θ (hr.mono (by decide)) (Za (Zc 7) (Za (Zc 8) (Za (Zc 9) (Za (Zc 13) Zf))))))) (Zk (Zv ZcR)) ZI)
    (Zi (ZaI (ZS (Zbc hr.units) Zco (Zj C_height_of θ (hr.mono (by decide)) (Za (Zl (Zc 11) Ze) (Za (ZaU Zbx ZeK T.b_list ZcU (Za (Zc 13) Zf)) Zf))) (Zc 10)) (Zk (Zv ZcR)) ZI)
    (Zi (Zbl (Zbf (Zc 13) (Zl (Zc 13) Ze)))
    (Zk (ZaI (ZS (Zbc hr.units) Zco (Zc 11) (ZJ (Za (Zc 7) (Za (Zc 10) Zf)))) (Zk (Zv ZcR)) ZI))))))))))))))))))
    (Zk (Zv ZcR)))
end
theorem ZnU {l : PySem.W.OpenLaw} {w : World} {K : PySem.W.Frag} {h : Heap} {mg : Str → Option Value} {fa f1 f2 f3 f4 f5 f6 f7 f8 f9 f10 f11 f12 f13 f14 f15 f16 f17 f18 f19 f20 f21 f22 f23 f24 f25 f26 f27 f28 f29 f30 f31 f32 f33 f34 : Addr} (X : K.In h) (G : h.Ns mainGlobals mg) (hfa : mg "law" = some (.ref fa))
    {od1 an1 od2 an2 od3 an3 od4 an4 od5 an5 od6 an6 od7 an7 od8 an8 od9 an9 od10 an10 od11 an11 od12 an12 od13 an13 od14 an14 od15 an15 od16 an16 od17 an17 od18 an18 od19 an19 od20 an20 od21 an21 od22 an22 od23 an23 od24 an24 od25 an25 od26 an26 od27 an27 od28 an28 od29 an29 od30 an30 od31 an31 od32 an32 od33 an33 od34 an34 : Option Addr} {sl1 sl2 sl3 sl4 sl5 sl6 sl7 sl8 sl9 sl10 sl11 sl12 sl13 sl14 sl15 sl16 sl17 sl18 sl19 sl20 sl21 sl22 sl23 sl24 sl25 sl26 sl27 sl28 sl29 sl30 sl31 sl32 sl33 sl34 : Array (Option Value)} {oc1 kV1 dc1 pm1 cd1 ct1 oc2 kV2 dc2 pm2 cd2 ct2 oc3 kV3 dc3 pm3 cd3 ct3 oc4 kV4 dc4 pm4 cd4 ct4 oc5 kV5 dc5 pm5 cd5 ct5 oc6 kV6 dc6 pm6 cd6 ct6 oc7 kV7 dc7 pm7 cd7 ct7 oc8 kV8 dc8 pm8 cd8 ct8 oc9 kV9 dc9 pm9 cd9 ct9 oc10 kV10 dc10 pm10 cd10 ct10 oc11 kV11 dc11 pm11 cd11 ct11 oc12 kV12 dc12 pm12 cd12 ct12 oc13 kV13 dc13 pm13 cd13 ct13 oc14 kV14 dc14 pm14 cd14 ct14 oc15 kV15 dc15 pm15 cd15 ct15 oc16 kV16 dc16 pm16 cd16 ct16 oc17 kV17 dc17 pm17 cd17 ct17 oc18 kV18 dc18 pm18 cd18 ct18 oc19 kV19 dc19 pm19 cd19 ct19 oc20 kV20 dc20 pm20 cd20 ct20 oc21 kV21 dc21 pm21 cd21 ct21 oc22 kV22 dc22 pm22 cd22 ct22 oc23 kV23 dc23 pm23 cd23 ct23 oc24 kV24 dc24 pm24 cd24 ct24 oc25 kV25 dc25 pm25 cd25 ct25 oc26 kV26 dc26 pm26 cd26 ct26 oc27 kV27 dc27 pm27 cd27 ct27 oc28 kV28 dc28 pm28 cd28 ct28 oc29 kV29 dc29 pm29 cd29 ct29 oc30 kV30 dc30 pm30 cd30 ct30 oc31 kV31 dc31 pm31 cd31 ct31 oc32 kV32 dc32 pm32 cd32 ct32 oc33 kV33 dc33 pm33 cd33 ct33 oc34 kV34 dc34 pm34 cd34 ct34 : Value}
    (a1 : PySem.W.nsIn K mainGlobals "is_whole" = some (some (.ref f1))) (l1 : K.lookup f1 = some ⟨oc1, od1, .func (PySem.W.fnOf "is_whole" "is_whole" (Zr ZaN) (Zp ZaN) (Zg ZaN) .none kV1 dc1 pm1 an1 cd1 ct1), sl1⟩) (c1 : PySem.W.codeIn K cd1 "is_whole" = true) (k1 : PySem.W.keepIn K (.ref f1) = true)
    (a2 : PySem.W.nsIn K mainGlobals "greatest_divisor" = some (some (.ref f2))) (l2 : K.lookup f2 = some ⟨oc2, od2, .func (PySem.W.fnOf "greatest_divisor" "greatest_divisor" (Zr ZE) (Zp ZE) (Zg ZE) .none kV2 dc2 pm2 an2 cd2 ct2), sl2⟩) (c2 : PySem.W.codeIn K cd2 "greatest_divisor" = true) (k2 : PySem.W.keepIn K (.ref f2) = true)
    (a3 : PySem.W.nsIn K mainGlobals "crossed" = some (some (.ref f3))) (l3 : K.lookup f3 = some ⟨oc3, od3, .func (PySem.W.fnOf "crossed" "crossed" (Zr Zbi) (Zp Zbi) (Zg Zbi) .none kV3 dc3 pm3 an3 cd3 ct3), sl3⟩) (c3 : PySem.W.codeIn K cd3 "crossed" = true) (k3 : PySem.W.keepIn K (.ref f3) = true)
    (a4 : PySem.W.nsIn K mainGlobals "following" = some (some (.ref f4))) (l4 : K.lookup f4 = some ⟨oc4, od4, .func (PySem.W.fnOf "following" "following" (Zr Zav) (Zp Zav) (Zg Zav) .none kV4 dc4 pm4 an4 cd4 ct4), sl4⟩) (c4 : PySem.W.codeIn K cd4 "following" = true) (k4 : PySem.W.keepIn K (.ref f4) = true)
    (a5 : PySem.W.nsIn K mainGlobals "unspanned" = some (some (.ref f5))) (l5 : K.lookup f5 = some ⟨oc5, od5, .func (PySem.W.fnOf "unspanned" "unspanned" (Zr Zaw) (Zp Zaw) (Zg Zaw) .none kV5 dc5 pm5 an5 cd5 ct5), sl5⟩) (c5 : PySem.W.codeIn K cd5 "unspanned" = true) (k5 : PySem.W.keepIn K (.ref f5) = true)
    (a6 : PySem.W.nsIn K mainGlobals "ask_smooth" = some (some (.ref f6))) (l6 : K.lookup f6 = some ⟨oc6, od6, .func (PySem.W.fnOf "ask_smooth" "ask_smooth" (Zr Zag) (Zp Zag) (Zg Zag) .none kV6 dc6 pm6 an6 cd6 ct6), sl6⟩) (c6 : PySem.W.codeIn K cd6 "ask_smooth" = true) (k6 : PySem.W.keepIn K (.ref f6) = true)
    (a7 : PySem.W.nsIn K mainGlobals "numbers" = some (some (.ref f7))) (l7 : K.lookup f7 = some ⟨oc7, od7, .func (PySem.W.fnOf "numbers" "numbers" (Zr Za0) (Zp Za0) (Zg Za0) .none kV7 dc7 pm7 an7 cd7 ct7), sl7⟩) (c7 : PySem.W.codeIn K cd7 "numbers" = true) (k7 : PySem.W.keepIn K (.ref f7) = true)
    (a8 : PySem.W.nsIn K mainGlobals "ratio" = some (some (.ref f8))) (l8 : K.lookup f8 = some ⟨oc8, od8, .func (PySem.W.fnOf "ratio" "ratio" (Zr Zcu) (Zp Zcu) (Zg Zcu) .none kV8 dc8 pm8 an8 cd8 ct8), sl8⟩) (c8 : PySem.W.codeIn K cd8 "ratio" = true) (k8 : PySem.W.keepIn K (.ref f8) = true)
    (a9 : PySem.W.nsIn K mainGlobals "plus" = some (some (.ref f9))) (l9 : K.lookup f9 = some ⟨oc9, od9, .func (PySem.W.fnOf "plus" "plus" (Zr Zds) (Zp Zds) (Zg Zds) .none kV9 dc9 pm9 an9 cd9 ct9), sl9⟩) (c9 : PySem.W.codeIn K cd9 "plus" = true) (k9 : PySem.W.keepIn K (.ref f9) = true)
    (a10 : PySem.W.nsIn K mainGlobals "minus" = some (some (.ref f10))) (l10 : K.lookup f10 = some ⟨oc10, od10, .func (PySem.W.fnOf "minus" "minus" (Zr Zcv) (Zp Zcv) (Zg Zcv) .none kV10 dc10 pm10 an10 cd10 ct10), sl10⟩) (c10 : PySem.W.codeIn K cd10 "minus" = true) (k10 : PySem.W.keepIn K (.ref f10) = true)
    (a11 : PySem.W.nsIn K mainGlobals "times" = some (some (.ref f11))) (l11 : K.lookup f11 = some ⟨oc11, od11, .func (PySem.W.fnOf "times" "times" (Zr Zcw) (Zp Zcw) (Zg Zcw) .none kV11 dc11 pm11 an11 cd11 ct11), sl11⟩) (c11 : PySem.W.codeIn K cd11 "times" = true) (k11 : PySem.W.keepIn K (.ref f11) = true)
    (a12 : PySem.W.nsIn K mainGlobals "less" = some (some (.ref f12))) (l12 : K.lookup f12 = some ⟨oc12, od12, .func (PySem.W.fnOf "less" "less" (Zr Zdt) (Zp Zdt) (Zg Zdt) .none kV12 dc12 pm12 an12 cd12 ct12), sl12⟩) (c12 : PySem.W.codeIn K cd12 "less" = true) (k12 : PySem.W.keepIn K (.ref f12) = true)
    (a13 : PySem.W.nsIn K mainGlobals "greatest" = some (some (.ref f13))) (l13 : K.lookup f13 = some ⟨oc13, od13, .func (PySem.W.fnOf "greatest" "greatest" (Zr ZaO) (Zp ZaO) (Zg ZaO) .none kV13 dc13 pm13 an13 cd13 ct13), sl13⟩) (c13 : PySem.W.codeIn K cd13 "greatest" = true) (k13 : PySem.W.keepIn K (.ref f13) = true)
    (a14 : PySem.W.nsIn K mainGlobals "ask_height" = some (some (.ref f14))) (l14 : K.lookup f14 = some ⟨oc14, od14, .func (PySem.W.fnOf "ask_height" "ask_height" (Zr Zah) (Zp Zah) (Zg Zah) .none kV14 dc14 pm14 an14 cd14 ct14), sl14⟩) (c14 : PySem.W.codeIn K cd14 "ask_height" = true) (k14 : PySem.W.keepIn K (.ref f14) = true)
    (a15 : PySem.W.nsIn K mainGlobals "bends" = some (some (.ref f15))) (l15 : K.lookup f15 = some ⟨oc15, od15, .func (PySem.W.fnOf "bends" "bends" (Zr Zcx) (Zp Zcx) (Zg Zcx) .none kV15 dc15 pm15 an15 cd15 ct15), sl15⟩) (c15 : PySem.W.codeIn K cd15 "bends" = true) (k15 : PySem.W.keepIn K (.ref f15) = true)
    (a16 : PySem.W.nsIn K mainGlobals "sloped" = some (some (.ref f16))) (l16 : K.lookup f16 = some ⟨oc16, od16, .func (PySem.W.fnOf "sloped" "sloped" (Zr ZbS) (Zp ZbS) (Zg ZbS) .none kV16 dc16 pm16 an16 cd16 ct16), sl16⟩) (c16 : PySem.W.codeIn K cd16 "sloped" = true) (k16 : PySem.W.keepIn K (.ref f16) = true)
    (a17 : PySem.W.nsIn K mainGlobals "slope_through" = some (some (.ref f17))) (l17 : K.lookup f17 = some ⟨oc17, od17, .func (PySem.W.fnOf "slope_through" "slope_through" (Zr ZO) (Zp ZO) (Zg ZO) .none kV17 dc17 pm17 an17 cd17 ct17), sl17⟩) (c17 : PySem.W.codeIn K cd17 "slope_through" = true) (k17 : PySem.W.keepIn K (.ref f17) = true)
    (a18 : PySem.W.nsIn K mainGlobals "bends_inwards" = some (some (.ref f18))) (l18 : K.lookup f18 = some ⟨oc18, od18, .func (PySem.W.fnOf "bends_inwards" "bends_inwards" (Zr ZP) (Zp ZP) (Zg ZP) .none kV18 dc18 pm18 an18 cd18 ct18), sl18⟩) (c18 : PySem.W.codeIn K cd18 "bends_inwards" = true) (k18 : PySem.W.keepIn K (.ref f18) = true)
    (a19 : PySem.W.nsIn K mainGlobals "contrary" = some (some (.ref f19))) (l19 : K.lookup f19 = some ⟨oc19, od19, .func (PySem.W.fnOf "contrary" "contrary" (Zr ZaP) (Zp ZaP) (Zg ZaP) .none kV19 dc19 pm19 an19 cd19 ct19), sl19⟩) (c19 : PySem.W.codeIn K cd19 "contrary" = true) (k19 : PySem.W.keepIn K (.ref f19) = true)
    (a20 : PySem.W.nsIn K mainGlobals "corners" = some (some (.ref f20))) (l20 : K.lookup f20 = some ⟨oc20, od20, .func (PySem.W.fnOf "corners" "corners" (Zr Zbj) (Zp Zbj) (Zg Zbj) .none kV20 dc20 pm20 an20 cd20 ct20), sl20⟩) (c20 : PySem.W.codeIn K cd20 "corners" = true) (k20 : PySem.W.keepIn K (.ref f20) = true)
    (a21 : PySem.W.nsIn K mainGlobals "height_of" = some (some (.ref f21))) (l21 : K.lookup f21 = some ⟨oc21, od21, .func (PySem.W.fnOf "height_of" "height_of" (Zr Z1) (Zp Z1) (Zg Z1) .none kV21 dc21 pm21 an21 cd21 ct21), sl21⟩) (c21 : PySem.W.codeIn K cd21 "height_of" = true) (k21 : PySem.W.keepIn K (.ref f21) = true)
    (a22 : PySem.W.nsIn K mainGlobals "_law_purse" = some (some (.ref f22))) (l22 : K.lookup f22 = some ⟨oc22, od22, .func (PySem.W.fnOf "_law_purse" "_law_purse" (Zr Zax) (Zp Zax) (Zg Zax) .none kV22 dc22 pm22 an22 cd22 ct22), sl22⟩) (c22 : PySem.W.codeIn K cd22 "_law_purse" = true) (k22 : PySem.W.keepIn K (.ref f22) = true)
    (a23 : PySem.W.nsIn K mainGlobals "_law_take" = some (some (.ref f23))) (l23 : K.lookup f23 = some ⟨oc23, od23, .func (PySem.W.fnOf "_law_take" "_law_take" (Zr ZaQ) (Zp ZaQ) (Zg ZaQ) .none kV23 dc23 pm23 an23 cd23 ct23), sl23⟩) (c23 : PySem.W.codeIn K cd23 "_law_take" = true) (k23 : PySem.W.keepIn K (.ref f23) = true)
    (a24 : PySem.W.nsIn K mainGlobals "_law_short_put" = some (some (.ref f24))) (l24 : K.lookup f24 = some ⟨oc24, od24, .func (PySem.W.fnOf "_law_short_put" "_law_short_put" (Zr ZQ) (Zp ZQ) (Zg ZQ) .none kV24 dc24 pm24 an24 cd24 ct24), sl24⟩) (c24 : PySem.W.codeIn K cd24 "_law_short_put" = true) (k24 : PySem.W.keepIn K (.ref f24) = true)
    (a25 : PySem.W.nsIn K mainGlobals "_law_base" = some (some (.ref f25))) (l25 : K.lookup f25 = some ⟨oc25, od25, .func (PySem.W.fnOf "_law_base" "_law_base" (Zr ZaR) (Zp ZaR) (Zg ZaR) .none kV25 dc25 pm25 an25 cd25 ct25), sl25⟩) (c25 : PySem.W.codeIn K cd25 "_law_base" = true) (k25 : PySem.W.keepIn K (.ref f25) = true)
    (a26 : PySem.W.nsIn K mainGlobals "_law_table" = some (some (.ref f26))) (l26 : K.lookup f26 = some ⟨oc26, od26, .func (PySem.W.fnOf "_law_table" "_law_table" (Zr Zay) (Zp Zay) (Zg Zay) .none kV26 dc26 pm26 an26 cd26 ct26), sl26⟩) (c26 : PySem.W.codeIn K cd26 "_law_table" = true) (k26 : PySem.W.keepIn K (.ref f26) = true)
    (a27 : PySem.W.nsIn K mainGlobals "_law_spun" = some (some (.ref f27))) (l27 : K.lookup f27 = some ⟨oc27, od27, .func (PySem.W.fnOf "_law_spun" "_law_spun" (Zr Zaz) (Zp Zaz) (Zg Zaz) .none kV27 dc27 pm27 an27 cd27 ct27), sl27⟩) (c27 : PySem.W.codeIn K cd27 "_law_spun" = true) (k27 : PySem.W.keepIn K (.ref f27) = true)
    (a28 : PySem.W.nsIn K mainGlobals "_law_ratio" = some (some (.ref f28))) (l28 : K.lookup f28 = some ⟨oc28, od28, .func (PySem.W.fnOf "_law_ratio" "_law_ratio" (Zr ZaA) (Zp ZaA) (Zg ZaA) .none kV28 dc28 pm28 an28 cd28 ct28), sl28⟩) (c28 : PySem.W.codeIn K cd28 "_law_ratio" = true) (k28 : PySem.W.keepIn K (.ref f28) = true)
    (a29 : PySem.W.nsIn K mainGlobals "_law_hull" = some (some (.ref f29))) (l29 : K.lookup f29 = some ⟨oc29, od29, .func (PySem.W.fnOf "_law_hull" "_law_hull" (Zr Zai) (Zp Zai) (Zg Zai) .none kV29 dc29 pm29 an29 cd29 ct29), sl29⟩) (c29 : PySem.W.codeIn K cd29 "_law_hull" = true) (k29 : PySem.W.keepIn K (.ref f29) = true)
    (a30 : PySem.W.nsIn K mainGlobals "_law_points" = some (some (.ref f30))) (l30 : K.lookup f30 = some ⟨oc30, od30, .func (PySem.W.fnOf "_law_points" "_law_points" (Zr Zaj) (Zp Zaj) (Zg Zaj) .none kV30 dc30 pm30 an30 cd30 ct30), sl30⟩) (c30 : PySem.W.codeIn K cd30 "_law_points" = true) (k30 : PySem.W.keepIn K (.ref f30) = true)
    (a31 : PySem.W.nsIn K mainGlobals "_law_bends" = some (some (.ref f31))) (l31 : K.lookup f31 = some ⟨oc31, od31, .func (PySem.W.fnOf "_law_bends" "_law_bends" (Zr ZaB) (Zp ZaB) (Zg ZaB) .none kV31 dc31 pm31 an31 cd31 ct31), sl31⟩) (c31 : PySem.W.codeIn K cd31 "_law_bends" = true) (k31 : PySem.W.keepIn K (.ref f31) = true)
    (a32 : PySem.W.nsIn K mainGlobals "_law_is_ratio" = some (some (.ref f32))) (l32 : K.lookup f32 = some ⟨oc32, od32, .func (PySem.W.fnOf "_law_is_ratio" "_law_is_ratio" (Zr ZV) (Zp ZV) (Zg ZV) .none kV32 dc32 pm32 an32 cd32 ct32), sl32⟩) (c32 : PySem.W.codeIn K cd32 "_law_is_ratio" = true) (k32 : PySem.W.keepIn K (.ref f32) = true)
    (a33 : PySem.W.nsIn K mainGlobals "_law_good" = some (some (.ref f33))) (l33 : K.lookup f33 = some ⟨oc33, od33, .func (PySem.W.fnOf "_law_good" "_law_good" (Zr ZaS) (Zp ZaS) (Zg ZaS) .none kV33 dc33 pm33 an33 cd33 ct33), sl33⟩) (c33 : PySem.W.codeIn K cd33 "_law_good" = true) (k33 : PySem.W.keepIn K (.ref f33) = true)
    (a34 : PySem.W.nsIn K mainGlobals "law" = some (some (.ref f34))) (l34 : K.lookup f34 = some ⟨oc34, od34, .func (PySem.W.fnOf "law" "law" (Zr Zdf) (Zp Zdf) (Zg Zdf) .none kV34 dc34 pm34 an34 cd34 ct34), sl34⟩) (c34 : PySem.W.codeIn K cd34 "law" = true) (k34 : PySem.W.keepIn K (.ref f34) = true)
    (z_isinstance : PySem.W.nsIn K mainGlobals "isinstance" = some none)
    (z_int : PySem.W.nsIn K mainGlobals "int" = some none)
    (z_bool : PySem.W.nsIn K mainGlobals "bool" = some none)
    (z_abs : PySem.W.nsIn K mainGlobals "abs" = some none)
    (z_len : PySem.W.nsIn K mainGlobals "len" = some none)
    (z_enumerate : PySem.W.nsIn K mainGlobals "enumerate" = some none)
    (z_range : PySem.W.nsIn K mainGlobals "range" = some none)
    (z_any : PySem.W.nsIn K mainGlobals "any" = some none)
    (z_max : PySem.W.nsIn K mainGlobals "max" = some none)
    (z_zip : PySem.W.nsIn K mainGlobals "zip" = some none)
    (z_list : PySem.W.nsIn K mainGlobals "list" = some none)
    (z_reversed : PySem.W.nsIn K mainGlobals "reversed" = some none)
    (z_tuple : PySem.W.nsIn K mainGlobals "tuple" = some none)
    (z_all : PySem.W.nsIn K mainGlobals "all" = some none)
    (z_min : PySem.W.nsIn K mainGlobals "min" = some none)
    (q_ex_NotSmooth : ZgX K "NotSmooth" = true)
    (q_ex_NoRatio : ZgX K "NoRatio" = true)
    (q_ex_NoHeight : ZgX K "NoHeight" = true)
    (q_ex_NoBend : ZgX K "NoBend" = true)
    : ∃ fd : FuncData, (∀ (s : Shared) (v : Value), BindsTo s fd ⟨[v], []⟩ [("_law_script", v)]) ∧ ∀ base : Heap, K.In base → base.Ns mainGlobals mg → FnOk l.prog w K mg base (CXE l.prog w) 107 fa fd ["_law_script"] (spD K Zfe) := by
  have e := hfa.symm.trans (PySem.W.mg_of X G a34)
  cases e
  have T : Txt K mg := ⟨fun c v e => PySem.W.mg_of X G e, PySem.W.mg_none_of X G z_isinstance, PySem.W.mg_none_of X G z_int, PySem.W.mg_none_of X G z_bool, PySem.W.mg_none_of X G z_abs, PySem.W.mg_none_of X G z_len, PySem.W.mg_none_of X G z_enumerate, PySem.W.mg_none_of X G z_range, PySem.W.mg_none_of X G z_any, PySem.W.mg_none_of X G z_max, PySem.W.mg_none_of X G z_zip, PySem.W.mg_none_of X G z_list, PySem.W.mg_none_of X G z_reversed, PySem.W.mg_none_of X G z_tuple, PySem.W.mg_none_of X G z_all, PySem.W.mg_none_of X G z_min, q_ex_NotSmooth, q_ex_NoRatio, q_ex_NoHeight, q_ex_NoBend⟩
  have R1 := ZD (st := ZaN) l1 c1 k1
  have R2 := ZD (st := ZE) l2 c2 k2
  have R3 := ZD (st := Zbi) l3 c3 k3
  have R4 := ZD (st := Zav) l4 c4 k4
  have R5 := ZD (st := Zaw) l5 c5 k5
  have R6 := ZD (st := Zag) l6 c6 k6
  have R7 := ZD (st := Za0) l7 c7 k7
  have R8 := ZD (st := Zcu) l8 c8 k8
  have R9 := ZD (st := Zds) l9 c9 k9
  have R10 := ZD (st := Zcv) l10 c10 k10
  have R11 := ZD (st := Zcw) l11 c11 k11
  have R12 := ZD (st := Zdt) l12 c12 k12
  have R13 := ZD (st := ZaO) l13 c13 k13
  have R14 := ZD (st := Zah) l14 c14 k14
  have R15 := ZD (st := Zcx) l15 c15 k15
  have R16 := ZD (st := ZbS) l16 c16 k16
  have R17 := ZD (st := ZO) l17 c17 k17
  have R18 := ZD (st := ZP) l18 c18 k18
  have R19 := ZD (st := ZaP) l19 c19 k19
  have R20 := ZD (st := Zbj) l20 c20 k20
  have R21 := ZD (st := Z1) l21 c21 k21
  have R22 := ZD (st := Zax) l22 c22 k22
  have R23 := ZD (st := ZaQ) l23 c23 k23
  have R24 := ZD (st := ZQ) l24 c24 k24
  have R25 := ZD (st := ZaR) l25 c25 k25
  have R26 := ZD (st := Zay) l26 c26 k26
  have R27 := ZD (st := Zaz) l27 c27 k27
  have R28 := ZD (st := ZaA) l28 c28 k28
  have R29 := ZD (st := Zai) l29 c29 k29
  have R30 := ZD (st := Zaj) l30 c30 k30
  have R31 := ZD (st := ZaB) l31 c31 k31
  have R32 := ZD (st := ZV) l32 c32 k32
  have R33 := ZD (st := ZaS) l33 c33 k33
  have R34 := ZD (st := Zdf) l34 c34 k34
  refine ⟨PySem.W.fnOf "law" "law" (Zr Zdf) (Zp Zdf) (Zg Zdf) .none kV34 dc34 pm34 an34 cd34 ct34, fun s v => .of_eq rfl, fun base _ _ => ?_⟩
  have C1 : Cal l.prog w K mg base "is_whole" 1 1 F_is_whole := ⟨f1, _, ["thing"], Ze3 R1 T, PySem.W.mg_of X G a1, k1, rfl, R1.binds (ps := ["thing"]) fun _ _ _ _ _ _ us hl => match us, hl with | [_], _ => rfl⟩
  have C2 : Cal l.prog w K mg base "greatest_divisor" 101 2 F_greatest_divisor := ⟨f2, _, ["one", "other"], Zb6 R2 T, PySem.W.mg_of X G a2, k2, rfl, R2.binds (ps := ["one", "other"]) fun _ _ _ _ _ _ us hl => match us, hl with | [_, _], _ => rfl⟩
  have C3 : Cal l.prog w K mg base "crossed" 1 2 F_crossed := ⟨f3, _, ["one", "other"], Zf5 R3 T, PySem.W.mg_of X G a3, k3, rfl, R3.binds (ps := ["one", "other"]) fun _ _ _ _ _ _ us hl => match us, hl with | [_, _], _ => rfl⟩
  have C4 : Cal l.prog w K mg base "following" 1 2 F_following := ⟨f4, _, ["things", "at"], Zet R4 T, PySem.W.mg_of X G a4, k4, rfl, R4.binds (ps := ["things", "at"]) fun _ _ _ _ _ _ us hl => match us, hl with | [_, _], _ => rfl⟩
  have C5 : Cal l.prog w K mg base "unspanned" 101 1 F_unspanned := ⟨f5, _, ["rays"], Zeu R5 T C4 C3, PySem.W.mg_of X G a5, k5, rfl, R5.binds (ps := ["rays"]) fun _ _ _ _ _ _ us hl => match us, hl with | [_], _ => rfl⟩
  have C6 : Cal l.prog w K mg base "ask_smooth" 102 1 F_ask_smooth := ⟨f6, _, ["rays"], ZdT R6 T C5, PySem.W.mg_of X G a6, k6, rfl, R6.binds (ps := ["rays"]) fun _ _ _ _ _ _ us hl => match us, hl with | [_], _ => rfl⟩
  have C7 : Cal l.prog w K mg base "numbers" 103 1 F_numbers := ⟨f7, _, ["rays"], Zf7 R7 T C6 C4 C3, PySem.W.mg_of X G a7, k7, rfl, R7.binds (ps := ["rays"]) fun _ _ _ _ _ _ us hl => match us, hl with | [_], _ => rfl⟩
  have C8 : Cal l.prog w K mg base "ratio" 102 2 F_ratio := ⟨f8, _, ["top", "bottom"], ZiQ R8 T C1 C2, PySem.W.mg_of X G a8, k8, rfl, R8.binds (ps := ["top", "bottom"]) fun _ _ _ _ _ _ us hl => match us, hl with | [_, _], _ => rfl⟩
  have C9 : Cal l.prog w K mg base "plus" 103 2 F_plus := ⟨f9, _, ["one", "other"], ZkY R9 T C8, PySem.W.mg_of X G a9, k9, rfl, R9.binds (ps := ["one", "other"]) fun _ _ _ _ _ _ us hl => match us, hl with | [_, _], _ => rfl⟩
  have C10 : Cal l.prog w K mg base "minus" 103 2 F_minus := ⟨f10, _, ["one", "other"], ZiS R10 T C8, PySem.W.mg_of X G a10, k10, rfl, R10.binds (ps := ["one", "other"]) fun _ _ _ _ _ _ us hl => match us, hl with | [_, _], _ => rfl⟩
  have C11 : Cal l.prog w K mg base "times" 103 2 F_times := ⟨f11, _, ["one", "other"], ZiU R11 T C8, PySem.W.mg_of X G a11, k11, rfl, R11.binds (ps := ["one", "other"]) fun _ _ _ _ _ _ us hl => match us, hl with | [_, _], _ => rfl⟩
  have C12 : Cal l.prog w K mg base "less" 1 2 F_less := ⟨f12, _, ["one", "other"], Zk0 R12 T, PySem.W.mg_of X G a12, k12, rfl, R12.binds (ps := ["one", "other"]) fun _ _ _ _ _ _ us hl => match us, hl with | [_, _], _ => rfl⟩
  have C13 : Cal l.prog w K mg base "greatest" 2 1 F_greatest := ⟨f13, _, ["ones"], Ze4 R13 T C12, PySem.W.mg_of X G a13, k13, rfl, R13.binds (ps := ["ones"]) fun _ _ _ _ _ _ us hl => match us, hl with | [_], _ => rfl⟩
  have C14 : Cal l.prog w K mg base "ask_height" 101 2 F_ask_height := ⟨f14, _, ["rays", "height"], ZdW R14 T, PySem.W.mg_of X G a14, k14, rfl, R14.binds (ps := ["rays", "height"]) fun _ _ _ _ _ _ us hl => match us, hl with | [_, _], _ => rfl⟩
  have C15 : Cal l.prog w K mg base "bends" 104 2 F_bends := ⟨f15, _, ["rays", "height"], ZiV R15 T C7 C14 C4 C9 C11, PySem.W.mg_of X G a15, k15, rfl, R15.binds (ps := ["rays", "height"]) fun _ _ _ _ _ _ us hl => match us, hl with | [_, _], _ => rfl⟩
  have C16 : Cal l.prog w K mg base "sloped" 104 2 F_sloped := ⟨f16, _, ["m", "ray"], ZhI R16 T C11 C9, PySem.W.mg_of X G a16, k16, rfl, R16.binds (ps := ["m", "ray"]) fun _ _ _ _ _ _ us hl => match us, hl with | [_, _], _ => rfl⟩
  have C17 : Cal l.prog w K mg base "slope_through" 104 2 F_slope_through := ⟨f17, _, ["rays", "height"], ZcH R17 T C11 C10, PySem.W.mg_of X G a17, k17, rfl, R17.binds (ps := ["rays", "height"]) fun _ _ _ _ _ _ us hl => match us, hl with | [_, _], _ => rfl⟩
  have C18 : Cal l.prog w K mg base "bends_inwards" 105 2 F_bends_inwards := ⟨f18, _, ["rays", "height"], ZcJ R18 T C15 C12, PySem.W.mg_of X G a18, k18, rfl, R18.binds (ps := ["rays", "height"]) fun _ _ _ _ _ _ us hl => match us, hl with | [_, _], _ => rfl⟩
  have C19 : Cal l.prog w K mg base "contrary" 104 1 F_contrary := ⟨f19, _, ["one"], Ze6 R19 T C10, PySem.W.mg_of X G a19, k19, rfl, R19.binds (ps := ["one"]) fun _ _ _ _ _ _ us hl => match us, hl with | [_], _ => rfl⟩
  have C20 : Cal l.prog w K mg base "corners" 106 2 F_corners := ⟨f20, _, ["rays", "height"], Zf8 R20 T C18 C4 C19 C17, PySem.W.mg_of X G a20, k20, rfl, R20.binds (ps := ["rays", "height"]) fun _ _ _ _ _ _ us hl => match us, hl with | [_, _], _ => rfl⟩
  have C21 : Cal l.prog w K mg base "height_of" 105 2 F_height_of := ⟨f21, _, ["rays", "points"], Zew R21 T C6 C16 C19 C13, PySem.W.mg_of X G a21, k21, rfl, R21.binds (ps := ["rays", "points"]) fun _ _ _ _ _ _ us hl => match us, hl with | [_, _], _ => rfl⟩
  have C22 : Cal l.prog w K mg base "_law_purse" 1 2 F_law_purse := ⟨f22, _, ["_law_script", "_law_k"], Zex R22 T, PySem.W.mg_of X G a22, k22, rfl, R22.binds (ps := ["_law_script", "_law_k"]) fun _ _ _ _ _ _ us hl => match us, hl with | [_, _], _ => rfl⟩
  have C23 : Cal l.prog w K mg base "_law_take" 1 2 F_law_take := ⟨f23, _, ["_law_purse_here", "_law_many"], Ze7 R23 T, PySem.W.mg_of X G a23, k23, rfl, R23.binds (ps := ["_law_purse_here", "_law_many"]) fun _ _ _ _ _ _ us hl => match us, hl with | [_, _], _ => rfl⟩
  have C24 : Cal l.prog w K mg base "_law_short_put" 1 2 F_law_short_put := ⟨f24, _, ["_law_rays", "_law_at"], ZcK R24 T, PySem.W.mg_of X G a24, k24, rfl, R24.binds (ps := ["_law_rays", "_law_at"]) fun _ _ _ _ _ _ us hl => match us, hl with | [_, _], _ => rfl⟩
  have C25 : Cal l.prog w K mg base "_law_base" 101 2 F_law_base := ⟨f25, _, ["_law_purse_here", "_law_most"], Ze8 R25 T C23 C24, PySem.W.mg_of X G a25, k25, rfl, R25.binds (ps := ["_law_purse_here", "_law_most"]) fun _ _ _ _ _ _ us hl => match us, hl with | [_, _], _ => rfl⟩
  have C26 : Cal l.prog w K mg base "_law_table" 101 1 F_law_table := ⟨f26, _, ["_law_purse_here"], Zey R26 T C23, PySem.W.mg_of X G a26, k26, rfl, R26.binds (ps := ["_law_purse_here"]) fun _ _ _ _ _ _ us hl => match us, hl with | [_], _ => rfl⟩
  have C27 : Cal l.prog w K mg base "_law_spun" 101 4 F_law_spun := ⟨f27, _, ["_law_table_here", "_law_rays", "_law_some", "_law_at"], Ze9 R27 T, PySem.W.mg_of X G a27, k27, rfl, R27.binds (ps := ["_law_table_here", "_law_rays", "_law_some", "_law_at"]) fun _ _ _ _ _ _ us hl => match us, hl with | [_, _, _, _], _ => rfl⟩
  have C28 : Cal l.prog w K mg base "_law_ratio" 101 2 F_law_ratio := ⟨f28, _, ["_law_top", "_law_bottom"], Zez R28 T, PySem.W.mg_of X G a28, k28, rfl, R28.binds (ps := ["_law_top", "_law_bottom"]) fun _ _ _ _ _ _ us hl => match us, hl with | [_, _], _ => rfl⟩
  have C29 : Cal l.prog w K mg base "_law_hull" 101 2 F_law_hull := ⟨f29, _, ["_law_rays", "_law_points_here"], Zfc R29 T, PySem.W.mg_of X G a29, k29, rfl, R29.binds (ps := ["_law_rays", "_law_points_here"]) fun _ _ _ _ _ _ us hl => match us, hl with | [_, _], _ => rfl⟩
  have C30 : Cal l.prog w K mg base "_law_points" 2 2 F_law_points := ⟨f30, _, ["_law_purse_here", "_law_most"], ZdX R30 T C23, PySem.W.mg_of X G a30, k30, rfl, R30.binds (ps := ["_law_purse_here", "_law_most"]) fun _ _ _ _ _ _ us hl => match us, hl with | [_, _], _ => rfl⟩
  have C31 : Cal l.prog w K mg base "_law_bends" 101 2 F_law_bends := ⟨f31, _, ["_law_rays", "_law_heights"], ZeA R31 T, PySem.W.mg_of X G a31, k31, rfl, R31.binds (ps := ["_law_rays", "_law_heights"]) fun _ _ _ _ _ _ us hl => match us, hl with | [_, _], _ => rfl⟩
  have C32 : Cal l.prog w K mg base "_law_is_ratio" 102 1 F_law_is_ratio := ⟨f32, _, ["_law_one"], Zc9 R32 T C28, PySem.W.mg_of X G a32, k32, rfl, R32.binds (ps := ["_law_one"]) fun _ _ _ _ _ _ us hl => match us, hl with | [_], _ => rfl⟩
  have C33 : Cal l.prog w K mg base "_law_good" 103 4 F_law_good := ⟨f33, _, ["_law_rays", "_law_units", "_law_parts", "_law_found"], Zfd R33 T C32 C31, PySem.W.mg_of X G a33, k33, rfl, R33.binds (ps := ["_law_rays", "_law_units", "_law_parts", "_law_found"]) fun _ _ _ _ _ _ us hl => match us, hl with | [_, _, _, _], _ => rfl⟩
  exact ZnT R34 T C22 C25 C30 C29 C26 C23 C27 C28 C20 C33 C21
end K48
end
section
set_option Elab.async false
set_option linter.all false
set_option maxRecDepth 100000
set_option maxHeartbeats 4000000
namespace K48
open PySem PySem.Spec L2 DL
open CV CN CU CS CD CO
open CA (Tn)
open CR (rt Sz)
open CH (rts ZF Z9)
theorem Zk1 : F_law_purse = CB.F_law_purse := rfl
theorem ZjF : F_law_take = CB.F_law_take := rfl
theorem ZnV : F_law_base = CD.F_law_base := rfl
theorem Zk2 : F_law_table = CD.F_law_table := rfl
theorem ZnW : F_law_spun = CD.F_law_spun := rfl
theorem ZhJ : F_law_ratio = CR.F_law_low := rfl
theorem ZnX : F_law_hull = CD.F_law_hull := rfl
theorem ZiW : F_height_of = CD.F_height_of := rfl
theorem Zk3 : F_law_bends = CO.F_law_bends := rfl
theorem ZiX : F_law_points = CO.F_law_points := rfl
theorem ZhK : F_corners = CO.F_corners := rfl
noncomputable def gs (a b c d : Int) (u : Pt) : Pt := ((a * d - b * c) * (d * u.1 - c * u.2), (a * d - b * c) * (a * u.2 - b * u.1))
theorem Zss {a b c d : Int} (hd : a * d - b * c = 1 ∨ a * d - b * c = -1) (r u : Pt) : vU (gg a b c d r) (gs a b c d u) = vU r u := by
  unfold vU gg gs
  simp only
  rcases hd with e | e <;> rw [e] <;> grind
theorem ZnY {a b c d : Int} (hd : a * d - b * c = 1 ∨ a * d - b * c = -1) (r : Pt) (us : List Pt) : Zf3 (us.map (gs a b c d)) (gg a b c d r) = Zf3 us r := by
  unfold Zf3
  rw [List.map_map]
  congr 2
  refine List.map_congr_left fun u _ => ?_
  exact Zss hd r u
theorem ZhL {α β : Type} {f : α → β} {neg : Bool} {k : Nat} {L : List α} : sg neg k (L.map f) = (sg neg k L).map f := by
  unfold sg
  cases neg <;> simp [List.map_drop, List.map_take]
theorem Zk4 {a b c d : Int} (hd : a * d - b * c = 1 ∨ a * d - b * c = -1) {neg : Bool} {k : Nat} {rs us : List Pt} : sg neg k (ZeD rs us) = ZeD (sg neg k (rs.map (gg a b c d))) (us.map (gs a b c d)) := by
  unfold ZeD
  rw [ZhL, ZhL, List.map_map]
  refine List.map_congr_left fun r _ => ?_
  exact (ZnY hd r us).symm
noncomputable def zc (rs : List Pt) (us : List Int) (i : Int) : Pt := ((0 - cn us i) * (cy rs (i + 1)).2 - (0 - cn us (i + 1)) * (cy rs i).2, (0 - cn us (i + 1)) * (cy rs i).1 - (0 - cn us i) * (cy rs (i + 1)).1)
section
variable {rs : List Pt} {us : List Int} {p : Nat} (hp : p ≠ 0)
noncomputable def hq (us : List Int) : List Rat := us.map fun t => Rat.normalize t p hp
theorem ZhM (hu : us ≠ []) (i : Int) : cq (hq hp us) i = (cn us i : Rat) / (p : Rat) := by
  have hl : us.length ≠ 0 := by simpa using hu
  have := (Z7 (i := i) hl).1
  unfold cq cn hq
  rw [List.length_map, List.getD_eq_getElem?_getD, List.getD_eq_getElem?_getD, List.getElem?_map, List.getElem?_eq_getElem this]
  exact ZdS hp
theorem ZjG (hu : us ≠ []) (i : Int) : cor rs (hq hp us) i = (Rat.normalize (zc rs us i).1 p hp, Rat.normalize (zc rs us i).2 p hp) := by
  unfold cor zc
  rw [ZhM hp hu, ZhM hp hu, ZdS, ZdS]
  simp only [Rat.intCast_sub, Rat.intCast_mul, Rat.div_def]
  congr 1 <;> grind
theorem ZnZ (hu : us ≠ []) (i : Int) : bnd rs (hq hp us) i = ((cn us (i - 1) + cn us (i + 1) + T rs i * cn us i : Int) : Rat) / (p : Rat) := by
  unfold bnd
  rw [ZhM hp hu, ZhM hp hu, ZhM hp hu]
  simp only [Rat.intCast_add, Rat.intCast_mul, Rat.div_def]
  grind
end
theorem Zk5 {rs : List Pt} {us : List Int} (h : Smo rs) (i : Int) : (zc rs us i).1 * (cy rs i).1 + (zc rs us i).2 * (cy rs i).2 = 0 - cn us i ∧ (zc rs us i).1 * (cy rs (i + 1)).1 + (zc rs us i).2 * (cy rs (i + 1)).2 = 0 - cn us (i + 1) := by
  have o := h.one i
  unfold X at o
  unfold zc
  simp only
  generalize cn us i = x at *
  generalize cn us (i + 1) = y at *
  generalize (cy rs i) = a at *
  generalize (cy rs (i + 1)) = c at *
  constructor <;> grind
theorem Zk6 {rs : List Pt} {us : List Int} (h : Smo rs) (i : Int) : (zc rs us i).1 - (zc rs us (i - 1)).1 = (cn us (i - 1) + cn us (i + 1) + T rs i * cn us i) * (cy rs i).2 ∧ (zc rs us i).2 - (zc rs us (i - 1)).2 = 0 - (cn us (i - 1) + cn us (i + 1) + T rs i * cn us i) * (cy rs i).1 := by
  obtain ⟨s1, s2⟩ := CN.Zhw h i
  unfold zc
  simp only
  rw [show i - 1 + 1 = i by omega]
  generalize cn us i = x at *
  generalize cn us (i + 1) = y at *
  generalize cn us (i - 1) = z at *
  generalize T rs i = t at *
  generalize (cy rs i) = a at *
  generalize (cy rs (i + 1)) = c at *
  generalize (cy rs (i - 1)) = e at *
  constructor <;> grind
theorem ZeB {z : Int} {p : Nat} (hp : p ≠ 0) : (p : Int) % ((Rat.normalize z p hp).den : Int) = 0 ∧ (Rat.normalize z p hp).num * p / ((Rat.normalize z p hp).den : Int) = z := by
  rw [Rat.num_normalize, Rat.den_normalize]
  have g0 : 0 < Nat.gcd z.natAbs p := Nat.gcd_pos_of_pos_right _ (Nat.pos_of_ne_zero hp)
  obtain ⟨k, hk⟩ : Nat.gcd z.natAbs p ∣ p := Nat.gcd_dvd_right _ _
  obtain ⟨l, hl⟩ : ((Nat.gcd z.natAbs p : Nat) : Int) ∣ z := by
    have : Nat.gcd z.natAbs p ∣ z.natAbs := Nat.gcd_dvd_left _ _
    exact Int.ofNat_dvd_left.mpr this
  generalize Nat.gcd z.natAbs p = g at *
  have k0 : k ≠ 0 := by intro e; rw [e] at hk; omega
  have e1 : p / g = k := by rw [hk, Nat.mul_div_cancel_left _ g0]
  have e2 : z / (g : Int) = l := by rw [hl, Int.mul_ediv_cancel_left _ (by omega)]
  rw [e1, e2]
  have e3 : (p : Int) = g * k := by rw [hk]; simp
  constructor
  · rw [e3]; exact Int.mul_emod_left _ _
  · rw [e3, hl, show l * ((g : Int) * (k : Int)) = (g * l) * k by grind]
    exact Int.mul_ediv_cancel _ (by omega)
section
variable {Q : D → Sto → Prop} {E : Str → Sto → Prop} {M : Sto} {n m o k : Nat} {rs us : List Pt} {ts : List Int} {x : Rat}
theorem Zdv (hx : Sz k x) (hk : k ≤ 8000) : wO (F_law_is_ratio [rt x] M) Q E = Q (.bl true) M := by
  have dp : 0 < x.den := Nat.pos_of_ne_zero x.den_nz
  simp! [F_law_is_ratio, ZbZ, ZhJ]
  rw [CS.Zjv (t := x.num) x.den_nz hx.2 hk, CS.Zhv]
  simp! [Zs]
theorem ZiY (hb : Bag n M) (q : ∀ us o M', us ≠ [] → us.length ≤ 5 → Nr 3 us → M.length ≤ o → M'[o]? = some (.lst (prs us)) → Gr n M M' → Q (.ref o) M') : wO (CO.F_law_points [.ref n, .int 5] M) Q E := by
  have hn := hb.lt
  simp! [CO.F_law_points, CO.Za5]
  have B1 := hb.app [SO.lst []]
  have G1 : Gr n M (M ++ [SO.lst []]) := Gr.app hb _
  have r1 : (M ++ [SO.lst []])[M.length]? = some (.lst (prs [])) := by simp [prs]
  have no : M.length ≠ n := by omega
  have ol : M.length ≤ M.length := Nat.le_refl _
  generalize M ++ [SO.lst []] = M1 at *
  generalize hoo : M.length = o at no r1 ol ⊢
  refine CB.ZaZ B1 (by decide) fun t M2 t0 t1 g2 => ?_
  have r2 := CA.Gr.up r1 g2 no
  simp! [Zs]
  refine ⟨by omega, ?_⟩
  refine Zc0 (fun i ρ M' => ∃ us x3, ρ = [some (.ref n), some (.int 5), some (.ref o), x3] ∧ us.length = i ∧ Nr 3 us ∧ M'[o]? = some (.lst (prs us)) ∧ Gr n M M') ⟨[], _, rfl, rfl, (fun x hx => by cases hx), r2, G1.trans g2⟩ ?_ ?_
  · rintro i ρ M3 hi ⟨us, x3, rfl, lu, bu, r3, g3⟩
    have l3 := Zt r3
    simp! [CO.Zar, r3]
    refine CB.ZaZ g3.bag (by decide) fun s M4 s0 s1 g4 => ?_
    simp! [Zs]
    refine CB.ZaZ g4.bag (by decide) fun s' M5 s0' s1' g5 => ?_
    have r5 := CA.Gr.up (CA.Gr.up r3 g4 no) g5 no
    have G5 := (g3.trans g4).trans g5
    simp! [r5]
    have l5 := Zt r5
    refine ⟨by omega, us ++ [(s - 3, s' - 3)], _, rfl, by simp; omega, fun x hx => ?_, by rw [Zjj l5], ?_⟩
    · rcases List.mem_append.mp hx with hx | hx
      · exact bu x hx
      · rw [List.mem_singleton.mp hx]; simp only; omega
    · have b5 := ZkW (o := SO.lst (prs (us ++ [(s - 3, s' - 3)]))) G5.bag no
      have gl := G5.len
      refine ⟨by rw [List.length_set]; exact gl, b5, fun k hk hk2 => ?_⟩
      rw [List.getElem?_set_ne (by omega)]
      exact G5.keep k hk hk2
  · rintro ρ M3 ⟨us, x3, rfl, lu, bu, r3, g3⟩
    simp! [Zs]
    refine q us o M3 (fun z => ?_) (by omega) bu (by omega) r3 g3
    rw [z] at lu
    simp at lu
    omega
noncomputable def zs (rs : List Pt) (ts : List Int) : List Pt := (List.range rs.length).map fun (i : Nat) => zc rs ts i
theorem ZfH {rs : List Pt} {ts : List Int} : (zs rs ts).length = rs.length := by simp [zs]
theorem Zp7 {rs : List Pt} {ts : List Int} (hn : rs ≠ []) (hl : ts.length = rs.length) (i : Int) : cy (zs rs ts) i = zc rs ts i := by
  have l0 : rs.length ≠ 0 := by simpa using hn
  obtain ⟨a, b⟩ := Z7 (i := i) l0
  have e1 : cy (zs rs ts) i = zc rs ts ((i % rs.length).toNat : Nat) := by
    unfold cy
    rw [ZfH, List.getD_eq_getElem?_getD]
    simp [zs, List.getElem?_range a]
  rw [e1, show (((i % rs.length).toNat : Nat) : Int) = i % rs.length by omega]
  have c1 : cy rs (i % rs.length) = cy rs i := ZcD
  have c2 : cy rs (i % rs.length + 1) = cy rs (i + 1) := by unfold cy; congr 2; simp
  have c3 : cn ts (i % rs.length) = cn ts i := by rw [← hl]; exact Zhj
  have c4 : cn ts (i % rs.length + 1) = cn ts (i + 1) := by unfold cn; congr 2; rw [hl]; simp
  unfold zc
  rw [c1, c2, c3, c4]
theorem Zn0 {p : Nat} (hp : p ≠ 0) (hp3 : p ≤ 3) (h : M[n]? = some (.lst (prs rs))) (hs : Smo rs) (hl : rs.length ≤ 1000) (hb : Nr 200 rs) (h' : M[m]? = some (.lst (nts ts))) (e : ts.length = rs.length) (hz : ∀ x ∈ hq hp ts, Sz 100 x) (ho : M[o]? = some (.lst (pts (Zct rs (hq hp ts)))))
    (q : ∀ M', Kp M M' → Q (.bl true) M') : wO (F_law_good [.ref n, .ref m, .int p, .ref o] M) Q E := by
  have h3 := hs.len
  have hne := hs.ne
  have tne : ts ≠ [] := fun z => by rw [z] at e; simp at e; omega
  have hql : (hq hp ts).length = rs.length := by rw [hq, List.length_map, e]
  have hn := Zt h
  have hm := Zt h'
  have hol := Zt ho
  have hl0 : rs.length ≠ 0 := by omega
  simp! [F_law_good, Zdu, ZmS ho, ho, h, Zba, ZaM]
  have r0 : (M ++ [SO.lst []])[M.length]? = some (.lst (prs ((zs rs ts).take 0))) := by simp [prs]
  have K0 : Kp M (M ++ [SO.lst []]) := Kp.app
  generalize M ++ [SO.lst []] = M1 at *
  have ol : M.length ≤ M.length := Nat.le_refl _
  generalize hoo : M.length = os at r0 ol ⊢
  refine Zhe (xs := pts (Zct rs (hq hp ts))) (fun i ρ M' => Kp M M' ∧ M'[os]? = some (.lst (prs ((zs rs ts).take i))) ∧ ∃ x5 x6 x7, ρ = [some (.ref n), some (.ref m), some (.int p), some (.ref o), some (.ref os), x5, x6, x7, none, none, none, none, none, none, none, none, none]) (K0.get ho) ⟨K0, r0, _, _, _, rfl⟩ (fun i ρ M' hI => hI.1.get ho) ?_ ?_
  · rintro i ρ M2 hi ⟨K2, r2, x5, x6, x7, rfl⟩
    have hi' : i < rs.length := by rw [Zba, ZaM] at hi; exact hi
    have ep : (pts (Zct rs (hq hp ts)))[i] = D.tup [rt (Rat.normalize (zc rs ts i).1 p hp), rt (Rat.normalize (zc rs ts i).2 p hp)] := by
      rw [ZhB]
      have : (Zct rs (hq hp ts))[i]'(by rw [ZaM]; exact hi') = (Rat.normalize (zc rs ts i).1 p hp, Rat.normalize (zc rs ts i).2 p hp) := by
        rw [← ZjG hp tne]; simp [Zct]
      rw [this]
    rw [ep]
    have cz := ZjE (rs := rs) hb hne hz (by omega) i
    rw [ZjG hp tne] at cz
    simp only at cz
    obtain ⟨n1, n2⟩ := ZeB (z := (zc rs ts i).1) hp
    obtain ⟨n3, n4⟩ := ZeB (z := (zc rs ts i).2) hp
    have d1 : 0 < (Rat.normalize (zc rs ts i).1 p hp).den ∧ (Rat.normalize (zc rs ts i).1 p hp).den ≤ 3 := ⟨Nat.pos_of_ne_zero (Rat.den_nz _), by rw [Rat.den_normalize]; exact Nat.le_trans (Nat.div_le_self _ _) hp3⟩
    have d2 : 0 < (Rat.normalize (zc rs ts i).2 p hp).den ∧ (Rat.normalize (zc rs ts i).2 p hp).den ≤ 3 := ⟨Nat.pos_of_ne_zero (Rat.den_nz _), by rw [Rat.den_normalize]; exact Nat.le_trans (Nat.div_le_self _ _) hp3⟩
    have tk : (zs rs ts).take (i + 1) = (zs rs ts).take i ++ [zc rs ts i] := by
      rw [List.take_succ_eq_append_getElem (by rw [ZfH]; exact hi')]
      simp [zs]
    generalize Rat.normalize (zc rs ts i).1 p hp = a at *
    generalize Rat.normalize (zc rs ts i).2 p hp = b at *
    have l2 := Zt r2
    simp! [Zck]
    refine Zoa (src := .pur [rt a, rt b]) (xs := [rt a, rt b]) (fun ρ => ∃ x, ρ = [x]) (fun _ => D.bl true) (by simp) (by simp [cnt]) ⟨_, rfl⟩ (fun L j hj => rfl) ?_ ?_
    · rintro j hj ρ L ⟨x, rfl⟩
      have : j = 0 ∨ j = 1 := by simp at hj; omega
      rcases this with rfl | rfl <;> simp only [List.getElem_cons_zero, List.getElem_cons_succ] <;> simp! [Zdv cz.1 (by omega), Zdv cz.2 (by omega)] <;> exact ⟨_, rfl⟩
    rw [show ((List.range [rt a, rt b].length).map fun _ => D.bl true) = [D.bl true, D.bl true] from rfl]
    have K3 : Kp M2 (M2 ++ [SO.lst [D.bl true, D.bl true]]) := Kp.app
    have r3 := K3.get r2
    have at1 : ZW [D.bl true, D.bl true] = some [true, true] := rfl
    simp! [at1]
    generalize M2 ++ [SO.lst [D.bl true, D.bl true]] = M3 at *
    have l3 := Zt r3
    rw [show [true, true].all id = true from rfl]
    simp! [n1, n3, r3, n2, n4]
    refine ⟨by rw [List.length_take]; omega, (K2.trans K3).set (by omega), ?_, _, _, _, rfl⟩
    rw [tk]
  · rintro ρ M2 ⟨K2, r2, x5, x6, x7, rfl⟩
    rw [Zba, ZaM, ← ZfH (rs := rs) (ts := ts), List.take_length] at r2
    simp! [Zk3]
    refine ZiO (K2.get h) hb hne hl (K2.get h') e ?_
    have K3 : Kp M2 (M2 ++ [SO.lst (nts (bnI rs ts))]) := Kp.app
    have b3 : (M2 ++ [SO.lst (nts (bnI rs ts))])[M2.length]? = some (.lst (nts (bnI rs ts))) := by simp
    generalize M2 ++ [SO.lst (nts (bnI rs ts))] = M3 at *
    generalize M2.length = ob at *
    have h3' := (K2.trans K3).get h
    have m3' := (K2.trans K3).get h'
    have z3 := K3.get r2
    have KK := K2.trans K3
    simp! [h3']
    refine ⟨by omega, ?_⟩
    refine Zc0 (fun i ρ M' => M' = M3 ∧ ∃ x9 x10 x11 x12 x13 x14 x15 x16, ρ = [some (.ref n), some (.ref m), some (.int p), some (.ref o), some (.ref os), x5, x6, x7, some (.ref ob), x9, x10, x11, x12, x13, x14, x15, x16]) ⟨rfl, _, _, _, _, _, _, _, _, rfl⟩ ?_ ?_
    · rintro i ρ _ hi ⟨rfl, x9, x10, x11, x12, x13, x14, x15, x16, rfl⟩
      have hi' : i < rs.length := by omega
      have em := Z7 (i := (i : Int) + 1) hl0
      rw [show (0 : Int) + (i : Int) = i by omega]
      have b0 := hb _ (ZaY (i := (i : Int)) hne)
      have b1 := hb _ (ZaY (i := (i : Int) + 1) hne)
      have bl : (bnI rs ts).length = rs.length := by simp [bnI]
      have cm := Zhj (rs := ts) (i := (i : Int) + 1)
      rw [e] at cm
      have zl := ZfH (rs := rs) (ts := ts)
      have bi : cn (bnI rs ts) i = cn ts ((i : Int) - 1) + cn ts ((i : Int) + 1) + T rs i * cn ts i := by
        rw [Zfz (by omega)]
        simp [bnI, T]
      obtain ⟨k1, k2⟩ := Zk5 (us := ts) hs i
      obtain ⟨k3, k4⟩ := Zk6 (us := ts) hs i
      simp! [Zcl, h3', m3', z3, b3, Zdp, Zhi, ZcD, cm, Zp7 hne e, bi, k1, k2, k3, k4]
      exact ⟨_, _, _, _, _, _, _, _, rfl⟩
    · rintro ρ _ ⟨rfl, x9, x10, x11, x12, x13, x14, x15, x16, rfl⟩
      simp! [Zs]
      exact q _ KK
theorem Zn1 {α : Type} {neg : Bool} {k : Nat} {L : List α} {x : α} (h : x ∈ sg neg k L) : x ∈ L := by
  unfold sg at h
  cases neg
  · simp only [Bool.false_eq_true, if_false, List.mem_append] at h
    rcases h with h | h
    · exact List.mem_of_mem_drop h
    · exact List.mem_of_mem_take h
  · simp only [if_true, List.mem_append] at h
    rcases h with h | h
    · exact List.mem_reverse.mp (List.mem_of_mem_drop h)
    · exact List.mem_reverse.mp (List.mem_of_mem_take h)
theorem Zk7 {rs us : List Pt} (hs : Smo rs) (hu : us ≠ []) (i : Int) : 0 ≤ cn (ZeD rs us) (i - 1) + cn (ZeD rs us) (i + 1) + T rs i * cn (ZeD rs us) i := by
  have hne := hs.ne
  unfold ZeD T
  rw [ZhD hne, ZhD hne, ZhD hne]
  have x1 := hs.one (i - 1)
  rw [show i - 1 + 1 = i by omega] at x1
  have x2 := hs.one i
  generalize cy rs (i - 1) = p at *
  generalize cy rs (i + 1) = r at *
  generalize cy rs i = q at *
  obtain ⟨b1, b2⟩ := ZnP x1 x2
  obtain ⟨u, hu', e⟩ := (Zc6 (r := q) hu).1
  have l1 := (Zc6 (r := p) hu).2.1 u hu'
  have l2 := (Zc6 (r := r) hu).2.1 u hu'
  rw [e]
  generalize Zf3 us p = tp at *
  generalize Zf3 us r = tr at *
  generalize X p r = N at *
  unfold vU at *
  have k : (0 - N) * (0 - u.1 * q.1 - u.2 * q.2) = u.1 * p.1 + u.1 * r.1 + (u.2 * p.2 + u.2 * r.2) := by grind
  rw [k]
  omega
theorem Zn2 {a b a' b' : Nat} {ms : List Rat} (h1 : M[a]? = some (.lst (prs rs))) (h2 : M[b]? = some (.lst (rts ms))) (h3 : M[a']? = some (.lst (prs rs))) (h4 : M[b']? = some (.lst (rts ms))) : eqF 12 M (.tup [.ref a, .ref b]) (.tup [.ref a', .ref b']) = some true := by
  show eqL (eqF 11 M) [.ref a, .ref b] [.ref a', .ref b'] = _
  have s1 : eqF 11 M (.ref a) (.ref a') = some true := by rw [ZmO h1 h3, if_pos rfl, Zjk, decide_eq_true rfl]
  have s2 : eqF 11 M (.ref b) (.ref b') = some true := by rw [CU.ZnB (k := 8) h2 h4, decide_eq_true rfl]
  simp [eqL, s1, s2]
theorem ZiZ {p : Nat} (hp : p ≠ 0) (hp3 : p ≤ 3) {N : Ro → Sto → Prop} {R : D → Sto → Prop} {B C : Ro → Sto → Prop} {x0 x1 x2 x3 x4 x5 x6 x12 x13 : Option D} {o7 o8 o10 oh oi : Nat} (hs : Smo rs) (hl : rs.length ≤ 1000) (hb : Nr 200 rs) (e : ts.length = rs.length) (hz : ∀ x ∈ hq hp ts, Sz 100 x) (hbn : ∀ i : Int, 0 ≤ bnd rs (hq hp ts) i)
    (h7 : M[o7]? = some (.lst (prs rs))) (h8 : M[o8]? = some (.lst (nts ts))) (h10 : M[o10]? = some (.lst (rts (hq hp ts)))) (hh : M[oh]? = some (.lst (prs rs))) (hi : M[oi]? = some (.lst (rts (hq hp ts))))
    (hN : ∀ x13 M', Kp M M' → N [x0, x1, x2, x3, x4, x5, x6, some (.ref o7), some (.ref o8), some (.int p), some (.ref o10), some (.tup [.ref oh, .ref oi]), x12, x13] M') : wS (ZdY [x0, x1, x2, x3, x4, x5, x6, some (.ref o7), some (.ref o8), some (.int p), some (.ref o10), some (.tup [.ref oh, .ref oi]), x12, x13] M) N R B C E := by
  have h3 := hs.len
  have hql : (hq hp ts).length = rs.length := by rw [hq, List.length_map, e]
  simp! [ZdY, ZhK]
  refine ZhG hh hs hl hb hi hql hz (by decide) hbn fun oc M1 K1 lc r1 => ?_
  simp! [Zs]
  refine Zn0 hp hp3 (K1.get h7) hs hl hb (K1.get h8) e hz r1 fun M2 K2 => ?_
  have r2 := K2.get r1
  have K12 := K1.trans K2
  have l2 := Zt r2
  simp! [r2, ZiW]
  have K3 : Kp M2 (M2 ++ [SO.lst (pts (Zct rs (hq hp ts)))]) := Kp.app
  have r3 : (M2 ++ [SO.lst (pts (Zct rs (hq hp ts)))])[M2.length]? = some (.lst (pts (Zct rs (hq hp ts)))) := by simp
  generalize M2 ++ [SO.lst (pts (Zct rs (hq hp ts)))] = M3 at *
  have KK := K12.trans K3
  have nc : Zct rs (hq hp ts) ≠ [] := fun z => by
    have := congrArg List.length z
    rw [ZaM] at this
    simp at this
    exact hs.ne this
  refine Ze1 (k := 223) (KK.get hh) hs hb hl r3 nc (by rw [ZaM]; exact hl) (fun x hx => ?_) (by decide) fun M4 K4 f4 => ?_
  · obtain ⟨i, _, rfl⟩ := List.mem_map.mp hx
    exact ZjE (k := 100) hb hs.ne hz (by omega) i
  rw [ZiP hs hql hbn] at f4
  have K5 := KK.trans K4
  have e4 : eqF 12 M4 (.ref M3.length) (.ref o10) = some true := by rw [CU.ZnB (k := 9) f4 (K5.get h10), decide_eq_true rfl]
  have r4 := K4.get (K3.get r2)
  have l4 := Zt r4
  have at0' : atI (pts (Zct rs (hq hp ts))) 0 = some (rp (cor rs (hq hp ts) 0)) := by
    have : (Zct rs (hq hp ts)) = cor rs (hq hp ts) 0 :: (Zct rs (hq hp ts)).tail := by
      unfold Zct
      obtain ⟨k, hk⟩ : ∃ k, rs.length = k + 1 := ⟨rs.length - 1, by omega⟩
      rw [hk, List.range_succ_eq_map]
      rfl
    rw [this]
    exact at0
  simp! [e4, r4, at0', Zba, ZaM]
  refine ⟨by omega, ?_⟩
  have nl : M.length ≤ oc := lc
  have K6 : Kp M (M4.set oc (SO.lst (pts (Zct rs (hq hp ts)) ++ [rp (cor rs (hq hp ts) 0)]))) := K5.set nl
  generalize M4.set oc (SO.lst (pts (Zct rs (hq hp ts)) ++ [rp (cor rs (hq hp ts) 0)])) = M6 at *
  have e6 := Zn2 (K6.get hh) (K6.get hi) (K6.get h7) (K6.get h10)
  simp! [e6]
  exact hN _ _ K6
theorem Zk8 {N : Ro → Sto → Prop} {R : D → Sto → Prop} {B C : Ro → Sto → Prop} {ns : List Int} {i : Nat} {x2 x3 x4 x5 x6 x7 x8 x9 x10 x11 x12 x13 : Option D} (hi0 : i < 1000) (hN : ∀ x2 x3 x4 x5 x6 x7 x8 x9 x10 x11 x12 x13 M', N [some (.rol (ns.map D.int)), some (.int i), x2, x3, x4, x5, x6, x7, x8, x9, x10, x11, x12, x13] M') : wS (ZdZ [some (.rol (ns.map D.int)), some (.int i), x2, x3, x4, x5, x6, x7, x8, x9, x10, x11, x12, x13] M) N R B C E := by
  simp! [ZdZ, Zk1]
  refine CB.ZkN hi0 fun a b ha => ?_
  have B0 : Bag M.length (M ++ [.lst [.int a, .int b]]) := ⟨a, b, ha, by simp⟩
  generalize M ++ [SO.lst [.int a, .int b]] = M0 at *
  generalize M.length = n at *
  simp! [ZnV]
  refine CD.ZnF (by decide) B0 fun ss o M1 s1 s2 s3 s4 s5 g1 => ?_
  have sl := s1.len
  have hno : o ≠ n := by have := B0.lt; omega
  have s2' : Nr 200 ss := fun x hx => by have := s2 x hx; omega
  simp! [ZiX]
  refine ZiY g1.bag fun us ou M2 une ul ub oul u2 g2 => ?_
  have r2 := CA.Gr.up s5 g2 hno
  simp! [ZnX]
  refine ZnQ r2 s2' s1.ne (by omega) u2 une (by omega) fun M3 K3 t3 => ?_
  have B3 := K3.bag g2.bag
  have r3 := K3.get r2
  have ot : M2.length ≠ n := by have := g2.bag.lt; omega
  generalize M2.length = ott at *
  clear u2 r2 s5
  simp! [Zk2]
  refine CD.ZkT B3 fun a b c d p M4 tn pl v4 g4 => ?_
  have r4 := CA.Gr.up r3 g4 hno
  have t4 := CA.Gr.up t3 g4 ot
  have hpn : p ≠ n := by have := B3.lt; omega
  have lo4 := Zt r4
  simp! [r4, ZjF]
  refine CB.ZaZ g4.bag (by omega) fun st M5 st0 st1 g5 => ?_
  have r5 := CA.Gr.up r4 g5 hno
  have t5 := CA.Gr.up t4 g5 ot
  have v5 := CA.Gr.up v4 g5 hpn
  have tl : (nts (ZeD ss us)).length = ss.length := by rw [Zcp]; exact List.length_map _
  simp! [ZnW]
  refine CD.ZnK r5 t5 tl v5 tn s2 (by omega) (by omega) fun o1 o2 M6 K6 ol1 ol2 on r6 w6 => ?_
  have S := CD.ZnJ (k := st.toNat) s1 (by omega) tn.det
  have Nr' := CD.Zp4 (neg := decide (a * d - b * c < 0)) (k := st.toNat) s2 tn
  have ll : (CD.sg (decide (a * d - b * c < 0)) st.toNat (ss.map (CD.gg a b c d))).length = ss.length := by rw [CD.ZfF, List.length_map]
  have ow := Zk4 tn.det (neg := decide (a * d - b * c < 0)) (k := st.toNat) (rs := ss) (us := us)
  have en : sg (decide (a * d - b * c < 0)) st.toNat (nts (ZeD ss us)) = nts (sg (decide (a * d - b * c < 0)) st.toNat (ZeD ss us)) := ZhL
  rw [en] at w6
  have sm : ∀ t ∈ sg (decide (a * d - b * c < 0)) st.toNat (ZeD ss us), -42 ≤ t ∧ t ≤ 42 := by
    intro t ht
    obtain ⟨r, hr, rfl⟩ := List.mem_map.mp (Zn1 ht)
    obtain ⟨u, hu, e⟩ := (Zc6 (r := r) une).1
    rw [e]
    have h1 := s2 r hr
    have h2 := ub u hu
    have m1 := CA.Zga h2.1 h1.1
    have m2 := CA.Zga h2.2 h1.2
    unfold vU
    omega
  have une' : us.map (gs a b c d) ≠ [] := fun z => une (List.map_eq_nil_iff.mp z)
  have bp := Zk7 (us := us.map (gs a b c d)) S une'
  rw [← ow] at bp
  have lts : (sg (decide (a * d - b * c < 0)) st.toNat (ZeD ss us)).length = ss.length := by rw [ZfF]; exact List.length_map _
  generalize sg (decide (a * d - b * c < 0)) st.toNat (ZeD ss us) = ts at *
  generalize CD.sg (decide (a * d - b * c < 0)) st.toNat (ss.map (CD.gg a b c d)) = ls at *
  have B6 : Bag n M6 := K6.bag g5.bag
  have n1 : o1 ≠ n ∧ o2 ≠ n := by have := g5.bag.lt; omega
  clear r5 t5 v5 r4 t4 v4 r3 t3 ow en une' K6
  simp! [ZjF]
  refine CB.ZaZ B6 (by decide) fun pt M7 pt0 pt1 g7 => ?_
  have r7 := CA.Gr.up r6 g7 n1.1
  have w7 := CA.Gr.up w6 g7 n1.2
  clear r6 w6 B6
  obtain ⟨pn, hpn', pz, p3⟩ : ∃ pn : Nat, (1 + pt : Int) = pn ∧ pn ≠ 0 ∧ pn ≤ 3 := ⟨(1 + pt).toNat, by omega, by omega, by omega⟩
  simp! [Zs]
  rw [hpn']
  have rw1 {z : Int} {M : Sto} {Q : D → Sto → Prop} {E : Str → Sto → Prop} : wO (F_law_ratio [.int z, .int pn] M) Q E = Q (rt (Rat.normalize z pn pz)) M := by
    rw [ZhJ]
    exact CS.Zjv (k := 2) pz (by omega) (by decide)
  have lw7 := Zt w7
  refine Zjm (fun ρ => ∃ x, ρ = [x, some (.int pn)]) (fun (j : Nat) => rt (Rat.normalize (cn ts j) pn pz)) w7 (by rw [Zcp]; omega) ⟨_, rfl⟩ ?_ ?_
  · rintro j hj ρ L ⟨x, rfl⟩
    have e : (nts ts)[j] = D.int (cn ts j) := by rw [Zfz (by rw [Zcp] at hj; exact hj)]; simp [nts]
    rw [e]
    simp! [rw1]
    exact ⟨_, rfl⟩
  have em2 : (List.range (nts ts).length).map (fun (j : Nat) => rt (Rat.normalize (cn ts j) pn pz)) = rts (hq pz ts) := by
    rw [Zcp]
    refine ZeY (by rw [hq, List.length_map]) fun i hi => ?_
    rw [ZbY (by rw [hq, List.length_map]; exact hi), Zfz hi]
    simp [hq]
  rw [em2]
  have K8 : Kp M7 (M7 ++ [SO.lst (rts (hq pz ts))]) := Kp.app
  have d8 : (M7 ++ [SO.lst (rts (hq pz ts))])[M7.length]? = some (.lst (rts (hq pz ts))) := by simp
  generalize M7 ++ [SO.lst (rts (hq pz ts))] = M8 at *
  generalize M7.length = od at *
  have r8 := K8.get r7
  have w8 := K8.get w7
  have l8 := Zt r8
  have ld8 := Zt d8
  clear K8 r7 w7
  simp! [r8, d8]
  have K9 : Kp M8 (M8 ++ [SO.lst (prs ls), SO.lst (rts (hq pz ts))]) := Kp.app
  have h9 : (M8 ++ [SO.lst (prs ls), SO.lst (rts (hq pz ts))])[M8.length]? = some (.lst (prs ls)) := by rw [Zhg]; rfl
  have i9 : (M8 ++ [SO.lst (prs ls), SO.lst (rts (hq pz ts))])[M8.length + 1]? = some (.lst (rts (hq pz ts))) := by rw [ZmM]; rfl
  have r9 := K9.get r8
  have w9 := K9.get w8
  have d9 := K9.get d8
  generalize M8 ++ [SO.lst (prs ls), SO.lst (rts (hq pz ts))] = M9 at *
  generalize M8.length = oh at *
  have tne : ts ≠ [] := fun z => by rw [z] at lts; simp at lts; omega
  have hz : ∀ x ∈ hq pz ts, Sz 100 x := by
    intro x hx
    obtain ⟨t, ht, rfl⟩ := List.mem_map.mp hx
    have := sm t ht
    have p100 : (2 : Nat) ^ 100 = 1267650600228229401496703205376 := by decide +kernel
    exact CR.ZdL pz (by rw [p100]; omega) (by rw [p100]; omega)
  have p0 : (0 : Rat) < (pn : Rat) := by
    have : (0 : Rat) ≤ (pn : Rat) := Rat.natCast_nonneg
    have : (pn : Rat) ≠ 0 := fun z => pz (Rat.natCast_eq_zero_iff.mp z)
    grind
  have hbn : ∀ i : Int, 0 ≤ bnd ls (hq pz ts) i := by
    intro i
    rw [ZnZ pz tne]
    have := ZnO p0 (Rat.intCast_le_intCast.mpr (bp i))
    rw [Rat.div_def ((0 : Int) : Rat)] at this
    simp at this
    simpa using this
  refine Zc0 (fun j ρ M' => Kp M9 M' ∧ ∃ x12 x13, ρ = [some (.rol (ns.map D.int)), some (.int i), some (.ref n), some (.ref o), some (.ref ott), some (.ref p), some (.int st), some (.ref o1), some (.ref o2), some (.int pn), some (.ref od), some (.tup [.ref oh, .ref (oh + 1)]), x12, x13]) ⟨Kp.refl, _, _, rfl⟩ ?_ ?_
  · rintro j ρ M10 hj ⟨K10, x12, x13, rfl⟩
    simp! [Zs]
    refine ZiZ pz p3 S (by omega) Nr' (by omega) hz hbn (K10.get r9) (K10.get w9) (K10.get d9) (K10.get h9) (K10.get i9) fun x13 M11 K11 => ⟨K10.trans K11, _, _, rfl⟩
  · rintro ρ M10 ⟨K10, x12, x13, rfl⟩
    exact hN _ _ _ _ _ _ _ _ _ _ _ _ _
theorem law_true (ns : List Int) (h : ns.length ≤ 63) : ∃ M', Zfe [.rol (ns.map D.int)] [] = .ok (.bl true) M' := by
  have w : wO (Zfe [.rol (ns.map D.int)] []) (fun d _ => d = .bl true) (fun _ _ => False) := by
    simp! [Zfe, ZnS]
    refine ⟨by omega, ?_⟩
    refine Zc0 (fun _ ρ _ => ∃ x1 x2 x3 x4 x5 x6 x7 x8 x9 x10 x11 x12 x13, ρ = [some (.rol (ns.map D.int)), x1, x2, x3, x4, x5, x6, x7, x8, x9, x10, x11, x12, x13]) ⟨_, _, _, _, _, _, _, _, _, _, _, _, _, rfl⟩ ?_ ?_
    · rintro i ρ M hi ⟨x1, x2, x3, x4, x5, x6, x7, x8, x9, x10, x11, x12, x13, rfl⟩
      rw [show (0 : Int) + (i : Int) = i by omega]
      simp! [Zs]
      exact Zk8 (by omega) fun _ _ _ _ _ _ _ _ _ _ _ _ _ => ⟨_, _, _, _, _, _, _, _, _, _, _, _, _, rfl⟩
    · rintro ρ M ⟨x1, x2, x3, x4, x5, x6, x7, x8, x9, x10, x11, x12, x13, rfl⟩
      simp! [Zs]
  obtain ⟨d, M', e, rfl⟩ := Zha w
  exact ⟨M', e⟩
end
end K48
end
set_option Elab.async false
set_option linter.all false
set_option maxRecDepth 100000
set_option maxHeartbeats 4000000
namespace K48
open PySem PySem.Spec L2 DL
abbrev zz1 (P : Params) (s : String) (n : Nat) (v : Value) : DictEntry := { hash := PyData.keyHash P (Str.ofString s), key := Value.str (Str.ofString s) n, val := v }
abbrev zz2 (x : Array Value) : Obj := { cls := Value.type "code", data := Data.fields x }
abbrev zz3 (s : String) (n : Nat) : Value := Value.str (Str.ofString s) n
abbrev zz4 (n : Int) : Value := Value.int n 0
noncomputable def fO (n : Str) (st : Stmt) (cd : Nat) (m : Str) (t : Nat) : Obj := ⟨.type "function", none, .func (PySem.W.fnOf n n (Zr st) (Zp st) (Zg st) .none .none .none (.str m t) none (.ref cd) .none), #[]⟩
noncomputable def ZbF (p : Program) (i : Nat) : Stmt := p.main.body.getD i (.Pass ⟨0, 0, 0, 0⟩)
noncomputable def Kf (p : Program) (P : Params) : PySem.W.Frag := [(3, { cls := Value.type "dict", data := Data.dict #[zz1 P "__name__" 165 (zz3 "law_rayround_k48_corners_and_back" 465), zz1 P "__doc__" 166 (Value.none), zz1 P "__package__" 167 (Value.none), zz1 P "__loader__" 168 (Value.builtin "__main__.__loader__#opaque"), zz1 P "__spec__" 169 (Value.none), zz1 P "__annotations__" 170 (Value.ref 6), zz1 P "__builtins__" 171 (Value.ref 4), zz1 P "__file__" 173 (zz3 "/claim/cut.py" 172), zz1 P "__cached__" 174 (Value.none), zz1 P "RayError" 206 (Value.ref 24), zz1 P "NoRatio" 222 (Value.ref 37), zz1 P "NotSmooth" 238 (Value.ref 49), zz1 P "NoHeight" 254 (Value.ref 61), zz1 P "NoBend" 270 (Value.ref 73), zz1 P "is_whole" 279 (Value.ref 82), zz1 P "greatest_divisor" 289 (Value.ref 89), zz1 P "crossed" 299 (Value.ref 96), zz1 P "following" 309 (Value.ref 103), zz1 P "unspanned" 318 (Value.ref 110), zz1 P "ask_smooth" 326 (Value.ref 117), zz1 P "numbers" 334 (Value.ref 122), zz1 P "ratio" 345 (Value.ref 129), zz1 P "plus" 353 (Value.ref 136), zz1 P "minus" 361 (Value.ref 143), zz1 P "times" 369 (Value.ref 150), zz1 P "less" 377 (Value.ref 157), zz1 P "greatest" 386 (Value.ref 164), zz1 P "ask_height" 396 (Value.ref 171), zz1 P "bends" 409 (Value.ref 178), zz1 P "sloped" 417 (Value.ref 185), zz1 P "slope_through" 431 (Value.ref 192), zz1 P "bends_inwards" 439 (Value.ref 197), zz1 P "contrary" 446 (Value.ref 204), zz1 P "corners" 458 (Value.ref 211), zz1 P "height_of" 464 (Value.ref 216), zz1 P "_law_purse" 476 (Value.ref 223), zz1 P "_law_take" 485 (Value.ref 230), zz1 P "_law_short_put" 494 (Value.ref 237), zz1 P "_law_base" 500 (Value.ref 242), zz1 P "_law_table" 506 (Value.ref 247), zz1 P "_law_spun" 512 (Value.ref 252), zz1 P "_law_ratio" 522 (Value.ref 259), zz1 P "_law_hull" 528 (Value.ref 264), zz1 P "_law_points" 538 (Value.ref 271), zz1 P "_law_bends" 552 (Value.ref 278), zz1 P "_law_is_ratio" 559 (Value.ref 285), zz1 P "_law_good" 565 (Value.ref 290), zz1 P "law" 571 (Value.ref 295)] 48 }),
  (82, fO "is_whole" (ZbF p 7) 81 "rayround.wholes" 271),
  (81, zz2 #[zz3 "is_whole" 273, zz3 "is_whole" 274, zz3 "/claim/cut.py" 275, zz4 13, zz4 1, zz4 0, zz4 0, zz4 3, Value.ref 76, Value.bool true, zz4 181, Value.ref 77, Value.none, Value.ref 78, Value.ref 79, Value.ref 80, zz4 277, zz4 13, zz3 "/claim/cut.py" 278]),
  (89, fO "greatest_divisor" (ZbF p 8) 88 "rayround.wholes" 271),
  (88, zz2 #[zz3 "greatest_divisor" 280, zz3 "greatest_divisor" 281, zz3 "/claim/cut.py" 282, zz4 15, zz4 2, zz4 0, zz4 0, zz4 3, Value.ref 83, Value.bool true, zz4 181, Value.ref 84, Value.none, Value.ref 85, Value.ref 86, Value.ref 87, zz4 287, zz4 15, zz3 "/claim/cut.py" 288]),
  (96, fO "crossed" (ZbF p 10) 95 "rayround.pairs" 290),
  (95, zz2 #[zz3 "crossed" 292, zz3 "crossed" 293, zz3 "/claim/cut.py" 294, zz4 21, zz4 2, zz4 0, zz4 0, zz4 3, Value.ref 90, Value.bool true, zz4 181, Value.ref 91, Value.none, Value.ref 92, Value.ref 93, Value.ref 94, zz4 297, zz4 21, zz3 "/claim/cut.py" 298]),
  (103, fO "following" (ZbF p 12) 102 "rayround.rounds" 300),
  (102, zz2 #[zz3 "following" 302, zz3 "following" 303, zz3 "/claim/cut.py" 304, zz4 24, zz4 2, zz4 0, zz4 0, zz4 3, Value.ref 97, Value.bool true, zz4 181, Value.ref 98, Value.none, Value.ref 99, Value.ref 100, Value.ref 101, zz4 307, zz4 24, zz3 "/claim/cut.py" 308]),
  (110, fO "unspanned" (ZbF p 13) 109 "rayround.rounds" 300),
  (109, zz2 #[zz3 "unspanned" 310, zz3 "unspanned" 311, zz3 "/claim/cut.py" 312, zz4 26, zz4 1, zz4 0, zz4 0, zz4 3, Value.ref 104, Value.bool true, zz4 181, Value.ref 105, Value.none, Value.ref 106, Value.ref 107, Value.ref 108, zz4 316, zz4 26, zz3 "/claim/cut.py" 317]),
  (117, fO "ask_smooth" (ZbF p 14) 116 "rayround.rounds" 300),
  (116, zz2 #[zz3 "ask_smooth" 319, zz3 "ask_smooth" 320, zz3 "/claim/cut.py" 321, zz4 31, zz4 1, zz4 0, zz4 0, zz4 3, Value.ref 111, Value.bool true, zz4 181, Value.ref 112, Value.none, Value.ref 113, Value.ref 114, Value.ref 115, zz4 324, zz4 31, zz3 "/claim/cut.py" 325]),
  (122, fO "numbers" (ZbF p 16) 121 "rayround.numbers" 327),
  (121, zz2 #[zz3 "numbers" 329, zz3 "numbers" 330, zz3 "/claim/cut.py" 331, zz4 36, zz4 1, zz4 0, zz4 0, zz4 3, Value.ref 118, Value.bool true, zz4 181, Value.ref 119, Value.none, Value.none, Value.none, Value.ref 120, zz4 332, zz4 36, zz3 "/claim/cut.py" 333]),
  (129, fO "ratio" (ZbF p 18) 128 "rayround.ratios" 335),
  (128, zz2 #[zz3 "ratio" 337, zz3 "ratio" 338, zz3 "/claim/cut.py" 339, zz4 40, zz4 2, zz4 0, zz4 0, zz4 3, Value.ref 123, Value.bool true, zz4 181, Value.ref 124, Value.none, Value.ref 125, Value.ref 126, Value.ref 127, zz4 343, zz4 40, zz3 "/claim/cut.py" 344]),
  (136, fO "plus" (ZbF p 19) 135 "rayround.ratios" 335),
  (135, zz2 #[zz3 "plus" 346, zz3 "plus" 347, zz3 "/claim/cut.py" 348, zz4 49, zz4 2, zz4 0, zz4 0, zz4 3, Value.ref 130, Value.bool true, zz4 181, Value.ref 131, Value.none, Value.ref 132, Value.ref 133, Value.ref 134, zz4 351, zz4 49, zz3 "/claim/cut.py" 352]),
  (143, fO "minus" (ZbF p 20) 142 "rayround.ratios" 335),
  (142, zz2 #[zz3 "minus" 354, zz3 "minus" 355, zz3 "/claim/cut.py" 356, zz4 51, zz4 2, zz4 0, zz4 0, zz4 3, Value.ref 137, Value.bool true, zz4 181, Value.ref 138, Value.none, Value.ref 139, Value.ref 140, Value.ref 141, zz4 359, zz4 51, zz3 "/claim/cut.py" 360]),
  (150, fO "times" (ZbF p 21) 149 "rayround.ratios" 335),
  (149, zz2 #[zz3 "times" 362, zz3 "times" 363, zz3 "/claim/cut.py" 364, zz4 53, zz4 2, zz4 0, zz4 0, zz4 3, Value.ref 144, Value.bool true, zz4 181, Value.ref 145, Value.none, Value.ref 146, Value.ref 147, Value.ref 148, zz4 367, zz4 53, zz3 "/claim/cut.py" 368]),
  (157, fO "less" (ZbF p 22) 156 "rayround.ratios" 335),
  (156, zz2 #[zz3 "less" 370, zz3 "less" 371, zz3 "/claim/cut.py" 372, zz4 55, zz4 2, zz4 0, zz4 0, zz4 3, Value.ref 151, Value.bool true, zz4 181, Value.ref 152, Value.none, Value.ref 153, Value.ref 154, Value.ref 155, zz4 375, zz4 55, zz3 "/claim/cut.py" 376]),
  (164, fO "greatest" (ZbF p 23) 163 "rayround.ratios" 335),
  (163, zz2 #[zz3 "greatest" 378, zz3 "greatest" 379, zz3 "/claim/cut.py" 380, zz4 57, zz4 1, zz4 0, zz4 0, zz4 3, Value.ref 158, Value.bool true, zz4 181, Value.ref 159, Value.none, Value.ref 160, Value.ref 161, Value.ref 162, zz4 384, zz4 57, zz3 "/claim/cut.py" 385]),
  (171, fO "ask_height" (ZbF p 25) 170 "rayround.heights" 387),
  (170, zz2 #[zz3 "ask_height" 389, zz3 "ask_height" 390, zz3 "/claim/cut.py" 391, zz4 64, zz4 2, zz4 0, zz4 0, zz4 3, Value.ref 165, Value.bool true, zz4 181, Value.ref 166, Value.none, Value.ref 167, Value.ref 168, Value.ref 169, zz4 394, zz4 64, zz3 "/claim/cut.py" 395]),
  (178, fO "bends" (ZbF p 26) 177 "rayround.heights" 387),
  (177, zz2 #[zz3 "bends" 397, zz3 "bends" 398, zz3 "/claim/cut.py" 399, zz4 67, zz4 2, zz4 0, zz4 0, zz4 3, Value.ref 172, Value.bool true, zz4 181, Value.ref 173, Value.none, Value.ref 174, Value.ref 175, Value.ref 176, zz4 407, zz4 67, zz3 "/claim/cut.py" 408]),
  (185, fO "sloped" (ZbF p 27) 184 "rayround.heights" 387),
  (184, zz2 #[zz3 "sloped" 410, zz3 "sloped" 411, zz3 "/claim/cut.py" 412, zz4 75, zz4 2, zz4 0, zz4 0, zz4 3, Value.ref 179, Value.bool true, zz4 181, Value.ref 180, Value.none, Value.ref 181, Value.ref 182, Value.ref 183, zz4 415, zz4 75, zz3 "/claim/cut.py" 416]),
  (192, fO "slope_through" (ZbF p 28) 191 "rayround.heights" 387),
  (191, zz2 #[zz3 "slope_through" 418, zz3 "slope_through" 419, zz3 "/claim/cut.py" 420, zz4 77, zz4 2, zz4 0, zz4 0, zz4 3, Value.ref 186, Value.bool true, zz4 181, Value.ref 187, Value.none, Value.ref 188, Value.ref 189, Value.ref 190, zz4 429, zz4 77, zz3 "/claim/cut.py" 430]),
  (197, fO "bends_inwards" (ZbF p 30) 196 "rayround.corners" 432),
  (196, zz2 #[zz3 "bends_inwards" 434, zz3 "bends_inwards" 435, zz3 "/claim/cut.py" 436, zz4 82, zz4 2, zz4 0, zz4 0, zz4 3, Value.ref 193, Value.bool true, zz4 181, Value.ref 194, Value.none, Value.none, Value.none, Value.ref 195, zz4 437, zz4 82, zz3 "/claim/cut.py" 438]),
  (204, fO "contrary" (ZbF p 31) 203 "rayround.corners" 432),
  (203, zz2 #[zz3 "contrary" 440, zz3 "contrary" 441, zz3 "/claim/cut.py" 442, zz4 84, zz4 1, zz4 0, zz4 0, zz4 3, Value.ref 198, Value.bool true, zz4 181, Value.ref 199, Value.none, Value.ref 200, Value.ref 201, Value.ref 202, zz4 444, zz4 84, zz3 "/claim/cut.py" 445]),
  (211, fO "corners" (ZbF p 32) 210 "rayround.corners" 432),
  (210, zz2 #[zz3 "corners" 447, zz3 "corners" 448, zz3 "/claim/cut.py" 449, zz4 86, zz4 2, zz4 0, zz4 0, zz4 3, Value.ref 205, Value.bool true, zz4 181, Value.ref 206, Value.none, Value.ref 207, Value.ref 208, Value.ref 209, zz4 456, zz4 86, zz3 "/claim/cut.py" 457]),
  (216, fO "height_of" (ZbF p 33) 215 "rayround.corners" 432),
  (215, zz2 #[zz3 "height_of" 459, zz3 "height_of" 460, zz3 "/claim/cut.py" 461, zz4 94, zz4 2, zz4 0, zz4 0, zz4 3, Value.ref 212, Value.bool true, zz4 181, Value.ref 213, Value.none, Value.none, Value.none, Value.ref 214, zz4 462, zz4 94, zz3 "/claim/cut.py" 463]),
  (223, fO "_law_purse" (ZbF p 35) 222 "law_rayround_k48_corners_and_back" 465),
  (222, zz2 #[zz3 "_law_purse" 467, zz3 "_law_purse" 468, zz3 "/claim/cut.py" 469, zz4 98, zz4 2, zz4 0, zz4 0, zz4 3, Value.ref 217, Value.bool true, zz4 181, Value.ref 218, Value.none, Value.ref 219, Value.ref 220, Value.ref 221, zz4 474, zz4 98, zz3 "/claim/cut.py" 475]),
  (230, fO "_law_take" (ZbF p 36) 229 "law_rayround_k48_corners_and_back" 465),
  (229, zz2 #[zz3 "_law_take" 477, zz3 "_law_take" 478, zz3 "/claim/cut.py" 479, zz4 104, zz4 2, zz4 0, zz4 0, zz4 3, Value.ref 224, Value.bool true, zz4 181, Value.ref 225, Value.none, Value.ref 226, Value.ref 227, Value.ref 228, zz4 483, zz4 104, zz3 "/claim/cut.py" 484]),
  (237, fO "_law_short_put" (ZbF p 37) 236 "law_rayround_k48_corners_and_back" 465),
  (236, zz2 #[zz3 "_law_short_put" 486, zz3 "_law_short_put" 487, zz3 "/claim/cut.py" 488, zz4 111, zz4 2, zz4 0, zz4 0, zz4 3, Value.ref 231, Value.bool true, zz4 181, Value.ref 232, Value.none, Value.ref 233, Value.ref 234, Value.ref 235, zz4 492, zz4 111, zz3 "/claim/cut.py" 493]),
  (242, fO "_law_base" (ZbF p 38) 241 "law_rayround_k48_corners_and_back" 465),
  (241, zz2 #[zz3 "_law_base" 495, zz3 "_law_base" 496, zz3 "/claim/cut.py" 497, zz4 114, zz4 2, zz4 0, zz4 0, zz4 3, Value.ref 238, Value.bool true, zz4 181, Value.ref 239, Value.none, Value.none, Value.none, Value.ref 240, zz4 498, zz4 114, zz3 "/claim/cut.py" 499]),
  (247, fO "_law_table" (ZbF p 39) 246 "law_rayround_k48_corners_and_back" 465),
  (246, zz2 #[zz3 "_law_table" 501, zz3 "_law_table" 502, zz3 "/claim/cut.py" 503, zz4 123, zz4 1, zz4 0, zz4 0, zz4 3, Value.ref 243, Value.bool true, zz4 181, Value.ref 244, Value.none, Value.none, Value.none, Value.ref 245, zz4 504, zz4 123, zz3 "/claim/cut.py" 505]),
  (252, fO "_law_spun" (ZbF p 40) 251 "law_rayround_k48_corners_and_back" 465),
  (251, zz2 #[zz3 "_law_spun" 507, zz3 "_law_spun" 508, zz3 "/claim/cut.py" 509, zz4 136, zz4 4, zz4 0, zz4 0, zz4 3, Value.ref 248, Value.bool true, zz4 181, Value.ref 249, Value.none, Value.none, Value.none, Value.ref 250, zz4 510, zz4 136, zz3 "/claim/cut.py" 511]),
  (259, fO "_law_ratio" (ZbF p 41) 258 "law_rayround_k48_corners_and_back" 465),
  (258, zz2 #[zz3 "_law_ratio" 513, zz3 "_law_ratio" 514, zz3 "/claim/cut.py" 515, zz4 142, zz4 2, zz4 0, zz4 0, zz4 3, Value.ref 253, Value.bool true, zz4 181, Value.ref 254, Value.none, Value.ref 255, Value.ref 256, Value.ref 257, zz4 520, zz4 142, zz3 "/claim/cut.py" 521]),
  (264, fO "_law_hull" (ZbF p 42) 263 "law_rayround_k48_corners_and_back" 465),
  (263, zz2 #[zz3 "_law_hull" 523, zz3 "_law_hull" 524, zz3 "/claim/cut.py" 525, zz4 147, zz4 2, zz4 0, zz4 0, zz4 3, Value.ref 260, Value.bool true, zz4 181, Value.ref 261, Value.none, Value.none, Value.none, Value.ref 262, zz4 526, zz4 147, zz3 "/claim/cut.py" 527]),
  (271, fO "_law_points" (ZbF p 43) 270 "law_rayround_k48_corners_and_back" 465),
  (270, zz2 #[zz3 "_law_points" 529, zz3 "_law_points" 530, zz3 "/claim/cut.py" 531, zz4 149, zz4 2, zz4 0, zz4 0, zz4 3, Value.ref 265, Value.bool true, zz4 181, Value.ref 266, Value.none, Value.ref 267, Value.ref 268, Value.ref 269, zz4 536, zz4 149, zz3 "/claim/cut.py" 537]),
  (278, fO "_law_bends" (ZbF p 44) 277 "law_rayround_k48_corners_and_back" 465),
  (277, zz2 #[zz3 "_law_bends" 539, zz3 "_law_bends" 540, zz3 "/claim/cut.py" 541, zz4 154, zz4 2, zz4 0, zz4 0, zz4 3, Value.ref 272, Value.bool true, zz4 181, Value.ref 273, Value.none, Value.ref 274, Value.ref 275, Value.ref 276, zz4 550, zz4 154, zz3 "/claim/cut.py" 551]),
  (285, fO "_law_is_ratio" (ZbF p 45) 284 "law_rayround_k48_corners_and_back" 465),
  (284, zz2 #[zz3 "_law_is_ratio" 553, zz3 "_law_is_ratio" 554, zz3 "/claim/cut.py" 555, zz4 162, zz4 1, zz4 0, zz4 0, zz4 3, Value.ref 279, Value.bool true, zz4 181, Value.ref 280, Value.none, Value.ref 281, Value.ref 282, Value.ref 283, zz4 557, zz4 162, zz3 "/claim/cut.py" 558]),
  (290, fO "_law_good" (ZbF p 46) 289 "law_rayround_k48_corners_and_back" 465),
  (289, zz2 #[zz3 "_law_good" 560, zz3 "_law_good" 561, zz3 "/claim/cut.py" 562, zz4 166, zz4 4, zz4 0, zz4 0, zz4 3, Value.ref 286, Value.bool true, zz4 181, Value.ref 287, Value.none, Value.none, Value.none, Value.ref 288, zz4 563, zz4 166, zz3 "/claim/cut.py" 564]),
  (295, fO "law" (ZbF p 47) 294 "law_rayround_k48_corners_and_back" 465),
  (294, zz2 #[zz3 "law" 566, zz3 "law" 567, zz3 "/claim/cut.py" 568, zz4 188, zz4 1, zz4 0, zz4 0, zz4 3, Value.ref 291, Value.bool true, zz4 181, Value.ref 292, Value.none, Value.none, Value.none, Value.ref 293, zz4 569, zz4 188, zz3 "/claim/cut.py" 570]),
  (23, { cls := Value.type "dict", data := Data.dict #[zz1 P "__module__" 196 (zz3 "rayround.errors" 187), zz1 P "__firstlineno__" 200 (Value.int 2 199), zz1 P "__static_attributes__" 201 (Value.ref 22), zz1 P "__weakref__" 203 (Value.ref 25), zz1 P "__doc__" 204 (Value.none)] 3 }),
  (24, { cls := Value.type "type", data := Data.cls { name := Str.ofString "RayError", bases := [Value.type "ValueError"], mro := [Value.ref 24, Value.type "ValueError", Value.type "Exception", Value.type "BaseException", Value.type "object"], ns := 23, qualname := Str.ofString "RayError", subclasses := [Value.ref 37, Value.ref 49, Value.ref 61, Value.ref 73] }, slots := #[some (Value.ref 15), none, some (zz3 "RayError" 189), some (zz3 "RayError" 197), some (Value.builtin "ValueError.__new__"), some (Value.bool true)] }),
  (36, { cls := Value.type "dict", data := Data.dict #[zz1 P "__module__" 214 (zz3 "rayround.errors" 187), zz1 P "__firstlineno__" 218 (Value.int 4 217), zz1 P "__static_attributes__" 219 (Value.ref 35), zz1 P "__doc__" 220 (Value.none)] 2 }),
  (37, { cls := Value.type "type", data := Data.cls { name := Str.ofString "NoRatio", bases := [Value.ref 24], mro := [Value.ref 37, Value.ref 24, Value.type "ValueError", Value.type "Exception", Value.type "BaseException", Value.type "object"], ns := 36, qualname := Str.ofString "NoRatio" }, slots := #[some (Value.ref 28), none, some (zz3 "NoRatio" 207), some (zz3 "NoRatio" 215), some (Value.builtin "ValueError.__new__"), some (Value.bool true)] }),
  (48, { cls := Value.type "dict", data := Data.dict #[zz1 P "__module__" 230 (zz3 "rayround.errors" 187), zz1 P "__firstlineno__" 234 (Value.int 6 233), zz1 P "__static_attributes__" 235 (Value.ref 47), zz1 P "__doc__" 236 (Value.none)] 2 }),
  (49, { cls := Value.type "type", data := Data.cls { name := Str.ofString "NotSmooth", bases := [Value.ref 24], mro := [Value.ref 49, Value.ref 24, Value.type "ValueError", Value.type "Exception", Value.type "BaseException", Value.type "object"], ns := 48, qualname := Str.ofString "NotSmooth" }, slots := #[some (Value.ref 40), none, some (zz3 "NotSmooth" 223), some (zz3 "NotSmooth" 231), some (Value.builtin "ValueError.__new__"), some (Value.bool true)] }),
  (60, { cls := Value.type "dict", data := Data.dict #[zz1 P "__module__" 246 (zz3 "rayround.errors" 187), zz1 P "__firstlineno__" 250 (Value.int 8 249), zz1 P "__static_attributes__" 251 (Value.ref 59), zz1 P "__doc__" 252 (Value.none)] 2 }),
  (61, { cls := Value.type "type", data := Data.cls { name := Str.ofString "NoHeight", bases := [Value.ref 24], mro := [Value.ref 61, Value.ref 24, Value.type "ValueError", Value.type "Exception", Value.type "BaseException", Value.type "object"], ns := 60, qualname := Str.ofString "NoHeight" }, slots := #[some (Value.ref 52), none, some (zz3 "NoHeight" 239), some (zz3 "NoHeight" 247), some (Value.builtin "ValueError.__new__"), some (Value.bool true)] }),
  (72, { cls := Value.type "dict", data := Data.dict #[zz1 P "__module__" 262 (zz3 "rayround.errors" 187), zz1 P "__firstlineno__" 266 (Value.int 10 265), zz1 P "__static_attributes__" 267 (Value.ref 71), zz1 P "__doc__" 268 (Value.none)] 2 }),
  (73, { cls := Value.type "type", data := Data.cls { name := Str.ofString "NoBend", bases := [Value.ref 24], mro := [Value.ref 73, Value.ref 24, Value.type "ValueError", Value.type "Exception", Value.type "BaseException", Value.type "object"], ns := 72, qualname := Str.ofString "NoBend" }, slots := #[some (Value.ref 64), none, some (zz3 "NoBend" 255), some (zz3 "NoBend" 263), some (Value.builtin "ValueError.__new__"), some (Value.bool true)] })]
noncomputable def asK : List Addr := [3, 82, 81, 89, 88, 96, 95, 103, 102, 110, 109, 117, 116, 122, 121, 129, 128, 136, 135, 143, 142, 150, 149, 157, 156, 164, 163, 171, 170, 178, 177, 185, 184, 192, 191, 197, 196, 204, 203, 211, 210, 216, 215, 223, 222, 230, 229, 237, 236, 242, 241, 247, 246, 252, 251, 259, 258, 264, 263, 271, 270, 278, 277, 285, 284, 290, 289, 295, 294, 23, 24, 36, 37, 48, 49, 60, 61, 72, 73]
theorem Zn3 (p : Program) (P : Params) : asK = (Kf p P).map (·.1) := rfl
noncomputable def qf (p : Program) : Program := { p with main := { p.main with body := [ZbF p 47] } }
noncomputable def lo : List Str := [("__name__" : Str), ("RayError" : Str), ("NoRatio" : Str), ("NotSmooth" : Str), ("NoHeight" : Str), ("NoBend" : Str), ("is_whole" : Str), ("greatest_divisor" : Str), ("crossed" : Str), ("following" : Str), ("unspanned" : Str), ("ask_smooth" : Str), ("numbers" : Str), ("ratio" : Str), ("plus" : Str), ("minus" : Str), ("times" : Str), ("less" : Str), ("greatest" : Str), ("ask_height" : Str), ("bends" : Str), ("sloped" : Str), ("slope_through" : Str), ("bends_inwards" : Str), ("contrary" : Str), ("corners" : Str), ("height_of" : Str), ("_law_purse" : Str), ("_law_take" : Str), ("_law_short_put" : Str), ("_law_base" : Str), ("_law_table" : Str), ("_law_spun" : Str), ("_law_ratio" : Str), ("_law_hull" : Str), ("_law_points" : Str), ("_law_bends" : Str), ("_law_is_ratio" : Str), ("_law_good" : Str)]
theorem Zst {l : PySem.W.OpenLaw} {q : Program} {loose : List Str} {XP : (Str → Option Value) → Heap → Prop} {YP : World → Heap → Prop} {d : DefRec} {K : Params → PySem.W.Frag} (hn : l.most = some 63) (hdf : d.params.defaults = [])
    (hY : ∀ (w : World) (h : Heap), YP w h → (K w.params).In h)
    (F : ∀ (w : World) (mg : Str → Option Value) (fa : Addr) (h : Heap), (K w.params).In h → h.Ns mainGlobals mg → mg d.name = some (.ref fa) →
      ∃ fd : FuncData, (∀ (s : Shared) (u : Value), BindsTo s fd ⟨[u], []⟩ [("_law_script", u)]) ∧ ∀ base : Heap, (K w.params).In base → base.Ns mainGlobals mg → FnOk l.prog w (K w.params) mg base (CXE l.prog w) 107 fa fd ["_law_script"] (spD (K w.params) Zfe)) :
    PySem.W.WalkO q loose XP YP l.row.toRowW d [] (fun f vs => PySem.call f vs) :=
  L2.Zj2 (n := 63) (k := 107) (x := "_law_script") (CX := fun w => CXE l.prog w) (sp := fun w => spD (K w.params) Zfe) hn (by decide) hdf ⟨fun _ => rfl, by decide, by decide⟩ hY F (fun _ _ a ns hl hO hS => DL.Zl6 hl hO hS (law_true ns hl)) fun _ _ _ _ _ ⟨_, _, _, _, _, _, _, _, _, _, _, _, _, q⟩ => q
end K48
open PySem PySem.W PyProof.Rows
lay_quick PySem.Challenge.pw_rayround_k48_corners_and_back
namespace K48
noncomputable abbrev Hk : Hook := kHook (Kf PySem.Challenge.pw_rayround_k48_corners_and_back) asK (Zn3 PySem.Challenge.pw_rayround_k48_corners_and_back)
noncomputable def Xs (s : Shared) : Bool := xlAt (qf PySem.Challenge.pw_rayround_k48_corners_and_back) [] s && recOk (RowW.records (OpenRow.toRowW (OpenLaw.row PySem.Challenge.rw_rayround_k48_corners_and_back))) s
set_option maxRecDepth 1000000 in
set_option maxHeartbeats 0 in
theorem ZoE (w : World) (os : OsState) : (HD.Zn7 through (HD.Ziw (stepOk 11 (some (.ref 6))) (stepT (denote treeTable) PySem.Challenge.pw_rayround_k48_corners_and_back w)) 2177 (HD.T0 w os) (topStub PySem.Challenge.pw_rayround_k48_corners_and_back)).map (fun s => ((staticsOk (importedModules PySem.Challenge.pw_rayround_k48_corners_and_back.main.body) (boot_heap w.params) s.abs.heap && namesBound PySem.Challenge.pw_rayround_k48_corners_and_back s.abs.heap && gensDone s.abs && laidKept (boot_heap w.params) s.abs.heap),
    openSeen (qf PySem.Challenge.pw_rayround_k48_corners_and_back) lo (importedModules PySem.Challenge.pw_rayround_k48_corners_and_back.main.body) (fun s => xlAt (qf PySem.Challenge.pw_rayround_k48_corners_and_back) [] s && recOk [] s) true s.abs, asK.map s.abs.heap.get?)) = some (true, openGood (qf PySem.Challenge.pw_rayround_k48_corners_and_back) lo, (Kf PySem.Challenge.pw_rayround_k48_corners_and_back w.params).map fun x => some x.2) := by
  rw [HD.ZoF, HD.Zkn, HD.Zmp, HD.Zmq, HD.Zko, HD.Zmr, PySem.W.Fast.te4847932788827439891]
  kernel_rfl
end K48
set_option maxRecDepth 1000000 in
set_option maxHeartbeats 0 in
theorem PySem.Challenge.cw_rayround_k48_corners_and_back_holds : PySem.Challenge.rw_rayround_k48_corners_and_back.Holds := by
  w_on; o_law
  refine holds_open (q := K48.qf PySem.Challenge.pw_rayround_k48_corners_and_back) (loose := K48.lo) (Xt := fun s => xlAt (K48.qf PySem.Challenge.pw_rayround_k48_corners_and_back) [] s && recOk [] s) (XP := XL (K48.qf PySem.Challenge.pw_rayround_k48_corners_and_back) []) (Yf := Hook.obs K48.Hk) (Ya := Hook.val K48.Hk) (YP := Hook.says K48.Hk) (N := 2777) ?hl (Hook.of K48.Hk) (Hook.keeps K48.Hk) (fun s e => xl_of s (Bool.and_eq_true_iff.mp e).1) XL.keeps (by rfl) (by rfl) (by rfl) (fun s e => recFacts_of (Bool.and_eq_true_iff.mp e).2) (by rfl) (by first | assumption | decide +kernel) (by decide +kernel) ⟨rfl, rfl, rfl, rfl, rfl, by decide +kernel⟩ ?hw ?hc
  case hl => exact HD.Zg9 rfl (by decide) (fun s => rfl) (by decide) K48.ZoE
  case hw => w_witness2
  case hc =>
    refine K48.Zst (l := PySem.Challenge.rw_rayround_k48_corners_and_back) rfl rfl (fun w h Y => PySem.W.kIn_of Y) ?F
    intro w mg fa h KX G hmg
    refine K48.ZnU (f1 := 82) (od1 := none) (an1 := none) (sl1 := #[]) (oc1 := .type "function") (kV1 := .none) (dc1 := .none) (pm1 := .str "rayround.wholes" 271) (cd1 := .ref 81) (ct1 := .none) (f2 := 89) (od2 := none) (an2 := none) (sl2 := #[]) (oc2 := .type "function") (kV2 := .none) (dc2 := .none) (pm2 := .str "rayround.wholes" 271) (cd2 := .ref 88) (ct2 := .none) (f3 := 96) (od3 := none) (an3 := none) (sl3 := #[]) (oc3 := .type "function") (kV3 := .none) (dc3 := .none) (pm3 := .str "rayround.pairs" 290) (cd3 := .ref 95) (ct3 := .none) (f4 := 103) (od4 := none) (an4 := none) (sl4 := #[]) (oc4 := .type "function") (kV4 := .none) (dc4 := .none) (pm4 := .str "rayround.rounds" 300) (cd4 := .ref 102) (ct4 := .none) (f5 := 110) (od5 := none) (an5 := none) (sl5 := #[]) (oc5 := .type "function") (kV5 := .none) (dc5 := .none) (pm5 := .str "rayround.rounds" 300) (cd5 := .ref 109) (ct5 := .none) (f6 := 117) (od6 := none) (an6 := none) (sl6 := #[]) (oc6 := .type "function") (kV6 := .none) (dc6 := .none) (pm6 := .str "rayround.rounds" 300) (cd6 := .ref 116) (ct6 := .none) (f7 := 122) (od7 := none) (an7 := none) (sl7 := #[]) (oc7 := .type "function") (kV7 := .none) (dc7 := .none) (pm7 := .str "rayround.numbers" 327) (cd7 := .ref 121) (ct7 := .none) (f8 := 129) (od8 := none) (an8 := none) (sl8 := #[]) (oc8 := .type "function") (kV8 := .none) (dc8 := .none) (pm8 := .str "rayround.ratios" 335) (cd8 := .ref 128) (ct8 := .none) (f9 := 136) (od9 := none) (an9 := none) (sl9 := #[]) (oc9 := .type "function") (kV9 := .none) (dc9 := .none) (pm9 := .str "rayround.ratios" 335) (cd9 := .ref 135) (ct9 := .none) (f10 := 143) (od10 := none) (an10 := none) (sl10 := #[]) (oc10 := .type "function") (kV10 := .none) (dc10 := .none) (pm10 := .str "rayround.ratios" 335) (cd10 := .ref 142) (ct10 := .none) (f11 := 150) (od11 := none) (an11 := none) (sl11 := #[]) (oc11 := .type "function") (kV11 := .none) (dc11 := .none) (pm11 := .str "rayround.ratios" 335) (cd11 := .ref 149) (ct11 := .none) (f12 := 157) (od12 := none) (an12 := none) (sl12 := #[]) (oc12 := .type "function") (kV12 := .none) (dc12 := .none) (pm12 := .str "rayround.ratios" 335) (cd12 := .ref 156) (ct12 := .none) (f13 := 164) (od13 := none) (an13 := none) (sl13 := #[]) (oc13 := .type "function") (kV13 := .none) (dc13 := .none) (pm13 := .str "rayround.ratios" 335) (cd13 := .ref 163) (ct13 := .none) (f14 := 171) (od14 := none) (an14 := none) (sl14 := #[]) (oc14 := .type "function") (kV14 := .none) (dc14 := .none) (pm14 := .str "rayround.heights" 387) (cd14 := .ref 170) (ct14 := .none) (f15 := 178) (od15 := none) (an15 := none) (sl15 := #[]) (oc15 := .type "function") (kV15 := .none) (dc15 := .none) (pm15 := .str "rayround.heights" 387) (cd15 := .ref 177) (ct15 := .none) (f16 := 185) (od16 := none) (an16 := none) (sl16 := #[]) (oc16 := .type "function") (kV16 := .none) (dc16 := .none) (pm16 := .str "rayround.heights" 387) (cd16 := .ref 184) (ct16 := .none) (f17 := 192) (od17 := none) (an17 := none) (sl17 := #[]) (oc17 := .type "function") (kV17 := .none) (dc17 := .none) (pm17 := .str "rayround.heights" 387) (cd17 := .ref 191) (ct17 := .none) (f18 := 197) (od18 := none) (an18 := none) (sl18 := #[]) (oc18 := .type "function") (kV18 := .none) (dc18 := .none) (pm18 := .str "rayround.corners" 432) (cd18 := .ref 196) (ct18 := .none) (f19 := 204) (od19 := none) (an19 := none) (sl19 := #[]) (oc19 := .type "function") (kV19 := .none) (dc19 := .none) (pm19 := .str "rayround.corners" 432) (cd19 := .ref 203) (ct19 := .none) (f20 := 211) (od20 := none) (an20 := none) (sl20 := #[]) (oc20 := .type "function") (kV20 := .none) (dc20 := .none) (pm20 := .str "rayround.corners" 432) (cd20 := .ref 210) (ct20 := .none) (f21 := 216) (od21 := none) (an21 := none) (sl21 := #[]) (oc21 := .type "function") (kV21 := .none) (dc21 := .none) (pm21 := .str "rayround.corners" 432) (cd21 := .ref 215) (ct21 := .none) (f22 := 223) (od22 := none) (an22 := none) (sl22 := #[]) (oc22 := .type "function") (kV22 := .none) (dc22 := .none) (pm22 := .str "law_rayround_k48_corners_and_back" 465) (cd22 := .ref 222) (ct22 := .none) (f23 := 230) (od23 := none) (an23 := none) (sl23 := #[]) (oc23 := .type "function") (kV23 := .none) (dc23 := .none) (pm23 := .str "law_rayround_k48_corners_and_back" 465) (cd23 := .ref 229) (ct23 := .none) (f24 := 237) (od24 := none) (an24 := none) (sl24 := #[]) (oc24 := .type "function") (kV24 := .none) (dc24 := .none) (pm24 := .str "law_rayround_k48_corners_and_back" 465) (cd24 := .ref 236) (ct24 := .none) (f25 := 242) (od25 := none) (an25 := none) (sl25 := #[]) (oc25 := .type "function") (kV25 := .none) (dc25 := .none) (pm25 := .str "law_rayround_k48_corners_and_back" 465) (cd25 := .ref 241) (ct25 := .none) (f26 := 247) (od26 := none) (an26 := none) (sl26 := #[]) (oc26 := .type "function") (kV26 := .none) (dc26 := .none) (pm26 := .str "law_rayround_k48_corners_and_back" 465) (cd26 := .ref 246) (ct26 := .none) (f27 := 252) (od27 := none) (an27 := none) (sl27 := #[]) (oc27 := .type "function") (kV27 := .none) (dc27 := .none) (pm27 := .str "law_rayround_k48_corners_and_back" 465) (cd27 := .ref 251) (ct27 := .none) (f28 := 259) (od28 := none) (an28 := none) (sl28 := #[]) (oc28 := .type "function") (kV28 := .none) (dc28 := .none) (pm28 := .str "law_rayround_k48_corners_and_back" 465) (cd28 := .ref 258) (ct28 := .none) (f29 := 264) (od29 := none) (an29 := none) (sl29 := #[]) (oc29 := .type "function") (kV29 := .none) (dc29 := .none) (pm29 := .str "law_rayround_k48_corners_and_back" 465) (cd29 := .ref 263) (ct29 := .none) (f30 := 271) (od30 := none) (an30 := none) (sl30 := #[]) (oc30 := .type "function") (kV30 := .none) (dc30 := .none) (pm30 := .str "law_rayround_k48_corners_and_back" 465) (cd30 := .ref 270) (ct30 := .none) (f31 := 278) (od31 := none) (an31 := none) (sl31 := #[]) (oc31 := .type "function") (kV31 := .none) (dc31 := .none) (pm31 := .str "law_rayround_k48_corners_and_back" 465) (cd31 := .ref 277) (ct31 := .none) (f32 := 285) (od32 := none) (an32 := none) (sl32 := #[]) (oc32 := .type "function") (kV32 := .none) (dc32 := .none) (pm32 := .str "law_rayround_k48_corners_and_back" 465) (cd32 := .ref 284) (ct32 := .none) (f33 := 290) (od33 := none) (an33 := none) (sl33 := #[]) (oc33 := .type "function") (kV33 := .none) (dc33 := .none) (pm33 := .str "law_rayround_k48_corners_and_back" 465) (cd33 := .ref 289) (ct33 := .none) (f34 := 295) (od34 := none) (an34 := none) (sl34 := #[]) (oc34 := .type "function") (kV34 := .none) (dc34 := .none) (pm34 := .str "law_rayround_k48_corners_and_back" 465) (cd34 := .ref 294) (ct34 := .none) KX G hmg ?a1 ?l1 ?c1 ?k1 ?a2 ?l2 ?c2 ?k2 ?a3 ?l3 ?c3 ?k3 ?a4 ?l4 ?c4 ?k4 ?a5 ?l5 ?c5 ?k5 ?a6 ?l6 ?c6 ?k6 ?a7 ?l7 ?c7 ?k7 ?a8 ?l8 ?c8 ?k8 ?a9 ?l9 ?c9 ?k9 ?a10 ?l10 ?c10 ?k10 ?a11 ?l11 ?c11 ?k11 ?a12 ?l12 ?c12 ?k12 ?a13 ?l13 ?c13 ?k13 ?a14 ?l14 ?c14 ?k14 ?a15 ?l15 ?c15 ?k15 ?a16 ?l16 ?c16 ?k16 ?a17 ?l17 ?c17 ?k17 ?a18 ?l18 ?c18 ?k18 ?a19 ?l19 ?c19 ?k19 ?a20 ?l20 ?c20 ?k20 ?a21 ?l21 ?c21 ?k21 ?a22 ?l22 ?c22 ?k22 ?a23 ?l23 ?c23 ?k23 ?a24 ?l24 ?c24 ?k24 ?a25 ?l25 ?c25 ?k25 ?a26 ?l26 ?c26 ?k26 ?a27 ?l27 ?c27 ?k27 ?a28 ?l28 ?c28 ?k28 ?a29 ?l29 ?c29 ?k29 ?a30 ?l30 ?c30 ?k30 ?a31 ?l31 ?c31 ?k31 ?a32 ?l32 ?c32 ?k32 ?a33 ?l33 ?c33 ?k33 ?a34 ?l34 ?c34 ?k34 ?z_isinstance ?z_int ?z_bool ?z_abs ?z_len ?z_enumerate ?z_range ?z_any ?z_max ?z_zip ?z_list ?z_reversed ?z_tuple ?z_all ?z_min ?q_ex_NotSmooth ?q_ex_NoRatio ?q_ex_NoHeight ?q_ex_NoBend
    all_goals kernel_rfl
