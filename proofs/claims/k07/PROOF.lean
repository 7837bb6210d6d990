import PyProof.Rows.All
import Wide.All
import OpenK.AllK
import Wide.FinOn
import KE.KTupSum
import KE.DataMinMax
import KE.GoesMore
import KE.GoesEnum
import HandS.Base
import HandS.Call
import HandS.List
import HandS.Comp
import HandS.Dict
import HandS.Iter
import HandS.ForMost
import HandS.ForExc
import HandS.IsInst
import HandS.Wide
import HandS.Walk
import HandS.Defaults
import HandS.EndBits
import HandS.Flow
import Lean
import KE.KStateDown
import HandS.Head0
import HandS.Head1
import HandS.Head2
import HandS.HeadEnd
import HandS.HeadHook1
import HandS.HeadHook2
import HandS.Style
import HandS.SetFor
import HandS.Codes
import KE.KIndexOf
import HandS.Deep
import HandS.HeadHook4
import HandS.TupLe
import PyProof.Rows.SortShell
import HandS.TryOnly
import HandS.HotCalls
import HandS.Nested
import HandS.ExcCtx
import HandS.CallSlots
import HandS.ExcIs
import HandS.HeadWalk
import HandS.NestedK
import PySem.Challenge.RW_kindmeets_k07_refused
set_option Elab.async false
set_option linter.all false
set_option maxRecDepth 100000
set_option maxHeartbeats 4000000
/-! Rules of our own over the layer: sum and max of a tuple of ints, enumerate of a tuple, products of very great ints. -/
namespace Km
open PySem PySem.Spec PyProof.Rows L2

def CMulX (i j : Int) : Prop := i.natAbs.log2 + j.natAbs.log2 < 134000000
theorem CMulX.ok {i j : Int} (h : CMulX i j) : IntMulOk i j := by
  have b : ∀ x : Int, Builtin.Int.intBits x ≤ x.natAbs.log2 + 1 := fun x => by
    unfold Builtin.Int.intBits
    split <;> omega
  have h1 := b i
  have h2 := b j
  have h3 : i.natAbs.log2 + j.natAbs.log2 < 134000000 := h
  have e : bitsLine = 134217728 := by decide
  unfold IntMulOk
  intro z
  rw [Bool.and_eq_true] at z
  have z2 := z.2
  unfold Builtin.Int.intTooBig at z2
  have z3 := of_decide_eq_true z2
  rw [e] at z3
  omega
section
variable {X : Cx}
theorem op_mulX : OpR X (binaryOp .Mult) (rI CMulX fun i j => .int (i * j)) := opI fun _ _ _ _ _ _ _ hc q => mul_int q hc.ok

def rSumT (K : PySem.W.Frag) : List V → Hp → VK → Prop := fun vs H Q => ∃ (a : Addr) (ns : List Int), vs = [V.ref a] ∧ SqT K H a (ns.map V.int) ∧ Q (.int ns.sum) H
theorem cr_sumT (hc : X.calm = true) : CallR X (.builtin "sum") (rSumT X.K) := by
  intro pins s σ H vs us Q I r h
  obtain ⟨a, ns, rfl, hs, q⟩ := h
  obtain ⟨its, rv, hl, _⟩ := I.tuple hs
  rw [Vals.ref1 r]
  have hi := rv.ints
  obtain ⟨xs, e⟩ := hi.allInts.items
  have hn : PySem.numsOf (PySem.intItems xs).toList = ns := by rw [← e]; exact hi.numsOf
  rw [PySem.nums_intItems] at hn
  rw [e] at hl
  refine PySem.W.ktm_sumG (I.ok.hd hc) hl fun h' tk t' hk => ⟨.int _, H, I.kept hk, ⟨_, rfl⟩, ?_⟩
  rw [PySem.preSum_eq, List.take_of_length_le (by simp), hn]
  exact q
def rMaxT (K : PySem.W.Frag) : List V → Hp → VK → Prop := fun vs H Q => ∃ (a : Addr) (ns : List Int), vs = [V.ref a] ∧ SqT K H a (ns.map V.int) ∧ 0 < ns.length ∧ ∀ m, m ∈ ns → (∀ y, y ∈ ns → y ≤ m) → Q (.int m) H
end
section
variable {prog : Program} {w : World} {A : Around} {E : Value → Shared → Prop} {s : Shared} {l : Addr} {xs : Array (Int × Tok)}
theorem max_tupG {Q : Value → Shared → Prop} (hh : A.handled = none) (hl : s.heap.IsTuple l (PySem.intItems xs)) (hne : 0 < xs.size)
    (h : ∀ v h' tk, (PySem.intItems xs)[PySem.argBest (fun i j => decide (PySem.numAt xs i > PySem.numAt xs j)) (xs.size - 1)]? = some v → (∀ b o, s.heap.get? b = some o → h'.get? b = some o) → Q v { s with heap := h', toks := tk }) :
    wpAny (model prog w) A (call (.builtin "max") [.ref l]) Q E s := by
  obtain ⟨o, ho, _⟩ := id hl
  have hlt : l < s.heap.objs.size := Heap.lt_size ho
  refine PySem.call_max_walk (wpAny_pyIter_tuple hl ?_)
  refine ⟨_, _, _, _, _, _, _, rfl, Walks.tuple (A := A.in1) hh _ l (Nat.ne_of_lt hlt) (PySem.intItems xs), ⟨⟨_, Heap.get?_push_size _ rfl, rfl, rfl⟩, hl.push _⟩, ?_, by simpa [PySem.intItems] using hne, PySem.CmpOf.ints_gt (PySem.numAt xs) (fun _ _ => PySem.intItems_at), fun v h' tk hP hk => ?_⟩
  · intro b hb
    show b < (s.heap.push _).objs.size
    rw [Heap.size_push]
    rcases List.mem_cons.mp hb with rfl | hb
    · exact Nat.lt_succ_self _
    · rcases List.mem_cons.mp hb with rfl | hb
      · exact Nat.lt_succ_of_lt hlt
      · cases hb
  · refine h v h' tk (by simpa [PySem.intItems] using hP) fun b o e => hk b o ?_ (Heap.get?_push_of_some _ e)
    exact fun hb => absurd (Heap.lt_size e) ((List.mem_singleton.mp hb) ▸ Nat.lt_irrefl _)
end
section
variable {X : Cx}
theorem cr_maxT (hc : X.calm = true) : CallR X (.builtin "max") (rMaxT X.K) := by
  intro pins s σ H vs us Q I r h
  obtain ⟨a, ns, rfl, hs, hne, q⟩ := h
  obtain ⟨its, rv, hl, _⟩ := I.tuple hs
  rw [Vals.ref1 r]
  have hi := rv.ints
  obtain ⟨xs, e⟩ := hi.allInts.items
  have hn : PySem.numsOf (PySem.intItems xs).toList = ns := by rw [← e]; exact hi.numsOf
  rw [PySem.nums_intItems] at hn
  subst hn
  rw [e] at hl
  have hsz : 0 < xs.size := by simpa using hne
  refine max_tupG (I.ok.hd hc) hl hsz fun v h' tk hv hk => ?_
  obtain ⟨t, rfl⟩ := PySem.intItems_at hv
  obtain ⟨h1, h2⟩ := PySem.argBest_gt (PySem.numAt xs) (xs.size - 1)
  refine ⟨.int _, H, I.kept hk, ⟨_, rfl⟩, q _ ?_ fun a ha => ?_⟩
  · rw [PySem.numAt_eq]; exact PySem.getD_mem (by rw [List.length_map, Array.length_toList]; omega)
  · obtain ⟨j, hj, rfl⟩ := PySem.mem_getD ha
    rw [List.length_map, Array.length_toList] at hj
    rw [← PySem.numAt_eq]; exact h2 j (by omega)
end
end Km

set_option Elab.async false
set_option linter.all false
set_option maxRecDepth 100000
set_option maxHeartbeats 4000000
namespace Km
open PySem PySem.Spec PyProof.Rows L2
open PySem.Sem (wp)
set_option maxHeartbeats 4000000 in
theorem meets_enumerate_new1 {v : Value} {o : Obj} {H : Heap → Prop} (B : Begins v o H) :
    Meets (Builtin.«enumerate.__new__» ⟨[.type "enumerate", v], []⟩) (fun _ R s => H s.heap ∧
      R (.ok (.ret (.ref (s.heap.push o).objs.size))) { s with heap := (s.heap.push o).push { cls := .type "enumerate", data := .fields #[.none, .bool false, .ref s.heap.objs.size, rawInt 0, .none, .none] } }) :=
  .of_wp fun prog w A R s h => by
    obtain ⟨hp, g, d, tk, os⟩ := s; obtain ⟨h1, h⟩ := h
    have hsub := sub_enumerate
    have q1 : ∀ {A' : Around} {E : Value → Shared → Prop} {Q : Value → Shared → Prop}, Q (.ref hp.objs.size) ⟨hp.push o, g, d, tk, os⟩ → wpAny (model prog w) A' (pyIter v) Q E ⟨hp, g, d, tk, os⟩ :=
      fun q => B.iter prog w _ _ ⟨hp, g, d, tk, os⟩ _ h1 q
    wp_walk using q1
    refine wpAny_stack_any fun st => wpAny_pure ?_
    split
    · rename_i c _ _ _ _ _
      cases (c == Value.type "enumerate")
      · wp_walk using q1
        exact ⟨_, rfl, h⟩
      · wp_walk using q1
        exact ⟨_, rfl, h⟩
    · wp_walk using q1
      exact ⟨_, rfl, h⟩
section
variable {prog : Program} {w : World} {A : Around} {E : Value → Shared → Prop} {s : Shared}
theorem enum_begins1 {v : Value} {o : Obj} {H : Heap → Prop} {Q : Value → Shared → Prop} (B : Begins v o H) (h1 : H s.heap)
    (h : ∀ h', IsEnum h' (s.heap.objs.size + 1) s.heap.objs.size 0 .none → h'.get? s.heap.objs.size = some o → h'.objs.size = s.heap.objs.size + 2 →
      (∀ b o, s.heap.get? b = some o → h'.get? b = some o) → Q (.ref (s.heap.objs.size + 1)) { s with heap := h' }) :
    wpAny (model prog w) A (call (.type "enumerate") [v]) Q E s := by
  refine callType_new F.called_enumerate (by decide) (F.typeCall_enumerate_1 _) (F.newCall_enumerate_1 _) (fun obj => F.args_object_init_2 obj _) F.entry_enumerate_new
    (meets_enumerate_new1 B) ⟨h1, ?_⟩
  have hz : (s.heap.push o).objs.size = s.heap.objs.size + 1 := Heap.size_push ..
  show _ ∧ _
  rw [hz]
  have he : IsEnum ((s.heap.push o).push { cls := .type "enumerate", data := .fields #[.none, .bool false, .ref s.heap.objs.size, rawInt 0, .none, .none] }) (s.heap.objs.size + 1) s.heap.objs.size 0 .none := by
    have := Heap.get?_push_size (s.heap.push o) (o := { cls := .type "enumerate", data := .fields #[.none, .bool false, .ref s.heap.objs.size, rawInt 0, .none, .none] }) rfl
    rw [hz] at this; exact this
  refine ⟨⟨_, he, rfl⟩, h _ he (Heap.get?_push_of_some _ (Heap.get?_push_size _ B.free)) (by rw [Heap.size_push, hz]) fun b o x => Heap.get?_push_of_some _ (Heap.get?_push_of_some _ x)⟩
end
end Km

set_option Elab.async false
set_option linter.all false
set_option maxRecDepth 100000
set_option maxHeartbeats 4000000
namespace Km
open PySem PySem.Spec PyProof.Rows L2
/-- enumerate over the tuple at a, each item in a new pair -/
def IteT (K : PySem.W.Frag) (a : Addr) : It :=
  ⟨fun i H => ∃ (xs : List V) (x : V), SqT K H a xs ∧ xs[i]? = some x, fun i H v H' => ∃ T x, v = .ref T ∧ H T = none ∧ H' = upd H T (.tup [.int (i : Nat), x]) ∧ ∀ xs, SqT K H a xs → xs[i]? = some x, fun i H => ∃ xs : List V, SqT K H a xs ∧ xs.length ≤ i⟩
theorem turn_enumT {P : Program} {w : World} {K : PySem.W.Frag} {elts : List Expr} {kk : Nat} {tpos : Pos} (a e it : Addr) :
    Turn P w K (.Tuple elts kk tpos) (IteT K a) [e, it] e (fun i h => (∃ old, IsEnum h e it ((i : Nat) : Int) old) ∧ h.IsTupleIter it a i ∧ e ≠ it) where
  mem := by simp
  obj := fun i h st b hb => by
    obtain ⟨⟨old, he⟩, ⟨o, ho, hc, hd⟩, _⟩ := st
    have e' : b = e ∨ b = it := by simpa using hb
    rcases e' with z | z
    · rw [z]; exact ⟨_, he, fun v q => nomatch q⟩
    · rw [z]; exact ⟨o, ho, fun v q => by rw [hd] at q; cases q⟩
  keep := fun i h h' st k => let ⟨⟨old, he⟩, hi, hne⟩ := st; ⟨⟨old, k e (by simp) _ he⟩, hi.at fun o q => k it (by simp) o q, hne⟩
  item := by
    intro X hP hw hK hc i pins s σ H E I hf st hg
    subst hP hw hK
    obtain ⟨⟨old, he⟩, hit, hne⟩ := st
    obtain ⟨xs, x, hq, hx⟩ := hg
    obtain ⟨its, rv, p, hz⟩ := I.tuple hq
    obtain ⟨u, hu, ru⟩ := rv.get hx
    have hel : e < s.heap.objs.size := Heap.lt_size he
    have hil : it < s.heap.objs.size := by obtain ⟨_, q, _⟩ := hit; exact Heap.lt_size q
    have hae : a ≠ e := fun z => by
      obtain ⟨o, ho, hcl, _⟩ := id p
      rw [z, he] at ho
      cases ho
      have q : Value.type "enumerate" = Value.type "tuple" := hcl
      injection q with q
      exact absurd q (by decide)
    have hai : a ≠ it := fun z => by
      obtain ⟨o, ho, hcl, _⟩ := id p
      obtain ⟨o2, ho2, hcl2, _⟩ := id hit
      rw [z, ho2] at ho
      cases ho
      have q : Value.type "tuple" = Value.type "tuple_iterator" := hcl.symm.trans hcl2
      injection q with q
      exact absurd q (by decide)
    have D : Draws X.prog X.w X.A.in1 it [it, a] its.toArray.size (fun i v => its.toArray[i]? = some v) (fun i h => h.IsTupleIter it a i ∧ h.IsTuple a its.toArray) := Draws.tuple (A := X.A.in1) (I.ok.hd hc) it a hai its.toArray
    have hlt : i < its.toArray.size := by
      have q := (List.getElem?_eq_some_iff.mp hu).1
      simpa using q
    refine wpAny_pyNext_enum_itemD D he ⟨hit, p⟩ hlt hne (by simp only [List.mem_cons, List.mem_nil_iff, or_false, not_or]; exact ⟨hne, Ne.symm hae⟩) fun x' h' tk hPx ho hst' hT hsz hk => ?_
    obtain ⟨hit', htup'⟩ := hst'
    have ex : x' = u := by
      have q : its[i]? = some x' := by simpa using hPx
      rw [hu] at q
      exact (Option.some.inj q).symm
    subst ex
    refine ⟨_, rfl, wpAny_letOwnedTupleGo_enum (s := { s with heap := h', toks := tk + 1 }) ho fun h'' he' sb => ?_⟩
    have hT2 : h''.get? s.heap.objs.size = some { cls := .type "tuple", data := .seq #[.int i tk, x'] } := (sb.2 _ (Nat.ne_of_gt hel)).trans hT
    have new : ObjOk X.prog X.w (upd H s.heap.objs.size (.tup [.int (i : Nat), x])) h'' s.heap.objs.size (.tup [.int (i : Nat), x]) :=
      ⟨by show 2 ≤ sizeLine; decide, [.int i tk, x'], .cons ⟨_, rfl⟩ (.cons ru .nil), ⟨_, hT2, rfl, _, rfl⟩⟩
    have I1 : Inv X pins σ (upd H s.heap.objs.size (.tup [.int (i : Nat), x])) { s with heap := h'', toks := tk + 1 } :=
      I.turnedNew (ch := [e, it]) (fun b ob hb q => (sb.2 b (fun z => hb (by simp [z]))).trans (hk b ob (fun z => hb (by simp [z])) (fun z => hb (by simp [z])) q)) hf (Nat.le_refl _) new
    refine ⟨.ref s.heap.objs.size, _, I1, rfl, ⟨_, x, rfl, I.hok.fresh (Nat.le_refl _), rfl, fun ys hy => by rw [I.tuple_inj hy hq]; exact hx⟩, ⟨⟨x', ?_⟩, hit'.at fun o q => (sb.2 it (Ne.symm hne)).trans q, hne⟩, fun b hb => ?_⟩
    · have e1 : ((i + 1 : Nat) : Int) = (i : Int) + 1 := by omega
      rw [e1]; exact he'
    · have hb' : b < s.heap.objs.size := by
        have e' : b = e ∨ b = it := by simpa using hb
        rcases e' with z | z
        · rw [z]; exact hel
        · rw [z]; exact hil
      rw [upd_ne (Nat.ne_of_lt hb')]
      exact (hf b hb).1
  done := by
    intro X hP hw hK hc i pins s σ H E I hf st hg
    subst hP hw hK
    obtain ⟨⟨old, he⟩, hit, hne⟩ := st
    obtain ⟨xs, hq, hx⟩ := hg
    obtain ⟨its, rv, p, hz⟩ := I.tuple hq
    obtain ⟨f0, f1, f2, f3, f4, f5⟩ := hf it (by simp)
    have hl := rv.length
    have hT : s.TypeIs (.ref e) "enumerate" := ⟨_, he, rfl⟩
    unfold pyNext
    refine wpAny_bind (wpAny_attempt (wpAny_callSpecial?_slot (name := Str.ofString "__next__") hT F.slot_enumerate_next
      (wpAny_call_entry F.slot_enumerate_next hT F.entry_enumerate_next ?_ (F.args_enumerate_next_1 _))))
    show wpAny _ _ (field (.ref e) 2 >>= _) _ _ _
    refine wpAny_bind (wpAny_field he rfl (x := .ref it) rfl ?_)
    refine wpAny_bind (wpAny_nextOf_tuple_end (A := X.A.in1) (I.ok.hd hc) hit p (by simp; omega) fun h' x he' hx' => ?_)
    obtain ⟨o, ho, hc⟩ := hx'
    refine wpAny_bind (wpAny_isInstance (T := "StopIteration") (b := true) ⟨o, ho, hc⟩ isSubtype_stop ?_)
    exact wpAny_pure ⟨rfl, I.turned (t' := s.toks) (fun b o hb q => he' b o hb q) f0 f1 f3 f4 f5⟩
  self := fun A i s Q E st h => let ⟨⟨_, he⟩, _⟩ := st; wpAny_pyIter_enum he h
def iEnumT (K : PySem.W.Frag) (ta : TA) : TI := fun σ H R => ta σ H fun vs H1 => ∃ a xs, vs = [.ref a] ∧ SqT K H1 a xs ∧ R (IteT K a) H1
theorem pi_enumT {X : Cx} {e : Expr} {ta : TA} {p pos tpos : Pos} {elts : List Expr} {kk : Nat} (hg : Gl X "enumerate") (hm : X.mg "enumerate" = none) (ha : PA X [e] ta) (hs : starEach [e] X.env = [(false, eval e X.env)] := by rfl) :
    PI X (.Tuple elts kk tpos) (.Call (.Name "enumerate" p) [e] [] pos) (iEnumT X.K ta) := by
  refine ⟨fun pins s σ H R I h => ?_⟩
  refine Call_ (ld_blt I hg hm boot_enumerate (PyProof.Rows.callWith_type1 (thn (ha.run pos pins s σ H _ I h) fun us s1 ⟨vs, H1, I1, r1, q1⟩ => ?_) hs rfl))
  obtain ⟨a, xs, ex, hq, q⟩ := q1
  subst ex
  cases r1 with
  | cons r rr =>
    cases rr
    cases r
    obtain ⟨its, rv, p', hz⟩ := I1.tuple hq
    refine enum_begins1 (begins_tuple a its.toArray) p' fun h' he hit hsz hk => wpAny_pyIter_enum he ?_
    have I2 : Inv X pins σ H1 { s1 with heap := h' } := I1.kept (t' := s1.toks) hk
    refine ⟨s1.heap.objs.size + 1, [s1.heap.objs.size + 1, s1.heap.objs.size], _, _, H1, rfl, I2, turn_enumT a (s1.heap.objs.size + 1) s1.heap.objs.size, ⟨⟨.none, he⟩, ⟨_, hit, rfl, rfl⟩, Nat.succ_ne_self _⟩, fun b hb => ?_, q⟩
    have e' : b = s1.heap.objs.size + 1 ∨ b = s1.heap.objs.size := by simpa using hb
    have hle : s1.heap.objs.size ≤ b := by
      rcases e' with z | z
      · rw [z]; exact Nat.le_add_right _ _
      · rw [z]; exact Nat.le_refl _
    exact I1.fpOk hle (I1.hok.fresh hle)
theorem walk_enumT {K : PySem.W.Frag} {a : Addr} {xs : List V} : (∀ i H, i < xs.length → SqT K H a xs → (IteT K a).go i H) ∧ (∀ H, SqT K H a xs → (IteT K a).stop xs.length H) ∧ ∀ i H v H', SqT K H a xs → (IteT K a).yld i H v H' → ∃ T x, v = .ref T ∧ H T = none ∧ H' = upd H T (.tup [.int (i : Nat), x]) ∧ xs[i]? = some x := by
  refine ⟨fun i _ hi q => ⟨xs, xs[i], q, by simp [hi]⟩, fun _ q => ⟨xs, q, Nat.le_refl _⟩, fun i H v H' q y => ?_⟩
  obtain ⟨T, x, h1, h2, h3, h4⟩ := y
  exact ⟨T, x, h1, h2, h3, h4 xs q⟩
end Km

set_option Elab.async false
set_option linter.all false
set_option maxRecDepth 100000
set_option maxHeartbeats 4000000
namespace Km
open PySem PySem.Spec PyProof.Rows L2
/-! ### defs of the text -/
abbrev FnP (K : PySem.W.Frag) (x : Str) (st : Stmt) (f : Addr) (fd : FuncData) : Prop := FunD K x x (defArgs st) (defBody st) (defScope st) [] [] f fd
structure At (K : PySem.W.Frag) (mg : Str → Option Value) (x : Str) (st : Stmt) (ps : List Str) (f : Addr) (fd : FuncData) : Prop where
  F : FnP K x st f fd
  g : mg x = some (.ref f)
  b : Binds K fd ps []
/-! ### heaps -/
theorem same_upd {H : Hp} {p : Addr} {o : HO} (h : H p = none) : Same H (upd H p o) := fun b x e => by
  rw [upd_ne (ne_of_none e h)]
  exact e
theorem tup_same {K : PySem.W.Frag} {H H' : Hp} {a : Addr} {xs : List V} (e : Same H H') (h : SqT K H a xs) : SqT K H' a xs := by
  rcases h with (h | ⟨o, h⟩) | h
  · exact .inl (.inl (e _ _ h))
  · exact .inl (.inr ⟨o, e _ _ h⟩)
  · exact .inr h
/-- H1 keeps what H0 has, whatever is stored at p, which H0 has not -/
theorem same_new {H0 H1 : Hp} {p : Addr} {o : HO} (s : Same H0 H1) (h : H0 p = none) : Same H0 (upd H1 p o) := fun b x e => by
  rw [upd_ne (ne_of_none e h)]
  exact s b x e
/-! ### builtins that the module does not bind -/
theorem ty_tup {K : PySem.W.Frag} {H : Hp} {a : Addr} {xs : List V} (h : SqT K H a xs) : TyX K H (.ref a) (.type "tuple") := by
  rcases h with (h | ⟨o, h⟩) | ⟨o, its, n, hk, hc, _⟩
  · exact .base (.tup h)
  · exact .fTuple h
  · exact .kTuple hk hc
/-- x is the kind n | x is no kind -/
def KX (K : PySem.W.Frag) (H : Hp) (x : V) (o : Option Int) : Prop :=
  (∃ n, x = .int n ∧ o = if 0 ≤ n ∧ n < 3 then some n else none) ∨ ∃ (t : Value) (b1 b2 : Bool), TyX K H x t ∧ PySem.W.kitOne K t (.type "int") = some b1 ∧ PySem.W.kitOne K t (.type "bool") = some b2 ∧ (b1 && !b2) = false ∧ o = none
theorem KX.int {K : PySem.W.Frag} {H : Hp} {n : Int} (h0 : 0 ≤ n) (h3 : n < 3) : KX K H (.int n) (some n) := .inl ⟨n, rfl, by rw [if_pos ⟨h0, h3⟩]⟩
/-- x is the count n, from 0 on | x is no count -/
def NX (K : PySem.W.Frag) (H : Hp) (x : V) (o : Option Int) : Prop :=
  (∃ n, x = .int n ∧ o = if 0 ≤ n then some n else none) ∨ ∃ (t : Value) (b1 b2 : Bool), TyX K H x t ∧ PySem.W.kitOne K t (.type "int") = some b1 ∧ PySem.W.kitOne K t (.type "bool") = some b2 ∧ (b1 && !b2) = false ∧ o = none
theorem NX.int {K : PySem.W.Frag} {H : Hp} {n : Int} (h0 : 0 ≤ n) : NX K H (.int n) (some n) := .inl ⟨n, rfl, by rw [if_pos h0]⟩
theorem NX.val {K : PySem.W.Frag} {H : Hp} {x : V} {n : Int} (h : NX K H x (some n)) : x = .int n ∧ 0 ≤ n := by
  rcases h with ⟨i, rfl, e⟩ | ⟨_, _, _, _, _, _, _, e⟩
  · split at e
    · rw [Option.some.inj e]; exact ⟨rfl, by assumption⟩
    · cases e
  · cases e
theorem KX.val {K : PySem.W.Frag} {H : Hp} {x : V} {n : Int} (h : KX K H x (some n)) : x = .int n ∧ 0 ≤ n ∧ n < 3 := by
  rcases h with ⟨i, rfl, e⟩ | ⟨_, _, _, _, _, _, _, e⟩
  · split at e
    · rw [Option.some.inj e]; exact ⟨rfl, by assumption⟩
    · cases e
  · cases e
/-- three counts, one bead at least -/
def okB : Option Int → Option Int → Option Int → Bool
  | some a, some b, some c => decide (0 < a + b + c)
  | _, _, _ => false
theorem okB_none {o1 o2 o3 : Option Int} {i : Nat} (h : [o1, o2, o3][i]? = some none) : okB o1 o2 o3 = false := by
  match i, h with
  | 0, h =>
    have e : o1 = none := Option.some.inj h
    rw [e]; rfl
  | 1, h =>
    have e : o2 = none := Option.some.inj h
    rw [e]; cases o1 <;> rfl
  | 2, h =>
    have e : o3 = none := Option.some.inj h
    rw [e]; cases o1 <;> cases o2 <;> rfl
  | n + 3, h => simp at h
/-- x is no tuple -/
def NoT (K : PySem.W.Frag) (H : Hp) (x : V) : Prop := ∃ t : Value, TyX K H x t ∧ PySem.W.kitOne K t (.type "tuple") = some false
structure Bl (mg : Str → Option Value) : Prop where
  range : mg "range" = none
  isi : mg "isinstance" = none
  lst : mg "list" = none
  all : mg "all" = none
  tup : mg "tuple" = none
  sum : mg "sum" = none
  len : mg "len" = none
  abs : mg "abs" = none
  enu : mg "enumerate" = none
  max : mg "max" = none
  int : mg "int" = none
  bool : mg "bool" = none
  any : mg "any" = none
  min : mg "min" = none
  str : mg "str" = none
  sorted : mg "sorted" = none
/-! ### three counts -/
/-- the triple at p -/
def Tr (K : PySem.W.Frag) (H : Hp) (p : Addr) (a b c : Int) : Prop := SqT K H p [.int a, .int b, .int c]
structure Ok3 (a b c : Int) : Prop where
  a0 : 0 ≤ a
  b0 : 0 ≤ b
  c0 : 0 ≤ c
  pos : 0 < a + b + c
def g3 (a b c k : Int) : Int := if k = 0 then a else if k = 1 then b else c
theorem at3 {a b c k : Int} (h0 : 0 ≤ k) (h3 : k < 3) : atI [V.int a, V.int b, V.int c] k = some (V.int (g3 a b c k)) := by
  have e : k = 0 ∨ k = 1 ∨ k = 2 := by omega
  rcases e with rfl | rfl | rfl <;> rfl
theorem Tr.same {K : PySem.W.Frag} {H H' : Hp} {p : Addr} {a b c : Int} (e : Same H H') (h : Tr K H p a b c) : Tr K H' p a b c := tup_same e h
/-- the meeting at q -/
def Mt (l h : Int) : Prop := (l = 0 ∧ h = 1) ∨ (l = 0 ∧ h = 2) ∨ (l = 1 ∧ h = 2)
def Pr (K : PySem.W.Frag) (H : Hp) (q : Addr) (l h : Int) : Prop := SqT K H q [.int l, .int h]
theorem Pr.same {K : PySem.W.Frag} {H H' : Hp} {p : Addr} {a b : Int} (e : Same H H') (h : Pr K H p a b) : Pr K H' p a b := tup_same e h
/-- a count behind a meeting -/
def mk (k x l h m : Int) : Int := if k = l ∨ k = h then x - 1 else x + m

/-- x are beads (b), or aren't -/
def BX (K : PySem.W.Frag) (H : Hp) (x : V) (b : Bool) : Prop := (NoT K H x ∧ b = false) ∨ (∃ (p : Addr) (xs : List V), x = .ref p ∧ SqT K H p xs ∧ xs.length ≠ 3 ∧ b = false) ∨
  ∃ (p : Addr) (x0 x1 x2 : V) (o0 o1 o2 : Option Int), x = .ref p ∧ SqT K H p [x0, x1, x2] ∧ NX K H x0 o0 ∧ NX K H x1 o1 ∧ NX K H x2 o2 ∧ b = okB o0 o1 o2
theorem BX.of {K : PySem.W.Frag} {H : Hp} {p : Addr} {a b c : Int} (h : Tr K H p a b c) (k : Ok3 a b c) : BX K H (.ref p) true :=
  .inr (.inr ⟨p, .int a, .int b, .int c, some a, some b, some c, rfl, h, NX.int k.a0, NX.int k.b0, NX.int k.c0, (decide_eq_true k.pos).symm⟩)
theorem BX.val {K : PySem.W.Frag} {H : Hp} {x : V} (h : BX K H x true) : ∃ p a b c, x = .ref p ∧ Tr K H p a b c ∧ Ok3 a b c := by
  rcases h with ⟨_, e⟩ | ⟨_, _, _, _, _, e⟩ | ⟨p, x0, x1, x2, o0, o1, o2, rfl, hs, k0, k1, k2, e⟩
  · cases e
  · cases e
  · cases o0 with
    | none => cases e
    | some a =>
      cases o1 with
      | none => cases e
      | some b =>
        cases o2 with
        | none => cases e
        | some c =>
          obtain ⟨rfl, a0⟩ := k0.val
          obtain ⟨rfl, b0⟩ := k1.val
          obtain ⟨rfl, c0⟩ := k2.val
          exact ⟨p, a, b, c, rfl, hs, a0, b0, c0, of_decide_eq_true e.symm⟩
def pairB : Option Int → Option Int → Bool
  | some n, some m => decide (n < m)
  | _, _ => false
/-- x is a pair of two unlike kinds, the lesser first (b), or isn't -/
def MX (K : PySem.W.Frag) (H : Hp) (x : V) (b : Bool) : Prop := (NoT K H x ∧ b = false) ∨ (∃ (p : Addr) (xs : List V), x = .ref p ∧ SqT K H p xs ∧ xs.length ≠ 2 ∧ b = false) ∨
  ∃ (p : Addr) (y z : V) (o1 o2 : Option Int), x = .ref p ∧ SqT K H p [y, z] ∧ KX K H y o1 ∧ KX K H z o2 ∧ b = pairB o1 o2
theorem MX.of {K : PySem.W.Frag} {H : Hp} {q : Addr} {l h : Int} (hq : Pr K H q l h) (m : Mt l h) : MX K H (.ref q) true := by
  have e : (0 ≤ l ∧ l < 3) ∧ (0 ≤ h ∧ h < 3) ∧ l < h := by unfold Mt at m; omega
  exact .inr (.inr ⟨q, .int l, .int h, some l, some h, rfl, hq, KX.int e.1.1 e.1.2, KX.int e.2.1.1 e.2.1.2, (decide_eq_true e.2.2).symm⟩)
theorem MX.val {K : PySem.W.Frag} {H : Hp} {x : V} (h : MX K H x true) : ∃ q l h, x = .ref q ∧ Pr K H q l h ∧ Mt l h := by
  rcases h with ⟨_, e⟩ | ⟨_, _, _, _, _, e⟩ | ⟨p, y, z, o1, o2, rfl, hs, k1, k2, e⟩
  · cases e
  · cases e
  · cases o1 with
    | none => cases e
    | some n =>
      cases o2 with
      | none => cases e
      | some m =>
        obtain ⟨rfl, n0, n3⟩ := k1.val
        obtain ⟨rfl, m0, m3⟩ := k2.val
        have lt : n < m := of_decide_eq_true e.symm
        exact ⟨p, n, m, rfl, hs, by unfold Mt; omega⟩
/-- a bead of each -/
def can (a b c l h : Int) : Bool := decide (0 < g3 a b c l) && decide (0 < g3 a b c h)

theorem can_iff {a b c l h : Int} : can a b c l h = true ↔ 0 < g3 a b c l ∧ 0 < g3 a b c h := by
  unfold can
  rw [Bool.and_eq_true, decide_eq_true_iff, decide_eq_true_iff]
/-- y is a meeting that can be (o), or isn't -/
def YX (K : PySem.W.Frag) (H : Hp) (a b c : Int) (y : V) (o : Bool) : Prop := (MX K H y false ∧ o = false) ∨ ∃ (q : Addr) (l h : Int), y = .ref q ∧ Pr K H q l h ∧ Mt l h ∧ o = can a b c l h
/-- the counts behind a meeting -/
def met (a b c l h m : Int) : List V := [.int (mk 0 a l h m), .int (mk 1 b l h m), .int (mk 2 c l h m)]
/-- the meetings that can be -/
def allM : List (Int × Int) := [(0, 1), (0, 2), (1, 2)]
def cans (a b c : Int) : List (Int × Int) := allM.filter fun p => can a b c p.1 p.2
/-- at L a list of new pairs (not there in H0) -/
def PairsAt (H0 H : Hp) (L : Addr) (ps : List (Int × Int)) : Prop := ∃ rs : List Addr, H L = some (.lst (rs.map V.ref)) ∧ Paired (fun r (p : Int × Int) => H0 r = none ∧ H r = some (.tup [.int p.1, .int p.2])) rs ps
/-- an own error of the text over ValueError -/
structure Ex (K : PySem.W.Frag) (mg : Str → Option Value) (x : Str) (C : Addr) : Prop where
  g : mg x = some (.ref C)
  x : PySem.W.excIn K C [.type "ValueError", .type "Exception", .type "BaseException", .type "object"] "ValueError.__new__" = true
  k : PySem.W.keepIn K (.ref C) = true
  b : PySem.W.subIn K (.ref C) (.type "BaseException") = some true
  t : PySem.W.typeIn K (.ref C) = some (.type "type")

theorem walkEnumT {K : PySem.W.Frag} {a : Addr} {xs : List V} : Walk (IteT K a) xs.length (fun H => SqT K H a xs) (YPair (fun i => some (.int (i : Nat))) (fun i => xs[i]?)) := by
  refine ⟨fun i _ hi q => ⟨xs, xs[i], q, by simp [hi]⟩, fun _ q => ⟨xs, q, Nat.le_refl _⟩, fun i H v H' _ q y => ?_⟩
  obtain ⟨T, x, h1, h2, h3, h4⟩ := y
  exact ⟨T, .int (i : Nat), x, h1, h2, h3, rfl, h4 xs q⟩
theorem take_next {α : Type} {xs : List α} {i : Nat} {x : α} (h : xs[i]? = some x) : xs.take i ++ [x] = xs.take (i + 1) := by
  rw [List.take_add_one, h]
  rfl
theorem met_at {a b c l h m : Int} {i : Nat} (hi : i < 3) {x : V} (hx : [V.int a, V.int b, V.int c][i]? = some x) : ∃ n : Int, x = .int n ∧ (met a b c l h m)[i]? = some (.int (mk (i : Int) n l h m)) := by
  match i, hi with
  | 0, _ => exact ⟨a, (Option.some.inj hx).symm, rfl⟩
  | 1, _ => exact ⟨b, (Option.some.inj hx).symm, rfl⟩
  | 2, _ => exact ⟨c, (Option.some.inj hx).symm, rfl⟩

theorem inV_pair {k l h : Int} : inV (.int k) [.int l, .int h] = true ↔ k = l ∨ k = h := by
  show ((l == k) || ((h == k) || false)) = true ↔ _
  rw [Bool.or_false, Bool.or_eq_true, beq_iff_eq, beq_iff_eq]
  constructor
  · rintro (e | e)
    · exact .inl e.symm
    · exact .inr e.symm
  · rintro (e | e)
    · exact .inl e.symm
    · exact .inr e.symm

theorem Paired.snoc {α β : Type} {R : α → β → Prop} {x : α} {y : β} (h : R x y) : ∀ {xs : List α} {ys : List β}, Paired R xs ys → Paired R (xs ++ [x]) (ys ++ [y])
  | _, _, .nil => .cons h .nil
  | _, _, .cons r t => .cons r (Paired.snoc h t)
theorem Paired.mono2 {α β : Type} {R S : α → β → Prop} (h : ∀ x y, R x y → S x y) : ∀ {xs : List α} {ys : List β}, Paired R xs ys → Paired S xs ys
  | _, _, .nil => .nil
  | _, _, .cons r t => .cons (h _ _ r) (Paired.mono2 h t)
theorem PairsAt.add {H0 H : Hp} {D p : Addr} {ps : List (Int × Int)} {l h : Int} (P : PairsAt H0 H D ps) (np : H p = none) (sm : Same H0 H) :
    ∃ acc : List V, (upd H p (.tup [.int l, .int h])) D = some (.lst acc) ∧ acc.length = ps.length ∧ PairsAt H0 (upd (upd H p (.tup [.int l, .int h])) D (.lst (acc ++ [.ref p]))) D (ps ++ [(l, h)]) := by
  obtain ⟨rs, hD, hp⟩ := P
  have nDp : D ≠ p := ne_of_none hD np
  refine ⟨rs.map V.ref, by rw [upd_ne nDp]; exact hD, by rw [List.length_map]; exact Paired.length hp, rs ++ [p], by rw [upd_same, List.map_append]; rfl, ?_⟩
  refine Paired.snoc ⟨sm.free np, by rw [upd_ne nDp.symm, upd_same]⟩ (Paired.mono2 (fun r q z => ⟨z.1, ?_⟩) hp)
  have n1 : r ≠ p := ne_of_none z.2 np
  have n2 : r ≠ D := ne_of z.2 hD (fun e => by cases e)
  rw [upd_ne n2, upd_ne n1]
  exact z.2
def st3 (i : Nat) : Nat := if i = 0 then 0 else if i = 1 then 2 else 3
theorem st3_next {i : Nat} (h : i < 3) : st3 i + (2 - i) = st3 (i + 1) := by
  have e : i = 0 ∨ i = 1 ∨ i = 2 := by omega
  rcases e with rfl | rfl | rfl <;> rfl
theorem allM_at {i j : Nat} (h : i < 3) (hj : j < 2 - i) : allM[st3 i + j]? = some ((i : Int), (i : Int) + 1 + (j : Int)) := by
  have e : (i = 0 ∧ j = 0) ∨ (i = 0 ∧ j = 1) ∨ (i = 1 ∧ j = 0) := by omega
  rcases e with ⟨rfl, rfl⟩ | ⟨rfl, rfl⟩ | ⟨rfl, rfl⟩ <;> rfl
theorem cans_step {a b c l h : Int} {k : Nat} (e : allM[k]? = some (l, h)) : (allM.take (k + 1)).filter (fun p => can a b c p.1 p.2) = (allM.take k).filter (fun p => can a b c p.1 p.2) ++ (if can a b c l h = true then [(l, h)] else []) := by
  rw [← take_next e, List.filter_append, List.filter_cons, List.filter_nil]

/-! ### data -/
theorem dpInts {K : PySem.W.Frag} {H : Hp} : ∀ ns : List Int, DpAll K H (ns.map V.int) (ns.map PyData.int)
  | [] => .nil
  | n :: ns => .cons (.int n) (dpInts ns)
theorem canLayInts : ∀ ns : List Int, PyData.canLayAll0 (ns.map PyData.int) = true
  | [] => by simp [PyData.canLayAll0]
  | n :: ns => by simp [PyData.canLayAll0, PyData.canLay0, canLayInts ns]
theorem depthInts : ∀ ns : List Int, PyData.depthAll (ns.map PyData.int) = 0
  | [] => by simp [PyData.depthAll]
  | n :: ns => by simp [PyData.depthAll, PyData.depth, depthInts ns]
theorem shaped_ints (ns : List Int) : SeqAt.shaped (.list (ns.map PyData.int)) = true := by
  unfold SeqAt.shaped
  rw [PyData.canLay0, PyData.depth, canLayInts, depthInts] <;> rfl
theorem shaped_tint (ns : List Int) : SeqAt.shaped (.tuple (ns.map PyData.int)) = true := by
  unfold SeqAt.shaped
  rw [PyData.canLay0, PyData.depth, canLayInts, depthInts] <;> rfl
theorem eqvInts : ∀ ns ms : List Int, PyData.eqvAll (ns.map PyData.int) (ms.map PyData.int) = decide (ns = ms)
  | [], [] => by simp [PyData.eqvAll]
  | [], _ :: _ => by simp [PyData.eqvAll]
  | _ :: _, [] => by simp [PyData.eqvAll]
  | n :: ns, m :: ms => by
    rw [List.map_cons, List.map_cons, PyData.eqvAll, PyData.eqv, eqvInts ns ms]
    by_cases e : n = m
    · subst e
      by_cases e2 : ns = ms
      · simp [e2]
      · simp [e2]
    · simp [e]
/-! ### sizes -/
def Sz (n : Nat) (x : Int) : Prop := x.natAbs < 2 ^ n
theorem Sz.mono {n m : Nat} {x : Int} (h : Sz n x) (k : n ≤ m) : Sz m x := Nat.lt_of_lt_of_le h (Nat.pow_le_pow_right (by decide) k)
theorem Sz.add {n : Nat} {x y : Int} (h : Sz n x) (k : Sz n y) : Sz (n + 1) (x + y) := by
  unfold Sz at *
  rw [Nat.pow_succ]
  omega
theorem Sz.mul {n m : Nat} {x y : Int} (h : Sz n x) (k : Sz m y) : Sz (n + m) (x * y) := by
  unfold Sz at *
  rw [Int.natAbs_mul, Nat.pow_add]
  exact Nat.mul_lt_mul'' h k
theorem Sz.cmul {n m : Nat} {x y : Int} (h : Sz n x) (k : Sz m y) (h0 : 0 < n) (k0 : 0 < m) (s : n + m ≤ 134000000) : CMulX x y := by
  have a := PySem.Flt.log2_lt_of h0 h
  have b := PySem.Flt.log2_lt_of k0 k
  unfold CMulX
  omega
theorem Sz.small {n : Nat} {x : Int} (h : -(2 ^ n : Int) < x) (k : x < (2 ^ n : Int)) : Sz n x := by
  unfold Sz
  have e : ((2 ^ n : Nat) : Int) = (2 : Int) ^ n := by simp
  omega
theorem sum_natAbs {n : Nat} : ∀ ns : List Int, (∀ z ∈ ns, Sz n z) → ns.sum.natAbs ≤ ns.length * 2 ^ n
  | [], _ => by simp
  | z :: ns, h => by
    have ih := sum_natAbs ns fun y hy => h y (List.mem_cons_of_mem _ hy)
    have hz : z.natAbs < 2 ^ n := h z List.mem_cons_self
    rw [List.sum_cons, List.length_cons, Nat.succ_mul]
    have q := Int.natAbs_add_le z ns.sum
    omega
theorem sum_sz {n : Nat} {ns : List Int} (h : ∀ z ∈ ns, Sz n z) (k : ns.length ≤ 63) : Sz (n + 6) ns.sum := by
  have a := sum_natAbs ns h
  unfold Sz
  have b : ns.length * 2 ^ n ≤ 63 * 2 ^ n := Nat.mul_le_mul_right _ k
  have c : 2 ^ (n + 6) = 64 * 2 ^ n := by rw [Nat.pow_add, Nat.mul_comm]
  have d : 0 < 2 ^ n := Nat.pow_pos (by decide)
  omega

theorem cut_all (xs : List V) (k : Nat) (h : xs.length ≤ k) : cutV xs none (some (k : Int)) = xs := by
  unfold cutV
  rw [HT.sIx_none, HT.sIx_nat, Nat.min_eq_right h, Nat.sub_zero, List.drop_zero, List.take_length]
theorem at_int {ms : List Int} {z : Int} (h0 : 0 ≤ z) (h1 : z < (ms.length : Int)) : ∃ m, m ∈ ms ∧ atI (ms.map V.int) z = some (.int m) := by
  have hl : z.toNat < ms.length := by omega
  refine ⟨ms[z.toNat], List.getElem_mem hl, at_of (j := z.toNat) (by omega) ?_⟩
  rw [List.getElem?_map, List.getElem?_eq_getElem hl]
  rfl
/-- the cells of the script: itself, or [5] -/
theorem rd_cells {K : PySem.W.Frag} {σ : L2.St} {H : Hp} {Q : VK} {p : Addr} {ns : List Int} {n : Nat} (h0 : σ[0]? = some (some (.ref p))) (hS : SqL K H p (ns.map V.int)) (hlen : ns.length ≤ 63) (hz : ∀ z ∈ ns, Sz n z)
    (k : ∀ (H' : Hp) (c : Addr) (ms : List Int), Same H H' → H c = none → H' c = some (.lst (ms.map V.int)) → ms ≠ [] → ms.length ≤ 63 → (∀ z ∈ ms, Sz (n + 3) z) → Q (.ref c) H') :
    tIf (tTest (tOp (rNeD K) (tVar 0) (tLst tNil))) (tSl (rSlL K) (tVar 0) tNoPart (tPart (tC (.int 63)))) (tLst (tCons (tC (.int 5)) tNil)) σ H Q := by
  refine ⟨_, h0, Nat.zero_le _, fun e he => ?_⟩
  have s1 : Same H (upd H e (.lst [])) := same_upd he
  refine ⟨.list (ns.map PyData.int), .list (([] : List Int).map PyData.int), .lst (s1.seq hS) (dpInts ns), .lst (.inl (.inl upd_same)) (dpInts []), shaped_ints ns, shaped_ints [], _, rfl, ite2 (fun z => ?_) (fun z => ?_)⟩
  · have hne : ns ≠ [] := fun q => by
      subst q
      exact absurd z (by simp [PyData.eqv, PyData.eqvAll])
    refine ⟨_, h0, 63, rfl, p, _, rfl, s1.seq hS, fun c hc => ?_⟩
    rw [show cutV (ns.map V.int) none (some 63) = ns.map V.int from cut_all (ns.map V.int) 63 (by rw [List.length_map]; exact hlen)]
    exact k _ c ns (s1.trans (same_upd hc)) (s1.free hc) upd_same hne hlen fun z hz' => (hz z hz').mono (by omega)
  · refine ⟨(by show 1 ≤ sizeLine; decide), fun c hc => ?_⟩
    refine k _ c [5] (s1.trans (same_upd hc)) (s1.free hc) upd_same (by simp) (by decide) fun z hz' => ?_
    obtain rfl := List.mem_singleton.mp hz'
    exact Sz.mono (n := 3) (.small (by decide) (by decide)) (by omega)

theorem Paired.get {α β : Type} {R : α → β → Prop} : ∀ {xs : List α} {ys : List β} {i : Nat} {x : α}, Paired R xs ys → xs[i]? = some x → ∃ y, ys[i]? = some y ∧ R x y
  | _, _, _, _, .nil, e => by simp at e
  | _, _, 0, _, .cons r _, e => ⟨_, rfl, (Option.some.inj e) ▸ r⟩
  | _, _, i + 1, x, .cons _ t, e => by
    obtain ⟨y, h1, h2⟩ := Paired.get (i := i) (x := x) t (by simpa using e)
    exact ⟨y, by simpa using h1, h2⟩
def dPairs (ps : List (Int × Int)) : PyData := .list (ps.map fun p => .tuple [.int p.1, .int p.2])
theorem dpPairs {K : PySem.W.Frag} {H : Hp} {R : Addr → (Int × Int) → Prop} (hR : ∀ r p, R r p → H r = some (.tup [.int p.1, .int p.2])) : ∀ {rs : List Addr} {ps : List (Int × Int)}, Paired R rs ps → DpAll K H (rs.map V.ref) (ps.map fun p => .tuple [.int p.1, .int p.2])
  | _, _, .nil => .nil
  | _, _, .cons r t => .cons (.tup (.inl (.inl (hR _ _ r))) (.cons (.int _) (.cons (.int _) .nil))) (dpPairs hR t)
theorem PairsAt.dp {K : PySem.W.Frag} {H0 H : Hp} {L : Addr} {ps : List (Int × Int)} (h : PairsAt H0 H L ps) : Dp K H (.ref L) (dPairs ps) := by
  obtain ⟨rs, hL, hp⟩ := h
  exact .lst (.inl (.inl hL)) (dpPairs (fun _ _ z => z.2) hp)
theorem canLayPairs : ∀ ps : List (Int × Int), PyData.canLayAll0 (ps.map fun p => .tuple [.int p.1, .int p.2]) = true
  | [] => by simp [PyData.canLayAll0]
  | p :: ps => by
    rw [List.map_cons, PyData.canLayAll0, canLayPairs ps]
    simp [PyData.canLay0, PyData.canLayAll0]
theorem depthPairs : ∀ ps : List (Int × Int), PyData.depthAll (ps.map fun p => .tuple [.int p.1, .int p.2]) ≤ 1
  | [] => by simp [PyData.depthAll]
  | p :: ps => by
    rw [List.map_cons, PyData.depthAll]
    have ih := depthPairs ps
    simp only [PyData.depth, PyData.depthAll]
    omega
theorem shaped_pairs (ps : List (Int × Int)) : SeqAt.shaped (dPairs ps) = true := by
  unfold SeqAt.shaped dPairs
  rw [PyData.canLay0, canLayPairs, PyData.depth, Bool.true_and, decide_eq_true_iff]
  have := depthPairs ps
  omega
theorem eqv_self {d : PyData} (h : SeqAt.shaped d = true) : PyData.eqv d d = true := SeqAt.eqv_refl d (SeqAt.canLay_of_shaped h)
theorem PairsAt.same {H0 H H' : Hp} {L : Addr} {ps : List (Int × Int)} (s : Same H H') (h : PairsAt H0 H L ps) : PairsAt H0 H' L ps := by
  obtain ⟨rs, hL, hp⟩ := h
  exact ⟨rs, s _ _ hL, Paired.mono2 (fun _ _ z => ⟨z.1, s _ _ z.2⟩) hp⟩
theorem mem_cans {a b c : Int} {q : Int × Int} (h : q ∈ cans a b c) : Mt q.1 q.2 ∧ can a b c q.1 q.2 = true := by
  obtain ⟨h1, h2⟩ := List.mem_filter.mp h
  refine ⟨?_, h2⟩
  simp only [allM, List.mem_cons, List.mem_nil_iff, or_false] at h1
  unfold Mt
  rcases h1 with rfl | rfl | rfl <;> simp
theorem sum_met {a b c l h m : Int} (hM : Mt l h) : mk 0 a l h m + (mk 1 b l h m + (mk 2 c l h m + 0)) = a + b + c - 2 + m := by
  unfold Mt at hM
  unfold mk
  rcases hM with ⟨rfl, rfl⟩ | ⟨rfl, rfl⟩ | ⟨rfl, rfl⟩ <;> simp <;> omega
theorem ty_lst {K : PySem.W.Frag} {H : Hp} {a : Addr} {xs : List V} (h : H a = some (.lst xs)) : TyX K H (.ref a) (.type "list") := .base (.lst h)

/-- three tuples and a list of them, laid -/
theorem lit3 {H : Hp} {t0 t1 t2 l : Addr} {x0 x1 x2 : List V} (h0 : H t0 = none) (h1 : upd H t0 (.tup x0) t1 = none) (h2 : upd (upd H t0 (.tup x0)) t1 (.tup x1) t2 = none) (hl : upd (upd (upd H t0 (.tup x0)) t1 (.tup x1)) t2 (.tup x2) l = none) :
    ∃ Hm, upd (upd (upd (upd H t0 (.tup x0)) t1 (.tup x1)) t2 (.tup x2)) l (.lst [.ref t0, .ref t1, .ref t2]) = Hm ∧ Same H Hm ∧ Hm t0 = some (.tup x0) ∧ Hm t1 = some (.tup x1) ∧ Hm t2 = some (.tup x2) ∧ Hm l = some (.lst [.ref t0, .ref t1, .ref t2]) ∧ H t1 = none ∧ H t2 = none ∧ H l = none := by
  have s0 : Same H (upd H t0 (.tup x0)) := same_upd h0
  have s1 : Same (upd H t0 (.tup x0)) (upd (upd H t0 (.tup x0)) t1 (.tup x1)) := same_upd h1
  have s2 : Same (upd (upd H t0 (.tup x0)) t1 (.tup x1)) (upd (upd (upd H t0 (.tup x0)) t1 (.tup x1)) t2 (.tup x2)) := same_upd h2
  have s3 : Same (upd (upd (upd H t0 (.tup x0)) t1 (.tup x1)) t2 (.tup x2)) (upd (upd (upd (upd H t0 (.tup x0)) t1 (.tup x1)) t2 (.tup x2)) l (.lst [.ref t0, .ref t1, .ref t2])) := same_upd hl
  exact ⟨_, rfl, s0.trans (s1.trans (s2.trans s3)), s3 _ _ (s2 _ _ (s1 _ _ upd_same)), s3 _ _ (s2 _ _ upd_same), s3 _ _ upd_same, upd_same, s0.free h1, s0.free (s1.free h2), s0.free (s1.free (s2.free hl))⟩
theorem ref_get {rs : List Addr} {i : Nat} {x : V} (h : (rs.map V.ref)[i]? = some x) : ∃ r, rs[i]? = some r ∧ x = .ref r := by
  rw [List.getElem?_map] at h
  cases e : rs[i]? with
  | none => rw [e] at h; cases h
  | some r => rw [e] at h; exact ⟨r, rfl, (Option.some.inj h).symm⟩
theorem all_rep (n : Nat) : (List.replicate n true).all id = true := by
  rw [List.all_eq_true]
  intro x hx
  exact (List.mem_replicate.mp hx).2
theorem rep_next (n : Nat) : (List.replicate n true).map V.bl ++ [V.bl true] = (List.replicate (n + 1) true).map V.bl := by
  rw [List.replicate_succ', List.map_append]
  rfl
theorem met_ints (a b c l h m : Int) : met a b c l h m = [mk 0 a l h m, mk 1 b l h m, mk 2 c l h m].map V.int := rfl
end Km

set_option Elab.async false
set_option linter.all false
set_option maxRecDepth 100000
set_option maxHeartbeats 4000000
namespace Km
open PySem PySem.Spec PyProof.Rows L2
theorem sz_of_bits {n : Nat} {z : Int} (h : Builtin.Int.intBits z ≤ n) : Sz n z := by
  unfold Builtin.Int.intBits at h
  unfold Sz
  by_cases e : z = 0
  · subst e
    exact Nat.pow_pos (by decide)
  · have e2 : z.natAbs ≠ 0 := by omega
    have h1 : z.natAbs.log2 < n := by
      split at h
      · rename_i q
        first
          | exact absurd (beq_iff_eq.mp q) e
          | omega
      · omega
    exact (Nat.log2_lt e2).mp h1
theorem szs_of_bits {ns : List Int} (h : ∀ z ∈ ns, Builtin.Int.intBits z ≤ 1048576) : ∃ n, n ≤ 1900000 ∧ ∀ z ∈ ns, Sz n z := by
  have key : ∀ m : Nat, m ≤ 1900000 → (∀ z ∈ ns, Builtin.Int.intBits z ≤ m) → ∃ n, n ≤ 1900000 ∧ ∀ z ∈ ns, Sz n z := fun m hm hb => ⟨m, hm, fun z hz => sz_of_bits (hb z hz)⟩
  exact key 1048576 (by decide) h
/-- the end of a law over a head by facts, the script's bits told -/
theorem walk_ofEB {l : PySem.W.OpenLaw} {n k : Nat} {q : Program} {loose : List Str} {XP : (Str → Option Value) → Heap → Prop} {YP : World → Heap → Prop} {d : DefRec} {CX : CXT} {x : Str}
    (hn : l.most = some n) (hn2 : n ≤ sizeLine) (hdf : d.params.defaults = []) (hr : Room k callerA)
    (F : ∀ (w : World) (mg : Str → Option Value) (fa : Addr) (h : Heap), YP w h → h.Ns mainGlobals mg → mg d.name = some (.ref fa) →
      ∃ (K : PySem.W.Frag) (fd : FuncData) (sp : Sp), K.In h ∧ (∀ (s : Shared) (u : Value), BindsTo s fd ⟨[u], []⟩ [(x, u)]) ∧
        (∀ (H : Hp) (a : Addr) (ns : List Int), ns.length ≤ n → (∃ m, m ≤ 1900000 ∧ ∀ z ∈ ns, Sz m z) → Only H → SqL K H a (ns.map V.int) → sp [.ref a] H (fun v _ => v = .bl true) fun _ _ _ => False) ∧
        ∀ base : Heap, K.In base → base.Ns mainGlobals mg → FnOk l.prog w K mg base CX k fa fd [x] sp)
    (hCX : ∀ (H : Hp) (s : Shared) (e : Value) (s' : Shared), CX [] H s (fun _ _ _ => False) e s' → False) :
    PySem.W.WalkO q loose XP YP l.row.toRowW d [] (fun f vs => PySem.call f vs) := by
  refine Att.attach_callB hn hdf fun w s₀ s₁ mg mb fa o pm cd doc a vs ns G Y ho hd hcd hmg hobj hints hlen hbits hg => ?_
  obtain ⟨K, fd, sp, KX, hb, hsp, hF⟩ := F w mg fa _ Y G.T.g hmg
  exact law_call KX G.T.g G.T.b G.T.builtins G.T.nolimit hg hobj hints (Nat.le_trans hlen hn2) hr hF hb (fun H hO hS => hsp H a ns hlen (szs_of_bits hbits) hO hS) fun H e s' => hCX H s₁ e s'
theorem ex_of {K : PySem.W.Frag} {h : Heap} {mg : Str → Option Value} {x : Str} (X : K.In h) (G : h.Ns mainGlobals mg) (c1 : (He.Fa.glo x).ok K = true) (c2 : (He.Fa.exc x).ok K = true) : Ex K mg x (He.ga K x) := by
  obtain ⟨a, b, c, d⟩ := He.exc_ok c2
  exact ⟨He.glo_ok X G c1, a, b, c, d⟩
end Km

set_option Elab.async false
set_option linter.all false
set_option maxRecDepth 100000
set_option maxHeartbeats 4000000
namespace Km
open PySem PySem.Spec PyProof.Rows L2
/-- {t: v}, t a tuple of ints and texts -/
def tDisp1T (tk tv : TE) : TE := fun σ H Q => ∀ p, H p = none → tk σ (upd H p (.dT [])) fun x H1 => tv σ H1 fun y H2 => ∃ (k : List Key) (b : Addr), x = .ref b ∧ H2 b = some (.tup (k.map kV)) ∧ H2 p = some (.dT []) ∧ Q (.ref p) (upd H2 p (.dT [(k, y)]))
theorem pe_disp1T {X : Cx} {pos : Pos} {k v : Expr} {tk tv : TE} (hu : X.A.units + 1 < cLine) (hk : PE X k tk) (hv : PE X v tv) : PE X (.Dict [some k] [v] pos) (tDisp1T tk tv) := by
  refine ⟨fun pins s σ H Q I q => ?_⟩
  have hn := I.hok.fresh (Nat.le_refl s.heap.objs.size)
  have I1 := I.laid (a := s.heap.objs.size) (o := .dT []) (h' := s.heap.push { cls := .type "dict", data := .dict #[] }) (t' := s.toks) (fun _ _ q => Heap.get?_push_of_some _ q) (Nat.le_refl _) (dt_empty s.heap I.big)
  have hp : PPs X pos [some k] [v] [(tk, tv)] := pps_cons hk hv pps_nil
  have q0 := q _ hn
  rw [arm_eval_Dict, zip_pairTrees [some k] [v] X.env pos rfl rfl, dictDisplay_pairs (pairTrees [some k] [v] X.env pos) (fun z => by have w := pairTrees_length [some k] [v] X.env pos rfl rfl; rw [z] at w; cases w) (by rw [pairTrees_length [some k] [v] X.env pos rfl rfl]; show 1 < 17; decide)]
  refine wpAny_bind (wpAny_standAt (wpAny_bind ?_))
  unfold subDict
  refine wpAny_bind (wpAny_alloc ?_)
  refine wpAny_bind (wpAny_holding ?_)
  rw [if_pos (by rw [pairTrees_length [some k] [v] X.env pos rfl rfl]; show 1 ≤ 15; decide)]
  refine wpAny_bind (thn (hp.run pins _ σ _ (fun ps H2 => match ps with
    | [(x, y)] => ∃ (k : List Key) (b : Addr), x = .ref b ∧ H2 b = some (.tup (k.map kV)) ∧ H2 s.heap.objs.size = some (.dT []) ∧ Q (.ref s.heap.objs.size) (upd H2 s.heap.objs.size (.dT [(k, y)]))
    | _ => False) I1 q0) fun ws s2 hh => ?_)
  · obtain ⟨ps, H2, I2, rel, q1⟩ := hh
    obtain ⟨x, y, rfl⟩ : ∃ x y, ps = [(x, y)] := by
      match ps, q1 with
      | [(x, y)], _ => exact ⟨x, y, rfl⟩
    obtain ⟨kk, b, rfl, hb, hd, q2⟩ := q1
    cases rel with
    | cons r rr =>
      cases rr
      rename_i uw
      obtain ⟨u, w2⟩ := uw
      obtain ⟨r1, r2⟩ := r
      obtain rfl : u = Value.ref b := r1
      refine wpAny_holding ?_
      rw [List.forIn_cons]
      obtain ⟨z, hsys, xs, relx, dd⟩ := dt_of I2.hok hd
      have hx : xs = [] := by cases relx; rfl
      subst hx
      refine wpAny_bind (wpAny_bind (wpAny_bind (wpAny_dictSet_heap (hsz := Nat.zero_le _) (show (tupleKind (mixKind X.prog X.w)).room X.A from Nat.lt_trans (Nat.lt_succ_self _) hu) (key_of I2.hok hb) dd fun h' dd' hs => ?_)))
      refine wpAny_pure ?_
      show wpAny _ _ (forIn [] PUnit.unit _) _ _ _
      rw [List.forIn_nil]
      refine wpAny_pure (wpAny_pure (wpAny_pure (wpAny_pure ?_)))
      obtain ⟨qo, es, ep, hq, h2, h3, h4, _, h5⟩ := dd'
      have new : ObjOk X.prog X.w (upd H2 s.heap.objs.size (.dT [(kk, y)])) h' s.heap.objs.size (.dT [(kk, y)]) := by
        refine ⟨by show 1 ≤ sizeLine; decide, hsys, _, (KT.put (kvs := []) (xs := []) (k := kk) .nil hb r2).keeps fun c ys ec => ?_, qo, es, ep, hq, h2, h3, h4, h5⟩
        rw [upd_ne (ne_of ec hd (fun z => nomatch z))]
        exact ec
      exact ⟨.ref s.heap.objs.size, _, d_write I2 (by rw [hd]; exact True.intro) hs ⟨qo, hq⟩ new, rfl, q2⟩
/-- over a dict with tuple keys that has just come: it stays locked -/
def iKeysL (td : TE) : TI := fun σ H R => td σ H fun x H1 => ∃ (d : Addr) (kvs : List (List Key × V)), x = .ref d ∧ H1 d = some (.dT kvs) ∧ ∀ o, R (Itkt d o kvs) (upd H1 d (.frz o (.dT kvs)))
theorem pi_keysL {X : Cx} {tg e : Expr} {td : TE} (he : PE X e td) : PI X tg e (iKeysL td) := by
  refine ⟨fun pins s σ H R I h => ?_⟩
  refine thn (he.run pins s σ H _ I h) fun u s1 ⟨x, H1, I1, rx, d, kvs, ex, hd0, q⟩ => ?_
  subst ex
  obtain rfl : u = Value.ref d := rx
  obtain ⟨od, I1'⟩ := I1.lock hd0 True.intro
  have hd : upd H1 d (.frz od (.dT kvs)) d = some (.frz od (.dT kvs)) := upd_same
  obtain ⟨hs, hgd, hx, es, ep, hdt, hsz, ent⟩ := I1'.frzT hd
  refine iter_keys hs hgd hx hdt (pi_one (tk := s1.toks) I1' _ (turn_keysT _ hdt) ⟨_, Heap.get?_push_size _ rfl, rfl, ?_⟩ (q od))
  rw [hsz] <;> rfl
end Km

set_option Elab.async false
set_option linter.all false
set_option maxRecDepth 100000
set_option maxHeartbeats 4000000
namespace Km
open PySem PySem.Spec PyProof.Rows L2
abbrev T3 := Int × Int × Int
def cn (s : T3) (l h : Int) : Bool := can s.1 s.2.1 s.2.2 l h
def mt3 (s : T3) (l h m : Int) : T3 := (mk 0 s.1 l h m, mk 1 s.2.1 l h m, mk 2 s.2.2 l h m)
inductive Path (m : Int) (s : T3) : Nat → T3 → Prop where
  | nil : Path m s 0 s
  | snoc {n : Nat} {t : T3} {l h : Int} (p : Path m s n t) (hM : Mt l h) (hc : cn t l h = true) : Path m s (n + 1) (mt3 t l h m)
theorem Path.zero {m : Int} {s t : T3} (p : Path m s 0 t) : t = s := by
  cases p
  rfl
theorem Path.last {m : Int} {s u : T3} {n : Nat} (p : Path m s (n + 1) u) : ∃ t l h, Path m s n t ∧ Mt l h ∧ cn t l h = true ∧ u = mt3 t l h m := by
  cases p with
  | snoc p hM hc => exact ⟨_, _, _, p, hM, hc, rfl⟩
theorem Path.cons {m : Int} {s : T3} {l h : Int} (hM : Mt l h) (hc : cn s l h = true) : ∀ {n : Nat} {t : T3}, Path m (mt3 s l h m) n t → Path m s (n + 1) t
  | _, _, .nil => .snoc .nil hM hc
  | _, _, .snoc p hM' hc' => .snoc (Path.cons hM hc p) hM' hc'
/-! ### the search -/
structure Bfs (m : Int) (s : T3) (N : Nat) (F : List (T3 × Nat)) (L : List T3) : Prop where
  nd : (F.map (·.1)).Nodup
  A : ∀ t n, (t, n) ∈ F → Path m s n t ∧ n ≤ N ∧ ∀ k, k < n → ¬ Path m s k t
  B : ∀ k t, k ≤ N → Path m s k t → t ∈ F.map (·.1)
  C : ∀ t, t ∈ L ↔ (t, N) ∈ F
theorem Bfs.start (m : Int) (s : T3) : Bfs m s 0 [(s, 0)] [s] where
  nd := List.nodup_cons.mpr ⟨List.not_mem_nil, List.nodup_nil⟩
  A := fun t n h => by
    have e := List.mem_singleton.mp h
    cases e
    exact ⟨.nil, Nat.le_refl _, fun k hk => absurd hk (Nat.not_lt_zero k)⟩
  B := fun k t hk p => by
    obtain rfl : k = 0 := by omega
    rw [p.zero]
    exact List.mem_singleton.mpr rfl
  C := fun t => by
    rw [List.mem_singleton, List.mem_singleton]
    constructor
    · intro e; rw [e]
    · intro e; cases e; rfl
structure Mid (m : Int) (s : T3) (N : Nat) (F : List (T3 × Nat)) (G D : List T3) : Prop where
  nd : (F.map (·.1) ++ G).Nodup
  P : ∀ g, g ∈ G → Path m s (N + 1) g
  S : ∀ t, t ∈ D → ∀ l h, Mt l h → cn t l h = true → mt3 t l h m ∈ F.map (·.1) ++ G
theorem Mid.start {m : Int} {s : T3} {N : Nat} {F : List (T3 × Nat)} {L : List T3} (b : Bfs m s N F L) : Mid m s N F [] [] :=
  ⟨by rw [List.append_nil]; exact b.nd, fun _ h => (nomatch h), fun _ h => (nomatch h)⟩
theorem Mid.finish {m : Int} {s : T3} {N : Nat} {F : List (T3 × Nat)} {L G D : List T3} (b : Bfs m s N F L) (q : Mid m s N F G D) (hD : ∀ t, t ∈ L → t ∈ D) : Bfs m s (N + 1) (F ++ G.map fun g => (g, N + 1)) G where
  nd := by
    rw [List.map_append, List.map_map]
    have e : G.map ((fun x : T3 × Nat => x.1) ∘ fun g => (g, N + 1)) = G := by
      rw [show ((fun x : T3 × Nat => x.1) ∘ fun g : T3 => (g, N + 1)) = id from rfl, List.map_id]
    rw [e]
    exact q.nd
  A := fun t n h => by
    rcases List.mem_append.mp h with h | h
    · obtain ⟨h1, h2, h3⟩ := b.A t n h
      exact ⟨h1, by omega, h3⟩
    · obtain ⟨g, hg, e⟩ := List.mem_map.mp h
      cases e
      refine ⟨q.P _ hg, Nat.le_refl _, fun k hk p => ?_⟩
      have hk' : k ≤ N := by omega
      have hin := b.B k _ hk' p
      exact (List.nodup_append.mp q.nd).2.2 _ hin _ hg rfl
  B := fun k u hk p => by
    rw [List.map_append, List.map_map]
    have e : G.map ((fun x : T3 × Nat => x.1) ∘ fun g => (g, N + 1)) = G := by
      rw [show ((fun x : T3 × Nat => x.1) ∘ fun g : T3 => (g, N + 1)) = id from rfl, List.map_id]
    rw [e]
    by_cases hk' : k ≤ N
    · exact List.mem_append.mpr (.inl (b.B k u hk' p))
    · obtain rfl : k = N + 1 := by omega
      obtain ⟨t, l, h, pt, hM, hc, rfl⟩ := p.last
      obtain ⟨⟨t', n⟩, htn, et⟩ := List.mem_map.mp (b.B N t (Nat.le_refl _) pt)
      have et : t' = t := et
      subst et
      obtain ⟨h1, h2, h3⟩ := b.A t' n htn
      by_cases hn : n = N
      · subst hn
        exact q.S t' (hD t' ((b.C t').mpr htn)) l h hM hc
      · exact List.mem_append.mpr (.inl (b.B (n + 1) _ (by omega) (.snoc h1 hM hc)))
  C := fun t => by
    constructor
    · intro ht
      exact List.mem_append.mpr (.inr (List.mem_map.mpr ⟨t, ht, rfl⟩))
    · intro ht
      rcases List.mem_append.mp ht with h | h
      · have := (b.A t (N + 1) h).2.1
        omega
      · obtain ⟨g, hg, e⟩ := List.mem_map.mp h
        cases e
        exact hg
/-- all that are reached, each with the fewest steps -/
def Found (m : Int) (s : T3) (F : List (T3 × Nat)) : Prop := (F.map (·.1)).Nodup ∧ ∀ t n, (t, n) ∈ F ↔ Path m s n t ∧ ∀ k, k < n → ¬ Path m s k t
theorem Bfs.over {m : Int} {s : T3} {N : Nat} {F : List (T3 × Nat)} (b : Bfs m s N F []) : Found m s F := by
  have all : ∀ k t, Path m s k t → t ∈ F.map (·.1) := by
    intro k
    induction k with
    | zero => exact fun t p => b.B 0 t (Nat.zero_le _) p
    | succ k ih =>
      intro u p
      obtain ⟨t, l, h, pt, hM, hc, rfl⟩ := p.last
      obtain ⟨⟨t', n⟩, htn, et⟩ := List.mem_map.mp (ih t pt)
      have et : t' = t := et
      subst et
      obtain ⟨h1, h2, h3⟩ := b.A t' n htn
      have hn : n ≠ N := fun e => by
        subst e
        exact absurd ((b.C t').mpr htn) List.not_mem_nil
      exact b.B (n + 1) _ (by omega) (.snoc h1 hM hc)
  refine ⟨b.nd, fun t n => ⟨fun h => ⟨(b.A t n h).1, (b.A t n h).2.2⟩, fun ⟨p, mn⟩ => ?_⟩⟩
  obtain ⟨⟨t', n'⟩, htn, et⟩ := List.mem_map.mp (all n t p)
  have et : t' = t := et
  subst et
  obtain ⟨h1, h2, h3⟩ := b.A t' n' htn
  have e : n = n' := by
    rcases Nat.lt_trichotomy n n' with h | h | h
    · exact absurd p (h3 n h)
    · exact h
    · exact absurd h1 (mn n' h)
  rw [e]
  exact htn
/-! ### how many there are -/
theorem nodup_le : ∀ (n : Nat) (l : List Nat), l.Nodup → (∀ x, x ∈ l → x < n) → l.length ≤ n
  | 0, l, _, h => by
    cases l with
    | nil => exact Nat.le_refl _
    | cons x r => exact absurd (h x List.mem_cons_self) (Nat.not_lt_zero x)
  | n + 1, l, hn, h => by
    have h1 := nodup_le n (l.filter fun x => decide (x ≠ n)) (hn.filter _) fun x hx => by
      obtain ⟨a, b⟩ := List.mem_filter.mp hx
      have c := h x a
      have d := of_decide_eq_true b
      omega
    have h2 : ∀ (r : List Nat), r.Nodup → r.length ≤ (r.filter fun x => decide (x ≠ n)).length + 1 := by
      intro r
      induction r with
      | nil => intro _; simp
      | cons y r ih =>
        intro hr
        obtain ⟨hy, hr'⟩ := List.nodup_cons.mp hr
        by_cases e : y = n
        · subst e
          have er : (r.filter fun x => decide (x ≠ y)) = r := by
            rw [List.filter_eq_self]
            intro x hx
            exact decide_eq_true (fun z => hy (z ▸ hx))
          rw [List.filter_cons, if_neg (by simp), er, List.length_cons]
          omega
        · rw [List.filter_cons, if_pos (by simpa using e), List.length_cons, List.length_cons]
          have := ih hr'
          omega
    have := h2 l hn
    omega
def code3 (t : T3) : Nat := t.1.toNat * 4096 + t.2.1.toNat * 64 + t.2.2.toNat
def In64 (t : T3) : Prop := 0 ≤ t.1 ∧ t.1 < 64 ∧ 0 ≤ t.2.1 ∧ t.2.1 < 64 ∧ 0 ≤ t.2.2 ∧ t.2.2 < 64
theorem code3_inj {s t : T3} (hs : In64 s) (ht : In64 t) (e : code3 s = code3 t) : s = t := by
  obtain ⟨a, b, c⟩ := s
  obtain ⟨a', b', c'⟩ := t
  unfold In64 at hs ht
  unfold code3 at e
  dsimp only at hs ht e
  have e1 : a = a' := by omega
  have e2 : b = b' := by omega
  have e3 : c = c' := by omega
  rw [e1, e2, e3]
theorem map_nodup {α β : Type} {f : α → β} : ∀ {l : List α}, l.Nodup → (∀ x, x ∈ l → ∀ y, y ∈ l → f x = f y → x = y) → (l.map f).Nodup
  | [], _, _ => List.nodup_nil
  | x :: l, hn, h => by
    obtain ⟨h1, h2⟩ := List.nodup_cons.mp hn
    rw [List.map_cons]
    refine List.nodup_cons.mpr ⟨fun hm => ?_, map_nodup h2 fun y hy z hz => h y (List.mem_cons_of_mem _ hy) z (List.mem_cons_of_mem _ hz)⟩
    obtain ⟨y, hy, e⟩ := List.mem_map.mp hm
    exact h1 ((h x List.mem_cons_self y (List.mem_cons_of_mem _ hy) e.symm) ▸ hy)
theorem few_states {l : List T3} (hn : l.Nodup) (h : ∀ t, t ∈ l → In64 t) : l.length ≤ 262144 := by
  have h1 := nodup_le 262144 (l.map code3) (map_nodup hn fun x hx y hy e => code3_inj (h x hx) (h y hy) e) fun c hc => by
    obtain ⟨t, ht, rfl⟩ := List.mem_map.mp hc
    have := h t ht
    unfold In64 at this
    unfold code3
    omega
  rw [List.length_map] at h1
  exact h1
/-! ### what a meeting keeps -/
def Nn (s : T3) : Prop := 0 ≤ s.1 ∧ 0 ≤ s.2.1 ∧ 0 ≤ s.2.2
def sm (s : T3) : Int := s.1 + s.2.1 + s.2.2
/-- a move in numbers -/
theorem move {s : T3} {l h m : Int} (hM : Mt l h) (hc : cn s l h = true) :
    (0 < s.1 ∧ 0 < s.2.1 ∧ mt3 s l h m = (s.1 - 1, s.2.1 - 1, s.2.2 + m)) ∨ (0 < s.1 ∧ 0 < s.2.2 ∧ mt3 s l h m = (s.1 - 1, s.2.1 + m, s.2.2 - 1)) ∨ (0 < s.2.1 ∧ 0 < s.2.2 ∧ mt3 s l h m = (s.1 + m, s.2.1 - 1, s.2.2 - 1)) := by
  obtain ⟨h1, h2⟩ := can_iff.mp (show can s.1 s.2.1 s.2.2 l h = true from hc)
  rcases hM with ⟨rfl, rfl⟩ | ⟨rfl, rfl⟩ | ⟨rfl, rfl⟩
  · exact .inl ⟨h1, h2, rfl⟩
  · exact .inr (.inl ⟨h1, h2, rfl⟩)
  · exact .inr (.inr ⟨h1, h2, rfl⟩)
theorem cn01 {s : T3} (h1 : 0 < s.1) (h2 : 0 < s.2.1) : cn s 0 1 = true := can_iff.mpr ⟨h1, h2⟩
theorem cn02 {s : T3} (h1 : 0 < s.1) (h2 : 0 < s.2.2) : cn s 0 2 = true := can_iff.mpr ⟨h1, h2⟩
theorem cn12 {s : T3} (h1 : 0 < s.2.1) (h2 : 0 < s.2.2) : cn s 1 2 = true := can_iff.mpr ⟨h1, h2⟩
theorem M01 : Mt 0 1 := .inl ⟨rfl, rfl⟩
theorem M02 : Mt 0 2 := .inr (.inl ⟨rfl, rfl⟩)
theorem M12 : Mt 1 2 := .inr (.inr ⟨rfl, rfl⟩)
end Km

set_option Elab.async false
set_option linter.all false
set_option maxRecDepth 100000
set_option maxHeartbeats 4000000
namespace Km
open PySem PySem.Spec PyProof.Rows L2
/-- beads of one kind at most -/
def Alone (s : T3) : Prop := (s.2.1 = 0 ∧ s.2.2 = 0) ∨ (s.1 = 0 ∧ s.2.2 = 0) ∨ (s.1 = 0 ∧ s.2.1 = 0)
instance (s : T3) : Decidable (Alone s) := inferInstanceAs (Decidable (_ ∨ _ ∨ _))
theorem no_move {s : T3} (ha : Alone s) {l h : Int} (hM : Mt l h) : ¬ cn s l h = true := fun hc => by
  unfold Alone at ha
  rcases move (m := 0) hM hc with ⟨a, b, _⟩ | ⟨a, b, _⟩ | ⟨a, b, _⟩ <;> omega
theorem alone_path {m : Int} {s t : T3} (ha : Alone s) : ∀ {n : Nat}, Path m s n t → n = 0 ∧ t = s
  | 0, p => ⟨rfl, p.zero⟩
  | n + 1, p => by
    obtain ⟨u, l, h, pu, hM, hc, rfl⟩ := p.last
    obtain ⟨_, rfl⟩ := alone_path ha pu
    exact absurd hc (no_move ha hM)
/-- k can be last -/
def lastB (s : T3) (k : Int) : Bool := if Alone s then decide (0 < g3 s.1 s.2.1 s.2.2 k) else
  if k = 0 then decide ((s.2.1 - s.2.2) % 2 = 0) else if k = 1 then decide ((s.1 - s.2.2) % 2 = 0) else decide ((s.1 - s.2.1) % 2 = 0)
def fewest (s : T3) : Int := if Alone s then sm s else if (s.1 - s.2.1) % 2 = 0 ∧ (s.2.1 - s.2.2) % 2 = 0 then 2 else 1
/-- all of the kind k, so many -/
def only (k x : Int) : T3 := if k = 0 then (x, 0, 0) else if k = 1 then (0, x, 0) else (0, 0, x)
/-! ### joined: what is kept -/
theorem join_keeps {s : T3} (hs : Nn s) : ∀ {n : Nat} {t : T3}, Path 1 s n t → Nn t ∧ sm t + n = sm s ∧ ((t.1 - t.2.1) - (s.1 - s.2.1)) % 2 = 0 ∧ ((t.2.1 - t.2.2) - (s.2.1 - s.2.2)) % 2 = 0 ∧ ((t.1 - t.2.2) - (s.1 - s.2.2)) % 2 = 0 ∧ (0 < sm s → 0 < sm t)
  | _, _, .nil => ⟨hs, by simp [sm], by simp, by simp, by simp, fun h => h⟩
  | _, _, .snoc (n := n) (t := t) p hM hc => by
    obtain ⟨h1, h2, h3, h4, h5, h6⟩ := join_keeps hs p
    unfold Nn at h1 ⊢
    unfold sm at h2 h6 ⊢
    rcases move (m := 1) hM hc with ⟨a, b, e⟩ | ⟨a, b, e⟩ | ⟨a, b, e⟩ <;> (rw [e]; dsimp only; refine ⟨by omega, by omega, by omega, by omega, by omega, fun _ => by omega⟩)
/-- the ends: kinds and numbers -/
theorem join_ends {s : T3} (hs : Nn s) (hp : 0 < sm s) {n : Nat} {t : T3} (p : Path 1 s n t) (ha : Alone t) : fewest s ≤ sm t ∧ ∀ k, 0 ≤ k → k < 3 → 0 < g3 t.1 t.2.1 t.2.2 k → lastB s k = true := by
  by_cases hsa : Alone s
  · obtain ⟨_, rfl⟩ := alone_path hsa p
    refine ⟨by unfold fewest; rw [if_pos hsa]; exact Int.le_refl _, fun k _ _ hk => ?_⟩
    unfold lastB
    rw [if_pos hsa]
    exact decide_eq_true hk
  · obtain ⟨h1, h2, h3, h4, h5, h6⟩ := join_keeps hs p
    have h6 := h6 hp
    unfold Nn at h1
    unfold sm at h6
    unfold Alone at ha
    constructor
    · unfold fewest
      rw [if_neg hsa]
      unfold sm
      split
      · omega
      · omega
    · intro k k0 k3 hk
      unfold lastB
      rw [if_neg hsa]
      unfold g3 at hk
      have e : k = 0 ∨ k = 1 ∨ k = 2 := by omega
      rcases e with rfl | rfl | rfl
      · rw [if_pos rfl] at hk ⊢
        exact decide_eq_true (by omega)
      · rw [if_neg (by decide), if_pos rfl] at hk ⊢
        exact decide_eq_true (by omega)
      · rw [if_neg (by decide), if_neg (by decide)] at hk ⊢
        exact decide_eq_true (by omega)
/-! ### joined: what can be come to -/
theorem join_next {s : T3} (hs : Nn s) (ha : ¬ Alone s) (h3 : 3 ≤ sm s) (h1 : ¬ (s.1 = 1 ∧ s.2.1 = 1 ∧ s.2.2 = 1)) : ∃ l h, Mt l h ∧ cn s l h = true ∧ ¬ Alone (mt3 s l h 1) := by
  unfold Nn at hs
  unfold sm at h3
  unfold Alone at ha
  by_cases c1 : 0 < s.1 ∧ 0 < s.2.1 ∧ ¬ (s.1 = 1 ∧ s.2.1 = 1)
  · refine ⟨0, 1, M01, cn01 c1.1 c1.2.1, ?_⟩
    show ¬ Alone (s.1 - 1, s.2.1 - 1, s.2.2 + 1)
    unfold Alone
    dsimp only
    omega
  · by_cases c2 : 0 < s.1 ∧ 0 < s.2.2 ∧ ¬ (s.1 = 1 ∧ s.2.2 = 1)
    · refine ⟨0, 2, M02, cn02 c2.1 c2.2.1, ?_⟩
      show ¬ Alone (s.1 - 1, s.2.1 + 1, s.2.2 - 1)
      unfold Alone
      dsimp only
      omega
    · refine ⟨1, 2, M12, cn12 (by omega) (by omega), ?_⟩
      show ¬ Alone (s.1 + 1, s.2.1 - 1, s.2.2 - 1)
      unfold Alone
      dsimp only
      omega
theorem join_reach : ∀ (N : Nat) (s : T3), Nn s → ¬ Alone s → sm s ≤ N → ∀ k, 0 ≤ k → k < 3 → lastB s k = true → ∃ n, Path 1 s n (only k (fewest s))
  | 0, s, hs, ha, hN, _, _, _, _ => by
    unfold Nn at hs
    unfold sm at hN
    exact absurd (show Alone s by unfold Alone; omega) ha
  | N + 1, s, hs, ha, hN, k, k0, k3, hk => by
    have hk' := hk
    unfold lastB at hk'
    rw [if_neg ha] at hk'
    have hkk : k = 0 ∨ k = 1 ∨ k = 2 := by omega
    by_cases h1 : s.1 = 1 ∧ s.2.1 = 1 ∧ s.2.2 = 1
    · obtain ⟨a, b, c⟩ := s
      dsimp only at h1
      obtain ⟨rfl, rfl, rfl⟩ := h1
      rcases hkk with rfl | rfl | rfl
      · exact ⟨1, .snoc .nil M12 rfl⟩
      · exact ⟨1, .snoc .nil M02 rfl⟩
      · exact ⟨1, .snoc .nil M01 rfl⟩
    · by_cases h3 : 3 ≤ sm s
      · obtain ⟨l, h, hM, hc, hn⟩ := join_next hs ha h3 h1
        have hn1 : Nn (mt3 s l h 1) ∧ sm (mt3 s l h 1) = sm s - 1 ∧ fewest (mt3 s l h 1) = fewest s ∧ lastB (mt3 s l h 1) k = true := by
          unfold fewest lastB
          rw [if_neg hn, if_neg ha, if_neg hn]
          unfold Nn at hs ⊢
          unfold sm
          rcases move (m := 1) hM hc with ⟨a, b, e⟩ | ⟨a, b, e⟩ | ⟨a, b, e⟩ <;> rw [e] <;> dsimp only
          · refine ⟨by omega, by omega, ?_, ?_⟩
            · have q : ((s.1 - 1 - (s.2.1 - 1)) % 2 = 0 ∧ (s.2.1 - 1 - (s.2.2 + 1)) % 2 = 0) ↔ ((s.1 - s.2.1) % 2 = 0 ∧ (s.2.1 - s.2.2) % 2 = 0) := by omega
              simp only [q]
            · rcases hkk with rfl | rfl | rfl
              · rw [if_pos rfl] at hk' ⊢; have q := of_decide_eq_true hk'; exact decide_eq_true (by omega)
              · rw [if_neg (by decide), if_pos rfl] at hk' ⊢; have q := of_decide_eq_true hk'; exact decide_eq_true (by omega)
              · rw [if_neg (by decide), if_neg (by decide)] at hk' ⊢; have q := of_decide_eq_true hk'; exact decide_eq_true (by omega)
          · refine ⟨by omega, by omega, ?_, ?_⟩
            · have q : ((s.1 - 1 - (s.2.1 + 1)) % 2 = 0 ∧ (s.2.1 + 1 - (s.2.2 - 1)) % 2 = 0) ↔ ((s.1 - s.2.1) % 2 = 0 ∧ (s.2.1 - s.2.2) % 2 = 0) := by omega
              simp only [q]
            · rcases hkk with rfl | rfl | rfl
              · rw [if_pos rfl] at hk' ⊢; have q := of_decide_eq_true hk'; exact decide_eq_true (by omega)
              · rw [if_neg (by decide), if_pos rfl] at hk' ⊢; have q := of_decide_eq_true hk'; exact decide_eq_true (by omega)
              · rw [if_neg (by decide), if_neg (by decide)] at hk' ⊢; have q := of_decide_eq_true hk'; exact decide_eq_true (by omega)
          · refine ⟨by omega, by omega, ?_, ?_⟩
            · have q : ((s.1 + 1 - (s.2.1 - 1)) % 2 = 0 ∧ (s.2.1 - 1 - (s.2.2 - 1)) % 2 = 0) ↔ ((s.1 - s.2.1) % 2 = 0 ∧ (s.2.1 - s.2.2) % 2 = 0) := by omega
              simp only [q]
            · rcases hkk with rfl | rfl | rfl
              · rw [if_pos rfl] at hk' ⊢; have q := of_decide_eq_true hk'; exact decide_eq_true (by omega)
              · rw [if_neg (by decide), if_pos rfl] at hk' ⊢; have q := of_decide_eq_true hk'; exact decide_eq_true (by omega)
              · rw [if_neg (by decide), if_neg (by decide)] at hk' ⊢; have q := of_decide_eq_true hk'; exact decide_eq_true (by omega)
        obtain ⟨n1, n2, n3, n4⟩ := hn1
        obtain ⟨n, p⟩ := join_reach N (mt3 s l h 1) n1 hn (by omega) k k0 k3 n4
        rw [n3] at p
        exact ⟨n + 1, Path.cons hM hc p⟩
      · -- two beads, unlike
        unfold Nn at hs
        unfold sm at h3
        have ha' := ha
        unfold Alone at ha'
        have hc3 : (s.1 = 1 ∧ s.2.1 = 1 ∧ s.2.2 = 0) ∨ (s.1 = 1 ∧ s.2.1 = 0 ∧ s.2.2 = 1) ∨ (s.1 = 0 ∧ s.2.1 = 1 ∧ s.2.2 = 1) := by omega
        obtain ⟨a, b, c⟩ := s
        dsimp only at hc3
        rcases hc3 with ⟨rfl, rfl, rfl⟩ | ⟨rfl, rfl, rfl⟩ | ⟨rfl, rfl, rfl⟩
        · rcases hkk with rfl | rfl | rfl
          · exact absurd hk (by decide)
          · exact absurd hk (by decide)
          · exact ⟨1, .snoc .nil M01 rfl⟩
        · rcases hkk with rfl | rfl | rfl
          · exact absurd hk (by decide)
          · exact ⟨1, .snoc .nil M02 rfl⟩
          · exact absurd hk (by decide)
        · rcases hkk with rfl | rfl | rfl
          · exact ⟨1, .snoc .nil M12 rfl⟩
          · exact absurd hk (by decide)
          · exact absurd hk (by decide)
end Km

set_option Elab.async false
set_option linter.all false
set_option maxRecDepth 100000
set_option maxHeartbeats 4000000
namespace Km
open PySem PySem.Spec PyProof.Rows L2
theorem kinds3 {k : Int} (k0 : 0 ≤ k) (k3 : k < 3) : k = 0 ∨ k = 1 ∨ k = 2 := by omega
theorem join_hits {s : T3} (hs : Nn s) (hp : 0 < sm s) {k : Int} (k0 : 0 ≤ k) (k3 : k < 3) (hk : lastB s k = true) : ∃ n t, Path 1 s n t ∧ Alone t ∧ 0 < g3 t.1 t.2.1 t.2.2 k ∧ sm t = fewest s := by
  by_cases ha : Alone s
  · refine ⟨0, s, .nil, ha, ?_, ?_⟩
    · unfold lastB at hk
      rw [if_pos ha] at hk
      exact of_decide_eq_true hk
    · unfold fewest
      rw [if_pos ha]
  · obtain ⟨n, p⟩ := join_reach (sm s).toNat s hs ha (by unfold sm; unfold sm at hp; omega) k k0 k3 hk
    have hf : 0 < fewest s := by
      unfold fewest
      rw [if_neg ha]
      split <;> decide
    refine ⟨n, only k (fewest s), p, ?_, ?_, ?_⟩
    · rcases kinds3 k0 k3 with rfl | rfl | rfl
      · exact .inl ⟨rfl, rfl⟩
      · exact .inr (.inl ⟨rfl, rfl⟩)
      · exact .inr (.inr ⟨rfl, rfl⟩)
    · rcases kinds3 k0 k3 with rfl | rfl | rfl <;> exact hf
    · rcases kinds3 k0 k3 with rfl | rfl | rfl <;> (unfold sm only; simp)
theorem last_some {s : T3} (hs : Nn s) (hp : 0 < sm s) : ∃ k, 0 ≤ k ∧ k < 3 ∧ lastB s k = true := by
  unfold Nn at hs
  unfold sm at hp
  by_cases ha : Alone s
  · unfold lastB
    simp only [if_pos ha]
    by_cases h0 : 0 < s.1
    · exact ⟨0, by decide, by decide, decide_eq_true h0⟩
    · by_cases h1 : 0 < s.2.1
      · exact ⟨1, by decide, by decide, decide_eq_true h1⟩
      · exact ⟨2, by decide, by decide, decide_eq_true (show 0 < s.2.2 by omega)⟩
  · unfold lastB
    simp only [if_neg ha]
    by_cases h0 : (s.2.1 - s.2.2) % 2 = 0
    · exact ⟨0, by decide, by decide, by rw [if_pos rfl]; exact decide_eq_true h0⟩
    · by_cases h1 : (s.1 - s.2.2) % 2 = 0
      · exact ⟨1, by decide, by decide, by rw [if_neg (by decide), if_pos rfl]; exact decide_eq_true h1⟩
      · exact ⟨2, by decide, by decide, by rw [if_neg (by decide), if_neg (by decide)]; exact decide_eq_true (by omega)⟩
/-! ### turned -/
def mx (x y : Int) : Int := if x ≤ y then y else x
def oth (s : T3) (k : Int) : Int × Int := if k = 0 then (s.2.1, s.2.2) else if k = 1 then (s.1, s.2.2) else (s.1, s.2.1)
def stepsT (s : T3) (k : Int) : Option Int := if (oth s k).1 = 0 ∧ (oth s k).2 = 0 then some 0 else if Alone s ∨ ((oth s k).1 - (oth s k).2) % 3 ≠ 0 then none else some (mx (oth s k).1 (oth s k).2)
theorem turn_keeps {s : T3} (hs : Nn s) : ∀ {n : Nat} {t : T3}, Path 2 s n t → Nn t ∧ sm t = sm s ∧ ((t.1 - t.2.1) - (s.1 - s.2.1)) % 3 = 0 ∧ ((t.2.1 - t.2.2) - (s.2.1 - s.2.2)) % 3 = 0 ∧ ((t.1 - t.2.2) - (s.1 - s.2.2)) % 3 = 0 ∧ s.1 ≤ t.1 + n ∧ s.2.1 ≤ t.2.1 + n ∧ s.2.2 ≤ t.2.2 + n
  | _, _, .nil => ⟨hs, rfl, by simp, by simp, by simp, by simp, by simp, by simp⟩
  | _, _, .snoc (n := n) (t := t) p hM hc => by
    obtain ⟨h1, h2, h3, h4, h5, h6, h7, h8⟩ := turn_keeps hs p
    unfold Nn at h1 ⊢
    unfold sm at h2 ⊢
    rcases move (m := 2) hM hc with ⟨a, b, e⟩ | ⟨a, b, e⟩ | ⟨a, b, e⟩ <;> (rw [e]; dsimp only; refine ⟨by omega, by omega, by omega, by omega, by omega, by omega, by omega, by omega⟩)
theorem only_oth {k x : Int} (k0 : 0 ≤ k) (k3 : k < 3) : oth (only k x) k = (0, 0) := by
  rcases kinds3 k0 k3 with rfl | rfl | rfl <;> rfl
theorem turn_none {s : T3} (hs : Nn s) {k : Int} (k0 : 0 ≤ k) (k3 : k < 3) (h : stepsT s k = none) {n : Nat} (p : Path 2 s n (only k (sm s))) : False := by
  unfold stepsT at h
  by_cases h0 : (oth s k).1 = 0 ∧ (oth s k).2 = 0
  · rw [if_pos h0] at h
    cases h
  · rw [if_neg h0] at h
    by_cases ha : Alone s
    · obtain ⟨_, e⟩ := alone_path ha p
      rw [← e] at h0
      rw [only_oth k0 k3] at h0
      exact h0 ⟨rfl, rfl⟩
    · by_cases h1 : ((oth s k).1 - (oth s k).2) % 3 ≠ 0
      · obtain ⟨_, _, h3, h4, h5, _⟩ := turn_keeps hs p
        rcases kinds3 k0 k3 with rfl | rfl | rfl
        · exact h1 (by change (s.2.1 - s.2.2) % 3 = 0; change ((0 : Int) - 0 - (s.2.1 - s.2.2)) % 3 = 0 at h4; omega)
        · exact h1 (by change (s.1 - s.2.2) % 3 = 0; change ((0 : Int) - 0 - (s.1 - s.2.2)) % 3 = 0 at h5; omega)
        · exact h1 (by change (s.1 - s.2.1) % 3 = 0; change ((0 : Int) - 0 - (s.1 - s.2.1)) % 3 = 0 at h3; omega)
      · rw [if_neg (fun z => z.elim ha h1)] at h
        cases h
theorem turn_least {s : T3} (hs : Nn s) {k : Int} (k0 : 0 ≤ k) (k3 : k < 3) {n : Nat} (p : Path 2 s n (only k (sm s))) : mx (oth s k).1 (oth s k).2 ≤ n := by
  obtain ⟨_, _, _, _, _, h6, h7, h8⟩ := turn_keeps hs p
  unfold mx
  rcases kinds3 k0 k3 with rfl | rfl | rfl
  · change s.2.1 ≤ 0 + (n : Int) at h7
    change s.2.2 ≤ 0 + (n : Int) at h8
    show (if s.2.1 ≤ s.2.2 then s.2.2 else s.2.1) ≤ (n : Int)
    split <;> omega
  · change s.1 ≤ 0 + (n : Int) at h6
    change s.2.2 ≤ 0 + (n : Int) at h8
    show (if s.1 ≤ s.2.2 then s.2.2 else s.1) ≤ (n : Int)
    split <;> omega
  · change s.1 ≤ 0 + (n : Int) at h6
    change s.2.1 ≤ 0 + (n : Int) at h7
    show (if s.1 ≤ s.2.1 then s.2.1 else s.1) ≤ (n : Int)
    split <;> omega
/-- the next meeting on the shortest way -/
theorem turn_next {s : T3} (hs : Nn s) (ha : ¬ Alone s) {k : Int} (k0 : 0 ≤ k) (k3 : k < 3) (h3 : ((oth s k).1 - (oth s k).2) % 3 = 0) :
    ∃ l h, Mt l h ∧ cn s l h = true ∧ Nn (mt3 s l h 2) ∧ sm (mt3 s l h 2) = sm s ∧ mx (oth (mt3 s l h 2) k).1 (oth (mt3 s l h 2) k).2 = mx (oth s k).1 (oth s k).2 - 1 ∧ ((oth (mt3 s l h 2) k).1 - (oth (mt3 s l h 2) k).2) % 3 = 0 ∧ (mx (oth (mt3 s l h 2) k).1 (oth (mt3 s l h 2) k).2 = 0 ∨ ¬ Alone (mt3 s l h 2)) := by
  obtain ⟨a, b, c⟩ := s
  unfold Nn at hs
  unfold Alone at ha
  dsimp only at hs ha
  rcases kinds3 k0 k3 with rfl | rfl | rfl
  · change (b - c) % 3 = 0 at h3
    have key : ∀ a' b' c', 0 ≤ a' → 0 ≤ b' → 0 ≤ c' → a' + b' + c' = a + b + c → mx b' c' = mx b c - 1 → (b' - c') % 3 = 0 → (mx b' c' = 0 ∨ ¬ Alone (a', b', c')) → ∀ l h, Mt l h → cn (a, b, c) l h = true → mt3 (a, b, c) l h 2 = (a', b', c') →
        ∃ l h, Mt l h ∧ cn (a, b, c) l h = true ∧ Nn (mt3 (a, b, c) l h 2) ∧ sm (mt3 (a, b, c) l h 2) = sm (a, b, c) ∧ mx (oth (mt3 (a, b, c) l h 2) 0).1 (oth (mt3 (a, b, c) l h 2) 0).2 = mx (oth (a, b, c) 0).1 (oth (a, b, c) 0).2 - 1 ∧ ((oth (mt3 (a, b, c) l h 2) 0).1 - (oth (mt3 (a, b, c) l h 2) 0).2) % 3 = 0 ∧ (mx (oth (mt3 (a, b, c) l h 2) 0).1 (oth (mt3 (a, b, c) l h 2) 0).2 = 0 ∨ ¬ Alone (mt3 (a, b, c) l h 2)) :=
      fun a' b' c' q1 q2 q3 q4 q5 q6 q7 l h hM hc e => ⟨l, h, hM, hc, by rw [e]; exact ⟨q1, q2, q3⟩, by rw [e]; exact q4, by rw [e]; exact q5, by rw [e]; exact q6, by rw [e]; exact q7⟩
    unfold mx at key
    unfold Alone at key
    dsimp only at key
    by_cases h1 : 0 < b ∧ 0 < c
    · exact key (a + 2) (b - 1) (c - 1) (by omega) (by omega) (by omega) (by omega) (by split <;> split <;> omega) (by omega) (if z : b = 1 ∧ c = 1 then .inl (by split <;> omega) else .inr (by omega)) 1 2 M12 (cn12 h1.1 h1.2) rfl
    · by_cases h2 : 0 < b
      · exact key (a - 1) (b - 1) (c + 2) (by omega) (by omega) (by omega) (by omega) (by split <;> split <;> omega) (by omega) (by right; omega) 0 1 M01 (cn01 (show 0 < a by omega) h2) rfl
      · exact key (a - 1) (b + 2) (c - 1) (by omega) (by omega) (by omega) (by omega) (by split <;> split <;> omega) (by omega) (by right; omega) 0 2 M02 (cn02 (show 0 < a by omega) (show 0 < c by omega)) rfl
  · change (a - c) % 3 = 0 at h3
    have key : ∀ a' b' c', 0 ≤ a' → 0 ≤ b' → 0 ≤ c' → a' + b' + c' = a + b + c → mx a' c' = mx a c - 1 → (a' - c') % 3 = 0 → (mx a' c' = 0 ∨ ¬ Alone (a', b', c')) → ∀ l h, Mt l h → cn (a, b, c) l h = true → mt3 (a, b, c) l h 2 = (a', b', c') →
        ∃ l h, Mt l h ∧ cn (a, b, c) l h = true ∧ Nn (mt3 (a, b, c) l h 2) ∧ sm (mt3 (a, b, c) l h 2) = sm (a, b, c) ∧ mx (oth (mt3 (a, b, c) l h 2) 1).1 (oth (mt3 (a, b, c) l h 2) 1).2 = mx (oth (a, b, c) 1).1 (oth (a, b, c) 1).2 - 1 ∧ ((oth (mt3 (a, b, c) l h 2) 1).1 - (oth (mt3 (a, b, c) l h 2) 1).2) % 3 = 0 ∧ (mx (oth (mt3 (a, b, c) l h 2) 1).1 (oth (mt3 (a, b, c) l h 2) 1).2 = 0 ∨ ¬ Alone (mt3 (a, b, c) l h 2)) :=
      fun a' b' c' q1 q2 q3 q4 q5 q6 q7 l h hM hc e => ⟨l, h, hM, hc, by rw [e]; exact ⟨q1, q2, q3⟩, by rw [e]; exact q4, by rw [e]; exact q5, by rw [e]; exact q6, by rw [e]; exact q7⟩
    unfold mx at key
    unfold Alone at key
    dsimp only at key
    by_cases h1 : 0 < a ∧ 0 < c
    · exact key (a - 1) (b + 2) (c - 1) (by omega) (by omega) (by omega) (by omega) (by split <;> split <;> omega) (by omega) (if z : a = 1 ∧ c = 1 then .inl (by split <;> omega) else .inr (by omega)) 0 2 M02 (cn02 h1.1 h1.2) rfl
    · by_cases h2 : 0 < a
      · exact key (a - 1) (b - 1) (c + 2) (by omega) (by omega) (by omega) (by omega) (by split <;> split <;> omega) (by omega) (by right; omega) 0 1 M01 (cn01 h2 (show 0 < b by omega)) rfl
      · exact key (a + 2) (b - 1) (c - 1) (by omega) (by omega) (by omega) (by omega) (by split <;> split <;> omega) (by omega) (by right; omega) 1 2 M12 (cn12 (show 0 < b by omega) (show 0 < c by omega)) rfl
  · change (a - b) % 3 = 0 at h3
    have key : ∀ a' b' c', 0 ≤ a' → 0 ≤ b' → 0 ≤ c' → a' + b' + c' = a + b + c → mx a' b' = mx a b - 1 → (a' - b') % 3 = 0 → (mx a' b' = 0 ∨ ¬ Alone (a', b', c')) → ∀ l h, Mt l h → cn (a, b, c) l h = true → mt3 (a, b, c) l h 2 = (a', b', c') →
        ∃ l h, Mt l h ∧ cn (a, b, c) l h = true ∧ Nn (mt3 (a, b, c) l h 2) ∧ sm (mt3 (a, b, c) l h 2) = sm (a, b, c) ∧ mx (oth (mt3 (a, b, c) l h 2) 2).1 (oth (mt3 (a, b, c) l h 2) 2).2 = mx (oth (a, b, c) 2).1 (oth (a, b, c) 2).2 - 1 ∧ ((oth (mt3 (a, b, c) l h 2) 2).1 - (oth (mt3 (a, b, c) l h 2) 2).2) % 3 = 0 ∧ (mx (oth (mt3 (a, b, c) l h 2) 2).1 (oth (mt3 (a, b, c) l h 2) 2).2 = 0 ∨ ¬ Alone (mt3 (a, b, c) l h 2)) :=
      fun a' b' c' q1 q2 q3 q4 q5 q6 q7 l h hM hc e => ⟨l, h, hM, hc, by rw [e]; exact ⟨q1, q2, q3⟩, by rw [e]; exact q4, by rw [e]; exact q5, by rw [e]; exact q6, by rw [e]; exact q7⟩
    unfold mx at key
    unfold Alone at key
    dsimp only at key
    by_cases h1 : 0 < a ∧ 0 < b
    · exact key (a - 1) (b - 1) (c + 2) (by omega) (by omega) (by omega) (by omega) (by split <;> split <;> omega) (by omega) (if z : a = 1 ∧ b = 1 then .inl (by split <;> omega) else .inr (by omega)) 0 1 M01 (cn01 h1.1 h1.2) rfl
    · by_cases h2 : 0 < a
      · exact key (a - 1) (b + 2) (c - 1) (by omega) (by omega) (by omega) (by omega) (by split <;> split <;> omega) (by omega) (by right; omega) 0 2 M02 (cn02 h2 (show 0 < c by omega)) rfl
      · exact key (a + 2) (b - 1) (c - 1) (by omega) (by omega) (by omega) (by omega) (by split <;> split <;> omega) (by omega) (by right; omega) 1 2 M12 (cn12 (show 0 < b by omega) (show 0 < c by omega)) rfl
theorem at_end {s : T3} (hs : Nn s) {k : Int} (k0 : 0 ≤ k) (k3 : k < 3) (h : mx (oth s k).1 (oth s k).2 ≤ 0) : s = only k (sm s) := by
  obtain ⟨a, b, c⟩ := s
  unfold Nn at hs
  unfold mx at h
  dsimp only at hs
  rcases kinds3 k0 k3 with rfl | rfl | rfl
  · change (if b ≤ c then c else b) ≤ 0 at h
    have e : b = 0 ∧ c = 0 := by split at h <;> omega
    obtain ⟨rfl, rfl⟩ := e
    show (a, (0 : Int), (0 : Int)) = (a + 0 + 0, 0, 0)
    simp
  · change (if a ≤ c then c else a) ≤ 0 at h
    have e : a = 0 ∧ c = 0 := by split at h <;> omega
    obtain ⟨rfl, rfl⟩ := e
    show ((0 : Int), b, (0 : Int)) = (0, 0 + b + 0, 0)
    simp
  · change (if a ≤ b then b else a) ≤ 0 at h
    have e : a = 0 ∧ b = 0 := by split at h <;> omega
    obtain ⟨rfl, rfl⟩ := e
    show ((0 : Int), (0 : Int), c) = (0, 0, 0 + 0 + c)
    simp
theorem turn_reach : ∀ (N : Nat) (s : T3), Nn s → ∀ k, 0 ≤ k → k < 3 → mx (oth s k).1 (oth s k).2 = N → (N = 0 ∨ ¬ Alone s) → ((oth s k).1 - (oth s k).2) % 3 = 0 → Path 2 s N (only k (sm s))
  | 0, s, hs, k, k0, k3, hN, _, _ => by
    rw [← at_end hs k0 k3 (by omega)]
    exact .nil
  | N + 1, s, hs, k, k0, k3, hN, ha, h3 => by
    have ha : ¬ Alone s := by
      rcases ha with h | h
      · omega
      · exact h
    obtain ⟨l, h, hM, hc, q1, q2, q3, q4, q5⟩ := turn_next hs ha k0 k3 h3
    have p := turn_reach N (mt3 s l h 2) q1 k k0 k3 (by omega) (q5.elim (fun z => .inl (by omega)) .inr) q4
    rw [q2] at p
    exact Path.cons hM hc p
theorem turn_some {s : T3} (hs : Nn s) {k d : Int} (k0 : 0 ≤ k) (k3 : k < 3) (h : stepsT s k = some d) : 0 ≤ d ∧ Path 2 s d.toNat (only k (sm s)) ∧ ∀ n, Path 2 s n (only k (sm s)) → d ≤ n := by
  have o0 : 0 ≤ (oth s k).1 ∧ 0 ≤ (oth s k).2 := by
    unfold Nn at hs
    rcases kinds3 k0 k3 with rfl | rfl | rfl
    · exact ⟨hs.2.1, hs.2.2⟩
    · exact ⟨hs.1, hs.2.2⟩
    · exact ⟨hs.1, hs.2.1⟩
  have m0 : 0 ≤ mx (oth s k).1 (oth s k).2 := by unfold mx; split <;> omega
  unfold stepsT at h
  by_cases h0 : (oth s k).1 = 0 ∧ (oth s k).2 = 0
  · rw [if_pos h0] at h
    obtain rfl := (Option.some.inj h).symm
    refine ⟨Int.le_refl _, ?_, fun n _ => by omega⟩
    have e := at_end hs k0 k3 (by unfold mx; rw [h0.1, h0.2]; decide)
    rw [← e]
    exact .nil
  · rw [if_neg h0] at h
    by_cases h1 : Alone s ∨ ((oth s k).1 - (oth s k).2) % 3 ≠ 0
    · rw [if_pos h1] at h
      cases h
    · rw [if_neg h1] at h
      obtain rfl := (Option.some.inj h).symm
      have ha : ¬ Alone s := fun z => h1 (.inl z)
      have h3 : ((oth s k).1 - (oth s k).2) % 3 = 0 := by
        by_cases z : ((oth s k).1 - (oth s k).2) % 3 = 0
        · exact z
        · exact absurd (.inr z) h1
      exact ⟨m0, turn_reach _ s hs k k0 k3 (by omega) (.inr ha) h3, fun n p => turn_least hs k0 k3 p⟩
end Km

set_option Elab.async false
set_option linter.all false
set_option maxRecDepth 100000
set_option maxHeartbeats 4000000
namespace Km
open PySem PySem.Spec PyProof.Rows L2
/-- a triple as values, as a key -/
def tV (s : T3) : List V := [.int s.1, .int s.2.1, .int s.2.2]
def keyT (s : T3) : List Key := [.inl s.1, .inl s.2.1, .inl s.2.2]
theorem keyT_V (s : T3) : (keyT s).map kV = tV s := rfl
theorem keyT_inj {s t : T3} (h : keyT s = keyT t) : s = t := by
  obtain ⟨a, b, c⟩ := s
  obtain ⟨a', b', c'⟩ := t
  unfold keyT at h
  injection h with h1 h
  injection h with h2 h
  injection h with h3 _
  have e1 := Sum.inl.inj h1
  have e2 := Sum.inl.inj h2
  have e3 := Sum.inl.inj h3
  dsimp only at e1 e2 e3
  rw [e1, e2, e3]
def kvF (F : List (T3 × Nat)) : List (List Key × V) := F.map fun q => (keyT q.1, .int (q.2 : Int))
theorem valF_none : ∀ {F : List (T3 × Nat)} {t : T3}, valV (kvF F) (keyT t) = none ↔ t ∉ F.map (·.1)
  | [], t => by simp [kvF, valV]
  | q :: F, t => by
    have ih := valF_none (F := F) (t := t)
    unfold kvF at ih ⊢
    rw [List.map_cons, List.map_cons, List.mem_cons, not_or]
    by_cases e : q.1 = t
    · rw [valV_pos (show (keyT q.1, V.int (q.2 : Int)).1 = keyT t from congrArg keyT e)]
      constructor
      · intro z; cases z
      · intro z; exact absurd e.symm z.1
    · rw [valV_neg (fun z => e (keyT_inj z)), ih]
      exact ⟨fun z => ⟨fun y => e y.symm, z⟩, fun z => z.2⟩
theorem valF_some : ∀ {F : List (T3 × Nat)} {t : T3} {n : Nat}, (F.map (·.1)).Nodup → (t, n) ∈ F → valV (kvF F) (keyT t) = some (.int (n : Int))
  | [], t, n, _, h => by cases h
  | q :: F, t, n, hn, h => by
    have hn' : (q.1 :: F.map (·.1)).Nodup := hn
    obtain ⟨h1, h2⟩ := List.nodup_cons.mp hn'
    unfold kvF
    rw [List.map_cons]
    by_cases e : q.1 = t
    · rcases List.mem_cons.mp h with z | z
      · rw [valV_pos (show (keyT q.1, V.int (q.2 : Int)).1 = keyT t from congrArg keyT e), ← z]
      · exact absurd (List.mem_map.mpr ⟨(t, n), z, rfl⟩) (e ▸ h1)
    · rw [valV_neg (fun z => e (keyT_inj z))]
      rcases List.mem_cons.mp h with z | z
      · exact absurd (congrArg (·.1) z).symm e
      · exact valF_some h2 z
theorem kvF_snoc (F : List (T3 × Nat)) (t : T3) (n : Nat) : kvF F ++ [(keyT t, .int (n : Int))] = kvF (F ++ [(t, n)]) := by
  unfold kvF
  rw [List.map_append]
  rfl
theorem kvF_len (F : List (T3 × Nat)) : (kvF F).length = F.length := by
  unfold kvF
  rw [List.length_map]
/-- a list of tuples, told as triples -/
def TrsAt (H : Hp) (L : Addr) (ts : List T3) : Prop := ∃ rs : List Addr, H L = some (.lst (rs.map V.ref)) ∧ Paired (fun r (t : T3) => H r = some (.tup (tV t))) rs ts
theorem TrsAt.same {H H' : Hp} {L : Addr} {ts : List T3} (s : Same H H') (h : TrsAt H L ts) : TrsAt H' L ts := by
  obtain ⟨rs, hL, hp⟩ := h
  exact ⟨rs, s _ _ hL, Paired.mono2 (fun _ _ z => s _ _ z) hp⟩
def dTrs (ts : List T3) : PyData := .list (ts.map fun t => .tuple [.int t.1, .int t.2.1, .int t.2.2])
theorem dpTrs {K : PySem.W.Frag} {H : Hp} : ∀ {rs : List Addr} {ts : List T3}, Paired (fun r (t : T3) => H r = some (.tup (tV t))) rs ts → DpAll K H (rs.map V.ref) (ts.map fun t => .tuple [.int t.1, .int t.2.1, .int t.2.2])
  | _, _, .nil => .nil
  | _, _, .cons r t => .cons (.tup (.inl (.inl r)) (.cons (.int _) (.cons (.int _) (.cons (.int _) .nil)))) (dpTrs t)
theorem TrsAt.dp {K : PySem.W.Frag} {H : Hp} {L : Addr} {ts : List T3} (h : TrsAt H L ts) : Dp K H (.ref L) (dTrs ts) := by
  obtain ⟨rs, hL, hp⟩ := h
  exact .lst (.inl (.inl hL)) (dpTrs hp)
theorem canLayTrs : ∀ ts : List T3, PyData.canLayAll0 (ts.map fun t => .tuple [.int t.1, .int t.2.1, .int t.2.2]) = true
  | [] => by simp [PyData.canLayAll0]
  | p :: ps => by
    rw [List.map_cons, PyData.canLayAll0, canLayTrs ps]
    simp [PyData.canLay0, PyData.canLayAll0]
theorem depthTrs : ∀ ts : List T3, PyData.depthAll (ts.map fun t => .tuple [.int t.1, .int t.2.1, .int t.2.2]) ≤ 1
  | [] => by simp [PyData.depthAll]
  | p :: ps => by
    rw [List.map_cons, PyData.depthAll]
    have ih := depthTrs ps
    simp only [PyData.depth, PyData.depthAll]
    omega
theorem shaped_trs (ts : List T3) : SeqAt.shaped (dTrs ts) = true := by
  unfold SeqAt.shaped dTrs
  rw [PyData.canLay0, canLayTrs, PyData.depth, Bool.true_and, decide_eq_true_iff]
  have := depthTrs ts
  omega
theorem eqv_trs_nil (ts : List T3) : PyData.eqv (dTrs ts) (.list []) = decide (ts = []) := by
  cases ts with
  | nil => simp [dTrs, PyData.eqv, PyData.eqvAll]
  | cons t r => simp [dTrs, PyData.eqv, PyData.eqvAll]
theorem met_tV (t : T3) (l h m : Int) : met t.1 t.2.1 t.2.2 l h m = tV (mt3 t l h m) := rfl
theorem cans_mem {t : T3} {l h : Int} (hM : Mt l h) (hc : cn t l h = true) : (l, h) ∈ cans t.1 t.2.1 t.2.2 := by
  refine List.mem_filter.mpr ⟨?_, hc⟩
  rcases hM with ⟨rfl, rfl⟩ | ⟨rfl, rfl⟩ | ⟨rfl, rfl⟩ <;> simp [allM]
/-- the states stay small -/
theorem path_in64 {m : Int} {s : T3} (hm : m = 1 ∨ m = 2) (hs : Nn s) (hsm : sm s ≤ 60) {n : Nat} {t : T3} (p : Path m s n t) : In64 t ∧ Nn t := by
  have key : Nn t ∧ sm t ≤ 60 := by
    rcases hm with rfl | rfl
    · obtain ⟨h1, h2, _⟩ := join_keeps hs p
      exact ⟨h1, by omega⟩
    · obtain ⟨h1, h2, _⟩ := turn_keeps hs p
      exact ⟨h1, by omega⟩
  obtain ⟨h1, h2⟩ := key
  refine ⟨?_, h1⟩
  unfold Nn at h1
  unfold sm at h2
  unfold In64
  omega

/-- a store elsewhere: x is no tuple, not the list -/
theorem TrsAt.upd {H : Hp} {L x : Addr} {ts : List T3} {o : HO} (h : TrsAt H L ts) (hL : L ≠ x) (hx : ∀ xs, H x ≠ some (.tup xs)) : TrsAt (L2.upd H x o) L ts := by
  obtain ⟨rs, h1, h2⟩ := h
  refine ⟨rs, by rw [upd_ne hL]; exact h1, Paired.mono2 (fun r t z => ?_) h2⟩
  rw [upd_ne (fun e => hx _ (e ▸ z))]
  exact z
/-- one more at the list's end -/
theorem TrsAt.app {H : Hp} {L u : Addr} {ts : List T3} {t : T3} (h : TrsAt H L ts) (hu : H u = some (.tup (tV t))) : ∃ acc : List V, H L = some (.lst acc) ∧ acc.length = ts.length ∧ TrsAt (L2.upd H L (.lst (acc ++ [.ref u]))) L (ts ++ [t]) := by
  obtain ⟨rs, h1, h2⟩ := h
  refine ⟨rs.map V.ref, h1, by rw [List.length_map]; exact Paired.length h2, rs ++ [u], by rw [upd_same, List.map_append]; rfl, ?_⟩
  have n : ∀ (r : Addr) (y : T3), H r = some (.tup (tV y)) → r ≠ L := fun r y z => ne_of z h1 (fun e => by cases e)
  exact Paired.snoc (by rw [upd_ne (n u t hu)]; exact hu) (Paired.mono2 (fun r y z => by rw [upd_ne (n r y z)]; exact z) h2)
theorem Mid.len {m : Int} {s : T3} {N : Nat} {F : List (T3 × Nat)} {G D L : List T3} (hm : m = 1 ∨ m = 2) (hs : Nn s) (hsm : sm s ≤ 60) (b : Bfs m s N F L) (q : Mid m s N F G D) : F.length + G.length ≤ 262144 := by
  have h := few_states q.nd fun t ht => by
    rcases List.mem_append.mp ht with z | z
    · obtain ⟨⟨t', n⟩, h1, e⟩ := List.mem_map.mp z
      have e : t' = t := e
      subst e
      exact (path_in64 hm hs hsm (b.A _ _ h1).1).1
    · exact (path_in64 hm hs hsm (q.P t z)).1
  rw [List.length_append, List.length_map] at h
  exact h
theorem Mid.add {m : Int} {s : T3} {N : Nat} {F : List (T3 × Nat)} {G D : List T3} {t : T3} (q : Mid m s N F G D) (p : Path m s (N + 1) t) (hn : t ∉ F.map (·.1) ++ G) : Mid m s N F (G ++ [t]) D where
  nd := by
    rw [← List.append_assoc]
    refine List.nodup_append.mpr ⟨q.nd, List.nodup_cons.mpr ⟨List.not_mem_nil, List.nodup_nil⟩, fun a ha b hb e => ?_⟩
    obtain rfl := List.mem_singleton.mp hb
    exact hn (e ▸ ha)
  P := fun g hg => by
    rcases List.mem_append.mp hg with z | z
    · exact q.P g z
    · obtain rfl := List.mem_singleton.mp z
      exact p
  S := fun u hu l h hM hc => by
    rw [← List.append_assoc]
    exact List.mem_append.mpr (.inl (q.S u hu l h hM hc))
theorem keysF (F : List (T3 × Nat)) (G : List T3) (n : Nat) : (F ++ G.map fun g => (g, n)).map (·.1) = F.map (·.1) ++ G := by
  rw [List.map_append, List.map_map]
  have e : G.map ((fun x : T3 × Nat => x.1) ∘ fun g => (g, n)) = G := by
    rw [show ((fun x : T3 × Nat => x.1) ∘ fun g : T3 => (g, n)) = id from rfl, List.map_id]
  rw [e]

/-- the kinds that can be left -/
def lastL (s : T3) : List Int := [0, 1, 2].filter fun k => lastB s k
/-! ### the promises of kindmeets.joining -/
def spLk (K : PySem.W.Frag) (C1 : Addr) : Sp := fun vs H Q E => ∃ x : V, vs = [x] ∧ ((BX K H x false ∧ E (.ref C1) none H) ∨
  ∃ (p : Addr) (s : T3), x = .ref p ∧ Tr K H p s.1 s.2.1 s.2.2 ∧ Ok3 s.1 s.2.1 s.2.2 ∧ ∀ (H' : Hp) (L : Addr), Same H H' → H L = none → H' L = some (.lst ((lastL s).map V.int)) → Q (.ref L) H')
def spFl (K : PySem.W.Frag) (C1 : Addr) : Sp := fun vs H Q E => ∃ x : V, vs = [x] ∧ ((BX K H x false ∧ E (.ref C1) none H) ∨
  ∃ (p : Addr) (s : T3), x = .ref p ∧ Tr K H p s.1 s.2.1 s.2.2 ∧ Ok3 s.1 s.2.1 s.2.2 ∧ ∀ (H' : Hp), Same H H' → Q (.int (fewest s)) H')

/-- the ends that joining comes to -/
def endsF (F : List (T3 × Nat)) : List T3 := (F.map (·.1)).filter fun t => decide (Alone t)
def sum3 (t : T3) : Int := [t.1, t.2.1, t.2.2].sum
theorem sum3_sm (t : T3) : sum3 t = sm t := by
  unfold sum3 sm
  simp only [List.sum_cons, List.sum_nil]
  omega
theorem mem_ends {s : T3} {F : List (T3 × Nat)} (h : Found 1 s F) {t : T3} : t ∈ endsF F ↔ (∃ n, Path 1 s n t) ∧ Alone t := by
  unfold endsF
  rw [List.mem_filter, decide_eq_true_iff]
  constructor
  · rintro ⟨h1, h2⟩
    obtain ⟨⟨t', n⟩, h3, e⟩ := List.mem_map.mp h1
    have e : t' = t := e
    subst e
    exact ⟨⟨n, ((h.2 _ _).mp h3).1⟩, h2⟩
  · rintro ⟨⟨n, p⟩, h2⟩
    refine ⟨?_, h2⟩
    -- the least n
    have key : ∀ n, Path 1 s n t → ∃ n', Path 1 s n' t ∧ ∀ k, k < n' → ¬ Path 1 s k t := by
      intro n
      induction n using Nat.strongRecOn with
      | _ n ih =>
        intro p
        by_cases q : ∃ k, k < n ∧ Path 1 s k t
        · obtain ⟨k, hk, pk⟩ := q
          exact ih k hk pk
        · exact ⟨n, p, fun k hk pk => q ⟨k, hk, pk⟩⟩
    obtain ⟨n', p', mn⟩ := key n p
    exact List.mem_map.mpr ⟨(t, n'), (h.2 _ _).mpr ⟨p', mn⟩, rfl⟩
theorem ends_kinds {s : T3} {F : List (T3 × Nat)} (h : Found 1 s F) (hs : Nn s) (hp : 0 < sm s) : ([0, 1, 2] : List Int).filter (fun k => (endsF F).any fun t => decide (0 < g3 t.1 t.2.1 t.2.2 k)) = lastL s := by
  unfold lastL
  apply List.filter_congr
  intro k hk
  have hk3 : 0 ≤ k ∧ k < 3 := by
    simp only [List.mem_cons, List.mem_nil_iff, or_false] at hk
    omega
  cases e : lastB s k with
  | true =>
    rw [List.any_eq_true]
    obtain ⟨n, t, p, ha, hg, _⟩ := join_hits hs hp hk3.1 hk3.2 e
    exact ⟨t, (mem_ends h).mpr ⟨⟨n, p⟩, ha⟩, decide_eq_true hg⟩
  | false =>
    rw [List.any_eq_false]
    intro t ht hg
    obtain ⟨⟨n, p⟩, ha⟩ := (mem_ends h).mp ht
    have := (join_ends hs hp p ha).2 k hk3.1 hk3.2 (of_decide_eq_true hg)
    rw [e] at this
    cases this
theorem ends_some {s : T3} {F : List (T3 × Nat)} (h : Found 1 s F) (hs : Nn s) (hp : 0 < sm s) : 0 < (endsF F).length := by
  obtain ⟨k, k0, k3, hk⟩ := last_some hs hp
  obtain ⟨n, t, p, ha, _, _⟩ := join_hits hs hp k0 k3 hk
  exact List.length_pos_of_mem ((mem_ends h).mpr ⟨⟨n, p⟩, ha⟩)
theorem ends_few {s : T3} {F : List (T3 × Nat)} (h : Found 1 s F) (hs : Nn s) (hp : 0 < sm s) {m : Int} (hm : m ∈ (endsF F).map sum3) (hl : ∀ y, y ∈ (endsF F).map sum3 → m ≤ y) : fewest s = m := by
  obtain ⟨t, ht, rfl⟩ := List.mem_map.mp hm
  obtain ⟨⟨n, p⟩, ha⟩ := (mem_ends h).mp ht
  have h1 := (join_ends hs hp p ha).1
  obtain ⟨k, k0, k3, hk⟩ := last_some hs hp
  obtain ⟨n', t', p', ha', _, e'⟩ := join_hits hs hp k0 k3 hk
  have h2 := hl (sum3 t') (List.mem_map.mpr ⟨t', (mem_ends h).mpr ⟨⟨n', p'⟩, ha'⟩, rfl⟩)
  rw [sum3_sm] at h2 ⊢
  rw [sum3_sm] at h2
  omega
theorem alone_max {t : T3} (hn : Nn t) {m : Int} (h1 : m ∈ [t.1, t.2.1, t.2.2]) (h2 : ∀ y, y ∈ [t.1, t.2.1, t.2.2] → y ≤ m) : (m = sum3 t) ↔ Alone t := by
  rw [sum3_sm]
  have a := h2 t.1 (by simp)
  have b := h2 t.2.1 (by simp)
  have c := h2 t.2.2 (by simp)
  simp only [List.mem_cons, List.mem_nil_iff, or_false] at h1
  unfold Nn at hn
  unfold sm Alone
  omega
theorem kvF_at {F : List (T3 × Nat)} {i : Nat} {k : List Key} {v : V} (h : (kvF F)[i]? = some (k, v)) : ∃ t n, F[i]? = some (t, n) ∧ k = keyT t := by
  unfold kvF at h
  rw [List.getElem?_map] at h
  cases e : F[i]? with
  | none => rw [e] at h; cases h
  | some q =>
    rw [e] at h
    have e2 := Option.some.inj h
    exact ⟨q.1, q.2, rfl, (congrArg Prod.fst e2).symm⟩
theorem filter_step {α : Type} {xs : List α} {i : Nat} {x : α} (p : α → Bool) (h : xs[i]? = some x) : (xs.take (i + 1)).filter p = (xs.take i).filter p ++ (if p x = true then [x] else []) := by
  rw [← take_next h, List.filter_append, List.filter_cons, List.filter_nil]
theorem map_take_next {α β : Type} {xs : List α} {i : Nat} {x : α} (f : α → β) (h : xs[i]? = some x) : (xs.take i).map f ++ [f x] = (xs.take (i + 1)).map f := by
  rw [← take_next h, List.map_append]
  rfl
theorem ok3_Nn {s : T3} (h : Ok3 s.1 s.2.1 s.2.2) : Nn s ∧ 0 < sm s := ⟨⟨h.a0, h.b0, h.c0⟩, h.pos⟩

theorem cans_nil {s : T3} (hs : Nn s) : cans s.1 s.2.1 s.2.2 = [] ↔ Alone s := by
  constructor
  · intro h
    unfold Nn at hs
    by_cases a : Alone s
    · exact a
    · exfalso
      unfold Alone at a
      by_cases h1 : 0 < s.1 ∧ 0 < s.2.1
      · have := cans_mem (t := s) M01 (cn01 h1.1 h1.2)
        rw [h] at this
        cases this
      · by_cases h2 : 0 < s.1 ∧ 0 < s.2.2
        · have := cans_mem (t := s) M02 (cn02 h2.1 h2.2)
          rw [h] at this
          cases this
        · have := cans_mem (t := s) M12 (cn12 (by omega) (by omega))
          rw [h] at this
          cases this
  · intro ha
    cases e : cans s.1 s.2.1 s.2.2 with
    | nil => rfl
    | cons q r =>
      have hq : q ∈ cans s.1 s.2.1 s.2.2 := by rw [e]; exact List.mem_cons_self
      obtain ⟨hM, hc⟩ := mem_cans hq
      exact absurd hc (no_move ha hM)
theorem lastL_alone {s : T3} (ha : Alone s) : lastL s = ([0, 1, 2] : List Int).filter fun k => decide (0 < g3 s.1 s.2.1 s.2.2 k) := by
  unfold lastL
  apply List.filter_congr
  intro k _
  unfold lastB
  rw [if_pos ha]
theorem join_same {s : T3} {l h : Int} (hM : Mt l h) (hc : cn s l h = true) (ha : ¬ Alone s) (hb : ¬ Alone (mt3 s l h 1)) : lastL (mt3 s l h 1) = lastL s ∧ fewest (mt3 s l h 1) = fewest s := by
  unfold lastL fewest
  rw [if_neg ha, if_neg hb]
  rcases move (m := 1) hM hc with ⟨_, _, e⟩ | ⟨_, _, e⟩ | ⟨_, _, e⟩
  · constructor
    · apply List.filter_congr
      intro k hk
      unfold lastB
      rw [if_neg ha, if_neg hb, e]
      dsimp only
      simp only [List.mem_cons, List.mem_nil_iff, or_false] at hk
      rcases hk with rfl | rfl | rfl
      · rw [if_pos rfl, if_pos rfl, decide_eq_decide]; omega
      · rw [if_neg (by decide), if_pos rfl, if_neg (by decide), if_pos rfl, decide_eq_decide]; omega
      · rw [if_neg (by decide), if_neg (by decide), if_neg (by decide), if_neg (by decide), decide_eq_decide]; omega
    · rw [e]
      have q : ((s.1 - 1 - (s.2.1 - 1)) % 2 = 0 ∧ (s.2.1 - 1 - (s.2.2 + 1)) % 2 = 0) ↔ ((s.1 - s.2.1) % 2 = 0 ∧ (s.2.1 - s.2.2) % 2 = 0) := by omega
      simp only [q]
  · constructor
    · apply List.filter_congr
      intro k hk
      unfold lastB
      rw [if_neg ha, if_neg hb, e]
      dsimp only
      simp only [List.mem_cons, List.mem_nil_iff, or_false] at hk
      rcases hk with rfl | rfl | rfl
      · rw [if_pos rfl, if_pos rfl, decide_eq_decide]; omega
      · rw [if_neg (by decide), if_pos rfl, if_neg (by decide), if_pos rfl, decide_eq_decide]; omega
      · rw [if_neg (by decide), if_neg (by decide), if_neg (by decide), if_neg (by decide), decide_eq_decide]; omega
    · rw [e]
      have q : ((s.1 - 1 - (s.2.1 + 1)) % 2 = 0 ∧ (s.2.1 + 1 - (s.2.2 - 1)) % 2 = 0) ↔ ((s.1 - s.2.1) % 2 = 0 ∧ (s.2.1 - s.2.2) % 2 = 0) := by omega
      simp only [q]
  · constructor
    · apply List.filter_congr
      intro k hk
      unfold lastB
      rw [if_neg ha, if_neg hb, e]
      dsimp only
      simp only [List.mem_cons, List.mem_nil_iff, or_false] at hk
      rcases hk with rfl | rfl | rfl
      · rw [if_pos rfl, if_pos rfl, decide_eq_decide]; omega
      · rw [if_neg (by decide), if_pos rfl, if_neg (by decide), if_pos rfl, decide_eq_decide]; omega
      · rw [if_neg (by decide), if_neg (by decide), if_neg (by decide), if_neg (by decide), decide_eq_decide]; omega
    · rw [e]
      have q : ((s.1 + 1 - (s.2.1 - 1)) % 2 = 0 ∧ (s.2.1 - 1 - (s.2.2 - 1)) % 2 = 0) ↔ ((s.1 - s.2.1) % 2 = 0 ∧ (s.2.1 - s.2.2) % 2 = 0) := by omega
      simp only [q]
theorem join_ok3 {s : T3} {l h : Int} (hM : Mt l h) (hc : cn s l h = true) (ho : Ok3 s.1 s.2.1 s.2.2) : Ok3 (mt3 s l h 1).1 (mt3 s l h 1).2.1 (mt3 s l h 1).2.2 := by
  have a0 := ho.a0
  have b0 := ho.b0
  have c0 := ho.c0
  rcases move (m := 1) hM hc with ⟨_, _, e⟩ | ⟨_, _, e⟩ | ⟨_, _, e⟩ <;> (rw [e]; exact ⟨by dsimp only; omega, by dsimp only; omega, by dsimp only; omega, by dsimp only; omega⟩)
/-- even and odd -/
def oddL (s : T3) : List Int := [s.1 % 2, s.2.1 % 2, s.2.2 % 2]
def dueB (s : T3) (k : Int) : Bool := inV (.int (((oddL s).count (g3 (s.1 % 2) (s.2.1 % 2) (s.2.2 % 2) k) : Nat) : Int)) [.int 1, .int 3]
theorem due_eq {s : T3} (ha : ¬ Alone s) : ([0, 1, 2] : List Int).filter (fun k => dueB s k) = lastL s := by
  unfold lastL
  apply List.filter_congr
  intro k hk
  unfold dueB lastB oddL g3
  rw [if_neg ha]
  have e0 : s.1 % 2 = 0 ∨ s.1 % 2 = 1 := by omega
  have e1 : s.2.1 % 2 = 0 ∨ s.2.1 % 2 = 1 := by omega
  have e2 : s.2.2 % 2 = 0 ∨ s.2.2 % 2 = 1 := by omega
  have d01 : (s.1 - s.2.1) % 2 = 0 ↔ s.1 % 2 = s.2.1 % 2 := by omega
  have d02 : (s.1 - s.2.2) % 2 = 0 ↔ s.1 % 2 = s.2.2 % 2 := by omega
  have d12 : (s.2.1 - s.2.2) % 2 = 0 ↔ s.2.1 % 2 = s.2.2 % 2 := by omega
  simp only [d01, d02, d12]
  simp only [List.mem_cons, List.mem_nil_iff, or_false] at hk
  rcases hk with rfl | rfl | rfl <;> rcases e0 with e0 | e0 <;> rcases e1 with e1 | e1 <;> rcases e2 with e2 | e2 <;> rw [e0, e1, e2] <;> decide
theorem few_due {s : T3} (ha : ¬ Alone s) : fewest s = if (((lastL s).length : Nat) : Int) = 3 then 2 else 1 := by
  unfold fewest lastL
  rw [if_neg ha]
  have e : ∀ k, lastB s k = if k = 0 then decide ((s.2.1 - s.2.2) % 2 = 0) else if k = 1 then decide ((s.1 - s.2.2) % 2 = 0) else decide ((s.1 - s.2.1) % 2 = 0) := fun k => by
    unfold lastB
    rw [if_neg ha]
  have e0 : lastB s 0 = decide ((s.2.1 - s.2.2) % 2 = 0) := by rw [e, if_pos rfl]
  have e1 : lastB s 1 = decide ((s.1 - s.2.2) % 2 = 0) := by rw [e, if_neg (by decide), if_pos rfl]
  have e2 : lastB s 2 = decide ((s.1 - s.2.1) % 2 = 0) := by rw [e, if_neg (by decide), if_neg (by decide)]
  by_cases h0 : (s.2.1 - s.2.2) % 2 = 0 <;> by_cases h1 : (s.1 - s.2.2) % 2 = 0 <;> by_cases h2 : (s.1 - s.2.1) % 2 = 0 <;> simp [List.filter_cons, e0, e1, e2, h0, h1, h2] <;> omega
theorem filter_all {α : Type} (p : α → Bool) (xs : List α) : (xs.take xs.length).filter p = xs.filter p := by rw [List.take_length]

theorem eqv_pairs_nil (ps : List (Int × Int)) : PyData.eqv (dPairs ps) (.list []) = decide (ps = []) := by
  cases ps with
  | nil => simp [dPairs, PyData.eqv, PyData.eqvAll]
  | cons t r => simp [dPairs, PyData.eqv, PyData.eqvAll]
theorem sum3_list (t : T3) : [t.1, t.2.1, t.2.2].sum = sm t := sum3_sm t
theorem k012 {i : Nat} {x : V} (h : ([.int 0, .int 1, .int 2] : List V)[i]? = some x) : ∃ kk : Int, ([0, 1, 2] : List Int)[i]? = some kk ∧ x = .int kk ∧ 0 ≤ kk ∧ kk < 3 := by
  match i, h with
  | 0, h => exact ⟨0, rfl, (Option.some.inj h).symm, by decide, by decide⟩
  | 1, h => exact ⟨1, rfl, (Option.some.inj h).symm, by decide, by decide⟩
  | 2, h => exact ⟨2, rfl, (Option.some.inj h).symm, by decide, by decide⟩
  | n + 3, h => simp at h
end Km

set_option Elab.async false
set_option linter.all false
set_option maxRecDepth 100000
set_option maxHeartbeats 4000000
namespace Km
open PySem PySem.Spec PyProof.Rows L2
section
variable {X : Cx}
theorem mt_tup_indexI : MtR X "tuple.index" (fun x xs H Q => ∃ (p : Addr) (ns : List Int) (k : Int), x = .ref p ∧ xs = [.int k] ∧ SqT X.K H p (ns.map V.int) ∧ k ∈ ns ∧ Q (.int (ns.idxOf k : Nat)) H) := by
  intro pins s σ H x xs v us Q I rx rs h
  obtain ⟨p, ns, k, rfl, rfl, hq, hk, q⟩ := h
  cases rx
  obtain ⟨u, rfl, t, rfl⟩ := vals1 rs
  obtain ⟨its, r, pl, hz⟩ := I.tuple hq
  exact PySem.SeqAt.tuple_index_ints pl r.ints hk ⟨.int (ns.idxOf k : Nat), H, I.tok _, ⟨_, rfl⟩, q⟩
/-- a tuple of the program's own, as it was laid: no dict beside it -/
def TupF (H : Hp) (a : Addr) (xs : List V) : Prop := ∃ o : Obj, o.dict = none ∧ H a = some (.frz o (.tup xs))
theorem TupF.same {H H' : Hp} {a : Addr} {xs : List V} (s : Same H H') (h : TupF H a xs) : TupF H' a xs := by
  obtain ⟨o, h1, h2⟩ := h
  exact ⟨o, h1, s _ _ h2⟩
theorem TupF.sq {K : PySem.W.Frag} {H : Hp} {a : Addr} {xs : List V} (h : TupF H a xs) : SqT K H a xs := by
  obtain ⟨o, _, h2⟩ := h
  exact .inl (.inr ⟨o, h2⟩)
def tTupF (t : TA) : TE := fun σ H Q => t σ H fun xs H1 => xs.length ≤ sizeLine ∧ ∀ (o : Obj) (p : Addr), o.dict = none → H1 p = none → Q (.ref p) (upd H1 p (.frz o (.tup xs)))
theorem pe_tupF {es : List Expr} {t : TA} {pos : Pos} {x1} (h : PA X es t) : PE X (.Tuple es x1 pos) (tTupF t) := by
  refine ⟨fun pins s σ H Q I hq => ?_⟩
  refine wpAny_Tuple_spliced (thn (h.run pos pins s σ H _ I hq) fun us s1 ⟨xs, H1, I1, r, z, q⟩ => ⟨by rw [← r.length]; exact z, ?_⟩)
  have hf : H1 s1.heap.objs.size = none := I1.hok.fresh (Nat.le_refl _)
  refine ⟨.ref s1.heap.objs.size, upd H1 s1.heap.objs.size (.frz ({ cls := .type "tuple", data := .seq us.toArray } : Obj) (.tup xs)), I1.laid (t' := s1.toks) (fun b u e => Heap.get?_push_of_some _ e) (Nat.le_refl _) ?_, rfl, q _ _ rfl hf⟩
  exact ⟨Heap.get?_push_size _ rfl, z, us, r, ⟨_, Heap.get?_push_size _ rfl, rfl, _, rfl⟩⟩
/-- a method of such a tuple -/
def tBMT (r : V → List V → Hp → VK → Prop) (to : TE) (t : TA) : TE := fun σ H Q => to σ H fun x H1 => (∃ p xs, x = .ref p ∧ TupF H1 p xs) ∧ t σ H1 fun xs H2 => r x xs H2 Q
variable {o e : Expr} {es : List Expr} {to : TE} {t : TA} {name : Str} {apos cpos : Pos} {id : String} {r : V → List V → Hp → VK → Prop}
theorem pe_bmT (slot : Slot "tuple" name id) (hty : typeOf (.builtin id) = pure (.type "method_descriptor")) (hm : MtR X id r) (ho : PE X o to) (ha : PA X (e :: es) t)
    (hbase : attributeBase o name X.env (eval o X.env) = eval o X.env := by rfl)
    (hfew : ((backTo cpos (starEach (e :: es) X.env)).all (fun x => !x.1) && (backToKw cpos (keywordEach [] X.env)).all (fun x => x.1.isSome)
      && decide ((e :: es).length + ([] : List Keyword).length + (if ([] : List Keyword).isEmpty then 0 else 1) < 30)) = true := by rfl)
    (hline : (apos.endLine == cpos.line) = true := by rfl) (hs : starEach (e :: es) X.env = (false, eval e X.env) :: starEach es X.env := by rfl) (hplain : (backTo cpos (starEach es X.env)).any (·.1) = false := by rfl) :
    PE X (.Call (.Attribute o name apos) (e :: es) [] cpos) (tBMT r to t) := by
  refine ⟨fun pins s σ H Q I h => ?_⟩
  refine wpAny_Call_method_late hbase hfew hline rfl (thn (ho.run pins s σ H _ I h) fun v s1 ⟨x, H1, I1, r1, ⟨p, xs, ex, ob, hd, hp⟩, q1⟩ => ?_)
  subst ex
  cases r1
  obtain ⟨hg, _, its, _, o2, hg2, hc, _⟩ := (show ObjOk X.prog X.w H1 s1.heap p (.frz ob (.tup xs)) from I1.hok p _ hp)
  cases hg.symm.trans hg2
  refine ⟨"tuple", id, PySem.F.plainAttrs_tuple, slot, hty, ⟨ob, hg, hc⟩, ?_, ?_⟩
  · intro a e
    cases e
    exact ⟨ob, hg, hd⟩
  · have hA := ha.run cpos pins s1 σ H1 _ I1 q1
    rw [hs] at hA ⊢
    refine Calls.callWith_builtin (by show (false || (backTo cpos (starEach es X.env)).any (·.1)) = false; rw [hplain] <;> rfl) (Calls.evalArgs_plain ?_)
    exact thn hA fun us s2 ⟨vs, H2, I2, r2, q2⟩ => hm pins s2 σ H2 (.ref p) vs (.ref p) us Q I2 rfl r2 q2
end
end Km

set_option Elab.async false
set_option linter.all false
set_option maxRecDepth 100000
set_option maxHeartbeats 4000000
/-! KmGoes: lists of meetings that can be, one behind the other -/
namespace Km
open PySem PySem.Spec PyProof.Rows L2
theorem hu65_of {A : Around} {k : Nat} (hr : Room k A) : A.units + 65 < cLine := by
  have := hr.un
  omega
def run (m : Int) (s : T3) (ms : List (Int × Int)) : T3 := ms.foldl (fun t y => mt3 t y.1 y.2 m) s
def Goes (m : Int) (s : T3) (ms : List (Int × Int)) : Prop := ∀ i y, ms[i]? = some y → Mt y.1 y.2 ∧ cn (run m s (ms.take i)) y.1 y.2 = true
theorem run_next {m : Int} {s : T3} {ms : List (Int × Int)} {i : Nat} {y : Int × Int} (h : ms[i]? = some y) : run m s (ms.take (i + 1)) = mt3 (run m s (ms.take i)) y.1 y.2 m := by
  unfold run
  rw [← take_next h, List.foldl_append]
  rfl
theorem run_snoc {m : Int} {s : T3} {ms : List (Int × Int)} {y : Int × Int} : run m s (ms ++ [y]) = mt3 (run m s ms) y.1 y.2 m := by
  unfold run
  rw [List.foldl_append]
  rfl
theorem Goes.nil {m : Int} {s : T3} : Goes m s [] := fun i y h => by simp at h
theorem Goes.snoc {m : Int} {s : T3} {ms : List (Int × Int)} {l h : Int} (g : Goes m s ms) (hM : Mt l h) (hc : cn (run m s ms) l h = true) : Goes m s (ms ++ [(l, h)]) := by
  intro i y hy
  by_cases hi : i < ms.length
  · rw [List.getElem?_append_left hi] at hy
    rw [List.take_append_of_le_length (by omega)]
    exact g i y hy
  · rw [List.getElem?_append_right (by omega)] at hy
    have e : i = ms.length := by
      have := (List.getElem?_eq_some_iff.mp hy).1
      simp only [List.length_cons, List.length_nil] at this
      omega
    subst e
    rw [Nat.sub_self] at hy
    obtain rfl := Option.some.inj hy
    rw [List.take_append_of_le_length (Nat.le_refl _), List.take_length]
    exact ⟨hM, hc⟩
theorem Goes.path {m : Int} {s : T3} {ms : List (Int × Int)} (g : Goes m s ms) : ∀ i, i ≤ ms.length → Path m s i (run m s (ms.take i))
  | 0, _ => by
    rw [List.take_zero]
    exact .nil
  | i + 1, h => by
    have hy : ms[i]? = some (ms[i]'(by omega)) := List.getElem?_eq_getElem (by omega)
    obtain ⟨hM, hc⟩ := g i _ hy
    rw [run_next hy]
    exact .snoc (Goes.path g i (by omega)) hM hc
theorem Goes.full {m : Int} {s : T3} {ms : List (Int × Int)} (g : Goes m s ms) : Path m s ms.length (run m s ms) := by
  have := g.path ms.length (Nat.le_refl _)
  rwa [List.take_length] at this
/-- a list of tuples of two numbers, wherever they lie -/
def PairsT (K : PySem.W.Frag) (H : Hp) (L : Addr) (ps : List (Int × Int)) : Prop := ∃ rs : List Addr, H L = some (.lst (rs.map V.ref)) ∧ Paired (fun r (p : Int × Int) => SqT K H r [.int p.1, .int p.2]) rs ps
theorem dpPairsT {K : PySem.W.Frag} {H : Hp} : ∀ {rs : List Addr} {ps : List (Int × Int)}, Paired (fun r (p : Int × Int) => SqT K H r [.int p.1, .int p.2]) rs ps → DpAll K H (rs.map V.ref) (ps.map fun p => .tuple [.int p.1, .int p.2])
  | _, _, .nil => .nil
  | _, _, .cons r t => .cons (.tup r (.cons (.int _) (.cons (.int _) .nil))) (dpPairsT t)
theorem PairsT.dp {K : PySem.W.Frag} {H : Hp} {L : Addr} {ps : List (Int × Int)} (h : PairsT K H L ps) : Dp K H (.ref L) (dPairs ps) := by
  obtain ⟨rs, hL, hp⟩ := h
  exact .lst (.inl (.inl hL)) (dpPairsT hp)
theorem PairsT.same {K : PySem.W.Frag} {H H' : Hp} {L : Addr} {ps : List (Int × Int)} (s : Same H H') (h : PairsT K H L ps) : PairsT K H' L ps := by
  obtain ⟨rs, hL, hp⟩ := h
  exact ⟨rs, s _ _ hL, Paired.mono2 (fun _ _ z => tup_same s z) hp⟩
theorem ty_tupT {K : PySem.W.Frag} {H : Hp} {a : Addr} {xs : List V} (h : SqT K H a xs) : TyX K H (.ref a) (.type "tuple") := by
  rcases h with (h | ⟨o, h⟩) | ⟨o, _, _, h1, h2, _⟩
  · exact .base (.tup h)
  · exact .fTuple h
  · exact .kTuple h1 h2
theorem shaped_pair (a b : Int) : SeqAt.shaped (.tuple [.int a, .int b]) = true := by
  unfold SeqAt.shaped
  simp [PyData.canLay0, PyData.canLayAll0, PyData.depth, PyData.depthAll]
/-- in a list of pairs -/
theorem any_pairs {ps : List (Int × Int)} {y : Int × Int} : (ps.map fun p => PyData.tuple [.int p.1, .int p.2]).any (fun z => PyData.eqv z (.tuple [.int y.1, .int y.2])) = decide (y ∈ ps) := by
  induction ps with
  | nil => rfl
  | cons q r ih =>
    rw [List.map_cons, List.any_cons, ih]
    have e : PyData.eqv (.tuple [.int q.1, .int q.2]) (.tuple [.int y.1, .int y.2]) = decide (y = q) := by
      obtain ⟨a, b⟩ := q
      obtain ⟨c, d⟩ := y
      simp only [PyData.eqv, PyData.eqvAll, Bool.and_true, Prod.mk.injEq]
      rw [Bool.eq_iff_iff]
      simp
      omega
    rw [e]
    simp
/-- meetings that leave the fewest -/
def FewRun (s : T3) (ms : List (Int × Int)) : Prop := Goes 1 s ms ∧ Alone (run 1 s ms) ∧ sm (run 1 s ms) = fewest s
def spTf (K : PySem.W.Frag) (C1 C3 : Addr) : Sp := fun vs H Q E => ∃ x : V, vs = [x] ∧ ((BX K H x false ∧ E (.ref C1) none H) ∨
  ∃ (p : Addr) (s : T3), x = .ref p ∧ Tr K H p s.1 s.2.1 s.2.2 ∧ Ok3 s.1 s.2.1 s.2.2 ∧ ((300 < sm s ∧ E (.ref C3) none H) ∨
    (sm s ≤ 300 ∧ TupF H p (tV s) ∧ ∀ (H' : Hp) (L : Addr) (ms : List (Int × Int)), Same H H' → H L = none → PairsT K H' L ms → FewRun s ms → Q (.ref L) H')))
theorem goes_no {m : Int} {s : T3} {ms : List (Int × Int)} (ha : Alone s) (g : Goes m s ms) : ms = [] := by
  cases ms with
  | nil => rfl
  | cons y r =>
    obtain ⟨hM, hc⟩ := g 0 y rfl
    exact absurd hc (no_move ha hM)
theorem few110 {ms : List (Int × Int)} (f : FewRun (1, 1, 0) ms) : ms = [(0, 1)] := by
  obtain ⟨g, ha, _⟩ := f
  cases ms with
  | nil => exact absurd ha (by unfold Alone run; decide)
  | cons y r =>
    obtain ⟨hM, hc⟩ := g 0 y rfl
    have hc : cn (1, 1, 0) y.1 y.2 = true := hc
    obtain ⟨l, h⟩ := y
    rcases hM with ⟨h1, h2⟩ | ⟨h1, h2⟩ | ⟨h1, h2⟩
    · obtain rfl : l = 0 := h1
      obtain rfl : h = 1 := h2
      cases r with
      | nil => rfl
      | cons z q =>
        obtain ⟨hM, hc⟩ := g 1 z rfl
        exact absurd hc (no_move (s := mt3 (1, 1, 0) 0 1 1) (.inr (.inr ⟨by decide, by decide⟩)) hM)
    · obtain rfl : l = 0 := h1
      obtain rfl : h = 2 := h2
      exact absurd hc (by decide)
    · obtain rfl : l = 1 := h1
      obtain rfl : h = 2 := h2
      exact absurd hc (by decide)
theorem few003 {ms : List (Int × Int)} (f : FewRun (0, 0, 3) ms) : ms = [] := goes_no (.inr (.inr ⟨rfl, rfl⟩)) f.1
theorem few100 {ms : List (Int × Int)} (f : FewRun (100, 100, 100) ms) : ((ms.length : Nat) : Int) = 298 := by
  obtain ⟨g, ha, e⟩ := f
  have h := join_keeps (s := (100, 100, 100)) ⟨by decide, by decide, by decide⟩ g.full
  have h1 := h.2.1
  have e2 : fewest (100, 100, 100) = 2 := by
    unfold fewest
    rw [if_neg (by unfold Alone; decide), if_pos (by decide)]
  rw [e, e2] at h1
  have e3 : sm (100, 100, 100) = 300 := rfl
  rw [e3] at h1
  omega
theorem flat_ints (ns : List Int) : (ns.map V.int).all flatV = true := by
  rw [List.all_eq_true]
  intro x hx
  obtain ⟨z, _, rfl⟩ := List.mem_map.mp hx
  rfl
theorem inV_ints {k : Int} {ns : List Int} : inV (.int k) (ns.map V.int) = decide (k ∈ ns) := by
  unfold inV
  induction ns with
  | nil => rfl
  | cons a r ih =>
    rw [List.map_cons, List.any_cons, ih]
    have e : eqV (.int a) (.int k) = decide (k = a) := by
      unfold eqV
      rw [Bool.eq_iff_iff]
      simp
      omega
    rw [e]
    simp
theorem mem_lastL {s : T3} {k : Int} (k0 : 0 ≤ k) (k3 : k < 3) (h : lastB s k = true) : k ∈ lastL s := by
  refine List.mem_filter.mpr ⟨?_, h⟩
  simp only [List.mem_cons, List.mem_nil_iff, or_false]
  omega
/-- where the one kind lies -/
theorem idx_max {t : T3} (hn : Nn t) (hp : 0 < sm t) (ha : Alone t) {m : Int} (h1 : m ∈ [t.1, t.2.1, t.2.2]) (h2 : ∀ y, y ∈ [t.1, t.2.1, t.2.2] → y ≤ m) : ∃ k : Nat, [t.1, t.2.1, t.2.2].idxOf m = k ∧ k < 3 ∧ 0 < g3 t.1 t.2.1 t.2.2 (k : Int) := by
  obtain ⟨a, b, c⟩ := t
  have hm : m = a + b + c := by
    have := (alone_max hn h1 h2).mpr ha
    rw [sum3_sm] at this
    exact this
  unfold Nn at hn
  unfold sm at hp
  unfold Alone at ha
  dsimp only at *
  subst hm
  rcases ha with ⟨rfl, rfl⟩ | ⟨rfl, rfl⟩ | ⟨rfl, rfl⟩
  · refine ⟨0, ?_, by decide, ?_⟩
    · rw [List.idxOf_cons, show (a == a + 0 + 0) = true by simp]
      rfl
    · show 0 < a
      omega
  · refine ⟨1, ?_, by decide, ?_⟩
    · have e1 : ((0 : Int) == 0 + b + 0) = false := by simp; omega
      rw [List.idxOf_cons, e1, List.idxOf_cons, show (b == 0 + b + 0) = true by simp]
      rfl
    · show 0 < b
      omega
  · refine ⟨2, ?_, by decide, ?_⟩
    · have e1 : ((0 : Int) == 0 + 0 + c) = false := by simp; omega
      rw [List.idxOf_cons, e1, List.idxOf_cons, e1, List.idxOf_cons, show (c == 0 + 0 + c) = true by simp]
      rfl
    · show 0 < c
      omega
end Km

set_option Elab.async false
set_option linter.all false
set_option maxRecDepth 100000
set_option maxHeartbeats 4000000
/-! KmAns: the two answers, what turning promises -/
namespace Km
open PySem PySem.Spec PyProof.Rows L2
/-- an own class, as isinstance asks of it -/
structure OwnI (K : PySem.W.Frag) (C : Addr) : Prop where
  cl : Cls K C
  ha : PySem.W.findIn K (.ref C) "__class__" = some (some (.builtin "object.__class__"))
  hn : PySem.W.specialIn K (.builtin "object.__class__") "__get__" = some (some (.builtin "getset_descriptor.__get__"))
  htk : PySem.W.takesIn K (.builtin "object.__class__") = some true
  hm : PySem.W.mroIn K C (.type "object") = some true
theorem OwnI.ty {K : PySem.W.Frag} {C : Addr} (o : OwnI K C) {H : Hp} {a dx : Addr} {fs : List (Str × V)} (h : H a = some (.ins C dx fs)) : TyX K H (.ref a) (.ref C) := .base (.ins h o.cl o.ha o.hn o.htk o.hm)
/-- the classes Answer, All, Barred at CN, CA, CB -/
structure AnsK (K : PySem.W.Frag) (CN CA CB : Addr) : Prop where
  A : OwnI K CA
  B : OwnI K CB
  aa : PySem.W.kitOne K (.ref CA) (.ref CA) = some true
  ab : PySem.W.kitOne K (.ref CA) (.ref CB) = some false
  an : PySem.W.kitOne K (.ref CA) (.ref CN) = some true
  ba : PySem.W.kitOne K (.ref CB) (.ref CA) = some false
  bb : PySem.W.kitOne K (.ref CB) (.ref CB) = some true
  bn : PySem.W.kitOne K (.ref CB) (.ref CN) = some true
  st : NoAttr K CA "steps"
def eqD {α : Type} [DecidableEq α] (a b : α) : Bool := decide (a = b)
def clsB (K : PySem.W.Frag) (C : Addr) : Bool :=
  (PySem.W.plainGet K C Str.empty && (PySem.W.hasDictIn K C && (PySem.W.plainOver K C && He.eqO (PySem.W.findIn K (.ref C) "__setattr__") (some (some (.builtin "object.__setattr__"))))))
def ownB (K : PySem.W.Frag) (C : Addr) : Bool :=
  clsB K C && (He.eqO (PySem.W.findIn K (.ref C) "__class__") (some (some (.builtin "object.__class__"))) && (He.eqO (PySem.W.specialIn K (.builtin "object.__class__") "__get__") (some (some (.builtin "getset_descriptor.__get__")))
    && (eqD (PySem.W.takesIn K (.builtin "object.__class__")) (some true) && eqD (PySem.W.mroIn K C (.type "object")) (some true))))
theorem ownB_ok {K : PySem.W.Frag} {C : Addr} (h : ownB K C = true) : OwnI K C := by
  obtain ⟨h0, h⟩ := He.ba h
  obtain ⟨h1, h⟩ := He.ba h
  obtain ⟨h2, h⟩ := He.ba h
  obtain ⟨h3, h4⟩ := He.ba h
  obtain ⟨c1, c⟩ := He.ba h0
  obtain ⟨c2, c⟩ := He.ba c
  obtain ⟨c3, c4⟩ := He.ba c
  exact ⟨⟨c1, c2, c3, He.eqO_ok c4⟩, He.eqO_ok h1, He.eqO_ok h2, of_decide_eq_true h3, of_decide_eq_true h4⟩
def kitB (K : PySem.W.Frag) (C D : Addr) (b : Bool) : Bool := eqD (PySem.W.kitOne K (.ref C) (.ref D)) (some b)
def ansB (K : PySem.W.Frag) (CN CA CB : Addr) : Bool :=
  ownB K CA && (ownB K CB && (kitB K CA CA true && (kitB K CA CB false && (kitB K CA CN true && (kitB K CB CA false && (kitB K CB CB true && (kitB K CB CN true && He.eqO (PySem.W.findIn K (.ref CA) "steps") (some none))))))))
theorem ansB_ok {K : PySem.W.Frag} {CN CA CB : Addr} (h : ansB K CN CA CB = true) : AnsK K CN CA CB := by
  obtain ⟨h1, h⟩ := He.ba h
  obtain ⟨h2, h⟩ := He.ba h
  obtain ⟨h3, h⟩ := He.ba h
  obtain ⟨h4, h⟩ := He.ba h
  obtain ⟨h5, h⟩ := He.ba h
  obtain ⟨h6, h⟩ := He.ba h
  obtain ⟨h7, h⟩ := He.ba h
  obtain ⟨h8, h9⟩ := He.ba h
  exact ⟨ownB_ok h1, ownB_ok h2, of_decide_eq_true h3, of_decide_eq_true h4, of_decide_eq_true h5, of_decide_eq_true h6, of_decide_eq_true h7, of_decide_eq_true h8, He.eqO_ok h9⟩
/-- an All with its steps, a Barred -/
def IsAll (CA : Addr) (H : Hp) (a : Addr) (x : V) : Prop := ∃ (dx : Addr) (fs : List (Str × V)), H a = some (.ins CA dx fs) ∧ fs.lookup ("steps" : Str) = some x ∧ fs.lookup ("shows" : Str) = none
def IsBar (CB : Addr) (H : Hp) (a : Addr) : Prop := ∃ (dx : Addr) (fs : List (Str × V)), H a = some (.ins CB dx fs) ∧ fs.lookup ("shows" : Str) = none
theorem IsAll.same {CA : Addr} {H H' : Hp} {a : Addr} {x : V} (s : Same H H') (h : IsAll CA H a x) : IsAll CA H' a x := by
  obtain ⟨dx, fs, h1, h2, h3⟩ := h
  exact ⟨dx, fs, s _ _ h1, h2, h3⟩
theorem IsBar.same {CB : Addr} {H H' : Hp} {a : Addr} (s : Same H H') (h : IsBar CB H a) : IsBar CB H' a := by
  obtain ⟨dx, fs, h1, h2⟩ := h
  exact ⟨dx, fs, s _ _ h1, h2⟩
/-- the answer that is due -/
def IsAns (CA CB : Addr) (H : Hp) (a : Addr) : Option Int → Prop
  | some d => IsAll CA H a (.int d)
  | none => IsBar CB H a
theorem IsAns.same {CA CB : Addr} {H H' : Hp} {a : Addr} (s : Same H H') : ∀ {o : Option Int}, IsAns CA CB H a o → IsAns CA CB H' a o
  | some _, h => IsAll.same s h
  | none, h => IsBar.same s h
/-! ### the promises of kindmeets.turning -/
def spAo (K : PySem.W.Frag) (C1 CK CA CB : Addr) : Sp := fun vs H Q E => ∃ x y : V, vs = [x, y] ∧ ((BX K H x false ∧ E (.ref C1) none H) ∨
  ∃ (p : Addr) (s : T3), x = .ref p ∧ Tr K H p s.1 s.2.1 s.2.2 ∧ Ok3 s.1 s.2.1 s.2.2 ∧ ((KX K H y none ∧ E (.ref CK) none H) ∨
    ∃ k : Int, y = .int k ∧ 0 ≤ k ∧ k < 3 ∧ ∀ (H' : Hp) (a : Addr), Same H H' → H a = none → IsAns CA CB H' a (stepsT s k) → Q (.ref a) H'))
def spTk (K : PySem.W.Frag) (C1 CK C3 : Addr) (tk : T3 → Int → List (Int × Int)) : Sp := fun vs H Q E => ∃ x y : V, vs = [x, y] ∧ ((BX K H x false ∧ E (.ref C1) none H) ∨
  ∃ (p : Addr) (s : T3), x = .ref p ∧ Tr K H p s.1 s.2.1 s.2.2 ∧ Ok3 s.1 s.2.1 s.2.2 ∧ ((KX K H y none ∧ E (.ref CK) none H) ∨
    ∃ k : Int, y = .int k ∧ 0 ≤ k ∧ k < 3 ∧ ((300 < sm s ∧ E (.ref C3) none H) ∨ (sm s ≤ 300 ∧ ((stepsT s k = none ∧ ∀ H', Same H H' → Q .non H') ∨
      ∃ d, stepsT s k = some d ∧ ∀ (H' : Hp) (L : Addr), Same H H' → H L = none → PairsT K H' L (tk s k) → Q (.ref L) H')))))
def TkOk (tk : T3 → Int → List (Int × Int)) : Prop := ∀ (s : T3) (k d : Int), Ok3 s.1 s.2.1 s.2.2 → 0 ≤ k → k < 3 → sm s ≤ 300 → stepsT s k = some d → Goes 2 s (tk s k) ∧ run 2 s (tk s k) = only k (sm s) ∧ (((tk s k).length : Nat) : Int) = d
theorem steps_le {s : T3} {k d : Int} (hn : Nn s) (k0 : 0 ≤ k) (k3 : k < 3) (h : stepsT s k = some d) : 0 ≤ d ∧ d ≤ sm s := by
  unfold Nn at hn
  unfold stepsT at h
  split at h
  · obtain rfl := Option.some.inj h
    unfold sm
    omega
  · split at h
    · cases h
    · obtain rfl := Option.some.inj h
      unfold mx sm
      rcases kinds3 k0 k3 with rfl | rfl | rfl
      · rw [show oth s 0 = (s.2.1, s.2.2) from rfl]
        dsimp only
        split <;> omega
      · rw [show oth s 1 = (s.1, s.2.2) from rfl]
        dsimp only
        split <;> omega
      · rw [show oth s 2 = (s.1, s.2.1) from rfl]
        dsimp only
        split <;> omega
theorem cut_last (xs : List V) (y : V) : cutV (xs ++ [y]) none (some (-1)) = xs := by
  unfold cutV
  rw [HT.sIx_none]
  have e : HT.sIx (xs ++ [y]).length (xs ++ [y]).length (some (-1)) = xs.length := by
    show (if (-1 : Int) < 0 then ((-1 : Int) + ((xs ++ [y]).length : Int)).toNat else min (-1 : Int).toNat (xs ++ [y]).length) = xs.length
    rw [if_pos (by decide), List.length_append]
    simp only [List.length_cons, List.length_nil]
    omega
  rw [e, Nat.sub_zero, List.drop_zero, List.take_append_of_le_length (Nat.le_refl _), List.take_length]
/-- a tuple stays where a list is stored -/
theorem sqT_upd {K : PySem.W.Frag} {H : Hp} {p L : Addr} {xs ys : List V} {o : HO} (h : SqT K H p xs) (hL : H L = some (.lst ys)) : SqT K (L2.upd H L o) p xs := by
  rcases h with (h | ⟨ob, h⟩) | h
  · refine .inl (.inl ?_)
    rw [upd_ne (fun e => by rw [e, hL] at h; cases h)]
    exact h
  · refine .inl (.inr ⟨ob, ?_⟩)
    rw [upd_ne (fun e => by rw [e, hL] at h; cases h)]
    exact h
  · exact .inr h
theorem only_at {k x : Int} (k0 : 0 ≤ k) (k3 : k < 3) : g3 (only k x).1 (only k x).2.1 (only k x).2.2 k = x := by
  rcases kinds3 k0 k3 with rfl | rfl | rfl <;> rfl
/-! ### the word of an answer -/
def spShA (K : PySem.W.Frag) (CA : Addr) : Sp := fun vs H Q _ => ∃ (a p : Addr) (s : T3) (k d : Int), vs = [.ref a, .ref p, .int k] ∧ IsAll CA H a (.int d) ∧ Tr K H p s.1 s.2.1 s.2.2 ∧ Ok3 s.1 s.2.1 s.2.2 ∧ 0 ≤ k ∧ k < 3 ∧ ∀ H', Same H H' → Q (.bl (decide (stepsT s k = some d))) H'
def spShB (K : PySem.W.Frag) (CB : Addr) : Sp := fun vs H Q _ => ∃ (a p : Addr) (s : T3) (k : Int), vs = [.ref a, .ref p, .int k] ∧ IsBar CB H a ∧ Tr K H p s.1 s.2.1 s.2.2 ∧ Ok3 s.1 s.2.1 s.2.2 ∧ 0 ≤ k ∧ k < 3 ∧ ∀ H', Same H H' → Q (.bl (decide (stepsT s k = none))) H'
/-- a class's own word -/
structure ShOk (P : Program) (w : World) (K : PySem.W.Frag) (mg : Str → Option Value) (base : Heap) (C f : Addr) (fd : FuncData) (ps : List Str) (sp : Sp) : Prop where
  m : Meth K C "shows" f
  G : FnOk P w K mg base (L2.CX P w) 6 f fd ps sp
  b : Binds K fd ps []
/-! ### answers made by hand -/
def tMkB (CB : Addr) : TE := fun σ H Q => ∀ (H' : Hp) (a : Addr), Same H H' → H a = none → IsBar CB H' a → Q (.ref a) H'
def tMkA (CA : Addr) (t : TA) : TE := fun σ H Q => t σ H fun vs H1 => ∃ v, vs = [v] ∧ ∀ (H' : Hp) (a : Addr), Same H1 H' → H1 a = none → IsAll CA H' a v → Q (.ref a) H'
structure MkOk (P : Program) (w : World) (K : PySem.W.Frag) (mg : Str → Option Value) (base : Heap) (CA CB : Addr) : Prop where
  b : ∀ {X : Cx} {p pos : Pos}, X.prog = P → X.w = w → X.K = K → X.mg = mg → X.base = base → Room 3 X.A → Gl X "Barred" → PE X (.Call (.Name "Barred" p) [] [] pos) (tMkB CB)
  a : ∀ {X : Cx} {p pos : Pos} {e : Expr} {t : TA}, X.prog = P → X.w = w → X.K = K → X.mg = mg → X.base = base → Room 3 X.A → Gl X "All" → PA X [e] t → starEach [e] X.env = (false, eval e X.env) :: starEach [] X.env →
    PE X (.Call (.Name "All" p) [e] [] pos) (tMkA CA t)
/-- one of two readings -/
def tEi (t1 t2 : TE) : TE := fun σ H Q => t1 σ H Q ∨ t2 σ H Q
theorem pe_ei {X : Cx} {e : Expr} {t1 t2 : TE} (h1 : PE X e t1) (h2 : PE X e t2) : PE X e (tEi t1 t2) :=
  ⟨fun pins s σ H Q I h => h.elim (fun z => h1.run pins s σ H Q I z) (fun z => h2.run pins s σ H Q I z)⟩
def oV : Option Int → V
  | some d => .int d
  | none => .non
/-- what the answer says of other beads -/
def saysA (o st : Option Int) : Bool := match o with
  | some d => decide (st = some d)
  | none => decide (st = none)
theorem valF_mem : ∀ {F : List (T3 × Nat)} {t : T3} {n : Nat}, (F.map (·.1)).Nodup → (t, n) ∈ F → valV (kvF F) (keyT t) = some (.int (n : Int))
  | [], _, _, _, h => by cases h
  | q :: F, t, n, hn, h => by
    rw [List.map_cons, List.nodup_cons] at hn
    rcases List.mem_cons.mp h with rfl | h
    · simp [kvF, valV]
    · have hne : q.1 ≠ t := fun e => hn.1 (e ▸ List.mem_map.mpr ⟨_, h, rfl⟩)
      have hk : keyT q.1 ≠ keyT t := fun e => hne (keyT_inj e)
      have ih := valF_mem hn.2 h
      have e1 : decide (keyT q.1 = keyT t) = false := decide_eq_false hk
      simp only [kvF, valV, List.map_cons, List.find?_cons] at ih ⊢
      rw [e1]
      exact ih
theorem reach_steps {s : T3} {F : List (T3 × Nat)} (h : Found 2 s F) (hs : Nn s) {k : Int} (k0 : 0 ≤ k) (k3 : k < 3) : valV (kvF F) (keyT (only k (sm s))) = (stepsT s k).map V.int := by
  cases e : stepsT s k with
  | none =>
    refine valF_none.mpr fun hm => ?_
    obtain ⟨⟨t, n⟩, h1, e1⟩ := List.mem_map.mp hm
    have e1 : t = only k (sm s) := e1
    subst e1
    exact turn_none hs k0 k3 e ((h.2 _ _).mp h1).1
  | some d =>
    obtain ⟨d0, hp, hl⟩ := turn_some hs k0 k3 e
    have hm : (only k (sm s), d.toNat) ∈ F := (h.2 _ _).mpr ⟨hp, fun j hj pj => by have := hl j pj; omega⟩
    rw [valF_mem h.1 hm]
    show some (V.int ((d.toNat : Nat) : Int)) = some (V.int d)
    rw [Int.toNat_of_nonneg d0]
theorem oV_non (o : Option Int) : decide (oV o = .non) = decide (o = none) := by
  cases o with
  | none => rfl
  | some d =>
    rw [show decide (oV (some d) = .non) = false from decide_eq_false (fun e => by cases e), decide_eq_false (fun e => by cases e)]
theorem says_some (d e : Int) : decide (V.int d = V.int e) = saysA (some d) (some e) := by
  show decide (V.int d = V.int e) = decide (some e = some d)
  rw [decide_eq_decide]
  constructor
  · intro h
    rw [V.int.inj h]
  · intro h
    rw [Option.some.inj h]
theorem oth_list {s : T3} {k : Int} (k0 : 0 ≤ k) (k3 : k < 3) : ((([0, 1, 2] : List Int).filter fun o => decide (o ≠ k)).map fun o => g3 s.1 s.2.1 s.2.2 o) = [(oth s k).1, (oth s k).2] := by
  rcases kinds3 k0 k3 with rfl | rfl | rfl <;> rfl
theorem eqv_two (x y : Int) : PyData.eqv (.list ([x, y].map PyData.int)) (.list (([0, 0] : List Int).map PyData.int)) = decide (x = 0 ∧ y = 0) := by
  rw [Bool.eq_iff_iff]
  simp [PyData.eqv, PyData.eqvAll]
theorem mx_of {x y m : Int} (h1 : m ∈ [x, y]) (h2 : ∀ z, z ∈ [x, y] → z ≤ m) : m = mx x y := by
  have a := h2 x (by simp)
  have b := h2 y (by simp)
  simp only [List.mem_cons, List.mem_nil_iff, or_false] at h1
  unfold mx
  split <;> omega
theorem steps_isSome {s : T3} (ha : ¬ Alone s) {k : Int} (k0 : 0 ≤ k) (k3 : k < 3) : (stepsT s k).isSome = decide (((oth s k).1 - (oth s k).2) % 3 = 0) := by
  have hz : ¬ ((oth s k).1 = 0 ∧ (oth s k).2 = 0) := fun z => ha (by
    unfold Alone
    rcases kinds3 k0 k3 with rfl | rfl | rfl
    · exact .inl z
    · exact .inr (.inl z)
    · exact .inr (.inr z))
  unfold stepsT
  rw [if_neg hz]
  by_cases h : ((oth s k).1 - (oth s k).2) % 3 = 0
  · rw [if_neg (fun q => q.elim ha fun q => q h), decide_eq_true h]
    rfl
  · rw [if_pos (.inr h), decide_eq_false h]
    rfl
theorem turn_alike {s : T3} {l h : Int} (hn : Nn s) (hM : Mt l h) (hc : cn s l h = true) (hb : ¬ Alone (mt3 s l h 2)) {k : Int} (k0 : 0 ≤ k) (k3 : k < 3) : (stepsT (mt3 s l h 2) k).isSome = (stepsT s k).isSome := by
  have ha : ¬ Alone s := fun y => no_move y hM hc
  obtain ⟨_, _, e1, e2, e3, _⟩ := turn_keeps hn (Path.snoc Path.nil hM hc)
  rw [steps_isSome ha k0 k3, steps_isSome hb k0 k3, decide_eq_decide]
  generalize mt3 s l h 2 = t at e1 e2 e3
  rcases kinds3 k0 k3 with rfl | rfl | rfl
  · show (t.2.1 - t.2.2) % 3 = 0 ↔ (s.2.1 - s.2.2) % 3 = 0
    omega
  · show (t.1 - t.2.2) % 3 = 0 ↔ (s.1 - s.2.2) % 3 = 0
    omega
  · show (t.1 - t.2.1) % 3 = 0 ↔ (s.1 - s.2.1) % 3 = 0
    omega
theorem turn_ok3 {s : T3} {l h : Int} (hM : Mt l h) (hc : cn s l h = true) (ho : Ok3 s.1 s.2.1 s.2.2) : Ok3 (mt3 s l h 2).1 (mt3 s l h 2).2.1 (mt3 s l h 2).2.2 := by
  have a0 := ho.a0
  have b0 := ho.b0
  have c0 := ho.c0
  rcases move (m := 2) hM hc with ⟨_, _, e⟩ | ⟨_, _, e⟩ | ⟨_, _, e⟩ <;> (rw [e]; exact ⟨by dsimp only; omega, by dsimp only; omega, by dsimp only; omega, by dsimp only; omega⟩)
theorem isSome_oV (o : Option Int) : (!decide (oV o = .non)) = o.isSome := by
  cases o with
  | none => rfl
  | some d => rw [show decide (oV (some d) = .non) = false from decide_eq_false (fun e => by cases e)]; rfl
/-- the class of an answer -/
theorem ans_isA {K : PySem.W.Frag} {CN CA CB : Addr} (c : AnsK K CN CA CB) {H : Hp} {a : Addr} {o : Option Int} (h : IsAns CA CB H a o) : ∃ t, TyX K H (.ref a) t ∧ PySem.W.kitOne K t (.ref CA) = some o.isSome := by
  cases o with
  | none =>
    obtain ⟨dx, fs, h1, _⟩ := h
    exact ⟨_, c.B.ty h1, c.ba⟩
  | some d =>
    obtain ⟨dx, fs, h1, _⟩ := h
    exact ⟨_, c.A.ty h1, c.aa⟩
theorem only_next {s : T3} {k : Int} {i : Nat} {j : Int} (h : ([0, 1, 2] : List Int)[i]? = some j) : ((([0, 1, 2] : List Int).take i).map fun o => if o = k then sm s else 0) ++ [if j = k then sm s else 0] = (([0, 1, 2] : List Int).take (i + 1)).map fun o => if o = k then sm s else 0 := map_take_next _ h
theorem only_list {k x : Int} (k0 : 0 ≤ k) (k3 : k < 3) : (([0, 1, 2] : List Int).map fun o => if o = k then x else 0).map V.int = tV (only k x) := by
  rcases kinds3 k0 k3 with rfl | rfl | rfl <;> rfl
/-- the steps by the search -/
theorem inDict {σ : L2.St} {H : Hp} {Q : VK} {i j : Nat} {d t : Addr} {s : T3} {k : Int} {F : List (T3 × Nat)} (hi : σ[i]? = some (some (.ref t))) (hj : σ[j]? = some (some (.ref d))) (hd : H d = some (.dT (kvF F))) (ht : H t = some (.tup (tV (only k (sm s)))))
    (h : Found 2 s F) (hs : Nn s) (k0 : 0 ≤ k) (k3 : k < 3) (q : Q (oV (stepsT s k)) H) : tIf (tB (tDIn (tVar i) (tVar j))) (tDGet (tVar j) (tVar i)) (tC .non) σ H Q := by
  have e := reach_steps h hs k0 k3
  refine ⟨_, hi, _, hj, d, _, rfl, DGet.t (k := keyT (only k (sm s))) hd ht, _, rfl, ?_⟩
  rw [e]
  cases hst : stepsT s k with
  | none =>
    rw [hst] at q
    exact iteF q
  | some c =>
    rw [hst] at q e
    refine iteT ⟨_, hj, _, hi, d, _, rfl, ?_, q⟩
    have z := DGet.t (k := keyT (only k (sm s))) hd ht
    rw [e] at z
    exact z
theorem scal_oV (o : Option Int) : scal (oV o) (oV o) = true := by
  cases o <;> rfl
/-- whether all can come to the kind, as paper tells -/
def canB (s : T3) (k : Int) : Bool := (stepsT s k).isSome
theorem canB_eq {s : T3} {k : Int} (hz : ¬ ((oth s k).1 = 0 ∧ (oth s k).2 = 0)) (ha : ¬ Alone s) : canB s k = decide (((oth s k).1 - (oth s k).2) % 3 = 0) := by
  unfold canB stepsT
  rw [if_neg hz]
  by_cases h : ((oth s k).1 - (oth s k).2) % 3 = 0
  · rw [if_neg (fun q => q.elim ha fun q => q h), decide_eq_true h]
    rfl
  · rw [if_pos (.inr h), decide_eq_false h]
    rfl
theorem canB_zero {s : T3} {k : Int} (hz : (oth s k).1 = 0 ∧ (oth s k).2 = 0) : canB s k = true := by
  unfold canB stepsT
  rw [if_pos hz]
  rfl
theorem canB_alone {s : T3} {k : Int} (hz : ¬ ((oth s k).1 = 0 ∧ (oth s k).2 = 0)) (ha : Alone s) : canB s k = false := by
  unfold canB stepsT
  rw [if_neg hz, if_pos (.inl ha)]
  rfl
theorem steps_eq {s : T3} {k n : Int} : decide (stepsT s k = some n) = (canB s k && decide (n = mx (oth s k).1 (oth s k).2)) := by
  unfold canB stepsT
  split
  · rename_i hz
    have e : mx (oth s k).1 (oth s k).2 = 0 := by
      unfold mx
      rw [hz.1, hz.2]
      rfl
    rw [e, Bool.eq_iff_iff]
    simp
    exact ⟨fun h => h.symm, fun h => h.symm⟩
  · split
    · simp
    · rw [Bool.eq_iff_iff]
      simp
      exact ⟨fun h => h.symm, fun h => h.symm⟩
theorem steps_none {s : T3} {k : Int} : decide (stepsT s k = none) = !canB s k := by
  unfold canB
  cases stepsT s k <;> rfl
/-- four tuples and a list of them, laid -/
theorem lit4 {H : Hp} {t0 t1 t2 t3 l : Addr} {x0 x1 x2 x3 : List V} (h0 : H t0 = none) (h1 : upd H t0 (.tup x0) t1 = none) (h2 : upd (upd H t0 (.tup x0)) t1 (.tup x1) t2 = none) (h3 : upd (upd (upd H t0 (.tup x0)) t1 (.tup x1)) t2 (.tup x2) t3 = none)
    (hl : upd (upd (upd (upd H t0 (.tup x0)) t1 (.tup x1)) t2 (.tup x2)) t3 (.tup x3) l = none) :
    ∃ Hm, upd (upd (upd (upd (upd H t0 (.tup x0)) t1 (.tup x1)) t2 (.tup x2)) t3 (.tup x3)) l (.lst [.ref t0, .ref t1, .ref t2, .ref t3]) = Hm ∧ Same H Hm ∧ Hm t0 = some (.tup x0) ∧ Hm t1 = some (.tup x1) ∧ Hm t2 = some (.tup x2) ∧ Hm t3 = some (.tup x3) ∧ Hm l = some (.lst [.ref t0, .ref t1, .ref t2, .ref t3]) := by
  have s0 : Same H (upd H t0 (.tup x0)) := same_upd h0
  have s1 : Same (upd H t0 (.tup x0)) (upd (upd H t0 (.tup x0)) t1 (.tup x1)) := same_upd h1
  have s2 : Same (upd (upd H t0 (.tup x0)) t1 (.tup x1)) (upd (upd (upd H t0 (.tup x0)) t1 (.tup x1)) t2 (.tup x2)) := same_upd h2
  have s3 : Same (upd (upd (upd H t0 (.tup x0)) t1 (.tup x1)) t2 (.tup x2)) (upd (upd (upd (upd H t0 (.tup x0)) t1 (.tup x1)) t2 (.tup x2)) t3 (.tup x3)) := same_upd h3
  have s4 : Same (upd (upd (upd (upd H t0 (.tup x0)) t1 (.tup x1)) t2 (.tup x2)) t3 (.tup x3)) (upd (upd (upd (upd (upd H t0 (.tup x0)) t1 (.tup x1)) t2 (.tup x2)) t3 (.tup x3)) l (.lst [.ref t0, .ref t1, .ref t2, .ref t3])) := same_upd hl
  exact ⟨_, rfl, s0.trans (s1.trans (s2.trans (s3.trans s4))), s4 _ _ (s3 _ _ (s2 _ _ (s1 _ _ upd_same))), s4 _ _ (s3 _ _ (s2 _ _ upd_same)), s4 _ _ (s3 _ _ upd_same), s4 _ _ upd_same, upd_same⟩
/-! ### whole numbers only -/
def iEi (w1 w2 : TI) : TI := fun σ H R => w1 σ H R ∨ w2 σ H R
theorem pi_ei {X : Cx} {tg l : Expr} {w1 w2 : TI} (h1 : PI X tg l w1) (h2 : PI X tg l w2) : PI X tg l (iEi w1 w2) :=
  ⟨fun pins s σ H R I h => h.elim (fun z => h1.run pins s σ H R I z) (fun z => h2.run pins s σ H R I z)⟩
def Pl (K : PySem.W.Frag) : Nat → Hp → V → Prop
  | 0, _, _ => False
  | n + 1, H, x => x = .non ∨ (∃ i, x = .int i) ∨ ∃ (a : Addr) (xs : List V), x = .ref a ∧ (SqL K H a xs ∨ SqT K H a xs) ∧ xs.length < sizeLine ∧ ∀ y ∈ xs, Pl K n H y
theorem Pl.same {K : PySem.W.Frag} {H H' : Hp} (s : Same H H') : ∀ {n : Nat} {x : V}, Pl K n H x → Pl K n H' x
  | 0, _, h => h
  | n + 1, _, h => by
    rcases h with h | h | ⟨a, xs, e, hs, hl, ha⟩
    · exact .inl h
    · exact .inr (.inl h)
    · exact .inr (.inr ⟨a, xs, e, hs.imp (fun z => s.seq z) (fun z => tup_same s z), hl, fun y hy => Pl.same s (ha y hy)⟩)
theorem ty_listL {K : PySem.W.Frag} {H : Hp} {a : Addr} {xs : List V} (h : SqL K H a xs) : TyX K H (.ref a) (.type "list") := by
  rcases h with (h | ⟨o, h⟩) | ⟨o, _, _, h1, h2, _⟩
  · exact .base (.lst h)
  · exact .base (.frz h)
  · exact .kList h1 h2
theorem Pl.int {K : PySem.W.Frag} {H : Hp} {n : Nat} {i : Int} : Pl K (n + 1) H (.int i) := .inr (.inl ⟨i, rfl⟩)
theorem Pl.non {K : PySem.W.Frag} {H : Hp} {n : Nat} : Pl K (n + 1) H .non := .inl rfl
theorem Pl.ints {K : PySem.W.Frag} {H : Hp} {n : Nat} {ns : List Int} : ∀ y ∈ ns.map V.int, Pl K (n + 1) H y := fun y hy => by
  obtain ⟨z, _, rfl⟩ := List.mem_map.mp hy
  exact Pl.int
theorem Pl.listI {K : PySem.W.Frag} {H : Hp} {n : Nat} {a : Addr} {ns : List Int} (h : SqL K H a (ns.map V.int)) (hl : ns.length < sizeLine) : Pl K (n + 2) H (.ref a) := .inr (.inr ⟨a, _, rfl, .inl h, by rw [List.length_map]; exact hl, Pl.ints⟩)
theorem Pl.tupI {K : PySem.W.Frag} {H : Hp} {n : Nat} {a : Addr} {ns : List Int} (h : SqT K H a (ns.map V.int)) (hl : ns.length < sizeLine) : Pl K (n + 2) H (.ref a) := .inr (.inr ⟨a, _, rfl, .inr h, by rw [List.length_map]; exact hl, Pl.ints⟩)
theorem Paired.mem {α β : Type} {R : α → β → Prop} : ∀ {xs : List α} {ys : List β} {x : α}, Paired R xs ys → x ∈ xs → ∃ y, R x y
  | _, _, _, .nil, h => by cases h
  | _, _, _, .cons r t, h => by
    rcases List.mem_cons.mp h with rfl | h
    · exact ⟨_, r⟩
    · exact Paired.mem t h
theorem PairsT.pl {K : PySem.W.Frag} {H : Hp} {n : Nat} {L : Addr} {ms : List (Int × Int)} (h : PairsT K H L ms) (hl : ms.length < sizeLine) : Pl K (n + 3) H (.ref L) := by
  obtain ⟨rs, h1, h2⟩ := h
  refine .inr (.inr ⟨L, _, rfl, .inl (.inl (.inl h1)), by rw [List.length_map, PySem.Paired.length h2]; exact hl, fun y hy => ?_⟩)
  obtain ⟨r, hr, rfl⟩ := List.mem_map.mp hy
  obtain ⟨p, hp⟩ := Paired.mem h2 hr
  exact Pl.tupI (ns := [p.1, p.2]) hp (by show 2 < sizeLine; decide)
theorem PairsAt.pt {K : PySem.W.Frag} {H0 H : Hp} {L : Addr} {ms : List (Int × Int)} (h : PairsAt H0 H L ms) : PairsT K H L ms := by
  obtain ⟨rs, h1, h2⟩ := h
  exact ⟨rs, h1, Paired.mono2 (fun _ _ z => .inl (.inl z.2)) h2⟩
theorem cans_len {a b c : Int} : (cans a b c).length < sizeLine := Nat.lt_of_le_of_lt (List.length_filter_le _ _) (by decide)
/-- what is found so far: a list of one's own, of whole numbers within -/
def Fd (K : PySem.W.Frag) (H H' : Hp) (L : Addr) (n : Nat) : Prop := ∃ (H0 : Hp) (xs : List V), Same H H0 ∧ Same H0 H' ∧ H0 L = none ∧ H' L = some (.lst xs) ∧ xs.length ≤ n ∧ ∀ x ∈ xs, Pl K 3 H0 x
theorem Fd.same {K : PySem.W.Frag} {H H' H'' : Hp} {L : Addr} {n : Nat} (h : Fd K H H' L n) (s : Same H' H'') : Fd K H H'' L n := by
  obtain ⟨H0, xs, a, b, c, d, e⟩ := h
  exact ⟨H0, xs, a, b.trans s, c, s _ _ d, e⟩
theorem Fd.le {K : PySem.W.Frag} {H H' : Hp} {L : Addr} {m n : Nat} (h : Fd K H H' L m) (l : m ≤ n) : Fd K H H' L n := by
  obtain ⟨H0, xs, a, b, c, d, e, f⟩ := h
  exact ⟨H0, xs, a, b, c, d, Nat.le_trans e l, f⟩
theorem Fd.sames {K : PySem.W.Frag} {H H' : Hp} {L : Addr} {n : Nat} (h : Fd K H H' L n) : Same H H' := by
  obtain ⟨H0, xs, a, b, _⟩ := h
  exact a.trans b
/-- another list behind it -/
theorem Fd.cat {K : PySem.W.Frag} {H H' : Hp} {L b : Addr} {n m : Nat} {zs : List V} (h : Fd K H H' L n) (hb : H' b = some (.lst zs)) (hl : zs.length ≤ m) (hp : ∀ z ∈ zs, Pl K 3 H' z) :
    ∃ xs, H' L = some (.lst xs) ∧ xs.length ≤ n ∧ ∀ p, H' p = none → Fd K H (L2.upd H' p (.lst (xs ++ zs))) p (n + m) := by
  obtain ⟨H0, xs, a, s, c, d, e, f⟩ := h
  refine ⟨xs, d, e, fun p hn => ⟨H', xs ++ zs, a.trans s, same_upd hn, hn, upd_same, by rw [List.length_append]; omega, fun x hx => ?_⟩⟩
  rcases List.mem_append.mp hx with z | z
  · exact Pl.same s (f x z)
  · exact hp x z
theorem Fd.app {K : PySem.W.Frag} {H H' : Hp} {L : Addr} {n : Nat} {i : Int} (h : Fd K H H' L n) : ∃ xs, H' L = some (.lst xs) ∧ xs.length ≤ n ∧ Fd K H (L2.upd H' L (.lst (xs ++ [.int i]))) L (n + 1) := by
  obtain ⟨H0, xs, a, s, c, d, e, f⟩ := h
  refine ⟨xs, d, e, H0, xs ++ [.int i], a, same_new s c, c, upd_same, by rw [List.length_append]; show xs.length + 1 ≤ n + 1; omega, fun x hx => ?_⟩
  rcases List.mem_append.mp hx with z | z
  · exact f x z
  · obtain rfl := List.mem_singleton.mp z
    exact Pl.int
theorem Fd.pl {K : PySem.W.Frag} {H H' : Hp} {L : Addr} {n : Nat} (h : Fd K H H' L n) (hn : n < sizeLine) : Pl K 4 H' (.ref L) := by
  obtain ⟨H0, xs, a, s, c, d, e, f⟩ := h
  exact .inr (.inr ⟨L, xs, rfl, .inl (.inl (.inl d)), Nat.lt_of_le_of_lt e hn, fun y hy => Pl.same s (f y hy)⟩)
/-- the heap but for a list -/
def er (H : Hp) (D : Addr) : Hp := fun a => if a = D then none else H a
theorem er_ne {H : Hp} {D a : Addr} (h : a ≠ D) : er H D a = H a := if_neg h
theorem er_same {H H' : Hp} {D : Addr} (s : Same H H') : Same (er H D) (er H' D) := by
  intro a o h
  by_cases e : a = D
  · rw [e] at h
    unfold er at h
    rw [if_pos rfl] at h
    cases h
  · rw [er_ne e] at h ⊢
    exact s _ _ h
theorem er_upd {H : Hp} {D : Addr} {o : HO} : er (L2.upd H D o) D = er H D := by
  funext a
  by_cases e : a = D
  · unfold er
    rw [if_pos e, if_pos e]
  · rw [er_ne e, er_ne e, upd_ne e]
theorem er_le {H : Hp} {D : Addr} : Same (er H D) H := by
  intro a o h
  by_cases e : a = D
  · rw [e] at h
    unfold er at h
    rw [if_pos rfl] at h
    cases h
  · rw [er_ne e] at h
    exact h
theorem er_sqT {K : PySem.W.Frag} {H : Hp} {D p : Addr} {xs ys : List V} (h : SqT K H p xs) (hD : H D = some (.lst ys)) : SqT K (er H D) p xs := by
  rcases h with (h | ⟨ob, h⟩) | h
  · refine .inl (.inl ?_)
    rw [er_ne (fun e => by rw [e, hD] at h; cases h)]
    exact h
  · refine .inl (.inr ⟨ob, ?_⟩)
    rw [er_ne (fun e => by rw [e, hD] at h; cases h)]
    exact h
  · exact .inr h
theorem PairsT.er {K : PySem.W.Frag} {H : Hp} {D L : Addr} {ys : List V} {ms : List (Int × Int)} (h : PairsT K H L ms) (hD : H D = some (.lst ys)) (n : L ≠ D) : PairsT K (Km.er H D) L ms := by
  obtain ⟨rs, h1, h2⟩ := h
  exact ⟨rs, by rw [er_ne n]; exact h1, Paired.mono2 (fun _ _ z => er_sqT z hD) h2⟩
/-- a comprehension's list so far -/
def Fc (K : PySem.W.Frag) (H' : Hp) (D : Addr) (n : Nat) : Prop := ∃ ys : List V, H' D = some (.lst ys) ∧ ys.length = n ∧ ∀ y ∈ ys, Pl K 3 (er H' D) y
theorem Fc.app {K : PySem.W.Frag} {H H' : Hp} {D : Addr} {n : Nat} {y : V} (h : Fc K H D n) (s : Same H H') (hy : Pl K 3 (er H' D) y) : ∃ ys, H' D = some (.lst ys) ∧ ys.length = n ∧ Fc K (L2.upd H' D (.lst (ys ++ [y]))) D (n + 1) := by
  obtain ⟨ys, h1, h2, h3⟩ := h
  refine ⟨ys, s _ _ h1, h2, ys ++ [y], upd_same, by rw [List.length_append, h2]; rfl, fun z hz => ?_⟩
  rw [er_upd]
  rcases List.mem_append.mp hz with q | q
  · exact Pl.same (er_same s) (h3 z q)
  · obtain rfl := List.mem_singleton.mp q
    exact hy
theorem tk110 {tk : T3 → Int → List (Int × Int)} (h : TkOk tk) : tk (1, 1, 0) 2 = [(0, 1)] := by
  obtain ⟨g, _, e⟩ := h (1, 1, 0) 2 1 ⟨by decide, by decide, by decide, by decide⟩ (by decide) (by decide) (by decide) (by unfold stepsT oth Alone mx; decide)
  generalize tk (1, 1, 0) 2 = ms at g e
  cases ms with
  | nil => simp at e
  | cons y r =>
    cases r with
    | cons _ _ =>
      simp only [List.length_cons] at e
      omega
    | nil =>
      obtain ⟨hM, hc⟩ := g 0 y rfl
      have hc : cn (1, 1, 0) y.1 y.2 = true := hc
      obtain ⟨l, h⟩ := y
      rcases hM with ⟨h1, h2⟩ | ⟨h1, h2⟩ | ⟨h1, h2⟩
      · obtain rfl : l = 0 := h1
        obtain rfl : h = 1 := h2
        rfl
      · obtain rfl : l = 0 := h1
        obtain rfl : h = 2 := h2
        exact absurd hc (by decide)
      · obtain rfl : l = 1 := h1
        obtain rfl : h = 2 := h2
        exact absurd hc (by decide)
end Km

set_option Elab.async false
set_option linter.all false
set_option maxRecDepth 100000
set_option maxHeartbeats 4000000
/-! KmSort: sorted of a tuple of numbers -/
namespace Km
open PySem PySem.Spec PyProof.Rows L2
section
variable {prog : Program} {w : World} {A : Around} {E : Value → Shared → Prop} {s : Shared}
theorem collect_tup {l : Addr} {vs : List Value} {Q : List Value → Shared → Prop} (hl : IsTup s.heap l vs.toArray)
    (h : Q vs { s with heap := (s.heap.push (seqObj "list" #[] 0)).update s.heap.objs.size (Obj.mapSeq (· ++ vs.toArray)) }) (hsz : vs.length ≤ sizeLine) :
    wpAny (model prog w) A (collect (.ref l)) Q E s := by
  obtain ⟨o, ho, hc, n, hd⟩ := id hl
  unfold collect
  refine wpAny_bind (wpAny_runValue (codeAny_builtin entry_proto_collect' ?_))
  show wpAny _ _ (do again (.builtin "list.__iadd__" ⟨[← newList [], .ref l], []⟩)) _ _ s
  refine wpAny_bind (wpAny_newList (wpAny_pure ⟨Code.quiet_builtin _ (by decide +kernel), codeAny_builtin entry_list_iadd' ?_⟩))
  show wpAny _ _ (Builtin.List.listExtendWith (.ref s.heap.objs.size) (.ref l) (.ref s.heap.objs.size)) _ _ { s with heap := s.heap.push (seqObj "list" #[] 0) }
  unfold Builtin.List.listExtendWith
  have ho' : (s.heap.push (seqObj "list" #[] 0)).get? l = some o := Heap.get?_push_of_some _ ho
  refine wpAny_bind (wpAny_typeOf (T := "tuple") ⟨o, ho', hc⟩ ?_)
  have ht : (Value.type "tuple" == Value.type "tuple") = true := by rfl
  rw [if_pos (by rw [ht]; simp)]
  refine wpAny_bind (listItems_at ho' hd ?_)
  refine wpAny_bind (listItems_at (xs := #[]) (n := 0) (Heap.get?_push_size _ rfl) rfl ?_)
  rw [if_neg (by simp)]
  refine wpAny_bind (listUpdate_at (xs := #[]) (n := 0) (Heap.get?_push_size _ rfl) rfl ?_ (Nat.zero_le _) (by show (#[] ++ vs.toArray).size ≤ sizeLine + 1; simp only [Array.size_append, List.size_toArray, List.length_nil]; omega))
  refine wpAny_pure ?_
  refine wpAny_bind (wpAny_load (get?_update_seq (Heap.get?_push_size _ rfl) _) ?_)
  show wpAny _ _ (pure ((#[] : Array Value) ++ vs.toArray).toList) Q E _
  rw [show ((#[] : Array Value) ++ vs.toArray).toList = vs by simp]
  exact wpAny_pure h
theorem sorted_tup {l : Addr} {vs : List Value} {ns : List Int} {Q : Value → Shared → Prop} (hl : IsTup s.heap l vs.toArray) (hI : IntsAre vs ns) (h64 : vs.length < 64)
    (h : ∀ (out : Array Value) (ns' : List Int), IntsAre out.toList ns' → ns'.Perm ns → ns'.Pairwise (· ≤ ·) → Q (.ref (s.heap.objs.size + 1)) { s with heap := sortedAll s.heap vs out }) :
    wpAny (model prog w) A (call (.builtin "sorted") [.ref l]) Q E s := by
  refine Calls.call_function_entry kind_sorted plain_sorted entry_sorted (args_sorted1 _) ?_
  unfold Builtin.«sorted»
  refine wpAny_bind (m := checkCount "sorted" 1 1 _) (wpAny_pure ?_)
  refine wpAny_bind (collect_tup hl ?_ (Nat.le_of_lt (Nat.lt_of_lt_of_le h64 (by decide))))
  refine wpAny_bind (wpAny_newList ?_)
  have hsz : ((s.heap.push (seqObj "list" #[] 0)).update s.heap.objs.size (Obj.mapSeq (· ++ vs.toArray))).objs.size = s.heap.objs.size + 1 := by
    rw [Heap.size_update, size_push']
  have hoL : (((s.heap.push (seqObj "list" #[] 0)).update s.heap.objs.size (Obj.mapSeq (· ++ vs.toArray))).push (seqObj "list" vs.toArray 0)).get? (s.heap.objs.size + 1) = some (seqObj "list" vs.toArray 0) := by
    rw [← hsz]; exact Heap.get?_push_size _ rfl
  show wpAny _ _ _ _ _ { s with heap := ((s.heap.push (seqObj "list" #[] 0)).update s.heap.objs.size (Obj.mapSeq (· ++ vs.toArray))).push (seqObj "list" vs.toArray 0) }
  rw [hsz]
  refine wpAny_bind (wpAny_holding (wpAny_call_entry slot_list_sort ⟨_, hoL, rfl⟩ entry_list_sort (list_sort_tree hoL hI h64 fun out ns' a1 a2 a3 => ⟨_, rfl, ?_⟩) (args_list_sort _)))
  exact wpAny_pure ⟨_, rfl, h out ns' a1 a2 a3⟩
end
section
variable {X : Cx}
def rSortedTp (K : PySem.W.Frag) : List V → Hp → VK → Prop := fun vs H Q => ∃ (a : Addr) (ns : List Int), vs = [V.ref a] ∧ SqT K H a (ns.map V.int) ∧ ns.length < 64 ∧
  ∀ (ns' : List Int) (p : Addr), ns'.Perm ns → ns'.Pairwise (· ≤ ·) → H p = none → Q (.ref p) (upd H p (.lst (ns'.map V.int)))
theorem cr_sortedTp : CallR X (.builtin "sorted") (rSortedTp X.K) := by
  intro pins s σ H vs us Q I r h
  obtain ⟨a, ns, rfl, hs, h64, q⟩ := h
  obtain ⟨its, rv, hl, _⟩ := I.tuple hs
  rw [Vals.ref1 r]
  have hi := rv.ints
  refine sorted_tup hl hi (by rw [hi.length]; exact h64) fun out ns' h1 h2 h3 => ?_
  obtain ⟨ep, he'⟩ := PyProof.Rows.sortedAll_at s.heap its out
  have hlen : (ns'.map V.int).length ≤ sizeLine := by rw [List.length_map, h2.length_eq]; exact small64 h64
  exact ⟨.ref _, upd H (s.heap.objs.size + 1) (.lst (ns'.map V.int)), I.laid (t' := s.toks) (fun _ _ => PyProof.Rows.sortedAll_old) (Nat.le_succ _) ⟨hlen, out.toList, ep, vals_of_ints h1, he'⟩, rfl, q ns' _ h2 h3 (I.hok.fresh (Nat.le_succ _))⟩
end
end Km

set_option Elab.async false
set_option linter.all false
set_option maxRecDepth 100000
set_option maxHeartbeats 4000000
/-! KmMin: min of a tuple of numbers; tuple(list) laid without a dict; the greater, the lesser of two -/
namespace Km
open PySem PySem.Spec PyProof.Rows L2
def rMinT (K : PySem.W.Frag) : List V → Hp → VK → Prop := fun vs H Q => ∃ (a : Addr) (ns : List Int), vs = [V.ref a] ∧ SqT K H a (ns.map V.int) ∧ 0 < ns.length ∧ ∀ m, m ∈ ns → (∀ y, y ∈ ns → m ≤ y) → Q (.int m) H
section
variable {prog : Program} {w : World} {A : Around} {E : Value → Shared → Prop} {s : Shared} {l : Addr} {xs : Array (Int × Tok)}
theorem min_tupG {Q : Value → Shared → Prop} (hh : A.handled = none) (hl : s.heap.IsTuple l (PySem.intItems xs)) (hne : 0 < xs.size)
    (h : ∀ v h' tk, (PySem.intItems xs)[PySem.argBest (fun i j => decide (PySem.numAt xs i < PySem.numAt xs j)) (xs.size - 1)]? = some v → (∀ b o, s.heap.get? b = some o → h'.get? b = some o) → Q v { s with heap := h', toks := tk }) :
    wpAny (model prog w) A (call (.builtin "min") [.ref l]) Q E s := by
  obtain ⟨o, ho, _⟩ := id hl
  have hlt : l < s.heap.objs.size := Heap.lt_size ho
  refine PySem.call_min_walk (wpAny_pyIter_tuple hl ?_)
  refine ⟨_, _, _, _, _, _, _, rfl, Walks.tuple (A := A.in1) hh _ l (Nat.ne_of_lt hlt) (PySem.intItems xs), ⟨⟨_, Heap.get?_push_size _ rfl, rfl, rfl⟩, hl.push _⟩, ?_, by simpa [PySem.intItems] using hne, PySem.CmpOf.ints_lt (PySem.numAt xs) (fun _ _ => PySem.intItems_at), fun v h' tk hP hk => ?_⟩
  · intro b hb
    show b < (s.heap.push _).objs.size
    rw [Heap.size_push]
    rcases List.mem_cons.mp hb with rfl | hb
    · exact Nat.lt_succ_self _
    · rcases List.mem_cons.mp hb with rfl | hb
      · exact Nat.lt_succ_of_lt hlt
      · cases hb
  · refine h v h' tk (by simpa [PySem.intItems] using hP) fun b o e => hk b o ?_ (Heap.get?_push_of_some _ e)
    exact fun hb => absurd (Heap.lt_size e) ((List.mem_singleton.mp hb) ▸ Nat.lt_irrefl _)
end
section
variable {X : Cx}
theorem cr_minT (hc : X.calm = true) : CallR X (.builtin "min") (rMinT X.K) := by
  intro pins s σ H vs us Q I r h
  obtain ⟨a, ns, rfl, hs, hne, q⟩ := h
  obtain ⟨its, rv, hl, _⟩ := I.tuple hs
  rw [Vals.ref1 r]
  have hi := rv.ints
  obtain ⟨xs, e⟩ := hi.allInts.items
  have hn : PySem.numsOf (PySem.intItems xs).toList = ns := by rw [← e]; exact hi.numsOf
  rw [PySem.nums_intItems] at hn
  subst hn
  rw [e] at hl
  have hsz : 0 < xs.size := by simpa using hne
  refine min_tupG (I.ok.hd hc) hl hsz fun v h' tk hv hk => ?_
  obtain ⟨t, rfl⟩ := PySem.intItems_at hv
  obtain ⟨h1, h2⟩ := PySem.argBest_lt (PySem.numAt xs) (xs.size - 1)
  refine ⟨.int _, H, I.kept hk, ⟨_, rfl⟩, q _ ?_ fun a ha => ?_⟩
  · rw [PySem.numAt_eq]; exact PySem.getD_mem (by rw [List.length_map, Array.length_toList]; omega)
  · obtain ⟨j, hj, rfl⟩ := PySem.mem_getD ha
    rw [List.length_map, Array.length_toList] at hj
    rw [← PySem.numAt_eq]; exact h2 j (by omega)
/-- tuple(list), laid without a dict -/
def rTupF (K : PySem.W.Frag) : List V → Hp → VK → Prop := fun xs H Q => ∃ p ys, xs = [V.ref p] ∧ SqL K H p ys ∧ ∀ (o : Obj) (l : Addr), o.dict = none → H l = none → Q (.ref l) (upd H l (.frz o (.tup ys)))
theorem call_tuple_ofF : CallR X (.type "tuple") (rTupF X.K) := by
  intro pins s σ H xs us Q I r h
  obtain ⟨p, ys, rfl, hq, q⟩ := h
  obtain ⟨u, rfl, rx⟩ := vals1 r
  cases rx
  obtain ⟨its, r', pl, hz⟩ := I.list hq
  have hlen := r'.length
  refine call_tuple_list pl.isList (fun h' kp => ?_) (by simp only [List.size_toArray] <;> omega)
  have I1 : Inv X pins σ H { s with heap := h' } := I.kept (t' := s.toks) kp
  refine ⟨.ref h'.objs.size, upd H h'.objs.size (.frz ({ cls := .type "tuple", data := .seq its.toArray } : Obj) (.tup ys)), I1.laid (t' := s.toks) (fun b o e => Heap.get?_push_of_some _ e) (Nat.le_refl _) ?_, rfl, q _ _ rfl (I1.hok.fresh (Nat.le_refl _))⟩
  exact ⟨Heap.get?_push_size _ rfl, hz, its, r', IsTup.new _ _⟩
end
end Km

set_option Elab.async false
set_option linter.all false
set_option maxRecDepth 100000
set_option maxHeartbeats 4000000
/-! KmFew: the meeting of the two kinds of which there are the most; a list of told meetings that grows -/
namespace Km
open PySem PySem.Spec PyProof.Rows L2
theorem last_par {s : T3} (ha : ¬ Alone s) {k : Int} (k0 : 0 ≤ k) (k3 : k < 3) : decide (V.int (([s.1, s.2.1, s.2.2].sum - g3 s.1 s.2.1 s.2.2 k) % 2) = V.int 0) = lastB s k := by
  unfold lastB
  rw [if_neg ha]
  have e : (decide (V.int (([s.1, s.2.1, s.2.2].sum - g3 s.1 s.2.1 s.2.2 k) % 2) = V.int 0)) = decide (([s.1, s.2.1, s.2.2].sum - g3 s.1 s.2.1 s.2.2 k) % 2 = 0) := by
    rw [decide_eq_decide]
    exact ⟨fun z => V.int.inj z, fun z => by rw [z]⟩
  rw [e, sum3_list]
  unfold sm g3
  rcases kinds3 k0 k3 with rfl | rfl | rfl
  · rw [if_pos rfl, if_pos rfl, decide_eq_decide]; omega
  · rw [if_neg (by decide), if_pos rfl, if_neg (by decide), if_pos rfl, decide_eq_decide]; omega
  · rw [if_neg (by decide), if_neg (by decide), if_neg (by decide), if_neg (by decide), decide_eq_decide]; omega
theorem few_one {s : T3} (ha : ¬ Alone s) : fewest s = if (((lastL s).length : Nat) : Int) = 1 then 1 else 2 := by
  rw [few_due ha]
  unfold lastL
  have e : ∀ k, lastB s k = if k = 0 then decide ((s.2.1 - s.2.2) % 2 = 0) else if k = 1 then decide ((s.1 - s.2.2) % 2 = 0) else decide ((s.1 - s.2.1) % 2 = 0) := fun k => by
    unfold lastB
    rw [if_neg ha]
  have e0 : lastB s 0 = decide ((s.2.1 - s.2.2) % 2 = 0) := by rw [e, if_pos rfl]
  have e1 : lastB s 1 = decide ((s.1 - s.2.2) % 2 = 0) := by rw [e, if_neg (by decide), if_pos rfl]
  have e2 : lastB s 2 = decide ((s.1 - s.2.1) % 2 = 0) := by rw [e, if_neg (by decide), if_neg (by decide)]
  by_cases h0 : (s.2.1 - s.2.2) % 2 = 0 <;> by_cases h1 : (s.1 - s.2.2) % 2 = 0 <;> by_cases h2 : (s.1 - s.2.1) % 2 = 0 <;> simp [List.filter_cons, e0, e1, e2, h0, h1, h2] <;> omega
theorem no_cans {s : T3} (hn : Nn s) {H0 H : Hp} {rs : List Addr} (hp : Paired (fun r (p : Int × Int) => H0 r = none ∧ H r = some (.tup [.int p.1, .int p.2])) rs (cans s.1 s.2.1 s.2.2)) : (!(!(rs.map V.ref).isEmpty)) = decide (Alone s) := by
  have hl := Paired.length hp
  rw [Bool.not_not, Bool.eq_iff_iff, List.isEmpty_iff_length_eq_zero, List.length_map, decide_eq_true_iff, hl, List.length_eq_zero_iff]
  exact cans_nil hn
theorem kind_turn {i : Nat} (hi : i < 3) : ∃ kk : Int, (0 : Int) + (i : Int) = kk ∧ ([0, 1, 2] : List Int)[i]? = some kk ∧ 0 ≤ kk ∧ kk < 3 := by
  match i, hi with
  | 0, _ => exact ⟨0, rfl, rfl, by decide, by decide⟩
  | 1, _ => exact ⟨1, rfl, rfl, by decide, by decide⟩
  | 2, _ => exact ⟨2, rfl, rfl, by decide, by decide⟩
def least3 (s : T3) : Int := if s.1 ≤ s.2.1 ∧ s.1 ≤ s.2.2 then 0 else if s.2.1 ≤ s.2.2 then 1 else 2
def most (s : T3) : Int × Int := if least3 s = 0 then (1, 2) else if least3 s = 1 then (0, 2) else (0, 1)
theorem least_idx {s : T3} {m : Int} (h1 : m ∈ [s.1, s.2.1, s.2.2]) (h2 : ∀ y, y ∈ [s.1, s.2.1, s.2.2] → m ≤ y) : (([s.1, s.2.1, s.2.2].idxOf m : Nat) : Int) = least3 s := by
  have a := h2 s.1 (by simp)
  have b := h2 s.2.1 (by simp)
  have c := h2 s.2.2 (by simp)
  simp only [List.mem_cons, List.mem_nil_iff, or_false] at h1
  unfold least3
  by_cases e1 : s.1 = m
  · have : [s.1, s.2.1, s.2.2].idxOf m = 0 := by rw [List.idxOf_cons]; simp [e1]
    rw [this, if_pos (by omega)]
    rfl
  · by_cases e2 : s.2.1 = m
    · have : [s.1, s.2.1, s.2.2].idxOf m = 1 := by
        have b1 : (s.1 == m) = false := by simpa using e1
        rw [List.idxOf_cons, List.idxOf_cons, b1]; simp [e2]
      rw [this, if_neg (by omega), if_pos (by omega)]
      rfl
    · have e3 : s.2.2 = m := by omega
      have : [s.1, s.2.1, s.2.2].idxOf m = 2 := by
        have b1 : (s.1 == m) = false := by simpa using e1
        have b2 : (s.2.1 == m) = false := by simpa using e2
        rw [List.idxOf_cons, List.idxOf_cons, List.idxOf_cons, b1, b2]; simp [e3]
      rw [this, if_neg (by omega), if_neg (by omega)]
      rfl
theorem most_list (s : T3) : (([0, 1, 2] : List Int).filter fun k => decide (k ≠ least3 s)) = [(most s).1, (most s).2] := by
  unfold most least3
  split
  · rfl
  · split <;> rfl
theorem mt12 (s : T3) (m : Int) : mt3 s 1 2 m = (s.1 + m, s.2.1 - 1, s.2.2 - 1) := by unfold mt3 mk; simp
theorem mt02 (s : T3) (m : Int) : mt3 s 0 2 m = (s.1 - 1, s.2.1 + m, s.2.2 - 1) := by unfold mt3 mk; simp
theorem mt01 (s : T3) (m : Int) : mt3 s 0 1 m = (s.1 - 1, s.2.1 - 1, s.2.2 + m) := by unfold mt3 mk; simp
theorem most_step {s : T3} (hn : Nn s) (ha : ¬ Alone s) : Mt (most s).1 (most s).2 ∧ cn s (most s).1 (most s).2 = true ∧ fewest (mt3 s (most s).1 (most s).2 1) = fewest s := by
  have q2 : fewest s = if (s.1 - s.2.1) % 2 = 0 ∧ (s.2.1 - s.2.2) % 2 = 0 then 2 else 1 := by
    unfold fewest
    rw [if_neg ha]
  have fin : ∀ l h : Int, Mt l h → cn s l h = true → (Alone (mt3 s l h 1) → sm (mt3 s l h 1) = fewest s) → fewest (mt3 s l h 1) = fewest s := fun l h hM hc q => by
    by_cases hb : Alone (mt3 s l h 1)
    · rw [← q hb]
      unfold fewest
      rw [if_pos hb]
    · exact (join_same hM hc ha hb).2
  unfold Nn at hn
  have ha' := ha
  unfold Alone at ha'
  by_cases e0 : s.1 ≤ s.2.1 ∧ s.1 ≤ s.2.2
  · have em : most s = (1, 2) := by unfold most least3; rw [if_pos e0, if_pos rfl]
    rw [em]
    have hc : cn s 1 2 = true := cn12 (by omega) (by omega)
    refine ⟨M12, hc, fin 1 2 M12 hc fun hb => ?_⟩
    rw [mt12] at hb ⊢
    rw [q2]
    unfold Alone at hb
    unfold sm
    dsimp only at hb ⊢
    split <;> omega
  · by_cases e1 : s.2.1 ≤ s.2.2
    · have em : most s = (0, 2) := by unfold most least3; rw [if_neg e0, if_pos e1, if_neg (by decide), if_pos rfl]
      rw [em]
      have hc : cn s 0 2 = true := cn02 (by omega) (by omega)
      refine ⟨M02, hc, fin 0 2 M02 hc fun hb => ?_⟩
      rw [mt02] at hb ⊢
      rw [q2]
      unfold Alone at hb
      unfold sm
      dsimp only at hb ⊢
      split <;> omega
    · have em : most s = (0, 1) := by unfold most least3; rw [if_neg e0, if_neg e1, if_neg (by decide), if_neg (by decide)]
      rw [em]
      have hc : cn s 0 1 = true := cn01 (by omega) (by omega)
      refine ⟨M01, hc, fin 0 1 M01 hc fun hb => ?_⟩
      rw [mt01] at hb ⊢
      rw [q2]
      unfold Alone at hb
      unfold sm
      dsimp only at hb ⊢
      split <;> omega
theorem PairsAt.app {H0 H : Hp} {L u : Addr} {ps : List (Int × Int)} {l h : Int} (P : PairsAt H0 H L ps) (n0 : H0 u = none) (hu : H u = some (.tup [.int l, .int h])) :
    ∃ acc : List V, H L = some (.lst acc) ∧ acc.length = ps.length ∧ PairsAt H0 (L2.upd H L (.lst (acc ++ [.ref u]))) L (ps ++ [(l, h)]) := by
  obtain ⟨rs, hL, hp⟩ := P
  refine ⟨rs.map V.ref, hL, by rw [List.length_map]; exact Paired.length hp, rs ++ [u], by rw [upd_same, List.map_append]; rfl, ?_⟩
  have n : ∀ (r : Addr) (xs : List V), H r = some (.tup xs) → r ≠ L := fun r xs z => ne_of z hL (fun e => by cases e)
  refine Paired.snoc ⟨n0, by rw [upd_ne (n u _ hu)]; exact hu⟩ (Paired.mono2 (fun r q z => ⟨z.1, ?_⟩) hp)
  rw [upd_ne (n r _ z.2)]
  exact z.2
theorem TupF.upd {H : Hp} {p L : Addr} {xs ys : List V} {o : HO} (h : TupF H p xs) (hL : H L = some (.lst ys)) : TupF (L2.upd H L o) p xs := by
  obtain ⟨ob, h1, h2⟩ := h
  exact ⟨ob, h1, by rw [upd_ne (ne_of h2 hL (fun e => by cases e))]; exact h2⟩
end Km

set_option Elab.async false
set_option linter.all false
set_option maxRecDepth 100000
set_option maxHeartbeats 4000000
/-! KmMake: C() of a class without __init__; what is asked of the classes at the head -/
namespace Km
open PySem PySem.Spec PyProof.Rows L2
structure Mk0 (K : PySem.W.Frag) (C : Addr) : Prop where
  makes : PySem.W.makesIn K C = true
  init : PySem.W.findIn K (.ref C) "__init__" = some (some (.builtin "object.__init__"))
  kp : PySem.W.keepIn K (.ref C) = true
def mk0B (K : PySem.W.Frag) (C : Addr) : Bool := PySem.W.makesIn K C && (He.eqO (PySem.W.findIn K (.ref C) "__init__") (some (some (.builtin "object.__init__"))) && PySem.W.keepIn K (.ref C))
theorem mk0B_ok {K : PySem.W.Frag} {C : Addr} (h : mk0B K C = true) : Mk0 K C := by
  obtain ⟨h1, h⟩ := He.ba h
  obtain ⟨h2, h3⟩ := He.ba h
  exact ⟨h1, He.eqO_ok h2, h3⟩
def tMk0 (C : Addr) : TE := fun _ H Q => ∀ x dx, H x = none → H dx = none → dx ≠ x → Q (.ref x) (upd (upd H dx (.own x)) x (.ins C dx []))
section
variable {X : Cx} {C : Addr} {x : Str} {p pos : Pos}
theorem run_make0 {pins : List (Addr × Obj)} {σ : L2.St} {H : Hp} {s : Shared} {Q : VK} (M : Mk0 X.K C) (I : Inv X pins σ H s)
    (h : ∀ x dx, H x = none → H dx = none → dx ≠ x → Q (.ref x) (upd (upd H dx (.own x)) x (.ins C dx []))) :
    wpAny (model X.prog X.w) X.A (call (.ref C) []) (EP X pins σ Q) X.xe s := by
  have hq := h (s.heap.objs.size + 1) s.heap.objs.size (I.hok.fresh (Nat.le_succ _)) (I.hok.fresh (Nat.le_refl _)) (Nat.ne_of_lt (Nat.lt_succ_self _))
  have I2 := Inv.made (C := C) I
  have Y := PySem.W.makes_of (M := model X.prog X.w) I.kIn M.makes
  have hx : ((s.heap.push PySem.W.emptyDict).push (PySem.W.instObj C s.heap.objs.size)).get? (s.heap.objs.size + 1) = some (PySem.W.instObj C s.heap.objs.size) := by
    have := Heap.get?_push_size (s.heap.push PySem.W.emptyDict) (o := PySem.W.instObj C s.heap.objs.size) rfl
    rwa [Heap.size_push] at this
  have t1 : PySem.W.Looks (model X.prog X.w) ((s.heap.push PySem.W.emptyDict).push (PySem.W.instObj C s.heap.objs.size)) (typeOf (.ref (s.heap.objs.size + 1))) (.ref C) := (PySem.W.Looks.ld hx).andThen .now
  have t2 : PySem.W.Looks (model X.prog X.w) ((s.heap.push PySem.W.emptyDict).push (PySem.W.instObj C s.heap.objs.size)) (isInstance (.ref (s.heap.objs.size + 1)) (.type "object")) true := t1.andThen (Y.top.keeps fun b o e => Heap.get?_push_of_some _ (Heap.get?_push_of_some _ e))
  refine wpAny_call (make_map0 I.kIn M.makes M.init (fun self => PySem.W.Looks.of_pure (PySem.W.oi_bind self)) ?_)
  refine codeAny_call_builtin PySem.W.oi_plain PySem.W.entry_oi (@PySem.W.check_slot (model X.prog X.w) _ _ _ "object.__init__" "object" "__init__" (.ref (s.heap.objs.size + 1)) [] [] _ PySem.W.oi_kind PySem.W.oi_split t2 (PySem.W.oi_args (.ref (s.heap.objs.size + 1))) ?_)
  rw [PySem.W.oi_run]
  exact wpAny_pure (And.intro rfl ⟨V.ref (s.heap.objs.size + 1), _, I2, rfl, hq⟩)
theorem pe_mk0 (M : Mk0 X.K C) (hg : Gl X x) (hm : X.mg x = some (.ref C)) (hdb : (x == ("__debug__" : Str)) = false := by decide) : PE X (.Call (.Name x p) [] [] pos) (tMk0 C) := by
  refine ⟨fun pins s σ H Q I h => ?_⟩
  refine wpAny_Call_Name_kw (ld_glob I hg hm ?_ hdb)
  exact PySem.W.callWith_K0 I.kIn M.kp (run_make0 M I h)
end
theorem Pe.imp {X : Cx} {e : Expr} {t t' : TE} (h : PE X e t) (k : ∀ σ H Q, t' σ H Q → t σ H Q) : PE X e t' := ⟨fun pins s σ H Q I q => h.run pins s σ H Q I (k _ _ _ q)⟩
end Km

set_option Elab.async false
set_option linter.all false
set_option maxRecDepth 100000
set_option maxHeartbeats 4000000
/-! KmTurn: how few turning meetings, as the program reckons it -/
namespace Km
open PySem PySem.Spec PyProof.Rows L2
def FtOk (s : T3) (k : Int) : Prop :=
    (g3 s.1 s.2.1 s.2.2 k = 0 → (if (oth s k).2 < (oth s k).1 then (oth s k).2 else (oth s k).1) = 0 → stepsT s k = none) ∧
    (¬ (g3 s.1 s.2.1 s.2.2 k = 0 ∧ (if (oth s k).2 < (oth s k).1 then (oth s k).2 else (oth s k).1) = 0) → ((oth s k).1 - (oth s k).2) % 3 ≠ 0 → stepsT s k = none) ∧
    (¬ (g3 s.1 s.2.1 s.2.2 k = 0 ∧ (if (oth s k).2 < (oth s k).1 then (oth s k).2 else (oth s k).1) = 0) → ((oth s k).1 - (oth s k).2) % 3 = 0 → stepsT s k = some (if (oth s k).2 > (oth s k).1 then (oth s k).2 else (oth s k).1))
theorem ft_key {s : T3} {k x y z : Int} (x0 : 0 ≤ x) (y0 : 0 ≤ y) (z0 : 0 ≤ z) (hp : 0 < x + y + z) (ha : Alone s ↔ (x = 0 ∧ y = 0) ∨ (z = 0 ∧ y = 0) ∨ (z = 0 ∧ x = 0)) (hg : g3 s.1 s.2.1 s.2.2 k = z) (ho : oth s k = (x, y)) : FtOk s k := by
  unfold FtOk stepsT
  rw [ho, hg]
  dsimp only
  refine ⟨fun h1 h2 => ?_, fun h1 h2 => ?_, fun h1 h2 => ?_⟩
  · have hz : x = 0 ∨ y = 0 := by
      split at h2 <;> omega
    rw [if_neg (by omega), if_pos (.inl (ha.mpr (by omega)))]
  · rw [if_neg (by omega), if_pos (.inr h2)]
  · by_cases e : x = 0 ∧ y = 0
    · rw [if_pos e, if_neg (by omega), e.1]
    · rw [if_neg e, if_neg ?_]
      · unfold mx
        congr 1
        split <;> split <;> omega
      · rintro (q | q)
        · have q := ha.mp q
          exact h1 ⟨by omega, by split <;> omega⟩
        · exact q h2
theorem ft_cases {s : T3} (hn : Nn s) (hp : 0 < sm s) {k : Int} (k0 : 0 ≤ k) (k3 : k < 3) : FtOk s k := by
  unfold Nn at hn
  unfold sm at hp
  rcases kinds3 k0 k3 with rfl | rfl | rfl
  · exact ft_key (x := s.2.1) (y := s.2.2) (z := s.1) hn.2.1 hn.2.2 hn.1 (by omega) (by unfold Alone; omega) rfl rfl
  · exact ft_key (x := s.1) (y := s.2.2) (z := s.2.1) hn.1 hn.2.2 hn.2.1 (by omega) (by unfold Alone; omega) rfl rfl
  · exact ft_key (x := s.1) (y := s.2.1) (z := s.2.2) hn.1 hn.2.1 hn.2.2 (by omega) (by unfold Alone; omega) rfl rfl
theorem scal_int_oV (d : Int) (o : Option Int) : scal (.int d) (oV o) = true := by cases o <;> rfl
theorem int_oV (d : Int) (o : Option Int) : decide (V.int d = oV o) = decide (o = some d) := by
  cases o with
  | none => rfl
  | some e =>
    show decide (V.int d = V.int e) = _
    rw [decide_eq_decide]
    constructor
    · intro h; rw [V.int.inj h]
    · intro h; rw [Option.some.inj h]
def loK (k : Int) : Int := if k = 0 then 1 else 0
def hiK (k : Int) : Int := if k = 2 then 1 else 2
def restK (s : T3) (k : Int) : Int := if 0 < g3 s.1 s.2.1 s.2.2 (loK k) then loK k else hiK k
/-- the first of the fewest meetings to the kind -/
def tw (s : T3) (k : Int) : Int × Int := if 0 < g3 s.1 s.2.1 s.2.2 (loK k) ∧ 0 < g3 s.1 s.2.1 s.2.2 (hiK k) then (loK k, hiK k) else (if k < restK s k then k else restK s k, if k > restK s k then k else restK s k)
theorem others_list {k : Int} (k0 : 0 ≤ k) (k3 : k < 3) : (([0, 1, 2] : List Int).filter fun o => decide (o ≠ k)) = [loK k, hiK k] := by
  rcases kinds3 k0 k3 with rfl | rfl | rfl <;> rfl
theorem loK_in {k : Int} (k0 : 0 ≤ k) (k3 : k < 3) : 0 ≤ loK k ∧ loK k < 3 ∧ 0 ≤ hiK k ∧ hiK k < 3 := by
  rcases kinds3 k0 k3 with rfl | rfl | rfl <;> decide
def TN (s : T3) (k l h : Int) : Prop := Mt l h ∧ cn s l h = true ∧ Nn (mt3 s l h 2) ∧ sm (mt3 s l h 2) = sm s ∧ mx (oth (mt3 s l h 2) k).1 (oth (mt3 s l h 2) k).2 = mx (oth s k).1 (oth s k).2 - 1 ∧ ((oth (mt3 s l h 2) k).1 - (oth (mt3 s l h 2) k).2) % 3 = 0 ∧ (mx (oth (mt3 s l h 2) k).1 (oth (mt3 s l h 2) k).2 = 0 ∨ ¬ Alone (mt3 s l h 2))
theorem tw_next {s : T3} (hs : Nn s) (ha : ¬ Alone s) {k : Int} (k0 : 0 ≤ k) (k3 : k < 3) (h3 : ((oth s k).1 - (oth s k).2) % 3 = 0) : TN s k (tw s k).1 (tw s k).2 := by
  obtain ⟨a, b, c⟩ := s
  unfold Nn at hs
  unfold Alone at ha
  dsimp only at hs ha
  rcases kinds3 k0 k3 with rfl | rfl | rfl
  · change (b - c) % 3 = 0 at h3
    have key : ∀ a' b' c', 0 ≤ a' → 0 ≤ b' → 0 ≤ c' → a' + b' + c' = a + b + c → mx b' c' = mx b c - 1 → (b' - c') % 3 = 0 → (mx b' c' = 0 ∨ ¬ Alone (a', b', c')) → ∀ l h, Mt l h → cn (a, b, c) l h = true → mt3 (a, b, c) l h 2 = (a', b', c') →
        TN (a, b, c) 0 l h :=
      fun a' b' c' q1 q2 q3 q4 q5 q6 q7 l h hM hc e => ⟨hM, hc, by rw [e]; exact ⟨q1, q2, q3⟩, by rw [e]; exact q4, by rw [e]; exact q5, by rw [e]; exact q6, by rw [e]; exact q7⟩
    unfold mx at key
    unfold Alone at key
    dsimp only at key
    by_cases h1 : 0 < b ∧ 0 < c
    · have et : tw (a, b, c) 0 = (1, 2) := by
        exact if_pos h1
      rw [et]
      exact key (a + 2) (b - 1) (c - 1) (by omega) (by omega) (by omega) (by omega) (by split <;> split <;> omega) (by omega) (if z : b = 1 ∧ c = 1 then .inl (by split <;> omega) else .inr (by omega)) 1 2 M12 (cn12 h1.1 h1.2) rfl
    · by_cases h2 : 0 < b
      · have et : tw (a, b, c) 0 = (0, 1) := by
          refine (if_neg h1).trans ?_
          have er : (if 0 < g3 (a, b, c).1 (a, b, c).2.1 (a, b, c).2.2 1 then (1 : Int) else 2) = 1 := if_pos h2
          show ((if (0 : Int) < (if 0 < g3 (a, b, c).1 (a, b, c).2.1 (a, b, c).2.2 1 then (1 : Int) else 2) then (0 : Int) else (if 0 < g3 (a, b, c).1 (a, b, c).2.1 (a, b, c).2.2 1 then (1 : Int) else 2)), (if (0 : Int) > (if 0 < g3 (a, b, c).1 (a, b, c).2.1 (a, b, c).2.2 1 then (1 : Int) else 2) then (0 : Int) else (if 0 < g3 (a, b, c).1 (a, b, c).2.1 (a, b, c).2.2 1 then (1 : Int) else 2))) = ((0, 1) : Int × Int)
          rw [er]
          rfl
        rw [et]
        exact key (a - 1) (b - 1) (c + 2) (by omega) (by omega) (by omega) (by omega) (by split <;> split <;> omega) (by omega) (by right; omega) 0 1 M01 (cn01 (show 0 < a by omega) h2) rfl
      · have et : tw (a, b, c) 0 = (0, 2) := by
          refine (if_neg h1).trans ?_
          have er : (if 0 < g3 (a, b, c).1 (a, b, c).2.1 (a, b, c).2.2 1 then (1 : Int) else 2) = 2 := if_neg h2
          show ((if (0 : Int) < (if 0 < g3 (a, b, c).1 (a, b, c).2.1 (a, b, c).2.2 1 then (1 : Int) else 2) then (0 : Int) else (if 0 < g3 (a, b, c).1 (a, b, c).2.1 (a, b, c).2.2 1 then (1 : Int) else 2)), (if (0 : Int) > (if 0 < g3 (a, b, c).1 (a, b, c).2.1 (a, b, c).2.2 1 then (1 : Int) else 2) then (0 : Int) else (if 0 < g3 (a, b, c).1 (a, b, c).2.1 (a, b, c).2.2 1 then (1 : Int) else 2))) = ((0, 2) : Int × Int)
          rw [er]
          rfl
        rw [et]
        exact key (a - 1) (b + 2) (c - 1) (by omega) (by omega) (by omega) (by omega) (by split <;> split <;> omega) (by omega) (by right; omega) 0 2 M02 (cn02 (show 0 < a by omega) (show 0 < c by omega)) rfl
  · change (a - c) % 3 = 0 at h3
    have key : ∀ a' b' c', 0 ≤ a' → 0 ≤ b' → 0 ≤ c' → a' + b' + c' = a + b + c → mx a' c' = mx a c - 1 → (a' - c') % 3 = 0 → (mx a' c' = 0 ∨ ¬ Alone (a', b', c')) → ∀ l h, Mt l h → cn (a, b, c) l h = true → mt3 (a, b, c) l h 2 = (a', b', c') →
        TN (a, b, c) 1 l h :=
      fun a' b' c' q1 q2 q3 q4 q5 q6 q7 l h hM hc e => ⟨hM, hc, by rw [e]; exact ⟨q1, q2, q3⟩, by rw [e]; exact q4, by rw [e]; exact q5, by rw [e]; exact q6, by rw [e]; exact q7⟩
    unfold mx at key
    unfold Alone at key
    dsimp only at key
    by_cases h1 : 0 < a ∧ 0 < c
    · have et : tw (a, b, c) 1 = (0, 2) := by
        exact if_pos h1
      rw [et]
      exact key (a - 1) (b + 2) (c - 1) (by omega) (by omega) (by omega) (by omega) (by split <;> split <;> omega) (by omega) (if z : a = 1 ∧ c = 1 then .inl (by split <;> omega) else .inr (by omega)) 0 2 M02 (cn02 h1.1 h1.2) rfl
    · by_cases h2 : 0 < a
      · have et : tw (a, b, c) 1 = (0, 1) := by
          refine (if_neg h1).trans ?_
          have er : (if 0 < g3 (a, b, c).1 (a, b, c).2.1 (a, b, c).2.2 0 then (0 : Int) else 2) = 0 := if_pos h2
          show ((if (1 : Int) < (if 0 < g3 (a, b, c).1 (a, b, c).2.1 (a, b, c).2.2 0 then (0 : Int) else 2) then (1 : Int) else (if 0 < g3 (a, b, c).1 (a, b, c).2.1 (a, b, c).2.2 0 then (0 : Int) else 2)), (if (1 : Int) > (if 0 < g3 (a, b, c).1 (a, b, c).2.1 (a, b, c).2.2 0 then (0 : Int) else 2) then (1 : Int) else (if 0 < g3 (a, b, c).1 (a, b, c).2.1 (a, b, c).2.2 0 then (0 : Int) else 2))) = ((0, 1) : Int × Int)
          rw [er]
          rfl
        rw [et]
        exact key (a - 1) (b - 1) (c + 2) (by omega) (by omega) (by omega) (by omega) (by split <;> split <;> omega) (by omega) (by right; omega) 0 1 M01 (cn01 h2 (show 0 < b by omega)) rfl
      · have et : tw (a, b, c) 1 = (1, 2) := by
          refine (if_neg h1).trans ?_
          have er : (if 0 < g3 (a, b, c).1 (a, b, c).2.1 (a, b, c).2.2 0 then (0 : Int) else 2) = 2 := if_neg h2
          show ((if (1 : Int) < (if 0 < g3 (a, b, c).1 (a, b, c).2.1 (a, b, c).2.2 0 then (0 : Int) else 2) then (1 : Int) else (if 0 < g3 (a, b, c).1 (a, b, c).2.1 (a, b, c).2.2 0 then (0 : Int) else 2)), (if (1 : Int) > (if 0 < g3 (a, b, c).1 (a, b, c).2.1 (a, b, c).2.2 0 then (0 : Int) else 2) then (1 : Int) else (if 0 < g3 (a, b, c).1 (a, b, c).2.1 (a, b, c).2.2 0 then (0 : Int) else 2))) = ((1, 2) : Int × Int)
          rw [er]
          rfl
        rw [et]
        exact key (a + 2) (b - 1) (c - 1) (by omega) (by omega) (by omega) (by omega) (by split <;> split <;> omega) (by omega) (by right; omega) 1 2 M12 (cn12 (show 0 < b by omega) (show 0 < c by omega)) rfl
  · change (a - b) % 3 = 0 at h3
    have key : ∀ a' b' c', 0 ≤ a' → 0 ≤ b' → 0 ≤ c' → a' + b' + c' = a + b + c → mx a' b' = mx a b - 1 → (a' - b') % 3 = 0 → (mx a' b' = 0 ∨ ¬ Alone (a', b', c')) → ∀ l h, Mt l h → cn (a, b, c) l h = true → mt3 (a, b, c) l h 2 = (a', b', c') →
        TN (a, b, c) 2 l h :=
      fun a' b' c' q1 q2 q3 q4 q5 q6 q7 l h hM hc e => ⟨hM, hc, by rw [e]; exact ⟨q1, q2, q3⟩, by rw [e]; exact q4, by rw [e]; exact q5, by rw [e]; exact q6, by rw [e]; exact q7⟩
    unfold mx at key
    unfold Alone at key
    dsimp only at key
    by_cases h1 : 0 < a ∧ 0 < b
    · have et : tw (a, b, c) 2 = (0, 1) := by
        exact if_pos h1
      rw [et]
      exact key (a - 1) (b - 1) (c + 2) (by omega) (by omega) (by omega) (by omega) (by split <;> split <;> omega) (by omega) (if z : a = 1 ∧ b = 1 then .inl (by split <;> omega) else .inr (by omega)) 0 1 M01 (cn01 h1.1 h1.2) rfl
    · by_cases h2 : 0 < a
      · have et : tw (a, b, c) 2 = (0, 2) := by
          refine (if_neg h1).trans ?_
          have er : (if 0 < g3 (a, b, c).1 (a, b, c).2.1 (a, b, c).2.2 0 then (0 : Int) else 1) = 0 := if_pos h2
          show ((if (2 : Int) < (if 0 < g3 (a, b, c).1 (a, b, c).2.1 (a, b, c).2.2 0 then (0 : Int) else 1) then (2 : Int) else (if 0 < g3 (a, b, c).1 (a, b, c).2.1 (a, b, c).2.2 0 then (0 : Int) else 1)), (if (2 : Int) > (if 0 < g3 (a, b, c).1 (a, b, c).2.1 (a, b, c).2.2 0 then (0 : Int) else 1) then (2 : Int) else (if 0 < g3 (a, b, c).1 (a, b, c).2.1 (a, b, c).2.2 0 then (0 : Int) else 1))) = ((0, 2) : Int × Int)
          rw [er]
          rfl
        rw [et]
        exact key (a - 1) (b + 2) (c - 1) (by omega) (by omega) (by omega) (by omega) (by split <;> split <;> omega) (by omega) (by right; omega) 0 2 M02 (cn02 h2 (show 0 < c by omega)) rfl
      · have et : tw (a, b, c) 2 = (1, 2) := by
          refine (if_neg h1).trans ?_
          have er : (if 0 < g3 (a, b, c).1 (a, b, c).2.1 (a, b, c).2.2 0 then (0 : Int) else 1) = 1 := if_neg h2
          show ((if (2 : Int) < (if 0 < g3 (a, b, c).1 (a, b, c).2.1 (a, b, c).2.2 0 then (0 : Int) else 1) then (2 : Int) else (if 0 < g3 (a, b, c).1 (a, b, c).2.1 (a, b, c).2.2 0 then (0 : Int) else 1)), (if (2 : Int) > (if 0 < g3 (a, b, c).1 (a, b, c).2.1 (a, b, c).2.2 0 then (0 : Int) else 1) then (2 : Int) else (if 0 < g3 (a, b, c).1 (a, b, c).2.1 (a, b, c).2.2 0 then (0 : Int) else 1))) = ((1, 2) : Int × Int)
          rw [er]
          rfl
        rw [et]
        exact key (a + 2) (b - 1) (c - 1) (by omega) (by omega) (by omega) (by omega) (by split <;> split <;> omega) (by omega) (by right; omega) 1 2 M12 (cn12 (show 0 < b by omega) (show 0 < c by omega)) rfl
/-- the meetings that are told -/
def tkN : Nat → T3 → Int → List (Int × Int)
  | 0, _, _ => []
  | n + 1, s, k => tw s k :: tkN n (mt3 s (tw s k).1 (tw s k).2 2) k
def tkR (s : T3) (k : Int) : List (Int × Int) := tkN (mx (oth s k).1 (oth s k).2).toNat s k
/-- on the way to k -/
def OnWay (s : T3) (k : Int) : Prop := (mx (oth s k).1 (oth s k).2 = 0 ∨ ¬ Alone s) ∧ ((oth s k).1 - (oth s k).2) % 3 = 0
theorem oth_pos {s : T3} (hs : Nn s) {k : Int} (k0 : 0 ≤ k) (k3 : k < 3) : 0 ≤ (oth s k).1 ∧ 0 ≤ (oth s k).2 ∧ g3 s.1 s.2.1 s.2.2 k + (oth s k).1 + (oth s k).2 = sm s := by
  unfold Nn at hs
  unfold sm
  rcases kinds3 k0 k3 with rfl | rfl | rfl
  · exact ⟨hs.2.1, hs.2.2, rfl⟩
  · exact ⟨hs.1, hs.2.2, show s.2.1 + s.1 + s.2.2 = _ by omega⟩
  · exact ⟨hs.1, hs.2.1, show s.2.2 + s.1 + s.2.1 = _ by omega⟩
theorem less_iff {s : T3} (hs : Nn s) {k : Int} (k0 : 0 ≤ k) (k3 : k < 3) : g3 s.1 s.2.1 s.2.2 k < sm s ↔ 0 < mx (oth s k).1 (oth s k).2 := by
  obtain ⟨h1, h2, h3⟩ := oth_pos hs k0 k3
  unfold mx
  split <;> omega
theorem on_way {s : T3} (hs : Nn s) {k d : Int} (k0 : 0 ≤ k) (k3 : k < 3) (h : stepsT s k = some d) : OnWay s k ∧ d = mx (oth s k).1 (oth s k).2 := by
  unfold stepsT at h
  by_cases h0 : (oth s k).1 = 0 ∧ (oth s k).2 = 0
  · rw [if_pos h0] at h
    obtain rfl := (Option.some.inj h).symm
    have e : mx (oth s k).1 (oth s k).2 = 0 := by unfold mx; rw [h0.1, h0.2]; rfl
    exact ⟨⟨.inl e, by rw [h0.1, h0.2]; rfl⟩, e.symm⟩
  · rw [if_neg h0] at h
    by_cases h1 : Alone s ∨ ((oth s k).1 - (oth s k).2) % 3 ≠ 0
    · rw [if_pos h1] at h
      cases h
    · rw [if_neg h1] at h
      obtain rfl := (Option.some.inj h).symm
      refine ⟨⟨.inr fun z => h1 (.inl z), ?_⟩, rfl⟩
      by_cases z : ((oth s k).1 - (oth s k).2) % 3 = 0
      · exact z
      · exact absurd (.inr z) h1
theorem Goes.cons {m : Int} {s : T3} {ms : List (Int × Int)} {l h : Int} (hM : Mt l h) (hc : cn s l h = true) (g : Goes m (mt3 s l h m) ms) : Goes m s ((l, h) :: ms) := by
  intro i y hy
  cases i with
  | zero =>
    obtain rfl := Option.some.inj hy
    exact ⟨hM, hc⟩
  | succ i => exact g i y hy
theorem tkN_ok : ∀ (n : Nat) (s : T3) (k : Int), Nn s → 0 ≤ k → k < 3 → OnWay s k → mx (oth s k).1 (oth s k).2 = n → Goes 2 s (tkN n s k) ∧ run 2 s (tkN n s k) = only k (sm s) ∧ (tkN n s k).length = n
  | 0, s, k, hn, k0, k3, _, e => ⟨Goes.nil, at_end hn k0 k3 (by omega), rfl⟩
  | n + 1, s, k, hn, k0, k3, ⟨ha, h3⟩, e => by
    have ha : ¬ Alone s := ha.elim (fun z => by omega) id
    obtain ⟨hM, hc, q1, q2, q3, q4, q5⟩ := tw_next hn ha k0 k3 h3
    obtain ⟨g, r, l⟩ := tkN_ok n (mt3 s (tw s k).1 (tw s k).2 2) k q1 k0 k3 ⟨q5, q4⟩ (by omega)
    exact ⟨Goes.cons hM hc g, by rw [← q2]; exact r, by show (tkN n _ k).length + 1 = n + 1; rw [l]⟩
theorem tkR_ok : TkOk tkR := fun s k d ho k0 k3 _ h => by
  have hn := (ok3_Nn ho).1
  obtain ⟨hw, rfl⟩ := on_way hn k0 k3 h
  obtain ⟨h1, h2, _⟩ := oth_pos hn k0 k3
  have m0 : 0 ≤ mx (oth s k).1 (oth s k).2 := by unfold mx; split <;> omega
  obtain ⟨g, r, l⟩ := tkN_ok (mx (oth s k).1 (oth s k).2).toNat s k hn k0 k3 hw (by omega)
  exact ⟨g, r, by unfold tkR; rw [l]; omega⟩
end Km

set_option Elab.async false
set_option linter.all false
set_option maxRecDepth 100000
set_option maxHeartbeats 4000000
/-! KmLay: displays laid, told by what stands afterwards alone -/
namespace Km
open PySem PySem.Spec PyProof.Rows L2
theorem TupF.new {H : Hp} {p : Addr} {o : Obj} {xs : List V} (ho : o.dict = none) : TupF (L2.upd H p (.frz o (.tup xs))) p xs := ⟨o, ho, upd_same⟩
def tTupS (t : TA) : TE := fun σ H Q => t σ H fun xs H1 => xs.length ≤ sizeLine ∧ ∀ (H' : Hp) (p : Addr), Same H1 H' → H1 p = none → TupF H' p xs → Q (.ref p) H'
def tLstS (t : TA) : TE := fun σ H Q => t σ H fun xs H1 => xs.length ≤ sizeLine ∧ ∀ (H' : Hp) (p : Addr), Same H1 H' → H1 p = none → H' p = some (.lst xs) → Q (.ref p) H'
def rCatS : R2 := fun x y H Q => ∃ l b xs zs, x = .ref l ∧ y = .ref b ∧ H l = some (.lst xs) ∧ H b = some (.lst zs) ∧ xs.length + zs.length ≤ sizeLine ∧ ∀ (H' : Hp) (p : Addr), Same H H' → H p = none → H' p = some (.lst (xs ++ zs)) → Q (.ref p) H'
def tM (t : TA) : TA := fun σ H Q => ∃ Q0 : List V → Hp → Prop, (∀ xs H1, Q0 xs H1 → Q xs H1) ∧ t σ H Q0
section
variable {X : Cx} {es : List Expr} {t : TA} {pos : Pos}
theorem pa_m (h : PA X es t) : PA X es (tM t) := ⟨fun pos pins s σ H Q I ⟨Q0, k, q⟩ => thn (h.run pos pins s σ H Q0 I q) fun us s' ⟨vs, H', I', r, q'⟩ => ⟨vs, H', I', r, k _ _ q'⟩⟩
theorem pe_tupS {x1} (h : PA X es t) : PE X (.Tuple es x1 pos) (tTupS t) :=
  Pe.imp (pe_tupF (pa_m h)) fun σ H Q q => ⟨_, fun xs H1 ⟨z, k⟩ => ⟨z, fun o p ho hp => k _ p (same_upd hp) hp (TupF.new ho)⟩, q⟩
theorem pe_lstS (h : PA X es t) : PE X (.List es pos) (tLstS t) :=
  Pe.imp (pe_lst (pa_m h)) fun σ H Q q => ⟨_, fun xs H1 ⟨z, k⟩ => ⟨z, fun p hp => k _ p (same_upd hp) hp upd_same⟩, q⟩
theorem op_catS : OpR X (binaryOp .Add) rCatS := fun pins s σ H x y v u Q I rx ry ⟨l, b, xs, zs, e1, e2, h1, h2, hz, q⟩ =>
  op_cat pins s σ H x y v u Q I rx ry ⟨l, b, xs, zs, e1, e2, h1, h2, hz, fun p hp => q _ p (same_upd hp) hp upd_same⟩
end
theorem sorted_alone {s : T3} (hn : Nn s) (ha : Alone s) {ns : List Int} (hp : ns.Perm [s.1, s.2.1, s.2.2]) (hs : ns.Pairwise (· ≤ ·)) : ns = [0, 0, sm s] := by
  have e : ([0, 0, sm s] : List Int).Perm [s.1, s.2.1, s.2.2] := by
    unfold Alone at ha
    unfold sm
    rcases ha with ⟨h1, h2⟩ | ⟨h1, h2⟩ | ⟨h1, h2⟩
    · rw [h1, h2, show s.1 + 0 + 0 = s.1 by omega]
      exact ((List.Perm.swap _ _ _).cons _ |>.trans (List.Perm.swap _ _ _))
    · rw [h1, h2, show 0 + s.2.1 + 0 = s.2.1 by omega]
      exact (List.Perm.swap _ _ _).cons _
    · rw [h1, h2, show 0 + 0 + s.2.2 = s.2.2 by omega]
  have m0 : 0 ≤ sm s := by
    unfold Nn at hn
    unfold sm
    omega
  refine List.Perm.eq_of_pairwise (le := (· ≤ ·)) (fun a b _ _ h1 h2 => Int.le_antisymm h1 h2) hs ?_ (hp.trans e.symm)
  simp [m0]
end Km

set_option Elab.async false
set_option linter.all false
set_option maxRecDepth 100000
set_option maxHeartbeats 4000000
/-! KmHot: a list comprehension over a range within an except suite -/
namespace Km
open PySem PySem.Spec PyProof.Rows L2 L2H
/-- the block's context, what is pinned around it kept -/
abbrev blkH (X : Cx) (s : Shared) (H : Hp) (sc : Scope) (ce : Env) (fp : List Addr) : Cx := { X.blk s H sc ce fp with pn := X.pn }
section
variable {X : Cx}
theorem hot_blk {s : Shared} {H : Hp} {sc : Scope} {ce : Env} {fp : List Addr} (c : HotC X) : HotC (blkH X s H sc ce fp) := by
  obtain ⟨p, h1, h2⟩ := c
  exact ⟨p, h1, h2⟩
theorem blkH_inv {s sB : Shared} {H HB : Hp} {sc : Scope} {ce : Env} {fp : List Addr} {σ τ : L2.St} {pins : List (Addr × Obj)} (J : Inv (X.blk s H sc ce fp) [] τ HB sB) (I : Inv X pins σ H s) (hH : HB = H) (hl : ce.locals = s.heap.objs.size)
    (kp : ∀ b o, s.heap.get? b = some o → sB.heap.get? b = some o) : Inv (blkH X s H sc ce fp) [] τ HB sB := by
  have k := J.ok
  refine ⟨⟨k.mod, k.kind, k.glob, k.blt, k.above, k.inj, k.has, k.cab, k.hd, k.frames, k.stk, k.exf, k.bs, k.bsz, k.noex, k.exfs, k.funs, k.frf⟩,
    J.os, J.bare, J.base, J.loc, J.cell, J.free, J.freeC, fun p hp => ?_, J.hok, J.len⟩
  have hp : p ∈ X.pn := by
    rcases List.mem_append.mp hp with z | z
    · exact z
    · cases z
  obtain ⟨a1, a2, a3, a4, a5⟩ := I.pin p (List.mem_append_left _ hp)
  refine ⟨kp _ _ a1, by rw [hH]; exact a2, ?_, fun z => ?_, a5⟩
  · show p.1 ≠ ce.locals
    rw [hl]
    exact Nat.ne_of_lt (Heap.lt_size a1)
  · rcases List.mem_cons.mp (I.stkSub _ z) with q | q
    · exact a3 q
    · exact a4 q
theorem lc_hot {pins : List (Addr × Obj)} {s : Shared} {σ : L2.St} {H : Hp} {Q : VK} {elt tg iter : Expr} {scope : Scope} {own : List (Str × Nat)} {pos pos' : Pos} {wi : TI} {g : TG} {te : TE} {use : Option (Value → Sem Unit)} {Qf : Value → Shared → Prop}
    (hc : HotC X) (hN : X.N.Nodup) (I : Inv X pins σ H s) (hi : PIH X tg iter wi) (ok : BlkOk X.N X.env.scope scope own)
    (hg : ∀ (s : Shared) (H : Hp) (C : Addr) (cl : List (Str × Addr)) (fp : List Addr), PG (blkH X s H scope (compEnvC scope cl C X.env) fp) tg g)
    (he : ∀ (s : Shared) (H : Hp) (C : Addr) (cl : List (Str × Addr)) (fp : List Addr), PE (blkH X s H scope (compEnvC scope cl C X.env) fp) elt te) (hs : ∀ x, foldedSetIterable iter X.env x = pure x)
    (h : tLc wi g tYes te (own.map (·.2)) σ H Q)
    (fin : ∀ D C s' m H', Inv X pins σ H' s' → Q (.ref D) H' → s'.heap.Ns C m → FpOk X pins H' C → compPost (model X.prog X.w) X.A X.xe use Qf (.ref D) C (.ok .next) s') :
    wpAny (model X.prog X.w) X.A (comprehension (.ListComp elt [⟨tg, iter, [], 0⟩] scope pos) scope X.env pos' (newList []) false (eval iter X.env) use) Qf X.xe s := by
  have fr : ∀ y ∈ scope.names, y.2 = .free → ∃ c, X.env.cells.lookup y.1 = some c := fun y hy e =>
    (ok.free y hy e).elim (fun k => I.ok.has _ (.inl k)) fun k => I.ok.has _ (.inr k)
  refine wpAny_comprehension_free (use := use) rfl hs (closure_ok fr) ok.kind (fun y hy e => by rw [ok.uniq y hy, e])
    (thn (hi.run pins s σ H _ I h) fun xv sa hx => thn hx fun itv sb hb => ?_)
  obtain ⟨it, fp, tn, J, Hb, rfl, Ib, T, tb, fb, q⟩ := hb
  refine wpAny_newObj_type (newEnv_comp ?_) (by show 0 ≤ sizeLine; decide)
  obtain ⟨D, hD⟩ : ∃ D, sb.heap.objs.size = D := ⟨_, rfl⟩
  have nD : Hb D = none := Ib.hok.fresh (Nat.le_of_eq hD)
  rw [hD]
  obtain ⟨W, ⟨m0, w0⟩, turn⟩ := q D nD
  obtain ⟨sc, hsc⟩ : ∃ sc : Shared, ({ sb with heap := sb.heap.push { cls := .type "list", data := .seq ([] : List Value).toArray } } : Shared) = sc := ⟨_, rfl⟩
  have hpc : sc.heap = sb.heap.push { cls := .type "list", data := .seq ([] : List Value).toArray } := by rw [← hsc]
  have Ic : Inv X pins σ (upd Hb D (.lst [])) sc := by
    rw [← hsc]
    refine Ib.laid (t' := sb.toks) (fun _ _ z => Heap.get?_push_of_some _ z) (Nat.le_of_eq hD) ⟨Nat.zero_le _, [], 0, .nil, ?_⟩
    rw [← hD]
    exact Heap.get?_push_size _ rfl
  have small : ∀ b ∈ fp, b < sb.heap.objs.size := fun b hb => (T.obj _ _ tb b hb).elim fun o e => Heap.lt_size e.1
  have fc : ∀ b ∈ fp, FpOk X pins (upd Hb D (.lst [])) b ∧ b < sc.heap.objs.size := fun b hb => by
    have lt := small b hb
    refine ⟨⟨?_, (fb b hb).2⟩, by rw [hpc, Heap.size_push]; exact Nat.lt_succ_of_lt lt⟩
    rw [upd_ne (by rw [← hD]; exact Nat.ne_of_lt lt)]
    exact (fb b hb).1
  have tc : tn 0 sc.heap := T.keep _ _ _ tb fun b _ o e => by
    rw [hpc]
    exact Heap.get?_push_of_some _ e
  have Jd := block_start Ic ok hN fc
  have kpd : ∀ b o, sc.heap.get? b = some o → (pushCells (sc.heap.push { cls := .type "dict", data := .dict #[] }) scope.names).get? b = some o := fun b o e => pushCells_keeps _ _ _ _ (Heap.get?_push_of_some _ e)
  have Id := blkH_inv Jd Ic rfl rfl kpd
  have pg := hg sc (upd Hb D (.lst [])) sc.heap.objs.size (cellsFrom (sc.heap.objs.size + 1) scope.names (cloFrom X.env.cells scope.names [])) fp
  have pe := he sc (upd Hb D (.lst [])) sc.heap.objs.size (cellsFrom (sc.heap.objs.size + 1) scope.names (cloFrom X.env.cells scope.names [])) fp
  rw [hsc]
  show codeAny _ _ (.compStart (.ListComp elt [⟨tg, iter, [], 0⟩] scope pos) 0 (.ref it) (.ref D) (compEnvC scope (cellsFrom (sc.heap.objs.size + 1) scope.names (cloFrom X.env.cells scope.names [])) sc.heap.objs.size X.env)) (compPost (model X.prog X.w) X.A X.xe use Qf (.ref D) sc.heap.objs.size) { sc with heap := pushCells (sc.heap.push { cls := .type "dict", data := .dict #[] }) scope.names }
  have nfp : ∀ b ∈ fp, (upd Hb D (.lst [])) b = none := fun b hb => (fc b hb).1.1
  generalize hce : compEnvC scope (cellsFrom (sc.heap.objs.size + 1) scope.names (cloFrom X.env.cells scope.names [])) sc.heap.objs.size X.env = ce at Id pg pe ⊢
  have cL : ce.locals = sc.heap.objs.size := by rw [← hce]; rfl
  generalize hHc : upd Hb D (.lst []) = Hc at Ic Id pg pe w0 nfp fc
  generalize hsd : ({ sc with heap := pushCells (sc.heap.push { cls := .type "dict", data := .dict #[] }) scope.names } : Shared) = sd at Id ⊢
  have td : tn 0 sd.heap := T.keep _ _ _ tc fun b _ o e => by rw [← hsd]; exact kpd b o e
  have hot : HotC (blkH X sc Hc scope ce fp) := hot_blk hc
  have stat : ∀ {σ' : L2.St} {H' : Hp} {s' : Shared}, Inv (blkH X sc Hc scope ce fp) [] σ' H' s' → (∀ b ∈ fp, H' b = none) → ∀ b ∈ fp, FpOk (blkH X sc Hc scope ce fp) [] H' b := fun {σ' H' s'} I' hn b hb =>
    ⟨hn b hb, (I'.ok.exf b hb).1, I'.ok.exfs b hb, .inl hb, fun x c e => (I'.ok.exf b hb).2 x c e, fun p hp => (fc b hb).1.2.2.2.2.2 p (by
      rcases List.mem_append.mp hp with z | z
      · exact List.mem_append_left _ z
      · cases z)⟩
  have loop : codeAny (model X.prog X.w) X.A (.compLoop (.ListComp elt [⟨tg, iter, [], 0⟩] scope pos) 0 (.ref it) (.ref D) ce) (compPost (model X.prog X.w) X.A X.xe use Qf (.ref D) sc.heap.objs.size) sd := by
    refine compLoop_any (fun n s' => ∃ i H', Inv (blkH X sc Hc scope ce fp) [] (wipe σ (own.map (·.2))) H' s' ∧ tn i s'.heap ∧ (∀ b ∈ fp, H' b = none) ∧ W i n H') ?_ m0 ⟨0, Hc, Id, td, nfp, w0⟩
    rintro n se ⟨i, He, Ie, t5, n5, w5⟩
    rcases turn i n He w5 with ⟨stop, qq⟩ | ⟨go, Nx, hNx, step⟩
    · refine thnF (T.done (blkH X sc Hc scope ce fp) rfl rfl rfl hot i [] se _ He (fun _ _ => False) Ie (stat Ie n5) t5 stop) fun r sf ⟨hr, If⟩ => ?_
      subst hr
      have Ig : Inv X pins σ He sf := Ic.call' (ch := fp) If.os If.base If.hok If.bare fun b hb =>
        have z := (fc b hb).1.2
        ⟨z.2.2.1, z.1, z.2.2.2.1, z.2.2.2.2⟩
      have nC : He sc.heap.objs.size = none := by
        have z : He ce.locals = none := If.free
        rwa [cL] at z
      obtain ⟨m, hn, _⟩ := If.loc
      have hn : sf.heap.Ns ce.locals m := hn
      rw [cL] at hn
      exact fin D sc.heap.objs.size sf m He Ig qq hn (Ic.fpOk (Nat.le_refl _) nC)
    · refine thnF (T.item (blkH X sc Hc scope ce fp) rfl rfl rfl hot i [] se _ He (fun _ _ => False) Ie (stat Ie n5) t5 go) fun r sf ⟨u, hr, hf⟩ => ?_
      subst hr
      refine thnF hf fun _ sg ⟨x, Hg, Ig, rg, yg, tg', ng⟩ => ?_
      have Ig' := Ig.pinned (stat Ig ng) (T.obj _ _ tg')
      refine thnF (pg.run _ sg _ Hg x u _ Ig' rg (step x Hg yg)) fun _ sh ⟨σh, Hh, Ih, hw, qh⟩ => ?_
      have qh : te σh Hh fun y H4 => ∃ acc, H4 D = some (.lst acc) ∧ acc.length < sizeLine ∧ Nx (upd H4 D (.lst (acc ++ [y]))) := by
        have z := qh
        dsimp only [tYes] at z
        rw [if_pos rfl] at z
        exact z
      refine thnF (wpAny_tests_nil (Q := fun b s' => b = true ∧ s' = sh) ⟨rfl, rfl⟩) fun b si hb => ?_
      obtain ⟨rfl, rfl⟩ := hb
      rw [if_pos rfl]
      refine thnF (pe.run _ si σh Hh _ Ih qh) fun z sj ⟨yv, Hj, Ij, rj, acc, hDj, hzj, nx⟩ => ?_
      refine app_ok (X := blkH X sc Hc scope ce fp) Ij hDj hzj rj fun sk Ik => ?_
      obtain ⟨m', hm, wk⟩ := hNx _ nx
      have pin' : ∀ b ∈ fp, ∀ o, sg.heap.get? b = some o → sk.heap.get? b = some o ∧ (upd Hj D (.lst (acc ++ [yv]))) b = none := fun b hb o e =>
        have z := Ik.pin (b, o) (List.mem_append_right _ (List.mem_append_right _ (mem_pinsAt hb e)))
        ⟨z.1, z.2.1⟩
      have hl : (wipe σ (own.map (·.2))).length = σh.length := by rw [← hw, wipe_length]
      refine ⟨m', hm, i + 1, _, (Ik.unpinned (pins := [])).weak hl (fun j v e => ?_), T.keep _ _ _ tg' fun b hb o e => (pin' b hb o e).1, fun b hb => ?_, wk⟩
      · rw [← hw] at e
        exact (wipe_some e).1
      · obtain ⟨o, e, _⟩ := T.obj _ _ tg' b hb
        exact (pin' b hb o e).2
  exact codeAny_compStart_list loop (T.self X.A 0 _ _ _ td loop)
/-- [e for x in range(..)] where an exception is handled -/
theorem pe_lcH {elt tg iter : Expr} {scope : Scope} {own : List (Str × Nat)} {pos : Pos} {wi : TI} {g : TG} {te : TE} (hc : HotC X) (hN : X.N.Nodup) (hi : PIH X tg iter wi) (ok : BlkOk X.N X.env.scope scope own)
    (hg : ∀ (s : Shared) (H : Hp) (C : Addr) (cl : List (Str × Addr)) (fp : List Addr), PG (blkH X s H scope (compEnvC scope cl C X.env) fp) tg g)
    (he : ∀ (s : Shared) (H : Hp) (C : Addr) (cl : List (Str × Addr)) (fp : List Addr), PE (blkH X s H scope (compEnvC scope cl C X.env) fp) elt te) (hs : ∀ x, foldedSetIterable iter X.env x = pure x := by intro _; rfl) :
    PE X (.ListComp elt [⟨tg, iter, [], 0⟩] scope pos) (tLc wi g tYes te (own.map (·.2))) := by
  refine ⟨fun pins s σ H Q I h => ?_⟩
  rw [eval_ListComp]
  refine lc_hot hc hN I hi ok hg he hs h fun D C s' m H' I' q hn f => ⟨m, hn, fun h'' sb => ?_⟩
  have z := f.2
  exact ⟨.ref D, H', I'.turned (t' := s'.toks) (fun b o hb e => (sb.2 b hb).trans e) f.1 z.1 z.2.2.1 z.2.2.2.1 z.2.2.2.2, rfl, q⟩
end
end Km

set_option Elab.async false
set_option linter.all false
set_option maxRecDepth 100000
set_option maxHeartbeats 4000000
/-! KmLam: a lambda of one parameter: made, kept in a list, called elsewhere; what an ask promises -/
namespace Km
open PySem PySem.Spec PyProof.Rows L2 LamX
/-- the words of a lambda that captures nothing -/
structure LF where
  q : Str
  params : Arguments
  body : Expr
  scope : Scope
abbrev LF.obj (F : LF) (c' : Addr) (pm ctv : Value) : Obj := PySem.W.kla_obj "<lambda>" F.q F.params F.body F.scope [] pm c' ctv
/-- the object at f is the lambda F, its code at c' -/
def LamO (f c' : Addr) (F : LF) : HO := .ext fun h => ∃ pm ctv : Value, h.get? f = some (F.obj c' pm ctv)
theorem lamO_at {P : Program} {w : World} {H : Hp} {h : Heap} {f c' : Addr} {F : LF} (hok : HOk P w H h) (e : H f = some (LamO f c' F)) : ∃ pm ctv : Value, h.get? f = some (F.obj c' pm ctv) := (hok f _ e).1
theorem lamO_ne {f c' : Addr} {F : LF} (ps : Array Value) : LamO f c' F ≠ .tbl ps := fun z => by
  unfold LamO at z
  cases z
section
variable {X : Cx} {pins : List (Addr × Obj)} {σ : L2.St} {H : Hp} {s : Shared}
theorem inv_lam {F : LF} {c' : Addr} {o : Obj} {tk : Nat} {pm ctv : Value} (I : Inv X pins σ H s) (ho : o = F.obj c' pm ctv) :
    Inv X pins σ (upd H s.heap.objs.size (LamO s.heap.objs.size c' F)) { s with heap := s.heap.push o, toks := tk } := by
  subst ho
  refine I.laid (a := s.heap.objs.size) (fun b u e => Heap.get?_push_of_some _ e) (Nat.le_refl _) ?_
  have e : (s.heap.push (F.obj c' pm ctv)).get? s.heap.objs.size = some (F.obj c' pm ctv) := Heap.get?_push_size _ rfl
  exact ⟨⟨pm, ctv, e⟩, ⟨_, e⟩, fun h1 h2 ⟨a, b, z⟩ st => ⟨a, b, st _ z⟩⟩
/-- the value of a lambda: a new function; its code object is new, or found in the maker's table at P -/
def tLamS (T : List (Addr × Str)) (F : LF) : TE := fun _ H Q => Tabs T H ∧ ∀ (f c' : Addr) (H1 : Hp), ExtN H H1 → Tabs T H1 → H f = none → H1 f = some (LamO f c' F) → H1 c' = some (CodeO c' F.q) → Q (.ref f) H1
theorem pe_lam {T : List (Addr × Str)} {c P : Addr} {params : Arguments} {body : Expr} {scope : Scope} {pos : Pos} (TB : TabB X.base X.mg c P) (hcode : X.env.code = .ref c) (hm : (P, X.env.qual ++ "<lambda>") ∈ T) (hu : ∀ p ∈ T, p.1 = P → p.2 = X.env.qual ++ "<lambda>")
    (hdef : defaultsOf params X.env = ([], [])) (hcl : ∀ cells : List (Str × Addr), cloFrom cells scope.names [] = []) (hfree : ∀ y ∈ scope.names, y.2 ≠ .free) :
    PE X (.Lambda params body scope pos) (tLamS T ⟨X.env.qual ++ "<lambda>", params, body, scope⟩) := by
  refine ⟨fun pins s σ H Q I ⟨hT, k⟩ => ?_⟩
  obtain ⟨ps, hP, ht, ha⟩ := hT _ hm
  refine PySem.W.kla_eval hdef ?_
  have bP : s.heap.BuiltinsAt X.mg P := TB.bm.keeps I.bk
  have atP : s.heap.get? P = some { cls := .none, data := .fields ps } := I.hok P _ hP
  have clo : closureFor scope X.env = pure [] := by
    have z := closure_ok (env := X.env) (scope := scope) fun y hy e => absurd e (hfree y hy)
    rw [hcl] at z
    exact z
  cases hc : codeAmong pos ps.toList with
  | none =>
    refine PySem.W.kla_makeFunction (mg := X.mg) (c := c) (P := P) (ps := ps) clo I.ok.glob (I.mod.glob.keeps I.bk) hcode (TB.code.keeps I.bk) atP ht hc TB.gP bP fun c' ctv h' tk hx hge hlt hrec htb => ?_
    obtain ⟨c2, oc, vs, t, e2, hoc, hd, hv⟩ := hrec
    cases e2
    have nC : H c' = none := I.hok.fresh hge
    have I1 := inv_table (t' := tk) (more := #[rawInt pos.line, rawInt pos.col, .ref c']) (h' := h') I hP (fun b o hb e => hx b o hb e) htb hge ⟨oc, vs, t, hoc, hd, hv⟩
    obtain ⟨H1, eH1⟩ : ∃ H1, upd (upd H P (.tbl (ps ++ #[rawInt pos.line, rawInt pos.col, .ref c']))) c' (CodeO c' (X.env.qual ++ "<lambda>")) = H1 := ⟨_, rfl⟩
    have x1 : ExtN H H1 := fun b o e n => by
      rw [← eH1, upd_ne (ne_of_none e nC), upd_ne (fun z => n ps (Option.some.inj (e.symm.trans (by rw [z]; exact hP))))]
      exact e
    have c1 : H1 c' = some (CodeO c' (X.env.qual ++ "<lambda>")) := by rw [← eH1]; exact upd_same
    have T1 : Tabs T H1 := fun p hp => by
      by_cases hb : p.1 = P
      · rw [hu p hp hb, hb]
        refine ⟨ps ++ #[rawInt pos.line, rawInt pos.col, .ref c'], by rw [← eH1, upd_ne (ne_of_none hP nC), upd_same], ?_, fun p' cv hcv => ?_⟩
        · rw [Array.toList_append]
          exact PySem.TriplesOk_snoc _ _ _ _ ht
        · rw [Array.toList_append] at hcv
          rcases among_app _ ht hcv with z | z
          · obtain ⟨c0, e1, e2⟩ := ha p' cv z
            exact ⟨c0, e1, x1 _ _ e2 codeO_ne⟩
          · exact ⟨c', z, c1⟩
      · obtain ⟨qs, a1, a2, a3⟩ := hT p hp
        refine ⟨qs, by rw [← eH1, upd_ne (ne_of_none a1 nC), upd_ne hb]; exact a1, a2, fun p' cv hcv => ?_⟩
        obtain ⟨c0, e1, e2⟩ := a3 p' cv hcv
        exact ⟨c0, e1, x1 _ _ e2 codeO_ne⟩
    rw [eH1] at I1
    have nF := I1.hok.fresh (Nat.le_refl _)
    have I2 := inv_lam (F := ⟨X.env.qual ++ "<lambda>", params, body, scope⟩) (c' := c') (tk := tk) (pm := (X.mg "__name__").getD .none) (ctv := ctv) I1 rfl
    have s2 : Same H1 (upd H1 h'.objs.size (LamO h'.objs.size c' ⟨X.env.qual ++ "<lambda>", params, body, scope⟩)) := same_upd nF
    exact ⟨V.ref _, _, I2, rfl, k h'.objs.size c' _ (x1.trans (ExtN.of s2)) (T1.ext s2) (I.hok.fresh (Nat.le_trans hge (Nat.le_of_lt hlt))) upd_same (s2 _ _ c1)⟩
  | some cv =>
    obtain ⟨c', rfl, hco⟩ := ha pos cv hc
    refine PySem.W.kla_makeFunctionHit (mg := X.mg) (c := c) (P := P) (ps := ps) clo I.ok.glob (I.mod.glob.keeps I.bk) hcode (TB.code.keeps I.bk) atP ht hc bP fun ctv h' tk hx hsz => ?_
    have I1 : Inv X pins σ H { s with heap := h', toks := tk } := I.kept hx
    have nF : H h'.objs.size = none := I1.hok.fresh (Nat.le_refl _)
    have I2 := inv_lam (F := ⟨X.env.qual ++ "<lambda>", params, body, scope⟩) (c' := c') (tk := tk) (pm := (X.mg "__name__").getD .none) (ctv := ctv) I1 rfl
    have s2 : Same H (upd H h'.objs.size (LamO h'.objs.size c' ⟨X.env.qual ++ "<lambda>", params, body, scope⟩)) := same_upd nF
    exact ⟨V.ref _, _, I2, rfl, k h'.objs.size c' _ (ExtN.of s2) (hT.ext s2) nF upd_same (s2 _ _ hco)⟩
end
/-! ### the call -/
theorem lam_run {CX : CXT} {P : Program} {w : World} {K : PySem.W.Frag} {mg : Str → Option Value} {base : Heap} {k : Nat} {f c' : Addr} {F : LF} {N ps : List Str} {A : Around} {outer : List Env} {s : Shared} {H : Hp} {us : List Value} {vs : List V} {Q : VK} {E : XK}
    (hf : H f = some (LamO f c' F)) (hc : H c' = some (CodeO c' F.q)) (S : FnScope N ps F.scope) (hr : Room (k + 1) A) (e0 : Env0 P w K mg base A outer s H)
    (hb : ∀ pm ctv : Value, bindArgs (PySem.W.kla_fn "<lambda>" F.q F.params F.body F.scope [] pm (.ref c') ctv) ⟨us, []⟩ = pure (ps.zip us)) (r : Vals vs us) (hl : vs.length = ps.length)
    (hbody : Room k (A.deeper (envOfC F.q F.scope s.heap.objs.size f (.ref c'))) → ∃ t, PE (cxOf CX P w K mg base N F.q F.scope f (.ref c') A outer s H E) F.body t ∧ t (L2.start N vs) H Q) :
    codeAny (model P w) A (.call (.ref f) ⟨us, []⟩) (CR CX outer P w H s Q E) s := by
  obtain ⟨pm, ctv, of1⟩ := lamO_at e0.hok hf
  have rc : s.heap.CodeRec (.ref c') F.q := NdefX.codeO_at e0.hok hc
  have lim : s.heap.NoLimit := e0.mod.nolimit.keeps fun b o e => (e0.bs b o e).1
  have hkind : ∀ y ∈ ps.zip us, F.scope.names.lookup y.1 = some .local ∨ (F.scope.names.lookup y.1 = some .cell ∧ ((cellsFrom (s.heap.objs.size + 1) F.scope.names []).lookup y.1).isSome = true) := fun ⟨n, v⟩ hy => by
    rcases S.par n (List.of_mem_zip hy).1 with q | q
    · exact .inl q
    · exact .inr ⟨q, PySem.W.cellsFrom_some _ _ _ (.inl q)⟩
  refine PySem.W.kla_callFunE hr.depth of1 rfl S.co S.gen rfl rc ?_
  rw [hb pm ctv]
  refine wpAny_pure (wpAny_newFunctionEnv_cells S.kind hkind fun env he s1 x => ?_)
  subst he
  refine ⟨lim.keeps x.toInCall.keep, ?_⟩
  obtain ⟨t, ht, hq⟩ := hbody (hr.deeper _)
  have I : Inv (cxOf CX P w K mg base N F.q F.scope f (.ref c') A outer s H E) [] (L2.start N vs) H s1 := inv_start S hr.hd e0 hl r x
  refine PySem.W.kla_codeExpr (wpAny_mono (ht.run [] s1 (L2.start N vs) H _ I hq) (fun v s' hs => ?_) fun e s' hs => hs)
  obtain ⟨y, H', J, rv, q⟩ := hs
  exact ⟨y, H', J.os, J.bare, J.base, J.hok, rv, q⟩
/-! ### what an ask promises: it refuses x, by an error of the class C -/
structure Ask (P : Program) (w : World) (K : PySem.W.Frag) (mg : Str → Option Value) (base : Heap) (k : Nat) (f : Addr) (H : Hp) (x : V) (C : Addr) : Prop where
  at_ : ∀ (h : Heap) (H1 : Hp), HOk P w H1 h → K.In h → Same H H1 → PySem.W.FnAt f h
  run : ∀ (A : Around) (outer : List Env) (s : Shared) (H1 : Hp) (Q : VK) (E : XK) (u : Value), Room k A → Env0 P w K mg base A outer s H1 → Same H H1 → RelV x u → (∀ H2, Same H1 H2 → E (.ref C) none H2) →
    codeAny (model P w) A (.call (.ref f) ⟨[u], []⟩) (CR (L2N.CX P w) outer P w H1 s Q E) s
section
variable {P : Program} {w : World} {K : PySem.W.Frag} {mg : Str → Option Value} {base : Heap} {k j : Nat} {f c' C : Addr} {H H' : Hp} {x : V}
theorem Ask.same (a : Ask P w K mg base k f H x C) (s : Same H H') : Ask P w K mg base k f H' x C :=
  ⟨fun h H1 o i z => a.at_ h H1 o i (s.trans z), fun A outer st H1 Q E u hr e0 z => a.run A outer st H1 Q E u hr e0 (s.trans z)⟩
/-- by a def of the text -/
theorem ask_fn {st : Stmt} {nm : Str} {ps : List Str} {fd : FuncData} {sp : Sp} (a : At K mg nm st ps f fd) (F : FnOk P w K mg base (L2N.CX P w) j f fd ps sp) (hj : j ≤ k)
    (hp : ps.length = 1) (hsp : ∀ (H1 : Hp) (Q : VK) (E : XK), Same H H1 → (∀ H2, Same H1 H2 → E (.ref C) none H2) → sp [x] H1 Q E) : Ask P w K mg base k f H x C where
  at_ := fun h H1 _ i _ => by
    obtain ⟨oc, od, dV, kV, doc, pm, an, cdv, ct, osl, rfl, lk, _⟩ := a.F.ex
    exact ⟨oc, od, _, osl, i _ _ lk⟩
  run := fun A outer s H1 Q E u hr e0 z rx hE => by
    have kin : K.In s.heap := e0.mod.kin.keeps fun b o e => (e0.bs b o e).1
    exact F.run A outer s H1 ⟨[u], []⟩ [u] [x] Q E (hr.mono hj) e0 (a.b s [u] kin hp.symm) (.cons rx .nil) (hsp H1 Q E z hE)
/-- by a lambda -/
theorem ask_lam {F : LF} {N : List Str} {p : Str} (hf : H f = some (LamO f c' F)) (hc : H c' = some (CodeO c' F.q)) (S : FnScope N [p] F.scope)
    (hb : ∀ (u pm ctv : Value), bindArgs (PySem.W.kla_fn "<lambda>" F.q F.params F.body F.scope [] pm (.ref c') ctv) ⟨[u], []⟩ = pure ([p].zip [u]))
    (hbody : ∀ (A : Around) (outer : List Env) (s : Shared) (H1 : Hp) (Q : VK) (E : XK), Room k (A.deeper (envOfC F.q F.scope s.heap.objs.size f (.ref c'))) → Same H H1 → (∀ H2, Same H1 H2 → E (.ref C) none H2) →
      ∃ t, PE (cxOf (L2N.CX P w) P w K mg base N F.q F.scope f (.ref c') A outer s H1 E) F.body t ∧ t (L2.start N [x]) H1 Q) : Ask P w K mg base (k + 1) f H x C where
  at_ := fun h H1 o _ z => by
    obtain ⟨pm, ctv, e⟩ := lamO_at o (z _ _ hf)
    exact ⟨_, _, _, _, e⟩
  run := fun A outer s H1 Q E u hr e0 z rx hE => lam_run (z _ _ hf) (z _ _ hc) S hr e0 (hb u) (.cons rx .nil) rfl fun hr' => hbody A outer s H1 Q E hr' z hE
end
/-! ### _law_ask(_law_thing) -/
def tAsk (P : Program) (w : World) (K : PySem.W.Frag) (mg : Str → Option Value) (base : Heap) (k i j : Nat) (E : L2.St → XK) : TE := fun σ H _ => ∃ (f : Addr) (x : V) (C : Addr), σ[i]? = some (some (.ref f)) ∧ σ[j]? = some (some x) ∧ Ask P w K mg base k f H x C ∧ ∀ H2, Same H H2 → E σ (.ref C) none H2
theorem pe_ask {X : Cx} {P : Program} {w : World} {K : PySem.W.Frag} {mg : Str → Option Value} {base : Heap} {k i j : Nat} {a b : Str} {E : L2.St → XK} {p p2 pos : Pos} (e1 : X.prog = P) (e2 : X.w = w) (e3 : X.K = K) (e4 : X.mg = mg) (e5 : X.base = base) (hr : Room k X.A) (hN : X.N[i]? = some a) (hv : Vis X.env.scope a) (hN2 : X.N[j]? = some b) (hv2 : Vis X.env.scope b) (hx : ∀ σ, PassesAt (L2N.CX X.prog X.w) X σ (E σ))
    (hd : (a == ("__debug__" : Str)) = false := by decide) (hcd : (a == ("__classdict__" : Str)) = false := by decide) (hd2 : (b == ("__debug__" : Str)) = false := by decide) (hcd2 : (b == ("__classdict__" : Str)) = false := by decide) :
    PE X (.Call (.Name a p) [.Name b p2] [] pos) (tAsk P w K mg base k i j E) := by
  subst e1 e2 e3 e4 e5
  refine ⟨fun pins s σ H Q I ⟨f, x, C, h1, h2, ask, hE⟩ => ?_⟩
  refine wpAny_Call_Name_kw (thn ((pe_var (pos := p) hN hv hd hcd).run pins s σ H (fun v H1 => v = .ref f ∧ H1 = H) I ⟨.ref f, h1, rfl, rfl⟩) fun u s1 ⟨v, H1, I1, r1, q1, q2⟩ => ?_)
  subst q1 q2
  obtain rfl : u = Value.ref f := r1
  have hp : PA X [.Name b p2] (tCons (tVar j) tNil) := pa_cons (pe_var hN2 hv2 hd2 hcd2) pa_nil
  refine PySem.W.callWith_F (first := []) (ask.at_ _ _ I1.hok I1.kIn (Same.refl _)) (thn (hp.run pos pins s1 σ _ (fun vs H2 => vs = [x] ∧ H2 = H1) I1 ⟨x, h2, rfl, rfl⟩) fun us s2 ⟨vs, H2, I2, r, q1, q2⟩ => ?_) (by rfl) (by rfl)
  subst q1 q2
  refine ⟨ask.at_ _ _ I2.hok I2.kIn (Same.refl _), ?_⟩
  obtain ⟨u, rfl, rx⟩ := vals1 r
  refine wpAny_call (codeAny_mono (ask.run X.A X.stack s2 H2 Q (E σ) u hr I2.env0 (Same.refl _) rx hE) fun r s' hq => ?_)
  cases r with
  | error e => exact hx σ pins H2 s2 e s' I2 hq
  | ok fl =>
    cases fl with
    | ret u => exact I2.after hq
    | next => exact False.elim hq
    | brk => exact False.elim hq
    | cont => exact False.elim hq
/-! ### isinstance of the caught error, whatever its class -/
theorem call_isEV {X : Cx} {K : PySem.W.Frag} {a : Addr} {oe : Obj} {cls : Value} {d : Option Addr} {pn : List (Addr × Obj)} (eK : X.K = K) (hz : Zc cls d oe) (hf : ∃ vs, oe.data = .fields vs) :
    CallR (X.suite a ((a, oe) :: pn)) (.builtin "isinstance") (fun xs H Q => ∃ D : Addr, cls = .ref D ∧ d = none ∧ ExcC K D ∧ rIsE K D a xs H Q) := fun pins s σ H xs us Q I r ⟨D, e1, e2, c, q⟩ => by
  subst e1 e2 eK
  exact call_isE c hz hf pins s σ H xs us Q I r q
end Km

set_option Elab.async false
set_option linter.all false
set_option maxRecDepth 100000
set_option maxHeartbeats 4000000
/-! KmOdd: what is no count, no kind, no beads, no meeting; it stays so -/
namespace Km
open PySem PySem.Spec PyProof.Rows L2 LamX
section
variable {K : PySem.W.Frag} {H H' : Hp}
theorem notbl {o : HO} (h : match o with | .tbl _ => False | _ => True) : ∀ ps, o ≠ .tbl ps := fun ps z => by
  subst z
  exact h
theorem sqT_ext {p : Addr} {xs : List V} (x : ExtN H H') (h : SqT K H p xs) : SqT K H' p xs := by
  rcases h with (h | ⟨o, h⟩) | h
  · exact .inl (.inl (x _ _ h (notbl True.intro)))
  · exact .inl (.inr ⟨o, x _ _ h (notbl True.intro)⟩)
  · exact .inr h
theorem TupF.ext {p : Addr} {xs : List V} (x : ExtN H H') (h : TupF H p xs) : TupF H' p xs := by
  obtain ⟨o, h1, h2⟩ := h
  exact ⟨o, h1, x _ _ h2 (notbl True.intro)⟩
theorem TyX.ext {v : V} {t : Value} (x : ExtN H H') (h : TyX K H v t) : TyX K H' v t := by
  cases h with
  | base b =>
    cases b with
    | non => exact .base .non
    | bl y => exact .base (.bl y)
    | int i => exact .base (.int i)
    | str y => exact .base (.str y)
    | flt y => exact .base (.flt y)
    | lst e => exact .base (.lst (x _ _ e (notbl True.intro)))
    | frz e => exact .base (.frz (x _ _ e (notbl True.intro)))
    | tup e => exact .base (.tup (x _ _ e (notbl True.intro)))
    | dK e => exact .base (.dK (x _ _ e (notbl True.intro)))
    | dT e => exact .base (.dT (x _ _ e (notbl True.intro)))
    | ins e a b c d f => exact .base (.ins (x _ _ e (notbl True.intro)) a b c d f)
  | byt b => exact .byt b
  | set e => exact .set (x _ _ e (notbl True.intro))
  | kList e c => exact .kList e c
  | kTuple e c => exact .kTuple e c
  | kDict e c => exact .kDict e c
  | fTuple e => exact .fTuple (x _ _ e (notbl True.intro))
  | fDict e => exact .fDict (x _ _ e (notbl True.intro))
theorem NX.ext {v : V} {o : Option Int} (x : ExtN H H') (h : NX K H v o) : NX K H' v o := by
  rcases h with h | ⟨t, b1, b2, ty, r⟩
  · exact .inl h
  · exact .inr ⟨t, b1, b2, TyX.ext x ty, r⟩
theorem KX.ext {v : V} {o : Option Int} (x : ExtN H H') (h : KX K H v o) : KX K H' v o := by
  rcases h with h | ⟨t, b1, b2, ty, r⟩
  · exact .inl h
  · exact .inr ⟨t, b1, b2, TyX.ext x ty, r⟩
theorem NoT.ext {v : V} (x : ExtN H H') (h : NoT K H v) : NoT K H' v := by
  obtain ⟨t, ty, k⟩ := h
  exact ⟨t, TyX.ext x ty, k⟩
theorem BX.ext {v : V} {b : Bool} (x : ExtN H H') (h : BX K H v b) : BX K H' v b := by
  rcases h with ⟨h, e⟩ | ⟨p, xs, e1, h, n, e2⟩ | ⟨p, x0, x1, x2, o0, o1, o2, e, h, k0, k1, k2, e2⟩
  · exact .inl ⟨NoT.ext x h, e⟩
  · exact .inr (.inl ⟨p, xs, e1, sqT_ext x h, n, e2⟩)
  · exact .inr (.inr ⟨p, x0, x1, x2, o0, o1, o2, e, sqT_ext x h, k0.ext x, k1.ext x, k2.ext x, e2⟩)
theorem MX.ext {v : V} {b : Bool} (x : ExtN H H') (h : MX K H v b) : MX K H' v b := by
  rcases h with ⟨h, e⟩ | ⟨p, xs, e1, h, n, e2⟩ | ⟨p, y, z, o1, o2, e, h, k1, k2, e2⟩
  · exact .inl ⟨NoT.ext x h, e⟩
  · exact .inr (.inl ⟨p, xs, e1, sqT_ext x h, n, e2⟩)
  · exact .inr (.inr ⟨p, y, z, o1, o2, e, sqT_ext x h, k1.ext x, k2.ext x, e2⟩)
theorem YX.ext {a b c : Int} {v : V} {o : Bool} (x : ExtN H H') (h : YX K H a b c v o) : YX K H' a b c v o := by
  rcases h with ⟨h, e⟩ | ⟨q, l, h', e, hq, m, o2⟩
  · exact .inl ⟨h.ext x, e⟩
  · exact .inr ⟨q, l, h', e, sqT_ext x hq, m, o2⟩
/-- a value of a type that is no int and no tuple -/
theorem nx_ty {v : V} {T : String} (h : TyX K H v (.type T)) (e : L2.kitB T "int" = some false) (e2 : L2.kitB T "bool" = some false) : NX K H v none ∧ KX K H v none :=
  ⟨.inr ⟨_, false, false, h, kit_ty e, kit_ty e2, rfl, rfl⟩, .inr ⟨_, false, false, h, kit_ty e, kit_ty e2, rfl, rfl⟩⟩
theorem nx_bl (b : Bool) : NX K H (.bl b) none ∧ KX K H (.bl b) none :=
  ⟨.inr ⟨_, true, true, .base (.bl b), kit_ty (by decide +kernel), kit_ty (by decide +kernel), rfl, rfl⟩, .inr ⟨_, true, true, .base (.bl b), kit_ty (by decide +kernel), kit_ty (by decide +kernel), rfl, rfl⟩⟩
theorem nx_neg {i : Int} (h : i < 0) : NX K H (.int i) none ∧ KX K H (.int i) none :=
  ⟨.inl ⟨i, rfl, by rw [if_neg (by omega)]⟩, .inl ⟨i, rfl, by rw [if_neg (by omega)]⟩⟩
theorem kx_big {i : Int} (h : 3 ≤ i) : KX K H (.int i) none := .inl ⟨i, rfl, by rw [if_neg (by omega)]⟩
theorem not_of {v : V} {T : String} (h : TyX K H v (.type T)) (e : L2.kitB T "tuple" = some false) : NoT K H v := ⟨_, h, kit_ty e⟩
/-- an odd thing: no count, no kind -/
def Odd (K : PySem.W.Frag) (H : Hp) (v : V) : Prop := NX K H v none ∧ KX K H v none
theorem Odd.ext {v : V} (x : ExtN H H') (h : Odd K H v) : Odd K H' v := ⟨h.1.ext x, h.2.ext x⟩
theorem okB_odd {o1 o2 o3 : Option Int} (h : o1 = none ∨ o2 = none ∨ o3 = none) : okB o1 o2 o3 = false := by
  rcases h with rfl | rfl | rfl
  · rfl
  · cases o1 <;> rfl
  · cases o1 <;> cases o2 <;> rfl
theorem bx_three {p : Addr} {x y z : V} {o1 o2 o3 : Option Int} (h : SqT K H p [x, y, z]) (h1 : NX K H x o1) (h2 : NX K H y o2) (h3 : NX K H z o3) (e : o1 = none ∨ o2 = none ∨ o3 = none) : BX K H (.ref p) false :=
  .inr (.inr ⟨p, x, y, z, o1, o2, o3, rfl, h, h1, h2, h3, (okB_odd e).symm⟩)
theorem nx_one {i : Int} (h : 0 ≤ i) : NX K H (.int i) (some i) := NX.int h
theorem mx_two {p : Addr} {y z : V} {o1 o2 : Option Int} (h : SqT K H p [y, z]) (h1 : KX K H y o1) (h2 : KX K H z o2) (e : pairB o1 o2 = false) : MX K H (.ref p) false := .inr (.inr ⟨p, y, z, o1, o2, rfl, h, h1, h2, e.symm⟩)
theorem pairB_odd {o1 o2 : Option Int} (h : o1 = none ∨ o2 = none) : pairB o1 o2 = false := by
  rcases h with rfl | rfl
  · rfl
  · cases o1 <;> rfl
/-- a list that grows: what lies in it speaks of the heap without it -/
structure Grow (K : PySem.W.Frag) (T : List (Addr × Str)) (G H : Hp) (L : Addr) (R : Hp → V → Prop) (n : Nat) : Prop where
  ex : ∃ xs : List V, H L = some (.lst xs) ∧ xs.length = n ∧ ∀ x ∈ xs, R (er H L) x
  s : Same G (er H L)
  n0 : G L = none
theorem Grow.same {T : List (Addr × Str)} {G : Hp} {L : Addr} {R : Hp → V → Prop} {n : Nat} (hR : ∀ {A B : Hp} {x : V}, ExtN A B → R A x → R B x) (g : Grow K T G H L R n) (s : Same H H') : Grow K T G H' L R n := by
  obtain ⟨xs, h1, h2, h3⟩ := g.ex
  exact ⟨⟨xs, s _ _ h1, h2, fun x hx => hR (ExtN.of (er_same s)) (h3 x hx)⟩, g.s.trans (er_same s), g.n0⟩
theorem Grow.app {T : List (Addr × Str)} {G : Hp} {L b : Addr} {R : Hp → V → Prop} {n m : Nat} {zs : List V} (g : Grow K T G H L R n) (hb : H b = some (.lst zs)) (hm : zs.length = m) (hz : ∀ z ∈ zs, R (er H L) z) :
    ∃ xs, H L = some (.lst xs) ∧ xs.length = n ∧ Grow K T G (L2.upd H L (.lst (xs ++ zs))) L R (n + m) := by
  obtain ⟨xs, h1, h2, h3⟩ := g.ex
  refine ⟨xs, h1, h2, ⟨xs ++ zs, upd_same, by rw [List.length_append, h2, hm], fun x hx => ?_⟩, ?_, g.n0⟩
  · rw [er_upd]
    rcases List.mem_append.mp hx with q | q
    · exact h3 x q
    · exact hz x q
  · rw [er_upd]
    exact g.s
theorem er_new {G : Hp} {L : Addr} (s : Same G H) (n : G L = none) : Same G (er H L) := fun a o e => by
  rw [er_ne (ne_of_none e n)]
  exact s a o e
def tDNewS : TE := fun _ H Q => ∀ (H' : Hp) (d : Addr), Same H H' → H d = none → H' d = some (.dK []) → Q (.ref d) H'
theorem pe_dnewS {X : Cx} {pos : Pos} : PE X (.Dict [] [] pos) tDNewS := Pe.imp pe_dnewK fun σ H Q q d hd => q _ d (same_upd hd) hd upd_same
theorem takes0N {X : Cx} : L2N.Takes X (fun _ _ _ _ => False) := fun _ _ ⟨_, _, _, _, _, _, _, _, _, _, _, _, _, _, _, _, z⟩ => z.elim
end
/-! ### the classes of the refusals -/
structure ErrK (K : PySem.W.Frag) (E : Int → Addr) (BE : Addr) : Prop where
  x : ∀ i, 0 ≤ i → i < 4 → ExcC K (E i)
  k : ∀ i j, 0 ≤ i → i < 4 → 0 ≤ j → j < 4 → PySem.W.kitOne K (.ref (E i)) (.ref (E j)) = some (decide (i = j))
  v : ∀ i, 0 ≤ i → i < 4 → PySem.W.kitOne K (.ref (E i)) (.type "ValueError") = some true
  m : ∀ i, 0 ≤ i → i < 4 → PySem.W.exmOne K (.ref (E i)) (.ref BE) = some true
def excCB (K : PySem.W.Frag) (D : Addr) : Bool :=
  He.eqO (PySem.W.findIn K (.ref D) "__getattribute__") (some (some (.builtin "BaseException.__getattribute__"))) && (He.eqO (PySem.W.findIn K (.ref D) "__getattr__") (some none) && (eqD (PySem.W.subIn K (.ref D) (.type "BaseException")) (some true) && (PySem.W.hasDictIn K D
    && (He.eqO (PySem.W.findIn K (.ref D) "__class__") (some (some (.builtin "object.__class__"))) && (He.eqO (PySem.W.specialIn K (.builtin "object.__class__") "__get__") (some (some (.builtin "getset_descriptor.__get__")))
    && (eqD (PySem.W.takesIn K (.builtin "object.__class__")) (some true) && eqD (PySem.W.mroIn K D (.type "object")) (some true)))))))
theorem excCB_ok {K : PySem.W.Frag} {D : Addr} (h : excCB K D = true) : ExcC K D := by
  obtain ⟨h1, h⟩ := He.ba h
  obtain ⟨h2, h⟩ := He.ba h
  obtain ⟨h3, h⟩ := He.ba h
  obtain ⟨h4, h⟩ := He.ba h
  obtain ⟨h5, h⟩ := He.ba h
  obtain ⟨h6, h⟩ := He.ba h
  obtain ⟨h7, h8⟩ := He.ba h
  exact ⟨He.eqO_ok h1, He.eqO_ok h2, of_decide_eq_true h3, h4, He.eqO_ok h5, He.eqO_ok h6, of_decide_eq_true h7, of_decide_eq_true h8⟩
def i4 : List Int := [0, 1, 2, 3]
def errB (K : PySem.W.Frag) (E : Int → Addr) (BE : Addr) : Bool := i4.all fun i => excCB K (E i) && (eqD (PySem.W.kitOne K (.ref (E i)) (.type "ValueError")) (some true) && (eqD (PySem.W.exmOne K (.ref (E i)) (.ref BE)) (some true)
  && i4.all fun j => eqD (PySem.W.kitOne K (.ref (E i)) (.ref (E j))) (some (decide (i = j)))))
theorem in_i4 {i : Int} (h0 : 0 ≤ i) (h4 : i < 4) : i ∈ i4 := by
  have e : i = 0 ∨ i = 1 ∨ i = 2 ∨ i = 3 := by omega
  rcases e with rfl | rfl | rfl | rfl <;> simp [i4]
theorem errB_ok {K : PySem.W.Frag} {E : Int → Addr} {BE : Addr} (h : errB K E BE = true) : ErrK K E BE := by
  have key : ∀ i : Int, 0 ≤ i → i < 4 → _ := fun i h0 h4 => List.all_eq_true.mp h i (in_i4 h0 h4)
  refine ⟨fun i h0 h4 => ?_, fun i j h0 h4 j0 j4 => ?_, fun i h0 h4 => ?_, fun i h0 h4 => ?_⟩ <;>
    (obtain ⟨z1, z⟩ := He.ba (key i h0 h4); obtain ⟨z2, z⟩ := He.ba z; obtain ⟨z3, z4⟩ := He.ba z)
  · exact excCB_ok z1
  · exact of_decide_eq_true (List.all_eq_true.mp z4 j (in_i4 j0 j4))
  · exact of_decide_eq_true z2
  · exact of_decide_eq_true z3
def errA (K : PySem.W.Frag) (i : Int) : Addr := if i = 0 then He.ga K "BadBeads" else if i = 1 then He.ga K "BadMeeting" else if i = 2 then He.ga K "BadKind" else He.ga K "TooMany"
/-- the refusal's own words, compared -/
theorem same_words {d : Int} (h0 : 0 ≤ d) (h4 : d < 4) : PyData.eqv (.list [.bool (decide (d = 0)), .bool (decide (d = 1)), .bool (decide (d = 2)), .bool (decide (d = 3)), .bool true]) (.list [.bool (decide (V.int 0 = V.int d)), .bool (decide (V.int 1 = V.int d)), .bool (decide (V.int 2 = V.int d)), .bool (decide (V.int 3 = V.int d)), .bool true]) = true := by
  have e : d = 0 ∨ d = 1 ∨ d = 2 ∨ d = 3 := by omega
  rcases e with rfl | rfl | rfl | rfl <;> decide +kernel
end Km

set_option Elab.async false
set_option linter.all false
set_option maxRecDepth 100000
set_option maxHeartbeats 4000000
namespace Km
open PySem PySem.Spec PyProof.Rows L2
def topS (i : Nat) : Stmt := PySem.Challenge.pw_kindmeets_k07_refused.main.body.getD i (.Pass ⟨0, 0, 0, 0⟩)

/-! ### kindmeets.beads -/
abbrev sNum : Stmt := topS 18
abbrev sKind : Stmt := topS 17
abbrev sIsM : Stmt := topS 16
abbrev sAre : Stmt := topS 15
abbrev sChB : Stmt := topS 13
abbrev sChM : Stmt := topS 14
abbrev sBeh : Stmt := topS 12
abbrev sJoin : Stmt := topS 10
abbrev sTurn : Stmt := topS 11
abbrev sMeet : Stmt := topS 9
theorem scBeh : FnScope ["beads", "meeting", "made", "kind", "count"] ["beads", "meeting", "made"] (defScope sBeh) := ⟨rfl, rfl, rfl, by decide +kernel, rfl, by decide +kernel, by decide +kernel⟩
theorem scJoin : FnScope ["beads", "meeting"] ["beads", "meeting"] (defScope sJoin) := ⟨rfl, rfl, rfl, by decide +kernel, rfl, by decide +kernel, by decide +kernel⟩
theorem scTurn : FnScope ["beads", "meeting"] ["beads", "meeting"] (defScope sTurn) := ⟨rfl, rfl, rfl, by decide +kernel, rfl, by decide +kernel, by decide +kernel⟩
theorem scMeet : FnScope ["beads", "low", "high"] ["beads"] (defScope sMeet) := ⟨rfl, rfl, rfl, by decide +kernel, rfl, by decide +kernel, by decide +kernel⟩
theorem scNum : FnScope ["value"] ["value"] (defScope sNum) := ⟨rfl, rfl, rfl, by decide +kernel, rfl, by decide +kernel, by decide +kernel⟩
theorem scKind : FnScope ["value"] ["value"] (defScope sKind) := ⟨rfl, rfl, rfl, by decide +kernel, rfl, by decide +kernel, by decide +kernel⟩
theorem scIsM : FnScope ["value", "low", "high"] ["value"] (defScope sIsM) := ⟨rfl, rfl, rfl, by decide +kernel, rfl, by decide +kernel, by decide +kernel⟩
theorem scAre : FnScope ["value", "count"] ["value"] (defScope sAre) := ⟨rfl, rfl, rfl, by decide +kernel, rfl, by decide +kernel, by decide +kernel⟩
theorem scChB : FnScope ["beads"] ["beads"] (defScope sChB) := ⟨rfl, rfl, rfl, by decide +kernel, rfl, by decide +kernel, by decide +kernel⟩
theorem scChM : FnScope ["beads", "meeting", "low", "high"] ["beads", "meeting"] (defScope sChM) := ⟨rfl, rfl, rfl, by decide +kernel, rfl, by decide +kernel, by decide +kernel⟩
section
variable {P : Program} {w : World} {K : PySem.W.Frag} {mg : Str → Option Value} {base : Heap} {f : Addr} {fd : FuncData}
/-- is_number of anything whose type is told -/
def spNum (K : PySem.W.Frag) : Sp := fun vs H Q _ => ∃ (x : V) (t : Value) (b1 b2 : Bool), vs = [x] ∧ TyX K H x t ∧ PySem.W.kitOne K t (.type "int") = some b1 ∧ PySem.W.kitOne K t (.type "bool") = some b2 ∧ Q (.bl (b1 && !b2)) H
theorem ok_num (F : FnP K "is_number" sNum f fd) (B : Bl mg) : FnOk P w K mg base CX0 1 f fd ["value"] (spNum K) := by
  refine F.ok scNum (fun vs H Q E h => ?_) (fun cdv A outer s H vs Q E hr h => ?_)
  · obtain ⟨x, t, b1, b2, rfl, _⟩ := h
    rfl
  · obtain ⟨x, t, b1, b2, rfl, ty, k1, k2, q⟩ := h
    refine ⟨_, PSs.nox (pss_one (ps_ret (pe_and (pe_callB call_isi (by rfl) B.isi (by decide +kernel) (pa_cons (pv 0) (pa_cons (pe_bltn (v := .ty "int") (by rfl) B.int (by decide +kernel) rfl) pa_nil)))
      (pe_one (pe_not (pe_callB call_isi (by rfl) B.isi (by decide +kernel) (pa_cons (pv 0) (pa_cons (pe_bltn (v := .ty "bool") (by rfl) B.bool (by decide +kernel) rfl) pa_nil)))))))), ?_⟩
    refine ⟨x, rfl, x, _, t, _, b1, rfl, .ty _, ty, k1, b1, rfl, ?_⟩
    cases b1 with
    | false => exact iteF q
    | true => exact iteT ⟨x, rfl, x, _, t, _, b2, rfl, .ty _, ty, k2, b2, rfl, by rw [Bool.true_and] at q; exact q⟩
theorem sp_num_int {K : PySem.W.Frag} {H : Hp} {Q : VK} {E : XK} {n : Int} (q : Q (.bl true) H) : spNum K [.int n] H Q E :=
  ⟨.int n, .type "int", true, false, rfl, .base (.int _), kit_ty (by decide +kernel), kit_ty (by decide +kernel), q⟩
/-- is_kind of anything -/
def spKind (K : PySem.W.Frag) : Sp := fun vs H Q _ => ∃ (x : V) (o : Option Int), vs = [x] ∧ KX K H x o ∧ Q (.bl o.isSome) H
theorem ok_kind {fN : Addr} {fdN : FuncData} {u : Value} (F : FnP K "is_kind" sKind f fd) (B : Bl mg) (kd : mg "KINDS" = some u) (ku : RelV (.int 3) u) (aN : At K mg "is_number" sNum ["value"] fN fdN) : FnOk P w K mg base CX0 2 f fd ["value"] (spKind K) := by
  have GN : FnOk P w K mg base CX0 1 fN fdN ["value"] (spNum K) := ok_num aN.F B
  refine F.ok scKind (fun vs H Q E h => ?_) (fun cdv A outer s H vs Q E hr h => ?_)
  · obtain ⟨x, o, rfl, _⟩ := h
    rfl
  · obtain ⟨x, o, rfl, hx, q⟩ := h
    refine ⟨_, PSs.nox (pss_one (ps_ret (pe_and (pe_call GN hr (by rfl) aN.g aN.F.kp aN.b .nil pass0 (pa_cons (pv 0) pa_nil))
      (pe_one (pe_chain op_le op_lt pe_int (pv 0) (pe_glob (by rfl) kd ku)))))), ?_⟩
    refine ⟨x, rfl, ?_⟩
    rcases hx with ⟨n, rfl, e⟩ | ⟨t, b1, b2, ty, k1, k2, k3, e⟩
    · refine ⟨.int n, .type "int", true, false, rfl, .base (.int _), kit_ty (by decide +kernel), kit_ty (by decide +kernel), true, rfl, iteT ?_⟩
      refine ⟨_, rfl, _, _, rfl, rfl, _, rfl, ite2 (fun h0 => ?_) (fun h0 => ?_)⟩
      · have h0' : 0 ≤ n := of_decide_eq_true h0
        refine ⟨_, _, rfl, rfl, ?_⟩
        have e2 : decide (n < 3) = o.isSome := by
          by_cases h3 : n < 3
          · rw [e, if_pos ⟨h0', h3⟩, decide_eq_true h3]; rfl
          · rw [e, if_neg (fun z => h3 z.2), decide_eq_false h3]; rfl
        show Q (V.bl (decide (n < 3))) H
        rw [e2]
        exact q
      · have h0' : ¬ 0 ≤ n := fun z => h0 (decide_eq_true z)
        have e2 : o.isSome = false := by rw [e, if_neg (fun z => h0' z.1)]; rfl
        rw [e2] at q
        exact q
    · refine ⟨x, t, b1, b2, rfl, ty, k1, k2, b1 && !b2, rfl, ?_⟩
      rw [k3]
      refine iteF ?_
      rw [e] at q
      exact q
/-- is_meeting of anything -/
def spIsM (K : PySem.W.Frag) : Sp := fun vs H Q _ => ∃ (x : V) (b : Bool), vs = [x] ∧ MX K H x b ∧ Q (.bl b) H
theorem ok_isM {fN fK : Addr} {fdN fdK : FuncData} {u : Value} (F : FnP K "is_meeting" sIsM f fd) (B : Bl mg) (kd : mg "KINDS" = some u) (ku : RelV (.int 3) u) (aN : At K mg "is_number" sNum ["value"] fN fdN) (aK : At K mg "is_kind" sKind ["value"] fK fdK) : FnOk P w K mg base CX0 3 f fd ["value"] (spIsM K) := by
  have GK : FnOk P w K mg base CX0 2 fK fdK ["value"] (spKind K) := ok_kind aK.F B kd ku aN
  refine F.ok scIsM (fun vs H Q E h => ?_) (fun cdv A outer s H vs Q E hr h => ?_)
  · obtain ⟨x, b, rfl, _⟩ := h
    rfl
  · obtain ⟨x, b, rfl, h, q⟩ := h
    refine ⟨_, PSs.nox (pss_cons (ps_if (PW.pt (pw_or (pt_not (pt_val (pe_callB call_isi (by rfl) B.isi (by decide +kernel) (pa_cons (pv 0) (pa_cons (pe_bltn (v := .ty "tuple") (by rfl) B.tup (by decide +kernel) rfl) pa_nil)))))
        (pw_or1 (pt_cmpR op_ne (pe_callB call_len_seq (by rfl) B.len PySem.boot_len (pa_cons (pv 0) pa_nil)) pe_int (nomark _))))) (pss_one (ps_ret pe_bl)) pss_nil)
      (pss_cons (ps_asg (pv 0) (pg_tup (by rfl) (pgs_cons (pg_name (i := 1) scIsM.nd rfl (.inl rfl)) (pgs_cons (pg_name (i := 2) scIsM.nd rfl (.inl rfl)) pgs_nil))))
      (pss_one (ps_ret (pe_and (pe_call GK hr (by rfl) aK.g aK.F.kp aK.b .nil pass0 (pa_cons (pv 1) pa_nil))
        (pe_and (pe_call GK hr (by rfl) aK.g aK.F.kp aK.b .nil pass0 (pa_cons (pv 2) pa_nil)) (pe_one (pe_cmpR op_lt (pv 1) (pv 2) (nomark _))))))))), ?_⟩
    rcases h with ⟨⟨t, ty, kt⟩, rfl⟩ | ⟨p, xs, rfl, hs, hn, rfl⟩ | ⟨p, y, z, o1, o2, rfl, hs, k1, k2, rfl⟩
    · exact ⟨x, rfl, x, _, t, _, false, rfl, .ty _, ty, kt, false, rfl, iteT (iteT q)⟩
    · refine ⟨.ref p, rfl, .ref p, _, _, _, true, rfl, .ty _, ty_tup hs, kit_ty (by decide +kernel), true, rfl, iteF ?_⟩
      refine ⟨.ref p, rfl, p, xs, rfl, .inr hs, rfl, _, rfl, ?_⟩
      have e : decide (V.int (xs.length : Int) = V.int 2) = false := decide_eq_false fun z => hn (by have z2 := V.int.inj z; omega)
      rw [e]
      exact iteT q
    · refine ⟨.ref p, rfl, .ref p, _, _, _, true, rfl, .ty _, ty_tup hs, kit_ty (by decide +kernel), true, rfl, iteF ?_⟩
      refine ⟨.ref p, rfl, p, _, rfl, .inr hs, rfl, _, rfl, ?_⟩
      refine iteF ?_
      refine ⟨.ref p, rfl, p, _, rfl, hs, rfl, y, [z], rfl, z, [], rfl, rfl, ?_⟩
      refine ⟨y, rfl, y, o1, rfl, k1, o1.isSome, rfl, ?_⟩
      cases o1 with
      | none => exact iteF q
      | some n =>
        refine iteT ⟨z, rfl, z, o2, rfl, k2, o2.isSome, rfl, ?_⟩
        cases o2 with
        | none => exact iteF q
        | some m =>
          have ey : y = .int n := by
            rcases k1 with ⟨i, rfl, e⟩ | ⟨_, _, _, _, _, _, _, e⟩
            · split at e
              · rw [Option.some.inj e]
              · cases e
            · cases e
          have ez : z = .int m := by
            rcases k2 with ⟨i, rfl, e⟩ | ⟨_, _, _, _, _, _, _, e⟩
            · split at e
              · rw [Option.some.inj e]
              · cases e
            · cases e
          subst ey ez
          exact iteT ⟨_, rfl, _, rfl, _, _, rfl, rfl, q⟩
/-- are_beads of anything -/
def spAre (K : PySem.W.Frag) : Sp := fun vs H Q _ => ∃ (x : V) (b : Bool), vs = [x] ∧ BX K H x b ∧ Q (.bl b) H
theorem ok_are {fN : Addr} {fdN : FuncData} {u : Value} (F : FnP K "are_beads" sAre f fd) (B : Bl mg) (kd : mg "KINDS" = some u) (ku : RelV (.int 3) u) (aN : At K mg "is_number" sNum ["value"] fN fdN) : FnOk P w K mg base CX0 2 f fd ["value"] (spAre K) := by
  have GN : FnOk P w K mg base CX0 1 fN fdN ["value"] (spNum K) := ok_num aN.F B
  refine F.ok scAre (fun vs H Q E h => ?_) (fun cdv A outer s H vs Q E hr h => ?_)
  · obtain ⟨x, b, rfl, _⟩ := h
    rfl
  · obtain ⟨x, b, rfl, h, q⟩ := h
    refine ⟨_, PSs.nox (pss_cons (ps_if (PW.pt (pw_or (pt_not (pt_val (pe_callB call_isi (by rfl) B.isi (by decide +kernel) (pa_cons (pv 0) (pa_cons (pe_bltn (v := .ty "tuple") (by rfl) B.tup (by decide +kernel) rfl) pa_nil)))))
        (pw_or1 (pt_cmpR op_ne (pe_callB call_len_seq (by rfl) B.len PySem.boot_len (pa_cons (pv 0) pa_nil)) (pe_glob (by rfl) kd ku) (nomark _))))) (pss_one (ps_ret pe_bl)) pss_nil)
      (pss_cons (ps_for PassesOwn.never rfl (pi_tup (pv 0)) (pg_name (i := 1) scAre.nd rfl (.inl rfl))
        (pss_one (ps_if (PW.pt (pw_or (pt_not (pt_val (pe_call GN hr (by rfl) aN.g aN.F.kp aN.b .nil pass0 (pa_cons (pv 1) pa_nil)))) (pw_or1 (pt_cmpR op_lt (pv 1) pe_int (nomark _))))) (pss_one (ps_ret pe_bl)) pss_nil)))
      (pss_one (ps_ret (pe_cmpR op_gt (pe_callB (cr_maxT rfl) (by rfl) B.max (by decide +kernel) (pa_cons (pv 0) pa_nil)) pe_int (nomark _)))))), ?_⟩
    rcases h with ⟨⟨t, ty, kt⟩, rfl⟩ | ⟨p, xs, rfl, hs, hn, rfl⟩ | ⟨p, x0, x1, x2, o0, o1, o2, rfl, hs, k0, k1, k2, rfl⟩
    · exact ⟨x, rfl, x, _, t, _, false, rfl, .ty _, ty, kt, false, rfl, iteT (iteT q)⟩
    · refine ⟨.ref p, rfl, .ref p, _, _, _, true, rfl, .ty _, ty_tup hs, kit_ty (by decide +kernel), true, rfl, iteF ?_⟩
      refine ⟨.ref p, rfl, p, xs, rfl, .inr hs, rfl, _, rfl, ?_⟩
      have e : decide (V.int (xs.length : Int) = V.int 3) = false := decide_eq_false fun z => hn (by have z2 := V.int.inj z; omega)
      rw [e]
      exact iteT q
    · refine ⟨.ref p, rfl, .ref p, _, _, _, true, rfl, .ty _, ty_tup hs, kit_ty (by decide +kernel), true, rfl, iteF ?_⟩
      refine ⟨.ref p, rfl, p, _, rfl, .inr hs, rfl, _, rfl, ?_⟩
      refine iteF ?_
      refine ⟨.ref p, rfl, p, rfl, ⟨_, hs⟩, for_tup (K := K) (a := p) (xs := [x0, x1, x2]) (fun i σ H' => H' = H ∧ (∃ v, σ = [some (.ref p), v]) ∧ ∀ j, j < i → ∃ n, [o0, o1, o2][j]? = some (some n))
        ⟨rfl, ⟨none, rfl⟩, fun j hj => absurd hj (Nat.not_lt_zero j)⟩ (fun i σ H' _ ⟨e, _⟩ => e ▸ hs) ?_ ?_⟩
      · rintro i x σ H' hx ⟨rfl, ⟨v, rfl⟩, hall⟩
        obtain ⟨o, ho, hN⟩ : ∃ o, [o0, o1, o2][i]? = some o ∧ NX K H' x o := by
          match i, hx with
          | 0, hx => exact ⟨o0, rfl, (Option.some.inj hx) ▸ k0⟩
          | 1, hx => exact ⟨o1, rfl, (Option.some.inj hx) ▸ k1⟩
          | 2, hx => exact ⟨o2, rfl, (Option.some.inj hx) ▸ k2⟩
          | n + 3, hx => simp at hx
        have stop : o = none → Q (.bl false) H' := fun e => by
          subst e
          rw [okB_none ho] at q
          exact q
        rcases hN with ⟨n, rfl, e⟩ | ⟨t, b1, b2, ty, e1, e2, e3, e⟩
        · refine ⟨_, rfl, .int n, .type "int", true, false, rfl, .base (.int _), kit_ty (by decide +kernel), kit_ty (by decide +kernel), true, rfl, iteF ?_⟩
          refine ⟨_, rfl, _, _, rfl, rfl, _, rfl, ite2 (fun h0 => ?_) (fun h0 => ?_)⟩
          · refine stop ?_
            rw [e, if_neg (by have z := of_decide_eq_true h0; omega)]
          · have h0' : 0 ≤ n := by
              by_cases z : 0 ≤ n
              · exact z
              · exact absurd (decide_eq_true (show n < 0 by omega)) h0
            refine ⟨rfl, ⟨_, rfl⟩, fun j hj => ?_⟩
            by_cases hji : j < i
            · exact hall j hji
            · have ej : j = i := by omega
              subst ej
              exact ⟨n, by rw [ho, e, if_pos h0']⟩
        · refine ⟨_, rfl, x, t, b1, b2, rfl, ty, e1, e2, b1 && !b2, rfl, ?_⟩
          rw [e3]
          exact iteT (stop e)
      · rintro σ H' ⟨rfl, ⟨v, rfl⟩, hall⟩
        obtain ⟨a, ha⟩ := hall 0 (by show 0 < 3; omega)
        obtain ⟨b, hb⟩ := hall 1 (by show 1 < 3; omega)
        obtain ⟨c, hc⟩ := hall 2 (by show 2 < 3; omega)
        have ea : o0 = some a := Option.some.inj ha
        have eb : o1 = some b := Option.some.inj hb
        have ec : o2 = some c := Option.some.inj hc
        subst ea eb ec
        obtain ⟨rfl, a0⟩ := k0.val
        obtain ⟨rfl, b0⟩ := k1.val
        obtain ⟨rfl, c0⟩ := k2.val
        refine ⟨.ref p, rfl, p, [a, b, c], rfl, hs, by show 0 < 3; omega, fun m hm hle => ⟨_, _, rfl, rfl, ?_⟩⟩
        have e : decide (0 < m) = decide (0 < a + b + c) := by
          have h1 := hle a (by simp)
          have h2 := hle b (by simp)
          have h3 := hle c (by simp)
          simp only [List.mem_cons, List.mem_nil_iff, or_false] at hm
          by_cases z : 0 < m
          · rw [decide_eq_true z, decide_eq_true]
            rcases hm with e | e | e <;> omega
          · rw [decide_eq_false z, decide_eq_false]
            omega
        show Q (.bl (decide (0 < m))) H'
        rw [e]
        exact q
/-! ### refusals -/
def spChB (K : PySem.W.Frag) (C : Addr) : Sp := fun vs H Q E => ∃ (x : V) (b : Bool), vs = [x] ∧ BX K H x b ∧ (b = true → Q .non H) ∧ (b = false → E (.ref C) none H)
theorem ok_chB {fA fN C : Addr} {fdA fdN : FuncData} {u : Value} (F : FnP K "check_beads" sChB f fd) (B : Bl mg) (kd : mg "KINDS" = some u) (ku : RelV (.int 3) u) (aN : At K mg "is_number" sNum ["value"] fN fdN) (aA : At K mg "are_beads" sAre ["value"] fA fdA) (eB : Ex K mg "BadBeads" C) :
    FnOk P w K mg base (L2N.CX P w) 3 f fd ["beads"] (spChB K C) := by
  have GA : FnOk P w K mg base CX0 2 fA fdA ["value"] (spAre K) := ok_are aA.F B kd ku aN
  refine F.ok scChB (fun vs H Q E h => ?_) (fun cdv A outer s H vs Q E hr h => ?_)
  · obtain ⟨x, b, rfl, _⟩ := h
    rfl
  · obtain ⟨x, b, rfl, hx, q1, q2⟩ := h
    refine ⟨_, pss_one (ps_if (pt_not (pt_val (pe_call GA hr (by rfl) aA.g aA.F.kp aA.b .nil pass0 (pa_cons (pv 0) pa_nil))))
      (pss_one (L2N.ps_raise rfl (L2N.takes_of rfl rfl rfl rfl) (L2N.pmk_own PySem.F.excBase_ValueError eB.x eB.g eB.k (raises_own eB.b eB.t) (by rfl)))) pss_nil), ?_⟩
    refine ⟨x, rfl, x, b, rfl, hx, b, rfl, ?_⟩
    cases b with
    | true => exact iteF (q1 rfl)
    | false => exact iteT (q2 rfl)
def spChM (K : PySem.W.Frag) (C : Addr) : Sp := fun vs H Q E => ∃ (p : Addr) (a b c : Int) (y : V) (o : Bool), vs = [.ref p, y] ∧ Tr K H p a b c ∧ Ok3 a b c ∧ YX K H a b c y o ∧ (o = true → Q .non H) ∧ (o = false → E (.ref C) none H)
theorem ok_chM {fM fN fK C : Addr} {fdM fdN fdK : FuncData} {u : Value} (F : FnP K "check_meeting" sChM f fd) (B : Bl mg) (kd : mg "KINDS" = some u) (ku : RelV (.int 3) u) (aN : At K mg "is_number" sNum ["value"] fN fdN) (aK : At K mg "is_kind" sKind ["value"] fK fdK) (aM : At K mg "is_meeting" sIsM ["value"] fM fdM) (eM : Ex K mg "BadMeeting" C) :
    FnOk P w K mg base (L2N.CX P w) 4 f fd ["beads", "meeting"] (spChM K C) := by
  have GM : FnOk P w K mg base CX0 3 fM fdM ["value"] (spIsM K) := ok_isM aM.F B kd ku aN aK
  refine F.ok scChM (fun vs H Q E h => ?_) (fun cdv A outer s H vs Q E hr h => ?_)
  · obtain ⟨p, a, b, c, y, o, rfl, _⟩ := h
    rfl
  · obtain ⟨p, a, b, c, y, o, rfl, hT, k3, hy, q1, q2⟩ := h
    refine ⟨_, pss_cons (ps_if (pt_not (pt_val (pe_call GM hr (by rfl) aM.g aM.F.kp aM.b .nil pass0 (pa_cons (pv 1) pa_nil))))
      (pss_one (L2N.ps_raise rfl (L2N.takes_of rfl rfl rfl rfl) (L2N.pmk_own PySem.F.excBase_ValueError eM.x eM.g eM.k (raises_own eM.b eM.t) (by rfl)))) pss_nil)
      (pss_cons (ps_asg (pv 1) (pg_tup (by rfl) (pgs_cons (pg_name (i := 2) scChM.nd rfl (.inl rfl)) (pgs_cons (pg_name (i := 3) scChM.nd rfl (.inl rfl)) pgs_nil))))
      (pss_one (ps_if (PW.pt (pw_or (pt_cmpR op_eq (pe_ix ix_tup (pv 0) (pv 2) (fun _ _ => rfl)) pe_int (nomark _)) (pw_or1 (pt_cmpR op_eq (pe_ix ix_tup (pv 0) (pv 3) (fun _ _ => rfl)) pe_int (nomark _)))))
        (pss_one (L2N.ps_raise rfl (L2N.takes_of rfl rfl rfl rfl) (L2N.pmk_own PySem.F.excBase_ValueError eM.x eM.g eM.k (raises_own eM.b eM.t) (by rfl)))) pss_nil))), ?_⟩
    rcases hy with ⟨hm, rfl⟩ | ⟨qa, l, h, rfl, hq, hlh, rfl⟩
    · exact ⟨y, rfl, y, false, rfl, hm, false, rfl, iteT (q2 rfl)⟩
    · refine ⟨_, rfl, _, true, rfl, MX.of hq hlh, true, rfl, iteF ?_⟩
      refine ⟨_, rfl, qa, _, rfl, hq, rfl, _, _, rfl, _, _, rfl, rfl, ?_⟩
      have b1 : 0 ≤ l ∧ l < 3 := by unfold Mt at hlh; omega
      have b2 : 0 ≤ h ∧ h < 3 := by unfold Mt at hlh; omega
      have p1 : 0 ≤ g3 a b c l := by have z := k3.a0; have z1 := k3.b0; have z2 := k3.c0; unfold g3; split <;> (try split) <;> omega
      have p2 : 0 ≤ g3 a b c h := by have z := k3.a0; have z1 := k3.b0; have z2 := k3.c0; unfold g3; split <;> (try split) <;> omega
      refine ⟨_, rfl, _, rfl, p, _, _, _, rfl, rfl, hT, at3 b1.1 b1.2, rfl, _, rfl, ite2 (fun z => ?_) (fun z => ?_)⟩
      · have z2 : g3 a b c l = 0 := V.int.inj (of_decide_eq_true z)
        refine iteT (q2 ?_)
        cases e : can a b c l h with
        | false => rfl
        | true => have z3 := (can_iff.mp e).1; omega
      · have z2 : ¬ g3 a b c l = 0 := fun e => z (decide_eq_true (congrArg V.int e))
        refine ⟨_, rfl, _, rfl, p, _, _, _, rfl, rfl, hT, at3 b2.1 b2.2, rfl, _, rfl, ite2 (fun z => ?_) (fun z => ?_)⟩
        · have z3 : g3 a b c h = 0 := V.int.inj (of_decide_eq_true z)
          refine q2 ?_
          cases e : can a b c l h with
          | false => rfl
          | true => have z3 := (can_iff.mp e).2; omega
        · have z3 : ¬ g3 a b c h = 0 := fun e => z (decide_eq_true (congrArg V.int e))
          exact q1 (can_iff.mpr ⟨by omega, by omega⟩)
/-! ### the beads behind a meeting -/
def spBeh (K : PySem.W.Frag) : Sp := fun vs H Q _ => ∃ (p q : Addr) (a b c l h m : Int), vs = [.ref p, .ref q, .int m] ∧ Tr K H p a b c ∧ Pr K H q l h ∧ ∀ (H' : Hp) (r : Addr), Same H H' → H r = none → TupF H' r (met a b c l h m) → Q (.ref r) H'
theorem ok_beh (F : FnP K "behind" sBeh f fd) (B : Bl mg) : FnOk P w K mg base CX0 1 f fd ["beads", "meeting", "made"] (spBeh K) := by
  refine F.ok scBeh (fun vs H Q E h => ?_) (fun cdv A outer s H vs Q E hr h => ?_)
  · obtain ⟨p, q, a, b, c, l, h, m, rfl, _⟩ := h
    rfl
  · obtain ⟨p, q, a, b, c, l, h, m, rfl, hT, hP, k⟩ := h
    refine ⟨_, PSs.nox (pss_one (ps_ret (pe_callTy call_tuple_ofF (by rfl) B.tup (by decide +kernel) (pa_cons
      (pe_lc (own := [("kind", 3), ("count", 4)]) (g := gTup K 2 (gCons (gName 3) (gCons (gName 4) gNil))) (tt := tYes) (te := tIf (tTest (tOp (rIn K false) (tVar 3) (tVar 1))) (tOp (rI0 fun i j => .int (i - j)) (tVar 4) (tC (.int 1))) (tOp (rI0 fun i j => .int (i + j)) (tVar 4) (tVar 2))) rfl scBeh.nd (pi_enumT (by rfl) B.enu (pa_cons (pv 0) pa_nil)) (blkOk_by (N := ["beads", "meeting", "made", "kind", "count"]) (sc := defScope sBeh) (by decide +kernel))
        (fun _ _ _ _ _ => pg_tup (by rfl) (pgs_cons (pg_name (i := 3) scBeh.nd rfl (.inl rfl)) (pgs_cons (pg_name (i := 4) scBeh.nd rfl (.inl rfl)) pgs_nil)))
        (fun _ _ _ _ _ => pts_nil)
        (fun _ _ _ _ _ => pe_ifExp (pt_cmpR op_in_seq (pv 3) (pv 1) (by rfl)) (pe_op op_sub (pv 4) pe_int) (pe_op op_add (pv 4) (pv 2)))) pa_nil)))), ?_⟩
    refine ⟨_, rfl, p, _, rfl, hT, fun D hD => ?_⟩
    refine lc_it walkEnumT (fun i H' => Same H H' ∧ H' D = some (.lst ((met a b c l h m).take i))) ⟨same_upd hD, upd_same⟩ (fun i H' _ hp => tup_same hp.1 hT) ?_ ?_
    · rintro i x H1 H2 hi ⟨sm, hL⟩ ⟨T, x1, x2, rfl, nT, rfl, e1, e2⟩
      have hi3 : i < 3 := hi
      obtain ⟨n, rfl, hn⟩ := met_at (l := l) (h := h) (m := m) hi3 e2
      have e1' : x1 = .int (i : Int) := (Option.some.inj e1).symm
      subst e1'
      have sT : Same H1 (upd H1 T (.tup [.int (i : Int), .int n])) := same_upd nT
      have hL2 : (upd H1 T (.tup [.int (i : Int), .int n])) D = some (.lst ((met a b c l h m).take i)) := sT _ _ hL
      have hlen : ((met a b c l h m).take i).length < sizeLine := by
        rw [List.length_take]
        exact Nat.lt_of_le_of_lt (Nat.min_le_right _ _) (by show 3 < sizeLine; decide)
      have sm2 : ∀ z : HO, Same H (upd (upd H1 T (.tup [.int (i : Int), .int n])) D z) := fun z => same_new (sm.trans sT) hD
      refine ⟨T, _, rfl, .inl (.inl upd_same), rfl, _, _, rfl, _, _, rfl, rfl, rfl, ?_⟩
      dsimp only [tYes]
      refine iteT ?_
      refine ⟨_, rfl, _, rfl, q, _, rfl, .inr (tup_same (sm.trans sT) hP), rfl, rfl, _, rfl, ite2 (fun z => ?_) (fun z => ?_)⟩
      · refine ⟨_, rfl, _, _, rfl, rfl, _, hL2, hlen, sm2 _, ?_⟩
        rw [upd_same]
        have e : mk (i : Int) n l h m = n - 1 := by
          unfold mk
          rw [if_pos]
          exact inV_pair.mp z
        rw [e] at hn
        rw [← take_next hn]
      · refine ⟨_, rfl, _, rfl, _, _, rfl, rfl, _, hL2, hlen, sm2 _, ?_⟩
        rw [upd_same]
        have e : mk (i : Int) n l h m = n + m := by
          unfold mk
          rw [if_neg]
          exact fun e => z (inV_pair.mpr e)
        rw [e] at hn
        rw [← take_next hn]
    · rintro H1 ⟨sm, hL⟩
      refine ⟨D, _, rfl, SqL.of hL, fun o r ho hr2 => ?_⟩
      exact k _ r (same_new sm (sm.free hr2)) (sm.free hr2) ⟨o, ho, upd_same⟩
def spMet (K : PySem.W.Frag) (C1 C2 : Addr) (m : Int) : Sp := fun vs H Q E => ∃ x y : V, vs = [x, y] ∧ ((BX K H x false ∧ E (.ref C1) none H) ∨
  (∃ (p : Addr) (a b c : Int), x = .ref p ∧ Tr K H p a b c ∧ Ok3 a b c ∧ YX K H a b c y false ∧ E (.ref C2) none H) ∨
  ∃ (p q : Addr) (a b c l h : Int), x = .ref p ∧ y = .ref q ∧ Tr K H p a b c ∧ Ok3 a b c ∧ Pr K H q l h ∧ Mt l h ∧ can a b c l h = true ∧ ∀ (H' : Hp) (r : Addr), Same H H' → H r = none → TupF H' r (met a b c l h m) → Q (.ref r) H')
theorem ok_join {fB fM fE C1 C2 : Addr} {fdB fdM fdE : FuncData} (F : FnP K "joined" sJoin f fd) (aB : At K mg "check_beads" sChB ["beads"] fB fdB) (aM : At K mg "check_meeting" sChM ["beads", "meeting"] fM fdM) (aE : At K mg "behind" sBeh ["beads", "meeting", "made"] fE fdE)
    (GB : FnOk P w K mg base (L2N.CX P w) 3 fB fdB ["beads"] (spChB K C1)) (GM : FnOk P w K mg base (L2N.CX P w) 4 fM fdM ["beads", "meeting"] (spChM K C2)) (GE : FnOk P w K mg base CX0 1 fE fdE ["beads", "meeting", "made"] (spBeh K)) :
    FnOk P w K mg base (L2N.CX P w) 5 f fd ["beads", "meeting"] (spMet K C1 C2 1) := by
  refine F.ok scJoin (fun vs H Q E h => ?_) (fun cdv A outer s H vs Q E hr h => ?_)
  · obtain ⟨x, y, rfl, _⟩ := h
    rfl
  · obtain ⟨x, y, rfl, h⟩ := h
    refine ⟨_, pss_cons (ps_expr (pe_call GB (hr.mono (by decide)) (by rfl) aB.g aB.F.kp aB.b .nil (L2N.passes_call (L2N.takes_of rfl rfl rfl rfl) (fun _ _ _ _ h => h)) (pa_cons (pv 0) pa_nil)))
      (pss_cons (ps_expr (pe_call GM hr (by rfl) aM.g aM.F.kp aM.b .nil (L2N.passes_call (L2N.takes_of rfl rfl rfl rfl) (fun _ _ _ _ h => h)) (pa_cons (pv 0) (pa_cons (pv 1) pa_nil))))
      (pss_one (ps_ret (pe_call GE (hr.mono (by decide)) (by rfl) aE.g aE.F.kp aE.b .nil pass0 (pa_cons (pv 0) (pa_cons (pv 1) (pa_cons pe_int pa_nil))))))), ?_⟩
    rcases h with ⟨hx, hE⟩ | ⟨p, a, b, c, rfl, hT, k3, hy, hE⟩ | ⟨p, q, a, b, c, l, h, rfl, rfl, hT, k3, hP, hM, hc, k⟩
    · exact ⟨x, rfl, x, false, rfl, hx, fun e => (nomatch e), fun _ => hE⟩
    · refine ⟨_, rfl, _, true, rfl, BX.of hT k3, fun _ => ?_, fun e => (nomatch e)⟩
      exact ⟨_, rfl, y, rfl, p, a, b, c, y, false, rfl, hT, k3, hy, fun e => (nomatch e), fun _ => hE⟩
    · refine ⟨_, rfl, _, true, rfl, BX.of hT k3, fun _ => ?_, fun e => (nomatch e)⟩
      refine ⟨_, rfl, _, rfl, p, a, b, c, _, true, rfl, hT, k3, .inr ⟨q, l, h, rfl, hP, hM, hc.symm⟩, fun _ => ?_, fun e => (nomatch e)⟩
      exact ⟨_, rfl, _, rfl, p, q, a, b, c, l, h, 1, rfl, hT, hP, k⟩
theorem ok_turn {fB fM fE C1 C2 : Addr} {fdB fdM fdE : FuncData} (F : FnP K "turned" sTurn f fd) (aB : At K mg "check_beads" sChB ["beads"] fB fdB) (aM : At K mg "check_meeting" sChM ["beads", "meeting"] fM fdM) (aE : At K mg "behind" sBeh ["beads", "meeting", "made"] fE fdE)
    (GB : FnOk P w K mg base (L2N.CX P w) 3 fB fdB ["beads"] (spChB K C1)) (GM : FnOk P w K mg base (L2N.CX P w) 4 fM fdM ["beads", "meeting"] (spChM K C2)) (GE : FnOk P w K mg base CX0 1 fE fdE ["beads", "meeting", "made"] (spBeh K)) :
    FnOk P w K mg base (L2N.CX P w) 5 f fd ["beads", "meeting"] (spMet K C1 C2 2) := by
  refine F.ok scTurn (fun vs H Q E h => ?_) (fun cdv A outer s H vs Q E hr h => ?_)
  · obtain ⟨x, y, rfl, _⟩ := h
    rfl
  · obtain ⟨x, y, rfl, h⟩ := h
    refine ⟨_, pss_cons (ps_expr (pe_call GB (hr.mono (by decide)) (by rfl) aB.g aB.F.kp aB.b .nil (L2N.passes_call (L2N.takes_of rfl rfl rfl rfl) (fun _ _ _ _ h => h)) (pa_cons (pv 0) pa_nil)))
      (pss_cons (ps_expr (pe_call GM hr (by rfl) aM.g aM.F.kp aM.b .nil (L2N.passes_call (L2N.takes_of rfl rfl rfl rfl) (fun _ _ _ _ h => h)) (pa_cons (pv 0) (pa_cons (pv 1) pa_nil))))
      (pss_one (ps_ret (pe_call GE (hr.mono (by decide)) (by rfl) aE.g aE.F.kp aE.b .nil pass0 (pa_cons (pv 0) (pa_cons (pv 1) (pa_cons pe_int pa_nil))))))), ?_⟩
    rcases h with ⟨hx, hE⟩ | ⟨p, a, b, c, rfl, hT, k3, hy, hE⟩ | ⟨p, q, a, b, c, l, h, rfl, rfl, hT, k3, hP, hM, hc, k⟩
    · exact ⟨x, rfl, x, false, rfl, hx, fun e => (nomatch e), fun _ => hE⟩
    · refine ⟨_, rfl, _, true, rfl, BX.of hT k3, fun _ => ?_, fun e => (nomatch e)⟩
      exact ⟨_, rfl, y, rfl, p, a, b, c, y, false, rfl, hT, k3, hy, fun e => (nomatch e), fun _ => hE⟩
    · refine ⟨_, rfl, _, true, rfl, BX.of hT k3, fun _ => ?_, fun e => (nomatch e)⟩
      refine ⟨_, rfl, _, rfl, p, a, b, c, _, true, rfl, hT, k3, .inr ⟨q, l, h, rfl, hP, hM, hc.symm⟩, fun _ => ?_, fun e => (nomatch e)⟩
      exact ⟨_, rfl, _, rfl, p, q, a, b, c, l, h, 2, rfl, hT, hP, k⟩
def spMs (K : PySem.W.Frag) (C1 : Addr) : Sp := fun vs H Q E => ∃ x : V, vs = [x] ∧ ((BX K H x false ∧ E (.ref C1) none H) ∨
  ∃ (p : Addr) (a b c : Int), x = .ref p ∧ Tr K H p a b c ∧ Ok3 a b c ∧ ∀ (H' : Hp) (L : Addr), Same H H' → H L = none → PairsAt H H' L (cans a b c) → Q (.ref L) H')
theorem ok_ms {fB C1 : Addr} {fdB : FuncData} {u : Value} (F : FnP K "meetings" sMeet f fd) (B : Bl mg) (kd : mg "KINDS" = some u) (ku : RelV (.int 3) u) (aB : At K mg "check_beads" sChB ["beads"] fB fdB)
    (GB : FnOk P w K mg base (L2N.CX P w) 3 fB fdB ["beads"] (spChB K C1)) :
    FnOk P w K mg base (L2N.CX P w) 4 f fd ["beads"] (spMs K C1) := by
  refine F.ok scMeet (fun vs H Q E h => ?_) (fun cdv A outer s H vs Q E hr h => ?_)
  · obtain ⟨x, rfl, _⟩ := h
    rfl
  · obtain ⟨x, rfl, h⟩ := h
    refine ⟨_, pss_cons (ps_expr (pe_call GB hr (by rfl) aB.g aB.F.kp aB.b .nil (L2N.passes_call (L2N.takes_of rfl rfl rfl rfl) (fun _ _ _ _ h => h)) (pa_cons (pv 0) pa_nil)))
      (pss_one (ps_ret (pe_lc2 (own := [("low", 1), ("high", 2)]) (vs1 := [2]) (g := gName 1) (tt := tYes) (wi1 := iRng2 (tCons (tOp (rI0 fun i j => .int (i + j)) (tVar 1) (tC (.int 1))) (tCons (tC (.int 3)) tNil))) (g1 := gName 2)
        (tt1 := tAnd (tTest (tOp (rI0 fun i j => .bl (decide (j < i))) (tOp (rIxT K) (tVar 0) (tVar 1)) (tC (.int 0)))) (tTest (tOp (rI0 fun i j => .bl (decide (j < i))) (tOp (rIxT K) (tVar 0) (tVar 2)) (tC (.int 0)))))
        (te := tTup (tCons (tVar 1) (tCons (tVar 2) tNil))) rfl scMeet.nd (pi_range1 (by rfl) B.range (pa_cons (pe_glob (by rfl) kd ku) pa_nil)) (blkOk_by (N := ["beads", "low", "high"]) (sc := defScope sMeet) (by decide +kernel)) (by decide)
        (fun _ _ _ _ _ => pg_name (i := 1) scMeet.nd rfl (.inl rfl)) (fun _ _ _ _ _ => pts_nil)
        (fun _ _ _ _ _ => pi_range2 (by rfl) B.range (pa_cons (pe_op op_add (pv 1) pe_int) (pa_cons (pe_glob (by rfl) kd ku) pa_nil)))
        (fun _ _ _ _ _ => pg_name (i := 2) scMeet.nd rfl (.inl rfl))
        (fun _ _ _ _ _ => pts_one (PW.pt (pw_and (pt_cmpR op_gt (pe_ix ix_tup (pv 0) (pv 1) (fun _ _ => rfl)) pe_int (nomark _)) (pw_and1 (pt_cmpR op_gt (pe_ix ix_tup (pv 0) (pv 2) (fun _ _ => rfl)) pe_int (nomark _))))))
        (fun _ _ _ _ _ => pe_tup (pa_cons (pv 1) (pa_cons (pv 2) pa_nil)))))), ?_⟩
    rcases h with ⟨hx, hE⟩ | ⟨p, a, b, c, rfl, hT, k3, k⟩
    · exact ⟨x, rfl, x, false, rfl, hx, fun e => (nomatch e), fun _ => hE⟩
    · refine ⟨_, rfl, _, true, rfl, BX.of hT k3, fun _ => ?_, fun e => (nomatch e)⟩
      refine ⟨3, rfl, by decide, by decide, fun D hD => ?_⟩
      refine ⟨fun i m H' => m = 3 - i ∧ i ≤ 3 ∧ Same H H' ∧ PairsAt H H' D ((allM.take (st3 i)).filter fun q => can a b c q.1 q.2), ⟨3, rfl, by omega, same_upd hD, [], upd_same, .nil⟩, ?_⟩
      rintro i m H1 ⟨rfl, hi, sm, hP⟩
      by_cases hlt : i < 3
      · refine .inr ⟨hlt, fun H' => Same H H' ∧ PairsAt H H' D ((allM.take (st3 (i + 1))).filter fun q => can a b c q.1 q.2), fun H' z => ⟨3 - (i + 1), by omega, rfl, hlt, z⟩, ?_⟩
        rintro x H2 ⟨rfl, rfl⟩
        refine ⟨rfl, ?_⟩
        dsimp only [tYes]
        refine iteT ?_
        refine ⟨_, rfl, _, _, rfl, rfl, _, 3, rfl, by omega, ?_⟩
        have en : (3 - (0 + (i : Int) + 1)).toNat = 2 - i := by omega
        rw [en]
        refine ⟨fun j m H' => m = 2 - i - j ∧ j ≤ 2 - i ∧ Same H H' ∧ PairsAt H H' D ((allM.take (st3 i + j)).filter fun q => can a b c q.1 q.2), ⟨2 - i, rfl, Nat.zero_le _, sm, hP⟩, ?_⟩
        rintro j m H3 ⟨rfl, hj, sm3, hP3⟩
        by_cases hjl : j < 2 - i
        · refine .inr ⟨hjl, fun H' => Same H H' ∧ PairsAt H H' D ((allM.take (st3 i + j + 1)).filter fun q => can a b c q.1 q.2), fun H' z => ⟨2 - i - (j + 1), by omega, rfl, hjl, z⟩, ?_⟩
          rintro x H4 ⟨rfl, rfl⟩
          refine ⟨rfl, ?_⟩
          have hTs : Tr K H4 p a b c := hT.same sm3
          have e1 : (0 : Int) + (i : Int) = (i : Int) := by omega
          have hat := allM_at hlt hjl
          have hstep := cans_step (a := a) (b := b) (c := c) hat
          have no : ¬ can a b c (i : Int) ((i : Int) + 1 + (j : Int)) = true → Same H H4 ∧ PairsAt H H4 D ((allM.take (st3 i + j + 1)).filter fun q => can a b c q.1 q.2) := fun z => by
            rw [hstep, if_neg z, List.append_nil]
            exact ⟨sm3, hP3⟩
          refine ⟨_, rfl, _, rfl, p, _, _, _, rfl, rfl, hTs, at3 (k := 0 + (i : Int)) (by omega) (by omega), _, _, rfl, rfl, _, rfl, ite2 (fun z => ?_) (fun z => ?_)⟩
          · have z' : 0 < g3 a b c (i : Int) := by rw [← e1]; exact of_decide_eq_true z
            refine ⟨_, rfl, _, rfl, p, _, _, _, rfl, rfl, hTs, at3 (k := 0 + (i : Int) + 1 + (j : Int)) (by omega) (by omega), _, _, rfl, rfl, _, rfl, ite2 (fun z2 => ?_) (fun z2 => ?_)⟩
            · have z2' : 0 < g3 a b c ((i : Int) + 1 + (j : Int)) := by
                have q := of_decide_eq_true z2
                rw [e1] at q
                exact q
              refine ⟨_, rfl, _, rfl, (by show 2 ≤ sizeLine; decide), fun r hr2 => ?_⟩
              obtain ⟨acc, h1, h2, h3⟩ := hP3.add (p := r) (l := 0 + (i : Int)) (h := 0 + (i : Int) + 1 + (j : Int)) hr2 sm3
              refine ⟨acc, h1, ?_, same_new (sm3.trans (same_upd hr2)) hD, ?_⟩
              · rw [h2]
                refine Nat.lt_of_le_of_lt (List.length_filter_le _ _) ?_
                rw [List.length_take]
                exact Nat.lt_of_le_of_lt (Nat.min_le_right _ _) (by decide)
              · rw [hstep, if_pos (can_iff.mpr ⟨z', z2'⟩)]
                have ep : ((0 + (i : Int), 0 + (i : Int) + 1 + (j : Int)) : Int × Int) = ((i : Int), (i : Int) + 1 + (j : Int)) := by rw [e1]
                rw [ep] at h3
                exact h3
            · refine no fun q => z2 ?_
              have q2 := (can_iff.mp q).2
              rw [← e1] at q2
              exact decide_eq_true q2
          · refine no fun q => z ?_
            have q2 := (can_iff.mp q).1
            rw [← e1] at q2
            exact decide_eq_true q2
        · have ej : j = 2 - i := by omega
          subst ej
          refine .inl ⟨Nat.le_refl _, sm3, ?_⟩
          rw [← st3_next hlt]
          exact hP3
      · have e : i = 3 := by omega
        subst e
        exact .inl ⟨Nat.le_refl _, k H1 D sm hD hP⟩
end

/-! ### kindmeets.joining -/
abbrev sLk : Stmt := topS 23
abbrev sFl : Stmt := topS 24
theorem scLk : FnScope ["beads", "kind"] ["beads"] (defScope sLk) := ⟨rfl, rfl, rfl, by decide +kernel, rfl, by decide +kernel, by decide +kernel⟩
theorem scFl : FnScope ["beads"] ["beads"] (defScope sFl) := ⟨rfl, rfl, rfl, by decide +kernel, rfl, by decide +kernel, by decide +kernel⟩
section
variable {P : Program} {w : World} {K : PySem.W.Frag} {mg : Str → Option Value} {base : Heap} {f : Addr} {fd : FuncData}
theorem ok_lk {fB fS C1 : Addr} {fdB fdS : FuncData} {u : Value} (F : FnP K "last_kinds" sLk f fd) (B : Bl mg) (kd : mg "KINDS" = some u) (ku : RelV (.int 3) u)
    (aB : At K mg "check_beads" sChB ["beads"] fB fdB) (GB : FnOk P w K mg base (L2N.CX P w) 3 fB fdB ["beads"] (spChB K C1))
    (aS : At K mg "meetings" sMeet ["beads"] fS fdS) (GS : FnOk P w K mg base (L2N.CX P w) 4 fS fdS ["beads"] (spMs K C1)) :
    FnOk P w K mg base (L2N.CX P w) 5 f fd ["beads"] (spLk K C1) := by
  refine F.ok scLk (fun vs H Q E h => ?_) (fun cdv A outer s H vs Q E hr h => ?_)
  · obtain ⟨x, rfl, _⟩ := h
    rfl
  · obtain ⟨x, rfl, h⟩ := h
    have r3 : Room 3 _ := hr.mono (by decide)
    have r4 : Room 4 _ := hr
    refine ⟨_, (pss_cons (ps_expr (pe_call GB r3 (by rfl) aB.g aB.F.kp aB.b .nil (L2N.passes_call (L2N.takes_of rfl rfl rfl rfl) (fun _ _ _ _ h => h)) (pa_cons (pv 0) pa_nil)))
      (pss_cons (ps_if (pt_not (pt_truth (pe_call GS r4 (by rfl) aS.g aS.F.kp aS.b .nil (L2N.passes_call (L2N.takes_of rfl rfl rfl rfl) (fun _ _ _ _ h => h)) (pa_cons (pv 0) pa_nil)) (by intro _; rfl))) (pss_one (ps_ret (pe_lc (own := [("kind", 1)]) (g := (gName 1)) (tt := (tTest (tOp (rI0 fun i j => .bl (decide (j < i))) (tOp (rIxT K) (tVar 0) (tVar 1)) (tC (.int 0))))) (te := (tVar 1)) rfl scLk.nd (pi_range1 (by rfl) B.range (pa_cons (pe_glob (by rfl) kd ku) pa_nil)) (blkOk_by (N := ["beads", "kind"]) (sc := defScope sLk) (by decide +kernel)) (fun _ _ _ _ _ => (pg_name (i := 1) scLk.nd rfl (.inl rfl))) (fun _ _ _ _ _ => pts_one (pt_cmpR op_gt (pe_ix ix_tup (pv 0) (pv 1) (fun _ _ => rfl)) pe_int (nomark _))) (fun _ _ _ _ _ => (pv 1))))) pss_nil)
      (pss_one (ps_ret (pe_lc (own := [("kind", 1)]) (g := (gName 1)) (tt := (tTest (tOp rEq (tOp (rI (fun _ j => 0 < j) fun i j => .int (i % j)) (tOp (rI0 fun i j => .int (i - j)) (tCB (rSumT K) (tCons (tVar 0) tNil)) (tOp (rIxT K) (tVar 0) (tVar 1))) (tC (.int 2))) (tC (.int 0))))) (te := (tVar 1)) rfl scLk.nd (pi_range1 (by rfl) B.range (pa_cons (pe_glob (by rfl) kd ku) pa_nil)) (blkOk_by (N := ["beads", "kind"]) (sc := defScope sLk) (by decide +kernel)) (fun _ _ _ _ _ => (pg_name (i := 1) scLk.nd rfl (.inl rfl))) (fun _ _ _ _ _ => pts_one (pt_cmpR op_eq (pe_op op_mod (pe_op op_sub (pe_callB (cr_sumT rfl) (by rfl) B.sum (by decide +kernel) (pa_cons (pv 0) pa_nil)) (pe_ix ix_tup (pv 0) (pv 1) (fun _ _ => rfl))) pe_int) pe_int (nomark _))) (fun _ _ _ _ _ => (pv 1))))))), ?_⟩
    rcases h with ⟨hx, hE⟩ | ⟨p, s0, rfl, hT, k3, k⟩
    · exact ⟨x, rfl, x, false, rfl, hx, fun e => (nomatch e), fun _ => hE⟩
    · refine ⟨_, rfl, _, true, rfl, BX.of hT k3, fun _ => ?_, fun e => (nomatch e)⟩
      obtain ⟨hnn, hpos⟩ := ok3_Nn k3
      refine ⟨_, rfl, _, rfl, .inr ⟨p, s0.1, s0.2.1, s0.2.2, rfl, hT, k3, fun H1 L s1 hL0 hPA => ?_⟩⟩
      obtain ⟨rs, hL, hp⟩ := id hPA
      refine ⟨_, .inl ⟨_, .inl (.inl hL), rfl⟩, ?_⟩
      have en := no_cans hnn hp
      refine ite2 (fun z => ?_) (fun z => ?_)
      · have ha : Alone s0 := of_decide_eq_true (en.symm.trans z)
        refine ⟨3, rfl, by decide, by decide, fun D hD => ?_⟩
        refine lc_range (lo := 0) (n := 3) (fun i H' => Same H1 H' ∧ H' D = some (.lst (((([0, 1, 2] : List Int).take i).filter fun k => decide (0 < g3 s0.1 s0.2.1 s0.2.2 k)).map V.int))) ⟨same_upd hD, upd_same⟩ ?_ ?_
        · rintro i H2 hi ⟨s2, hD2⟩
          obtain ⟨kk, ek, hk, k0, k3'⟩ := kind_turn hi
          have hst := filter_step (fun k => decide (0 < g3 s0.1 s0.2.1 s0.2.2 k)) hk
          rw [ek]
          refine ⟨rfl, ?_⟩
          refine ⟨_, rfl, _, rfl, p, _, _, _, rfl, rfl, hT.same (s1.trans s2), at3 k0 k3', _, _, rfl, rfl, _, rfl, ite2 (fun z => ?_) (fun z => ?_)⟩
          · refine ⟨_, rfl, _, hD2, ?_, same_new s2 hD, ?_⟩
            · rw [List.length_map]
              refine Nat.lt_of_le_of_lt (List.length_filter_le _ _) ?_
              rw [List.length_take]
              exact Nat.lt_of_le_of_lt (Nat.min_le_right _ _) (by decide)
            · rw [upd_same, hst, if_pos z, List.map_append]
              rfl
          · refine ⟨s2, ?_⟩
            rw [hst, if_neg z, List.append_nil]
            exact hD2
        · rintro H2 ⟨s2, hD2⟩
          refine k H2 D (s1.trans s2) (s1.free hD) ?_
          rw [lastL_alone ha]
          exact hD2
      · have ha : ¬ Alone s0 := fun q => z (en.trans (decide_eq_true q))
        refine ⟨3, rfl, by decide, by decide, fun D hD => ?_⟩
        refine lc_range (lo := 0) (n := 3) (fun i H' => Same H1 H' ∧ H' D = some (.lst (((([0, 1, 2] : List Int).take i).filter fun k => lastB s0 k).map V.int))) ⟨same_upd hD, upd_same⟩ ?_ ?_
        · rintro i H2 hi ⟨s2, hD2⟩
          obtain ⟨kk, ek, hk, k0, k3'⟩ := kind_turn hi
          have hst := filter_step (fun k => lastB s0 k) hk
          have hv := last_par ha k0 k3'
          rw [ek]
          refine ⟨rfl, ?_⟩
          refine ⟨_, rfl, p, [s0.1, s0.2.1, s0.2.2], rfl, hT.same (s1.trans s2), _, rfl, _, rfl, p, _, _, _, rfl, rfl, hT.same (s1.trans s2), at3 k0 k3', _, _, rfl, rfl, _, _, rfl, rfl, (by show (0 : Int) < 2; decide), rfl, _, rfl, ite2 (fun z => ?_) (fun z => ?_)⟩
          · refine ⟨_, rfl, _, hD2, ?_, same_new s2 hD, ?_⟩
            · rw [List.length_map]
              refine Nat.lt_of_le_of_lt (List.length_filter_le _ _) ?_
              rw [List.length_take]
              exact Nat.lt_of_le_of_lt (Nat.min_le_right _ _) (by decide)
            · rw [upd_same, hst, if_pos (hv.symm.trans z), List.map_append]
              rfl
          · refine ⟨s2, ?_⟩
            rw [hst, if_neg (fun q => z (hv.trans q)), List.append_nil]
            exact hD2
        · rintro H2 ⟨s2, hD2⟩
          exact k H2 D (s1.trans s2) (s1.free hD) hD2
theorem ok_fl {fB fS fL C1 : Addr} {fdB fdS fdL : FuncData} (F : FnP K "fewest_left" sFl f fd) (B : Bl mg)
    (aB : At K mg "check_beads" sChB ["beads"] fB fdB) (GB : FnOk P w K mg base (L2N.CX P w) 3 fB fdB ["beads"] (spChB K C1))
    (aS : At K mg "meetings" sMeet ["beads"] fS fdS) (GS : FnOk P w K mg base (L2N.CX P w) 4 fS fdS ["beads"] (spMs K C1))
    (aL : At K mg "last_kinds" sLk ["beads"] fL fdL) (GL : FnOk P w K mg base (L2N.CX P w) 5 fL fdL ["beads"] (spLk K C1)) :
    FnOk P w K mg base (L2N.CX P w) 6 f fd ["beads"] (spFl K C1) := by
  refine F.ok scFl (fun vs H Q E h => ?_) (fun cdv A outer s H vs Q E hr h => ?_)
  · obtain ⟨x, rfl, _⟩ := h
    rfl
  · obtain ⟨x, rfl, h⟩ := h
    have r3 : Room 3 _ := hr.mono (by decide)
    have r4 : Room 4 _ := hr.mono (by decide)
    have r5 : Room 5 _ := hr
    refine ⟨_, (pss_cons (ps_expr (pe_call GB r3 (by rfl) aB.g aB.F.kp aB.b .nil (L2N.passes_call (L2N.takes_of rfl rfl rfl rfl) (fun _ _ _ _ h => h)) (pa_cons (pv 0) pa_nil)))
      (pss_cons (ps_if (pt_not (pt_truth (pe_call GS r4 (by rfl) aS.g aS.F.kp aS.b .nil (L2N.passes_call (L2N.takes_of rfl rfl rfl rfl) (fun _ _ _ _ h => h)) (pa_cons (pv 0) pa_nil)) (by intro _; rfl))) (pss_one (ps_ret (pe_callB (cr_sumT rfl) (by rfl) B.sum (by decide +kernel) (pa_cons (pv 0) pa_nil)))) pss_nil)
      (pss_cons (ps_if (pt_cmpR op_eq (pe_callB call_len_seq (by rfl) B.len PySem.boot_len (pa_cons (pe_call GL r5 (by rfl) aL.g aL.F.kp aL.b .nil (L2N.passes_call (L2N.takes_of rfl rfl rfl rfl) (fun _ _ _ _ h => h)) (pa_cons (pv 0) pa_nil)) pa_nil)) pe_int (nomark _)) (pss_one (ps_ret pe_int)) pss_nil)
      (pss_one (ps_ret pe_int))))), ?_⟩
    rcases h with ⟨hx, hE⟩ | ⟨p, s0, rfl, hT, k3, k⟩
    · exact ⟨x, rfl, x, false, rfl, hx, fun e => (nomatch e), fun _ => hE⟩
    · refine ⟨_, rfl, _, true, rfl, BX.of hT k3, fun _ => ?_, fun e => (nomatch e)⟩
      obtain ⟨hnn, hpos⟩ := ok3_Nn k3
      refine ⟨_, rfl, _, rfl, .inr ⟨p, s0.1, s0.2.1, s0.2.2, rfl, hT, k3, fun H1 L s1 hL0 hPA => ?_⟩⟩
      obtain ⟨rs, hL, hp⟩ := id hPA
      refine ⟨_, .inl ⟨_, .inl (.inl hL), rfl⟩, ?_⟩
      have en := no_cans hnn hp
      refine ite2 (fun z => ?_) (fun z => ?_)
      · have ha : Alone s0 := of_decide_eq_true (en.symm.trans z)
        refine ⟨_, rfl, p, [s0.1, s0.2.1, s0.2.2], rfl, hT.same s1, ?_⟩
        have e : [s0.1, s0.2.1, s0.2.2].sum = fewest s0 := by
          rw [sum3_list]
          unfold fewest
          rw [if_pos ha]
        rw [e]
        exact k H1 s1
      · have ha : ¬ Alone s0 := fun q => z (en.trans (decide_eq_true q))
        refine ⟨_, rfl, _, rfl, .inr ⟨p, s0, rfl, hT.same s1, k3, fun H2 M s2 hM0 hM => ?_⟩⟩
        have ef := few_one ha
        refine ⟨M, _, rfl, .inl (.inl (.inl hM)), rfl, _, rfl, ite2 (fun z => ?_) (fun z => ?_)⟩
        · have z2 : (((lastL s0).length : Nat) : Int) = 1 := by
            have z3 := V.int.inj (of_decide_eq_true z)
            rw [List.length_map] at z3
            exact z3
          rw [if_pos z2] at ef
          have q := k H2 (s1.trans s2)
          rw [ef] at q
          exact q
        · have z2 : ¬ (((lastL s0).length : Nat) : Int) = 1 := fun e => z (decide_eq_true (by rw [List.length_map]; exact congrArg V.int e))
          rw [if_neg z2] at ef
          have q := k H2 (s1.trans s2)
          rw [ef] at q
          exact q
end

/-! ### kindmeets.limit, to_fewest -/
abbrev sCf : Stmt := topS 21
theorem scCf : FnScope ["beads"] ["beads"] (defScope sCf) := ⟨rfl, rfl, rfl, by decide +kernel, rfl, by decide +kernel, by decide +kernel⟩
section
variable {P : Program} {w : World} {K : PySem.W.Frag} {mg : Str → Option Value} {base : Heap} {f : Addr} {fd : FuncData}
def spCf (K : PySem.W.Frag) (C : Addr) : Sp := fun vs H Q E => ∃ (p : Addr) (s : T3), vs = [.ref p] ∧ Tr K H p s.1 s.2.1 s.2.2 ∧ (300 < sm s → E (.ref C) none H) ∧ (sm s ≤ 300 → Q .non H)
theorem ok_few {C : Addr} {u : Value} (F : FnP K "check_few" sCf f fd) (B : Bl mg) (km : mg "MOST" = some u) (kmu : RelV (.int 300) u) (eT : Ex K mg "TooMany" C) :
    FnOk P w K mg base (L2N.CX P w) 1 f fd ["beads"] (spCf K C) := by
  refine F.ok scCf (fun vs H Q E h => ?_) (fun cdv A outer s H vs Q E hr h => ?_)
  · obtain ⟨p, s0, rfl, _⟩ := h
    rfl
  · obtain ⟨p, s0, rfl, hT, q1, q2⟩ := h
    refine ⟨_, (pss_one (ps_if (pt_cmpR op_gt (pe_callB (cr_sumT rfl) (by rfl) B.sum (by decide +kernel) (pa_cons (pv 0) pa_nil)) (pe_glob (by rfl) km kmu) (nomark _)) (pss_one (L2N.ps_raise rfl (L2N.takes_of rfl rfl rfl rfl) (L2N.pmk_own PySem.F.excBase_ValueError eT.x eT.g eT.k (raises_own eT.b eT.t) (by rfl)))) pss_nil)), ?_⟩
    refine ⟨_, rfl, p, [s0.1, s0.2.1, s0.2.2], rfl, hT, _, _, rfl, rfl, _, rfl, ?_⟩
    rw [sum3_list]
    refine ite2 (fun z => ?_) (fun z => ?_)
    · exact q1 (of_decide_eq_true z)
    · refine q2 ?_
      by_cases h : 300 < sm s0
      · exact absurd (decide_eq_true h) z
      · omega
end
abbrev sMo : Stmt := topS 26
abbrev sTf : Stmt := topS 25
theorem scMo : FnScope ["beads", "least", "low", "high", "kind"] ["beads"] (defScope sMo) := ⟨rfl, rfl, rfl, by decide +kernel, rfl, by decide +kernel, by decide +kernel⟩
theorem scTf : FnScope ["beads", "told", "left", "meeting"] ["beads"] (defScope sTf) := ⟨rfl, rfl, rfl, by decide +kernel, rfl, by decide +kernel, by decide +kernel⟩
section
variable {P : Program} {w : World} {K : PySem.W.Frag} {mg : Str → Option Value} {base : Heap} {f : Addr} {fd : FuncData}
def spMo (K : PySem.W.Frag) : Sp := fun vs H Q _ => ∃ (p : Addr) (s : T3), vs = [.ref p] ∧ TupF H p (tV s) ∧ ∀ (H' : Hp) (r : Addr), Same H H' → H r = none → H' r = some (.tup [.int (most s).1, .int (most s).2]) → Q (.ref r) H'
theorem ok_mo {u : Value} (F : FnP K "of_the_most" sMo f fd) (B : Bl mg) (kd : mg "KINDS" = some u) (ku : RelV (.int 3) u) : FnOk P w K mg base CX0 1 f fd ["beads"] (spMo K) := by
  refine F.ok scMo (fun vs H Q E h => ?_) (fun cdv A outer s H vs Q E hr h => ?_)
  · obtain ⟨p, s0, rfl, _⟩ := h
    rfl
  · obtain ⟨p, s0, rfl, hp, k⟩ := h
    refine ⟨_, PSs.nox (pss_cons (ps_set (i := 1) scMo.nd rfl (.inr rfl) (pe_bmT PySem.F.slot_tuple_index PySem.F.type_tuple_index mt_tup_indexI (pv 0) (pa_cons (pe_callB (cr_minT rfl) (by rfl) B.min (by decide +kernel) (pa_cons (pv 0) pa_nil)) pa_nil)))
      (pss_cons (ps_asg (pe_lc (own := [("kind", 4)]) (g := (gName 4)) (tt := (tTest (tOp rNe (tVar 4) (tVar 1)))) (te := (tVar 4)) rfl scMo.nd (pi_range1 (by rfl) B.range (pa_cons (pe_glob (by rfl) kd ku) pa_nil)) (blkOk_by (N := ["beads", "least", "low", "high", "kind"]) (sc := defScope sMo) (by decide +kernel)) (fun _ _ _ _ _ => (pg_name (i := 4) scMo.nd rfl (.inl rfl))) (fun _ _ _ _ _ => pts_one (pt_cmpR op_ne (pv 4) (pv 1) (nomark _))) (fun _ _ _ _ _ => (pv 4))) (pg_lst (by rfl) (pgs_cons (pg_name (i := 2) scMo.nd rfl (.inl rfl)) (pgs_cons (pg_name (i := 3) scMo.nd rfl (.inl rfl)) pgs_nil))))
      (pss_one (ps_ret (pe_tup (pa_cons (pv 2) (pa_cons (pv 3) pa_nil))))))), ?_⟩
    have hT : SqT K H p ([s0.1, s0.2.1, s0.2.2].map V.int) := hp.sq
    refine ⟨_, rfl, ⟨p, _, rfl, hp⟩, _, rfl, p, [s0.1, s0.2.1, s0.2.2], rfl, hT, (by show 0 < 3; decide), fun m h1 h2 => ⟨p, [s0.1, s0.2.1, s0.2.2], m, rfl, rfl, hT, h1, ?_⟩⟩
    rw [least_idx h1 h2]
    refine ⟨3, rfl, by decide, by decide, fun D hD => ?_⟩
    refine lc_range (lo := 0) (n := 3) (fun i H' => Same H H' ∧ H' D = some (.lst (((([0, 1, 2] : List Int).take i).filter fun k => decide (k ≠ least3 s0)).map V.int))) ⟨same_upd hD, upd_same⟩ ?_ ?_
    · rintro i H2 hi ⟨s2, hD2⟩
      obtain ⟨kk, ek, hk, k0, k3'⟩ := kind_turn hi
      have hst := filter_step (fun k => decide (k ≠ least3 s0)) hk
      rw [ek]
      refine ⟨rfl, ?_⟩
      refine ⟨_, rfl, _, rfl, rfl, _, rfl, ite2 (fun z => ?_) (fun z => ?_)⟩
      · have z2 : decide (kk ≠ least3 s0) = true := decide_eq_true fun e => by
          rw [e] at z
          simp at z
        refine ⟨_, rfl, _, hD2, ?_, same_new s2 hD, ?_⟩
        · rw [List.length_map]
          refine Nat.lt_of_le_of_lt (List.length_filter_le _ _) ?_
          rw [List.length_take]
          exact Nat.lt_of_le_of_lt (Nat.min_le_right _ _) (by decide)
        · rw [upd_same, hst, if_pos z2, List.map_append]
          rfl
      · refine ⟨s2, ?_⟩
        have z2 : ¬ decide (kk ≠ least3 s0) = true := fun e => z (by
          have e2 := of_decide_eq_true e
          simp only [Bool.not_eq_true', decide_eq_false_iff_not]
          exact fun q => e2 (V.int.inj q))
        rw [hst, if_neg z2, List.append_nil]
        exact hD2
    · rintro H2 ⟨s2, hD2⟩
      have hD2 : H2 D = some (.lst ((([0, 1, 2] : List Int).filter fun k => decide (k ≠ least3 s0)).map V.int)) := hD2
      rw [most_list] at hD2
      refine ⟨D, _, rfl, SqL.of hD2, rfl, _, _, rfl, _, _, rfl, rfl, ?_⟩
      refine ⟨_, rfl, _, rfl, (by show 2 ≤ sizeLine; decide), fun r hr2 => ?_⟩
      exact k _ r (s2.trans (same_upd hr2)) (s2.free hr2) upd_same
theorem ok_tf {fB fF fS fM fJ C1 C2 C3 : Addr} {fdB fdF fdS fdM fdJ : FuncData} {u : Value} (F : FnP K "to_fewest" sTf f fd) (B : Bl mg) (kd : mg "KINDS" = some u) (ku : RelV (.int 3) u)
    (aB : At K mg "check_beads" sChB ["beads"] fB fdB) (GB : FnOk P w K mg base (L2N.CX P w) 3 fB fdB ["beads"] (spChB K C1))
    (aF : At K mg "check_few" sCf ["beads"] fF fdF) (GF : FnOk P w K mg base (L2N.CX P w) 1 fF fdF ["beads"] (spCf K C3))
    (aS : At K mg "meetings" sMeet ["beads"] fS fdS) (GS : FnOk P w K mg base (L2N.CX P w) 4 fS fdS ["beads"] (spMs K C1))
    (aM : At K mg "of_the_most" sMo ["beads"] fM fdM)
    (aJ : At K mg "joined" sJoin ["beads", "meeting"] fJ fdJ) (GJ : FnOk P w K mg base (L2N.CX P w) 5 fJ fdJ ["beads", "meeting"] (spMet K C1 C2 1)) :
    FnOk P w K mg base (L2N.CX P w) 6 f fd ["beads"] (spTf K C1 C3) := by
  have GM : FnOk P w K mg base CX0 1 fM fdM ["beads"] (spMo K) := ok_mo aM.F B kd ku
  refine F.ok scTf (fun vs H Q E h => ?_) (fun cdv A outer s H vs Q E hr h => ?_)
  · obtain ⟨x, rfl, _⟩ := h
    rfl
  · obtain ⟨x, rfl, h⟩ := h
    have r1 : Room 1 _ := hr.mono (by decide)
    have r3 : Room 3 _ := hr.mono (by decide)
    have r4 : Room 4 _ := hr.mono (by decide)
    have r5 : Room 5 _ := hr
    refine ⟨_, (pss_cons (ps_expr (pe_call GB r3 (by rfl) aB.g aB.F.kp aB.b .nil (L2N.passes_call (L2N.takes_of rfl rfl rfl rfl) (fun _ _ _ _ h => h)) (pa_cons (pv 0) pa_nil)))
      (pss_cons (ps_expr (pe_call GF r1 (by rfl) aF.g aF.F.kp aF.b .nil (L2N.passes_call (L2N.takes_of rfl rfl rfl rfl) (fun _ _ _ _ h => h)) (pa_cons (pv 0) pa_nil)))
      (pss_cons (ps_set (i := 1) scTf.nd rfl (.inl rfl) (pe_lst pa_nil))
      (pss_cons (ps_set (i := 2) scTf.nd rfl (.inl rfl) (pv 0))
      (pss_cons (ps_while (passes_of rfl) (pt_truth (pe_call GS r4 (by rfl) aS.g aS.F.kp aS.b .nil (L2N.passes_call (L2N.takes_of rfl rfl rfl rfl) (fun _ _ _ _ h => h)) (pa_cons (pv 2) pa_nil)) (by intro _; rfl)) (pss_cons (ps_set (i := 3) scTf.nd rfl (.inl rfl) (pe_call GM r1 (by rfl) aM.g aM.F.kp aM.b .nil pass0 (pa_cons (pv 2) pa_nil)))
      (pss_cons (ps_expr (pe_bm PySem.F.plainAttrs_list PySem.F.slot_list_append PySem.F.type_list_append mt_append (pv 1) (pa_cons (pv 3) pa_nil)))
      (pss_one (ps_set (i := 2) scTf.nd rfl (.inl rfl) (pe_call GJ r5 (by rfl) aJ.g aJ.F.kp aJ.b .nil (L2N.passes_call (L2N.takes_of rfl rfl rfl rfl) (fun _ _ _ _ h => h)) (pa_cons (pv 2) (pa_cons (pv 3) pa_nil))))))))
      (pss_one (ps_ret (pv 1)))))))), ?_⟩
    rcases h with ⟨hx, hE⟩ | ⟨p, s0, rfl, hT, k3, h⟩
    · exact ⟨x, rfl, x, false, rfl, hx, fun e => (nomatch e), fun _ => hE⟩
    · refine ⟨_, rfl, _, true, rfl, BX.of hT k3, fun _ => ?_, fun e => (nomatch e)⟩
      rcases h with ⟨h300, hE⟩ | ⟨h300, hp, k⟩
      · exact ⟨_, rfl, p, s0, rfl, hT, fun _ => hE, fun z => absurd h300 (by omega)⟩
      · refine ⟨_, rfl, p, s0, rfl, hT, fun z => absurd h300 (by omega), fun _ => ?_⟩
        obtain ⟨hnn0, hpos0⟩ := ok3_Nn k3
        refine ⟨Nat.zero_le _, fun L hL => ⟨_, rfl, ?_⟩⟩
        refine ⟨fun μ σ H' => ∃ (t : T3) (ms : List (Int × Int)) (q : Addr) (v3 : Option V), σ = [some (.ref p), some (.ref L), some (.ref q), v3] ∧ Same H H' ∧ TupF H' q (tV t) ∧ PairsAt H H' L ms ∧ Goes 1 s0 ms ∧ run 1 s0 ms = t ∧ fewest t = fewest s0 ∧ Ok3 t.1 t.2.1 t.2.2 ∧ μ = (sm t).toNat,
          ⟨_, s0, [], p, _, rfl, same_upd hL, hp.same (same_upd hL), ⟨[], upd_same, .nil⟩, Goes.nil, rfl, rfl, k3, rfl⟩, ?_⟩
        rintro μ σ H1 ⟨t, ms, q, v3, rfl, s1, hq, hP, hg, hrun, hfew, hk3, rfl⟩
        obtain ⟨hnn, hpos⟩ := ok3_Nn hk3
        refine ⟨_, rfl, _, rfl, .inr ⟨q, t.1, t.2.1, t.2.2, rfl, hq.sq, hk3, fun H2 W s2 hW0 hPW => ?_⟩⟩
        obtain ⟨rs, hW, hWp⟩ := id hPW
        refine ⟨_, .inl ⟨_, .inl (.inl hW), rfl⟩, ?_⟩
        have en := no_cans hnn hWp
        rw [Bool.not_not] at en
        rw [en]
        have hlen : sm t + (ms.length : Int) = sm s0 := by
          have := (join_keeps hnn0 hg.full).2.1
          rw [hrun] at this
          exact this
        refine ite2 (fun z => ?_) (fun z => ?_)
        · have ha : ¬ Alone t := by
            intro q
            rw [decide_eq_true q] at z
            cases z
          obtain ⟨hM, hc, hf⟩ := most_step hnn ha
          refine ⟨_, fun _ _ z => z, ?_⟩
          refine ⟨_, rfl, q, t, rfl, hq.same s2, fun H3 r s3 hr0 hr3 => ?_⟩
          have s13 : Same H1 H3 := s2.trans s3
          have nr : H r = none := s1.free (s2.free hr0)
          have hP3 := hP.same s13
          obtain ⟨acc, hL3, hacc, hP4⟩ := hP3.app nr hr3
          refine ⟨_, rfl, .inl ⟨rfl, _, .inl (.inl hL3)⟩, _, rfl, L, _, _, rfl, rfl, hL3, ?_, ?_⟩
          · rw [hacc]
            refine Nat.lt_of_le_of_lt (m := 300) ?_ (by decide)
            omega
          have sH4 : Same H (upd H3 L (.lst (acc ++ [.ref r]))) := same_new (s1.trans s13) hL
          have hq4 : TupF (upd H3 L (.lst (acc ++ [.ref r]))) q (tV t) := (hq.same s13).upd hL3
          have hr4 : (upd H3 L (.lst (acc ++ [.ref r]))) r = some (.tup [.int (most t).1, .int (most t).2]) := by
            rw [upd_ne (ne_of hr3 hL3 (fun e => by cases e))]
            exact hr3
          generalize upd H3 L (.lst (acc ++ [.ref r])) = H4 at sH4 hq4 hr4 hP4
          refine ⟨_, rfl, _, rfl, _, _, rfl, .inr (.inr ⟨q, r, t.1, t.2.1, t.2.2, (most t).1, (most t).2, rfl, rfl, hq4.sq, hk3, .inl (.inl hr4), hM, hc, fun H5 q' s5 hq0 hq' => ?_⟩)⟩
          have hq' : TupF H5 q' (tV (mt3 t (most t).1 (most t).2 1)) := hq'
          refine ⟨_, ?_, mt3 t (most t).1 (most t).2 1, ms ++ [((most t).1, (most t).2)], q', _, rfl, sH4.trans s5, hq', hP4.same s5, hg.snoc hM (by rw [hrun]; exact hc), by rw [run_snoc, hrun], hf.trans hfew, join_ok3 hM hc hk3, rfl⟩
          have := (join_keeps hnn (Path.snoc .nil hM hc)).2.1
          omega
        · have ha : Alone t := by
            by_cases q : Alone t
            · exact q
            · exact absurd (by rw [decide_eq_false q]; rfl) z
          refine ⟨_, rfl, k H2 L ms (s1.trans s2) hL (hP.same s2).pt ⟨hg, by rw [hrun]; exact ha, ?_⟩⟩
          rw [hrun, ← hfew]
          unfold fewest
          rw [if_pos ha]
end

/-! ### kindmeets.answers, kindmeets.turning -/
abbrev sFt : Stmt := topS 31
abbrev sSb : Stmt := inClass (topS 29) 0
abbrev sIn : Stmt := inClass (topS 30) 0
abbrev sSa_ : Stmt := inClass (topS 30) 1
theorem scFt : FnScope ["beads", "kind", "low", "high", "other"] ["beads", "kind"] (defScope sFt) := ⟨rfl, rfl, rfl, by decide +kernel, rfl, by decide +kernel, by decide +kernel⟩
theorem scIn : FnScope ["self", "steps"] ["self", "steps"] (defScope sIn) := ⟨rfl, rfl, rfl, by decide +kernel, rfl, by decide +kernel, by decide +kernel⟩
section
variable {P : Program} {w : World} {K : PySem.W.Frag} {mg : Str → Option Value} {base : Heap} {f : Addr} {fd : FuncData}
def spFt (K : PySem.W.Frag) : Sp := fun vs H Q _ => ∃ (p : Addr) (s : T3) (k : Int), vs = [.ref p, .int k] ∧ Tr K H p s.1 s.2.1 s.2.2 ∧ Ok3 s.1 s.2.1 s.2.2 ∧ 0 ≤ k ∧ k < 3 ∧ ∀ H', Same H H' → Q (oV (stepsT s k)) H'
theorem ok_ft {u : Value} (F : FnP K "fewest_turnings" sFt f fd) (B : Bl mg) (kd : mg "KINDS" = some u) (ku : RelV (.int 3) u) : FnOk P w K mg base CX0 1 f fd ["beads", "kind"] (spFt K) := by
  refine F.ok scFt (fun vs H Q E h => ?_) (fun cdv A outer s H vs Q E hr h => ?_)
  · obtain ⟨p, s0, k, rfl, _⟩ := h
    rfl
  · obtain ⟨p, s0, kn, rfl, hT, hk3, k0, k3, k⟩ := h
    refine ⟨_, PSs.nox (pss_cons (ps_asg (pe_lc (own := [("other", 4)]) (g := (gName 4)) (tt := (tTest (tOp rNe (tVar 4) (tVar 1)))) (te := (tOp (rIxT K) (tVar 0) (tVar 4))) rfl scFt.nd (pi_range1 (by rfl) B.range (pa_cons (pe_glob (by rfl) kd ku) pa_nil)) (blkOk_by (N := ["beads", "kind", "low", "high", "other"]) (sc := defScope sFt) (by decide +kernel)) (fun _ _ _ _ _ => (pg_name (i := 4) scFt.nd rfl (.inl rfl))) (fun _ _ _ _ _ => pts_one (pt_cmpR op_ne (pv 4) (pv 1) (nomark _))) (fun _ _ _ _ _ => (pe_ix ix_tup (pv 0) (pv 4) (fun _ _ => rfl)))) (pg_lst (by rfl) (pgs_cons (pg_name (i := 2) scFt.nd rfl (.inl rfl)) (pgs_cons (pg_name (i := 3) scFt.nd rfl (.inl rfl)) pgs_nil))))
      (pss_cons (ps_if (PW.pt (pw_and (pt_cmpR op_eq (pe_ix ix_tup (pv 0) (pv 1) (fun _ _ => rfl)) pe_int (nomark _)) (pw_and1 (pt_cmpR op_eq (pe_callB (call_min2 rfl) (by rfl) B.min (by decide +kernel) (pa_cons (pv 2) (pa_cons (pv 3) pa_nil))) pe_int (nomark _))))) (pss_one (ps_ret pe_non)) pss_nil)
      (pss_cons (ps_if (pt_cmpR op_ne (pe_op op_mod (pe_op op_sub (pv 2) (pv 3)) pe_int) pe_int (nomark _)) (pss_one (ps_ret pe_non)) pss_nil)
      (pss_one (ps_ret (pe_callB (call_max2 rfl) (by rfl) B.max (by decide +kernel) (pa_cons (pv 2) (pa_cons (pv 3) pa_nil)))))))), ?_⟩
    obtain ⟨hnn, hpos⟩ := ok3_Nn hk3
    obtain ⟨c1, c2, c3⟩ := ft_cases hnn hpos k0 k3
    refine ⟨3, rfl, by decide, by decide, fun D hD => ?_⟩
    refine lc_range (lo := 0) (n := 3) (fun i H' => Same H H' ∧ H' D = some (.lst ((((([0, 1, 2] : List Int).take i).filter fun o => decide (o ≠ kn)).map fun o => g3 s0.1 s0.2.1 s0.2.2 o).map V.int))) ⟨same_upd hD, upd_same⟩ ?_ ?_
    · rintro i H2 hi ⟨s2, hD2⟩
      obtain ⟨kk, ek, hk, j0, j3⟩ := kind_turn hi
      have hst := filter_step (fun o => decide (o ≠ kn)) hk
      rw [ek]
      refine ⟨rfl, ?_⟩
      refine ⟨_, rfl, _, rfl, rfl, _, rfl, ite2 (fun z => ?_) (fun z => ?_)⟩
      · have z2 : decide (kk ≠ kn) = true := decide_eq_true fun e => by
          rw [e] at z
          simp at z
        refine ⟨_, rfl, _, rfl, p, _, _, _, rfl, rfl, tup_same s2 hT, at3 j0 j3, _, hD2, ?_, same_new s2 hD, ?_⟩
        · rw [List.length_map, List.length_map]
          refine Nat.lt_of_le_of_lt (List.length_filter_le _ _) ?_
          rw [List.length_take]
          exact Nat.lt_of_le_of_lt (Nat.min_le_right _ _) (by decide)
        · rw [upd_same, hst, if_pos z2, List.map_append, List.map_append]
          rfl
      · refine ⟨s2, ?_⟩
        have z2 : ¬ decide (kk ≠ kn) = true := fun e => z (by
          have e2 := of_decide_eq_true e
          simp only [Bool.not_eq_true', decide_eq_false_iff_not]
          exact fun q => e2 (V.int.inj q))
        rw [hst, if_neg z2, List.append_nil]
        exact hD2
    · rintro H2 ⟨s2, hD2⟩
      have hD2 : H2 D = some (.lst (((([0, 1, 2] : List Int).filter fun o => decide (o ≠ kn)).map fun o => g3 s0.1 s0.2.1 s0.2.2 o).map V.int)) := hD2
      rw [oth_list k0 k3] at hD2
      have hT2 : Tr K H2 p s0.1 s0.2.1 s0.2.2 := tup_same s2 hT
      refine ⟨D, _, rfl, SqL.of hD2, rfl, _, _, rfl, _, _, rfl, rfl, ?_⟩
      refine ⟨_, rfl, _, rfl, p, _, _, _, rfl, rfl, hT2, at3 k0 k3, rfl, _, rfl, ?_⟩
      have rest : ¬ (g3 s0.1 s0.2.1 s0.2.2 kn = 0 ∧ (if (oth s0 kn).2 < (oth s0 kn).1 then (oth s0 kn).2 else (oth s0 kn).1) = 0) →
          (if (!decide (V.int (((oth s0 kn).1 - (oth s0 kn).2) % 3) = V.int 0)) = true then Q .non H2 else Q (.int (if (oth s0 kn).2 > (oth s0 kn).1 then (oth s0 kn).2 else (oth s0 kn).1)) H2) := fun hz => by
        by_cases e : ((oth s0 kn).1 - (oth s0 kn).2) % 3 = 0
        · rw [e, show decide (V.int 0 = V.int 0) = true from decide_eq_true rfl]
          refine iteF ?_
          have q := k H2 s2
          rw [c3 hz e] at q
          exact q
        · rw [show decide (V.int (((oth s0 kn).1 - (oth s0 kn).2) % 3) = V.int 0) = false from decide_eq_false fun q => e (V.int.inj q)]
          refine iteT ?_
          have q := k H2 s2
          rw [c2 hz e] at q
          exact q
      refine ite2 (fun z => ?_) (fun z => ?_)
      · have z1 : g3 s0.1 s0.2.1 s0.2.2 kn = 0 := V.int.inj (of_decide_eq_true z)
        refine ⟨_, rfl, _, rfl, _, _, rfl, rfl, _, rfl, ite2 (fun y => ?_) (fun y => ?_)⟩
        · have y1 := V.int.inj (of_decide_eq_true y)
          have q := k H2 s2
          rw [c1 z1 y1] at q
          exact q
        · refine ⟨_, rfl, _, rfl, _, _, rfl, rfl, _, _, rfl, rfl, (by show (0 : Int) < 3; decide), rfl, _, rfl, ?_⟩
          have r := rest fun q => y (decide_eq_true (congrArg V.int q.2))
          refine ite2 (fun x => ?_) (fun x => ?_)
          · rw [if_pos x] at r
            exact r
          · rw [if_neg x] at r
            exact ⟨_, rfl, _, rfl, _, _, rfl, r⟩
      · refine ⟨_, rfl, _, rfl, _, _, rfl, rfl, _, _, rfl, rfl, (by show (0 : Int) < 3; decide), rfl, _, rfl, ?_⟩
        have r := rest fun q => z (decide_eq_true (congrArg V.int q.1))
        refine ite2 (fun x => ?_) (fun x => ?_)
        · rw [if_pos x] at r
          exact r
        · rw [if_neg x] at r
          exact ⟨_, rfl, _, rfl, _, _, rfl, r⟩
/-! the making -/
def spIn (K : PySem.W.Frag) (C : Addr) : Sp := fun vs H Q _ => ∃ (x dx : Addr) (v : V), vs = [.ref x, v] ∧ H x = some (.ins C dx []) ∧ Q .non (upd H x (.ins C dx [("steps", v)]))
theorem ok_in {CN CA CB : Addr} (F : FunD K "__init__" "All.__init__" (defArgs sIn) (defBody sIn) (defScope sIn) [] [] f fd) (c : AnsK K CN CA CB) : FnOk P w K mg base CX0 1 f fd ["self", "steps"] (spIn K CA) := by
  refine F.ok scIn (fun vs H Q E h => ?_) (fun cdv A outer s H vs Q E hr h => ?_)
  · obtain ⟨x, dx, v, rfl, _⟩ := h
    rfl
  · obtain ⟨x, dx, v, rfl, hx, k⟩ := h
    refine ⟨_, PSs.nox (pss_one (ps_fld (pv 0) (pv 1) rfl)), ?_⟩
    exact ⟨_, rfl, _, rfl, x, _, dx, _, rfl, hx, c.A.cl, c.st, by decide, k⟩
theorem mkOk {CN CA CB fI : Addr} {fdI : FuncData} (c : AnsK K CN CA CB) (M : Mk K CA fI) (M0 : Mk0 K CB) (FI : FunD K "__init__" "All.__init__" (defArgs sIn) (defBody sIn) (defScope sIn) [] [] fI fdI) (bI : Binds K fdI ["self", "steps"] []) (gA : mg "All" = some (.ref CA)) (gB : mg "Barred" = some (.ref CB)) : MkOk P w K mg base CA CB where
  b := by
    intro X p pos e1 e2 e3 e4 e5 hr hg
    subst e1 e2 e3 e4 e5
    refine Pe.imp (pe_mk0 M0 hg gB) fun σ H Q h x dx nx ndx ne => ?_
    have s1 : Same H (upd H dx (.own x)) := same_upd ndx
    have s2 : Same H (upd (upd H dx (.own x)) x (.ins CB dx [])) := same_new s1 nx
    exact h _ x s2 nx ⟨dx, [], upd_same, rfl⟩
  a := by
    intro X p pos e t e1 e2 e3 e4 e5 hr hg ha he
    subst e1 e2 e3 e4 e5
    have GI : FnOk X.prog X.w X.K X.mg X.base CX0 1 fI fdI ["self", "steps"] (spIn X.K CA) := ok_in FI c
    refine ⟨fun pins s σ H Q I h => ?_⟩
    refine wpAny_Call_Name_kw (ld_glob I hg gA ?_ (by decide))
    refine PySem.W.callWith_K (h₀ := X.base) I.ok.mod.kin M.kp (thn (ha.run pos pins s σ H _ I h) fun us s1 ⟨vs, H1, I1, r, q⟩ => ⟨I1.kIn, ?_⟩) he (by rfl)
    obtain ⟨v, rfl, q⟩ := q
    refine run_make M GI (hr.mono (by decide)) bI .nil pass0 I1 r fun x dx nx ndx ne => ?_
    have s1 : Same H1 (upd H1 dx (.own x)) := same_upd ndx
    have s2 : Same H1 (upd (upd H1 dx (.own x)) x (.ins CA dx [])) := same_new s1 nx
    refine ⟨x, dx, v, rfl, upd_same, rfl, ?_⟩
    rw [upd_upd]
    exact q _ x (same_new s1 nx) nx ⟨dx, [("steps", v)], upd_same, rfl, rfl⟩
/-! the words -/
end
abbrev sCk : Stmt := topS 36
abbrev sAo : Stmt := topS 33
theorem scCk : FnScope ["kind"] ["kind"] (defScope sCk) := ⟨rfl, rfl, rfl, by decide +kernel, rfl, by decide +kernel, by decide +kernel⟩
theorem scAo : FnScope ["beads", "kind", "steps"] ["beads", "kind"] (defScope sAo) := ⟨rfl, rfl, rfl, by decide +kernel, rfl, by decide +kernel, by decide +kernel⟩
section
variable {P : Program} {w : World} {K : PySem.W.Frag} {mg : Str → Option Value} {base : Heap} {f : Addr} {fd : FuncData}
def spCk (K : PySem.W.Frag) (C : Addr) : Sp := fun vs H Q E => ∃ (y : V) (o : Option Int), vs = [y] ∧ KX K H y o ∧ (o.isSome = true → Q .non H) ∧ (o.isSome = false → E (.ref C) none H)
theorem ok_ck {fN fK C : Addr} {fdN fdK : FuncData} {u : Value} (F : FnP K "check_kind" sCk f fd) (B : Bl mg) (kd : mg "KINDS" = some u) (ku : RelV (.int 3) u) (aN0 : At K mg "is_number" sNum ["value"] fN fdN) (aN : At K mg "is_kind" sKind ["value"] fK fdK) (eK : Ex K mg "BadKind" C) :
    FnOk P w K mg base (L2N.CX P w) 3 f fd ["kind"] (spCk K C) := by
  have GN : FnOk P w K mg base CX0 2 fK fdK ["value"] (spKind K) := ok_kind aN.F B kd ku aN0
  refine F.ok scCk (fun vs H Q E h => ?_) (fun cdv A outer s H vs Q E hr h => ?_)
  · obtain ⟨y, o, rfl, _⟩ := h
    rfl
  · obtain ⟨y, o, rfl, hy, q1, q2⟩ := h
    have r2 : Room 2 _ := hr
    refine ⟨_, (pss_one (ps_if (pt_not (pt_val (pe_call GN r2 (by rfl) aN.g aN.F.kp aN.b .nil pass0 (pa_cons (pv 0) pa_nil)))) (pss_one (L2N.ps_raise rfl (L2N.takes_of rfl rfl rfl rfl) (L2N.pmk_own PySem.F.excBase_ValueError eK.x eK.g eK.k (raises_own eK.b eK.t) (by rfl)))) pss_nil)), ?_⟩
    refine ⟨y, rfl, y, o, rfl, hy, o.isSome, rfl, ?_⟩
    cases e : o.isSome with
    | true => exact iteF (q1 e)
    | false => exact iteT (q2 e)
theorem ok_ao {fB fK fU C1 CK CA CB : Addr} {fdB fdK fdU : FuncData} (F : FnP K "all_of" sAo f fd) (hMk : MkOk P w K mg base CA CB)
    (aB : At K mg "check_beads" sChB ["beads"] fB fdB) (GB : FnOk P w K mg base (L2N.CX P w) 3 fB fdB ["beads"] (spChB K C1))
    (aK : At K mg "check_kind" sCk ["kind"] fK fdK) (GK : FnOk P w K mg base (L2N.CX P w) 3 fK fdK ["kind"] (spCk K CK))
    (aU : At K mg "fewest_turnings" sFt ["beads", "kind"] fU fdU) (GU : FnOk P w K mg base CX0 1 fU fdU ["beads", "kind"] (spFt K)) :
    FnOk P w K mg base (L2N.CX P w) 4 f fd ["beads", "kind"] (spAo K C1 CK CA CB) := by
  refine F.ok scAo (fun vs H Q E h => ?_) (fun cdv A outer s H vs Q E hr h => ?_)
  · obtain ⟨x, y, rfl, _⟩ := h
    rfl
  · obtain ⟨x, y, rfl, h⟩ := h
    have r1 : Room 1 _ := hr.mono (by decide)
    have r3 : Room 3 _ := hr
    refine ⟨_, (pss_cons (ps_expr (pe_call GB r3 (by rfl) aB.g aB.F.kp aB.b .nil (L2N.passes_call (L2N.takes_of rfl rfl rfl rfl) (fun _ _ _ _ h => h)) (pa_cons (pv 0) pa_nil)))
      (pss_cons (ps_expr (pe_call GK r3 (by rfl) aK.g aK.F.kp aK.b .nil (L2N.passes_call (L2N.takes_of rfl rfl rfl rfl) (fun _ _ _ _ h => h)) (pa_cons (pv 1) pa_nil)))
      (pss_cons (ps_set (i := 2) scAo.nd rfl (.inl rfl) (pe_call GU r1 (by rfl) aU.g aU.F.kp aU.b .nil pass0 (pa_cons (pv 0) (pa_cons (pv 1) pa_nil))))
      (pss_cons (ps_if (pt_cmpR op_isN (pv 2) pe_non (nomark _)) (pss_one (ps_ret (hMk.b rfl rfl rfl rfl rfl r3 (by rfl)))) pss_nil)
      (pss_one (ps_ret (hMk.a rfl rfl rfl rfl rfl r3 (by rfl) (pa_cons (pv 2) pa_nil) (by rfl)))))))), ?_⟩
    rcases h with ⟨hx, hE⟩ | ⟨p, s0, rfl, hT, hk3, h⟩
    · exact ⟨x, rfl, x, false, rfl, hx, fun e => (nomatch e), fun _ => hE⟩
    · refine ⟨_, rfl, _, true, rfl, BX.of hT hk3, fun _ => ?_, fun e => (nomatch e)⟩
      rcases h with ⟨hy, hE⟩ | ⟨kn, rfl, k0, k3, k⟩
      · exact ⟨y, rfl, y, none, rfl, hy, fun e => (nomatch e), fun _ => hE⟩
      · refine ⟨_, rfl, _, some kn, rfl, KX.int k0 k3, fun _ => ?_, fun e => (nomatch e)⟩
        refine ⟨_, rfl, _, rfl, p, s0, kn, rfl, hT, hk3, k0, k3, fun H1 s1 => ?_⟩
        refine ⟨_, rfl, rfl, _, rfl, ?_⟩
        rw [oV_non]
        cases e : stepsT s0 kn with
        | none =>
          refine iteT ?_
          intro H2 a s2 na ha
          exact k H2 a (s1.trans s2) (s1.free na) (by rw [e]; exact ha)
        | some d =>
          refine iteF ?_
          refine ⟨_, rfl, _, rfl, fun H2 a s2 na ha => ?_⟩
          exact k H2 a (s1.trans s2) (s1.free na) (by rw [e]; exact ha)
end
abbrev sTw : Stmt := topS 35
abbrev sTk : Stmt := topS 34
theorem scTw : FnScope ["beads", "kind", "low", "high", "rest", "other"] ["beads", "kind"] (defScope sTw) := ⟨rfl, rfl, rfl, by decide +kernel, rfl, by decide +kernel, by decide +kernel⟩
theorem scTk : FnScope ["beads", "kind", "told", "left", "meeting"] ["beads", "kind"] (defScope sTk) := ⟨rfl, rfl, rfl, by decide +kernel, rfl, by decide +kernel, by decide +kernel⟩
section
variable {P : Program} {w : World} {K : PySem.W.Frag} {mg : Str → Option Value} {base : Heap} {f : Addr} {fd : FuncData}
def spTw (K : PySem.W.Frag) : Sp := fun vs H Q _ => ∃ (p : Addr) (s : T3) (k : Int), vs = [.ref p, .int k] ∧ Tr K H p s.1 s.2.1 s.2.2 ∧ 0 ≤ k ∧ k < 3 ∧ ∀ (H' : Hp) (r : Addr), Same H H' → H r = none → H' r = some (.tup [.int (tw s k).1, .int (tw s k).2]) → Q (.ref r) H'
theorem ok_tw {u : Value} (F : FnP K "toward" sTw f fd) (B : Bl mg) (kd : mg "KINDS" = some u) (ku : RelV (.int 3) u) : FnOk P w K mg base CX0 1 f fd ["beads", "kind"] (spTw K) := by
  refine F.ok scTw (fun vs H Q E h => ?_) (fun cdv A outer s H vs Q E hr h => ?_)
  · obtain ⟨p, s0, k, rfl, _⟩ := h
    rfl
  · obtain ⟨p, s0, kn, rfl, hT, k0, k3, k⟩ := h
    refine ⟨_, PSs.nox (pss_cons (ps_asg (pe_lc (own := [("other", 5)]) (g := (gName 5)) (tt := (tTest (tOp rNe (tVar 5) (tVar 1)))) (te := (tVar 5)) rfl scTw.nd (pi_range1 (by rfl) B.range (pa_cons (pe_glob (by rfl) kd ku) pa_nil)) (blkOk_by (N := ["beads", "kind", "low", "high", "rest", "other"]) (sc := defScope sTw) (by decide +kernel)) (fun _ _ _ _ _ => (pg_name (i := 5) scTw.nd rfl (.inl rfl))) (fun _ _ _ _ _ => pts_one (pt_cmpR op_ne (pv 5) (pv 1) (nomark _))) (fun _ _ _ _ _ => (pv 5))) (pg_lst (by rfl) (pgs_cons (pg_name (i := 2) scTw.nd rfl (.inl rfl)) (pgs_cons (pg_name (i := 3) scTw.nd rfl (.inl rfl)) pgs_nil))))
      (pss_cons (ps_if (PW.pt (pw_and (pt_cmpR op_gt (pe_ix ix_tup (pv 0) (pv 2) (fun _ _ => rfl)) pe_int (nomark _)) (pw_and1 (pt_cmpR op_gt (pe_ix ix_tup (pv 0) (pv 3) (fun _ _ => rfl)) pe_int (nomark _))))) (pss_one (ps_ret (pe_tup (pa_cons (pv 2) (pa_cons (pv 3) pa_nil))))) pss_nil)
      (pss_cons (ps_set (i := 4) scTw.nd rfl (.inl rfl) (pe_ifExp (pt_cmpR op_gt (pe_ix ix_tup (pv 0) (pv 2) (fun _ _ => rfl)) pe_int (nomark _)) (pv 2) (pv 3)))
      (pss_one (ps_ret (pe_tup (pa_cons (pe_callB (call_min2 rfl) (by rfl) B.min (by decide +kernel) (pa_cons (pv 4) (pa_cons (pv 1) pa_nil))) (pa_cons (pe_callB (call_max2 rfl) (by rfl) B.max (by decide +kernel) (pa_cons (pv 4) (pa_cons (pv 1) pa_nil))) pa_nil)))))))), ?_⟩
    obtain ⟨l0, l3, h0, h3⟩ := loK_in k0 k3
    refine ⟨3, rfl, by decide, by decide, fun D hD => ?_⟩
    refine lc_range (lo := 0) (n := 3) (fun i H' => Same H H' ∧ H' D = some (.lst (((([0, 1, 2] : List Int).take i).filter fun o => decide (o ≠ kn)).map V.int))) ⟨same_upd hD, upd_same⟩ ?_ ?_
    · rintro i H2 hi ⟨s2, hD2⟩
      obtain ⟨kk, ek, hk, j0, j3⟩ := kind_turn hi
      have hst := filter_step (fun o => decide (o ≠ kn)) hk
      rw [ek]
      refine ⟨rfl, ?_⟩
      refine ⟨_, rfl, _, rfl, rfl, _, rfl, ite2 (fun z => ?_) (fun z => ?_)⟩
      · have z2 : decide (kk ≠ kn) = true := decide_eq_true fun e => by
          rw [e] at z
          simp at z
        refine ⟨_, rfl, _, hD2, ?_, same_new s2 hD, ?_⟩
        · rw [List.length_map]
          refine Nat.lt_of_le_of_lt (List.length_filter_le _ _) ?_
          rw [List.length_take]
          exact Nat.lt_of_le_of_lt (Nat.min_le_right _ _) (by decide)
        · rw [upd_same, hst, if_pos z2, List.map_append]
          rfl
      · refine ⟨s2, ?_⟩
        have z2 : ¬ decide (kk ≠ kn) = true := fun e => z (by
          have e2 := of_decide_eq_true e
          simp only [Bool.not_eq_true', decide_eq_false_iff_not]
          exact fun q => e2 (V.int.inj q))
        rw [hst, if_neg z2, List.append_nil]
        exact hD2
    · rintro H2 ⟨s2, hD2⟩
      have hD2 : H2 D = some (.lst ((([0, 1, 2] : List Int).filter fun o => decide (o ≠ kn)).map V.int)) := hD2
      rw [others_list k0 k3] at hD2
      have hT2 : Tr K H2 p s0.1 s0.2.1 s0.2.2 := tup_same s2 hT
      refine ⟨D, _, rfl, SqL.of hD2, rfl, _, _, rfl, _, _, rfl, rfl, ?_⟩
      have rest : ¬ (0 < g3 s0.1 s0.2.1 s0.2.2 (loK kn) ∧ 0 < g3 s0.1 s0.2.1 s0.2.2 (hiK kn)) → tw s0 kn = (if kn < restK s0 kn then kn else restK s0 kn, if kn > restK s0 kn then kn else restK s0 kn) := fun z => by
        unfold tw
        rw [if_neg z]
      have fin : ∀ R : Int, restK s0 kn = R → ¬ (0 < g3 s0.1 s0.2.1 s0.2.2 (loK kn) ∧ 0 < g3 s0.1 s0.2.1 s0.2.2 (hiK kn)) → ∀ r, H2 r = none → Q (.ref r) (upd H2 r (.tup [.int (if kn < R then kn else R), .int (if kn > R then kn else R)])) := fun R eR z r hr2 => by
        refine k _ r (s2.trans (same_upd hr2)) (s2.free hr2) ?_
        rw [rest z, eR, upd_same]
      have tail : ¬ (0 < g3 s0.1 s0.2.1 s0.2.2 (loK kn) ∧ 0 < g3 s0.1 s0.2.1 s0.2.2 (hiK kn)) → decide (0 < g3 s0.1 s0.2.1 s0.2.2 (loK kn)) = true → restK s0 kn = loK kn := fun _ z => by
        unfold restK
        rw [if_pos (of_decide_eq_true z)]
      have tail2 : ¬ decide (0 < g3 s0.1 s0.2.1 s0.2.2 (loK kn)) = true → restK s0 kn = hiK kn := fun z => by
        unfold restK
        rw [if_neg fun q => z (decide_eq_true q)]
      refine ⟨_, rfl, _, rfl, p, _, _, _, rfl, rfl, hT2, at3 l0 l3, _, _, rfl, rfl, _, rfl, ite2 (fun z => ?_) (fun z => ?_)⟩
      · refine ⟨_, rfl, _, rfl, p, _, _, _, rfl, rfl, hT2, at3 h0 h3, _, _, rfl, rfl, _, rfl, ite2 (fun y => ?_) (fun y => ?_)⟩
        · refine ⟨_, rfl, _, rfl, (by show 2 ≤ sizeLine; decide), fun r hr2 => ?_⟩
          refine k _ r (s2.trans (same_upd hr2)) (s2.free hr2) ?_
          have e : tw s0 kn = (loK kn, hiK kn) := by
            unfold tw
            rw [if_pos ⟨of_decide_eq_true z, of_decide_eq_true y⟩]
          rw [e, upd_same]
        · have nz : ¬ (0 < g3 s0.1 s0.2.1 s0.2.2 (loK kn) ∧ 0 < g3 s0.1 s0.2.1 s0.2.2 (hiK kn)) := fun q => y (decide_eq_true q.2)
          refine ⟨_, rfl, _, rfl, p, _, _, _, rfl, rfl, hT2, at3 l0 l3, _, _, rfl, rfl, _, rfl, ite2 (fun x => ?_) (fun x => absurd z x)⟩
          exact ⟨_, rfl, _, rfl, _, rfl, _, _, rfl, _, rfl, _, rfl, _, _, rfl, (by show 2 ≤ sizeLine; decide), fun r hr2 => fin _ (tail nz x) nz r hr2⟩
      · have nz : ¬ (0 < g3 s0.1 s0.2.1 s0.2.2 (loK kn) ∧ 0 < g3 s0.1 s0.2.1 s0.2.2 (hiK kn)) := fun q => z (decide_eq_true q.1)
        refine ⟨_, rfl, _, rfl, p, _, _, _, rfl, rfl, hT2, at3 l0 l3, _, _, rfl, rfl, _, rfl, ite2 (fun x => absurd x z) (fun x => ?_)⟩
        exact ⟨_, rfl, _, rfl, _, rfl, _, _, rfl, _, rfl, _, rfl, _, _, rfl, (by show 2 ≤ sizeLine; decide), fun r hr2 => fin _ (tail2 x) nz r hr2⟩
theorem ok_tk {fB fK fF fU fW fT C1 C2 CK C3 : Addr} {fdB fdK fdF fdU fdW fdT : FuncData} {u : Value} (F : FnP K "to_kind" sTk f fd) (B : Bl mg) (kd : mg "KINDS" = some u) (ku : RelV (.int 3) u)
    (aB : At K mg "check_beads" sChB ["beads"] fB fdB) (GB : FnOk P w K mg base (L2N.CX P w) 3 fB fdB ["beads"] (spChB K C1))
    (aK : At K mg "check_kind" sCk ["kind"] fK fdK) (GK : FnOk P w K mg base (L2N.CX P w) 3 fK fdK ["kind"] (spCk K CK))
    (aF : At K mg "check_few" sCf ["beads"] fF fdF) (GF : FnOk P w K mg base (L2N.CX P w) 1 fF fdF ["beads"] (spCf K C3))
    (aU : At K mg "fewest_turnings" sFt ["beads", "kind"] fU fdU) (GU : FnOk P w K mg base CX0 1 fU fdU ["beads", "kind"] (spFt K))
    (aW : At K mg "toward" sTw ["beads", "kind"] fW fdW)
    (aT : At K mg "turned" sTurn ["beads", "meeting"] fT fdT) (GT : FnOk P w K mg base (L2N.CX P w) 5 fT fdT ["beads", "meeting"] (spMet K C1 C2 2)) :
    FnOk P w K mg base (L2N.CX P w) 6 f fd ["beads", "kind"] (spTk K C1 CK C3 tkR) := by
  have GW : FnOk P w K mg base CX0 1 fW fdW ["beads", "kind"] (spTw K) := ok_tw aW.F B kd ku
  refine F.ok scTk (fun vs H Q E h => ?_) (fun cdv A outer s H vs Q E hr h => ?_)
  · obtain ⟨x, y, rfl, _⟩ := h
    rfl
  · obtain ⟨x, y, rfl, h⟩ := h
    have r1 : Room 1 _ := hr.mono (by decide)
    have r3 : Room 3 _ := hr.mono (by decide)
    have r5 : Room 5 _ := hr
    refine ⟨_, (pss_cons (ps_expr (pe_call GB r3 (by rfl) aB.g aB.F.kp aB.b .nil (L2N.passes_call (L2N.takes_of rfl rfl rfl rfl) (fun _ _ _ _ h => h)) (pa_cons (pv 0) pa_nil)))
      (pss_cons (ps_expr (pe_call GK r3 (by rfl) aK.g aK.F.kp aK.b .nil (L2N.passes_call (L2N.takes_of rfl rfl rfl rfl) (fun _ _ _ _ h => h)) (pa_cons (pv 1) pa_nil)))
      (pss_cons (ps_expr (pe_call GF r1 (by rfl) aF.g aF.F.kp aF.b .nil (L2N.passes_call (L2N.takes_of rfl rfl rfl rfl) (fun _ _ _ _ h => h)) (pa_cons (pv 0) pa_nil)))
      (pss_cons (ps_if (pt_cmpR op_isN (pe_call GU r1 (by rfl) aU.g aU.F.kp aU.b .nil pass0 (pa_cons (pv 0) (pa_cons (pv 1) pa_nil))) pe_non (nomark _)) (pss_one (ps_ret pe_non)) pss_nil)
      (pss_cons (ps_set (i := 2) scTk.nd rfl (.inl rfl) (pe_lst pa_nil))
      (pss_cons (ps_set (i := 3) scTk.nd rfl (.inl rfl) (pv 0))
      (pss_cons (ps_while (passes_of rfl) (pt_cmpR op_lt (pe_ix ix_tup (pv 3) (pv 1) (fun _ _ => rfl)) (pe_callB (cr_sumT rfl) (by rfl) B.sum (by decide +kernel) (pa_cons (pv 3) pa_nil)) (nomark _)) (pss_cons (ps_set (i := 4) scTk.nd rfl (.inl rfl) (pe_call GW r1 (by rfl) aW.g aW.F.kp aW.b .nil pass0 (pa_cons (pv 3) (pa_cons (pv 1) pa_nil))))
      (pss_cons (ps_expr (pe_bm PySem.F.plainAttrs_list PySem.F.slot_list_append PySem.F.type_list_append mt_append (pv 2) (pa_cons (pv 4) pa_nil)))
      (pss_one (ps_set (i := 3) scTk.nd rfl (.inl rfl) (pe_call GT r5 (by rfl) aT.g aT.F.kp aT.b .nil (L2N.passes_call (L2N.takes_of rfl rfl rfl rfl) (fun _ _ _ _ h => h)) (pa_cons (pv 3) (pa_cons (pv 4) pa_nil))))))))
      (pss_one (ps_ret (pv 2)))))))))), ?_⟩
    rcases h with ⟨hx, hE⟩ | ⟨p, s0, rfl, hT, hk3, h⟩
    · exact ⟨x, rfl, x, false, rfl, hx, fun e => (nomatch e), fun _ => hE⟩
    · refine ⟨_, rfl, _, true, rfl, BX.of hT hk3, fun _ => ?_, fun e => (nomatch e)⟩
      rcases h with ⟨hy, hE⟩ | ⟨kn, rfl, k0, k3, h⟩
      · exact ⟨y, rfl, y, none, rfl, hy, fun e => (nomatch e), fun _ => hE⟩
      · refine ⟨_, rfl, _, some kn, rfl, KX.int k0 k3, fun _ => ?_, fun e => (nomatch e)⟩
        rcases h with ⟨h300, hE⟩ | ⟨h300, h⟩
        · exact ⟨_, rfl, p, s0, rfl, hT, fun _ => hE, fun z => absurd h300 (by omega)⟩
        · refine ⟨_, rfl, p, s0, rfl, hT, fun z => absurd h300 (by omega), fun _ => ?_⟩
          obtain ⟨hnn0, hpos0⟩ := ok3_Nn hk3
          refine ⟨_, rfl, _, rfl, p, s0, kn, rfl, hT, hk3, k0, k3, fun H1 s1 => ⟨rfl, _, rfl, ?_⟩⟩
          rw [oV_non]
          rcases h with ⟨hno, k⟩ | ⟨d, hst, k⟩
          · rw [decide_eq_true hno]
            exact iteT (k H1 s1)
          · rw [decide_eq_false (by rw [hst]; exact fun q => by cases q)]
            refine iteF ?_
            obtain ⟨hw0, hd⟩ := on_way hnn0 k0 k3 hst
            obtain ⟨o1, o2, o3⟩ := oth_pos hnn0 k0 k3
            have hg0 : 0 ≤ g3 s0.1 s0.2.1 s0.2.2 kn := by
              unfold Nn at hnn0
              unfold g3
              split
              · exact hnn0.1
              · split
                · exact hnn0.2.1
                · exact hnn0.2.2
            have hd300 : (mx (oth s0 kn).1 (oth s0 kn).2).toNat ≤ 300 := by
              unfold mx
              split <;> omega
            refine ⟨Nat.zero_le _, fun L hL => ⟨_, rfl, ?_⟩⟩
            refine ⟨fun μ σ H' => ∃ (t : T3) (ms : List (Int × Int)) (q : Addr) (v4 : Option V), σ = [some (.ref p), some (.int kn), some (.ref L), some (.ref q), v4] ∧ Same H1 H' ∧ Tr K H' q t.1 t.2.1 t.2.2 ∧ PairsAt H1 H' L ms ∧ Ok3 t.1 t.2.1 t.2.2 ∧ OnWay t kn ∧ ms ++ tkN (mx (oth t kn).1 (oth t kn).2).toNat t kn = tkR s0 kn ∧
                ms.length + (mx (oth t kn).1 (oth t kn).2).toNat = (mx (oth s0 kn).1 (oth s0 kn).2).toNat ∧ μ = (mx (oth t kn).1 (oth t kn).2).toNat,
              ⟨_, s0, [], p, _, rfl, same_upd hL, hT.same (s1.trans (same_upd hL)), ⟨[], upd_same, .nil⟩, hk3, hw0, rfl, by simp, rfl⟩, ?_⟩
            rintro μ σ H2 ⟨t, ms, q, v4, rfl, s2, hq, hP, ht3, ⟨hw1, hw2⟩, hms, hlen, rfl⟩
            obtain ⟨hnn, hpos⟩ := ok3_Nn ht3
            refine ⟨_, rfl, _, rfl, q, _, _, _, rfl, rfl, hq, at3 k0 k3, _, rfl, q, [t.1, t.2.1, t.2.2], rfl, hq, _, _, rfl, rfl, _, rfl, ?_⟩
            rw [sum3_list]
            refine ite2 (fun z => ?_) (fun z => ?_)
            · have hm : 0 < mx (oth t kn).1 (oth t kn).2 := (less_iff hnn k0 k3).mp (of_decide_eq_true z)
              have ha : ¬ Alone t := hw1.elim (fun e => by omega) id
              obtain ⟨hM, hc, q1, q2, q3, q4, q5⟩ := tw_next hnn ha k0 k3 hw2
              have en : (mx (oth t kn).1 (oth t kn).2).toNat = (mx (oth (mt3 t (tw t kn).1 (tw t kn).2 2) kn).1 (oth (mt3 t (tw t kn).1 (tw t kn).2 2) kn).2).toNat + 1 := by
                obtain ⟨p1, p2, _⟩ := oth_pos q1 k0 k3
                have : 0 ≤ mx (oth (mt3 t (tw t kn).1 (tw t kn).2 2) kn).1 (oth (mt3 t (tw t kn).1 (tw t kn).2 2) kn).2 := by unfold mx; split <;> omega
                omega
              refine ⟨_, fun _ _ z => z, ?_⟩
              refine ⟨_, rfl, _, rfl, q, t, kn, rfl, hq, k0, k3, fun H3 r s3 hr0 hr3 => ?_⟩
              have s13 : Same H1 H3 := s2.trans s3
              have nr : H1 r = none := s2.free hr0
              obtain ⟨acc, hL3, hacc, hP4⟩ := (hP.same s3).app nr hr3
              refine ⟨_, rfl, .inl ⟨rfl, _, .inl (.inl hL3)⟩, _, rfl, L, _, _, rfl, rfl, hL3, ?_, ?_⟩
              · rw [hacc]
                refine Nat.lt_of_le_of_lt (m := 300) ?_ (by decide)
                omega
              have sH4 : Same H1 (upd H3 L (.lst (acc ++ [.ref r]))) := same_new s13 hL
              have hq4 : Tr K (upd H3 L (.lst (acc ++ [.ref r]))) q t.1 t.2.1 t.2.2 := sqT_upd (hq.same s3) hL3
              have hr4 : (upd H3 L (.lst (acc ++ [.ref r]))) r = some (.tup [.int (tw t kn).1, .int (tw t kn).2]) := by
                rw [upd_ne (ne_of hr3 hL3 (fun e => by cases e))]
                exact hr3
              generalize upd H3 L (.lst (acc ++ [.ref r])) = H4 at sH4 hq4 hr4 hP4
              refine ⟨_, rfl, _, rfl, _, _, rfl, .inr (.inr ⟨q, r, t.1, t.2.1, t.2.2, (tw t kn).1, (tw t kn).2, rfl, rfl, hq4, ht3, .inl (.inl hr4), hM, hc, fun H5 q' s5 hq0 hq' => ?_⟩)⟩
              refine ⟨_, ?_, mt3 t (tw t kn).1 (tw t kn).2 2, ms ++ [((tw t kn).1, (tw t kn).2)], q', _, rfl, sH4.trans s5, hq'.sq, hP4.same s5, turn_ok3 hM hc ht3, ⟨q5, q4⟩, ?_, ?_, rfl⟩
              · omega
              · rw [← hms, en, List.append_assoc]
                rfl
              · rw [List.length_append, List.length_singleton]
                omega
            · have hm : mx (oth t kn).1 (oth t kn).2 = 0 := by
                obtain ⟨p1, p2, _⟩ := oth_pos hnn k0 k3
                have : 0 ≤ mx (oth t kn).1 (oth t kn).2 := by unfold mx; split <;> omega
                have : ¬ 0 < mx (oth t kn).1 (oth t kn).2 := fun e => z (decide_eq_true ((less_iff hnn k0 k3).mpr e))
                omega
              have ems : ms = tkR s0 kn := by
                rw [← hms, hm]
                show ms = ms ++ []
                rw [List.append_nil]
              refine ⟨_, rfl, k H2 L (s1.trans s2) (s1.free hL) ?_⟩
              rw [← ems]
              exact hP.pt
end

open LamX L2H
theorem four_turn {i : Nat} (hi : i < 4) : ∃ kk : Int, (0 : Int) + (i : Int) = kk ∧ ([0, 1, 2, 3] : List Int)[i]? = some kk := by
  match i, hi with
  | 0, _ => exact ⟨0, rfl, rfl⟩
  | 1, _ => exact ⟨1, rfl, rfl⟩
  | 2, _ => exact ⟨2, rfl, rfl⟩
  | 3, _ => exact ⟨3, rfl, rfl⟩
theorem shaped_five (a b c d e : Bool) : SeqAt.shaped (.list [.bool a, .bool b, .bool c, .bool d, .bool e]) = true := by
  unfold SeqAt.shaped
  simp [PyData.canLay0, PyData.canLayAll0, PyData.depth, PyData.depthAll]
abbrev sRe : Stmt := topS 38
abbrev sAl : Stmt := topS 39
theorem scRe : FnScope ["_law_ask", "_law_thing", "_law_due", "error", "_law_kinds", "_law_kind"] ["_law_ask", "_law_thing", "_law_due"] (defScope sRe) := ⟨rfl, rfl, rfl, by decide +kernel, rfl, by decide +kernel, by decide +kernel⟩
theorem scAl : FnScope ["_law_asks", "_law_things", "_law_due", "_law_ask", "_law_thing"] ["_law_asks", "_law_things", "_law_due"] (defScope sAl) := ⟨rfl, rfl, rfl, by decide +kernel, rfl, by decide +kernel, by decide +kernel⟩
section
variable {P : Program} {w : World} {K : PySem.W.Frag} {mg : Str → Option Value} {base : Heap} {f : Addr} {fd : FuncData}
def spRe (P : Program) (w : World) (K : PySem.W.Frag) (mg : Str → Option Value) (base : Heap) (Er : Int → Addr) : Sp := fun vs H Q _ => ∃ (g : Addr) (x : V) (d : Int), vs = [.ref g, x, .int d] ∧ 0 ≤ d ∧ d < 4 ∧ Ask P w K mg base 7 g H x (Er d) ∧ ∀ H', Same H H' → Q (.bl true) H'
theorem ok_re {Er : Int → Addr} {BE : Addr} (F : FnP K "_law_refused" sRe f fd) (B : Bl mg) (nVE : mg "ValueError" = none) (e : ErrK K Er BE) (gBE : mg "BeadError" = some (.ref BE)) (g0 : mg "BadBeads" = some (.ref (Er 0))) (g1 : mg "BadMeeting" = some (.ref (Er 1))) (g2 : mg "BadKind" = some (.ref (Er 2))) (g3 : mg "TooMany" = some (.ref (Er 3))) :
    FnOk P w K mg base CX0 8 f fd ["_law_ask", "_law_thing", "_law_due"] (spRe P w K mg base Er) := by
  refine F.ok scRe (fun vs H Q E h => ?_) (fun cdv A outer s H vs Q E hr h => ?_)
  · obtain ⟨g, x, d, rfl, _⟩ := h
    rfl
  · obtain ⟨g, x, d, rfl, h0, h4, ask, k⟩ := h
    refine ⟨_, PSs.nox (pss_cons (L2N.ps_try_as (i := 3) (c := .ref BE) rfl rfl scRe.nd rfl rfl ⟨rfl, by decide, .inl gBE⟩ takes0N
      (fun W pn xe tk _ => pss_one (ps_expr (pe_ask (k := 7) (i := 0) (j := 1) (E := fun σ => WE W σ) (P := P) (w := w) (K := K) (mg := mg) (base := base) rfl rfl rfl rfl rfl hr rfl (.inl rfl) rfl (.inl rfl) (fun σ => L2N.passAt tk σ))))
      (fun a oe cls dd pn hz hf => pss_cons (ps_set (i := 4) scRe.nd rfl (.inl rfl) (pe_lstS (pa_cons (pe_callB (call_isEV (K := K) rfl hz.zc hf) (by rfl) B.isi (by decide +kernel) (pa_cons (pv 3) (pa_cons (pe_glob (v := .ref (Er 0)) (by rfl) g0 rfl) pa_nil)))
          (pa_cons (pe_callB (call_isEV (K := K) rfl hz.zc hf) (by rfl) B.isi (by decide +kernel) (pa_cons (pv 3) (pa_cons (pe_glob (v := .ref (Er 1)) (by rfl) g1 rfl) pa_nil)))
          (pa_cons (pe_callB (call_isEV (K := K) rfl hz.zc hf) (by rfl) B.isi (by decide +kernel) (pa_cons (pv 3) (pa_cons (pe_glob (v := .ref (Er 2)) (by rfl) g2 rfl) pa_nil))) pa_nil)))))
        (pss_cons (ps_set (i := 4) scRe.nd rfl (.inl rfl) (pe_op op_catS (pv 4) (pe_lstS (pa_cons (pe_callB (call_isEV (K := K) rfl hz.zc hf) (by rfl) B.isi (by decide +kernel) (pa_cons (pv 3) (pa_cons (pe_glob (v := .ref (Er 3)) (by rfl) g3 rfl) pa_nil)))
          (pa_cons (pe_callB (call_isEV (K := K) rfl hz.zc hf) (by rfl) B.isi (by decide +kernel) (pa_cons (pv 3) (pa_cons (pe_bltn (v := .ty "ValueError") (by rfl) nVE (by decide +kernel) rfl) pa_nil))) pa_nil)))))
        (pss_one (ps_ret (pe_cmpR (show OpR _ (compareOp .Eq) (rEqD K) from op_eqD hr.units) (pv 4) (pe_op op_catS
          (pe_lcH (own := [("_law_kind", 5)]) (g := gName 5) (te := tOp rEq (tVar 5) (tVar 2)) (by obtain ⟨vs, hd⟩ := hf; exact ⟨(a, oe), ⟨rfl, vs, hd, hz.2.2 vs hd⟩, List.mem_cons_self⟩) scRe.nd (pi_range1H (by rfl) B.range (pa_cons pe_int pa_nil))
            (blkOk_by (N := ["_law_ask", "_law_thing", "_law_due", "error", "_law_kinds", "_law_kind"]) (sc := defScope sRe) (by decide +kernel)) (fun _ _ _ _ _ => pg_name (i := 5) scRe.nd rfl (.inl rfl)) (fun _ _ _ _ _ => pe_cmpR op_eq (pv 5) (pv 2) (nomark _)))
          (pe_lstS (pa_cons pe_bl pa_nil))) (nomark _))))))) (pss_one (ps_ret pe_bl))), ?_⟩
    refine ⟨g, x, Er d, rfl, rfl, ask, fun H2 s2 => ⟨true, e.m d h0 h4, fun _ a na => ?_, fun z => by cases z⟩⟩
    refine ⟨_, rfl, Er d, rfl, rfl, e.x d h0 h4, _, .ref (Er 0), _, rfl, fun u h => h, e.k d 0 h0 h4 (by decide) (by decide), _, rfl, Er d, rfl, rfl, e.x d h0 h4, _, .ref (Er 1), _, rfl, fun u h => h, e.k d 1 h0 h4 (by decide) (by decide), _, rfl, Er d, rfl, rfl, e.x d h0 h4, _, .ref (Er 2), _, rfl, fun u h => h, e.k d 2 h0 h4 (by decide) (by decide), (by show 3 ≤ sizeLine; decide), fun G1 l1 s1 n1 e1 => ?_⟩
    refine ⟨_, rfl, _, rfl, Er d, rfl, rfl, e.x d h0 h4, _, .ref (Er 3), _, rfl, fun u h => h, e.k d 3 h0 h4 (by decide) (by decide), _, rfl, Er d, rfl, rfl, e.x d h0 h4, _, .type "ValueError", _, rfl, fun u h => h, e.v d h0 h4, (by show 2 ≤ sizeLine; decide), fun G2 l2 s2' n2 e2 => ?_⟩
    refine ⟨_, _, _, _, rfl, rfl, s2' _ _ e1, e2, (by show 3 + 2 ≤ sizeLine; decide), fun G3 l3 s3 n3 e3 => ?_⟩
    refine ⟨_, rfl, 4, rfl, by decide, by decide, fun D hD => ?_⟩
    refine lc_range (lo := 0) (n := 4) (fun i H' => Same G3 H' ∧ H' D = some (.lst ((([0, 1, 2, 3] : List Int).take i).map fun j => V.bl (decide (V.int j = V.int d))))) ⟨same_upd hD, upd_same⟩ ?_ ?_
    · rintro i H4 hi ⟨s4, hD4⟩
      obtain ⟨kk, ek, hk⟩ := four_turn hi
      rw [ek]
      refine ⟨rfl, ?_⟩
      dsimp only [tYes]
      refine iteT ?_
      refine ⟨_, rfl, _, rfl, rfl, _, hD4, ?_, same_new s4 hD, ?_⟩
      · rw [List.length_map, List.length_take]
        exact Nat.lt_of_le_of_lt (Nat.min_le_right _ _) (by show 4 < sizeLine; decide)
      · rw [upd_same, map_take_next _ hk]
    · rintro H4 ⟨s4, hD4⟩
      have hD4 : H4 D = some (.lst [.bl (decide (V.int 0 = V.int d)), .bl (decide (V.int 1 = V.int d)), .bl (decide (V.int 2 = V.int d)), .bl (decide (V.int 3 = V.int d))]) := hD4
      refine ⟨(by show 1 ≤ sizeLine; decide), fun G5 l5 s5 n5 e5 => ?_⟩
      refine ⟨_, _, _, _, rfl, rfl, s5 _ _ hD4, e5, (by show 4 + 1 ≤ sizeLine; decide), fun G6 l6 s6 n6 e6 => ?_⟩
      have e36 : G6 l3 = some (.lst [.bl (decide (d = 0)), .bl (decide (d = 1)), .bl (decide (d = 2)), .bl (decide (d = 3)), .bl true]) := s6 _ _ (s5 _ _ (s4 _ _ e3))
      have e6 : G6 l6 = some (.lst [.bl (decide (V.int 0 = V.int d)), .bl (decide (V.int 1 = V.int d)), .bl (decide (V.int 2 = V.int d)), .bl (decide (V.int 3 = V.int d)), .bl true]) := e6
      refine ⟨_, _, .lst (.inl (.inl e36)) (.cons (.bl _) (.cons (.bl _) (.cons (.bl _) (.cons (.bl _) (.cons (.bl _) .nil))))), .lst (.inl (.inl e6)) (.cons (.bl _) (.cons (.bl _) (.cons (.bl _) (.cons (.bl _) (.cons (.bl _) .nil))))), shaped_five _ _ _ _ _, shaped_five _ _ _ _ _, ?_⟩
      show Q (.bl (PyData.eqv _ _)) G6
      rw [same_words h0 h4]
      exact k _ (s2.trans (s1.trans (s2'.trans (s3.trans (s4.trans (s5.trans s6))))))
end
section
variable {P : Program} {w : World} {K : PySem.W.Frag} {mg : Str → Option Value} {base : Heap} {f : Addr} {fd : FuncData}
def spAl (P : Program) (w : World) (K : PySem.W.Frag) (mg : Str → Option Value) (base : Heap) (Er : Int → Addr) : Sp := fun vs H Q _ => ∃ (A T : Addr) (d : Int) (as xs : List V), vs = [.ref A, .ref T, .int d] ∧ 0 ≤ d ∧ d < 4 ∧ H A = some (.lst as) ∧ H T = some (.lst xs) ∧ xs.length < sizeLine ∧
  (∀ a ∈ as, ∃ g : Addr, a = .ref g ∧ ∀ x ∈ xs, Ask P w K mg base 7 g H x (Er d)) ∧ ∀ H', Same H H' → Q (.bl true) H'
theorem ok_al {Er : Int → Addr} {fR : Addr} {fdR : FuncData} (F : FnP K "_law_all" sAl f fd) (B : Bl mg) (aR : At K mg "_law_refused" sRe ["_law_ask", "_law_thing", "_law_due"] fR fdR) (GR : FnOk P w K mg base CX0 8 fR fdR ["_law_ask", "_law_thing", "_law_due"] (spRe P w K mg base Er)) :
    FnOk P w K mg base CX0 9 f fd ["_law_asks", "_law_things", "_law_due"] (spAl P w K mg base Er) := by
  refine F.ok scAl (fun vs H Q E h => ?_) (fun cdv A outer s H vs Q E hr h => ?_)
  · obtain ⟨A, T, d, as, xs, rfl, _⟩ := h
    rfl
  · obtain ⟨A, T, d, as, xs, rfl, h0, h4, hA, hT, hlen, hask, k⟩ := h
    refine ⟨_, PSs.nox (pss_cons (ps_for PassesOwn.never rfl (pi_list (pv 0)) (pg_name (i := 3) scAl.nd rfl (.inr rfl)) (pss_one (ps_if (pt_not (pt_val (pe_callB (cr_all rfl) (by rfl) B.all (by decide +kernel) (pa_cons (pe_lc (own := [("_law_thing", 4)]) (g := (gName 4)) (tt := tYes) (te := (tCall (spRe P w K mg base Er) [] E0 (tCons (tVar 3) (tCons (tVar 4) (tCons (tVar 2) tNil))))) rfl scAl.nd (pi_list (pv 1)) (blkOk_by (N := ["_law_asks", "_law_things", "_law_due", "_law_ask", "_law_thing"]) (sc := defScope sAl) (by decide +kernel)) (fun _ _ _ _ _ => (pg_name (i := 4) scAl.nd rfl (.inl rfl))) (fun _ _ _ _ _ => pts_nil) (fun _ _ _ _ _ => (pe_call GR hr (by rfl) aR.g aR.F.kp aR.b .nil pass0 (pa_cons (pv 3) (pa_cons (pv 4) (pa_cons (pv 2) pa_nil)))))) pa_nil)))) (pss_one (ps_ret pe_bl)) pss_nil)))
      (pss_one (ps_ret pe_bl))), ?_⟩
    refine ⟨_, rfl, A, rfl, ⟨_, .inl (.inl hA)⟩, for_list (K := K) (a := A) (xs := as) (fun i σ H' => (∃ v3 v4, σ = [some (.ref A), some (.ref T), some (.int d), v3, v4]) ∧ Same H H') ⟨⟨_, _, rfl⟩, Same.refl _⟩ (fun i σ H' _ h => .inl (.inl (h.2 _ _ hA))) ?_ ?_⟩
    · rintro i a σ H1 ha ⟨⟨v3, v4, rfl⟩, s1⟩
      obtain ⟨g, rfl, hg⟩ := hask a (List.mem_of_getElem? ha)
      refine ⟨_, rfl, T, rfl, ⟨_, .inl (.inl (s1 _ _ hT))⟩, fun D hD => ?_⟩
      refine lc_list (K := K) (a := T) (xs := xs) (fun i H' => Same H1 H' ∧ H' D = some (.lst ((List.replicate i true).map V.bl))) ⟨same_upd hD, upd_same⟩ (fun i H' _ h => .inl (.inl (h.1 _ _ (s1 _ _ hT)))) ?_ ?_
      · rintro j x H2 hx ⟨s2, hD2⟩
        have hj : j < xs.length := (List.getElem?_eq_some_iff.mp hx).1
        refine ⟨rfl, ?_⟩
        dsimp only [tYes]
        refine iteT ?_
        refine ⟨_, rfl, _, rfl, _, rfl, g, x, d, rfl, h0, h4, (hg x (List.mem_of_getElem? hx)).same (s1.trans s2), fun H3 s3 => ⟨_, s3 _ _ hD2, ?_, same_new (s2.trans s3) hD, ?_⟩⟩
        · rw [List.length_map, List.length_replicate]
          omega
        · rw [upd_same, rep_next]
      · rintro H2 ⟨s2, hD2⟩
        refine ⟨D, _, rfl, .inl (.inl hD2), true, ?_, iteF ⟨⟨_, _, rfl⟩, s1.trans s2⟩⟩
        rw [all_rep]
    · rintro σ H1 ⟨⟨v3, v4, rfl⟩, s1⟩
      exact k _ s1
end

section
variable {P : Program} {w : World} {K : PySem.W.Frag} {mg : Str → Option Value} {base : Heap} {f : Addr} {fd : FuncData}
theorem passN {X : Cx} : Passes (L2N.CX X.prog X.w) X E0 := fun _ _ _ _ _ _ _ ⟨_, _, _, _, _, _, _, _, _, _, _, _, z⟩ => z.elim
theorem okC {CX : CXT} {N ps : List Str} {k : Nat} {sp : Sp} {x qual : Str} {params : Arguments} {body : List Stmt} {scope : Scope} {dvs : List V} {kws : List (Str × V)} {c : Addr} (F : FunD K x qual params body scope dvs kws f fd) (hc : fd.code = .ref c)
    (S : FnScope N ps scope) (len : ∀ vs H Q E, sp vs H Q E → vs.length = ps.length)
    (hbody : ∀ (A : Around) (outer : List Env) (s : Shared) (H : Hp) (vs : List V) (Q : VK) (E : XK), Room k (A.deeper (envOfC qual scope s.heap.objs.size f (.ref c))) → sp vs H Q E →
      ∃ t, PSs (cxOf CX P w K mg base N qual scope f (.ref c) A outer s H E) body t ∧ t { nx := fun _ H' => Q .non H', rt := Q } (L2.start N vs) H) : FnOk P w K mg base CX (k + 1) f fd ps sp := by
  obtain ⟨oc, od, dV, kV, doc, pm, an, cdv, ct, osl, rfl, lk, hcd, _, _⟩ := F.ex
  obtain rfl : cdv = .ref c := hc
  exact fn_of lk hcd S len fun A outer s H vs Q E hr hsp => hbody A outer s H vs Q E hr hsp
abbrev sLaw : Stmt := topS 40
theorem scLaw : FnScope ["_law_script", "_law_cell", "_law_more", "_law_bad", "_law_beads", "_law_one", "_law_asks", "_law_pairs", "_law_great"] ["_law_script"] (defScope sLaw) := ⟨rfl, rfl, rfl, by decide +kernel, rfl, by decide +kernel, by decide +kernel⟩
theorem ask_lamS {f c' C : Addr} {H : Hp} {x : V} {k : Nat} {q : Str} {params : Arguments} {body : Expr} {scope : Scope} {N : List Str} {p : Str} (hf : H f = some (LamO f c' ⟨q, params, body, scope⟩)) (hc : H c' = some (CodeO c' q)) (S : FnScope N [p] scope)
    (hb : ∀ (u pm ctv : Value), bindArgs (PySem.W.kla_fn "<lambda>" q params body scope [] pm (.ref c') ctv) ⟨[u], []⟩ = pure ([p].zip [u]))
    (hbody : ∀ (A : Around) (outer : List Env) (s : Shared) (H1 : Hp) (Q : VK) (E : XK), Room k (A.deeper (envOfC q scope s.heap.objs.size f (.ref c'))) → Same H H1 → (∀ H2, Same H1 H2 → E (.ref C) none H2) →
      ∃ t, PE (cxOf (L2N.CX P w) P w K mg base N q scope f (.ref c') A outer s H1 E) body t ∧ t (L2.start N [x]) H1 Q) : Ask P w K mg base (k + 1) f H x C := ask_lam hf hc S hb hbody
theorem few150 {ms : List (Int × Int)} (f : FewRun (0, 150, 150) ms) : ((ms.length : Nat) : Int) = 298 := by
  obtain ⟨g, ha, e⟩ := f
  have h := join_keeps (s := (0, 150, 150)) ⟨by decide, by decide, by decide⟩ g.full
  have h1 := h.2.1
  have e2 : fewest (0, 150, 150) = 2 := by
    unfold fewest
    rw [if_neg (by unfold Alone; decide), if_pos (by decide)]
  rw [e, e2] at h1
  have e3 : sm (0, 150, 150) = 300 := rfl
  rw [e3] at h1
  omega
theorem steps003 : stepsT (0, 0, 300) 2 = some 0 := by
  unfold stepsT
  rw [if_pos ⟨rfl, rfl⟩]
theorem tk003 : tkR (0, 0, 300) 2 = [] := by
  obtain ⟨_, _, e⟩ := tkR_ok (0, 0, 300) 2 0 ⟨by decide, by decide, by decide, by decide⟩ (by decide) (by decide) (by decide) steps003
  exact List.length_eq_zero_iff.mp (by omega)
theorem pairs_nil {H : Hp} {L : Addr} (h : PairsT K H L []) : H L = some (.lst []) := by
  obtain ⟨rs, hL, hp⟩ := h
  have e : rs = [] := List.length_eq_zero_iff.mp (by rw [Paired.length hp]; rfl)
  rw [hL, e]
  rfl
theorem cut_ints {ns : List Int} {lo hi : Option Int} : ∀ x ∈ cutV (ns.map V.int) lo hi, ∃ z : Int, x = .int z := fun x hx => by
  unfold cutV at hx
  obtain ⟨z, _, e⟩ := List.mem_map.mp (List.mem_of_mem_drop (List.mem_of_mem_take hx))
  exact ⟨z, e.symm⟩
def qL : Str := (("law" : Str) ++ ".<locals>.") ++ "<lambda>"
def spLaw (K : PySem.W.Frag) (T : List (Addr × Str)) : Sp := fun vs H Q _ => ∃ (p : Addr) (ns : List Int), vs = [.ref p] ∧ SqL K H p (ns.map V.int) ∧ ns.length ≤ 63 ∧ Tabs T H ∧ ∀ H', Q (.bl true) H'
theorem ok_law {c Pt fS fL fF fTf fTk fJ fT fAo fA CA CB : Addr} {fdS fdL fdF fdTf fdTk fdJ fdT fdAo fdA : FuncData} {Er : Int → Addr} (F : FnP K "law" sLaw f fd) (hc : fd.code = .ref c) (TB : TabB base mg c Pt) (B : Bl mg)
    (aS : At K mg "meetings" sMeet ["beads"] fS fdS) (GS : FnOk P w K mg base (L2N.CX P w) 4 fS fdS ["beads"] (spMs K (Er 0)))
    (aL : At K mg "last_kinds" sLk ["beads"] fL fdL) (GL : FnOk P w K mg base (L2N.CX P w) 5 fL fdL ["beads"] (spLk K (Er 0)))
    (aF : At K mg "fewest_left" sFl ["beads"] fF fdF) (GF : FnOk P w K mg base (L2N.CX P w) 6 fF fdF ["beads"] (spFl K (Er 0)))
    (aTf : At K mg "to_fewest" sTf ["beads"] fTf fdTf) (GTf : FnOk P w K mg base (L2N.CX P w) 6 fTf fdTf ["beads"] (spTf K (Er 0) (Er 3)))
    (aJ : At K mg "joined" sJoin ["beads", "meeting"] fJ fdJ) (GJ : FnOk P w K mg base (L2N.CX P w) 5 fJ fdJ ["beads", "meeting"] (spMet K (Er 0) (Er 1) 1))
    (aT : At K mg "turned" sTurn ["beads", "meeting"] fT fdT) (GT : FnOk P w K mg base (L2N.CX P w) 5 fT fdT ["beads", "meeting"] (spMet K (Er 0) (Er 1) 2))
    (aAo : At K mg "all_of" sAo ["beads", "kind"] fAo fdAo) (GAo : FnOk P w K mg base (L2N.CX P w) 6 fAo fdAo ["beads", "kind"] (spAo K (Er 0) (Er 2) CA CB))
    (aTk : At K mg "to_kind" sTk ["beads", "kind"] fTk fdTk) (GTk : FnOk P w K mg base (L2N.CX P w) 6 fTk fdTk ["beads", "kind"] (spTk K (Er 0) (Er 2) (Er 3) tkR))
    (aA : At K mg "_law_all" sAl ["_law_asks", "_law_things", "_law_due"] fA fdA) (GA : FnOk P w K mg base CX0 9 fA fdA ["_law_asks", "_law_things", "_law_due"] (spAl P w K mg base Er)) :
    FnOk P w K mg base CX0 10 f fd ["_law_script"] (spLaw K [(Pt, qL)]) := by
  refine okC F hc scLaw (fun vs H Q E h => ?_) (fun A outer s H vs Q E hr h => ?_)
  · obtain ⟨p, ns, rfl, _⟩ := h
    rfl
  · obtain ⟨p, ns, rfl, hS, hlen, hT0, k⟩ := h
    have r4 : Room 4 _ := hr.mono (by decide)
    have r5 : Room 5 _ := hr.mono (by decide)
    have r6 : Room 6 _ := hr.mono (by decide)
    have r9 : Room 9 _ := hr
    have hcode : (envOfC "law" (defScope sLaw) s.heap.objs.size f (.ref c)).code = .ref c := by rfl
    have hmT : (Pt, qL) ∈ [(Pt, qL)] := List.mem_cons_self
    have huT : ∀ p ∈ [(Pt, qL)], p.1 = Pt → p.2 = qL := fun p hp _ => by
      rw [List.mem_singleton] at hp
      rw [hp]
    refine ⟨_, PSs.nox (pss_cons (ps_for PassesOwn.never rfl (pi_list (pe_op op_catS (pe_slice sl_list (pv 0) po_none (po_some pe_int)) (pe_lstS (pa_cons (pe_callB call_len_seq (by rfl) B.len PySem.boot_len (pa_cons (pv 0) pa_nil)) pa_nil)))) (pg_name (i := 1) scLaw.nd rfl (.inl rfl)) (pss_cons (ps_set (i := 2) scLaw.nd rfl (.inl rfl) (pe_op op_mod (pe_callB call_abs (by rfl) B.abs (by decide +kernel) (pa_cons (pv 1) pa_nil)) (pe_op op_pow pe_int pe_int)))
      (pss_cons (ps_set (i := 3) scLaw.nd rfl (.inl rfl) (pe_lstS (pa_cons pe_non (pa_cons pe_str (pa_cons pe_bl (pa_cons pe_bl (pa_cons (pe_lstS (pa_cons pe_int pa_nil)) (pa_cons (pe_tupS (pa_cons pe_int pa_nil)) (pa_cons pe_dnewS (pa_cons (pe_un un_neg pe_int) (pa_cons (pe_op op_sub (pe_un un_neg pe_int) (pv 2)) pa_nil)))))))))))
      (pss_cons (ps_set (i := 4) scLaw.nd rfl (.inl rfl) (pe_lstS (pa_cons pe_non (pa_cons pe_int (pa_cons (pe_tupS pa_nil) (pa_cons (pe_tupS (pa_cons pe_int (pa_cons pe_int pa_nil))) (pa_cons (pe_tupS (pa_cons pe_int (pa_cons pe_int (pa_cons pe_int (pa_cons pe_int pa_nil))))) (pa_cons (pe_lstS (pa_cons pe_int (pa_cons pe_int (pa_cons pe_int pa_nil)))) (pa_cons pe_str (pa_cons pe_dnewS (pa_cons (pe_tupS (pa_cons pe_int (pa_cons pe_int (pa_cons pe_int pa_nil)))) (pa_cons (pe_tupS (pa_cons (pv 2) (pa_cons (pv 2) pa_nil))) pa_nil))))))))))))
      (pss_cons (ps_for PassesOwn.never rfl (pi_list (pv 3)) (pg_name (i := 5) scLaw.nd rfl (.inl rfl)) (pss_one (ps_expr (pe_bm PySem.F.plainAttrs_list PySem.F.slot_list_extend PySem.F.type_list_extend mt_extend (pv 4) (pa_cons (pe_lstS (pa_cons (pe_tupS (pa_cons (pv 5) (pa_cons pe_int (pa_cons pe_int pa_nil)))) (pa_cons (pe_tupS (pa_cons pe_int (pa_cons (pv 5) (pa_cons pe_int pa_nil)))) (pa_cons (pe_tupS (pa_cons pe_int (pa_cons pe_int (pa_cons (pv 5) pa_nil)))) pa_nil)))) pa_nil)))))
      (pss_cons (ps_set (i := 6) scLaw.nd rfl (.inl rfl) (pe_lstS (pa_cons (pe_glob (v := .ref fS) (by rfl) aS.g rfl) (pa_cons (pe_glob (v := .ref fL) (by rfl) aL.g rfl) (pa_cons (pe_glob (v := .ref fF) (by rfl) aF.g rfl) (pa_cons (pe_glob (v := .ref fTf) (by rfl) aTf.g rfl) (pa_cons (pe_lam TB hcode hmT huT (by rfl) (fun _ => rfl) (by decide +kernel)) pa_nil)))))))
      (pss_cons (ps_set (i := 6) scLaw.nd rfl (.inl rfl) (pe_op op_catS (pv 6) (pe_lstS (pa_cons (pe_lam TB hcode hmT huT (by rfl) (fun _ => rfl) (by decide +kernel)) (pa_cons (pe_lam TB hcode hmT huT (by rfl) (fun _ => rfl) (by decide +kernel)) (pa_cons (pe_lam TB hcode hmT huT (by rfl) (fun _ => rfl) (by decide +kernel)) pa_nil))))))
      (pss_cons (ps_if (pt_not (pt_val (pe_call GA r9 (by rfl) aA.g aA.F.kp aA.b .nil pass0 (pa_cons (pv 6) (pa_cons (pv 4) (pa_cons pe_int pa_nil)))))) (pss_one (ps_ret pe_bl)) pss_nil)
      (pss_cons (ps_set (i := 7) scLaw.nd rfl (.inl rfl) (pe_lstS (pa_cons pe_non (pa_cons pe_int (pa_cons (pe_tupS pa_nil) (pa_cons (pe_tupS (pa_cons pe_int pa_nil)) (pa_cons (pe_tupS (pa_cons pe_int (pa_cons pe_int (pa_cons pe_int pa_nil)))) (pa_cons (pe_lstS (pa_cons pe_int (pa_cons pe_int pa_nil))) (pa_cons pe_str (pa_cons pe_dnewS (pa_cons (pe_tupS (pa_cons pe_int (pa_cons pe_int pa_nil))) (pa_cons (pe_tupS (pa_cons pe_int (pa_cons pe_int pa_nil))) (pa_cons (pe_tupS (pa_cons pe_int (pa_cons pe_int pa_nil))) (pa_cons (pe_tupS (pa_cons (pe_un un_neg pe_int) (pa_cons pe_int pa_nil))) pa_nil))))))))))))))
      (pss_cons (ps_set (i := 7) scLaw.nd rfl (.inl rfl) (pe_op op_catS (pv 7) (pe_lstS (pa_cons (pe_tupS (pa_cons pe_int (pa_cons pe_int pa_nil))) (pa_cons (pe_tupS (pa_cons pe_int (pa_cons pe_int pa_nil))) (pa_cons (pe_tupS (pa_cons pe_int (pa_cons pe_int pa_nil))) pa_nil))))))
      (pss_cons (ps_for PassesOwn.never rfl (pi_list (pv 3)) (pg_name (i := 5) scLaw.nd rfl (.inl rfl)) (pss_one (ps_expr (pe_bm PySem.F.plainAttrs_list PySem.F.slot_list_extend PySem.F.type_list_extend mt_extend (pv 7) (pa_cons (pe_lstS (pa_cons (pe_tupS (pa_cons (pv 5) (pa_cons pe_int pa_nil))) (pa_cons (pe_tupS (pa_cons pe_int (pa_cons (pv 5) pa_nil))) pa_nil))) pa_nil)))))
      (pss_cons (ps_expr (pe_bm PySem.F.plainAttrs_list PySem.F.slot_list_extend PySem.F.type_list_extend mt_extend (pv 7) (pa_cons (pe_lstS (pa_cons (pe_tupS (pa_cons pe_int (pa_cons (pe_op op_add pe_int (pv 2)) pa_nil))) (pa_cons (pe_tupS (pa_cons pe_int (pa_cons (pe_op op_add pe_int (pv 2)) pa_nil))) pa_nil))) pa_nil)))
      (pss_cons (ps_set (i := 6) scLaw.nd rfl (.inl rfl) (pe_lstS (pa_cons (pe_lam TB hcode hmT huT (by rfl) (fun _ => rfl) (by decide +kernel)) (pa_cons (pe_lam TB hcode hmT huT (by rfl) (fun _ => rfl) (by decide +kernel)) pa_nil))))
      (pss_cons (ps_if (pt_not (pt_val (pe_call GA r9 (by rfl) aA.g aA.F.kp aA.b .nil pass0 (pa_cons (pv 6) (pa_cons (pv 7) (pa_cons pe_int pa_nil)))))) (pss_one (ps_ret pe_bl)) pss_nil)
      (pss_cons (ps_set (i := 6) scLaw.nd rfl (.inl rfl) (pe_lstS (pa_cons (pe_lam TB hcode hmT huT (by rfl) (fun _ => rfl) (by decide +kernel)) (pa_cons (pe_lam TB hcode hmT huT (by rfl) (fun _ => rfl) (by decide +kernel)) pa_nil))))
      (pss_cons (ps_if (pt_not (pt_val (pe_call GA r9 (by rfl) aA.g aA.F.kp aA.b .nil pass0 (pa_cons (pv 6) (pa_cons (pe_op op_catS (pv 3) (pe_lstS (pa_cons pe_int (pa_cons (pe_op op_add pe_int (pv 2)) (pa_cons pe_str pa_nil))))) (pa_cons pe_int pa_nil)))))) (pss_one (ps_ret pe_bl)) pss_nil)
      (pss_cons (ps_set (i := 8) scLaw.nd rfl (.inl rfl) (pe_lstS (pa_cons (pe_tupS (pa_cons pe_int (pa_cons pe_int (pa_cons pe_int pa_nil)))) (pa_cons (pe_tupS (pa_cons pe_int (pa_cons pe_int (pa_cons pe_int pa_nil)))) (pa_cons (pe_tupS (pa_cons (pe_op op_add (pv 2) pe_int) (pa_cons pe_int (pa_cons pe_int pa_nil)))) pa_nil)))))
      (pss_one (ps_if (pt_not (pt_val (pe_call GA r9 (by rfl) aA.g aA.F.kp aA.b .nil pass0 (pa_cons (pe_lstS (pa_cons (pe_glob (v := .ref fTf) (by rfl) aTf.g rfl) (pa_cons (pe_lam TB hcode hmT huT (by rfl) (fun _ => rfl) (by decide +kernel)) pa_nil))) (pa_cons (pv 8) (pa_cons pe_int pa_nil)))))) (pss_one (ps_ret pe_bl)) pss_nil)))))))))))))))))))
      (pss_one (ps_ret (pe_and (pe_cmpR op_eq (pe_callB call_len_seq (by rfl) B.len PySem.boot_len (pa_cons (pe_call GTf r6 (by rfl) aTf.g aTf.F.kp aTf.b .nil passN (pa_cons (pe_tupS (pa_cons pe_int (pa_cons pe_int (pa_cons pe_int pa_nil)))) pa_nil)) pa_nil)) pe_int (nomark _)) (pe_and (pe_cmpR (op_eqD hr.units) (pe_call GTk r6 (by rfl) aTk.g aTk.F.kp aTk.b .nil passN (pa_cons (pe_tupS (pa_cons pe_int (pa_cons pe_int (pa_cons pe_int pa_nil)))) (pa_cons pe_int pa_nil))) (pe_lstS pa_nil) (nomark _)) (pe_one (pe_cmpR (op_eqD hr.units) (pe_call GS r4 (by rfl) aS.g aS.F.kp aS.b .nil passN (pa_cons (pe_tupS (pa_cons pe_int (pa_cons pe_int (pa_cons pe_int pa_nil)))) pa_nil)) (pe_lstS pa_nil) (nomark _)))))))), ?_⟩
    refine ⟨_, rfl, _, rfl, p, _, rfl, hS, fun a0 ha0 => ?_⟩
    have hS1 : SqL K (upd H a0 (.lst (cutV (ns.map V.int) none (some 8)))) p (ns.map V.int) := (same_upd ha0).seq hS
    have T1 : Tabs [(Pt, qL)] (upd H a0 (.lst (cutV (ns.map V.int) none (some 8)))) := hT0.ext (same_upd ha0)
    have e0 : (upd H a0 (.lst (cutV (ns.map V.int) none (some 8)))) a0 = some (.lst (cutV (ns.map V.int) none (some 8))) := upd_same
    have hi : ∀ x ∈ cutV (ns.map V.int) none (some 8), ∃ z : Int, x = .int z := cut_ints
    have hl : (cutV (ns.map V.int) none (some 8)).length ≤ 63 := Nat.le_trans (cutV_length _ _ _) (by rw [List.length_map]; exact hlen)
    generalize cutV (ns.map V.int) none (some 8) = cs at hS1 T1 e0 hi hl ⊢
    generalize upd H a0 (.lst cs) = H1 at hS1 T1 e0 ⊢
    refine ⟨_, rfl, p, _, rfl, .inl hS1, ?_⟩
    refine ⟨(by show 1 ≤ sizeLine; decide), fun H2 b2 s2 n2 e2 => ?_⟩
    refine ⟨_, _, _, _, rfl, rfl, s2 _ _ e0, e2, (by show cs.length + 1 ≤ sizeLine; exact Nat.le_trans (Nat.succ_le_succ hl) (by decide)), fun H3 L3 s3 n3 e3 => ?_⟩
    have TS3 : Tabs [(Pt, qL)] H3 := T1.ext (s2.trans s3)
    refine ⟨L3, rfl, ⟨_, .inl (.inl e3)⟩, for_list (K := K) (a := L3) (xs := cs ++ [V.int ((ns.map V.int).length : Nat)]) (fun i σ H' => (∃ v1 v2 v3 v4 v5 v6 v7 v8, σ = [some (.ref p), v1, v2, v3, v4, v5, v6, v7, v8]) ∧ ExtN H3 H' ∧ Tabs [(Pt, qL)] H') ⟨⟨_, _, _, _, _, _, _, _, rfl⟩, ExtN.refl _, TS3⟩ (fun i σ H' _ h => .inl (.inl (h.2.1 _ _ e3 (notbl True.intro)))) ?_ ?_⟩
    · rintro i x σ G0 hx ⟨⟨v1, v2, v3, v4, v5, v6, v7, v8, rfl⟩, x0, T0⟩
      obtain ⟨z, rfl⟩ : ∃ z : Int, x = .int z := by
        rcases List.mem_append.mp (List.mem_of_getElem? hx) with q | q
        · exact hi x q
        · exact ⟨_, List.mem_singleton.mp q⟩
      -- S1: more
      refine ⟨_, rfl, _, rfl, _, _, rfl, rfl, ⟨by decide, by decide, by decide⟩, _, _, rfl, rfl, (by show (0 : Int) < 10 ^ (20 : Int).toNat; decide), ?_⟩
      have m0 : 0 ≤ (if z < 0 then -z else z) % (10 : Int) ^ (20 : Int).toNat := Int.emod_nonneg _ (by decide)
      change gName 2 (V.int ((if z < 0 then -z else z) % (10 : Int) ^ (20 : Int).toNat)) _ _ _
      generalize (if z < 0 then -z else z) % (10 : Int) ^ (20 : Int).toNat = m at m0 ⊢
      -- S2: the bad list
      refine ⟨(by show 1 ≤ sizeLine; decide), fun A1 q1 sa1 na1 ea1 => ⟨(by show 1 ≤ sizeLine; decide), fun A2 q2 sa2 na2 ea2 => fun A3 q3 sa3 na3 ea3 => ⟨_, rfl, _, rfl, _, rfl, _, _, rfl, rfl, (by show 9 ≤ sizeLine; decide), fun A4 q4 sa4 na4 ea4 => ?_⟩⟩⟩
      have hbad : ∀ x ∈ [V.non, .str "1", .bl true, .bl false, .ref q1, .ref q2, .ref q3, .int (-1), .int (-1 - m)], Odd K A4 x := fun x hx => by
        simp only [List.mem_cons, List.mem_nil_iff, or_false] at hx
        rcases hx with rfl | rfl | rfl | rfl | rfl | rfl | rfl | rfl | rfl
        · exact nx_ty (.base .non) (by decide +kernel) (by decide +kernel)
        · exact nx_ty (.base (.str _)) (by decide +kernel) (by decide +kernel)
        · exact nx_bl _
        · exact nx_bl _
        · exact nx_ty (.base (.lst (sa4 _ _ (sa3 _ _ (sa2 _ _ ea1))))) (by decide +kernel) (by decide +kernel)
        · exact nx_ty (ty_tupT (tup_same (sa3.trans sa4) ea2.sq)) (by decide +kernel) (by decide +kernel)
        · exact nx_ty (.base (.dK (sa4 _ _ ea3))) (by decide +kernel) (by decide +kernel)
        · exact nx_neg (by decide)
        · exact nx_neg (by omega)
      have x4 : ExtN H3 A4 := x0.trans (ExtN.of (sa1.trans (sa2.trans (sa3.trans sa4))))
      have T4 : Tabs [(Pt, qL)] A4 := T0.ext (sa1.trans (sa2.trans (sa3.trans sa4)))
      clear sa1 sa2 sa3 sa4 na1 na2 na3 na4 ea1 ea2 ea3
      obtain ⟨bad, ebd, hbl⟩ : ∃ bad : List V, bad = [V.non, .str "1", .bl true, .bl false, .ref q1, .ref q2, .ref q3, .int (-1), .int (-1 - m)] ∧ bad.length = 9 := ⟨_, rfl, rfl⟩
      have eb4 : A4 q4 = some (.lst bad) := by rw [ebd]; exact ea4
      rw [← ebd] at hbad
      clear ea4 ebd
      -- S3: what are no beads
      refine ⟨Nat.zero_le _, fun B1 b1 sb1 nb1 eb1 => ⟨(by show 2 ≤ sizeLine; decide), fun B2 b2 sb2 nb2 eb2 => ⟨(by show 4 ≤ sizeLine; decide), fun B3 b3 sb3 nb3 eb3 => ⟨(by show 3 ≤ sizeLine; decide), fun B4 b4 sb4 nb4 eb4' => fun B5 b5 sb5 nb5 eb5 => ⟨(by show 3 ≤ sizeLine; decide), fun B6 b6 sb6 nb6 eb6 =>
        ⟨_, rfl, _, rfl, (by show 2 ≤ sizeLine; decide), fun B7 b7 sb7 nb7 eb7 => ⟨(by show 10 ≤ sizeLine; decide), fun B8 L sb8 nb8 eb8 => ?_⟩⟩⟩⟩⟩⟩⟩
      have hbd : ∀ x ∈ [V.non, .int 5, .ref b1, .ref b2, .ref b3, .ref b4, .str "123", .ref b5, .ref b6, .ref b7], BX K B7 x false := fun x hx => by
        simp only [List.mem_cons, List.mem_nil_iff, or_false] at hx
        rcases hx with rfl | rfl | rfl | rfl | rfl | rfl | rfl | rfl | rfl | rfl
        · exact .inl ⟨not_of (.base .non) (by decide +kernel), rfl⟩
        · exact .inl ⟨not_of (.base (.int _)) (by decide +kernel), rfl⟩
        · exact .inr (.inl ⟨_, _, rfl, tup_same (sb2.trans (sb3.trans (sb4.trans (sb5.trans (sb6.trans sb7))))) eb1.sq, by decide, rfl⟩)
        · exact .inr (.inl ⟨_, _, rfl, tup_same (sb3.trans (sb4.trans (sb5.trans (sb6.trans sb7)))) eb2.sq, (by show 2 ≠ 3; decide), rfl⟩)
        · exact .inr (.inl ⟨_, _, rfl, tup_same (sb4.trans (sb5.trans (sb6.trans sb7))) eb3.sq, (by show 4 ≠ 3; decide), rfl⟩)
        · exact .inl ⟨not_of (.base (.lst (sb7 _ _ (sb6 _ _ (sb5 _ _ eb4'))))) (by decide +kernel), rfl⟩
        · exact .inl ⟨not_of (.base (.str _)) (by decide +kernel), rfl⟩
        · exact .inl ⟨not_of (.base (.dK (sb7 _ _ (sb6 _ _ eb5)))) (by decide +kernel), rfl⟩
        · exact .inr (.inr ⟨_, _, _, _, _, _, _, rfl, tup_same sb7 eb6.sq, nx_one (by decide), nx_one (by decide), nx_one (by decide), rfl⟩)
        · exact .inr (.inl ⟨_, _, rfl, eb7.sq, (by show 2 ≠ 3; decide), rfl⟩)
      have s47 : Same A4 B7 := sb1.trans (sb2.trans (sb3.trans (sb4.trans (sb5.trans (sb6.trans sb7)))))
      have g0 : Grow K [] B7 B8 L (fun H x => BX K H x false) 10 := ⟨⟨_, eb8, rfl, fun x hx => (hbd x hx).ext (ExtN.of (er_new sb8 nb8))⟩, er_new sb8 nb8, nb8⟩
      have hbad7 : ∀ x ∈ bad, Odd K B7 x := fun x hx => (hbad x hx).ext (ExtN.of s47)
      have eb7' : B7 q4 = some (.lst bad) := s47 _ _ eb4
      have x7 : ExtN H3 B7 := x4.trans (ExtN.of s47)
      have T7 : Tabs [(Pt, qL)] B7 := T4.ext s47
      clear hbd eb8 sb1 sb2 sb3 sb4 sb5 sb6 sb7 nb1 nb2 nb3 nb4 nb5 nb6 nb7 eb1 eb2 eb3 eb4' eb5 eb6 eb7 sb8 nb8 hbad eb4 s47 x4 T4
      -- S4: three more for each of the bad
      refine ⟨_, rfl, q4, rfl, ⟨_, .inl (.inl (er_le _ _ (g0.s _ _ eb7')))⟩, for_list (K := K) (a := q4) (xs := bad) (fun i σ H' => (∃ v5, σ = [some (.ref p), some (.int z), some (.int m), some (.ref q4), some (.ref L), v5, v6, v7, v8]) ∧ Grow K [] B7 H' L (fun H x => BX K H x false) (10 + 3 * i)) ⟨⟨_, rfl⟩, g0⟩ (fun i σ H' _ h => .inl (.inl (er_le _ _ (h.2.s _ _ eb7')))) ?_ ?_⟩
      · rintro j x σ U0 hx ⟨⟨w5, rfl⟩, g⟩
        have od := hbad7 x (List.mem_of_getElem? hx)
        have hj : j < 9 := hbl ▸ (List.getElem?_eq_some_iff.mp hx).1
        obtain ⟨ys, hys, _, _⟩ := g.ex
        refine ⟨_, rfl, .inl ⟨rfl, _, SqL.of hys⟩, _, rfl, (by show 3 ≤ sizeLine; decide), fun U1 t1 u1 m1 f1 => ⟨_, rfl, (by show 3 ≤ sizeLine; decide), fun U2 t2 u2 m2 f2 => ⟨_, rfl, (by show 3 ≤ sizeLine; decide), fun U3 t3 u3 m3 f3 => ⟨(by show 3 ≤ sizeLine; decide), fun U4 l4 u4 m4 f4 => ?_⟩⟩⟩⟩
        have g4 := Grow.same (K := K) (R := fun H x => BX K H x false) (fun y h => BX.ext y h) g (u1.trans (u2.trans (u3.trans u4)))
        obtain ⟨ys4, hys4, _, _⟩ := id g4.ex
        have od4 : Odd K (er U4 L) x := od.ext (ExtN.of g4.s)
        obtain ⟨xs, hxs, hxl, g5⟩ := g4.app (b := l4) (zs := [.ref t1, .ref t2, .ref t3]) (m := 3) f4 rfl (fun q hq => by
          simp only [List.mem_cons, List.mem_nil_iff, or_false] at hq
          rcases hq with rfl | rfl | rfl
          · exact bx_three (er_sqT (tup_same (u2.trans (u3.trans u4)) f1.sq) hys4) od4.1 (nx_one (by decide)) (nx_one (by decide)) (.inl rfl)
          · exact bx_three (er_sqT (tup_same (u3.trans u4) f2.sq) hys4) (nx_one (by decide)) od4.1 (nx_one (by decide)) (.inr (.inl rfl))
          · exact bx_three (er_sqT (tup_same u4 f3.sq) hys4) (nx_one (by decide)) (nx_one (by decide)) od4.1 (.inr (.inr rfl)))
        refine ⟨L, l4, xs, _, rfl, rfl, hxs, f4, ?_, ⟨_, rfl⟩, g5⟩
        rw [hxl]
        exact Nat.le_trans (Nat.add_le_add_right (Nat.add_le_add_left (Nat.mul_le_mul_left 3 (Nat.le_of_lt hj)) 10) 3) (by decide)
      · rintro σ V0 ⟨⟨v5, rfl⟩, g⟩
        rw [hbl] at g
        obtain ⟨xs, hxs, hxl, hxB⟩ := g.ex
        have hxB0 : ∀ x ∈ xs, BX K V0 x false := fun x hx => (hxB x hx).ext (ExtN.of er_le)
        have sV : Same B7 V0 := g.s.trans er_le
        have hbadV : ∀ x ∈ bad, Odd K V0 x := fun x hx => (hbad7 x hx).ext (ExtN.of sV)
        have ebV : V0 q4 = some (.lst bad) := sV _ _ eb7'
        have xV : ExtN H3 V0 := x7.trans (ExtN.of sV)
        have TV : Tabs [(Pt, qL)] V0 := T7.ext sV
        clear g0 hbad7 eb7' x7 T7 sV hxB g
        -- S5
        refine ⟨TV, fun g1 c1 V1 y1 TV1 ng1 eg1 ec1 => ⟨(by show 5 ≤ sizeLine; decide), fun V2 l2 sv2 nv2 ev2 => ?_⟩⟩
        -- S6
        refine ⟨_, rfl, TV1.ext sv2, fun g2 c2 V3 y3 TV3 ng2 eg2 ec2 => ⟨TV3, fun g3 c3 V4 y4 TV4 ng3 eg3 ec3 => ⟨TV4, fun g4 c4 V5 y5 TV5 ng4 eg4 ec4 => ⟨(by show 3 ≤ sizeLine; decide), fun V6 l6 sv6 nv6 ev6 => ?_⟩⟩⟩⟩
        refine ⟨_, _, _, _, rfl, rfl, sv6 _ _ (y5 _ _ (y4 _ _ (y3 _ _ ev2 (notbl True.intro)) (notbl True.intro)) (notbl True.intro)), ev6, (by show 5 + 3 ≤ sizeLine; decide), fun V7 L7 sv7 nv7 ev7 => ?_⟩
        -- S7
        have z17 : ExtN V1 V7 := (ExtN.of sv2).trans (y3.trans (y4.trans (y5.trans ((ExtN.of sv6).trans (ExtN.of sv7)))))
        have z37 : ExtN V3 V7 := y4.trans (y5.trans ((ExtN.of sv6).trans (ExtN.of sv7)))
        have z47 : ExtN V4 V7 := y5.trans ((ExtN.of sv6).trans (ExtN.of sv7))
        have z57 : ExtN V5 V7 := (ExtN.of sv6).trans (ExtN.of sv7)
        have z07 : ExtN V0 V7 := y1.trans z17
        refine ⟨_, rfl, _, rfl, L7, L, 0, _, xs, rfl, by decide, by decide, ev7, z07 _ _ hxs (notbl True.intro), (by rw [hxl]; decide), fun a ha => ?_, fun W0 sw0 => ⟨true, rfl, iteF ?_⟩⟩
        · have ha : a ∈ [V.ref fS, .ref fL, .ref fF, .ref fTf, .ref g1, .ref g2, .ref g3, .ref g4] := ha
          simp only [List.mem_cons, List.mem_nil_iff, or_false] at ha
          have key : ∀ x ∈ xs, BX K V7 x false := fun x hx => (hxB0 x hx).ext z07
          clear hxB0 hbadV xV TV TV1 TV3 TV4 TV5 ev2 ev6 ev7 e3 TS3 x0 T0
          rcases ha with rfl | rfl | rfl | rfl | rfl | rfl | rfl | rfl
          · refine ⟨_, rfl, fun x hx0 => ?_⟩
            have hx := key x hx0
            exact ask_fn aS GS (by decide) rfl fun H1 Q E z hE => ⟨x, rfl, .inl ⟨hx.ext (ExtN.of z), hE _ (Same.refl _)⟩⟩
          · refine ⟨_, rfl, fun x hx0 => ?_⟩
            have hx := key x hx0
            exact ask_fn aL GL (by decide) rfl fun H1 Q E z hE => ⟨x, rfl, .inl ⟨hx.ext (ExtN.of z), hE _ (Same.refl _)⟩⟩
          · refine ⟨_, rfl, fun x hx0 => ?_⟩
            have hx := key x hx0
            exact ask_fn aF GF (by decide) rfl fun H1 Q E z hE => ⟨x, rfl, .inl ⟨hx.ext (ExtN.of z), hE _ (Same.refl _)⟩⟩
          · refine ⟨_, rfl, fun x hx0 => ?_⟩
            have hx := key x hx0
            exact ask_fn aTf GTf (by decide) rfl fun H1 Q E z hE => ⟨x, rfl, .inl ⟨hx.ext (ExtN.of z), hE _ (Same.refl _)⟩⟩
          · refine ⟨_, rfl, fun x hx0 => ?_⟩
            have hx := key x hx0
            exact ask_lamS (N := ["_law_one"]) (p := "_law_one") (z17 _ _ eg1 (lamO_ne)) (z17 _ _ ec1 codeO_ne) ⟨rfl, rfl, rfl, by decide +kernel, rfl, by decide +kernel, by decide +kernel⟩ (fun _ _ _ => rfl) fun A outer s H1 Q E hr' z hE => ⟨_, pe_call GJ (hr'.mono (by decide)) (by rfl) aJ.g aJ.F.kp aJ.b .nil (L2N.passes_call (L2N.takes_of rfl rfl rfl rfl) (fun _ _ _ _ h => h)) (pa_cons (pv 0) (pa_cons pe_non pa_nil)), ⟨x, rfl, x, .non, rfl, .inl ⟨hx.ext (ExtN.of z), hE _ (Same.refl _)⟩⟩⟩
          · refine ⟨_, rfl, fun x hx0 => ?_⟩
            have hx := key x hx0
            exact ask_lamS (N := ["_law_two"]) (p := "_law_two") (z37 _ _ eg2 (lamO_ne)) (z37 _ _ ec2 codeO_ne) ⟨rfl, rfl, rfl, by decide +kernel, rfl, by decide +kernel, by decide +kernel⟩ (fun _ _ _ => rfl) fun A outer s H1 Q E hr' z hE => ⟨_, pe_call GT (hr'.mono (by decide)) (by rfl) aT.g aT.F.kp aT.b .nil (L2N.passes_call (L2N.takes_of rfl rfl rfl rfl) (fun _ _ _ _ h => h)) (pa_cons (pv 0) (pa_cons pe_non pa_nil)), ⟨x, rfl, x, .non, rfl, .inl ⟨hx.ext (ExtN.of z), hE _ (Same.refl _)⟩⟩⟩
          · refine ⟨_, rfl, fun x hx0 => ?_⟩
            have hx := key x hx0
            exact ask_lamS (N := ["_law_this"]) (p := "_law_this") (z47 _ _ eg3 (lamO_ne)) (z47 _ _ ec3 codeO_ne) ⟨rfl, rfl, rfl, by decide +kernel, rfl, by decide +kernel, by decide +kernel⟩ (fun _ _ _ => rfl) fun A outer s H1 Q E hr' z hE => ⟨_, pe_call GAo (hr'.mono (by decide)) (by rfl) aAo.g aAo.F.kp aAo.b .nil (L2N.passes_call (L2N.takes_of rfl rfl rfl rfl) (fun _ _ _ _ h => h)) (pa_cons (pv 0) (pa_cons pe_non pa_nil)), ⟨x, rfl, x, .non, rfl, .inl ⟨hx.ext (ExtN.of z), hE _ (Same.refl _)⟩⟩⟩
          · refine ⟨_, rfl, fun x hx0 => ?_⟩
            have hx := key x hx0
            exact ask_lamS (N := ["_law_that"]) (p := "_law_that") (z57 _ _ eg4 (lamO_ne)) (z57 _ _ ec4 codeO_ne) ⟨rfl, rfl, rfl, by decide +kernel, rfl, by decide +kernel, by decide +kernel⟩ (fun _ _ _ => rfl) fun A outer s H1 Q E hr' z hE => ⟨_, pe_call GTk (hr'.mono (by decide)) (by rfl) aTk.g aTk.F.kp aTk.b .nil (L2N.passes_call (L2N.takes_of rfl rfl rfl rfl) (fun _ _ _ _ h => h)) (pa_cons (pv 0) (pa_cons pe_non pa_nil)), ⟨x, rfl, x, .non, rfl, .inl ⟨hx.ext (ExtN.of z), hE _ (Same.refl _)⟩⟩⟩
        have TW : Tabs [(Pt, qL)] W0 := TV5.ext (sv6.trans (sv7.trans sw0))
        have z0 : ExtN V0 W0 := z07.trans (ExtN.of sw0)
        have hbadW : ∀ x ∈ bad, Odd K W0 x := fun x hx => (hbadV x hx).ext z0
        have ebW : W0 q4 = some (.lst bad) := z0 _ _ ebV (notbl True.intro)
        have xW : ExtN H3 W0 := xV.trans z0
        clear hxB0 hbadV ebV xV TV TV1 TV3 TV4 TV5 ev2 ev6 ev7 eg1 eg2 eg3 eg4 ec1 ec2 ec3 ec4 ng1 ng2 ng3 ng4 y1 y3 y4 y5 sv2 sv6 sv7 nv2 nv6 nv7 sw0 z07 z17 z37 z47 z57 z0 x0 T0 hxs
        -- S8
        refine ⟨Nat.zero_le _, fun C1 p1 sc1 nc1 ec1 => ⟨(by show 1 ≤ sizeLine; decide), fun C2 p2 sc2 nc2 ec2 => ⟨(by show 3 ≤ sizeLine; decide), fun C3 p3 sc3 nc3 ec3 => ⟨(by show 2 ≤ sizeLine; decide), fun C4 p4 sc4 nc4 ec4 => fun C5 p5 sc5 nc5 ec5 => ⟨(by show 2 ≤ sizeLine; decide), fun C6 p6 sc6 nc6 ec6 => ⟨(by show 2 ≤ sizeLine; decide), fun C7 p7 sc7 nc7 ec7 => ⟨(by show 2 ≤ sizeLine; decide), fun C8 p8 sc8 nc8 ec8 => ⟨_, rfl, (by show 2 ≤ sizeLine; decide), fun C9 p9 sc9 nc9 ec9 => ⟨(by show 12 ≤ sizeLine; decide), fun C10 p10 sc10 nc10 ec10 => ?_⟩⟩⟩⟩⟩⟩⟩⟩⟩
        -- S9
        refine ⟨_, rfl, (by show 2 ≤ sizeLine; decide), fun C11 p11 sc11 nc11 ec11 => ⟨(by show 2 ≤ sizeLine; decide), fun C12 p12 sc12 nc12 ec12 => ⟨(by show 2 ≤ sizeLine; decide), fun C13 p13 sc13 nc13 ec13 => ⟨(by show 3 ≤ sizeLine; decide), fun C14 p14 sc14 nc14 ec14 => ?_⟩⟩⟩⟩
        refine ⟨_, _, _, _, rfl, rfl, (sc11.trans (sc12.trans (sc13.trans (sc14)))) _ _ ec10, ec14, (by show 12 + 3 ≤ sizeLine; decide), fun C15 L2 sc15 nc15 ec15 => ?_⟩
        have hpr : ∀ x ∈ [V.non, .int 5, .ref p1, .ref p2, .ref p3, .ref p4, .str "01", .ref p5, .ref p6, .ref p7, .ref p8, .ref p9, .ref p11, .ref p12, .ref p13], YX K C14 2 3 0 x false := fun x hx => by
          simp only [List.mem_cons, List.mem_nil_iff, or_false] at hx
          rcases hx with rfl | rfl | rfl | rfl | rfl | rfl | rfl | rfl | rfl | rfl | rfl | rfl | rfl | rfl | rfl
          · exact .inl ⟨.inl ⟨not_of (.base .non) (by decide +kernel), rfl⟩, rfl⟩
          · exact .inl ⟨.inl ⟨not_of (.base (.int _)) (by decide +kernel), rfl⟩, rfl⟩
          · exact .inl ⟨.inr (.inl ⟨_, _, rfl, (tup_same (sc2.trans (sc3.trans (sc4.trans (sc5.trans (sc6.trans (sc7.trans (sc8.trans (sc9.trans (sc10.trans (sc11.trans (sc12.trans (sc13.trans (sc14))))))))))))) ec1.sq), (by show 0 ≠ 2; decide), rfl⟩), rfl⟩
          · exact .inl ⟨.inr (.inl ⟨_, _, rfl, (tup_same (sc3.trans (sc4.trans (sc5.trans (sc6.trans (sc7.trans (sc8.trans (sc9.trans (sc10.trans (sc11.trans (sc12.trans (sc13.trans (sc14)))))))))))) ec2.sq), (by show 1 ≠ 2; decide), rfl⟩), rfl⟩
          · exact .inl ⟨.inr (.inl ⟨_, _, rfl, (tup_same (sc4.trans (sc5.trans (sc6.trans (sc7.trans (sc8.trans (sc9.trans (sc10.trans (sc11.trans (sc12.trans (sc13.trans (sc14))))))))))) ec3.sq), (by show 3 ≠ 2; decide), rfl⟩), rfl⟩
          · exact .inl ⟨.inl ⟨not_of (.base (.lst ((sc5.trans (sc6.trans (sc7.trans (sc8.trans (sc9.trans (sc10.trans (sc11.trans (sc12.trans (sc13.trans (sc14)))))))))) _ _ ec4))) (by decide +kernel), rfl⟩, rfl⟩
          · exact .inl ⟨.inl ⟨not_of (.base (.str _)) (by decide +kernel), rfl⟩, rfl⟩
          · exact .inl ⟨.inl ⟨not_of (.base (.dK ((sc6.trans (sc7.trans (sc8.trans (sc9.trans (sc10.trans (sc11.trans (sc12.trans (sc13.trans (sc14))))))))) _ _ ec5))) (by decide +kernel), rfl⟩, rfl⟩
          · exact .inl ⟨mx_two (tup_same (sc7.trans (sc8.trans (sc9.trans (sc10.trans (sc11.trans (sc12.trans (sc13.trans (sc14)))))))) ec6.sq) (KX.int (by decide) (by decide)) (KX.int (by decide) (by decide)) rfl, rfl⟩
          · exact .inl ⟨mx_two (tup_same (sc8.trans (sc9.trans (sc10.trans (sc11.trans (sc12.trans (sc13.trans (sc14))))))) ec7.sq) (KX.int (by decide) (by decide)) (KX.int (by decide) (by decide)) rfl, rfl⟩
          · exact .inl ⟨mx_two (tup_same (sc9.trans (sc10.trans (sc11.trans (sc12.trans (sc13.trans (sc14)))))) ec8.sq) (KX.int (by decide) (by decide)) (kx_big (by decide)) rfl, rfl⟩
          · exact .inl ⟨mx_two (tup_same (sc10.trans (sc11.trans (sc12.trans (sc13.trans (sc14))))) ec9.sq) (nx_neg (by decide)).2 (KX.int (by decide) (by decide)) rfl, rfl⟩
          · exact .inr ⟨_, 0, 2, rfl, (tup_same (sc12.trans (sc13.trans (sc14))) ec11.sq), .inr (.inl ⟨rfl, rfl⟩), rfl⟩
          · exact .inr ⟨_, 1, 2, rfl, (tup_same (sc13.trans (sc14)) ec12.sq), .inr (.inr ⟨rfl, rfl⟩), rfl⟩
          · exact .inl ⟨mx_two (tup_same (sc14) ec13.sq) (KX.int (by decide) (by decide)) (KX.int (by decide) (by decide)) rfl, rfl⟩
        have s0c : Same W0 C14 := (sc1.trans (sc2.trans (sc3.trans (sc4.trans (sc5.trans (sc6.trans (sc7.trans (sc8.trans (sc9.trans (sc10.trans (sc11.trans (sc12.trans (sc13.trans (sc14))))))))))))))
        have g0 : Grow K [] C14 C15 L2 (fun H x => YX K H 2 3 0 x false) 15 := ⟨⟨_, ec15, rfl, fun x hx => (hpr x hx).ext (ExtN.of (er_new sc15 nc15))⟩, er_new sc15 nc15, nc15⟩
        have hbadC : ∀ x ∈ bad, Odd K C14 x := fun x hx => (hbadW x hx).ext (ExtN.of s0c)
        have ebC : C14 q4 = some (.lst bad) := s0c _ _ ebW
        have xC : ExtN H3 C14 := xW.trans (ExtN.of s0c)
        have TC : Tabs [(Pt, qL)] C14 := TW.ext s0c
        clear hpr hbadW ebW xW TW s0c sc1 nc1 ec1 sc2 nc2 ec2 sc3 nc3 ec3 sc4 nc4 ec4 sc5 nc5 ec5 sc6 nc6 ec6 sc7 nc7 ec7 sc8 nc8 ec8 sc9 nc9 ec9 sc10 nc10 ec10 sc11 nc11 ec11 sc12 nc12 ec12 sc13 nc13 ec13 sc14 nc14 ec14 sc15 nc15 ec15
        -- S10
        refine ⟨_, rfl, q4, rfl, ⟨_, .inl (.inl (er_le _ _ (g0.s _ _ ebC)))⟩, for_list (K := K) (a := q4) (xs := bad) (fun i σ H' => (∃ v5, σ = [some (.ref p), some (.int z), some (.int m), some (.ref q4), some (.ref L), v5, some (.ref L7), some (.ref L2), v8]) ∧ Grow K [] C14 H' L2 (fun H x => YX K H 2 3 0 x false) (15 + 2 * i)) ⟨⟨_, rfl⟩, g0⟩ (fun i σ H' _ h => .inl (.inl (er_le _ _ (h.2.s _ _ ebC)))) ?_ ?_⟩
        · rintro j x σ U0 hx ⟨⟨w5, rfl⟩, g⟩
          have od := hbadC x (List.mem_of_getElem? hx)
          have hj : j < 9 := hbl ▸ (List.getElem?_eq_some_iff.mp hx).1
          obtain ⟨ys, hys, _, _⟩ := g.ex
          refine ⟨_, rfl, .inl ⟨rfl, _, SqL.of hys⟩, _, rfl, (by show 2 ≤ sizeLine; decide), fun U1 t1 u1 m1 f1 => ⟨_, rfl, (by show 2 ≤ sizeLine; decide), fun U2 t2 u2 m2 f2 => ⟨(by show 2 ≤ sizeLine; decide), fun U3 l3 u3 m3 f3 => ?_⟩⟩⟩
          have g4 := Grow.same (K := K) (R := fun H x => YX K H 2 3 0 x false) (fun y h => YX.ext y h) g (u1.trans (u2.trans u3))
          obtain ⟨ys4, hys4, _, _⟩ := id g4.ex
          have od4 : Odd K (er U3 L2) x := od.ext (ExtN.of g4.s)
          obtain ⟨xs, hxs, hxl, g5⟩ := g4.app (b := l3) (zs := [.ref t1, .ref t2]) (m := 2) f3 rfl (fun q hq => by
            simp only [List.mem_cons, List.mem_nil_iff, or_false] at hq
            rcases hq with rfl | rfl
            · exact .inl ⟨mx_two (er_sqT (tup_same (u2.trans u3) f1.sq) hys4) od4.2 (KX.int (by decide) (by decide)) (pairB_odd (.inl rfl)), rfl⟩
            · exact .inl ⟨mx_two (er_sqT (tup_same u3 f2.sq) hys4) (KX.int (by decide) (by decide)) od4.2 (pairB_odd (.inr rfl)), rfl⟩)
          refine ⟨L2, l3, xs, _, rfl, rfl, hxs, f3, ?_, ⟨_, rfl⟩, g5⟩
          rw [hxl]
          exact Nat.le_trans (Nat.add_le_add_right (Nat.add_le_add_left (Nat.mul_le_mul_left 2 (Nat.le_of_lt hj)) 15) 2) (by decide)
        · rintro σ U0 ⟨⟨v5, rfl⟩, g⟩
          rw [hbl] at g
          -- S11
          obtain ⟨ys, hys, _, _⟩ := id g.ex
          refine ⟨_, rfl, .inl ⟨rfl, _, SqL.of hys⟩, _, rfl, _, _, rfl, rfl, (by show 2 ≤ sizeLine; decide), fun U1 t1 u1 m1 f1 => ⟨_, rfl, _, _, rfl, rfl, (by show 2 ≤ sizeLine; decide), fun U2 t2 u2 m2 f2 => ⟨(by show 2 ≤ sizeLine; decide), fun U3 l3 u3 m3 f3 => ?_⟩⟩⟩
          have g4 := Grow.same (K := K) (R := fun H x => YX K H 2 3 0 x false) (fun y h => YX.ext y h) g (u1.trans (u2.trans u3))
          obtain ⟨ys4, hys4, _, _⟩ := id g4.ex
          obtain ⟨xs, hxs, hxl, g5⟩ := g4.app (b := l3) (zs := [.ref t1, .ref t2]) (m := 2) f3 rfl (fun q hq => by
            simp only [List.mem_cons, List.mem_nil_iff, or_false] at hq
            rcases hq with rfl | rfl
            · have f1' := er_sqT (K := K) (tup_same (u2.trans u3) f1.sq) hys4
              by_cases e0 : m = 0
              · subst e0
                exact .inr ⟨_, 0, 2, rfl, f1', .inr (.inl ⟨rfl, rfl⟩), rfl⟩
              · exact .inl ⟨mx_two f1' (KX.int (by decide) (by decide)) (kx_big (by omega)) (pairB_odd (.inr rfl)), rfl⟩
            · exact .inl ⟨mx_two (er_sqT (tup_same u3 f2.sq) hys4) (KX.int (by decide) (by decide)) (kx_big (by omega)) (pairB_odd (.inr rfl)), rfl⟩)
          refine ⟨L2, l3, xs, _, rfl, rfl, hxs, f3, (by rw [hxl]; show 15 + 2 * 9 + 2 ≤ sizeLine; decide), ?_⟩
          clear hys hys4 f1 f2 f3 hxs hxl g4 g g0
          generalize upd U3 L2 (.lst (xs ++ [V.ref t1, V.ref t2])) = V0 at g5 ⊢
          obtain ⟨zs, hxs, hxl, hxB⟩ := id g5.ex
          have hxB0 : ∀ x ∈ zs, YX K V0 2 3 0 x false := fun x hx => (hxB x hx).ext (ExtN.of er_le)
          have sV : Same C14 V0 := g5.s.trans er_le
          have hbadV : ∀ x ∈ bad, Odd K V0 x := fun x hx => (hbadC x hx).ext (ExtN.of sV)
          have ebV : V0 q4 = some (.lst bad) := sV _ _ ebC
          have xV : ExtN H3 V0 := xC.trans (ExtN.of sV)
          have TV : Tabs [(Pt, qL)] V0 := TC.ext sV
          clear hbadC ebC xC TC sV hxB g5 u1 u2 u3 m1 m2 m3
          -- S12
          refine ⟨TV, fun g1 c1 V1 y1 TV1 ng1 eg1 ec1 => ⟨TV1, fun g2 c2 V2 y2 TV2 ng2 eg2 ec2 => ⟨(by show 2 ≤ sizeLine; decide), fun V3 l6 sv3 nv3 ev3 => ?_⟩⟩⟩
          have z13 : ExtN V1 V3 := y2.trans (ExtN.of sv3)
          have z23 : ExtN V2 V3 := ExtN.of sv3
          have z03 : ExtN V0 V3 := y1.trans z13
          -- S13
          refine ⟨_, rfl, _, rfl, l6, L2, 1, _, zs, rfl, by decide, by decide, ev3, z03 _ _ hxs (notbl True.intro), (by rw [hxl]; decide), fun a ha => ?_, fun W1 sw1 => ⟨true, rfl, iteF ?_⟩⟩
          · simp only [List.mem_cons, List.mem_nil_iff, or_false] at ha
            have key : ∀ x ∈ zs, YX K V3 2 3 0 x false := fun x hx => (hxB0 x hx).ext z03
            clear hxB0 hbadV xV TV TV1 TV2 ev3 e3 TS3
            rcases ha with rfl | rfl
            · refine ⟨_, rfl, fun x hx0 => ?_⟩
              have hx := key x hx0
              exact ask_lamS (N := ["_law_pair"]) (p := "_law_pair") (z13 _ _ eg1 lamO_ne) (z13 _ _ ec1 codeO_ne) ⟨rfl, rfl, rfl, by decide +kernel, rfl, by decide +kernel, by decide +kernel⟩ (fun _ _ _ => rfl) fun A outer s H1 Q E hr' z hE => ⟨_, pe_call GJ (hr'.mono (by decide)) (by rfl) aJ.g aJ.F.kp aJ.b .nil (L2N.passes_call (L2N.takes_of rfl rfl rfl rfl) (fun _ _ _ _ h => h)) (pa_cons (pe_tupS (pa_cons pe_int (pa_cons pe_int (pa_cons pe_int pa_nil)))) (pa_cons (pv 0) pa_nil)), ⟨(by show 3 ≤ sizeLine; decide), fun H2 t s2 n2 f2 => ⟨x, rfl, .ref t, x, rfl, .inr (.inl ⟨t, 2, 3, 0, rfl, f2.sq, ⟨by decide, by decide, by decide, by decide⟩, hx.ext ((ExtN.of z).trans (ExtN.of s2)), hE _ s2⟩)⟩⟩⟩
            · refine ⟨_, rfl, fun x hx0 => ?_⟩
              have hx := key x hx0
              exact ask_lamS (N := ["_law_both"]) (p := "_law_both") (z23 _ _ eg2 lamO_ne) (z23 _ _ ec2 codeO_ne) ⟨rfl, rfl, rfl, by decide +kernel, rfl, by decide +kernel, by decide +kernel⟩ (fun _ _ _ => rfl) fun A outer s H1 Q E hr' z hE => ⟨_, pe_call GT (hr'.mono (by decide)) (by rfl) aT.g aT.F.kp aT.b .nil (L2N.passes_call (L2N.takes_of rfl rfl rfl rfl) (fun _ _ _ _ h => h)) (pa_cons (pe_tupS (pa_cons pe_int (pa_cons pe_int (pa_cons pe_int pa_nil)))) (pa_cons (pv 0) pa_nil)), ⟨(by show 3 ≤ sizeLine; decide), fun H2 t s2 n2 f2 => ⟨x, rfl, .ref t, x, rfl, .inr (.inl ⟨t, 2, 3, 0, rfl, f2.sq, ⟨by decide, by decide, by decide, by decide⟩, hx.ext ((ExtN.of z).trans (ExtN.of s2)), hE _ s2⟩)⟩⟩⟩
          have TW : Tabs [(Pt, qL)] W1 := TV2.ext (sv3.trans sw1)
          have z0 : ExtN V0 W1 := z03.trans (ExtN.of sw1)
          have hbadW : ∀ x ∈ bad, Odd K W1 x := fun x hx => (hbadV x hx).ext z0
          have ebW : W1 q4 = some (.lst bad) := z0 _ _ ebV (notbl True.intro)
          have xW : ExtN H3 W1 := xV.trans z0
          clear hxB0 hbadV ebV xV TV TV1 TV2 eg1 eg2 ec1 ec2 ng1 ng2 y1 y2 sv3 nv3 ev3 z03 z13 z23 z0 sw1 hxs hxl
          -- S14
          refine ⟨TW, fun g1 c1 V1 y1 TV1 ng1 eg1 ec1 => ⟨TV1, fun g2 c2 V2 y2 TV2 ng2 eg2 ec2 => ⟨(by show 2 ≤ sizeLine; decide), fun V3 l6 sv3 nv3 ev3 => ?_⟩⟩⟩
          have z13 : ExtN V1 V3 := y2.trans (ExtN.of sv3)
          have z23 : ExtN V2 V3 := ExtN.of sv3
          have z03 : ExtN W1 V3 := y1.trans z13
          -- S15
          refine ⟨_, rfl, _, rfl, _, rfl, _, _, rfl, rfl, (by show 3 ≤ sizeLine; decide), fun V4 l4 sv4 nv4 ev4 => ?_⟩
          refine ⟨_, _, _, _, rfl, rfl, sv4 _ _ (z03 _ _ ebW (notbl True.intro)), ev4, (by rw [hbl]; show 9 + 3 ≤ sizeLine; decide), fun V5 l5 sv5 nv5 ev5 => ?_⟩
          refine ⟨l6, l5, 2, _, _, rfl, by decide, by decide, sv5 _ _ (sv4 _ _ ev3), ev5, (by rw [List.length_append, hbl]; show 9 + 3 < sizeLine; decide), fun a ha => ?_, fun W2 sw2 => ⟨true, rfl, iteF ?_⟩⟩
          · simp only [List.mem_cons, List.mem_nil_iff, or_false] at ha
            have key : ∀ x ∈ bad ++ [V.int 3, .int (3 + m), .str "0"], KX K V5 x none := fun x hx => by
              rcases List.mem_append.mp hx with q | q
              · exact ((hbadW x q).ext (z03.trans (ExtN.of (sv4.trans sv5)))).2
              · simp only [List.mem_cons, List.mem_nil_iff, or_false] at q
                rcases q with rfl | rfl | rfl
                · exact kx_big (by decide)
                · exact kx_big (by omega)
                · exact (nx_ty (.base (.str _)) (by decide +kernel) (by decide +kernel)).2
            clear hbadW xW TW TV1 TV2 ev3 ev4 ev5 e3 TS3
            rcases ha with rfl | rfl
            · refine ⟨_, rfl, fun x hx0 => ?_⟩
              have hx := key x hx0
              exact ask_lamS (N := ["_law_kind"]) (p := "_law_kind") ((z13.trans (ExtN.of (sv4.trans sv5))) _ _ eg1 lamO_ne) ((z13.trans (ExtN.of (sv4.trans sv5))) _ _ ec1 codeO_ne) ⟨rfl, rfl, rfl, by decide +kernel, rfl, by decide +kernel, by decide +kernel⟩ (fun _ _ _ => rfl) fun A outer s H1 Q E hr' z hE => ⟨_, pe_call GAo (hr'.mono (by decide)) (by rfl) aAo.g aAo.F.kp aAo.b .nil (L2N.passes_call (L2N.takes_of rfl rfl rfl rfl) (fun _ _ _ _ h => h)) (pa_cons (pe_tupS (pa_cons pe_int (pa_cons pe_int (pa_cons pe_int pa_nil)))) (pa_cons (pv 0) pa_nil)), ⟨(by show 3 ≤ sizeLine; decide), fun H2 t s2 n2 f2 => ⟨x, rfl, .ref t, x, rfl, .inr ⟨t, (1, 1, 1), rfl, f2.sq, ⟨by decide, by decide, by decide, by decide⟩, .inl ⟨hx.ext ((ExtN.of z).trans (ExtN.of s2)), hE _ s2⟩⟩⟩⟩⟩
            · refine ⟨_, rfl, fun x hx0 => ?_⟩
              have hx := key x hx0
              exact ask_lamS (N := ["_law_one"]) (p := "_law_one") ((z23.trans (ExtN.of (sv4.trans sv5))) _ _ eg2 lamO_ne) ((z23.trans (ExtN.of (sv4.trans sv5))) _ _ ec2 codeO_ne) ⟨rfl, rfl, rfl, by decide +kernel, rfl, by decide +kernel, by decide +kernel⟩ (fun _ _ _ => rfl) fun A outer s H1 Q E hr' z hE => ⟨_, pe_call GTk (hr'.mono (by decide)) (by rfl) aTk.g aTk.F.kp aTk.b .nil (L2N.passes_call (L2N.takes_of rfl rfl rfl rfl) (fun _ _ _ _ h => h)) (pa_cons (pe_tupS (pa_cons pe_int (pa_cons pe_int (pa_cons pe_int pa_nil)))) (pa_cons (pv 0) pa_nil)), ⟨(by show 3 ≤ sizeLine; decide), fun H2 t s2 n2 f2 => ⟨x, rfl, .ref t, x, rfl, .inr ⟨t, (200, 200, 200), rfl, f2.sq, ⟨by decide, by decide, by decide, by decide⟩, .inl ⟨hx.ext ((ExtN.of z).trans (ExtN.of s2)), hE _ s2⟩⟩⟩⟩⟩
          have TX : Tabs [(Pt, qL)] W2 := TV2.ext (sv3.trans (sv4.trans (sv5.trans sw2)))
          have xX : ExtN H3 W2 := xW.trans (z03.trans (ExtN.of (sv4.trans (sv5.trans sw2))))
          clear hbadW ebW xW TW TV1 TV2 eg1 eg2 ec1 ec2 ng1 ng2 y1 y2 sv3 nv3 ev3 z03 z13 z23 sv4 sv5 nv4 nv5 ev4 ev5 sw2
          -- S16
          refine ⟨(by show 3 ≤ sizeLine; decide), fun D1 d1 sd1 nd1 ed1 => ⟨(by show 3 ≤ sizeLine; decide), fun D2 d2 sd2 nd2 ed2 => ⟨_, rfl, _, _, rfl, rfl, (by show 3 ≤ sizeLine; decide), fun D3 d3 sd3 nd3 ed3 => ⟨(by show 3 ≤ sizeLine; decide), fun D4 d4 sd4 nd4 ed4 => ?_⟩⟩⟩⟩
          -- S17
          refine ⟨TX.ext (sd1.trans (sd2.trans (sd3.trans sd4))), fun g1 c1 V1 y1 TV1 ng1 eg1 ec1 => ⟨(by show 2 ≤ sizeLine; decide), fun V2 l6 sv2 nv2 ev2 => ?_⟩⟩
          have z42 : ExtN D4 V2 := y1.trans (ExtN.of sv2)
          refine ⟨_, rfl, l6, d4, 3, _, _, rfl, by decide, by decide, ev2, z42 _ _ ed4 (notbl True.intro), (by show 3 + 1 ≤ sizeLine; decide), fun a ha => ?_, fun W3 sw3 => ⟨true, rfl, iteF ?_⟩⟩
          · simp only [List.mem_cons, List.mem_nil_iff, or_false] at ha
            have key : ∀ x ∈ [V.ref d1, .ref d2, .ref d3], ∃ (p : Addr) (s : T3), x = .ref p ∧ TupF V2 p (tV s) ∧ Ok3 s.1 s.2.1 s.2.2 ∧ 300 < sm s := fun x hx => by
              simp only [List.mem_cons, List.mem_nil_iff, or_false] at hx
              rcases hx with rfl | rfl | rfl
              · exact ⟨d1, (301, 0, 0), rfl, (TupF.ext (ExtN.of (sd2.trans (sd3.trans sd4))) ed1).ext z42, ⟨by decide, by decide, by decide, by decide⟩, by decide⟩
              · exact ⟨d2, (100, 100, 101), rfl, (TupF.ext (ExtN.of (sd3.trans sd4)) ed2).ext z42, ⟨by decide, by decide, by decide, by decide⟩, by decide⟩
              · refine ⟨d3, (m + 301, 0, 5), rfl, (TupF.ext (ExtN.of sd4) ed3).ext z42, ⟨?_, (by show (0 : Int) ≤ 0; decide), (by show (0 : Int) ≤ 5; decide), ?_⟩, ?_⟩
                · show 0 ≤ m + 301
                  omega
                · show 0 < m + 301 + 0 + 5
                  omega
                · show 300 < m + 301 + 0 + 5
                  omega
            clear xX TX TV1 ev2 ed1 ed2 ed3 ed4 e3 TS3
            rcases ha with rfl | rfl
            · refine ⟨_, rfl, fun x hx0 => ?_⟩
              obtain ⟨u, s3, rfl, hu, ho, h3⟩ := key x hx0
              exact ask_fn aTf GTf (by decide) rfl fun H1 Q E z hE => ⟨_, rfl, .inr ⟨u, s3, rfl, tup_same z hu.sq, ho, .inl ⟨h3, hE _ (Same.refl _)⟩⟩⟩
            · refine ⟨_, rfl, fun x hx0 => ?_⟩
              obtain ⟨u, s3, rfl, hu, ho, h3⟩ := key x hx0
              exact ask_lamS (N := ["_law_some"]) (p := "_law_some") (sv2 _ _ eg1) (sv2 _ _ ec1) ⟨rfl, rfl, rfl, by decide +kernel, rfl, by decide +kernel, by decide +kernel⟩ (fun _ _ _ => rfl) fun A outer s H1 Q E hr' z hE => ⟨_, pe_call GTk (hr'.mono (by decide)) (by rfl) aTk.g aTk.F.kp aTk.b .nil (L2N.passes_call (L2N.takes_of rfl rfl rfl rfl) (fun _ _ _ _ h => h)) (pa_cons (pv 0) (pa_cons pe_int pa_nil)), ⟨_, rfl, .ref u, .int 0, rfl, .inr ⟨u, s3, rfl, tup_same z hu.sq, ho, .inr ⟨0, rfl, by decide, by decide, .inl ⟨h3, hE _ (Same.refl _)⟩⟩⟩⟩⟩
          exact ⟨⟨_, _, _, _, _, _, _, _, rfl⟩, xX.trans ((ExtN.of (sd1.trans (sd2.trans (sd3.trans sd4)))).trans (z42.trans (ExtN.of sw3))), TV1.ext (sv2.trans sw3)⟩
    · rintro σ G0 ⟨⟨v1, v2, v3, v4, v5, v6, v7, v8, rfl⟩, _, _⟩
      -- the end
      refine ⟨(by show 3 ≤ sizeLine; decide), fun E1 t1 se1 ne1 fe1 => ⟨.ref t1, rfl, .inr ⟨t1, (0, 150, 150), rfl, fe1.sq, ⟨by decide, by decide, by decide, by decide⟩, .inr ⟨by decide, fe1, fun E2 M1 ms s2 n2 hP hf => ?_⟩⟩⟩⟩
      obtain ⟨rs, hL, hPd⟩ := hP
      have hlen : (((rs.map V.ref).length : Nat) : Int) = 298 := by
        rw [List.length_map, Paired.length hPd]
        exact few150 hf
      refine ⟨M1, _, rfl, .inl (SqL.of hL), ?_⟩
      rw [hlen]
      refine ⟨rfl, true, rfl, iteT ?_⟩
      refine ⟨(by show 3 ≤ sizeLine; decide), fun E3 t3 s3 n3 f3 => ⟨.ref t3, .int 2, rfl, .inr ⟨t3, (0, 0, 300), rfl, f3.sq, ⟨by decide, by decide, by decide, by decide⟩, .inr ⟨2, rfl, by decide, by decide, .inr ⟨by decide, .inr ⟨0, steps003, fun E4 M2 s4 n4 hP2 => ⟨Nat.zero_le _, fun E5 l5 s5 n5 e5 => ?_⟩⟩⟩⟩⟩⟩⟩
      rw [tk003] at hP2
      refine ⟨.list [], .list [], .lst (.inl (.inl (s5 _ _ (pairs_nil hP2)))) .nil, .lst (.inl (.inl e5)) .nil, rfl, rfl, ?_⟩
      refine ⟨true, by rfl, iteT ?_⟩
      refine ⟨(by show 3 ≤ sizeLine; decide), fun E6 t6 s6 n6 f6 => ⟨.ref t6, rfl, .inr ⟨t6, 1, 0, 0, rfl, f6.sq, ⟨by decide, by decide, by decide, by decide⟩, fun E7 M3 s7 n7 hP3 => ⟨Nat.zero_le _, fun E8 l8 s8 n8 e8 => ?_⟩⟩⟩⟩
      have hP3 : PairsAt E6 E7 M3 [] := hP3
      refine ⟨.list [], .list [], .lst (.inl (.inl (s8 _ _ (pairs_nil (K := K) hP3.pt)))) .nil, .lst (.inl (.inl e8)) .nil, rfl, rfl, ?_⟩
      exact k _
end

/-! ### the head: facts by names, the run -/
abbrev mkD (x : Str) (i : Nat) : He.DefD := ⟨(x, none), x, x, defArgs (topS i), defBody (topS i), defScope (topS i), [], []⟩
abbrev mkM (C x : Str) (i j : Nat) (q : Str) : He.DefD := ⟨(C, some x), x, q, defArgs (inClass (topS i) j), defBody (inClass (topS i) j), defScope (inClass (topS i) j), [], []⟩
def fnL : List He.DefD := [mkD "_wall" 0, mkD "meetings" 9, mkD "joined" 10, mkD "turned" 11, mkD "behind" 12, mkD "check_beads" 13, mkD "check_meeting" 14, mkD "are_beads" 15, mkD "is_meeting" 16, mkD "is_kind" 17, mkD "is_number" 18, mkD "check_few" 21, mkD "last_kinds" 23, mkD "fewest_left" 24, mkD "to_fewest" 25, mkD "of_the_most" 26, mkD "fewest_turnings" 31, mkD "all_of" 33, mkD "to_kind" 34, mkD "toward" 35, mkD "check_kind" 36, mkD "_law_refused" 38, mkD "_law_all" 39, mkD "law" 40, mkM "Barred" "shows" 29 0 "Barred.shows", mkM "All" "__init__" 30 0 "All.__init__", mkM "All" "shows" 30 1 "All.shows"]
def exB : PySem.W.Frag → Bool := fun K => ansB K (He.ga K "Answer") (He.ga K "All") (He.ga K "Barred") && (mk0B K (He.ga K "Barred") && errB K (errA K) (He.ga K "BeadError"))
def tfL : List He.Defn := [("law", none)]
def faL : List He.Fa := [.glo "_wall", .glo "meetings", .glo "joined", .glo "turned", .glo "behind", .glo "check_beads", .glo "check_meeting", .glo "are_beads", .glo "is_meeting", .glo "is_kind", .glo "is_number", .glo "check_few", .glo "last_kinds", .glo "fewest_left", .glo "to_fewest", .glo "of_the_most", .glo "fewest_turnings", .glo "all_of", .glo "to_kind", .glo "toward", .glo "check_kind", .glo "_law_refused", .glo "_law_all", .glo "law", .free "range", .free "isinstance", .free "list", .free "all", .free "tuple", .free "sum", .free "len", .free "abs", .free "enumerate", .free "max", .free "int", .free "bool", .free "any", .free "min", .free "str", .free "sorted", .int "KINDS" 3, .int "MOST" 300, .glo "BadBeads", .exc "BadBeads", .glo "BadMeeting", .exc "BadMeeting", .glo "BadKind", .exc "BadKind", .glo "TooMany", .exc "TooMany", .glo "Answer", .glo "All", .glo "Barred", .meth "All" "shows", .meth "Barred" "shows", .mkr "All", .glo "BeadError", .free "ValueError"]
abbrev R : PySem.W.OpenRow := PySem.W.OpenLaw.row PySem.Challenge.rw_kindmeets_k07_refused
abbrev hk : PySem.W.Hook := He.hookX 5 faL fnL [] tfL exB
def ob (s : PySem.W.SharedT) : He.AlX := He.obsX 5 faL fnL [] tfL exB (HandSHeadRun.getT s)
theorem ob_eq (s : PySem.W.SharedT) : ob s = hk.obs s.abs := He.obsX_eq (HandSHeadRun.getT_eq s)
def looseL : List Str := "_wall" :: "BeadError" :: "BadBeads" :: "BadMeeting" :: "BadKind" :: "TooMany" :: "KINDS" :: "meetings" :: "joined" :: "turned" :: "behind" :: "check_beads" :: "check_meeting" :: "are_beads" :: "is_meeting" :: "is_kind" :: "is_number" :: "MOST" :: "check_few" :: "last_kinds" :: "fewest_left" :: "to_fewest" :: "of_the_most" :: "Answer" :: "Barred" :: "All" :: "fewest_turnings" :: "all_of" :: "to_kind" :: "toward" :: "check_kind" :: "_law_refused" :: "_law_all" :: []
theorem runHead (w : World) : HandSHeadRun.RunEq R (PySem.W.view R.prog [40]) hk ob 3000 looseL w := by
  intro os
  kernel_rfl
section
variable {K : PySem.W.Frag} {h : Heap} {mg : Str → Option Value}
theorem at__wall (X : K.In h) (G : h.Ns mainGlobals mg) (c : He.SaysD faL fnL K) : ∃ fd, At K mg "_wall" (topS 0) ["k"] (He.ga K "_wall") fd := by
  obtain ⟨fd, F⟩ := c.def_ 0 (d := mkD "_wall" 0) rfl
  exact ⟨fd, F, He.glo_ok X G (c.fact 0 (f := .glo "_wall") rfl), FunD.bindsN F fun _ _ _ _ _ _ us hl => match us, hl with | [_], _ => rfl⟩
theorem at_meetings (X : K.In h) (G : h.Ns mainGlobals mg) (c : He.SaysD faL fnL K) : ∃ fd, At K mg "meetings" (topS 9) ["beads"] (He.ga K "meetings") fd := by
  obtain ⟨fd, F⟩ := c.def_ 1 (d := mkD "meetings" 9) rfl
  exact ⟨fd, F, He.glo_ok X G (c.fact 1 (f := .glo "meetings") rfl), FunD.bindsN F fun _ _ _ _ _ _ us hl => match us, hl with | [_], _ => rfl⟩
theorem at_joined (X : K.In h) (G : h.Ns mainGlobals mg) (c : He.SaysD faL fnL K) : ∃ fd, At K mg "joined" (topS 10) ["beads", "meeting"] (He.ga K "joined") fd := by
  obtain ⟨fd, F⟩ := c.def_ 2 (d := mkD "joined" 10) rfl
  exact ⟨fd, F, He.glo_ok X G (c.fact 2 (f := .glo "joined") rfl), FunD.bindsN F fun _ _ _ _ _ _ us hl => match us, hl with | [_, _], _ => rfl⟩
theorem at_turned (X : K.In h) (G : h.Ns mainGlobals mg) (c : He.SaysD faL fnL K) : ∃ fd, At K mg "turned" (topS 11) ["beads", "meeting"] (He.ga K "turned") fd := by
  obtain ⟨fd, F⟩ := c.def_ 3 (d := mkD "turned" 11) rfl
  exact ⟨fd, F, He.glo_ok X G (c.fact 3 (f := .glo "turned") rfl), FunD.bindsN F fun _ _ _ _ _ _ us hl => match us, hl with | [_, _], _ => rfl⟩
theorem at_behind (X : K.In h) (G : h.Ns mainGlobals mg) (c : He.SaysD faL fnL K) : ∃ fd, At K mg "behind" (topS 12) ["beads", "meeting", "made"] (He.ga K "behind") fd := by
  obtain ⟨fd, F⟩ := c.def_ 4 (d := mkD "behind" 12) rfl
  exact ⟨fd, F, He.glo_ok X G (c.fact 4 (f := .glo "behind") rfl), FunD.bindsN F fun _ _ _ _ _ _ us hl => match us, hl with | [_, _, _], _ => rfl⟩
theorem at_check_beads (X : K.In h) (G : h.Ns mainGlobals mg) (c : He.SaysD faL fnL K) : ∃ fd, At K mg "check_beads" (topS 13) ["beads"] (He.ga K "check_beads") fd := by
  obtain ⟨fd, F⟩ := c.def_ 5 (d := mkD "check_beads" 13) rfl
  exact ⟨fd, F, He.glo_ok X G (c.fact 5 (f := .glo "check_beads") rfl), FunD.bindsN F fun _ _ _ _ _ _ us hl => match us, hl with | [_], _ => rfl⟩
theorem at_check_meeting (X : K.In h) (G : h.Ns mainGlobals mg) (c : He.SaysD faL fnL K) : ∃ fd, At K mg "check_meeting" (topS 14) ["beads", "meeting"] (He.ga K "check_meeting") fd := by
  obtain ⟨fd, F⟩ := c.def_ 6 (d := mkD "check_meeting" 14) rfl
  exact ⟨fd, F, He.glo_ok X G (c.fact 6 (f := .glo "check_meeting") rfl), FunD.bindsN F fun _ _ _ _ _ _ us hl => match us, hl with | [_, _], _ => rfl⟩
theorem at_are_beads (X : K.In h) (G : h.Ns mainGlobals mg) (c : He.SaysD faL fnL K) : ∃ fd, At K mg "are_beads" (topS 15) ["value"] (He.ga K "are_beads") fd := by
  obtain ⟨fd, F⟩ := c.def_ 7 (d := mkD "are_beads" 15) rfl
  exact ⟨fd, F, He.glo_ok X G (c.fact 7 (f := .glo "are_beads") rfl), FunD.bindsN F fun _ _ _ _ _ _ us hl => match us, hl with | [_], _ => rfl⟩
theorem at_is_meeting (X : K.In h) (G : h.Ns mainGlobals mg) (c : He.SaysD faL fnL K) : ∃ fd, At K mg "is_meeting" (topS 16) ["value"] (He.ga K "is_meeting") fd := by
  obtain ⟨fd, F⟩ := c.def_ 8 (d := mkD "is_meeting" 16) rfl
  exact ⟨fd, F, He.glo_ok X G (c.fact 8 (f := .glo "is_meeting") rfl), FunD.bindsN F fun _ _ _ _ _ _ us hl => match us, hl with | [_], _ => rfl⟩
theorem at_is_kind (X : K.In h) (G : h.Ns mainGlobals mg) (c : He.SaysD faL fnL K) : ∃ fd, At K mg "is_kind" (topS 17) ["value"] (He.ga K "is_kind") fd := by
  obtain ⟨fd, F⟩ := c.def_ 9 (d := mkD "is_kind" 17) rfl
  exact ⟨fd, F, He.glo_ok X G (c.fact 9 (f := .glo "is_kind") rfl), FunD.bindsN F fun _ _ _ _ _ _ us hl => match us, hl with | [_], _ => rfl⟩
theorem at_is_number (X : K.In h) (G : h.Ns mainGlobals mg) (c : He.SaysD faL fnL K) : ∃ fd, At K mg "is_number" (topS 18) ["value"] (He.ga K "is_number") fd := by
  obtain ⟨fd, F⟩ := c.def_ 10 (d := mkD "is_number" 18) rfl
  exact ⟨fd, F, He.glo_ok X G (c.fact 10 (f := .glo "is_number") rfl), FunD.bindsN F fun _ _ _ _ _ _ us hl => match us, hl with | [_], _ => rfl⟩
theorem at_check_few (X : K.In h) (G : h.Ns mainGlobals mg) (c : He.SaysD faL fnL K) : ∃ fd, At K mg "check_few" (topS 21) ["beads"] (He.ga K "check_few") fd := by
  obtain ⟨fd, F⟩ := c.def_ 11 (d := mkD "check_few" 21) rfl
  exact ⟨fd, F, He.glo_ok X G (c.fact 11 (f := .glo "check_few") rfl), FunD.bindsN F fun _ _ _ _ _ _ us hl => match us, hl with | [_], _ => rfl⟩
theorem at_last_kinds (X : K.In h) (G : h.Ns mainGlobals mg) (c : He.SaysD faL fnL K) : ∃ fd, At K mg "last_kinds" (topS 23) ["beads"] (He.ga K "last_kinds") fd := by
  obtain ⟨fd, F⟩ := c.def_ 12 (d := mkD "last_kinds" 23) rfl
  exact ⟨fd, F, He.glo_ok X G (c.fact 12 (f := .glo "last_kinds") rfl), FunD.bindsN F fun _ _ _ _ _ _ us hl => match us, hl with | [_], _ => rfl⟩
theorem at_fewest_left (X : K.In h) (G : h.Ns mainGlobals mg) (c : He.SaysD faL fnL K) : ∃ fd, At K mg "fewest_left" (topS 24) ["beads"] (He.ga K "fewest_left") fd := by
  obtain ⟨fd, F⟩ := c.def_ 13 (d := mkD "fewest_left" 24) rfl
  exact ⟨fd, F, He.glo_ok X G (c.fact 13 (f := .glo "fewest_left") rfl), FunD.bindsN F fun _ _ _ _ _ _ us hl => match us, hl with | [_], _ => rfl⟩
theorem at_to_fewest (X : K.In h) (G : h.Ns mainGlobals mg) (c : He.SaysD faL fnL K) : ∃ fd, At K mg "to_fewest" (topS 25) ["beads"] (He.ga K "to_fewest") fd := by
  obtain ⟨fd, F⟩ := c.def_ 14 (d := mkD "to_fewest" 25) rfl
  exact ⟨fd, F, He.glo_ok X G (c.fact 14 (f := .glo "to_fewest") rfl), FunD.bindsN F fun _ _ _ _ _ _ us hl => match us, hl with | [_], _ => rfl⟩
theorem at_of_the_most (X : K.In h) (G : h.Ns mainGlobals mg) (c : He.SaysD faL fnL K) : ∃ fd, At K mg "of_the_most" (topS 26) ["beads"] (He.ga K "of_the_most") fd := by
  obtain ⟨fd, F⟩ := c.def_ 15 (d := mkD "of_the_most" 26) rfl
  exact ⟨fd, F, He.glo_ok X G (c.fact 15 (f := .glo "of_the_most") rfl), FunD.bindsN F fun _ _ _ _ _ _ us hl => match us, hl with | [_], _ => rfl⟩
theorem at_fewest_turnings (X : K.In h) (G : h.Ns mainGlobals mg) (c : He.SaysD faL fnL K) : ∃ fd, At K mg "fewest_turnings" (topS 31) ["beads", "kind"] (He.ga K "fewest_turnings") fd := by
  obtain ⟨fd, F⟩ := c.def_ 16 (d := mkD "fewest_turnings" 31) rfl
  exact ⟨fd, F, He.glo_ok X G (c.fact 16 (f := .glo "fewest_turnings") rfl), FunD.bindsN F fun _ _ _ _ _ _ us hl => match us, hl with | [_, _], _ => rfl⟩
theorem at_all_of (X : K.In h) (G : h.Ns mainGlobals mg) (c : He.SaysD faL fnL K) : ∃ fd, At K mg "all_of" (topS 33) ["beads", "kind"] (He.ga K "all_of") fd := by
  obtain ⟨fd, F⟩ := c.def_ 17 (d := mkD "all_of" 33) rfl
  exact ⟨fd, F, He.glo_ok X G (c.fact 17 (f := .glo "all_of") rfl), FunD.bindsN F fun _ _ _ _ _ _ us hl => match us, hl with | [_, _], _ => rfl⟩
theorem at_to_kind (X : K.In h) (G : h.Ns mainGlobals mg) (c : He.SaysD faL fnL K) : ∃ fd, At K mg "to_kind" (topS 34) ["beads", "kind"] (He.ga K "to_kind") fd := by
  obtain ⟨fd, F⟩ := c.def_ 18 (d := mkD "to_kind" 34) rfl
  exact ⟨fd, F, He.glo_ok X G (c.fact 18 (f := .glo "to_kind") rfl), FunD.bindsN F fun _ _ _ _ _ _ us hl => match us, hl with | [_, _], _ => rfl⟩
theorem at_toward (X : K.In h) (G : h.Ns mainGlobals mg) (c : He.SaysD faL fnL K) : ∃ fd, At K mg "toward" (topS 35) ["beads", "kind"] (He.ga K "toward") fd := by
  obtain ⟨fd, F⟩ := c.def_ 19 (d := mkD "toward" 35) rfl
  exact ⟨fd, F, He.glo_ok X G (c.fact 19 (f := .glo "toward") rfl), FunD.bindsN F fun _ _ _ _ _ _ us hl => match us, hl with | [_, _], _ => rfl⟩
theorem at_check_kind (X : K.In h) (G : h.Ns mainGlobals mg) (c : He.SaysD faL fnL K) : ∃ fd, At K mg "check_kind" (topS 36) ["kind"] (He.ga K "check_kind") fd := by
  obtain ⟨fd, F⟩ := c.def_ 20 (d := mkD "check_kind" 36) rfl
  exact ⟨fd, F, He.glo_ok X G (c.fact 20 (f := .glo "check_kind") rfl), FunD.bindsN F fun _ _ _ _ _ _ us hl => match us, hl with | [_], _ => rfl⟩
theorem at__law_refused (X : K.In h) (G : h.Ns mainGlobals mg) (c : He.SaysD faL fnL K) : ∃ fd, At K mg "_law_refused" (topS 38) ["_law_ask", "_law_thing", "_law_due"] (He.ga K "_law_refused") fd := by
  obtain ⟨fd, F⟩ := c.def_ 21 (d := mkD "_law_refused" 38) rfl
  exact ⟨fd, F, He.glo_ok X G (c.fact 21 (f := .glo "_law_refused") rfl), FunD.bindsN F fun _ _ _ _ _ _ us hl => match us, hl with | [_, _, _], _ => rfl⟩
theorem at__law_all (X : K.In h) (G : h.Ns mainGlobals mg) (c : He.SaysD faL fnL K) : ∃ fd, At K mg "_law_all" (topS 39) ["_law_asks", "_law_things", "_law_due"] (He.ga K "_law_all") fd := by
  obtain ⟨fd, F⟩ := c.def_ 22 (d := mkD "_law_all" 39) rfl
  exact ⟨fd, F, He.glo_ok X G (c.fact 22 (f := .glo "_law_all") rfl), FunD.bindsN F fun _ _ _ _ _ _ us hl => match us, hl with | [_, _, _], _ => rfl⟩
theorem at_law (X : K.In h) (G : h.Ns mainGlobals mg) (c : He.SaysD faL fnL K) : ∃ fd, At K mg "law" (topS 40) ["_law_script"] (He.ga K "law") fd := by
  obtain ⟨fd, F⟩ := c.def_ 23 (d := mkD "law" 40) rfl
  exact ⟨fd, F, He.glo_ok X G (c.fact 23 (f := .glo "law") rfl), FunD.bindsN F fun _ _ _ _ _ _ us hl => match us, hl with | [_], _ => rfl⟩
theorem bl_of (X : K.In h) (G : h.Ns mainGlobals mg) (c : He.SaysD faL fnL K) : Bl mg :=
  ⟨He.free_ok X G (c.fact 24 (f := .free "range") rfl), He.free_ok X G (c.fact 25 (f := .free "isinstance") rfl), He.free_ok X G (c.fact 26 (f := .free "list") rfl), He.free_ok X G (c.fact 27 (f := .free "all") rfl), He.free_ok X G (c.fact 28 (f := .free "tuple") rfl), He.free_ok X G (c.fact 29 (f := .free "sum") rfl), He.free_ok X G (c.fact 30 (f := .free "len") rfl), He.free_ok X G (c.fact 31 (f := .free "abs") rfl), He.free_ok X G (c.fact 32 (f := .free "enumerate") rfl), He.free_ok X G (c.fact 33 (f := .free "max") rfl), He.free_ok X G (c.fact 34 (f := .free "int") rfl), He.free_ok X G (c.fact 35 (f := .free "bool") rfl), He.free_ok X G (c.fact 36 (f := .free "any") rfl), He.free_ok X G (c.fact 37 (f := .free "min") rfl), He.free_ok X G (c.fact 38 (f := .free "str") rfl), He.free_ok X G (c.fact 39 (f := .free "sorted") rfl)⟩
theorem at_Barred_shows (c : He.SaysD faL fnL K) : ∃ fd, FunD K "shows" "Barred.shows" (defArgs (inClass (topS 29) 0)) (defBody (inClass (topS 29) 0)) (defScope (inClass (topS 29) 0)) [] [] (He.ma K (He.ga K "Barred") "shows") fd ∧ Binds K fd ["self", "beads", "kind"] [] := by
  obtain ⟨fd, F⟩ := c.def_ 24 (d := mkM "Barred" "shows" 29 0 "Barred.shows") rfl
  exact ⟨fd, F, FunD.bindsN F fun _ _ _ _ _ _ us hl => match us, hl with | [_, _, _], _ => rfl⟩
theorem at_All___init__ (c : He.SaysD faL fnL K) : ∃ fd, FunD K "__init__" "All.__init__" (defArgs (inClass (topS 30) 0)) (defBody (inClass (topS 30) 0)) (defScope (inClass (topS 30) 0)) [] [] (He.ma K (He.ga K "All") "__init__") fd ∧ Binds K fd ["self", "steps"] [] := by
  obtain ⟨fd, F⟩ := c.def_ 25 (d := mkM "All" "__init__" 30 0 "All.__init__") rfl
  exact ⟨fd, F, FunD.bindsN F fun _ _ _ _ _ _ us hl => match us, hl with | [_, _], _ => rfl⟩
theorem at_All_shows (c : He.SaysD faL fnL K) : ∃ fd, FunD K "shows" "All.shows" (defArgs (inClass (topS 30) 1)) (defBody (inClass (topS 30) 1)) (defScope (inClass (topS 30) 1)) [] [] (He.ma K (He.ga K "All") "shows") fd ∧ Binds K fd ["self", "beads", "kind"] [] := by
  obtain ⟨fd, F⟩ := c.def_ 26 (d := mkM "All" "shows" 30 1 "All.shows") rfl
  exact ⟨fd, F, FunD.bindsN F fun _ _ _ _ _ _ us hl => match us, hl with | [_, _, _], _ => rfl⟩
theorem con_KINDS (X : K.In h) (G : h.Ns mainGlobals mg) (c : He.SaysD faL fnL K) : ∃ t, mg "KINDS" = some (.int 3 t) := He.int_ok X G (c.fact 40 (f := .int "KINDS" 3) rfl)
theorem con_MOST (X : K.In h) (G : h.Ns mainGlobals mg) (c : He.SaysD faL fnL K) : ∃ t, mg "MOST" = some (.int 300 t) := He.int_ok X G (c.fact 41 (f := .int "MOST" 300) rfl)
theorem ex_BadBeads (X : K.In h) (G : h.Ns mainGlobals mg) (c : He.SaysD faL fnL K) : Ex K mg "BadBeads" (He.ga K "BadBeads") := ex_of X G (c.fact 42 (f := .glo "BadBeads") rfl) (c.fact 43 (f := .exc "BadBeads") rfl)
theorem ex_BadMeeting (X : K.In h) (G : h.Ns mainGlobals mg) (c : He.SaysD faL fnL K) : Ex K mg "BadMeeting" (He.ga K "BadMeeting") := ex_of X G (c.fact 44 (f := .glo "BadMeeting") rfl) (c.fact 45 (f := .exc "BadMeeting") rfl)
theorem ex_BadKind (X : K.In h) (G : h.Ns mainGlobals mg) (c : He.SaysD faL fnL K) : Ex K mg "BadKind" (He.ga K "BadKind") := ex_of X G (c.fact 46 (f := .glo "BadKind") rfl) (c.fact 47 (f := .exc "BadKind") rfl)
theorem ex_TooMany (X : K.In h) (G : h.Ns mainGlobals mg) (c : He.SaysD faL fnL K) : Ex K mg "TooMany" (He.ga K "TooMany") := ex_of X G (c.fact 48 (f := .glo "TooMany") rfl) (c.fact 49 (f := .exc "TooMany") rfl)
theorem g_Answer (X : K.In h) (G : h.Ns mainGlobals mg) (c : He.SaysD faL fnL K) : mg "Answer" = some (.ref (He.ga K "Answer")) := He.glo_ok X G (c.fact 50 (f := .glo "Answer") rfl)
theorem g_All (X : K.In h) (G : h.Ns mainGlobals mg) (c : He.SaysD faL fnL K) : mg "All" = some (.ref (He.ga K "All")) := He.glo_ok X G (c.fact 51 (f := .glo "All") rfl)
theorem g_Barred (X : K.In h) (G : h.Ns mainGlobals mg) (c : He.SaysD faL fnL K) : mg "Barred" = some (.ref (He.ga K "Barred")) := He.glo_ok X G (c.fact 52 (f := .glo "Barred") rfl)
theorem m_All (c : He.SaysD faL fnL K) : Meth K (He.ga K "All") "shows" (He.ma K (He.ga K "All") "shows") := He.meth_ok (c.fact 53 (f := .meth "All" "shows") rfl)
theorem m_Barred (c : He.SaysD faL fnL K) : Meth K (He.ga K "Barred") "shows" (He.ma K (He.ga K "Barred") "shows") := He.meth_ok (c.fact 54 (f := .meth "Barred" "shows") rfl)
theorem k_All (c : He.SaysD faL fnL K) : Mk K (He.ga K "All") (He.ma K (He.ga K "All") "__init__") := He.mkr_ok (c.fact 55 (f := .mkr "All") rfl)
theorem g_BeadError (X : K.In h) (G : h.Ns mainGlobals mg) (c : He.SaysD faL fnL K) : mg "BeadError" = some (.ref (He.ga K "BeadError")) := He.glo_ok X G (c.fact 56 (f := .glo "BeadError") rfl)
theorem f_ValueError (X : K.In h) (G : h.Ns mainGlobals mg) (c : He.SaysD faL fnL K) : mg "ValueError" = none := He.free_ok X G (c.fact 57 (f := .free "ValueError") rfl)
end

theorem facts {P : Program} {w : World} {K : PySem.W.Frag} {h : Heap} {mg : Str → Option Value} {f : Addr} (X : K.In h) (G : h.Ns mainGlobals mg) (hfa : mg ("law" : Str) = some (.ref f)) (cX : He.SaysX faL fnL [] tfL exB w h K) :
    ∃ (fd : FuncData) (c Pt : Addr), (c, Pt) = He.cT K ("law", none) ∧ (∀ (s : Shared) (v : Value), BindsTo s fd ⟨[v], []⟩ [("_law_script", v)]) ∧ ∀ base : Heap, K.In base → base.Ns mainGlobals mg → TabB base mg c Pt → FnOk P w K mg base CX0 10 f fd ["_law_script"] (spLaw K [(Pt, qL)]) := by
  have c := cX.t.d
  have B := bl_of X G c
  obtain ⟨t, kd⟩ := con_KINDS X G c
  have ku : RelV (.int 3) (.int 3 t) := ⟨t, rfl⟩
  obtain ⟨tm, km⟩ := con_MOST X G c
  have kmu : RelV (.int 300) (.int 300 tm) := ⟨tm, rfl⟩
  have e_BadBeads := ex_BadBeads X G c
  have e_BadMeeting := ex_BadMeeting X G c
  have e_BadKind := ex_BadKind X G c
  have e_TooMany := ex_TooMany X G c
  obtain ⟨_, a_meetings⟩ := at_meetings X G c
  obtain ⟨_, a_joined⟩ := at_joined X G c
  obtain ⟨_, a_turned⟩ := at_turned X G c
  obtain ⟨_, a_behind⟩ := at_behind X G c
  obtain ⟨_, a_check_beads⟩ := at_check_beads X G c
  obtain ⟨_, a_check_meeting⟩ := at_check_meeting X G c
  obtain ⟨_, a_are_beads⟩ := at_are_beads X G c
  obtain ⟨_, a_is_meeting⟩ := at_is_meeting X G c
  obtain ⟨_, a_is_kind⟩ := at_is_kind X G c
  obtain ⟨_, a_is_number⟩ := at_is_number X G c
  obtain ⟨_, a_check_few⟩ := at_check_few X G c
  obtain ⟨_, a_last_kinds⟩ := at_last_kinds X G c
  obtain ⟨_, a_fewest_left⟩ := at_fewest_left X G c
  obtain ⟨_, a_to_fewest⟩ := at_to_fewest X G c
  obtain ⟨_, a_of_the_most⟩ := at_of_the_most X G c
  obtain ⟨_, a_fewest_turnings⟩ := at_fewest_turnings X G c
  obtain ⟨_, a_all_of⟩ := at_all_of X G c
  obtain ⟨_, a_to_kind⟩ := at_to_kind X G c
  obtain ⟨_, a_toward⟩ := at_toward X G c
  obtain ⟨_, a_check_kind⟩ := at_check_kind X G c
  obtain ⟨_, a__law_refused⟩ := at__law_refused X G c
  obtain ⟨_, a__law_all⟩ := at__law_all X G c
  have gN := g_Answer X G c
  have gA := g_All X G c
  have gB := g_Barred X G c
  obtain ⟨hc1, hc2⟩ := He.ba cX.more
  have hcl := ansB_ok hc1
  obtain ⟨hc3, hc4⟩ := He.ba hc2
  obtain ⟨_, fI, bI⟩ := at_All___init__ (K := K) c
  obtain ⟨_, fSA, bSA⟩ := at_All_shows (K := K) c
  obtain ⟨_, fSB, bSB⟩ := at_Barred_shows (K := K) c
  have hMA := m_All c
  have hMB := m_Barred c
  have hKA := k_All c
  have hM0 := mk0B_ok hc3
  have hE := errB_ok hc4
  have x0 : Ex K mg "BadBeads" (errA K 0) := e_BadBeads
  have x1 : Ex K mg "BadMeeting" (errA K 1) := e_BadMeeting
  have x2 : Ex K mg "BadKind" (errA K 2) := e_BadKind
  have x3 : Ex K mg "TooMany" (errA K 3) := e_TooMany
  obtain ⟨fd, a_law⟩ := at_law X G c
  have e := hfa.symm.trans a_law.g
  cases e
  have b := FunD.bindsA (ps := ["_law_script"]) a_law.F fun _ _ _ _ _ _ us hl => match us, hl with | [_], _ => rfl
  have hc : fd.code = .ref (He.codeOf K ("law", none)) := by
    obtain ⟨oc, od, dV, kV, doc, pm, an, cdv, ct, osl, rfl, lk, hcd, _, _⟩ := a_law.F.ex
    obtain ⟨c0, rfl⟩ := He.codeIn_ref hcd
    rw [He.codeOf_eq (p := ("law", none)) lk rfl]
  refine ⟨fd, He.codeOf K ("law", none), He.tabOf K (He.codeOf K ("law", none)), rfl, fun s v => b s [v] rfl, fun base _ _ TB => ?_⟩
  have GB := ok_chB (P := P) (w := w) (base := base) a_check_beads.F B kd ku a_is_number a_are_beads x0
  have GM := ok_chM (P := P) (w := w) (base := base) a_check_meeting.F B kd ku a_is_number a_is_kind a_is_meeting x1
  have GE := ok_beh (P := P) (w := w) (base := base) (mg := mg) a_behind.F B
  have GJ := ok_join a_joined.F a_check_beads a_check_meeting a_behind GB GM GE
  have GT := ok_turn a_turned.F a_check_beads a_check_meeting a_behind GB GM GE
  have GS := ok_ms a_meetings.F B kd ku a_check_beads GB
  have GL := ok_lk a_last_kinds.F B kd ku a_check_beads GB a_meetings GS
  have GF := ok_fl a_fewest_left.F B a_check_beads GB a_meetings GS a_last_kinds GL
  have GFew := ok_few (P := P) (w := w) (base := base) a_check_few.F B km kmu x3
  have GTf := ok_tf a_to_fewest.F B kd ku a_check_beads GB a_check_few GFew a_meetings GS a_of_the_most a_joined GJ
  have GK := ok_ck (P := P) (w := w) (base := base) a_check_kind.F B kd ku a_is_number a_is_kind x2
  have GU := ok_ft (P := P) (w := w) (base := base) a_fewest_turnings.F B kd ku
  have hMk := mkOk (P := P) (w := w) (base := base) hcl hKA hM0 fI bI gA gB
  have GAo := ok_ao a_all_of.F hMk a_check_beads GB a_check_kind GK a_fewest_turnings GU
  have GTk := ok_tk a_to_kind.F B kd ku a_check_beads GB a_check_kind GK a_check_few GFew a_fewest_turnings GU a_toward a_turned GT
  have GR := ok_re (P := P) (w := w) (base := base) a__law_refused.F B (f_ValueError X G c) hE (g_BeadError X G c) x0.1 x1.1 x2.1 x3.1
  have GAl := ok_al a__law_all.F B a__law_refused GR
  exact ok_law a_law.F hc TB B a_meetings GS a_last_kinds GL a_fewest_left GF a_to_fewest GTf a_joined GJ a_turned GT a_all_of (GAo.mono (by decide)) a_to_kind GTk a__law_all GAl
end Km
open PySem PySem.W PySem.Calls PyProof.Rows
set_option maxRecDepth 100000 in
set_option maxHeartbeats 0 in
theorem PySem.Challenge.cw_kindmeets_k07_refused_holds : PySem.Challenge.rw_kindmeets_k07_refused.Holds := by
  w_on; o_law
  refine HandSHeadRun.head_any (r := OpenLaw.row PySem.Challenge.rw_kindmeets_k07_refused) (q := view (OpenLaw.row PySem.Challenge.rw_kindmeets_k07_refused).prog [40]) (H := Km.hk) (ob := Km.ob) (M := 3000) (loose := Km.looseL) (d := HandSHeadRun.topDef (OpenLaw.row PySem.Challenge.rw_kindmeets_k07_refused).prog 40) (kwd := []) Km.ob_eq
    (by kernel_rfl) (fun s => by kernel_rfl) Km.runHead (by kernel_rfl) (by kernel_rfl) (by kernel_rfl) (by rfl) (by first | assumption | decide +kernel) (by decide +kernel) ⟨rfl, rfl, rfl, rfl, rfl, by decide +kernel⟩ ?hw ?hc
  case hw => w_witness2
  case hc =>
    refine LamX.walk_ofTsE (l := PySem.Challenge.rw_kindmeets_k07_refused) (n := 63) (k := 10) (x := "_law_script") (CX := fun _ => L2.CX0) rfl (by decide) (by kernel_rfl) ⟨rfl, by decide, by decide⟩ ?F (fun _ _ _ _ _ z => z)
    intro w mg fa h Y G hmg0
    obtain ⟨K, KX, c⟩ := Y
    have hmg : mg ("law" : PySem.Str) = some (.ref fa) := by
      have e : (HandSHeadRun.topDef (OpenLaw.row PySem.Challenge.rw_kindmeets_k07_refused).prog 40).name = ("law" : PySem.Str) := by kernel_rfl
      rw [← e]
      exact hmg0
    obtain ⟨fd, cc, Pt, ec, hb, hF⟩ := Km.facts (P := (PySem.Challenge.rw_kindmeets_k07_refused).prog) (w := w) KX G hmg c
    have one : ∀ p ∈ [(cc, Pt)], p = He.cT K ("law", none) := fun p hp => by
      rw [List.mem_singleton] at hp
      rw [hp, ec]
    have m1 : (("law", none) : He.Defn) ∈ Km.tfL := List.mem_cons_self
    refine ⟨K, KX, fd, [(cc, Pt)], Km.spLaw K [(Pt, Km.qL)], fun p hp => ?_, fun p hp => ?_, fun p hp => ?_, hb, fun H a ns hl _ hH hS => ⟨a, ns, rfl, hS, hl, ?_, fun _ => rfl⟩, fun base i1 i2 TB => hF base i1 i2 (TB _ List.mem_cons_self)⟩
    · rw [one p hp]
      exact c.empty _ m1
    · rw [one p hp]
      exact c.out _ m1
    · rw [one p hp]
      exact PySem.W.codeHd_of_K KX (c.hd _ m1)
    · intro q hq
      rw [List.mem_singleton] at hq
      rw [hq]
      exact LamX.TabS.nil (hH _ List.mem_cons_self)

