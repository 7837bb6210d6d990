import PyProof.Rows.All
import Wide.All
import OpenK.AllK
import Wide.FinOn
import KE.KTupSum
import KE.DataMinMax
import KE.GoesMore
import KE.GoesEnum
import HandS.Base
import HandS.Call
import HandS.List
import HandS.Comp
import HandS.Dict
import HandS.Iter
import HandS.ForMost
import HandS.ForExc
import HandS.IsInst
import HandS.Wide
import HandS.Walk
import HandS.Defaults
import HandS.EndBits
import HandS.Flow
import Lean
import KE.KStateDown
import HandS.Head0
import HandS.Head1
import HandS.Head2
import HandS.HeadEnd
import HandS.HeadHook1
import HandS.HeadHook2
import HandS.Style
import HandS.SetFor
import HandS.Codes
import KE.KIndexOf
import HandS.Deep
import HandS.HeadHook4
import HandS.TupLe
import PyProof.Rows.SortShell
import HandS.TryOnly
import PySem.Challenge.RW_kindmeets_k08_whole_numbers
set_option Elab.async false
set_option linter.all false
set_option maxRecDepth 100000
set_option maxHeartbeats 4000000
/-! Rules of our own over the layer: sum and max of a tuple of ints, enumerate of a tuple, products of very great ints. -/
namespace Km
open PySem PySem.Spec PyProof.Rows L2

def CMulX (i j : Int) : Prop := i.natAbs.log2 + j.natAbs.log2 < 134000000
theorem CMulX.ok {i j : Int} (h : CMulX i j) : IntMulOk i j := by
  have b : ∀ x : Int, Builtin.Int.intBits x ≤ x.natAbs.log2 + 1 := fun x => by
    unfold Builtin.Int.intBits
    split <;> omega
  have h1 := b i
  have h2 := b j
  have h3 : i.natAbs.log2 + j.natAbs.log2 < 134000000 := h
  have e : bitsLine = 134217728 := by decide
  unfold IntMulOk
  intro z
  rw [Bool.and_eq_true] at z
  have z2 := z.2
  unfold Builtin.Int.intTooBig at z2
  have z3 := of_decide_eq_true z2
  rw [e] at z3
  omega
section
variable {X : Cx}
theorem op_mulX : OpR X (binaryOp .Mult) (rI CMulX fun i j => .int (i * j)) := opI fun _ _ _ _ _ _ _ hc q => mul_int q hc.ok

def rSumT (K : PySem.W.Frag) : List V → Hp → VK → Prop := fun vs H Q => ∃ (a : Addr) (ns : List Int), vs = [V.ref a] ∧ SqT K H a (ns.map V.int) ∧ Q (.int ns.sum) H
theorem cr_sumT (hc : X.calm = true) : CallR X (.builtin "sum") (rSumT X.K) := by
  intro pins s σ H vs us Q I r h
  obtain ⟨a, ns, rfl, hs, q⟩ := h
  obtain ⟨its, rv, hl, _⟩ := I.tuple hs
  rw [Vals.ref1 r]
  have hi := rv.ints
  obtain ⟨xs, e⟩ := hi.allInts.items
  have hn : PySem.numsOf (PySem.intItems xs).toList = ns := by rw [← e]; exact hi.numsOf
  rw [PySem.nums_intItems] at hn
  rw [e] at hl
  refine PySem.W.ktm_sumG (I.ok.hd hc) hl fun h' tk t' hk => ⟨.int _, H, I.kept hk, ⟨_, rfl⟩, ?_⟩
  rw [PySem.preSum_eq, List.take_of_length_le (by simp), hn]
  exact q
def rMaxT (K : PySem.W.Frag) : List V → Hp → VK → Prop := fun vs H Q => ∃ (a : Addr) (ns : List Int), vs = [V.ref a] ∧ SqT K H a (ns.map V.int) ∧ 0 < ns.length ∧ ∀ m, m ∈ ns → (∀ y, y ∈ ns → y ≤ m) → Q (.int m) H
end
section
variable {prog : Program} {w : World} {A : Around} {E : Value → Shared → Prop} {s : Shared} {l : Addr} {xs : Array (Int × Tok)}
theorem max_tupG {Q : Value → Shared → Prop} (hh : A.handled = none) (hl : s.heap.IsTuple l (PySem.intItems xs)) (hne : 0 < xs.size)
    (h : ∀ v h' tk, (PySem.intItems xs)[PySem.argBest (fun i j => decide (PySem.numAt xs i > PySem.numAt xs j)) (xs.size - 1)]? = some v → (∀ b o, s.heap.get? b = some o → h'.get? b = some o) → Q v { s with heap := h', toks := tk }) :
    wpAny (model prog w) A (call (.builtin "max") [.ref l]) Q E s := by
  obtain ⟨o, ho, _⟩ := id hl
  have hlt : l < s.heap.objs.size := Heap.lt_size ho
  refine PySem.call_max_walk (wpAny_pyIter_tuple hl ?_)
  refine ⟨_, _, _, _, _, _, _, rfl, Walks.tuple (A := A.in1) hh _ l (Nat.ne_of_lt hlt) (PySem.intItems xs), ⟨⟨_, Heap.get?_push_size _ rfl, rfl, rfl⟩, hl.push _⟩, ?_, by simpa [PySem.intItems] using hne, PySem.CmpOf.ints_gt (PySem.numAt xs) (fun _ _ => PySem.intItems_at), fun v h' tk hP hk => ?_⟩
  · intro b hb
    show b < (s.heap.push _).objs.size
    rw [Heap.size_push]
    rcases List.mem_cons.mp hb with rfl | hb
    · exact Nat.lt_succ_self _
    · rcases List.mem_cons.mp hb with rfl | hb
      · exact Nat.lt_succ_of_lt hlt
      · cases hb
  · refine h v h' tk (by simpa [PySem.intItems] using hP) fun b o e => hk b o ?_ (Heap.get?_push_of_some _ e)
    exact fun hb => absurd (Heap.lt_size e) ((List.mem_singleton.mp hb) ▸ Nat.lt_irrefl _)
end
section
variable {X : Cx}
theorem cr_maxT (hc : X.calm = true) : CallR X (.builtin "max") (rMaxT X.K) := by
  intro pins s σ H vs us Q I r h
  obtain ⟨a, ns, rfl, hs, hne, q⟩ := h
  obtain ⟨its, rv, hl, _⟩ := I.tuple hs
  rw [Vals.ref1 r]
  have hi := rv.ints
  obtain ⟨xs, e⟩ := hi.allInts.items
  have hn : PySem.numsOf (PySem.intItems xs).toList = ns := by rw [← e]; exact hi.numsOf
  rw [PySem.nums_intItems] at hn
  subst hn
  rw [e] at hl
  have hsz : 0 < xs.size := by simpa using hne
  refine max_tupG (I.ok.hd hc) hl hsz fun v h' tk hv hk => ?_
  obtain ⟨t, rfl⟩ := PySem.intItems_at hv
  obtain ⟨h1, h2⟩ := PySem.argBest_gt (PySem.numAt xs) (xs.size - 1)
  refine ⟨.int _, H, I.kept hk, ⟨_, rfl⟩, q _ ?_ fun a ha => ?_⟩
  · rw [PySem.numAt_eq]; exact PySem.getD_mem (by rw [List.length_map, Array.length_toList]; omega)
  · obtain ⟨j, hj, rfl⟩ := PySem.mem_getD ha
    rw [List.length_map, Array.length_toList] at hj
    rw [← PySem.numAt_eq]; exact h2 j (by omega)
end
end Km

set_option Elab.async false
set_option linter.all false
set_option maxRecDepth 100000
set_option maxHeartbeats 4000000
namespace Km
open PySem PySem.Spec PyProof.Rows L2
open PySem.Sem (wp)
set_option maxHeartbeats 4000000 in
theorem meets_enumerate_new1 {v : Value} {o : Obj} {H : Heap → Prop} (B : Begins v o H) :
    Meets (Builtin.«enumerate.__new__» ⟨[.type "enumerate", v], []⟩) (fun _ R s => H s.heap ∧
      R (.ok (.ret (.ref (s.heap.push o).objs.size))) { s with heap := (s.heap.push o).push { cls := .type "enumerate", data := .fields #[.none, .bool false, .ref s.heap.objs.size, rawInt 0, .none, .none] } }) :=
  .of_wp fun prog w A R s h => by
    obtain ⟨hp, g, d, tk, os⟩ := s; obtain ⟨h1, h⟩ := h
    have hsub := sub_enumerate
    have q1 : ∀ {A' : Around} {E : Value → Shared → Prop} {Q : Value → Shared → Prop}, Q (.ref hp.objs.size) ⟨hp.push o, g, d, tk, os⟩ → wpAny (model prog w) A' (pyIter v) Q E ⟨hp, g, d, tk, os⟩ :=
      fun q => B.iter prog w _ _ ⟨hp, g, d, tk, os⟩ _ h1 q
    wp_walk using q1
    refine wpAny_stack_any fun st => wpAny_pure ?_
    split
    · rename_i c _ _ _ _ _
      cases (c == Value.type "enumerate")
      · wp_walk using q1
        exact ⟨_, rfl, h⟩
      · wp_walk using q1
        exact ⟨_, rfl, h⟩
    · wp_walk using q1
      exact ⟨_, rfl, h⟩
section
variable {prog : Program} {w : World} {A : Around} {E : Value → Shared → Prop} {s : Shared}
theorem enum_begins1 {v : Value} {o : Obj} {H : Heap → Prop} {Q : Value → Shared → Prop} (B : Begins v o H) (h1 : H s.heap)
    (h : ∀ h', IsEnum h' (s.heap.objs.size + 1) s.heap.objs.size 0 .none → h'.get? s.heap.objs.size = some o → h'.objs.size = s.heap.objs.size + 2 →
      (∀ b o, s.heap.get? b = some o → h'.get? b = some o) → Q (.ref (s.heap.objs.size + 1)) { s with heap := h' }) :
    wpAny (model prog w) A (call (.type "enumerate") [v]) Q E s := by
  refine callType_new F.called_enumerate (by decide) (F.typeCall_enumerate_1 _) (F.newCall_enumerate_1 _) (fun obj => F.args_object_init_2 obj _) F.entry_enumerate_new
    (meets_enumerate_new1 B) ⟨h1, ?_⟩
  have hz : (s.heap.push o).objs.size = s.heap.objs.size + 1 := Heap.size_push ..
  show _ ∧ _
  rw [hz]
  have he : IsEnum ((s.heap.push o).push { cls := .type "enumerate", data := .fields #[.none, .bool false, .ref s.heap.objs.size, rawInt 0, .none, .none] }) (s.heap.objs.size + 1) s.heap.objs.size 0 .none := by
    have := Heap.get?_push_size (s.heap.push o) (o := { cls := .type "enumerate", data := .fields #[.none, .bool false, .ref s.heap.objs.size, rawInt 0, .none, .none] }) rfl
    rw [hz] at this; exact this
  refine ⟨⟨_, he, rfl⟩, h _ he (Heap.get?_push_of_some _ (Heap.get?_push_size _ B.free)) (by rw [Heap.size_push, hz]) fun b o x => Heap.get?_push_of_some _ (Heap.get?_push_of_some _ x)⟩
end
end Km

set_option Elab.async false
set_option linter.all false
set_option maxRecDepth 100000
set_option maxHeartbeats 4000000
namespace Km
open PySem PySem.Spec PyProof.Rows L2
/-- enumerate over the tuple at a, each item in a new pair -/
def IteT (K : PySem.W.Frag) (a : Addr) : It :=
  ⟨fun i H => ∃ (xs : List V) (x : V), SqT K H a xs ∧ xs[i]? = some x, fun i H v H' => ∃ T x, v = .ref T ∧ H T = none ∧ H' = upd H T (.tup [.int (i : Nat), x]) ∧ ∀ xs, SqT K H a xs → xs[i]? = some x, fun i H => ∃ xs : List V, SqT K H a xs ∧ xs.length ≤ i⟩
theorem turn_enumT {P : Program} {w : World} {K : PySem.W.Frag} {elts : List Expr} {kk : Nat} {tpos : Pos} (a e it : Addr) :
    Turn P w K (.Tuple elts kk tpos) (IteT K a) [e, it] e (fun i h => (∃ old, IsEnum h e it ((i : Nat) : Int) old) ∧ h.IsTupleIter it a i ∧ e ≠ it) where
  mem := by simp
  obj := fun i h st b hb => by
    obtain ⟨⟨old, he⟩, ⟨o, ho, hc, hd⟩, _⟩ := st
    have e' : b = e ∨ b = it := by simpa using hb
    rcases e' with z | z
    · rw [z]; exact ⟨_, he, fun v q => nomatch q⟩
    · rw [z]; exact ⟨o, ho, fun v q => by rw [hd] at q; cases q⟩
  keep := fun i h h' st k => let ⟨⟨old, he⟩, hi, hne⟩ := st; ⟨⟨old, k e (by simp) _ he⟩, hi.at fun o q => k it (by simp) o q, hne⟩
  item := by
    intro X hP hw hK hc i pins s σ H E I hf st hg
    subst hP hw hK
    obtain ⟨⟨old, he⟩, hit, hne⟩ := st
    obtain ⟨xs, x, hq, hx⟩ := hg
    obtain ⟨its, rv, p, hz⟩ := I.tuple hq
    obtain ⟨u, hu, ru⟩ := rv.get hx
    have hel : e < s.heap.objs.size := Heap.lt_size he
    have hil : it < s.heap.objs.size := by obtain ⟨_, q, _⟩ := hit; exact Heap.lt_size q
    have hae : a ≠ e := fun z => by
      obtain ⟨o, ho, hcl, _⟩ := id p
      rw [z, he] at ho
      cases ho
      have q : Value.type "enumerate" = Value.type "tuple" := hcl
      injection q with q
      exact absurd q (by decide)
    have hai : a ≠ it := fun z => by
      obtain ⟨o, ho, hcl, _⟩ := id p
      obtain ⟨o2, ho2, hcl2, _⟩ := id hit
      rw [z, ho2] at ho
      cases ho
      have q : Value.type "tuple" = Value.type "tuple_iterator" := hcl.symm.trans hcl2
      injection q with q
      exact absurd q (by decide)
    have D : Draws X.prog X.w X.A.in1 it [it, a] its.toArray.size (fun i v => its.toArray[i]? = some v) (fun i h => h.IsTupleIter it a i ∧ h.IsTuple a its.toArray) := Draws.tuple (A := X.A.in1) (I.ok.hd hc) it a hai its.toArray
    have hlt : i < its.toArray.size := by
      have q := (List.getElem?_eq_some_iff.mp hu).1
      simpa using q
    refine wpAny_pyNext_enum_itemD D he ⟨hit, p⟩ hlt hne (by simp only [List.mem_cons, List.mem_nil_iff, or_false, not_or]; exact ⟨hne, Ne.symm hae⟩) fun x' h' tk hPx ho hst' hT hsz hk => ?_
    obtain ⟨hit', htup'⟩ := hst'
    have ex : x' = u := by
      have q : its[i]? = some x' := by simpa using hPx
      rw [hu] at q
      exact (Option.some.inj q).symm
    subst ex
    refine ⟨_, rfl, wpAny_letOwnedTupleGo_enum (s := { s with heap := h', toks := tk + 1 }) ho fun h'' he' sb => ?_⟩
    have hT2 : h''.get? s.heap.objs.size = some { cls := .type "tuple", data := .seq #[.int i tk, x'] } := (sb.2 _ (Nat.ne_of_gt hel)).trans hT
    have new : ObjOk X.prog X.w (upd H s.heap.objs.size (.tup [.int (i : Nat), x])) h'' s.heap.objs.size (.tup [.int (i : Nat), x]) :=
      ⟨by show 2 ≤ sizeLine; decide, [.int i tk, x'], .cons ⟨_, rfl⟩ (.cons ru .nil), ⟨_, hT2, rfl, _, rfl⟩⟩
    have I1 : Inv X pins σ (upd H s.heap.objs.size (.tup [.int (i : Nat), x])) { s with heap := h'', toks := tk + 1 } :=
      I.turnedNew (ch := [e, it]) (fun b ob hb q => (sb.2 b (fun z => hb (by simp [z]))).trans (hk b ob (fun z => hb (by simp [z])) (fun z => hb (by simp [z])) q)) hf (Nat.le_refl _) new
    refine ⟨.ref s.heap.objs.size, _, I1, rfl, ⟨_, x, rfl, I.hok.fresh (Nat.le_refl _), rfl, fun ys hy => by rw [I.tuple_inj hy hq]; exact hx⟩, ⟨⟨x', ?_⟩, hit'.at fun o q => (sb.2 it (Ne.symm hne)).trans q, hne⟩, fun b hb => ?_⟩
    · have e1 : ((i + 1 : Nat) : Int) = (i : Int) + 1 := by omega
      rw [e1]; exact he'
    · have hb' : b < s.heap.objs.size := by
        have e' : b = e ∨ b = it := by simpa using hb
        rcases e' with z | z
        · rw [z]; exact hel
        · rw [z]; exact hil
      rw [upd_ne (Nat.ne_of_lt hb')]
      exact (hf b hb).1
  done := by
    intro X hP hw hK hc i pins s σ H E I hf st hg
    subst hP hw hK
    obtain ⟨⟨old, he⟩, hit, hne⟩ := st
    obtain ⟨xs, hq, hx⟩ := hg
    obtain ⟨its, rv, p, hz⟩ := I.tuple hq
    obtain ⟨f0, f1, f2, f3, f4, f5⟩ := hf it (by simp)
    have hl := rv.length
    have hT : s.TypeIs (.ref e) "enumerate" := ⟨_, he, rfl⟩
    unfold pyNext
    refine wpAny_bind (wpAny_attempt (wpAny_callSpecial?_slot (name := Str.ofString "__next__") hT F.slot_enumerate_next
      (wpAny_call_entry F.slot_enumerate_next hT F.entry_enumerate_next ?_ (F.args_enumerate_next_1 _))))
    show wpAny _ _ (field (.ref e) 2 >>= _) _ _ _
    refine wpAny_bind (wpAny_field he rfl (x := .ref it) rfl ?_)
    refine wpAny_bind (wpAny_nextOf_tuple_end (A := X.A.in1) (I.ok.hd hc) hit p (by simp; omega) fun h' x he' hx' => ?_)
    obtain ⟨o, ho, hc⟩ := hx'
    refine wpAny_bind (wpAny_isInstance (T := "StopIteration") (b := true) ⟨o, ho, hc⟩ isSubtype_stop ?_)
    exact wpAny_pure ⟨rfl, I.turned (t' := s.toks) (fun b o hb q => he' b o hb q) f0 f1 f3 f4 f5⟩
  self := fun A i s Q E st h => let ⟨⟨_, he⟩, _⟩ := st; wpAny_pyIter_enum he h
def iEnumT (K : PySem.W.Frag) (ta : TA) : TI := fun σ H R => ta σ H fun vs H1 => ∃ a xs, vs = [.ref a] ∧ SqT K H1 a xs ∧ R (IteT K a) H1
theorem pi_enumT {X : Cx} {e : Expr} {ta : TA} {p pos tpos : Pos} {elts : List Expr} {kk : Nat} (hg : Gl X "enumerate") (hm : X.mg "enumerate" = none) (ha : PA X [e] ta) (hs : starEach [e] X.env = [(false, eval e X.env)] := by rfl) :
    PI X (.Tuple elts kk tpos) (.Call (.Name "enumerate" p) [e] [] pos) (iEnumT X.K ta) := by
  refine ⟨fun pins s σ H R I h => ?_⟩
  refine Call_ (ld_blt I hg hm boot_enumerate (PyProof.Rows.callWith_type1 (thn (ha.run pos pins s σ H _ I h) fun us s1 ⟨vs, H1, I1, r1, q1⟩ => ?_) hs rfl))
  obtain ⟨a, xs, ex, hq, q⟩ := q1
  subst ex
  cases r1 with
  | cons r rr =>
    cases rr
    cases r
    obtain ⟨its, rv, p', hz⟩ := I1.tuple hq
    refine enum_begins1 (begins_tuple a its.toArray) p' fun h' he hit hsz hk => wpAny_pyIter_enum he ?_
    have I2 : Inv X pins σ H1 { s1 with heap := h' } := I1.kept (t' := s1.toks) hk
    refine ⟨s1.heap.objs.size + 1, [s1.heap.objs.size + 1, s1.heap.objs.size], _, _, H1, rfl, I2, turn_enumT a (s1.heap.objs.size + 1) s1.heap.objs.size, ⟨⟨.none, he⟩, ⟨_, hit, rfl, rfl⟩, Nat.succ_ne_self _⟩, fun b hb => ?_, q⟩
    have e' : b = s1.heap.objs.size + 1 ∨ b = s1.heap.objs.size := by simpa using hb
    have hle : s1.heap.objs.size ≤ b := by
      rcases e' with z | z
      · rw [z]; exact Nat.le_add_right _ _
      · rw [z]; exact Nat.le_refl _
    exact I1.fpOk hle (I1.hok.fresh hle)
theorem walk_enumT {K : PySem.W.Frag} {a : Addr} {xs : List V} : (∀ i H, i < xs.length → SqT K H a xs → (IteT K a).go i H) ∧ (∀ H, SqT K H a xs → (IteT K a).stop xs.length H) ∧ ∀ i H v H', SqT K H a xs → (IteT K a).yld i H v H' → ∃ T x, v = .ref T ∧ H T = none ∧ H' = upd H T (.tup [.int (i : Nat), x]) ∧ xs[i]? = some x := by
  refine ⟨fun i _ hi q => ⟨xs, xs[i], q, by simp [hi]⟩, fun _ q => ⟨xs, q, Nat.le_refl _⟩, fun i H v H' q y => ?_⟩
  obtain ⟨T, x, h1, h2, h3, h4⟩ := y
  exact ⟨T, x, h1, h2, h3, h4 xs q⟩
end Km

set_option Elab.async false
set_option linter.all false
set_option maxRecDepth 100000
set_option maxHeartbeats 4000000
namespace Km
open PySem PySem.Spec PyProof.Rows L2
/-! ### defs of the text -/
abbrev FnP (K : PySem.W.Frag) (x : Str) (st : Stmt) (f : Addr) (fd : FuncData) : Prop := FunD K x x (defArgs st) (defBody st) (defScope st) [] [] f fd
structure At (K : PySem.W.Frag) (mg : Str → Option Value) (x : Str) (st : Stmt) (ps : List Str) (f : Addr) (fd : FuncData) : Prop where
  F : FnP K x st f fd
  g : mg x = some (.ref f)
  b : Binds K fd ps []
/-! ### heaps -/
theorem same_upd {H : Hp} {p : Addr} {o : HO} (h : H p = none) : Same H (upd H p o) := fun b x e => by
  rw [upd_ne (ne_of_none e h)]
  exact e
theorem tup_same {K : PySem.W.Frag} {H H' : Hp} {a : Addr} {xs : List V} (e : Same H H') (h : SqT K H a xs) : SqT K H' a xs := by
  rcases h with (h | ⟨o, h⟩) | h
  · exact .inl (.inl (e _ _ h))
  · exact .inl (.inr ⟨o, e _ _ h⟩)
  · exact .inr h
/-- H1 keeps what H0 has, whatever is stored at p, which H0 has not -/
theorem same_new {H0 H1 : Hp} {p : Addr} {o : HO} (s : Same H0 H1) (h : H0 p = none) : Same H0 (upd H1 p o) := fun b x e => by
  rw [upd_ne (ne_of_none e h)]
  exact s b x e
/-! ### builtins that the module does not bind -/
theorem ty_tup {K : PySem.W.Frag} {H : Hp} {a : Addr} {xs : List V} (h : SqT K H a xs) : TyX K H (.ref a) (.type "tuple") := by
  rcases h with (h | ⟨o, h⟩) | ⟨o, its, n, hk, hc, _⟩
  · exact .base (.tup h)
  · exact .fTuple h
  · exact .kTuple hk hc
/-- x is the kind n | x is no kind -/
def KX (K : PySem.W.Frag) (H : Hp) (x : V) (o : Option Int) : Prop :=
  (∃ n, x = .int n ∧ o = if 0 ≤ n ∧ n < 3 then some n else none) ∨ ∃ (t : Value) (b1 b2 : Bool), TyX K H x t ∧ PySem.W.kitOne K t (.type "int") = some b1 ∧ PySem.W.kitOne K t (.type "bool") = some b2 ∧ (b1 && !b2) = false ∧ o = none
theorem KX.int {K : PySem.W.Frag} {H : Hp} {n : Int} (h0 : 0 ≤ n) (h3 : n < 3) : KX K H (.int n) (some n) := .inl ⟨n, rfl, by rw [if_pos ⟨h0, h3⟩]⟩
/-- x is the count n, from 0 on | x is no count -/
def NX (K : PySem.W.Frag) (H : Hp) (x : V) (o : Option Int) : Prop :=
  (∃ n, x = .int n ∧ o = if 0 ≤ n then some n else none) ∨ ∃ (t : Value) (b1 b2 : Bool), TyX K H x t ∧ PySem.W.kitOne K t (.type "int") = some b1 ∧ PySem.W.kitOne K t (.type "bool") = some b2 ∧ (b1 && !b2) = false ∧ o = none
theorem NX.int {K : PySem.W.Frag} {H : Hp} {n : Int} (h0 : 0 ≤ n) : NX K H (.int n) (some n) := .inl ⟨n, rfl, by rw [if_pos h0]⟩
theorem NX.val {K : PySem.W.Frag} {H : Hp} {x : V} {n : Int} (h : NX K H x (some n)) : x = .int n ∧ 0 ≤ n := by
  rcases h with ⟨i, rfl, e⟩ | ⟨_, _, _, _, _, _, _, e⟩
  · split at e
    · rw [Option.some.inj e]; exact ⟨rfl, by assumption⟩
    · cases e
  · cases e
theorem KX.val {K : PySem.W.Frag} {H : Hp} {x : V} {n : Int} (h : KX K H x (some n)) : x = .int n ∧ 0 ≤ n ∧ n < 3 := by
  rcases h with ⟨i, rfl, e⟩ | ⟨_, _, _, _, _, _, _, e⟩
  · split at e
    · rw [Option.some.inj e]; exact ⟨rfl, by assumption⟩
    · cases e
  · cases e
/-- three counts, one bead at least -/
def okB : Option Int → Option Int → Option Int → Bool
  | some a, some b, some c => decide (0 < a + b + c)
  | _, _, _ => false
theorem okB_none {o1 o2 o3 : Option Int} {i : Nat} (h : [o1, o2, o3][i]? = some none) : okB o1 o2 o3 = false := by
  match i, h with
  | 0, h =>
    have e : o1 = none := Option.some.inj h
    rw [e]; rfl
  | 1, h =>
    have e : o2 = none := Option.some.inj h
    rw [e]; cases o1 <;> rfl
  | 2, h =>
    have e : o3 = none := Option.some.inj h
    rw [e]; cases o1 <;> cases o2 <;> rfl
  | n + 3, h => simp at h
/-- x is no tuple -/
def NoT (K : PySem.W.Frag) (H : Hp) (x : V) : Prop := ∃ t : Value, TyX K H x t ∧ PySem.W.kitOne K t (.type "tuple") = some false
structure Bl (mg : Str → Option Value) : Prop where
  range : mg "range" = none
  isi : mg "isinstance" = none
  lst : mg "list" = none
  all : mg "all" = none
  tup : mg "tuple" = none
  sum : mg "sum" = none
  len : mg "len" = none
  abs : mg "abs" = none
  enu : mg "enumerate" = none
  max : mg "max" = none
  int : mg "int" = none
  bool : mg "bool" = none
  any : mg "any" = none
  min : mg "min" = none
  str : mg "str" = none
  sorted : mg "sorted" = none
/-! ### three counts -/
/-- the triple at p -/
def Tr (K : PySem.W.Frag) (H : Hp) (p : Addr) (a b c : Int) : Prop := SqT K H p [.int a, .int b, .int c]
structure Ok3 (a b c : Int) : Prop where
  a0 : 0 ≤ a
  b0 : 0 ≤ b
  c0 : 0 ≤ c
  pos : 0 < a + b + c
def g3 (a b c k : Int) : Int := if k = 0 then a else if k = 1 then b else c
theorem at3 {a b c k : Int} (h0 : 0 ≤ k) (h3 : k < 3) : atI [V.int a, V.int b, V.int c] k = some (V.int (g3 a b c k)) := by
  have e : k = 0 ∨ k = 1 ∨ k = 2 := by omega
  rcases e with rfl | rfl | rfl <;> rfl
theorem Tr.same {K : PySem.W.Frag} {H H' : Hp} {p : Addr} {a b c : Int} (e : Same H H') (h : Tr K H p a b c) : Tr K H' p a b c := tup_same e h
/-- the meeting at q -/
def Mt (l h : Int) : Prop := (l = 0 ∧ h = 1) ∨ (l = 0 ∧ h = 2) ∨ (l = 1 ∧ h = 2)
def Pr (K : PySem.W.Frag) (H : Hp) (q : Addr) (l h : Int) : Prop := SqT K H q [.int l, .int h]
theorem Pr.same {K : PySem.W.Frag} {H H' : Hp} {p : Addr} {a b : Int} (e : Same H H') (h : Pr K H p a b) : Pr K H' p a b := tup_same e h
/-- a count behind a meeting -/
def mk (k x l h m : Int) : Int := if k = l ∨ k = h then x - 1 else x + m

/-- x are beads (b), or aren't -/
def BX (K : PySem.W.Frag) (H : Hp) (x : V) (b : Bool) : Prop := (NoT K H x ∧ b = false) ∨ (∃ (p : Addr) (xs : List V), x = .ref p ∧ SqT K H p xs ∧ xs.length ≠ 3 ∧ b = false) ∨
  ∃ (p : Addr) (x0 x1 x2 : V) (o0 o1 o2 : Option Int), x = .ref p ∧ SqT K H p [x0, x1, x2] ∧ NX K H x0 o0 ∧ NX K H x1 o1 ∧ NX K H x2 o2 ∧ b = okB o0 o1 o2
theorem BX.of {K : PySem.W.Frag} {H : Hp} {p : Addr} {a b c : Int} (h : Tr K H p a b c) (k : Ok3 a b c) : BX K H (.ref p) true :=
  .inr (.inr ⟨p, .int a, .int b, .int c, some a, some b, some c, rfl, h, NX.int k.a0, NX.int k.b0, NX.int k.c0, (decide_eq_true k.pos).symm⟩)
theorem BX.val {K : PySem.W.Frag} {H : Hp} {x : V} (h : BX K H x true) : ∃ p a b c, x = .ref p ∧ Tr K H p a b c ∧ Ok3 a b c := by
  rcases h with ⟨_, e⟩ | ⟨_, _, _, _, _, e⟩ | ⟨p, x0, x1, x2, o0, o1, o2, rfl, hs, k0, k1, k2, e⟩
  · cases e
  · cases e
  · cases o0 with
    | none => cases e
    | some a =>
      cases o1 with
      | none => cases e
      | some b =>
        cases o2 with
        | none => cases e
        | some c =>
          obtain ⟨rfl, a0⟩ := k0.val
          obtain ⟨rfl, b0⟩ := k1.val
          obtain ⟨rfl, c0⟩ := k2.val
          exact ⟨p, a, b, c, rfl, hs, a0, b0, c0, of_decide_eq_true e.symm⟩
def pairB : Option Int → Option Int → Bool
  | some n, some m => decide (n < m)
  | _, _ => false
/-- x is a pair of two unlike kinds, the lesser first (b), or isn't -/
def MX (K : PySem.W.Frag) (H : Hp) (x : V) (b : Bool) : Prop := (NoT K H x ∧ b = false) ∨ (∃ (p : Addr) (xs : List V), x = .ref p ∧ SqT K H p xs ∧ xs.length ≠ 2 ∧ b = false) ∨
  ∃ (p : Addr) (y z : V) (o1 o2 : Option Int), x = .ref p ∧ SqT K H p [y, z] ∧ KX K H y o1 ∧ KX K H z o2 ∧ b = pairB o1 o2
theorem MX.of {K : PySem.W.Frag} {H : Hp} {q : Addr} {l h : Int} (hq : Pr K H q l h) (m : Mt l h) : MX K H (.ref q) true := by
  have e : (0 ≤ l ∧ l < 3) ∧ (0 ≤ h ∧ h < 3) ∧ l < h := by unfold Mt at m; omega
  exact .inr (.inr ⟨q, .int l, .int h, some l, some h, rfl, hq, KX.int e.1.1 e.1.2, KX.int e.2.1.1 e.2.1.2, (decide_eq_true e.2.2).symm⟩)
theorem MX.val {K : PySem.W.Frag} {H : Hp} {x : V} (h : MX K H x true) : ∃ q l h, x = .ref q ∧ Pr K H q l h ∧ Mt l h := by
  rcases h with ⟨_, e⟩ | ⟨_, _, _, _, _, e⟩ | ⟨p, y, z, o1, o2, rfl, hs, k1, k2, e⟩
  · cases e
  · cases e
  · cases o1 with
    | none => cases e
    | some n =>
      cases o2 with
      | none => cases e
      | some m =>
        obtain ⟨rfl, n0, n3⟩ := k1.val
        obtain ⟨rfl, m0, m3⟩ := k2.val
        have lt : n < m := of_decide_eq_true e.symm
        exact ⟨p, n, m, rfl, hs, by unfold Mt; omega⟩
/-- a bead of each -/
def can (a b c l h : Int) : Bool := decide (0 < g3 a b c l) && decide (0 < g3 a b c h)

theorem can_iff {a b c l h : Int} : can a b c l h = true ↔ 0 < g3 a b c l ∧ 0 < g3 a b c h := by
  unfold can
  rw [Bool.and_eq_true, decide_eq_true_iff, decide_eq_true_iff]
/-- y is a meeting that can be (o), or isn't -/
def YX (K : PySem.W.Frag) (H : Hp) (a b c : Int) (y : V) (o : Bool) : Prop := (MX K H y false ∧ o = false) ∨ ∃ (q : Addr) (l h : Int), y = .ref q ∧ Pr K H q l h ∧ Mt l h ∧ o = can a b c l h
/-- the counts behind a meeting -/
def met (a b c l h m : Int) : List V := [.int (mk 0 a l h m), .int (mk 1 b l h m), .int (mk 2 c l h m)]
/-- the meetings that can be -/
def allM : List (Int × Int) := [(0, 1), (0, 2), (1, 2)]
def cans (a b c : Int) : List (Int × Int) := allM.filter fun p => can a b c p.1 p.2
/-- at L a list of new pairs (not there in H0) -/
def PairsAt (H0 H : Hp) (L : Addr) (ps : List (Int × Int)) : Prop := ∃ rs : List Addr, H L = some (.lst (rs.map V.ref)) ∧ Paired (fun r (p : Int × Int) => H0 r = none ∧ H r = some (.tup [.int p.1, .int p.2])) rs ps
/-- an own error of the text over ValueError -/
structure Ex (K : PySem.W.Frag) (mg : Str → Option Value) (x : Str) (C : Addr) : Prop where
  g : mg x = some (.ref C)
  x : PySem.W.excIn K C [.type "ValueError", .type "Exception", .type "BaseException", .type "object"] "ValueError.__new__" = true
  k : PySem.W.keepIn K (.ref C) = true
  b : PySem.W.subIn K (.ref C) (.type "BaseException") = some true
  t : PySem.W.typeIn K (.ref C) = some (.type "type")

theorem walkEnumT {K : PySem.W.Frag} {a : Addr} {xs : List V} : Walk (IteT K a) xs.length (fun H => SqT K H a xs) (YPair (fun i => some (.int (i : Nat))) (fun i => xs[i]?)) := by
  refine ⟨fun i _ hi q => ⟨xs, xs[i], q, by simp [hi]⟩, fun _ q => ⟨xs, q, Nat.le_refl _⟩, fun i H v H' _ q y => ?_⟩
  obtain ⟨T, x, h1, h2, h3, h4⟩ := y
  exact ⟨T, .int (i : Nat), x, h1, h2, h3, rfl, h4 xs q⟩
theorem take_next {α : Type} {xs : List α} {i : Nat} {x : α} (h : xs[i]? = some x) : xs.take i ++ [x] = xs.take (i + 1) := by
  rw [List.take_add_one, h]
  rfl
theorem met_at {a b c l h m : Int} {i : Nat} (hi : i < 3) {x : V} (hx : [V.int a, V.int b, V.int c][i]? = some x) : ∃ n : Int, x = .int n ∧ (met a b c l h m)[i]? = some (.int (mk (i : Int) n l h m)) := by
  match i, hi with
  | 0, _ => exact ⟨a, (Option.some.inj hx).symm, rfl⟩
  | 1, _ => exact ⟨b, (Option.some.inj hx).symm, rfl⟩
  | 2, _ => exact ⟨c, (Option.some.inj hx).symm, rfl⟩

theorem inV_pair {k l h : Int} : inV (.int k) [.int l, .int h] = true ↔ k = l ∨ k = h := by
  show ((l == k) || ((h == k) || false)) = true ↔ _
  rw [Bool.or_false, Bool.or_eq_true, beq_iff_eq, beq_iff_eq]
  constructor
  · rintro (e | e)
    · exact .inl e.symm
    · exact .inr e.symm
  · rintro (e | e)
    · exact .inl e.symm
    · exact .inr e.symm

theorem Paired.snoc {α β : Type} {R : α → β → Prop} {x : α} {y : β} (h : R x y) : ∀ {xs : List α} {ys : List β}, Paired R xs ys → Paired R (xs ++ [x]) (ys ++ [y])
  | _, _, .nil => .cons h .nil
  | _, _, .cons r t => .cons r (Paired.snoc h t)
theorem Paired.mono2 {α β : Type} {R S : α → β → Prop} (h : ∀ x y, R x y → S x y) : ∀ {xs : List α} {ys : List β}, Paired R xs ys → Paired S xs ys
  | _, _, .nil => .nil
  | _, _, .cons r t => .cons (h _ _ r) (Paired.mono2 h t)
theorem PairsAt.add {H0 H : Hp} {D p : Addr} {ps : List (Int × Int)} {l h : Int} (P : PairsAt H0 H D ps) (np : H p = none) (sm : Same H0 H) :
    ∃ acc : List V, (upd H p (.tup [.int l, .int h])) D = some (.lst acc) ∧ acc.length = ps.length ∧ PairsAt H0 (upd (upd H p (.tup [.int l, .int h])) D (.lst (acc ++ [.ref p]))) D (ps ++ [(l, h)]) := by
  obtain ⟨rs, hD, hp⟩ := P
  have nDp : D ≠ p := ne_of_none hD np
  refine ⟨rs.map V.ref, by rw [upd_ne nDp]; exact hD, by rw [List.length_map]; exact Paired.length hp, rs ++ [p], by rw [upd_same, List.map_append]; rfl, ?_⟩
  refine Paired.snoc ⟨sm.free np, by rw [upd_ne nDp.symm, upd_same]⟩ (Paired.mono2 (fun r q z => ⟨z.1, ?_⟩) hp)
  have n1 : r ≠ p := ne_of_none z.2 np
  have n2 : r ≠ D := ne_of z.2 hD (fun e => by cases e)
  rw [upd_ne n2, upd_ne n1]
  exact z.2
def st3 (i : Nat) : Nat := if i = 0 then 0 else if i = 1 then 2 else 3
theorem st3_next {i : Nat} (h : i < 3) : st3 i + (2 - i) = st3 (i + 1) := by
  have e : i = 0 ∨ i = 1 ∨ i = 2 := by omega
  rcases e with rfl | rfl | rfl <;> rfl
theorem allM_at {i j : Nat} (h : i < 3) (hj : j < 2 - i) : allM[st3 i + j]? = some ((i : Int), (i : Int) + 1 + (j : Int)) := by
  have e : (i = 0 ∧ j = 0) ∨ (i = 0 ∧ j = 1) ∨ (i = 1 ∧ j = 0) := by omega
  rcases e with ⟨rfl, rfl⟩ | ⟨rfl, rfl⟩ | ⟨rfl, rfl⟩ <;> rfl
theorem cans_step {a b c l h : Int} {k : Nat} (e : allM[k]? = some (l, h)) : (allM.take (k + 1)).filter (fun p => can a b c p.1 p.2) = (allM.take k).filter (fun p => can a b c p.1 p.2) ++ (if can a b c l h = true then [(l, h)] else []) := by
  rw [← take_next e, List.filter_append, List.filter_cons, List.filter_nil]

/-! ### data -/
theorem dpInts {K : PySem.W.Frag} {H : Hp} : ∀ ns : List Int, DpAll K H (ns.map V.int) (ns.map PyData.int)
  | [] => .nil
  | n :: ns => .cons (.int n) (dpInts ns)
theorem canLayInts : ∀ ns : List Int, PyData.canLayAll0 (ns.map PyData.int) = true
  | [] => by simp [PyData.canLayAll0]
  | n :: ns => by simp [PyData.canLayAll0, PyData.canLay0, canLayInts ns]
theorem depthInts : ∀ ns : List Int, PyData.depthAll (ns.map PyData.int) = 0
  | [] => by simp [PyData.depthAll]
  | n :: ns => by simp [PyData.depthAll, PyData.depth, depthInts ns]
theorem shaped_ints (ns : List Int) : SeqAt.shaped (.list (ns.map PyData.int)) = true := by
  unfold SeqAt.shaped
  rw [PyData.canLay0, PyData.depth, canLayInts, depthInts] <;> rfl
theorem shaped_tint (ns : List Int) : SeqAt.shaped (.tuple (ns.map PyData.int)) = true := by
  unfold SeqAt.shaped
  rw [PyData.canLay0, PyData.depth, canLayInts, depthInts] <;> rfl
theorem eqvInts : ∀ ns ms : List Int, PyData.eqvAll (ns.map PyData.int) (ms.map PyData.int) = decide (ns = ms)
  | [], [] => by simp [PyData.eqvAll]
  | [], _ :: _ => by simp [PyData.eqvAll]
  | _ :: _, [] => by simp [PyData.eqvAll]
  | n :: ns, m :: ms => by
    rw [List.map_cons, List.map_cons, PyData.eqvAll, PyData.eqv, eqvInts ns ms]
    by_cases e : n = m
    · subst e
      by_cases e2 : ns = ms
      · simp [e2]
      · simp [e2]
    · simp [e]
/-! ### sizes -/
def Sz (n : Nat) (x : Int) : Prop := x.natAbs < 2 ^ n
theorem Sz.mono {n m : Nat} {x : Int} (h : Sz n x) (k : n ≤ m) : Sz m x := Nat.lt_of_lt_of_le h (Nat.pow_le_pow_right (by decide) k)
theorem Sz.add {n : Nat} {x y : Int} (h : Sz n x) (k : Sz n y) : Sz (n + 1) (x + y) := by
  unfold Sz at *
  rw [Nat.pow_succ]
  omega
theorem Sz.mul {n m : Nat} {x y : Int} (h : Sz n x) (k : Sz m y) : Sz (n + m) (x * y) := by
  unfold Sz at *
  rw [Int.natAbs_mul, Nat.pow_add]
  exact Nat.mul_lt_mul'' h k
theorem Sz.cmul {n m : Nat} {x y : Int} (h : Sz n x) (k : Sz m y) (h0 : 0 < n) (k0 : 0 < m) (s : n + m ≤ 134000000) : CMulX x y := by
  have a := PySem.Flt.log2_lt_of h0 h
  have b := PySem.Flt.log2_lt_of k0 k
  unfold CMulX
  omega
theorem Sz.small {n : Nat} {x : Int} (h : -(2 ^ n : Int) < x) (k : x < (2 ^ n : Int)) : Sz n x := by
  unfold Sz
  have e : ((2 ^ n : Nat) : Int) = (2 : Int) ^ n := by simp
  omega
theorem sum_natAbs {n : Nat} : ∀ ns : List Int, (∀ z ∈ ns, Sz n z) → ns.sum.natAbs ≤ ns.length * 2 ^ n
  | [], _ => by simp
  | z :: ns, h => by
    have ih := sum_natAbs ns fun y hy => h y (List.mem_cons_of_mem _ hy)
    have hz : z.natAbs < 2 ^ n := h z List.mem_cons_self
    rw [List.sum_cons, List.length_cons, Nat.succ_mul]
    have q := Int.natAbs_add_le z ns.sum
    omega
theorem sum_sz {n : Nat} {ns : List Int} (h : ∀ z ∈ ns, Sz n z) (k : ns.length ≤ 63) : Sz (n + 6) ns.sum := by
  have a := sum_natAbs ns h
  unfold Sz
  have b : ns.length * 2 ^ n ≤ 63 * 2 ^ n := Nat.mul_le_mul_right _ k
  have c : 2 ^ (n + 6) = 64 * 2 ^ n := by rw [Nat.pow_add, Nat.mul_comm]
  have d : 0 < 2 ^ n := Nat.pow_pos (by decide)
  omega

theorem cut_all (xs : List V) (k : Nat) (h : xs.length ≤ k) : cutV xs none (some (k : Int)) = xs := by
  unfold cutV
  rw [HT.sIx_none, HT.sIx_nat, Nat.min_eq_right h, Nat.sub_zero, List.drop_zero, List.take_length]
theorem at_int {ms : List Int} {z : Int} (h0 : 0 ≤ z) (h1 : z < (ms.length : Int)) : ∃ m, m ∈ ms ∧ atI (ms.map V.int) z = some (.int m) := by
  have hl : z.toNat < ms.length := by omega
  refine ⟨ms[z.toNat], List.getElem_mem hl, at_of (j := z.toNat) (by omega) ?_⟩
  rw [List.getElem?_map, List.getElem?_eq_getElem hl]
  rfl
/-- the cells of the script: itself, or [5] -/
theorem rd_cells {K : PySem.W.Frag} {σ : L2.St} {H : Hp} {Q : VK} {p : Addr} {ns : List Int} {n : Nat} (h0 : σ[0]? = some (some (.ref p))) (hS : SqL K H p (ns.map V.int)) (hlen : ns.length ≤ 63) (hz : ∀ z ∈ ns, Sz n z)
    (k : ∀ (H' : Hp) (c : Addr) (ms : List Int), Same H H' → H c = none → H' c = some (.lst (ms.map V.int)) → ms ≠ [] → ms.length ≤ 63 → (∀ z ∈ ms, Sz (n + 3) z) → Q (.ref c) H') :
    tIf (tTest (tOp (rNeD K) (tVar 0) (tLst tNil))) (tSl (rSlL K) (tVar 0) tNoPart (tPart (tC (.int 63)))) (tLst (tCons (tC (.int 5)) tNil)) σ H Q := by
  refine ⟨_, h0, Nat.zero_le _, fun e he => ?_⟩
  have s1 : Same H (upd H e (.lst [])) := same_upd he
  refine ⟨.list (ns.map PyData.int), .list (([] : List Int).map PyData.int), .lst (s1.seq hS) (dpInts ns), .lst (.inl (.inl upd_same)) (dpInts []), shaped_ints ns, shaped_ints [], _, rfl, ite2 (fun z => ?_) (fun z => ?_)⟩
  · have hne : ns ≠ [] := fun q => by
      subst q
      exact absurd z (by simp [PyData.eqv, PyData.eqvAll])
    refine ⟨_, h0, 63, rfl, p, _, rfl, s1.seq hS, fun c hc => ?_⟩
    rw [show cutV (ns.map V.int) none (some 63) = ns.map V.int from cut_all (ns.map V.int) 63 (by rw [List.length_map]; exact hlen)]
    exact k _ c ns (s1.trans (same_upd hc)) (s1.free hc) upd_same hne hlen fun z hz' => (hz z hz').mono (by omega)
  · refine ⟨(by show 1 ≤ sizeLine; decide), fun c hc => ?_⟩
    refine k _ c [5] (s1.trans (same_upd hc)) (s1.free hc) upd_same (by simp) (by decide) fun z hz' => ?_
    obtain rfl := List.mem_singleton.mp hz'
    exact Sz.mono (n := 3) (.small (by decide) (by decide)) (by omega)

theorem Paired.get {α β : Type} {R : α → β → Prop} : ∀ {xs : List α} {ys : List β} {i : Nat} {x : α}, Paired R xs ys → xs[i]? = some x → ∃ y, ys[i]? = some y ∧ R x y
  | _, _, _, _, .nil, e => by simp at e
  | _, _, 0, _, .cons r _, e => ⟨_, rfl, (Option.some.inj e) ▸ r⟩
  | _, _, i + 1, x, .cons _ t, e => by
    obtain ⟨y, h1, h2⟩ := Paired.get (i := i) (x := x) t (by simpa using e)
    exact ⟨y, by simpa using h1, h2⟩
def dPairs (ps : List (Int × Int)) : PyData := .list (ps.map fun p => .tuple [.int p.1, .int p.2])
theorem dpPairs {K : PySem.W.Frag} {H : Hp} {R : Addr → (Int × Int) → Prop} (hR : ∀ r p, R r p → H r = some (.tup [.int p.1, .int p.2])) : ∀ {rs : List Addr} {ps : List (Int × Int)}, Paired R rs ps → DpAll K H (rs.map V.ref) (ps.map fun p => .tuple [.int p.1, .int p.2])
  | _, _, .nil => .nil
  | _, _, .cons r t => .cons (.tup (.inl (.inl (hR _ _ r))) (.cons (.int _) (.cons (.int _) .nil))) (dpPairs hR t)
theorem PairsAt.dp {K : PySem.W.Frag} {H0 H : Hp} {L : Addr} {ps : List (Int × Int)} (h : PairsAt H0 H L ps) : Dp K H (.ref L) (dPairs ps) := by
  obtain ⟨rs, hL, hp⟩ := h
  exact .lst (.inl (.inl hL)) (dpPairs (fun _ _ z => z.2) hp)
theorem canLayPairs : ∀ ps : List (Int × Int), PyData.canLayAll0 (ps.map fun p => .tuple [.int p.1, .int p.2]) = true
  | [] => by simp [PyData.canLayAll0]
  | p :: ps => by
    rw [List.map_cons, PyData.canLayAll0, canLayPairs ps]
    simp [PyData.canLay0, PyData.canLayAll0]
theorem depthPairs : ∀ ps : List (Int × Int), PyData.depthAll (ps.map fun p => .tuple [.int p.1, .int p.2]) ≤ 1
  | [] => by simp [PyData.depthAll]
  | p :: ps => by
    rw [List.map_cons, PyData.depthAll]
    have ih := depthPairs ps
    simp only [PyData.depth, PyData.depthAll]
    omega
theorem shaped_pairs (ps : List (Int × Int)) : SeqAt.shaped (dPairs ps) = true := by
  unfold SeqAt.shaped dPairs
  rw [PyData.canLay0, canLayPairs, PyData.depth, Bool.true_and, decide_eq_true_iff]
  have := depthPairs ps
  omega
theorem eqv_self {d : PyData} (h : SeqAt.shaped d = true) : PyData.eqv d d = true := SeqAt.eqv_refl d (SeqAt.canLay_of_shaped h)
theorem PairsAt.same {H0 H H' : Hp} {L : Addr} {ps : List (Int × Int)} (s : Same H H') (h : PairsAt H0 H L ps) : PairsAt H0 H' L ps := by
  obtain ⟨rs, hL, hp⟩ := h
  exact ⟨rs, s _ _ hL, Paired.mono2 (fun _ _ z => ⟨z.1, s _ _ z.2⟩) hp⟩
theorem mem_cans {a b c : Int} {q : Int × Int} (h : q ∈ cans a b c) : Mt q.1 q.2 ∧ can a b c q.1 q.2 = true := by
  obtain ⟨h1, h2⟩ := List.mem_filter.mp h
  refine ⟨?_, h2⟩
  simp only [allM, List.mem_cons, List.mem_nil_iff, or_false] at h1
  unfold Mt
  rcases h1 with rfl | rfl | rfl <;> simp
theorem sum_met {a b c l h m : Int} (hM : Mt l h) : mk 0 a l h m + (mk 1 b l h m + (mk 2 c l h m + 0)) = a + b + c - 2 + m := by
  unfold Mt at hM
  unfold mk
  rcases hM with ⟨rfl, rfl⟩ | ⟨rfl, rfl⟩ | ⟨rfl, rfl⟩ <;> simp <;> omega
theorem ty_lst {K : PySem.W.Frag} {H : Hp} {a : Addr} {xs : List V} (h : H a = some (.lst xs)) : TyX K H (.ref a) (.type "list") := .base (.lst h)

/-- three tuples and a list of them, laid -/
theorem lit3 {H : Hp} {t0 t1 t2 l : Addr} {x0 x1 x2 : List V} (h0 : H t0 = none) (h1 : upd H t0 (.tup x0) t1 = none) (h2 : upd (upd H t0 (.tup x0)) t1 (.tup x1) t2 = none) (hl : upd (upd (upd H t0 (.tup x0)) t1 (.tup x1)) t2 (.tup x2) l = none) :
    ∃ Hm, upd (upd (upd (upd H t0 (.tup x0)) t1 (.tup x1)) t2 (.tup x2)) l (.lst [.ref t0, .ref t1, .ref t2]) = Hm ∧ Same H Hm ∧ Hm t0 = some (.tup x0) ∧ Hm t1 = some (.tup x1) ∧ Hm t2 = some (.tup x2) ∧ Hm l = some (.lst [.ref t0, .ref t1, .ref t2]) ∧ H t1 = none ∧ H t2 = none ∧ H l = none := by
  have s0 : Same H (upd H t0 (.tup x0)) := same_upd h0
  have s1 : Same (upd H t0 (.tup x0)) (upd (upd H t0 (.tup x0)) t1 (.tup x1)) := same_upd h1
  have s2 : Same (upd (upd H t0 (.tup x0)) t1 (.tup x1)) (upd (upd (upd H t0 (.tup x0)) t1 (.tup x1)) t2 (.tup x2)) := same_upd h2
  have s3 : Same (upd (upd (upd H t0 (.tup x0)) t1 (.tup x1)) t2 (.tup x2)) (upd (upd (upd (upd H t0 (.tup x0)) t1 (.tup x1)) t2 (.tup x2)) l (.lst [.ref t0, .ref t1, .ref t2])) := same_upd hl
  exact ⟨_, rfl, s0.trans (s1.trans (s2.trans s3)), s3 _ _ (s2 _ _ (s1 _ _ upd_same)), s3 _ _ (s2 _ _ upd_same), s3 _ _ upd_same, upd_same, s0.free h1, s0.free (s1.free h2), s0.free (s1.free (s2.free hl))⟩
theorem ref_get {rs : List Addr} {i : Nat} {x : V} (h : (rs.map V.ref)[i]? = some x) : ∃ r, rs[i]? = some r ∧ x = .ref r := by
  rw [List.getElem?_map] at h
  cases e : rs[i]? with
  | none => rw [e] at h; cases h
  | some r => rw [e] at h; exact ⟨r, rfl, (Option.some.inj h).symm⟩
theorem all_rep (n : Nat) : (List.replicate n true).all id = true := by
  rw [List.all_eq_true]
  intro x hx
  exact (List.mem_replicate.mp hx).2
theorem rep_next (n : Nat) : (List.replicate n true).map V.bl ++ [V.bl true] = (List.replicate (n + 1) true).map V.bl := by
  rw [List.replicate_succ', List.map_append]
  rfl
theorem met_ints (a b c l h m : Int) : met a b c l h m = [mk 0 a l h m, mk 1 b l h m, mk 2 c l h m].map V.int := rfl
end Km

set_option Elab.async false
set_option linter.all false
set_option maxRecDepth 100000
set_option maxHeartbeats 4000000
namespace Km
open PySem PySem.Spec PyProof.Rows L2
theorem sz_of_bits {n : Nat} {z : Int} (h : Builtin.Int.intBits z ≤ n) : Sz n z := by
  unfold Builtin.Int.intBits at h
  unfold Sz
  by_cases e : z = 0
  · subst e
    exact Nat.pow_pos (by decide)
  · have e2 : z.natAbs ≠ 0 := by omega
    have h1 : z.natAbs.log2 < n := by
      split at h
      · rename_i q
        first
          | exact absurd (beq_iff_eq.mp q) e
          | omega
      · omega
    exact (Nat.log2_lt e2).mp h1
theorem szs_of_bits {ns : List Int} (h : ∀ z ∈ ns, Builtin.Int.intBits z ≤ 1048576) : ∃ n, n ≤ 1900000 ∧ ∀ z ∈ ns, Sz n z := by
  have key : ∀ m : Nat, m ≤ 1900000 → (∀ z ∈ ns, Builtin.Int.intBits z ≤ m) → ∃ n, n ≤ 1900000 ∧ ∀ z ∈ ns, Sz n z := fun m hm hb => ⟨m, hm, fun z hz => sz_of_bits (hb z hz)⟩
  exact key 1048576 (by decide) h
/-- the end of a law over a head by facts, the script's bits told -/
theorem walk_ofEB {l : PySem.W.OpenLaw} {n k : Nat} {q : Program} {loose : List Str} {XP : (Str → Option Value) → Heap → Prop} {YP : World → Heap → Prop} {d : DefRec} {CX : CXT} {x : Str}
    (hn : l.most = some n) (hn2 : n ≤ sizeLine) (hdf : d.params.defaults = []) (hr : Room k callerA)
    (F : ∀ (w : World) (mg : Str → Option Value) (fa : Addr) (h : Heap), YP w h → h.Ns mainGlobals mg → mg d.name = some (.ref fa) →
      ∃ (K : PySem.W.Frag) (fd : FuncData) (sp : Sp), K.In h ∧ (∀ (s : Shared) (u : Value), BindsTo s fd ⟨[u], []⟩ [(x, u)]) ∧
        (∀ (H : Hp) (a : Addr) (ns : List Int), ns.length ≤ n → (∃ m, m ≤ 1900000 ∧ ∀ z ∈ ns, Sz m z) → Only H → SqL K H a (ns.map V.int) → sp [.ref a] H (fun v _ => v = .bl true) fun _ _ _ => False) ∧
        ∀ base : Heap, K.In base → base.Ns mainGlobals mg → FnOk l.prog w K mg base CX k fa fd [x] sp)
    (hCX : ∀ (H : Hp) (s : Shared) (e : Value) (s' : Shared), CX [] H s (fun _ _ _ => False) e s' → False) :
    PySem.W.WalkO q loose XP YP l.row.toRowW d [] (fun f vs => PySem.call f vs) := by
  refine Att.attach_callB hn hdf fun w s₀ s₁ mg mb fa o pm cd doc a vs ns G Y ho hd hcd hmg hobj hints hlen hbits hg => ?_
  obtain ⟨K, fd, sp, KX, hb, hsp, hF⟩ := F w mg fa _ Y G.T.g hmg
  exact law_call KX G.T.g G.T.b G.T.builtins G.T.nolimit hg hobj hints (Nat.le_trans hlen hn2) hr hF hb (fun H hO hS => hsp H a ns hlen (szs_of_bits hbits) hO hS) fun H e s' => hCX H s₁ e s'
theorem ex_of {K : PySem.W.Frag} {h : Heap} {mg : Str → Option Value} {x : Str} (X : K.In h) (G : h.Ns mainGlobals mg) (c1 : (He.Fa.glo x).ok K = true) (c2 : (He.Fa.exc x).ok K = true) : Ex K mg x (He.ga K x) := by
  obtain ⟨a, b, c, d⟩ := He.exc_ok c2
  exact ⟨He.glo_ok X G c1, a, b, c, d⟩
end Km

set_option Elab.async false
set_option linter.all false
set_option maxRecDepth 100000
set_option maxHeartbeats 4000000
namespace Km
open PySem PySem.Spec PyProof.Rows L2
/-- {t: v}, t a tuple of ints and texts -/
def tDisp1T (tk tv : TE) : TE := fun σ H Q => ∀ p, H p = none → tk σ (upd H p (.dT [])) fun x H1 => tv σ H1 fun y H2 => ∃ (k : List Key) (b : Addr), x = .ref b ∧ H2 b = some (.tup (k.map kV)) ∧ H2 p = some (.dT []) ∧ Q (.ref p) (upd H2 p (.dT [(k, y)]))
theorem pe_disp1T {X : Cx} {pos : Pos} {k v : Expr} {tk tv : TE} (hu : X.A.units + 1 < cLine) (hk : PE X k tk) (hv : PE X v tv) : PE X (.Dict [some k] [v] pos) (tDisp1T tk tv) := by
  refine ⟨fun pins s σ H Q I q => ?_⟩
  have hn := I.hok.fresh (Nat.le_refl s.heap.objs.size)
  have I1 := I.laid (a := s.heap.objs.size) (o := .dT []) (h' := s.heap.push { cls := .type "dict", data := .dict #[] }) (t' := s.toks) (fun _ _ q => Heap.get?_push_of_some _ q) (Nat.le_refl _) (dt_empty s.heap I.big)
  have hp : PPs X pos [some k] [v] [(tk, tv)] := pps_cons hk hv pps_nil
  have q0 := q _ hn
  rw [arm_eval_Dict, zip_pairTrees [some k] [v] X.env pos rfl rfl, dictDisplay_pairs (pairTrees [some k] [v] X.env pos) (fun z => by have w := pairTrees_length [some k] [v] X.env pos rfl rfl; rw [z] at w; cases w) (by rw [pairTrees_length [some k] [v] X.env pos rfl rfl]; show 1 < 17; decide)]
  refine wpAny_bind (wpAny_standAt (wpAny_bind ?_))
  unfold subDict
  refine wpAny_bind (wpAny_alloc ?_)
  refine wpAny_bind (wpAny_holding ?_)
  rw [if_pos (by rw [pairTrees_length [some k] [v] X.env pos rfl rfl]; show 1 ≤ 15; decide)]
  refine wpAny_bind (thn (hp.run pins _ σ _ (fun ps H2 => match ps with
    | [(x, y)] => ∃ (k : List Key) (b : Addr), x = .ref b ∧ H2 b = some (.tup (k.map kV)) ∧ H2 s.heap.objs.size = some (.dT []) ∧ Q (.ref s.heap.objs.size) (upd H2 s.heap.objs.size (.dT [(k, y)]))
    | _ => False) I1 q0) fun ws s2 hh => ?_)
  · obtain ⟨ps, H2, I2, rel, q1⟩ := hh
    obtain ⟨x, y, rfl⟩ : ∃ x y, ps = [(x, y)] := by
      match ps, q1 with
      | [(x, y)], _ => exact ⟨x, y, rfl⟩
    obtain ⟨kk, b, rfl, hb, hd, q2⟩ := q1
    cases rel with
    | cons r rr =>
      cases rr
      rename_i uw
      obtain ⟨u, w2⟩ := uw
      obtain ⟨r1, r2⟩ := r
      obtain rfl : u = Value.ref b := r1
      refine wpAny_holding ?_
      rw [List.forIn_cons]
      obtain ⟨z, hsys, xs, relx, dd⟩ := dt_of I2.hok hd
      have hx : xs = [] := by cases relx; rfl
      subst hx
      refine wpAny_bind (wpAny_bind (wpAny_bind (wpAny_dictSet_heap (hsz := Nat.zero_le _) (show (tupleKind (mixKind X.prog X.w)).room X.A from Nat.lt_trans (Nat.lt_succ_self _) hu) (key_of I2.hok hb) dd fun h' dd' hs => ?_)))
      refine wpAny_pure ?_
      show wpAny _ _ (forIn [] PUnit.unit _) _ _ _
      rw [List.forIn_nil]
      refine wpAny_pure (wpAny_pure (wpAny_pure (wpAny_pure ?_)))
      obtain ⟨qo, es, ep, hq, h2, h3, h4, _, h5⟩ := dd'
      have new : ObjOk X.prog X.w (upd H2 s.heap.objs.size (.dT [(kk, y)])) h' s.heap.objs.size (.dT [(kk, y)]) := by
        refine ⟨by show 1 ≤ sizeLine; decide, hsys, _, (KT.put (kvs := []) (xs := []) (k := kk) .nil hb r2).keeps fun c ys ec => ?_, qo, es, ep, hq, h2, h3, h4, h5⟩
        rw [upd_ne (ne_of ec hd (fun z => nomatch z))]
        exact ec
      exact ⟨.ref s.heap.objs.size, _, d_write I2 (by rw [hd]; exact True.intro) hs ⟨qo, hq⟩ new, rfl, q2⟩
/-- over a dict with tuple keys that has just come: it stays locked -/
def iKeysL (td : TE) : TI := fun σ H R => td σ H fun x H1 => ∃ (d : Addr) (kvs : List (List Key × V)), x = .ref d ∧ H1 d = some (.dT kvs) ∧ ∀ o, R (Itkt d o kvs) (upd H1 d (.frz o (.dT kvs)))
theorem pi_keysL {X : Cx} {tg e : Expr} {td : TE} (he : PE X e td) : PI X tg e (iKeysL td) := by
  refine ⟨fun pins s σ H R I h => ?_⟩
  refine thn (he.run pins s σ H _ I h) fun u s1 ⟨x, H1, I1, rx, d, kvs, ex, hd0, q⟩ => ?_
  subst ex
  obtain rfl : u = Value.ref d := rx
  obtain ⟨od, I1'⟩ := I1.lock hd0 True.intro
  have hd : upd H1 d (.frz od (.dT kvs)) d = some (.frz od (.dT kvs)) := upd_same
  obtain ⟨hs, hgd, hx, es, ep, hdt, hsz, ent⟩ := I1'.frzT hd
  refine iter_keys hs hgd hx hdt (pi_one (tk := s1.toks) I1' _ (turn_keysT _ hdt) ⟨_, Heap.get?_push_size _ rfl, rfl, ?_⟩ (q od))
  rw [hsz] <;> rfl
end Km

set_option Elab.async false
set_option linter.all false
set_option maxRecDepth 100000
set_option maxHeartbeats 4000000
namespace Km
open PySem PySem.Spec PyProof.Rows L2
abbrev T3 := Int × Int × Int
def cn (s : T3) (l h : Int) : Bool := can s.1 s.2.1 s.2.2 l h
def mt3 (s : T3) (l h m : Int) : T3 := (mk 0 s.1 l h m, mk 1 s.2.1 l h m, mk 2 s.2.2 l h m)
inductive Path (m : Int) (s : T3) : Nat → T3 → Prop where
  | nil : Path m s 0 s
  | snoc {n : Nat} {t : T3} {l h : Int} (p : Path m s n t) (hM : Mt l h) (hc : cn t l h = true) : Path m s (n + 1) (mt3 t l h m)
theorem Path.zero {m : Int} {s t : T3} (p : Path m s 0 t) : t = s := by
  cases p
  rfl
theorem Path.last {m : Int} {s u : T3} {n : Nat} (p : Path m s (n + 1) u) : ∃ t l h, Path m s n t ∧ Mt l h ∧ cn t l h = true ∧ u = mt3 t l h m := by
  cases p with
  | snoc p hM hc => exact ⟨_, _, _, p, hM, hc, rfl⟩
theorem Path.cons {m : Int} {s : T3} {l h : Int} (hM : Mt l h) (hc : cn s l h = true) : ∀ {n : Nat} {t : T3}, Path m (mt3 s l h m) n t → Path m s (n + 1) t
  | _, _, .nil => .snoc .nil hM hc
  | _, _, .snoc p hM' hc' => .snoc (Path.cons hM hc p) hM' hc'
/-! ### the search -/
structure Bfs (m : Int) (s : T3) (N : Nat) (F : List (T3 × Nat)) (L : List T3) : Prop where
  nd : (F.map (·.1)).Nodup
  A : ∀ t n, (t, n) ∈ F → Path m s n t ∧ n ≤ N ∧ ∀ k, k < n → ¬ Path m s k t
  B : ∀ k t, k ≤ N → Path m s k t → t ∈ F.map (·.1)
  C : ∀ t, t ∈ L ↔ (t, N) ∈ F
theorem Bfs.start (m : Int) (s : T3) : Bfs m s 0 [(s, 0)] [s] where
  nd := List.nodup_cons.mpr ⟨List.not_mem_nil, List.nodup_nil⟩
  A := fun t n h => by
    have e := List.mem_singleton.mp h
    cases e
    exact ⟨.nil, Nat.le_refl _, fun k hk => absurd hk (Nat.not_lt_zero k)⟩
  B := fun k t hk p => by
    obtain rfl : k = 0 := by omega
    rw [p.zero]
    exact List.mem_singleton.mpr rfl
  C := fun t => by
    rw [List.mem_singleton, List.mem_singleton]
    constructor
    · intro e; rw [e]
    · intro e; cases e; rfl
structure Mid (m : Int) (s : T3) (N : Nat) (F : List (T3 × Nat)) (G D : List T3) : Prop where
  nd : (F.map (·.1) ++ G).Nodup
  P : ∀ g, g ∈ G → Path m s (N + 1) g
  S : ∀ t, t ∈ D → ∀ l h, Mt l h → cn t l h = true → mt3 t l h m ∈ F.map (·.1) ++ G
theorem Mid.start {m : Int} {s : T3} {N : Nat} {F : List (T3 × Nat)} {L : List T3} (b : Bfs m s N F L) : Mid m s N F [] [] :=
  ⟨by rw [List.append_nil]; exact b.nd, fun _ h => (nomatch h), fun _ h => (nomatch h)⟩
theorem Mid.finish {m : Int} {s : T3} {N : Nat} {F : List (T3 × Nat)} {L G D : List T3} (b : Bfs m s N F L) (q : Mid m s N F G D) (hD : ∀ t, t ∈ L → t ∈ D) : Bfs m s (N + 1) (F ++ G.map fun g => (g, N + 1)) G where
  nd := by
    rw [List.map_append, List.map_map]
    have e : G.map ((fun x : T3 × Nat => x.1) ∘ fun g => (g, N + 1)) = G := by
      rw [show ((fun x : T3 × Nat => x.1) ∘ fun g : T3 => (g, N + 1)) = id from rfl, List.map_id]
    rw [e]
    exact q.nd
  A := fun t n h => by
    rcases List.mem_append.mp h with h | h
    · obtain ⟨h1, h2, h3⟩ := b.A t n h
      exact ⟨h1, by omega, h3⟩
    · obtain ⟨g, hg, e⟩ := List.mem_map.mp h
      cases e
      refine ⟨q.P _ hg, Nat.le_refl _, fun k hk p => ?_⟩
      have hk' : k ≤ N := by omega
      have hin := b.B k _ hk' p
      exact (List.nodup_append.mp q.nd).2.2 _ hin _ hg rfl
  B := fun k u hk p => by
    rw [List.map_append, List.map_map]
    have e : G.map ((fun x : T3 × Nat => x.1) ∘ fun g => (g, N + 1)) = G := by
      rw [show ((fun x : T3 × Nat => x.1) ∘ fun g : T3 => (g, N + 1)) = id from rfl, List.map_id]
    rw [e]
    by_cases hk' : k ≤ N
    · exact List.mem_append.mpr (.inl (b.B k u hk' p))
    · obtain rfl : k = N + 1 := by omega
      obtain ⟨t, l, h, pt, hM, hc, rfl⟩ := p.last
      obtain ⟨⟨t', n⟩, htn, et⟩ := List.mem_map.mp (b.B N t (Nat.le_refl _) pt)
      have et : t' = t := et
      subst et
      obtain ⟨h1, h2, h3⟩ := b.A t' n htn
      by_cases hn : n = N
      · subst hn
        exact q.S t' (hD t' ((b.C t').mpr htn)) l h hM hc
      · exact List.mem_append.mpr (.inl (b.B (n + 1) _ (by omega) (.snoc h1 hM hc)))
  C := fun t => by
    constructor
    · intro ht
      exact List.mem_append.mpr (.inr (List.mem_map.mpr ⟨t, ht, rfl⟩))
    · intro ht
      rcases List.mem_append.mp ht with h | h
      · have := (b.A t (N + 1) h).2.1
        omega
      · obtain ⟨g, hg, e⟩ := List.mem_map.mp h
        cases e
        exact hg
/-- all that are reached, each with the fewest steps -/
def Found (m : Int) (s : T3) (F : List (T3 × Nat)) : Prop := (F.map (·.1)).Nodup ∧ ∀ t n, (t, n) ∈ F ↔ Path m s n t ∧ ∀ k, k < n → ¬ Path m s k t
theorem Bfs.over {m : Int} {s : T3} {N : Nat} {F : List (T3 × Nat)} (b : Bfs m s N F []) : Found m s F := by
  have all : ∀ k t, Path m s k t → t ∈ F.map (·.1) := by
    intro k
    induction k with
    | zero => exact fun t p => b.B 0 t (Nat.zero_le _) p
    | succ k ih =>
      intro u p
      obtain ⟨t, l, h, pt, hM, hc, rfl⟩ := p.last
      obtain ⟨⟨t', n⟩, htn, et⟩ := List.mem_map.mp (ih t pt)
      have et : t' = t := et
      subst et
      obtain ⟨h1, h2, h3⟩ := b.A t' n htn
      have hn : n ≠ N := fun e => by
        subst e
        exact absurd ((b.C t').mpr htn) List.not_mem_nil
      exact b.B (n + 1) _ (by omega) (.snoc h1 hM hc)
  refine ⟨b.nd, fun t n => ⟨fun h => ⟨(b.A t n h).1, (b.A t n h).2.2⟩, fun ⟨p, mn⟩ => ?_⟩⟩
  obtain ⟨⟨t', n'⟩, htn, et⟩ := List.mem_map.mp (all n t p)
  have et : t' = t := et
  subst et
  obtain ⟨h1, h2, h3⟩ := b.A t' n' htn
  have e : n = n' := by
    rcases Nat.lt_trichotomy n n' with h | h | h
    · exact absurd p (h3 n h)
    · exact h
    · exact absurd h1 (mn n' h)
  rw [e]
  exact htn
/-! ### how many there are -/
theorem nodup_le : ∀ (n : Nat) (l : List Nat), l.Nodup → (∀ x, x ∈ l → x < n) → l.length ≤ n
  | 0, l, _, h => by
    cases l with
    | nil => exact Nat.le_refl _
    | cons x r => exact absurd (h x List.mem_cons_self) (Nat.not_lt_zero x)
  | n + 1, l, hn, h => by
    have h1 := nodup_le n (l.filter fun x => decide (x ≠ n)) (hn.filter _) fun x hx => by
      obtain ⟨a, b⟩ := List.mem_filter.mp hx
      have c := h x a
      have d := of_decide_eq_true b
      omega
    have h2 : ∀ (r : List Nat), r.Nodup → r.length ≤ (r.filter fun x => decide (x ≠ n)).length + 1 := by
      intro r
      induction r with
      | nil => intro _; simp
      | cons y r ih =>
        intro hr
        obtain ⟨hy, hr'⟩ := List.nodup_cons.mp hr
        by_cases e : y = n
        · subst e
          have er : (r.filter fun x => decide (x ≠ y)) = r := by
            rw [List.filter_eq_self]
            intro x hx
            exact decide_eq_true (fun z => hy (z ▸ hx))
          rw [List.filter_cons, if_neg (by simp), er, List.length_cons]
          omega
        · rw [List.filter_cons, if_pos (by simpa using e), List.length_cons, List.length_cons]
          have := ih hr'
          omega
    have := h2 l hn
    omega
def code3 (t : T3) : Nat := t.1.toNat * 4096 + t.2.1.toNat * 64 + t.2.2.toNat
def In64 (t : T3) : Prop := 0 ≤ t.1 ∧ t.1 < 64 ∧ 0 ≤ t.2.1 ∧ t.2.1 < 64 ∧ 0 ≤ t.2.2 ∧ t.2.2 < 64
theorem code3_inj {s t : T3} (hs : In64 s) (ht : In64 t) (e : code3 s = code3 t) : s = t := by
  obtain ⟨a, b, c⟩ := s
  obtain ⟨a', b', c'⟩ := t
  unfold In64 at hs ht
  unfold code3 at e
  dsimp only at hs ht e
  have e1 : a = a' := by omega
  have e2 : b = b' := by omega
  have e3 : c = c' := by omega
  rw [e1, e2, e3]
theorem map_nodup {α β : Type} {f : α → β} : ∀ {l : List α}, l.Nodup → (∀ x, x ∈ l → ∀ y, y ∈ l → f x = f y → x = y) → (l.map f).Nodup
  | [], _, _ => List.nodup_nil
  | x :: l, hn, h => by
    obtain ⟨h1, h2⟩ := List.nodup_cons.mp hn
    rw [List.map_cons]
    refine List.nodup_cons.mpr ⟨fun hm => ?_, map_nodup h2 fun y hy z hz => h y (List.mem_cons_of_mem _ hy) z (List.mem_cons_of_mem _ hz)⟩
    obtain ⟨y, hy, e⟩ := List.mem_map.mp hm
    exact h1 ((h x List.mem_cons_self y (List.mem_cons_of_mem _ hy) e.symm) ▸ hy)
theorem few_states {l : List T3} (hn : l.Nodup) (h : ∀ t, t ∈ l → In64 t) : l.length ≤ 262144 := by
  have h1 := nodup_le 262144 (l.map code3) (map_nodup hn fun x hx y hy e => code3_inj (h x hx) (h y hy) e) fun c hc => by
    obtain ⟨t, ht, rfl⟩ := List.mem_map.mp hc
    have := h t ht
    unfold In64 at this
    unfold code3
    omega
  rw [List.length_map] at h1
  exact h1
/-! ### what a meeting keeps -/
def Nn (s : T3) : Prop := 0 ≤ s.1 ∧ 0 ≤ s.2.1 ∧ 0 ≤ s.2.2
def sm (s : T3) : Int := s.1 + s.2.1 + s.2.2
/-- a move in numbers -/
theorem move {s : T3} {l h m : Int} (hM : Mt l h) (hc : cn s l h = true) :
    (0 < s.1 ∧ 0 < s.2.1 ∧ mt3 s l h m = (s.1 - 1, s.2.1 - 1, s.2.2 + m)) ∨ (0 < s.1 ∧ 0 < s.2.2 ∧ mt3 s l h m = (s.1 - 1, s.2.1 + m, s.2.2 - 1)) ∨ (0 < s.2.1 ∧ 0 < s.2.2 ∧ mt3 s l h m = (s.1 + m, s.2.1 - 1, s.2.2 - 1)) := by
  obtain ⟨h1, h2⟩ := can_iff.mp (show can s.1 s.2.1 s.2.2 l h = true from hc)
  rcases hM with ⟨rfl, rfl⟩ | ⟨rfl, rfl⟩ | ⟨rfl, rfl⟩
  · exact .inl ⟨h1, h2, rfl⟩
  · exact .inr (.inl ⟨h1, h2, rfl⟩)
  · exact .inr (.inr ⟨h1, h2, rfl⟩)
theorem cn01 {s : T3} (h1 : 0 < s.1) (h2 : 0 < s.2.1) : cn s 0 1 = true := can_iff.mpr ⟨h1, h2⟩
theorem cn02 {s : T3} (h1 : 0 < s.1) (h2 : 0 < s.2.2) : cn s 0 2 = true := can_iff.mpr ⟨h1, h2⟩
theorem cn12 {s : T3} (h1 : 0 < s.2.1) (h2 : 0 < s.2.2) : cn s 1 2 = true := can_iff.mpr ⟨h1, h2⟩
theorem M01 : Mt 0 1 := .inl ⟨rfl, rfl⟩
theorem M02 : Mt 0 2 := .inr (.inl ⟨rfl, rfl⟩)
theorem M12 : Mt 1 2 := .inr (.inr ⟨rfl, rfl⟩)
end Km

set_option Elab.async false
set_option linter.all false
set_option maxRecDepth 100000
set_option maxHeartbeats 4000000
namespace Km
open PySem PySem.Spec PyProof.Rows L2
/-- beads of one kind at most -/
def Alone (s : T3) : Prop := (s.2.1 = 0 ∧ s.2.2 = 0) ∨ (s.1 = 0 ∧ s.2.2 = 0) ∨ (s.1 = 0 ∧ s.2.1 = 0)
instance (s : T3) : Decidable (Alone s) := inferInstanceAs (Decidable (_ ∨ _ ∨ _))
theorem no_move {s : T3} (ha : Alone s) {l h : Int} (hM : Mt l h) : ¬ cn s l h = true := fun hc => by
  unfold Alone at ha
  rcases move (m := 0) hM hc with ⟨a, b, _⟩ | ⟨a, b, _⟩ | ⟨a, b, _⟩ <;> omega
theorem alone_path {m : Int} {s t : T3} (ha : Alone s) : ∀ {n : Nat}, Path m s n t → n = 0 ∧ t = s
  | 0, p => ⟨rfl, p.zero⟩
  | n + 1, p => by
    obtain ⟨u, l, h, pu, hM, hc, rfl⟩ := p.last
    obtain ⟨_, rfl⟩ := alone_path ha pu
    exact absurd hc (no_move ha hM)
/-- k can be last -/
def lastB (s : T3) (k : Int) : Bool := if Alone s then decide (0 < g3 s.1 s.2.1 s.2.2 k) else
  if k = 0 then decide ((s.2.1 - s.2.2) % 2 = 0) else if k = 1 then decide ((s.1 - s.2.2) % 2 = 0) else decide ((s.1 - s.2.1) % 2 = 0)
def fewest (s : T3) : Int := if Alone s then sm s else if (s.1 - s.2.1) % 2 = 0 ∧ (s.2.1 - s.2.2) % 2 = 0 then 2 else 1
/-- all of the kind k, so many -/
def only (k x : Int) : T3 := if k = 0 then (x, 0, 0) else if k = 1 then (0, x, 0) else (0, 0, x)
/-! ### joined: what is kept -/
theorem join_keeps {s : T3} (hs : Nn s) : ∀ {n : Nat} {t : T3}, Path 1 s n t → Nn t ∧ sm t + n = sm s ∧ ((t.1 - t.2.1) - (s.1 - s.2.1)) % 2 = 0 ∧ ((t.2.1 - t.2.2) - (s.2.1 - s.2.2)) % 2 = 0 ∧ ((t.1 - t.2.2) - (s.1 - s.2.2)) % 2 = 0 ∧ (0 < sm s → 0 < sm t)
  | _, _, .nil => ⟨hs, by simp [sm], by simp, by simp, by simp, fun h => h⟩
  | _, _, .snoc (n := n) (t := t) p hM hc => by
    obtain ⟨h1, h2, h3, h4, h5, h6⟩ := join_keeps hs p
    unfold Nn at h1 ⊢
    unfold sm at h2 h6 ⊢
    rcases move (m := 1) hM hc with ⟨a, b, e⟩ | ⟨a, b, e⟩ | ⟨a, b, e⟩ <;> (rw [e]; dsimp only; refine ⟨by omega, by omega, by omega, by omega, by omega, fun _ => by omega⟩)
/-- the ends: kinds and numbers -/
theorem join_ends {s : T3} (hs : Nn s) (hp : 0 < sm s) {n : Nat} {t : T3} (p : Path 1 s n t) (ha : Alone t) : fewest s ≤ sm t ∧ ∀ k, 0 ≤ k → k < 3 → 0 < g3 t.1 t.2.1 t.2.2 k → lastB s k = true := by
  by_cases hsa : Alone s
  · obtain ⟨_, rfl⟩ := alone_path hsa p
    refine ⟨by unfold fewest; rw [if_pos hsa]; exact Int.le_refl _, fun k _ _ hk => ?_⟩
    unfold lastB
    rw [if_pos hsa]
    exact decide_eq_true hk
  · obtain ⟨h1, h2, h3, h4, h5, h6⟩ := join_keeps hs p
    have h6 := h6 hp
    unfold Nn at h1
    unfold sm at h6
    unfold Alone at ha
    constructor
    · unfold fewest
      rw [if_neg hsa]
      unfold sm
      split
      · omega
      · omega
    · intro k k0 k3 hk
      unfold lastB
      rw [if_neg hsa]
      unfold g3 at hk
      have e : k = 0 ∨ k = 1 ∨ k = 2 := by omega
      rcases e with rfl | rfl | rfl
      · rw [if_pos rfl] at hk ⊢
        exact decide_eq_true (by omega)
      · rw [if_neg (by decide), if_pos rfl] at hk ⊢
        exact decide_eq_true (by omega)
      · rw [if_neg (by decide), if_neg (by decide)] at hk ⊢
        exact decide_eq_true (by omega)
/-! ### joined: what can be come to -/
theorem join_next {s : T3} (hs : Nn s) (ha : ¬ Alone s) (h3 : 3 ≤ sm s) (h1 : ¬ (s.1 = 1 ∧ s.2.1 = 1 ∧ s.2.2 = 1)) : ∃ l h, Mt l h ∧ cn s l h = true ∧ ¬ Alone (mt3 s l h 1) := by
  unfold Nn at hs
  unfold sm at h3
  unfold Alone at ha
  by_cases c1 : 0 < s.1 ∧ 0 < s.2.1 ∧ ¬ (s.1 = 1 ∧ s.2.1 = 1)
  · refine ⟨0, 1, M01, cn01 c1.1 c1.2.1, ?_⟩
    show ¬ Alone (s.1 - 1, s.2.1 - 1, s.2.2 + 1)
    unfold Alone
    dsimp only
    omega
  · by_cases c2 : 0 < s.1 ∧ 0 < s.2.2 ∧ ¬ (s.1 = 1 ∧ s.2.2 = 1)
    · refine ⟨0, 2, M02, cn02 c2.1 c2.2.1, ?_⟩
      show ¬ Alone (s.1 - 1, s.2.1 + 1, s.2.2 - 1)
      unfold Alone
      dsimp only
      omega
    · refine ⟨1, 2, M12, cn12 (by omega) (by omega), ?_⟩
      show ¬ Alone (s.1 + 1, s.2.1 - 1, s.2.2 - 1)
      unfold Alone
      dsimp only
      omega
theorem join_reach : ∀ (N : Nat) (s : T3), Nn s → ¬ Alone s → sm s ≤ N → ∀ k, 0 ≤ k → k < 3 → lastB s k = true → ∃ n, Path 1 s n (only k (fewest s))
  | 0, s, hs, ha, hN, _, _, _, _ => by
    unfold Nn at hs
    unfold sm at hN
    exact absurd (show Alone s by unfold Alone; omega) ha
  | N + 1, s, hs, ha, hN, k, k0, k3, hk => by
    have hk' := hk
    unfold lastB at hk'
    rw [if_neg ha] at hk'
    have hkk : k = 0 ∨ k = 1 ∨ k = 2 := by omega
    by_cases h1 : s.1 = 1 ∧ s.2.1 = 1 ∧ s.2.2 = 1
    · obtain ⟨a, b, c⟩ := s
      dsimp only at h1
      obtain ⟨rfl, rfl, rfl⟩ := h1
      rcases hkk with rfl | rfl | rfl
      · exact ⟨1, .snoc .nil M12 rfl⟩
      · exact ⟨1, .snoc .nil M02 rfl⟩
      · exact ⟨1, .snoc .nil M01 rfl⟩
    · by_cases h3 : 3 ≤ sm s
      · obtain ⟨l, h, hM, hc, hn⟩ := join_next hs ha h3 h1
        have hn1 : Nn (mt3 s l h 1) ∧ sm (mt3 s l h 1) = sm s - 1 ∧ fewest (mt3 s l h 1) = fewest s ∧ lastB (mt3 s l h 1) k = true := by
          unfold fewest lastB
          rw [if_neg hn, if_neg ha, if_neg hn]
          unfold Nn at hs ⊢
          unfold sm
          rcases move (m := 1) hM hc with ⟨a, b, e⟩ | ⟨a, b, e⟩ | ⟨a, b, e⟩ <;> rw [e] <;> dsimp only
          · refine ⟨by omega, by omega, ?_, ?_⟩
            · have q : ((s.1 - 1 - (s.2.1 - 1)) % 2 = 0 ∧ (s.2.1 - 1 - (s.2.2 + 1)) % 2 = 0) ↔ ((s.1 - s.2.1) % 2 = 0 ∧ (s.2.1 - s.2.2) % 2 = 0) := by omega
              simp only [q]
            · rcases hkk with rfl | rfl | rfl
              · rw [if_pos rfl] at hk' ⊢; have q := of_decide_eq_true hk'; exact decide_eq_true (by omega)
              · rw [if_neg (by decide), if_pos rfl] at hk' ⊢; have q := of_decide_eq_true hk'; exact decide_eq_true (by omega)
              · rw [if_neg (by decide), if_neg (by decide)] at hk' ⊢; have q := of_decide_eq_true hk'; exact decide_eq_true (by omega)
          · refine ⟨by omega, by omega, ?_, ?_⟩
            · have q : ((s.1 - 1 - (s.2.1 + 1)) % 2 = 0 ∧ (s.2.1 + 1 - (s.2.2 - 1)) % 2 = 0) ↔ ((s.1 - s.2.1) % 2 = 0 ∧ (s.2.1 - s.2.2) % 2 = 0) := by omega
              simp only [q]
            · rcases hkk with rfl | rfl | rfl
              · rw [if_pos rfl] at hk' ⊢; have q := of_decide_eq_true hk'; exact decide_eq_true (by omega)
              · rw [if_neg (by decide), if_pos rfl] at hk' ⊢; have q := of_decide_eq_true hk'; exact decide_eq_true (by omega)
              · rw [if_neg (by decide), if_neg (by decide)] at hk' ⊢; have q := of_decide_eq_true hk'; exact decide_eq_true (by omega)
          · refine ⟨by omega, by omega, ?_, ?_⟩
            · have q : ((s.1 + 1 - (s.2.1 - 1)) % 2 = 0 ∧ (s.2.1 - 1 - (s.2.2 - 1)) % 2 = 0) ↔ ((s.1 - s.2.1) % 2 = 0 ∧ (s.2.1 - s.2.2) % 2 = 0) := by omega
              simp only [q]
            · rcases hkk with rfl | rfl | rfl
              · rw [if_pos rfl] at hk' ⊢; have q := of_decide_eq_true hk'; exact decide_eq_true (by omega)
              · rw [if_neg (by decide), if_pos rfl] at hk' ⊢; have q := of_decide_eq_true hk'; exact decide_eq_true (by omega)
              · rw [if_neg (by decide), if_neg (by decide)] at hk' ⊢; have q := of_decide_eq_true hk'; exact decide_eq_true (by omega)
        obtain ⟨n1, n2, n3, n4⟩ := hn1
        obtain ⟨n, p⟩ := join_reach N (mt3 s l h 1) n1 hn (by omega) k k0 k3 n4
        rw [n3] at p
        exact ⟨n + 1, Path.cons hM hc p⟩
      · -- two beads, unlike
        unfold Nn at hs
        unfold sm at h3
        have ha' := ha
        unfold Alone at ha'
        have hc3 : (s.1 = 1 ∧ s.2.1 = 1 ∧ s.2.2 = 0) ∨ (s.1 = 1 ∧ s.2.1 = 0 ∧ s.2.2 = 1) ∨ (s.1 = 0 ∧ s.2.1 = 1 ∧ s.2.2 = 1) := by omega
        obtain ⟨a, b, c⟩ := s
        dsimp only at hc3
        rcases hc3 with ⟨rfl, rfl, rfl⟩ | ⟨rfl, rfl, rfl⟩ | ⟨rfl, rfl, rfl⟩
        · rcases hkk with rfl | rfl | rfl
          · exact absurd hk (by decide)
          · exact absurd hk (by decide)
          · exact ⟨1, .snoc .nil M01 rfl⟩
        · rcases hkk with rfl | rfl | rfl
          · exact absurd hk (by decide)
          · exact ⟨1, .snoc .nil M02 rfl⟩
          · exact absurd hk (by decide)
        · rcases hkk with rfl | rfl | rfl
          · exact ⟨1, .snoc .nil M12 rfl⟩
          · exact absurd hk (by decide)
          · exact absurd hk (by decide)
end Km

set_option Elab.async false
set_option linter.all false
set_option maxRecDepth 100000
set_option maxHeartbeats 4000000
namespace Km
open PySem PySem.Spec PyProof.Rows L2
theorem kinds3 {k : Int} (k0 : 0 ≤ k) (k3 : k < 3) : k = 0 ∨ k = 1 ∨ k = 2 := by omega
theorem join_hits {s : T3} (hs : Nn s) (hp : 0 < sm s) {k : Int} (k0 : 0 ≤ k) (k3 : k < 3) (hk : lastB s k = true) : ∃ n t, Path 1 s n t ∧ Alone t ∧ 0 < g3 t.1 t.2.1 t.2.2 k ∧ sm t = fewest s := by
  by_cases ha : Alone s
  · refine ⟨0, s, .nil, ha, ?_, ?_⟩
    · unfold lastB at hk
      rw [if_pos ha] at hk
      exact of_decide_eq_true hk
    · unfold fewest
      rw [if_pos ha]
  · obtain ⟨n, p⟩ := join_reach (sm s).toNat s hs ha (by unfold sm; unfold sm at hp; omega) k k0 k3 hk
    have hf : 0 < fewest s := by
      unfold fewest
      rw [if_neg ha]
      split <;> decide
    refine ⟨n, only k (fewest s), p, ?_, ?_, ?_⟩
    · rcases kinds3 k0 k3 with rfl | rfl | rfl
      · exact .inl ⟨rfl, rfl⟩
      · exact .inr (.inl ⟨rfl, rfl⟩)
      · exact .inr (.inr ⟨rfl, rfl⟩)
    · rcases kinds3 k0 k3 with rfl | rfl | rfl <;> exact hf
    · rcases kinds3 k0 k3 with rfl | rfl | rfl <;> (unfold sm only; simp)
theorem last_some {s : T3} (hs : Nn s) (hp : 0 < sm s) : ∃ k, 0 ≤ k ∧ k < 3 ∧ lastB s k = true := by
  unfold Nn at hs
  unfold sm at hp
  by_cases ha : Alone s
  · unfold lastB
    simp only [if_pos ha]
    by_cases h0 : 0 < s.1
    · exact ⟨0, by decide, by decide, decide_eq_true h0⟩
    · by_cases h1 : 0 < s.2.1
      · exact ⟨1, by decide, by decide, decide_eq_true h1⟩
      · exact ⟨2, by decide, by decide, decide_eq_true (show 0 < s.2.2 by omega)⟩
  · unfold lastB
    simp only [if_neg ha]
    by_cases h0 : (s.2.1 - s.2.2) % 2 = 0
    · exact ⟨0, by decide, by decide, by rw [if_pos rfl]; exact decide_eq_true h0⟩
    · by_cases h1 : (s.1 - s.2.2) % 2 = 0
      · exact ⟨1, by decide, by decide, by rw [if_neg (by decide), if_pos rfl]; exact decide_eq_true h1⟩
      · exact ⟨2, by decide, by decide, by rw [if_neg (by decide), if_neg (by decide)]; exact decide_eq_true (by omega)⟩
/-! ### turned -/
def mx (x y : Int) : Int := if x ≤ y then y else x
def oth (s : T3) (k : Int) : Int × Int := if k = 0 then (s.2.1, s.2.2) else if k = 1 then (s.1, s.2.2) else (s.1, s.2.1)
def stepsT (s : T3) (k : Int) : Option Int := if (oth s k).1 = 0 ∧ (oth s k).2 = 0 then some 0 else if Alone s ∨ ((oth s k).1 - (oth s k).2) % 3 ≠ 0 then none else some (mx (oth s k).1 (oth s k).2)
theorem turn_keeps {s : T3} (hs : Nn s) : ∀ {n : Nat} {t : T3}, Path 2 s n t → Nn t ∧ sm t = sm s ∧ ((t.1 - t.2.1) - (s.1 - s.2.1)) % 3 = 0 ∧ ((t.2.1 - t.2.2) - (s.2.1 - s.2.2)) % 3 = 0 ∧ ((t.1 - t.2.2) - (s.1 - s.2.2)) % 3 = 0 ∧ s.1 ≤ t.1 + n ∧ s.2.1 ≤ t.2.1 + n ∧ s.2.2 ≤ t.2.2 + n
  | _, _, .nil => ⟨hs, rfl, by simp, by simp, by simp, by simp, by simp, by simp⟩
  | _, _, .snoc (n := n) (t := t) p hM hc => by
    obtain ⟨h1, h2, h3, h4, h5, h6, h7, h8⟩ := turn_keeps hs p
    unfold Nn at h1 ⊢
    unfold sm at h2 ⊢
    rcases move (m := 2) hM hc with ⟨a, b, e⟩ | ⟨a, b, e⟩ | ⟨a, b, e⟩ <;> (rw [e]; dsimp only; refine ⟨by omega, by omega, by omega, by omega, by omega, by omega, by omega, by omega⟩)
theorem only_oth {k x : Int} (k0 : 0 ≤ k) (k3 : k < 3) : oth (only k x) k = (0, 0) := by
  rcases kinds3 k0 k3 with rfl | rfl | rfl <;> rfl
theorem turn_none {s : T3} (hs : Nn s) {k : Int} (k0 : 0 ≤ k) (k3 : k < 3) (h : stepsT s k = none) {n : Nat} (p : Path 2 s n (only k (sm s))) : False := by
  unfold stepsT at h
  by_cases h0 : (oth s k).1 = 0 ∧ (oth s k).2 = 0
  · rw [if_pos h0] at h
    cases h
  · rw [if_neg h0] at h
    by_cases ha : Alone s
    · obtain ⟨_, e⟩ := alone_path ha p
      rw [← e] at h0
      rw [only_oth k0 k3] at h0
      exact h0 ⟨rfl, rfl⟩
    · by_cases h1 : ((oth s k).1 - (oth s k).2) % 3 ≠ 0
      · obtain ⟨_, _, h3, h4, h5, _⟩ := turn_keeps hs p
        rcases kinds3 k0 k3 with rfl | rfl | rfl
        · exact h1 (by change (s.2.1 - s.2.2) % 3 = 0; change ((0 : Int) - 0 - (s.2.1 - s.2.2)) % 3 = 0 at h4; omega)
        · exact h1 (by change (s.1 - s.2.2) % 3 = 0; change ((0 : Int) - 0 - (s.1 - s.2.2)) % 3 = 0 at h5; omega)
        · exact h1 (by change (s.1 - s.2.1) % 3 = 0; change ((0 : Int) - 0 - (s.1 - s.2.1)) % 3 = 0 at h3; omega)
      · rw [if_neg (fun z => z.elim ha h1)] at h
        cases h
theorem turn_least {s : T3} (hs : Nn s) {k : Int} (k0 : 0 ≤ k) (k3 : k < 3) {n : Nat} (p : Path 2 s n (only k (sm s))) : mx (oth s k).1 (oth s k).2 ≤ n := by
  obtain ⟨_, _, _, _, _, h6, h7, h8⟩ := turn_keeps hs p
  unfold mx
  rcases kinds3 k0 k3 with rfl | rfl | rfl
  · change s.2.1 ≤ 0 + (n : Int) at h7
    change s.2.2 ≤ 0 + (n : Int) at h8
    show (if s.2.1 ≤ s.2.2 then s.2.2 else s.2.1) ≤ (n : Int)
    split <;> omega
  · change s.1 ≤ 0 + (n : Int) at h6
    change s.2.2 ≤ 0 + (n : Int) at h8
    show (if s.1 ≤ s.2.2 then s.2.2 else s.1) ≤ (n : Int)
    split <;> omega
  · change s.1 ≤ 0 + (n : Int) at h6
    change s.2.1 ≤ 0 + (n : Int) at h7
    show (if s.1 ≤ s.2.1 then s.2.1 else s.1) ≤ (n : Int)
    split <;> omega
/-- the next meeting on the shortest way -/
theorem turn_next {s : T3} (hs : Nn s) (ha : ¬ Alone s) {k : Int} (k0 : 0 ≤ k) (k3 : k < 3) (h3 : ((oth s k).1 - (oth s k).2) % 3 = 0) :
    ∃ l h, Mt l h ∧ cn s l h = true ∧ Nn (mt3 s l h 2) ∧ sm (mt3 s l h 2) = sm s ∧ mx (oth (mt3 s l h 2) k).1 (oth (mt3 s l h 2) k).2 = mx (oth s k).1 (oth s k).2 - 1 ∧ ((oth (mt3 s l h 2) k).1 - (oth (mt3 s l h 2) k).2) % 3 = 0 ∧ (mx (oth (mt3 s l h 2) k).1 (oth (mt3 s l h 2) k).2 = 0 ∨ ¬ Alone (mt3 s l h 2)) := by
  obtain ⟨a, b, c⟩ := s
  unfold Nn at hs
  unfold Alone at ha
  dsimp only at hs ha
  rcases kinds3 k0 k3 with rfl | rfl | rfl
  · change (b - c) % 3 = 0 at h3
    have key : ∀ a' b' c', 0 ≤ a' → 0 ≤ b' → 0 ≤ c' → a' + b' + c' = a + b + c → mx b' c' = mx b c - 1 → (b' - c') % 3 = 0 → (mx b' c' = 0 ∨ ¬ Alone (a', b', c')) → ∀ l h, Mt l h → cn (a, b, c) l h = true → mt3 (a, b, c) l h 2 = (a', b', c') →
        ∃ l h, Mt l h ∧ cn (a, b, c) l h = true ∧ Nn (mt3 (a, b, c) l h 2) ∧ sm (mt3 (a, b, c) l h 2) = sm (a, b, c) ∧ mx (oth (mt3 (a, b, c) l h 2) 0).1 (oth (mt3 (a, b, c) l h 2) 0).2 = mx (oth (a, b, c) 0).1 (oth (a, b, c) 0).2 - 1 ∧ ((oth (mt3 (a, b, c) l h 2) 0).1 - (oth (mt3 (a, b, c) l h 2) 0).2) % 3 = 0 ∧ (mx (oth (mt3 (a, b, c) l h 2) 0).1 (oth (mt3 (a, b, c) l h 2) 0).2 = 0 ∨ ¬ Alone (mt3 (a, b, c) l h 2)) :=
      fun a' b' c' q1 q2 q3 q4 q5 q6 q7 l h hM hc e => ⟨l, h, hM, hc, by rw [e]; exact ⟨q1, q2, q3⟩, by rw [e]; exact q4, by rw [e]; exact q5, by rw [e]; exact q6, by rw [e]; exact q7⟩
    unfold mx at key
    unfold Alone at key
    dsimp only at key
    by_cases h1 : 0 < b ∧ 0 < c
    · exact key (a + 2) (b - 1) (c - 1) (by omega) (by omega) (by omega) (by omega) (by split <;> split <;> omega) (by omega) (if z : b = 1 ∧ c = 1 then .inl (by split <;> omega) else .inr (by omega)) 1 2 M12 (cn12 h1.1 h1.2) rfl
    · by_cases h2 : 0 < b
      · exact key (a - 1) (b - 1) (c + 2) (by omega) (by omega) (by omega) (by omega) (by split <;> split <;> omega) (by omega) (by right; omega) 0 1 M01 (cn01 (show 0 < a by omega) h2) rfl
      · exact key (a - 1) (b + 2) (c - 1) (by omega) (by omega) (by omega) (by omega) (by split <;> split <;> omega) (by omega) (by right; omega) 0 2 M02 (cn02 (show 0 < a by omega) (show 0 < c by omega)) rfl
  · change (a - c) % 3 = 0 at h3
    have key : ∀ a' b' c', 0 ≤ a' → 0 ≤ b' → 0 ≤ c' → a' + b' + c' = a + b + c → mx a' c' = mx a c - 1 → (a' - c') % 3 = 0 → (mx a' c' = 0 ∨ ¬ Alone (a', b', c')) → ∀ l h, Mt l h → cn (a, b, c) l h = true → mt3 (a, b, c) l h 2 = (a', b', c') →
        ∃ l h, Mt l h ∧ cn (a, b, c) l h = true ∧ Nn (mt3 (a, b, c) l h 2) ∧ sm (mt3 (a, b, c) l h 2) = sm (a, b, c) ∧ mx (oth (mt3 (a, b, c) l h 2) 1).1 (oth (mt3 (a, b, c) l h 2) 1).2 = mx (oth (a, b, c) 1).1 (oth (a, b, c) 1).2 - 1 ∧ ((oth (mt3 (a, b, c) l h 2) 1).1 - (oth (mt3 (a, b, c) l h 2) 1).2) % 3 = 0 ∧ (mx (oth (mt3 (a, b, c) l h 2) 1).1 (oth (mt3 (a, b, c) l h 2) 1).2 = 0 ∨ ¬ Alone (mt3 (a, b, c) l h 2)) :=
      fun a' b' c' q1 q2 q3 q4 q5 q6 q7 l h hM hc e => ⟨l, h, hM, hc, by rw [e]; exact ⟨q1, q2, q3⟩, by rw [e]; exact q4, by rw [e]; exact q5, by rw [e]; exact q6, by rw [e]; exact q7⟩
    unfold mx at key
    unfold Alone at key
    dsimp only at key
    by_cases h1 : 0 < a ∧ 0 < c
    · exact key (a - 1) (b + 2) (c - 1) (by omega) (by omega) (by omega) (by omega) (by split <;> split <;> omega) (by omega) (if z : a = 1 ∧ c = 1 then .inl (by split <;> omega) else .inr (by omega)) 0 2 M02 (cn02 h1.1 h1.2) rfl
    · by_cases h2 : 0 < a
      · exact key (a - 1) (b - 1) (c + 2) (by omega) (by omega) (by omega) (by omega) (by split <;> split <;> omega) (by omega) (by right; omega) 0 1 M01 (cn01 h2 (show 0 < b by omega)) rfl
      · exact key (a + 2) (b - 1) (c - 1) (by omega) (by omega) (by omega) (by omega) (by split <;> split <;> omega) (by omega) (by right; omega) 1 2 M12 (cn12 (show 0 < b by omega) (show 0 < c by omega)) rfl
  · change (a - b) % 3 = 0 at h3
    have key : ∀ a' b' c', 0 ≤ a' → 0 ≤ b' → 0 ≤ c' → a' + b' + c' = a + b + c → mx a' b' = mx a b - 1 → (a' - b') % 3 = 0 → (mx a' b' = 0 ∨ ¬ Alone (a', b', c')) → ∀ l h, Mt l h → cn (a, b, c) l h = true → mt3 (a, b, c) l h 2 = (a', b', c') →
        ∃ l h, Mt l h ∧ cn (a, b, c) l h = true ∧ Nn (mt3 (a, b, c) l h 2) ∧ sm (mt3 (a, b, c) l h 2) = sm (a, b, c) ∧ mx (oth (mt3 (a, b, c) l h 2) 2).1 (oth (mt3 (a, b, c) l h 2) 2).2 = mx (oth (a, b, c) 2).1 (oth (a, b, c) 2).2 - 1 ∧ ((oth (mt3 (a, b, c) l h 2) 2).1 - (oth (mt3 (a, b, c) l h 2) 2).2) % 3 = 0 ∧ (mx (oth (mt3 (a, b, c) l h 2) 2).1 (oth (mt3 (a, b, c) l h 2) 2).2 = 0 ∨ ¬ Alone (mt3 (a, b, c) l h 2)) :=
      fun a' b' c' q1 q2 q3 q4 q5 q6 q7 l h hM hc e => ⟨l, h, hM, hc, by rw [e]; exact ⟨q1, q2, q3⟩, by rw [e]; exact q4, by rw [e]; exact q5, by rw [e]; exact q6, by rw [e]; exact q7⟩
    unfold mx at key
    unfold Alone at key
    dsimp only at key
    by_cases h1 : 0 < a ∧ 0 < b
    · exact key (a - 1) (b - 1) (c + 2) (by omega) (by omega) (by omega) (by omega) (by split <;> split <;> omega) (by omega) (if z : a = 1 ∧ b = 1 then .inl (by split <;> omega) else .inr (by omega)) 0 1 M01 (cn01 h1.1 h1.2) rfl
    · by_cases h2 : 0 < a
      · exact key (a - 1) (b + 2) (c - 1) (by omega) (by omega) (by omega) (by omega) (by split <;> split <;> omega) (by omega) (by right; omega) 0 2 M02 (cn02 h2 (show 0 < c by omega)) rfl
      · exact key (a + 2) (b - 1) (c - 1) (by omega) (by omega) (by omega) (by omega) (by split <;> split <;> omega) (by omega) (by right; omega) 1 2 M12 (cn12 (show 0 < b by omega) (show 0 < c by omega)) rfl
theorem at_end {s : T3} (hs : Nn s) {k : Int} (k0 : 0 ≤ k) (k3 : k < 3) (h : mx (oth s k).1 (oth s k).2 ≤ 0) : s = only k (sm s) := by
  obtain ⟨a, b, c⟩ := s
  unfold Nn at hs
  unfold mx at h
  dsimp only at hs
  rcases kinds3 k0 k3 with rfl | rfl | rfl
  · change (if b ≤ c then c else b) ≤ 0 at h
    have e : b = 0 ∧ c = 0 := by split at h <;> omega
    obtain ⟨rfl, rfl⟩ := e
    show (a, (0 : Int), (0 : Int)) = (a + 0 + 0, 0, 0)
    simp
  · change (if a ≤ c then c else a) ≤ 0 at h
    have e : a = 0 ∧ c = 0 := by split at h <;> omega
    obtain ⟨rfl, rfl⟩ := e
    show ((0 : Int), b, (0 : Int)) = (0, 0 + b + 0, 0)
    simp
  · change (if a ≤ b then b else a) ≤ 0 at h
    have e : a = 0 ∧ b = 0 := by split at h <;> omega
    obtain ⟨rfl, rfl⟩ := e
    show ((0 : Int), (0 : Int), c) = (0, 0, 0 + 0 + c)
    simp
theorem turn_reach : ∀ (N : Nat) (s : T3), Nn s → ∀ k, 0 ≤ k → k < 3 → mx (oth s k).1 (oth s k).2 = N → (N = 0 ∨ ¬ Alone s) → ((oth s k).1 - (oth s k).2) % 3 = 0 → Path 2 s N (only k (sm s))
  | 0, s, hs, k, k0, k3, hN, _, _ => by
    rw [← at_end hs k0 k3 (by omega)]
    exact .nil
  | N + 1, s, hs, k, k0, k3, hN, ha, h3 => by
    have ha : ¬ Alone s := by
      rcases ha with h | h
      · omega
      · exact h
    obtain ⟨l, h, hM, hc, q1, q2, q3, q4, q5⟩ := turn_next hs ha k0 k3 h3
    have p := turn_reach N (mt3 s l h 2) q1 k k0 k3 (by omega) (q5.elim (fun z => .inl (by omega)) .inr) q4
    rw [q2] at p
    exact Path.cons hM hc p
theorem turn_some {s : T3} (hs : Nn s) {k d : Int} (k0 : 0 ≤ k) (k3 : k < 3) (h : stepsT s k = some d) : 0 ≤ d ∧ Path 2 s d.toNat (only k (sm s)) ∧ ∀ n, Path 2 s n (only k (sm s)) → d ≤ n := by
  have o0 : 0 ≤ (oth s k).1 ∧ 0 ≤ (oth s k).2 := by
    unfold Nn at hs
    rcases kinds3 k0 k3 with rfl | rfl | rfl
    · exact ⟨hs.2.1, hs.2.2⟩
    · exact ⟨hs.1, hs.2.2⟩
    · exact ⟨hs.1, hs.2.1⟩
  have m0 : 0 ≤ mx (oth s k).1 (oth s k).2 := by unfold mx; split <;> omega
  unfold stepsT at h
  by_cases h0 : (oth s k).1 = 0 ∧ (oth s k).2 = 0
  · rw [if_pos h0] at h
    obtain rfl := (Option.some.inj h).symm
    refine ⟨Int.le_refl _, ?_, fun n _ => by omega⟩
    have e := at_end hs k0 k3 (by unfold mx; rw [h0.1, h0.2]; decide)
    rw [← e]
    exact .nil
  · rw [if_neg h0] at h
    by_cases h1 : Alone s ∨ ((oth s k).1 - (oth s k).2) % 3 ≠ 0
    · rw [if_pos h1] at h
      cases h
    · rw [if_neg h1] at h
      obtain rfl := (Option.some.inj h).symm
      have ha : ¬ Alone s := fun z => h1 (.inl z)
      have h3 : ((oth s k).1 - (oth s k).2) % 3 = 0 := by
        by_cases z : ((oth s k).1 - (oth s k).2) % 3 = 0
        · exact z
        · exact absurd (.inr z) h1
      exact ⟨m0, turn_reach _ s hs k k0 k3 (by omega) (.inr ha) h3, fun n p => turn_least hs k0 k3 p⟩
end Km

set_option Elab.async false
set_option linter.all false
set_option maxRecDepth 100000
set_option maxHeartbeats 4000000
namespace Km
open PySem PySem.Spec PyProof.Rows L2
/-- a triple as values, as a key -/
def tV (s : T3) : List V := [.int s.1, .int s.2.1, .int s.2.2]
def keyT (s : T3) : List Key := [.inl s.1, .inl s.2.1, .inl s.2.2]
theorem keyT_V (s : T3) : (keyT s).map kV = tV s := rfl
theorem keyT_inj {s t : T3} (h : keyT s = keyT t) : s = t := by
  obtain ⟨a, b, c⟩ := s
  obtain ⟨a', b', c'⟩ := t
  unfold keyT at h
  injection h with h1 h
  injection h with h2 h
  injection h with h3 _
  have e1 := Sum.inl.inj h1
  have e2 := Sum.inl.inj h2
  have e3 := Sum.inl.inj h3
  dsimp only at e1 e2 e3
  rw [e1, e2, e3]
def kvF (F : List (T3 × Nat)) : List (List Key × V) := F.map fun q => (keyT q.1, .int (q.2 : Int))
theorem valF_none : ∀ {F : List (T3 × Nat)} {t : T3}, valV (kvF F) (keyT t) = none ↔ t ∉ F.map (·.1)
  | [], t => by simp [kvF, valV]
  | q :: F, t => by
    have ih := valF_none (F := F) (t := t)
    unfold kvF at ih ⊢
    rw [List.map_cons, List.map_cons, List.mem_cons, not_or]
    by_cases e : q.1 = t
    · rw [valV_pos (show (keyT q.1, V.int (q.2 : Int)).1 = keyT t from congrArg keyT e)]
      constructor
      · intro z; cases z
      · intro z; exact absurd e.symm z.1
    · rw [valV_neg (fun z => e (keyT_inj z)), ih]
      exact ⟨fun z => ⟨fun y => e y.symm, z⟩, fun z => z.2⟩
theorem valF_some : ∀ {F : List (T3 × Nat)} {t : T3} {n : Nat}, (F.map (·.1)).Nodup → (t, n) ∈ F → valV (kvF F) (keyT t) = some (.int (n : Int))
  | [], t, n, _, h => by cases h
  | q :: F, t, n, hn, h => by
    have hn' : (q.1 :: F.map (·.1)).Nodup := hn
    obtain ⟨h1, h2⟩ := List.nodup_cons.mp hn'
    unfold kvF
    rw [List.map_cons]
    by_cases e : q.1 = t
    · rcases List.mem_cons.mp h with z | z
      · rw [valV_pos (show (keyT q.1, V.int (q.2 : Int)).1 = keyT t from congrArg keyT e), ← z]
      · exact absurd (List.mem_map.mpr ⟨(t, n), z, rfl⟩) (e ▸ h1)
    · rw [valV_neg (fun z => e (keyT_inj z))]
      rcases List.mem_cons.mp h with z | z
      · exact absurd (congrArg (·.1) z).symm e
      · exact valF_some h2 z
theorem kvF_snoc (F : List (T3 × Nat)) (t : T3) (n : Nat) : kvF F ++ [(keyT t, .int (n : Int))] = kvF (F ++ [(t, n)]) := by
  unfold kvF
  rw [List.map_append]
  rfl
theorem kvF_len (F : List (T3 × Nat)) : (kvF F).length = F.length := by
  unfold kvF
  rw [List.length_map]
/-- a list of tuples, told as triples -/
def TrsAt (H : Hp) (L : Addr) (ts : List T3) : Prop := ∃ rs : List Addr, H L = some (.lst (rs.map V.ref)) ∧ Paired (fun r (t : T3) => H r = some (.tup (tV t))) rs ts
theorem TrsAt.same {H H' : Hp} {L : Addr} {ts : List T3} (s : Same H H') (h : TrsAt H L ts) : TrsAt H' L ts := by
  obtain ⟨rs, hL, hp⟩ := h
  exact ⟨rs, s _ _ hL, Paired.mono2 (fun _ _ z => s _ _ z) hp⟩
def dTrs (ts : List T3) : PyData := .list (ts.map fun t => .tuple [.int t.1, .int t.2.1, .int t.2.2])
theorem dpTrs {K : PySem.W.Frag} {H : Hp} : ∀ {rs : List Addr} {ts : List T3}, Paired (fun r (t : T3) => H r = some (.tup (tV t))) rs ts → DpAll K H (rs.map V.ref) (ts.map fun t => .tuple [.int t.1, .int t.2.1, .int t.2.2])
  | _, _, .nil => .nil
  | _, _, .cons r t => .cons (.tup (.inl (.inl r)) (.cons (.int _) (.cons (.int _) (.cons (.int _) .nil)))) (dpTrs t)
theorem TrsAt.dp {K : PySem.W.Frag} {H : Hp} {L : Addr} {ts : List T3} (h : TrsAt H L ts) : Dp K H (.ref L) (dTrs ts) := by
  obtain ⟨rs, hL, hp⟩ := h
  exact .lst (.inl (.inl hL)) (dpTrs hp)
theorem canLayTrs : ∀ ts : List T3, PyData.canLayAll0 (ts.map fun t => .tuple [.int t.1, .int t.2.1, .int t.2.2]) = true
  | [] => by simp [PyData.canLayAll0]
  | p :: ps => by
    rw [List.map_cons, PyData.canLayAll0, canLayTrs ps]
    simp [PyData.canLay0, PyData.canLayAll0]
theorem depthTrs : ∀ ts : List T3, PyData.depthAll (ts.map fun t => .tuple [.int t.1, .int t.2.1, .int t.2.2]) ≤ 1
  | [] => by simp [PyData.depthAll]
  | p :: ps => by
    rw [List.map_cons, PyData.depthAll]
    have ih := depthTrs ps
    simp only [PyData.depth, PyData.depthAll]
    omega
theorem shaped_trs (ts : List T3) : SeqAt.shaped (dTrs ts) = true := by
  unfold SeqAt.shaped dTrs
  rw [PyData.canLay0, canLayTrs, PyData.depth, Bool.true_and, decide_eq_true_iff]
  have := depthTrs ts
  omega
theorem eqv_trs_nil (ts : List T3) : PyData.eqv (dTrs ts) (.list []) = decide (ts = []) := by
  cases ts with
  | nil => simp [dTrs, PyData.eqv, PyData.eqvAll]
  | cons t r => simp [dTrs, PyData.eqv, PyData.eqvAll]
theorem met_tV (t : T3) (l h m : Int) : met t.1 t.2.1 t.2.2 l h m = tV (mt3 t l h m) := rfl
theorem cans_mem {t : T3} {l h : Int} (hM : Mt l h) (hc : cn t l h = true) : (l, h) ∈ cans t.1 t.2.1 t.2.2 := by
  refine List.mem_filter.mpr ⟨?_, hc⟩
  rcases hM with ⟨rfl, rfl⟩ | ⟨rfl, rfl⟩ | ⟨rfl, rfl⟩ <;> simp [allM]
/-- the states stay small -/
theorem path_in64 {m : Int} {s : T3} (hm : m = 1 ∨ m = 2) (hs : Nn s) (hsm : sm s ≤ 60) {n : Nat} {t : T3} (p : Path m s n t) : In64 t ∧ Nn t := by
  have key : Nn t ∧ sm t ≤ 60 := by
    rcases hm with rfl | rfl
    · obtain ⟨h1, h2, _⟩ := join_keeps hs p
      exact ⟨h1, by omega⟩
    · obtain ⟨h1, h2, _⟩ := turn_keeps hs p
      exact ⟨h1, by omega⟩
  obtain ⟨h1, h2⟩ := key
  refine ⟨?_, h1⟩
  unfold Nn at h1
  unfold sm at h2
  unfold In64
  omega

/-- a store elsewhere: x is no tuple, not the list -/
theorem TrsAt.upd {H : Hp} {L x : Addr} {ts : List T3} {o : HO} (h : TrsAt H L ts) (hL : L ≠ x) (hx : ∀ xs, H x ≠ some (.tup xs)) : TrsAt (L2.upd H x o) L ts := by
  obtain ⟨rs, h1, h2⟩ := h
  refine ⟨rs, by rw [upd_ne hL]; exact h1, Paired.mono2 (fun r t z => ?_) h2⟩
  rw [upd_ne (fun e => hx _ (e ▸ z))]
  exact z
/-- one more at the list's end -/
theorem TrsAt.app {H : Hp} {L u : Addr} {ts : List T3} {t : T3} (h : TrsAt H L ts) (hu : H u = some (.tup (tV t))) : ∃ acc : List V, H L = some (.lst acc) ∧ acc.length = ts.length ∧ TrsAt (L2.upd H L (.lst (acc ++ [.ref u]))) L (ts ++ [t]) := by
  obtain ⟨rs, h1, h2⟩ := h
  refine ⟨rs.map V.ref, h1, by rw [List.length_map]; exact Paired.length h2, rs ++ [u], by rw [upd_same, List.map_append]; rfl, ?_⟩
  have n : ∀ (r : Addr) (y : T3), H r = some (.tup (tV y)) → r ≠ L := fun r y z => ne_of z h1 (fun e => by cases e)
  exact Paired.snoc (by rw [upd_ne (n u t hu)]; exact hu) (Paired.mono2 (fun r y z => by rw [upd_ne (n r y z)]; exact z) h2)
theorem Mid.len {m : Int} {s : T3} {N : Nat} {F : List (T3 × Nat)} {G D L : List T3} (hm : m = 1 ∨ m = 2) (hs : Nn s) (hsm : sm s ≤ 60) (b : Bfs m s N F L) (q : Mid m s N F G D) : F.length + G.length ≤ 262144 := by
  have h := few_states q.nd fun t ht => by
    rcases List.mem_append.mp ht with z | z
    · obtain ⟨⟨t', n⟩, h1, e⟩ := List.mem_map.mp z
      have e : t' = t := e
      subst e
      exact (path_in64 hm hs hsm (b.A _ _ h1).1).1
    · exact (path_in64 hm hs hsm (q.P t z)).1
  rw [List.length_append, List.length_map] at h
  exact h
theorem Mid.add {m : Int} {s : T3} {N : Nat} {F : List (T3 × Nat)} {G D : List T3} {t : T3} (q : Mid m s N F G D) (p : Path m s (N + 1) t) (hn : t ∉ F.map (·.1) ++ G) : Mid m s N F (G ++ [t]) D where
  nd := by
    rw [← List.append_assoc]
    refine List.nodup_append.mpr ⟨q.nd, List.nodup_cons.mpr ⟨List.not_mem_nil, List.nodup_nil⟩, fun a ha b hb e => ?_⟩
    obtain rfl := List.mem_singleton.mp hb
    exact hn (e ▸ ha)
  P := fun g hg => by
    rcases List.mem_append.mp hg with z | z
    · exact q.P g z
    · obtain rfl := List.mem_singleton.mp z
      exact p
  S := fun u hu l h hM hc => by
    rw [← List.append_assoc]
    exact List.mem_append.mpr (.inl (q.S u hu l h hM hc))
theorem keysF (F : List (T3 × Nat)) (G : List T3) (n : Nat) : (F ++ G.map fun g => (g, n)).map (·.1) = F.map (·.1) ++ G := by
  rw [List.map_append, List.map_map]
  have e : G.map ((fun x : T3 × Nat => x.1) ∘ fun g => (g, n)) = G := by
    rw [show ((fun x : T3 × Nat => x.1) ∘ fun g : T3 => (g, n)) = id from rfl, List.map_id]
  rw [e]

/-- the kinds that can be left -/
def lastL (s : T3) : List Int := [0, 1, 2].filter fun k => lastB s k
/-! ### the promises of kindmeets.joining -/
def spLk (K : PySem.W.Frag) (C1 : Addr) : Sp := fun vs H Q E => ∃ x : V, vs = [x] ∧ ((BX K H x false ∧ E (.ref C1) none H) ∨
  ∃ (p : Addr) (s : T3), x = .ref p ∧ Tr K H p s.1 s.2.1 s.2.2 ∧ Ok3 s.1 s.2.1 s.2.2 ∧ ∀ (H' : Hp) (L : Addr), Same H H' → H L = none → H' L = some (.lst ((lastL s).map V.int)) → Q (.ref L) H')
def spFl (K : PySem.W.Frag) (C1 : Addr) : Sp := fun vs H Q E => ∃ x : V, vs = [x] ∧ ((BX K H x false ∧ E (.ref C1) none H) ∨
  ∃ (p : Addr) (s : T3), x = .ref p ∧ Tr K H p s.1 s.2.1 s.2.2 ∧ Ok3 s.1 s.2.1 s.2.2 ∧ ∀ (H' : Hp), Same H H' → Q (.int (fewest s)) H')

/-- the ends that joining comes to -/
def endsF (F : List (T3 × Nat)) : List T3 := (F.map (·.1)).filter fun t => decide (Alone t)
def sum3 (t : T3) : Int := [t.1, t.2.1, t.2.2].sum
theorem sum3_sm (t : T3) : sum3 t = sm t := by
  unfold sum3 sm
  simp only [List.sum_cons, List.sum_nil]
  omega
theorem mem_ends {s : T3} {F : List (T3 × Nat)} (h : Found 1 s F) {t : T3} : t ∈ endsF F ↔ (∃ n, Path 1 s n t) ∧ Alone t := by
  unfold endsF
  rw [List.mem_filter, decide_eq_true_iff]
  constructor
  · rintro ⟨h1, h2⟩
    obtain ⟨⟨t', n⟩, h3, e⟩ := List.mem_map.mp h1
    have e : t' = t := e
    subst e
    exact ⟨⟨n, ((h.2 _ _).mp h3).1⟩, h2⟩
  · rintro ⟨⟨n, p⟩, h2⟩
    refine ⟨?_, h2⟩
    -- the least n
    have key : ∀ n, Path 1 s n t → ∃ n', Path 1 s n' t ∧ ∀ k, k < n' → ¬ Path 1 s k t := by
      intro n
      induction n using Nat.strongRecOn with
      | _ n ih =>
        intro p
        by_cases q : ∃ k, k < n ∧ Path 1 s k t
        · obtain ⟨k, hk, pk⟩ := q
          exact ih k hk pk
        · exact ⟨n, p, fun k hk pk => q ⟨k, hk, pk⟩⟩
    obtain ⟨n', p', mn⟩ := key n p
    exact List.mem_map.mpr ⟨(t, n'), (h.2 _ _).mpr ⟨p', mn⟩, rfl⟩
theorem ends_kinds {s : T3} {F : List (T3 × Nat)} (h : Found 1 s F) (hs : Nn s) (hp : 0 < sm s) : ([0, 1, 2] : List Int).filter (fun k => (endsF F).any fun t => decide (0 < g3 t.1 t.2.1 t.2.2 k)) = lastL s := by
  unfold lastL
  apply List.filter_congr
  intro k hk
  have hk3 : 0 ≤ k ∧ k < 3 := by
    simp only [List.mem_cons, List.mem_nil_iff, or_false] at hk
    omega
  cases e : lastB s k with
  | true =>
    rw [List.any_eq_true]
    obtain ⟨n, t, p, ha, hg, _⟩ := join_hits hs hp hk3.1 hk3.2 e
    exact ⟨t, (mem_ends h).mpr ⟨⟨n, p⟩, ha⟩, decide_eq_true hg⟩
  | false =>
    rw [List.any_eq_false]
    intro t ht hg
    obtain ⟨⟨n, p⟩, ha⟩ := (mem_ends h).mp ht
    have := (join_ends hs hp p ha).2 k hk3.1 hk3.2 (of_decide_eq_true hg)
    rw [e] at this
    cases this
theorem ends_some {s : T3} {F : List (T3 × Nat)} (h : Found 1 s F) (hs : Nn s) (hp : 0 < sm s) : 0 < (endsF F).length := by
  obtain ⟨k, k0, k3, hk⟩ := last_some hs hp
  obtain ⟨n, t, p, ha, _, _⟩ := join_hits hs hp k0 k3 hk
  exact List.length_pos_of_mem ((mem_ends h).mpr ⟨⟨n, p⟩, ha⟩)
theorem ends_few {s : T3} {F : List (T3 × Nat)} (h : Found 1 s F) (hs : Nn s) (hp : 0 < sm s) {m : Int} (hm : m ∈ (endsF F).map sum3) (hl : ∀ y, y ∈ (endsF F).map sum3 → m ≤ y) : fewest s = m := by
  obtain ⟨t, ht, rfl⟩ := List.mem_map.mp hm
  obtain ⟨⟨n, p⟩, ha⟩ := (mem_ends h).mp ht
  have h1 := (join_ends hs hp p ha).1
  obtain ⟨k, k0, k3, hk⟩ := last_some hs hp
  obtain ⟨n', t', p', ha', _, e'⟩ := join_hits hs hp k0 k3 hk
  have h2 := hl (sum3 t') (List.mem_map.mpr ⟨t', (mem_ends h).mpr ⟨⟨n', p'⟩, ha'⟩, rfl⟩)
  rw [sum3_sm] at h2 ⊢
  rw [sum3_sm] at h2
  omega
theorem alone_max {t : T3} (hn : Nn t) {m : Int} (h1 : m ∈ [t.1, t.2.1, t.2.2]) (h2 : ∀ y, y ∈ [t.1, t.2.1, t.2.2] → y ≤ m) : (m = sum3 t) ↔ Alone t := by
  rw [sum3_sm]
  have a := h2 t.1 (by simp)
  have b := h2 t.2.1 (by simp)
  have c := h2 t.2.2 (by simp)
  simp only [List.mem_cons, List.mem_nil_iff, or_false] at h1
  unfold Nn at hn
  unfold sm Alone
  omega
theorem kvF_at {F : List (T3 × Nat)} {i : Nat} {k : List Key} {v : V} (h : (kvF F)[i]? = some (k, v)) : ∃ t n, F[i]? = some (t, n) ∧ k = keyT t := by
  unfold kvF at h
  rw [List.getElem?_map] at h
  cases e : F[i]? with
  | none => rw [e] at h; cases h
  | some q =>
    rw [e] at h
    have e2 := Option.some.inj h
    exact ⟨q.1, q.2, rfl, (congrArg Prod.fst e2).symm⟩
theorem filter_step {α : Type} {xs : List α} {i : Nat} {x : α} (p : α → Bool) (h : xs[i]? = some x) : (xs.take (i + 1)).filter p = (xs.take i).filter p ++ (if p x = true then [x] else []) := by
  rw [← take_next h, List.filter_append, List.filter_cons, List.filter_nil]
theorem map_take_next {α β : Type} {xs : List α} {i : Nat} {x : α} (f : α → β) (h : xs[i]? = some x) : (xs.take i).map f ++ [f x] = (xs.take (i + 1)).map f := by
  rw [← take_next h, List.map_append]
  rfl
theorem ok3_Nn {s : T3} (h : Ok3 s.1 s.2.1 s.2.2) : Nn s ∧ 0 < sm s := ⟨⟨h.a0, h.b0, h.c0⟩, h.pos⟩

theorem cans_nil {s : T3} (hs : Nn s) : cans s.1 s.2.1 s.2.2 = [] ↔ Alone s := by
  constructor
  · intro h
    unfold Nn at hs
    by_cases a : Alone s
    · exact a
    · exfalso
      unfold Alone at a
      by_cases h1 : 0 < s.1 ∧ 0 < s.2.1
      · have := cans_mem (t := s) M01 (cn01 h1.1 h1.2)
        rw [h] at this
        cases this
      · by_cases h2 : 0 < s.1 ∧ 0 < s.2.2
        · have := cans_mem (t := s) M02 (cn02 h2.1 h2.2)
          rw [h] at this
          cases this
        · have := cans_mem (t := s) M12 (cn12 (by omega) (by omega))
          rw [h] at this
          cases this
  · intro ha
    cases e : cans s.1 s.2.1 s.2.2 with
    | nil => rfl
    | cons q r =>
      have hq : q ∈ cans s.1 s.2.1 s.2.2 := by rw [e]; exact List.mem_cons_self
      obtain ⟨hM, hc⟩ := mem_cans hq
      exact absurd hc (no_move ha hM)
theorem lastL_alone {s : T3} (ha : Alone s) : lastL s = ([0, 1, 2] : List Int).filter fun k => decide (0 < g3 s.1 s.2.1 s.2.2 k) := by
  unfold lastL
  apply List.filter_congr
  intro k _
  unfold lastB
  rw [if_pos ha]
theorem join_same {s : T3} {l h : Int} (hM : Mt l h) (hc : cn s l h = true) (ha : ¬ Alone s) (hb : ¬ Alone (mt3 s l h 1)) : lastL (mt3 s l h 1) = lastL s ∧ fewest (mt3 s l h 1) = fewest s := by
  unfold lastL fewest
  rw [if_neg ha, if_neg hb]
  rcases move (m := 1) hM hc with ⟨_, _, e⟩ | ⟨_, _, e⟩ | ⟨_, _, e⟩
  · constructor
    · apply List.filter_congr
      intro k hk
      unfold lastB
      rw [if_neg ha, if_neg hb, e]
      dsimp only
      simp only [List.mem_cons, List.mem_nil_iff, or_false] at hk
      rcases hk with rfl | rfl | rfl
      · rw [if_pos rfl, if_pos rfl, decide_eq_decide]; omega
      · rw [if_neg (by decide), if_pos rfl, if_neg (by decide), if_pos rfl, decide_eq_decide]; omega
      · rw [if_neg (by decide), if_neg (by decide), if_neg (by decide), if_neg (by decide), decide_eq_decide]; omega
    · rw [e]
      have q : ((s.1 - 1 - (s.2.1 - 1)) % 2 = 0 ∧ (s.2.1 - 1 - (s.2.2 + 1)) % 2 = 0) ↔ ((s.1 - s.2.1) % 2 = 0 ∧ (s.2.1 - s.2.2) % 2 = 0) := by omega
      simp only [q]
  · constructor
    · apply List.filter_congr
      intro k hk
      unfold lastB
      rw [if_neg ha, if_neg hb, e]
      dsimp only
      simp only [List.mem_cons, List.mem_nil_iff, or_false] at hk
      rcases hk with rfl | rfl | rfl
      · rw [if_pos rfl, if_pos rfl, decide_eq_decide]; omega
      · rw [if_neg (by decide), if_pos rfl, if_neg (by decide), if_pos rfl, decide_eq_decide]; omega
      · rw [if_neg (by decide), if_neg (by decide), if_neg (by decide), if_neg (by decide), decide_eq_decide]; omega
    · rw [e]
      have q : ((s.1 - 1 - (s.2.1 + 1)) % 2 = 0 ∧ (s.2.1 + 1 - (s.2.2 - 1)) % 2 = 0) ↔ ((s.1 - s.2.1) % 2 = 0 ∧ (s.2.1 - s.2.2) % 2 = 0) := by omega
      simp only [q]
  · constructor
    · apply List.filter_congr
      intro k hk
      unfold lastB
      rw [if_neg ha, if_neg hb, e]
      dsimp only
      simp only [List.mem_cons, List.mem_nil_iff, or_false] at hk
      rcases hk with rfl | rfl | rfl
      · rw [if_pos rfl, if_pos rfl, decide_eq_decide]; omega
      · rw [if_neg (by decide), if_pos rfl, if_neg (by decide), if_pos rfl, decide_eq_decide]; omega
      · rw [if_neg (by decide), if_neg (by decide), if_neg (by decide), if_neg (by decide), decide_eq_decide]; omega
    · rw [e]
      have q : ((s.1 + 1 - (s.2.1 - 1)) % 2 = 0 ∧ (s.2.1 - 1 - (s.2.2 - 1)) % 2 = 0) ↔ ((s.1 - s.2.1) % 2 = 0 ∧ (s.2.1 - s.2.2) % 2 = 0) := by omega
      simp only [q]
theorem join_ok3 {s : T3} {l h : Int} (hM : Mt l h) (hc : cn s l h = true) (ho : Ok3 s.1 s.2.1 s.2.2) : Ok3 (mt3 s l h 1).1 (mt3 s l h 1).2.1 (mt3 s l h 1).2.2 := by
  have a0 := ho.a0
  have b0 := ho.b0
  have c0 := ho.c0
  rcases move (m := 1) hM hc with ⟨_, _, e⟩ | ⟨_, _, e⟩ | ⟨_, _, e⟩ <;> (rw [e]; exact ⟨by dsimp only; omega, by dsimp only; omega, by dsimp only; omega, by dsimp only; omega⟩)
/-- even and odd -/
def oddL (s : T3) : List Int := [s.1 % 2, s.2.1 % 2, s.2.2 % 2]
def dueB (s : T3) (k : Int) : Bool := inV (.int (((oddL s).count (g3 (s.1 % 2) (s.2.1 % 2) (s.2.2 % 2) k) : Nat) : Int)) [.int 1, .int 3]
theorem due_eq {s : T3} (ha : ¬ Alone s) : ([0, 1, 2] : List Int).filter (fun k => dueB s k) = lastL s := by
  unfold lastL
  apply List.filter_congr
  intro k hk
  unfold dueB lastB oddL g3
  rw [if_neg ha]
  have e0 : s.1 % 2 = 0 ∨ s.1 % 2 = 1 := by omega
  have e1 : s.2.1 % 2 = 0 ∨ s.2.1 % 2 = 1 := by omega
  have e2 : s.2.2 % 2 = 0 ∨ s.2.2 % 2 = 1 := by omega
  have d01 : (s.1 - s.2.1) % 2 = 0 ↔ s.1 % 2 = s.2.1 % 2 := by omega
  have d02 : (s.1 - s.2.2) % 2 = 0 ↔ s.1 % 2 = s.2.2 % 2 := by omega
  have d12 : (s.2.1 - s.2.2) % 2 = 0 ↔ s.2.1 % 2 = s.2.2 % 2 := by omega
  simp only [d01, d02, d12]
  simp only [List.mem_cons, List.mem_nil_iff, or_false] at hk
  rcases hk with rfl | rfl | rfl <;> rcases e0 with e0 | e0 <;> rcases e1 with e1 | e1 <;> rcases e2 with e2 | e2 <;> rw [e0, e1, e2] <;> decide
theorem few_due {s : T3} (ha : ¬ Alone s) : fewest s = if (((lastL s).length : Nat) : Int) = 3 then 2 else 1 := by
  unfold fewest lastL
  rw [if_neg ha]
  have e : ∀ k, lastB s k = if k = 0 then decide ((s.2.1 - s.2.2) % 2 = 0) else if k = 1 then decide ((s.1 - s.2.2) % 2 = 0) else decide ((s.1 - s.2.1) % 2 = 0) := fun k => by
    unfold lastB
    rw [if_neg ha]
  have e0 : lastB s 0 = decide ((s.2.1 - s.2.2) % 2 = 0) := by rw [e, if_pos rfl]
  have e1 : lastB s 1 = decide ((s.1 - s.2.2) % 2 = 0) := by rw [e, if_neg (by decide), if_pos rfl]
  have e2 : lastB s 2 = decide ((s.1 - s.2.1) % 2 = 0) := by rw [e, if_neg (by decide), if_neg (by decide)]
  by_cases h0 : (s.2.1 - s.2.2) % 2 = 0 <;> by_cases h1 : (s.1 - s.2.2) % 2 = 0 <;> by_cases h2 : (s.1 - s.2.1) % 2 = 0 <;> simp [List.filter_cons, e0, e1, e2, h0, h1, h2] <;> omega
theorem filter_all {α : Type} (p : α → Bool) (xs : List α) : (xs.take xs.length).filter p = xs.filter p := by rw [List.take_length]

theorem eqv_pairs_nil (ps : List (Int × Int)) : PyData.eqv (dPairs ps) (.list []) = decide (ps = []) := by
  cases ps with
  | nil => simp [dPairs, PyData.eqv, PyData.eqvAll]
  | cons t r => simp [dPairs, PyData.eqv, PyData.eqvAll]
theorem sum3_list (t : T3) : [t.1, t.2.1, t.2.2].sum = sm t := sum3_sm t
theorem k012 {i : Nat} {x : V} (h : ([.int 0, .int 1, .int 2] : List V)[i]? = some x) : ∃ kk : Int, ([0, 1, 2] : List Int)[i]? = some kk ∧ x = .int kk ∧ 0 ≤ kk ∧ kk < 3 := by
  match i, h with
  | 0, h => exact ⟨0, rfl, (Option.some.inj h).symm, by decide, by decide⟩
  | 1, h => exact ⟨1, rfl, (Option.some.inj h).symm, by decide, by decide⟩
  | 2, h => exact ⟨2, rfl, (Option.some.inj h).symm, by decide, by decide⟩
  | n + 3, h => simp at h
end Km

set_option Elab.async false
set_option linter.all false
set_option maxRecDepth 100000
set_option maxHeartbeats 4000000
namespace Km
open PySem PySem.Spec PyProof.Rows L2
section
variable {X : Cx}
theorem mt_tup_indexI : MtR X "tuple.index" (fun x xs H Q => ∃ (p : Addr) (ns : List Int) (k : Int), x = .ref p ∧ xs = [.int k] ∧ SqT X.K H p (ns.map V.int) ∧ k ∈ ns ∧ Q (.int (ns.idxOf k : Nat)) H) := by
  intro pins s σ H x xs v us Q I rx rs h
  obtain ⟨p, ns, k, rfl, rfl, hq, hk, q⟩ := h
  cases rx
  obtain ⟨u, rfl, t, rfl⟩ := vals1 rs
  obtain ⟨its, r, pl, hz⟩ := I.tuple hq
  exact PySem.SeqAt.tuple_index_ints pl r.ints hk ⟨.int (ns.idxOf k : Nat), H, I.tok _, ⟨_, rfl⟩, q⟩
/-- a tuple of the program's own, as it was laid: no dict beside it -/
def TupF (H : Hp) (a : Addr) (xs : List V) : Prop := ∃ o : Obj, o.dict = none ∧ H a = some (.frz o (.tup xs))
theorem TupF.same {H H' : Hp} {a : Addr} {xs : List V} (s : Same H H') (h : TupF H a xs) : TupF H' a xs := by
  obtain ⟨o, h1, h2⟩ := h
  exact ⟨o, h1, s _ _ h2⟩
theorem TupF.sq {K : PySem.W.Frag} {H : Hp} {a : Addr} {xs : List V} (h : TupF H a xs) : SqT K H a xs := by
  obtain ⟨o, _, h2⟩ := h
  exact .inl (.inr ⟨o, h2⟩)
def tTupF (t : TA) : TE := fun σ H Q => t σ H fun xs H1 => xs.length ≤ sizeLine ∧ ∀ (o : Obj) (p : Addr), o.dict = none → H1 p = none → Q (.ref p) (upd H1 p (.frz o (.tup xs)))
theorem pe_tupF {es : List Expr} {t : TA} {pos : Pos} {x1} (h : PA X es t) : PE X (.Tuple es x1 pos) (tTupF t) := by
  refine ⟨fun pins s σ H Q I hq => ?_⟩
  refine wpAny_Tuple_spliced (thn (h.run pos pins s σ H _ I hq) fun us s1 ⟨xs, H1, I1, r, z, q⟩ => ⟨by rw [← r.length]; exact z, ?_⟩)
  have hf : H1 s1.heap.objs.size = none := I1.hok.fresh (Nat.le_refl _)
  refine ⟨.ref s1.heap.objs.size, upd H1 s1.heap.objs.size (.frz ({ cls := .type "tuple", data := .seq us.toArray } : Obj) (.tup xs)), I1.laid (t' := s1.toks) (fun b u e => Heap.get?_push_of_some _ e) (Nat.le_refl _) ?_, rfl, q _ _ rfl hf⟩
  exact ⟨Heap.get?_push_size _ rfl, z, us, r, ⟨_, Heap.get?_push_size _ rfl, rfl, _, rfl⟩⟩
/-- a method of such a tuple -/
def tBMT (r : V → List V → Hp → VK → Prop) (to : TE) (t : TA) : TE := fun σ H Q => to σ H fun x H1 => (∃ p xs, x = .ref p ∧ TupF H1 p xs) ∧ t σ H1 fun xs H2 => r x xs H2 Q
variable {o e : Expr} {es : List Expr} {to : TE} {t : TA} {name : Str} {apos cpos : Pos} {id : String} {r : V → List V → Hp → VK → Prop}
theorem pe_bmT (slot : Slot "tuple" name id) (hty : typeOf (.builtin id) = pure (.type "method_descriptor")) (hm : MtR X id r) (ho : PE X o to) (ha : PA X (e :: es) t)
    (hbase : attributeBase o name X.env (eval o X.env) = eval o X.env := by rfl)
    (hfew : ((backTo cpos (starEach (e :: es) X.env)).all (fun x => !x.1) && (backToKw cpos (keywordEach [] X.env)).all (fun x => x.1.isSome)
      && decide ((e :: es).length + ([] : List Keyword).length + (if ([] : List Keyword).isEmpty then 0 else 1) < 30)) = true := by rfl)
    (hline : (apos.endLine == cpos.line) = true := by rfl) (hs : starEach (e :: es) X.env = (false, eval e X.env) :: starEach es X.env := by rfl) (hplain : (backTo cpos (starEach es X.env)).any (·.1) = false := by rfl) :
    PE X (.Call (.Attribute o name apos) (e :: es) [] cpos) (tBMT r to t) := by
  refine ⟨fun pins s σ H Q I h => ?_⟩
  refine wpAny_Call_method_late hbase hfew hline rfl (thn (ho.run pins s σ H _ I h) fun v s1 ⟨x, H1, I1, r1, ⟨p, xs, ex, ob, hd, hp⟩, q1⟩ => ?_)
  subst ex
  cases r1
  obtain ⟨hg, _, its, _, o2, hg2, hc, _⟩ := (show ObjOk X.prog X.w H1 s1.heap p (.frz ob (.tup xs)) from I1.hok p _ hp)
  cases hg.symm.trans hg2
  refine ⟨"tuple", id, PySem.F.plainAttrs_tuple, slot, hty, ⟨ob, hg, hc⟩, ?_, ?_⟩
  · intro a e
    cases e
    exact ⟨ob, hg, hd⟩
  · have hA := ha.run cpos pins s1 σ H1 _ I1 q1
    rw [hs] at hA ⊢
    refine Calls.callWith_builtin (by show (false || (backTo cpos (starEach es X.env)).any (·.1)) = false; rw [hplain] <;> rfl) (Calls.evalArgs_plain ?_)
    exact thn hA fun us s2 ⟨vs, H2, I2, r2, q2⟩ => hm pins s2 σ H2 (.ref p) vs (.ref p) us Q I2 rfl r2 q2
end
end Km

set_option Elab.async false
set_option linter.all false
set_option maxRecDepth 100000
set_option maxHeartbeats 4000000
/-! KmGoes: lists of meetings that can be, one behind the other -/
namespace Km
open PySem PySem.Spec PyProof.Rows L2
theorem hu65_of {A : Around} {k : Nat} (hr : Room k A) : A.units + 65 < cLine := by
  have := hr.un
  omega
def run (m : Int) (s : T3) (ms : List (Int × Int)) : T3 := ms.foldl (fun t y => mt3 t y.1 y.2 m) s
def Goes (m : Int) (s : T3) (ms : List (Int × Int)) : Prop := ∀ i y, ms[i]? = some y → Mt y.1 y.2 ∧ cn (run m s (ms.take i)) y.1 y.2 = true
theorem run_next {m : Int} {s : T3} {ms : List (Int × Int)} {i : Nat} {y : Int × Int} (h : ms[i]? = some y) : run m s (ms.take (i + 1)) = mt3 (run m s (ms.take i)) y.1 y.2 m := by
  unfold run
  rw [← take_next h, List.foldl_append]
  rfl
theorem run_snoc {m : Int} {s : T3} {ms : List (Int × Int)} {y : Int × Int} : run m s (ms ++ [y]) = mt3 (run m s ms) y.1 y.2 m := by
  unfold run
  rw [List.foldl_append]
  rfl
theorem Goes.nil {m : Int} {s : T3} : Goes m s [] := fun i y h => by simp at h
theorem Goes.snoc {m : Int} {s : T3} {ms : List (Int × Int)} {l h : Int} (g : Goes m s ms) (hM : Mt l h) (hc : cn (run m s ms) l h = true) : Goes m s (ms ++ [(l, h)]) := by
  intro i y hy
  by_cases hi : i < ms.length
  · rw [List.getElem?_append_left hi] at hy
    rw [List.take_append_of_le_length (by omega)]
    exact g i y hy
  · rw [List.getElem?_append_right (by omega)] at hy
    have e : i = ms.length := by
      have := (List.getElem?_eq_some_iff.mp hy).1
      simp only [List.length_cons, List.length_nil] at this
      omega
    subst e
    rw [Nat.sub_self] at hy
    obtain rfl := Option.some.inj hy
    rw [List.take_append_of_le_length (Nat.le_refl _), List.take_length]
    exact ⟨hM, hc⟩
theorem Goes.path {m : Int} {s : T3} {ms : List (Int × Int)} (g : Goes m s ms) : ∀ i, i ≤ ms.length → Path m s i (run m s (ms.take i))
  | 0, _ => by
    rw [List.take_zero]
    exact .nil
  | i + 1, h => by
    have hy : ms[i]? = some (ms[i]'(by omega)) := List.getElem?_eq_getElem (by omega)
    obtain ⟨hM, hc⟩ := g i _ hy
    rw [run_next hy]
    exact .snoc (Goes.path g i (by omega)) hM hc
theorem Goes.full {m : Int} {s : T3} {ms : List (Int × Int)} (g : Goes m s ms) : Path m s ms.length (run m s ms) := by
  have := g.path ms.length (Nat.le_refl _)
  rwa [List.take_length] at this
/-- a list of tuples of two numbers, wherever they lie -/
def PairsT (K : PySem.W.Frag) (H : Hp) (L : Addr) (ps : List (Int × Int)) : Prop := ∃ rs : List Addr, H L = some (.lst (rs.map V.ref)) ∧ Paired (fun r (p : Int × Int) => SqT K H r [.int p.1, .int p.2]) rs ps
theorem dpPairsT {K : PySem.W.Frag} {H : Hp} : ∀ {rs : List Addr} {ps : List (Int × Int)}, Paired (fun r (p : Int × Int) => SqT K H r [.int p.1, .int p.2]) rs ps → DpAll K H (rs.map V.ref) (ps.map fun p => .tuple [.int p.1, .int p.2])
  | _, _, .nil => .nil
  | _, _, .cons r t => .cons (.tup r (.cons (.int _) (.cons (.int _) .nil))) (dpPairsT t)
theorem PairsT.dp {K : PySem.W.Frag} {H : Hp} {L : Addr} {ps : List (Int × Int)} (h : PairsT K H L ps) : Dp K H (.ref L) (dPairs ps) := by
  obtain ⟨rs, hL, hp⟩ := h
  exact .lst (.inl (.inl hL)) (dpPairsT hp)
theorem PairsT.same {K : PySem.W.Frag} {H H' : Hp} {L : Addr} {ps : List (Int × Int)} (s : Same H H') (h : PairsT K H L ps) : PairsT K H' L ps := by
  obtain ⟨rs, hL, hp⟩ := h
  exact ⟨rs, s _ _ hL, Paired.mono2 (fun _ _ z => tup_same s z) hp⟩
theorem ty_tupT {K : PySem.W.Frag} {H : Hp} {a : Addr} {xs : List V} (h : SqT K H a xs) : TyX K H (.ref a) (.type "tuple") := by
  rcases h with (h | ⟨o, h⟩) | ⟨o, _, _, h1, h2, _⟩
  · exact .base (.tup h)
  · exact .fTuple h
  · exact .kTuple h1 h2
theorem shaped_pair (a b : Int) : SeqAt.shaped (.tuple [.int a, .int b]) = true := by
  unfold SeqAt.shaped
  simp [PyData.canLay0, PyData.canLayAll0, PyData.depth, PyData.depthAll]
/-- in a list of pairs -/
theorem any_pairs {ps : List (Int × Int)} {y : Int × Int} : (ps.map fun p => PyData.tuple [.int p.1, .int p.2]).any (fun z => PyData.eqv z (.tuple [.int y.1, .int y.2])) = decide (y ∈ ps) := by
  induction ps with
  | nil => rfl
  | cons q r ih =>
    rw [List.map_cons, List.any_cons, ih]
    have e : PyData.eqv (.tuple [.int q.1, .int q.2]) (.tuple [.int y.1, .int y.2]) = decide (y = q) := by
      obtain ⟨a, b⟩ := q
      obtain ⟨c, d⟩ := y
      simp only [PyData.eqv, PyData.eqvAll, Bool.and_true, Prod.mk.injEq]
      rw [Bool.eq_iff_iff]
      simp
      omega
    rw [e]
    simp
/-- meetings that leave the fewest -/
def FewRun (s : T3) (ms : List (Int × Int)) : Prop := Goes 1 s ms ∧ Alone (run 1 s ms) ∧ sm (run 1 s ms) = fewest s
def spTf (K : PySem.W.Frag) (C1 C3 : Addr) : Sp := fun vs H Q E => ∃ x : V, vs = [x] ∧ ((BX K H x false ∧ E (.ref C1) none H) ∨
  ∃ (p : Addr) (s : T3), x = .ref p ∧ Tr K H p s.1 s.2.1 s.2.2 ∧ Ok3 s.1 s.2.1 s.2.2 ∧ ((300 < sm s ∧ E (.ref C3) none H) ∨
    (sm s ≤ 300 ∧ TupF H p (tV s) ∧ ∀ (H' : Hp) (L : Addr) (ms : List (Int × Int)), Same H H' → H L = none → PairsT K H' L ms → FewRun s ms → Q (.ref L) H')))
theorem goes_no {m : Int} {s : T3} {ms : List (Int × Int)} (ha : Alone s) (g : Goes m s ms) : ms = [] := by
  cases ms with
  | nil => rfl
  | cons y r =>
    obtain ⟨hM, hc⟩ := g 0 y rfl
    exact absurd hc (no_move ha hM)
theorem few110 {ms : List (Int × Int)} (f : FewRun (1, 1, 0) ms) : ms = [(0, 1)] := by
  obtain ⟨g, ha, _⟩ := f
  cases ms with
  | nil => exact absurd ha (by unfold Alone run; decide)
  | cons y r =>
    obtain ⟨hM, hc⟩ := g 0 y rfl
    have hc : cn (1, 1, 0) y.1 y.2 = true := hc
    obtain ⟨l, h⟩ := y
    rcases hM with ⟨h1, h2⟩ | ⟨h1, h2⟩ | ⟨h1, h2⟩
    · obtain rfl : l = 0 := h1
      obtain rfl : h = 1 := h2
      cases r with
      | nil => rfl
      | cons z q =>
        obtain ⟨hM, hc⟩ := g 1 z rfl
        exact absurd hc (no_move (s := mt3 (1, 1, 0) 0 1 1) (.inr (.inr ⟨by decide, by decide⟩)) hM)
    · obtain rfl : l = 0 := h1
      obtain rfl : h = 2 := h2
      exact absurd hc (by decide)
    · obtain rfl : l = 1 := h1
      obtain rfl : h = 2 := h2
      exact absurd hc (by decide)
theorem few003 {ms : List (Int × Int)} (f : FewRun (0, 0, 3) ms) : ms = [] := goes_no (.inr (.inr ⟨rfl, rfl⟩)) f.1
theorem few100 {ms : List (Int × Int)} (f : FewRun (100, 100, 100) ms) : ((ms.length : Nat) : Int) = 298 := by
  obtain ⟨g, ha, e⟩ := f
  have h := join_keeps (s := (100, 100, 100)) ⟨by decide, by decide, by decide⟩ g.full
  have h1 := h.2.1
  have e2 : fewest (100, 100, 100) = 2 := by
    unfold fewest
    rw [if_neg (by unfold Alone; decide), if_pos (by decide)]
  rw [e, e2] at h1
  have e3 : sm (100, 100, 100) = 300 := rfl
  rw [e3] at h1
  omega
theorem flat_ints (ns : List Int) : (ns.map V.int).all flatV = true := by
  rw [List.all_eq_true]
  intro x hx
  obtain ⟨z, _, rfl⟩ := List.mem_map.mp hx
  rfl
theorem inV_ints {k : Int} {ns : List Int} : inV (.int k) (ns.map V.int) = decide (k ∈ ns) := by
  unfold inV
  induction ns with
  | nil => rfl
  | cons a r ih =>
    rw [List.map_cons, List.any_cons, ih]
    have e : eqV (.int a) (.int k) = decide (k = a) := by
      unfold eqV
      rw [Bool.eq_iff_iff]
      simp
      omega
    rw [e]
    simp
theorem mem_lastL {s : T3} {k : Int} (k0 : 0 ≤ k) (k3 : k < 3) (h : lastB s k = true) : k ∈ lastL s := by
  refine List.mem_filter.mpr ⟨?_, h⟩
  simp only [List.mem_cons, List.mem_nil_iff, or_false]
  omega
/-- where the one kind lies -/
theorem idx_max {t : T3} (hn : Nn t) (hp : 0 < sm t) (ha : Alone t) {m : Int} (h1 : m ∈ [t.1, t.2.1, t.2.2]) (h2 : ∀ y, y ∈ [t.1, t.2.1, t.2.2] → y ≤ m) : ∃ k : Nat, [t.1, t.2.1, t.2.2].idxOf m = k ∧ k < 3 ∧ 0 < g3 t.1 t.2.1 t.2.2 (k : Int) := by
  obtain ⟨a, b, c⟩ := t
  have hm : m = a + b + c := by
    have := (alone_max hn h1 h2).mpr ha
    rw [sum3_sm] at this
    exact this
  unfold Nn at hn
  unfold sm at hp
  unfold Alone at ha
  dsimp only at *
  subst hm
  rcases ha with ⟨rfl, rfl⟩ | ⟨rfl, rfl⟩ | ⟨rfl, rfl⟩
  · refine ⟨0, ?_, by decide, ?_⟩
    · rw [List.idxOf_cons, show (a == a + 0 + 0) = true by simp]
      rfl
    · show 0 < a
      omega
  · refine ⟨1, ?_, by decide, ?_⟩
    · have e1 : ((0 : Int) == 0 + b + 0) = false := by simp; omega
      rw [List.idxOf_cons, e1, List.idxOf_cons, show (b == 0 + b + 0) = true by simp]
      rfl
    · show 0 < b
      omega
  · refine ⟨2, ?_, by decide, ?_⟩
    · have e1 : ((0 : Int) == 0 + 0 + c) = false := by simp; omega
      rw [List.idxOf_cons, e1, List.idxOf_cons, e1, List.idxOf_cons, show (c == 0 + 0 + c) = true by simp]
      rfl
    · show 0 < c
      omega
end Km

set_option Elab.async false
set_option linter.all false
set_option maxRecDepth 100000
set_option maxHeartbeats 4000000
/-! KmAns: the two answers, what turning promises -/
namespace Km
open PySem PySem.Spec PyProof.Rows L2
/-- an own class, as isinstance asks of it -/
structure OwnI (K : PySem.W.Frag) (C : Addr) : Prop where
  cl : Cls K C
  ha : PySem.W.findIn K (.ref C) "__class__" = some (some (.builtin "object.__class__"))
  hn : PySem.W.specialIn K (.builtin "object.__class__") "__get__" = some (some (.builtin "getset_descriptor.__get__"))
  htk : PySem.W.takesIn K (.builtin "object.__class__") = some true
  hm : PySem.W.mroIn K C (.type "object") = some true
theorem OwnI.ty {K : PySem.W.Frag} {C : Addr} (o : OwnI K C) {H : Hp} {a dx : Addr} {fs : List (Str × V)} (h : H a = some (.ins C dx fs)) : TyX K H (.ref a) (.ref C) := .base (.ins h o.cl o.ha o.hn o.htk o.hm)
/-- the classes Answer, All, Barred at CN, CA, CB -/
structure AnsK (K : PySem.W.Frag) (CN CA CB : Addr) : Prop where
  A : OwnI K CA
  B : OwnI K CB
  aa : PySem.W.kitOne K (.ref CA) (.ref CA) = some true
  ab : PySem.W.kitOne K (.ref CA) (.ref CB) = some false
  an : PySem.W.kitOne K (.ref CA) (.ref CN) = some true
  ba : PySem.W.kitOne K (.ref CB) (.ref CA) = some false
  bb : PySem.W.kitOne K (.ref CB) (.ref CB) = some true
  bn : PySem.W.kitOne K (.ref CB) (.ref CN) = some true
  st : NoAttr K CA "steps"
def eqD {α : Type} [DecidableEq α] (a b : α) : Bool := decide (a = b)
def clsB (K : PySem.W.Frag) (C : Addr) : Bool :=
  (PySem.W.plainGet K C Str.empty && (PySem.W.hasDictIn K C && (PySem.W.plainOver K C && He.eqO (PySem.W.findIn K (.ref C) "__setattr__") (some (some (.builtin "object.__setattr__"))))))
def ownB (K : PySem.W.Frag) (C : Addr) : Bool :=
  clsB K C && (He.eqO (PySem.W.findIn K (.ref C) "__class__") (some (some (.builtin "object.__class__"))) && (He.eqO (PySem.W.specialIn K (.builtin "object.__class__") "__get__") (some (some (.builtin "getset_descriptor.__get__")))
    && (eqD (PySem.W.takesIn K (.builtin "object.__class__")) (some true) && eqD (PySem.W.mroIn K C (.type "object")) (some true))))
theorem ownB_ok {K : PySem.W.Frag} {C : Addr} (h : ownB K C = true) : OwnI K C := by
  obtain ⟨h0, h⟩ := He.ba h
  obtain ⟨h1, h⟩ := He.ba h
  obtain ⟨h2, h⟩ := He.ba h
  obtain ⟨h3, h4⟩ := He.ba h
  obtain ⟨c1, c⟩ := He.ba h0
  obtain ⟨c2, c⟩ := He.ba c
  obtain ⟨c3, c4⟩ := He.ba c
  exact ⟨⟨c1, c2, c3, He.eqO_ok c4⟩, He.eqO_ok h1, He.eqO_ok h2, of_decide_eq_true h3, of_decide_eq_true h4⟩
def kitB (K : PySem.W.Frag) (C D : Addr) (b : Bool) : Bool := eqD (PySem.W.kitOne K (.ref C) (.ref D)) (some b)
def ansB (K : PySem.W.Frag) (CN CA CB : Addr) : Bool :=
  ownB K CA && (ownB K CB && (kitB K CA CA true && (kitB K CA CB false && (kitB K CA CN true && (kitB K CB CA false && (kitB K CB CB true && (kitB K CB CN true && He.eqO (PySem.W.findIn K (.ref CA) "steps") (some none))))))))
theorem ansB_ok {K : PySem.W.Frag} {CN CA CB : Addr} (h : ansB K CN CA CB = true) : AnsK K CN CA CB := by
  obtain ⟨h1, h⟩ := He.ba h
  obtain ⟨h2, h⟩ := He.ba h
  obtain ⟨h3, h⟩ := He.ba h
  obtain ⟨h4, h⟩ := He.ba h
  obtain ⟨h5, h⟩ := He.ba h
  obtain ⟨h6, h⟩ := He.ba h
  obtain ⟨h7, h⟩ := He.ba h
  obtain ⟨h8, h9⟩ := He.ba h
  exact ⟨ownB_ok h1, ownB_ok h2, of_decide_eq_true h3, of_decide_eq_true h4, of_decide_eq_true h5, of_decide_eq_true h6, of_decide_eq_true h7, of_decide_eq_true h8, He.eqO_ok h9⟩
/-- an All with its steps, a Barred -/
def IsAll (CA : Addr) (H : Hp) (a : Addr) (x : V) : Prop := ∃ (dx : Addr) (fs : List (Str × V)), H a = some (.ins CA dx fs) ∧ fs.lookup ("steps" : Str) = some x ∧ fs.lookup ("shows" : Str) = none
def IsBar (CB : Addr) (H : Hp) (a : Addr) : Prop := ∃ (dx : Addr) (fs : List (Str × V)), H a = some (.ins CB dx fs) ∧ fs.lookup ("shows" : Str) = none
theorem IsAll.same {CA : Addr} {H H' : Hp} {a : Addr} {x : V} (s : Same H H') (h : IsAll CA H a x) : IsAll CA H' a x := by
  obtain ⟨dx, fs, h1, h2, h3⟩ := h
  exact ⟨dx, fs, s _ _ h1, h2, h3⟩
theorem IsBar.same {CB : Addr} {H H' : Hp} {a : Addr} (s : Same H H') (h : IsBar CB H a) : IsBar CB H' a := by
  obtain ⟨dx, fs, h1, h2⟩ := h
  exact ⟨dx, fs, s _ _ h1, h2⟩
/-- the answer that is due -/
def IsAns (CA CB : Addr) (H : Hp) (a : Addr) : Option Int → Prop
  | some d => IsAll CA H a (.int d)
  | none => IsBar CB H a
theorem IsAns.same {CA CB : Addr} {H H' : Hp} {a : Addr} (s : Same H H') : ∀ {o : Option Int}, IsAns CA CB H a o → IsAns CA CB H' a o
  | some _, h => IsAll.same s h
  | none, h => IsBar.same s h
/-! ### the promises of kindmeets.turning -/
def spAo (K : PySem.W.Frag) (C1 CK CA CB : Addr) : Sp := fun vs H Q E => ∃ x y : V, vs = [x, y] ∧ ((BX K H x false ∧ E (.ref C1) none H) ∨
  ∃ (p : Addr) (s : T3), x = .ref p ∧ Tr K H p s.1 s.2.1 s.2.2 ∧ Ok3 s.1 s.2.1 s.2.2 ∧ ((KX K H y none ∧ E (.ref CK) none H) ∨
    ∃ k : Int, y = .int k ∧ 0 ≤ k ∧ k < 3 ∧ ∀ (H' : Hp) (a : Addr), Same H H' → H a = none → IsAns CA CB H' a (stepsT s k) → Q (.ref a) H'))
def spTk (K : PySem.W.Frag) (C1 CK C3 : Addr) (tk : T3 → Int → List (Int × Int)) : Sp := fun vs H Q E => ∃ x y : V, vs = [x, y] ∧ ((BX K H x false ∧ E (.ref C1) none H) ∨
  ∃ (p : Addr) (s : T3), x = .ref p ∧ Tr K H p s.1 s.2.1 s.2.2 ∧ Ok3 s.1 s.2.1 s.2.2 ∧ ((KX K H y none ∧ E (.ref CK) none H) ∨
    ∃ k : Int, y = .int k ∧ 0 ≤ k ∧ k < 3 ∧ ((300 < sm s ∧ E (.ref C3) none H) ∨ (sm s ≤ 300 ∧ ((stepsT s k = none ∧ ∀ H', Same H H' → Q .non H') ∨
      ∃ d, stepsT s k = some d ∧ ∀ (H' : Hp) (L : Addr), Same H H' → H L = none → PairsT K H' L (tk s k) → Q (.ref L) H')))))
def TkOk (tk : T3 → Int → List (Int × Int)) : Prop := ∀ (s : T3) (k d : Int), Ok3 s.1 s.2.1 s.2.2 → 0 ≤ k → k < 3 → sm s ≤ 300 → stepsT s k = some d → Goes 2 s (tk s k) ∧ run 2 s (tk s k) = only k (sm s) ∧ (((tk s k).length : Nat) : Int) = d
theorem steps_le {s : T3} {k d : Int} (hn : Nn s) (k0 : 0 ≤ k) (k3 : k < 3) (h : stepsT s k = some d) : 0 ≤ d ∧ d ≤ sm s := by
  unfold Nn at hn
  unfold stepsT at h
  split at h
  · obtain rfl := Option.some.inj h
    unfold sm
    omega
  · split at h
    · cases h
    · obtain rfl := Option.some.inj h
      unfold mx sm
      rcases kinds3 k0 k3 with rfl | rfl | rfl
      · rw [show oth s 0 = (s.2.1, s.2.2) from rfl]
        dsimp only
        split <;> omega
      · rw [show oth s 1 = (s.1, s.2.2) from rfl]
        dsimp only
        split <;> omega
      · rw [show oth s 2 = (s.1, s.2.1) from rfl]
        dsimp only
        split <;> omega
theorem cut_last (xs : List V) (y : V) : cutV (xs ++ [y]) none (some (-1)) = xs := by
  unfold cutV
  rw [HT.sIx_none]
  have e : HT.sIx (xs ++ [y]).length (xs ++ [y]).length (some (-1)) = xs.length := by
    show (if (-1 : Int) < 0 then ((-1 : Int) + ((xs ++ [y]).length : Int)).toNat else min (-1 : Int).toNat (xs ++ [y]).length) = xs.length
    rw [if_pos (by decide), List.length_append]
    simp only [List.length_cons, List.length_nil]
    omega
  rw [e, Nat.sub_zero, List.drop_zero, List.take_append_of_le_length (Nat.le_refl _), List.take_length]
/-- a tuple stays where a list is stored -/
theorem sqT_upd {K : PySem.W.Frag} {H : Hp} {p L : Addr} {xs ys : List V} {o : HO} (h : SqT K H p xs) (hL : H L = some (.lst ys)) : SqT K (L2.upd H L o) p xs := by
  rcases h with (h | ⟨ob, h⟩) | h
  · refine .inl (.inl ?_)
    rw [upd_ne (fun e => by rw [e, hL] at h; cases h)]
    exact h
  · refine .inl (.inr ⟨ob, ?_⟩)
    rw [upd_ne (fun e => by rw [e, hL] at h; cases h)]
    exact h
  · exact .inr h
theorem only_at {k x : Int} (k0 : 0 ≤ k) (k3 : k < 3) : g3 (only k x).1 (only k x).2.1 (only k x).2.2 k = x := by
  rcases kinds3 k0 k3 with rfl | rfl | rfl <;> rfl
/-! ### the word of an answer -/
def spShA (K : PySem.W.Frag) (CA : Addr) : Sp := fun vs H Q _ => ∃ (a p : Addr) (s : T3) (k d : Int), vs = [.ref a, .ref p, .int k] ∧ IsAll CA H a (.int d) ∧ Tr K H p s.1 s.2.1 s.2.2 ∧ Ok3 s.1 s.2.1 s.2.2 ∧ 0 ≤ k ∧ k < 3 ∧ ∀ H', Same H H' → Q (.bl (decide (stepsT s k = some d))) H'
def spShB (K : PySem.W.Frag) (CB : Addr) : Sp := fun vs H Q _ => ∃ (a p : Addr) (s : T3) (k : Int), vs = [.ref a, .ref p, .int k] ∧ IsBar CB H a ∧ Tr K H p s.1 s.2.1 s.2.2 ∧ Ok3 s.1 s.2.1 s.2.2 ∧ 0 ≤ k ∧ k < 3 ∧ ∀ H', Same H H' → Q (.bl (decide (stepsT s k = none))) H'
/-- a class's own word -/
structure ShOk (P : Program) (w : World) (K : PySem.W.Frag) (mg : Str → Option Value) (base : Heap) (C f : Addr) (fd : FuncData) (ps : List Str) (sp : Sp) : Prop where
  m : Meth K C "shows" f
  G : FnOk P w K mg base (L2.CX P w) 6 f fd ps sp
  b : Binds K fd ps []
/-! ### answers made by hand -/
def tMkB (CB : Addr) : TE := fun σ H Q => ∀ (H' : Hp) (a : Addr), Same H H' → H a = none → IsBar CB H' a → Q (.ref a) H'
def tMkA (CA : Addr) (t : TA) : TE := fun σ H Q => t σ H fun vs H1 => ∃ v, vs = [v] ∧ ∀ (H' : Hp) (a : Addr), Same H1 H' → H1 a = none → IsAll CA H' a v → Q (.ref a) H'
structure MkOk (P : Program) (w : World) (K : PySem.W.Frag) (mg : Str → Option Value) (base : Heap) (CA CB : Addr) : Prop where
  b : ∀ {X : Cx} {p pos : Pos}, X.prog = P → X.w = w → X.K = K → X.mg = mg → X.base = base → Room 3 X.A → Gl X "Barred" → PE X (.Call (.Name "Barred" p) [] [] pos) (tMkB CB)
  a : ∀ {X : Cx} {p pos : Pos} {e : Expr} {t : TA}, X.prog = P → X.w = w → X.K = K → X.mg = mg → X.base = base → Room 3 X.A → Gl X "All" → PA X [e] t → starEach [e] X.env = (false, eval e X.env) :: starEach [] X.env →
    PE X (.Call (.Name "All" p) [e] [] pos) (tMkA CA t)
/-- one of two readings -/
def tEi (t1 t2 : TE) : TE := fun σ H Q => t1 σ H Q ∨ t2 σ H Q
theorem pe_ei {X : Cx} {e : Expr} {t1 t2 : TE} (h1 : PE X e t1) (h2 : PE X e t2) : PE X e (tEi t1 t2) :=
  ⟨fun pins s σ H Q I h => h.elim (fun z => h1.run pins s σ H Q I z) (fun z => h2.run pins s σ H Q I z)⟩
def oV : Option Int → V
  | some d => .int d
  | none => .non
/-- what the answer says of other beads -/
def saysA (o st : Option Int) : Bool := match o with
  | some d => decide (st = some d)
  | none => decide (st = none)
theorem valF_mem : ∀ {F : List (T3 × Nat)} {t : T3} {n : Nat}, (F.map (·.1)).Nodup → (t, n) ∈ F → valV (kvF F) (keyT t) = some (.int (n : Int))
  | [], _, _, _, h => by cases h
  | q :: F, t, n, hn, h => by
    rw [List.map_cons, List.nodup_cons] at hn
    rcases List.mem_cons.mp h with rfl | h
    · simp [kvF, valV]
    · have hne : q.1 ≠ t := fun e => hn.1 (e ▸ List.mem_map.mpr ⟨_, h, rfl⟩)
      have hk : keyT q.1 ≠ keyT t := fun e => hne (keyT_inj e)
      have ih := valF_mem hn.2 h
      have e1 : decide (keyT q.1 = keyT t) = false := decide_eq_false hk
      simp only [kvF, valV, List.map_cons, List.find?_cons] at ih ⊢
      rw [e1]
      exact ih
theorem reach_steps {s : T3} {F : List (T3 × Nat)} (h : Found 2 s F) (hs : Nn s) {k : Int} (k0 : 0 ≤ k) (k3 : k < 3) : valV (kvF F) (keyT (only k (sm s))) = (stepsT s k).map V.int := by
  cases e : stepsT s k with
  | none =>
    refine valF_none.mpr fun hm => ?_
    obtain ⟨⟨t, n⟩, h1, e1⟩ := List.mem_map.mp hm
    have e1 : t = only k (sm s) := e1
    subst e1
    exact turn_none hs k0 k3 e ((h.2 _ _).mp h1).1
  | some d =>
    obtain ⟨d0, hp, hl⟩ := turn_some hs k0 k3 e
    have hm : (only k (sm s), d.toNat) ∈ F := (h.2 _ _).mpr ⟨hp, fun j hj pj => by have := hl j pj; omega⟩
    rw [valF_mem h.1 hm]
    show some (V.int ((d.toNat : Nat) : Int)) = some (V.int d)
    rw [Int.toNat_of_nonneg d0]
theorem oV_non (o : Option Int) : decide (oV o = .non) = decide (o = none) := by
  cases o with
  | none => rfl
  | some d =>
    rw [show decide (oV (some d) = .non) = false from decide_eq_false (fun e => by cases e), decide_eq_false (fun e => by cases e)]
theorem says_some (d e : Int) : decide (V.int d = V.int e) = saysA (some d) (some e) := by
  show decide (V.int d = V.int e) = decide (some e = some d)
  rw [decide_eq_decide]
  constructor
  · intro h
    rw [V.int.inj h]
  · intro h
    rw [Option.some.inj h]
theorem oth_list {s : T3} {k : Int} (k0 : 0 ≤ k) (k3 : k < 3) : ((([0, 1, 2] : List Int).filter fun o => decide (o ≠ k)).map fun o => g3 s.1 s.2.1 s.2.2 o) = [(oth s k).1, (oth s k).2] := by
  rcases kinds3 k0 k3 with rfl | rfl | rfl <;> rfl
theorem eqv_two (x y : Int) : PyData.eqv (.list ([x, y].map PyData.int)) (.list (([0, 0] : List Int).map PyData.int)) = decide (x = 0 ∧ y = 0) := by
  rw [Bool.eq_iff_iff]
  simp [PyData.eqv, PyData.eqvAll]
theorem mx_of {x y m : Int} (h1 : m ∈ [x, y]) (h2 : ∀ z, z ∈ [x, y] → z ≤ m) : m = mx x y := by
  have a := h2 x (by simp)
  have b := h2 y (by simp)
  simp only [List.mem_cons, List.mem_nil_iff, or_false] at h1
  unfold mx
  split <;> omega
theorem steps_isSome {s : T3} (ha : ¬ Alone s) {k : Int} (k0 : 0 ≤ k) (k3 : k < 3) : (stepsT s k).isSome = decide (((oth s k).1 - (oth s k).2) % 3 = 0) := by
  have hz : ¬ ((oth s k).1 = 0 ∧ (oth s k).2 = 0) := fun z => ha (by
    unfold Alone
    rcases kinds3 k0 k3 with rfl | rfl | rfl
    · exact .inl z
    · exact .inr (.inl z)
    · exact .inr (.inr z))
  unfold stepsT
  rw [if_neg hz]
  by_cases h : ((oth s k).1 - (oth s k).2) % 3 = 0
  · rw [if_neg (fun q => q.elim ha fun q => q h), decide_eq_true h]
    rfl
  · rw [if_pos (.inr h), decide_eq_false h]
    rfl
theorem turn_alike {s : T3} {l h : Int} (hn : Nn s) (hM : Mt l h) (hc : cn s l h = true) (hb : ¬ Alone (mt3 s l h 2)) {k : Int} (k0 : 0 ≤ k) (k3 : k < 3) : (stepsT (mt3 s l h 2) k).isSome = (stepsT s k).isSome := by
  have ha : ¬ Alone s := fun y => no_move y hM hc
  obtain ⟨_, _, e1, e2, e3, _⟩ := turn_keeps hn (Path.snoc Path.nil hM hc)
  rw [steps_isSome ha k0 k3, steps_isSome hb k0 k3, decide_eq_decide]
  generalize mt3 s l h 2 = t at e1 e2 e3
  rcases kinds3 k0 k3 with rfl | rfl | rfl
  · show (t.2.1 - t.2.2) % 3 = 0 ↔ (s.2.1 - s.2.2) % 3 = 0
    omega
  · show (t.1 - t.2.2) % 3 = 0 ↔ (s.1 - s.2.2) % 3 = 0
    omega
  · show (t.1 - t.2.1) % 3 = 0 ↔ (s.1 - s.2.1) % 3 = 0
    omega
theorem turn_ok3 {s : T3} {l h : Int} (hM : Mt l h) (hc : cn s l h = true) (ho : Ok3 s.1 s.2.1 s.2.2) : Ok3 (mt3 s l h 2).1 (mt3 s l h 2).2.1 (mt3 s l h 2).2.2 := by
  have a0 := ho.a0
  have b0 := ho.b0
  have c0 := ho.c0
  rcases move (m := 2) hM hc with ⟨_, _, e⟩ | ⟨_, _, e⟩ | ⟨_, _, e⟩ <;> (rw [e]; exact ⟨by dsimp only; omega, by dsimp only; omega, by dsimp only; omega, by dsimp only; omega⟩)
theorem isSome_oV (o : Option Int) : (!decide (oV o = .non)) = o.isSome := by
  cases o with
  | none => rfl
  | some d => rw [show decide (oV (some d) = .non) = false from decide_eq_false (fun e => by cases e)]; rfl
/-- the class of an answer -/
theorem ans_isA {K : PySem.W.Frag} {CN CA CB : Addr} (c : AnsK K CN CA CB) {H : Hp} {a : Addr} {o : Option Int} (h : IsAns CA CB H a o) : ∃ t, TyX K H (.ref a) t ∧ PySem.W.kitOne K t (.ref CA) = some o.isSome := by
  cases o with
  | none =>
    obtain ⟨dx, fs, h1, _⟩ := h
    exact ⟨_, c.B.ty h1, c.ba⟩
  | some d =>
    obtain ⟨dx, fs, h1, _⟩ := h
    exact ⟨_, c.A.ty h1, c.aa⟩
theorem only_next {s : T3} {k : Int} {i : Nat} {j : Int} (h : ([0, 1, 2] : List Int)[i]? = some j) : ((([0, 1, 2] : List Int).take i).map fun o => if o = k then sm s else 0) ++ [if j = k then sm s else 0] = (([0, 1, 2] : List Int).take (i + 1)).map fun o => if o = k then sm s else 0 := map_take_next _ h
theorem only_list {k x : Int} (k0 : 0 ≤ k) (k3 : k < 3) : (([0, 1, 2] : List Int).map fun o => if o = k then x else 0).map V.int = tV (only k x) := by
  rcases kinds3 k0 k3 with rfl | rfl | rfl <;> rfl
/-- the steps by the search -/
theorem inDict {σ : L2.St} {H : Hp} {Q : VK} {i j : Nat} {d t : Addr} {s : T3} {k : Int} {F : List (T3 × Nat)} (hi : σ[i]? = some (some (.ref t))) (hj : σ[j]? = some (some (.ref d))) (hd : H d = some (.dT (kvF F))) (ht : H t = some (.tup (tV (only k (sm s)))))
    (h : Found 2 s F) (hs : Nn s) (k0 : 0 ≤ k) (k3 : k < 3) (q : Q (oV (stepsT s k)) H) : tIf (tB (tDIn (tVar i) (tVar j))) (tDGet (tVar j) (tVar i)) (tC .non) σ H Q := by
  have e := reach_steps h hs k0 k3
  refine ⟨_, hi, _, hj, d, _, rfl, DGet.t (k := keyT (only k (sm s))) hd ht, _, rfl, ?_⟩
  rw [e]
  cases hst : stepsT s k with
  | none =>
    rw [hst] at q
    exact iteF q
  | some c =>
    rw [hst] at q e
    refine iteT ⟨_, hj, _, hi, d, _, rfl, ?_, q⟩
    have z := DGet.t (k := keyT (only k (sm s))) hd ht
    rw [e] at z
    exact z
theorem scal_oV (o : Option Int) : scal (oV o) (oV o) = true := by
  cases o <;> rfl
/-- whether all can come to the kind, as paper tells -/
def canB (s : T3) (k : Int) : Bool := (stepsT s k).isSome
theorem canB_eq {s : T3} {k : Int} (hz : ¬ ((oth s k).1 = 0 ∧ (oth s k).2 = 0)) (ha : ¬ Alone s) : canB s k = decide (((oth s k).1 - (oth s k).2) % 3 = 0) := by
  unfold canB stepsT
  rw [if_neg hz]
  by_cases h : ((oth s k).1 - (oth s k).2) % 3 = 0
  · rw [if_neg (fun q => q.elim ha fun q => q h), decide_eq_true h]
    rfl
  · rw [if_pos (.inr h), decide_eq_false h]
    rfl
theorem canB_zero {s : T3} {k : Int} (hz : (oth s k).1 = 0 ∧ (oth s k).2 = 0) : canB s k = true := by
  unfold canB stepsT
  rw [if_pos hz]
  rfl
theorem canB_alone {s : T3} {k : Int} (hz : ¬ ((oth s k).1 = 0 ∧ (oth s k).2 = 0)) (ha : Alone s) : canB s k = false := by
  unfold canB stepsT
  rw [if_neg hz, if_pos (.inl ha)]
  rfl
theorem steps_eq {s : T3} {k n : Int} : decide (stepsT s k = some n) = (canB s k && decide (n = mx (oth s k).1 (oth s k).2)) := by
  unfold canB stepsT
  split
  · rename_i hz
    have e : mx (oth s k).1 (oth s k).2 = 0 := by
      unfold mx
      rw [hz.1, hz.2]
      rfl
    rw [e, Bool.eq_iff_iff]
    simp
    exact ⟨fun h => h.symm, fun h => h.symm⟩
  · split
    · simp
    · rw [Bool.eq_iff_iff]
      simp
      exact ⟨fun h => h.symm, fun h => h.symm⟩
theorem steps_none {s : T3} {k : Int} : decide (stepsT s k = none) = !canB s k := by
  unfold canB
  cases stepsT s k <;> rfl
/-- four tuples and a list of them, laid -/
theorem lit4 {H : Hp} {t0 t1 t2 t3 l : Addr} {x0 x1 x2 x3 : List V} (h0 : H t0 = none) (h1 : upd H t0 (.tup x0) t1 = none) (h2 : upd (upd H t0 (.tup x0)) t1 (.tup x1) t2 = none) (h3 : upd (upd (upd H t0 (.tup x0)) t1 (.tup x1)) t2 (.tup x2) t3 = none)
    (hl : upd (upd (upd (upd H t0 (.tup x0)) t1 (.tup x1)) t2 (.tup x2)) t3 (.tup x3) l = none) :
    ∃ Hm, upd (upd (upd (upd (upd H t0 (.tup x0)) t1 (.tup x1)) t2 (.tup x2)) t3 (.tup x3)) l (.lst [.ref t0, .ref t1, .ref t2, .ref t3]) = Hm ∧ Same H Hm ∧ Hm t0 = some (.tup x0) ∧ Hm t1 = some (.tup x1) ∧ Hm t2 = some (.tup x2) ∧ Hm t3 = some (.tup x3) ∧ Hm l = some (.lst [.ref t0, .ref t1, .ref t2, .ref t3]) := by
  have s0 : Same H (upd H t0 (.tup x0)) := same_upd h0
  have s1 : Same (upd H t0 (.tup x0)) (upd (upd H t0 (.tup x0)) t1 (.tup x1)) := same_upd h1
  have s2 : Same (upd (upd H t0 (.tup x0)) t1 (.tup x1)) (upd (upd (upd H t0 (.tup x0)) t1 (.tup x1)) t2 (.tup x2)) := same_upd h2
  have s3 : Same (upd (upd (upd H t0 (.tup x0)) t1 (.tup x1)) t2 (.tup x2)) (upd (upd (upd (upd H t0 (.tup x0)) t1 (.tup x1)) t2 (.tup x2)) t3 (.tup x3)) := same_upd h3
  have s4 : Same (upd (upd (upd (upd H t0 (.tup x0)) t1 (.tup x1)) t2 (.tup x2)) t3 (.tup x3)) (upd (upd (upd (upd (upd H t0 (.tup x0)) t1 (.tup x1)) t2 (.tup x2)) t3 (.tup x3)) l (.lst [.ref t0, .ref t1, .ref t2, .ref t3])) := same_upd hl
  exact ⟨_, rfl, s0.trans (s1.trans (s2.trans (s3.trans s4))), s4 _ _ (s3 _ _ (s2 _ _ (s1 _ _ upd_same))), s4 _ _ (s3 _ _ (s2 _ _ upd_same)), s4 _ _ (s3 _ _ upd_same), s4 _ _ upd_same, upd_same⟩
/-! ### whole numbers only -/
def iEi (w1 w2 : TI) : TI := fun σ H R => w1 σ H R ∨ w2 σ H R
theorem pi_ei {X : Cx} {tg l : Expr} {w1 w2 : TI} (h1 : PI X tg l w1) (h2 : PI X tg l w2) : PI X tg l (iEi w1 w2) :=
  ⟨fun pins s σ H R I h => h.elim (fun z => h1.run pins s σ H R I z) (fun z => h2.run pins s σ H R I z)⟩
def Pl (K : PySem.W.Frag) : Nat → Hp → V → Prop
  | 0, _, _ => False
  | n + 1, H, x => x = .non ∨ (∃ i, x = .int i) ∨ ∃ (a : Addr) (xs : List V), x = .ref a ∧ (SqL K H a xs ∨ SqT K H a xs) ∧ xs.length < sizeLine ∧ ∀ y ∈ xs, Pl K n H y
theorem Pl.same {K : PySem.W.Frag} {H H' : Hp} (s : Same H H') : ∀ {n : Nat} {x : V}, Pl K n H x → Pl K n H' x
  | 0, _, h => h
  | n + 1, _, h => by
    rcases h with h | h | ⟨a, xs, e, hs, hl, ha⟩
    · exact .inl h
    · exact .inr (.inl h)
    · exact .inr (.inr ⟨a, xs, e, hs.imp (fun z => s.seq z) (fun z => tup_same s z), hl, fun y hy => Pl.same s (ha y hy)⟩)
theorem ty_listL {K : PySem.W.Frag} {H : Hp} {a : Addr} {xs : List V} (h : SqL K H a xs) : TyX K H (.ref a) (.type "list") := by
  rcases h with (h | ⟨o, h⟩) | ⟨o, _, _, h1, h2, _⟩
  · exact .base (.lst h)
  · exact .base (.frz h)
  · exact .kList h1 h2
theorem Pl.int {K : PySem.W.Frag} {H : Hp} {n : Nat} {i : Int} : Pl K (n + 1) H (.int i) := .inr (.inl ⟨i, rfl⟩)
theorem Pl.non {K : PySem.W.Frag} {H : Hp} {n : Nat} : Pl K (n + 1) H .non := .inl rfl
theorem Pl.ints {K : PySem.W.Frag} {H : Hp} {n : Nat} {ns : List Int} : ∀ y ∈ ns.map V.int, Pl K (n + 1) H y := fun y hy => by
  obtain ⟨z, _, rfl⟩ := List.mem_map.mp hy
  exact Pl.int
theorem Pl.listI {K : PySem.W.Frag} {H : Hp} {n : Nat} {a : Addr} {ns : List Int} (h : SqL K H a (ns.map V.int)) (hl : ns.length < sizeLine) : Pl K (n + 2) H (.ref a) := .inr (.inr ⟨a, _, rfl, .inl h, by rw [List.length_map]; exact hl, Pl.ints⟩)
theorem Pl.tupI {K : PySem.W.Frag} {H : Hp} {n : Nat} {a : Addr} {ns : List Int} (h : SqT K H a (ns.map V.int)) (hl : ns.length < sizeLine) : Pl K (n + 2) H (.ref a) := .inr (.inr ⟨a, _, rfl, .inr h, by rw [List.length_map]; exact hl, Pl.ints⟩)
theorem Paired.mem {α β : Type} {R : α → β → Prop} : ∀ {xs : List α} {ys : List β} {x : α}, Paired R xs ys → x ∈ xs → ∃ y, R x y
  | _, _, _, .nil, h => by cases h
  | _, _, _, .cons r t, h => by
    rcases List.mem_cons.mp h with rfl | h
    · exact ⟨_, r⟩
    · exact Paired.mem t h
theorem PairsT.pl {K : PySem.W.Frag} {H : Hp} {n : Nat} {L : Addr} {ms : List (Int × Int)} (h : PairsT K H L ms) (hl : ms.length < sizeLine) : Pl K (n + 3) H (.ref L) := by
  obtain ⟨rs, h1, h2⟩ := h
  refine .inr (.inr ⟨L, _, rfl, .inl (.inl (.inl h1)), by rw [List.length_map, PySem.Paired.length h2]; exact hl, fun y hy => ?_⟩)
  obtain ⟨r, hr, rfl⟩ := List.mem_map.mp hy
  obtain ⟨p, hp⟩ := Paired.mem h2 hr
  exact Pl.tupI (ns := [p.1, p.2]) hp (by show 2 < sizeLine; decide)
theorem PairsAt.pt {K : PySem.W.Frag} {H0 H : Hp} {L : Addr} {ms : List (Int × Int)} (h : PairsAt H0 H L ms) : PairsT K H L ms := by
  obtain ⟨rs, h1, h2⟩ := h
  exact ⟨rs, h1, Paired.mono2 (fun _ _ z => .inl (.inl z.2)) h2⟩
theorem cans_len {a b c : Int} : (cans a b c).length < sizeLine := Nat.lt_of_le_of_lt (List.length_filter_le _ _) (by decide)
/-- what is found so far: a list of one's own, of whole numbers within -/
def Fd (K : PySem.W.Frag) (H H' : Hp) (L : Addr) (n : Nat) : Prop := ∃ (H0 : Hp) (xs : List V), Same H H0 ∧ Same H0 H' ∧ H0 L = none ∧ H' L = some (.lst xs) ∧ xs.length ≤ n ∧ ∀ x ∈ xs, Pl K 3 H0 x
theorem Fd.same {K : PySem.W.Frag} {H H' H'' : Hp} {L : Addr} {n : Nat} (h : Fd K H H' L n) (s : Same H' H'') : Fd K H H'' L n := by
  obtain ⟨H0, xs, a, b, c, d, e⟩ := h
  exact ⟨H0, xs, a, b.trans s, c, s _ _ d, e⟩
theorem Fd.le {K : PySem.W.Frag} {H H' : Hp} {L : Addr} {m n : Nat} (h : Fd K H H' L m) (l : m ≤ n) : Fd K H H' L n := by
  obtain ⟨H0, xs, a, b, c, d, e, f⟩ := h
  exact ⟨H0, xs, a, b, c, d, Nat.le_trans e l, f⟩
theorem Fd.sames {K : PySem.W.Frag} {H H' : Hp} {L : Addr} {n : Nat} (h : Fd K H H' L n) : Same H H' := by
  obtain ⟨H0, xs, a, b, _⟩ := h
  exact a.trans b
/-- another list behind it -/
theorem Fd.cat {K : PySem.W.Frag} {H H' : Hp} {L b : Addr} {n m : Nat} {zs : List V} (h : Fd K H H' L n) (hb : H' b = some (.lst zs)) (hl : zs.length ≤ m) (hp : ∀ z ∈ zs, Pl K 3 H' z) :
    ∃ xs, H' L = some (.lst xs) ∧ xs.length ≤ n ∧ ∀ p, H' p = none → Fd K H (L2.upd H' p (.lst (xs ++ zs))) p (n + m) := by
  obtain ⟨H0, xs, a, s, c, d, e, f⟩ := h
  refine ⟨xs, d, e, fun p hn => ⟨H', xs ++ zs, a.trans s, same_upd hn, hn, upd_same, by rw [List.length_append]; omega, fun x hx => ?_⟩⟩
  rcases List.mem_append.mp hx with z | z
  · exact Pl.same s (f x z)
  · exact hp x z
theorem Fd.app {K : PySem.W.Frag} {H H' : Hp} {L : Addr} {n : Nat} {i : Int} (h : Fd K H H' L n) : ∃ xs, H' L = some (.lst xs) ∧ xs.length ≤ n ∧ Fd K H (L2.upd H' L (.lst (xs ++ [.int i]))) L (n + 1) := by
  obtain ⟨H0, xs, a, s, c, d, e, f⟩ := h
  refine ⟨xs, d, e, H0, xs ++ [.int i], a, same_new s c, c, upd_same, by rw [List.length_append]; show xs.length + 1 ≤ n + 1; omega, fun x hx => ?_⟩
  rcases List.mem_append.mp hx with z | z
  · exact f x z
  · obtain rfl := List.mem_singleton.mp z
    exact Pl.int
theorem Fd.pl {K : PySem.W.Frag} {H H' : Hp} {L : Addr} {n : Nat} (h : Fd K H H' L n) (hn : n < sizeLine) : Pl K 4 H' (.ref L) := by
  obtain ⟨H0, xs, a, s, c, d, e, f⟩ := h
  exact .inr (.inr ⟨L, xs, rfl, .inl (.inl (.inl d)), Nat.lt_of_le_of_lt e hn, fun y hy => Pl.same s (f y hy)⟩)
/-- the heap but for a list -/
def er (H : Hp) (D : Addr) : Hp := fun a => if a = D then none else H a
theorem er_ne {H : Hp} {D a : Addr} (h : a ≠ D) : er H D a = H a := if_neg h
theorem er_same {H H' : Hp} {D : Addr} (s : Same H H') : Same (er H D) (er H' D) := by
  intro a o h
  by_cases e : a = D
  · rw [e] at h
    unfold er at h
    rw [if_pos rfl] at h
    cases h
  · rw [er_ne e] at h ⊢
    exact s _ _ h
theorem er_upd {H : Hp} {D : Addr} {o : HO} : er (L2.upd H D o) D = er H D := by
  funext a
  by_cases e : a = D
  · unfold er
    rw [if_pos e, if_pos e]
  · rw [er_ne e, er_ne e, upd_ne e]
theorem er_le {H : Hp} {D : Addr} : Same (er H D) H := by
  intro a o h
  by_cases e : a = D
  · rw [e] at h
    unfold er at h
    rw [if_pos rfl] at h
    cases h
  · rw [er_ne e] at h
    exact h
theorem er_sqT {K : PySem.W.Frag} {H : Hp} {D p : Addr} {xs ys : List V} (h : SqT K H p xs) (hD : H D = some (.lst ys)) : SqT K (er H D) p xs := by
  rcases h with (h | ⟨ob, h⟩) | h
  · refine .inl (.inl ?_)
    rw [er_ne (fun e => by rw [e, hD] at h; cases h)]
    exact h
  · refine .inl (.inr ⟨ob, ?_⟩)
    rw [er_ne (fun e => by rw [e, hD] at h; cases h)]
    exact h
  · exact .inr h
theorem PairsT.er {K : PySem.W.Frag} {H : Hp} {D L : Addr} {ys : List V} {ms : List (Int × Int)} (h : PairsT K H L ms) (hD : H D = some (.lst ys)) (n : L ≠ D) : PairsT K (Km.er H D) L ms := by
  obtain ⟨rs, h1, h2⟩ := h
  exact ⟨rs, by rw [er_ne n]; exact h1, Paired.mono2 (fun _ _ z => er_sqT z hD) h2⟩
/-- a comprehension's list so far -/
def Fc (K : PySem.W.Frag) (H' : Hp) (D : Addr) (n : Nat) : Prop := ∃ ys : List V, H' D = some (.lst ys) ∧ ys.length = n ∧ ∀ y ∈ ys, Pl K 3 (er H' D) y
theorem Fc.app {K : PySem.W.Frag} {H H' : Hp} {D : Addr} {n : Nat} {y : V} (h : Fc K H D n) (s : Same H H') (hy : Pl K 3 (er H' D) y) : ∃ ys, H' D = some (.lst ys) ∧ ys.length = n ∧ Fc K (L2.upd H' D (.lst (ys ++ [y]))) D (n + 1) := by
  obtain ⟨ys, h1, h2, h3⟩ := h
  refine ⟨ys, s _ _ h1, h2, ys ++ [y], upd_same, by rw [List.length_append, h2]; rfl, fun z hz => ?_⟩
  rw [er_upd]
  rcases List.mem_append.mp hz with q | q
  · exact Pl.same (er_same s) (h3 z q)
  · obtain rfl := List.mem_singleton.mp q
    exact hy
theorem tk110 {tk : T3 → Int → List (Int × Int)} (h : TkOk tk) : tk (1, 1, 0) 2 = [(0, 1)] := by
  obtain ⟨g, _, e⟩ := h (1, 1, 0) 2 1 ⟨by decide, by decide, by decide, by decide⟩ (by decide) (by decide) (by decide) (by unfold stepsT oth Alone mx; decide)
  generalize tk (1, 1, 0) 2 = ms at g e
  cases ms with
  | nil => simp at e
  | cons y r =>
    cases r with
    | cons _ _ =>
      simp only [List.length_cons] at e
      omega
    | nil =>
      obtain ⟨hM, hc⟩ := g 0 y rfl
      have hc : cn (1, 1, 0) y.1 y.2 = true := hc
      obtain ⟨l, h⟩ := y
      rcases hM with ⟨h1, h2⟩ | ⟨h1, h2⟩ | ⟨h1, h2⟩
      · obtain rfl : l = 0 := h1
        obtain rfl : h = 1 := h2
        rfl
      · obtain rfl : l = 0 := h1
        obtain rfl : h = 2 := h2
        exact absurd hc (by decide)
      · obtain rfl : l = 1 := h1
        obtain rfl : h = 2 := h2
        exact absurd hc (by decide)
end Km

set_option Elab.async false
set_option linter.all false
set_option maxRecDepth 100000
set_option maxHeartbeats 4000000
/-! KmSort: sorted of a tuple of numbers -/
namespace Km
open PySem PySem.Spec PyProof.Rows L2
section
variable {prog : Program} {w : World} {A : Around} {E : Value → Shared → Prop} {s : Shared}
theorem collect_tup {l : Addr} {vs : List Value} {Q : List Value → Shared → Prop} (hl : IsTup s.heap l vs.toArray)
    (h : Q vs { s with heap := (s.heap.push (seqObj "list" #[] 0)).update s.heap.objs.size (Obj.mapSeq (· ++ vs.toArray)) }) (hsz : vs.length ≤ sizeLine) :
    wpAny (model prog w) A (collect (.ref l)) Q E s := by
  obtain ⟨o, ho, hc, n, hd⟩ := id hl
  unfold collect
  refine wpAny_bind (wpAny_runValue (codeAny_builtin entry_proto_collect' ?_))
  show wpAny _ _ (do again (.builtin "list.__iadd__" ⟨[← newList [], .ref l], []⟩)) _ _ s
  refine wpAny_bind (wpAny_newList (wpAny_pure ⟨Code.quiet_builtin _ (by decide +kernel), codeAny_builtin entry_list_iadd' ?_⟩))
  show wpAny _ _ (Builtin.List.listExtendWith (.ref s.heap.objs.size) (.ref l) (.ref s.heap.objs.size)) _ _ { s with heap := s.heap.push (seqObj "list" #[] 0) }
  unfold Builtin.List.listExtendWith
  have ho' : (s.heap.push (seqObj "list" #[] 0)).get? l = some o := Heap.get?_push_of_some _ ho
  refine wpAny_bind (wpAny_typeOf (T := "tuple") ⟨o, ho', hc⟩ ?_)
  have ht : (Value.type "tuple" == Value.type "tuple") = true := by rfl
  rw [if_pos (by rw [ht]; simp)]
  refine wpAny_bind (listItems_at ho' hd ?_)
  refine wpAny_bind (listItems_at (xs := #[]) (n := 0) (Heap.get?_push_size _ rfl) rfl ?_)
  rw [if_neg (by simp)]
  refine wpAny_bind (listUpdate_at (xs := #[]) (n := 0) (Heap.get?_push_size _ rfl) rfl ?_ (Nat.zero_le _) (by show (#[] ++ vs.toArray).size ≤ sizeLine + 1; simp only [Array.size_append, List.size_toArray, List.length_nil]; omega))
  refine wpAny_pure ?_
  refine wpAny_bind (wpAny_load (get?_update_seq (Heap.get?_push_size _ rfl) _) ?_)
  show wpAny _ _ (pure ((#[] : Array Value) ++ vs.toArray).toList) Q E _
  rw [show ((#[] : Array Value) ++ vs.toArray).toList = vs by simp]
  exact wpAny_pure h
theorem sorted_tup {l : Addr} {vs : List Value} {ns : List Int} {Q : Value → Shared → Prop} (hl : IsTup s.heap l vs.toArray) (hI : IntsAre vs ns) (h64 : vs.length < 64)
    (h : ∀ (out : Array Value) (ns' : List Int), IntsAre out.toList ns' → ns'.Perm ns → ns'.Pairwise (· ≤ ·) → Q (.ref (s.heap.objs.size + 1)) { s with heap := sortedAll s.heap vs out }) :
    wpAny (model prog w) A (call (.builtin "sorted") [.ref l]) Q E s := by
  refine Calls.call_function_entry kind_sorted plain_sorted entry_sorted (args_sorted1 _) ?_
  unfold Builtin.«sorted»
  refine wpAny_bind (m := checkCount "sorted" 1 1 _) (wpAny_pure ?_)
  refine wpAny_bind (collect_tup hl ?_ (Nat.le_of_lt (Nat.lt_of_lt_of_le h64 (by decide))))
  refine wpAny_bind (wpAny_newList ?_)
  have hsz : ((s.heap.push (seqObj "list" #[] 0)).update s.heap.objs.size (Obj.mapSeq (· ++ vs.toArray))).objs.size = s.heap.objs.size + 1 := by
    rw [Heap.size_update, size_push']
  have hoL : (((s.heap.push (seqObj "list" #[] 0)).update s.heap.objs.size (Obj.mapSeq (· ++ vs.toArray))).push (seqObj "list" vs.toArray 0)).get? (s.heap.objs.size + 1) = some (seqObj "list" vs.toArray 0) := by
    rw [← hsz]; exact Heap.get?_push_size _ rfl
  show wpAny _ _ _ _ _ { s with heap := ((s.heap.push (seqObj "list" #[] 0)).update s.heap.objs.size (Obj.mapSeq (· ++ vs.toArray))).push (seqObj "list" vs.toArray 0) }
  rw [hsz]
  refine wpAny_bind (wpAny_holding (wpAny_call_entry slot_list_sort ⟨_, hoL, rfl⟩ entry_list_sort (list_sort_tree hoL hI h64 fun out ns' a1 a2 a3 => ⟨_, rfl, ?_⟩) (args_list_sort _)))
  exact wpAny_pure ⟨_, rfl, h out ns' a1 a2 a3⟩
end
section
variable {X : Cx}
def rSortedTp (K : PySem.W.Frag) : List V → Hp → VK → Prop := fun vs H Q => ∃ (a : Addr) (ns : List Int), vs = [V.ref a] ∧ SqT K H a (ns.map V.int) ∧ ns.length < 64 ∧
  ∀ (ns' : List Int) (p : Addr), ns'.Perm ns → ns'.Pairwise (· ≤ ·) → H p = none → Q (.ref p) (upd H p (.lst (ns'.map V.int)))
theorem cr_sortedTp : CallR X (.builtin "sorted") (rSortedTp X.K) := by
  intro pins s σ H vs us Q I r h
  obtain ⟨a, ns, rfl, hs, h64, q⟩ := h
  obtain ⟨its, rv, hl, _⟩ := I.tuple hs
  rw [Vals.ref1 r]
  have hi := rv.ints
  refine sorted_tup hl hi (by rw [hi.length]; exact h64) fun out ns' h1 h2 h3 => ?_
  obtain ⟨ep, he'⟩ := PyProof.Rows.sortedAll_at s.heap its out
  have hlen : (ns'.map V.int).length ≤ sizeLine := by rw [List.length_map, h2.length_eq]; exact small64 h64
  exact ⟨.ref _, upd H (s.heap.objs.size + 1) (.lst (ns'.map V.int)), I.laid (t' := s.toks) (fun _ _ => PyProof.Rows.sortedAll_old) (Nat.le_succ _) ⟨hlen, out.toList, ep, vals_of_ints h1, he'⟩, rfl, q ns' _ h2 h3 (I.hok.fresh (Nat.le_succ _))⟩
end
end Km

set_option Elab.async false
set_option linter.all false
set_option maxRecDepth 100000
set_option maxHeartbeats 4000000
/-! KmMin: min of a tuple of numbers; tuple(list) laid without a dict; the greater, the lesser of two -/
namespace Km
open PySem PySem.Spec PyProof.Rows L2
def rMinT (K : PySem.W.Frag) : List V → Hp → VK → Prop := fun vs H Q => ∃ (a : Addr) (ns : List Int), vs = [V.ref a] ∧ SqT K H a (ns.map V.int) ∧ 0 < ns.length ∧ ∀ m, m ∈ ns → (∀ y, y ∈ ns → m ≤ y) → Q (.int m) H
section
variable {prog : Program} {w : World} {A : Around} {E : Value → Shared → Prop} {s : Shared} {l : Addr} {xs : Array (Int × Tok)}
theorem min_tupG {Q : Value → Shared → Prop} (hh : A.handled = none) (hl : s.heap.IsTuple l (PySem.intItems xs)) (hne : 0 < xs.size)
    (h : ∀ v h' tk, (PySem.intItems xs)[PySem.argBest (fun i j => decide (PySem.numAt xs i < PySem.numAt xs j)) (xs.size - 1)]? = some v → (∀ b o, s.heap.get? b = some o → h'.get? b = some o) → Q v { s with heap := h', toks := tk }) :
    wpAny (model prog w) A (call (.builtin "min") [.ref l]) Q E s := by
  obtain ⟨o, ho, _⟩ := id hl
  have hlt : l < s.heap.objs.size := Heap.lt_size ho
  refine PySem.call_min_walk (wpAny_pyIter_tuple hl ?_)
  refine ⟨_, _, _, _, _, _, _, rfl, Walks.tuple (A := A.in1) hh _ l (Nat.ne_of_lt hlt) (PySem.intItems xs), ⟨⟨_, Heap.get?_push_size _ rfl, rfl, rfl⟩, hl.push _⟩, ?_, by simpa [PySem.intItems] using hne, PySem.CmpOf.ints_lt (PySem.numAt xs) (fun _ _ => PySem.intItems_at), fun v h' tk hP hk => ?_⟩
  · intro b hb
    show b < (s.heap.push _).objs.size
    rw [Heap.size_push]
    rcases List.mem_cons.mp hb with rfl | hb
    · exact Nat.lt_succ_self _
    · rcases List.mem_cons.mp hb with rfl | hb
      · exact Nat.lt_succ_of_lt hlt
      · cases hb
  · refine h v h' tk (by simpa [PySem.intItems] using hP) fun b o e => hk b o ?_ (Heap.get?_push_of_some _ e)
    exact fun hb => absurd (Heap.lt_size e) ((List.mem_singleton.mp hb) ▸ Nat.lt_irrefl _)
end
section
variable {X : Cx}
theorem cr_minT (hc : X.calm = true) : CallR X (.builtin "min") (rMinT X.K) := by
  intro pins s σ H vs us Q I r h
  obtain ⟨a, ns, rfl, hs, hne, q⟩ := h
  obtain ⟨its, rv, hl, _⟩ := I.tuple hs
  rw [Vals.ref1 r]
  have hi := rv.ints
  obtain ⟨xs, e⟩ := hi.allInts.items
  have hn : PySem.numsOf (PySem.intItems xs).toList = ns := by rw [← e]; exact hi.numsOf
  rw [PySem.nums_intItems] at hn
  subst hn
  rw [e] at hl
  have hsz : 0 < xs.size := by simpa using hne
  refine min_tupG (I.ok.hd hc) hl hsz fun v h' tk hv hk => ?_
  obtain ⟨t, rfl⟩ := PySem.intItems_at hv
  obtain ⟨h1, h2⟩ := PySem.argBest_lt (PySem.numAt xs) (xs.size - 1)
  refine ⟨.int _, H, I.kept hk, ⟨_, rfl⟩, q _ ?_ fun a ha => ?_⟩
  · rw [PySem.numAt_eq]; exact PySem.getD_mem (by rw [List.length_map, Array.length_toList]; omega)
  · obtain ⟨j, hj, rfl⟩ := PySem.mem_getD ha
    rw [List.length_map, Array.length_toList] at hj
    rw [← PySem.numAt_eq]; exact h2 j (by omega)
/-- tuple(list), laid without a dict -/
def rTupF (K : PySem.W.Frag) : List V → Hp → VK → Prop := fun xs H Q => ∃ p ys, xs = [V.ref p] ∧ SqL K H p ys ∧ ∀ (o : Obj) (l : Addr), o.dict = none → H l = none → Q (.ref l) (upd H l (.frz o (.tup ys)))
theorem call_tuple_ofF : CallR X (.type "tuple") (rTupF X.K) := by
  intro pins s σ H xs us Q I r h
  obtain ⟨p, ys, rfl, hq, q⟩ := h
  obtain ⟨u, rfl, rx⟩ := vals1 r
  cases rx
  obtain ⟨its, r', pl, hz⟩ := I.list hq
  have hlen := r'.length
  refine call_tuple_list pl.isList (fun h' kp => ?_) (by simp only [List.size_toArray] <;> omega)
  have I1 : Inv X pins σ H { s with heap := h' } := I.kept (t' := s.toks) kp
  refine ⟨.ref h'.objs.size, upd H h'.objs.size (.frz ({ cls := .type "tuple", data := .seq its.toArray } : Obj) (.tup ys)), I1.laid (t' := s.toks) (fun b o e => Heap.get?_push_of_some _ e) (Nat.le_refl _) ?_, rfl, q _ _ rfl (I1.hok.fresh (Nat.le_refl _))⟩
  exact ⟨Heap.get?_push_size _ rfl, hz, its, r', IsTup.new _ _⟩
end
end Km

set_option Elab.async false
set_option linter.all false
set_option maxRecDepth 100000
set_option maxHeartbeats 4000000
/-! KmFew: the meeting of the two kinds of which there are the most; a list of told meetings that grows -/
namespace Km
open PySem PySem.Spec PyProof.Rows L2
theorem last_par {s : T3} (ha : ¬ Alone s) {k : Int} (k0 : 0 ≤ k) (k3 : k < 3) : decide (V.int (([s.1, s.2.1, s.2.2].sum - g3 s.1 s.2.1 s.2.2 k) % 2) = V.int 0) = lastB s k := by
  unfold lastB
  rw [if_neg ha]
  have e : (decide (V.int (([s.1, s.2.1, s.2.2].sum - g3 s.1 s.2.1 s.2.2 k) % 2) = V.int 0)) = decide (([s.1, s.2.1, s.2.2].sum - g3 s.1 s.2.1 s.2.2 k) % 2 = 0) := by
    rw [decide_eq_decide]
    exact ⟨fun z => V.int.inj z, fun z => by rw [z]⟩
  rw [e, sum3_list]
  unfold sm g3
  rcases kinds3 k0 k3 with rfl | rfl | rfl
  · rw [if_pos rfl, if_pos rfl, decide_eq_decide]; omega
  · rw [if_neg (by decide), if_pos rfl, if_neg (by decide), if_pos rfl, decide_eq_decide]; omega
  · rw [if_neg (by decide), if_neg (by decide), if_neg (by decide), if_neg (by decide), decide_eq_decide]; omega
theorem few_one {s : T3} (ha : ¬ Alone s) : fewest s = if (((lastL s).length : Nat) : Int) = 1 then 1 else 2 := by
  rw [few_due ha]
  unfold lastL
  have e : ∀ k, lastB s k = if k = 0 then decide ((s.2.1 - s.2.2) % 2 = 0) else if k = 1 then decide ((s.1 - s.2.2) % 2 = 0) else decide ((s.1 - s.2.1) % 2 = 0) := fun k => by
    unfold lastB
    rw [if_neg ha]
  have e0 : lastB s 0 = decide ((s.2.1 - s.2.2) % 2 = 0) := by rw [e, if_pos rfl]
  have e1 : lastB s 1 = decide ((s.1 - s.2.2) % 2 = 0) := by rw [e, if_neg (by decide), if_pos rfl]
  have e2 : lastB s 2 = decide ((s.1 - s.2.1) % 2 = 0) := by rw [e, if_neg (by decide), if_neg (by decide)]
  by_cases h0 : (s.2.1 - s.2.2) % 2 = 0 <;> by_cases h1 : (s.1 - s.2.2) % 2 = 0 <;> by_cases h2 : (s.1 - s.2.1) % 2 = 0 <;> simp [List.filter_cons, e0, e1, e2, h0, h1, h2] <;> omega
theorem no_cans {s : T3} (hn : Nn s) {H0 H : Hp} {rs : List Addr} (hp : Paired (fun r (p : Int × Int) => H0 r = none ∧ H r = some (.tup [.int p.1, .int p.2])) rs (cans s.1 s.2.1 s.2.2)) : (!(!(rs.map V.ref).isEmpty)) = decide (Alone s) := by
  have hl := Paired.length hp
  rw [Bool.not_not, Bool.eq_iff_iff, List.isEmpty_iff_length_eq_zero, List.length_map, decide_eq_true_iff, hl, List.length_eq_zero_iff]
  exact cans_nil hn
theorem kind_turn {i : Nat} (hi : i < 3) : ∃ kk : Int, (0 : Int) + (i : Int) = kk ∧ ([0, 1, 2] : List Int)[i]? = some kk ∧ 0 ≤ kk ∧ kk < 3 := by
  match i, hi with
  | 0, _ => exact ⟨0, rfl, rfl, by decide, by decide⟩
  | 1, _ => exact ⟨1, rfl, rfl, by decide, by decide⟩
  | 2, _ => exact ⟨2, rfl, rfl, by decide, by decide⟩
def least3 (s : T3) : Int := if s.1 ≤ s.2.1 ∧ s.1 ≤ s.2.2 then 0 else if s.2.1 ≤ s.2.2 then 1 else 2
def most (s : T3) : Int × Int := if least3 s = 0 then (1, 2) else if least3 s = 1 then (0, 2) else (0, 1)
theorem least_idx {s : T3} {m : Int} (h1 : m ∈ [s.1, s.2.1, s.2.2]) (h2 : ∀ y, y ∈ [s.1, s.2.1, s.2.2] → m ≤ y) : (([s.1, s.2.1, s.2.2].idxOf m : Nat) : Int) = least3 s := by
  have a := h2 s.1 (by simp)
  have b := h2 s.2.1 (by simp)
  have c := h2 s.2.2 (by simp)
  simp only [List.mem_cons, List.mem_nil_iff, or_false] at h1
  unfold least3
  by_cases e1 : s.1 = m
  · have : [s.1, s.2.1, s.2.2].idxOf m = 0 := by rw [List.idxOf_cons]; simp [e1]
    rw [this, if_pos (by omega)]
    rfl
  · by_cases e2 : s.2.1 = m
    · have : [s.1, s.2.1, s.2.2].idxOf m = 1 := by
        have b1 : (s.1 == m) = false := by simpa using e1
        rw [List.idxOf_cons, List.idxOf_cons, b1]; simp [e2]
      rw [this, if_neg (by omega), if_pos (by omega)]
      rfl
    · have e3 : s.2.2 = m := by omega
      have : [s.1, s.2.1, s.2.2].idxOf m = 2 := by
        have b1 : (s.1 == m) = false := by simpa using e1
        have b2 : (s.2.1 == m) = false := by simpa using e2
        rw [List.idxOf_cons, List.idxOf_cons, List.idxOf_cons, b1, b2]; simp [e3]
      rw [this, if_neg (by omega), if_neg (by omega)]
      rfl
theorem most_list (s : T3) : (([0, 1, 2] : List Int).filter fun k => decide (k ≠ least3 s)) = [(most s).1, (most s).2] := by
  unfold most least3
  split
  · rfl
  · split <;> rfl
theorem mt12 (s : T3) (m : Int) : mt3 s 1 2 m = (s.1 + m, s.2.1 - 1, s.2.2 - 1) := by unfold mt3 mk; simp
theorem mt02 (s : T3) (m : Int) : mt3 s 0 2 m = (s.1 - 1, s.2.1 + m, s.2.2 - 1) := by unfold mt3 mk; simp
theorem mt01 (s : T3) (m : Int) : mt3 s 0 1 m = (s.1 - 1, s.2.1 - 1, s.2.2 + m) := by unfold mt3 mk; simp
theorem most_step {s : T3} (hn : Nn s) (ha : ¬ Alone s) : Mt (most s).1 (most s).2 ∧ cn s (most s).1 (most s).2 = true ∧ fewest (mt3 s (most s).1 (most s).2 1) = fewest s := by
  have q2 : fewest s = if (s.1 - s.2.1) % 2 = 0 ∧ (s.2.1 - s.2.2) % 2 = 0 then 2 else 1 := by
    unfold fewest
    rw [if_neg ha]
  have fin : ∀ l h : Int, Mt l h → cn s l h = true → (Alone (mt3 s l h 1) → sm (mt3 s l h 1) = fewest s) → fewest (mt3 s l h 1) = fewest s := fun l h hM hc q => by
    by_cases hb : Alone (mt3 s l h 1)
    · rw [← q hb]
      unfold fewest
      rw [if_pos hb]
    · exact (join_same hM hc ha hb).2
  unfold Nn at hn
  have ha' := ha
  unfold Alone at ha'
  by_cases e0 : s.1 ≤ s.2.1 ∧ s.1 ≤ s.2.2
  · have em : most s = (1, 2) := by unfold most least3; rw [if_pos e0, if_pos rfl]
    rw [em]
    have hc : cn s 1 2 = true := cn12 (by omega) (by omega)
    refine ⟨M12, hc, fin 1 2 M12 hc fun hb => ?_⟩
    rw [mt12] at hb ⊢
    rw [q2]
    unfold Alone at hb
    unfold sm
    dsimp only at hb ⊢
    split <;> omega
  · by_cases e1 : s.2.1 ≤ s.2.2
    · have em : most s = (0, 2) := by unfold most least3; rw [if_neg e0, if_pos e1, if_neg (by decide), if_pos rfl]
      rw [em]
      have hc : cn s 0 2 = true := cn02 (by omega) (by omega)
      refine ⟨M02, hc, fin 0 2 M02 hc fun hb => ?_⟩
      rw [mt02] at hb ⊢
      rw [q2]
      unfold Alone at hb
      unfold sm
      dsimp only at hb ⊢
      split <;> omega
    · have em : most s = (0, 1) := by unfold most least3; rw [if_neg e0, if_neg e1, if_neg (by decide), if_neg (by decide)]
      rw [em]
      have hc : cn s 0 1 = true := cn01 (by omega) (by omega)
      refine ⟨M01, hc, fin 0 1 M01 hc fun hb => ?_⟩
      rw [mt01] at hb ⊢
      rw [q2]
      unfold Alone at hb
      unfold sm
      dsimp only at hb ⊢
      split <;> omega
theorem PairsAt.app {H0 H : Hp} {L u : Addr} {ps : List (Int × Int)} {l h : Int} (P : PairsAt H0 H L ps) (n0 : H0 u = none) (hu : H u = some (.tup [.int l, .int h])) :
    ∃ acc : List V, H L = some (.lst acc) ∧ acc.length = ps.length ∧ PairsAt H0 (L2.upd H L (.lst (acc ++ [.ref u]))) L (ps ++ [(l, h)]) := by
  obtain ⟨rs, hL, hp⟩ := P
  refine ⟨rs.map V.ref, hL, by rw [List.length_map]; exact Paired.length hp, rs ++ [u], by rw [upd_same, List.map_append]; rfl, ?_⟩
  have n : ∀ (r : Addr) (xs : List V), H r = some (.tup xs) → r ≠ L := fun r xs z => ne_of z hL (fun e => by cases e)
  refine Paired.snoc ⟨n0, by rw [upd_ne (n u _ hu)]; exact hu⟩ (Paired.mono2 (fun r q z => ⟨z.1, ?_⟩) hp)
  rw [upd_ne (n r _ z.2)]
  exact z.2
theorem TupF.upd {H : Hp} {p L : Addr} {xs ys : List V} {o : HO} (h : TupF H p xs) (hL : H L = some (.lst ys)) : TupF (L2.upd H L o) p xs := by
  obtain ⟨ob, h1, h2⟩ := h
  exact ⟨ob, h1, by rw [upd_ne (ne_of h2 hL (fun e => by cases e))]; exact h2⟩
end Km

set_option Elab.async false
set_option linter.all false
set_option maxRecDepth 100000
set_option maxHeartbeats 4000000
/-! KmMake: C() of a class without __init__; what is asked of the classes at the head -/
namespace Km
open PySem PySem.Spec PyProof.Rows L2
structure Mk0 (K : PySem.W.Frag) (C : Addr) : Prop where
  makes : PySem.W.makesIn K C = true
  init : PySem.W.findIn K (.ref C) "__init__" = some (some (.builtin "object.__init__"))
  kp : PySem.W.keepIn K (.ref C) = true
def mk0B (K : PySem.W.Frag) (C : Addr) : Bool := PySem.W.makesIn K C && (He.eqO (PySem.W.findIn K (.ref C) "__init__") (some (some (.builtin "object.__init__"))) && PySem.W.keepIn K (.ref C))
theorem mk0B_ok {K : PySem.W.Frag} {C : Addr} (h : mk0B K C = true) : Mk0 K C := by
  obtain ⟨h1, h⟩ := He.ba h
  obtain ⟨h2, h3⟩ := He.ba h
  exact ⟨h1, He.eqO_ok h2, h3⟩
def tMk0 (C : Addr) : TE := fun _ H Q => ∀ x dx, H x = none → H dx = none → dx ≠ x → Q (.ref x) (upd (upd H dx (.own x)) x (.ins C dx []))
section
variable {X : Cx} {C : Addr} {x : Str} {p pos : Pos}
theorem run_make0 {pins : List (Addr × Obj)} {σ : L2.St} {H : Hp} {s : Shared} {Q : VK} (M : Mk0 X.K C) (I : Inv X pins σ H s)
    (h : ∀ x dx, H x = none → H dx = none → dx ≠ x → Q (.ref x) (upd (upd H dx (.own x)) x (.ins C dx []))) :
    wpAny (model X.prog X.w) X.A (call (.ref C) []) (EP X pins σ Q) X.xe s := by
  have hq := h (s.heap.objs.size + 1) s.heap.objs.size (I.hok.fresh (Nat.le_succ _)) (I.hok.fresh (Nat.le_refl _)) (Nat.ne_of_lt (Nat.lt_succ_self _))
  have I2 := Inv.made (C := C) I
  have Y := PySem.W.makes_of (M := model X.prog X.w) I.kIn M.makes
  have hx : ((s.heap.push PySem.W.emptyDict).push (PySem.W.instObj C s.heap.objs.size)).get? (s.heap.objs.size + 1) = some (PySem.W.instObj C s.heap.objs.size) := by
    have := Heap.get?_push_size (s.heap.push PySem.W.emptyDict) (o := PySem.W.instObj C s.heap.objs.size) rfl
    rwa [Heap.size_push] at this
  have t1 : PySem.W.Looks (model X.prog X.w) ((s.heap.push PySem.W.emptyDict).push (PySem.W.instObj C s.heap.objs.size)) (typeOf (.ref (s.heap.objs.size + 1))) (.ref C) := (PySem.W.Looks.ld hx).andThen .now
  have t2 : PySem.W.Looks (model X.prog X.w) ((s.heap.push PySem.W.emptyDict).push (PySem.W.instObj C s.heap.objs.size)) (isInstance (.ref (s.heap.objs.size + 1)) (.type "object")) true := t1.andThen (Y.top.keeps fun b o e => Heap.get?_push_of_some _ (Heap.get?_push_of_some _ e))
  refine wpAny_call (make_map0 I.kIn M.makes M.init (fun self => PySem.W.Looks.of_pure (PySem.W.oi_bind self)) ?_)
  refine codeAny_call_builtin PySem.W.oi_plain PySem.W.entry_oi (@PySem.W.check_slot (model X.prog X.w) _ _ _ "object.__init__" "object" "__init__" (.ref (s.heap.objs.size + 1)) [] [] _ PySem.W.oi_kind PySem.W.oi_split t2 (PySem.W.oi_args (.ref (s.heap.objs.size + 1))) ?_)
  rw [PySem.W.oi_run]
  exact wpAny_pure (And.intro rfl ⟨V.ref (s.heap.objs.size + 1), _, I2, rfl, hq⟩)
theorem pe_mk0 (M : Mk0 X.K C) (hg : Gl X x) (hm : X.mg x = some (.ref C)) (hdb : (x == ("__debug__" : Str)) = false := by decide) : PE X (.Call (.Name x p) [] [] pos) (tMk0 C) := by
  refine ⟨fun pins s σ H Q I h => ?_⟩
  refine wpAny_Call_Name_kw (ld_glob I hg hm ?_ hdb)
  exact PySem.W.callWith_K0 I.kIn M.kp (run_make0 M I h)
end
theorem Pe.imp {X : Cx} {e : Expr} {t t' : TE} (h : PE X e t) (k : ∀ σ H Q, t' σ H Q → t σ H Q) : PE X e t' := ⟨fun pins s σ H Q I q => h.run pins s σ H Q I (k _ _ _ q)⟩
end Km

set_option Elab.async false
set_option linter.all false
set_option maxRecDepth 100000
set_option maxHeartbeats 4000000
/-! KmTurn: how few turning meetings, as the program reckons it -/
namespace Km
open PySem PySem.Spec PyProof.Rows L2
def FtOk (s : T3) (k : Int) : Prop :=
    (g3 s.1 s.2.1 s.2.2 k = 0 → (if (oth s k).2 < (oth s k).1 then (oth s k).2 else (oth s k).1) = 0 → stepsT s k = none) ∧
    (¬ (g3 s.1 s.2.1 s.2.2 k = 0 ∧ (if (oth s k).2 < (oth s k).1 then (oth s k).2 else (oth s k).1) = 0) → ((oth s k).1 - (oth s k).2) % 3 ≠ 0 → stepsT s k = none) ∧
    (¬ (g3 s.1 s.2.1 s.2.2 k = 0 ∧ (if (oth s k).2 < (oth s k).1 then (oth s k).2 else (oth s k).1) = 0) → ((oth s k).1 - (oth s k).2) % 3 = 0 → stepsT s k = some (if (oth s k).2 > (oth s k).1 then (oth s k).2 else (oth s k).1))
theorem ft_key {s : T3} {k x y z : Int} (x0 : 0 ≤ x) (y0 : 0 ≤ y) (z0 : 0 ≤ z) (hp : 0 < x + y + z) (ha : Alone s ↔ (x = 0 ∧ y = 0) ∨ (z = 0 ∧ y = 0) ∨ (z = 0 ∧ x = 0)) (hg : g3 s.1 s.2.1 s.2.2 k = z) (ho : oth s k = (x, y)) : FtOk s k := by
  unfold FtOk stepsT
  rw [ho, hg]
  dsimp only
  refine ⟨fun h1 h2 => ?_, fun h1 h2 => ?_, fun h1 h2 => ?_⟩
  · have hz : x = 0 ∨ y = 0 := by
      split at h2 <;> omega
    rw [if_neg (by omega), if_pos (.inl (ha.mpr (by omega)))]
  · rw [if_neg (by omega), if_pos (.inr h2)]
  · by_cases e : x = 0 ∧ y = 0
    · rw [if_pos e, if_neg (by omega), e.1]
    · rw [if_neg e, if_neg ?_]
      · unfold mx
        congr 1
        split <;> split <;> omega
      · rintro (q | q)
        · have q := ha.mp q
          exact h1 ⟨by omega, by split <;> omega⟩
        · exact q h2
theorem ft_cases {s : T3} (hn : Nn s) (hp : 0 < sm s) {k : Int} (k0 : 0 ≤ k) (k3 : k < 3) : FtOk s k := by
  unfold Nn at hn
  unfold sm at hp
  rcases kinds3 k0 k3 with rfl | rfl | rfl
  · exact ft_key (x := s.2.1) (y := s.2.2) (z := s.1) hn.2.1 hn.2.2 hn.1 (by omega) (by unfold Alone; omega) rfl rfl
  · exact ft_key (x := s.1) (y := s.2.2) (z := s.2.1) hn.1 hn.2.2 hn.2.1 (by omega) (by unfold Alone; omega) rfl rfl
  · exact ft_key (x := s.1) (y := s.2.1) (z := s.2.2) hn.1 hn.2.1 hn.2.2 (by omega) (by unfold Alone; omega) rfl rfl
theorem scal_int_oV (d : Int) (o : Option Int) : scal (.int d) (oV o) = true := by cases o <;> rfl
theorem int_oV (d : Int) (o : Option Int) : decide (V.int d = oV o) = decide (o = some d) := by
  cases o with
  | none => rfl
  | some e =>
    show decide (V.int d = V.int e) = _
    rw [decide_eq_decide]
    constructor
    · intro h; rw [V.int.inj h]
    · intro h; rw [Option.some.inj h]
def loK (k : Int) : Int := if k = 0 then 1 else 0
def hiK (k : Int) : Int := if k = 2 then 1 else 2
def restK (s : T3) (k : Int) : Int := if 0 < g3 s.1 s.2.1 s.2.2 (loK k) then loK k else hiK k
/-- the first of the fewest meetings to the kind -/
def tw (s : T3) (k : Int) : Int × Int := if 0 < g3 s.1 s.2.1 s.2.2 (loK k) ∧ 0 < g3 s.1 s.2.1 s.2.2 (hiK k) then (loK k, hiK k) else (if k < restK s k then k else restK s k, if k > restK s k then k else restK s k)
theorem others_list {k : Int} (k0 : 0 ≤ k) (k3 : k < 3) : (([0, 1, 2] : List Int).filter fun o => decide (o ≠ k)) = [loK k, hiK k] := by
  rcases kinds3 k0 k3 with rfl | rfl | rfl <;> rfl
theorem loK_in {k : Int} (k0 : 0 ≤ k) (k3 : k < 3) : 0 ≤ loK k ∧ loK k < 3 ∧ 0 ≤ hiK k ∧ hiK k < 3 := by
  rcases kinds3 k0 k3 with rfl | rfl | rfl <;> decide
def TN (s : T3) (k l h : Int) : Prop := Mt l h ∧ cn s l h = true ∧ Nn (mt3 s l h 2) ∧ sm (mt3 s l h 2) = sm s ∧ mx (oth (mt3 s l h 2) k).1 (oth (mt3 s l h 2) k).2 = mx (oth s k).1 (oth s k).2 - 1 ∧ ((oth (mt3 s l h 2) k).1 - (oth (mt3 s l h 2) k).2) % 3 = 0 ∧ (mx (oth (mt3 s l h 2) k).1 (oth (mt3 s l h 2) k).2 = 0 ∨ ¬ Alone (mt3 s l h 2))
theorem tw_next {s : T3} (hs : Nn s) (ha : ¬ Alone s) {k : Int} (k0 : 0 ≤ k) (k3 : k < 3) (h3 : ((oth s k).1 - (oth s k).2) % 3 = 0) : TN s k (tw s k).1 (tw s k).2 := by
  obtain ⟨a, b, c⟩ := s
  unfold Nn at hs
  unfold Alone at ha
  dsimp only at hs ha
  rcases kinds3 k0 k3 with rfl | rfl | rfl
  · change (b - c) % 3 = 0 at h3
    have key : ∀ a' b' c', 0 ≤ a' → 0 ≤ b' → 0 ≤ c' → a' + b' + c' = a + b + c → mx b' c' = mx b c - 1 → (b' - c') % 3 = 0 → (mx b' c' = 0 ∨ ¬ Alone (a', b', c')) → ∀ l h, Mt l h → cn (a, b, c) l h = true → mt3 (a, b, c) l h 2 = (a', b', c') →
        TN (a, b, c) 0 l h :=
      fun a' b' c' q1 q2 q3 q4 q5 q6 q7 l h hM hc e => ⟨hM, hc, by rw [e]; exact ⟨q1, q2, q3⟩, by rw [e]; exact q4, by rw [e]; exact q5, by rw [e]; exact q6, by rw [e]; exact q7⟩
    unfold mx at key
    unfold Alone at key
    dsimp only at key
    by_cases h1 : 0 < b ∧ 0 < c
    · have et : tw (a, b, c) 0 = (1, 2) := by
        exact if_pos h1
      rw [et]
      exact key (a + 2) (b - 1) (c - 1) (by omega) (by omega) (by omega) (by omega) (by split <;> split <;> omega) (by omega) (if z : b = 1 ∧ c = 1 then .inl (by split <;> omega) else .inr (by omega)) 1 2 M12 (cn12 h1.1 h1.2) rfl
    · by_cases h2 : 0 < b
      · have et : tw (a, b, c) 0 = (0, 1) := by
          refine (if_neg h1).trans ?_
          have er : (if 0 < g3 (a, b, c).1 (a, b, c).2.1 (a, b, c).2.2 1 then (1 : Int) else 2) = 1 := if_pos h2
          show ((if (0 : Int) < (if 0 < g3 (a, b, c).1 (a, b, c).2.1 (a, b, c).2.2 1 then (1 : Int) else 2) then (0 : Int) else (if 0 < g3 (a, b, c).1 (a, b, c).2.1 (a, b, c).2.2 1 then (1 : Int) else 2)), (if (0 : Int) > (if 0 < g3 (a, b, c).1 (a, b, c).2.1 (a, b, c).2.2 1 then (1 : Int) else 2) then (0 : Int) else (if 0 < g3 (a, b, c).1 (a, b, c).2.1 (a, b, c).2.2 1 then (1 : Int) else 2))) = ((0, 1) : Int × Int)
          rw [er]
          rfl
        rw [et]
        exact key (a - 1) (b - 1) (c + 2) (by omega) (by omega) (by omega) (by omega) (by split <;> split <;> omega) (by omega) (by right; omega) 0 1 M01 (cn01 (show 0 < a by omega) h2) rfl
      · have et : tw (a, b, c) 0 = (0, 2) := by
          refine (if_neg h1).trans ?_
          have er : (if 0 < g3 (a, b, c).1 (a, b, c).2.1 (a, b, c).2.2 1 then (1 : Int) else 2) = 2 := if_neg h2
          show ((if (0 : Int) < (if 0 < g3 (a, b, c).1 (a, b, c).2.1 (a, b, c).2.2 1 then (1 : Int) else 2) then (0 : Int) else (if 0 < g3 (a, b, c).1 (a, b, c).2.1 (a, b, c).2.2 1 then (1 : Int) else 2)), (if (0 : Int) > (if 0 < g3 (a, b, c).1 (a, b, c).2.1 (a, b, c).2.2 1 then (1 : Int) else 2) then (0 : Int) else (if 0 < g3 (a, b, c).1 (a, b, c).2.1 (a, b, c).2.2 1 then (1 : Int) else 2))) = ((0, 2) : Int × Int)
          rw [er]
          rfl
        rw [et]
        exact key (a - 1) (b + 2) (c - 1) (by omega) (by omega) (by omega) (by omega) (by split <;> split <;> omega) (by omega) (by right; omega) 0 2 M02 (cn02 (show 0 < a by omega) (show 0 < c by omega)) rfl
  · change (a - c) % 3 = 0 at h3
    have key : ∀ a' b' c', 0 ≤ a' → 0 ≤ b' → 0 ≤ c' → a' + b' + c' = a + b + c → mx a' c' = mx a c - 1 → (a' - c') % 3 = 0 → (mx a' c' = 0 ∨ ¬ Alone (a', b', c')) → ∀ l h, Mt l h → cn (a, b, c) l h = true → mt3 (a, b, c) l h 2 = (a', b', c') →
        TN (a, b, c) 1 l h :=
      fun a' b' c' q1 q2 q3 q4 q5 q6 q7 l h hM hc e => ⟨hM, hc, by rw [e]; exact ⟨q1, q2, q3⟩, by rw [e]; exact q4, by rw [e]; exact q5, by rw [e]; exact q6, by rw [e]; exact q7⟩
    unfold mx at key
    unfold Alone at key
    dsimp only at key
    by_cases h1 : 0 < a ∧ 0 < c
    · have et : tw (a, b, c) 1 = (0, 2) := by
        exact if_pos h1
      rw [et]
      exact key (a - 1) (b + 2) (c - 1) (by omega) (by omega) (by omega) (by omega) (by split <;> split <;> omega) (by omega) (if z : a = 1 ∧ c = 1 then .inl (by split <;> omega) else .inr (by omega)) 0 2 M02 (cn02 h1.1 h1.2) rfl
    · by_cases h2 : 0 < a
      · have et : tw (a, b, c) 1 = (0, 1) := by
          refine (if_neg h1).trans ?_
          have er : (if 0 < g3 (a, b, c).1 (a, b, c).2.1 (a, b, c).2.2 0 then (0 : Int) else 2) = 0 := if_pos h2
          show ((if (1 : Int) < (if 0 < g3 (a, b, c).1 (a, b, c).2.1 (a, b, c).2.2 0 then (0 : Int) else 2) then (1 : Int) else (if 0 < g3 (a, b, c).1 (a, b, c).2.1 (a, b, c).2.2 0 then (0 : Int) else 2)), (if (1 : Int) > (if 0 < g3 (a, b, c).1 (a, b, c).2.1 (a, b, c).2.2 0 then (0 : Int) else 2) then (1 : Int) else (if 0 < g3 (a, b, c).1 (a, b, c).2.1 (a, b, c).2.2 0 then (0 : Int) else 2))) = ((0, 1) : Int × Int)
          rw [er]
          rfl
        rw [et]
        exact key (a - 1) (b - 1) (c + 2) (by omega) (by omega) (by omega) (by omega) (by split <;> split <;> omega) (by omega) (by right; omega) 0 1 M01 (cn01 h2 (show 0 < b by omega)) rfl
      · have et : tw (a, b, c) 1 = (1, 2) := by
          refine (if_neg h1).trans ?_
          have er : (if 0 < g3 (a, b, c).1 (a, b, c).2.1 (a, b, c).2.2 0 then (0 : Int) else 2) = 2 := if_neg h2
          show ((if (1 : Int) < (if 0 < g3 (a, b, c).1 (a, b, c).2.1 (a, b, c).2.2 0 then (0 : Int) else 2) then (1 : Int) else (if 0 < g3 (a, b, c).1 (a, b, c).2.1 (a, b, c).2.2 0 then (0 : Int) else 2)), (if (1 : Int) > (if 0 < g3 (a, b, c).1 (a, b, c).2.1 (a, b, c).2.2 0 then (0 : Int) else 2) then (1 : Int) else (if 0 < g3 (a, b, c).1 (a, b, c).2.1 (a, b, c).2.2 0 then (0 : Int) else 2))) = ((1, 2) : Int × Int)
          rw [er]
          rfl
        rw [et]
        exact key (a + 2) (b - 1) (c - 1) (by omega) (by omega) (by omega) (by omega) (by split <;> split <;> omega) (by omega) (by right; omega) 1 2 M12 (cn12 (show 0 < b by omega) (show 0 < c by omega)) rfl
  · change (a - b) % 3 = 0 at h3
    have key : ∀ a' b' c', 0 ≤ a' → 0 ≤ b' → 0 ≤ c' → a' + b' + c' = a + b + c → mx a' b' = mx a b - 1 → (a' - b') % 3 = 0 → (mx a' b' = 0 ∨ ¬ Alone (a', b', c')) → ∀ l h, Mt l h → cn (a, b, c) l h = true → mt3 (a, b, c) l h 2 = (a', b', c') →
        TN (a, b, c) 2 l h :=
      fun a' b' c' q1 q2 q3 q4 q5 q6 q7 l h hM hc e => ⟨hM, hc, by rw [e]; exact ⟨q1, q2, q3⟩, by rw [e]; exact q4, by rw [e]; exact q5, by rw [e]; exact q6, by rw [e]; exact q7⟩
    unfold mx at key
    unfold Alone at key
    dsimp only at key
    by_cases h1 : 0 < a ∧ 0 < b
    · have et : tw (a, b, c) 2 = (0, 1) := by
        exact if_pos h1
      rw [et]
      exact key (a - 1) (b - 1) (c + 2) (by omega) (by omega) (by omega) (by omega) (by split <;> split <;> omega) (by omega) (if z : a = 1 ∧ b = 1 then .inl (by split <;> omega) else .inr (by omega)) 0 1 M01 (cn01 h1.1 h1.2) rfl
    · by_cases h2 : 0 < a
      · have et : tw (a, b, c) 2 = (0, 2) := by
          refine (if_neg h1).trans ?_
          have er : (if 0 < g3 (a, b, c).1 (a, b, c).2.1 (a, b, c).2.2 0 then (0 : Int) else 1) = 0 := if_pos h2
          show ((if (2 : Int) < (if 0 < g3 (a, b, c).1 (a, b, c).2.1 (a, b, c).2.2 0 then (0 : Int) else 1) then (2 : Int) else (if 0 < g3 (a, b, c).1 (a, b, c).2.1 (a, b, c).2.2 0 then (0 : Int) else 1)), (if (2 : Int) > (if 0 < g3 (a, b, c).1 (a, b, c).2.1 (a, b, c).2.2 0 then (0 : Int) else 1) then (2 : Int) else (if 0 < g3 (a, b, c).1 (a, b, c).2.1 (a, b, c).2.2 0 then (0 : Int) else 1))) = ((0, 2) : Int × Int)
          rw [er]
          rfl
        rw [et]
        exact key (a - 1) (b + 2) (c - 1) (by omega) (by omega) (by omega) (by omega) (by split <;> split <;> omega) (by omega) (by right; omega) 0 2 M02 (cn02 h2 (show 0 < c by omega)) rfl
      · have et : tw (a, b, c) 2 = (1, 2) := by
          refine (if_neg h1).trans ?_
          have er : (if 0 < g3 (a, b, c).1 (a, b, c).2.1 (a, b, c).2.2 0 then (0 : Int) else 1) = 1 := if_neg h2
          show ((if (2 : Int) < (if 0 < g3 (a, b, c).1 (a, b, c).2.1 (a, b, c).2.2 0 then (0 : Int) else 1) then (2 : Int) else (if 0 < g3 (a, b, c).1 (a, b, c).2.1 (a, b, c).2.2 0 then (0 : Int) else 1)), (if (2 : Int) > (if 0 < g3 (a, b, c).1 (a, b, c).2.1 (a, b, c).2.2 0 then (0 : Int) else 1) then (2 : Int) else (if 0 < g3 (a, b, c).1 (a, b, c).2.1 (a, b, c).2.2 0 then (0 : Int) else 1))) = ((1, 2) : Int × Int)
          rw [er]
          rfl
        rw [et]
        exact key (a + 2) (b - 1) (c - 1) (by omega) (by omega) (by omega) (by omega) (by split <;> split <;> omega) (by omega) (by right; omega) 1 2 M12 (cn12 (show 0 < b by omega) (show 0 < c by omega)) rfl
/-- the meetings that are told -/
def tkN : Nat → T3 → Int → List (Int × Int)
  | 0, _, _ => []
  | n + 1, s, k => tw s k :: tkN n (mt3 s (tw s k).1 (tw s k).2 2) k
def tkR (s : T3) (k : Int) : List (Int × Int) := tkN (mx (oth s k).1 (oth s k).2).toNat s k
/-- on the way to k -/
def OnWay (s : T3) (k : Int) : Prop := (mx (oth s k).1 (oth s k).2 = 0 ∨ ¬ Alone s) ∧ ((oth s k).1 - (oth s k).2) % 3 = 0
theorem oth_pos {s : T3} (hs : Nn s) {k : Int} (k0 : 0 ≤ k) (k3 : k < 3) : 0 ≤ (oth s k).1 ∧ 0 ≤ (oth s k).2 ∧ g3 s.1 s.2.1 s.2.2 k + (oth s k).1 + (oth s k).2 = sm s := by
  unfold Nn at hs
  unfold sm
  rcases kinds3 k0 k3 with rfl | rfl | rfl
  · exact ⟨hs.2.1, hs.2.2, rfl⟩
  · exact ⟨hs.1, hs.2.2, show s.2.1 + s.1 + s.2.2 = _ by omega⟩
  · exact ⟨hs.1, hs.2.1, show s.2.2 + s.1 + s.2.1 = _ by omega⟩
theorem less_iff {s : T3} (hs : Nn s) {k : Int} (k0 : 0 ≤ k) (k3 : k < 3) : g3 s.1 s.2.1 s.2.2 k < sm s ↔ 0 < mx (oth s k).1 (oth s k).2 := by
  obtain ⟨h1, h2, h3⟩ := oth_pos hs k0 k3
  unfold mx
  split <;> omega
theorem on_way {s : T3} (hs : Nn s) {k d : Int} (k0 : 0 ≤ k) (k3 : k < 3) (h : stepsT s k = some d) : OnWay s k ∧ d = mx (oth s k).1 (oth s k).2 := by
  unfold stepsT at h
  by_cases h0 : (oth s k).1 = 0 ∧ (oth s k).2 = 0
  · rw [if_pos h0] at h
    obtain rfl := (Option.some.inj h).symm
    have e : mx (oth s k).1 (oth s k).2 = 0 := by unfold mx; rw [h0.1, h0.2]; rfl
    exact ⟨⟨.inl e, by rw [h0.1, h0.2]; rfl⟩, e.symm⟩
  · rw [if_neg h0] at h
    by_cases h1 : Alone s ∨ ((oth s k).1 - (oth s k).2) % 3 ≠ 0
    · rw [if_pos h1] at h
      cases h
    · rw [if_neg h1] at h
      obtain rfl := (Option.some.inj h).symm
      refine ⟨⟨.inr fun z => h1 (.inl z), ?_⟩, rfl⟩
      by_cases z : ((oth s k).1 - (oth s k).2) % 3 = 0
      · exact z
      · exact absurd (.inr z) h1
theorem Goes.cons {m : Int} {s : T3} {ms : List (Int × Int)} {l h : Int} (hM : Mt l h) (hc : cn s l h = true) (g : Goes m (mt3 s l h m) ms) : Goes m s ((l, h) :: ms) := by
  intro i y hy
  cases i with
  | zero =>
    obtain rfl := Option.some.inj hy
    exact ⟨hM, hc⟩
  | succ i => exact g i y hy
theorem tkN_ok : ∀ (n : Nat) (s : T3) (k : Int), Nn s → 0 ≤ k → k < 3 → OnWay s k → mx (oth s k).1 (oth s k).2 = n → Goes 2 s (tkN n s k) ∧ run 2 s (tkN n s k) = only k (sm s) ∧ (tkN n s k).length = n
  | 0, s, k, hn, k0, k3, _, e => ⟨Goes.nil, at_end hn k0 k3 (by omega), rfl⟩
  | n + 1, s, k, hn, k0, k3, ⟨ha, h3⟩, e => by
    have ha : ¬ Alone s := ha.elim (fun z => by omega) id
    obtain ⟨hM, hc, q1, q2, q3, q4, q5⟩ := tw_next hn ha k0 k3 h3
    obtain ⟨g, r, l⟩ := tkN_ok n (mt3 s (tw s k).1 (tw s k).2 2) k q1 k0 k3 ⟨q5, q4⟩ (by omega)
    exact ⟨Goes.cons hM hc g, by rw [← q2]; exact r, by show (tkN n _ k).length + 1 = n + 1; rw [l]⟩
theorem tkR_ok : TkOk tkR := fun s k d ho k0 k3 _ h => by
  have hn := (ok3_Nn ho).1
  obtain ⟨hw, rfl⟩ := on_way hn k0 k3 h
  obtain ⟨h1, h2, _⟩ := oth_pos hn k0 k3
  have m0 : 0 ≤ mx (oth s k).1 (oth s k).2 := by unfold mx; split <;> omega
  obtain ⟨g, r, l⟩ := tkN_ok (mx (oth s k).1 (oth s k).2).toNat s k hn k0 k3 hw (by omega)
  exact ⟨g, r, by unfold tkR; rw [l]; omega⟩
end Km

set_option Elab.async false
set_option linter.all false
set_option maxRecDepth 100000
set_option maxHeartbeats 4000000
/-! KmLay: displays laid, told by what stands afterwards alone -/
namespace Km
open PySem PySem.Spec PyProof.Rows L2
theorem TupF.new {H : Hp} {p : Addr} {o : Obj} {xs : List V} (ho : o.dict = none) : TupF (L2.upd H p (.frz o (.tup xs))) p xs := ⟨o, ho, upd_same⟩
def tTupS (t : TA) : TE := fun σ H Q => t σ H fun xs H1 => xs.length ≤ sizeLine ∧ ∀ (H' : Hp) (p : Addr), Same H1 H' → H1 p = none → TupF H' p xs → Q (.ref p) H'
def tLstS (t : TA) : TE := fun σ H Q => t σ H fun xs H1 => xs.length ≤ sizeLine ∧ ∀ (H' : Hp) (p : Addr), Same H1 H' → H1 p = none → H' p = some (.lst xs) → Q (.ref p) H'
def rCatS : R2 := fun x y H Q => ∃ l b xs zs, x = .ref l ∧ y = .ref b ∧ H l = some (.lst xs) ∧ H b = some (.lst zs) ∧ xs.length + zs.length ≤ sizeLine ∧ ∀ (H' : Hp) (p : Addr), Same H H' → H p = none → H' p = some (.lst (xs ++ zs)) → Q (.ref p) H'
def tM (t : TA) : TA := fun σ H Q => ∃ Q0 : List V → Hp → Prop, (∀ xs H1, Q0 xs H1 → Q xs H1) ∧ t σ H Q0
section
variable {X : Cx} {es : List Expr} {t : TA} {pos : Pos}
theorem pa_m (h : PA X es t) : PA X es (tM t) := ⟨fun pos pins s σ H Q I ⟨Q0, k, q⟩ => thn (h.run pos pins s σ H Q0 I q) fun us s' ⟨vs, H', I', r, q'⟩ => ⟨vs, H', I', r, k _ _ q'⟩⟩
theorem pe_tupS {x1} (h : PA X es t) : PE X (.Tuple es x1 pos) (tTupS t) :=
  Pe.imp (pe_tupF (pa_m h)) fun σ H Q q => ⟨_, fun xs H1 ⟨z, k⟩ => ⟨z, fun o p ho hp => k _ p (same_upd hp) hp (TupF.new ho)⟩, q⟩
theorem pe_lstS (h : PA X es t) : PE X (.List es pos) (tLstS t) :=
  Pe.imp (pe_lst (pa_m h)) fun σ H Q q => ⟨_, fun xs H1 ⟨z, k⟩ => ⟨z, fun p hp => k _ p (same_upd hp) hp upd_same⟩, q⟩
theorem op_catS : OpR X (binaryOp .Add) rCatS := fun pins s σ H x y v u Q I rx ry ⟨l, b, xs, zs, e1, e2, h1, h2, hz, q⟩ =>
  op_cat pins s σ H x y v u Q I rx ry ⟨l, b, xs, zs, e1, e2, h1, h2, hz, fun p hp => q _ p (same_upd hp) hp upd_same⟩
end
theorem sorted_alone {s : T3} (hn : Nn s) (ha : Alone s) {ns : List Int} (hp : ns.Perm [s.1, s.2.1, s.2.2]) (hs : ns.Pairwise (· ≤ ·)) : ns = [0, 0, sm s] := by
  have e : ([0, 0, sm s] : List Int).Perm [s.1, s.2.1, s.2.2] := by
    unfold Alone at ha
    unfold sm
    rcases ha with ⟨h1, h2⟩ | ⟨h1, h2⟩ | ⟨h1, h2⟩
    · rw [h1, h2, show s.1 + 0 + 0 = s.1 by omega]
      exact ((List.Perm.swap _ _ _).cons _ |>.trans (List.Perm.swap _ _ _))
    · rw [h1, h2, show 0 + s.2.1 + 0 = s.2.1 by omega]
      exact (List.Perm.swap _ _ _).cons _
    · rw [h1, h2, show 0 + 0 + s.2.2 = s.2.2 by omega]
  have m0 : 0 ≤ sm s := by
    unfold Nn at hn
    unfold sm
    omega
  refine List.Perm.eq_of_pairwise (le := (· ≤ ·)) (fun a b _ _ h1 h2 => Int.le_antisymm h1 h2) hs ?_ (hp.trans e.symm)
  simp [m0]
end Km

set_option Elab.async false
set_option linter.all false
set_option maxRecDepth 100000
set_option maxHeartbeats 4000000
namespace Km
open PySem PySem.Spec PyProof.Rows L2
def topS (i : Nat) : Stmt := PySem.Challenge.pw_kindmeets_k08_whole_numbers.main.body.getD i (.Pass ⟨0, 0, 0, 0⟩)

/-! ### kindmeets.beads -/
abbrev sNum : Stmt := topS 17
abbrev sKind : Stmt := topS 16
abbrev sIsM : Stmt := topS 15
abbrev sAre : Stmt := topS 14
abbrev sChB : Stmt := topS 12
abbrev sChM : Stmt := topS 13
abbrev sBeh : Stmt := topS 11
abbrev sJoin : Stmt := topS 9
abbrev sTurn : Stmt := topS 10
abbrev sMeet : Stmt := topS 8
theorem scBeh : FnScope ["beads", "meeting", "made", "kind", "count"] ["beads", "meeting", "made"] (defScope sBeh) := ⟨rfl, rfl, rfl, by decide +kernel, rfl, by decide +kernel, by decide +kernel⟩
theorem scJoin : FnScope ["beads", "meeting"] ["beads", "meeting"] (defScope sJoin) := ⟨rfl, rfl, rfl, by decide +kernel, rfl, by decide +kernel, by decide +kernel⟩
theorem scTurn : FnScope ["beads", "meeting"] ["beads", "meeting"] (defScope sTurn) := ⟨rfl, rfl, rfl, by decide +kernel, rfl, by decide +kernel, by decide +kernel⟩
theorem scMeet : FnScope ["beads", "low", "high"] ["beads"] (defScope sMeet) := ⟨rfl, rfl, rfl, by decide +kernel, rfl, by decide +kernel, by decide +kernel⟩
theorem scNum : FnScope ["value"] ["value"] (defScope sNum) := ⟨rfl, rfl, rfl, by decide +kernel, rfl, by decide +kernel, by decide +kernel⟩
theorem scKind : FnScope ["value"] ["value"] (defScope sKind) := ⟨rfl, rfl, rfl, by decide +kernel, rfl, by decide +kernel, by decide +kernel⟩
theorem scIsM : FnScope ["value", "low", "high"] ["value"] (defScope sIsM) := ⟨rfl, rfl, rfl, by decide +kernel, rfl, by decide +kernel, by decide +kernel⟩
theorem scAre : FnScope ["value", "count"] ["value"] (defScope sAre) := ⟨rfl, rfl, rfl, by decide +kernel, rfl, by decide +kernel, by decide +kernel⟩
theorem scChB : FnScope ["beads"] ["beads"] (defScope sChB) := ⟨rfl, rfl, rfl, by decide +kernel, rfl, by decide +kernel, by decide +kernel⟩
theorem scChM : FnScope ["beads", "meeting", "low", "high"] ["beads", "meeting"] (defScope sChM) := ⟨rfl, rfl, rfl, by decide +kernel, rfl, by decide +kernel, by decide +kernel⟩
section
variable {P : Program} {w : World} {K : PySem.W.Frag} {mg : Str → Option Value} {base : Heap} {f : Addr} {fd : FuncData}
/-- is_number of anything whose type is told -/
def spNum (K : PySem.W.Frag) : Sp := fun vs H Q _ => ∃ (x : V) (t : Value) (b1 b2 : Bool), vs = [x] ∧ TyX K H x t ∧ PySem.W.kitOne K t (.type "int") = some b1 ∧ PySem.W.kitOne K t (.type "bool") = some b2 ∧ Q (.bl (b1 && !b2)) H
theorem ok_num (F : FnP K "is_number" sNum f fd) (B : Bl mg) : FnOk P w K mg base CX0 1 f fd ["value"] (spNum K) := by
  refine F.ok scNum (fun vs H Q E h => ?_) (fun cdv A outer s H vs Q E hr h => ?_)
  · obtain ⟨x, t, b1, b2, rfl, _⟩ := h
    rfl
  · obtain ⟨x, t, b1, b2, rfl, ty, k1, k2, q⟩ := h
    refine ⟨_, PSs.nox (pss_one (ps_ret (pe_and (pe_callB call_isi (by rfl) B.isi (by decide +kernel) (pa_cons (pv 0) (pa_cons (pe_bltn (v := .ty "int") (by rfl) B.int (by decide +kernel) rfl) pa_nil)))
      (pe_one (pe_not (pe_callB call_isi (by rfl) B.isi (by decide +kernel) (pa_cons (pv 0) (pa_cons (pe_bltn (v := .ty "bool") (by rfl) B.bool (by decide +kernel) rfl) pa_nil)))))))), ?_⟩
    refine ⟨x, rfl, x, _, t, _, b1, rfl, .ty _, ty, k1, b1, rfl, ?_⟩
    cases b1 with
    | false => exact iteF q
    | true => exact iteT ⟨x, rfl, x, _, t, _, b2, rfl, .ty _, ty, k2, b2, rfl, by rw [Bool.true_and] at q; exact q⟩
theorem sp_num_int {K : PySem.W.Frag} {H : Hp} {Q : VK} {E : XK} {n : Int} (q : Q (.bl true) H) : spNum K [.int n] H Q E :=
  ⟨.int n, .type "int", true, false, rfl, .base (.int _), kit_ty (by decide +kernel), kit_ty (by decide +kernel), q⟩
/-- is_kind of anything -/
def spKind (K : PySem.W.Frag) : Sp := fun vs H Q _ => ∃ (x : V) (o : Option Int), vs = [x] ∧ KX K H x o ∧ Q (.bl o.isSome) H
theorem ok_kind {fN : Addr} {fdN : FuncData} {u : Value} (F : FnP K "is_kind" sKind f fd) (B : Bl mg) (kd : mg "KINDS" = some u) (ku : RelV (.int 3) u) (aN : At K mg "is_number" sNum ["value"] fN fdN) : FnOk P w K mg base CX0 2 f fd ["value"] (spKind K) := by
  have GN : FnOk P w K mg base CX0 1 fN fdN ["value"] (spNum K) := ok_num aN.F B
  refine F.ok scKind (fun vs H Q E h => ?_) (fun cdv A outer s H vs Q E hr h => ?_)
  · obtain ⟨x, o, rfl, _⟩ := h
    rfl
  · obtain ⟨x, o, rfl, hx, q⟩ := h
    refine ⟨_, PSs.nox (pss_one (ps_ret (pe_and (pe_call GN hr (by rfl) aN.g aN.F.kp aN.b .nil pass0 (pa_cons (pv 0) pa_nil))
      (pe_one (pe_chain op_le op_lt pe_int (pv 0) (pe_glob (by rfl) kd ku)))))), ?_⟩
    refine ⟨x, rfl, ?_⟩
    rcases hx with ⟨n, rfl, e⟩ | ⟨t, b1, b2, ty, k1, k2, k3, e⟩
    · refine ⟨.int n, .type "int", true, false, rfl, .base (.int _), kit_ty (by decide +kernel), kit_ty (by decide +kernel), true, rfl, iteT ?_⟩
      refine ⟨_, rfl, _, _, rfl, rfl, _, rfl, ite2 (fun h0 => ?_) (fun h0 => ?_)⟩
      · have h0' : 0 ≤ n := of_decide_eq_true h0
        refine ⟨_, _, rfl, rfl, ?_⟩
        have e2 : decide (n < 3) = o.isSome := by
          by_cases h3 : n < 3
          · rw [e, if_pos ⟨h0', h3⟩, decide_eq_true h3]; rfl
          · rw [e, if_neg (fun z => h3 z.2), decide_eq_false h3]; rfl
        show Q (V.bl (decide (n < 3))) H
        rw [e2]
        exact q
      · have h0' : ¬ 0 ≤ n := fun z => h0 (decide_eq_true z)
        have e2 : o.isSome = false := by rw [e, if_neg (fun z => h0' z.1)]; rfl
        rw [e2] at q
        exact q
    · refine ⟨x, t, b1, b2, rfl, ty, k1, k2, b1 && !b2, rfl, ?_⟩
      rw [k3]
      refine iteF ?_
      rw [e] at q
      exact q
/-- is_meeting of anything -/
def spIsM (K : PySem.W.Frag) : Sp := fun vs H Q _ => ∃ (x : V) (b : Bool), vs = [x] ∧ MX K H x b ∧ Q (.bl b) H
theorem ok_isM {fN fK : Addr} {fdN fdK : FuncData} {u : Value} (F : FnP K "is_meeting" sIsM f fd) (B : Bl mg) (kd : mg "KINDS" = some u) (ku : RelV (.int 3) u) (aN : At K mg "is_number" sNum ["value"] fN fdN) (aK : At K mg "is_kind" sKind ["value"] fK fdK) : FnOk P w K mg base CX0 3 f fd ["value"] (spIsM K) := by
  have GK : FnOk P w K mg base CX0 2 fK fdK ["value"] (spKind K) := ok_kind aK.F B kd ku aN
  refine F.ok scIsM (fun vs H Q E h => ?_) (fun cdv A outer s H vs Q E hr h => ?_)
  · obtain ⟨x, b, rfl, _⟩ := h
    rfl
  · obtain ⟨x, b, rfl, h, q⟩ := h
    refine ⟨_, PSs.nox (pss_cons (ps_if (PW.pt (pw_or (pt_not (pt_val (pe_callB call_isi (by rfl) B.isi (by decide +kernel) (pa_cons (pv 0) (pa_cons (pe_bltn (v := .ty "tuple") (by rfl) B.tup (by decide +kernel) rfl) pa_nil)))))
        (pw_or1 (pt_cmpR op_ne (pe_callB call_len_seq (by rfl) B.len PySem.boot_len (pa_cons (pv 0) pa_nil)) pe_int (nomark _))))) (pss_one (ps_ret pe_bl)) pss_nil)
      (pss_cons (ps_asg (pv 0) (pg_tup (by rfl) (pgs_cons (pg_name (i := 1) scIsM.nd rfl (.inl rfl)) (pgs_cons (pg_name (i := 2) scIsM.nd rfl (.inl rfl)) pgs_nil))))
      (pss_one (ps_ret (pe_and (pe_call GK hr (by rfl) aK.g aK.F.kp aK.b .nil pass0 (pa_cons (pv 1) pa_nil))
        (pe_and (pe_call GK hr (by rfl) aK.g aK.F.kp aK.b .nil pass0 (pa_cons (pv 2) pa_nil)) (pe_one (pe_cmpR op_lt (pv 1) (pv 2) (nomark _))))))))), ?_⟩
    rcases h with ⟨⟨t, ty, kt⟩, rfl⟩ | ⟨p, xs, rfl, hs, hn, rfl⟩ | ⟨p, y, z, o1, o2, rfl, hs, k1, k2, rfl⟩
    · exact ⟨x, rfl, x, _, t, _, false, rfl, .ty _, ty, kt, false, rfl, iteT (iteT q)⟩
    · refine ⟨.ref p, rfl, .ref p, _, _, _, true, rfl, .ty _, ty_tup hs, kit_ty (by decide +kernel), true, rfl, iteF ?_⟩
      refine ⟨.ref p, rfl, p, xs, rfl, .inr hs, rfl, _, rfl, ?_⟩
      have e : decide (V.int (xs.length : Int) = V.int 2) = false := decide_eq_false fun z => hn (by have z2 := V.int.inj z; omega)
      rw [e]
      exact iteT q
    · refine ⟨.ref p, rfl, .ref p, _, _, _, true, rfl, .ty _, ty_tup hs, kit_ty (by decide +kernel), true, rfl, iteF ?_⟩
      refine ⟨.ref p, rfl, p, _, rfl, .inr hs, rfl, _, rfl, ?_⟩
      refine iteF ?_
      refine ⟨.ref p, rfl, p, _, rfl, hs, rfl, y, [z], rfl, z, [], rfl, rfl, ?_⟩
      refine ⟨y, rfl, y, o1, rfl, k1, o1.isSome, rfl, ?_⟩
      cases o1 with
      | none => exact iteF q
      | some n =>
        refine iteT ⟨z, rfl, z, o2, rfl, k2, o2.isSome, rfl, ?_⟩
        cases o2 with
        | none => exact iteF q
        | some m =>
          have ey : y = .int n := by
            rcases k1 with ⟨i, rfl, e⟩ | ⟨_, _, _, _, _, _, _, e⟩
            · split at e
              · rw [Option.some.inj e]
              · cases e
            · cases e
          have ez : z = .int m := by
            rcases k2 with ⟨i, rfl, e⟩ | ⟨_, _, _, _, _, _, _, e⟩
            · split at e
              · rw [Option.some.inj e]
              · cases e
            · cases e
          subst ey ez
          exact iteT ⟨_, rfl, _, rfl, _, _, rfl, rfl, q⟩
/-- are_beads of anything -/
def spAre (K : PySem.W.Frag) : Sp := fun vs H Q _ => ∃ (x : V) (b : Bool), vs = [x] ∧ BX K H x b ∧ Q (.bl b) H
theorem ok_are {fN : Addr} {fdN : FuncData} {u : Value} (F : FnP K "are_beads" sAre f fd) (B : Bl mg) (kd : mg "KINDS" = some u) (ku : RelV (.int 3) u) (aN : At K mg "is_number" sNum ["value"] fN fdN) : FnOk P w K mg base CX0 2 f fd ["value"] (spAre K) := by
  have GN : FnOk P w K mg base CX0 1 fN fdN ["value"] (spNum K) := ok_num aN.F B
  refine F.ok scAre (fun vs H Q E h => ?_) (fun cdv A outer s H vs Q E hr h => ?_)
  · obtain ⟨x, b, rfl, _⟩ := h
    rfl
  · obtain ⟨x, b, rfl, h, q⟩ := h
    refine ⟨_, PSs.nox (pss_cons (ps_if (PW.pt (pw_or (pt_not (pt_val (pe_callB call_isi (by rfl) B.isi (by decide +kernel) (pa_cons (pv 0) (pa_cons (pe_bltn (v := .ty "tuple") (by rfl) B.tup (by decide +kernel) rfl) pa_nil)))))
        (pw_or1 (pt_cmpR op_ne (pe_callB call_len_seq (by rfl) B.len PySem.boot_len (pa_cons (pv 0) pa_nil)) (pe_glob (by rfl) kd ku) (nomark _))))) (pss_one (ps_ret pe_bl)) pss_nil)
      (pss_cons (ps_for PassesOwn.never rfl (pi_tup (pv 0)) (pg_name (i := 1) scAre.nd rfl (.inl rfl))
        (pss_one (ps_if (PW.pt (pw_or (pt_not (pt_val (pe_call GN hr (by rfl) aN.g aN.F.kp aN.b .nil pass0 (pa_cons (pv 1) pa_nil)))) (pw_or1 (pt_cmpR op_lt (pv 1) pe_int (nomark _))))) (pss_one (ps_ret pe_bl)) pss_nil)))
      (pss_one (ps_ret (pe_cmpR op_gt (pe_callB (cr_maxT rfl) (by rfl) B.max (by decide +kernel) (pa_cons (pv 0) pa_nil)) pe_int (nomark _)))))), ?_⟩
    rcases h with ⟨⟨t, ty, kt⟩, rfl⟩ | ⟨p, xs, rfl, hs, hn, rfl⟩ | ⟨p, x0, x1, x2, o0, o1, o2, rfl, hs, k0, k1, k2, rfl⟩
    · exact ⟨x, rfl, x, _, t, _, false, rfl, .ty _, ty, kt, false, rfl, iteT (iteT q)⟩
    · refine ⟨.ref p, rfl, .ref p, _, _, _, true, rfl, .ty _, ty_tup hs, kit_ty (by decide +kernel), true, rfl, iteF ?_⟩
      refine ⟨.ref p, rfl, p, xs, rfl, .inr hs, rfl, _, rfl, ?_⟩
      have e : decide (V.int (xs.length : Int) = V.int 3) = false := decide_eq_false fun z => hn (by have z2 := V.int.inj z; omega)
      rw [e]
      exact iteT q
    · refine ⟨.ref p, rfl, .ref p, _, _, _, true, rfl, .ty _, ty_tup hs, kit_ty (by decide +kernel), true, rfl, iteF ?_⟩
      refine ⟨.ref p, rfl, p, _, rfl, .inr hs, rfl, _, rfl, ?_⟩
      refine iteF ?_
      refine ⟨.ref p, rfl, p, rfl, ⟨_, hs⟩, for_tup (K := K) (a := p) (xs := [x0, x1, x2]) (fun i σ H' => H' = H ∧ (∃ v, σ = [some (.ref p), v]) ∧ ∀ j, j < i → ∃ n, [o0, o1, o2][j]? = some (some n))
        ⟨rfl, ⟨none, rfl⟩, fun j hj => absurd hj (Nat.not_lt_zero j)⟩ (fun i σ H' _ ⟨e, _⟩ => e ▸ hs) ?_ ?_⟩
      · rintro i x σ H' hx ⟨rfl, ⟨v, rfl⟩, hall⟩
        obtain ⟨o, ho, hN⟩ : ∃ o, [o0, o1, o2][i]? = some o ∧ NX K H' x o := by
          match i, hx with
          | 0, hx => exact ⟨o0, rfl, (Option.some.inj hx) ▸ k0⟩
          | 1, hx => exact ⟨o1, rfl, (Option.some.inj hx) ▸ k1⟩
          | 2, hx => exact ⟨o2, rfl, (Option.some.inj hx) ▸ k2⟩
          | n + 3, hx => simp at hx
        have stop : o = none → Q (.bl false) H' := fun e => by
          subst e
          rw [okB_none ho] at q
          exact q
        rcases hN with ⟨n, rfl, e⟩ | ⟨t, b1, b2, ty, e1, e2, e3, e⟩
        · refine ⟨_, rfl, .int n, .type "int", true, false, rfl, .base (.int _), kit_ty (by decide +kernel), kit_ty (by decide +kernel), true, rfl, iteF ?_⟩
          refine ⟨_, rfl, _, _, rfl, rfl, _, rfl, ite2 (fun h0 => ?_) (fun h0 => ?_)⟩
          · refine stop ?_
            rw [e, if_neg (by have z := of_decide_eq_true h0; omega)]
          · have h0' : 0 ≤ n := by
              by_cases z : 0 ≤ n
              · exact z
              · exact absurd (decide_eq_true (show n < 0 by omega)) h0
            refine ⟨rfl, ⟨_, rfl⟩, fun j hj => ?_⟩
            by_cases hji : j < i
            · exact hall j hji
            · have ej : j = i := by omega
              subst ej
              exact ⟨n, by rw [ho, e, if_pos h0']⟩
        · refine ⟨_, rfl, x, t, b1, b2, rfl, ty, e1, e2, b1 && !b2, rfl, ?_⟩
          rw [e3]
          exact iteT (stop e)
      · rintro σ H' ⟨rfl, ⟨v, rfl⟩, hall⟩
        obtain ⟨a, ha⟩ := hall 0 (by show 0 < 3; omega)
        obtain ⟨b, hb⟩ := hall 1 (by show 1 < 3; omega)
        obtain ⟨c, hc⟩ := hall 2 (by show 2 < 3; omega)
        have ea : o0 = some a := Option.some.inj ha
        have eb : o1 = some b := Option.some.inj hb
        have ec : o2 = some c := Option.some.inj hc
        subst ea eb ec
        obtain ⟨rfl, a0⟩ := k0.val
        obtain ⟨rfl, b0⟩ := k1.val
        obtain ⟨rfl, c0⟩ := k2.val
        refine ⟨.ref p, rfl, p, [a, b, c], rfl, hs, by show 0 < 3; omega, fun m hm hle => ⟨_, _, rfl, rfl, ?_⟩⟩
        have e : decide (0 < m) = decide (0 < a + b + c) := by
          have h1 := hle a (by simp)
          have h2 := hle b (by simp)
          have h3 := hle c (by simp)
          simp only [List.mem_cons, List.mem_nil_iff, or_false] at hm
          by_cases z : 0 < m
          · rw [decide_eq_true z, decide_eq_true]
            rcases hm with e | e | e <;> omega
          · rw [decide_eq_false z, decide_eq_false]
            omega
        show Q (.bl (decide (0 < m))) H'
        rw [e]
        exact q
/-! ### refusals -/
def spChB (K : PySem.W.Frag) (C : Addr) : Sp := fun vs H Q E => ∃ (x : V) (b : Bool), vs = [x] ∧ BX K H x b ∧ (b = true → Q .non H) ∧ (b = false → E (.ref C) none H)
theorem ok_chB {fA fN C : Addr} {fdA fdN : FuncData} {u : Value} (F : FnP K "check_beads" sChB f fd) (B : Bl mg) (kd : mg "KINDS" = some u) (ku : RelV (.int 3) u) (aN : At K mg "is_number" sNum ["value"] fN fdN) (aA : At K mg "are_beads" sAre ["value"] fA fdA) (eB : Ex K mg "BadBeads" C) :
    FnOk P w K mg base (L2.CX P w) 3 f fd ["beads"] (spChB K C) := by
  have GA : FnOk P w K mg base CX0 2 fA fdA ["value"] (spAre K) := ok_are aA.F B kd ku aN
  refine F.ok scChB (fun vs H Q E h => ?_) (fun cdv A outer s H vs Q E hr h => ?_)
  · obtain ⟨x, b, rfl, _⟩ := h
    rfl
  · obtain ⟨x, b, rfl, hx, q1, q2⟩ := h
    refine ⟨_, pss_one (ps_if (pt_not (pt_val (pe_call GA hr (by rfl) aA.g aA.F.kp aA.b .nil pass0 (pa_cons (pv 0) pa_nil))))
      (pss_one (ps_raise rfl (takes_of rfl rfl rfl rfl) (pmk_own PySem.F.excBase_ValueError eB.x eB.g eB.k (raises_own eB.b eB.t) (by rfl)))) pss_nil), ?_⟩
    refine ⟨x, rfl, x, b, rfl, hx, b, rfl, ?_⟩
    cases b with
    | true => exact iteF (q1 rfl)
    | false => exact iteT (q2 rfl)
def spChM (K : PySem.W.Frag) (C : Addr) : Sp := fun vs H Q E => ∃ (p : Addr) (a b c : Int) (y : V) (o : Bool), vs = [.ref p, y] ∧ Tr K H p a b c ∧ Ok3 a b c ∧ YX K H a b c y o ∧ (o = true → Q .non H) ∧ (o = false → E (.ref C) none H)
theorem ok_chM {fM fN fK C : Addr} {fdM fdN fdK : FuncData} {u : Value} (F : FnP K "check_meeting" sChM f fd) (B : Bl mg) (kd : mg "KINDS" = some u) (ku : RelV (.int 3) u) (aN : At K mg "is_number" sNum ["value"] fN fdN) (aK : At K mg "is_kind" sKind ["value"] fK fdK) (aM : At K mg "is_meeting" sIsM ["value"] fM fdM) (eM : Ex K mg "BadMeeting" C) :
    FnOk P w K mg base (L2.CX P w) 4 f fd ["beads", "meeting"] (spChM K C) := by
  have GM : FnOk P w K mg base CX0 3 fM fdM ["value"] (spIsM K) := ok_isM aM.F B kd ku aN aK
  refine F.ok scChM (fun vs H Q E h => ?_) (fun cdv A outer s H vs Q E hr h => ?_)
  · obtain ⟨p, a, b, c, y, o, rfl, _⟩ := h
    rfl
  · obtain ⟨p, a, b, c, y, o, rfl, hT, k3, hy, q1, q2⟩ := h
    refine ⟨_, pss_cons (ps_if (pt_not (pt_val (pe_call GM hr (by rfl) aM.g aM.F.kp aM.b .nil pass0 (pa_cons (pv 1) pa_nil))))
      (pss_one (ps_raise rfl (takes_of rfl rfl rfl rfl) (pmk_own PySem.F.excBase_ValueError eM.x eM.g eM.k (raises_own eM.b eM.t) (by rfl)))) pss_nil)
      (pss_cons (ps_asg (pv 1) (pg_tup (by rfl) (pgs_cons (pg_name (i := 2) scChM.nd rfl (.inl rfl)) (pgs_cons (pg_name (i := 3) scChM.nd rfl (.inl rfl)) pgs_nil))))
      (pss_one (ps_if (PW.pt (pw_or (pt_cmpR op_eq (pe_ix ix_tup (pv 0) (pv 2) (fun _ _ => rfl)) pe_int (nomark _)) (pw_or1 (pt_cmpR op_eq (pe_ix ix_tup (pv 0) (pv 3) (fun _ _ => rfl)) pe_int (nomark _)))))
        (pss_one (ps_raise rfl (takes_of rfl rfl rfl rfl) (pmk_own PySem.F.excBase_ValueError eM.x eM.g eM.k (raises_own eM.b eM.t) (by rfl)))) pss_nil))), ?_⟩
    rcases hy with ⟨hm, rfl⟩ | ⟨qa, l, h, rfl, hq, hlh, rfl⟩
    · exact ⟨y, rfl, y, false, rfl, hm, false, rfl, iteT (q2 rfl)⟩
    · refine ⟨_, rfl, _, true, rfl, MX.of hq hlh, true, rfl, iteF ?_⟩
      refine ⟨_, rfl, qa, _, rfl, hq, rfl, _, _, rfl, _, _, rfl, rfl, ?_⟩
      have b1 : 0 ≤ l ∧ l < 3 := by unfold Mt at hlh; omega
      have b2 : 0 ≤ h ∧ h < 3 := by unfold Mt at hlh; omega
      have p1 : 0 ≤ g3 a b c l := by have z := k3.a0; have z1 := k3.b0; have z2 := k3.c0; unfold g3; split <;> (try split) <;> omega
      have p2 : 0 ≤ g3 a b c h := by have z := k3.a0; have z1 := k3.b0; have z2 := k3.c0; unfold g3; split <;> (try split) <;> omega
      refine ⟨_, rfl, _, rfl, p, _, _, _, rfl, rfl, hT, at3 b1.1 b1.2, rfl, _, rfl, ite2 (fun z => ?_) (fun z => ?_)⟩
      · have z2 : g3 a b c l = 0 := V.int.inj (of_decide_eq_true z)
        refine iteT (q2 ?_)
        cases e : can a b c l h with
        | false => rfl
        | true => have z3 := (can_iff.mp e).1; omega
      · have z2 : ¬ g3 a b c l = 0 := fun e => z (decide_eq_true (congrArg V.int e))
        refine ⟨_, rfl, _, rfl, p, _, _, _, rfl, rfl, hT, at3 b2.1 b2.2, rfl, _, rfl, ite2 (fun z => ?_) (fun z => ?_)⟩
        · have z3 : g3 a b c h = 0 := V.int.inj (of_decide_eq_true z)
          refine q2 ?_
          cases e : can a b c l h with
          | false => rfl
          | true => have z3 := (can_iff.mp e).2; omega
        · have z3 : ¬ g3 a b c h = 0 := fun e => z (decide_eq_true (congrArg V.int e))
          exact q1 (can_iff.mpr ⟨by omega, by omega⟩)
/-! ### the beads behind a meeting -/
def spBeh (K : PySem.W.Frag) : Sp := fun vs H Q _ => ∃ (p q : Addr) (a b c l h m : Int), vs = [.ref p, .ref q, .int m] ∧ Tr K H p a b c ∧ Pr K H q l h ∧ ∀ (H' : Hp) (r : Addr), Same H H' → H r = none → TupF H' r (met a b c l h m) → Q (.ref r) H'
theorem ok_beh (F : FnP K "behind" sBeh f fd) (B : Bl mg) : FnOk P w K mg base CX0 1 f fd ["beads", "meeting", "made"] (spBeh K) := by
  refine F.ok scBeh (fun vs H Q E h => ?_) (fun cdv A outer s H vs Q E hr h => ?_)
  · obtain ⟨p, q, a, b, c, l, h, m, rfl, _⟩ := h
    rfl
  · obtain ⟨p, q, a, b, c, l, h, m, rfl, hT, hP, k⟩ := h
    refine ⟨_, PSs.nox (pss_one (ps_ret (pe_callTy call_tuple_ofF (by rfl) B.tup (by decide +kernel) (pa_cons
      (pe_lc (own := [("kind", 3), ("count", 4)]) (g := gTup K 2 (gCons (gName 3) (gCons (gName 4) gNil))) (tt := tYes) (te := tIf (tTest (tOp (rIn K false) (tVar 3) (tVar 1))) (tOp (rI0 fun i j => .int (i - j)) (tVar 4) (tC (.int 1))) (tOp (rI0 fun i j => .int (i + j)) (tVar 4) (tVar 2))) rfl scBeh.nd (pi_enumT (by rfl) B.enu (pa_cons (pv 0) pa_nil)) (blkOk_by (N := ["beads", "meeting", "made", "kind", "count"]) (sc := defScope sBeh) (by decide +kernel))
        (fun _ _ _ _ _ => pg_tup (by rfl) (pgs_cons (pg_name (i := 3) scBeh.nd rfl (.inl rfl)) (pgs_cons (pg_name (i := 4) scBeh.nd rfl (.inl rfl)) pgs_nil)))
        (fun _ _ _ _ _ => pts_nil)
        (fun _ _ _ _ _ => pe_ifExp (pt_cmpR op_in_seq (pv 3) (pv 1) (by rfl)) (pe_op op_sub (pv 4) pe_int) (pe_op op_add (pv 4) (pv 2)))) pa_nil)))), ?_⟩
    refine ⟨_, rfl, p, _, rfl, hT, fun D hD => ?_⟩
    refine lc_it walkEnumT (fun i H' => Same H H' ∧ H' D = some (.lst ((met a b c l h m).take i))) ⟨same_upd hD, upd_same⟩ (fun i H' _ hp => tup_same hp.1 hT) ?_ ?_
    · rintro i x H1 H2 hi ⟨sm, hL⟩ ⟨T, x1, x2, rfl, nT, rfl, e1, e2⟩
      have hi3 : i < 3 := hi
      obtain ⟨n, rfl, hn⟩ := met_at (l := l) (h := h) (m := m) hi3 e2
      have e1' : x1 = .int (i : Int) := (Option.some.inj e1).symm
      subst e1'
      have sT : Same H1 (upd H1 T (.tup [.int (i : Int), .int n])) := same_upd nT
      have hL2 : (upd H1 T (.tup [.int (i : Int), .int n])) D = some (.lst ((met a b c l h m).take i)) := sT _ _ hL
      have hlen : ((met a b c l h m).take i).length < sizeLine := by
        rw [List.length_take]
        exact Nat.lt_of_le_of_lt (Nat.min_le_right _ _) (by show 3 < sizeLine; decide)
      have sm2 : ∀ z : HO, Same H (upd (upd H1 T (.tup [.int (i : Int), .int n])) D z) := fun z => same_new (sm.trans sT) hD
      refine ⟨T, _, rfl, .inl (.inl upd_same), rfl, _, _, rfl, _, _, rfl, rfl, rfl, ?_⟩
      dsimp only [tYes]
      refine iteT ?_
      refine ⟨_, rfl, _, rfl, q, _, rfl, .inr (tup_same (sm.trans sT) hP), rfl, rfl, _, rfl, ite2 (fun z => ?_) (fun z => ?_)⟩
      · refine ⟨_, rfl, _, _, rfl, rfl, _, hL2, hlen, sm2 _, ?_⟩
        rw [upd_same]
        have e : mk (i : Int) n l h m = n - 1 := by
          unfold mk
          rw [if_pos]
          exact inV_pair.mp z
        rw [e] at hn
        rw [← take_next hn]
      · refine ⟨_, rfl, _, rfl, _, _, rfl, rfl, _, hL2, hlen, sm2 _, ?_⟩
        rw [upd_same]
        have e : mk (i : Int) n l h m = n + m := by
          unfold mk
          rw [if_neg]
          exact fun e => z (inV_pair.mpr e)
        rw [e] at hn
        rw [← take_next hn]
    · rintro H1 ⟨sm, hL⟩
      refine ⟨D, _, rfl, SqL.of hL, fun o r ho hr2 => ?_⟩
      exact k _ r (same_new sm (sm.free hr2)) (sm.free hr2) ⟨o, ho, upd_same⟩
def spMet (K : PySem.W.Frag) (C1 C2 : Addr) (m : Int) : Sp := fun vs H Q E => ∃ x y : V, vs = [x, y] ∧ ((BX K H x false ∧ E (.ref C1) none H) ∨
  (∃ (p : Addr) (a b c : Int), x = .ref p ∧ Tr K H p a b c ∧ Ok3 a b c ∧ YX K H a b c y false ∧ E (.ref C2) none H) ∨
  ∃ (p q : Addr) (a b c l h : Int), x = .ref p ∧ y = .ref q ∧ Tr K H p a b c ∧ Ok3 a b c ∧ Pr K H q l h ∧ Mt l h ∧ can a b c l h = true ∧ ∀ (H' : Hp) (r : Addr), Same H H' → H r = none → TupF H' r (met a b c l h m) → Q (.ref r) H')
theorem ok_join {fB fM fE C1 C2 : Addr} {fdB fdM fdE : FuncData} (F : FnP K "joined" sJoin f fd) (aB : At K mg "check_beads" sChB ["beads"] fB fdB) (aM : At K mg "check_meeting" sChM ["beads", "meeting"] fM fdM) (aE : At K mg "behind" sBeh ["beads", "meeting", "made"] fE fdE)
    (GB : FnOk P w K mg base (L2.CX P w) 3 fB fdB ["beads"] (spChB K C1)) (GM : FnOk P w K mg base (L2.CX P w) 4 fM fdM ["beads", "meeting"] (spChM K C2)) (GE : FnOk P w K mg base CX0 1 fE fdE ["beads", "meeting", "made"] (spBeh K)) :
    FnOk P w K mg base (L2.CX P w) 5 f fd ["beads", "meeting"] (spMet K C1 C2 1) := by
  refine F.ok scJoin (fun vs H Q E h => ?_) (fun cdv A outer s H vs Q E hr h => ?_)
  · obtain ⟨x, y, rfl, _⟩ := h
    rfl
  · obtain ⟨x, y, rfl, h⟩ := h
    refine ⟨_, pss_cons (ps_expr (pe_call GB (hr.mono (by decide)) (by rfl) aB.g aB.F.kp aB.b .nil (passes_call (takes_of rfl rfl rfl rfl) (fun _ _ _ _ h => h)) (pa_cons (pv 0) pa_nil)))
      (pss_cons (ps_expr (pe_call GM hr (by rfl) aM.g aM.F.kp aM.b .nil (passes_call (takes_of rfl rfl rfl rfl) (fun _ _ _ _ h => h)) (pa_cons (pv 0) (pa_cons (pv 1) pa_nil))))
      (pss_one (ps_ret (pe_call GE (hr.mono (by decide)) (by rfl) aE.g aE.F.kp aE.b .nil pass0 (pa_cons (pv 0) (pa_cons (pv 1) (pa_cons pe_int pa_nil))))))), ?_⟩
    rcases h with ⟨hx, hE⟩ | ⟨p, a, b, c, rfl, hT, k3, hy, hE⟩ | ⟨p, q, a, b, c, l, h, rfl, rfl, hT, k3, hP, hM, hc, k⟩
    · exact ⟨x, rfl, x, false, rfl, hx, fun e => (nomatch e), fun _ => hE⟩
    · refine ⟨_, rfl, _, true, rfl, BX.of hT k3, fun _ => ?_, fun e => (nomatch e)⟩
      exact ⟨_, rfl, y, rfl, p, a, b, c, y, false, rfl, hT, k3, hy, fun e => (nomatch e), fun _ => hE⟩
    · refine ⟨_, rfl, _, true, rfl, BX.of hT k3, fun _ => ?_, fun e => (nomatch e)⟩
      refine ⟨_, rfl, _, rfl, p, a, b, c, _, true, rfl, hT, k3, .inr ⟨q, l, h, rfl, hP, hM, hc.symm⟩, fun _ => ?_, fun e => (nomatch e)⟩
      exact ⟨_, rfl, _, rfl, p, q, a, b, c, l, h, 1, rfl, hT, hP, k⟩
theorem ok_turn {fB fM fE C1 C2 : Addr} {fdB fdM fdE : FuncData} (F : FnP K "turned" sTurn f fd) (aB : At K mg "check_beads" sChB ["beads"] fB fdB) (aM : At K mg "check_meeting" sChM ["beads", "meeting"] fM fdM) (aE : At K mg "behind" sBeh ["beads", "meeting", "made"] fE fdE)
    (GB : FnOk P w K mg base (L2.CX P w) 3 fB fdB ["beads"] (spChB K C1)) (GM : FnOk P w K mg base (L2.CX P w) 4 fM fdM ["beads", "meeting"] (spChM K C2)) (GE : FnOk P w K mg base CX0 1 fE fdE ["beads", "meeting", "made"] (spBeh K)) :
    FnOk P w K mg base (L2.CX P w) 5 f fd ["beads", "meeting"] (spMet K C1 C2 2) := by
  refine F.ok scTurn (fun vs H Q E h => ?_) (fun cdv A outer s H vs Q E hr h => ?_)
  · obtain ⟨x, y, rfl, _⟩ := h
    rfl
  · obtain ⟨x, y, rfl, h⟩ := h
    refine ⟨_, pss_cons (ps_expr (pe_call GB (hr.mono (by decide)) (by rfl) aB.g aB.F.kp aB.b .nil (passes_call (takes_of rfl rfl rfl rfl) (fun _ _ _ _ h => h)) (pa_cons (pv 0) pa_nil)))
      (pss_cons (ps_expr (pe_call GM hr (by rfl) aM.g aM.F.kp aM.b .nil (passes_call (takes_of rfl rfl rfl rfl) (fun _ _ _ _ h => h)) (pa_cons (pv 0) (pa_cons (pv 1) pa_nil))))
      (pss_one (ps_ret (pe_call GE (hr.mono (by decide)) (by rfl) aE.g aE.F.kp aE.b .nil pass0 (pa_cons (pv 0) (pa_cons (pv 1) (pa_cons pe_int pa_nil))))))), ?_⟩
    rcases h with ⟨hx, hE⟩ | ⟨p, a, b, c, rfl, hT, k3, hy, hE⟩ | ⟨p, q, a, b, c, l, h, rfl, rfl, hT, k3, hP, hM, hc, k⟩
    · exact ⟨x, rfl, x, false, rfl, hx, fun e => (nomatch e), fun _ => hE⟩
    · refine ⟨_, rfl, _, true, rfl, BX.of hT k3, fun _ => ?_, fun e => (nomatch e)⟩
      exact ⟨_, rfl, y, rfl, p, a, b, c, y, false, rfl, hT, k3, hy, fun e => (nomatch e), fun _ => hE⟩
    · refine ⟨_, rfl, _, true, rfl, BX.of hT k3, fun _ => ?_, fun e => (nomatch e)⟩
      refine ⟨_, rfl, _, rfl, p, a, b, c, _, true, rfl, hT, k3, .inr ⟨q, l, h, rfl, hP, hM, hc.symm⟩, fun _ => ?_, fun e => (nomatch e)⟩
      exact ⟨_, rfl, _, rfl, p, q, a, b, c, l, h, 2, rfl, hT, hP, k⟩
def spMs (K : PySem.W.Frag) (C1 : Addr) : Sp := fun vs H Q E => ∃ x : V, vs = [x] ∧ ((BX K H x false ∧ E (.ref C1) none H) ∨
  ∃ (p : Addr) (a b c : Int), x = .ref p ∧ Tr K H p a b c ∧ Ok3 a b c ∧ ∀ (H' : Hp) (L : Addr), Same H H' → H L = none → PairsAt H H' L (cans a b c) → Q (.ref L) H')
theorem ok_ms {fB C1 : Addr} {fdB : FuncData} {u : Value} (F : FnP K "meetings" sMeet f fd) (B : Bl mg) (kd : mg "KINDS" = some u) (ku : RelV (.int 3) u) (aB : At K mg "check_beads" sChB ["beads"] fB fdB)
    (GB : FnOk P w K mg base (L2.CX P w) 3 fB fdB ["beads"] (spChB K C1)) :
    FnOk P w K mg base (L2.CX P w) 4 f fd ["beads"] (spMs K C1) := by
  refine F.ok scMeet (fun vs H Q E h => ?_) (fun cdv A outer s H vs Q E hr h => ?_)
  · obtain ⟨x, rfl, _⟩ := h
    rfl
  · obtain ⟨x, rfl, h⟩ := h
    refine ⟨_, pss_cons (ps_expr (pe_call GB hr (by rfl) aB.g aB.F.kp aB.b .nil (passes_call (takes_of rfl rfl rfl rfl) (fun _ _ _ _ h => h)) (pa_cons (pv 0) pa_nil)))
      (pss_one (ps_ret (pe_lc2 (own := [("low", 1), ("high", 2)]) (vs1 := [2]) (g := gName 1) (tt := tYes) (wi1 := iRng2 (tCons (tOp (rI0 fun i j => .int (i + j)) (tVar 1) (tC (.int 1))) (tCons (tC (.int 3)) tNil))) (g1 := gName 2)
        (tt1 := tAnd (tTest (tOp (rI0 fun i j => .bl (decide (j < i))) (tOp (rIxT K) (tVar 0) (tVar 1)) (tC (.int 0)))) (tTest (tOp (rI0 fun i j => .bl (decide (j < i))) (tOp (rIxT K) (tVar 0) (tVar 2)) (tC (.int 0)))))
        (te := tTup (tCons (tVar 1) (tCons (tVar 2) tNil))) rfl scMeet.nd (pi_range1 (by rfl) B.range (pa_cons (pe_glob (by rfl) kd ku) pa_nil)) (blkOk_by (N := ["beads", "low", "high"]) (sc := defScope sMeet) (by decide +kernel)) (by decide)
        (fun _ _ _ _ _ => pg_name (i := 1) scMeet.nd rfl (.inl rfl)) (fun _ _ _ _ _ => pts_nil)
        (fun _ _ _ _ _ => pi_range2 (by rfl) B.range (pa_cons (pe_op op_add (pv 1) pe_int) (pa_cons (pe_glob (by rfl) kd ku) pa_nil)))
        (fun _ _ _ _ _ => pg_name (i := 2) scMeet.nd rfl (.inl rfl))
        (fun _ _ _ _ _ => pts_one (PW.pt (pw_and (pt_cmpR op_gt (pe_ix ix_tup (pv 0) (pv 1) (fun _ _ => rfl)) pe_int (nomark _)) (pw_and1 (pt_cmpR op_gt (pe_ix ix_tup (pv 0) (pv 2) (fun _ _ => rfl)) pe_int (nomark _))))))
        (fun _ _ _ _ _ => pe_tup (pa_cons (pv 1) (pa_cons (pv 2) pa_nil)))))), ?_⟩
    rcases h with ⟨hx, hE⟩ | ⟨p, a, b, c, rfl, hT, k3, k⟩
    · exact ⟨x, rfl, x, false, rfl, hx, fun e => (nomatch e), fun _ => hE⟩
    · refine ⟨_, rfl, _, true, rfl, BX.of hT k3, fun _ => ?_, fun e => (nomatch e)⟩
      refine ⟨3, rfl, by decide, by decide, fun D hD => ?_⟩
      refine ⟨fun i m H' => m = 3 - i ∧ i ≤ 3 ∧ Same H H' ∧ PairsAt H H' D ((allM.take (st3 i)).filter fun q => can a b c q.1 q.2), ⟨3, rfl, by omega, same_upd hD, [], upd_same, .nil⟩, ?_⟩
      rintro i m H1 ⟨rfl, hi, sm, hP⟩
      by_cases hlt : i < 3
      · refine .inr ⟨hlt, fun H' => Same H H' ∧ PairsAt H H' D ((allM.take (st3 (i + 1))).filter fun q => can a b c q.1 q.2), fun H' z => ⟨3 - (i + 1), by omega, rfl, hlt, z⟩, ?_⟩
        rintro x H2 ⟨rfl, rfl⟩
        refine ⟨rfl, ?_⟩
        dsimp only [tYes]
        refine iteT ?_
        refine ⟨_, rfl, _, _, rfl, rfl, _, 3, rfl, by omega, ?_⟩
        have en : (3 - (0 + (i : Int) + 1)).toNat = 2 - i := by omega
        rw [en]
        refine ⟨fun j m H' => m = 2 - i - j ∧ j ≤ 2 - i ∧ Same H H' ∧ PairsAt H H' D ((allM.take (st3 i + j)).filter fun q => can a b c q.1 q.2), ⟨2 - i, rfl, Nat.zero_le _, sm, hP⟩, ?_⟩
        rintro j m H3 ⟨rfl, hj, sm3, hP3⟩
        by_cases hjl : j < 2 - i
        · refine .inr ⟨hjl, fun H' => Same H H' ∧ PairsAt H H' D ((allM.take (st3 i + j + 1)).filter fun q => can a b c q.1 q.2), fun H' z => ⟨2 - i - (j + 1), by omega, rfl, hjl, z⟩, ?_⟩
          rintro x H4 ⟨rfl, rfl⟩
          refine ⟨rfl, ?_⟩
          have hTs : Tr K H4 p a b c := hT.same sm3
          have e1 : (0 : Int) + (i : Int) = (i : Int) := by omega
          have hat := allM_at hlt hjl
          have hstep := cans_step (a := a) (b := b) (c := c) hat
          have no : ¬ can a b c (i : Int) ((i : Int) + 1 + (j : Int)) = true → Same H H4 ∧ PairsAt H H4 D ((allM.take (st3 i + j + 1)).filter fun q => can a b c q.1 q.2) := fun z => by
            rw [hstep, if_neg z, List.append_nil]
            exact ⟨sm3, hP3⟩
          refine ⟨_, rfl, _, rfl, p, _, _, _, rfl, rfl, hTs, at3 (k := 0 + (i : Int)) (by omega) (by omega), _, _, rfl, rfl, _, rfl, ite2 (fun z => ?_) (fun z => ?_)⟩
          · have z' : 0 < g3 a b c (i : Int) := by rw [← e1]; exact of_decide_eq_true z
            refine ⟨_, rfl, _, rfl, p, _, _, _, rfl, rfl, hTs, at3 (k := 0 + (i : Int) + 1 + (j : Int)) (by omega) (by omega), _, _, rfl, rfl, _, rfl, ite2 (fun z2 => ?_) (fun z2 => ?_)⟩
            · have z2' : 0 < g3 a b c ((i : Int) + 1 + (j : Int)) := by
                have q := of_decide_eq_true z2
                rw [e1] at q
                exact q
              refine ⟨_, rfl, _, rfl, (by show 2 ≤ sizeLine; decide), fun r hr2 => ?_⟩
              obtain ⟨acc, h1, h2, h3⟩ := hP3.add (p := r) (l := 0 + (i : Int)) (h := 0 + (i : Int) + 1 + (j : Int)) hr2 sm3
              refine ⟨acc, h1, ?_, same_new (sm3.trans (same_upd hr2)) hD, ?_⟩
              · rw [h2]
                refine Nat.lt_of_le_of_lt (List.length_filter_le _ _) ?_
                rw [List.length_take]
                exact Nat.lt_of_le_of_lt (Nat.min_le_right _ _) (by decide)
              · rw [hstep, if_pos (can_iff.mpr ⟨z', z2'⟩)]
                have ep : ((0 + (i : Int), 0 + (i : Int) + 1 + (j : Int)) : Int × Int) = ((i : Int), (i : Int) + 1 + (j : Int)) := by rw [e1]
                rw [ep] at h3
                exact h3
            · refine no fun q => z2 ?_
              have q2 := (can_iff.mp q).2
              rw [← e1] at q2
              exact decide_eq_true q2
          · refine no fun q => z ?_
            have q2 := (can_iff.mp q).1
            rw [← e1] at q2
            exact decide_eq_true q2
        · have ej : j = 2 - i := by omega
          subst ej
          refine .inl ⟨Nat.le_refl _, sm3, ?_⟩
          rw [← st3_next hlt]
          exact hP3
      · have e : i = 3 := by omega
        subst e
        exact .inl ⟨Nat.le_refl _, k H1 D sm hD hP⟩
end

/-! ### kindmeets.joining -/
abbrev sLk : Stmt := topS 22
abbrev sFl : Stmt := topS 23
theorem scLk : FnScope ["beads", "kind"] ["beads"] (defScope sLk) := ⟨rfl, rfl, rfl, by decide +kernel, rfl, by decide +kernel, by decide +kernel⟩
theorem scFl : FnScope ["beads"] ["beads"] (defScope sFl) := ⟨rfl, rfl, rfl, by decide +kernel, rfl, by decide +kernel, by decide +kernel⟩
section
variable {P : Program} {w : World} {K : PySem.W.Frag} {mg : Str → Option Value} {base : Heap} {f : Addr} {fd : FuncData}
theorem ok_lk {fB fS C1 : Addr} {fdB fdS : FuncData} {u : Value} (F : FnP K "last_kinds" sLk f fd) (B : Bl mg) (kd : mg "KINDS" = some u) (ku : RelV (.int 3) u)
    (aB : At K mg "check_beads" sChB ["beads"] fB fdB) (GB : FnOk P w K mg base (L2.CX P w) 3 fB fdB ["beads"] (spChB K C1))
    (aS : At K mg "meetings" sMeet ["beads"] fS fdS) (GS : FnOk P w K mg base (L2.CX P w) 4 fS fdS ["beads"] (spMs K C1)) :
    FnOk P w K mg base (L2.CX P w) 5 f fd ["beads"] (spLk K C1) := by
  refine F.ok scLk (fun vs H Q E h => ?_) (fun cdv A outer s H vs Q E hr h => ?_)
  · obtain ⟨x, rfl, _⟩ := h
    rfl
  · obtain ⟨x, rfl, h⟩ := h
    have r3 : Room 3 _ := hr.mono (by decide)
    have r4 : Room 4 _ := hr
    refine ⟨_, (pss_cons (ps_expr (pe_call GB r3 (by rfl) aB.g aB.F.kp aB.b .nil (passes_call (takes_of rfl rfl rfl rfl) (fun _ _ _ _ h => h)) (pa_cons (pv 0) pa_nil)))
      (pss_cons (ps_if (pt_not (pt_truth (pe_call GS r4 (by rfl) aS.g aS.F.kp aS.b .nil (passes_call (takes_of rfl rfl rfl rfl) (fun _ _ _ _ h => h)) (pa_cons (pv 0) pa_nil)) (by intro _; rfl))) (pss_one (ps_ret (pe_lc (own := [("kind", 1)]) (g := (gName 1)) (tt := (tTest (tOp (rI0 fun i j => .bl (decide (j < i))) (tOp (rIxT K) (tVar 0) (tVar 1)) (tC (.int 0))))) (te := (tVar 1)) rfl scLk.nd (pi_range1 (by rfl) B.range (pa_cons (pe_glob (by rfl) kd ku) pa_nil)) (blkOk_by (N := ["beads", "kind"]) (sc := defScope sLk) (by decide +kernel)) (fun _ _ _ _ _ => (pg_name (i := 1) scLk.nd rfl (.inl rfl))) (fun _ _ _ _ _ => pts_one (pt_cmpR op_gt (pe_ix ix_tup (pv 0) (pv 1) (fun _ _ => rfl)) pe_int (nomark _))) (fun _ _ _ _ _ => (pv 1))))) pss_nil)
      (pss_one (ps_ret (pe_lc (own := [("kind", 1)]) (g := (gName 1)) (tt := (tTest (tOp rEq (tOp (rI (fun _ j => 0 < j) fun i j => .int (i % j)) (tOp (rI0 fun i j => .int (i - j)) (tCB (rSumT K) (tCons (tVar 0) tNil)) (tOp (rIxT K) (tVar 0) (tVar 1))) (tC (.int 2))) (tC (.int 0))))) (te := (tVar 1)) rfl scLk.nd (pi_range1 (by rfl) B.range (pa_cons (pe_glob (by rfl) kd ku) pa_nil)) (blkOk_by (N := ["beads", "kind"]) (sc := defScope sLk) (by decide +kernel)) (fun _ _ _ _ _ => (pg_name (i := 1) scLk.nd rfl (.inl rfl))) (fun _ _ _ _ _ => pts_one (pt_cmpR op_eq (pe_op op_mod (pe_op op_sub (pe_callB (cr_sumT rfl) (by rfl) B.sum (by decide +kernel) (pa_cons (pv 0) pa_nil)) (pe_ix ix_tup (pv 0) (pv 1) (fun _ _ => rfl))) pe_int) pe_int (nomark _))) (fun _ _ _ _ _ => (pv 1))))))), ?_⟩
    rcases h with ⟨hx, hE⟩ | ⟨p, s0, rfl, hT, k3, k⟩
    · exact ⟨x, rfl, x, false, rfl, hx, fun e => (nomatch e), fun _ => hE⟩
    · refine ⟨_, rfl, _, true, rfl, BX.of hT k3, fun _ => ?_, fun e => (nomatch e)⟩
      obtain ⟨hnn, hpos⟩ := ok3_Nn k3
      refine ⟨_, rfl, _, rfl, .inr ⟨p, s0.1, s0.2.1, s0.2.2, rfl, hT, k3, fun H1 L s1 hL0 hPA => ?_⟩⟩
      obtain ⟨rs, hL, hp⟩ := id hPA
      refine ⟨_, .inl ⟨_, .inl (.inl hL), rfl⟩, ?_⟩
      have en := no_cans hnn hp
      refine ite2 (fun z => ?_) (fun z => ?_)
      · have ha : Alone s0 := of_decide_eq_true (en.symm.trans z)
        refine ⟨3, rfl, by decide, by decide, fun D hD => ?_⟩
        refine lc_range (lo := 0) (n := 3) (fun i H' => Same H1 H' ∧ H' D = some (.lst (((([0, 1, 2] : List Int).take i).filter fun k => decide (0 < g3 s0.1 s0.2.1 s0.2.2 k)).map V.int))) ⟨same_upd hD, upd_same⟩ ?_ ?_
        · rintro i H2 hi ⟨s2, hD2⟩
          obtain ⟨kk, ek, hk, k0, k3'⟩ := kind_turn hi
          have hst := filter_step (fun k => decide (0 < g3 s0.1 s0.2.1 s0.2.2 k)) hk
          rw [ek]
          refine ⟨rfl, ?_⟩
          refine ⟨_, rfl, _, rfl, p, _, _, _, rfl, rfl, hT.same (s1.trans s2), at3 k0 k3', _, _, rfl, rfl, _, rfl, ite2 (fun z => ?_) (fun z => ?_)⟩
          · refine ⟨_, rfl, _, hD2, ?_, same_new s2 hD, ?_⟩
            · rw [List.length_map]
              refine Nat.lt_of_le_of_lt (List.length_filter_le _ _) ?_
              rw [List.length_take]
              exact Nat.lt_of_le_of_lt (Nat.min_le_right _ _) (by decide)
            · rw [upd_same, hst, if_pos z, List.map_append]
              rfl
          · refine ⟨s2, ?_⟩
            rw [hst, if_neg z, List.append_nil]
            exact hD2
        · rintro H2 ⟨s2, hD2⟩
          refine k H2 D (s1.trans s2) (s1.free hD) ?_
          rw [lastL_alone ha]
          exact hD2
      · have ha : ¬ Alone s0 := fun q => z (en.trans (decide_eq_true q))
        refine ⟨3, rfl, by decide, by decide, fun D hD => ?_⟩
        refine lc_range (lo := 0) (n := 3) (fun i H' => Same H1 H' ∧ H' D = some (.lst (((([0, 1, 2] : List Int).take i).filter fun k => lastB s0 k).map V.int))) ⟨same_upd hD, upd_same⟩ ?_ ?_
        · rintro i H2 hi ⟨s2, hD2⟩
          obtain ⟨kk, ek, hk, k0, k3'⟩ := kind_turn hi
          have hst := filter_step (fun k => lastB s0 k) hk
          have hv := last_par ha k0 k3'
          rw [ek]
          refine ⟨rfl, ?_⟩
          refine ⟨_, rfl, p, [s0.1, s0.2.1, s0.2.2], rfl, hT.same (s1.trans s2), _, rfl, _, rfl, p, _, _, _, rfl, rfl, hT.same (s1.trans s2), at3 k0 k3', _, _, rfl, rfl, _, _, rfl, rfl, (by show (0 : Int) < 2; decide), rfl, _, rfl, ite2 (fun z => ?_) (fun z => ?_)⟩
          · refine ⟨_, rfl, _, hD2, ?_, same_new s2 hD, ?_⟩
            · rw [List.length_map]
              refine Nat.lt_of_le_of_lt (List.length_filter_le _ _) ?_
              rw [List.length_take]
              exact Nat.lt_of_le_of_lt (Nat.min_le_right _ _) (by decide)
            · rw [upd_same, hst, if_pos (hv.symm.trans z), List.map_append]
              rfl
          · refine ⟨s2, ?_⟩
            rw [hst, if_neg (fun q => z (hv.trans q)), List.append_nil]
            exact hD2
        · rintro H2 ⟨s2, hD2⟩
          exact k H2 D (s1.trans s2) (s1.free hD) hD2
theorem ok_fl {fB fS fL C1 : Addr} {fdB fdS fdL : FuncData} (F : FnP K "fewest_left" sFl f fd) (B : Bl mg)
    (aB : At K mg "check_beads" sChB ["beads"] fB fdB) (GB : FnOk P w K mg base (L2.CX P w) 3 fB fdB ["beads"] (spChB K C1))
    (aS : At K mg "meetings" sMeet ["beads"] fS fdS) (GS : FnOk P w K mg base (L2.CX P w) 4 fS fdS ["beads"] (spMs K C1))
    (aL : At K mg "last_kinds" sLk ["beads"] fL fdL) (GL : FnOk P w K mg base (L2.CX P w) 5 fL fdL ["beads"] (spLk K C1)) :
    FnOk P w K mg base (L2.CX P w) 6 f fd ["beads"] (spFl K C1) := by
  refine F.ok scFl (fun vs H Q E h => ?_) (fun cdv A outer s H vs Q E hr h => ?_)
  · obtain ⟨x, rfl, _⟩ := h
    rfl
  · obtain ⟨x, rfl, h⟩ := h
    have r3 : Room 3 _ := hr.mono (by decide)
    have r4 : Room 4 _ := hr.mono (by decide)
    have r5 : Room 5 _ := hr
    refine ⟨_, (pss_cons (ps_expr (pe_call GB r3 (by rfl) aB.g aB.F.kp aB.b .nil (passes_call (takes_of rfl rfl rfl rfl) (fun _ _ _ _ h => h)) (pa_cons (pv 0) pa_nil)))
      (pss_cons (ps_if (pt_not (pt_truth (pe_call GS r4 (by rfl) aS.g aS.F.kp aS.b .nil (passes_call (takes_of rfl rfl rfl rfl) (fun _ _ _ _ h => h)) (pa_cons (pv 0) pa_nil)) (by intro _; rfl))) (pss_one (ps_ret (pe_callB (cr_sumT rfl) (by rfl) B.sum (by decide +kernel) (pa_cons (pv 0) pa_nil)))) pss_nil)
      (pss_cons (ps_if (pt_cmpR op_eq (pe_callB call_len_seq (by rfl) B.len PySem.boot_len (pa_cons (pe_call GL r5 (by rfl) aL.g aL.F.kp aL.b .nil (passes_call (takes_of rfl rfl rfl rfl) (fun _ _ _ _ h => h)) (pa_cons (pv 0) pa_nil)) pa_nil)) pe_int (nomark _)) (pss_one (ps_ret pe_int)) pss_nil)
      (pss_one (ps_ret pe_int))))), ?_⟩
    rcases h with ⟨hx, hE⟩ | ⟨p, s0, rfl, hT, k3, k⟩
    · exact ⟨x, rfl, x, false, rfl, hx, fun e => (nomatch e), fun _ => hE⟩
    · refine ⟨_, rfl, _, true, rfl, BX.of hT k3, fun _ => ?_, fun e => (nomatch e)⟩
      obtain ⟨hnn, hpos⟩ := ok3_Nn k3
      refine ⟨_, rfl, _, rfl, .inr ⟨p, s0.1, s0.2.1, s0.2.2, rfl, hT, k3, fun H1 L s1 hL0 hPA => ?_⟩⟩
      obtain ⟨rs, hL, hp⟩ := id hPA
      refine ⟨_, .inl ⟨_, .inl (.inl hL), rfl⟩, ?_⟩
      have en := no_cans hnn hp
      refine ite2 (fun z => ?_) (fun z => ?_)
      · have ha : Alone s0 := of_decide_eq_true (en.symm.trans z)
        refine ⟨_, rfl, p, [s0.1, s0.2.1, s0.2.2], rfl, hT.same s1, ?_⟩
        have e : [s0.1, s0.2.1, s0.2.2].sum = fewest s0 := by
          rw [sum3_list]
          unfold fewest
          rw [if_pos ha]
        rw [e]
        exact k H1 s1
      · have ha : ¬ Alone s0 := fun q => z (en.trans (decide_eq_true q))
        refine ⟨_, rfl, _, rfl, .inr ⟨p, s0, rfl, hT.same s1, k3, fun H2 M s2 hM0 hM => ?_⟩⟩
        have ef := few_one ha
        refine ⟨M, _, rfl, .inl (.inl (.inl hM)), rfl, _, rfl, ite2 (fun z => ?_) (fun z => ?_)⟩
        · have z2 : (((lastL s0).length : Nat) : Int) = 1 := by
            have z3 := V.int.inj (of_decide_eq_true z)
            rw [List.length_map] at z3
            exact z3
          rw [if_pos z2] at ef
          have q := k H2 (s1.trans s2)
          rw [ef] at q
          exact q
        · have z2 : ¬ (((lastL s0).length : Nat) : Int) = 1 := fun e => z (decide_eq_true (by rw [List.length_map]; exact congrArg V.int e))
          rw [if_neg z2] at ef
          have q := k H2 (s1.trans s2)
          rw [ef] at q
          exact q
end

/-! ### kindmeets.limit, to_fewest -/
abbrev sCf : Stmt := topS 20
theorem scCf : FnScope ["beads"] ["beads"] (defScope sCf) := ⟨rfl, rfl, rfl, by decide +kernel, rfl, by decide +kernel, by decide +kernel⟩
section
variable {P : Program} {w : World} {K : PySem.W.Frag} {mg : Str → Option Value} {base : Heap} {f : Addr} {fd : FuncData}
def spCf (K : PySem.W.Frag) (C : Addr) : Sp := fun vs H Q E => ∃ (p : Addr) (s : T3), vs = [.ref p] ∧ Tr K H p s.1 s.2.1 s.2.2 ∧ (300 < sm s → E (.ref C) none H) ∧ (sm s ≤ 300 → Q .non H)
theorem ok_few {C : Addr} {u : Value} (F : FnP K "check_few" sCf f fd) (B : Bl mg) (km : mg "MOST" = some u) (kmu : RelV (.int 300) u) (eT : Ex K mg "TooMany" C) :
    FnOk P w K mg base (L2.CX P w) 1 f fd ["beads"] (spCf K C) := by
  refine F.ok scCf (fun vs H Q E h => ?_) (fun cdv A outer s H vs Q E hr h => ?_)
  · obtain ⟨p, s0, rfl, _⟩ := h
    rfl
  · obtain ⟨p, s0, rfl, hT, q1, q2⟩ := h
    refine ⟨_, (pss_one (ps_if (pt_cmpR op_gt (pe_callB (cr_sumT rfl) (by rfl) B.sum (by decide +kernel) (pa_cons (pv 0) pa_nil)) (pe_glob (by rfl) km kmu) (nomark _)) (pss_one (ps_raise rfl (takes_of rfl rfl rfl rfl) (pmk_own PySem.F.excBase_ValueError eT.x eT.g eT.k (raises_own eT.b eT.t) (by rfl)))) pss_nil)), ?_⟩
    refine ⟨_, rfl, p, [s0.1, s0.2.1, s0.2.2], rfl, hT, _, _, rfl, rfl, _, rfl, ?_⟩
    rw [sum3_list]
    refine ite2 (fun z => ?_) (fun z => ?_)
    · exact q1 (of_decide_eq_true z)
    · refine q2 ?_
      by_cases h : 300 < sm s0
      · exact absurd (decide_eq_true h) z
      · omega
end
abbrev sMo : Stmt := topS 25
abbrev sTf : Stmt := topS 24
theorem scMo : FnScope ["beads", "least", "low", "high", "kind"] ["beads"] (defScope sMo) := ⟨rfl, rfl, rfl, by decide +kernel, rfl, by decide +kernel, by decide +kernel⟩
theorem scTf : FnScope ["beads", "told", "left", "meeting"] ["beads"] (defScope sTf) := ⟨rfl, rfl, rfl, by decide +kernel, rfl, by decide +kernel, by decide +kernel⟩
section
variable {P : Program} {w : World} {K : PySem.W.Frag} {mg : Str → Option Value} {base : Heap} {f : Addr} {fd : FuncData}
def spMo (K : PySem.W.Frag) : Sp := fun vs H Q _ => ∃ (p : Addr) (s : T3), vs = [.ref p] ∧ TupF H p (tV s) ∧ ∀ (H' : Hp) (r : Addr), Same H H' → H r = none → H' r = some (.tup [.int (most s).1, .int (most s).2]) → Q (.ref r) H'
theorem ok_mo {u : Value} (F : FnP K "of_the_most" sMo f fd) (B : Bl mg) (kd : mg "KINDS" = some u) (ku : RelV (.int 3) u) : FnOk P w K mg base CX0 1 f fd ["beads"] (spMo K) := by
  refine F.ok scMo (fun vs H Q E h => ?_) (fun cdv A outer s H vs Q E hr h => ?_)
  · obtain ⟨p, s0, rfl, _⟩ := h
    rfl
  · obtain ⟨p, s0, rfl, hp, k⟩ := h
    refine ⟨_, PSs.nox (pss_cons (ps_set (i := 1) scMo.nd rfl (.inr rfl) (pe_bmT PySem.F.slot_tuple_index PySem.F.type_tuple_index mt_tup_indexI (pv 0) (pa_cons (pe_callB (cr_minT rfl) (by rfl) B.min (by decide +kernel) (pa_cons (pv 0) pa_nil)) pa_nil)))
      (pss_cons (ps_asg (pe_lc (own := [("kind", 4)]) (g := (gName 4)) (tt := (tTest (tOp rNe (tVar 4) (tVar 1)))) (te := (tVar 4)) rfl scMo.nd (pi_range1 (by rfl) B.range (pa_cons (pe_glob (by rfl) kd ku) pa_nil)) (blkOk_by (N := ["beads", "least", "low", "high", "kind"]) (sc := defScope sMo) (by decide +kernel)) (fun _ _ _ _ _ => (pg_name (i := 4) scMo.nd rfl (.inl rfl))) (fun _ _ _ _ _ => pts_one (pt_cmpR op_ne (pv 4) (pv 1) (nomark _))) (fun _ _ _ _ _ => (pv 4))) (pg_lst (by rfl) (pgs_cons (pg_name (i := 2) scMo.nd rfl (.inl rfl)) (pgs_cons (pg_name (i := 3) scMo.nd rfl (.inl rfl)) pgs_nil))))
      (pss_one (ps_ret (pe_tup (pa_cons (pv 2) (pa_cons (pv 3) pa_nil))))))), ?_⟩
    have hT : SqT K H p ([s0.1, s0.2.1, s0.2.2].map V.int) := hp.sq
    refine ⟨_, rfl, ⟨p, _, rfl, hp⟩, _, rfl, p, [s0.1, s0.2.1, s0.2.2], rfl, hT, (by show 0 < 3; decide), fun m h1 h2 => ⟨p, [s0.1, s0.2.1, s0.2.2], m, rfl, rfl, hT, h1, ?_⟩⟩
    rw [least_idx h1 h2]
    refine ⟨3, rfl, by decide, by decide, fun D hD => ?_⟩
    refine lc_range (lo := 0) (n := 3) (fun i H' => Same H H' ∧ H' D = some (.lst (((([0, 1, 2] : List Int).take i).filter fun k => decide (k ≠ least3 s0)).map V.int))) ⟨same_upd hD, upd_same⟩ ?_ ?_
    · rintro i H2 hi ⟨s2, hD2⟩
      obtain ⟨kk, ek, hk, k0, k3'⟩ := kind_turn hi
      have hst := filter_step (fun k => decide (k ≠ least3 s0)) hk
      rw [ek]
      refine ⟨rfl, ?_⟩
      refine ⟨_, rfl, _, rfl, rfl, _, rfl, ite2 (fun z => ?_) (fun z => ?_)⟩
      · have z2 : decide (kk ≠ least3 s0) = true := decide_eq_true fun e => by
          rw [e] at z
          simp at z
        refine ⟨_, rfl, _, hD2, ?_, same_new s2 hD, ?_⟩
        · rw [List.length_map]
          refine Nat.lt_of_le_of_lt (List.length_filter_le _ _) ?_
          rw [List.length_take]
          exact Nat.lt_of_le_of_lt (Nat.min_le_right _ _) (by decide)
        · rw [upd_same, hst, if_pos z2, List.map_append]
          rfl
      · refine ⟨s2, ?_⟩
        have z2 : ¬ decide (kk ≠ least3 s0) = true := fun e => z (by
          have e2 := of_decide_eq_true e
          simp only [Bool.not_eq_true', decide_eq_false_iff_not]
          exact fun q => e2 (V.int.inj q))
        rw [hst, if_neg z2, List.append_nil]
        exact hD2
    · rintro H2 ⟨s2, hD2⟩
      have hD2 : H2 D = some (.lst ((([0, 1, 2] : List Int).filter fun k => decide (k ≠ least3 s0)).map V.int)) := hD2
      rw [most_list] at hD2
      refine ⟨D, _, rfl, SqL.of hD2, rfl, _, _, rfl, _, _, rfl, rfl, ?_⟩
      refine ⟨_, rfl, _, rfl, (by show 2 ≤ sizeLine; decide), fun r hr2 => ?_⟩
      exact k _ r (s2.trans (same_upd hr2)) (s2.free hr2) upd_same
theorem ok_tf {fB fF fS fM fJ C1 C2 C3 : Addr} {fdB fdF fdS fdM fdJ : FuncData} {u : Value} (F : FnP K "to_fewest" sTf f fd) (B : Bl mg) (kd : mg "KINDS" = some u) (ku : RelV (.int 3) u)
    (aB : At K mg "check_beads" sChB ["beads"] fB fdB) (GB : FnOk P w K mg base (L2.CX P w) 3 fB fdB ["beads"] (spChB K C1))
    (aF : At K mg "check_few" sCf ["beads"] fF fdF) (GF : FnOk P w K mg base (L2.CX P w) 1 fF fdF ["beads"] (spCf K C3))
    (aS : At K mg "meetings" sMeet ["beads"] fS fdS) (GS : FnOk P w K mg base (L2.CX P w) 4 fS fdS ["beads"] (spMs K C1))
    (aM : At K mg "of_the_most" sMo ["beads"] fM fdM)
    (aJ : At K mg "joined" sJoin ["beads", "meeting"] fJ fdJ) (GJ : FnOk P w K mg base (L2.CX P w) 5 fJ fdJ ["beads", "meeting"] (spMet K C1 C2 1)) :
    FnOk P w K mg base (L2.CX P w) 6 f fd ["beads"] (spTf K C1 C3) := by
  have GM : FnOk P w K mg base CX0 1 fM fdM ["beads"] (spMo K) := ok_mo aM.F B kd ku
  refine F.ok scTf (fun vs H Q E h => ?_) (fun cdv A outer s H vs Q E hr h => ?_)
  · obtain ⟨x, rfl, _⟩ := h
    rfl
  · obtain ⟨x, rfl, h⟩ := h
    have r1 : Room 1 _ := hr.mono (by decide)
    have r3 : Room 3 _ := hr.mono (by decide)
    have r4 : Room 4 _ := hr.mono (by decide)
    have r5 : Room 5 _ := hr
    refine ⟨_, (pss_cons (ps_expr (pe_call GB r3 (by rfl) aB.g aB.F.kp aB.b .nil (passes_call (takes_of rfl rfl rfl rfl) (fun _ _ _ _ h => h)) (pa_cons (pv 0) pa_nil)))
      (pss_cons (ps_expr (pe_call GF r1 (by rfl) aF.g aF.F.kp aF.b .nil (passes_call (takes_of rfl rfl rfl rfl) (fun _ _ _ _ h => h)) (pa_cons (pv 0) pa_nil)))
      (pss_cons (ps_set (i := 1) scTf.nd rfl (.inl rfl) (pe_lst pa_nil))
      (pss_cons (ps_set (i := 2) scTf.nd rfl (.inl rfl) (pv 0))
      (pss_cons (ps_while (passes_of rfl) (pt_truth (pe_call GS r4 (by rfl) aS.g aS.F.kp aS.b .nil (passes_call (takes_of rfl rfl rfl rfl) (fun _ _ _ _ h => h)) (pa_cons (pv 2) pa_nil)) (by intro _; rfl)) (pss_cons (ps_set (i := 3) scTf.nd rfl (.inl rfl) (pe_call GM r1 (by rfl) aM.g aM.F.kp aM.b .nil pass0 (pa_cons (pv 2) pa_nil)))
      (pss_cons (ps_expr (pe_bm PySem.F.plainAttrs_list PySem.F.slot_list_append PySem.F.type_list_append mt_append (pv 1) (pa_cons (pv 3) pa_nil)))
      (pss_one (ps_set (i := 2) scTf.nd rfl (.inl rfl) (pe_call GJ r5 (by rfl) aJ.g aJ.F.kp aJ.b .nil (passes_call (takes_of rfl rfl rfl rfl) (fun _ _ _ _ h => h)) (pa_cons (pv 2) (pa_cons (pv 3) pa_nil))))))))
      (pss_one (ps_ret (pv 1)))))))), ?_⟩
    rcases h with ⟨hx, hE⟩ | ⟨p, s0, rfl, hT, k3, h⟩
    · exact ⟨x, rfl, x, false, rfl, hx, fun e => (nomatch e), fun _ => hE⟩
    · refine ⟨_, rfl, _, true, rfl, BX.of hT k3, fun _ => ?_, fun e => (nomatch e)⟩
      rcases h with ⟨h300, hE⟩ | ⟨h300, hp, k⟩
      · exact ⟨_, rfl, p, s0, rfl, hT, fun _ => hE, fun z => absurd h300 (by omega)⟩
      · refine ⟨_, rfl, p, s0, rfl, hT, fun z => absurd h300 (by omega), fun _ => ?_⟩
        obtain ⟨hnn0, hpos0⟩ := ok3_Nn k3
        refine ⟨Nat.zero_le _, fun L hL => ⟨_, rfl, ?_⟩⟩
        refine ⟨fun μ σ H' => ∃ (t : T3) (ms : List (Int × Int)) (q : Addr) (v3 : Option V), σ = [some (.ref p), some (.ref L), some (.ref q), v3] ∧ Same H H' ∧ TupF H' q (tV t) ∧ PairsAt H H' L ms ∧ Goes 1 s0 ms ∧ run 1 s0 ms = t ∧ fewest t = fewest s0 ∧ Ok3 t.1 t.2.1 t.2.2 ∧ μ = (sm t).toNat,
          ⟨_, s0, [], p, _, rfl, same_upd hL, hp.same (same_upd hL), ⟨[], upd_same, .nil⟩, Goes.nil, rfl, rfl, k3, rfl⟩, ?_⟩
        rintro μ σ H1 ⟨t, ms, q, v3, rfl, s1, hq, hP, hg, hrun, hfew, hk3, rfl⟩
        obtain ⟨hnn, hpos⟩ := ok3_Nn hk3
        refine ⟨_, rfl, _, rfl, .inr ⟨q, t.1, t.2.1, t.2.2, rfl, hq.sq, hk3, fun H2 W s2 hW0 hPW => ?_⟩⟩
        obtain ⟨rs, hW, hWp⟩ := id hPW
        refine ⟨_, .inl ⟨_, .inl (.inl hW), rfl⟩, ?_⟩
        have en := no_cans hnn hWp
        rw [Bool.not_not] at en
        rw [en]
        have hlen : sm t + (ms.length : Int) = sm s0 := by
          have := (join_keeps hnn0 hg.full).2.1
          rw [hrun] at this
          exact this
        refine ite2 (fun z => ?_) (fun z => ?_)
        · have ha : ¬ Alone t := by
            intro q
            rw [decide_eq_true q] at z
            cases z
          obtain ⟨hM, hc, hf⟩ := most_step hnn ha
          refine ⟨_, fun _ _ z => z, ?_⟩
          refine ⟨_, rfl, q, t, rfl, hq.same s2, fun H3 r s3 hr0 hr3 => ?_⟩
          have s13 : Same H1 H3 := s2.trans s3
          have nr : H r = none := s1.free (s2.free hr0)
          have hP3 := hP.same s13
          obtain ⟨acc, hL3, hacc, hP4⟩ := hP3.app nr hr3
          refine ⟨_, rfl, .inl ⟨rfl, _, .inl (.inl hL3)⟩, _, rfl, L, _, _, rfl, rfl, hL3, ?_, ?_⟩
          · rw [hacc]
            refine Nat.lt_of_le_of_lt (m := 300) ?_ (by decide)
            omega
          have sH4 : Same H (upd H3 L (.lst (acc ++ [.ref r]))) := same_new (s1.trans s13) hL
          have hq4 : TupF (upd H3 L (.lst (acc ++ [.ref r]))) q (tV t) := (hq.same s13).upd hL3
          have hr4 : (upd H3 L (.lst (acc ++ [.ref r]))) r = some (.tup [.int (most t).1, .int (most t).2]) := by
            rw [upd_ne (ne_of hr3 hL3 (fun e => by cases e))]
            exact hr3
          generalize upd H3 L (.lst (acc ++ [.ref r])) = H4 at sH4 hq4 hr4 hP4
          refine ⟨_, rfl, _, rfl, _, _, rfl, .inr (.inr ⟨q, r, t.1, t.2.1, t.2.2, (most t).1, (most t).2, rfl, rfl, hq4.sq, hk3, .inl (.inl hr4), hM, hc, fun H5 q' s5 hq0 hq' => ?_⟩)⟩
          have hq' : TupF H5 q' (tV (mt3 t (most t).1 (most t).2 1)) := hq'
          refine ⟨_, ?_, mt3 t (most t).1 (most t).2 1, ms ++ [((most t).1, (most t).2)], q', _, rfl, sH4.trans s5, hq', hP4.same s5, hg.snoc hM (by rw [hrun]; exact hc), by rw [run_snoc, hrun], hf.trans hfew, join_ok3 hM hc hk3, rfl⟩
          have := (join_keeps hnn (Path.snoc .nil hM hc)).2.1
          omega
        · have ha : Alone t := by
            by_cases q : Alone t
            · exact q
            · exact absurd (by rw [decide_eq_false q]; rfl) z
          refine ⟨_, rfl, k H2 L ms (s1.trans s2) hL (hP.same s2).pt ⟨hg, by rw [hrun]; exact ha, ?_⟩⟩
          rw [hrun, ← hfew]
          unfold fewest
          rw [if_pos ha]
end

/-! ### kindmeets.answers, kindmeets.turning -/
abbrev sFt : Stmt := topS 30
abbrev sSb : Stmt := inClass (topS 28) 0
abbrev sIn : Stmt := inClass (topS 29) 0
abbrev sSa_ : Stmt := inClass (topS 29) 1
theorem scFt : FnScope ["beads", "kind", "low", "high", "other"] ["beads", "kind"] (defScope sFt) := ⟨rfl, rfl, rfl, by decide +kernel, rfl, by decide +kernel, by decide +kernel⟩
theorem scIn : FnScope ["self", "steps"] ["self", "steps"] (defScope sIn) := ⟨rfl, rfl, rfl, by decide +kernel, rfl, by decide +kernel, by decide +kernel⟩
section
variable {P : Program} {w : World} {K : PySem.W.Frag} {mg : Str → Option Value} {base : Heap} {f : Addr} {fd : FuncData}
def spFt (K : PySem.W.Frag) : Sp := fun vs H Q _ => ∃ (p : Addr) (s : T3) (k : Int), vs = [.ref p, .int k] ∧ Tr K H p s.1 s.2.1 s.2.2 ∧ Ok3 s.1 s.2.1 s.2.2 ∧ 0 ≤ k ∧ k < 3 ∧ ∀ H', Same H H' → Q (oV (stepsT s k)) H'
theorem ok_ft {u : Value} (F : FnP K "fewest_turnings" sFt f fd) (B : Bl mg) (kd : mg "KINDS" = some u) (ku : RelV (.int 3) u) : FnOk P w K mg base CX0 1 f fd ["beads", "kind"] (spFt K) := by
  refine F.ok scFt (fun vs H Q E h => ?_) (fun cdv A outer s H vs Q E hr h => ?_)
  · obtain ⟨p, s0, k, rfl, _⟩ := h
    rfl
  · obtain ⟨p, s0, kn, rfl, hT, hk3, k0, k3, k⟩ := h
    refine ⟨_, PSs.nox (pss_cons (ps_asg (pe_lc (own := [("other", 4)]) (g := (gName 4)) (tt := (tTest (tOp rNe (tVar 4) (tVar 1)))) (te := (tOp (rIxT K) (tVar 0) (tVar 4))) rfl scFt.nd (pi_range1 (by rfl) B.range (pa_cons (pe_glob (by rfl) kd ku) pa_nil)) (blkOk_by (N := ["beads", "kind", "low", "high", "other"]) (sc := defScope sFt) (by decide +kernel)) (fun _ _ _ _ _ => (pg_name (i := 4) scFt.nd rfl (.inl rfl))) (fun _ _ _ _ _ => pts_one (pt_cmpR op_ne (pv 4) (pv 1) (nomark _))) (fun _ _ _ _ _ => (pe_ix ix_tup (pv 0) (pv 4) (fun _ _ => rfl)))) (pg_lst (by rfl) (pgs_cons (pg_name (i := 2) scFt.nd rfl (.inl rfl)) (pgs_cons (pg_name (i := 3) scFt.nd rfl (.inl rfl)) pgs_nil))))
      (pss_cons (ps_if (PW.pt (pw_and (pt_cmpR op_eq (pe_ix ix_tup (pv 0) (pv 1) (fun _ _ => rfl)) pe_int (nomark _)) (pw_and1 (pt_cmpR op_eq (pe_callB (call_min2 rfl) (by rfl) B.min (by decide +kernel) (pa_cons (pv 2) (pa_cons (pv 3) pa_nil))) pe_int (nomark _))))) (pss_one (ps_ret pe_non)) pss_nil)
      (pss_cons (ps_if (pt_cmpR op_ne (pe_op op_mod (pe_op op_sub (pv 2) (pv 3)) pe_int) pe_int (nomark _)) (pss_one (ps_ret pe_non)) pss_nil)
      (pss_one (ps_ret (pe_callB (call_max2 rfl) (by rfl) B.max (by decide +kernel) (pa_cons (pv 2) (pa_cons (pv 3) pa_nil)))))))), ?_⟩
    obtain ⟨hnn, hpos⟩ := ok3_Nn hk3
    obtain ⟨c1, c2, c3⟩ := ft_cases hnn hpos k0 k3
    refine ⟨3, rfl, by decide, by decide, fun D hD => ?_⟩
    refine lc_range (lo := 0) (n := 3) (fun i H' => Same H H' ∧ H' D = some (.lst ((((([0, 1, 2] : List Int).take i).filter fun o => decide (o ≠ kn)).map fun o => g3 s0.1 s0.2.1 s0.2.2 o).map V.int))) ⟨same_upd hD, upd_same⟩ ?_ ?_
    · rintro i H2 hi ⟨s2, hD2⟩
      obtain ⟨kk, ek, hk, j0, j3⟩ := kind_turn hi
      have hst := filter_step (fun o => decide (o ≠ kn)) hk
      rw [ek]
      refine ⟨rfl, ?_⟩
      refine ⟨_, rfl, _, rfl, rfl, _, rfl, ite2 (fun z => ?_) (fun z => ?_)⟩
      · have z2 : decide (kk ≠ kn) = true := decide_eq_true fun e => by
          rw [e] at z
          simp at z
        refine ⟨_, rfl, _, rfl, p, _, _, _, rfl, rfl, tup_same s2 hT, at3 j0 j3, _, hD2, ?_, same_new s2 hD, ?_⟩
        · rw [List.length_map, List.length_map]
          refine Nat.lt_of_le_of_lt (List.length_filter_le _ _) ?_
          rw [List.length_take]
          exact Nat.lt_of_le_of_lt (Nat.min_le_right _ _) (by decide)
        · rw [upd_same, hst, if_pos z2, List.map_append, List.map_append]
          rfl
      · refine ⟨s2, ?_⟩
        have z2 : ¬ decide (kk ≠ kn) = true := fun e => z (by
          have e2 := of_decide_eq_true e
          simp only [Bool.not_eq_true', decide_eq_false_iff_not]
          exact fun q => e2 (V.int.inj q))
        rw [hst, if_neg z2, List.append_nil]
        exact hD2
    · rintro H2 ⟨s2, hD2⟩
      have hD2 : H2 D = some (.lst (((([0, 1, 2] : List Int).filter fun o => decide (o ≠ kn)).map fun o => g3 s0.1 s0.2.1 s0.2.2 o).map V.int)) := hD2
      rw [oth_list k0 k3] at hD2
      have hT2 : Tr K H2 p s0.1 s0.2.1 s0.2.2 := tup_same s2 hT
      refine ⟨D, _, rfl, SqL.of hD2, rfl, _, _, rfl, _, _, rfl, rfl, ?_⟩
      refine ⟨_, rfl, _, rfl, p, _, _, _, rfl, rfl, hT2, at3 k0 k3, rfl, _, rfl, ?_⟩
      have rest : ¬ (g3 s0.1 s0.2.1 s0.2.2 kn = 0 ∧ (if (oth s0 kn).2 < (oth s0 kn).1 then (oth s0 kn).2 else (oth s0 kn).1) = 0) →
          (if (!decide (V.int (((oth s0 kn).1 - (oth s0 kn).2) % 3) = V.int 0)) = true then Q .non H2 else Q (.int (if (oth s0 kn).2 > (oth s0 kn).1 then (oth s0 kn).2 else (oth s0 kn).1)) H2) := fun hz => by
        by_cases e : ((oth s0 kn).1 - (oth s0 kn).2) % 3 = 0
        · rw [e, show decide (V.int 0 = V.int 0) = true from decide_eq_true rfl]
          refine iteF ?_
          have q := k H2 s2
          rw [c3 hz e] at q
          exact q
        · rw [show decide (V.int (((oth s0 kn).1 - (oth s0 kn).2) % 3) = V.int 0) = false from decide_eq_false fun q => e (V.int.inj q)]
          refine iteT ?_
          have q := k H2 s2
          rw [c2 hz e] at q
          exact q
      refine ite2 (fun z => ?_) (fun z => ?_)
      · have z1 : g3 s0.1 s0.2.1 s0.2.2 kn = 0 := V.int.inj (of_decide_eq_true z)
        refine ⟨_, rfl, _, rfl, _, _, rfl, rfl, _, rfl, ite2 (fun y => ?_) (fun y => ?_)⟩
        · have y1 := V.int.inj (of_decide_eq_true y)
          have q := k H2 s2
          rw [c1 z1 y1] at q
          exact q
        · refine ⟨_, rfl, _, rfl, _, _, rfl, rfl, _, _, rfl, rfl, (by show (0 : Int) < 3; decide), rfl, _, rfl, ?_⟩
          have r := rest fun q => y (decide_eq_true (congrArg V.int q.2))
          refine ite2 (fun x => ?_) (fun x => ?_)
          · rw [if_pos x] at r
            exact r
          · rw [if_neg x] at r
            exact ⟨_, rfl, _, rfl, _, _, rfl, r⟩
      · refine ⟨_, rfl, _, rfl, _, _, rfl, rfl, _, _, rfl, rfl, (by show (0 : Int) < 3; decide), rfl, _, rfl, ?_⟩
        have r := rest fun q => z (decide_eq_true (congrArg V.int q.1))
        refine ite2 (fun x => ?_) (fun x => ?_)
        · rw [if_pos x] at r
          exact r
        · rw [if_neg x] at r
          exact ⟨_, rfl, _, rfl, _, _, rfl, r⟩
/-! the making -/
def spIn (K : PySem.W.Frag) (C : Addr) : Sp := fun vs H Q _ => ∃ (x dx : Addr) (v : V), vs = [.ref x, v] ∧ H x = some (.ins C dx []) ∧ Q .non (upd H x (.ins C dx [("steps", v)]))
theorem ok_in {CN CA CB : Addr} (F : FunD K "__init__" "All.__init__" (defArgs sIn) (defBody sIn) (defScope sIn) [] [] f fd) (c : AnsK K CN CA CB) : FnOk P w K mg base CX0 1 f fd ["self", "steps"] (spIn K CA) := by
  refine F.ok scIn (fun vs H Q E h => ?_) (fun cdv A outer s H vs Q E hr h => ?_)
  · obtain ⟨x, dx, v, rfl, _⟩ := h
    rfl
  · obtain ⟨x, dx, v, rfl, hx, k⟩ := h
    refine ⟨_, PSs.nox (pss_one (ps_fld (pv 0) (pv 1) rfl)), ?_⟩
    exact ⟨_, rfl, _, rfl, x, _, dx, _, rfl, hx, c.A.cl, c.st, by decide, k⟩
theorem mkOk {CN CA CB fI : Addr} {fdI : FuncData} (c : AnsK K CN CA CB) (M : Mk K CA fI) (M0 : Mk0 K CB) (FI : FunD K "__init__" "All.__init__" (defArgs sIn) (defBody sIn) (defScope sIn) [] [] fI fdI) (bI : Binds K fdI ["self", "steps"] []) (gA : mg "All" = some (.ref CA)) (gB : mg "Barred" = some (.ref CB)) : MkOk P w K mg base CA CB where
  b := by
    intro X p pos e1 e2 e3 e4 e5 hr hg
    subst e1 e2 e3 e4 e5
    refine Pe.imp (pe_mk0 M0 hg gB) fun σ H Q h x dx nx ndx ne => ?_
    have s1 : Same H (upd H dx (.own x)) := same_upd ndx
    have s2 : Same H (upd (upd H dx (.own x)) x (.ins CB dx [])) := same_new s1 nx
    exact h _ x s2 nx ⟨dx, [], upd_same, rfl⟩
  a := by
    intro X p pos e t e1 e2 e3 e4 e5 hr hg ha he
    subst e1 e2 e3 e4 e5
    have GI : FnOk X.prog X.w X.K X.mg X.base CX0 1 fI fdI ["self", "steps"] (spIn X.K CA) := ok_in FI c
    refine ⟨fun pins s σ H Q I h => ?_⟩
    refine wpAny_Call_Name_kw (ld_glob I hg gA ?_ (by decide))
    refine PySem.W.callWith_K (h₀ := X.base) I.ok.mod.kin M.kp (thn (ha.run pos pins s σ H _ I h) fun us s1 ⟨vs, H1, I1, r, q⟩ => ⟨I1.kIn, ?_⟩) he (by rfl)
    obtain ⟨v, rfl, q⟩ := q
    refine run_make M GI (hr.mono (by decide)) bI .nil pass0 I1 r fun x dx nx ndx ne => ?_
    have s1 : Same H1 (upd H1 dx (.own x)) := same_upd ndx
    have s2 : Same H1 (upd (upd H1 dx (.own x)) x (.ins CA dx [])) := same_new s1 nx
    refine ⟨x, dx, v, rfl, upd_same, rfl, ?_⟩
    rw [upd_upd]
    exact q _ x (same_new s1 nx) nx ⟨dx, [("steps", v)], upd_same, rfl, rfl⟩
/-! the words -/
theorem scSb : FnScope ["self", "beads", "kind"] ["self", "beads", "kind"] (defScope sSb) := ⟨rfl, rfl, rfl, by decide +kernel, rfl, by decide +kernel, by decide +kernel⟩
theorem scSa_ : FnScope ["self", "beads", "kind"] ["self", "beads", "kind"] (defScope sSa_) := ⟨rfl, rfl, rfl, by decide +kernel, rfl, by decide +kernel, by decide +kernel⟩
theorem ok_shB {CB fU : Addr} {fdU : FuncData} (F : FunD K "shows" "Barred.shows" (defArgs sSb) (defBody sSb) (defScope sSb) [] [] f fd) (aU : At K mg "fewest_turnings" sFt ["beads", "kind"] fU fdU) (GU : FnOk P w K mg base CX0 1 fU fdU ["beads", "kind"] (spFt K)) :
    FnOk P w K mg base (L2.CX P w) 2 f fd ["self", "beads", "kind"] (spShB K CB) := by
  refine F.ok scSb (fun vs H Q E h => ?_) (fun cdv A outer s H vs Q E hr h => ?_)
  · obtain ⟨a, p, s0, k, rfl, _⟩ := h
    rfl
  · obtain ⟨a, p, s0, kn, rfl, hB, hT, hk3, k0, k3, k⟩ := h
    have r1 : Room 1 _ := hr
    refine ⟨_, (pss_one (ps_ret (pe_cmpR op_isN (pe_call GU r1 (by rfl) aU.g aU.F.kp aU.b .nil pass0 (pa_cons (pv 1) (pa_cons (pv 2) pa_nil))) pe_non (nomark _)))), ?_⟩
    refine ⟨_, rfl, _, rfl, p, s0, kn, rfl, hT, hk3, k0, k3, fun H' s' => ⟨rfl, ?_⟩⟩
    rw [oV_non]
    exact k H' s'
theorem ok_shA {CN CA CB fU fN : Addr} {fdU fdN : FuncData} (F : FunD K "shows" "All.shows" (defArgs sSa_) (defBody sSa_) (defScope sSa_) [] [] f fd) (B : Bl mg) (c : AnsK K CN CA CB)
    (aN : At K mg "is_number" sNum ["value"] fN fdN) (aU : At K mg "fewest_turnings" sFt ["beads", "kind"] fU fdU) (GU : FnOk P w K mg base CX0 1 fU fdU ["beads", "kind"] (spFt K)) :
    FnOk P w K mg base (L2.CX P w) 2 f fd ["self", "beads", "kind"] (spShA K CA) := by
  have GN : FnOk P w K mg base CX0 1 fN fdN ["value"] (spNum K) := ok_num aN.F B
  refine F.ok scSa_ (fun vs H Q E h => ?_) (fun cdv A outer s H vs Q E hr h => ?_)
  · obtain ⟨a, p, s0, k, d, rfl, _⟩ := h
    rfl
  · obtain ⟨a, p, s0, kn, d, rfl, ⟨dx, fs, hx, hl, _⟩, hT, hk3, k0, k3, k⟩ := h
    have r1 : Room 1 _ := hr
    refine ⟨_, (pss_one (ps_ret (pe_and (pe_call GN r1 (by rfl) aN.g aN.F.kp aN.b .nil pass0 (pa_cons (pe_fld (pv 0) rfl) pa_nil)) (pe_one (pe_cmpR op_eq (pe_fld (pv 0) rfl) (pe_call GU r1 (by rfl) aU.g aU.F.kp aU.b .nil pass0 (pa_cons (pv 1) (pa_cons (pv 2) pa_nil))) (nomark _)))))), ?_⟩
    refine ⟨_, rfl, a, CA, dx, fs, .int d, rfl, hx, c.A.cl, c.st, hl, .int d, .type "int", true, false, rfl, .base (.int _), kit_ty (by decide +kernel), kit_ty (by decide +kernel), true, rfl, iteT ?_⟩
    refine ⟨_, rfl, a, CA, dx, fs, .int d, rfl, hx, c.A.cl, c.st, hl, _, rfl, _, rfl, p, s0, kn, rfl, hT, hk3, k0, k3, fun H' s' => ⟨scal_int_oV _ _, ?_⟩⟩
    rw [int_oV]
    exact k H' s'
end
abbrev sCk : Stmt := topS 35
abbrev sAo : Stmt := topS 32
theorem scCk : FnScope ["kind"] ["kind"] (defScope sCk) := ⟨rfl, rfl, rfl, by decide +kernel, rfl, by decide +kernel, by decide +kernel⟩
theorem scAo : FnScope ["beads", "kind", "steps"] ["beads", "kind"] (defScope sAo) := ⟨rfl, rfl, rfl, by decide +kernel, rfl, by decide +kernel, by decide +kernel⟩
section
variable {P : Program} {w : World} {K : PySem.W.Frag} {mg : Str → Option Value} {base : Heap} {f : Addr} {fd : FuncData}
def spCk (K : PySem.W.Frag) (C : Addr) : Sp := fun vs H Q E => ∃ (y : V) (o : Option Int), vs = [y] ∧ KX K H y o ∧ (o.isSome = true → Q .non H) ∧ (o.isSome = false → E (.ref C) none H)
theorem ok_ck {fN fK C : Addr} {fdN fdK : FuncData} {u : Value} (F : FnP K "check_kind" sCk f fd) (B : Bl mg) (kd : mg "KINDS" = some u) (ku : RelV (.int 3) u) (aN0 : At K mg "is_number" sNum ["value"] fN fdN) (aN : At K mg "is_kind" sKind ["value"] fK fdK) (eK : Ex K mg "BadKind" C) :
    FnOk P w K mg base (L2.CX P w) 3 f fd ["kind"] (spCk K C) := by
  have GN : FnOk P w K mg base CX0 2 fK fdK ["value"] (spKind K) := ok_kind aN.F B kd ku aN0
  refine F.ok scCk (fun vs H Q E h => ?_) (fun cdv A outer s H vs Q E hr h => ?_)
  · obtain ⟨y, o, rfl, _⟩ := h
    rfl
  · obtain ⟨y, o, rfl, hy, q1, q2⟩ := h
    have r2 : Room 2 _ := hr
    refine ⟨_, (pss_one (ps_if (pt_not (pt_val (pe_call GN r2 (by rfl) aN.g aN.F.kp aN.b .nil pass0 (pa_cons (pv 0) pa_nil)))) (pss_one (ps_raise rfl (takes_of rfl rfl rfl rfl) (pmk_own PySem.F.excBase_ValueError eK.x eK.g eK.k (raises_own eK.b eK.t) (by rfl)))) pss_nil)), ?_⟩
    refine ⟨y, rfl, y, o, rfl, hy, o.isSome, rfl, ?_⟩
    cases e : o.isSome with
    | true => exact iteF (q1 e)
    | false => exact iteT (q2 e)
theorem ok_ao {fB fK fU C1 CK CA CB : Addr} {fdB fdK fdU : FuncData} (F : FnP K "all_of" sAo f fd) (hMk : MkOk P w K mg base CA CB)
    (aB : At K mg "check_beads" sChB ["beads"] fB fdB) (GB : FnOk P w K mg base (L2.CX P w) 3 fB fdB ["beads"] (spChB K C1))
    (aK : At K mg "check_kind" sCk ["kind"] fK fdK) (GK : FnOk P w K mg base (L2.CX P w) 3 fK fdK ["kind"] (spCk K CK))
    (aU : At K mg "fewest_turnings" sFt ["beads", "kind"] fU fdU) (GU : FnOk P w K mg base CX0 1 fU fdU ["beads", "kind"] (spFt K)) :
    FnOk P w K mg base (L2.CX P w) 4 f fd ["beads", "kind"] (spAo K C1 CK CA CB) := by
  refine F.ok scAo (fun vs H Q E h => ?_) (fun cdv A outer s H vs Q E hr h => ?_)
  · obtain ⟨x, y, rfl, _⟩ := h
    rfl
  · obtain ⟨x, y, rfl, h⟩ := h
    have r1 : Room 1 _ := hr.mono (by decide)
    have r3 : Room 3 _ := hr
    refine ⟨_, (pss_cons (ps_expr (pe_call GB r3 (by rfl) aB.g aB.F.kp aB.b .nil (passes_call (takes_of rfl rfl rfl rfl) (fun _ _ _ _ h => h)) (pa_cons (pv 0) pa_nil)))
      (pss_cons (ps_expr (pe_call GK r3 (by rfl) aK.g aK.F.kp aK.b .nil (passes_call (takes_of rfl rfl rfl rfl) (fun _ _ _ _ h => h)) (pa_cons (pv 1) pa_nil)))
      (pss_cons (ps_set (i := 2) scAo.nd rfl (.inl rfl) (pe_call GU r1 (by rfl) aU.g aU.F.kp aU.b .nil pass0 (pa_cons (pv 0) (pa_cons (pv 1) pa_nil))))
      (pss_cons (ps_if (pt_cmpR op_isN (pv 2) pe_non (nomark _)) (pss_one (ps_ret (hMk.b rfl rfl rfl rfl rfl r3 (by rfl)))) pss_nil)
      (pss_one (ps_ret (hMk.a rfl rfl rfl rfl rfl r3 (by rfl) (pa_cons (pv 2) pa_nil) (by rfl)))))))), ?_⟩
    rcases h with ⟨hx, hE⟩ | ⟨p, s0, rfl, hT, hk3, h⟩
    · exact ⟨x, rfl, x, false, rfl, hx, fun e => (nomatch e), fun _ => hE⟩
    · refine ⟨_, rfl, _, true, rfl, BX.of hT hk3, fun _ => ?_, fun e => (nomatch e)⟩
      rcases h with ⟨hy, hE⟩ | ⟨kn, rfl, k0, k3, k⟩
      · exact ⟨y, rfl, y, none, rfl, hy, fun e => (nomatch e), fun _ => hE⟩
      · refine ⟨_, rfl, _, some kn, rfl, KX.int k0 k3, fun _ => ?_, fun e => (nomatch e)⟩
        refine ⟨_, rfl, _, rfl, p, s0, kn, rfl, hT, hk3, k0, k3, fun H1 s1 => ?_⟩
        refine ⟨_, rfl, rfl, _, rfl, ?_⟩
        rw [oV_non]
        cases e : stepsT s0 kn with
        | none =>
          refine iteT ?_
          intro H2 a s2 na ha
          exact k H2 a (s1.trans s2) (s1.free na) (by rw [e]; exact ha)
        | some d =>
          refine iteF ?_
          refine ⟨_, rfl, _, rfl, fun H2 a s2 na ha => ?_⟩
          exact k H2 a (s1.trans s2) (s1.free na) (by rw [e]; exact ha)
end
abbrev sTw : Stmt := topS 34
abbrev sTk : Stmt := topS 33
theorem scTw : FnScope ["beads", "kind", "low", "high", "rest", "other"] ["beads", "kind"] (defScope sTw) := ⟨rfl, rfl, rfl, by decide +kernel, rfl, by decide +kernel, by decide +kernel⟩
theorem scTk : FnScope ["beads", "kind", "told", "left", "meeting"] ["beads", "kind"] (defScope sTk) := ⟨rfl, rfl, rfl, by decide +kernel, rfl, by decide +kernel, by decide +kernel⟩
section
variable {P : Program} {w : World} {K : PySem.W.Frag} {mg : Str → Option Value} {base : Heap} {f : Addr} {fd : FuncData}
def spTw (K : PySem.W.Frag) : Sp := fun vs H Q _ => ∃ (p : Addr) (s : T3) (k : Int), vs = [.ref p, .int k] ∧ Tr K H p s.1 s.2.1 s.2.2 ∧ 0 ≤ k ∧ k < 3 ∧ ∀ (H' : Hp) (r : Addr), Same H H' → H r = none → H' r = some (.tup [.int (tw s k).1, .int (tw s k).2]) → Q (.ref r) H'
theorem ok_tw {u : Value} (F : FnP K "toward" sTw f fd) (B : Bl mg) (kd : mg "KINDS" = some u) (ku : RelV (.int 3) u) : FnOk P w K mg base CX0 1 f fd ["beads", "kind"] (spTw K) := by
  refine F.ok scTw (fun vs H Q E h => ?_) (fun cdv A outer s H vs Q E hr h => ?_)
  · obtain ⟨p, s0, k, rfl, _⟩ := h
    rfl
  · obtain ⟨p, s0, kn, rfl, hT, k0, k3, k⟩ := h
    refine ⟨_, PSs.nox (pss_cons (ps_asg (pe_lc (own := [("other", 5)]) (g := (gName 5)) (tt := (tTest (tOp rNe (tVar 5) (tVar 1)))) (te := (tVar 5)) rfl scTw.nd (pi_range1 (by rfl) B.range (pa_cons (pe_glob (by rfl) kd ku) pa_nil)) (blkOk_by (N := ["beads", "kind", "low", "high", "rest", "other"]) (sc := defScope sTw) (by decide +kernel)) (fun _ _ _ _ _ => (pg_name (i := 5) scTw.nd rfl (.inl rfl))) (fun _ _ _ _ _ => pts_one (pt_cmpR op_ne (pv 5) (pv 1) (nomark _))) (fun _ _ _ _ _ => (pv 5))) (pg_lst (by rfl) (pgs_cons (pg_name (i := 2) scTw.nd rfl (.inl rfl)) (pgs_cons (pg_name (i := 3) scTw.nd rfl (.inl rfl)) pgs_nil))))
      (pss_cons (ps_if (PW.pt (pw_and (pt_cmpR op_gt (pe_ix ix_tup (pv 0) (pv 2) (fun _ _ => rfl)) pe_int (nomark _)) (pw_and1 (pt_cmpR op_gt (pe_ix ix_tup (pv 0) (pv 3) (fun _ _ => rfl)) pe_int (nomark _))))) (pss_one (ps_ret (pe_tup (pa_cons (pv 2) (pa_cons (pv 3) pa_nil))))) pss_nil)
      (pss_cons (ps_set (i := 4) scTw.nd rfl (.inl rfl) (pe_ifExp (pt_cmpR op_gt (pe_ix ix_tup (pv 0) (pv 2) (fun _ _ => rfl)) pe_int (nomark _)) (pv 2) (pv 3)))
      (pss_one (ps_ret (pe_tup (pa_cons (pe_callB (call_min2 rfl) (by rfl) B.min (by decide +kernel) (pa_cons (pv 4) (pa_cons (pv 1) pa_nil))) (pa_cons (pe_callB (call_max2 rfl) (by rfl) B.max (by decide +kernel) (pa_cons (pv 4) (pa_cons (pv 1) pa_nil))) pa_nil)))))))), ?_⟩
    obtain ⟨l0, l3, h0, h3⟩ := loK_in k0 k3
    refine ⟨3, rfl, by decide, by decide, fun D hD => ?_⟩
    refine lc_range (lo := 0) (n := 3) (fun i H' => Same H H' ∧ H' D = some (.lst (((([0, 1, 2] : List Int).take i).filter fun o => decide (o ≠ kn)).map V.int))) ⟨same_upd hD, upd_same⟩ ?_ ?_
    · rintro i H2 hi ⟨s2, hD2⟩
      obtain ⟨kk, ek, hk, j0, j3⟩ := kind_turn hi
      have hst := filter_step (fun o => decide (o ≠ kn)) hk
      rw [ek]
      refine ⟨rfl, ?_⟩
      refine ⟨_, rfl, _, rfl, rfl, _, rfl, ite2 (fun z => ?_) (fun z => ?_)⟩
      · have z2 : decide (kk ≠ kn) = true := decide_eq_true fun e => by
          rw [e] at z
          simp at z
        refine ⟨_, rfl, _, hD2, ?_, same_new s2 hD, ?_⟩
        · rw [List.length_map]
          refine Nat.lt_of_le_of_lt (List.length_filter_le _ _) ?_
          rw [List.length_take]
          exact Nat.lt_of_le_of_lt (Nat.min_le_right _ _) (by decide)
        · rw [upd_same, hst, if_pos z2, List.map_append]
          rfl
      · refine ⟨s2, ?_⟩
        have z2 : ¬ decide (kk ≠ kn) = true := fun e => z (by
          have e2 := of_decide_eq_true e
          simp only [Bool.not_eq_true', decide_eq_false_iff_not]
          exact fun q => e2 (V.int.inj q))
        rw [hst, if_neg z2, List.append_nil]
        exact hD2
    · rintro H2 ⟨s2, hD2⟩
      have hD2 : H2 D = some (.lst ((([0, 1, 2] : List Int).filter fun o => decide (o ≠ kn)).map V.int)) := hD2
      rw [others_list k0 k3] at hD2
      have hT2 : Tr K H2 p s0.1 s0.2.1 s0.2.2 := tup_same s2 hT
      refine ⟨D, _, rfl, SqL.of hD2, rfl, _, _, rfl, _, _, rfl, rfl, ?_⟩
      have rest : ¬ (0 < g3 s0.1 s0.2.1 s0.2.2 (loK kn) ∧ 0 < g3 s0.1 s0.2.1 s0.2.2 (hiK kn)) → tw s0 kn = (if kn < restK s0 kn then kn else restK s0 kn, if kn > restK s0 kn then kn else restK s0 kn) := fun z => by
        unfold tw
        rw [if_neg z]
      have fin : ∀ R : Int, restK s0 kn = R → ¬ (0 < g3 s0.1 s0.2.1 s0.2.2 (loK kn) ∧ 0 < g3 s0.1 s0.2.1 s0.2.2 (hiK kn)) → ∀ r, H2 r = none → Q (.ref r) (upd H2 r (.tup [.int (if kn < R then kn else R), .int (if kn > R then kn else R)])) := fun R eR z r hr2 => by
        refine k _ r (s2.trans (same_upd hr2)) (s2.free hr2) ?_
        rw [rest z, eR, upd_same]
      have tail : ¬ (0 < g3 s0.1 s0.2.1 s0.2.2 (loK kn) ∧ 0 < g3 s0.1 s0.2.1 s0.2.2 (hiK kn)) → decide (0 < g3 s0.1 s0.2.1 s0.2.2 (loK kn)) = true → restK s0 kn = loK kn := fun _ z => by
        unfold restK
        rw [if_pos (of_decide_eq_true z)]
      have tail2 : ¬ decide (0 < g3 s0.1 s0.2.1 s0.2.2 (loK kn)) = true → restK s0 kn = hiK kn := fun z => by
        unfold restK
        rw [if_neg fun q => z (decide_eq_true q)]
      refine ⟨_, rfl, _, rfl, p, _, _, _, rfl, rfl, hT2, at3 l0 l3, _, _, rfl, rfl, _, rfl, ite2 (fun z => ?_) (fun z => ?_)⟩
      · refine ⟨_, rfl, _, rfl, p, _, _, _, rfl, rfl, hT2, at3 h0 h3, _, _, rfl, rfl, _, rfl, ite2 (fun y => ?_) (fun y => ?_)⟩
        · refine ⟨_, rfl, _, rfl, (by show 2 ≤ sizeLine; decide), fun r hr2 => ?_⟩
          refine k _ r (s2.trans (same_upd hr2)) (s2.free hr2) ?_
          have e : tw s0 kn = (loK kn, hiK kn) := by
            unfold tw
            rw [if_pos ⟨of_decide_eq_true z, of_decide_eq_true y⟩]
          rw [e, upd_same]
        · have nz : ¬ (0 < g3 s0.1 s0.2.1 s0.2.2 (loK kn) ∧ 0 < g3 s0.1 s0.2.1 s0.2.2 (hiK kn)) := fun q => y (decide_eq_true q.2)
          refine ⟨_, rfl, _, rfl, p, _, _, _, rfl, rfl, hT2, at3 l0 l3, _, _, rfl, rfl, _, rfl, ite2 (fun x => ?_) (fun x => absurd z x)⟩
          exact ⟨_, rfl, _, rfl, _, rfl, _, _, rfl, _, rfl, _, rfl, _, _, rfl, (by show 2 ≤ sizeLine; decide), fun r hr2 => fin _ (tail nz x) nz r hr2⟩
      · have nz : ¬ (0 < g3 s0.1 s0.2.1 s0.2.2 (loK kn) ∧ 0 < g3 s0.1 s0.2.1 s0.2.2 (hiK kn)) := fun q => z (decide_eq_true q.1)
        refine ⟨_, rfl, _, rfl, p, _, _, _, rfl, rfl, hT2, at3 l0 l3, _, _, rfl, rfl, _, rfl, ite2 (fun x => absurd x z) (fun x => ?_)⟩
        exact ⟨_, rfl, _, rfl, _, rfl, _, _, rfl, _, rfl, _, rfl, _, _, rfl, (by show 2 ≤ sizeLine; decide), fun r hr2 => fin _ (tail2 x) nz r hr2⟩
theorem ok_tk {fB fK fF fU fW fT C1 C2 CK C3 : Addr} {fdB fdK fdF fdU fdW fdT : FuncData} {u : Value} (F : FnP K "to_kind" sTk f fd) (B : Bl mg) (kd : mg "KINDS" = some u) (ku : RelV (.int 3) u)
    (aB : At K mg "check_beads" sChB ["beads"] fB fdB) (GB : FnOk P w K mg base (L2.CX P w) 3 fB fdB ["beads"] (spChB K C1))
    (aK : At K mg "check_kind" sCk ["kind"] fK fdK) (GK : FnOk P w K mg base (L2.CX P w) 3 fK fdK ["kind"] (spCk K CK))
    (aF : At K mg "check_few" sCf ["beads"] fF fdF) (GF : FnOk P w K mg base (L2.CX P w) 1 fF fdF ["beads"] (spCf K C3))
    (aU : At K mg "fewest_turnings" sFt ["beads", "kind"] fU fdU) (GU : FnOk P w K mg base CX0 1 fU fdU ["beads", "kind"] (spFt K))
    (aW : At K mg "toward" sTw ["beads", "kind"] fW fdW)
    (aT : At K mg "turned" sTurn ["beads", "meeting"] fT fdT) (GT : FnOk P w K mg base (L2.CX P w) 5 fT fdT ["beads", "meeting"] (spMet K C1 C2 2)) :
    FnOk P w K mg base (L2.CX P w) 6 f fd ["beads", "kind"] (spTk K C1 CK C3 tkR) := by
  have GW : FnOk P w K mg base CX0 1 fW fdW ["beads", "kind"] (spTw K) := ok_tw aW.F B kd ku
  refine F.ok scTk (fun vs H Q E h => ?_) (fun cdv A outer s H vs Q E hr h => ?_)
  · obtain ⟨x, y, rfl, _⟩ := h
    rfl
  · obtain ⟨x, y, rfl, h⟩ := h
    have r1 : Room 1 _ := hr.mono (by decide)
    have r3 : Room 3 _ := hr.mono (by decide)
    have r5 : Room 5 _ := hr
    refine ⟨_, (pss_cons (ps_expr (pe_call GB r3 (by rfl) aB.g aB.F.kp aB.b .nil (passes_call (takes_of rfl rfl rfl rfl) (fun _ _ _ _ h => h)) (pa_cons (pv 0) pa_nil)))
      (pss_cons (ps_expr (pe_call GK r3 (by rfl) aK.g aK.F.kp aK.b .nil (passes_call (takes_of rfl rfl rfl rfl) (fun _ _ _ _ h => h)) (pa_cons (pv 1) pa_nil)))
      (pss_cons (ps_expr (pe_call GF r1 (by rfl) aF.g aF.F.kp aF.b .nil (passes_call (takes_of rfl rfl rfl rfl) (fun _ _ _ _ h => h)) (pa_cons (pv 0) pa_nil)))
      (pss_cons (ps_if (pt_cmpR op_isN (pe_call GU r1 (by rfl) aU.g aU.F.kp aU.b .nil pass0 (pa_cons (pv 0) (pa_cons (pv 1) pa_nil))) pe_non (nomark _)) (pss_one (ps_ret pe_non)) pss_nil)
      (pss_cons (ps_set (i := 2) scTk.nd rfl (.inl rfl) (pe_lst pa_nil))
      (pss_cons (ps_set (i := 3) scTk.nd rfl (.inl rfl) (pv 0))
      (pss_cons (ps_while (passes_of rfl) (pt_cmpR op_lt (pe_ix ix_tup (pv 3) (pv 1) (fun _ _ => rfl)) (pe_callB (cr_sumT rfl) (by rfl) B.sum (by decide +kernel) (pa_cons (pv 3) pa_nil)) (nomark _)) (pss_cons (ps_set (i := 4) scTk.nd rfl (.inl rfl) (pe_call GW r1 (by rfl) aW.g aW.F.kp aW.b .nil pass0 (pa_cons (pv 3) (pa_cons (pv 1) pa_nil))))
      (pss_cons (ps_expr (pe_bm PySem.F.plainAttrs_list PySem.F.slot_list_append PySem.F.type_list_append mt_append (pv 2) (pa_cons (pv 4) pa_nil)))
      (pss_one (ps_set (i := 3) scTk.nd rfl (.inl rfl) (pe_call GT r5 (by rfl) aT.g aT.F.kp aT.b .nil (passes_call (takes_of rfl rfl rfl rfl) (fun _ _ _ _ h => h)) (pa_cons (pv 3) (pa_cons (pv 4) pa_nil))))))))
      (pss_one (ps_ret (pv 2)))))))))), ?_⟩
    rcases h with ⟨hx, hE⟩ | ⟨p, s0, rfl, hT, hk3, h⟩
    · exact ⟨x, rfl, x, false, rfl, hx, fun e => (nomatch e), fun _ => hE⟩
    · refine ⟨_, rfl, _, true, rfl, BX.of hT hk3, fun _ => ?_, fun e => (nomatch e)⟩
      rcases h with ⟨hy, hE⟩ | ⟨kn, rfl, k0, k3, h⟩
      · exact ⟨y, rfl, y, none, rfl, hy, fun e => (nomatch e), fun _ => hE⟩
      · refine ⟨_, rfl, _, some kn, rfl, KX.int k0 k3, fun _ => ?_, fun e => (nomatch e)⟩
        rcases h with ⟨h300, hE⟩ | ⟨h300, h⟩
        · exact ⟨_, rfl, p, s0, rfl, hT, fun _ => hE, fun z => absurd h300 (by omega)⟩
        · refine ⟨_, rfl, p, s0, rfl, hT, fun z => absurd h300 (by omega), fun _ => ?_⟩
          obtain ⟨hnn0, hpos0⟩ := ok3_Nn hk3
          refine ⟨_, rfl, _, rfl, p, s0, kn, rfl, hT, hk3, k0, k3, fun H1 s1 => ⟨rfl, _, rfl, ?_⟩⟩
          rw [oV_non]
          rcases h with ⟨hno, k⟩ | ⟨d, hst, k⟩
          · rw [decide_eq_true hno]
            exact iteT (k H1 s1)
          · rw [decide_eq_false (by rw [hst]; exact fun q => by cases q)]
            refine iteF ?_
            obtain ⟨hw0, hd⟩ := on_way hnn0 k0 k3 hst
            obtain ⟨o1, o2, o3⟩ := oth_pos hnn0 k0 k3
            have hg0 : 0 ≤ g3 s0.1 s0.2.1 s0.2.2 kn := by
              unfold Nn at hnn0
              unfold g3
              split
              · exact hnn0.1
              · split
                · exact hnn0.2.1
                · exact hnn0.2.2
            have hd300 : (mx (oth s0 kn).1 (oth s0 kn).2).toNat ≤ 300 := by
              unfold mx
              split <;> omega
            refine ⟨Nat.zero_le _, fun L hL => ⟨_, rfl, ?_⟩⟩
            refine ⟨fun μ σ H' => ∃ (t : T3) (ms : List (Int × Int)) (q : Addr) (v4 : Option V), σ = [some (.ref p), some (.int kn), some (.ref L), some (.ref q), v4] ∧ Same H1 H' ∧ Tr K H' q t.1 t.2.1 t.2.2 ∧ PairsAt H1 H' L ms ∧ Ok3 t.1 t.2.1 t.2.2 ∧ OnWay t kn ∧ ms ++ tkN (mx (oth t kn).1 (oth t kn).2).toNat t kn = tkR s0 kn ∧
                ms.length + (mx (oth t kn).1 (oth t kn).2).toNat = (mx (oth s0 kn).1 (oth s0 kn).2).toNat ∧ μ = (mx (oth t kn).1 (oth t kn).2).toNat,
              ⟨_, s0, [], p, _, rfl, same_upd hL, hT.same (s1.trans (same_upd hL)), ⟨[], upd_same, .nil⟩, hk3, hw0, rfl, by simp, rfl⟩, ?_⟩
            rintro μ σ H2 ⟨t, ms, q, v4, rfl, s2, hq, hP, ht3, ⟨hw1, hw2⟩, hms, hlen, rfl⟩
            obtain ⟨hnn, hpos⟩ := ok3_Nn ht3
            refine ⟨_, rfl, _, rfl, q, _, _, _, rfl, rfl, hq, at3 k0 k3, _, rfl, q, [t.1, t.2.1, t.2.2], rfl, hq, _, _, rfl, rfl, _, rfl, ?_⟩
            rw [sum3_list]
            refine ite2 (fun z => ?_) (fun z => ?_)
            · have hm : 0 < mx (oth t kn).1 (oth t kn).2 := (less_iff hnn k0 k3).mp (of_decide_eq_true z)
              have ha : ¬ Alone t := hw1.elim (fun e => by omega) id
              obtain ⟨hM, hc, q1, q2, q3, q4, q5⟩ := tw_next hnn ha k0 k3 hw2
              have en : (mx (oth t kn).1 (oth t kn).2).toNat = (mx (oth (mt3 t (tw t kn).1 (tw t kn).2 2) kn).1 (oth (mt3 t (tw t kn).1 (tw t kn).2 2) kn).2).toNat + 1 := by
                obtain ⟨p1, p2, _⟩ := oth_pos q1 k0 k3
                have : 0 ≤ mx (oth (mt3 t (tw t kn).1 (tw t kn).2 2) kn).1 (oth (mt3 t (tw t kn).1 (tw t kn).2 2) kn).2 := by unfold mx; split <;> omega
                omega
              refine ⟨_, fun _ _ z => z, ?_⟩
              refine ⟨_, rfl, _, rfl, q, t, kn, rfl, hq, k0, k3, fun H3 r s3 hr0 hr3 => ?_⟩
              have s13 : Same H1 H3 := s2.trans s3
              have nr : H1 r = none := s2.free hr0
              obtain ⟨acc, hL3, hacc, hP4⟩ := (hP.same s3).app nr hr3
              refine ⟨_, rfl, .inl ⟨rfl, _, .inl (.inl hL3)⟩, _, rfl, L, _, _, rfl, rfl, hL3, ?_, ?_⟩
              · rw [hacc]
                refine Nat.lt_of_le_of_lt (m := 300) ?_ (by decide)
                omega
              have sH4 : Same H1 (upd H3 L (.lst (acc ++ [.ref r]))) := same_new s13 hL
              have hq4 : Tr K (upd H3 L (.lst (acc ++ [.ref r]))) q t.1 t.2.1 t.2.2 := sqT_upd (hq.same s3) hL3
              have hr4 : (upd H3 L (.lst (acc ++ [.ref r]))) r = some (.tup [.int (tw t kn).1, .int (tw t kn).2]) := by
                rw [upd_ne (ne_of hr3 hL3 (fun e => by cases e))]
                exact hr3
              generalize upd H3 L (.lst (acc ++ [.ref r])) = H4 at sH4 hq4 hr4 hP4
              refine ⟨_, rfl, _, rfl, _, _, rfl, .inr (.inr ⟨q, r, t.1, t.2.1, t.2.2, (tw t kn).1, (tw t kn).2, rfl, rfl, hq4, ht3, .inl (.inl hr4), hM, hc, fun H5 q' s5 hq0 hq' => ?_⟩)⟩
              refine ⟨_, ?_, mt3 t (tw t kn).1 (tw t kn).2 2, ms ++ [((tw t kn).1, (tw t kn).2)], q', _, rfl, sH4.trans s5, hq'.sq, hP4.same s5, turn_ok3 hM hc ht3, ⟨q5, q4⟩, ?_, ?_, rfl⟩
              · omega
              · rw [← hms, en, List.append_assoc]
                rfl
              · rw [List.length_append, List.length_singleton]
                omega
            · have hm : mx (oth t kn).1 (oth t kn).2 = 0 := by
                obtain ⟨p1, p2, _⟩ := oth_pos hnn k0 k3
                have : 0 ≤ mx (oth t kn).1 (oth t kn).2 := by unfold mx; split <;> omega
                have : ¬ 0 < mx (oth t kn).1 (oth t kn).2 := fun e => z (decide_eq_true ((less_iff hnn k0 k3).mpr e))
                omega
              have ems : ms = tkR s0 kn := by
                rw [← hms, hm]
                show ms = ms ++ []
                rw [List.append_nil]
              refine ⟨_, rfl, k H2 L (s1.trans s2) (s1.free hL) ?_⟩
              rw [← ems]
              exact hP.pt
end

/-! ### the helpers of the law -/
abbrev sLn : Stmt := topS 37
abbrev sLb : Stmt := topS 38
theorem scLn : FnScope ["_law_cell", "_law_at", "_law_whole", "_law_blend", "_law_more"] ["_law_cell", "_law_at", "_law_whole"] (defScope sLn) := ⟨rfl, rfl, rfl, by decide +kernel, rfl, by decide +kernel, by decide +kernel⟩
theorem scLb : FnScope ["_law_script", "_law_by", "_law_wide", "_law_cells", "_law_whole", "_law_found", "_law_kind", "_law_number_here"] ["_law_script", "_law_by", "_law_wide"] (defScope sLb) := ⟨rfl, rfl, rfl, by decide +kernel, rfl, by decide +kernel, by decide +kernel⟩
section
variable {P : Program} {w : World} {K : PySem.W.Frag} {mg : Str → Option Value} {base : Heap} {f : Addr} {fd : FuncData}
/-- a number, whichever -/
def spLn : Sp := fun vs H Q _ => ∃ (c a s : Int) (n : Nat), vs = [.int c, .int a, .int s] ∧ n ≤ 2000000 ∧ Sz n c ∧ 0 ≤ a ∧ a < 100 ∧ ∀ r : Int, Q (.int r) H
theorem ok_ln (F : FnP K "_law_number" sLn f fd) : FnOk P w K mg base CX0 1 f fd ["_law_cell", "_law_at", "_law_whole"] spLn := by
  refine F.ok scLn (fun vs H Q E h => ?_) (fun cdv A outer s H vs Q E hr h => ?_)
  · obtain ⟨c, a, s, n, rfl, _⟩ := h
    rfl
  · obtain ⟨c, a, s1, n, rfl, hn, hc, a0, a1, k⟩ := h
    refine ⟨_, PSs.nox (pss_cons (ps_if (pt_cmpR op_ge (pv 0) (pe_op op_pow pe_int pe_int) (nomark _)) (pss_one (ps_ret (pe_op op_fdivW (pv 0) (pe_op op_add pe_int (pe_op op_mod (pv 1) pe_int))))) pss_nil)
      (pss_cons (ps_set (i := 3) scLn.nd rfl (.inl rfl) (pe_op op_mod (pe_op op_add (pe_op op_mulX (pe_op op_add (pv 0) (pe_op op_mulX pe_int (pv 1))) pe_int) (pv 2)) pe_int))
      (pss_cons (ps_set (i := 4) scLn.nd rfl (.inl rfl) (pe_op op_mulX (pv 3) (pe_op op_add (pe_op op_add (pv 0) (pe_op op_mulX pe_int (pv 1))) pe_int)))
      (pss_one (ps_ret (pe_op op_fdivW (pe_op op_mulX (pe_op op_mulX (pv 4) (pe_op op_add (pe_op op_add (pv 3) (pv 0)) pe_int)) (pe_op op_add (pe_op op_mulX (pv 3) (pv 3)) pe_int)) (pe_op op_add pe_int (pv 1)))))))), ?_⟩
    have zc : Sz (n + 64) c := hc.mono (by omega)
    have za : Sz 7 a := .small (by show (-128 : Int) < a; omega) (by show a < (128 : Int); omega)
    refine ⟨_, rfl, _, _, rfl, rfl, ⟨by decide, by decide, by decide⟩, _, _, rfl, rfl, _, rfl, ite2 (fun _ => ?_) (fun _ => ?_)⟩
    · have h7 : 0 ≤ a % 7 := Int.emod_nonneg a (by decide)
      have h8 : a % 7 < 7 := Int.emod_lt_of_pos a (by decide)
      refine ⟨_, rfl, _, rfl, _, _, rfl, rfl, (by show (0 : Int) < 7; decide), _, _, rfl, rfl, _, _, rfl, rfl, wide_div (b := 10) (by omega) (by show (1 + a % 7).natAbs < 1024; omega) (by decide) (by decide), k _⟩
    · have z977 : Sz 10 977 := .small (by decide) (by decide)
      have z482 : Sz 16 48271 := .small (by decide) (by decide)
      have z31 : Sz 5 31 := .small (by decide) (by decide)
      have z1 : Sz (n + 64) (977 * a) := (z977.mul za).mono (by omega)
      refine ⟨_, rfl, _, rfl, _, _, rfl, rfl, Sz.cmul z977 za (by decide) (by decide) (by decide), _, _, rfl, rfl, _, _, rfl, rfl, Sz.cmul (zc.add z1) z482 (by omega) (by decide) (by omega), _, rfl, _, _, rfl, rfl, _, _, rfl, rfl, (by show (0 : Int) < 2147483647; decide), ?_⟩
      have key : ∃ b : Int, ((c + 977 * a) * 48271 + s1) % 2147483647 = b := ⟨_, rfl⟩
      obtain ⟨b, hb⟩ := key
      have b0 : 0 ≤ b := by rw [← hb]; exact Int.emod_nonneg _ (by decide)
      have b1 : b < 2147483647 := by rw [← hb]; exact Int.emod_lt_of_pos _ (by decide)
      dsimp only
      rw [hb]
      have zb : Sz 31 b := .small (by show (-2147483648 : Int) < b; omega) (by show b < (2147483648 : Int); omega)
      have z2 : Sz (n + 64) (31 * a) := (z31.mul za).mono (by omega)
      have z7 : Sz (n + 65) 7 := Sz.mono (n := 3) (.small (by decide) (by decide)) (by omega)
      have z3 : Sz (n + 66) (c + 31 * a + 7) := (zc.add z2).add z7
      refine ⟨_, rfl, _, rfl, _, rfl, _, _, rfl, rfl, Sz.cmul z31 za (by decide) (by decide) (by decide), _, _, rfl, rfl, _, _, rfl, rfl, _, _, rfl, rfl, Sz.cmul zb z3 (by decide) (by omega) (by omega), ?_⟩
      have z4 : Sz (n + 97) (b * (c + 31 * a + 7)) := (zb.mul z3).mono (by omega)
      have z5 : Sz (n + 65) 5 := Sz.mono (n := 3) (.small (by decide) (by decide)) (by omega)
      have z6 : Sz (n + 66) (b + c + 5) := ((zb.mono (by omega)).add zc).add z5
      have z8 : Sz 62 (b * b) := zb.mul zb
      have z9 : Sz 62 11 := Sz.mono (n := 4) (.small (by decide) (by decide)) (by decide)
      refine ⟨_, rfl, _, rfl, _, rfl, _, _, rfl, rfl, _, _, rfl, rfl, _, _, rfl, rfl, Sz.cmul z4 z6 (by omega) (by omega) (by omega), _, rfl, _, rfl, _, _, rfl, rfl, Sz.cmul zb zb (by decide) (by decide) (by decide), _, _, rfl, rfl, _, _, rfl, rfl, Sz.cmul (z4.mul z6) (z8.add z9) (by omega) (by decide) (by omega), ?_⟩
      refine ⟨_, rfl, _, _, rfl, rfl, _, _, rfl, rfl, wide_div (b := 11) (by omega) (by show (1009 + a).natAbs < 2048; omega) (by decide) (by decide), k _⟩
/-- the beads by the cells -/
def Few (wd a b c : Int) : Prop := (a < wd ∧ b < wd ∧ c < wd) ∨ a + b + c ≤ wd
def spLb (K : PySem.W.Frag) : Sp := fun vs H Q _ => ∃ (p : Addr) (ns : List Int) (by_ wd : Int) (n : Nat), vs = [.ref p, .int by_, .int wd] ∧ SqL K H p (ns.map V.int) ∧ ns.length ≤ 63 ∧ n ≤ 1900000 ∧ (∀ z ∈ ns, Sz n z) ∧ 0 ≤ by_ ∧ by_ < 10 ∧ 0 < wd ∧
  ∀ (H' : Hp) (r : Addr) (a b c : Int), Same H H' → H r = none → TupF H' r [.int a, .int b, .int c] → Ok3 a b c → Few wd a b c → Q (.ref r) H'
theorem ok_lb {fN : Addr} {fdN : FuncData} (F : FnP K "_law_beads" sLb f fd) (B : Bl mg) (aN : At K mg "_law_number" sLn ["_law_cell", "_law_at", "_law_whole"] fN fdN) : FnOk P w K mg base CX0 2 f fd ["_law_script", "_law_by", "_law_wide"] (spLb K) := by
  have GN : FnOk P w K mg base CX0 1 fN fdN ["_law_cell", "_law_at", "_law_whole"] spLn := ok_ln aN.F
  refine F.ok scLb (fun vs H Q E h => ?_) (fun cdv A outer s H vs Q E hr h => ?_)
  · obtain ⟨p, ns, by_, wd, n, rfl, _⟩ := h
    rfl
  · obtain ⟨p, ns, by_, wd, n, rfl, hS, hlen, hn, hz, y0, y1, w0, k⟩ := h
    refine ⟨_, PSs.nox (pss_cons (ps_set (i := 3) scLb.nd rfl (.inl rfl) (pe_ifExp (pt_cmpR (op_neD hr.units) (pv 0) (pe_lst pa_nil) (nomark _)) (pe_slice sl_list (pv 0) po_none (po_some pe_int)) (pe_lst (pa_cons pe_int pa_nil))))
      (pss_cons (ps_set (i := 4) scLb.nd rfl (.inl rfl) (pe_op op_add (pe_callB call_abs (by rfl) B.abs (by decide +kernel) (pa_cons (pe_callB (cr_sum rfl) (by rfl) B.sum (by decide +kernel) (pa_cons (pv 3) pa_nil)) pa_nil)) (pv 1)))
      (pss_cons (ps_set (i := 5) scLb.nd rfl (.inl rfl) (pe_lst pa_nil))
      (pss_cons (ps_for PassesOwn.never rfl (pi_range1 (by rfl) B.range (pa_cons pe_int pa_nil)) (pg_name (i := 6) scLb.nd rfl (.inl rfl))
        (pss_cons (ps_set (i := 7) scLb.nd rfl (.inl rfl) (pe_op op_fdivW (pe_call GN hr (by rfl) aN.g aN.F.kp aN.b .nil pass0 (pa_cons (pe_ix ix_list (pv 3) (pe_op op_mod (pe_op op_add (pv 6) (pv 1)) (pe_callB call_len_seq (by rfl) B.len PySem.boot_len (pa_cons (pv 3) pa_nil))) (fun _ _ => rfl))
            (pa_cons (pe_op op_add (pv 6) (pe_op op_mul pe_int (pv 1))) (pa_cons (pv 4) pa_nil)))) pe_int))
        (pss_one (ps_expr (pe_bm PySem.F.plainAttrs_list PySem.F.slot_list_append PySem.F.type_list_append mt_append (pv 5) (pa_cons
          (pe_ifExp (pt_cmpR op_eq (pe_op op_mod (pe_op op_fdivW (pv 7) pe_int) pe_int) pe_int (nomark _)) pe_int (pe_op op_mod (pv 7) (pv 2))) pa_nil))))))
      (pss_cons (ps_if (pt_cmpR (op_eqD hr.units) (pv 5) (pe_lst (pa_cons pe_int (pa_cons pe_int (pa_cons pe_int pa_nil)))) (nomark _))
        (pss_one (ps_asg (pe_op op_add pe_int (pe_op op_mod (pv 4) (pv 2))) (pg_sub (pv 5) (pe_op op_mod (pv 4) pe_int) set_list))) pss_nil)
      (pss_one (ps_ret (pe_tupF (pa_cons (pe_ix ix_list (pv 5) pe_int (fun _ _ => rfl)) (pa_cons (pe_ix ix_list (pv 5) pe_int (fun _ _ => rfl)) (pa_cons (pe_ix ix_list (pv 5) pe_int (fun _ _ => rfl)) pa_nil))))))))))), ?_⟩
    refine rd_cells rfl hS hlen hz fun H1 c ms s1 hc1 hc hne hml hmz => ?_
    have hcL : SqL K H1 c (ms.map V.int) := .inl (.inl hc)
    have hpos : 0 < (ms.length : Int) := by
      cases ms with
      | nil => exact absurd rfl hne
      | cons _ _ => rw [List.length_cons]; omega
    refine ⟨_, rfl, c, ms, rfl, hcL, _, rfl, _, rfl, _, _, rfl, rfl, ?_⟩
    dsimp only
    obtain ⟨wh, hwh⟩ : ∃ wh : Int, (if ms.sum < 0 then -ms.sum else ms.sum) + by_ = wh := ⟨_, rfl⟩
    rw [hwh]
    refine ⟨Nat.zero_le _, fun fo hfo => ?_⟩
    refine ⟨3, rfl, by decide, by decide, for_range (lo := 0) (n := 3) (fun i σ H' => (∃ v6 v7, σ = [some (.ref p), some (.int by_), some (.int wd), some (.ref c), some (.int wh), some (.ref fo), v6, v7]) ∧ Same H1 H' ∧ ∃ xs : List Int, xs.length = i ∧ (∀ x ∈ xs, 0 ≤ x ∧ x < wd) ∧ H' fo = some (.lst (xs.map V.int)))
      ⟨⟨none, none, rfl⟩, same_upd hfo, [], rfl, fun _ h => (nomatch h), upd_same⟩ ?_ ?_⟩
    · rintro i σ H2 hi ⟨⟨v6, v7, rfl⟩, sm, xs, hxl, hxs, hX⟩
      have m0 : 0 ≤ ((0 : Int) + (i : Int) + by_) % (ms.length : Int) := Int.emod_nonneg _ (by omega)
      have m1 : ((0 : Int) + (i : Int) + by_) % (ms.length : Int) < (ms.length : Int) := Int.emod_lt_of_pos _ hpos
      obtain ⟨z, hzm, hza⟩ := at_int (ms := ms) m0 m1
      have hcL2 : SqL K H2 c (ms.map V.int) := sm.seq hcL
      refine ⟨_, rfl, _, rfl, _, rfl, _, _, rfl, rfl, _, rfl, c, _, rfl, .inl hcL2, _, _, rfl, rfl, (by rw [List.length_map]; exact hpos), c, _, _, _, rfl, rfl, hcL2, (by rw [List.length_map]; exact hza), ?_⟩
      refine ⟨_, rfl, _, rfl, _, _, rfl, rfl, .inl ⟨by decide, by decide⟩, _, _, rfl, rfl, _, rfl, ?_⟩
      refine ⟨z, _, wh, n + 3, rfl, by omega, hmz z hzm, by omega, by omega, fun r => ?_⟩
      refine ⟨_, _, rfl, rfl, wide_div (b := 2) (by decide) (by decide) (by decide) (by decide), ?_⟩
      refine ⟨_, rfl, .inl ⟨rfl, _, SqL.of hX⟩, ?_⟩
      have hl' : (xs.map V.int).length < sizeLine := by
        rw [List.length_map, hxl]
        exact Nat.lt_of_lt_of_le hi (by decide)
      have step : ∀ y : Int, 0 ≤ y → y < wd → Same H1 (upd H2 fo (.lst (xs.map V.int ++ [V.int y]))) ∧ ∃ xs' : List Int, xs'.length = i + 1 ∧ (∀ x ∈ xs', 0 ≤ x ∧ x < wd) ∧ (upd H2 fo (.lst (xs.map V.int ++ [V.int y]))) fo = some (.lst (xs'.map V.int)) := fun y q0 q1 => by
        refine ⟨same_new sm hfo, xs ++ [y], by rw [List.length_append, hxl]; rfl, fun x hx => ?_, by rw [upd_same, List.map_append]; rfl⟩
        rcases List.mem_append.mp hx with hx | hx
        · exact hxs x hx
        · obtain rfl := List.mem_singleton.mp hx
          exact ⟨q0, q1⟩
      refine ⟨_, rfl, _, _, rfl, rfl, wide_div (b := 3) (by decide) (by decide) (by decide) (by decide), _, _, rfl, rfl, (by show (0 : Int) < 5; decide), rfl, _, rfl, ite2 (fun _ => ?_) (fun _ => ?_)⟩
      · exact ⟨fo, _, _, rfl, rfl, hX, hl', ⟨_, _, rfl⟩, step 0 (by decide) w0⟩
      · exact ⟨_, rfl, _, rfl, _, _, rfl, rfl, w0, fo, _, _, rfl, rfl, hX, hl', ⟨_, _, rfl⟩, step _ (Int.emod_nonneg _ (by omega)) (Int.emod_lt_of_pos _ w0)⟩
    · rintro σ H2 ⟨⟨v6, v7, rfl⟩, sm, xs, hxl, hxs, hX⟩
      have smH : Same H H2 := s1.trans sm
      obtain ⟨x0, x1, x2, rfl⟩ : ∃ x0 x1 x2, xs = [x0, x1, x2] := by
        match xs, hxl with
        | [a, b, c], _ => exact ⟨a, b, c, rfl⟩
      have g0 := hxs x0 (by simp)
      have g1 := hxs x1 (by simp)
      have g2 := hxs x2 (by simp)
      refine ⟨_, rfl, (by show 3 ≤ sizeLine; decide), fun e he => ?_⟩
      have nfe : fo ≠ e := ne_of_none hX he
      have se : Same H2 (upd H2 e (.lst [V.int 0, V.int 0, V.int 0])) := same_upd he
      refine ⟨.list ([x0, x1, x2].map PyData.int), .list (([0, 0, 0] : List Int).map PyData.int), .lst (.inl (.inl (se _ _ hX))) (dpInts _), .lst (.inl (.inl upd_same)) (dpInts [0, 0, 0]), shaped_ints _, shaped_ints _, _, rfl, ?_⟩
      have ee : PyData.eqv (.list ([x0, x1, x2].map PyData.int)) (.list (([0, 0, 0] : List Int).map PyData.int)) = decide ([x0, x1, x2] = [0, 0, 0]) := by
        rw [PyData.eqv]
        exact eqvInts _ _
      rw [ee]
      refine ite2 (fun z => ?_) (fun z => ?_)
      · have z2 : [x0, x1, x2] = [0, 0, 0] := of_decide_eq_true z
        injection z2 with e0 z2
        injection z2 with e1 z2
        injection z2 with e2 z2
        subst e0 e1 e2
        have q0 : 0 ≤ wh % wd := Int.emod_nonneg _ (by omega)
        have q1 : wh % wd < wd := Int.emod_lt_of_pos _ w0
        have t0 : 0 ≤ wh % 3 := Int.emod_nonneg _ (by decide)
        have t1 : wh % 3 < 3 := Int.emod_lt_of_pos _ (by decide)
        refine ⟨_, rfl, _, rfl, _, _, rfl, rfl, w0, _, _, rfl, rfl, _, rfl, _, rfl, _, _, rfl, rfl, (by show (0 : Int) < 3; decide), fo, _, _, (wh % 3).toNat, rfl, rfl, se _ _ hX, ?_, ?_⟩
        · show ixN 3 (wh % 3) = some (wh % 3).toNat
          unfold ixN
          rw [if_pos t0, if_pos (by omega)]
        · have key : ∀ (y0 y1 y2 : Int) (H3 : Hp), H3 = upd (upd H2 e (.lst [V.int 0, V.int 0, V.int 0])) fo (.lst [.int y0, .int y1, .int y2]) → 0 ≤ y0 → 0 ≤ y1 → 0 ≤ y2 → 0 < y0 + y1 + y2 → y0 + y1 + y2 ≤ wd →
              tRet (tTupF (tCons (tOp (rIxL K) (tVar 5) (tC (.int 0))) (tCons (tOp (rIxL K) (tVar 5) (tC (.int 1))) (tCons (tOp (rIxL K) (tVar 5) (tC (.int 2))) tNil)))) { nx := fun _ H' => Q .non H', rt := Q } [some (.ref p), some (.int by_), some (.int wd), some (.ref c), some (.int wh), some (.ref fo), v6, v7] H3 := fun y0 y1 y2 H3 eH b0 b1 b2 b3 b4 => by
            have hL : SqL K H3 fo [.int y0, .int y1, .int y2] := by rw [eH]; exact .inl (.inl upd_same)
            refine ⟨_, rfl, fo, _, _, _, rfl, rfl, hL, at3 (by decide) (by decide), _, rfl, fo, _, _, _, rfl, rfl, hL, at3 (by decide) (by decide), _, rfl, fo, _, _, _, rfl, rfl, hL, at3 (by decide) (by decide), (by show 3 ≤ sizeLine; decide), fun o r ho hr3 => ?_⟩
            have sH3 : Same H H3 := by rw [eH]; exact same_new (smH.trans se) (s1.free hfo)
            exact k _ r y0 y1 y2 (sH3.trans (same_upd hr3)) (sH3.free hr3) ⟨o, ho, upd_same⟩ ⟨b0, b1, b2, b3⟩ (.inr b4)
          have e3 : wh % 3 = 0 ∨ wh % 3 = 1 ∨ wh % 3 = 2 := by omega
          rcases e3 with e3 | e3 | e3
          · rw [e3]
            exact key (1 + wh % wd) 0 0 _ rfl (by omega) (by omega) (by omega) (by omega) (by omega)
          · rw [e3]
            exact key 0 (1 + wh % wd) 0 _ rfl (by omega) (by omega) (by omega) (by omega) (by omega)
          · rw [e3]
            exact key 0 0 (1 + wh % wd) _ rfl (by omega) (by omega) (by omega) (by omega) (by omega)
      · have z2 : ¬ (x0 = 0 ∧ x1 = 0 ∧ x2 = 0) := fun ⟨a, b, c⟩ => z (by rw [a, b, c]; rfl)
        have hL : SqL K (upd H2 e (.lst [V.int 0, V.int 0, V.int 0])) fo [.int x0, .int x1, .int x2] := .inl (.inl (se _ _ hX))
        refine ⟨_, rfl, fo, _, _, _, rfl, rfl, hL, at3 (by decide) (by decide), _, rfl, fo, _, _, _, rfl, rfl, hL, at3 (by decide) (by decide), _, rfl, fo, _, _, _, rfl, rfl, hL, at3 (by decide) (by decide), (by show 3 ≤ sizeLine; decide), fun o r ho hr3 => ?_⟩
        exact k _ r x0 x1 x2 ((smH.trans se).trans (same_upd hr3)) ((smH.trans se).free hr3) ⟨o, ho, upd_same⟩ ⟨g0.1, g1.1, g2.1, by omega⟩ (.inl ⟨g0.2, g1.2, g2.2⟩)
end

abbrev sPl : Stmt := topS 39
abbrev sTr : Stmt := topS 40
abbrev sTo : Stmt := topS 41
abbrev sWa : Stmt := topS 42
theorem scPl : FnScope ["_law_thing", "_law_one"] ["_law_thing"] (defScope sPl) := ⟨rfl, rfl, rfl, by decide +kernel, rfl, by decide +kernel, by decide +kernel⟩
theorem scTr : FnScope ["_law_things", "_law_one"] ["_law_things"] (defScope sTr) := ⟨rfl, rfl, rfl, by decide +kernel, rfl, by decide +kernel, by decide +kernel⟩
theorem scTo : FnScope ["_law_beads_here", "_law_found", "_law_kind", "_law_pair", "_law_shown", "_law_answer", "_law_one"] ["_law_beads_here"] (defScope sTo) := ⟨rfl, rfl, rfl, by decide +kernel, rfl, by decide +kernel, by decide +kernel⟩
theorem scWa : FnScope ["_law_beads_here", "_law_row", "_law_is_joined", "_law_meeting"] ["_law_beads_here", "_law_row", "_law_is_joined"] (defScope sWa) := ⟨rfl, rfl, rfl, by decide +kernel, rfl, by decide +kernel, by decide +kernel⟩
section
variable {P : Program} {w : World} {K : PySem.W.Frag} {mg : Str → Option Value} {base : Heap} {f : Addr} {fd : FuncData}
def spPl (K : PySem.W.Frag) (n : Nat) : Sp := fun vs H Q _ => ∃ x : V, vs = [x] ∧ Pl K n H x ∧ ∀ H', Same H H' → Q (.bl true) H'
theorem ok_pl0 (F : FnP K "_law_plain" sPl f fd) : FnOk P w K mg base CX0 1 f fd ["_law_thing"] (spPl K 0) := by
  refine F.ok scPl (fun vs H Q E h => ?_) (fun cdv A outer s H vs Q E hr h => ?_)
  · obtain ⟨x, rfl, h, _⟩ := h
    exact h.elim
  · obtain ⟨x, rfl, h, _⟩ := h
    exact h.elim
theorem ok_pl1 {n k : Nat} (B : Bl mg) (aP : At K mg "_law_plain" sPl ["_law_thing"] f fd) (ih : FnOk P w K mg base CX0 k f fd ["_law_thing"] (spPl K n)) : FnOk P w K mg base CX0 (k + 1) f fd ["_law_thing"] (spPl K (n + 1)) := by
  refine aP.F.ok scPl (fun vs H Q E h => ?_) (fun cdv A outer s H vs Q E hr h => ?_)
  · obtain ⟨x, rfl, _⟩ := h
    rfl
  · obtain ⟨x, rfl, hx, k⟩ := h
    refine ⟨_, PSs.nox (pss_cons (ps_if (PW.pt (pw_or (pt_val (pe_callB call_isi (by rfl) B.isi (by decide +kernel) (pa_cons (pv 0) (pa_cons (pe_bltn (v := .ty "list") (by rfl) B.lst (by decide +kernel) rfl) pa_nil)))) (pw_or1 (pt_val (pe_callB call_isi (by rfl) B.isi (by decide +kernel) (pa_cons (pv 0) (pa_cons (pe_bltn (v := .ty "tuple") (by rfl) B.tup (by decide +kernel) rfl) pa_nil))))))) (pss_one (ps_ret (pe_callB (cr_all rfl) (by rfl) B.all (by decide +kernel) (pa_cons (pe_lc (own := [("_law_one", 1)]) (g := (gName 1)) (tt := tYes) (te := (tCall (spPl K n) [] E0 (tCons (tVar 1) tNil))) rfl scPl.nd (pi_ei (pi_list (pv 0)) (pi_tup (pv 0))) (blkOk_by (N := ["_law_thing", "_law_one"]) (sc := defScope sPl) (by decide +kernel)) (fun _ _ _ _ _ => (pg_name (i := 1) scPl.nd rfl (.inl rfl))) (fun _ _ _ _ _ => pts_nil) (fun _ _ _ _ _ => (pe_call ih hr (by rfl) aP.g aP.F.kp aP.b .nil pass0 (pa_cons (pv 1) pa_nil)))) pa_nil)))) pss_nil)
      (pss_one (ps_ret (pe_or (pe_cmpR op_isN (pv 0) pe_non (nomark _)) (pe_or (pe_callB call_isi (by rfl) B.isi (by decide +kernel) (pa_cons (pv 0) (pa_cons (pe_bltn (v := .ty "str") (by rfl) B.str (by decide +kernel) rfl) pa_nil))) (pe_one (pe_and (pe_callB call_isi (by rfl) B.isi (by decide +kernel) (pa_cons (pv 0) (pa_cons (pe_bltn (v := .ty "int") (by rfl) B.int (by decide +kernel) rfl) pa_nil))) (pe_one (pe_not (pe_callB call_isi (by rfl) B.isi (by decide +kernel) (pa_cons (pv 0) (pa_cons (pe_bltn (v := .ty "bool") (by rfl) B.bool (by decide +kernel) rfl) pa_nil)))))))))))), ?_⟩
    rcases hx with rfl | ⟨i, rfl⟩ | ⟨a, xs, rfl, hs, hl, hall⟩
    · refine ⟨_, rfl, _, _, _, _, false, rfl, .ty _, .base .non, kit_ty (by decide +kernel), false, rfl, iteF ?_⟩
      refine ⟨_, rfl, _, _, _, _, false, rfl, .ty _, .base .non, kit_ty (by decide +kernel), false, rfl, iteF ?_⟩
      exact ⟨_, rfl, rfl, _, rfl, iteT (k _ (Same.refl _))⟩
    · refine ⟨_, rfl, _, _, _, _, false, rfl, .ty _, .base (.int _), kit_ty (by decide +kernel), false, rfl, iteF ?_⟩
      refine ⟨_, rfl, _, _, _, _, false, rfl, .ty _, .base (.int _), kit_ty (by decide +kernel), false, rfl, iteF ?_⟩
      refine ⟨_, rfl, rfl, _, rfl, iteF ?_⟩
      refine ⟨_, rfl, _, _, _, _, false, rfl, .ty _, .base (.int _), kit_ty (by decide +kernel), _, rfl, iteF ?_⟩
      refine ⟨_, rfl, _, _, _, _, true, rfl, .ty _, .base (.int _), kit_ty (by decide +kernel), _, rfl, iteT ?_⟩
      exact ⟨_, rfl, _, _, _, _, false, rfl, .ty _, .base (.int _), kit_ty (by decide +kernel), _, rfl, k _ (Same.refl _)⟩
    · rcases hs with hs | hs
      · refine ⟨_, rfl, .ref a, _, _, _, true, rfl, .ty _, ty_listL hs, kit_ty (by decide +kernel), true, rfl, iteT (iteT ?_)⟩
        refine .inl ⟨_, rfl, a, rfl, ⟨_, hs⟩, fun D hD => ?_⟩
        refine lc_list (K := K) (a := a) (xs := xs) (fun i H' => Same H H' ∧ H' D = some (.lst ((List.replicate i true).map V.bl))) ⟨same_upd hD, upd_same⟩ (fun i H' _ h => h.1.seq hs) ?_ ?_
        · rintro i x H1 hx ⟨s1, hD1⟩
          refine ⟨rfl, ?_⟩
          dsimp only [tYes]
          refine iteT ?_
          have hi : i < xs.length := (List.getElem?_eq_some_iff.mp hx).1
          refine ⟨_, rfl, x, rfl, Pl.same s1 (hall _ (List.mem_of_getElem? hx)), fun H2 s2 => ⟨_, s2 _ _ hD1, ?_, same_new (s1.trans s2) hD, ?_⟩⟩
          · rw [List.length_map, List.length_replicate]
            omega
          · rw [upd_same, rep_next]
        · rintro H1 ⟨s1, hD1⟩
          refine ⟨D, _, rfl, .inl (.inl hD1), ?_⟩
          rw [all_rep]
          exact k _ s1
      · refine ⟨_, rfl, .ref a, _, _, _, false, rfl, .ty _, ty_tupT hs, kit_ty (by decide +kernel), false, rfl, iteF ?_⟩
        refine ⟨_, rfl, .ref a, _, _, _, true, rfl, .ty _, ty_tupT hs, kit_ty (by decide +kernel), true, rfl, iteT ?_⟩
        refine .inr ⟨_, rfl, a, rfl, ⟨_, hs⟩, fun D hD => ?_⟩
        refine lc_tup (K := K) (a := a) (xs := xs) (fun i H' => Same H H' ∧ H' D = some (.lst ((List.replicate i true).map V.bl))) ⟨same_upd hD, upd_same⟩ (fun i H' _ h => tup_same h.1 hs) ?_ ?_
        · rintro i x H1 hx ⟨s1, hD1⟩
          refine ⟨rfl, ?_⟩
          dsimp only [tYes]
          refine iteT ?_
          have hi : i < xs.length := (List.getElem?_eq_some_iff.mp hx).1
          refine ⟨_, rfl, x, rfl, Pl.same s1 (hall _ (List.mem_of_getElem? hx)), fun H2 s2 => ⟨_, s2 _ _ hD1, ?_, same_new (s1.trans s2) hD, ?_⟩⟩
          · rw [List.length_map, List.length_replicate]
            omega
          · rw [upd_same, rep_next]
        · rintro H1 ⟨s1, hD1⟩
          refine ⟨D, _, rfl, .inl (.inl hD1), ?_⟩
          rw [all_rep]
          exact k _ s1
def spTr (K : PySem.W.Frag) : Sp := fun vs H Q _ => ∃ (a : Addr) (bs : List Bool), vs = [.ref a] ∧ SqL K H a (bs.map V.bl) ∧ bs.length < sizeLine ∧ ∀ H', Same H H' → Q (.bl true) H'
theorem ok_tr (F : FnP K "_law_truths" sTr f fd) (B : Bl mg) : FnOk P w K mg base CX0 1 f fd ["_law_things"] (spTr K) := by
  refine F.ok scTr (fun vs H Q E h => ?_) (fun cdv A outer s H vs Q E hr h => ?_)
  · obtain ⟨x, bs, rfl, _⟩ := h
    rfl
  · obtain ⟨a, bs, rfl, hs, hl, k⟩ := h
    refine ⟨_, PSs.nox (pss_one (ps_ret (pe_callB (cr_all rfl) (by rfl) B.all (by decide +kernel) (pa_cons (pe_lc (own := [("_law_one", 1)]) (g := (gName 1)) (tt := tYes) (te := (tCB (rIsi K) (tCons (tVar 1) (tCons (tC (.ty "bool")) tNil)))) rfl scTr.nd (pi_list (pv 0)) (blkOk_by (N := ["_law_things", "_law_one"]) (sc := defScope sTr) (by decide +kernel)) (fun _ _ _ _ _ => (pg_name (i := 1) scTr.nd rfl (.inl rfl))) (fun _ _ _ _ _ => pts_nil) (fun _ _ _ _ _ => (pe_callB call_isi (by rfl) B.isi (by decide +kernel) (pa_cons (pv 1) (pa_cons (pe_bltn (v := .ty "bool") (by rfl) B.bool (by decide +kernel) rfl) pa_nil))))) pa_nil)))), ?_⟩
    refine ⟨_, rfl, a, rfl, ⟨_, hs⟩, fun D hD => ?_⟩
    refine lc_list (K := K) (a := a) (xs := bs.map V.bl) (fun i H' => Same H H' ∧ H' D = some (.lst ((List.replicate i true).map V.bl))) ⟨same_upd hD, upd_same⟩ (fun i H' _ h => h.1.seq hs) ?_ ?_
    · rintro i x H1 hx ⟨s1, hD1⟩
      have hi : i < bs.length := by
        have := (List.getElem?_eq_some_iff.mp hx).1
        rwa [List.length_map] at this
      rw [List.getElem?_map] at hx
      obtain ⟨z, rfl⟩ : ∃ z : Bool, x = .bl z := by
        cases e : bs[i]? with
        | none => rw [e] at hx; cases hx
        | some z => rw [e] at hx; exact ⟨z, (Option.some.inj hx).symm⟩
      refine ⟨rfl, ?_⟩
      dsimp only [tYes]
      refine iteT ?_
      refine ⟨_, rfl, _, _, _, _, true, rfl, .ty _, .base (.bl _), kit_ty (by decide +kernel), _, hD1, ?_, same_new s1 hD, ?_⟩
      · rw [List.length_map, List.length_replicate]
        omega
      · rw [upd_same, rep_next]
    · rintro H1 ⟨s1, hD1⟩
      refine ⟨D, _, rfl, .inl (.inl hD1), ?_⟩
      rw [all_rep]
      exact k _ s1
def mOf (j : Bool) : Int := if j = true then 1 else 2
def spWa (K : PySem.W.Frag) : Sp := fun vs H Q _ => ∃ (p L : Addr) (j : Bool) (s : T3) (ms : List (Int × Int)), vs = [.ref p, .ref L, .bl j] ∧ Tr K H p s.1 s.2.1 s.2.2 ∧ Ok3 s.1 s.2.1 s.2.2 ∧ PairsT K H L ms ∧ Goes (mOf j) s ms ∧
  ∀ (H' : Hp) (r : Addr), Same H H' → SqT K H' r (tV (run (mOf j) s ms)) → Q (.ref r) H'
theorem ok_wa {fJ fT C1 C2 : Addr} {fdJ fdT : FuncData} (F : FnP K "_law_walked" sWa f fd) (B : Bl mg)
    (aJ : At K mg "joined" sJoin ["beads", "meeting"] fJ fdJ) (GJ : FnOk P w K mg base (L2.CX P w) 5 fJ fdJ ["beads", "meeting"] (spMet K C1 C2 1))
    (aT : At K mg "turned" sTurn ["beads", "meeting"] fT fdT) (GT : FnOk P w K mg base (L2.CX P w) 5 fT fdT ["beads", "meeting"] (spMet K C1 C2 2)) :
    FnOk P w K mg base CX0 6 f fd ["_law_beads_here", "_law_row", "_law_is_joined"] (spWa K) := by
  refine F.ok scWa (fun vs H Q E h => ?_) (fun cdv A outer s H vs Q E hr h => ?_)
  · obtain ⟨p, L, j, s, ms, rfl, _⟩ := h
    rfl
  · obtain ⟨b, L, j, s0, ms, rfl, hb, hk3, hPA, hg, k⟩ := h
    have r5 : Room 5 _ := hr
    refine ⟨_, PSs.nox (pss_cons (ps_for PassesOwn.never rfl (pi_list (pv 1)) (pg_name (i := 3) scWa.nd rfl (.inl rfl)) (pss_one (ps_set (i := 0) scWa.nd rfl (.inl rfl) (pe_ifExp (pt_val (pv 2)) (pe_call GJ r5 (by rfl) aJ.g aJ.F.kp aJ.b .nil passL (pa_cons (pv 0) (pa_cons (pv 3) pa_nil))) (pe_call GT r5 (by rfl) aT.g aT.F.kp aT.b .nil passL (pa_cons (pv 0) (pa_cons (pv 3) pa_nil)))))))
      (pss_one (ps_ret (pv 0)))), ?_⟩
    obtain ⟨rs, hL, hp⟩ := id hPA
    refine ⟨_, rfl, L, rfl, ⟨_, .inl (.inl hL)⟩, for_list (K := K) (a := L) (xs := rs.map V.ref) (fun i σ H' => (∃ h v3, σ = [some (.ref h), some (.ref L), some (.bl j), v3] ∧ SqT K H' h (tV (run (mOf j) s0 (ms.take i))) ∧ Ok3 (run (mOf j) s0 (ms.take i)).1 (run (mOf j) s0 (ms.take i)).2.1 (run (mOf j) s0 (ms.take i)).2.2) ∧ Same H H')
      ⟨⟨b, _, rfl, hb, hk3⟩, Same.refl _⟩ (fun i σ H' _ h => .inl (.inl (h.2 _ _ hL))) ?_ ?_⟩
    · rintro i x σ H1 hx ⟨⟨h, v3, rfl, hh, ho⟩, s1⟩
      obtain ⟨r, hr1, rfl⟩ := ref_get hx
      obtain ⟨y, hy1, hq⟩ := Paired.get hp hr1
      obtain ⟨hM, hc⟩ := hg _ _ hy1
      have hq1 : SqT K H1 r [.int y.1, .int y.2] := tup_same s1 hq
      have hnx := run_next (m := mOf j) (s := s0) hy1
      cases j with
      | true =>
        refine ⟨_, rfl, true, rfl, iteT ?_⟩
        refine ⟨_, rfl, _, rfl, _, _, rfl, .inr (.inr ⟨h, r, _, _, _, y.1, y.2, rfl, rfl, hh, ho, hq1, hM, hc, fun H2 u s2 hu0 hu => ?_⟩)⟩
        refine ⟨⟨u, _, rfl, ?_, ?_⟩, s1.trans s2⟩
        · rw [hnx]
          exact hu.sq
        · rw [hnx]
          exact join_ok3 hM hc ho
      | false =>
        refine ⟨_, rfl, false, rfl, iteF ?_⟩
        refine ⟨_, rfl, _, rfl, _, _, rfl, .inr (.inr ⟨h, r, _, _, _, y.1, y.2, rfl, rfl, hh, ho, hq1, hM, hc, fun H2 u s2 hu0 hu => ?_⟩)⟩
        refine ⟨⟨u, _, rfl, ?_, ?_⟩, s1.trans s2⟩
        · rw [hnx]
          exact hu.sq
        · rw [hnx]
          exact turn_ok3 hM hc ho
    · rintro σ H1 ⟨⟨h, v3, rfl, hh, ho⟩, s1⟩
      rw [List.length_map, Paired.length hp, List.take_length] at hh
      exact ⟨_, rfl, k _ _ s1 hh⟩
def spTo : Sp := fun vs H Q _ => ∃ (p : Addr) (s : T3), vs = [.ref p] ∧ TupF H p (tV s) ∧ Ok3 s.1 s.2.1 s.2.2 ∧ ∀ H', Same H H' → Q (.bl true) H'
theorem ok_to {fS fL fF fF2 fK fJ fT fA fP fTr C1 C2 C3 CK CN CA CB fSA fSB : Addr} {fdS fdL fdF fdF2 fdK fdJ fdT fdA fdP fdTr fdSA fdSB : FuncData} {psA psB : List Str} {tk : T3 → Int → List (Int × Int)} (F : FnP K "_law_told_right" sTo f fd) (B : Bl mg)
    (hcl : AnsK K CN CA CB) (gA : mg "All" = some (.ref CA)) (htk : TkOk tk)
    (hA : ShOk P w K mg base CA fSA fdSA psA (spShA K CA)) (hB : ShOk P w K mg base CB fSB fdSB psB (spShB K CB)) (hMk : MkOk P w K mg base CA CB)
    (aS : At K mg "meetings" sMeet ["beads"] fS fdS) (GS : FnOk P w K mg base (L2.CX P w) 4 fS fdS ["beads"] (spMs K C1))
    (aL : At K mg "last_kinds" sLk ["beads"] fL fdL) (GL : FnOk P w K mg base (L2.CX P w) 6 fL fdL ["beads"] (spLk K C1))
    (aF : At K mg "fewest_left" sFl ["beads"] fF fdF) (GF : FnOk P w K mg base (L2.CX P w) 6 fF fdF ["beads"] (spFl K C1))
    (aF2 : At K mg "to_fewest" sTf ["beads"] fF2 fdF2) (GF2 : FnOk P w K mg base (L2.CX P w) 6 fF2 fdF2 ["beads"] (spTf K C1 C3))
    (aK : At K mg "to_kind" sTk ["beads", "kind"] fK fdK) (GK : FnOk P w K mg base (L2.CX P w) 6 fK fdK ["beads", "kind"] (spTk K C1 CK C3 tk))
    (aJ : At K mg "joined" sJoin ["beads", "meeting"] fJ fdJ) (GJ : FnOk P w K mg base (L2.CX P w) 5 fJ fdJ ["beads", "meeting"] (spMet K C1 C2 1))
    (aT : At K mg "turned" sTurn ["beads", "meeting"] fT fdT) (GT : FnOk P w K mg base (L2.CX P w) 5 fT fdT ["beads", "meeting"] (spMet K C1 C2 2))
    (aA : At K mg "all_of" sAo ["beads", "kind"] fA fdA) (GA : FnOk P w K mg base (L2.CX P w) 6 fA fdA ["beads", "kind"] (spAo K C1 CK CA CB))
    (aP : At K mg "_law_plain" sPl ["_law_thing"] fP fdP) (GP : FnOk P w K mg base CX0 5 fP fdP ["_law_thing"] (spPl K 4))
    (aTr : At K mg "_law_truths" sTr ["_law_things"] fTr fdTr) (GTr : FnOk P w K mg base CX0 1 fTr fdTr ["_law_things"] (spTr K)) :
    FnOk P w K mg base CX0 7 f fd ["_law_beads_here"] spTo := by
  refine F.ok scTo (fun vs H Q E h => ?_) (fun cdv A outer s H vs Q E hr h => ?_)
  · obtain ⟨p, s, rfl, _⟩ := h
    rfl
  · obtain ⟨b, s0, rfl, hbF, hk3, k⟩ := h
    have hb : Tr K H b s0.1 s0.2.1 s0.2.2 := hbF.sq
    have r1 : Room 1 _ := hr.mono (by decide)
    have r3 : Room 3 _ := hr.mono (by decide)
    have r4 : Room 4 _ := hr.mono (by decide)
    have r5 : Room 5 _ := hr.mono (by decide)
    have r6 : Room 6 _ := hr
    refine ⟨_, PSs.nox (pss_cons (ps_set (i := 1) scTo.nd rfl (.inl rfl) (pe_lst (pa_cons (pe_call GS r4 (by rfl) aS.g aS.F.kp aS.b .nil passL (pa_cons (pv 0) pa_nil)) (pa_cons (pe_call GL r6 (by rfl) aL.g aL.F.kp aL.b .nil passL (pa_cons (pv 0) pa_nil)) (pa_cons (pe_call GF r6 (by rfl) aF.g aF.F.kp aF.b .nil passL (pa_cons (pv 0) pa_nil)) pa_nil)))))
      (C8.pss_cut (ps_if (pt_cmpR op_lt (pe_callB (cr_sumT rfl) (by rfl) B.sum (by decide +kernel) (pa_cons (pv 0) pa_nil)) pe_int (nomark _)) (pss_one (ps_set (i := 1) scTo.nd rfl (.inl rfl) (pe_op op_cat (pe_op op_cat (pv 1) (pe_lst (pa_cons (pe_call GF2 r6 (by rfl) aF2.g aF2.F.kp aF2.b .nil passL (pa_cons (pv 0) pa_nil)) pa_nil))) (pe_lc (own := [("_law_kind", 2)]) (g := (gName 2)) (tt := tYes) (te := (tCall (spTk K C1 CK C3 tk) [] E0 (tCons (tVar 0) (tCons (tVar 2) tNil)))) rfl scTo.nd (pi_range1 (by rfl) B.range (pa_cons pe_int pa_nil)) (blkOk_by (N := ["_law_beads_here", "_law_found", "_law_kind", "_law_pair", "_law_shown", "_law_answer", "_law_one"]) (sc := defScope sTo) (by decide +kernel)) (fun _ _ _ _ _ => (pg_name (i := 2) scTo.nd rfl (.inl rfl))) (fun _ _ _ _ _ => pts_nil) (fun _ _ _ _ _ => (pe_call GK r6 (by rfl) aK.g aK.F.kp aK.b .nil passL (pa_cons (pv 0) (pa_cons (pv 2) pa_nil)))))))) pss_nil)
      (pss_cons (ps_for PassesOwn.never rfl (pi_list (pe_call GS r4 (by rfl) aS.g aS.F.kp aS.b .nil passL (pa_cons (pv 0) pa_nil))) (pg_name (i := 3) scTo.nd rfl (.inl rfl)) (pss_cons (ps_set (i := 1) scTo.nd rfl (.inl rfl) (pe_op op_cat (pv 1) (pe_lst (pa_cons (pe_call GJ r5 (by rfl) aJ.g aJ.F.kp aJ.b .nil passL (pa_cons (pv 0) (pa_cons (pv 3) pa_nil))) (pa_cons (pe_call GT r5 (by rfl) aT.g aT.F.kp aT.b .nil passL (pa_cons (pv 0) (pa_cons (pv 3) pa_nil))) pa_nil)))))
      (pss_one (ps_if (PW.pt (pw_or (pt_not (pt_val (pe_callB call_isi (by rfl) B.isi (by decide +kernel) (pa_cons (pe_call GJ r5 (by rfl) aJ.g aJ.F.kp aJ.b .nil passL (pa_cons (pv 0) (pa_cons (pv 3) pa_nil))) (pa_cons (pe_bltn (v := .ty "tuple") (by rfl) B.tup (by decide +kernel) rfl) pa_nil))))) (pw_or1 (pt_not (pt_val (pe_callB call_isi (by rfl) B.isi (by decide +kernel) (pa_cons (pe_call GT r5 (by rfl) aT.g aT.F.kp aT.b .nil passL (pa_cons (pv 0) (pa_cons (pv 3) pa_nil))) (pa_cons (pe_bltn (v := .ty "tuple") (by rfl) B.tup (by decide +kernel) rfl) pa_nil)))))))) (pss_one (ps_ret pe_bl)) pss_nil))))
      (pss_cons (ps_set (i := 4) scTo.nd rfl (.inl rfl) (pe_lst pa_nil))
      (pss_cons (ps_for PassesOwn.never rfl (pi_range1 (by rfl) B.range (pa_cons pe_int pa_nil)) (pg_name (i := 2) scTo.nd rfl (.inr rfl)) (pss_cons (ps_set (i := 5) scTo.nd rfl (.inl rfl) (pe_call GA r6 (by rfl) aA.g aA.F.kp aA.b .nil passL (pa_cons (pv 0) (pa_cons (pv 2) pa_nil))))
      (C8.pss_cut (ps_if (pt_val (pe_callB call_isi (by rfl) B.isi (by decide +kernel) (pa_cons (pv 5) (pa_cons (pe_glob (v := .ref CA) (by rfl) gA rfl) pa_nil)))) (pss_one (ps_expr (pe_bm PySem.F.plainAttrs_list PySem.F.slot_list_append PySem.F.type_list_append mt_append (pv 1) (pa_cons (pe_fld (pv 5) rfl) pa_nil)))) pss_nil)
      (pss_one (ps_set (i := 4) scTo.nd rfl (.inl rfl) (pe_op op_cat (pv 4) (pe_lc (own := [("_law_one", 6)]) (g := (gName 6)) (tt := tYes) (te := (tEi (tMeth CA "shows" (spShA K CA) [] E0 (tVar 6) (tCons (tVar 0) (tCons (tVar 2) tNil))) (tMeth CB "shows" (spShB K CB) [] E0 (tVar 6) (tCons (tVar 0) (tCons (tVar 2) tNil))))) rfl scTo.nd (pi_list (pe_lst (pa_cons (pv 5) (pa_cons (hMk.a rfl rfl rfl rfl rfl r3 (by rfl) (pa_cons pe_int pa_nil) (by rfl)) (pa_cons (hMk.b rfl rfl rfl rfl rfl r3 (by rfl)) pa_nil))))) (blkOk_by (N := ["_law_beads_here", "_law_found", "_law_kind", "_law_pair", "_law_shown", "_law_answer", "_law_one"]) (sc := defScope sTo) (by decide +kernel)) (fun _ _ _ _ _ => (pg_name (i := 6) scTo.nd rfl (.inl rfl))) (fun _ _ _ _ _ => pts_nil) (fun _ _ _ _ _ => (pe_ei (pe_meth (pv 6) hcl.A.cl hA.m hA.G r6 hA.b .nil passL (pa_cons (pv 0) (pa_cons (pv 2) pa_nil))) (pe_meth (pv 6) hcl.B.cl hB.m hB.G r6 hB.b .nil passL (pa_cons (pv 0) (pa_cons (pv 2) pa_nil))))))))))))
      (pss_cons (ps_if (pt_not (pt_val (pe_call GP r5 (by rfl) aP.g aP.F.kp aP.b .nil pass0 (pa_cons (pv 1) pa_nil)))) (pss_one (ps_ret pe_bl)) pss_nil)
      (pss_one (ps_ret (pe_call GTr r1 (by rfl) aTr.g aTr.F.kp aTr.b .nil pass0 (pa_cons (pv 4) pa_nil)))))))))), ?_⟩
    obtain ⟨hnn, hpos⟩ := ok3_Nn hk3
    refine ⟨_, rfl, _, rfl, .inr ⟨b, _, _, _, rfl, hb, hk3, fun H1 W s1 hW0 hPA => ?_⟩⟩
    refine ⟨_, rfl, _, rfl, .inr ⟨b, s0, rfl, tup_same s1 hb, hk3, fun H2 L2 s2 hL20 hL2 => ?_⟩⟩
    refine ⟨_, rfl, _, rfl, .inr ⟨b, s0, rfl, tup_same (s1.trans s2) hb, hk3, fun H3 s3 => ⟨(by show 3 ≤ sizeLine; decide), fun f0 hf0 => ?_⟩⟩⟩
    have s13 : Same H H3 := s1.trans (s2.trans s3)
    have hfd : Fd K H (upd H3 f0 (.lst [.ref W, .ref L2, .int (fewest s0)])) f0 3 := ⟨H3, [.ref W, .ref L2, .int (fewest s0)], s13, same_upd hf0, hf0, upd_same, Nat.le_refl _, fun x hx => by
      simp only [List.mem_cons, List.mem_nil_iff, or_false] at hx
      rcases hx with rfl | rfl | rfl
      · exact ((hPA.same s2).same s3).pt.pl cans_len
      · exact Pl.listI (.inl (.inl (s3 _ _ hL2))) (Nat.lt_of_le_of_lt (List.length_filter_le _ _) (by decide))
      · exact Pl.int⟩
    generalize upd H3 f0 (.lst [.ref W, .ref L2, .int (fewest s0)]) = H4 at hfd
    refine ⟨fun σ' H' => (∃ L v2 v3 v4 v5 v6, σ' = [some (.ref b), some (.ref L), v2, v3, v4, v5, v6] ∧ Fd K H H' L 10), ?_, ?_⟩
    · refine ⟨_, rfl, b, [s0.1, s0.2.1, s0.2.2], rfl, tup_same hfd.sames hb, _, _, rfl, rfl, _, rfl, ite2 (fun z => ?_) (fun z => ⟨_, _, _, _, _, _, rfl, hfd.le (by decide)⟩)⟩
      have h300 : sm s0 ≤ 300 := by
        have := of_decide_eq_true z
        rw [sum3_list] at this
        omega
      refine ⟨_, rfl, _, rfl, _, rfl, .inr ⟨b, s0, rfl, tup_same hfd.sames hb, hk3, .inr ⟨h300, hbF.same hfd.sames, fun H5 M ms s5 hM0 hPT hfr => ⟨(by show 1 ≤ sizeLine; decide), fun l6 hl6 => ?_⟩⟩⟩⟩
      have hfd6 := (hfd.same s5).same (same_upd (o := .lst [.ref M]) hl6)
      have hmlen : ms.length < sizeLine := by
        have h1 := (join_keeps hnn hfr.1.full).2.1
        have h2 := (join_keeps hnn hfr.1.full).1
        unfold Nn at h2
        have h3 : 0 ≤ sm (run 1 s0 ms) := by unfold sm; omega
        refine Nat.lt_of_le_of_lt (m := 300) ?_ (by decide)
        omega
      obtain ⟨xs, hxs, hxl, hcat⟩ := hfd6.cat (b := l6) (zs := [.ref M]) (m := 1) upd_same (Nat.le_refl _) (fun x hx => by
        obtain rfl := List.mem_singleton.mp hx
        exact Pl.same (same_upd hl6) (hPT.pl hmlen))
      refine ⟨_, _, xs, _, rfl, rfl, hxs, upd_same, Nat.le_trans (Nat.add_le_add hxl (Nat.le_refl 1)) (by decide), fun p7 hp7 => ?_⟩
      have hfd7 := hcat p7 hp7
      generalize upd (upd H5 l6 (.lst [.ref M])) p7 (.lst (xs ++ [.ref M])) = H7 at hfd7
      clear hcat hxs
      refine ⟨3, rfl, by decide, by decide, fun D hD => ?_⟩
      refine lc_range (lo := 0) (n := 3) (fun i H' => Same H7 H' ∧ Fc K H' D i) ⟨same_upd hD, [], upd_same, rfl, fun _ h => (nomatch h)⟩ ?_ ?_
      · rintro i H8 hi ⟨s8, hF8⟩
        refine ⟨rfl, ?_⟩
        dsimp only [tYes]
        refine iteT ?_
        have hb8 := tup_same (hfd7.sames.trans s8) hb
        obtain ⟨ys, hys, _⟩ := id hF8
        refine ⟨_, rfl, _, rfl, _, _, rfl, .inr ⟨b, s0, rfl, hb8, hk3, .inr ⟨0 + (i : Int), rfl, by omega, by omega, .inr ⟨h300, ?_⟩⟩⟩⟩
        cases hst : stepsT s0 (0 + (i : Int)) with
        | none =>
          refine .inl ⟨rfl, fun H9 s9 => ?_⟩
          obtain ⟨zs, z1, z2, z3⟩ := hF8.app (y := .non) s9 Pl.non
          exact ⟨zs, z1, by rw [z2]; exact Nat.lt_trans hi (by decide), same_new (s8.trans s9) hD, z3⟩
        | some d =>
          refine .inr ⟨d, rfl, fun H9 M2 s9 hM20 hPT2 => ?_⟩
          have hlen := (htk s0 _ d hk3 (by omega) (by omega) h300 hst).2.2
          have hd := (steps_le hnn (by omega) (by omega) hst).2
          have hPl := (hPT2.er (s9 _ _ hys) (fun e => by rw [e, hys] at hM20; cases hM20)).pl (n := 0) (Nat.lt_of_le_of_lt (m := 300) (by omega) (by decide))
          obtain ⟨zs, z1, z2, z3⟩ := hF8.app (y := .ref M2) s9 hPl
          exact ⟨zs, z1, by rw [z2]; exact Nat.lt_trans hi (by decide), same_new (s8.trans s9) hD, z3⟩
      · rintro H8 ⟨s8, ys, hys, hyl, hyp⟩
        obtain ⟨xs2, hxs2, hxl2, hcat2⟩ := (hfd7.same s8).cat hys (Nat.le_of_eq hyl) (fun z hz => Pl.same er_le (hyp z hz))
        exact ⟨_, _, xs2, ys, rfl, rfl, hxs2, hys, Nat.le_trans (Nat.add_le_add hxl2 (Nat.le_of_eq hyl)) (by decide), fun p9 hp9 => ⟨_, _, _, _, _, _, rfl, (hcat2 p9 hp9).le (by decide)⟩⟩
    · rintro σ H5 ⟨L, v2, v3, v4, v5, v6, rfl, hfd5⟩
      refine ⟨_, rfl, _, rfl, .inr ⟨b, _, _, _, rfl, tup_same hfd5.sames hb, hk3, fun H6 W2 s6 hW20 hPA2 => ?_⟩⟩
      obtain ⟨rs, hW2, hWp⟩ := id hPA2
      refine ⟨W2, rfl, ⟨_, .inl (.inl hW2)⟩, for_list (K := K) (a := W2) (xs := rs.map V.ref) (fun i σ H' => (∃ L v2 v3 v4 v5 v6, σ = [some (.ref b), some (.ref L), v2, v3, v4, v5, v6] ∧ Fd K H H' L (10 + 2 * i)) ∧ Same H6 H')
        ⟨⟨_, _, _, _, _, _, rfl, hfd5.same s6⟩, Same.refl _⟩ (fun i σ H' _ h => .inl (.inl (h.2 _ _ hW2))) ?_ ?_⟩
      · rintro i x σ H7 hx ⟨⟨L, v2, v3, v4, v5, v6, rfl, hfd7⟩, s7⟩
        obtain ⟨r, hr1, rfl⟩ := ref_get hx
        obtain ⟨⟨lo, hi⟩, hq1, _, hq⟩ := Paired.get hWp hr1
        obtain ⟨hM, hcan⟩ := mem_cans (List.mem_of_getElem? hq1)
        have hM : Mt lo hi := hM
        have hi3 : i < 3 := by
          have h1 := (List.getElem?_eq_some_iff.mp hq1).1
          exact Nat.lt_of_lt_of_le h1 (List.length_filter_le _ _)
        have hb7 : Tr K H7 b s0.1 s0.2.1 s0.2.2 := tup_same hfd7.sames hb
        have hr7 : Pr K H7 r lo hi := .inl (.inl (s7 _ _ hq))
        refine ⟨_, rfl, _, rfl, _, rfl, _, _, rfl, .inr (.inr ⟨b, r, _, _, _, lo, hi, rfl, rfl, hb7, hk3, hr7, hM, hcan, fun H8 u s8 hu0 hu => ?_⟩)⟩
        refine ⟨_, rfl, _, rfl, _, _, rfl, .inr (.inr ⟨b, r, _, _, _, lo, hi, rfl, rfl, tup_same s8 hb7, hk3, tup_same s8 hr7, hM, hcan, fun H9 u2 s9 hu20 hu2 => ?_⟩)⟩
        refine ⟨(by show 2 ≤ sizeLine; decide), fun l10 hl10 => ?_⟩
        obtain ⟨xs, hxs, hxl, hcat⟩ := (((hfd7.same s8).same s9).same (same_upd (o := .lst [.ref u, .ref u2]) hl10)).cat (b := l10) (zs := [.ref u, .ref u2]) (m := 2) upd_same (Nat.le_refl _) (fun x hx => by
          simp only [List.mem_cons, List.mem_nil_iff, or_false] at hx
          rcases hx with rfl | rfl
          · exact Pl.tupI (ns := [_, _, _]) (((hu.same s9).same (same_upd hl10)).sq) (by show 3 < sizeLine; decide)
          · exact Pl.tupI (ns := [_, _, _]) ((hu2.same (same_upd hl10)).sq) (by show 3 < sizeLine; decide))
        refine ⟨L, l10, xs, [.ref u, .ref u2], rfl, rfl, hxs, upd_same, Nat.le_trans (Nat.add_le_add (Nat.le_trans hxl (Nat.add_le_add_left (Nat.mul_le_mul_left 2 (Nat.le_of_lt hi3)) 10)) (Nat.le_refl 2)) (by decide), fun p11 hp11 => ?_⟩
        have hfd11 := hcat p11 hp11
        have s711 : Same H7 (upd (upd H9 l10 (.lst [.ref u, .ref u2])) p11 (.lst (xs ++ [.ref u, .ref u2]))) := s8.trans (s9.trans ((same_upd hl10).trans (same_upd hp11)))
        generalize upd (upd H9 l10 (.lst [.ref u, .ref u2])) p11 (.lst (xs ++ [.ref u, .ref u2])) = H11 at hfd11 s711
        have hb11 := tup_same s711 hb7
        have hr11 := tup_same s711 hr7
        refine ⟨_, rfl, _, rfl, _, _, rfl, .inr (.inr ⟨b, r, _, _, _, lo, hi, rfl, rfl, hb11, hk3, hr11, hM, hcan, fun H12 u3 s12 hu30 hu3 => ?_⟩)⟩
        refine ⟨.ref u3, _, _, _, true, rfl, .ty _, ty_tupT hu3.sq, kit_ty (by decide +kernel), true, rfl, iteF ?_⟩
        refine ⟨_, rfl, _, rfl, _, _, rfl, .inr (.inr ⟨b, r, _, _, _, lo, hi, rfl, rfl, tup_same s12 hb11, hk3, tup_same s12 hr11, hM, hcan, fun H13 u4 s13 hu40 hu4 => ?_⟩)⟩
        refine ⟨.ref u4, _, _, _, true, rfl, .ty _, ty_tupT hu4.sq, kit_ty (by decide +kernel), true, rfl, iteF ?_⟩
        exact ⟨⟨_, _, _, _, _, _, rfl, ((hfd11.same s12).same s13).le (by omega)⟩, s7.trans (s711.trans (s12.trans s13))⟩
      · rintro σ H7 ⟨⟨L, v2, v3, v4, v5, v6, rfl, hfd7⟩, s7⟩
        have hln : (rs.map V.ref).length ≤ 3 := by
          rw [List.length_map, Paired.length hWp]
          exact List.length_filter_le _ _
        have hfd7 : Fd K H H7 L 16 := hfd7.le (by omega)
        refine ⟨Nat.zero_le _, fun S0 hS0 => ?_⟩
        obtain ⟨xsL, hL7⟩ : ∃ xs, H7 L = some (.lst xs) := by
          obtain ⟨_, xs, _, _, _, h, _⟩ := id hfd7
          exact ⟨xs, h⟩
        have nLS : L ≠ S0 := fun e => by rw [e, hS0] at hL7; cases hL7
        refine ⟨3, rfl, by decide, by decide, for_range (lo := 0) (n := 3) (fun i σ H' => (∃ S v2 v3 v5 v6, σ = [some (.ref b), some (.ref L), v2, v3, some (.ref S), v5, v6] ∧ L ≠ S ∧ ∃ bs : List Bool, H' S = some (.lst (bs.map V.bl)) ∧ bs.length = 3 * i) ∧ Fd K H H' L (16 + i))
          ⟨⟨_, _, _, _, _, rfl, nLS, [], upd_same, rfl⟩, hfd7.same (same_upd hS0)⟩ ?_ ?_⟩
        · rintro i σ H8 hi ⟨⟨S, v2, v3, v5, v6, rfl, nLS, bs, hS, hbl⟩, hfd8⟩
          refine ⟨_, rfl, _, rfl, _, _, rfl, .inr ⟨b, s0, rfl, tup_same hfd8.sames hb, hk3, .inr ⟨0 + (i : Int), rfl, by omega, by omega, fun H9 a s9 ha0 hans => ?_⟩⟩⟩
          have hfd9 := hfd8.same s9
          have hS9 := s9 _ _ hS
          have hi3 : i < 3 := hi
          refine ⟨fun σ' H' => (∃ v3 v6, σ' = [some (.ref b), some (.ref L), some (.int (0 + (i : Int))), v3, some (.ref S), some (.ref a), v6]) ∧ Fd K H H' L (17 + i) ∧ H' S = some (.lst (bs.map V.bl)) ∧ IsAns CA CB H' a (stepsT s0 (0 + (i : Int))), ?_, ?_⟩
          · cases hst : stepsT s0 (0 + (i : Int)) with
            | none =>
              rw [hst] at hans
              obtain ⟨dx, fs, hbar, hsh⟩ := id hans
              exact ⟨_, rfl, _, _, _, _, false, rfl, .own _, hcl.B.ty hbar, hcl.ba, false, rfl, iteF ⟨⟨_, _, rfl⟩, hfd9.le (by omega), hS9, hans⟩⟩
            | some d =>
              rw [hst] at hans
              obtain ⟨dx, fs, hall, hfs, hsh⟩ := id hans
              refine ⟨_, rfl, _, _, _, _, true, rfl, .own _, hcl.A.ty hall, hcl.aa, true, rfl, iteT ?_⟩
              obtain ⟨xs, hxs, hxl, happ⟩ := hfd9.app (i := d)
              refine ⟨_, rfl, .inl ⟨rfl, _, SqL.of hxs⟩, _, rfl, a, CA, dx, fs, _, rfl, hall, hcl.A.cl, hcl.st, hfs, L, xs, _, rfl, rfl, hxs, Nat.lt_of_le_of_lt hxl (Nat.lt_of_lt_of_le (Nat.add_lt_add_left hi3 16) (by decide)), ⟨_, _, rfl⟩, happ.le (by omega), ?_, ?_⟩
              · rw [upd_ne (fun e => nLS e.symm)]
                exact hS9
              · exact ⟨dx, fs, by rw [upd_ne (fun e => by rw [e, hxs] at hall; cases hall)]; exact hall, hfs, hsh⟩
          · rintro σ H10 ⟨⟨v3, v6, rfl⟩, hfd10, hS10, hans10⟩
            have hb10 := tup_same hfd10.sames hb
            refine ⟨_, rfl, _, rfl, _, rfl, fun H11 a1 s11 ha10 hall1 => ?_⟩
            refine fun H12 a2 s12 ha20 hbar2 => ⟨(by show 3 ≤ sizeLine; decide), fun l13 hl13 => ⟨l13, rfl, ⟨_, .inl (.inl upd_same)⟩, fun D hD => ?_⟩⟩
            have s13 : Same H12 (upd H12 l13 (.lst [.ref a, .ref a1, .ref a2])) := same_upd hl13
            have al13 : (upd H12 l13 (.lst [.ref a, .ref a1, .ref a2])) l13 = some (.lst [.ref a, .ref a1, .ref a2]) := upd_same
            generalize upd H12 l13 (.lst [.ref a, .ref a1, .ref a2]) = H13 at s13 al13 hD
            have s1013 : Same H10 H13 := s11.trans (s12.trans s13)
            refine lc_list (K := K) (a := l13) (xs := [.ref a, .ref a1, .ref a2]) (fun i H' => Same H13 H' ∧ ∃ cs : List Bool, H' D = some (.lst (cs.map V.bl)) ∧ cs.length = i) ⟨same_upd hD, [], upd_same, rfl⟩ (fun i H' _ h => .inl (.inl (h.1 _ _ al13))) ?_ ?_
            · rintro j x H14 hx ⟨s14, cs, hD14, hcl14⟩
              have hj : j < 3 := (List.getElem?_eq_some_iff.mp hx).1
              obtain ⟨g, o, rfl, hg⟩ : ∃ (g : Addr) (o : Option Int), x = .ref g ∧ IsAns CA CB H13 g o := by
                match j, hx with
                | 0, hx => exact ⟨a, _, (Option.some.inj hx).symm, hans10.same s1013⟩
                | 1, hx => exact ⟨a1, some 0, (Option.some.inj hx).symm, IsAll.same (s12.trans s13) hall1⟩
                | 2, hx => exact ⟨a2, none, (Option.some.inj hx).symm, IsBar.same s13 hbar2⟩
                | n + 3, hx => simp at hx
              have hg14 := hg.same s14
              have hb14 := tup_same (s1013.trans s14) hb10
              have fin : ∀ (c : Bool) (H15 : Hp), Same H14 H15 → ∃ acc : List V, H15 D = some (.lst acc) ∧ acc.length < sizeLine ∧ (Same H13 (upd H15 D (.lst (acc ++ [.bl c]))) ∧ ∃ cs : List Bool, (upd H15 D (.lst (acc ++ [.bl c]))) D = some (.lst (cs.map V.bl)) ∧ cs.length = j + 1) := fun c H15 s15 =>
                ⟨_, s15 _ _ hD14, by rw [List.length_map, hcl14]; exact Nat.lt_trans hj (by decide), same_new (s14.trans s15) hD, cs ++ [c], by rw [upd_same, List.map_append]; rfl, by rw [List.length_append, hcl14]; rfl⟩
              refine ⟨rfl, ?_⟩
              dsimp only [tYes]
              refine iteT ?_
              cases o with
              | none =>
                obtain ⟨dx, fs, hg1, hsh⟩ := id hg14
                exact .inr ⟨_, rfl, g, dx, fs, rfl, hg1, hsh, _, rfl, _, rfl, g, b, s0, 0 + (i : Int), rfl, hg14, hb14, hk3, by omega, by omega, fun H15 s15 => fin _ H15 s15⟩
              | some d =>
                obtain ⟨dx, fs, hg1, hfs, hsh⟩ := id hg14
                exact .inl ⟨_, rfl, g, dx, fs, rfl, hg1, hsh, _, rfl, _, rfl, g, b, s0, 0 + (i : Int), d, rfl, hg14, hb14, hk3, by omega, by omega, fun H15 s15 => fin _ H15 s15⟩
            · rintro H14 ⟨s14, cs, hD14, hcl14⟩
              have hS14 : H14 S = some (.lst (bs.map V.bl)) := s14 _ _ (s1013 _ _ hS10)
              have hfd14 := (hfd10.same s1013).same s14
              refine ⟨S, D, _, _, rfl, rfl, hS14, hD14, ?_, fun p15 hp15 => ⟨⟨_, _, _, _, _, rfl, ?_, bs ++ cs, by rw [upd_same, List.map_append], by rw [List.length_append, hbl, hcl14]; rfl⟩, (hfd14.same (same_upd hp15)).le (by omega)⟩⟩
              · rw [List.length_map, List.length_map, hbl, hcl14]
                exact Nat.le_trans (Nat.add_le_add (Nat.mul_le_mul_left 3 (Nat.le_of_lt hi3)) (Nat.le_refl 3)) (by decide)
              · intro e
                obtain ⟨_, xs, _, _, _, h, _⟩ := id hfd14
                rw [e, hp15] at h
                cases h
        · rintro σ H8 ⟨⟨S, v2, v3, v5, v6, rfl, nLS, bs, hS, hbl⟩, hfd8⟩
          refine ⟨_, rfl, _, rfl, hfd8.pl (by decide), fun H9 s9 => ⟨true, rfl, iteF ?_⟩⟩
          refine ⟨_, rfl, S, bs, rfl, .inl (.inl (s9 _ _ hS)), ?_, fun H10 s10 => k _ (hfd8.sames.trans (s9.trans s10))⟩
          rw [hbl]
          decide
end
abbrev sBp : Stmt := topS 44
theorem scBp : FnScope ["_law_great", "_law_beads_here", "_law_kind"] ["_law_great"] (defScope sBp) := ⟨rfl, rfl, rfl, by decide +kernel, rfl, by decide +kernel, by decide +kernel⟩
section
variable {P : Program} {w : World} {K : PySem.W.Frag} {mg : Str → Option Value} {base : Heap} {f : Addr} {fd : FuncData}
def spBp : Sp := fun vs H Q _ => ∃ g : Int, vs = [.int g] ∧ 0 < g ∧ g % 3 = 1 ∧ ∀ H', Same H H' → Q (.bl true) H'
theorem ok_bp {fK fA fW C1 C3 CK CN CA CB fSA fSB : Addr} {fdK fdA fdW fdSA fdSB : FuncData} {psA psB : List Str} {tk : T3 → Int → List (Int × Int)} (F : FnP K "_law_barred_promises" sBp f fd) (B : Bl mg)
    (hcl : AnsK K CN CA CB) (gB : mg "Barred" = some (.ref CB)) (htk : TkOk tk)
    (hA : ShOk P w K mg base CA fSA fdSA psA (spShA K CA)) (hB : ShOk P w K mg base CB fSB fdSB psB (spShB K CB)) (hMk : MkOk P w K mg base CA CB)
    (aK : At K mg "to_kind" sTk ["beads", "kind"] fK fdK) (GK : FnOk P w K mg base (L2.CX P w) 6 fK fdK ["beads", "kind"] (spTk K C1 CK C3 tk))
    (aA : At K mg "all_of" sAo ["beads", "kind"] fA fdA) (GA : FnOk P w K mg base (L2.CX P w) 6 fA fdA ["beads", "kind"] (spAo K C1 CK CA CB))
    (aW : At K mg "_law_walked" sWa ["_law_beads_here", "_law_row", "_law_is_joined"] fW fdW) (GW : FnOk P w K mg base CX0 6 fW fdW ["_law_beads_here", "_law_row", "_law_is_joined"] (spWa K)) :
    FnOk P w K mg base CX0 7 f fd ["_law_great"] spBp := by
  refine F.ok scBp (fun vs H Q E h => ?_) (fun cdv A outer s H vs Q E hr h => ?_)
  · obtain ⟨g, rfl, _⟩ := h
    rfl
  · obtain ⟨g, rfl, g0, g3, k⟩ := h
    have r3 : Room 3 _ := hr.mono (by decide)
    have r6 : Room 6 _ := hr
    refine ⟨_, PSs.nox (pss_cons (ps_for PassesOwn.never rfl (pi_list (pe_lst (pa_cons (pe_tup (pa_cons (pe_tup (pa_cons pe_int (pa_cons pe_int (pa_cons pe_int pa_nil)))) (pa_cons pe_int pa_nil))) (pa_cons (pe_tup (pa_cons (pe_tup (pa_cons pe_int (pa_cons pe_int (pa_cons pe_int pa_nil)))) (pa_cons pe_int pa_nil))) (pa_cons (pe_tup (pa_cons (pe_tup (pa_cons pe_int (pa_cons pe_int (pa_cons pe_int pa_nil)))) (pa_cons pe_int pa_nil))) (pa_cons (pe_tup (pa_cons (pe_tup (pa_cons pe_int (pa_cons pe_int (pa_cons pe_int pa_nil)))) (pa_cons pe_int pa_nil))) (pa_cons (pe_tup (pa_cons (pe_tup (pa_cons (pv 0) (pa_cons pe_int (pa_cons pe_int pa_nil)))) (pa_cons pe_int pa_nil))) pa_nil))))))) (pg_tup (by rfl) (pgs_cons (pg_name (i := 1) scBp.nd rfl (.inl rfl)) (pgs_cons (pg_name (i := 2) scBp.nd rfl (.inl rfl)) pgs_nil))) (pss_one (ps_if (PW.pt (pw_or (pt_not (pt_val (pe_callB call_isi (by rfl) B.isi (by decide +kernel) (pa_cons (pe_call GA r6 (by rfl) aA.g aA.F.kp aA.b .nil passL (pa_cons (pv 1) (pa_cons (pv 2) pa_nil))) (pa_cons (pe_glob (v := .ref CB) (by rfl) gB rfl) pa_nil))))) (pw_or (pt_not (pt_val (pe_ei (pe_meth (hMk.b rfl rfl rfl rfl rfl r3 (by rfl)) hcl.A.cl hA.m hA.G r6 hA.b .nil passL (pa_cons (pv 1) (pa_cons (pv 2) pa_nil))) (pe_meth (hMk.b rfl rfl rfl rfl rfl r3 (by rfl)) hcl.B.cl hB.m hB.G r6 hB.b .nil passL (pa_cons (pv 1) (pa_cons (pv 2) pa_nil)))))) (pw_or1 (pt_val (pe_ei (pe_meth (hMk.a rfl rfl rfl rfl rfl r3 (by rfl) (pa_cons pe_int pa_nil) (by rfl)) hcl.A.cl hA.m hA.G r6 hA.b .nil passL (pa_cons (pv 1) (pa_cons (pv 2) pa_nil))) (pe_meth (hMk.a rfl rfl rfl rfl rfl r3 (by rfl) (pa_cons pe_int pa_nil) (by rfl)) hcl.B.cl hB.m hB.G r6 hB.b .nil passL (pa_cons (pv 1) (pa_cons (pv 2) pa_nil))))))))) (pss_one (ps_ret pe_bl)) pss_nil)))
      (pss_cons (ps_if (PW.pt (pw_or (pt_cmpR op_notN (pe_call GK r6 (by rfl) aK.g aK.F.kp aK.b .nil passL (pa_cons (pe_tup (pa_cons pe_int (pa_cons pe_int (pa_cons pe_int pa_nil)))) (pa_cons pe_int pa_nil))) pe_non (nomark _)) (pw_or (pt_cmpR (op_neD hr.units) (pe_call GK r6 (by rfl) aK.g aK.F.kp aK.b .nil passL (pa_cons (pe_tup (pa_cons pe_int (pa_cons pe_int (pa_cons pe_int pa_nil)))) (pa_cons pe_int pa_nil))) (pe_lst pa_nil) (nomark _)) (pw_or1 (pt_cmpR (op_neD hr.units) (pe_call GK r6 (by rfl) aK.g aK.F.kp aK.b .nil passL (pa_cons (pe_tup (pa_cons pe_int (pa_cons pe_int (pa_cons pe_int pa_nil)))) (pa_cons pe_int pa_nil))) (pe_lst (pa_cons (pe_tup (pa_cons pe_int (pa_cons pe_int pa_nil))) pa_nil)) (nomark _)))))) (pss_one (ps_ret pe_bl)) pss_nil)
      (pss_cons (ps_if (pt_cmpR op_ne (pe_callB call_len_seq (by rfl) B.len PySem.boot_len (pa_cons (pe_call GK r6 (by rfl) aK.g aK.F.kp aK.b .nil passL (pa_cons (pe_tup (pa_cons pe_int (pa_cons pe_int (pa_cons pe_int pa_nil)))) (pa_cons pe_int pa_nil))) pa_nil)) pe_int (nomark _)) (pss_one (ps_ret pe_bl)) pss_nil)
      (pss_cons (ps_if (pt_not (pt_cmpR (op_eqD hr.units) (pe_call GW r6 (by rfl) aW.g aW.F.kp aW.b .nil pass0 (pa_cons (pe_tup (pa_cons pe_int (pa_cons pe_int (pa_cons pe_int pa_nil)))) (pa_cons (pe_call GK r6 (by rfl) aK.g aK.F.kp aK.b .nil passL (pa_cons (pe_tup (pa_cons pe_int (pa_cons pe_int (pa_cons pe_int pa_nil)))) (pa_cons pe_int pa_nil))) (pa_cons pe_bl pa_nil)))) (pe_tup (pa_cons pe_int (pa_cons pe_int (pa_cons pe_int pa_nil)))) (nomark _))) (pss_one (ps_ret pe_bl)) pss_nil)
      (pss_one (ps_ret (pe_cmpR (op_eqD hr.units) (pe_call GW r6 (by rfl) aW.g aW.F.kp aW.b .nil pass0 (pa_cons (pe_tup (pa_cons pe_int (pa_cons pe_int (pa_cons pe_int pa_nil)))) (pa_cons (pe_call GK r6 (by rfl) aK.g aK.F.kp aK.b .nil passL (pa_cons (pe_tup (pa_cons pe_int (pa_cons pe_int (pa_cons pe_int pa_nil)))) (pa_cons pe_int pa_nil))) (pa_cons pe_bl pa_nil)))) (pe_tup (pa_cons pe_int (pa_cons pe_int (pa_cons pe_int pa_nil)))) (nomark _)))))))), ?_⟩
    refine ⟨(by show 3 ≤ sizeLine; decide), fun a0 ha0 => ⟨(by show 2 ≤ sizeLine; decide), fun b0 hb0 => ?_⟩⟩
    have s0 : Same H (upd (upd H a0 (.tup [.int 0, .int 3, .int 0])) b0 (.tup [.ref a0, .int 0])) := (same_upd ha0).trans (same_upd hb0)
    have ea0 := (same_upd (o := .tup [.ref a0, .int 0]) hb0) _ _ (upd_same (H := H) (a := a0) (o := .tup [.int 0, .int 3, .int 0]))
    have eb0 : (upd (upd H a0 (.tup [.int 0, .int 3, .int 0])) b0 (.tup [.ref a0, .int 0])) b0 = some (.tup [.ref a0, .int 0]) := upd_same
    generalize upd (upd H a0 (.tup [.int 0, .int 3, .int 0])) b0 (.tup [.ref a0, .int 0]) = G0 at s0 ea0 eb0
    refine ⟨(by show 3 ≤ sizeLine; decide), fun a1 ha1 => ⟨(by show 2 ≤ sizeLine; decide), fun b1 hb1 => ?_⟩⟩
    have s1 : Same G0 (upd (upd G0 a1 (.tup [.int 1, .int 2, .int 0])) b1 (.tup [.ref a1, .int 2])) := (same_upd ha1).trans (same_upd hb1)
    have ea1 := (same_upd (o := .tup [.ref a1, .int 2]) hb1) _ _ (upd_same (H := G0) (a := a1) (o := .tup [.int 1, .int 2, .int 0]))
    have eb1 : (upd (upd G0 a1 (.tup [.int 1, .int 2, .int 0])) b1 (.tup [.ref a1, .int 2])) b1 = some (.tup [.ref a1, .int 2]) := upd_same
    generalize upd (upd G0 a1 (.tup [.int 1, .int 2, .int 0])) b1 (.tup [.ref a1, .int 2]) = G1 at s1 ea1 eb1
    refine ⟨(by show 3 ≤ sizeLine; decide), fun a2 ha2 => ⟨(by show 2 ≤ sizeLine; decide), fun b2 hb2 => ?_⟩⟩
    have s2 : Same G1 (upd (upd G1 a2 (.tup [.int 1, .int 2, .int 0])) b2 (.tup [.ref a2, .int 0])) := (same_upd ha2).trans (same_upd hb2)
    have ea2 := (same_upd (o := .tup [.ref a2, .int 0]) hb2) _ _ (upd_same (H := G1) (a := a2) (o := .tup [.int 1, .int 2, .int 0]))
    have eb2 : (upd (upd G1 a2 (.tup [.int 1, .int 2, .int 0])) b2 (.tup [.ref a2, .int 0])) b2 = some (.tup [.ref a2, .int 0]) := upd_same
    generalize upd (upd G1 a2 (.tup [.int 1, .int 2, .int 0])) b2 (.tup [.ref a2, .int 0]) = G2 at s2 ea2 eb2
    refine ⟨(by show 3 ≤ sizeLine; decide), fun a3 ha3 => ⟨(by show 2 ≤ sizeLine; decide), fun b3 hb3 => ?_⟩⟩
    have s3 : Same G2 (upd (upd G2 a3 (.tup [.int 0, .int 0, .int 6])) b3 (.tup [.ref a3, .int 1])) := (same_upd ha3).trans (same_upd hb3)
    have ea3 := (same_upd (o := .tup [.ref a3, .int 1]) hb3) _ _ (upd_same (H := G2) (a := a3) (o := .tup [.int 0, .int 0, .int 6]))
    have eb3 : (upd (upd G2 a3 (.tup [.int 0, .int 0, .int 6])) b3 (.tup [.ref a3, .int 1])) b3 = some (.tup [.ref a3, .int 1]) := upd_same
    generalize upd (upd G2 a3 (.tup [.int 0, .int 0, .int 6])) b3 (.tup [.ref a3, .int 1]) = G3 at s3 ea3 eb3
    refine ⟨_, rfl, (by show 3 ≤ sizeLine; decide), fun a4 ha4 => ⟨(by show 2 ≤ sizeLine; decide), fun b4 hb4 => ?_⟩⟩
    have s4 : Same G3 (upd (upd G3 a4 (.tup [.int g, .int 0, .int 2])) b4 (.tup [.ref a4, .int 1])) := (same_upd ha4).trans (same_upd hb4)
    have ea4 := (same_upd (o := .tup [.ref a4, .int 1]) hb4) _ _ (upd_same (H := G3) (a := a4) (o := .tup [.int g, .int 0, .int 2]))
    have eb4 : (upd (upd G3 a4 (.tup [.int g, .int 0, .int 2])) b4 (.tup [.ref a4, .int 1])) b4 = some (.tup [.ref a4, .int 1]) := upd_same
    generalize upd (upd G3 a4 (.tup [.int g, .int 0, .int 2])) b4 (.tup [.ref a4, .int 1]) = G4 at s4 ea4 eb4
    refine ⟨(by show 5 ≤ sizeLine; decide), fun l hl => ⟨l, rfl, ⟨_, .inl (.inl upd_same)⟩, ?_⟩⟩
    have sl : Same G4 (upd G4 l (.lst [.ref b0, .ref b1, .ref b2, .ref b3, .ref b4])) := same_upd hl
    have al : (upd G4 l (.lst [.ref b0, .ref b1, .ref b2, .ref b3, .ref b4])) l = some (.lst [.ref b0, .ref b1, .ref b2, .ref b3, .ref b4]) := upd_same
    generalize upd G4 l (.lst [.ref b0, .ref b1, .ref b2, .ref b3, .ref b4]) = Hm at sl al
    have smH : Same H Hm := s0.trans (s1.trans (s2.trans (s3.trans (s4.trans sl))))
    refine for_list (K := K) (a := l) (xs := [.ref b0, .ref b1, .ref b2, .ref b3, .ref b4]) (fun i σ H' => (∃ v1 v2, σ = [some (.int g), v1, v2]) ∧ Same Hm H')
      ⟨⟨_, _, rfl⟩, Same.refl _⟩ (fun i σ H' _ h => .inl (.inl (h.2 _ _ al))) ?_ ?_
    · rintro i x σ H1 hx ⟨⟨v1, v2, rfl⟩, z1⟩
      obtain ⟨u, t, sB, kd, rfl, hu, ht, ho, k0, k3, hst⟩ : ∃ (u t : Addr) (sB : T3) (kd : Int), x = .ref u ∧ Hm u = some (.tup [.ref t, .int kd]) ∧ Hm t = some (.tup (tV sB)) ∧ Ok3 sB.1 sB.2.1 sB.2.2 ∧ 0 ≤ kd ∧ kd < 3 ∧ stepsT sB kd = none := by
        have t0 := s1.trans (s2.trans (s3.trans (s4.trans sl)))
        have t1 := s2.trans (s3.trans (s4.trans sl))
        have t2 := s3.trans (s4.trans sl)
        have t3 := s4.trans sl
        match i, hx with
        | 0, hx => exact ⟨b0, a0, (0, 3, 0), 0, (Option.some.inj hx).symm, t0 _ _ eb0, t0 _ _ ea0, ⟨by decide, by decide, by decide, by decide⟩, by decide, by decide, by unfold stepsT oth Alone mx; decide⟩
        | 1, hx => exact ⟨b1, a1, (1, 2, 0), 2, (Option.some.inj hx).symm, t1 _ _ eb1, t1 _ _ ea1, ⟨by decide, by decide, by decide, by decide⟩, by decide, by decide, by unfold stepsT oth Alone mx; decide⟩
        | 2, hx => exact ⟨b2, a2, (1, 2, 0), 0, (Option.some.inj hx).symm, t2 _ _ eb2, t2 _ _ ea2, ⟨by decide, by decide, by decide, by decide⟩, by decide, by decide, by unfold stepsT oth Alone mx; decide⟩
        | 3, hx => exact ⟨b3, a3, (0, 0, 6), 1, (Option.some.inj hx).symm, t3 _ _ eb3, t3 _ _ ea3, ⟨by decide, by decide, by decide, by decide⟩, by decide, by decide, by unfold stepsT oth Alone mx; decide⟩
        | 4, hx => exact ⟨b4, a4, (g, 0, 2), 1, (Option.some.inj hx).symm, sl _ _ eb4, sl _ _ ea4, ⟨by show 0 ≤ g; omega, by show (0 : Int) ≤ 0; decide, by show (0 : Int) ≤ 2; decide, by show 0 < g + 0 + 2; omega⟩, by decide, by decide, by
            show (if g = 0 ∧ (2 : Int) = 0 then some 0 else if Alone (g, 0, 2) ∨ (g - 2) % 3 ≠ 0 then none else some (mx g 2)) = none
            rw [if_neg (by omega), if_pos (.inr (by omega))]⟩
        | n + 5, hx => simp at hx
      have hT : ∀ H', Same H1 H' → Tr K H' t sB.1 sB.2.1 sB.2.2 := fun H' z => .inl (.inl (z _ _ (z1 _ _ ht)))
      refine ⟨u, _, rfl, .inl (.inl (z1 _ _ hu)), rfl, _, _, rfl, _, _, rfl, rfl, ?_⟩
      refine ⟨_, rfl, _, rfl, _, _, rfl, .inr ⟨t, sB, rfl, hT _ (Same.refl _), ho, .inr ⟨kd, rfl, k0, k3, fun H2 a z2 ha0 hans => ?_⟩⟩⟩
      rw [hst] at hans
      obtain ⟨dx, fs, hb1, hsh⟩ := id hans
      refine ⟨_, _, _, _, true, rfl, .own _, hcl.B.ty hb1, hcl.bb, true, rfl, iteF ?_⟩
      refine .inr fun H3 a3 z3 ha30 hbar3 => ?_
      obtain ⟨dx3, fs3, hb3, hsh3⟩ := id hbar3
      refine ⟨a3, dx3, fs3, rfl, hb3, hsh3, _, rfl, _, rfl, a3, t, sB, kd, rfl, hbar3, hT _ (z2.trans z3), ho, k0, k3, fun H4 z4 => ⟨_, rfl, ?_⟩⟩
      rw [hst]
      refine iteF ?_
      refine .inl ⟨_, rfl, fun H5 a5 z5 ha50 hall5 => ?_⟩
      obtain ⟨dx5, fs5, hb5, hfs5, hsh5⟩ := id hall5
      refine ⟨a5, dx5, fs5, rfl, hb5, hsh5, _, rfl, _, rfl, a5, t, sB, kd, 0, rfl, hall5, hT _ (z2.trans (z3.trans (z4.trans z5))), ho, k0, k3, fun H6 z6 => ⟨_, rfl, ?_⟩⟩
      rw [hst]
      exact iteF ⟨⟨_, _, rfl⟩, z1.trans (z2.trans (z3.trans (z4.trans (z5.trans z6))))⟩
    · rintro σ H1 ⟨⟨v1, v2, rfl⟩, z1⟩
      have e030 : stepsT (0, 3, 0) 0 = none := by unfold stepsT oth Alone mx; decide
      have e031 : stepsT (0, 3, 0) 1 = some 0 := by unfold stepsT oth Alone mx; decide
      have e110 : stepsT (1, 1, 0) 2 = some 1 := by unfold stepsT oth Alone mx; decide
      have e140 : stepsT (1, 4, 0) 2 = some 4 := by unfold stepsT oth Alone mx; decide
      have e301 : stepsT (3, 0, 1) 2 = some 3 := by unfold stepsT oth Alone mx; decide
      have o030 : Ok3 0 3 0 := ⟨by decide, by decide, by decide, by decide⟩
      have o110 : Ok3 1 1 0 := ⟨by decide, by decide, by decide, by decide⟩
      have o140 : Ok3 1 4 0 := ⟨by decide, by decide, by decide, by decide⟩
      have o301 : Ok3 3 0 1 := ⟨by decide, by decide, by decide, by decide⟩
      obtain ⟨q1, q2, q3⟩ := htk (1, 4, 0) 2 4 o140 (by decide) (by decide) (by decide) e140
      obtain ⟨r1, r2, r3'⟩ := htk (3, 0, 1) 2 3 o301 (by decide) (by decide) (by decide) e301
      have n031 : tk (0, 3, 0) 1 = [] := List.eq_nil_of_length_eq_zero (by have := (htk (0, 3, 0) 1 0 o030 (by decide) (by decide) (by decide) e031).2.2; omega)
      refine ⟨(by show 3 ≤ sizeLine; decide), fun t2 ht2 => ⟨_, _, rfl, .inr ⟨t2, (0, 3, 0), rfl, .inl (.inl upd_same), o030, .inr ⟨0, rfl, by decide, by decide, .inr ⟨by decide, .inl ⟨e030, fun H2 z2 => ⟨rfl, _, rfl, iteF ?_⟩⟩⟩⟩⟩⟩⟩
      refine ⟨(by show 3 ≤ sizeLine; decide), fun t3 ht3 => ⟨_, _, rfl, .inr ⟨t3, (0, 3, 0), rfl, .inl (.inl upd_same), o030, .inr ⟨1, rfl, by decide, by decide, .inr ⟨by decide, .inr ⟨0, e031, fun H3 L3 z3 hL30 hPA3 => ⟨Nat.zero_le _, fun l3 hl3 => ?_⟩⟩⟩⟩⟩⟩⟩
      rw [n031] at hPA3
      refine ⟨_, .list [], (hPA3.same (same_upd hl3)).dp, .lst (.inl (.inl upd_same)) .nil, shaped_pairs _, shaped_ints [], _, rfl, ?_⟩
      rw [eqv_pairs_nil]
      refine iteF ?_
      refine ⟨(by show 3 ≤ sizeLine; decide), fun t4 ht4 => ⟨_, _, rfl, .inr ⟨t4, (1, 1, 0), rfl, .inl (.inl upd_same), o110, .inr ⟨2, rfl, by decide, by decide, .inr ⟨by decide, .inr ⟨1, e110, fun H4 L4 z4 hL40 hPA4 => ?_⟩⟩⟩⟩⟩⟩
      rw [tk110 htk] at hPA4
      refine ⟨(by show 2 ≤ sizeLine; decide), fun p4 hp4 => ⟨(by show 1 ≤ sizeLine; decide), fun l4 hl4 => ?_⟩⟩
      have s44 : Same H4 (upd (upd H4 p4 (.tup [.int 0, .int 1])) l4 (.lst [.ref p4])) := (same_upd hp4).trans (same_upd hl4)
      have hP4 : PairsT K (upd (upd H4 p4 (.tup [.int 0, .int 1])) l4 (.lst [.ref p4])) l4 [(0, 1)] := ⟨[p4], upd_same, .cons (.inl (.inl ((same_upd hl4) _ _ upd_same))) .nil⟩
      generalize upd (upd H4 p4 (.tup [.int 0, .int 1])) l4 (.lst [.ref p4]) = H5 at s44 hP4
      refine ⟨_, _, (hPA4.same s44).dp, hP4.dp, shaped_pairs _, shaped_pairs _, _, rfl, ?_⟩
      rw [eqv_self (shaped_pairs _)]
      refine iteF ?_
      refine ⟨(by show 3 ≤ sizeLine; decide), fun t6 ht6 => ⟨_, _, rfl, .inr ⟨t6, (1, 4, 0), rfl, .inl (.inl upd_same), o140, .inr ⟨2, rfl, by decide, by decide, .inr ⟨by decide, .inr ⟨4, e140, fun H6 L6 z6 hL60 hPA6 => ?_⟩⟩⟩⟩⟩⟩
      obtain ⟨rs6, hL6, hp6⟩ := id hPA6
      refine ⟨L6, _, rfl, .inl (.inl (.inl hL6)), rfl, _, rfl, ?_⟩
      rw [show decide (V.int (((rs6.map V.ref).length : Nat) : Int) = V.int 4) = true from decide_eq_true (congrArg V.int (by rw [List.length_map, Paired.length hp6]; exact q3))]
      refine iteF ?_
      refine ⟨(by show 3 ≤ sizeLine; decide), fun t8 ht8 => ⟨(by show 3 ≤ sizeLine; decide), fun t9 ht9 => ⟨_, _, rfl, .inr ⟨t9, (1, 4, 0), rfl, .inl (.inl upd_same), o140, .inr ⟨2, rfl, by decide, by decide, .inr ⟨by decide, .inr ⟨4, e140, fun H10 L10 z10 hL100 hPA10 => ?_⟩⟩⟩⟩⟩⟩⟩
      have et8 := (same_upd (o := .tup [.int 1, .int 4, .int 0]) ht9) _ _ (upd_same (H := H6) (a := t8) (o := .tup [.int 1, .int 4, .int 0]))
      refine ⟨t8, L10, false, (1, 4, 0), _, rfl, .inl (.inl (z10 _ _ et8)), o140, hPA10, q1, fun H11 r z11 hr => ?_⟩
      rw [show run (mOf false) (1, 4, 0) (tk (1, 4, 0) 2) = only 2 (sm (1, 4, 0)) from q2] at hr
      refine ⟨(by show 3 ≤ sizeLine; decide), fun t12 ht12 => ?_⟩
      refine ⟨.tuple [.int 0, .int 0, .int 5], .tuple [.int 0, .int 0, .int 5], .tup (tup_same (same_upd ht12) hr) (.cons (.int _) (.cons (.int _) (.cons (.int _) .nil))), .tup (.inl (.inl upd_same)) (.cons (.int _) (.cons (.int _) (.cons (.int _) .nil))), by decide +kernel, by decide +kernel, _, rfl, ?_⟩
      rw [eqv_self (by decide +kernel)]
      refine iteF ?_
      refine ⟨(by show 3 ≤ sizeLine; decide), fun t13 ht13 => ⟨(by show 3 ≤ sizeLine; decide), fun t14 ht14 => ⟨_, _, rfl, .inr ⟨t14, (3, 0, 1), rfl, .inl (.inl upd_same), o301, .inr ⟨2, rfl, by decide, by decide, .inr ⟨by decide, .inr ⟨3, e301, fun H15 L15 z15 hL150 hPA15 => ?_⟩⟩⟩⟩⟩⟩⟩
      have et13 := (same_upd (o := .tup [.int 3, .int 0, .int 1]) ht14) _ _ (upd_same (a := t13) (o := .tup [.int 3, .int 0, .int 1]))
      refine ⟨t13, L15, false, (3, 0, 1), _, rfl, .inl (.inl (z15 _ _ et13)), o301, hPA15, r1, fun H16 r z16 hr => ?_⟩
      rw [show run (mOf false) (3, 0, 1) (tk (3, 0, 1) 2) = only 2 (sm (3, 0, 1)) from r2] at hr
      refine ⟨(by show 3 ≤ sizeLine; decide), fun t17 ht17 => ?_⟩
      refine ⟨.tuple [.int 0, .int 0, .int 4], .tuple [.int 0, .int 0, .int 4], .tup (tup_same (same_upd ht17) hr) (.cons (.int _) (.cons (.int _) (.cons (.int _) .nil))), .tup (.inl (.inl upd_same)) (.cons (.int _) (.cons (.int _) (.cons (.int _) .nil))), by decide +kernel, by decide +kernel, ?_⟩
      show Q (.bl (PyData.eqv (.tuple [.int 0, .int 0, .int 4]) (.tuple [.int 0, .int 0, .int 4]))) _
      rw [eqv_self (by decide +kernel)]
      refine k _ ?_
      exact (smH.trans z1).trans ((same_upd ht2).trans (z2.trans ((same_upd ht3).trans (z3.trans ((same_upd hl3).trans ((same_upd ht4).trans (z4.trans (s44.trans ((same_upd ht6).trans (z6.trans ((same_upd ht8).trans ((same_upd ht9).trans (z10.trans (z11.trans ((same_upd ht12).trans ((same_upd ht13).trans ((same_upd ht14).trans (z15.trans (z16.trans (same_upd ht17))))))))))))))))))))
end
def Case3 (K : PySem.W.Frag) (H : Hp) (x : V) (s : T3) (ks : List Int) (n : Int) : Prop := ∃ c t l : Addr, x = .ref c ∧ SqT K H c [.ref t, .ref l, .int n] ∧ TupF H t (tV s) ∧ H l = some (.lst (ks.map V.int))
abbrev sPr : Stmt := topS 43
theorem scPr : FnScope ["_law_great", "_law_cases", "_law_beads_here", "_law_kinds", "_law_few", "_law_left", "_law_kind", "_law_steps", "_law_found"] [] (defScope sPr) := ⟨rfl, rfl, rfl, by decide +kernel, rfl, by decide +kernel, by decide +kernel⟩
section
variable {P : Program} {w : World} {K : PySem.W.Frag} {mg : Str → Option Value} {base : Heap} {f : Addr} {fd : FuncData}
def spTru : Sp := fun vs H Q _ => vs = [] ∧ ∀ H', Same H H' → Q (.bl true) H'
theorem ok_pr {fS fL fF fF2 fJ fT fA fW fBp C1 C2 C3 CK CN CA CB fSA fSB : Addr} {fdS fdL fdF fdF2 fdJ fdT fdA fdW fdBp fdSA fdSB : FuncData} {psA psB : List Str} {tk : T3 → Int → List (Int × Int)} (F : FnP K "_law_promises_right" sPr f fd) (B : Bl mg)
    (hcl : AnsK K CN CA CB) (gA : mg "All" = some (.ref CA)) (htk : TkOk tk)
    (hA : ShOk P w K mg base CA fSA fdSA psA (spShA K CA)) (hB : ShOk P w K mg base CB fSB fdSB psB (spShB K CB)) (hMk : MkOk P w K mg base CA CB)
    (aS : At K mg "meetings" sMeet ["beads"] fS fdS) (GS : FnOk P w K mg base (L2.CX P w) 4 fS fdS ["beads"] (spMs K C1))
    (aL : At K mg "last_kinds" sLk ["beads"] fL fdL) (GL : FnOk P w K mg base (L2.CX P w) 6 fL fdL ["beads"] (spLk K C1))
    (aF : At K mg "fewest_left" sFl ["beads"] fF fdF) (GF : FnOk P w K mg base (L2.CX P w) 6 fF fdF ["beads"] (spFl K C1))
    (aF2 : At K mg "to_fewest" sTf ["beads"] fF2 fdF2) (GF2 : FnOk P w K mg base (L2.CX P w) 6 fF2 fdF2 ["beads"] (spTf K C1 C3))
    (aJ : At K mg "joined" sJoin ["beads", "meeting"] fJ fdJ) (GJ : FnOk P w K mg base (L2.CX P w) 5 fJ fdJ ["beads", "meeting"] (spMet K C1 C2 1))
    (aT : At K mg "turned" sTurn ["beads", "meeting"] fT fdT) (GT : FnOk P w K mg base (L2.CX P w) 5 fT fdT ["beads", "meeting"] (spMet K C1 C2 2))
    (aA : At K mg "all_of" sAo ["beads", "kind"] fA fdA) (GA : FnOk P w K mg base (L2.CX P w) 6 fA fdA ["beads", "kind"] (spAo K C1 CK CA CB))
    (aW : At K mg "_law_walked" sWa ["_law_beads_here", "_law_row", "_law_is_joined"] fW fdW) (GW : FnOk P w K mg base CX0 6 fW fdW ["_law_beads_here", "_law_row", "_law_is_joined"] (spWa K))
    (aBp : At K mg "_law_barred_promises" sBp ["_law_great"] fBp fdBp) (GBp : FnOk P w K mg base CX0 7 fBp fdBp ["_law_great"] spBp) :
    FnOk P w K mg base CX0 8 f fd [] spTru := by
  refine F.ok scPr (fun vs H Q E h => ?_) (fun cdv A outer s H vs Q E hr h => ?_)
  · obtain ⟨rfl, _⟩ := h
    rfl
  · obtain ⟨rfl, k⟩ := h
    have r3 : Room 3 _ := hr.mono (by decide)
    have r4 : Room 4 _ := hr.mono (by decide)
    have r5 : Room 5 _ := hr.mono (by decide)
    have r6 : Room 6 _ := hr.mono (by decide)
    have r7 : Room 7 _ := hr
    refine ⟨_, PSs.nox (pss_cons (ps_set (i := 0) scPr.nd rfl (.inl rfl) (pe_op op_pow pe_int pe_int))
      (pss_cons (ps_if (PW.pt (pw_or (pt_cmpR (op_neD hr.units) (pe_call GJ r5 (by rfl) aJ.g aJ.F.kp aJ.b .nil passL (pa_cons (pe_tupS (pa_cons pe_int (pa_cons pe_int (pa_cons pe_int pa_nil)))) (pa_cons (pe_tupS (pa_cons pe_int (pa_cons pe_int pa_nil))) pa_nil))) (pe_tupS (pa_cons pe_int (pa_cons pe_int (pa_cons pe_int pa_nil)))) (nomark _)) (pw_or1 (pt_cmpR (op_neD hr.units) (pe_call GT r5 (by rfl) aT.g aT.F.kp aT.b .nil passL (pa_cons (pe_tupS (pa_cons pe_int (pa_cons pe_int (pa_cons pe_int pa_nil)))) (pa_cons (pe_tupS (pa_cons pe_int (pa_cons pe_int pa_nil))) pa_nil))) (pe_tupS (pa_cons pe_int (pa_cons pe_int (pa_cons pe_int pa_nil)))) (nomark _))))) (pss_one (ps_ret pe_bl)) pss_nil)
      (pss_cons (ps_if (pt_cmpR (op_neD hr.units) (pe_call GS r4 (by rfl) aS.g aS.F.kp aS.b .nil passL (pa_cons (pe_tupS (pa_cons pe_int (pa_cons pe_int (pa_cons pe_int pa_nil)))) pa_nil)) (pe_lstS (pa_cons (pe_tupS (pa_cons pe_int (pa_cons pe_int pa_nil))) (pa_cons (pe_tupS (pa_cons pe_int (pa_cons pe_int pa_nil))) (pa_cons (pe_tupS (pa_cons pe_int (pa_cons pe_int pa_nil))) pa_nil)))) (nomark _)) (pss_one (ps_ret pe_bl)) pss_nil)
      (pss_cons (ps_if (PW.pt (pw_or (pt_cmpR (op_neD hr.units) (pe_call GS r4 (by rfl) aS.g aS.F.kp aS.b .nil passL (pa_cons (pe_tupS (pa_cons pe_int (pa_cons pe_int (pa_cons pe_int pa_nil)))) pa_nil)) (pe_lstS pa_nil) (nomark _)) (pw_or1 (pt_cmpR (op_neD hr.units) (pe_call GS r4 (by rfl) aS.g aS.F.kp aS.b .nil passL (pa_cons (pe_tupS (pa_cons pe_int (pa_cons pe_int (pa_cons pe_int pa_nil)))) pa_nil)) (pe_lstS (pa_cons (pe_tupS (pa_cons pe_int (pa_cons pe_int pa_nil))) pa_nil)) (nomark _))))) (pss_one (ps_ret pe_bl)) pss_nil)
      (pss_cons (ps_set (i := 1) scPr.nd rfl (.inl rfl) (pe_lstS (pa_cons (pe_tupS (pa_cons (pe_tupS (pa_cons pe_int (pa_cons pe_int (pa_cons pe_int pa_nil)))) (pa_cons (pe_lstS (pa_cons pe_int (pa_cons pe_int (pa_cons pe_int pa_nil)))) (pa_cons pe_int pa_nil)))) (pa_cons (pe_tupS (pa_cons (pe_tupS (pa_cons pe_int (pa_cons pe_int (pa_cons pe_int pa_nil)))) (pa_cons (pe_lstS (pa_cons pe_int pa_nil)) (pa_cons pe_int pa_nil)))) (pa_cons (pe_tupS (pa_cons (pe_tupS (pa_cons pe_int (pa_cons pe_int (pa_cons pe_int pa_nil)))) (pa_cons (pe_lstS (pa_cons pe_int pa_nil)) (pa_cons pe_int pa_nil)))) (pa_cons (pe_tupS (pa_cons (pe_tupS (pa_cons pe_int (pa_cons pe_int (pa_cons pe_int pa_nil)))) (pa_cons (pe_lstS (pa_cons pe_int pa_nil)) (pa_cons pe_int pa_nil)))) pa_nil))))))
      (pss_cons (ps_set (i := 1) scPr.nd rfl (.inl rfl) (pe_op op_catS (pv 1) (pe_lstS (pa_cons (pe_tupS (pa_cons (pe_tupS (pa_cons pe_int (pa_cons pe_int (pa_cons pe_int pa_nil)))) (pa_cons (pe_lstS (pa_cons pe_int (pa_cons pe_int (pa_cons pe_int pa_nil)))) (pa_cons pe_int pa_nil)))) (pa_cons (pe_tupS (pa_cons (pe_tupS (pa_cons pe_int (pa_cons pe_int (pa_cons pe_int pa_nil)))) (pa_cons (pe_lstS (pa_cons pe_int pa_nil)) (pa_cons pe_int pa_nil)))) (pa_cons (pe_tupS (pa_cons (pe_tupS (pa_cons (pv 0) (pa_cons (pv 0) (pa_cons pe_int pa_nil)))) (pa_cons (pe_lstS (pa_cons pe_int pa_nil)) (pa_cons pe_int pa_nil)))) pa_nil))))))
      (pss_cons (ps_set (i := 1) scPr.nd rfl (.inl rfl) (pe_op op_catS (pv 1) (pe_lstS (pa_cons (pe_tupS (pa_cons (pe_tupS (pa_cons (pv 0) (pa_cons pe_int (pa_cons pe_int pa_nil)))) (pa_cons (pe_lstS (pa_cons pe_int pa_nil)) (pa_cons (pv 0) pa_nil)))) (pa_cons (pe_tupS (pa_cons (pe_tupS (pa_cons pe_int (pa_cons pe_int (pa_cons pe_int pa_nil)))) (pa_cons (pe_lstS (pa_cons pe_int pa_nil)) (pa_cons pe_int pa_nil)))) (pa_cons (pe_tupS (pa_cons (pe_tupS (pa_cons pe_int (pa_cons pe_int (pa_cons pe_int pa_nil)))) (pa_cons (pe_lstS (pa_cons pe_int (pa_cons pe_int (pa_cons pe_int pa_nil)))) (pa_cons pe_int pa_nil)))) pa_nil))))))
      (pss_cons (ps_for PassesOwn.never rfl (pi_list (pv 1)) (pg_tup (by rfl) (pgs_cons (pg_name (i := 2) scPr.nd rfl (.inl rfl)) (pgs_cons (pg_name (i := 3) scPr.nd rfl (.inl rfl)) (pgs_cons (pg_name (i := 4) scPr.nd rfl (.inl rfl)) pgs_nil)))) (pss_one (ps_if (PW.pt (pw_or (pt_cmpR (op_neD hr.units) (pe_call GL r6 (by rfl) aL.g aL.F.kp aL.b .nil passL (pa_cons (pv 2) pa_nil)) (pv 3) (nomark _)) (pw_or1 (pt_cmpR op_ne (pe_call GF r6 (by rfl) aF.g aF.F.kp aF.b .nil passL (pa_cons (pv 2) pa_nil)) (pv 4) (nomark _))))) (pss_one (ps_ret pe_bl)) pss_nil)))
      (pss_cons (ps_for PassesOwn.never rfl (pi_list (pe_lstS (pa_cons (pe_tupS (pa_cons pe_int (pa_cons pe_int (pa_cons pe_int pa_nil)))) (pa_cons (pe_tupS (pa_cons pe_int (pa_cons pe_int (pa_cons pe_int pa_nil)))) (pa_cons (pe_tupS (pa_cons pe_int (pa_cons pe_int (pa_cons pe_int pa_nil)))) (pa_cons (pe_tupS (pa_cons pe_int (pa_cons pe_int (pa_cons pe_int pa_nil)))) (pa_cons (pe_tupS (pa_cons pe_int (pa_cons pe_int (pa_cons pe_int pa_nil)))) (pa_cons (pe_tupS (pa_cons pe_int (pa_cons pe_int (pa_cons pe_int pa_nil)))) (pa_cons (pe_tupS (pa_cons pe_int (pa_cons pe_int (pa_cons pe_int pa_nil)))) (pa_cons (pe_tupS (pa_cons pe_int (pa_cons pe_int (pa_cons pe_int pa_nil)))) pa_nil)))))))))) (pg_name (i := 2) scPr.nd rfl (.inl rfl)) (pss_cons (ps_set (i := 5) scPr.nd rfl (.inl rfl) (pe_callB cr_sortedTp (by rfl) B.sorted (by decide +kernel) (pa_cons (pe_call GW r6 (by rfl) aW.g aW.F.kp aW.b .nil pass0 (pa_cons (pv 2) (pa_cons (pe_call GF2 r6 (by rfl) aF2.g aF2.F.kp aF2.b .nil passL (pa_cons (pv 2) pa_nil)) (pa_cons pe_bl pa_nil)))) pa_nil)))
      (pss_one (ps_if (pt_cmpR (op_neD hr.units) (pv 5) (pe_lstS (pa_cons pe_int (pa_cons pe_int (pa_cons (pe_call GF r6 (by rfl) aF.g aF.F.kp aF.b .nil passL (pa_cons (pv 2) pa_nil)) pa_nil)))) (nomark _)) (pss_one (ps_ret pe_bl)) pss_nil))))
      (pss_cons (ps_set (i := 1) scPr.nd rfl (.inl rfl) (pe_lstS (pa_cons (pe_tupS (pa_cons (pe_tupS (pa_cons pe_int (pa_cons pe_int (pa_cons pe_int pa_nil)))) (pa_cons pe_int (pa_cons pe_int pa_nil)))) (pa_cons (pe_tupS (pa_cons (pe_tupS (pa_cons pe_int (pa_cons pe_int (pa_cons pe_int pa_nil)))) (pa_cons pe_int (pa_cons pe_int pa_nil)))) (pa_cons (pe_tupS (pa_cons (pe_tupS (pa_cons pe_int (pa_cons pe_int (pa_cons pe_int pa_nil)))) (pa_cons pe_int (pa_cons pe_int pa_nil)))) pa_nil)))))
      (pss_cons (ps_set (i := 1) scPr.nd rfl (.inl rfl) (pe_op op_catS (pv 1) (pe_lstS (pa_cons (pe_tupS (pa_cons (pe_tupS (pa_cons (pv 0) (pa_cons (pe_op op_add (pv 0) pe_int) (pa_cons pe_int pa_nil)))) (pa_cons pe_int (pa_cons (pe_op op_add (pv 0) pe_int) pa_nil)))) (pa_cons (pe_tupS (pa_cons (pe_tupS (pa_cons pe_int (pa_cons pe_int (pa_cons pe_int pa_nil)))) (pa_cons pe_int (pa_cons pe_int pa_nil)))) (pa_cons (pe_tupS (pa_cons (pe_tupS (pa_cons pe_int (pa_cons pe_int (pa_cons pe_int pa_nil)))) (pa_cons pe_int (pa_cons pe_int pa_nil)))) pa_nil))))))
      (pss_cons (ps_for PassesOwn.never rfl (pi_list (pv 1)) (pg_tup (by rfl) (pgs_cons (pg_name (i := 2) scPr.nd rfl (.inl rfl)) (pgs_cons (pg_name (i := 6) scPr.nd rfl (.inl rfl)) (pgs_cons (pg_name (i := 7) scPr.nd rfl (.inl rfl)) pgs_nil)))) (pss_cons (ps_set (i := 8) scPr.nd rfl (.inl rfl) (pe_call GA r6 (by rfl) aA.g aA.F.kp aA.b .nil passL (pa_cons (pv 2) (pa_cons (pv 6) pa_nil))))
      (pss_cons (ps_if (PW.pt (pw_or (pt_not (pt_val (pe_callB call_isi (by rfl) B.isi (by decide +kernel) (pa_cons (pv 8) (pa_cons (pe_glob (v := .ref CA) (by rfl) gA rfl) pa_nil))))) (pw_or (pt_cmpR op_ne (pe_fld (pv 8) rfl) (pv 7) (nomark _)) (pw_or1 (pt_not (pt_val (pe_ei (pe_meth (hMk.a rfl rfl rfl rfl rfl r3 (by rfl) (pa_cons (pv 7) pa_nil) (by rfl)) hcl.A.cl hA.m hA.G r6 hA.b .nil passL (pa_cons (pv 2) (pa_cons (pv 6) pa_nil))) (pe_meth (hMk.a rfl rfl rfl rfl rfl r3 (by rfl) (pa_cons (pv 7) pa_nil) (by rfl)) hcl.B.cl hB.m hB.G r6 hB.b .nil passL (pa_cons (pv 2) (pa_cons (pv 6) pa_nil)))))))))) (pss_one (ps_ret pe_bl)) pss_nil)
      (pss_cons (ps_if (pt_val (pe_ei (pe_meth (hMk.a rfl rfl rfl rfl rfl r3 (by rfl) (pa_cons (pe_op op_add (pv 7) pe_int) pa_nil) (by rfl)) hcl.A.cl hA.m hA.G r6 hA.b .nil passL (pa_cons (pv 2) (pa_cons (pv 6) pa_nil))) (pe_meth (hMk.a rfl rfl rfl rfl rfl r3 (by rfl) (pa_cons (pe_op op_add (pv 7) pe_int) pa_nil) (by rfl)) hcl.B.cl hB.m hB.G r6 hB.b .nil passL (pa_cons (pv 2) (pa_cons (pv 6) pa_nil))))) (pss_one (ps_ret pe_bl)) pss_nil)
      (pss_one (ps_if (PW.pt (pw_or (PW.pt (pw_and (pt_cmpR op_gt (pv 7) pe_int (nomark _)) (pw_and1 (pt_val (pe_ei (pe_meth (hMk.a rfl rfl rfl rfl rfl r3 (by rfl) (pa_cons (pe_op op_sub (pv 7) pe_int) pa_nil) (by rfl)) hcl.A.cl hA.m hA.G r6 hA.b .nil passL (pa_cons (pv 2) (pa_cons (pv 6) pa_nil))) (pe_meth (hMk.a rfl rfl rfl rfl rfl r3 (by rfl) (pa_cons (pe_op op_sub (pv 7) pe_int) pa_nil) (by rfl)) hcl.B.cl hB.m hB.G r6 hB.b .nil passL (pa_cons (pv 2) (pa_cons (pv 6) pa_nil)))))))) (pw_or1 (pt_val (pe_ei (pe_meth (hMk.b rfl rfl rfl rfl rfl r3 (by rfl)) hcl.A.cl hA.m hA.G r6 hA.b .nil passL (pa_cons (pv 2) (pa_cons (pv 6) pa_nil))) (pe_meth (hMk.b rfl rfl rfl rfl rfl r3 (by rfl)) hcl.B.cl hB.m hB.G r6 hB.b .nil passL (pa_cons (pv 2) (pa_cons (pv 6) pa_nil)))))))) (pss_one (ps_ret pe_bl)) pss_nil))))))
      (pss_one (ps_ret (pe_call GBp r7 (by rfl) aBp.g aBp.F.kp aBp.b .nil pass0 (pa_cons (pv 0) pa_nil)))))))))))))))), ?_⟩
    refine ⟨_, _, rfl, rfl, ⟨by decide, by decide, by decide⟩, ?_⟩
    obtain ⟨g, hgd⟩ : ∃ g : Int, (10 : Int) ^ (30 : Int).toNat = g := ⟨_, rfl⟩
    change gName 0 (V.int ((10 : Int) ^ (30 : Int).toNat)) _ H _
    rw [hgd]
    have g0 : 0 < g := by rw [← hgd]; decide +kernel
    have g3 : g % 3 = 1 := by rw [← hgd]; decide +kernel
    refine ⟨(by show 3 ≤ sizeLine; decide), fun G1 p1 z1 n1 e1 => ?_⟩
    refine ⟨(by show 2 ≤ sizeLine; decide), fun G2 p2 z2 n2 e2 => ?_⟩
    refine ⟨_, _, rfl, .inr (.inr ⟨p1, p2, 2, 1, 0, 0, 1, rfl, rfl, (e1.same z2).sq, ⟨by decide, by decide, by decide, by decide⟩, e2.sq, M01, by decide, fun G3 p3 z3 n3 e3 => ?_⟩)⟩
    refine ⟨(by show 3 ≤ sizeLine; decide), fun G4 p4 z4 n4 e4 => ?_⟩
    have f3 : TupF G3 p3 [.int 1, .int 0, .int 1] := e3
    refine ⟨.tuple [.int 1, .int 0, .int 1], .tuple [.int 1, .int 0, .int 1], .tup (f3.same z4).sq (.cons (.int _) (.cons (.int _) (.cons (.int _) .nil))), .tup e4.sq (.cons (.int _) (.cons (.int _) (.cons (.int _) .nil))), by decide +kernel, by decide +kernel, _, rfl, ?_⟩
    rw [eqv_self (by decide +kernel)]
    refine iteF ?_
    refine ⟨(by show 3 ≤ sizeLine; decide), fun G5 p5 z5 n5 e5 => ?_⟩
    refine ⟨(by show 2 ≤ sizeLine; decide), fun G6 p6 z6 n6 e6 => ?_⟩
    refine ⟨_, _, rfl, .inr (.inr ⟨p5, p6, 2, 1, 0, 0, 1, rfl, rfl, (e5.same z6).sq, ⟨by decide, by decide, by decide, by decide⟩, e6.sq, M01, by decide, fun G7 p7 z7 n7 e7 => ?_⟩)⟩
    refine ⟨(by show 3 ≤ sizeLine; decide), fun G8 p8 z8 n8 e8 => ?_⟩
    have f7 : TupF G7 p7 [.int 1, .int 0, .int 2] := e7
    refine ⟨.tuple [.int 1, .int 0, .int 2], .tuple [.int 1, .int 0, .int 2], .tup (f7.same z8).sq (.cons (.int _) (.cons (.int _) (.cons (.int _) .nil))), .tup e8.sq (.cons (.int _) (.cons (.int _) (.cons (.int _) .nil))), by decide +kernel, by decide +kernel, _, rfl, ?_⟩
    rw [eqv_self (by decide +kernel)]
    refine iteF ?_
    refine ⟨(by show 3 ≤ sizeLine; decide), fun G9 p9 z9 n9 e9 => ?_⟩
    refine ⟨_, rfl, .inr ⟨p9, 1, 1, 1, rfl, e9.sq, ⟨by decide, by decide, by decide, by decide⟩, fun G10 p10 z10 n10 e10 => ?_⟩⟩
    refine ⟨(by show 2 ≤ sizeLine; decide), fun G11 p11 z11 n11 e11 => ?_⟩
    refine ⟨(by show 2 ≤ sizeLine; decide), fun G12 p12 z12 n12 e12 => ?_⟩
    refine ⟨(by show 2 ≤ sizeLine; decide), fun G13 p13 z13 n13 e13 => ?_⟩
    refine ⟨(by show 3 ≤ sizeLine; decide), fun G14 p14 z14 n14 e14 => ?_⟩
    have f10 : PairsT K G10 p10 [(0, 1), (0, 2), (1, 2)] := e10.pt
    have f14 : PairsT K G14 p14 [(0, 1), (0, 2), (1, 2)] := ⟨[p11, p12, p13], e14, (.cons (e11.same (z12.trans (z13.trans z14))).sq (.cons (e12.same (z13.trans z14)).sq (.cons (e13.same z14).sq .nil)))⟩
    refine ⟨_, _, (f10.same (z11.trans (z12.trans (z13.trans z14)))).dp, f14.dp, shaped_pairs _, shaped_pairs _, _, rfl, ?_⟩
    rw [eqv_self (shaped_pairs _)]
    refine iteF ?_
    refine ⟨(by show 3 ≤ sizeLine; decide), fun G15 p15 z15 n15 e15 => ?_⟩
    refine ⟨_, rfl, .inr ⟨p15, 2, 0, 0, rfl, e15.sq, ⟨by decide, by decide, by decide, by decide⟩, fun G16 p16 z16 n16 e16 => ?_⟩⟩
    refine ⟨(by show 0 ≤ sizeLine; decide), fun G17 p17 z17 n17 e17 => ?_⟩
    have f16 : PairsT K G16 p16 [] := e16.pt
    have f17 : PairsT K G17 p17 [] := ⟨[], e17, .nil⟩
    refine ⟨_, _, (f16.same z17).dp, f17.dp, shaped_pairs _, shaped_pairs _, _, rfl, ?_⟩
    rw [eqv_self (shaped_pairs _)]
    refine iteF ?_
    refine ⟨(by show 3 ≤ sizeLine; decide), fun G18 p18 z18 n18 e18 => ?_⟩
    refine ⟨_, rfl, .inr ⟨p18, 0, 3, 1, rfl, e18.sq, ⟨by decide, by decide, by decide, by decide⟩, fun G19 p19 z19 n19 e19 => ?_⟩⟩
    refine ⟨(by show 2 ≤ sizeLine; decide), fun G20 p20 z20 n20 e20 => ?_⟩
    refine ⟨(by show 1 ≤ sizeLine; decide), fun G21 p21 z21 n21 e21 => ?_⟩
    have f19 : PairsT K G19 p19 [(1, 2)] := e19.pt
    have f21 : PairsT K G21 p21 [(1, 2)] := ⟨[p20], e21, (.cons (e20.same z21).sq .nil)⟩
    refine ⟨_, _, (f19.same (z20.trans z21)).dp, f21.dp, shaped_pairs _, shaped_pairs _, _, rfl, ?_⟩
    rw [eqv_self (shaped_pairs _)]
    refine iteF ?_
    refine ⟨(by show 3 ≤ sizeLine; decide), fun G22 p22 z22 n22 e22 => ?_⟩
    refine ⟨(by show 3 ≤ sizeLine; decide), fun G23 p23 z23 n23 e23 => ?_⟩
    refine ⟨(by show 3 ≤ sizeLine; decide), fun G24 p24 z24 n24 e24 => ?_⟩
    refine ⟨(by show 3 ≤ sizeLine; decide), fun G25 p25 z25 n25 e25 => ?_⟩
    refine ⟨(by show 1 ≤ sizeLine; decide), fun G26 p26 z26 n26 e26 => ?_⟩
    refine ⟨(by show 3 ≤ sizeLine; decide), fun G27 p27 z27 n27 e27 => ?_⟩
    refine ⟨(by show 3 ≤ sizeLine; decide), fun G28 p28 z28 n28 e28 => ?_⟩
    refine ⟨(by show 1 ≤ sizeLine; decide), fun G29 p29 z29 n29 e29 => ?_⟩
    refine ⟨(by show 3 ≤ sizeLine; decide), fun G30 p30 z30 n30 e30 => ?_⟩
    refine ⟨(by show 3 ≤ sizeLine; decide), fun G31 p31 z31 n31 e31 => ?_⟩
    refine ⟨(by show 1 ≤ sizeLine; decide), fun G32 p32 z32 n32 e32 => ?_⟩
    refine ⟨(by show 3 ≤ sizeLine; decide), fun G33 p33 z33 n33 e33 => ?_⟩
    refine ⟨(by show 4 ≤ sizeLine; decide), fun G34 p34 z34 n34 e34 => ?_⟩
    refine ⟨_, rfl, ?_⟩
    refine ⟨(by show 3 ≤ sizeLine; decide), fun G35 p35 z35 n35 e35 => ?_⟩
    refine ⟨(by show 3 ≤ sizeLine; decide), fun G36 p36 z36 n36 e36 => ?_⟩
    refine ⟨(by show 3 ≤ sizeLine; decide), fun G37 p37 z37 n37 e37 => ?_⟩
    refine ⟨(by show 3 ≤ sizeLine; decide), fun G38 p38 z38 n38 e38 => ?_⟩
    refine ⟨(by show 1 ≤ sizeLine; decide), fun G39 p39 z39 n39 e39 => ?_⟩
    refine ⟨(by show 3 ≤ sizeLine; decide), fun G40 p40 z40 n40 e40 => ?_⟩
    refine ⟨_, rfl, _, rfl, (by show 3 ≤ sizeLine; decide), fun G41 p41 z41 n41 e41 => ?_⟩
    refine ⟨(by show 1 ≤ sizeLine; decide), fun G42 p42 z42 n42 e42 => ?_⟩
    refine ⟨(by show 3 ≤ sizeLine; decide), fun G43 p43 z43 n43 e43 => ?_⟩
    refine ⟨(by show 3 ≤ sizeLine; decide), fun G44 p44 z44 n44 e44 => ?_⟩
    refine ⟨_, p44, _, _, rfl, rfl, (z35.trans (z36.trans (z37.trans (z38.trans (z39.trans (z40.trans (z41.trans (z42.trans (z43.trans z44))))))))) _ _ e34, e44, by show 4 + 3 ≤ sizeLine; decide, fun G45 p45 z45 n45 e45 => ?_⟩
    refine ⟨_, rfl, ?_⟩
    refine ⟨_, rfl, (by show 3 ≤ sizeLine; decide), fun G46 p46 z46 n46 e46 => ?_⟩
    refine ⟨(by show 1 ≤ sizeLine; decide), fun G47 p47 z47 n47 e47 => ?_⟩
    refine ⟨_, rfl, (by show 3 ≤ sizeLine; decide), fun G48 p48 z48 n48 e48 => ?_⟩
    refine ⟨(by show 3 ≤ sizeLine; decide), fun G49 p49 z49 n49 e49 => ?_⟩
    refine ⟨(by show 1 ≤ sizeLine; decide), fun G50 p50 z50 n50 e50 => ?_⟩
    refine ⟨(by show 3 ≤ sizeLine; decide), fun G51 p51 z51 n51 e51 => ?_⟩
    refine ⟨(by show 3 ≤ sizeLine; decide), fun G52 p52 z52 n52 e52 => ?_⟩
    refine ⟨(by show 3 ≤ sizeLine; decide), fun G53 p53 z53 n53 e53 => ?_⟩
    refine ⟨(by show 3 ≤ sizeLine; decide), fun G54 p54 z54 n54 e54 => ?_⟩
    refine ⟨(by show 3 ≤ sizeLine; decide), fun G55 p55 z55 n55 e55 => ?_⟩
    refine ⟨_, p55, _, _, rfl, rfl, (z46.trans (z47.trans (z48.trans (z49.trans (z50.trans (z51.trans (z52.trans (z53.trans (z54.trans z55))))))))) _ _ e45, e55, by show 7 + 3 ≤ sizeLine; decide, fun G56 p56 z56 n56 e56 => ?_⟩
    have eE : G56 p56 = some (.lst [.ref p24, .ref p27, .ref p30, .ref p33, .ref p37, .ref p40, .ref p43, .ref p48, .ref p51, .ref p54]) := e56
    have hall : ∀ x ∈ ([.ref p24, .ref p27, .ref p30, .ref p33, .ref p37, .ref p40, .ref p43, .ref p48, .ref p51, .ref p54] : List V), ∃ (s : T3), Case3 K G56 x s (lastL s) (fewest s) ∧ Ok3 s.1 s.2.1 s.2.2 := by
      intro x hx
      simp only [List.mem_cons, List.mem_nil_iff, or_false] at hx
      rcases hx with rfl | rfl | rfl | rfl | rfl | rfl | rfl | rfl | rfl | rfl
      · have q1 : lastL (1, 1, 1) = [0, 1, 2] := by decide +kernel
        have q2 : fewest (1, 1, 1) = 2 := by decide +kernel
        refine ⟨(1, 1, 1), ⟨p24, p22, p23, rfl, ?_, e22.same (z23.trans (z24.trans (z25.trans (z26.trans (z27.trans (z28.trans (z29.trans (z30.trans (z31.trans (z32.trans (z33.trans (z34.trans (z35.trans (z36.trans (z37.trans (z38.trans (z39.trans (z40.trans (z41.trans (z42.trans (z43.trans (z44.trans (z45.trans (z46.trans (z47.trans (z48.trans (z49.trans (z50.trans (z51.trans (z52.trans (z53.trans (z54.trans (z55.trans z56))))))))))))))))))))))))))))))))), ?_⟩, ⟨by dsimp only; omega, by dsimp only; omega, by dsimp only; omega, by dsimp only; omega⟩⟩
        · rw [q2]; exact (e24.same (z25.trans (z26.trans (z27.trans (z28.trans (z29.trans (z30.trans (z31.trans (z32.trans (z33.trans (z34.trans (z35.trans (z36.trans (z37.trans (z38.trans (z39.trans (z40.trans (z41.trans (z42.trans (z43.trans (z44.trans (z45.trans (z46.trans (z47.trans (z48.trans (z49.trans (z50.trans (z51.trans (z52.trans (z53.trans (z54.trans (z55.trans z56)))))))))))))))))))))))))))))))).sq
        · rw [q1]; exact (z24.trans (z25.trans (z26.trans (z27.trans (z28.trans (z29.trans (z30.trans (z31.trans (z32.trans (z33.trans (z34.trans (z35.trans (z36.trans (z37.trans (z38.trans (z39.trans (z40.trans (z41.trans (z42.trans (z43.trans (z44.trans (z45.trans (z46.trans (z47.trans (z48.trans (z49.trans (z50.trans (z51.trans (z52.trans (z53.trans (z54.trans (z55.trans z56)))))))))))))))))))))))))))))))) _ _ e23
      · have q1 : lastL (2, 1, 0) = [1] := by decide +kernel
        have q2 : fewest (2, 1, 0) = 1 := by decide +kernel
        refine ⟨(2, 1, 0), ⟨p27, p25, p26, rfl, ?_, e25.same (z26.trans (z27.trans (z28.trans (z29.trans (z30.trans (z31.trans (z32.trans (z33.trans (z34.trans (z35.trans (z36.trans (z37.trans (z38.trans (z39.trans (z40.trans (z41.trans (z42.trans (z43.trans (z44.trans (z45.trans (z46.trans (z47.trans (z48.trans (z49.trans (z50.trans (z51.trans (z52.trans (z53.trans (z54.trans (z55.trans z56)))))))))))))))))))))))))))))), ?_⟩, ⟨by dsimp only; omega, by dsimp only; omega, by dsimp only; omega, by dsimp only; omega⟩⟩
        · rw [q2]; exact (e27.same (z28.trans (z29.trans (z30.trans (z31.trans (z32.trans (z33.trans (z34.trans (z35.trans (z36.trans (z37.trans (z38.trans (z39.trans (z40.trans (z41.trans (z42.trans (z43.trans (z44.trans (z45.trans (z46.trans (z47.trans (z48.trans (z49.trans (z50.trans (z51.trans (z52.trans (z53.trans (z54.trans (z55.trans z56))))))))))))))))))))))))))))).sq
        · rw [q1]; exact (z27.trans (z28.trans (z29.trans (z30.trans (z31.trans (z32.trans (z33.trans (z34.trans (z35.trans (z36.trans (z37.trans (z38.trans (z39.trans (z40.trans (z41.trans (z42.trans (z43.trans (z44.trans (z45.trans (z46.trans (z47.trans (z48.trans (z49.trans (z50.trans (z51.trans (z52.trans (z53.trans (z54.trans (z55.trans z56))))))))))))))))))))))))))))) _ _ e26
      · have q1 : lastL (3, 0, 0) = [0] := by decide +kernel
        have q2 : fewest (3, 0, 0) = 3 := by decide +kernel
        refine ⟨(3, 0, 0), ⟨p30, p28, p29, rfl, ?_, e28.same (z29.trans (z30.trans (z31.trans (z32.trans (z33.trans (z34.trans (z35.trans (z36.trans (z37.trans (z38.trans (z39.trans (z40.trans (z41.trans (z42.trans (z43.trans (z44.trans (z45.trans (z46.trans (z47.trans (z48.trans (z49.trans (z50.trans (z51.trans (z52.trans (z53.trans (z54.trans (z55.trans z56))))))))))))))))))))))))))), ?_⟩, ⟨by dsimp only; omega, by dsimp only; omega, by dsimp only; omega, by dsimp only; omega⟩⟩
        · rw [q2]; exact (e30.same (z31.trans (z32.trans (z33.trans (z34.trans (z35.trans (z36.trans (z37.trans (z38.trans (z39.trans (z40.trans (z41.trans (z42.trans (z43.trans (z44.trans (z45.trans (z46.trans (z47.trans (z48.trans (z49.trans (z50.trans (z51.trans (z52.trans (z53.trans (z54.trans (z55.trans z56)))))))))))))))))))))))))).sq
        · rw [q1]; exact (z30.trans (z31.trans (z32.trans (z33.trans (z34.trans (z35.trans (z36.trans (z37.trans (z38.trans (z39.trans (z40.trans (z41.trans (z42.trans (z43.trans (z44.trans (z45.trans (z46.trans (z47.trans (z48.trans (z49.trans (z50.trans (z51.trans (z52.trans (z53.trans (z54.trans (z55.trans z56)))))))))))))))))))))))))) _ _ e29
      · have q1 : lastL (0, 4, 0) = [1] := by decide +kernel
        have q2 : fewest (0, 4, 0) = 4 := by decide +kernel
        refine ⟨(0, 4, 0), ⟨p33, p31, p32, rfl, ?_, e31.same (z32.trans (z33.trans (z34.trans (z35.trans (z36.trans (z37.trans (z38.trans (z39.trans (z40.trans (z41.trans (z42.trans (z43.trans (z44.trans (z45.trans (z46.trans (z47.trans (z48.trans (z49.trans (z50.trans (z51.trans (z52.trans (z53.trans (z54.trans (z55.trans z56)))))))))))))))))))))))), ?_⟩, ⟨by dsimp only; omega, by dsimp only; omega, by dsimp only; omega, by dsimp only; omega⟩⟩
        · rw [q2]; exact (e33.same (z34.trans (z35.trans (z36.trans (z37.trans (z38.trans (z39.trans (z40.trans (z41.trans (z42.trans (z43.trans (z44.trans (z45.trans (z46.trans (z47.trans (z48.trans (z49.trans (z50.trans (z51.trans (z52.trans (z53.trans (z54.trans (z55.trans z56))))))))))))))))))))))).sq
        · rw [q1]; exact (z33.trans (z34.trans (z35.trans (z36.trans (z37.trans (z38.trans (z39.trans (z40.trans (z41.trans (z42.trans (z43.trans (z44.trans (z45.trans (z46.trans (z47.trans (z48.trans (z49.trans (z50.trans (z51.trans (z52.trans (z53.trans (z54.trans (z55.trans z56))))))))))))))))))))))) _ _ e32
      · have q1 : lastL (2, 2, 0) = [0, 1, 2] := by decide +kernel
        have q2 : fewest (2, 2, 0) = 2 := by decide +kernel
        refine ⟨(2, 2, 0), ⟨p37, p35, p36, rfl, ?_, e35.same (z36.trans (z37.trans (z38.trans (z39.trans (z40.trans (z41.trans (z42.trans (z43.trans (z44.trans (z45.trans (z46.trans (z47.trans (z48.trans (z49.trans (z50.trans (z51.trans (z52.trans (z53.trans (z54.trans (z55.trans z56)))))))))))))))))))), ?_⟩, ⟨by dsimp only; omega, by dsimp only; omega, by dsimp only; omega, by dsimp only; omega⟩⟩
        · rw [q2]; exact (e37.same (z38.trans (z39.trans (z40.trans (z41.trans (z42.trans (z43.trans (z44.trans (z45.trans (z46.trans (z47.trans (z48.trans (z49.trans (z50.trans (z51.trans (z52.trans (z53.trans (z54.trans (z55.trans z56))))))))))))))))))).sq
        · rw [q1]; exact (z37.trans (z38.trans (z39.trans (z40.trans (z41.trans (z42.trans (z43.trans (z44.trans (z45.trans (z46.trans (z47.trans (z48.trans (z49.trans (z50.trans (z51.trans (z52.trans (z53.trans (z54.trans (z55.trans z56))))))))))))))))))) _ _ e36
      · have q1 : lastL (1, 1, 0) = [2] := by decide +kernel
        have q2 : fewest (1, 1, 0) = 1 := by decide +kernel
        refine ⟨(1, 1, 0), ⟨p40, p38, p39, rfl, ?_, e38.same (z39.trans (z40.trans (z41.trans (z42.trans (z43.trans (z44.trans (z45.trans (z46.trans (z47.trans (z48.trans (z49.trans (z50.trans (z51.trans (z52.trans (z53.trans (z54.trans (z55.trans z56))))))))))))))))), ?_⟩, ⟨by dsimp only; omega, by dsimp only; omega, by dsimp only; omega, by dsimp only; omega⟩⟩
        · rw [q2]; exact (e40.same (z41.trans (z42.trans (z43.trans (z44.trans (z45.trans (z46.trans (z47.trans (z48.trans (z49.trans (z50.trans (z51.trans (z52.trans (z53.trans (z54.trans (z55.trans z56)))))))))))))))).sq
        · rw [q1]; exact (z40.trans (z41.trans (z42.trans (z43.trans (z44.trans (z45.trans (z46.trans (z47.trans (z48.trans (z49.trans (z50.trans (z51.trans (z52.trans (z53.trans (z54.trans (z55.trans z56)))))))))))))))) _ _ e39
      · have q1 : lastL (g, g, 1) = [2] := by rw [← hgd]; decide +kernel
        have q2 : fewest (g, g, 1) = 1 := by rw [← hgd]; decide +kernel
        refine ⟨(g, g, 1), ⟨p43, p41, p42, rfl, ?_, e41.same (z42.trans (z43.trans (z44.trans (z45.trans (z46.trans (z47.trans (z48.trans (z49.trans (z50.trans (z51.trans (z52.trans (z53.trans (z54.trans (z55.trans z56)))))))))))))), ?_⟩, ⟨by dsimp only; omega, by dsimp only; omega, by dsimp only; omega, by dsimp only; omega⟩⟩
        · rw [q2]; exact (e43.same (z44.trans (z45.trans (z46.trans (z47.trans (z48.trans (z49.trans (z50.trans (z51.trans (z52.trans (z53.trans (z54.trans (z55.trans z56))))))))))))).sq
        · rw [q1]; exact (z43.trans (z44.trans (z45.trans (z46.trans (z47.trans (z48.trans (z49.trans (z50.trans (z51.trans (z52.trans (z53.trans (z54.trans (z55.trans z56))))))))))))) _ _ e42
      · have q1 : lastL (g, 0, 0) = [0] := by rw [← hgd]; decide +kernel
        have q2 : fewest (g, 0, 0) = g := by rw [← hgd]; decide +kernel
        refine ⟨(g, 0, 0), ⟨p48, p46, p47, rfl, ?_, e46.same (z47.trans (z48.trans (z49.trans (z50.trans (z51.trans (z52.trans (z53.trans (z54.trans (z55.trans z56))))))))), ?_⟩, ⟨by dsimp only; omega, by dsimp only; omega, by dsimp only; omega, by dsimp only; omega⟩⟩
        · rw [q2]; exact (e48.same (z49.trans (z50.trans (z51.trans (z52.trans (z53.trans (z54.trans (z55.trans z56)))))))).sq
        · rw [q1]; exact (z48.trans (z49.trans (z50.trans (z51.trans (z52.trans (z53.trans (z54.trans (z55.trans z56)))))))) _ _ e47
      · have q1 : lastL (0, 1, 1) = [0] := by decide +kernel
        have q2 : fewest (0, 1, 1) = 1 := by decide +kernel
        refine ⟨(0, 1, 1), ⟨p51, p49, p50, rfl, ?_, e49.same (z50.trans (z51.trans (z52.trans (z53.trans (z54.trans (z55.trans z56)))))), ?_⟩, ⟨by dsimp only; omega, by dsimp only; omega, by dsimp only; omega, by dsimp only; omega⟩⟩
        · rw [q2]; exact (e51.same (z52.trans (z53.trans (z54.trans (z55.trans z56))))).sq
        · rw [q1]; exact (z51.trans (z52.trans (z53.trans (z54.trans (z55.trans z56))))) _ _ e50
      · have q1 : lastL (1, 3, 5) = [0, 1, 2] := by decide +kernel
        have q2 : fewest (1, 3, 5) = 2 := by decide +kernel
        refine ⟨(1, 3, 5), ⟨p54, p52, p53, rfl, ?_, e52.same (z53.trans (z54.trans (z55.trans z56))), ?_⟩, ⟨by dsimp only; omega, by dsimp only; omega, by dsimp only; omega, by dsimp only; omega⟩⟩
        · rw [q2]; exact (e54.same (z55.trans z56)).sq
        · rw [q1]; exact (z54.trans (z55.trans z56)) _ _ e53
    have S1 : Same H G56 := (z1.trans (z2.trans (z3.trans (z4.trans (z5.trans (z6.trans (z7.trans (z8.trans (z9.trans (z10.trans (z11.trans (z12.trans (z13.trans (z14.trans (z15.trans (z16.trans (z17.trans (z18.trans (z19.trans (z20.trans (z21.trans (z22.trans (z23.trans (z24.trans (z25.trans (z26.trans (z27.trans (z28.trans (z29.trans (z30.trans (z31.trans (z32.trans (z33.trans (z34.trans (z35.trans (z36.trans (z37.trans (z38.trans (z39.trans (z40.trans (z41.trans (z42.trans (z43.trans (z44.trans (z45.trans (z46.trans (z47.trans (z48.trans (z49.trans (z50.trans (z51.trans (z52.trans (z53.trans (z54.trans (z55.trans z56)))))))))))))))))))))))))))))))))))))))))))))))))))))))
    refine ⟨_, rfl, p56, rfl, ⟨_, .inl (.inl eE)⟩, for_list (K := K) (a := p56) (xs := [.ref p24, .ref p27, .ref p30, .ref p33, .ref p37, .ref p40, .ref p43, .ref p48, .ref p51, .ref p54]) (fun i σ H' => (∃ v2 v3 v4 v5 v6 v7 v8, σ = [some (.int g), some (.ref p56), v2, v3, v4, v5, v6, v7, v8]) ∧ Same G56 H')
      ⟨⟨_, _, _, _, _, _, _, rfl⟩, Same.refl _⟩ (fun i σ H' _ h => .inl (.inl (h.2 _ _ eE))) ?_ ?_⟩
    · rintro i x σ X1 hx ⟨⟨v2, v3, v4, v5, v6, v7, v8, rfl⟩, w1⟩
      obtain ⟨s, ⟨c, t, l, rfl, hc, ht, hl⟩, ho⟩ := hall x (List.mem_of_getElem? hx)
      refine ⟨c, _, rfl, tup_same w1 hc, rfl, _, _, rfl, _, _, rfl, _, _, rfl, rfl, ?_⟩
      refine ⟨_, rfl, _, rfl, .inr ⟨t, s, rfl, (ht.same w1).sq, ho, fun X2 L w2 nL hL => ?_⟩⟩
      refine ⟨_, rfl, .list ((lastL s).map PyData.int), .list ((lastL s).map PyData.int), .lst (.inl (.inl hL)) (dpInts _), .lst (.inl (.inl (w2 _ _ (w1 _ _ hl)))) (dpInts _), shaped_ints _, shaped_ints _, _, rfl, ?_⟩
      rw [eqv_self (shaped_ints _)]
      refine iteF ?_
      refine ⟨_, rfl, _, rfl, .inr ⟨t, s, rfl, (ht.same (w1.trans w2)).sq, ho, fun X3 w3 => ⟨_, rfl, rfl, _, rfl, ?_⟩⟩⟩
      rw [show decide (V.int (fewest s) = V.int (fewest s)) = true from decide_eq_true rfl]
      exact iteF ⟨⟨_, _, _, _, _, _, _, rfl⟩, w1.trans (w2.trans w3)⟩
    rintro σ Y0 ⟨⟨v2, v3, v4, v5, v6, v7, v8, rfl⟩, y0⟩
    refine ⟨(by show 3 ≤ sizeLine; decide), fun G57 p57 z57 n57 e57 => ?_⟩
    refine ⟨(by show 3 ≤ sizeLine; decide), fun G58 p58 z58 n58 e58 => ?_⟩
    refine ⟨(by show 3 ≤ sizeLine; decide), fun G59 p59 z59 n59 e59 => ?_⟩
    refine ⟨(by show 3 ≤ sizeLine; decide), fun G60 p60 z60 n60 e60 => ?_⟩
    refine ⟨(by show 3 ≤ sizeLine; decide), fun G61 p61 z61 n61 e61 => ?_⟩
    refine ⟨(by show 3 ≤ sizeLine; decide), fun G62 p62 z62 n62 e62 => ?_⟩
    refine ⟨(by show 3 ≤ sizeLine; decide), fun G63 p63 z63 n63 e63 => ?_⟩
    refine ⟨(by show 3 ≤ sizeLine; decide), fun G64 p64 z64 n64 e64 => ?_⟩
    refine ⟨(by show 8 ≤ sizeLine; decide), fun G65 p65 z65 n65 e65 => ?_⟩
    have e2 : G65 p65 = some (.lst [.ref p57, .ref p58, .ref p59, .ref p60, .ref p61, .ref p62, .ref p63, .ref p64]) := e65
    have hall2 : ∀ x ∈ ([.ref p57, .ref p58, .ref p59, .ref p60, .ref p61, .ref p62, .ref p63, .ref p64] : List V), ∃ (t : Addr) (s : T3), x = .ref t ∧ TupF G65 t (tV s) ∧ Ok3 s.1 s.2.1 s.2.2 ∧ sm s ≤ 300 := by
      intro x hx
      simp only [List.mem_cons, List.mem_nil_iff, or_false] at hx
      rcases hx with rfl | rfl | rfl | rfl | rfl | rfl | rfl | rfl
      · exact ⟨p57, (1, 1, 1), rfl, e57.same (z58.trans (z59.trans (z60.trans (z61.trans (z62.trans (z63.trans (z64.trans z65))))))), ⟨by decide, by decide, by decide, by decide⟩, by decide⟩
      · exact ⟨p58, (2, 1, 0), rfl, e58.same (z59.trans (z60.trans (z61.trans (z62.trans (z63.trans (z64.trans z65)))))), ⟨by decide, by decide, by decide, by decide⟩, by decide⟩
      · exact ⟨p59, (3, 0, 0), rfl, e59.same (z60.trans (z61.trans (z62.trans (z63.trans (z64.trans z65))))), ⟨by decide, by decide, by decide, by decide⟩, by decide⟩
      · exact ⟨p60, (2, 2, 0), rfl, e60.same (z61.trans (z62.trans (z63.trans (z64.trans z65)))), ⟨by decide, by decide, by decide, by decide⟩, by decide⟩
      · exact ⟨p61, (1, 1, 0), rfl, e61.same (z62.trans (z63.trans (z64.trans z65))), ⟨by decide, by decide, by decide, by decide⟩, by decide⟩
      · exact ⟨p62, (7, 2, 9), rfl, e62.same (z63.trans (z64.trans z65)), ⟨by decide, by decide, by decide, by decide⟩, by decide⟩
      · exact ⟨p63, (100, 100, 100), rfl, e63.same (z64.trans z65), ⟨by decide, by decide, by decide, by decide⟩, by decide⟩
      · exact ⟨p64, (299, 1, 0), rfl, e64.same z65, ⟨by decide, by decide, by decide, by decide⟩, by decide⟩
    have S2 : Same H G65 := S1.trans (y0.trans (z57.trans (z58.trans (z59.trans (z60.trans (z61.trans (z62.trans (z63.trans (z64.trans z65)))))))))
    refine ⟨p65, rfl, ⟨_, .inl (.inl e2)⟩, for_list (K := K) (a := p65) (xs := [.ref p57, .ref p58, .ref p59, .ref p60, .ref p61, .ref p62, .ref p63, .ref p64]) (fun i σ H' => (∃ v2 v3 v4 v5 v6 v7 v8, σ = [some (.int g), some (.ref p56), v2, v3, v4, v5, v6, v7, v8]) ∧ Same G65 H')
      ⟨⟨_, _, _, _, _, _, _, rfl⟩, Same.refl _⟩ (fun i σ H' _ h => .inl (.inl (h.2 _ _ e2))) ?_ ?_⟩
    · rintro i x σ X1 hx ⟨⟨v2, v3, v4, v5, v6, v7, v8, rfl⟩, w1⟩
      obtain ⟨t, s, rfl, ht, ho, h300⟩ := hall2 x (List.mem_of_getElem? hx)
      have hnn := (ok3_Nn ho).1
      refine ⟨_, rfl, _, rfl, _, rfl, .inr ⟨t, s, rfl, (ht.same w1).sq, ho, .inr ⟨h300, ht.same w1, fun X2 L ms w2 nL hPT hfr => ?_⟩⟩⟩
      obtain ⟨hg, hal, hfw⟩ := hfr
      refine ⟨t, L, true, s, ms, rfl, (ht.same (w1.trans w2)).sq, ho, hPT, hg, fun X3 r w3 hr => ?_⟩
      have hr : SqT K X3 r (tV (run 1 s ms)) := hr
      have hk := (join_keeps hnn hg.full).1
      obtain ⟨e, he⟩ : ∃ e, run 1 s ms = e := ⟨_, rfl⟩
      rw [he] at hr hk hal hfw
      refine ⟨r, [e.1, e.2.1, e.2.2], rfl, hr, by show 3 < 64; decide, fun ns' p hpm hst np => ?_⟩
      have ens := sorted_alone hk hal hpm hst
      rw [hfw] at ens
      have w4 : Same X3 (upd X3 p (.lst (ns'.map V.int))) := same_upd np
      have hp4 : (upd X3 p (.lst (ns'.map V.int))) p = some (.lst (ns'.map V.int)) := upd_same
      generalize upd X3 p (.lst (ns'.map V.int)) = X4 at w4 hp4
      rw [ens] at hp4
      refine ⟨_, rfl, _, rfl, _, rfl, .inr ⟨t, s, rfl, (ht.same (w1.trans (w2.trans (w3.trans w4)))).sq, ho, fun X5 w5 => ⟨(by show 3 ≤ sizeLine; decide), fun X6 l6 w6 nl6 hl6 => ?_⟩⟩⟩
      refine ⟨.list ([0, 0, fewest s].map PyData.int), .list ([0, 0, fewest s].map PyData.int), .lst (.inl (.inl (w6 _ _ (w5 _ _ hp4)))) (dpInts _), .lst (.inl (.inl hl6)) (dpInts [0, 0, fewest s]), shaped_ints _, shaped_ints _, _, rfl, ?_⟩
      rw [eqv_self (shaped_ints _)]
      exact iteF ⟨⟨_, _, _, _, _, _, _, rfl⟩, w1.trans (w2.trans (w3.trans (w4.trans (w5.trans w6))))⟩
    rintro σ Y1 ⟨⟨v2, v3, v4, v5, v6, v7, v8, rfl⟩, y1⟩
    refine ⟨(by show 3 ≤ sizeLine; decide), fun G66 p66 z66 n66 e66 => ?_⟩
    refine ⟨(by show 3 ≤ sizeLine; decide), fun G67 p67 z67 n67 e67 => ?_⟩
    refine ⟨(by show 3 ≤ sizeLine; decide), fun G68 p68 z68 n68 e68 => ?_⟩
    refine ⟨(by show 3 ≤ sizeLine; decide), fun G69 p69 z69 n69 e69 => ?_⟩
    refine ⟨(by show 3 ≤ sizeLine; decide), fun G70 p70 z70 n70 e70 => ?_⟩
    refine ⟨(by show 3 ≤ sizeLine; decide), fun G71 p71 z71 n71 e71 => ?_⟩
    refine ⟨(by show 3 ≤ sizeLine; decide), fun G72 p72 z72 n72 e72 => ?_⟩
    refine ⟨_, rfl, ?_⟩
    refine ⟨_, rfl, _, rfl, _, _, rfl, rfl, (by show 3 ≤ sizeLine; decide), fun G73 p73 z73 n73 e73 => ?_⟩
    refine ⟨_, rfl, _, _, rfl, rfl, (by show 3 ≤ sizeLine; decide), fun G74 p74 z74 n74 e74 => ?_⟩
    refine ⟨(by show 3 ≤ sizeLine; decide), fun G75 p75 z75 n75 e75 => ?_⟩
    refine ⟨(by show 3 ≤ sizeLine; decide), fun G76 p76 z76 n76 e76 => ?_⟩
    refine ⟨(by show 3 ≤ sizeLine; decide), fun G77 p77 z77 n77 e77 => ?_⟩
    refine ⟨(by show 3 ≤ sizeLine; decide), fun G78 p78 z78 n78 e78 => ?_⟩
    refine ⟨(by show 3 ≤ sizeLine; decide), fun G79 p79 z79 n79 e79 => ?_⟩
    refine ⟨_, p79, _, _, rfl, rfl, (z73.trans (z74.trans (z75.trans (z76.trans (z77.trans (z78.trans z79)))))) _ _ e72, e79, by show 3 + 3 ≤ sizeLine; decide, fun G80 p80 z80 n80 e80 => ?_⟩
    have e3 : G80 p80 = some (.lst [.ref p67, .ref p69, .ref p71, .ref p74, .ref p76, .ref p78]) := e80
    have hall3 : ∀ x ∈ ([.ref p67, .ref p69, .ref p71, .ref p74, .ref p76, .ref p78] : List V), ∃ (c t : Addr) (s : T3) (k d : Int), x = .ref c ∧ SqT K G80 c [.ref t, .int k, .int d] ∧ TupF G80 t (tV s) ∧ Ok3 s.1 s.2.1 s.2.2 ∧ 0 ≤ k ∧ k < 3 ∧ stepsT s k = some d := by
      intro x hx
      simp only [List.mem_cons, List.mem_nil_iff, or_false] at hx
      rcases hx with rfl | rfl | rfl | rfl | rfl | rfl
      · exact ⟨p67, p66, (0, 3, 0), 1, 0, rfl, (e67.same (z68.trans (z69.trans (z70.trans (z71.trans (z72.trans (z73.trans (z74.trans (z75.trans (z76.trans (z77.trans (z78.trans (z79.trans z80))))))))))))).sq, e66.same (z67.trans (z68.trans (z69.trans (z70.trans (z71.trans (z72.trans (z73.trans (z74.trans (z75.trans (z76.trans (z77.trans (z78.trans (z79.trans z80))))))))))))), ⟨by dsimp only; omega, by dsimp only; omega, by dsimp only; omega, by dsimp only; omega⟩, by decide, by decide, by unfold stepsT oth Alone mx; decide⟩
      · exact ⟨p69, p68, (1, 1, 0), 2, 1, rfl, (e69.same (z70.trans (z71.trans (z72.trans (z73.trans (z74.trans (z75.trans (z76.trans (z77.trans (z78.trans (z79.trans z80))))))))))).sq, e68.same (z69.trans (z70.trans (z71.trans (z72.trans (z73.trans (z74.trans (z75.trans (z76.trans (z77.trans (z78.trans (z79.trans z80))))))))))), ⟨by dsimp only; omega, by dsimp only; omega, by dsimp only; omega, by dsimp only; omega⟩, by decide, by decide, by unfold stepsT oth Alone mx; decide⟩
      · exact ⟨p71, p70, (1, 4, 0), 2, 4, rfl, (e71.same (z72.trans (z73.trans (z74.trans (z75.trans (z76.trans (z77.trans (z78.trans (z79.trans z80))))))))).sq, e70.same (z71.trans (z72.trans (z73.trans (z74.trans (z75.trans (z76.trans (z77.trans (z78.trans (z79.trans z80))))))))), ⟨by dsimp only; omega, by dsimp only; omega, by dsimp only; omega, by dsimp only; omega⟩, by decide, by decide, by unfold stepsT oth Alone mx; decide⟩
      · exact ⟨p74, p73, (g, g + 3, 5), 2, g + 3, rfl, (e74.same (z75.trans (z76.trans (z77.trans (z78.trans (z79.trans z80)))))).sq, e73.same (z74.trans (z75.trans (z76.trans (z77.trans (z78.trans (z79.trans z80)))))), ⟨by dsimp only; omega, by dsimp only; omega, by dsimp only; omega, by dsimp only; omega⟩, by decide, by decide, by rw [← hgd]; unfold stepsT oth Alone mx; decide +kernel⟩
      · exact ⟨p76, p75, (4, 1, 7), 1, 7, rfl, (e76.same (z77.trans (z78.trans (z79.trans z80)))).sq, e75.same (z76.trans (z77.trans (z78.trans (z79.trans z80)))), ⟨by dsimp only; omega, by dsimp only; omega, by dsimp only; omega, by dsimp only; omega⟩, by decide, by decide, by unfold stepsT oth Alone mx; decide⟩
      · exact ⟨p78, p77, (3, 0, 1), 2, 3, rfl, (e78.same (z79.trans z80)).sq, e77.same (z78.trans (z79.trans z80)), ⟨by dsimp only; omega, by dsimp only; omega, by dsimp only; omega, by dsimp only; omega⟩, by decide, by decide, by unfold stepsT oth Alone mx; decide⟩
    have S3 : Same H G80 := S2.trans (y1.trans (z66.trans (z67.trans (z68.trans (z69.trans (z70.trans (z71.trans (z72.trans (z73.trans (z74.trans (z75.trans (z76.trans (z77.trans (z78.trans (z79.trans z80)))))))))))))))
    refine ⟨_, rfl, p80, rfl, ⟨_, .inl (.inl e3)⟩, for_list (K := K) (a := p80) (xs := [.ref p67, .ref p69, .ref p71, .ref p74, .ref p76, .ref p78]) (fun i σ H' => (∃ v2 v3 v4 v5 v6 v7 v8, σ = [some (.int g), some (.ref p80), v2, v3, v4, v5, v6, v7, v8]) ∧ Same G80 H')
      ⟨⟨_, _, _, _, _, _, _, rfl⟩, Same.refl _⟩ (fun i σ H' _ h => .inl (.inl (h.2 _ _ e3))) ?_ ?_⟩
    · rintro i x σ X1 hx ⟨⟨v2, v3, v4, v5, v6, v7, v8, rfl⟩, w1⟩
      obtain ⟨c, t, s, kd, d, rfl, hc, ht, ho, k0, k3, hst⟩ := hall3 x (List.mem_of_getElem? hx)
      refine ⟨c, _, rfl, tup_same w1 hc, rfl, _, _, rfl, _, _, rfl, _, _, rfl, rfl, ?_⟩
      refine ⟨_, rfl, _, rfl, _, _, rfl, .inr ⟨t, s, rfl, (ht.same w1).sq, ho, .inr ⟨kd, rfl, k0, k3, fun X2 a w2 na hans => ?_⟩⟩⟩
      rw [hst] at hans
      have hT : ∀ X, Same X2 X → Tr K X t s.1 s.2.1 s.2.2 := fun X z => (ht.same (w1.trans (w2.trans z))).sq
      obtain ⟨dx, fs, hal, hfs, _⟩ := id hans
      refine ⟨_, rfl, _, _, _, _, true, rfl, .own _, hcl.A.ty hal, hcl.aa, true, rfl, iteF ?_⟩
      refine ⟨_, rfl, a, CA, dx, fs, _, rfl, hal, hcl.A.cl, hcl.st, hfs, _, rfl, rfl, _, rfl, ?_⟩
      rw [show decide (V.int d = V.int d) = true from decide_eq_true rfl]
      refine iteF ?_
      refine .inl ⟨_, rfl, _, rfl, fun X3 a3 w3 na3 hal3 => ?_⟩
      obtain ⟨dx3, fs3, hb3, hfs3, hsh3⟩ := id hal3
      refine ⟨a3, dx3, fs3, rfl, hb3, hsh3, _, rfl, _, rfl, a3, t, s, kd, d, rfl, hal3, hT _ w3, ho, k0, k3, fun X4 w4 => ⟨_, rfl, ?_⟩⟩
      rw [hst, show decide (some d = some d) = true from decide_eq_true rfl]
      refine iteF ?_
      refine .inl ⟨_, rfl, _, _, rfl, rfl, _, rfl, fun X5 a5 w5 na5 hal5 => ?_⟩
      obtain ⟨dx5, fs5, hb5, hfs5, hsh5⟩ := id hal5
      refine ⟨a5, dx5, fs5, rfl, hb5, hsh5, _, rfl, _, rfl, a5, t, s, kd, d + 1, rfl, hal5, hT _ (w3.trans (w4.trans w5)), ho, k0, k3, fun X6 w6 => ⟨_, rfl, ?_⟩⟩
      rw [hst, show decide (some d = some (d + 1)) = false from decide_eq_false fun q => by have := Option.some.inj q; omega]
      refine iteF ?_
      have w26 : Same X2 X6 := w3.trans (w4.trans (w5.trans w6))
      refine ⟨_, rfl, _, _, rfl, rfl, _, rfl, ite2 (fun z => ?_) (fun z => iteF ?_)⟩
      · refine .inl ⟨_, rfl, _, _, rfl, rfl, _, rfl, fun X7 a7 w7 na7 hal7 => ?_⟩
        obtain ⟨dx7, fs7, hb7, hfs7, hsh7⟩ := id hal7
        refine ⟨a7, dx7, fs7, rfl, hb7, hsh7, _, rfl, _, rfl, a7, t, s, kd, d - 1, rfl, hal7, hT _ (w26.trans w7), ho, k0, k3, fun X8 w8 => ⟨_, rfl, ?_⟩⟩
        rw [hst, show decide (some d = some (d - 1)) = false from decide_eq_false fun q => by have := Option.some.inj q; omega]
        refine iteF ?_
        refine .inr fun X9 a9 w9 na9 hbar9 => ?_
        obtain ⟨dx9, fs9, hb9, hsh9⟩ := id hbar9
        refine ⟨a9, dx9, fs9, rfl, hb9, hsh9, _, rfl, _, rfl, a9, t, s, kd, rfl, hbar9, hT _ (w26.trans (w7.trans (w8.trans w9))), ho, k0, k3, fun X10 w10 => ⟨_, rfl, ?_⟩⟩
        rw [hst, show decide (some d = none) = false from decide_eq_false fun q => by cases q]
        exact iteF ⟨⟨_, _, _, _, _, _, _, rfl⟩, w1.trans (w2.trans (w26.trans (w7.trans (w8.trans (w9.trans w10)))))⟩
      · refine .inr fun X9 a9 w9 na9 hbar9 => ?_
        obtain ⟨dx9, fs9, hb9, hsh9⟩ := id hbar9
        refine ⟨a9, dx9, fs9, rfl, hb9, hsh9, _, rfl, _, rfl, a9, t, s, kd, rfl, hbar9, hT _ (w26.trans w9), ho, k0, k3, fun X10 w10 => ⟨_, rfl, ?_⟩⟩
        rw [hst, show decide (some d = none) = false from decide_eq_false fun q => by cases q]
        exact iteF ⟨⟨_, _, _, _, _, _, _, rfl⟩, w1.trans (w2.trans (w26.trans (w9.trans w10)))⟩
    rintro σ Y2 ⟨⟨v2, v3, v4, v5, v6, v7, v8, rfl⟩, y2⟩
    exact ⟨_, rfl, g, rfl, g0, g3, fun Y3 y3 => k _ (S3.trans (y2.trans y3))⟩
end
abbrev sLaw : Stmt := topS 45
theorem scLaw : FnScope ["_law_script", "_law_whole", "_law_drawn", "_law_beads_here", "_law_by"] ["_law_script"] (defScope sLaw) := ⟨rfl, rfl, rfl, by decide +kernel, rfl, by decide +kernel, by decide +kernel⟩
section
variable {P : Program} {w : World} {K : PySem.W.Frag} {mg : Str → Option Value} {base : Heap} {f : Addr} {fd : FuncData}
def spLaw (K : PySem.W.Frag) : Sp := fun vs H Q _ => ∃ (p : Addr) (ns : List Int) (n : Nat), vs = [.ref p] ∧ SqL K H p (ns.map V.int) ∧ ns.length ≤ 63 ∧ n ≤ 1900000 ∧ (∀ z ∈ ns, Sz n z) ∧ ∀ H', Q (.bl true) H'
theorem ok_law {fB fPr fTo : Addr} {fdB fdPr fdTo : FuncData} (F : FnP K "law" sLaw f fd) (B : Bl mg)
    (aB : At K mg "_law_beads" sLb ["_law_script", "_law_by", "_law_wide"] fB fdB) (GB : FnOk P w K mg base CX0 2 fB fdB ["_law_script", "_law_by", "_law_wide"] (spLb K))
    (aPr : At K mg "_law_promises_right" sPr [] fPr fdPr) (GPr : FnOk P w K mg base CX0 8 fPr fdPr [] spTru)
    (aTo : At K mg "_law_told_right" sTo ["_law_beads_here"] fTo fdTo) (GTo : FnOk P w K mg base CX0 7 fTo fdTo ["_law_beads_here"] spTo) :
    FnOk P w K mg base CX0 9 f fd ["_law_script"] (spLaw K) := by
  refine F.ok scLaw (fun vs H Q E h => ?_) (fun cdv A outer s H vs Q E hr h => ?_)
  · obtain ⟨p, ns, n, rfl, _⟩ := h
    rfl
  · obtain ⟨p, ns, n, rfl, hS, hlen, hn, hz, k⟩ := h
    have r2 : Room 2 _ := hr.mono (by decide)
    have r7 : Room 7 _ := hr.mono (by decide)
    have r8 : Room 8 _ := hr
    refine ⟨_, PSs.nox (pss_cons (ps_if (pt_not (pt_val (pe_call0 GPr r8 (by rfl) aPr.g aPr.F.kp aPr.b .nil pass0))) (pss_one (ps_ret pe_bl)) pss_nil)
      (pss_cons (ps_set (i := 1) scLaw.nd rfl (.inl rfl) (pe_callB call_abs (by rfl) B.abs (by decide +kernel) (pa_cons (pe_callB (cr_sum rfl) (by rfl) B.sum (by decide +kernel) (pa_cons (pe_slice sl_list (pv 0) po_none (po_some pe_int)) pa_nil)) pa_nil)))
      (pss_cons (ps_setLc (i := 2) (own := [("_law_by", 4)]) (g := (gName 4)) (tt := tYes) (te := (tCall (spLb K) [] E0 (tCons (tVar 0) (tCons (tVar 4) (tCons (tC (.int 9)) tNil))))) rfl scLaw.nd rfl rfl (sw_true rfl rfl rfl (by decide +kernel)) (pi_list (pe_lstS (pa_cons pe_int (pa_cons pe_int pa_nil)))) (blkOk_by (N := ["_law_script", "_law_whole", "_law_drawn", "_law_beads_here", "_law_by"]) (sc := defScope sLaw) (by decide +kernel)) (fun _ _ _ _ _ => (pg_name (i := 4) scLaw.nd rfl (.inl rfl))) (fun _ _ _ _ _ => pts_nil) (fun _ _ _ _ _ => (pe_call GB r2 (by rfl) aB.g aB.F.kp aB.b .nil pass0 (pa_cons (pv 0) (pa_cons (pv 4) (pa_cons pe_int pa_nil))))))
      (pss_cons (ps_for PassesOwn.never rfl (pi_list (pe_op op_catS (pv 2) (pe_lstS (pa_cons (pe_tupS (pa_cons pe_int (pa_cons pe_int (pa_cons pe_int pa_nil)))) (pa_cons (pe_tupS (pa_cons pe_int (pa_cons pe_int (pa_cons pe_int pa_nil)))) (pa_cons (pe_tupS (pa_cons pe_int (pa_cons pe_int (pa_cons pe_int pa_nil)))) (pa_cons (pe_tupS (pa_cons (pe_op op_add (pv 1) pe_int) (pa_cons (pe_op op_pow pe_int pe_int) (pa_cons pe_int pa_nil)))) pa_nil))))))) (pg_name (i := 3) scLaw.nd rfl (.inl rfl)) (pss_one (ps_if (pt_not (pt_val (pe_call GTo r7 (by rfl) aTo.g aTo.F.kp aTo.b .nil pass0 (pa_cons (pv 3) pa_nil)))) (pss_one (ps_ret pe_bl)) pss_nil)))
      (pss_one (ps_ret pe_bl)))))), ?_⟩
    refine ⟨rfl, fun H1 s1 => ⟨true, rfl, iteF ?_⟩⟩
    refine ⟨_, rfl, 63, rfl, p, _, rfl, s1.seq hS, fun c hc => ?_⟩
    rw [show cutV (ns.map V.int) none (some 63) = ns.map V.int from cut_all (ns.map V.int) 63 (by rw [List.length_map]; exact hlen)]
    have sc : Same H1 (upd H1 c (.lst (ns.map V.int))) := same_upd hc
    refine ⟨c, ns, rfl, .inl (.inl upd_same), _, rfl, ?_⟩
    generalize upd H1 c (.lst (ns.map V.int)) = Hc at sc
    have w0 : 0 ≤ (if ns.sum < 0 then -ns.sum else ns.sum) := by split <;> omega
    generalize (if ns.sum < 0 then -ns.sum else ns.sum) = wh at w0
    refine ⟨(by show 2 ≤ sizeLine; decide), fun H2 l2 s2 hl2 al2 => ⟨l2, rfl, ⟨_, .inl (.inl al2)⟩, fun D hD => ?_⟩⟩
    have s02 : Same H H2 := s1.trans (sc.trans s2)
    refine lc_list (K := K) (a := l2) (xs := [.int 0, .int 1]) (fun i H' => Same H2 H' ∧ ∃ rs : List Addr, H' D = some (.lst (rs.map V.ref)) ∧ rs.length = i ∧ ∀ r ∈ rs, ∃ t : T3, TupF H' r (tV t) ∧ Ok3 t.1 t.2.1 t.2.2) ⟨same_upd hD, [], upd_same, rfl, fun _ h => (nomatch h)⟩ (fun i H' _ h => .inl (.inl (h.1 _ _ al2))) ?_ ?_
    · rintro i x H3 hx ⟨s3, rs, hD3, hl3, ha3⟩
      have hi : i < 2 := (List.getElem?_eq_some_iff.mp hx).1
      obtain ⟨by_, rfl, y0, y1⟩ : ∃ by_ : Int, x = .int by_ ∧ 0 ≤ by_ ∧ by_ < 10 := by
        match i, hx with
        | 0, hx => exact ⟨0, (Option.some.inj hx).symm, by decide, by decide⟩
        | 1, hx => exact ⟨1, (Option.some.inj hx).symm, by decide, by decide⟩
        | n + 2, hx => simp at hx
      refine ⟨rfl, ?_⟩
      dsimp only [tYes]
      refine iteT ?_
      refine ⟨_, rfl, _, rfl, p, ns, by_, 9, n, rfl, (s02.trans s3).seq hS, hlen, hn, hz, y0, y1, by decide, fun H4 r a b c s4 hr0 hr4 hk3 _ => ?_⟩
      have hD4 := s4 _ _ hD3
      refine ⟨_, hD4, by rw [List.length_map, hl3]; exact Nat.lt_trans hi (by decide), same_new (s3.trans s4) hD, rs ++ [r], by rw [upd_same, List.map_append]; rfl, by rw [List.length_append, hl3]; rfl, fun q hq => ?_⟩
      rcases List.mem_append.mp hq with z | z
      · obtain ⟨t, h1, h2⟩ := ha3 q z
        exact ⟨t, (h1.same s4).upd hD4, h2⟩
      · obtain rfl := List.mem_singleton.mp z
        exact ⟨(a, b, c), TupF.upd hr4 hD4, hk3⟩
    · rintro H3 ⟨s3, rs, hD3, hl3, ha3⟩
      refine ⟨_, rfl, (by show 3 ≤ sizeLine; decide), fun H4 t4 s4 h4 a4 => ⟨(by show 3 ≤ sizeLine; decide), fun H5 t5 s5 h5 a5 => ⟨(by show 3 ≤ sizeLine; decide), fun H6 t6 s6 h6 a6 => ⟨_, rfl, _, _, rfl, rfl, _, _, rfl, rfl, ⟨by decide, by decide, by decide⟩, (by show 3 ≤ sizeLine; decide), fun H7 t7 s7 h7 a7 => ⟨(by show 4 ≤ sizeLine; decide), fun H8 l8 s8 h8 al8 => ?_⟩⟩⟩⟩⟩
      have s38 : Same H3 H8 := s4.trans (s5.trans (s6.trans (s7.trans s8)))
      refine ⟨D, l8, _, _, rfl, rfl, s38 _ _ hD3, al8, ?_, fun H9 p9 s9 hp9 al9 => ⟨p9, rfl, ⟨_, .inl (.inl al9)⟩, ?_⟩⟩
      · rw [List.length_map, hl3]
        show 2 + 4 ≤ sizeLine
        decide
      refine for_list (K := K) (a := p9) (xs := rs.map V.ref ++ [.ref t4, .ref t5, .ref t6, .ref t7]) (fun i σ H' => (∃ v3 v4, σ = [some (.ref p), some (.int wh), some (.ref D), v3, v4]) ∧ Same H9 H')
        ⟨⟨_, _, rfl⟩, Same.refl _⟩ (fun i σ H' _ h => .inl (.inl (h.2 _ _ al9))) ?_ ?_
      · rintro i x σ H10 hx ⟨⟨v3, v4, rfl⟩, s10⟩
        obtain ⟨g, t, rfl, hg, ht⟩ : ∃ (g : Addr) (t : T3), x = .ref g ∧ TupF H9 g (tV t) ∧ Ok3 t.1 t.2.1 t.2.2 := by
          rcases List.mem_append.mp (List.mem_of_getElem? hx) with z | z
          · obtain ⟨r, hr, rfl⟩ := List.mem_map.mp z
            obtain ⟨t, h1, h2⟩ := ha3 r hr
            exact ⟨r, t, rfl, h1.same (s38.trans s9), h2⟩
          · simp only [List.mem_cons, List.mem_nil_iff, or_false] at z
            rcases z with rfl | rfl | rfl | rfl
            · exact ⟨t4, (1, 0, 0), rfl, a4.same (s5.trans (s6.trans (s7.trans (s8.trans s9)))), ⟨by decide, by decide, by decide, by decide⟩⟩
            · exact ⟨t5, (1, 1, 0), rfl, a5.same (s6.trans (s7.trans (s8.trans s9))), ⟨by decide, by decide, by decide, by decide⟩⟩
            · exact ⟨t6, (1, 1, 1), rfl, a6.same (s7.trans (s8.trans s9)), ⟨by decide, by decide, by decide, by decide⟩⟩
            · exact ⟨t7, (wh + 1, (10 : Int) ^ (20 : Int).toNat, 3), rfl, a7.same (s8.trans s9), ⟨by show 0 ≤ wh + 1; omega, by show (0 : Int) ≤ (10 : Int) ^ (20 : Int).toNat; decide, by show (0 : Int) ≤ 3; decide, by
                show 0 < wh + 1 + (10 : Int) ^ (20 : Int).toNat + 3
                have : 0 ≤ (10 : Int) ^ (20 : Int).toNat := by decide
                omega⟩⟩
        exact ⟨_, rfl, g, t, rfl, hg.same s10, ht, fun H11 s11 => ⟨true, rfl, iteF ⟨⟨_, _, rfl⟩, s10.trans s11⟩⟩⟩
      · rintro σ H10 ⟨⟨v3, v4, rfl⟩, s10⟩
        exact k _
end

/-! ### the head: facts by names, the run -/
abbrev mkD (x : Str) (i : Nat) : He.DefD := ⟨(x, none), x, x, defArgs (topS i), defBody (topS i), defScope (topS i), [], []⟩
abbrev mkM (C x : Str) (i j : Nat) (q : Str) : He.DefD := ⟨(C, some x), x, q, defArgs (inClass (topS i) j), defBody (inClass (topS i) j), defScope (inClass (topS i) j), [], []⟩
def fnL : List He.DefD := [mkD "meetings" 8, mkD "joined" 9, mkD "turned" 10, mkD "behind" 11, mkD "check_beads" 12, mkD "check_meeting" 13, mkD "are_beads" 14, mkD "is_meeting" 15, mkD "is_kind" 16, mkD "is_number" 17, mkD "check_few" 20, mkD "last_kinds" 22, mkD "fewest_left" 23, mkD "to_fewest" 24, mkD "of_the_most" 25, mkD "fewest_turnings" 30, mkD "all_of" 32, mkD "to_kind" 33, mkD "toward" 34, mkD "check_kind" 35, mkD "_law_number" 37, mkD "_law_beads" 38, mkD "_law_plain" 39, mkD "_law_truths" 40, mkD "_law_told_right" 41, mkD "_law_walked" 42, mkD "_law_promises_right" 43, mkD "_law_barred_promises" 44, mkD "law" 45, mkM "Barred" "shows" 28 0 "Barred.shows", mkM "All" "__init__" 29 0 "All.__init__", mkM "All" "shows" 29 1 "All.shows"]
def exB : PySem.W.Frag → Bool := fun K => ansB K (He.ga K "Answer") (He.ga K "All") (He.ga K "Barred") && mk0B K (He.ga K "Barred")
def faL : List He.Fa := [.glo "meetings", .glo "joined", .glo "turned", .glo "behind", .glo "check_beads", .glo "check_meeting", .glo "are_beads", .glo "is_meeting", .glo "is_kind", .glo "is_number", .glo "check_few", .glo "last_kinds", .glo "fewest_left", .glo "to_fewest", .glo "of_the_most", .glo "fewest_turnings", .glo "all_of", .glo "to_kind", .glo "toward", .glo "check_kind", .glo "_law_number", .glo "_law_beads", .glo "_law_plain", .glo "_law_truths", .glo "_law_told_right", .glo "_law_walked", .glo "_law_promises_right", .glo "_law_barred_promises", .glo "law", .free "range", .free "isinstance", .free "list", .free "all", .free "tuple", .free "sum", .free "len", .free "abs", .free "enumerate", .free "max", .free "int", .free "bool", .free "any", .free "min", .free "str", .free "sorted", .int "KINDS" 3, .int "MOST" 300, .glo "BadBeads", .exc "BadBeads", .glo "BadMeeting", .exc "BadMeeting", .glo "BadKind", .exc "BadKind", .glo "TooMany", .exc "TooMany", .glo "Answer", .glo "All", .glo "Barred", .meth "All" "shows", .meth "Barred" "shows", .mkr "All"]
abbrev R : PySem.W.OpenRow := PySem.W.OpenLaw.row PySem.Challenge.rw_kindmeets_k08_whole_numbers
abbrev hk : PySem.W.Hook := He.hookX 5 faL fnL [] [] exB
def ob (s : PySem.W.SharedT) : He.AlX := He.obsX 5 faL fnL [] [] exB (HandSHeadRun.getT s)
theorem ob_eq (s : PySem.W.SharedT) : ob s = hk.obs s.abs := He.obsX_eq (HandSHeadRun.getT_eq s)
def looseL : List Str := "BeadError" :: "BadBeads" :: "BadMeeting" :: "BadKind" :: "TooMany" :: "KINDS" :: "meetings" :: "joined" :: "turned" :: "behind" :: "check_beads" :: "check_meeting" :: "are_beads" :: "is_meeting" :: "is_kind" :: "is_number" :: "MOST" :: "check_few" :: "last_kinds" :: "fewest_left" :: "to_fewest" :: "of_the_most" :: "Answer" :: "Barred" :: "All" :: "fewest_turnings" :: "all_of" :: "to_kind" :: "toward" :: "check_kind" :: "_law_number" :: "_law_beads" :: "_law_plain" :: "_law_truths" :: "_law_told_right" :: "_law_walked" :: "_law_promises_right" :: "_law_barred_promises" :: []
theorem runHead (w : World) : HandSHeadRun.RunEq R (PySem.W.view R.prog [45]) hk ob 3000 looseL w := by
  intro os
  kernel_rfl
section
variable {K : PySem.W.Frag} {h : Heap} {mg : Str → Option Value}
theorem at_meetings (X : K.In h) (G : h.Ns mainGlobals mg) (c : He.SaysD faL fnL K) : ∃ fd, At K mg "meetings" (topS 8) ["beads"] (He.ga K "meetings") fd := by
  obtain ⟨fd, F⟩ := c.def_ 0 (d := mkD "meetings" 8) rfl
  exact ⟨fd, F, He.glo_ok X G (c.fact 0 (f := .glo "meetings") rfl), FunD.bindsN F fun _ _ _ _ _ _ us hl => match us, hl with | [_], _ => rfl⟩
theorem at_joined (X : K.In h) (G : h.Ns mainGlobals mg) (c : He.SaysD faL fnL K) : ∃ fd, At K mg "joined" (topS 9) ["beads", "meeting"] (He.ga K "joined") fd := by
  obtain ⟨fd, F⟩ := c.def_ 1 (d := mkD "joined" 9) rfl
  exact ⟨fd, F, He.glo_ok X G (c.fact 1 (f := .glo "joined") rfl), FunD.bindsN F fun _ _ _ _ _ _ us hl => match us, hl with | [_, _], _ => rfl⟩
theorem at_turned (X : K.In h) (G : h.Ns mainGlobals mg) (c : He.SaysD faL fnL K) : ∃ fd, At K mg "turned" (topS 10) ["beads", "meeting"] (He.ga K "turned") fd := by
  obtain ⟨fd, F⟩ := c.def_ 2 (d := mkD "turned" 10) rfl
  exact ⟨fd, F, He.glo_ok X G (c.fact 2 (f := .glo "turned") rfl), FunD.bindsN F fun _ _ _ _ _ _ us hl => match us, hl with | [_, _], _ => rfl⟩
theorem at_behind (X : K.In h) (G : h.Ns mainGlobals mg) (c : He.SaysD faL fnL K) : ∃ fd, At K mg "behind" (topS 11) ["beads", "meeting", "made"] (He.ga K "behind") fd := by
  obtain ⟨fd, F⟩ := c.def_ 3 (d := mkD "behind" 11) rfl
  exact ⟨fd, F, He.glo_ok X G (c.fact 3 (f := .glo "behind") rfl), FunD.bindsN F fun _ _ _ _ _ _ us hl => match us, hl with | [_, _, _], _ => rfl⟩
theorem at_check_beads (X : K.In h) (G : h.Ns mainGlobals mg) (c : He.SaysD faL fnL K) : ∃ fd, At K mg "check_beads" (topS 12) ["beads"] (He.ga K "check_beads") fd := by
  obtain ⟨fd, F⟩ := c.def_ 4 (d := mkD "check_beads" 12) rfl
  exact ⟨fd, F, He.glo_ok X G (c.fact 4 (f := .glo "check_beads") rfl), FunD.bindsN F fun _ _ _ _ _ _ us hl => match us, hl with | [_], _ => rfl⟩
theorem at_check_meeting (X : K.In h) (G : h.Ns mainGlobals mg) (c : He.SaysD faL fnL K) : ∃ fd, At K mg "check_meeting" (topS 13) ["beads", "meeting"] (He.ga K "check_meeting") fd := by
  obtain ⟨fd, F⟩ := c.def_ 5 (d := mkD "check_meeting" 13) rfl
  exact ⟨fd, F, He.glo_ok X G (c.fact 5 (f := .glo "check_meeting") rfl), FunD.bindsN F fun _ _ _ _ _ _ us hl => match us, hl with | [_, _], _ => rfl⟩
theorem at_are_beads (X : K.In h) (G : h.Ns mainGlobals mg) (c : He.SaysD faL fnL K) : ∃ fd, At K mg "are_beads" (topS 14) ["value"] (He.ga K "are_beads") fd := by
  obtain ⟨fd, F⟩ := c.def_ 6 (d := mkD "are_beads" 14) rfl
  exact ⟨fd, F, He.glo_ok X G (c.fact 6 (f := .glo "are_beads") rfl), FunD.bindsN F fun _ _ _ _ _ _ us hl => match us, hl with | [_], _ => rfl⟩
theorem at_is_meeting (X : K.In h) (G : h.Ns mainGlobals mg) (c : He.SaysD faL fnL K) : ∃ fd, At K mg "is_meeting" (topS 15) ["value"] (He.ga K "is_meeting") fd := by
  obtain ⟨fd, F⟩ := c.def_ 7 (d := mkD "is_meeting" 15) rfl
  exact ⟨fd, F, He.glo_ok X G (c.fact 7 (f := .glo "is_meeting") rfl), FunD.bindsN F fun _ _ _ _ _ _ us hl => match us, hl with | [_], _ => rfl⟩
theorem at_is_kind (X : K.In h) (G : h.Ns mainGlobals mg) (c : He.SaysD faL fnL K) : ∃ fd, At K mg "is_kind" (topS 16) ["value"] (He.ga K "is_kind") fd := by
  obtain ⟨fd, F⟩ := c.def_ 8 (d := mkD "is_kind" 16) rfl
  exact ⟨fd, F, He.glo_ok X G (c.fact 8 (f := .glo "is_kind") rfl), FunD.bindsN F fun _ _ _ _ _ _ us hl => match us, hl with | [_], _ => rfl⟩
theorem at_is_number (X : K.In h) (G : h.Ns mainGlobals mg) (c : He.SaysD faL fnL K) : ∃ fd, At K mg "is_number" (topS 17) ["value"] (He.ga K "is_number") fd := by
  obtain ⟨fd, F⟩ := c.def_ 9 (d := mkD "is_number" 17) rfl
  exact ⟨fd, F, He.glo_ok X G (c.fact 9 (f := .glo "is_number") rfl), FunD.bindsN F fun _ _ _ _ _ _ us hl => match us, hl with | [_], _ => rfl⟩
theorem at_check_few (X : K.In h) (G : h.Ns mainGlobals mg) (c : He.SaysD faL fnL K) : ∃ fd, At K mg "check_few" (topS 20) ["beads"] (He.ga K "check_few") fd := by
  obtain ⟨fd, F⟩ := c.def_ 10 (d := mkD "check_few" 20) rfl
  exact ⟨fd, F, He.glo_ok X G (c.fact 10 (f := .glo "check_few") rfl), FunD.bindsN F fun _ _ _ _ _ _ us hl => match us, hl with | [_], _ => rfl⟩
theorem at_last_kinds (X : K.In h) (G : h.Ns mainGlobals mg) (c : He.SaysD faL fnL K) : ∃ fd, At K mg "last_kinds" (topS 22) ["beads"] (He.ga K "last_kinds") fd := by
  obtain ⟨fd, F⟩ := c.def_ 11 (d := mkD "last_kinds" 22) rfl
  exact ⟨fd, F, He.glo_ok X G (c.fact 11 (f := .glo "last_kinds") rfl), FunD.bindsN F fun _ _ _ _ _ _ us hl => match us, hl with | [_], _ => rfl⟩
theorem at_fewest_left (X : K.In h) (G : h.Ns mainGlobals mg) (c : He.SaysD faL fnL K) : ∃ fd, At K mg "fewest_left" (topS 23) ["beads"] (He.ga K "fewest_left") fd := by
  obtain ⟨fd, F⟩ := c.def_ 12 (d := mkD "fewest_left" 23) rfl
  exact ⟨fd, F, He.glo_ok X G (c.fact 12 (f := .glo "fewest_left") rfl), FunD.bindsN F fun _ _ _ _ _ _ us hl => match us, hl with | [_], _ => rfl⟩
theorem at_to_fewest (X : K.In h) (G : h.Ns mainGlobals mg) (c : He.SaysD faL fnL K) : ∃ fd, At K mg "to_fewest" (topS 24) ["beads"] (He.ga K "to_fewest") fd := by
  obtain ⟨fd, F⟩ := c.def_ 13 (d := mkD "to_fewest" 24) rfl
  exact ⟨fd, F, He.glo_ok X G (c.fact 13 (f := .glo "to_fewest") rfl), FunD.bindsN F fun _ _ _ _ _ _ us hl => match us, hl with | [_], _ => rfl⟩
theorem at_of_the_most (X : K.In h) (G : h.Ns mainGlobals mg) (c : He.SaysD faL fnL K) : ∃ fd, At K mg "of_the_most" (topS 25) ["beads"] (He.ga K "of_the_most") fd := by
  obtain ⟨fd, F⟩ := c.def_ 14 (d := mkD "of_the_most" 25) rfl
  exact ⟨fd, F, He.glo_ok X G (c.fact 14 (f := .glo "of_the_most") rfl), FunD.bindsN F fun _ _ _ _ _ _ us hl => match us, hl with | [_], _ => rfl⟩
theorem at_fewest_turnings (X : K.In h) (G : h.Ns mainGlobals mg) (c : He.SaysD faL fnL K) : ∃ fd, At K mg "fewest_turnings" (topS 30) ["beads", "kind"] (He.ga K "fewest_turnings") fd := by
  obtain ⟨fd, F⟩ := c.def_ 15 (d := mkD "fewest_turnings" 30) rfl
  exact ⟨fd, F, He.glo_ok X G (c.fact 15 (f := .glo "fewest_turnings") rfl), FunD.bindsN F fun _ _ _ _ _ _ us hl => match us, hl with | [_, _], _ => rfl⟩
theorem at_all_of (X : K.In h) (G : h.Ns mainGlobals mg) (c : He.SaysD faL fnL K) : ∃ fd, At K mg "all_of" (topS 32) ["beads", "kind"] (He.ga K "all_of") fd := by
  obtain ⟨fd, F⟩ := c.def_ 16 (d := mkD "all_of" 32) rfl
  exact ⟨fd, F, He.glo_ok X G (c.fact 16 (f := .glo "all_of") rfl), FunD.bindsN F fun _ _ _ _ _ _ us hl => match us, hl with | [_, _], _ => rfl⟩
theorem at_to_kind (X : K.In h) (G : h.Ns mainGlobals mg) (c : He.SaysD faL fnL K) : ∃ fd, At K mg "to_kind" (topS 33) ["beads", "kind"] (He.ga K "to_kind") fd := by
  obtain ⟨fd, F⟩ := c.def_ 17 (d := mkD "to_kind" 33) rfl
  exact ⟨fd, F, He.glo_ok X G (c.fact 17 (f := .glo "to_kind") rfl), FunD.bindsN F fun _ _ _ _ _ _ us hl => match us, hl with | [_, _], _ => rfl⟩
theorem at_toward (X : K.In h) (G : h.Ns mainGlobals mg) (c : He.SaysD faL fnL K) : ∃ fd, At K mg "toward" (topS 34) ["beads", "kind"] (He.ga K "toward") fd := by
  obtain ⟨fd, F⟩ := c.def_ 18 (d := mkD "toward" 34) rfl
  exact ⟨fd, F, He.glo_ok X G (c.fact 18 (f := .glo "toward") rfl), FunD.bindsN F fun _ _ _ _ _ _ us hl => match us, hl with | [_, _], _ => rfl⟩
theorem at_check_kind (X : K.In h) (G : h.Ns mainGlobals mg) (c : He.SaysD faL fnL K) : ∃ fd, At K mg "check_kind" (topS 35) ["kind"] (He.ga K "check_kind") fd := by
  obtain ⟨fd, F⟩ := c.def_ 19 (d := mkD "check_kind" 35) rfl
  exact ⟨fd, F, He.glo_ok X G (c.fact 19 (f := .glo "check_kind") rfl), FunD.bindsN F fun _ _ _ _ _ _ us hl => match us, hl with | [_], _ => rfl⟩
theorem at__law_number (X : K.In h) (G : h.Ns mainGlobals mg) (c : He.SaysD faL fnL K) : ∃ fd, At K mg "_law_number" (topS 37) ["_law_cell", "_law_at", "_law_whole"] (He.ga K "_law_number") fd := by
  obtain ⟨fd, F⟩ := c.def_ 20 (d := mkD "_law_number" 37) rfl
  exact ⟨fd, F, He.glo_ok X G (c.fact 20 (f := .glo "_law_number") rfl), FunD.bindsN F fun _ _ _ _ _ _ us hl => match us, hl with | [_, _, _], _ => rfl⟩
theorem at__law_beads (X : K.In h) (G : h.Ns mainGlobals mg) (c : He.SaysD faL fnL K) : ∃ fd, At K mg "_law_beads" (topS 38) ["_law_script", "_law_by", "_law_wide"] (He.ga K "_law_beads") fd := by
  obtain ⟨fd, F⟩ := c.def_ 21 (d := mkD "_law_beads" 38) rfl
  exact ⟨fd, F, He.glo_ok X G (c.fact 21 (f := .glo "_law_beads") rfl), FunD.bindsN F fun _ _ _ _ _ _ us hl => match us, hl with | [_, _, _], _ => rfl⟩
theorem at__law_plain (X : K.In h) (G : h.Ns mainGlobals mg) (c : He.SaysD faL fnL K) : ∃ fd, At K mg "_law_plain" (topS 39) ["_law_thing"] (He.ga K "_law_plain") fd := by
  obtain ⟨fd, F⟩ := c.def_ 22 (d := mkD "_law_plain" 39) rfl
  exact ⟨fd, F, He.glo_ok X G (c.fact 22 (f := .glo "_law_plain") rfl), FunD.bindsN F fun _ _ _ _ _ _ us hl => match us, hl with | [_], _ => rfl⟩
theorem at__law_truths (X : K.In h) (G : h.Ns mainGlobals mg) (c : He.SaysD faL fnL K) : ∃ fd, At K mg "_law_truths" (topS 40) ["_law_things"] (He.ga K "_law_truths") fd := by
  obtain ⟨fd, F⟩ := c.def_ 23 (d := mkD "_law_truths" 40) rfl
  exact ⟨fd, F, He.glo_ok X G (c.fact 23 (f := .glo "_law_truths") rfl), FunD.bindsN F fun _ _ _ _ _ _ us hl => match us, hl with | [_], _ => rfl⟩
theorem at__law_told_right (X : K.In h) (G : h.Ns mainGlobals mg) (c : He.SaysD faL fnL K) : ∃ fd, At K mg "_law_told_right" (topS 41) ["_law_beads_here"] (He.ga K "_law_told_right") fd := by
  obtain ⟨fd, F⟩ := c.def_ 24 (d := mkD "_law_told_right" 41) rfl
  exact ⟨fd, F, He.glo_ok X G (c.fact 24 (f := .glo "_law_told_right") rfl), FunD.bindsN F fun _ _ _ _ _ _ us hl => match us, hl with | [_], _ => rfl⟩
theorem at__law_walked (X : K.In h) (G : h.Ns mainGlobals mg) (c : He.SaysD faL fnL K) : ∃ fd, At K mg "_law_walked" (topS 42) ["_law_beads_here", "_law_row", "_law_is_joined"] (He.ga K "_law_walked") fd := by
  obtain ⟨fd, F⟩ := c.def_ 25 (d := mkD "_law_walked" 42) rfl
  exact ⟨fd, F, He.glo_ok X G (c.fact 25 (f := .glo "_law_walked") rfl), FunD.bindsN F fun _ _ _ _ _ _ us hl => match us, hl with | [_, _, _], _ => rfl⟩
theorem at__law_promises_right (X : K.In h) (G : h.Ns mainGlobals mg) (c : He.SaysD faL fnL K) : ∃ fd, At K mg "_law_promises_right" (topS 43) [] (He.ga K "_law_promises_right") fd := by
  obtain ⟨fd, F⟩ := c.def_ 26 (d := mkD "_law_promises_right" 43) rfl
  exact ⟨fd, F, He.glo_ok X G (c.fact 26 (f := .glo "_law_promises_right") rfl), FunD.bindsN F fun _ _ _ _ _ _ us hl => match us, hl with | [], _ => rfl⟩
theorem at__law_barred_promises (X : K.In h) (G : h.Ns mainGlobals mg) (c : He.SaysD faL fnL K) : ∃ fd, At K mg "_law_barred_promises" (topS 44) ["_law_great"] (He.ga K "_law_barred_promises") fd := by
  obtain ⟨fd, F⟩ := c.def_ 27 (d := mkD "_law_barred_promises" 44) rfl
  exact ⟨fd, F, He.glo_ok X G (c.fact 27 (f := .glo "_law_barred_promises") rfl), FunD.bindsN F fun _ _ _ _ _ _ us hl => match us, hl with | [_], _ => rfl⟩
theorem at_law (X : K.In h) (G : h.Ns mainGlobals mg) (c : He.SaysD faL fnL K) : ∃ fd, At K mg "law" (topS 45) ["_law_script"] (He.ga K "law") fd := by
  obtain ⟨fd, F⟩ := c.def_ 28 (d := mkD "law" 45) rfl
  exact ⟨fd, F, He.glo_ok X G (c.fact 28 (f := .glo "law") rfl), FunD.bindsN F fun _ _ _ _ _ _ us hl => match us, hl with | [_], _ => rfl⟩
theorem bl_of (X : K.In h) (G : h.Ns mainGlobals mg) (c : He.SaysD faL fnL K) : Bl mg :=
  ⟨He.free_ok X G (c.fact 29 (f := .free "range") rfl), He.free_ok X G (c.fact 30 (f := .free "isinstance") rfl), He.free_ok X G (c.fact 31 (f := .free "list") rfl), He.free_ok X G (c.fact 32 (f := .free "all") rfl), He.free_ok X G (c.fact 33 (f := .free "tuple") rfl), He.free_ok X G (c.fact 34 (f := .free "sum") rfl), He.free_ok X G (c.fact 35 (f := .free "len") rfl), He.free_ok X G (c.fact 36 (f := .free "abs") rfl), He.free_ok X G (c.fact 37 (f := .free "enumerate") rfl), He.free_ok X G (c.fact 38 (f := .free "max") rfl), He.free_ok X G (c.fact 39 (f := .free "int") rfl), He.free_ok X G (c.fact 40 (f := .free "bool") rfl), He.free_ok X G (c.fact 41 (f := .free "any") rfl), He.free_ok X G (c.fact 42 (f := .free "min") rfl), He.free_ok X G (c.fact 43 (f := .free "str") rfl), He.free_ok X G (c.fact 44 (f := .free "sorted") rfl)⟩
theorem at_Barred_shows (c : He.SaysD faL fnL K) : ∃ fd, FunD K "shows" "Barred.shows" (defArgs (inClass (topS 28) 0)) (defBody (inClass (topS 28) 0)) (defScope (inClass (topS 28) 0)) [] [] (He.ma K (He.ga K "Barred") "shows") fd ∧ Binds K fd ["self", "beads", "kind"] [] := by
  obtain ⟨fd, F⟩ := c.def_ 29 (d := mkM "Barred" "shows" 28 0 "Barred.shows") rfl
  exact ⟨fd, F, FunD.bindsN F fun _ _ _ _ _ _ us hl => match us, hl with | [_, _, _], _ => rfl⟩
theorem at_All___init__ (c : He.SaysD faL fnL K) : ∃ fd, FunD K "__init__" "All.__init__" (defArgs (inClass (topS 29) 0)) (defBody (inClass (topS 29) 0)) (defScope (inClass (topS 29) 0)) [] [] (He.ma K (He.ga K "All") "__init__") fd ∧ Binds K fd ["self", "steps"] [] := by
  obtain ⟨fd, F⟩ := c.def_ 30 (d := mkM "All" "__init__" 29 0 "All.__init__") rfl
  exact ⟨fd, F, FunD.bindsN F fun _ _ _ _ _ _ us hl => match us, hl with | [_, _], _ => rfl⟩
theorem at_All_shows (c : He.SaysD faL fnL K) : ∃ fd, FunD K "shows" "All.shows" (defArgs (inClass (topS 29) 1)) (defBody (inClass (topS 29) 1)) (defScope (inClass (topS 29) 1)) [] [] (He.ma K (He.ga K "All") "shows") fd ∧ Binds K fd ["self", "beads", "kind"] [] := by
  obtain ⟨fd, F⟩ := c.def_ 31 (d := mkM "All" "shows" 29 1 "All.shows") rfl
  exact ⟨fd, F, FunD.bindsN F fun _ _ _ _ _ _ us hl => match us, hl with | [_, _, _], _ => rfl⟩
theorem con_KINDS (X : K.In h) (G : h.Ns mainGlobals mg) (c : He.SaysD faL fnL K) : ∃ t, mg "KINDS" = some (.int 3 t) := He.int_ok X G (c.fact 45 (f := .int "KINDS" 3) rfl)
theorem con_MOST (X : K.In h) (G : h.Ns mainGlobals mg) (c : He.SaysD faL fnL K) : ∃ t, mg "MOST" = some (.int 300 t) := He.int_ok X G (c.fact 46 (f := .int "MOST" 300) rfl)
theorem ex_BadBeads (X : K.In h) (G : h.Ns mainGlobals mg) (c : He.SaysD faL fnL K) : Ex K mg "BadBeads" (He.ga K "BadBeads") := ex_of X G (c.fact 47 (f := .glo "BadBeads") rfl) (c.fact 48 (f := .exc "BadBeads") rfl)
theorem ex_BadMeeting (X : K.In h) (G : h.Ns mainGlobals mg) (c : He.SaysD faL fnL K) : Ex K mg "BadMeeting" (He.ga K "BadMeeting") := ex_of X G (c.fact 49 (f := .glo "BadMeeting") rfl) (c.fact 50 (f := .exc "BadMeeting") rfl)
theorem ex_BadKind (X : K.In h) (G : h.Ns mainGlobals mg) (c : He.SaysD faL fnL K) : Ex K mg "BadKind" (He.ga K "BadKind") := ex_of X G (c.fact 51 (f := .glo "BadKind") rfl) (c.fact 52 (f := .exc "BadKind") rfl)
theorem ex_TooMany (X : K.In h) (G : h.Ns mainGlobals mg) (c : He.SaysD faL fnL K) : Ex K mg "TooMany" (He.ga K "TooMany") := ex_of X G (c.fact 53 (f := .glo "TooMany") rfl) (c.fact 54 (f := .exc "TooMany") rfl)
theorem g_Answer (X : K.In h) (G : h.Ns mainGlobals mg) (c : He.SaysD faL fnL K) : mg "Answer" = some (.ref (He.ga K "Answer")) := He.glo_ok X G (c.fact 55 (f := .glo "Answer") rfl)
theorem g_All (X : K.In h) (G : h.Ns mainGlobals mg) (c : He.SaysD faL fnL K) : mg "All" = some (.ref (He.ga K "All")) := He.glo_ok X G (c.fact 56 (f := .glo "All") rfl)
theorem g_Barred (X : K.In h) (G : h.Ns mainGlobals mg) (c : He.SaysD faL fnL K) : mg "Barred" = some (.ref (He.ga K "Barred")) := He.glo_ok X G (c.fact 57 (f := .glo "Barred") rfl)
theorem m_All (c : He.SaysD faL fnL K) : Meth K (He.ga K "All") "shows" (He.ma K (He.ga K "All") "shows") := He.meth_ok (c.fact 58 (f := .meth "All" "shows") rfl)
theorem m_Barred (c : He.SaysD faL fnL K) : Meth K (He.ga K "Barred") "shows" (He.ma K (He.ga K "Barred") "shows") := He.meth_ok (c.fact 59 (f := .meth "Barred" "shows") rfl)
theorem k_All (c : He.SaysD faL fnL K) : Mk K (He.ga K "All") (He.ma K (He.ga K "All") "__init__") := He.mkr_ok (c.fact 60 (f := .mkr "All") rfl)
end

theorem facts {P : Program} {w : World} {K : PySem.W.Frag} {h : Heap} {mg : Str → Option Value} {f : Addr} (X : K.In h) (G : h.Ns mainGlobals mg) (hfa : mg ("law" : Str) = some (.ref f)) (cX : He.SaysX faL fnL [] [] exB w h K) :
    ∃ fd : FuncData, (∀ (s : Shared) (v : Value), BindsTo s fd ⟨[v], []⟩ [("_law_script", v)]) ∧ ∀ base : Heap, K.In base → base.Ns mainGlobals mg → FnOk P w K mg base CX0 9 f fd ["_law_script"] (spLaw K) := by
  have c := cX.t.d
  have B := bl_of X G c
  obtain ⟨t, kd⟩ := con_KINDS X G c
  have ku : RelV (.int 3) (.int 3 t) := ⟨t, rfl⟩
  obtain ⟨tm, km⟩ := con_MOST X G c
  have kmu : RelV (.int 300) (.int 300 tm) := ⟨tm, rfl⟩
  have e_BadBeads := ex_BadBeads X G c
  have e_BadMeeting := ex_BadMeeting X G c
  have e_BadKind := ex_BadKind X G c
  have e_TooMany := ex_TooMany X G c
  obtain ⟨_, a_meetings⟩ := at_meetings X G c
  obtain ⟨_, a_joined⟩ := at_joined X G c
  obtain ⟨_, a_turned⟩ := at_turned X G c
  obtain ⟨_, a_behind⟩ := at_behind X G c
  obtain ⟨_, a_check_beads⟩ := at_check_beads X G c
  obtain ⟨_, a_check_meeting⟩ := at_check_meeting X G c
  obtain ⟨_, a_are_beads⟩ := at_are_beads X G c
  obtain ⟨_, a_is_meeting⟩ := at_is_meeting X G c
  obtain ⟨_, a_is_kind⟩ := at_is_kind X G c
  obtain ⟨_, a_is_number⟩ := at_is_number X G c
  obtain ⟨_, a_check_few⟩ := at_check_few X G c
  obtain ⟨_, a_last_kinds⟩ := at_last_kinds X G c
  obtain ⟨_, a_fewest_left⟩ := at_fewest_left X G c
  obtain ⟨_, a_to_fewest⟩ := at_to_fewest X G c
  obtain ⟨_, a_of_the_most⟩ := at_of_the_most X G c
  obtain ⟨_, a_fewest_turnings⟩ := at_fewest_turnings X G c
  obtain ⟨_, a_all_of⟩ := at_all_of X G c
  obtain ⟨_, a_to_kind⟩ := at_to_kind X G c
  obtain ⟨_, a_toward⟩ := at_toward X G c
  obtain ⟨_, a_check_kind⟩ := at_check_kind X G c
  obtain ⟨_, a__law_number⟩ := at__law_number X G c
  obtain ⟨_, a__law_beads⟩ := at__law_beads X G c
  obtain ⟨_, a__law_plain⟩ := at__law_plain X G c
  obtain ⟨_, a__law_truths⟩ := at__law_truths X G c
  obtain ⟨_, a__law_told_right⟩ := at__law_told_right X G c
  obtain ⟨_, a__law_walked⟩ := at__law_walked X G c
  obtain ⟨_, a__law_promises_right⟩ := at__law_promises_right X G c
  obtain ⟨_, a__law_barred_promises⟩ := at__law_barred_promises X G c
  have gN := g_Answer X G c
  have gA := g_All X G c
  have gB := g_Barred X G c
  obtain ⟨hc1, hc2⟩ := He.ba cX.more
  have hcl := ansB_ok hc1
  have hM0 := mk0B_ok hc2
  obtain ⟨_, fI, bI⟩ := at_All___init__ (K := K) c
  obtain ⟨_, fSA, bSA⟩ := at_All_shows (K := K) c
  obtain ⟨_, fSB, bSB⟩ := at_Barred_shows (K := K) c
  have hMA := m_All c
  have hMB := m_Barred c
  have hKA := k_All c
  obtain ⟨fd, a_law⟩ := at_law X G c
  have e := hfa.symm.trans a_law.g
  cases e
  have b := FunD.bindsA (ps := ["_law_script"]) a_law.F fun _ _ _ _ _ _ us hl => match us, hl with | [_], _ => rfl
  refine ⟨fd, fun s v => b s [v] rfl, fun base _ _ => ?_⟩
  have GB := ok_chB (P := P) (w := w) (base := base) a_check_beads.F B kd ku a_is_number a_are_beads e_BadBeads
  have GM := ok_chM (P := P) (w := w) (base := base) a_check_meeting.F B kd ku a_is_number a_is_kind a_is_meeting e_BadMeeting
  have GE := ok_beh (P := P) (w := w) (base := base) (mg := mg) a_behind.F B
  have GJ := ok_join a_joined.F a_check_beads a_check_meeting a_behind GB GM GE
  have GT := ok_turn a_turned.F a_check_beads a_check_meeting a_behind GB GM GE
  have GS := ok_ms a_meetings.F B kd ku a_check_beads GB
  have GL := ok_lk a_last_kinds.F B kd ku a_check_beads GB a_meetings GS
  have GF := ok_fl a_fewest_left.F B a_check_beads GB a_meetings GS a_last_kinds GL
  have GFew := ok_few (P := P) (w := w) (base := base) a_check_few.F B km kmu e_TooMany
  have GTf := ok_tf a_to_fewest.F B kd ku a_check_beads GB a_check_few GFew a_meetings GS a_of_the_most a_joined GJ
  have GK := ok_ck (P := P) (w := w) (base := base) a_check_kind.F B kd ku a_is_number a_is_kind e_BadKind
  have GU := ok_ft (P := P) (w := w) (base := base) a_fewest_turnings.F B kd ku
  have hA : ShOk P w K mg base _ _ _ _ _ := ⟨hMA, (ok_shA (P := P) (w := w) (base := base) fSA B hcl a_is_number a_fewest_turnings GU).mono (by decide), bSA⟩
  have hB : ShOk P w K mg base _ _ _ _ _ := ⟨hMB, (ok_shB (P := P) (w := w) (base := base) (CB := He.ga K "Barred") fSB a_fewest_turnings GU).mono (by decide), bSB⟩
  have hMk := mkOk (P := P) (w := w) (base := base) hcl hKA hM0 fI bI gA gB
  have GAo := ok_ao a_all_of.F hMk a_check_beads GB a_check_kind GK a_fewest_turnings GU
  have GTk := ok_tk a_to_kind.F B kd ku a_check_beads GB a_check_kind GK a_check_few GFew a_fewest_turnings GU a_toward a_turned GT
  have GLb := ok_lb (P := P) (w := w) (base := base) a__law_beads.F B a__law_number
  have GPl : FnOk P w K mg base CX0 5 _ _ ["_law_thing"] (spPl K 4) := ok_pl1 B a__law_plain (ok_pl1 B a__law_plain (ok_pl1 B a__law_plain (ok_pl1 B a__law_plain (ok_pl0 a__law_plain.F))))
  have GTr := ok_tr (P := P) (w := w) (base := base) a__law_truths.F B
  have GWa := ok_wa a__law_walked.F B a_joined GJ a_turned GT
  have GL6 := GL.mono (show 5 ≤ 6 by decide)
  have GA6 := GAo.mono (show 4 ≤ 6 by decide)
  have GTo := ok_to a__law_told_right.F B hcl gA tkR_ok hA hB hMk a_meetings GS a_last_kinds GL6 a_fewest_left GF a_to_fewest GTf a_to_kind GTk a_joined GJ a_turned GT a_all_of GA6 a__law_plain GPl a__law_truths GTr
  have GBp := ok_bp a__law_barred_promises.F B hcl gB tkR_ok hA hB hMk a_to_kind GTk a_all_of GA6 a__law_walked GWa
  have GPr := ok_pr a__law_promises_right.F B hcl gA tkR_ok hA hB hMk a_meetings GS a_last_kinds GL6 a_fewest_left GF a_to_fewest GTf a_joined GJ a_turned GT a_all_of GA6 a__law_walked GWa a__law_barred_promises GBp
  exact ok_law a_law.F B a__law_beads GLb a__law_promises_right GPr a__law_told_right GTo
end Km
open PySem PySem.W PySem.Calls PyProof.Rows
set_option maxRecDepth 100000 in
set_option maxHeartbeats 0 in
theorem PySem.Challenge.cw_kindmeets_k08_whole_numbers_holds : PySem.Challenge.rw_kindmeets_k08_whole_numbers.Holds := by
  w_on; o_law
  refine HandSHeadRun.head_any (r := OpenLaw.row PySem.Challenge.rw_kindmeets_k08_whole_numbers) (q := view (OpenLaw.row PySem.Challenge.rw_kindmeets_k08_whole_numbers).prog [45]) (H := Km.hk) (ob := Km.ob) (M := 3000) (loose := Km.looseL) (d := HandSHeadRun.topDef (OpenLaw.row PySem.Challenge.rw_kindmeets_k08_whole_numbers).prog 45) (kwd := []) Km.ob_eq
    (by kernel_rfl) (fun s => by kernel_rfl) Km.runHead (by kernel_rfl) (by kernel_rfl) (by kernel_rfl) (by rfl) (by first | assumption | decide +kernel) (by decide +kernel) ⟨rfl, rfl, rfl, rfl, rfl, by decide +kernel⟩ ?hw ?hc
  case hw => w_witness2
  case hc =>
    refine Km.walk_ofEB (l := PySem.Challenge.rw_kindmeets_k08_whole_numbers) (n := 63) (k := 9) (x := "_law_script") (CX := L2.CX0) rfl (by decide) (by kernel_rfl) ⟨rfl, by decide, by decide⟩ ?F (fun _ _ _ _ z => z)
    intro w mg fa h Y G hmg0
    obtain ⟨K, KX, c⟩ := Y
    have hmg : mg ("law" : PySem.Str) = some (.ref fa) := by
      have e : (HandSHeadRun.topDef (OpenLaw.row PySem.Challenge.rw_kindmeets_k08_whole_numbers).prog 45).name = ("law" : PySem.Str) := by kernel_rfl
      rw [← e]
      exact hmg0
    obtain ⟨fd, hb, hF⟩ := Km.facts (P := (PySem.Challenge.rw_kindmeets_k08_whole_numbers).prog) (w := w) KX G hmg c
    exact ⟨K, fd, Km.spLaw K, KX, hb, fun H a ns hl ⟨m, hm, hz⟩ _ hS => ⟨a, ns, m, rfl, hS, hl, hm, hz, fun _ => rfl⟩, hF⟩

