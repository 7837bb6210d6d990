import PyProof.Rows.All
import Wide.All
import OpenK.AllK
import Wide.FinOn
import KE.KTupSum
import KE.DataMinMax
import KE.GoesMore
import KE.GoesEnum
import HandS.Base
import HandS.Call
import HandS.List
import HandS.Comp
import HandS.Dict
import HandS.Iter
import HandS.ForMost
import HandS.ForExc
import HandS.IsInst
import HandS.Wide
import HandS.Walk
import HandS.Defaults
import HandS.EndBits
import HandS.Flow
import Lean
import KE.KStateDown
import HandS.Head0
import HandS.Head1
import HandS.Head2
import HandS.HeadEnd
import HandS.HeadHook1
import HandS.HeadHook2
import PySem.Challenge.RW_kindmeets_k01_meetings
set_option Elab.async false
set_option linter.all false
set_option maxRecDepth 100000
set_option maxHeartbeats 4000000
/-! Rules of our own over the layer: sum and max of a tuple of ints, enumerate of a tuple, products of very great ints. -/
namespace Km
open PySem PySem.Spec PyProof.Rows L2

def CMulX (i j : Int) : Prop := i.natAbs.log2 + j.natAbs.log2 < 134000000
theorem CMulX.ok {i j : Int} (h : CMulX i j) : IntMulOk i j := by
  have b : ∀ x : Int, Builtin.Int.intBits x ≤ x.natAbs.log2 + 1 := fun x => by
    unfold Builtin.Int.intBits
    split <;> omega
  have h1 := b i
  have h2 := b j
  have h3 : i.natAbs.log2 + j.natAbs.log2 < 134000000 := h
  have e : bitsLine = 134217728 := by decide
  unfold IntMulOk
  intro z
  rw [Bool.and_eq_true] at z
  have z2 := z.2
  unfold Builtin.Int.intTooBig at z2
  have z3 := of_decide_eq_true z2
  rw [e] at z3
  omega
section
variable {X : Cx}
theorem op_mulX : OpR X (binaryOp .Mult) (rI CMulX fun i j => .int (i * j)) := opI fun _ _ _ _ _ _ _ hc q => mul_int q hc.ok

def rSumT (K : PySem.W.Frag) : List V → Hp → VK → Prop := fun vs H Q => ∃ (a : Addr) (ns : List Int), vs = [V.ref a] ∧ SqT K H a (ns.map V.int) ∧ Q (.int ns.sum) H
theorem cr_sumT (hc : X.calm = true) : CallR X (.builtin "sum") (rSumT X.K) := by
  intro pins s σ H vs us Q I r h
  obtain ⟨a, ns, rfl, hs, q⟩ := h
  obtain ⟨its, rv, hl, _⟩ := I.tuple hs
  rw [Vals.ref1 r]
  have hi := rv.ints
  obtain ⟨xs, e⟩ := hi.allInts.items
  have hn : PySem.numsOf (PySem.intItems xs).toList = ns := by rw [← e]; exact hi.numsOf
  rw [PySem.nums_intItems] at hn
  rw [e] at hl
  refine PySem.W.ktm_sumG (I.ok.hd hc) hl fun h' tk t' hk => ⟨.int _, H, I.kept hk, ⟨_, rfl⟩, ?_⟩
  rw [PySem.preSum_eq, List.take_of_length_le (by simp), hn]
  exact q
def rMaxT (K : PySem.W.Frag) : List V → Hp → VK → Prop := fun vs H Q => ∃ (a : Addr) (ns : List Int), vs = [V.ref a] ∧ SqT K H a (ns.map V.int) ∧ 0 < ns.length ∧ ∀ m, m ∈ ns → (∀ y, y ∈ ns → y ≤ m) → Q (.int m) H
end
section
variable {prog : Program} {w : World} {A : Around} {E : Value → Shared → Prop} {s : Shared} {l : Addr} {xs : Array (Int × Tok)}
theorem max_tupG {Q : Value → Shared → Prop} (hh : A.handled = none) (hl : s.heap.IsTuple l (PySem.intItems xs)) (hne : 0 < xs.size)
    (h : ∀ v h' tk, (PySem.intItems xs)[PySem.argBest (fun i j => decide (PySem.numAt xs i > PySem.numAt xs j)) (xs.size - 1)]? = some v → (∀ b o, s.heap.get? b = some o → h'.get? b = some o) → Q v { s with heap := h', toks := tk }) :
    wpAny (model prog w) A (call (.builtin "max") [.ref l]) Q E s := by
  obtain ⟨o, ho, _⟩ := id hl
  have hlt : l < s.heap.objs.size := Heap.lt_size ho
  refine PySem.call_max_walk (wpAny_pyIter_tuple hl ?_)
  refine ⟨_, _, _, _, _, _, _, rfl, Walks.tuple (A := A.in1) hh _ l (Nat.ne_of_lt hlt) (PySem.intItems xs), ⟨⟨_, Heap.get?_push_size _ rfl, rfl, rfl⟩, hl.push _⟩, ?_, by simpa [PySem.intItems] using hne, PySem.CmpOf.ints_gt (PySem.numAt xs) (fun _ _ => PySem.intItems_at), fun v h' tk hP hk => ?_⟩
  · intro b hb
    show b < (s.heap.push _).objs.size
    rw [Heap.size_push]
    rcases List.mem_cons.mp hb with rfl | hb
    · exact Nat.lt_succ_self _
    · rcases List.mem_cons.mp hb with rfl | hb
      · exact Nat.lt_succ_of_lt hlt
      · cases hb
  · refine h v h' tk (by simpa [PySem.intItems] using hP) fun b o e => hk b o ?_ (Heap.get?_push_of_some _ e)
    exact fun hb => absurd (Heap.lt_size e) ((List.mem_singleton.mp hb) ▸ Nat.lt_irrefl _)
end
section
variable {X : Cx}
theorem cr_maxT (hc : X.calm = true) : CallR X (.builtin "max") (rMaxT X.K) := by
  intro pins s σ H vs us Q I r h
  obtain ⟨a, ns, rfl, hs, hne, q⟩ := h
  obtain ⟨its, rv, hl, _⟩ := I.tuple hs
  rw [Vals.ref1 r]
  have hi := rv.ints
  obtain ⟨xs, e⟩ := hi.allInts.items
  have hn : PySem.numsOf (PySem.intItems xs).toList = ns := by rw [← e]; exact hi.numsOf
  rw [PySem.nums_intItems] at hn
  subst hn
  rw [e] at hl
  have hsz : 0 < xs.size := by simpa using hne
  refine max_tupG (I.ok.hd hc) hl hsz fun v h' tk hv hk => ?_
  obtain ⟨t, rfl⟩ := PySem.intItems_at hv
  obtain ⟨h1, h2⟩ := PySem.argBest_gt (PySem.numAt xs) (xs.size - 1)
  refine ⟨.int _, H, I.kept hk, ⟨_, rfl⟩, q _ ?_ fun a ha => ?_⟩
  · rw [PySem.numAt_eq]; exact PySem.getD_mem (by rw [List.length_map, Array.length_toList]; omega)
  · obtain ⟨j, hj, rfl⟩ := PySem.mem_getD ha
    rw [List.length_map, Array.length_toList] at hj
    rw [← PySem.numAt_eq]; exact h2 j (by omega)
end
end Km

set_option Elab.async false
set_option linter.all false
set_option maxRecDepth 100000
set_option maxHeartbeats 4000000
namespace Km
open PySem PySem.Spec PyProof.Rows L2
open PySem.Sem (wp)
set_option maxHeartbeats 4000000 in
theorem meets_enumerate_new1 {v : Value} {o : Obj} {H : Heap → Prop} (B : Begins v o H) :
    Meets (Builtin.«enumerate.__new__» ⟨[.type "enumerate", v], []⟩) (fun _ R s => H s.heap ∧
      R (.ok (.ret (.ref (s.heap.push o).objs.size))) { s with heap := (s.heap.push o).push { cls := .type "enumerate", data := .fields #[.none, .bool false, .ref s.heap.objs.size, rawInt 0, .none, .none] } }) :=
  .of_wp fun prog w A R s h => by
    obtain ⟨hp, g, d, tk, os⟩ := s; obtain ⟨h1, h⟩ := h
    have hsub := sub_enumerate
    have q1 : ∀ {A' : Around} {E : Value → Shared → Prop} {Q : Value → Shared → Prop}, Q (.ref hp.objs.size) ⟨hp.push o, g, d, tk, os⟩ → wpAny (model prog w) A' (pyIter v) Q E ⟨hp, g, d, tk, os⟩ :=
      fun q => B.iter prog w _ _ ⟨hp, g, d, tk, os⟩ _ h1 q
    wp_walk using q1
    refine wpAny_stack_any fun st => wpAny_pure ?_
    split
    · rename_i c _ _ _ _ _
      cases (c == Value.type "enumerate")
      · wp_walk using q1
        exact ⟨_, rfl, h⟩
      · wp_walk using q1
        exact ⟨_, rfl, h⟩
    · wp_walk using q1
      exact ⟨_, rfl, h⟩
section
variable {prog : Program} {w : World} {A : Around} {E : Value → Shared → Prop} {s : Shared}
theorem enum_begins1 {v : Value} {o : Obj} {H : Heap → Prop} {Q : Value → Shared → Prop} (B : Begins v o H) (h1 : H s.heap)
    (h : ∀ h', IsEnum h' (s.heap.objs.size + 1) s.heap.objs.size 0 .none → h'.get? s.heap.objs.size = some o → h'.objs.size = s.heap.objs.size + 2 →
      (∀ b o, s.heap.get? b = some o → h'.get? b = some o) → Q (.ref (s.heap.objs.size + 1)) { s with heap := h' }) :
    wpAny (model prog w) A (call (.type "enumerate") [v]) Q E s := by
  refine callType_new F.called_enumerate (by decide) (F.typeCall_enumerate_1 _) (F.newCall_enumerate_1 _) (fun obj => F.args_object_init_2 obj _) F.entry_enumerate_new
    (meets_enumerate_new1 B) ⟨h1, ?_⟩
  have hz : (s.heap.push o).objs.size = s.heap.objs.size + 1 := Heap.size_push ..
  show _ ∧ _
  rw [hz]
  have he : IsEnum ((s.heap.push o).push { cls := .type "enumerate", data := .fields #[.none, .bool false, .ref s.heap.objs.size, rawInt 0, .none, .none] }) (s.heap.objs.size + 1) s.heap.objs.size 0 .none := by
    have := Heap.get?_push_size (s.heap.push o) (o := { cls := .type "enumerate", data := .fields #[.none, .bool false, .ref s.heap.objs.size, rawInt 0, .none, .none] }) rfl
    rw [hz] at this; exact this
  refine ⟨⟨_, he, rfl⟩, h _ he (Heap.get?_push_of_some _ (Heap.get?_push_size _ B.free)) (by rw [Heap.size_push, hz]) fun b o x => Heap.get?_push_of_some _ (Heap.get?_push_of_some _ x)⟩
end
end Km

set_option Elab.async false
set_option linter.all false
set_option maxRecDepth 100000
set_option maxHeartbeats 4000000
namespace Km
open PySem PySem.Spec PyProof.Rows L2
/-- enumerate over the tuple at a, each item in a new pair -/
def IteT (K : PySem.W.Frag) (a : Addr) : It :=
  ⟨fun i H => ∃ (xs : List V) (x : V), SqT K H a xs ∧ xs[i]? = some x, fun i H v H' => ∃ T x, v = .ref T ∧ H T = none ∧ H' = upd H T (.tup [.int (i : Nat), x]) ∧ ∀ xs, SqT K H a xs → xs[i]? = some x, fun i H => ∃ xs : List V, SqT K H a xs ∧ xs.length ≤ i⟩
theorem turn_enumT {P : Program} {w : World} {K : PySem.W.Frag} {elts : List Expr} {kk : Nat} {tpos : Pos} (a e it : Addr) :
    Turn P w K (.Tuple elts kk tpos) (IteT K a) [e, it] e (fun i h => (∃ old, IsEnum h e it ((i : Nat) : Int) old) ∧ h.IsTupleIter it a i ∧ e ≠ it) where
  mem := by simp
  obj := fun i h st b hb => by
    obtain ⟨⟨old, he⟩, ⟨o, ho, hc, hd⟩, _⟩ := st
    have e' : b = e ∨ b = it := by simpa using hb
    rcases e' with z | z
    · rw [z]; exact ⟨_, he, fun v q => nomatch q⟩
    · rw [z]; exact ⟨o, ho, fun v q => by rw [hd] at q; cases q⟩
  keep := fun i h h' st k => let ⟨⟨old, he⟩, hi, hne⟩ := st; ⟨⟨old, k e (by simp) _ he⟩, hi.at fun o q => k it (by simp) o q, hne⟩
  item := by
    intro X hP hw hK hc i pins s σ H E I hf st hg
    subst hP hw hK
    obtain ⟨⟨old, he⟩, hit, hne⟩ := st
    obtain ⟨xs, x, hq, hx⟩ := hg
    obtain ⟨its, rv, p, hz⟩ := I.tuple hq
    obtain ⟨u, hu, ru⟩ := rv.get hx
    have hel : e < s.heap.objs.size := Heap.lt_size he
    have hil : it < s.heap.objs.size := by obtain ⟨_, q, _⟩ := hit; exact Heap.lt_size q
    have hae : a ≠ e := fun z => by
      obtain ⟨o, ho, hcl, _⟩ := id p
      rw [z, he] at ho
      cases ho
      have q : Value.type "enumerate" = Value.type "tuple" := hcl
      injection q with q
      exact absurd q (by decide)
    have hai : a ≠ it := fun z => by
      obtain ⟨o, ho, hcl, _⟩ := id p
      obtain ⟨o2, ho2, hcl2, _⟩ := id hit
      rw [z, ho2] at ho
      cases ho
      have q : Value.type "tuple" = Value.type "tuple_iterator" := hcl.symm.trans hcl2
      injection q with q
      exact absurd q (by decide)
    have D : Draws X.prog X.w X.A.in1 it [it, a] its.toArray.size (fun i v => its.toArray[i]? = some v) (fun i h => h.IsTupleIter it a i ∧ h.IsTuple a its.toArray) := Draws.tuple (A := X.A.in1) (I.ok.hd hc) it a hai its.toArray
    have hlt : i < its.toArray.size := by
      have q := (List.getElem?_eq_some_iff.mp hu).1
      simpa using q
    refine wpAny_pyNext_enum_itemD D he ⟨hit, p⟩ hlt hne (by simp only [List.mem_cons, List.mem_nil_iff, or_false, not_or]; exact ⟨hne, Ne.symm hae⟩) fun x' h' tk hPx ho hst' hT hsz hk => ?_
    obtain ⟨hit', htup'⟩ := hst'
    have ex : x' = u := by
      have q : its[i]? = some x' := by simpa using hPx
      rw [hu] at q
      exact (Option.some.inj q).symm
    subst ex
    refine ⟨_, rfl, wpAny_letOwnedTupleGo_enum (s := { s with heap := h', toks := tk + 1 }) ho fun h'' he' sb => ?_⟩
    have hT2 : h''.get? s.heap.objs.size = some { cls := .type "tuple", data := .seq #[.int i tk, x'] } := (sb.2 _ (Nat.ne_of_gt hel)).trans hT
    have new : ObjOk X.prog X.w (upd H s.heap.objs.size (.tup [.int (i : Nat), x])) h'' s.heap.objs.size (.tup [.int (i : Nat), x]) :=
      ⟨by show 2 ≤ sizeLine; decide, [.int i tk, x'], .cons ⟨_, rfl⟩ (.cons ru .nil), ⟨_, hT2, rfl, _, rfl⟩⟩
    have I1 : Inv X pins σ (upd H s.heap.objs.size (.tup [.int (i : Nat), x])) { s with heap := h'', toks := tk + 1 } :=
      I.turnedNew (ch := [e, it]) (fun b ob hb q => (sb.2 b (fun z => hb (by simp [z]))).trans (hk b ob (fun z => hb (by simp [z])) (fun z => hb (by simp [z])) q)) hf (Nat.le_refl _) new
    refine ⟨.ref s.heap.objs.size, _, I1, rfl, ⟨_, x, rfl, I.hok.fresh (Nat.le_refl _), rfl, fun ys hy => by rw [I.tuple_inj hy hq]; exact hx⟩, ⟨⟨x', ?_⟩, hit'.at fun o q => (sb.2 it (Ne.symm hne)).trans q, hne⟩, fun b hb => ?_⟩
    · have e1 : ((i + 1 : Nat) : Int) = (i : Int) + 1 := by omega
      rw [e1]; exact he'
    · have hb' : b < s.heap.objs.size := by
        have e' : b = e ∨ b = it := by simpa using hb
        rcases e' with z | z
        · rw [z]; exact hel
        · rw [z]; exact hil
      rw [upd_ne (Nat.ne_of_lt hb')]
      exact (hf b hb).1
  done := by
    intro X hP hw hK hc i pins s σ H E I hf st hg
    subst hP hw hK
    obtain ⟨⟨old, he⟩, hit, hne⟩ := st
    obtain ⟨xs, hq, hx⟩ := hg
    obtain ⟨its, rv, p, hz⟩ := I.tuple hq
    obtain ⟨f0, f1, f2, f3, f4, f5⟩ := hf it (by simp)
    have hl := rv.length
    have hT : s.TypeIs (.ref e) "enumerate" := ⟨_, he, rfl⟩
    unfold pyNext
    refine wpAny_bind (wpAny_attempt (wpAny_callSpecial?_slot (name := Str.ofString "__next__") hT F.slot_enumerate_next
      (wpAny_call_entry F.slot_enumerate_next hT F.entry_enumerate_next ?_ (F.args_enumerate_next_1 _))))
    show wpAny _ _ (field (.ref e) 2 >>= _) _ _ _
    refine wpAny_bind (wpAny_field he rfl (x := .ref it) rfl ?_)
    refine wpAny_bind (wpAny_nextOf_tuple_end (A := X.A.in1) (I.ok.hd hc) hit p (by simp; omega) fun h' x he' hx' => ?_)
    obtain ⟨o, ho, hc⟩ := hx'
    refine wpAny_bind (wpAny_isInstance (T := "StopIteration") (b := true) ⟨o, ho, hc⟩ isSubtype_stop ?_)
    exact wpAny_pure ⟨rfl, I.turned (t' := s.toks) (fun b o hb q => he' b o hb q) f0 f1 f3 f4 f5⟩
  self := fun A i s Q E st h => let ⟨⟨_, he⟩, _⟩ := st; wpAny_pyIter_enum he h
def iEnumT (K : PySem.W.Frag) (ta : TA) : TI := fun σ H R => ta σ H fun vs H1 => ∃ a xs, vs = [.ref a] ∧ SqT K H1 a xs ∧ R (IteT K a) H1
theorem pi_enumT {X : Cx} {e : Expr} {ta : TA} {p pos tpos : Pos} {elts : List Expr} {kk : Nat} (hg : Gl X "enumerate") (hm : X.mg "enumerate" = none) (ha : PA X [e] ta) (hs : starEach [e] X.env = [(false, eval e X.env)] := by rfl) :
    PI X (.Tuple elts kk tpos) (.Call (.Name "enumerate" p) [e] [] pos) (iEnumT X.K ta) := by
  refine ⟨fun pins s σ H R I h => ?_⟩
  refine Call_ (ld_blt I hg hm boot_enumerate (PyProof.Rows.callWith_type1 (thn (ha.run pos pins s σ H _ I h) fun us s1 ⟨vs, H1, I1, r1, q1⟩ => ?_) hs rfl))
  obtain ⟨a, xs, ex, hq, q⟩ := q1
  subst ex
  cases r1 with
  | cons r rr =>
    cases rr
    cases r
    obtain ⟨its, rv, p', hz⟩ := I1.tuple hq
    refine enum_begins1 (begins_tuple a its.toArray) p' fun h' he hit hsz hk => wpAny_pyIter_enum he ?_
    have I2 : Inv X pins σ H1 { s1 with heap := h' } := I1.kept (t' := s1.toks) hk
    refine ⟨s1.heap.objs.size + 1, [s1.heap.objs.size + 1, s1.heap.objs.size], _, _, H1, rfl, I2, turn_enumT a (s1.heap.objs.size + 1) s1.heap.objs.size, ⟨⟨.none, he⟩, ⟨_, hit, rfl, rfl⟩, Nat.succ_ne_self _⟩, fun b hb => ?_, q⟩
    have e' : b = s1.heap.objs.size + 1 ∨ b = s1.heap.objs.size := by simpa using hb
    have hle : s1.heap.objs.size ≤ b := by
      rcases e' with z | z
      · rw [z]; exact Nat.le_add_right _ _
      · rw [z]; exact Nat.le_refl _
    exact I1.fpOk hle (I1.hok.fresh hle)
theorem walk_enumT {K : PySem.W.Frag} {a : Addr} {xs : List V} : (∀ i H, i < xs.length → SqT K H a xs → (IteT K a).go i H) ∧ (∀ H, SqT K H a xs → (IteT K a).stop xs.length H) ∧ ∀ i H v H', SqT K H a xs → (IteT K a).yld i H v H' → ∃ T x, v = .ref T ∧ H T = none ∧ H' = upd H T (.tup [.int (i : Nat), x]) ∧ xs[i]? = some x := by
  refine ⟨fun i _ hi q => ⟨xs, xs[i], q, by simp [hi]⟩, fun _ q => ⟨xs, q, Nat.le_refl _⟩, fun i H v H' q y => ?_⟩
  obtain ⟨T, x, h1, h2, h3, h4⟩ := y
  exact ⟨T, x, h1, h2, h3, h4 xs q⟩
end Km

set_option Elab.async false
set_option linter.all false
set_option maxRecDepth 100000
set_option maxHeartbeats 4000000
namespace Km
open PySem PySem.Spec PyProof.Rows L2
/-! ### defs of the text -/
abbrev FnP (K : PySem.W.Frag) (x : Str) (st : Stmt) (f : Addr) (fd : FuncData) : Prop := FunD K x x (defArgs st) (defBody st) (defScope st) [] [] f fd
structure At (K : PySem.W.Frag) (mg : Str → Option Value) (x : Str) (st : Stmt) (ps : List Str) (f : Addr) (fd : FuncData) : Prop where
  F : FnP K x st f fd
  g : mg x = some (.ref f)
  b : Binds K fd ps []
/-! ### heaps -/
theorem same_upd {H : Hp} {p : Addr} {o : HO} (h : H p = none) : Same H (upd H p o) := fun b x e => by
  rw [upd_ne (ne_of_none e h)]
  exact e
theorem tup_same {K : PySem.W.Frag} {H H' : Hp} {a : Addr} {xs : List V} (e : Same H H') (h : SqT K H a xs) : SqT K H' a xs := by
  rcases h with (h | ⟨o, h⟩) | h
  · exact .inl (.inl (e _ _ h))
  · exact .inl (.inr ⟨o, e _ _ h⟩)
  · exact .inr h
/-- H1 keeps what H0 has, whatever is stored at p, which H0 has not -/
theorem same_new {H0 H1 : Hp} {p : Addr} {o : HO} (s : Same H0 H1) (h : H0 p = none) : Same H0 (upd H1 p o) := fun b x e => by
  rw [upd_ne (ne_of_none e h)]
  exact s b x e
/-! ### builtins that the module does not bind -/
theorem ty_tup {K : PySem.W.Frag} {H : Hp} {a : Addr} {xs : List V} (h : SqT K H a xs) : TyX K H (.ref a) (.type "tuple") := by
  rcases h with (h | ⟨o, h⟩) | ⟨o, its, n, hk, hc, _⟩
  · exact .base (.tup h)
  · exact .fTuple h
  · exact .kTuple hk hc
/-- x is the kind n | x is no kind -/
def KX (K : PySem.W.Frag) (H : Hp) (x : V) (o : Option Int) : Prop :=
  (∃ n, x = .int n ∧ o = if 0 ≤ n ∧ n < 3 then some n else none) ∨ ∃ (t : Value) (b1 b2 : Bool), TyX K H x t ∧ PySem.W.kitOne K t (.type "int") = some b1 ∧ PySem.W.kitOne K t (.type "bool") = some b2 ∧ (b1 && !b2) = false ∧ o = none
theorem KX.int {K : PySem.W.Frag} {H : Hp} {n : Int} (h0 : 0 ≤ n) (h3 : n < 3) : KX K H (.int n) (some n) := .inl ⟨n, rfl, by rw [if_pos ⟨h0, h3⟩]⟩
/-- x is the count n, from 0 on | x is no count -/
def NX (K : PySem.W.Frag) (H : Hp) (x : V) (o : Option Int) : Prop :=
  (∃ n, x = .int n ∧ o = if 0 ≤ n then some n else none) ∨ ∃ (t : Value) (b1 b2 : Bool), TyX K H x t ∧ PySem.W.kitOne K t (.type "int") = some b1 ∧ PySem.W.kitOne K t (.type "bool") = some b2 ∧ (b1 && !b2) = false ∧ o = none
theorem NX.int {K : PySem.W.Frag} {H : Hp} {n : Int} (h0 : 0 ≤ n) : NX K H (.int n) (some n) := .inl ⟨n, rfl, by rw [if_pos h0]⟩
theorem NX.val {K : PySem.W.Frag} {H : Hp} {x : V} {n : Int} (h : NX K H x (some n)) : x = .int n ∧ 0 ≤ n := by
  rcases h with ⟨i, rfl, e⟩ | ⟨_, _, _, _, _, _, _, e⟩
  · split at e
    · rw [Option.some.inj e]; exact ⟨rfl, by assumption⟩
    · cases e
  · cases e
theorem KX.val {K : PySem.W.Frag} {H : Hp} {x : V} {n : Int} (h : KX K H x (some n)) : x = .int n ∧ 0 ≤ n ∧ n < 3 := by
  rcases h with ⟨i, rfl, e⟩ | ⟨_, _, _, _, _, _, _, e⟩
  · split at e
    · rw [Option.some.inj e]; exact ⟨rfl, by assumption⟩
    · cases e
  · cases e
/-- three counts, one bead at least -/
def okB : Option Int → Option Int → Option Int → Bool
  | some a, some b, some c => decide (0 < a + b + c)
  | _, _, _ => false
theorem okB_none {o1 o2 o3 : Option Int} {i : Nat} (h : [o1, o2, o3][i]? = some none) : okB o1 o2 o3 = false := by
  match i, h with
  | 0, h =>
    have e : o1 = none := Option.some.inj h
    rw [e]; rfl
  | 1, h =>
    have e : o2 = none := Option.some.inj h
    rw [e]; cases o1 <;> rfl
  | 2, h =>
    have e : o3 = none := Option.some.inj h
    rw [e]; cases o1 <;> cases o2 <;> rfl
  | n + 3, h => simp at h
/-- x is no tuple -/
def NoT (K : PySem.W.Frag) (H : Hp) (x : V) : Prop := ∃ t : Value, TyX K H x t ∧ PySem.W.kitOne K t (.type "tuple") = some false
structure Bl (mg : Str → Option Value) : Prop where
  range : mg "range" = none
  isi : mg "isinstance" = none
  lst : mg "list" = none
  all : mg "all" = none
  tup : mg "tuple" = none
  sum : mg "sum" = none
  len : mg "len" = none
  abs : mg "abs" = none
  enu : mg "enumerate" = none
  max : mg "max" = none
  int : mg "int" = none
  bool : mg "bool" = none
  any : mg "any" = none
  min : mg "min" = none
  str : mg "str" = none
  sorted : mg "sorted" = none
/-! ### three counts -/
/-- the triple at p -/
def Tr (K : PySem.W.Frag) (H : Hp) (p : Addr) (a b c : Int) : Prop := SqT K H p [.int a, .int b, .int c]
structure Ok3 (a b c : Int) : Prop where
  a0 : 0 ≤ a
  b0 : 0 ≤ b
  c0 : 0 ≤ c
  pos : 0 < a + b + c
def g3 (a b c k : Int) : Int := if k = 0 then a else if k = 1 then b else c
theorem at3 {a b c k : Int} (h0 : 0 ≤ k) (h3 : k < 3) : atI [V.int a, V.int b, V.int c] k = some (V.int (g3 a b c k)) := by
  have e : k = 0 ∨ k = 1 ∨ k = 2 := by omega
  rcases e with rfl | rfl | rfl <;> rfl
theorem Tr.same {K : PySem.W.Frag} {H H' : Hp} {p : Addr} {a b c : Int} (e : Same H H') (h : Tr K H p a b c) : Tr K H' p a b c := tup_same e h
/-- the meeting at q -/
def Mt (l h : Int) : Prop := (l = 0 ∧ h = 1) ∨ (l = 0 ∧ h = 2) ∨ (l = 1 ∧ h = 2)
def Pr (K : PySem.W.Frag) (H : Hp) (q : Addr) (l h : Int) : Prop := SqT K H q [.int l, .int h]
theorem Pr.same {K : PySem.W.Frag} {H H' : Hp} {p : Addr} {a b : Int} (e : Same H H') (h : Pr K H p a b) : Pr K H' p a b := tup_same e h
/-- a count behind a meeting -/
def mk (k x l h m : Int) : Int := if k = l ∨ k = h then x - 1 else x + m

/-- x are beads (b), or aren't -/
def BX (K : PySem.W.Frag) (H : Hp) (x : V) (b : Bool) : Prop := (NoT K H x ∧ b = false) ∨ (∃ (p : Addr) (xs : List V), x = .ref p ∧ SqT K H p xs ∧ xs.length ≠ 3 ∧ b = false) ∨
  ∃ (p : Addr) (x0 x1 x2 : V) (o0 o1 o2 : Option Int), x = .ref p ∧ SqT K H p [x0, x1, x2] ∧ NX K H x0 o0 ∧ NX K H x1 o1 ∧ NX K H x2 o2 ∧ b = okB o0 o1 o2
theorem BX.of {K : PySem.W.Frag} {H : Hp} {p : Addr} {a b c : Int} (h : Tr K H p a b c) (k : Ok3 a b c) : BX K H (.ref p) true :=
  .inr (.inr ⟨p, .int a, .int b, .int c, some a, some b, some c, rfl, h, NX.int k.a0, NX.int k.b0, NX.int k.c0, (decide_eq_true k.pos).symm⟩)
theorem BX.val {K : PySem.W.Frag} {H : Hp} {x : V} (h : BX K H x true) : ∃ p a b c, x = .ref p ∧ Tr K H p a b c ∧ Ok3 a b c := by
  rcases h with ⟨_, e⟩ | ⟨_, _, _, _, _, e⟩ | ⟨p, x0, x1, x2, o0, o1, o2, rfl, hs, k0, k1, k2, e⟩
  · cases e
  · cases e
  · cases o0 with
    | none => cases e
    | some a =>
      cases o1 with
      | none => cases e
      | some b =>
        cases o2 with
        | none => cases e
        | some c =>
          obtain ⟨rfl, a0⟩ := k0.val
          obtain ⟨rfl, b0⟩ := k1.val
          obtain ⟨rfl, c0⟩ := k2.val
          exact ⟨p, a, b, c, rfl, hs, a0, b0, c0, of_decide_eq_true e.symm⟩
def pairB : Option Int → Option Int → Bool
  | some n, some m => decide (n < m)
  | _, _ => false
/-- x is a pair of two unlike kinds, the lesser first (b), or isn't -/
def MX (K : PySem.W.Frag) (H : Hp) (x : V) (b : Bool) : Prop := (NoT K H x ∧ b = false) ∨ (∃ (p : Addr) (xs : List V), x = .ref p ∧ SqT K H p xs ∧ xs.length ≠ 2 ∧ b = false) ∨
  ∃ (p : Addr) (y z : V) (o1 o2 : Option Int), x = .ref p ∧ SqT K H p [y, z] ∧ KX K H y o1 ∧ KX K H z o2 ∧ b = pairB o1 o2
theorem MX.of {K : PySem.W.Frag} {H : Hp} {q : Addr} {l h : Int} (hq : Pr K H q l h) (m : Mt l h) : MX K H (.ref q) true := by
  have e : (0 ≤ l ∧ l < 3) ∧ (0 ≤ h ∧ h < 3) ∧ l < h := by unfold Mt at m; omega
  exact .inr (.inr ⟨q, .int l, .int h, some l, some h, rfl, hq, KX.int e.1.1 e.1.2, KX.int e.2.1.1 e.2.1.2, (decide_eq_true e.2.2).symm⟩)
theorem MX.val {K : PySem.W.Frag} {H : Hp} {x : V} (h : MX K H x true) : ∃ q l h, x = .ref q ∧ Pr K H q l h ∧ Mt l h := by
  rcases h with ⟨_, e⟩ | ⟨_, _, _, _, _, e⟩ | ⟨p, y, z, o1, o2, rfl, hs, k1, k2, e⟩
  · cases e
  · cases e
  · cases o1 with
    | none => cases e
    | some n =>
      cases o2 with
      | none => cases e
      | some m =>
        obtain ⟨rfl, n0, n3⟩ := k1.val
        obtain ⟨rfl, m0, m3⟩ := k2.val
        have lt : n < m := of_decide_eq_true e.symm
        exact ⟨p, n, m, rfl, hs, by unfold Mt; omega⟩
/-- a bead of each -/
def can (a b c l h : Int) : Bool := decide (0 < g3 a b c l) && decide (0 < g3 a b c h)

theorem can_iff {a b c l h : Int} : can a b c l h = true ↔ 0 < g3 a b c l ∧ 0 < g3 a b c h := by
  unfold can
  rw [Bool.and_eq_true, decide_eq_true_iff, decide_eq_true_iff]
/-- y is a meeting that can be (o), or isn't -/
def YX (K : PySem.W.Frag) (H : Hp) (a b c : Int) (y : V) (o : Bool) : Prop := (MX K H y false ∧ o = false) ∨ ∃ (q : Addr) (l h : Int), y = .ref q ∧ Pr K H q l h ∧ Mt l h ∧ o = can a b c l h
/-- the counts behind a meeting -/
def met (a b c l h m : Int) : List V := [.int (mk 0 a l h m), .int (mk 1 b l h m), .int (mk 2 c l h m)]
/-- the meetings that can be -/
def allM : List (Int × Int) := [(0, 1), (0, 2), (1, 2)]
def cans (a b c : Int) : List (Int × Int) := allM.filter fun p => can a b c p.1 p.2
/-- at L a list of new pairs (not there in H0) -/
def PairsAt (H0 H : Hp) (L : Addr) (ps : List (Int × Int)) : Prop := ∃ rs : List Addr, H L = some (.lst (rs.map V.ref)) ∧ Paired (fun r (p : Int × Int) => H0 r = none ∧ H r = some (.tup [.int p.1, .int p.2])) rs ps
/-- an own error of the text over ValueError -/
structure Ex (K : PySem.W.Frag) (mg : Str → Option Value) (x : Str) (C : Addr) : Prop where
  g : mg x = some (.ref C)
  x : PySem.W.excIn K C [.type "ValueError", .type "Exception", .type "BaseException", .type "object"] "ValueError.__new__" = true
  k : PySem.W.keepIn K (.ref C) = true
  b : PySem.W.subIn K (.ref C) (.type "BaseException") = some true
  t : PySem.W.typeIn K (.ref C) = some (.type "type")

theorem walkEnumT {K : PySem.W.Frag} {a : Addr} {xs : List V} : Walk (IteT K a) xs.length (fun H => SqT K H a xs) (YPair (fun i => some (.int (i : Nat))) (fun i => xs[i]?)) := by
  refine ⟨fun i _ hi q => ⟨xs, xs[i], q, by simp [hi]⟩, fun _ q => ⟨xs, q, Nat.le_refl _⟩, fun i H v H' _ q y => ?_⟩
  obtain ⟨T, x, h1, h2, h3, h4⟩ := y
  exact ⟨T, .int (i : Nat), x, h1, h2, h3, rfl, h4 xs q⟩
theorem take_next {α : Type} {xs : List α} {i : Nat} {x : α} (h : xs[i]? = some x) : xs.take i ++ [x] = xs.take (i + 1) := by
  rw [List.take_add_one, h]
  rfl
theorem met_at {a b c l h m : Int} {i : Nat} (hi : i < 3) {x : V} (hx : [V.int a, V.int b, V.int c][i]? = some x) : ∃ n : Int, x = .int n ∧ (met a b c l h m)[i]? = some (.int (mk (i : Int) n l h m)) := by
  match i, hi with
  | 0, _ => exact ⟨a, (Option.some.inj hx).symm, rfl⟩
  | 1, _ => exact ⟨b, (Option.some.inj hx).symm, rfl⟩
  | 2, _ => exact ⟨c, (Option.some.inj hx).symm, rfl⟩

theorem inV_pair {k l h : Int} : inV (.int k) [.int l, .int h] = true ↔ k = l ∨ k = h := by
  show ((l == k) || ((h == k) || false)) = true ↔ _
  rw [Bool.or_false, Bool.or_eq_true, beq_iff_eq, beq_iff_eq]
  constructor
  · rintro (e | e)
    · exact .inl e.symm
    · exact .inr e.symm
  · rintro (e | e)
    · exact .inl e.symm
    · exact .inr e.symm

theorem Paired.snoc {α β : Type} {R : α → β → Prop} {x : α} {y : β} (h : R x y) : ∀ {xs : List α} {ys : List β}, Paired R xs ys → Paired R (xs ++ [x]) (ys ++ [y])
  | _, _, .nil => .cons h .nil
  | _, _, .cons r t => .cons r (Paired.snoc h t)
theorem Paired.mono2 {α β : Type} {R S : α → β → Prop} (h : ∀ x y, R x y → S x y) : ∀ {xs : List α} {ys : List β}, Paired R xs ys → Paired S xs ys
  | _, _, .nil => .nil
  | _, _, .cons r t => .cons (h _ _ r) (Paired.mono2 h t)
theorem PairsAt.add {H0 H : Hp} {D p : Addr} {ps : List (Int × Int)} {l h : Int} (P : PairsAt H0 H D ps) (np : H p = none) (sm : Same H0 H) :
    ∃ acc : List V, (upd H p (.tup [.int l, .int h])) D = some (.lst acc) ∧ acc.length = ps.length ∧ PairsAt H0 (upd (upd H p (.tup [.int l, .int h])) D (.lst (acc ++ [.ref p]))) D (ps ++ [(l, h)]) := by
  obtain ⟨rs, hD, hp⟩ := P
  have nDp : D ≠ p := ne_of_none hD np
  refine ⟨rs.map V.ref, by rw [upd_ne nDp]; exact hD, by rw [List.length_map]; exact Paired.length hp, rs ++ [p], by rw [upd_same, List.map_append]; rfl, ?_⟩
  refine Paired.snoc ⟨sm.free np, by rw [upd_ne nDp.symm, upd_same]⟩ (Paired.mono2 (fun r q z => ⟨z.1, ?_⟩) hp)
  have n1 : r ≠ p := ne_of_none z.2 np
  have n2 : r ≠ D := ne_of z.2 hD (fun e => by cases e)
  rw [upd_ne n2, upd_ne n1]
  exact z.2
def st3 (i : Nat) : Nat := if i = 0 then 0 else if i = 1 then 2 else 3
theorem st3_next {i : Nat} (h : i < 3) : st3 i + (2 - i) = st3 (i + 1) := by
  have e : i = 0 ∨ i = 1 ∨ i = 2 := by omega
  rcases e with rfl | rfl | rfl <;> rfl
theorem allM_at {i j : Nat} (h : i < 3) (hj : j < 2 - i) : allM[st3 i + j]? = some ((i : Int), (i : Int) + 1 + (j : Int)) := by
  have e : (i = 0 ∧ j = 0) ∨ (i = 0 ∧ j = 1) ∨ (i = 1 ∧ j = 0) := by omega
  rcases e with ⟨rfl, rfl⟩ | ⟨rfl, rfl⟩ | ⟨rfl, rfl⟩ <;> rfl
theorem cans_step {a b c l h : Int} {k : Nat} (e : allM[k]? = some (l, h)) : (allM.take (k + 1)).filter (fun p => can a b c p.1 p.2) = (allM.take k).filter (fun p => can a b c p.1 p.2) ++ (if can a b c l h = true then [(l, h)] else []) := by
  rw [← take_next e, List.filter_append, List.filter_cons, List.filter_nil]

/-! ### data -/
theorem dpInts {K : PySem.W.Frag} {H : Hp} : ∀ ns : List Int, DpAll K H (ns.map V.int) (ns.map PyData.int)
  | [] => .nil
  | n :: ns => .cons (.int n) (dpInts ns)
theorem canLayInts : ∀ ns : List Int, PyData.canLayAll0 (ns.map PyData.int) = true
  | [] => by simp [PyData.canLayAll0]
  | n :: ns => by simp [PyData.canLayAll0, PyData.canLay0, canLayInts ns]
theorem depthInts : ∀ ns : List Int, PyData.depthAll (ns.map PyData.int) = 0
  | [] => by simp [PyData.depthAll]
  | n :: ns => by simp [PyData.depthAll, PyData.depth, depthInts ns]
theorem shaped_ints (ns : List Int) : SeqAt.shaped (.list (ns.map PyData.int)) = true := by
  unfold SeqAt.shaped
  rw [PyData.canLay0, PyData.depth, canLayInts, depthInts] <;> rfl
theorem shaped_tint (ns : List Int) : SeqAt.shaped (.tuple (ns.map PyData.int)) = true := by
  unfold SeqAt.shaped
  rw [PyData.canLay0, PyData.depth, canLayInts, depthInts] <;> rfl
theorem eqvInts : ∀ ns ms : List Int, PyData.eqvAll (ns.map PyData.int) (ms.map PyData.int) = decide (ns = ms)
  | [], [] => by simp [PyData.eqvAll]
  | [], _ :: _ => by simp [PyData.eqvAll]
  | _ :: _, [] => by simp [PyData.eqvAll]
  | n :: ns, m :: ms => by
    rw [List.map_cons, List.map_cons, PyData.eqvAll, PyData.eqv, eqvInts ns ms]
    by_cases e : n = m
    · subst e
      by_cases e2 : ns = ms
      · simp [e2]
      · simp [e2]
    · simp [e]
/-! ### sizes -/
def Sz (n : Nat) (x : Int) : Prop := x.natAbs < 2 ^ n
theorem Sz.mono {n m : Nat} {x : Int} (h : Sz n x) (k : n ≤ m) : Sz m x := Nat.lt_of_lt_of_le h (Nat.pow_le_pow_right (by decide) k)
theorem Sz.add {n : Nat} {x y : Int} (h : Sz n x) (k : Sz n y) : Sz (n + 1) (x + y) := by
  unfold Sz at *
  rw [Nat.pow_succ]
  omega
theorem Sz.mul {n m : Nat} {x y : Int} (h : Sz n x) (k : Sz m y) : Sz (n + m) (x * y) := by
  unfold Sz at *
  rw [Int.natAbs_mul, Nat.pow_add]
  exact Nat.mul_lt_mul'' h k
theorem Sz.cmul {n m : Nat} {x y : Int} (h : Sz n x) (k : Sz m y) (h0 : 0 < n) (k0 : 0 < m) (s : n + m ≤ 134000000) : CMulX x y := by
  have a := PySem.Flt.log2_lt_of h0 h
  have b := PySem.Flt.log2_lt_of k0 k
  unfold CMulX
  omega
theorem Sz.small {n : Nat} {x : Int} (h : -(2 ^ n : Int) < x) (k : x < (2 ^ n : Int)) : Sz n x := by
  unfold Sz
  have e : ((2 ^ n : Nat) : Int) = (2 : Int) ^ n := by simp
  omega
theorem sum_natAbs {n : Nat} : ∀ ns : List Int, (∀ z ∈ ns, Sz n z) → ns.sum.natAbs ≤ ns.length * 2 ^ n
  | [], _ => by simp
  | z :: ns, h => by
    have ih := sum_natAbs ns fun y hy => h y (List.mem_cons_of_mem _ hy)
    have hz : z.natAbs < 2 ^ n := h z List.mem_cons_self
    rw [List.sum_cons, List.length_cons, Nat.succ_mul]
    have q := Int.natAbs_add_le z ns.sum
    omega
theorem sum_sz {n : Nat} {ns : List Int} (h : ∀ z ∈ ns, Sz n z) (k : ns.length ≤ 63) : Sz (n + 6) ns.sum := by
  have a := sum_natAbs ns h
  unfold Sz
  have b : ns.length * 2 ^ n ≤ 63 * 2 ^ n := Nat.mul_le_mul_right _ k
  have c : 2 ^ (n + 6) = 64 * 2 ^ n := by rw [Nat.pow_add, Nat.mul_comm]
  have d : 0 < 2 ^ n := Nat.pow_pos (by decide)
  omega

theorem cut_all (xs : List V) (k : Nat) (h : xs.length ≤ k) : cutV xs none (some (k : Int)) = xs := by
  unfold cutV
  rw [HT.sIx_none, HT.sIx_nat, Nat.min_eq_right h, Nat.sub_zero, List.drop_zero, List.take_length]
theorem at_int {ms : List Int} {z : Int} (h0 : 0 ≤ z) (h1 : z < (ms.length : Int)) : ∃ m, m ∈ ms ∧ atI (ms.map V.int) z = some (.int m) := by
  have hl : z.toNat < ms.length := by omega
  refine ⟨ms[z.toNat], List.getElem_mem hl, at_of (j := z.toNat) (by omega) ?_⟩
  rw [List.getElem?_map, List.getElem?_eq_getElem hl]
  rfl
/-- the cells of the script: itself, or [5] -/
theorem rd_cells {K : PySem.W.Frag} {σ : L2.St} {H : Hp} {Q : VK} {p : Addr} {ns : List Int} {n : Nat} (h0 : σ[0]? = some (some (.ref p))) (hS : SqL K H p (ns.map V.int)) (hlen : ns.length ≤ 63) (hz : ∀ z ∈ ns, Sz n z)
    (k : ∀ (H' : Hp) (c : Addr) (ms : List Int), Same H H' → H c = none → H' c = some (.lst (ms.map V.int)) → ms ≠ [] → ms.length ≤ 63 → (∀ z ∈ ms, Sz (n + 3) z) → Q (.ref c) H') :
    tIf (tTest (tOp (rNeD K) (tVar 0) (tLst tNil))) (tSl (rSlL K) (tVar 0) tNoPart (tPart (tC (.int 63)))) (tLst (tCons (tC (.int 5)) tNil)) σ H Q := by
  refine ⟨_, h0, Nat.zero_le _, fun e he => ?_⟩
  have s1 : Same H (upd H e (.lst [])) := same_upd he
  refine ⟨.list (ns.map PyData.int), .list (([] : List Int).map PyData.int), .lst (s1.seq hS) (dpInts ns), .lst (.inl (.inl upd_same)) (dpInts []), shaped_ints ns, shaped_ints [], _, rfl, ite2 (fun z => ?_) (fun z => ?_)⟩
  · have hne : ns ≠ [] := fun q => by
      subst q
      exact absurd z (by simp [PyData.eqv, PyData.eqvAll])
    refine ⟨_, h0, 63, rfl, p, _, rfl, s1.seq hS, fun c hc => ?_⟩
    rw [show cutV (ns.map V.int) none (some 63) = ns.map V.int from cut_all (ns.map V.int) 63 (by rw [List.length_map]; exact hlen)]
    exact k _ c ns (s1.trans (same_upd hc)) (s1.free hc) upd_same hne hlen fun z hz' => (hz z hz').mono (by omega)
  · refine ⟨(by show 1 ≤ sizeLine; decide), fun c hc => ?_⟩
    refine k _ c [5] (s1.trans (same_upd hc)) (s1.free hc) upd_same (by simp) (by decide) fun z hz' => ?_
    obtain rfl := List.mem_singleton.mp hz'
    exact Sz.mono (n := 3) (.small (by decide) (by decide)) (by omega)

theorem Paired.get {α β : Type} {R : α → β → Prop} : ∀ {xs : List α} {ys : List β} {i : Nat} {x : α}, Paired R xs ys → xs[i]? = some x → ∃ y, ys[i]? = some y ∧ R x y
  | _, _, _, _, .nil, e => by simp at e
  | _, _, 0, _, .cons r _, e => ⟨_, rfl, (Option.some.inj e) ▸ r⟩
  | _, _, i + 1, x, .cons _ t, e => by
    obtain ⟨y, h1, h2⟩ := Paired.get (i := i) (x := x) t (by simpa using e)
    exact ⟨y, by simpa using h1, h2⟩
def dPairs (ps : List (Int × Int)) : PyData := .list (ps.map fun p => .tuple [.int p.1, .int p.2])
theorem dpPairs {K : PySem.W.Frag} {H : Hp} {R : Addr → (Int × Int) → Prop} (hR : ∀ r p, R r p → H r = some (.tup [.int p.1, .int p.2])) : ∀ {rs : List Addr} {ps : List (Int × Int)}, Paired R rs ps → DpAll K H (rs.map V.ref) (ps.map fun p => .tuple [.int p.1, .int p.2])
  | _, _, .nil => .nil
  | _, _, .cons r t => .cons (.tup (.inl (.inl (hR _ _ r))) (.cons (.int _) (.cons (.int _) .nil))) (dpPairs hR t)
theorem PairsAt.dp {K : PySem.W.Frag} {H0 H : Hp} {L : Addr} {ps : List (Int × Int)} (h : PairsAt H0 H L ps) : Dp K H (.ref L) (dPairs ps) := by
  obtain ⟨rs, hL, hp⟩ := h
  exact .lst (.inl (.inl hL)) (dpPairs (fun _ _ z => z.2) hp)
theorem canLayPairs : ∀ ps : List (Int × Int), PyData.canLayAll0 (ps.map fun p => .tuple [.int p.1, .int p.2]) = true
  | [] => by simp [PyData.canLayAll0]
  | p :: ps => by
    rw [List.map_cons, PyData.canLayAll0, canLayPairs ps]
    simp [PyData.canLay0, PyData.canLayAll0]
theorem depthPairs : ∀ ps : List (Int × Int), PyData.depthAll (ps.map fun p => .tuple [.int p.1, .int p.2]) ≤ 1
  | [] => by simp [PyData.depthAll]
  | p :: ps => by
    rw [List.map_cons, PyData.depthAll]
    have ih := depthPairs ps
    simp only [PyData.depth, PyData.depthAll]
    omega
theorem shaped_pairs (ps : List (Int × Int)) : SeqAt.shaped (dPairs ps) = true := by
  unfold SeqAt.shaped dPairs
  rw [PyData.canLay0, canLayPairs, PyData.depth, Bool.true_and, decide_eq_true_iff]
  have := depthPairs ps
  omega
theorem eqv_self {d : PyData} (h : SeqAt.shaped d = true) : PyData.eqv d d = true := SeqAt.eqv_refl d (SeqAt.canLay_of_shaped h)
theorem PairsAt.same {H0 H H' : Hp} {L : Addr} {ps : List (Int × Int)} (s : Same H H') (h : PairsAt H0 H L ps) : PairsAt H0 H' L ps := by
  obtain ⟨rs, hL, hp⟩ := h
  exact ⟨rs, s _ _ hL, Paired.mono2 (fun _ _ z => ⟨z.1, s _ _ z.2⟩) hp⟩
theorem mem_cans {a b c : Int} {q : Int × Int} (h : q ∈ cans a b c) : Mt q.1 q.2 ∧ can a b c q.1 q.2 = true := by
  obtain ⟨h1, h2⟩ := List.mem_filter.mp h
  refine ⟨?_, h2⟩
  simp only [allM, List.mem_cons, List.mem_nil_iff, or_false] at h1
  unfold Mt
  rcases h1 with rfl | rfl | rfl <;> simp
theorem sum_met {a b c l h m : Int} (hM : Mt l h) : mk 0 a l h m + (mk 1 b l h m + (mk 2 c l h m + 0)) = a + b + c - 2 + m := by
  unfold Mt at hM
  unfold mk
  rcases hM with ⟨rfl, rfl⟩ | ⟨rfl, rfl⟩ | ⟨rfl, rfl⟩ <;> simp <;> omega
theorem ty_lst {K : PySem.W.Frag} {H : Hp} {a : Addr} {xs : List V} (h : H a = some (.lst xs)) : TyX K H (.ref a) (.type "list") := .base (.lst h)

/-- three tuples and a list of them, laid -/
theorem lit3 {H : Hp} {t0 t1 t2 l : Addr} {x0 x1 x2 : List V} (h0 : H t0 = none) (h1 : upd H t0 (.tup x0) t1 = none) (h2 : upd (upd H t0 (.tup x0)) t1 (.tup x1) t2 = none) (hl : upd (upd (upd H t0 (.tup x0)) t1 (.tup x1)) t2 (.tup x2) l = none) :
    ∃ Hm, upd (upd (upd (upd H t0 (.tup x0)) t1 (.tup x1)) t2 (.tup x2)) l (.lst [.ref t0, .ref t1, .ref t2]) = Hm ∧ Same H Hm ∧ Hm t0 = some (.tup x0) ∧ Hm t1 = some (.tup x1) ∧ Hm t2 = some (.tup x2) ∧ Hm l = some (.lst [.ref t0, .ref t1, .ref t2]) ∧ H t1 = none ∧ H t2 = none ∧ H l = none := by
  have s0 : Same H (upd H t0 (.tup x0)) := same_upd h0
  have s1 : Same (upd H t0 (.tup x0)) (upd (upd H t0 (.tup x0)) t1 (.tup x1)) := same_upd h1
  have s2 : Same (upd (upd H t0 (.tup x0)) t1 (.tup x1)) (upd (upd (upd H t0 (.tup x0)) t1 (.tup x1)) t2 (.tup x2)) := same_upd h2
  have s3 : Same (upd (upd (upd H t0 (.tup x0)) t1 (.tup x1)) t2 (.tup x2)) (upd (upd (upd (upd H t0 (.tup x0)) t1 (.tup x1)) t2 (.tup x2)) l (.lst [.ref t0, .ref t1, .ref t2])) := same_upd hl
  exact ⟨_, rfl, s0.trans (s1.trans (s2.trans s3)), s3 _ _ (s2 _ _ (s1 _ _ upd_same)), s3 _ _ (s2 _ _ upd_same), s3 _ _ upd_same, upd_same, s0.free h1, s0.free (s1.free h2), s0.free (s1.free (s2.free hl))⟩
theorem ref_get {rs : List Addr} {i : Nat} {x : V} (h : (rs.map V.ref)[i]? = some x) : ∃ r, rs[i]? = some r ∧ x = .ref r := by
  rw [List.getElem?_map] at h
  cases e : rs[i]? with
  | none => rw [e] at h; cases h
  | some r => rw [e] at h; exact ⟨r, rfl, (Option.some.inj h).symm⟩
theorem all_rep (n : Nat) : (List.replicate n true).all id = true := by
  rw [List.all_eq_true]
  intro x hx
  exact (List.mem_replicate.mp hx).2
theorem rep_next (n : Nat) : (List.replicate n true).map V.bl ++ [V.bl true] = (List.replicate (n + 1) true).map V.bl := by
  rw [List.replicate_succ', List.map_append]
  rfl
theorem met_ints (a b c l h m : Int) : met a b c l h m = [mk 0 a l h m, mk 1 b l h m, mk 2 c l h m].map V.int := rfl
end Km

set_option Elab.async false
set_option linter.all false
set_option maxRecDepth 100000
set_option maxHeartbeats 4000000
namespace Km
open PySem PySem.Spec PyProof.Rows L2
theorem sz_of_bits {n : Nat} {z : Int} (h : Builtin.Int.intBits z ≤ n) : Sz n z := by
  unfold Builtin.Int.intBits at h
  unfold Sz
  by_cases e : z = 0
  · subst e
    exact Nat.pow_pos (by decide)
  · have e2 : z.natAbs ≠ 0 := by omega
    have h1 : z.natAbs.log2 < n := by
      split at h
      · rename_i q
        first
          | exact absurd (beq_iff_eq.mp q) e
          | omega
      · omega
    exact (Nat.log2_lt e2).mp h1
theorem szs_of_bits {ns : List Int} (h : ∀ z ∈ ns, Builtin.Int.intBits z ≤ 1048576) : ∃ n, n ≤ 1900000 ∧ ∀ z ∈ ns, Sz n z := by
  have key : ∀ m : Nat, m ≤ 1900000 → (∀ z ∈ ns, Builtin.Int.intBits z ≤ m) → ∃ n, n ≤ 1900000 ∧ ∀ z ∈ ns, Sz n z := fun m hm hb => ⟨m, hm, fun z hz => sz_of_bits (hb z hz)⟩
  exact key 1048576 (by decide) h
/-- the end of a law over a head by facts, the script's bits told -/
theorem walk_ofEB {l : PySem.W.OpenLaw} {n k : Nat} {q : Program} {loose : List Str} {XP : (Str → Option Value) → Heap → Prop} {YP : World → Heap → Prop} {d : DefRec} {CX : CXT} {x : Str}
    (hn : l.most = some n) (hn2 : n ≤ sizeLine) (hdf : d.params.defaults = []) (hr : Room k callerA)
    (F : ∀ (w : World) (mg : Str → Option Value) (fa : Addr) (h : Heap), YP w h → h.Ns mainGlobals mg → mg d.name = some (.ref fa) →
      ∃ (K : PySem.W.Frag) (fd : FuncData) (sp : Sp), K.In h ∧ (∀ (s : Shared) (u : Value), BindsTo s fd ⟨[u], []⟩ [(x, u)]) ∧
        (∀ (H : Hp) (a : Addr) (ns : List Int), ns.length ≤ n → (∃ m, m ≤ 1900000 ∧ ∀ z ∈ ns, Sz m z) → Only H → SqL K H a (ns.map V.int) → sp [.ref a] H (fun v _ => v = .bl true) fun _ _ _ => False) ∧
        ∀ base : Heap, K.In base → base.Ns mainGlobals mg → FnOk l.prog w K mg base CX k fa fd [x] sp)
    (hCX : ∀ (H : Hp) (s : Shared) (e : Value) (s' : Shared), CX [] H s (fun _ _ _ => False) e s' → False) :
    PySem.W.WalkO q loose XP YP l.row.toRowW d [] (fun f vs => PySem.call f vs) := by
  refine Att.attach_callB hn hdf fun w s₀ s₁ mg mb fa o pm cd doc a vs ns G Y ho hd hcd hmg hobj hints hlen hbits hg => ?_
  obtain ⟨K, fd, sp, KX, hb, hsp, hF⟩ := F w mg fa _ Y G.T.g hmg
  exact law_call KX G.T.g G.T.b G.T.builtins G.T.nolimit hg hobj hints (Nat.le_trans hlen hn2) hr hF hb (fun H hO hS => hsp H a ns hlen (szs_of_bits hbits) hO hS) fun H e s' => hCX H s₁ e s'
theorem ex_of {K : PySem.W.Frag} {h : Heap} {mg : Str → Option Value} {x : Str} (X : K.In h) (G : h.Ns mainGlobals mg) (c1 : (He.Fa.glo x).ok K = true) (c2 : (He.Fa.exc x).ok K = true) : Ex K mg x (He.ga K x) := by
  obtain ⟨a, b, c, d⟩ := He.exc_ok c2
  exact ⟨He.glo_ok X G c1, a, b, c, d⟩
end Km

set_option Elab.async false
set_option linter.all false
set_option maxRecDepth 100000
set_option maxHeartbeats 4000000
namespace Km
open PySem PySem.Spec PyProof.Rows L2
def topS (i : Nat) : Stmt := PySem.Challenge.pw_kindmeets_k01_meetings.main.body.getD i (.Pass ⟨0, 0, 0, 0⟩)

/-! ### kindmeets.beads -/
abbrev sNum : Stmt := topS 15
abbrev sKind : Stmt := topS 14
abbrev sIsM : Stmt := topS 13
abbrev sAre : Stmt := topS 12
abbrev sChB : Stmt := topS 10
abbrev sChM : Stmt := topS 11
abbrev sBeh : Stmt := topS 9
abbrev sJoin : Stmt := topS 7
abbrev sTurn : Stmt := topS 8
abbrev sMeet : Stmt := topS 6
theorem scBeh : FnScope ["beads", "meeting", "made", "kind", "count"] ["beads", "meeting", "made"] (defScope sBeh) := ⟨rfl, rfl, rfl, by decide +kernel, rfl, by decide +kernel, by decide +kernel⟩
theorem scJoin : FnScope ["beads", "meeting"] ["beads", "meeting"] (defScope sJoin) := ⟨rfl, rfl, rfl, by decide +kernel, rfl, by decide +kernel, by decide +kernel⟩
theorem scTurn : FnScope ["beads", "meeting"] ["beads", "meeting"] (defScope sTurn) := ⟨rfl, rfl, rfl, by decide +kernel, rfl, by decide +kernel, by decide +kernel⟩
theorem scMeet : FnScope ["beads", "low", "high"] ["beads"] (defScope sMeet) := ⟨rfl, rfl, rfl, by decide +kernel, rfl, by decide +kernel, by decide +kernel⟩
theorem scNum : FnScope ["value"] ["value"] (defScope sNum) := ⟨rfl, rfl, rfl, by decide +kernel, rfl, by decide +kernel, by decide +kernel⟩
theorem scKind : FnScope ["value"] ["value"] (defScope sKind) := ⟨rfl, rfl, rfl, by decide +kernel, rfl, by decide +kernel, by decide +kernel⟩
theorem scIsM : FnScope ["value", "low", "high"] ["value"] (defScope sIsM) := ⟨rfl, rfl, rfl, by decide +kernel, rfl, by decide +kernel, by decide +kernel⟩
theorem scAre : FnScope ["value", "count"] ["value"] (defScope sAre) := ⟨rfl, rfl, rfl, by decide +kernel, rfl, by decide +kernel, by decide +kernel⟩
theorem scChB : FnScope ["beads"] ["beads"] (defScope sChB) := ⟨rfl, rfl, rfl, by decide +kernel, rfl, by decide +kernel, by decide +kernel⟩
theorem scChM : FnScope ["beads", "meeting", "low", "high"] ["beads", "meeting"] (defScope sChM) := ⟨rfl, rfl, rfl, by decide +kernel, rfl, by decide +kernel, by decide +kernel⟩
section
variable {P : Program} {w : World} {K : PySem.W.Frag} {mg : Str → Option Value} {base : Heap} {f : Addr} {fd : FuncData}
/-- is_number of anything whose type is told -/
def spNum (K : PySem.W.Frag) : Sp := fun vs H Q _ => ∃ (x : V) (t : Value) (b1 b2 : Bool), vs = [x] ∧ TyX K H x t ∧ PySem.W.kitOne K t (.type "int") = some b1 ∧ PySem.W.kitOne K t (.type "bool") = some b2 ∧ Q (.bl (b1 && !b2)) H
theorem ok_num (F : FnP K "is_number" sNum f fd) (B : Bl mg) : FnOk P w K mg base CX0 1 f fd ["value"] (spNum K) := by
  refine F.ok scNum (fun vs H Q E h => ?_) (fun cdv A outer s H vs Q E hr h => ?_)
  · obtain ⟨x, t, b1, b2, rfl, _⟩ := h
    rfl
  · obtain ⟨x, t, b1, b2, rfl, ty, k1, k2, q⟩ := h
    refine ⟨_, PSs.nox (pss_one (ps_ret (pe_and (pe_callB call_isi (by rfl) B.isi (by decide +kernel) (pa_cons (pv 0) (pa_cons (pe_bltn (v := .ty "int") (by rfl) B.int (by decide +kernel) rfl) pa_nil)))
      (pe_one (pe_not (pe_callB call_isi (by rfl) B.isi (by decide +kernel) (pa_cons (pv 0) (pa_cons (pe_bltn (v := .ty "bool") (by rfl) B.bool (by decide +kernel) rfl) pa_nil)))))))), ?_⟩
    refine ⟨x, rfl, x, _, t, _, b1, rfl, .ty _, ty, k1, b1, rfl, ?_⟩
    cases b1 with
    | false => exact iteF q
    | true => exact iteT ⟨x, rfl, x, _, t, _, b2, rfl, .ty _, ty, k2, b2, rfl, by rw [Bool.true_and] at q; exact q⟩
theorem sp_num_int {K : PySem.W.Frag} {H : Hp} {Q : VK} {E : XK} {n : Int} (q : Q (.bl true) H) : spNum K [.int n] H Q E :=
  ⟨.int n, .type "int", true, false, rfl, .base (.int _), kit_ty (by decide +kernel), kit_ty (by decide +kernel), q⟩
/-- is_kind of anything -/
def spKind (K : PySem.W.Frag) : Sp := fun vs H Q _ => ∃ (x : V) (o : Option Int), vs = [x] ∧ KX K H x o ∧ Q (.bl o.isSome) H
theorem ok_kind {fN : Addr} {fdN : FuncData} {u : Value} (F : FnP K "is_kind" sKind f fd) (B : Bl mg) (kd : mg "KINDS" = some u) (ku : RelV (.int 3) u) (aN : At K mg "is_number" sNum ["value"] fN fdN) : FnOk P w K mg base CX0 2 f fd ["value"] (spKind K) := by
  have GN : FnOk P w K mg base CX0 1 fN fdN ["value"] (spNum K) := ok_num aN.F B
  refine F.ok scKind (fun vs H Q E h => ?_) (fun cdv A outer s H vs Q E hr h => ?_)
  · obtain ⟨x, o, rfl, _⟩ := h
    rfl
  · obtain ⟨x, o, rfl, hx, q⟩ := h
    refine ⟨_, PSs.nox (pss_one (ps_ret (pe_and (pe_call GN hr (by rfl) aN.g aN.F.kp aN.b .nil pass0 (pa_cons (pv 0) pa_nil))
      (pe_one (pe_chain op_le op_lt pe_int (pv 0) (pe_glob (by rfl) kd ku)))))), ?_⟩
    refine ⟨x, rfl, ?_⟩
    rcases hx with ⟨n, rfl, e⟩ | ⟨t, b1, b2, ty, k1, k2, k3, e⟩
    · refine ⟨.int n, .type "int", true, false, rfl, .base (.int _), kit_ty (by decide +kernel), kit_ty (by decide +kernel), true, rfl, iteT ?_⟩
      refine ⟨_, rfl, _, _, rfl, rfl, _, rfl, ite2 (fun h0 => ?_) (fun h0 => ?_)⟩
      · have h0' : 0 ≤ n := of_decide_eq_true h0
        refine ⟨_, _, rfl, rfl, ?_⟩
        have e2 : decide (n < 3) = o.isSome := by
          by_cases h3 : n < 3
          · rw [e, if_pos ⟨h0', h3⟩, decide_eq_true h3]; rfl
          · rw [e, if_neg (fun z => h3 z.2), decide_eq_false h3]; rfl
        show Q (V.bl (decide (n < 3))) H
        rw [e2]
        exact q
      · have h0' : ¬ 0 ≤ n := fun z => h0 (decide_eq_true z)
        have e2 : o.isSome = false := by rw [e, if_neg (fun z => h0' z.1)]; rfl
        rw [e2] at q
        exact q
    · refine ⟨x, t, b1, b2, rfl, ty, k1, k2, b1 && !b2, rfl, ?_⟩
      rw [k3]
      refine iteF ?_
      rw [e] at q
      exact q
/-- is_meeting of anything -/
def spIsM (K : PySem.W.Frag) : Sp := fun vs H Q _ => ∃ (x : V) (b : Bool), vs = [x] ∧ MX K H x b ∧ Q (.bl b) H
theorem ok_isM {fN fK : Addr} {fdN fdK : FuncData} {u : Value} (F : FnP K "is_meeting" sIsM f fd) (B : Bl mg) (kd : mg "KINDS" = some u) (ku : RelV (.int 3) u) (aN : At K mg "is_number" sNum ["value"] fN fdN) (aK : At K mg "is_kind" sKind ["value"] fK fdK) : FnOk P w K mg base CX0 3 f fd ["value"] (spIsM K) := by
  have GK : FnOk P w K mg base CX0 2 fK fdK ["value"] (spKind K) := ok_kind aK.F B kd ku aN
  refine F.ok scIsM (fun vs H Q E h => ?_) (fun cdv A outer s H vs Q E hr h => ?_)
  · obtain ⟨x, b, rfl, _⟩ := h
    rfl
  · obtain ⟨x, b, rfl, h, q⟩ := h
    refine ⟨_, PSs.nox (pss_cons (ps_if (PW.pt (pw_or (pt_not (pt_val (pe_callB call_isi (by rfl) B.isi (by decide +kernel) (pa_cons (pv 0) (pa_cons (pe_bltn (v := .ty "tuple") (by rfl) B.tup (by decide +kernel) rfl) pa_nil)))))
        (pw_or1 (pt_cmpR op_ne (pe_callB call_len_seq (by rfl) B.len PySem.boot_len (pa_cons (pv 0) pa_nil)) pe_int (nomark _))))) (pss_one (ps_ret pe_bl)) pss_nil)
      (pss_cons (ps_asg (pv 0) (pg_tup (by rfl) (pgs_cons (pg_name (i := 1) scIsM.nd rfl (.inl rfl)) (pgs_cons (pg_name (i := 2) scIsM.nd rfl (.inl rfl)) pgs_nil))))
      (pss_one (ps_ret (pe_and (pe_call GK hr (by rfl) aK.g aK.F.kp aK.b .nil pass0 (pa_cons (pv 1) pa_nil))
        (pe_and (pe_call GK hr (by rfl) aK.g aK.F.kp aK.b .nil pass0 (pa_cons (pv 2) pa_nil)) (pe_one (pe_cmpR op_lt (pv 1) (pv 2) (nomark _))))))))), ?_⟩
    rcases h with ⟨⟨t, ty, kt⟩, rfl⟩ | ⟨p, xs, rfl, hs, hn, rfl⟩ | ⟨p, y, z, o1, o2, rfl, hs, k1, k2, rfl⟩
    · exact ⟨x, rfl, x, _, t, _, false, rfl, .ty _, ty, kt, false, rfl, iteT (iteT q)⟩
    · refine ⟨.ref p, rfl, .ref p, _, _, _, true, rfl, .ty _, ty_tup hs, kit_ty (by decide +kernel), true, rfl, iteF ?_⟩
      refine ⟨.ref p, rfl, p, xs, rfl, .inr hs, rfl, _, rfl, ?_⟩
      have e : decide (V.int (xs.length : Int) = V.int 2) = false := decide_eq_false fun z => hn (by have z2 := V.int.inj z; omega)
      rw [e]
      exact iteT q
    · refine ⟨.ref p, rfl, .ref p, _, _, _, true, rfl, .ty _, ty_tup hs, kit_ty (by decide +kernel), true, rfl, iteF ?_⟩
      refine ⟨.ref p, rfl, p, _, rfl, .inr hs, rfl, _, rfl, ?_⟩
      refine iteF ?_
      refine ⟨.ref p, rfl, p, _, rfl, hs, rfl, y, [z], rfl, z, [], rfl, rfl, ?_⟩
      refine ⟨y, rfl, y, o1, rfl, k1, o1.isSome, rfl, ?_⟩
      cases o1 with
      | none => exact iteF q
      | some n =>
        refine iteT ⟨z, rfl, z, o2, rfl, k2, o2.isSome, rfl, ?_⟩
        cases o2 with
        | none => exact iteF q
        | some m =>
          have ey : y = .int n := by
            rcases k1 with ⟨i, rfl, e⟩ | ⟨_, _, _, _, _, _, _, e⟩
            · split at e
              · rw [Option.some.inj e]
              · cases e
            · cases e
          have ez : z = .int m := by
            rcases k2 with ⟨i, rfl, e⟩ | ⟨_, _, _, _, _, _, _, e⟩
            · split at e
              · rw [Option.some.inj e]
              · cases e
            · cases e
          subst ey ez
          exact iteT ⟨_, rfl, _, rfl, _, _, rfl, rfl, q⟩
/-- are_beads of anything -/
def spAre (K : PySem.W.Frag) : Sp := fun vs H Q _ => ∃ (x : V) (b : Bool), vs = [x] ∧ BX K H x b ∧ Q (.bl b) H
theorem ok_are {fN : Addr} {fdN : FuncData} {u : Value} (F : FnP K "are_beads" sAre f fd) (B : Bl mg) (kd : mg "KINDS" = some u) (ku : RelV (.int 3) u) (aN : At K mg "is_number" sNum ["value"] fN fdN) : FnOk P w K mg base CX0 2 f fd ["value"] (spAre K) := by
  have GN : FnOk P w K mg base CX0 1 fN fdN ["value"] (spNum K) := ok_num aN.F B
  refine F.ok scAre (fun vs H Q E h => ?_) (fun cdv A outer s H vs Q E hr h => ?_)
  · obtain ⟨x, b, rfl, _⟩ := h
    rfl
  · obtain ⟨x, b, rfl, h, q⟩ := h
    refine ⟨_, PSs.nox (pss_cons (ps_if (PW.pt (pw_or (pt_not (pt_val (pe_callB call_isi (by rfl) B.isi (by decide +kernel) (pa_cons (pv 0) (pa_cons (pe_bltn (v := .ty "tuple") (by rfl) B.tup (by decide +kernel) rfl) pa_nil)))))
        (pw_or1 (pt_cmpR op_ne (pe_callB call_len_seq (by rfl) B.len PySem.boot_len (pa_cons (pv 0) pa_nil)) (pe_glob (by rfl) kd ku) (nomark _))))) (pss_one (ps_ret pe_bl)) pss_nil)
      (pss_cons (ps_for PassesOwn.never rfl (pi_tup (pv 0)) (pg_name (i := 1) scAre.nd rfl (.inl rfl))
        (pss_one (ps_if (PW.pt (pw_or (pt_not (pt_val (pe_call GN hr (by rfl) aN.g aN.F.kp aN.b .nil pass0 (pa_cons (pv 1) pa_nil)))) (pw_or1 (pt_cmpR op_lt (pv 1) pe_int (nomark _))))) (pss_one (ps_ret pe_bl)) pss_nil)))
      (pss_one (ps_ret (pe_cmpR op_gt (pe_callB (cr_maxT rfl) (by rfl) B.max (by decide +kernel) (pa_cons (pv 0) pa_nil)) pe_int (nomark _)))))), ?_⟩
    rcases h with ⟨⟨t, ty, kt⟩, rfl⟩ | ⟨p, xs, rfl, hs, hn, rfl⟩ | ⟨p, x0, x1, x2, o0, o1, o2, rfl, hs, k0, k1, k2, rfl⟩
    · exact ⟨x, rfl, x, _, t, _, false, rfl, .ty _, ty, kt, false, rfl, iteT (iteT q)⟩
    · refine ⟨.ref p, rfl, .ref p, _, _, _, true, rfl, .ty _, ty_tup hs, kit_ty (by decide +kernel), true, rfl, iteF ?_⟩
      refine ⟨.ref p, rfl, p, xs, rfl, .inr hs, rfl, _, rfl, ?_⟩
      have e : decide (V.int (xs.length : Int) = V.int 3) = false := decide_eq_false fun z => hn (by have z2 := V.int.inj z; omega)
      rw [e]
      exact iteT q
    · refine ⟨.ref p, rfl, .ref p, _, _, _, true, rfl, .ty _, ty_tup hs, kit_ty (by decide +kernel), true, rfl, iteF ?_⟩
      refine ⟨.ref p, rfl, p, _, rfl, .inr hs, rfl, _, rfl, ?_⟩
      refine iteF ?_
      refine ⟨.ref p, rfl, p, rfl, ⟨_, hs⟩, for_tup (K := K) (a := p) (xs := [x0, x1, x2]) (fun i σ H' => H' = H ∧ (∃ v, σ = [some (.ref p), v]) ∧ ∀ j, j < i → ∃ n, [o0, o1, o2][j]? = some (some n))
        ⟨rfl, ⟨none, rfl⟩, fun j hj => absurd hj (Nat.not_lt_zero j)⟩ (fun i σ H' _ ⟨e, _⟩ => e ▸ hs) ?_ ?_⟩
      · rintro i x σ H' hx ⟨rfl, ⟨v, rfl⟩, hall⟩
        obtain ⟨o, ho, hN⟩ : ∃ o, [o0, o1, o2][i]? = some o ∧ NX K H' x o := by
          match i, hx with
          | 0, hx => exact ⟨o0, rfl, (Option.some.inj hx) ▸ k0⟩
          | 1, hx => exact ⟨o1, rfl, (Option.some.inj hx) ▸ k1⟩
          | 2, hx => exact ⟨o2, rfl, (Option.some.inj hx) ▸ k2⟩
          | n + 3, hx => simp at hx
        have stop : o = none → Q (.bl false) H' := fun e => by
          subst e
          rw [okB_none ho] at q
          exact q
        rcases hN with ⟨n, rfl, e⟩ | ⟨t, b1, b2, ty, e1, e2, e3, e⟩
        · refine ⟨_, rfl, .int n, .type "int", true, false, rfl, .base (.int _), kit_ty (by decide +kernel), kit_ty (by decide +kernel), true, rfl, iteF ?_⟩
          refine ⟨_, rfl, _, _, rfl, rfl, _, rfl, ite2 (fun h0 => ?_) (fun h0 => ?_)⟩
          · refine stop ?_
            rw [e, if_neg (by have z := of_decide_eq_true h0; omega)]
          · have h0' : 0 ≤ n := by
              by_cases z : 0 ≤ n
              · exact z
              · exact absurd (decide_eq_true (show n < 0 by omega)) h0
            refine ⟨rfl, ⟨_, rfl⟩, fun j hj => ?_⟩
            by_cases hji : j < i
            · exact hall j hji
            · have ej : j = i := by omega
              subst ej
              exact ⟨n, by rw [ho, e, if_pos h0']⟩
        · refine ⟨_, rfl, x, t, b1, b2, rfl, ty, e1, e2, b1 && !b2, rfl, ?_⟩
          rw [e3]
          exact iteT (stop e)
      · rintro σ H' ⟨rfl, ⟨v, rfl⟩, hall⟩
        obtain ⟨a, ha⟩ := hall 0 (by show 0 < 3; omega)
        obtain ⟨b, hb⟩ := hall 1 (by show 1 < 3; omega)
        obtain ⟨c, hc⟩ := hall 2 (by show 2 < 3; omega)
        have ea : o0 = some a := Option.some.inj ha
        have eb : o1 = some b := Option.some.inj hb
        have ec : o2 = some c := Option.some.inj hc
        subst ea eb ec
        obtain ⟨rfl, a0⟩ := k0.val
        obtain ⟨rfl, b0⟩ := k1.val
        obtain ⟨rfl, c0⟩ := k2.val
        refine ⟨.ref p, rfl, p, [a, b, c], rfl, hs, by show 0 < 3; omega, fun m hm hle => ⟨_, _, rfl, rfl, ?_⟩⟩
        have e : decide (0 < m) = decide (0 < a + b + c) := by
          have h1 := hle a (by simp)
          have h2 := hle b (by simp)
          have h3 := hle c (by simp)
          simp only [List.mem_cons, List.mem_nil_iff, or_false] at hm
          by_cases z : 0 < m
          · rw [decide_eq_true z, decide_eq_true]
            rcases hm with e | e | e <;> omega
          · rw [decide_eq_false z, decide_eq_false]
            omega
        show Q (.bl (decide (0 < m))) H'
        rw [e]
        exact q
/-! ### refusals -/
def spChB (K : PySem.W.Frag) (C : Addr) : Sp := fun vs H Q E => ∃ (x : V) (b : Bool), vs = [x] ∧ BX K H x b ∧ (b = true → Q .non H) ∧ (b = false → E (.ref C) none H)
theorem ok_chB {fA fN C : Addr} {fdA fdN : FuncData} {u : Value} (F : FnP K "check_beads" sChB f fd) (B : Bl mg) (kd : mg "KINDS" = some u) (ku : RelV (.int 3) u) (aN : At K mg "is_number" sNum ["value"] fN fdN) (aA : At K mg "are_beads" sAre ["value"] fA fdA) (eB : Ex K mg "BadBeads" C) :
    FnOk P w K mg base (L2.CX P w) 3 f fd ["beads"] (spChB K C) := by
  have GA : FnOk P w K mg base CX0 2 fA fdA ["value"] (spAre K) := ok_are aA.F B kd ku aN
  refine F.ok scChB (fun vs H Q E h => ?_) (fun cdv A outer s H vs Q E hr h => ?_)
  · obtain ⟨x, b, rfl, _⟩ := h
    rfl
  · obtain ⟨x, b, rfl, hx, q1, q2⟩ := h
    refine ⟨_, pss_one (ps_if (pt_not (pt_val (pe_call GA hr (by rfl) aA.g aA.F.kp aA.b .nil pass0 (pa_cons (pv 0) pa_nil))))
      (pss_one (ps_raise rfl (takes_of rfl rfl rfl rfl) (pmk_own PySem.F.excBase_ValueError eB.x eB.g eB.k (raises_own eB.b eB.t) (by rfl)))) pss_nil), ?_⟩
    refine ⟨x, rfl, x, b, rfl, hx, b, rfl, ?_⟩
    cases b with
    | true => exact iteF (q1 rfl)
    | false => exact iteT (q2 rfl)
def spChM (K : PySem.W.Frag) (C : Addr) : Sp := fun vs H Q E => ∃ (p : Addr) (a b c : Int) (y : V) (o : Bool), vs = [.ref p, y] ∧ Tr K H p a b c ∧ Ok3 a b c ∧ YX K H a b c y o ∧ (o = true → Q .non H) ∧ (o = false → E (.ref C) none H)
theorem ok_chM {fM fN fK C : Addr} {fdM fdN fdK : FuncData} {u : Value} (F : FnP K "check_meeting" sChM f fd) (B : Bl mg) (kd : mg "KINDS" = some u) (ku : RelV (.int 3) u) (aN : At K mg "is_number" sNum ["value"] fN fdN) (aK : At K mg "is_kind" sKind ["value"] fK fdK) (aM : At K mg "is_meeting" sIsM ["value"] fM fdM) (eM : Ex K mg "BadMeeting" C) :
    FnOk P w K mg base (L2.CX P w) 4 f fd ["beads", "meeting"] (spChM K C) := by
  have GM : FnOk P w K mg base CX0 3 fM fdM ["value"] (spIsM K) := ok_isM aM.F B kd ku aN aK
  refine F.ok scChM (fun vs H Q E h => ?_) (fun cdv A outer s H vs Q E hr h => ?_)
  · obtain ⟨p, a, b, c, y, o, rfl, _⟩ := h
    rfl
  · obtain ⟨p, a, b, c, y, o, rfl, hT, k3, hy, q1, q2⟩ := h
    refine ⟨_, pss_cons (ps_if (pt_not (pt_val (pe_call GM hr (by rfl) aM.g aM.F.kp aM.b .nil pass0 (pa_cons (pv 1) pa_nil))))
      (pss_one (ps_raise rfl (takes_of rfl rfl rfl rfl) (pmk_own PySem.F.excBase_ValueError eM.x eM.g eM.k (raises_own eM.b eM.t) (by rfl)))) pss_nil)
      (pss_cons (ps_asg (pv 1) (pg_tup (by rfl) (pgs_cons (pg_name (i := 2) scChM.nd rfl (.inl rfl)) (pgs_cons (pg_name (i := 3) scChM.nd rfl (.inl rfl)) pgs_nil))))
      (pss_one (ps_if (PW.pt (pw_or (pt_cmpR op_eq (pe_ix ix_tup (pv 0) (pv 2) (fun _ _ => rfl)) pe_int (nomark _)) (pw_or1 (pt_cmpR op_eq (pe_ix ix_tup (pv 0) (pv 3) (fun _ _ => rfl)) pe_int (nomark _)))))
        (pss_one (ps_raise rfl (takes_of rfl rfl rfl rfl) (pmk_own PySem.F.excBase_ValueError eM.x eM.g eM.k (raises_own eM.b eM.t) (by rfl)))) pss_nil))), ?_⟩
    rcases hy with ⟨hm, rfl⟩ | ⟨qa, l, h, rfl, hq, hlh, rfl⟩
    · exact ⟨y, rfl, y, false, rfl, hm, false, rfl, iteT (q2 rfl)⟩
    · refine ⟨_, rfl, _, true, rfl, MX.of hq hlh, true, rfl, iteF ?_⟩
      refine ⟨_, rfl, qa, _, rfl, hq, rfl, _, _, rfl, _, _, rfl, rfl, ?_⟩
      have b1 : 0 ≤ l ∧ l < 3 := by unfold Mt at hlh; omega
      have b2 : 0 ≤ h ∧ h < 3 := by unfold Mt at hlh; omega
      have p1 : 0 ≤ g3 a b c l := by have z := k3.a0; have z1 := k3.b0; have z2 := k3.c0; unfold g3; split <;> (try split) <;> omega
      have p2 : 0 ≤ g3 a b c h := by have z := k3.a0; have z1 := k3.b0; have z2 := k3.c0; unfold g3; split <;> (try split) <;> omega
      refine ⟨_, rfl, _, rfl, p, _, _, _, rfl, rfl, hT, at3 b1.1 b1.2, rfl, _, rfl, ite2 (fun z => ?_) (fun z => ?_)⟩
      · have z2 : g3 a b c l = 0 := V.int.inj (of_decide_eq_true z)
        refine iteT (q2 ?_)
        cases e : can a b c l h with
        | false => rfl
        | true => have z3 := (can_iff.mp e).1; omega
      · have z2 : ¬ g3 a b c l = 0 := fun e => z (decide_eq_true (congrArg V.int e))
        refine ⟨_, rfl, _, rfl, p, _, _, _, rfl, rfl, hT, at3 b2.1 b2.2, rfl, _, rfl, ite2 (fun z => ?_) (fun z => ?_)⟩
        · have z3 : g3 a b c h = 0 := V.int.inj (of_decide_eq_true z)
          refine q2 ?_
          cases e : can a b c l h with
          | false => rfl
          | true => have z3 := (can_iff.mp e).2; omega
        · have z3 : ¬ g3 a b c h = 0 := fun e => z (decide_eq_true (congrArg V.int e))
          exact q1 (can_iff.mpr ⟨by omega, by omega⟩)
/-! ### the beads behind a meeting -/
def spBeh (K : PySem.W.Frag) : Sp := fun vs H Q _ => ∃ (p q : Addr) (a b c l h m : Int), vs = [.ref p, .ref q, .int m] ∧ Tr K H p a b c ∧ Pr K H q l h ∧ ∀ (H' : Hp) (r : Addr), Same H H' → H r = none → H' r = some (.tup (met a b c l h m)) → Q (.ref r) H'
theorem ok_beh (F : FnP K "behind" sBeh f fd) (B : Bl mg) : FnOk P w K mg base CX0 1 f fd ["beads", "meeting", "made"] (spBeh K) := by
  refine F.ok scBeh (fun vs H Q E h => ?_) (fun cdv A outer s H vs Q E hr h => ?_)
  · obtain ⟨p, q, a, b, c, l, h, m, rfl, _⟩ := h
    rfl
  · obtain ⟨p, q, a, b, c, l, h, m, rfl, hT, hP, k⟩ := h
    refine ⟨_, PSs.nox (pss_one (ps_ret (pe_callTy call_tuple_of (by rfl) B.tup (by decide +kernel) (pa_cons
      (pe_lc (own := [("kind", 3), ("count", 4)]) (g := gTup K 2 (gCons (gName 3) (gCons (gName 4) gNil))) (tt := tYes) (te := tIf (tTest (tOp (rIn K false) (tVar 3) (tVar 1))) (tOp (rI0 fun i j => .int (i - j)) (tVar 4) (tC (.int 1))) (tOp (rI0 fun i j => .int (i + j)) (tVar 4) (tVar 2))) rfl scBeh.nd (pi_enumT (by rfl) B.enu (pa_cons (pv 0) pa_nil)) (blkOk_by (N := ["beads", "meeting", "made", "kind", "count"]) (sc := defScope sBeh) (by decide +kernel))
        (fun _ _ _ _ _ => pg_tup (by rfl) (pgs_cons (pg_name (i := 3) scBeh.nd rfl (.inl rfl)) (pgs_cons (pg_name (i := 4) scBeh.nd rfl (.inl rfl)) pgs_nil)))
        (fun _ _ _ _ _ => pts_nil)
        (fun _ _ _ _ _ => pe_ifExp (pt_cmpR op_in_seq (pv 3) (pv 1) (by rfl)) (pe_op op_sub (pv 4) pe_int) (pe_op op_add (pv 4) (pv 2)))) pa_nil)))), ?_⟩
    refine ⟨_, rfl, p, _, rfl, hT, fun D hD => ?_⟩
    refine lc_it walkEnumT (fun i H' => Same H H' ∧ H' D = some (.lst ((met a b c l h m).take i))) ⟨same_upd hD, upd_same⟩ (fun i H' _ hp => tup_same hp.1 hT) ?_ ?_
    · rintro i x H1 H2 hi ⟨sm, hL⟩ ⟨T, x1, x2, rfl, nT, rfl, e1, e2⟩
      have hi3 : i < 3 := hi
      obtain ⟨n, rfl, hn⟩ := met_at (l := l) (h := h) (m := m) hi3 e2
      have e1' : x1 = .int (i : Int) := (Option.some.inj e1).symm
      subst e1'
      have sT : Same H1 (upd H1 T (.tup [.int (i : Int), .int n])) := same_upd nT
      have hL2 : (upd H1 T (.tup [.int (i : Int), .int n])) D = some (.lst ((met a b c l h m).take i)) := sT _ _ hL
      have hlen : ((met a b c l h m).take i).length < sizeLine := by
        rw [List.length_take]
        exact Nat.lt_of_le_of_lt (Nat.min_le_right _ _) (by show 3 < sizeLine; decide)
      have sm2 : ∀ z : HO, Same H (upd (upd H1 T (.tup [.int (i : Int), .int n])) D z) := fun z => same_new (sm.trans sT) hD
      refine ⟨T, _, rfl, .inl (.inl upd_same), rfl, _, _, rfl, _, _, rfl, rfl, rfl, ?_⟩
      dsimp only [tYes]
      refine iteT ?_
      refine ⟨_, rfl, _, rfl, q, _, rfl, .inr (tup_same (sm.trans sT) hP), rfl, rfl, _, rfl, ite2 (fun z => ?_) (fun z => ?_)⟩
      · refine ⟨_, rfl, _, _, rfl, rfl, _, hL2, hlen, sm2 _, ?_⟩
        rw [upd_same]
        have e : mk (i : Int) n l h m = n - 1 := by
          unfold mk
          rw [if_pos]
          exact inV_pair.mp z
        rw [e] at hn
        rw [← take_next hn]
      · refine ⟨_, rfl, _, rfl, _, _, rfl, rfl, _, hL2, hlen, sm2 _, ?_⟩
        rw [upd_same]
        have e : mk (i : Int) n l h m = n + m := by
          unfold mk
          rw [if_neg]
          exact fun e => z (inV_pair.mpr e)
        rw [e] at hn
        rw [← take_next hn]
    · rintro H1 ⟨sm, hL⟩
      refine ⟨D, _, rfl, .inl ⟨SqL.of hL, fun r hr2 => ?_⟩⟩
      exact k _ r (same_new sm (sm.free hr2)) (sm.free hr2) upd_same
def spMet (K : PySem.W.Frag) (C1 C2 : Addr) (m : Int) : Sp := fun vs H Q E => ∃ x y : V, vs = [x, y] ∧ ((BX K H x false ∧ E (.ref C1) none H) ∨
  (∃ (p : Addr) (a b c : Int), x = .ref p ∧ Tr K H p a b c ∧ Ok3 a b c ∧ YX K H a b c y false ∧ E (.ref C2) none H) ∨
  ∃ (p q : Addr) (a b c l h : Int), x = .ref p ∧ y = .ref q ∧ Tr K H p a b c ∧ Ok3 a b c ∧ Pr K H q l h ∧ Mt l h ∧ can a b c l h = true ∧ ∀ (H' : Hp) (r : Addr), Same H H' → H r = none → H' r = some (.tup (met a b c l h m)) → Q (.ref r) H')
theorem ok_join {fB fM fE C1 C2 : Addr} {fdB fdM fdE : FuncData} (F : FnP K "joined" sJoin f fd) (aB : At K mg "check_beads" sChB ["beads"] fB fdB) (aM : At K mg "check_meeting" sChM ["beads", "meeting"] fM fdM) (aE : At K mg "behind" sBeh ["beads", "meeting", "made"] fE fdE)
    (GB : FnOk P w K mg base (L2.CX P w) 3 fB fdB ["beads"] (spChB K C1)) (GM : FnOk P w K mg base (L2.CX P w) 4 fM fdM ["beads", "meeting"] (spChM K C2)) (GE : FnOk P w K mg base CX0 1 fE fdE ["beads", "meeting", "made"] (spBeh K)) :
    FnOk P w K mg base (L2.CX P w) 5 f fd ["beads", "meeting"] (spMet K C1 C2 1) := by
  refine F.ok scJoin (fun vs H Q E h => ?_) (fun cdv A outer s H vs Q E hr h => ?_)
  · obtain ⟨x, y, rfl, _⟩ := h
    rfl
  · obtain ⟨x, y, rfl, h⟩ := h
    refine ⟨_, pss_cons (ps_expr (pe_call GB (hr.mono (by decide)) (by rfl) aB.g aB.F.kp aB.b .nil (passes_call (takes_of rfl rfl rfl rfl) (fun _ _ _ _ h => h)) (pa_cons (pv 0) pa_nil)))
      (pss_cons (ps_expr (pe_call GM hr (by rfl) aM.g aM.F.kp aM.b .nil (passes_call (takes_of rfl rfl rfl rfl) (fun _ _ _ _ h => h)) (pa_cons (pv 0) (pa_cons (pv 1) pa_nil))))
      (pss_one (ps_ret (pe_call GE (hr.mono (by decide)) (by rfl) aE.g aE.F.kp aE.b .nil pass0 (pa_cons (pv 0) (pa_cons (pv 1) (pa_cons pe_int pa_nil))))))), ?_⟩
    rcases h with ⟨hx, hE⟩ | ⟨p, a, b, c, rfl, hT, k3, hy, hE⟩ | ⟨p, q, a, b, c, l, h, rfl, rfl, hT, k3, hP, hM, hc, k⟩
    · exact ⟨x, rfl, x, false, rfl, hx, fun e => (nomatch e), fun _ => hE⟩
    · refine ⟨_, rfl, _, true, rfl, BX.of hT k3, fun _ => ?_, fun e => (nomatch e)⟩
      exact ⟨_, rfl, y, rfl, p, a, b, c, y, false, rfl, hT, k3, hy, fun e => (nomatch e), fun _ => hE⟩
    · refine ⟨_, rfl, _, true, rfl, BX.of hT k3, fun _ => ?_, fun e => (nomatch e)⟩
      refine ⟨_, rfl, _, rfl, p, a, b, c, _, true, rfl, hT, k3, .inr ⟨q, l, h, rfl, hP, hM, hc.symm⟩, fun _ => ?_, fun e => (nomatch e)⟩
      exact ⟨_, rfl, _, rfl, p, q, a, b, c, l, h, 1, rfl, hT, hP, k⟩
theorem ok_turn {fB fM fE C1 C2 : Addr} {fdB fdM fdE : FuncData} (F : FnP K "turned" sTurn f fd) (aB : At K mg "check_beads" sChB ["beads"] fB fdB) (aM : At K mg "check_meeting" sChM ["beads", "meeting"] fM fdM) (aE : At K mg "behind" sBeh ["beads", "meeting", "made"] fE fdE)
    (GB : FnOk P w K mg base (L2.CX P w) 3 fB fdB ["beads"] (spChB K C1)) (GM : FnOk P w K mg base (L2.CX P w) 4 fM fdM ["beads", "meeting"] (spChM K C2)) (GE : FnOk P w K mg base CX0 1 fE fdE ["beads", "meeting", "made"] (spBeh K)) :
    FnOk P w K mg base (L2.CX P w) 5 f fd ["beads", "meeting"] (spMet K C1 C2 2) := by
  refine F.ok scTurn (fun vs H Q E h => ?_) (fun cdv A outer s H vs Q E hr h => ?_)
  · obtain ⟨x, y, rfl, _⟩ := h
    rfl
  · obtain ⟨x, y, rfl, h⟩ := h
    refine ⟨_, pss_cons (ps_expr (pe_call GB (hr.mono (by decide)) (by rfl) aB.g aB.F.kp aB.b .nil (passes_call (takes_of rfl rfl rfl rfl) (fun _ _ _ _ h => h)) (pa_cons (pv 0) pa_nil)))
      (pss_cons (ps_expr (pe_call GM hr (by rfl) aM.g aM.F.kp aM.b .nil (passes_call (takes_of rfl rfl rfl rfl) (fun _ _ _ _ h => h)) (pa_cons (pv 0) (pa_cons (pv 1) pa_nil))))
      (pss_one (ps_ret (pe_call GE (hr.mono (by decide)) (by rfl) aE.g aE.F.kp aE.b .nil pass0 (pa_cons (pv 0) (pa_cons (pv 1) (pa_cons pe_int pa_nil))))))), ?_⟩
    rcases h with ⟨hx, hE⟩ | ⟨p, a, b, c, rfl, hT, k3, hy, hE⟩ | ⟨p, q, a, b, c, l, h, rfl, rfl, hT, k3, hP, hM, hc, k⟩
    · exact ⟨x, rfl, x, false, rfl, hx, fun e => (nomatch e), fun _ => hE⟩
    · refine ⟨_, rfl, _, true, rfl, BX.of hT k3, fun _ => ?_, fun e => (nomatch e)⟩
      exact ⟨_, rfl, y, rfl, p, a, b, c, y, false, rfl, hT, k3, hy, fun e => (nomatch e), fun _ => hE⟩
    · refine ⟨_, rfl, _, true, rfl, BX.of hT k3, fun _ => ?_, fun e => (nomatch e)⟩
      refine ⟨_, rfl, _, rfl, p, a, b, c, _, true, rfl, hT, k3, .inr ⟨q, l, h, rfl, hP, hM, hc.symm⟩, fun _ => ?_, fun e => (nomatch e)⟩
      exact ⟨_, rfl, _, rfl, p, q, a, b, c, l, h, 2, rfl, hT, hP, k⟩
def spMs (K : PySem.W.Frag) (C1 : Addr) : Sp := fun vs H Q E => ∃ x : V, vs = [x] ∧ ((BX K H x false ∧ E (.ref C1) none H) ∨
  ∃ (p : Addr) (a b c : Int), x = .ref p ∧ Tr K H p a b c ∧ Ok3 a b c ∧ ∀ (H' : Hp) (L : Addr), Same H H' → H L = none → PairsAt H H' L (cans a b c) → Q (.ref L) H')
theorem ok_ms {fB C1 : Addr} {fdB : FuncData} {u : Value} (F : FnP K "meetings" sMeet f fd) (B : Bl mg) (kd : mg "KINDS" = some u) (ku : RelV (.int 3) u) (aB : At K mg "check_beads" sChB ["beads"] fB fdB)
    (GB : FnOk P w K mg base (L2.CX P w) 3 fB fdB ["beads"] (spChB K C1)) :
    FnOk P w K mg base (L2.CX P w) 4 f fd ["beads"] (spMs K C1) := by
  refine F.ok scMeet (fun vs H Q E h => ?_) (fun cdv A outer s H vs Q E hr h => ?_)
  · obtain ⟨x, rfl, _⟩ := h
    rfl
  · obtain ⟨x, rfl, h⟩ := h
    refine ⟨_, pss_cons (ps_expr (pe_call GB hr (by rfl) aB.g aB.F.kp aB.b .nil (passes_call (takes_of rfl rfl rfl rfl) (fun _ _ _ _ h => h)) (pa_cons (pv 0) pa_nil)))
      (pss_one (ps_ret (pe_lc2 (own := [("low", 1), ("high", 2)]) (vs1 := [2]) (g := gName 1) (tt := tYes) (wi1 := iRng2 (tCons (tOp (rI0 fun i j => .int (i + j)) (tVar 1) (tC (.int 1))) (tCons (tC (.int 3)) tNil))) (g1 := gName 2)
        (tt1 := tAnd (tTest (tOp (rI0 fun i j => .bl (decide (j < i))) (tOp (rIxT K) (tVar 0) (tVar 1)) (tC (.int 0)))) (tTest (tOp (rI0 fun i j => .bl (decide (j < i))) (tOp (rIxT K) (tVar 0) (tVar 2)) (tC (.int 0)))))
        (te := tTup (tCons (tVar 1) (tCons (tVar 2) tNil))) rfl scMeet.nd (pi_range1 (by rfl) B.range (pa_cons (pe_glob (by rfl) kd ku) pa_nil)) (blkOk_by (N := ["beads", "low", "high"]) (sc := defScope sMeet) (by decide +kernel)) (by decide)
        (fun _ _ _ _ _ => pg_name (i := 1) scMeet.nd rfl (.inl rfl)) (fun _ _ _ _ _ => pts_nil)
        (fun _ _ _ _ _ => pi_range2 (by rfl) B.range (pa_cons (pe_op op_add (pv 1) pe_int) (pa_cons (pe_glob (by rfl) kd ku) pa_nil)))
        (fun _ _ _ _ _ => pg_name (i := 2) scMeet.nd rfl (.inl rfl))
        (fun _ _ _ _ _ => pts_one (PW.pt (pw_and (pt_cmpR op_gt (pe_ix ix_tup (pv 0) (pv 1) (fun _ _ => rfl)) pe_int (nomark _)) (pw_and1 (pt_cmpR op_gt (pe_ix ix_tup (pv 0) (pv 2) (fun _ _ => rfl)) pe_int (nomark _))))))
        (fun _ _ _ _ _ => pe_tup (pa_cons (pv 1) (pa_cons (pv 2) pa_nil)))))), ?_⟩
    rcases h with ⟨hx, hE⟩ | ⟨p, a, b, c, rfl, hT, k3, k⟩
    · exact ⟨x, rfl, x, false, rfl, hx, fun e => (nomatch e), fun _ => hE⟩
    · refine ⟨_, rfl, _, true, rfl, BX.of hT k3, fun _ => ?_, fun e => (nomatch e)⟩
      refine ⟨3, rfl, by decide, by decide, fun D hD => ?_⟩
      refine ⟨fun i m H' => m = 3 - i ∧ i ≤ 3 ∧ Same H H' ∧ PairsAt H H' D ((allM.take (st3 i)).filter fun q => can a b c q.1 q.2), ⟨3, rfl, by omega, same_upd hD, [], upd_same, .nil⟩, ?_⟩
      rintro i m H1 ⟨rfl, hi, sm, hP⟩
      by_cases hlt : i < 3
      · refine .inr ⟨hlt, fun H' => Same H H' ∧ PairsAt H H' D ((allM.take (st3 (i + 1))).filter fun q => can a b c q.1 q.2), fun H' z => ⟨3 - (i + 1), by omega, rfl, hlt, z⟩, ?_⟩
        rintro x H2 ⟨rfl, rfl⟩
        refine ⟨rfl, ?_⟩
        dsimp only [tYes]
        refine iteT ?_
        refine ⟨_, rfl, _, _, rfl, rfl, _, 3, rfl, by omega, ?_⟩
        have en : (3 - (0 + (i : Int) + 1)).toNat = 2 - i := by omega
        rw [en]
        refine ⟨fun j m H' => m = 2 - i - j ∧ j ≤ 2 - i ∧ Same H H' ∧ PairsAt H H' D ((allM.take (st3 i + j)).filter fun q => can a b c q.1 q.2), ⟨2 - i, rfl, Nat.zero_le _, sm, hP⟩, ?_⟩
        rintro j m H3 ⟨rfl, hj, sm3, hP3⟩
        by_cases hjl : j < 2 - i
        · refine .inr ⟨hjl, fun H' => Same H H' ∧ PairsAt H H' D ((allM.take (st3 i + j + 1)).filter fun q => can a b c q.1 q.2), fun H' z => ⟨2 - i - (j + 1), by omega, rfl, hjl, z⟩, ?_⟩
          rintro x H4 ⟨rfl, rfl⟩
          refine ⟨rfl, ?_⟩
          have hTs : Tr K H4 p a b c := hT.same sm3
          have e1 : (0 : Int) + (i : Int) = (i : Int) := by omega
          have hat := allM_at hlt hjl
          have hstep := cans_step (a := a) (b := b) (c := c) hat
          have no : ¬ can a b c (i : Int) ((i : Int) + 1 + (j : Int)) = true → Same H H4 ∧ PairsAt H H4 D ((allM.take (st3 i + j + 1)).filter fun q => can a b c q.1 q.2) := fun z => by
            rw [hstep, if_neg z, List.append_nil]
            exact ⟨sm3, hP3⟩
          refine ⟨_, rfl, _, rfl, p, _, _, _, rfl, rfl, hTs, at3 (k := 0 + (i : Int)) (by omega) (by omega), _, _, rfl, rfl, _, rfl, ite2 (fun z => ?_) (fun z => ?_)⟩
          · have z' : 0 < g3 a b c (i : Int) := by rw [← e1]; exact of_decide_eq_true z
            refine ⟨_, rfl, _, rfl, p, _, _, _, rfl, rfl, hTs, at3 (k := 0 + (i : Int) + 1 + (j : Int)) (by omega) (by omega), _, _, rfl, rfl, _, rfl, ite2 (fun z2 => ?_) (fun z2 => ?_)⟩
            · have z2' : 0 < g3 a b c ((i : Int) + 1 + (j : Int)) := by
                have q := of_decide_eq_true z2
                rw [e1] at q
                exact q
              refine ⟨_, rfl, _, rfl, (by show 2 ≤ sizeLine; decide), fun r hr2 => ?_⟩
              obtain ⟨acc, h1, h2, h3⟩ := hP3.add (p := r) (l := 0 + (i : Int)) (h := 0 + (i : Int) + 1 + (j : Int)) hr2 sm3
              refine ⟨acc, h1, ?_, same_new (sm3.trans (same_upd hr2)) hD, ?_⟩
              · rw [h2]
                refine Nat.lt_of_le_of_lt (List.length_filter_le _ _) ?_
                rw [List.length_take]
                exact Nat.lt_of_le_of_lt (Nat.min_le_right _ _) (by decide)
              · rw [hstep, if_pos (can_iff.mpr ⟨z', z2'⟩)]
                have ep : ((0 + (i : Int), 0 + (i : Int) + 1 + (j : Int)) : Int × Int) = ((i : Int), (i : Int) + 1 + (j : Int)) := by rw [e1]
                rw [ep] at h3
                exact h3
            · refine no fun q => z2 ?_
              have q2 := (can_iff.mp q).2
              rw [← e1] at q2
              exact decide_eq_true q2
          · refine no fun q => z ?_
            have q2 := (can_iff.mp q).1
            rw [← e1] at q2
            exact decide_eq_true q2
        · have ej : j = 2 - i := by omega
          subst ej
          refine .inl ⟨Nat.le_refl _, sm3, ?_⟩
          rw [← st3_next hlt]
          exact hP3
      · have e : i = 3 := by omega
        subst e
        exact .inl ⟨Nat.le_refl _, k H1 D sm hD hP⟩
end

/-! ### the helpers of the law -/
abbrev sLn : Stmt := topS 17
abbrev sLb : Stmt := topS 18
abbrev sLc : Stmt := topS 19
theorem scLn : FnScope ["_law_cell", "_law_at", "_law_whole", "_law_blend", "_law_more"] ["_law_cell", "_law_at", "_law_whole"] (defScope sLn) := ⟨rfl, rfl, rfl, by decide +kernel, rfl, by decide +kernel, by decide +kernel⟩
theorem scLb : FnScope ["_law_script", "_law_by", "_law_wide", "_law_cells", "_law_whole", "_law_found", "_law_kind", "_law_number_here"] ["_law_script", "_law_by", "_law_wide"] (defScope sLb) := ⟨rfl, rfl, rfl, by decide +kernel, rfl, by decide +kernel, by decide +kernel⟩
theorem scLc : FnScope ["_law_beads_here", "_law_pair"] ["_law_beads_here"] (defScope sLc) := ⟨rfl, rfl, rfl, by decide +kernel, rfl, by decide +kernel, by decide +kernel⟩
section
variable {P : Program} {w : World} {K : PySem.W.Frag} {mg : Str → Option Value} {base : Heap} {f : Addr} {fd : FuncData}
/-- a number, whichever -/
def spLn : Sp := fun vs H Q _ => ∃ (c a s : Int) (n : Nat), vs = [.int c, .int a, .int s] ∧ n ≤ 2000000 ∧ Sz n c ∧ 0 ≤ a ∧ a < 100 ∧ ∀ r : Int, Q (.int r) H
theorem ok_ln (F : FnP K "_law_number" sLn f fd) : FnOk P w K mg base CX0 1 f fd ["_law_cell", "_law_at", "_law_whole"] spLn := by
  refine F.ok scLn (fun vs H Q E h => ?_) (fun cdv A outer s H vs Q E hr h => ?_)
  · obtain ⟨c, a, s, n, rfl, _⟩ := h
    rfl
  · obtain ⟨c, a, s1, n, rfl, hn, hc, a0, a1, k⟩ := h
    refine ⟨_, PSs.nox (pss_cons (ps_if (pt_cmpR op_ge (pv 0) (pe_op op_pow pe_int pe_int) (nomark _)) (pss_one (ps_ret (pe_op op_fdivW (pv 0) (pe_op op_add pe_int (pe_op op_mod (pv 1) pe_int))))) pss_nil)
      (pss_cons (ps_set (i := 3) scLn.nd rfl (.inl rfl) (pe_op op_mod (pe_op op_add (pe_op op_mulX (pe_op op_add (pv 0) (pe_op op_mulX pe_int (pv 1))) pe_int) (pv 2)) pe_int))
      (pss_cons (ps_set (i := 4) scLn.nd rfl (.inl rfl) (pe_op op_mulX (pv 3) (pe_op op_add (pe_op op_add (pv 0) (pe_op op_mulX pe_int (pv 1))) pe_int)))
      (pss_one (ps_ret (pe_op op_fdivW (pe_op op_mulX (pe_op op_mulX (pv 4) (pe_op op_add (pe_op op_add (pv 3) (pv 0)) pe_int)) (pe_op op_add (pe_op op_mulX (pv 3) (pv 3)) pe_int)) (pe_op op_add pe_int (pv 1)))))))), ?_⟩
    have zc : Sz (n + 64) c := hc.mono (by omega)
    have za : Sz 7 a := .small (by show (-128 : Int) < a; omega) (by show a < (128 : Int); omega)
    refine ⟨_, rfl, _, _, rfl, rfl, ⟨by decide, by decide, by decide⟩, _, _, rfl, rfl, _, rfl, ite2 (fun _ => ?_) (fun _ => ?_)⟩
    · have h7 : 0 ≤ a % 7 := Int.emod_nonneg a (by decide)
      have h8 : a % 7 < 7 := Int.emod_lt_of_pos a (by decide)
      refine ⟨_, rfl, _, rfl, _, _, rfl, rfl, (by show (0 : Int) < 7; decide), _, _, rfl, rfl, _, _, rfl, rfl, wide_div (b := 10) (by omega) (by show (1 + a % 7).natAbs < 1024; omega) (by decide) (by decide), k _⟩
    · have z977 : Sz 10 977 := .small (by decide) (by decide)
      have z482 : Sz 16 48271 := .small (by decide) (by decide)
      have z31 : Sz 5 31 := .small (by decide) (by decide)
      have z1 : Sz (n + 64) (977 * a) := (z977.mul za).mono (by omega)
      refine ⟨_, rfl, _, rfl, _, _, rfl, rfl, Sz.cmul z977 za (by decide) (by decide) (by decide), _, _, rfl, rfl, _, _, rfl, rfl, Sz.cmul (zc.add z1) z482 (by omega) (by decide) (by omega), _, rfl, _, _, rfl, rfl, _, _, rfl, rfl, (by show (0 : Int) < 2147483647; decide), ?_⟩
      have key : ∃ b : Int, ((c + 977 * a) * 48271 + s1) % 2147483647 = b := ⟨_, rfl⟩
      obtain ⟨b, hb⟩ := key
      have b0 : 0 ≤ b := by rw [← hb]; exact Int.emod_nonneg _ (by decide)
      have b1 : b < 2147483647 := by rw [← hb]; exact Int.emod_lt_of_pos _ (by decide)
      dsimp only
      rw [hb]
      have zb : Sz 31 b := .small (by show (-2147483648 : Int) < b; omega) (by show b < (2147483648 : Int); omega)
      have z2 : Sz (n + 64) (31 * a) := (z31.mul za).mono (by omega)
      have z7 : Sz (n + 65) 7 := Sz.mono (n := 3) (.small (by decide) (by decide)) (by omega)
      have z3 : Sz (n + 66) (c + 31 * a + 7) := (zc.add z2).add z7
      refine ⟨_, rfl, _, rfl, _, rfl, _, _, rfl, rfl, Sz.cmul z31 za (by decide) (by decide) (by decide), _, _, rfl, rfl, _, _, rfl, rfl, _, _, rfl, rfl, Sz.cmul zb z3 (by decide) (by omega) (by omega), ?_⟩
      have z4 : Sz (n + 97) (b * (c + 31 * a + 7)) := (zb.mul z3).mono (by omega)
      have z5 : Sz (n + 65) 5 := Sz.mono (n := 3) (.small (by decide) (by decide)) (by omega)
      have z6 : Sz (n + 66) (b + c + 5) := ((zb.mono (by omega)).add zc).add z5
      have z8 : Sz 62 (b * b) := zb.mul zb
      have z9 : Sz 62 11 := Sz.mono (n := 4) (.small (by decide) (by decide)) (by decide)
      refine ⟨_, rfl, _, rfl, _, rfl, _, _, rfl, rfl, _, _, rfl, rfl, _, _, rfl, rfl, Sz.cmul z4 z6 (by omega) (by omega) (by omega), _, rfl, _, rfl, _, _, rfl, rfl, Sz.cmul zb zb (by decide) (by decide) (by decide), _, _, rfl, rfl, _, _, rfl, rfl, Sz.cmul (z4.mul z6) (z8.add z9) (by omega) (by decide) (by omega), ?_⟩
      refine ⟨_, rfl, _, _, rfl, rfl, _, _, rfl, rfl, wide_div (b := 11) (by omega) (by show (1009 + a).natAbs < 2048; omega) (by decide) (by decide), k _⟩
/-- the beads by the cells -/
def Few (wd a b c : Int) : Prop := (a < wd ∧ b < wd ∧ c < wd) ∨ a + b + c ≤ wd
def spLb (K : PySem.W.Frag) : Sp := fun vs H Q _ => ∃ (p : Addr) (ns : List Int) (by_ wd : Int) (n : Nat), vs = [.ref p, .int by_, .int wd] ∧ SqL K H p (ns.map V.int) ∧ ns.length ≤ 63 ∧ n ≤ 1900000 ∧ (∀ z ∈ ns, Sz n z) ∧ 0 ≤ by_ ∧ by_ < 10 ∧ 0 < wd ∧
  ∀ (H' : Hp) (r : Addr) (a b c : Int), Same H H' → H r = none → H' r = some (.tup [.int a, .int b, .int c]) → Ok3 a b c → Few wd a b c → Q (.ref r) H'
theorem ok_lb {fN : Addr} {fdN : FuncData} (F : FnP K "_law_beads" sLb f fd) (B : Bl mg) (aN : At K mg "_law_number" sLn ["_law_cell", "_law_at", "_law_whole"] fN fdN) : FnOk P w K mg base CX0 2 f fd ["_law_script", "_law_by", "_law_wide"] (spLb K) := by
  have GN : FnOk P w K mg base CX0 1 fN fdN ["_law_cell", "_law_at", "_law_whole"] spLn := ok_ln aN.F
  refine F.ok scLb (fun vs H Q E h => ?_) (fun cdv A outer s H vs Q E hr h => ?_)
  · obtain ⟨p, ns, by_, wd, n, rfl, _⟩ := h
    rfl
  · obtain ⟨p, ns, by_, wd, n, rfl, hS, hlen, hn, hz, y0, y1, w0, k⟩ := h
    refine ⟨_, PSs.nox (pss_cons (ps_set (i := 3) scLb.nd rfl (.inl rfl) (pe_ifExp (pt_cmpR (op_neD hr.units) (pv 0) (pe_lst pa_nil) (nomark _)) (pe_slice sl_list (pv 0) po_none (po_some pe_int)) (pe_lst (pa_cons pe_int pa_nil))))
      (pss_cons (ps_set (i := 4) scLb.nd rfl (.inl rfl) (pe_op op_add (pe_callB call_abs (by rfl) B.abs (by decide +kernel) (pa_cons (pe_callB (cr_sum rfl) (by rfl) B.sum (by decide +kernel) (pa_cons (pv 3) pa_nil)) pa_nil)) (pv 1)))
      (pss_cons (ps_set (i := 5) scLb.nd rfl (.inl rfl) (pe_lst pa_nil))
      (pss_cons (ps_for PassesOwn.never rfl (pi_range1 (by rfl) B.range (pa_cons pe_int pa_nil)) (pg_name (i := 6) scLb.nd rfl (.inl rfl))
        (pss_cons (ps_set (i := 7) scLb.nd rfl (.inl rfl) (pe_op op_fdivW (pe_call GN hr (by rfl) aN.g aN.F.kp aN.b .nil pass0 (pa_cons (pe_ix ix_list (pv 3) (pe_op op_mod (pe_op op_add (pv 6) (pv 1)) (pe_callB call_len_seq (by rfl) B.len PySem.boot_len (pa_cons (pv 3) pa_nil))) (fun _ _ => rfl))
            (pa_cons (pe_op op_add (pv 6) (pe_op op_mul pe_int (pv 1))) (pa_cons (pv 4) pa_nil)))) pe_int))
        (pss_one (ps_expr (pe_bm PySem.F.plainAttrs_list PySem.F.slot_list_append PySem.F.type_list_append mt_append (pv 5) (pa_cons
          (pe_ifExp (pt_cmpR op_eq (pe_op op_mod (pe_op op_fdivW (pv 7) pe_int) pe_int) pe_int (nomark _)) pe_int (pe_op op_mod (pv 7) (pv 2))) pa_nil))))))
      (pss_cons (ps_if (pt_cmpR (op_eqD hr.units) (pv 5) (pe_lst (pa_cons pe_int (pa_cons pe_int (pa_cons pe_int pa_nil)))) (nomark _))
        (pss_one (ps_asg (pe_op op_add pe_int (pe_op op_mod (pv 4) (pv 2))) (pg_sub (pv 5) (pe_op op_mod (pv 4) pe_int) set_list))) pss_nil)
      (pss_one (ps_ret (pe_tup (pa_cons (pe_ix ix_list (pv 5) pe_int (fun _ _ => rfl)) (pa_cons (pe_ix ix_list (pv 5) pe_int (fun _ _ => rfl)) (pa_cons (pe_ix ix_list (pv 5) pe_int (fun _ _ => rfl)) pa_nil))))))))))), ?_⟩
    refine rd_cells rfl hS hlen hz fun H1 c ms s1 hc1 hc hne hml hmz => ?_
    have hcL : SqL K H1 c (ms.map V.int) := .inl (.inl hc)
    have hpos : 0 < (ms.length : Int) := by
      cases ms with
      | nil => exact absurd rfl hne
      | cons _ _ => rw [List.length_cons]; omega
    refine ⟨_, rfl, c, ms, rfl, hcL, _, rfl, _, rfl, _, _, rfl, rfl, ?_⟩
    dsimp only
    obtain ⟨wh, hwh⟩ : ∃ wh : Int, (if ms.sum < 0 then -ms.sum else ms.sum) + by_ = wh := ⟨_, rfl⟩
    rw [hwh]
    refine ⟨Nat.zero_le _, fun fo hfo => ?_⟩
    refine ⟨3, rfl, by decide, by decide, for_range (lo := 0) (n := 3) (fun i σ H' => (∃ v6 v7, σ = [some (.ref p), some (.int by_), some (.int wd), some (.ref c), some (.int wh), some (.ref fo), v6, v7]) ∧ Same H1 H' ∧ ∃ xs : List Int, xs.length = i ∧ (∀ x ∈ xs, 0 ≤ x ∧ x < wd) ∧ H' fo = some (.lst (xs.map V.int)))
      ⟨⟨none, none, rfl⟩, same_upd hfo, [], rfl, fun _ h => (nomatch h), upd_same⟩ ?_ ?_⟩
    · rintro i σ H2 hi ⟨⟨v6, v7, rfl⟩, sm, xs, hxl, hxs, hX⟩
      have m0 : 0 ≤ ((0 : Int) + (i : Int) + by_) % (ms.length : Int) := Int.emod_nonneg _ (by omega)
      have m1 : ((0 : Int) + (i : Int) + by_) % (ms.length : Int) < (ms.length : Int) := Int.emod_lt_of_pos _ hpos
      obtain ⟨z, hzm, hza⟩ := at_int (ms := ms) m0 m1
      have hcL2 : SqL K H2 c (ms.map V.int) := sm.seq hcL
      refine ⟨_, rfl, _, rfl, _, rfl, _, _, rfl, rfl, _, rfl, c, _, rfl, .inl hcL2, _, _, rfl, rfl, (by rw [List.length_map]; exact hpos), c, _, _, _, rfl, rfl, hcL2, (by rw [List.length_map]; exact hza), ?_⟩
      refine ⟨_, rfl, _, rfl, _, _, rfl, rfl, .inl ⟨by decide, by decide⟩, _, _, rfl, rfl, _, rfl, ?_⟩
      refine ⟨z, _, wh, n + 3, rfl, by omega, hmz z hzm, by omega, by omega, fun r => ?_⟩
      refine ⟨_, _, rfl, rfl, wide_div (b := 2) (by decide) (by decide) (by decide) (by decide), ?_⟩
      refine ⟨_, rfl, .inl ⟨rfl, _, SqL.of hX⟩, ?_⟩
      have hl' : (xs.map V.int).length < sizeLine := by
        rw [List.length_map, hxl]
        exact Nat.lt_of_lt_of_le hi (by decide)
      have step : ∀ y : Int, 0 ≤ y → y < wd → Same H1 (upd H2 fo (.lst (xs.map V.int ++ [V.int y]))) ∧ ∃ xs' : List Int, xs'.length = i + 1 ∧ (∀ x ∈ xs', 0 ≤ x ∧ x < wd) ∧ (upd H2 fo (.lst (xs.map V.int ++ [V.int y]))) fo = some (.lst (xs'.map V.int)) := fun y q0 q1 => by
        refine ⟨same_new sm hfo, xs ++ [y], by rw [List.length_append, hxl]; rfl, fun x hx => ?_, by rw [upd_same, List.map_append]; rfl⟩
        rcases List.mem_append.mp hx with hx | hx
        · exact hxs x hx
        · obtain rfl := List.mem_singleton.mp hx
          exact ⟨q0, q1⟩
      refine ⟨_, rfl, _, _, rfl, rfl, wide_div (b := 3) (by decide) (by decide) (by decide) (by decide), _, _, rfl, rfl, (by show (0 : Int) < 5; decide), rfl, _, rfl, ite2 (fun _ => ?_) (fun _ => ?_)⟩
      · exact ⟨fo, _, _, rfl, rfl, hX, hl', ⟨_, _, rfl⟩, step 0 (by decide) w0⟩
      · exact ⟨_, rfl, _, rfl, _, _, rfl, rfl, w0, fo, _, _, rfl, rfl, hX, hl', ⟨_, _, rfl⟩, step _ (Int.emod_nonneg _ (by omega)) (Int.emod_lt_of_pos _ w0)⟩
    · rintro σ H2 ⟨⟨v6, v7, rfl⟩, sm, xs, hxl, hxs, hX⟩
      have smH : Same H H2 := s1.trans sm
      obtain ⟨x0, x1, x2, rfl⟩ : ∃ x0 x1 x2, xs = [x0, x1, x2] := by
        match xs, hxl with
        | [a, b, c], _ => exact ⟨a, b, c, rfl⟩
      have g0 := hxs x0 (by simp)
      have g1 := hxs x1 (by simp)
      have g2 := hxs x2 (by simp)
      refine ⟨_, rfl, (by show 3 ≤ sizeLine; decide), fun e he => ?_⟩
      have nfe : fo ≠ e := ne_of_none hX he
      have se : Same H2 (upd H2 e (.lst [V.int 0, V.int 0, V.int 0])) := same_upd he
      refine ⟨.list ([x0, x1, x2].map PyData.int), .list (([0, 0, 0] : List Int).map PyData.int), .lst (.inl (.inl (se _ _ hX))) (dpInts _), .lst (.inl (.inl upd_same)) (dpInts [0, 0, 0]), shaped_ints _, shaped_ints _, _, rfl, ?_⟩
      have ee : PyData.eqv (.list ([x0, x1, x2].map PyData.int)) (.list (([0, 0, 0] : List Int).map PyData.int)) = decide ([x0, x1, x2] = [0, 0, 0]) := by
        rw [PyData.eqv]
        exact eqvInts _ _
      rw [ee]
      refine ite2 (fun z => ?_) (fun z => ?_)
      · have z2 : [x0, x1, x2] = [0, 0, 0] := of_decide_eq_true z
        injection z2 with e0 z2
        injection z2 with e1 z2
        injection z2 with e2 z2
        subst e0 e1 e2
        have q0 : 0 ≤ wh % wd := Int.emod_nonneg _ (by omega)
        have q1 : wh % wd < wd := Int.emod_lt_of_pos _ w0
        have t0 : 0 ≤ wh % 3 := Int.emod_nonneg _ (by decide)
        have t1 : wh % 3 < 3 := Int.emod_lt_of_pos _ (by decide)
        refine ⟨_, rfl, _, rfl, _, _, rfl, rfl, w0, _, _, rfl, rfl, _, rfl, _, rfl, _, _, rfl, rfl, (by show (0 : Int) < 3; decide), fo, _, _, (wh % 3).toNat, rfl, rfl, se _ _ hX, ?_, ?_⟩
        · show ixN 3 (wh % 3) = some (wh % 3).toNat
          unfold ixN
          rw [if_pos t0, if_pos (by omega)]
        · have key : ∀ (y0 y1 y2 : Int) (H3 : Hp), H3 = upd (upd H2 e (.lst [V.int 0, V.int 0, V.int 0])) fo (.lst [.int y0, .int y1, .int y2]) → 0 ≤ y0 → 0 ≤ y1 → 0 ≤ y2 → 0 < y0 + y1 + y2 → y0 + y1 + y2 ≤ wd →
              tRet (tTup (tCons (tOp (rIxL K) (tVar 5) (tC (.int 0))) (tCons (tOp (rIxL K) (tVar 5) (tC (.int 1))) (tCons (tOp (rIxL K) (tVar 5) (tC (.int 2))) tNil)))) { nx := fun _ H' => Q .non H', rt := Q } [some (.ref p), some (.int by_), some (.int wd), some (.ref c), some (.int wh), some (.ref fo), v6, v7] H3 := fun y0 y1 y2 H3 eH b0 b1 b2 b3 b4 => by
            have hL : SqL K H3 fo [.int y0, .int y1, .int y2] := by rw [eH]; exact .inl (.inl upd_same)
            refine ⟨_, rfl, fo, _, _, _, rfl, rfl, hL, at3 (by decide) (by decide), _, rfl, fo, _, _, _, rfl, rfl, hL, at3 (by decide) (by decide), _, rfl, fo, _, _, _, rfl, rfl, hL, at3 (by decide) (by decide), (by show 3 ≤ sizeLine; decide), fun r hr3 => ?_⟩
            have sH3 : Same H H3 := by rw [eH]; exact same_new (smH.trans se) (s1.free hfo)
            exact k _ r y0 y1 y2 (sH3.trans (same_upd hr3)) (sH3.free hr3) upd_same ⟨b0, b1, b2, b3⟩ (.inr b4)
          have e3 : wh % 3 = 0 ∨ wh % 3 = 1 ∨ wh % 3 = 2 := by omega
          rcases e3 with e3 | e3 | e3
          · rw [e3]
            exact key (1 + wh % wd) 0 0 _ rfl (by omega) (by omega) (by omega) (by omega) (by omega)
          · rw [e3]
            exact key 0 (1 + wh % wd) 0 _ rfl (by omega) (by omega) (by omega) (by omega) (by omega)
          · rw [e3]
            exact key 0 0 (1 + wh % wd) _ rfl (by omega) (by omega) (by omega) (by omega) (by omega)
      · have z2 : ¬ (x0 = 0 ∧ x1 = 0 ∧ x2 = 0) := fun ⟨a, b, c⟩ => z (by rw [a, b, c]; rfl)
        have hL : SqL K (upd H2 e (.lst [V.int 0, V.int 0, V.int 0])) fo [.int x0, .int x1, .int x2] := .inl (.inl (se _ _ hX))
        refine ⟨_, rfl, fo, _, _, _, rfl, rfl, hL, at3 (by decide) (by decide), _, rfl, fo, _, _, _, rfl, rfl, hL, at3 (by decide) (by decide), _, rfl, fo, _, _, _, rfl, rfl, hL, at3 (by decide) (by decide), (by show 3 ≤ sizeLine; decide), fun r hr3 => ?_⟩
        exact k _ r x0 x1 x2 ((smH.trans se).trans (same_upd hr3)) ((smH.trans se).free hr3) upd_same ⟨g0.1, g1.1, g2.1, by omega⟩ (.inl ⟨g0.2, g1.2, g2.2⟩)
/-- the meetings that can be, by the law -/
def spLc (K : PySem.W.Frag) : Sp := fun vs H Q _ => ∃ (p : Addr) (a b c : Int), vs = [.ref p] ∧ Tr K H p a b c ∧ ∀ (H' : Hp) (L : Addr), Same H H' → H L = none → PairsAt H H' L (cans a b c) → Q (.ref L) H'
theorem ok_lc (F : FnP K "_law_can" sLc f fd) : FnOk P w K mg base CX0 1 f fd ["_law_beads_here"] (spLc K) := by
  refine F.ok scLc (fun vs H Q E h => ?_) (fun cdv A outer s H vs Q E hr h => ?_)
  · obtain ⟨p, a, b, c, rfl, _⟩ := h
    rfl
  · obtain ⟨p, a, b, c, rfl, hT, k⟩ := h
    refine ⟨_, PSs.nox (pss_one (ps_ret (pe_lc (own := [("_law_pair", 1)]) (g := gName 1)
        (tt := tAnd (tTest (tOp (rI0 fun i j => .bl (decide (j < i))) (tOp (rIxT K) (tVar 0) (tOp (rIxT K) (tVar 1) (tC (.int 0)))) (tC (.int 0)))) (tTest (tOp (rI0 fun i j => .bl (decide (j < i))) (tOp (rIxT K) (tVar 0) (tOp (rIxT K) (tVar 1) (tC (.int 1)))) (tC (.int 0)))))
        (te := tVar 1) rfl scLc.nd (pi_list (pe_lst (pa_cons (pe_tup (pa_cons pe_int (pa_cons pe_int pa_nil))) (pa_cons (pe_tup (pa_cons pe_int (pa_cons pe_int pa_nil))) (pa_cons (pe_tup (pa_cons pe_int (pa_cons pe_int pa_nil))) pa_nil)))))
        (blkOk_by (N := ["_law_beads_here", "_law_pair"]) (sc := defScope sLc) (by decide +kernel))
        (fun _ _ _ _ _ => pg_name (i := 1) scLc.nd rfl (.inl rfl))
        (fun _ _ _ _ _ => pts_one (PW.pt (pw_and (pt_cmpR op_gt (pe_ix ix_tup (pv 0) (pe_ix ix_tup (pv 1) pe_int (fun _ _ => rfl)) (fun _ _ => rfl)) pe_int (nomark _)) (pw_and1 (pt_cmpR op_gt (pe_ix ix_tup (pv 0) (pe_ix ix_tup (pv 1) pe_int (fun _ _ => rfl)) (fun _ _ => rfl)) pe_int (nomark _))))))
        (fun _ _ _ _ _ => pv 1)))), ?_⟩
    refine ⟨(by show 2 ≤ sizeLine; decide), fun t0 h0 => ⟨(by show 2 ≤ sizeLine; decide), fun t1 h1 => ⟨(by show 2 ≤ sizeLine; decide), fun t2 h2 => ⟨(by show 3 ≤ sizeLine; decide), fun l hl => ?_⟩⟩⟩⟩
    have s0 : Same H (upd H t0 (.tup [.int 0, .int 1])) := same_upd h0
    have s1 := s0.trans (same_upd (o := .tup [.int 0, .int 2]) h1)
    have s2 := s1.trans (same_upd (o := .tup [.int 1, .int 2]) h2)
    have s3 := s2.trans (same_upd (o := .lst [.ref t0, .ref t1, .ref t2]) hl)
    have f1 : H t1 = none := s0.free h1
    have f2 : H t2 = none := s1.free h2
    have a0 := (same_upd (o := .tup [.int 0, .int 2]) h1) _ _ (upd_same (H := H) (a := t0) (o := .tup [.int 0, .int 1]))
    have a0 := (same_upd (o := .tup [.int 1, .int 2]) h2) _ _ a0
    have a0 := (same_upd (o := .lst [.ref t0, .ref t1, .ref t2]) hl) _ _ a0
    have a1 := (same_upd (o := .tup [.int 1, .int 2]) h2) _ _ (upd_same (H := upd H t0 (.tup [.int 0, .int 1])) (a := t1) (o := .tup [.int 0, .int 2]))
    have a1 := (same_upd (o := .lst [.ref t0, .ref t1, .ref t2]) hl) _ _ a1
    have a2 := (same_upd (o := .lst [.ref t0, .ref t1, .ref t2]) hl) _ _ (upd_same (H := upd (upd H t0 (.tup [.int 0, .int 1])) t1 (.tup [.int 0, .int 2])) (a := t2) (o := .tup [.int 1, .int 2]))
    generalize hHm : upd (upd (upd (upd H t0 (.tup [.int 0, .int 1])) t1 (.tup [.int 0, .int 2])) t2 (.tup [.int 1, .int 2])) l (.lst [.ref t0, .ref t1, .ref t2]) = Hm at s3 a0 a1 a2
    have al : Hm l = some (.lst [.ref t0, .ref t1, .ref t2]) := by rw [← hHm]; exact upd_same
    refine ⟨l, rfl, ⟨[.ref t0, .ref t1, .ref t2], .inl (.inl al)⟩, fun D hD => ?_⟩
    refine lc_list (K := K) (a := l) (xs := [.ref t0, .ref t1, .ref t2]) (fun i H' => Same Hm H' ∧ ∃ rs : List Addr, H' D = some (.lst (rs.map V.ref)) ∧ Paired (fun r (q : Int × Int) => H r = none ∧ Hm r = some (.tup [.int q.1, .int q.2])) rs ((allM.take i).filter fun q => can a b c q.1 q.2))
      ⟨same_upd hD, [], upd_same, .nil⟩ (fun i H' _ h => .inl (.inl (h.1 _ _ al))) ?_ ?_
    · rintro i x H1 hx ⟨sm, rs, hL, hp⟩
      obtain ⟨t, q1, q2, rfl, ht, hn, hall⟩ : ∃ (t : Addr) (q1 q2 : Int), x = .ref t ∧ Hm t = some (.tup [.int q1, .int q2]) ∧ H t = none ∧ allM[i]? = some (q1, q2) := by
        match i, hx with
        | 0, hx => exact ⟨t0, 0, 1, (Option.some.inj hx).symm, a0, h0, rfl⟩
        | 1, hx => exact ⟨t1, 0, 2, (Option.some.inj hx).symm, a1, f1, rfl⟩
        | 2, hx => exact ⟨t2, 1, 2, (Option.some.inj hx).symm, a2, f2, rfl⟩
        | n + 3, hx => simp at hx
      have hM : Mt q1 q2 := by
        have hm : (q1, q2) ∈ allM := List.mem_of_getElem? hall
        simp only [allM, List.mem_cons, Prod.mk.injEq, List.mem_nil_iff, or_false] at hm
        unfold Mt
        exact hm
      have b1 : 0 ≤ q1 ∧ q1 < 3 := by unfold Mt at hM; omega
      have b2 : 0 ≤ q2 ∧ q2 < 3 := by unfold Mt at hM; omega
      have hTs : Tr K H1 p a b c := (hT.same s3).same sm
      have hqs : SqT K H1 t [.int q1, .int q2] := .inl (.inl (sm _ _ ht))
      have hstep := cans_step (a := a) (b := b) (c := c) hall
      have no : ¬ can a b c q1 q2 = true → Same Hm H1 ∧ ∃ rs : List Addr, H1 D = some (.lst (rs.map V.ref)) ∧ Paired (fun r (q : Int × Int) => H r = none ∧ Hm r = some (.tup [.int q.1, .int q.2])) rs ((allM.take (i + 1)).filter fun q => can a b c q.1 q.2) := fun z => by
        rw [hstep, if_neg z, List.append_nil]
        exact ⟨sm, rs, hL, hp⟩
      refine ⟨rfl, ?_⟩
      refine ⟨_, rfl, _, rfl, t, _, _, _, rfl, rfl, hqs, rfl, p, _, _, _, rfl, rfl, hTs, at3 b1.1 b1.2, _, _, rfl, rfl, _, rfl, ite2 (fun z => ?_) (fun z => no fun q => z (decide_eq_true (can_iff.mp q).1))⟩
      refine ⟨_, rfl, _, rfl, t, _, _, _, rfl, rfl, hqs, rfl, p, _, _, _, rfl, rfl, hTs, at3 b2.1 b2.2, _, _, rfl, rfl, _, rfl, ite2 (fun z2 => ?_) (fun z2 => no fun q => z2 (decide_eq_true (can_iff.mp q).2))⟩
      refine ⟨_, rfl, _, hL, ?_, same_new sm hD, rs ++ [t], by rw [upd_same, List.map_append]; rfl, ?_⟩
      · rw [List.length_map, Paired.length hp]
        refine Nat.lt_of_le_of_lt (List.length_filter_le _ _) ?_
        rw [List.length_take]
        exact Nat.lt_of_le_of_lt (Nat.min_le_right _ _) (by decide)
      · rw [hstep, if_pos (can_iff.mpr ⟨of_decide_eq_true z, of_decide_eq_true z2⟩)]
        exact Paired.snoc ⟨hn, ht⟩ hp
    · rintro H1 ⟨sm, rs, hL, hp⟩
      exact k H1 D (s3.trans sm) (s3.free hD) ⟨rs, hL, Paired.mono2 (fun r q z => ⟨z.1, sm _ _ z.2⟩) hp⟩
end

abbrev sLm : Stmt := topS 20
theorem scLm : FnScope ["_law_beads_here", "_law_pair", "_law_more", "_law_found"] ["_law_beads_here", "_law_pair", "_law_more"] (defScope sLm) := ⟨rfl, rfl, rfl, by decide +kernel, rfl, by decide +kernel, by decide +kernel⟩
section
variable {P : Program} {w : World} {K : PySem.W.Frag} {mg : Str → Option Value} {base : Heap} {f : Addr} {fd : FuncData}
def spLm (K : PySem.W.Frag) : Sp := fun vs H Q _ => ∃ (p q : Addr) (a b c l h m : Int), vs = [.ref p, .ref q, .int m] ∧ Tr K H p a b c ∧ Pr K H q l h ∧ Mt l h ∧ ∀ (H' : Hp) (r : Addr), Same H H' → H r = none → H' r = some (.tup (met a b c l h m)) → Q (.ref r) H'
theorem ok_lm (F : FnP K "_law_met" sLm f fd) (B : Bl mg) : FnOk P w K mg base CX0 1 f fd ["_law_beads_here", "_law_pair", "_law_more"] (spLm K) := by
  refine F.ok scLm (fun vs H Q E h => ?_) (fun cdv A outer s H vs Q E hr h => ?_)
  · obtain ⟨p, q, a, b, c, l, h, m, rfl, _⟩ := h
    rfl
  · obtain ⟨p, q, a, b, c, l, h, m, rfl, hT, hP, hM, k⟩ := h
    refine ⟨_, PSs.nox (pss_cons (ps_set (i := 3) scLm.nd rfl (.inl rfl) (pe_callTy call_list_of (by rfl) B.lst (by decide +kernel) (pa_cons (pv 0) pa_nil)))
      (pss_cons (ps_asg (pe_op op_sub (pe_ix ix_list (pv 3) (pe_ix ix_tup (pv 1) pe_int (fun _ _ => rfl)) (fun _ _ => rfl)) pe_int) (pg_sub (pv 3) (pe_ix ix_tup (pv 1) pe_int (fun _ _ => rfl)) set_list))
      (pss_cons (ps_asg (pe_op op_sub (pe_ix ix_list (pv 3) (pe_ix ix_tup (pv 1) pe_int (fun _ _ => rfl)) (fun _ _ => rfl)) pe_int) (pg_sub (pv 3) (pe_ix ix_tup (pv 1) pe_int (fun _ _ => rfl)) set_list))
      (pss_cons (ps_asg (pe_op op_add (pe_ix ix_list (pv 3) (pe_op op_sub (pe_op op_sub pe_int (pe_ix ix_tup (pv 1) pe_int (fun _ _ => rfl))) (pe_ix ix_tup (pv 1) pe_int (fun _ _ => rfl))) (fun _ _ => rfl)) (pv 2)) (pg_sub (pv 3) (pe_op op_sub (pe_op op_sub pe_int (pe_ix ix_tup (pv 1) pe_int (fun _ _ => rfl))) (pe_ix ix_tup (pv 1) pe_int (fun _ _ => rfl))) set_list))
      (pss_one (ps_ret (pe_tup (pa_cons (pe_ix ix_list (pv 3) pe_int (fun _ _ => rfl)) (pa_cons (pe_ix ix_list (pv 3) pe_int (fun _ _ => rfl)) (pa_cons (pe_ix ix_list (pv 3) pe_int (fun _ _ => rfl)) pa_nil)))))))))), ?_⟩
    refine ⟨_, rfl, p, _, rfl, .inr hT, fun fo hfo => ?_⟩
    have sm : ∀ o, Same H (upd H fo o) := fun o => same_new (Same.refl H) hfo
    have hq : ∀ o, SqT K (upd H fo o) q [.int l, .int h] := fun o => tup_same (sm o) hP
    have hL : ∀ xs, SqL K (upd H fo (.lst xs)) fo xs := fun xs => .inl (.inl upd_same)
    rcases hM with ⟨rfl, rfl⟩ | ⟨rfl, rfl⟩ | ⟨rfl, rfl⟩
    · refine ⟨_, rfl, _, rfl, q, _, _, _, rfl, rfl, hq _, rfl, fo, _, _, _, rfl, rfl, hL _, rfl, _, _, rfl, rfl, _, rfl, _, rfl, q, _, _, _, rfl, rfl, hq _, rfl, fo, _, _, _, rfl, rfl, upd_same, rfl, ?_⟩
      rw [upd_upd]
      refine ⟨_, rfl, _, rfl, q, _, _, _, rfl, rfl, hq _, rfl, fo, _, _, _, rfl, rfl, hL _, rfl, _, _, rfl, rfl, _, rfl, _, rfl, q, _, _, _, rfl, rfl, hq _, rfl, fo, _, _, _, rfl, rfl, upd_same, rfl, ?_⟩
      rw [upd_upd]
      refine ⟨_, rfl, _, rfl, q, _, _, _, rfl, rfl, hq _, rfl, _, _, rfl, rfl, _, rfl, q, _, _, _, rfl, rfl, hq _, rfl, _, _, rfl, rfl, fo, _, _, _, rfl, rfl, hL _, rfl, _, rfl, _, _, rfl, rfl, _, rfl, _, rfl, q, _, _, _, rfl, rfl, hq _, rfl, _, _, rfl, rfl, _, rfl, q, _, _, _, rfl, rfl, hq _, rfl, _, _, rfl, rfl, fo, _, _, _, rfl, rfl, upd_same, rfl, ?_⟩
      rw [upd_upd]
      refine ⟨_, rfl, fo, _, _, _, rfl, rfl, hL _, rfl, _, rfl, fo, _, _, _, rfl, rfl, hL _, rfl, _, rfl, fo, _, _, _, rfl, rfl, hL _, rfl, (by show 3 ≤ sizeLine; decide), fun r hr3 => ?_⟩
      exact k _ r ((sm _).trans (same_upd hr3)) ((sm _).free hr3) upd_same
    · refine ⟨_, rfl, _, rfl, q, _, _, _, rfl, rfl, hq _, rfl, fo, _, _, _, rfl, rfl, hL _, rfl, _, _, rfl, rfl, _, rfl, _, rfl, q, _, _, _, rfl, rfl, hq _, rfl, fo, _, _, _, rfl, rfl, upd_same, rfl, ?_⟩
      rw [upd_upd]
      refine ⟨_, rfl, _, rfl, q, _, _, _, rfl, rfl, hq _, rfl, fo, _, _, _, rfl, rfl, hL _, rfl, _, _, rfl, rfl, _, rfl, _, rfl, q, _, _, _, rfl, rfl, hq _, rfl, fo, _, _, _, rfl, rfl, upd_same, rfl, ?_⟩
      rw [upd_upd]
      refine ⟨_, rfl, _, rfl, q, _, _, _, rfl, rfl, hq _, rfl, _, _, rfl, rfl, _, rfl, q, _, _, _, rfl, rfl, hq _, rfl, _, _, rfl, rfl, fo, _, _, _, rfl, rfl, hL _, rfl, _, rfl, _, _, rfl, rfl, _, rfl, _, rfl, q, _, _, _, rfl, rfl, hq _, rfl, _, _, rfl, rfl, _, rfl, q, _, _, _, rfl, rfl, hq _, rfl, _, _, rfl, rfl, fo, _, _, _, rfl, rfl, upd_same, rfl, ?_⟩
      rw [upd_upd]
      refine ⟨_, rfl, fo, _, _, _, rfl, rfl, hL _, rfl, _, rfl, fo, _, _, _, rfl, rfl, hL _, rfl, _, rfl, fo, _, _, _, rfl, rfl, hL _, rfl, (by show 3 ≤ sizeLine; decide), fun r hr3 => ?_⟩
      exact k _ r ((sm _).trans (same_upd hr3)) ((sm _).free hr3) upd_same
    · refine ⟨_, rfl, _, rfl, q, _, _, _, rfl, rfl, hq _, rfl, fo, _, _, _, rfl, rfl, hL _, rfl, _, _, rfl, rfl, _, rfl, _, rfl, q, _, _, _, rfl, rfl, hq _, rfl, fo, _, _, _, rfl, rfl, upd_same, rfl, ?_⟩
      rw [upd_upd]
      refine ⟨_, rfl, _, rfl, q, _, _, _, rfl, rfl, hq _, rfl, fo, _, _, _, rfl, rfl, hL _, rfl, _, _, rfl, rfl, _, rfl, _, rfl, q, _, _, _, rfl, rfl, hq _, rfl, fo, _, _, _, rfl, rfl, upd_same, rfl, ?_⟩
      rw [upd_upd]
      refine ⟨_, rfl, _, rfl, q, _, _, _, rfl, rfl, hq _, rfl, _, _, rfl, rfl, _, rfl, q, _, _, _, rfl, rfl, hq _, rfl, _, _, rfl, rfl, fo, _, _, _, rfl, rfl, hL _, rfl, _, rfl, _, _, rfl, rfl, _, rfl, _, rfl, q, _, _, _, rfl, rfl, hq _, rfl, _, _, rfl, rfl, _, rfl, q, _, _, _, rfl, rfl, hq _, rfl, _, _, rfl, rfl, fo, _, _, _, rfl, rfl, upd_same, rfl, ?_⟩
      rw [upd_upd]
      refine ⟨_, rfl, fo, _, _, _, rfl, rfl, hL _, rfl, _, rfl, fo, _, _, _, rfl, rfl, hL _, rfl, _, rfl, fo, _, _, _, rfl, rfl, hL _, rfl, (by show 3 ≤ sizeLine; decide), fun r hr3 => ?_⟩
      exact k _ r ((sm _).trans (same_upd hr3)) ((sm _).free hr3) upd_same
end

abbrev sLaw : Stmt := topS 21
theorem scLaw : FnScope ["_law_script", "_law_by", "_law_wide", "_law_beads_here", "_law_again", "_law_found", "_law_pair", "_law_one", "_law_other"] ["_law_script"] (defScope sLaw) := ⟨rfl, rfl, rfl, by decide +kernel, rfl, by decide +kernel, by decide +kernel⟩
section
variable {P : Program} {w : World} {K : PySem.W.Frag} {mg : Str → Option Value} {base : Heap} {f : Addr} {fd : FuncData}
def spLaw (K : PySem.W.Frag) : Sp := fun vs H Q _ => ∃ (p : Addr) (ns : List Int) (n : Nat), vs = [.ref p] ∧ SqL K H p (ns.map V.int) ∧ ns.length ≤ 63 ∧ n ≤ 1900000 ∧ (∀ z ∈ ns, Sz n z) ∧ ∀ H', Q (.bl true) H'
theorem ok_law {fB fC fM fJ fT fS C1 C2 : Addr} {fdB fdC fdM fdJ fdT fdS : FuncData} (F : FnP K "law" sLaw f fd) (B : Bl mg)
    (aB : At K mg "_law_beads" sLb ["_law_script", "_law_by", "_law_wide"] fB fdB) (GB : FnOk P w K mg base CX0 2 fB fdB ["_law_script", "_law_by", "_law_wide"] (spLb K))
    (aC : At K mg "_law_can" sLc ["_law_beads_here"] fC fdC) (GC : FnOk P w K mg base CX0 1 fC fdC ["_law_beads_here"] (spLc K))
    (aM : At K mg "_law_met" sLm ["_law_beads_here", "_law_pair", "_law_more"] fM fdM) (GM : FnOk P w K mg base CX0 1 fM fdM ["_law_beads_here", "_law_pair", "_law_more"] (spLm K))
    (aJ : At K mg "joined" sJoin ["beads", "meeting"] fJ fdJ) (GJ : FnOk P w K mg base (L2.CX P w) 5 fJ fdJ ["beads", "meeting"] (spMet K C1 C2 1))
    (aT : At K mg "turned" sTurn ["beads", "meeting"] fT fdT) (GT : FnOk P w K mg base (L2.CX P w) 5 fT fdT ["beads", "meeting"] (spMet K C1 C2 2))
    (aS : At K mg "meetings" sMeet ["beads"] fS fdS) (GS : FnOk P w K mg base (L2.CX P w) 4 fS fdS ["beads"] (spMs K C1)) :
    FnOk P w K mg base CX0 6 f fd ["_law_script"] (spLaw K) := by
  refine F.ok scLaw (fun vs H Q E h => ?_) (fun cdv A outer s H vs Q E hr h => ?_)
  · obtain ⟨p, ns, n, rfl, _⟩ := h
    rfl
  · obtain ⟨p, ns, n, rfl, hS, hlen, hn, hz, k⟩ := h
    have r1 : Room 1 _ := hr.mono (by decide)
    have r2 : Room 2 _ := hr.mono (by decide)
    have r4 : Room 4 _ := hr.mono (by decide)
    refine ⟨_, PSs.nox (pss_cons (ps_for PassesOwn.never rfl (pi_list (pe_lst (pa_cons (pe_tup (pa_cons pe_int (pa_cons pe_int pa_nil))) (pa_cons (pe_tup (pa_cons pe_int (pa_cons pe_int pa_nil))) (pa_cons (pe_tup (pa_cons pe_int (pa_cons (pe_op op_pow pe_int pe_int) pa_nil))) pa_nil))))) (pg_tup (by rfl) (pgs_cons (pg_name (i := 1) scLaw.nd rfl (.inl rfl)) (pgs_cons (pg_name (i := 2) scLaw.nd rfl (.inl rfl)) pgs_nil))) (pss_cons (ps_set (i := 3) scLaw.nd rfl (.inl rfl) (pe_call GB r2 (by rfl) aB.g aB.F.kp aB.b .nil pass0 (pa_cons (pv 0) (pa_cons (pv 1) (pa_cons (pv 2) pa_nil)))))
      (pss_cons (ps_for PassesOwn.never rfl (pi_range1 (by rfl) B.range (pa_cons pe_int pa_nil)) (pg_name (i := 4) scLaw.nd rfl (.inl rfl)) (pss_cons (ps_set (i := 5) scLaw.nd rfl (.inl rfl) (pe_call GS r4 (by rfl) aS.g aS.F.kp aS.b .nil passL (pa_cons (pv 3) pa_nil)))
      (pss_cons (ps_if (PW.pt (pw_or (pt_not (pt_val (pe_callB call_isi (by rfl) B.isi (by decide +kernel) (pa_cons (pv 5) (pa_cons (pe_bltn (v := .ty "list") (by rfl) B.lst (by decide +kernel) rfl) pa_nil))))) (pw_or1 (pt_cmpR (op_neD hr.units) (pv 5) (pe_call GC r1 (by rfl) aC.g aC.F.kp aC.b .nil pass0 (pa_cons (pv 3) pa_nil)) (nomark _))))) (pss_one (ps_ret pe_bl)) pss_nil)
      (pss_cons (ps_if (pt_not (pt_val (pe_callB (cr_all rfl) (by rfl) B.all (by decide +kernel) (pa_cons (pe_lc (own := [("_law_pair", 6)]) (g := (gName 6)) (tt := tYes) (te := (tCB (rIsi K) (tCons (tVar 6) (tCons (tC (.ty "tuple")) tNil)))) rfl scLaw.nd (pi_list (pv 5)) (blkOk_by (N := ["_law_script", "_law_by", "_law_wide", "_law_beads_here", "_law_again", "_law_found", "_law_pair", "_law_one", "_law_other"]) (sc := defScope sLaw) (by decide +kernel)) (fun _ _ _ _ _ => (pg_name (i := 6) scLaw.nd rfl (.inl rfl))) (fun _ _ _ _ _ => pts_nil) (fun _ _ _ _ _ => (pe_callB call_isi (by rfl) B.isi (by decide +kernel) (pa_cons (pv 6) (pa_cons (pe_bltn (v := .ty "tuple") (by rfl) B.tup (by decide +kernel) rfl) pa_nil))))) pa_nil)))) (pss_one (ps_ret pe_bl)) pss_nil)
      (pss_one (ps_expr (pe_bm PySem.F.plainAttrs_list PySem.F.slot_list_append PySem.F.type_list_append mt_append (pv 5) (pa_cons (pe_tup (pa_cons pe_int (pa_cons pe_int pa_nil))) pa_nil))))))))
      (pss_one (ps_for PassesOwn.never rfl (pi_list (pe_call GC r1 (by rfl) aC.g aC.F.kp aC.b .nil pass0 (pa_cons (pv 3) pa_nil))) (pg_name (i := 6) scLaw.nd rfl (.inl rfl)) (pss_cons (ps_par (i := 7) (j := 8) rfl scLaw.nd rfl rfl (by decide) rfl rfl (pa_cons (pe_call GJ hr (by rfl) aJ.g aJ.F.kp aJ.b .nil passL (pa_cons (pv 3) (pa_cons (pv 6) pa_nil))) (pa_cons (pe_call GT hr (by rfl) aT.g aT.F.kp aT.b .nil passL (pa_cons (pv 3) (pa_cons (pv 6) pa_nil))) pa_nil)) (by rfl))
      (pss_cons (ps_if (PW.pt (pw_or (pt_not (pt_val (pe_callB call_isi (by rfl) B.isi (by decide +kernel) (pa_cons (pv 7) (pa_cons (pe_bltn (v := .ty "tuple") (by rfl) B.tup (by decide +kernel) rfl) pa_nil))))) (pw_or (pt_cmpR (op_neD hr.units) (pv 7) (pe_call GM r1 (by rfl) aM.g aM.F.kp aM.b .nil pass0 (pa_cons (pv 3) (pa_cons (pv 6) (pa_cons pe_int pa_nil)))) (nomark _)) (pw_or1 (pt_cmpR op_ne (pe_callB (cr_sumT rfl) (by rfl) B.sum (by decide +kernel) (pa_cons (pv 7) pa_nil)) (pe_op op_sub (pe_callB (cr_sumT rfl) (by rfl) B.sum (by decide +kernel) (pa_cons (pv 3) pa_nil)) pe_int) (nomark _)))))) (pss_one (ps_ret pe_bl)) pss_nil)
      (pss_one (ps_if (PW.pt (pw_or (pt_not (pt_val (pe_callB call_isi (by rfl) B.isi (by decide +kernel) (pa_cons (pv 8) (pa_cons (pe_bltn (v := .ty "tuple") (by rfl) B.tup (by decide +kernel) rfl) pa_nil))))) (pw_or (pt_cmpR (op_neD hr.units) (pv 8) (pe_call GM r1 (by rfl) aM.g aM.F.kp aM.b .nil pass0 (pa_cons (pv 3) (pa_cons (pv 6) (pa_cons pe_int pa_nil)))) (nomark _)) (pw_or1 (pt_cmpR op_ne (pe_callB (cr_sumT rfl) (by rfl) B.sum (by decide +kernel) (pa_cons (pv 8) pa_nil)) (pe_callB (cr_sumT rfl) (by rfl) B.sum (by decide +kernel) (pa_cons (pv 3) pa_nil)) (nomark _)))))) (pss_one (ps_ret pe_bl)) pss_nil)))))))))
      (pss_cons (ps_if (PW.pt (pw_or (pt_cmpR (op_neD hr.units) (pe_call GJ hr (by rfl) aJ.g aJ.F.kp aJ.b .nil passL (pa_cons (pe_tup (pa_cons pe_int (pa_cons pe_int (pa_cons pe_int pa_nil)))) (pa_cons (pe_tup (pa_cons pe_int (pa_cons pe_int pa_nil))) pa_nil))) (pe_tup (pa_cons pe_int (pa_cons pe_int (pa_cons pe_int pa_nil)))) (nomark _)) (pw_or1 (pt_cmpR (op_neD hr.units) (pe_call GS r4 (by rfl) aS.g aS.F.kp aS.b .nil passL (pa_cons (pe_tup (pa_cons pe_int (pa_cons pe_int (pa_cons pe_int pa_nil)))) pa_nil)) (pe_lst pa_nil) (nomark _))))) (pss_one (ps_ret pe_bl)) pss_nil)
      (pss_one (ps_ret (pe_cmpR (op_eqD hr.units) (pe_call GT hr (by rfl) aT.g aT.F.kp aT.b .nil passL (pa_cons (pe_tup (pa_cons pe_int (pa_cons pe_int (pa_cons pe_int pa_nil)))) (pa_cons (pe_tup (pa_cons pe_int (pa_cons pe_int pa_nil))) pa_nil))) (pe_tup (pa_cons pe_int (pa_cons pe_int (pa_cons pe_int pa_nil)))) (nomark _)))))), ?_⟩
    refine ⟨(by show 2 ≤ sizeLine; decide), fun t0 h0 => ⟨(by show 2 ≤ sizeLine; decide), fun t1 h1 => ⟨_, _, rfl, rfl, ⟨by decide, by decide, by decide⟩, (by show 2 ≤ sizeLine; decide), fun t2 h2 => ⟨(by show 3 ≤ sizeLine; decide), fun l hl => ?_⟩⟩⟩⟩
    obtain ⟨Hm, eHm, s0, a0, a1, a2, al, _, _, _⟩ := lit3 h0 h1 h2 hl
    rw [eHm]
    refine ⟨l, rfl, ⟨_, .inl (.inl al)⟩, for_list (K := K) (a := l) (xs := [.ref t0, .ref t1, .ref t2]) (fun i σ H' => (∃ v1 v2 v3 v4 v5 v6 v7 v8, σ = [some (.ref p), v1, v2, v3, v4, v5, v6, v7, v8]) ∧ Same Hm H')
      ⟨⟨_, _, _, _, _, _, _, _, rfl⟩, Same.refl _⟩ (fun i σ H' _ h => .inl (.inl (h.2 _ _ al))) ?_ ?_⟩
    · rintro i x σ H1 hx ⟨⟨v1, v2, v3, v4, v5, v6, v7, v8, rfl⟩, sm⟩
      obtain ⟨t, by_, wd, rfl, ht, y0, y1, w0⟩ : ∃ (t : Addr) (by_ wd : Int), x = .ref t ∧ Hm t = some (.tup [.int by_, .int wd]) ∧ 0 ≤ by_ ∧ by_ < 10 ∧ 0 < wd := by
        match i, hx with
        | 0, hx => exact ⟨t0, _, _, (Option.some.inj hx).symm, a0, by decide, by decide, by decide⟩
        | 1, hx => exact ⟨t1, _, _, (Option.some.inj hx).symm, a1, by decide, by decide, by decide⟩
        | 2, hx => exact ⟨t2, _, _, (Option.some.inj hx).symm, a2, by decide, by decide, by decide⟩
        | n + 3, hx => simp at hx
      refine ⟨t, _, rfl, .inl (.inl (sm _ _ ht)), rfl, _, _, rfl, _, _, rfl, rfl, ?_⟩
      refine ⟨_, rfl, _, rfl, _, rfl, p, ns, by_, wd, n, rfl, (s0.trans sm).seq hS, hlen, hn, hz, y0, y1, w0, fun H2 b x0 x1 x2 s2 hb0 hb hk3 _ => ?_⟩
      refine ⟨2, rfl, by decide, by decide, for_range (lo := 0) (n := 2) (fun i σ H' => (∃ v4 v5 v6, σ = [some (.ref p), some (.int by_), some (.int wd), some (.ref b), v4, v5, v6, v7, v8]) ∧ Same H2 H') ⟨⟨_, _, _, rfl⟩, Same.refl _⟩ ?_ ?_⟩
      · rintro j σ H3 hj ⟨⟨v4, v5, v6, rfl⟩, sm3⟩
        have hT3 : Tr K H3 b x0 x1 x2 := .inl (.inl (sm3 _ _ hb))
        refine ⟨_, rfl, _, rfl, .inr ⟨b, x0, x1, x2, rfl, hT3, hk3, fun H4 L s4 hL0 hPA => ?_⟩⟩
        obtain ⟨rs, hL, hp⟩ := id hPA
        refine ⟨_, rfl, _, _, _, _, true, rfl, .ty _, ty_lst hL, kit_ty (by decide +kernel), true, rfl, iteF ?_⟩
        refine ⟨_, rfl, _, rfl, b, x0, x1, x2, rfl, hT3.same s4, fun H5 L2 s5 hL20 hPA2 => ?_⟩
        refine ⟨dPairs _, dPairs _, (hPA.same s5).dp, hPA2.dp, shaped_pairs _, shaped_pairs _, _, rfl, ?_⟩
        rw [eqv_self (shaped_pairs _)]
        refine iteF ?_
        have hL5 : H5 L = some (.lst (rs.map V.ref)) := s5 _ _ hL
        refine ⟨_, rfl, L, rfl, ⟨_, .inl (.inl hL5)⟩, fun D hD => ?_⟩
        refine lc_list (K := K) (a := L) (xs := rs.map V.ref) (fun i H' => Same H5 H' ∧ H' D = some (.lst ((List.replicate i true).map V.bl))) ⟨same_upd hD, upd_same⟩ (fun i H' _ h => .inl (.inl (h.1 _ _ hL5))) ?_ ?_
        · rintro i x H6 hx ⟨s6, hD6⟩
          obtain ⟨r, hr1, rfl⟩ := ref_get hx
          obtain ⟨q, _, _, hq⟩ := Paired.get hp hr1
          refine ⟨rfl, ?_⟩
          dsimp only [tYes]
          refine iteT ?_
          have hlen6 : i < (rs.map V.ref).length := (List.getElem?_eq_some_iff.mp hx).1
          have hsz : (rs.map V.ref).length ≤ 3 := by
            rw [List.length_map, Paired.length hp]
            exact List.length_filter_le _ _
          refine ⟨_, rfl, .ref r, _, _, _, true, rfl, .ty _, .base (.tup (s6 _ _ (s5 _ _ hq))), kit_ty (by decide +kernel), _, hD6, ?_, same_new s6 hD, ?_⟩
          · rw [List.length_map, List.length_replicate]
            exact Nat.lt_trans (Nat.lt_of_lt_of_le hlen6 hsz) (by decide)
          · rw [upd_same, rep_next]
        · rintro H6 ⟨s6, hD6⟩
          refine ⟨D, _, rfl, .inl (.inl hD6), _, rfl, ?_⟩
          rw [all_rep]
          refine iteF ?_
          have hL6 : H6 L = some (.lst (rs.map V.ref)) := s6 _ _ hL5
          refine ⟨_, rfl, .inl ⟨rfl, _, SqL.of hL6⟩, (by show 2 ≤ sizeLine; decide), fun tz htz => ⟨L, _, _, rfl, rfl, (same_upd htz) _ _ hL6, ?_, ⟨_, _, _, rfl⟩, ?_⟩⟩
          · rw [List.length_map, Paired.length hp]
            exact Nat.lt_of_le_of_lt (List.length_filter_le _ _) (by decide)
          · exact same_new ((((sm3.trans s4).trans s5).trans s6).trans (same_upd htz)) (sm3.free hL0)
      · rintro σ H3 ⟨⟨v4, v5, v6, rfl⟩, sm3⟩
        have hT3 : Tr K H3 b x0 x1 x2 := .inl (.inl (sm3 _ _ hb))
        refine ⟨_, rfl, b, x0, x1, x2, rfl, hT3, fun H4 L s4 hL0 hPA => ?_⟩
        obtain ⟨rs, hL, hp⟩ := id hPA
        refine ⟨L, rfl, ⟨_, .inl (.inl hL)⟩, for_list (K := K) (a := L) (xs := rs.map V.ref) (fun i σ H' => (∃ v6 v7 v8, σ = [some (.ref p), some (.int by_), some (.int wd), some (.ref b), v4, v5, v6, v7, v8]) ∧ Same H4 H') ⟨⟨_, _, _, rfl⟩, Same.refl _⟩
          (fun i σ H' _ h => .inl (.inl (h.2 _ _ hL))) ?_ ?_⟩
        · rintro i x σ H5 hx ⟨⟨v6, v7, v8, rfl⟩, s5⟩
          obtain ⟨r, hr1, rfl⟩ := ref_get hx
          obtain ⟨⟨lo, hi⟩, hq1, _, hq⟩ := Paired.get hp hr1
          obtain ⟨hM, hcan⟩ := mem_cans (List.mem_of_getElem? hq1)
          have hM : Mt lo hi := hM
          have hT5 : Tr K H5 b x0 x1 x2 := (hT3.same s4).same s5
          have hP5 : Pr K H5 r lo hi := .inl (.inl (s5 _ _ hq))
          refine ⟨_, rfl, _, rfl, _, _, rfl, .inr (.inr ⟨b, r, x0, x1, x2, lo, hi, rfl, rfl, hT5, hk3, hP5, hM, hcan, fun H6 r1 s6 hr10 h6 => ?_⟩)⟩
          refine ⟨_, rfl, _, rfl, _, _, rfl, .inr (.inr ⟨b, r, x0, x1, x2, lo, hi, rfl, rfl, hT5.same s6, hk3, hP5.same s6, hM, hcan, fun H7 r2 s7 hr20 h7 => ?_⟩)⟩
          refine ⟨_, _, rfl, ?_⟩
          have hT7 : Tr K H7 b x0 x1 x2 := (hT5.same s6).same s7
          have hP7 : Pr K H7 r lo hi := (hP5.same s6).same s7
          have h67 := s7 _ _ h6
          refine ⟨_, rfl, _, _, _, _, true, rfl, .ty _, .base (.tup h67), kit_ty (by decide +kernel), true, rfl, iteF ?_⟩
          refine ⟨_, rfl, _, rfl, _, rfl, b, r, x0, x1, x2, lo, hi, 1, rfl, hT7, hP7, hM, fun H8 r3 s8 hr30 h8 => ?_⟩
          refine ⟨_, _, .tup (.inl (.inl (s8 _ _ h67))) (dpInts [_, _, _]), .tup (.inl (.inl h8)) (dpInts [_, _, _]), shaped_tint _, shaped_tint _, _, rfl, ?_⟩
          rw [eqv_self (shaped_tint _)]
          refine iteF ?_
          refine ⟨_, rfl, r1, [_, _, _], rfl, .inl (.inl (s8 _ _ h67)), _, rfl, b, [x0, x1, x2], rfl, hT7.same s8, _, _, rfl, rfl, rfl, _, rfl, ?_⟩
          have e1 : decide (V.int ([mk 0 x0 lo hi 1, mk 1 x1 lo hi 1, mk 2 x2 lo hi 1].sum) = V.int ([x0, x1, x2].sum - 1)) = true := decide_eq_true (congrArg V.int (by
            have q := sum_met (a := x0) (b := x1) (c := x2) (m := 1) hM
            simp only [List.sum_cons, List.sum_nil]
            omega))
          rw [e1]
          refine iteF ?_
          have h78 := s8 _ _ h7
          have hT8 := hT7.same s8
          have hP8 := hP7.same s8
          refine ⟨_, rfl, _, _, _, _, true, rfl, .ty _, .base (.tup h78), kit_ty (by decide +kernel), true, rfl, iteF ?_⟩
          refine ⟨_, rfl, _, rfl, _, rfl, b, r, x0, x1, x2, lo, hi, 2, rfl, hT8, hP8, hM, fun H9 r4 s9 hr40 h9 => ?_⟩
          refine ⟨_, _, .tup (.inl (.inl (s9 _ _ h78))) (dpInts [_, _, _]), .tup (.inl (.inl h9)) (dpInts [_, _, _]), shaped_tint _, shaped_tint _, _, rfl, ?_⟩
          rw [eqv_self (shaped_tint _)]
          refine iteF ?_
          refine ⟨_, rfl, r2, [_, _, _], rfl, .inl (.inl (s9 _ _ h78)), _, rfl, b, [x0, x1, x2], rfl, hT8.same s9, rfl, _, rfl, ?_⟩
          have e2 : decide (V.int ([mk 0 x0 lo hi 2, mk 1 x1 lo hi 2, mk 2 x2 lo hi 2].sum) = V.int ([x0, x1, x2].sum)) = true := decide_eq_true (congrArg V.int (by
            have q := sum_met (a := x0) (b := x1) (c := x2) (m := 2) hM
            simp only [List.sum_cons, List.sum_nil]
            omega))
          rw [e2]
          refine iteF ?_
          exact ⟨⟨_, _, _, rfl⟩, (((s5.trans s6).trans s7).trans s8).trans s9⟩
        · rintro σ H5 ⟨⟨v6, v7, v8, rfl⟩, s5⟩
          exact ⟨⟨_, _, _, _, _, _, _, _, rfl⟩, (((sm.trans s2).trans sm3).trans s4).trans s5⟩
    · rintro σ H1 ⟨⟨v1, v2, v3, v4, v5, v6, v7, v8, rfl⟩, sm⟩
      refine ⟨(by show 3 ≤ sizeLine; decide), fun p1 hp1 => ⟨(by show 2 ≤ sizeLine; decide), fun p2 hp2 => ⟨_, _, rfl, .inr (.inr ⟨p1, p2, 2, 1, 0, 0, 1, rfl, rfl, tup_same (same_upd hp2) (.inl (.inl upd_same)), ⟨by decide, by decide, by decide, by decide⟩, .inl (.inl upd_same), .inl ⟨rfl, rfl⟩, rfl, fun H2 r s2 hr0 h2 => ?_⟩)⟩⟩⟩
      refine ⟨(by show 3 ≤ sizeLine; decide), fun p3 hp3 => ?_⟩
      refine ⟨_, _, .tup (.inl (.inl ((same_upd hp3) _ _ h2))) (dpInts [_, _, _]), .tup (.inl (.inl upd_same)) (dpInts [1, 0, 1]), shaped_tint _, shaped_tint _, _, rfl, ?_⟩
      refine iteF ?_
      refine ⟨(by show 3 ≤ sizeLine; decide), fun p4 hp4 => ⟨_, rfl, .inr ⟨p4, 0, 5, 0, rfl, .inl (.inl upd_same), ⟨by decide, by decide, by decide, by decide⟩, fun H3 L s3 hL0 hPA => ?_⟩⟩⟩
      refine ⟨Nat.zero_le _, fun e he => ?_⟩
      refine ⟨dPairs _, dPairs [], (hPA.same (same_upd he)).dp, .lst (.inl (.inl upd_same)) .nil, shaped_pairs _, shaped_pairs _, _, rfl, ?_⟩
      refine iteF ?_
      refine ⟨(by show 3 ≤ sizeLine; decide), fun p5 hp5 => ⟨(by show 2 ≤ sizeLine; decide), fun p6 hp6 => ⟨_, _, rfl, .inr (.inr ⟨p5, p6, 0, 1, 1, 1, 2, rfl, rfl, tup_same (same_upd hp6) (.inl (.inl upd_same)), ⟨by decide, by decide, by decide, by decide⟩, .inl (.inl upd_same), .inr (.inr ⟨rfl, rfl⟩), rfl, fun H4 r4 s4 hr40 h4 => ?_⟩)⟩⟩⟩
      refine ⟨(by show 3 ≤ sizeLine; decide), fun p7 hp7 => ?_⟩
      refine ⟨_, _, .tup (.inl (.inl ((same_upd hp7) _ _ h4))) (dpInts [_, _, _]), .tup (.inl (.inl upd_same)) (dpInts [2, 0, 0]), shaped_tint _, shaped_tint _, ?_⟩
      exact k _
end

/-! ### the head: facts by names, the run -/
abbrev mkD (x : Str) (i : Nat) : He.DefD := ⟨(x, none), x, x, defArgs (topS i), defBody (topS i), defScope (topS i), [], []⟩
def fnL : List He.DefD := [mkD "meetings" 6, mkD "joined" 7, mkD "turned" 8, mkD "behind" 9, mkD "check_beads" 10, mkD "check_meeting" 11, mkD "are_beads" 12, mkD "is_meeting" 13, mkD "is_kind" 14, mkD "is_number" 15, mkD "_law_number" 17, mkD "_law_beads" 18, mkD "_law_can" 19, mkD "_law_met" 20, mkD "law" 21]
def faL : List He.Fa := [.glo "meetings", .glo "joined", .glo "turned", .glo "behind", .glo "check_beads", .glo "check_meeting", .glo "are_beads", .glo "is_meeting", .glo "is_kind", .glo "is_number", .glo "_law_number", .glo "_law_beads", .glo "_law_can", .glo "_law_met", .glo "law", .free "range", .free "isinstance", .free "list", .free "all", .free "tuple", .free "sum", .free "len", .free "abs", .free "enumerate", .free "max", .free "int", .free "bool", .free "any", .free "min", .free "str", .free "sorted", .int "KINDS" 3, .glo "BadBeads", .exc "BadBeads", .glo "BadMeeting", .exc "BadMeeting"]
abbrev R : PySem.W.OpenRow := PySem.W.OpenLaw.row PySem.Challenge.rw_kindmeets_k01_meetings
abbrev hk : PySem.W.Hook := He.hookD 5 faL fnL
def ob (s : PySem.W.SharedT) : He.AlD := He.obsDG 5 faL fnL (HandSHeadRun.getT s)
theorem ob_eq (s : PySem.W.SharedT) : ob s = hk.obs s.abs := He.obsDG_eq (HandSHeadRun.getT_eq s)
def looseL : List Str := ["BeadError", "BadBeads", "BadMeeting", "KINDS", "meetings", "joined", "turned", "behind", "check_beads", "check_meeting", "are_beads", "is_meeting", "is_kind", "is_number", "_law_number", "_law_beads", "_law_can", "_law_met"]
theorem run (w : World) : HandSHeadRun.RunEq R (PySem.W.view R.prog [21]) hk ob 3000 looseL w := by
  intro os
  kernel_rfl
section
variable {K : PySem.W.Frag} {h : Heap} {mg : Str → Option Value}
theorem at_meetings (X : K.In h) (G : h.Ns mainGlobals mg) (c : He.SaysD faL fnL K) : ∃ fd, At K mg "meetings" (topS 6) ["beads"] (He.ga K "meetings") fd := by
  obtain ⟨fd, F⟩ := c.def_ 0 (d := mkD "meetings" 6) rfl
  exact ⟨fd, F, He.glo_ok X G (c.fact 0 (f := .glo "meetings") rfl), FunD.bindsN F fun _ _ _ _ _ _ us hl => match us, hl with | [_], _ => rfl⟩
theorem at_joined (X : K.In h) (G : h.Ns mainGlobals mg) (c : He.SaysD faL fnL K) : ∃ fd, At K mg "joined" (topS 7) ["beads", "meeting"] (He.ga K "joined") fd := by
  obtain ⟨fd, F⟩ := c.def_ 1 (d := mkD "joined" 7) rfl
  exact ⟨fd, F, He.glo_ok X G (c.fact 1 (f := .glo "joined") rfl), FunD.bindsN F fun _ _ _ _ _ _ us hl => match us, hl with | [_, _], _ => rfl⟩
theorem at_turned (X : K.In h) (G : h.Ns mainGlobals mg) (c : He.SaysD faL fnL K) : ∃ fd, At K mg "turned" (topS 8) ["beads", "meeting"] (He.ga K "turned") fd := by
  obtain ⟨fd, F⟩ := c.def_ 2 (d := mkD "turned" 8) rfl
  exact ⟨fd, F, He.glo_ok X G (c.fact 2 (f := .glo "turned") rfl), FunD.bindsN F fun _ _ _ _ _ _ us hl => match us, hl with | [_, _], _ => rfl⟩
theorem at_behind (X : K.In h) (G : h.Ns mainGlobals mg) (c : He.SaysD faL fnL K) : ∃ fd, At K mg "behind" (topS 9) ["beads", "meeting", "made"] (He.ga K "behind") fd := by
  obtain ⟨fd, F⟩ := c.def_ 3 (d := mkD "behind" 9) rfl
  exact ⟨fd, F, He.glo_ok X G (c.fact 3 (f := .glo "behind") rfl), FunD.bindsN F fun _ _ _ _ _ _ us hl => match us, hl with | [_, _, _], _ => rfl⟩
theorem at_check_beads (X : K.In h) (G : h.Ns mainGlobals mg) (c : He.SaysD faL fnL K) : ∃ fd, At K mg "check_beads" (topS 10) ["beads"] (He.ga K "check_beads") fd := by
  obtain ⟨fd, F⟩ := c.def_ 4 (d := mkD "check_beads" 10) rfl
  exact ⟨fd, F, He.glo_ok X G (c.fact 4 (f := .glo "check_beads") rfl), FunD.bindsN F fun _ _ _ _ _ _ us hl => match us, hl with | [_], _ => rfl⟩
theorem at_check_meeting (X : K.In h) (G : h.Ns mainGlobals mg) (c : He.SaysD faL fnL K) : ∃ fd, At K mg "check_meeting" (topS 11) ["beads", "meeting"] (He.ga K "check_meeting") fd := by
  obtain ⟨fd, F⟩ := c.def_ 5 (d := mkD "check_meeting" 11) rfl
  exact ⟨fd, F, He.glo_ok X G (c.fact 5 (f := .glo "check_meeting") rfl), FunD.bindsN F fun _ _ _ _ _ _ us hl => match us, hl with | [_, _], _ => rfl⟩
theorem at_are_beads (X : K.In h) (G : h.Ns mainGlobals mg) (c : He.SaysD faL fnL K) : ∃ fd, At K mg "are_beads" (topS 12) ["value"] (He.ga K "are_beads") fd := by
  obtain ⟨fd, F⟩ := c.def_ 6 (d := mkD "are_beads" 12) rfl
  exact ⟨fd, F, He.glo_ok X G (c.fact 6 (f := .glo "are_beads") rfl), FunD.bindsN F fun _ _ _ _ _ _ us hl => match us, hl with | [_], _ => rfl⟩
theorem at_is_meeting (X : K.In h) (G : h.Ns mainGlobals mg) (c : He.SaysD faL fnL K) : ∃ fd, At K mg "is_meeting" (topS 13) ["value"] (He.ga K "is_meeting") fd := by
  obtain ⟨fd, F⟩ := c.def_ 7 (d := mkD "is_meeting" 13) rfl
  exact ⟨fd, F, He.glo_ok X G (c.fact 7 (f := .glo "is_meeting") rfl), FunD.bindsN F fun _ _ _ _ _ _ us hl => match us, hl with | [_], _ => rfl⟩
theorem at_is_kind (X : K.In h) (G : h.Ns mainGlobals mg) (c : He.SaysD faL fnL K) : ∃ fd, At K mg "is_kind" (topS 14) ["value"] (He.ga K "is_kind") fd := by
  obtain ⟨fd, F⟩ := c.def_ 8 (d := mkD "is_kind" 14) rfl
  exact ⟨fd, F, He.glo_ok X G (c.fact 8 (f := .glo "is_kind") rfl), FunD.bindsN F fun _ _ _ _ _ _ us hl => match us, hl with | [_], _ => rfl⟩
theorem at_is_number (X : K.In h) (G : h.Ns mainGlobals mg) (c : He.SaysD faL fnL K) : ∃ fd, At K mg "is_number" (topS 15) ["value"] (He.ga K "is_number") fd := by
  obtain ⟨fd, F⟩ := c.def_ 9 (d := mkD "is_number" 15) rfl
  exact ⟨fd, F, He.glo_ok X G (c.fact 9 (f := .glo "is_number") rfl), FunD.bindsN F fun _ _ _ _ _ _ us hl => match us, hl with | [_], _ => rfl⟩
theorem at__law_number (X : K.In h) (G : h.Ns mainGlobals mg) (c : He.SaysD faL fnL K) : ∃ fd, At K mg "_law_number" (topS 17) ["_law_cell", "_law_at", "_law_whole"] (He.ga K "_law_number") fd := by
  obtain ⟨fd, F⟩ := c.def_ 10 (d := mkD "_law_number" 17) rfl
  exact ⟨fd, F, He.glo_ok X G (c.fact 10 (f := .glo "_law_number") rfl), FunD.bindsN F fun _ _ _ _ _ _ us hl => match us, hl with | [_, _, _], _ => rfl⟩
theorem at__law_beads (X : K.In h) (G : h.Ns mainGlobals mg) (c : He.SaysD faL fnL K) : ∃ fd, At K mg "_law_beads" (topS 18) ["_law_script", "_law_by", "_law_wide"] (He.ga K "_law_beads") fd := by
  obtain ⟨fd, F⟩ := c.def_ 11 (d := mkD "_law_beads" 18) rfl
  exact ⟨fd, F, He.glo_ok X G (c.fact 11 (f := .glo "_law_beads") rfl), FunD.bindsN F fun _ _ _ _ _ _ us hl => match us, hl with | [_, _, _], _ => rfl⟩
theorem at__law_can (X : K.In h) (G : h.Ns mainGlobals mg) (c : He.SaysD faL fnL K) : ∃ fd, At K mg "_law_can" (topS 19) ["_law_beads_here"] (He.ga K "_law_can") fd := by
  obtain ⟨fd, F⟩ := c.def_ 12 (d := mkD "_law_can" 19) rfl
  exact ⟨fd, F, He.glo_ok X G (c.fact 12 (f := .glo "_law_can") rfl), FunD.bindsN F fun _ _ _ _ _ _ us hl => match us, hl with | [_], _ => rfl⟩
theorem at__law_met (X : K.In h) (G : h.Ns mainGlobals mg) (c : He.SaysD faL fnL K) : ∃ fd, At K mg "_law_met" (topS 20) ["_law_beads_here", "_law_pair", "_law_more"] (He.ga K "_law_met") fd := by
  obtain ⟨fd, F⟩ := c.def_ 13 (d := mkD "_law_met" 20) rfl
  exact ⟨fd, F, He.glo_ok X G (c.fact 13 (f := .glo "_law_met") rfl), FunD.bindsN F fun _ _ _ _ _ _ us hl => match us, hl with | [_, _, _], _ => rfl⟩
theorem at_law (X : K.In h) (G : h.Ns mainGlobals mg) (c : He.SaysD faL fnL K) : ∃ fd, At K mg "law" (topS 21) ["_law_script"] (He.ga K "law") fd := by
  obtain ⟨fd, F⟩ := c.def_ 14 (d := mkD "law" 21) rfl
  exact ⟨fd, F, He.glo_ok X G (c.fact 14 (f := .glo "law") rfl), FunD.bindsN F fun _ _ _ _ _ _ us hl => match us, hl with | [_], _ => rfl⟩
theorem bl_of (X : K.In h) (G : h.Ns mainGlobals mg) (c : He.SaysD faL fnL K) : Bl mg :=
  ⟨He.free_ok X G (c.fact 15 (f := .free "range") rfl), He.free_ok X G (c.fact 16 (f := .free "isinstance") rfl), He.free_ok X G (c.fact 17 (f := .free "list") rfl), He.free_ok X G (c.fact 18 (f := .free "all") rfl), He.free_ok X G (c.fact 19 (f := .free "tuple") rfl), He.free_ok X G (c.fact 20 (f := .free "sum") rfl), He.free_ok X G (c.fact 21 (f := .free "len") rfl), He.free_ok X G (c.fact 22 (f := .free "abs") rfl), He.free_ok X G (c.fact 23 (f := .free "enumerate") rfl), He.free_ok X G (c.fact 24 (f := .free "max") rfl), He.free_ok X G (c.fact 25 (f := .free "int") rfl), He.free_ok X G (c.fact 26 (f := .free "bool") rfl), He.free_ok X G (c.fact 27 (f := .free "any") rfl), He.free_ok X G (c.fact 28 (f := .free "min") rfl), He.free_ok X G (c.fact 29 (f := .free "str") rfl), He.free_ok X G (c.fact 30 (f := .free "sorted") rfl)⟩
theorem con_KINDS (X : K.In h) (G : h.Ns mainGlobals mg) (c : He.SaysD faL fnL K) : ∃ t, mg "KINDS" = some (.int 3 t) := He.int_ok X G (c.fact 31 (f := .int "KINDS" 3) rfl)
theorem ex_BadBeads (X : K.In h) (G : h.Ns mainGlobals mg) (c : He.SaysD faL fnL K) : Ex K mg "BadBeads" (He.ga K "BadBeads") := ex_of X G (c.fact 32 (f := .glo "BadBeads") rfl) (c.fact 33 (f := .exc "BadBeads") rfl)
theorem ex_BadMeeting (X : K.In h) (G : h.Ns mainGlobals mg) (c : He.SaysD faL fnL K) : Ex K mg "BadMeeting" (He.ga K "BadMeeting") := ex_of X G (c.fact 34 (f := .glo "BadMeeting") rfl) (c.fact 35 (f := .exc "BadMeeting") rfl)
end

theorem facts {P : Program} {w : World} {K : PySem.W.Frag} {h : Heap} {mg : Str → Option Value} {f : Addr} (X : K.In h) (G : h.Ns mainGlobals mg) (hfa : mg ("law" : Str) = some (.ref f)) (c : He.SaysD faL fnL K) :
    ∃ fd : FuncData, (∀ (s : Shared) (v : Value), BindsTo s fd ⟨[v], []⟩ [("_law_script", v)]) ∧ ∀ base : Heap, K.In base → base.Ns mainGlobals mg → FnOk P w K mg base CX0 6 f fd ["_law_script"] (spLaw K) := by
  have B := bl_of X G c
  obtain ⟨t, kd⟩ := con_KINDS X G c
  have ku : RelV (.int 3) (.int 3 t) := ⟨t, rfl⟩
  have eB := ex_BadBeads X G c
  have eM := ex_BadMeeting X G c
  obtain ⟨_, aNum⟩ := at_is_number X G c
  obtain ⟨_, aKind⟩ := at_is_kind X G c
  obtain ⟨_, aIsM⟩ := at_is_meeting X G c
  obtain ⟨_, aAre⟩ := at_are_beads X G c
  obtain ⟨_, aChB⟩ := at_check_beads X G c
  obtain ⟨_, aChM⟩ := at_check_meeting X G c
  obtain ⟨_, aBeh⟩ := at_behind X G c
  obtain ⟨_, aJ⟩ := at_joined X G c
  obtain ⟨_, aT⟩ := at_turned X G c
  obtain ⟨_, aS⟩ := at_meetings X G c
  obtain ⟨_, aLn⟩ := at__law_number X G c
  obtain ⟨_, aLb⟩ := at__law_beads X G c
  obtain ⟨_, aLc⟩ := at__law_can X G c
  obtain ⟨_, aLm⟩ := at__law_met X G c
  obtain ⟨fd, aL⟩ := at_law X G c
  have e := hfa.symm.trans aL.g
  cases e
  have b := FunD.bindsA (ps := ["_law_script"]) aL.F fun _ _ _ _ _ _ us hl => match us, hl with | [_], _ => rfl
  refine ⟨fd, fun s v => b s [v] rfl, fun base _ _ => ?_⟩
  have GB := ok_chB (P := P) (w := w) (base := base) aChB.F B kd ku aNum aAre eB
  have GM := ok_chM (P := P) (w := w) (base := base) aChM.F B kd ku aNum aKind aIsM eM
  have GE := ok_beh (P := P) (w := w) (mg := mg) (base := base) aBeh.F B
  exact ok_law aL.F B aLb (ok_lb aLb.F B aLn) aLc (ok_lc aLc.F) aLm (ok_lm aLm.F B) aJ (ok_join aJ.F aChB aChM aBeh GB GM GE) aT (ok_turn aT.F aChB aChM aBeh GB GM GE) aS (ok_ms aS.F B kd ku aChB GB)
end Km
open PySem PySem.W PySem.Calls PyProof.Rows
set_option maxRecDepth 100000 in
set_option maxHeartbeats 0 in
theorem PySem.Challenge.cw_kindmeets_k01_meetings_holds : PySem.Challenge.rw_kindmeets_k01_meetings.Holds := by
  w_on; o_law
  refine HandSHeadRun.head_any (r := OpenLaw.row PySem.Challenge.rw_kindmeets_k01_meetings) (q := view (OpenLaw.row PySem.Challenge.rw_kindmeets_k01_meetings).prog [21]) (H := Km.hk) (ob := Km.ob) (M := 3000) (loose := Km.looseL) (d := HandSHeadRun.topDef (OpenLaw.row PySem.Challenge.rw_kindmeets_k01_meetings).prog 21) (kwd := []) Km.ob_eq
    (by kernel_rfl) (fun s => by kernel_rfl) Km.run (by kernel_rfl) (by kernel_rfl) (by kernel_rfl) (by rfl) (by first | assumption | decide +kernel) (by decide +kernel) ⟨rfl, rfl, rfl, rfl, rfl, by decide +kernel⟩ ?hw ?hc
  case hw => w_witness2
  case hc =>
    refine Km.walk_ofEB (l := PySem.Challenge.rw_kindmeets_k01_meetings) (n := 63) (k := 6) (x := "_law_script") (CX := L2.CX0) rfl (by decide) (by kernel_rfl) ⟨rfl, by decide, by decide⟩ ?F (fun _ _ _ _ z => z)
    intro w mg fa h Y G hmg0
    obtain ⟨K, KX, c⟩ := Y
    have hmg : mg ("law" : PySem.Str) = some (.ref fa) := by
      have e : (HandSHeadRun.topDef (OpenLaw.row PySem.Challenge.rw_kindmeets_k01_meetings).prog 21).name = ("law" : PySem.Str) := by kernel_rfl
      rw [← e]
      exact hmg0
    obtain ⟨fd, hb, hF⟩ := Km.facts (P := (PySem.Challenge.rw_kindmeets_k01_meetings).prog) (w := w) KX G hmg c
    exact ⟨K, fd, Km.spLaw K, KX, hb, fun H a ns hl ⟨m, hm, hz⟩ _ hS => ⟨a, ns, m, rfl, hS, hl, hm, hz, fun _ => rfl⟩, hF⟩

