import PyProof.Rows.All
import Wide.All
import OpenK.AllK
import Wide.FinOn
import HandS.Base
import HandS.Call
import HandS.List
import HandS.Text
import PyProof.ListStr
import PyProof.StrOps2
import PyProof.SliceStr2
import KE.KRevSl
import HandS.ForMost
import HandS.Star
import HandS.TupAny
import HandS.IsInst
import HandS.NoneIn
import HandS.More
import HandS.Walk
import KE.DataEq
import HandS.ExcIs
import HandS.ExcField
import HandS.ExcInit
import HandS.ExcSuper
import KE.KExcSuper
import KE.KSuper
import HandS.Head0
import HandS.Head1
import HandS.Head2
import HandS.HeadEnd
import HandS.HeadHook1
import HandS.HeadHook2
import HandS.HeadHook3
import HandS.HeadNt
import HandS.Deep
import PyProof.P3Eq
import HandS.Exc
import HandS.WordsExc
import HandS.CallSlots
import HandS.Replace
import HandS.HotCalls
import KE.KExcIs
import HandS.ExcOwn
import PyProof.Rows.FStr
import HandS.ExcCtx
import KE.KDictCopyH
import HandS.Comp
import HandS.Zip
import KE.GoesEnum
import HandS.RaiseMore
import HandS.DeepEq
import PySem.Challenge.RW_handcarried_k07_deed_lines
set_option Elab.async false
set_option linter.all false
set_option maxRecDepth 100000
set_option maxHeartbeats 0
/-! Br1 -/
/-! Rules of my own over the layer: list(text), text * n, text[::-1]. -/
namespace K1
open PySem PySem.Spec PyProof.Rows L2

theorem vals_pt : ∀ {xs : List V} {us : List Value}, xs.length = us.length → (∀ (j : Nat) (x : V) (u : Value), xs[j]? = some x → us[j]? = some u → RelV x u) → Vals xs us
  | [], [], _, _ => .nil
  | [], _ :: _, h, _ => by simp at h
  | _ :: _, [], h, _ => by simp at h
  | x :: xs, u :: us, h, k => .cons (k 0 x u rfl rfl) (vals_pt (by simpa using h) fun j y w a b => k (j + 1) y w (by simpa using a) (by simpa using b))

/-- the signs of a text, each a text -/
def sgn (z : Str) : List Str := z.cps.toList.map fun c => ⟨#[c]⟩

theorem call_listS {X : Cx} (hh : X.A.handled = none) : CallR X (.type "list") (fun xs H Q => ∃ z : Str, xs = [.str z] ∧ z.length ≤ sizeLine ∧ ∀ l, H l = none → Q (.ref l) (upd H l (.lst ((sgn z).map V.str)))) := by
  intro pins s σ H xs us Q I r h
  obtain ⟨z, rfl, hz, q⟩ := h
  obtain ⟨u, rfl, rx⟩ := vals1 r
  obtain ⟨t, rfl⟩ := rx
  refine call_list_str hh z t (hn := hz) fun h' tk acc c kp hS hacc => ?_
  refine ⟨.ref s.heap.objs.size, _, I.laid (t' := tk) (o := .lst ((sgn z).map V.str)) kp (Nat.le_refl _) ?_, rfl, q _ (I.hok.fresh (Nat.le_refl _))⟩
  refine ⟨?_, acc.toList, c, ?_, ?_⟩
  · have e : ((sgn z).map V.str).length = z.length := by simp [sgn, Str.length]
    rw [e]; exact hz
  · refine vals_pt ?_ ?_
    · simp [sgn, hacc.1]
    · intro j x u hx hu
      obtain ⟨c, w, hc, rfl⟩ := hacc.2 j u (by simpa using hu)
      have : x = V.str ⟨#[c]⟩ := by
        simp [sgn, hc] at hx
        exact hx.symm
      subst this
      exact ⟨w, rfl⟩
  · simpa using hS

/-- a text n times -/
def repS (z : Str) (n : Nat) : Str := ⟨(List.replicate n z.cps).foldl (· ++ ·) #[]⟩
theorem op_mul_str {X : Cx} : OpR X (binaryOp .Mult) (fun x y H Q => ∃ (z : Str) (k : Int), x = .str z ∧ y = .int k ∧ 1 ≤ k ∧ k ≤ 1000000 ∧ 1 ≤ z.length ∧ z.length * k.toNat ≤ sizeLine ∧ Q (.str (repS z k.toNat)) H) := by
  intro pins s σ H x y v u Q I rx ry h
  obtain ⟨z, k, rfl, rfl, h1, h2, h3, h4, q⟩ := h
  obtain ⟨t, rfl⟩ := rx
  obtain ⟨w, rfl⟩ := ry
  have hsl := sizeLine_eq
  refine P.mul_str ?_ ?_ ?_ ?_
  · have a1 : ¬ k < -(2 ^ 63 : Int) := by omega
    have a2 : ¬ k ≥ 2 ^ 63 := by omega
    rw [decide_eq_false a1, decide_eq_false a2]; rfl
  · intro _ _ hgt
    have hlen : (z.length : Int) ≤ 16777216 := by
      have : z.length * 1 ≤ z.length * k.toNat := Nat.mul_le_mul_left _ (by omega)
      omega
    have hq : (16777216 : Int) ≤ (2 ^ 63 - 1) / k := by
      rw [Int.le_ediv_iff_mul_le (by omega)]
      omega
    omega
  · intro _ _
    unfold Builtin.Str.tooLong
    exact decide_eq_false (by omega)
  · rw [if_neg (by omega)]
    by_cases c : (k == 1 || z.length == 0) = true
    · rw [if_pos c]
      have hk : k = 1 := by
        have h0 : (z.length == 0) = false := by simp; omega
        rw [h0, Bool.or_false] at c
        exact eq_of_beq c
      subst hk
      have e : repS z (1 : Int).toNat = z := by
        show (⟨(List.replicate 1 z.cps).foldl (· ++ ·) #[]⟩ : Str) = z
        simp [List.replicate]
      rw [e] at q
      exact ⟨.str z, H, I, ⟨t, rfl⟩, q⟩
    · rw [if_neg c]
      refine ⟨?_, .str _, H, I.tok _, ⟨_, rfl⟩, q⟩
      have e : ∀ (n : Nat) (a : Array Nat), ((List.replicate n z.cps).foldl (· ++ ·) a).size = a.size + n * z.cps.size := by
        intro n
        induction n with
        | zero => intro a; simp
        | succ n ih => intro a; rw [List.replicate_succ, List.foldl_cons, ih, Array.size_append, Nat.add_mul]; omega
      show ((List.replicate k.toNat z.cps).foldl (· ++ ·) #[]).size ≤ sizeLine
      rw [e]
      have : k.toNat * z.cps.size = z.length * k.toNat := Nat.mul_comm _ _
      simp only [Array.size_empty, Nat.zero_add]
      omega

/-- a text read from its end -/
def revS (z : Str) : Str := ⟨z.cps.toList.reverse.toArray⟩
def tRevS (te : TE) : TE := fun σ H Q => te σ H fun x H1 => ∃ z : Str, x = .str z ∧ z.length ≤ sizeLine ∧ Q (.str (revS z)) H1
theorem picked_rev (z : Str) (u : Tok) : ((slicePicked z none none (some (-1, u))).filterMap (z.cps[·]?)).toArray = z.cps.toList.reverse.toArray := by
  have e : slicePicked z none none (some (-1, u)) = sliceRange ((z.cps.size : Int) - 1) (-1) (-1) := by
    first
      | rfl
      | simp [slicePicked, Builtin.Str.strSliceIndices, Str.length]
  rw [e, PySem.W.krv_sliceRange, PySem.W.krv_range, List.filterMap_reverse, PySem.W.krv_all]
section
variable {X : Cx}
theorem pe_revS {e : Expr} {te : TE} {k : Nat} {p1 p2 p3 pos : Pos} (he : PE X e te) : PE X (.Subscript e (.Slice none none (some (.UnaryOp .USub (.Constant (.int 1) k p1) p2)) p3) pos) (tRevS te) := by
  refine ⟨fun pins s σ H Q I h => ?_⟩
  refine Subscript_ (thn (he.run pins s σ H _ I h) fun v s1 ⟨x, H1, I1, r1, z, ez, hz, q⟩ => ?_)
  subst ez
  obtain ⟨t, rfl⟩ := r1
  have hst : PO X (some (.UnaryOp .USub (.Constant (.int 1) k p1) p2)) (tPart (tUn (rU fun i => .int (-i)) (tC (.int 1)))) := po_some (pe_un un_neg pe_int)
  refine wpAny_Slice (thn (po_none.run pins s1 σ H1 (fun o G => o = none ∧ G = H1) I1 ⟨rfl, rfl⟩) fun vl s2 ⟨l, G2, I2, pl, el, g2⟩ => ?_)
  subst el g2
  refine thn (po_none.run pins s2 σ G2 (fun o G => o = none ∧ G = G2) I2 ⟨rfl, rfl⟩) fun vu s3 ⟨u, G3, I3, pu, eu, g3⟩ => ?_
  subst eu g3
  refine thn (hst.run pins s3 σ G3 (fun o G => o = some (-1) ∧ G = G3) I3 ⟨1, rfl, -1, rfl, rfl, rfl⟩) fun vs s4 ⟨o, G4, I4, ps, eo, g4⟩ => ?_
  subst eo g4
  obtain ⟨l', el, fl⟩ := IsPart.raw pl
  obtain ⟨u', eu, fu⟩ := IsPart.raw pu
  obtain ⟨w', ew, fw⟩ := IsPart.raw ps
  have l0 : l' = none := by cases l' <;> simp_all
  have u0 : u' = none := by cases u' <;> simp_all
  obtain ⟨tw, w0⟩ : ∃ tw, w' = some (-1, tw) := by
    cases w' with
    | none => simp at fw
    | some p => obtain ⟨a, b⟩ := p; simp at fw; exact ⟨b, by rw [← fw]⟩
  subst l0 u0 w0
  have I5 : Inv X pins σ G4 { s4 with heap := s4.heap.push { cls := .type "slice", data := .fields #[vl, vu, vs] } } := I4.kept (t' := s4.toks) fun b ob q => Heap.get?_push_of_some _ q
  show wpAny (model X.prog X.w) X.A (subscriptTail e (.Slice none none (some (.UnaryOp .USub (.Constant (.int 1) k p1) p2)) p3) (.str z t) (.ref s4.heap.objs.size)) (EP X pins σ Q) X.xe { s4 with heap := s4.heap.push { cls := .type "slice", data := .fields #[vl, vu, vs] } }
  refine tail_any (ops := [.str z t, .ref s4.heap.objs.size]) (typeIs_str _ _ _) (PySem.F.slot_str_getitem.lookup) ?_ (by with_unfolding_all rfl)
  have hsl : Heap.IsSlice (s4.heap.push { cls := .type "slice", data := .fields #[vl, vu, vs] }) s4.heap.objs.size none none (some (-1, tw)) := by
    rw [el, eu, ew]
    exact ⟨_, Heap.get?_push_size _ rfl, rfl, rfl⟩
  refine wpAny_getItem_str_slice (l := none) (u := none) (st := some (-1, tw)) hsl rfl ?_
  have em : sliceMade z t none none (some (-1, tw)) = Made.str (revS z) := by
    unfold sliceMade
    rw [if_neg (by simp), picked_rev]
    rfl
  rw [em]
  refine ⟨?_, .str _, G4, I5.tok _, ⟨_, rfl⟩, q⟩
  simpa [revS, Str.length] using hz
end
end K1

/-! Br2 -/
/-! Readings, backwards: one lemma for each word of a reading, so that straight code runs by itself. -/
namespace K1
open PySem L2
section
variable {σ : L2.St} {H : Hp} {Q : VK} {v : V} {i : Nat} {ta tb te : TE} {t : TA} {nx : L2.St → Hp → Prop} {rt : VK} {bk ct : L2.St → Hp → Prop}
theorem r_var (h : σ[i]? = some (some v)) (q : Q v H) : tVar i σ H Q := ⟨v, h, q⟩
theorem r_c (q : Q v H) : tC v σ H Q := q
theorem r_op {r : R2} (q : ta σ H fun x H1 => tb σ H1 fun y H2 => r x y H2 Q) : tOp r ta tb σ H Q := q
theorem r_un {r : V → Hp → VK → Prop} (q : ta σ H fun x H1 => r x H1 Q) : tUn r ta σ H Q := q
theorem r_I0 {g : Int → Int → V} {a b : Int} (q : Q (g a b) H) : rI0 g (.int a) (.int b) H Q := ⟨a, b, rfl, rfl, q⟩
theorem r_I {C : Int → Int → Prop} {g : Int → Int → V} {a b : Int} (c : C a b) (q : Q (g a b) H) : rI C g (.int a) (.int b) H Q := ⟨a, b, rfl, rfl, c, q⟩
theorem r_test {R : Bool → Hp → Prop} (q : te σ H fun x H' => ∃ k, x = .bl k ∧ R k H') : tTest te σ H R := q
theorem r_bl {b : Bool} {R : Bool → Hp → Prop} (q : R b H) : ∃ k, V.bl b = .bl k ∧ R k H := ⟨b, rfl, q⟩
theorem r_if {c : TT} (q : c σ H fun b H1 => if b = true then ta σ H1 Q else tb σ H1 Q) : tIf c ta tb σ H Q := q
theorem r_ifs {c : TT} {u w : TS} {D : Ends} (q : c σ H fun b H1 => if b = true then u D σ H1 else w D σ H1) : tIfS c u w D σ H := q
theorem r_ite {p : Prop} {dp : Decidable p} {A B : Prop} (h1 : p → A) (h2 : ¬ p → B) : if decide p = true then A else B := by
  by_cases h : p
  · rw [decide_eq_true h, if_pos rfl]; exact h1 h
  · rw [decide_eq_false h, if_neg Bool.false_ne_true]; exact h2 h
theorem r_iteN {p : Prop} {dp : Decidable p} {A B : Prop} (h1 : ¬ p → A) (h2 : p → B) : if (!decide p) = true then A else B := by
  by_cases h : p
  · rw [decide_eq_true h]; exact h2 h
  · rw [decide_eq_false h]; exact h1 h
theorem r_iteT {A B : Prop} (h1 : A) : if true = true then A else B := h1
theorem r_iteF {A B : Prop} (h1 : B) : if false = true then A else B := h1
theorem r_iteB {b : Bool} {A B : Prop} (h1 : b = true → A) (h2 : b = false → B) : if b = true then A else B := by
  cases b
  · exact h2 rfl
  · exact h1 rfl
theorem r_and {c d : TT} {R : Bool → Hp → Prop} (q : c σ H fun b H1 => if b = true then d σ H1 R else R false H1) : tAnd c d σ H R := q
theorem r_or {c d : TT} {R : Bool → Hp → Prop} (q : c σ H fun b H1 => if b = true then R true H1 else d σ H1 R) : tOr c d σ H R := q
theorem r_not {c : TT} {R : Bool → Hp → Prop} (q : c σ H fun b H1 => R (!b) H1) : tNot c σ H R := q
theorem r_tB {R : Bool → Hp → Prop} (q : te σ H fun x H' => ∃ k, x = .bl k ∧ R k H') : tB te σ H R := q
theorem r_andV (q : ta σ H fun x H1 => ∃ c, x = .bl c ∧ if c = true then tb σ H1 Q else Q (.bl false) H1) : tAndV ta tb σ H Q := q
theorem r_orV (q : ta σ H fun x H1 => ∃ c, x = .bl c ∧ if c = true then Q (.bl true) H1 else tb σ H1 Q) : tOrV ta tb σ H Q := q
theorem r_notV (q : ta σ H fun x H1 => ∃ c, x = .bl c ∧ Q (.bl (!c)) H1) : tNotV ta σ H Q := q
theorem r_cb {r : List V → Hp → VK → Prop} (q : t σ H fun vs H1 => r vs H1 Q) : tCB r t σ H Q := q
theorem r_cons {tr : TA} {R : List V → Hp → Prop} (q : ta σ H fun x H1 => tr σ H1 fun xs H2 => R (x :: xs) H2) : tCons ta tr σ H R := q
theorem r_nil {R : List V → Hp → Prop} (q : R [] H) : tNil σ H R := q
theorem r_seq {u w : TS} (q : u ⟨w ⟨nx, rt, bk, ct⟩, rt, bk, ct⟩ σ H) : tSeq u w ⟨nx, rt, bk, ct⟩ σ H := q
theorem r_asg {g : TG} (q : te σ H fun x H1 => g x σ H1 nx) : tAsg te g ⟨nx, rt, bk, ct⟩ σ H := q
theorem r_name {R : L2.St → Hp → Prop} (q : R (σ.set i (some v)) H) : gName i v σ H R := q
theorem r_ret (q : te σ H rt) : tRet te ⟨nx, rt, bk, ct⟩ σ H := q
theorem r_next (q : nx σ H) : tNext ⟨nx, rt, bk, ct⟩ σ H := q
theorem r_drop (q : te σ H fun _ H1 => nx σ H1) : tDrop te ⟨nx, rt, bk, ct⟩ σ H := q
theorem r_lst (q : t σ H fun xs H1 => xs.length ≤ sizeLine ∧ ∀ p, H1 p = none → Q (.ref p) (upd H1 p (.lst xs))) : tLst t σ H Q := q
theorem r_tup (q : t σ H fun xs H1 => xs.length ≤ sizeLine ∧ ∀ p, H1 p = none → Q (.ref p) (upd H1 p (.tup xs))) : tTup t σ H Q := q
theorem r_call {sp : Sp} {dvs : List V} {E : XK} (q : t σ H fun vs H1 => sp (vs ++ dvs) H1 Q E) : tCall sp dvs E t σ H Q := q
theorem r_gsub {to ti : TE} {s : TSet} {R : L2.St → Hp → Prop} (q : to σ H fun o H1 => ti σ H1 fun i H2 => s o i v H2 fun H3 => R σ H3) : gSub to ti s v σ H R := q
theorem r_for {wi : TI} {g : TG} {u : TS} {D : Ends} (q : wi σ H fun J H1 => ∃ W : Nat → Nat → L2.St → Hp → Prop, (∃ m, W 0 m σ H1) ∧ ∀ i m σ H, W i m σ H →
    ((J.stop i H ∧ D.nx σ H) ∨ (J.go i H ∧ ∃ N : L2.St → Hp → Prop, (∀ σ' H', N σ' H' → ∃ m', m' < m ∧ W (i + 1) m' σ' H') ∧ ∀ x H', J.yld i H x H' → g x σ H' fun σ2 H2 => u { D with nx := N, ct := N, bk := D.nx } σ2 H2))) : tFor wi g u D σ H := q
end
section
variable {K : PySem.W.Frag} {σ : L2.St} {H : Hp} {Q : VK} {v : V} {a : Addr} {xs : List V}
theorem lenL (h : SqL K H a xs) : LenV K (.ref a) H xs.length := .inl ⟨_, h, rfl⟩
theorem lenT (h : SqT K H a xs) : LenV K (.ref a) H xs.length := .inr ⟨_, h, rfl⟩
theorem lenS {x : Str} (h : x.length ≤ sizeLine) : LenV K (.str x) H x.length := ⟨h, rfl⟩
theorem r_len {y : V} {n : Nat} {R : VK} (h : LenV K y H n) (q : R (.int n) H) : ∃ x n, [y] = [x] ∧ LenV K x H n ∧ R (V.int n) H := ⟨y, n, rfl, h, q⟩
theorem r_ixL {i : Int} (h : SqL K H a xs) (e : atI xs i = some v) (q : Q v H) : rIxL K (.ref a) (.int i) H Q := ⟨a, xs, i, v, rfl, rfl, h, e, q⟩
theorem r_ixT {i : Int} (h : SqT K H a xs) (e : atI xs i = some v) (q : Q v H) : rIxT K (.ref a) (.int i) H Q := ⟨a, xs, i, v, rfl, rfl, h, e, q⟩
theorem r_ixS {x : Str} {i : Int} {c : Nat} (h : x.length ≤ sizeLine) (e : atI x.cps.toList i = some c) (q : Q (.str ⟨#[c]⟩) H) : rIxS (.str x) (.int i) H Q := ⟨x, i, c, rfl, rfl, h, e, q⟩
theorem r_sum {ns : List Int} (h : SqL K H a (ns.map V.int)) (q : Q (.int ns.sum) H) : rSum K [.ref a] H Q := ⟨a, ns, rfl, h, q⟩
theorem at_int {ns : List Int} {i : Int} (h0 : 0 ≤ i) (h1 : i < ns.length) : ∃ z, atI (ns.map V.int) i = some (.int z) ∧ z ∈ ns := by
  obtain ⟨j, rfl⟩ : ∃ j : Nat, i = j := ⟨i.toNat, by omega⟩
  have hj : j < ns.length := by omega
  exact ⟨ns[j], atI_nat (by simp [hj]), List.getElem_mem _⟩
theorem r_setL {i : Int} {j : Nat} {R : Hp → Prop} (h : H a = some (.lst xs)) (e : ixN xs.length i = some j) (q : R (upd H a (.lst (xs.set j v)))) : rSetL (.ref a) (.int i) v H R := ⟨a, xs, i, j, rfl, rfl, h, e, q⟩
end
section
variable {K : PySem.W.Frag} {σ : L2.St} {H : Hp} {a D : Addr} {xs : List V} {vs : List Nat} {te : TE} {Qd : Hp → Prop}
theorem same_new {o : HO} (h : H D = none) : Same H (upd H D o) := fun b u e => by
  rw [upd_ne (ne_of_none e h)]
  exact e
theorem sqL_new {o : HO} (h : H D = none) (q : SqL K H a xs) : SqL K (upd H D o) a xs := (same_new h).seq q
/-- [f x for x in xs], the element's value told, the heap left as it was -/
theorem lc_map {i : Nat} (f : V → V) (hS : SqL K H a xs) (hD : H D = none) (hz : xs.length ≤ sizeLine) (hw : ∀ x, wipe ((wipe σ vs).set i (some x)) vs = wipe σ vs)
    (he : ∀ x ∈ xs, ∀ (H' : Hp) (R : VK), Same H H' → R (f x) H' → te ((wipe σ vs).set i (some x)) H' R) (hd : Qd (upd H D (.lst (xs.map f)))) :
    ∃ W : Nat → Nat → Hp → Prop, (∃ m, W 0 m (upd H D (.lst []))) ∧ ∀ i₁ m H, W i₁ m H →
      ((Itl K a).stop i₁ H ∧ Qd H) ∨ ((Itl K a).go i₁ H ∧ ∃ Nx : Hp → Prop, (∀ H', Nx H' → ∃ m', m' < m ∧ W (i₁ + 1) m' H') ∧ ∀ x H', (Itl K a).yld i₁ H x H' → gName i x (wipe σ vs) H' fun σ2 H2 => wipe σ2 vs = wipe σ vs ∧ tYes σ2 H2 fun b H3 =>
        if b = true then te σ2 H3 fun y H4 => ∃ acc, H4 D = some (.lst acc) ∧ acc.length < sizeLine ∧ Nx (upd H4 D (.lst (acc ++ [y]))) else Nx H3) := by
  refine lc_list (K := K) (a := a) (xs := xs) (fun j H' => H' = upd H D (.lst ((xs.take j).map f))) (by simp) (fun j H' _ e => by rw [e]; exact sqL_new hD hS) ?_ (fun H' e => by rw [e, List.take_length]; exact hd)
  rintro j x H' hx rfl
  have hj : j < xs.length := (List.getElem?_eq_some_iff.mp hx).1
  have hm : x ∈ xs := List.mem_of_getElem? hx
  refine ⟨hw x, ?_⟩
  show te _ _ _
  refine he x hm _ _ (same_new hD) ⟨_, upd_same, ?_, ?_⟩
  · simp only [List.length_map, List.length_take]
    omega
  · rw [upd_upd, List.take_succ, hx]
    simp
end
/-! ### own defs -/
def Own (P : Program) (w : World) (K : PySem.W.Frag) (mg : Str → Option Value) (base : Heap) (x : Str) (k : Nat) (ps : List Str) (sp : Sp) : Prop :=
  ∃ (f : Addr) (fd : FuncData), FnOk P w K mg base CX0 k f fd ps sp ∧ mg x = some (.ref f) ∧ PySem.W.keepIn K (.ref f) = true ∧ Binds K fd ps []
theorem pe_own {X : Cx} {x : Str} {k : Nat} {ps : List Str} {sp : Sp} {e : Expr} {es : List Expr} {t : TA} {p pos : Pos} (O : Own X.prog X.w X.K X.mg X.base x k ps sp) (hr : Room k X.A) (ha : PA X (e :: es) t) (hg : Gl X x := by rfl)
    (hdb : (x == ("__debug__" : Str)) = false := by decide) (he : starEach (e :: es) X.env = (false, eval e X.env) :: starEach es X.env := by rfl) (hpl : (backTo pos (starEach es X.env)).any (·.1) = false := by rfl) :
    PE X (.Call (.Name x p) (e :: es) [] pos) (tCall sp [] E0 t) := by
  obtain ⟨f, fd, G, m, kp, b⟩ := O
  exact pe_call G hr hg m kp b .nil pass0 ha hdb he hpl
theorem Own.imp {P : Program} {w : World} {K : PySem.W.Frag} {mg : Str → Option Value} {base : Heap} {x : Str} {k : Nat} {ps : List Str} {sp sp' : Sp} (O : Own P w K mg base x k ps sp) (h : ∀ vs H Q E, sp' vs H Q E → sp vs H Q E) : Own P w K mg base x k ps sp' := by
  obtain ⟨f, fd, G, r⟩ := O
  exact ⟨f, fd, G.imp h, r⟩
/-- everywhere but at b the heap is the same -/
def Off (b : Addr) (H H' : Hp) : Prop := ∀ c, c ≠ b → H' c = H c
theorem Off.refl (b : Addr) (H : Hp) : Off b H H := fun _ _ => rfl
theorem Off.trans {b : Addr} {H H1 H2 : Hp} (x : Off b H H1) (y : Off b H1 H2) : Off b H H2 := fun c h => (y c h).trans (x c h)
theorem Off.upd {b : Addr} {H : Hp} {o : HO} : Off b H (upd H b o) := fun _ h => upd_ne h
theorem Off.at {b c : Addr} {H H' : Hp} {o : HO} (x : Off b H H') (h : c ≠ b) (e : H c = some o) : H' c = some o := (x c h).trans e
theorem Off.none {b c : Addr} {H H' : Hp} {u : HO} (x : Off b H H') (hb : H b = some u) (hb' : ∃ u, H' b = some u) (e : H c = none) : H' c = none := by
  by_cases h : c = b
  · subst h; rw [hb] at e; cases e
  · exact (x c h).trans e
theorem Off.free {b c : Addr} {H H' : Hp} (x : Off b H H') (hb' : ∃ u, H' b = some u) (e : H' c = Option.none) : c ≠ b ∧ H c = Option.none := by
  have h : c ≠ b := fun h => by obtain ⟨u, q⟩ := hb'; rw [h, q] at e; cases e
  exact ⟨h, (x c h).symm.trans e⟩
section
variable {K : PySem.W.Frag} {σ : L2.St} {H : Hp} {Q : VK} {v : V} {a : Addr} {xs : List V} {te to : TE} {t : TA} {lo hi : Option Int}
theorem r_bm {T : String} {r : V → List V → Hp → VK → Prop} (q : to σ H fun x H1 => tyV K T x H1 ∧ t σ H1 fun ys H2 => r x ys H2 Q) : tBM K T r to t σ H Q := q
theorem r_bm0 {T : String} {r : V → List V → Hp → VK → Prop} (q : to σ H fun x H1 => tyV K T x H1 ∧ r x [] H1 Q) : tBM0 K T r to σ H Q := q
theorem r_sl {r : V → Option Int → Option Int → Hp → VK → Prop} {tl th : TO} (q : te σ H fun x H1 => tl σ H1 fun l H2 => th σ H2 fun u H3 => r x l u H3 Q) : tSl r te tl th σ H Q := q
theorem r_noPart {R : Option Int → Hp → Prop} (q : R none H) : tNoPart σ H R := q
theorem r_part {R : Option Int → Hp → Prop} (q : te σ H fun x H1 => ∃ i, x = .int i ∧ R (some i) H1) : tPart te σ H R := q
theorem r_slS {z : Str} (h : z.length ≤ sizeLine) (q : Q (.str (cutS z lo hi)) H) : rSlS (.str z) lo hi H Q := ⟨z, rfl, h, q⟩
theorem r_slL (h : SqL K H a xs) (q : ∀ p, H p = none → Q (.ref p) (upd H p (.lst (cutV xs lo hi)))) : rSlL K (.ref a) lo hi H Q := ⟨a, xs, rfl, h, q⟩
theorem r_iStr {R : It → Hp → Prop} (q : te σ H fun w H1 => ∃ x, w = .str x ∧ R (Its x) H1) : iStr te σ H R := q
theorem r_iRng1 {R : It → Hp → Prop} (q : t σ H fun vs H1 => ∃ j : Int, vs = [.int j] ∧ -(2 ^ 62) ≤ j ∧ j < 2 ^ 62 ∧ R (Itr 0 j.toNat) H1) : iRng1 t σ H R := q
theorem r_m1 {r : V → List V → Hp → VK → Prop} (q : to σ H fun x H1 => (∃ z, x = .str z) ∧ te σ H1 fun y H2 => r x [y] H2 Q) : tM1 r to te σ H Q := q
theorem tyL {H : Hp} (h : SqL K H a xs) : tyV K "list" (.ref a) H := .inl ⟨rfl, _, h⟩
theorem SqL.off {b : Addr} {H' : Hp} (h : SqL K H a xs) (n : a ≠ b) (o : Off b H H') : SqL K H' a xs := by
  rcases h with (h | ⟨u, h⟩) | h
  · exact .inl (.inl (o.at n h))
  · exact .inl (.inr ⟨u, o.at n h⟩)
  · exact .inr h
/-- what was tracked stands, but at b -/
def Kp (b : Addr) (H H' : Hp) : Prop := ∀ c o, c ≠ b → H c = some o → H' c = some o
theorem Kp.refl (b : Addr) (H : Hp) : Kp b H H := fun _ _ _ e => e
theorem Kp.trans {b : Addr} {H H1 H2 : Hp} (x : Kp b H H1) (y : Kp b H1 H2) : Kp b H H2 := fun c o n e => y c o n (x c o n e)
theorem Off.kp {b : Addr} {H H' : Hp} (x : Off b H H') : Kp b H H' := fun c o n e => x.at n e
theorem Same.kp {b : Addr} {H H' : Hp} (x : Same H H') : Kp b H H' := fun c o _ e => x c o e
theorem Kp.seq {b : Addr} {H' : Hp} (o : Kp b H H') (n : a ≠ b) (h : SqL K H a xs) : SqL K H' a xs := by
  rcases h with (h | ⟨u, h⟩) | h
  · exact .inl (.inl (o _ _ n h))
  · exact .inl (.inr ⟨u, o _ _ n h⟩)
  · exact .inr h
theorem Kp.free {b c : Addr} {H' : Hp} {u : HO} (o : Kp b H H') (hb : H' b = some u) (e : H' c = none) : H c = none := by
  cases q : H c with
  | none => rfl
  | some w =>
    have n : c ≠ b := fun z => by rw [z, hb] at e; cases e
    rw [o c w n q] at e
    cases e
theorem Kp.off {b c : Addr} {H' H2 : Hp} {u : HO} (o : Kp b H H') (x : Off c H' H2) (hc : H c = none) (hb : H b = some u) : Kp b H H2 := fun d w n e => by
  have z : d ≠ c := fun z => by rw [z, hc] at e; cases e
  exact x.at z (o d w n e)
theorem Kp.same {b : Addr} {H' : Hp} (o : Kp b H H') (hb : H b = none) : Same H H' := fun c w e => o c w (fun z => by rw [z, hb] at e; cases e) e
/-- a row: a text's signs, or a list's items -/
def RowAt (K : PySem.W.Frag) (H : Hp) (b : Addr) (r : V) (items : List V) : Prop :=
  (∃ z : Str, r = .str z ∧ items = (sgn z).map V.str ∧ z.length ≤ 1000) ∨ ∃ l, r = .ref l ∧ SqL K H l items ∧ l ≠ b ∧ items.length ≤ 1000
theorem sgn_len (z : Str) : (sgn z).length = z.length := by simp [sgn, Str.length]
theorem small_line {n : Nat} (h : n ≤ 1000) : n ≤ sizeLine := Nat.le_of_lt (small1000 h)
theorem RowAt.len {K : PySem.W.Frag} {H : Hp} {b : Addr} {r : V} {items : List V} (h : RowAt K H b r items) : LenV K r H items.length ∧ items.length ≤ 1000 := by
  rcases h with ⟨z, rfl, rfl, hz⟩ | ⟨l, rfl, h, _, hz⟩
  · rw [List.length_map, sgn_len]
    exact ⟨lenS (small_line hz), hz⟩
  · exact ⟨lenL h, hz⟩
theorem r_rowix {b : Addr} {r : V} {items : List V} {i : Int} {x : V} (h : RowAt K H b r items) (e : atI items i = some x) (q : Q x H) : rIx K r (.int i) H Q := by
  rcases h with ⟨z, rfl, rfl, hz⟩ | ⟨l, rfl, h, _, hz⟩
  · refine .inr (.inr ?_)
    have e' : atI z.cps.toList i = (atI z.cps.toList i) := rfl
    unfold atI at e
    have el : ((sgn z).map V.str).length = z.cps.toList.length := by simp [sgn]
    rw [el] at e
    cases hj : ixN z.cps.toList.length i with
    | none => rw [hj] at e; cases e
    | some j =>
      rw [hj] at e
      have e2 : ((sgn z).map V.str)[j]? = some x := e
      cases hc : z.cps.toList[j]? with
      | none =>
        rw [sgn, List.map_map, List.getElem?_map, hc] at e2
        cases e2
      | some c =>
        rw [sgn, List.map_map, List.getElem?_map, hc] at e2
        have e3 : x = V.str ⟨#[c]⟩ := (Option.some.inj e2).symm
        subst e3
        exact r_ixS (small_line hz) (by unfold atI; rw [hj]; exact hc) q
  · exact .inl (r_ixL h e q)
theorem RowAt.off {b : Addr} {r : V} {items : List V} {H' : Hp} (h : RowAt K H b r items) (o : Off b H H') : RowAt K H' b r items := by
  rcases h with ⟨z, e⟩ | ⟨l, rfl, h, n, hz⟩
  · exact .inl ⟨z, e⟩
  · exact .inr ⟨l, rfl, SqL.off h n o, n, hz⟩
theorem at_nat' {α : Type} {xs : List α} {i : Int} (h0 : 0 ≤ i) (h1 : i < xs.length) : ∃ x, atI xs i = some x ∧ x ∈ xs ∧ xs[i.toNat]? = some x := by
  obtain ⟨j, rfl⟩ : ∃ j : Nat, i = j := ⟨i.toNat, by omega⟩
  have hj : j < xs.length := by omega
  exact ⟨xs[j], atI_nat (by simp [hj]), List.getElem_mem _, by simp [hj]⟩
end
section
variable {K : PySem.W.Frag} {a : Addr} {xs : List V} {lo : Int} {n : Nat} {g : TG} {tb : TS} {nx : L2.St → Hp → Prop} {rt : VK} {σ : L2.St} {H : Hp}
/-- a for over a range, the ends written out -/
theorem fr_range (Pv : Nat → L2.St → Hp → Prop) (h0 : Pv 0 σ H)
    (hs : ∀ i σ H, i < n → Pv i σ H → g (.int (lo + i)) σ H fun σ2 H2 => tb ⟨Pv (i + 1), rt, nx, Pv (i + 1)⟩ σ2 H2) (hd : ∀ σ H, Pv n σ H → nx σ H) :
    ∃ W : Nat → Nat → L2.St → Hp → Prop, (∃ m, W 0 m σ H) ∧ ∀ i m σ H, W i m σ H →
      ((Itr lo n).stop i H ∧ nx σ H) ∨ ((Itr lo n).go i H ∧ ∃ N : L2.St → Hp → Prop, (∀ σ' H', N σ' H' → ∃ m', m' < m ∧ W (i + 1) m' σ' H') ∧ ∀ x H', (Itr lo n).yld i H x H' → g x σ H' fun σ2 H2 => tb ⟨N, rt, nx, N⟩ σ2 H2) :=
  for_range (D := ⟨nx, rt, nx, nx⟩) Pv h0 hs hd
/-- a for over a list -/
theorem fr_list (Pv : Nat → L2.St → Hp → Prop) (h0 : Pv 0 σ H) (hl : ∀ i σ H, i ≤ xs.length → Pv i σ H → SqL K H a xs)
    (hs : ∀ i x σ H, xs[i]? = some x → Pv i σ H → g x σ H fun σ2 H2 => tb ⟨Pv (i + 1), rt, nx, Pv (i + 1)⟩ σ2 H2) (hd : ∀ σ H, Pv xs.length σ H → nx σ H) :
    ∃ W : Nat → Nat → L2.St → Hp → Prop, (∃ m, W 0 m σ H) ∧ ∀ i m σ H, W i m σ H →
      ((Itl K a).stop i H ∧ nx σ H) ∨ ((Itl K a).go i H ∧ ∃ N : L2.St → Hp → Prop, (∀ σ' H', N σ' H' → ∃ m', m' < m ∧ W (i + 1) m' σ' H') ∧ ∀ x H', (Itl K a).yld i H x H' → g x σ H' fun σ2 H2 => tb ⟨N, rt, nx, N⟩ σ2 H2) :=
  for_list (D := ⟨nx, rt, nx, nx⟩) Pv h0 hl hs hd
theorem fr_tup (Pv : Nat → L2.St → Hp → Prop) (h0 : Pv 0 σ H) (hl : ∀ i σ H, i ≤ xs.length → Pv i σ H → SqT K H a xs)
    (hs : ∀ i x σ H, xs[i]? = some x → Pv i σ H → g x σ H fun σ2 H2 => tb ⟨Pv (i + 1), rt, nx, Pv (i + 1)⟩ σ2 H2) (hd : ∀ σ H, Pv xs.length σ H → nx σ H) :
    ∃ W : Nat → Nat → L2.St → Hp → Prop, (∃ m, W 0 m σ H) ∧ ∀ i m σ H, W i m σ H →
      ((Itt K a).stop i H ∧ nx σ H) ∨ ((Itt K a).go i H ∧ ∃ N : L2.St → Hp → Prop, (∀ σ' H', N σ' H' → ∃ m', m' < m ∧ W (i + 1) m' σ' H') ∧ ∀ x H', (Itt K a).yld i H x H' → g x σ H' fun σ2 H2 => tb ⟨N, rt, nx, N⟩ σ2 H2) :=
  for_tup (D := ⟨nx, rt, nx, nx⟩) Pv h0 hl hs hd
end
end K1

/-! B4 -/
namespace K1
open PySem L2 PyProof.Rows
abbrev tl (z : Str) : List Nat := z.cps.toList
section
variable {K : PySem.W.Frag} {σ : L2.St} {H : Hp} {Q : VK} {x y v : V} {vs : List V}
theorem r_eq (h : scal x y = true) (q : Q (.bl (decide (x = y))) H) : rEq x y H Q := ⟨h, q⟩
theorem r_ne (h : scal x y = true) (q : Q (.bl (!decide (x = y))) H) : rNe x y H Q := ⟨h, q⟩
theorem r_gnil {R : L2.St → Hp → Prop} (q : R σ H) : gNil [] σ H R := ⟨rfl, q⟩
theorem r_gcons {t : TG} {u : TGs} {R : L2.St → Hp → Prop} (q : t v σ H fun σ' H' => u vs σ' H' R) : gCons t u (v :: vs) σ H R := ⟨v, vs, rfl, q⟩
theorem r_isi {c : V} {t u : Value} {b : Bool} (hc : ClsV c u) (ht : TyX K H x t) (hk : PySem.W.kitOne K t u = some b) (q : Q (.bl b) H) : rIsi K [x, c] H Q := ⟨x, c, t, u, b, rfl, hc, ht, hk, q⟩
theorem r_all {a : Addr} {bs : List Bool} (h : SqL K H a (bs.map V.bl)) (q : Q (.bl (bs.all id)) H) : rAll K [.ref a] H Q := ⟨a, bs, rfl, h, q⟩
theorem r_yes {p : Prop} {dp : Decidable p} {A B : Prop} (h : p) (q : A) : if decide p = true then A else B := by
  rw [decide_eq_true h, if_pos rfl]; exact q
theorem r_no {p : Prop} {dp : Decidable p} {A B : Prop} (h : ¬ p) (q : B) : if decide p = true then A else B := by
  rw [decide_eq_false h, if_neg Bool.false_ne_true]; exact q
theorem tyL' {T : String} (e : T = "list") {a : Addr} {xs : List V} (h : SqL K H a xs) : tyV K T (.ref a) H := by rw [e]; exact tyL h
end
section
variable {K : PySem.W.Frag} {σ : L2.St} {H : Hp} {Q : VK} {D : Addr} {vs : List Nat} {te : TE} {Qd : Hp → Prop} {ta tb tc : TE}
theorem r_chain {r r' : R2} (q : ta σ H fun x H1 => tb σ H1 fun y H2 => r x y H2 fun z H3 => ∃ k, z = .bl k ∧ (if k = true then tc σ H3 fun w' H4 => r' y w' H4 Q else Q (.bl false) H3)) : tChain r r' ta tb tc σ H Q := q
/-- [f c for c in text] -/
theorem lc_smap {i : Nat} {z : Str} (f : Nat → V) (hD : H D = none) (hz : z.length ≤ sizeLine) (hw : ∀ x, wipe ((wipe σ vs).set i (some x)) vs = wipe σ vs)
    (he : ∀ c ∈ tl z, ∀ (H' : Hp) (R : VK), Same H H' → R (f c) H' → te ((wipe σ vs).set i (some (.str ⟨#[c]⟩))) H' R) (hd : Qd (upd H D (.lst ((tl z).map f)))) :
    ∃ W : Nat → Nat → Hp → Prop, (∃ m, W 0 m (upd H D (.lst []))) ∧ ∀ i₁ m H, W i₁ m H →
      ((Its z).stop i₁ H ∧ Qd H) ∨ ((Its z).go i₁ H ∧ ∃ Nx : Hp → Prop, (∀ H', Nx H' → ∃ m', m' < m ∧ W (i₁ + 1) m' H') ∧ ∀ x H', (Its z).yld i₁ H x H' → gName i x (wipe σ vs) H' fun σ2 H2 => wipe σ2 vs = wipe σ vs ∧ tYes σ2 H2 fun b H3 =>
        if b = true then te σ2 H3 fun y H4 => ∃ acc, H4 D = some (.lst acc) ∧ acc.length < sizeLine ∧ Nx (upd H4 D (.lst (acc ++ [y]))) else Nx H3) := by
  have hl : z.length = (tl z).length := by simp [Str.length]
  have hsz : z.cps.size = (tl z).length := by simp
  refine ⟨fun j m H' => m = (tl z).length - j ∧ j ≤ (tl z).length ∧ H' = upd H D (.lst (((tl z).take j).map f)), ⟨_, rfl, Nat.zero_le _, rfl⟩, ?_⟩
  rintro j m H' ⟨rfl, hj, rfl⟩
  by_cases hlt : j < (tl z).length
  · refine .inr ⟨by show j < z.cps.size; omega, fun H' => j + 1 ≤ (tl z).length ∧ H' = upd H D (.lst (((tl z).take (j + 1)).map f)), fun H' ⟨a, b⟩ => ⟨(tl z).length - (j + 1), by omega, rfl, a, b⟩, ?_⟩
    rintro x H' ⟨rfl, c, hc, rfl⟩
    have hc' : (tl z)[j]? = some c := by simpa using hc
    refine ⟨hw _, ?_⟩
    show te _ _ _
    refine he c (List.mem_of_getElem? hc') _ _ (same_new hD) ⟨_, upd_same, ?_, by omega, ?_⟩
    · simp only [List.length_map, List.length_take]; omega
    · rw [upd_upd, List.take_succ, hc']; simp
  · have e : j = (tl z).length := by omega
    refine .inl ⟨by show z.cps.size ≤ j; omega, ?_⟩
    rw [e, List.take_length]; exact hd
end
/-! ### a list or a tuple -/
def SqIt (K : PySem.W.Frag) (x : V) (R : It → Hp → Prop) (H1 : Hp) : Prop := ∃ a, x = .ref a ∧ (((∃ xs, SqL K H1 a xs) ∧ R (Itl K a) H1) ∨ ((∃ xs, SqT K H1 a xs) ∧ R (Itt K a) H1))
def iSq (K : PySem.W.Frag) (tl : TE) : TI := fun σ H R => tl σ H fun x H1 => SqIt K x R H1
theorem r_iSq {K : PySem.W.Frag} {te : TE} {σ : L2.St} {H : Hp} {R : It → Hp → Prop} (q : te σ H fun x H1 => SqIt K x R H1) : iSq K te σ H R := q
/-- an iterator that has just been made stands for its walk -/
theorem sq_born {X : Cx} {pins : List (Addr × Obj)} {σ : L2.St} {tg : Expr} {H : Hp} {s : Shared} {J : It} {tn : Nat → Heap → Prop} {R : It → Hp → Prop} {cls : String} {held : Array Value} (known : Inv X pins σ H s)
    (turns : Turn X.prog X.w X.K tg J [s.heap.objs.size] s.heap.objs.size tn) (z : tn 0 (s.heap.push { cls := .type cls, data := .fields held })) (r : R J H) :
    PIE X pins σ tg R (.ref s.heap.objs.size) { s with heap := s.heap.push { cls := .type cls, data := .fields held } } := by
  have still : Inv X pins σ H { s with heap := s.heap.push { cls := .type cls, data := .fields held } } := known.kept (t' := s.toks) fun _ _ => Heap.get?_push_of_some _
  have young : ∀ b ∈ [s.heap.objs.size], FpOk X pins H b := by
    intro b mem
    rw [List.mem_singleton.mp mem]
    exact known.fpOk Nat.le.refl (known.hok.fresh Nat.le.refl)
  exact ⟨_, _, tn, J, H, rfl, still, turns, z, young, r⟩
theorem pi_sq {X : Cx} {tg walked : Expr} {te : TE} (he : PE X walked te) : PI X tg walked (iSq X.K te) where
  run := fun pins s σ H R known reads => by
    refine thn (he.run pins s σ H _ known reads) ?_
    rintro v s1 ⟨x, H1, known1, rel, a, rfl, ⟨⟨xs, isList⟩, r⟩ | ⟨⟨xs, isTup⟩, r⟩⟩
    · obtain ⟨_, _, there, _⟩ := known1.list isList
      cases rel
      exact wpAny_pyIter_list there.isList (sq_born known1 (turn_list a _) ⟨_, Heap.get?_push_size _ rfl, rfl, rfl⟩ r)
    · obtain ⟨cells, _, there, _⟩ := known1.tuple isTup
      cases rel
      exact wpAny_pyIter_tuple (items := cells.toArray) there (sq_born known1 (turn_tuple a _) ⟨_, Heap.get?_push_size _ rfl, rfl, rfl⟩ r)
theorem sl_sq {X : Cx} : SlR X (fun x lo hi H Q => rSlL X.K x lo hi H Q ∨ rSlA X.K x lo hi H Q) := SlR.or sl_list sl_tupA
def Sq (K : PySem.W.Frag) (H : Hp) (v : V) (xs : List V) : Prop := ∃ a, v = .ref a ∧ (SqL K H a xs ∨ SqT K H a xs)
section
variable {K : PySem.W.Frag} {H H' : Hp} {a : Addr} {xs : List V} {v : V}
theorem Same.sqT (e : Same H H') (h : SqT K H a xs) : SqT K H' a xs := by
  rcases h with (h | ⟨o, h⟩) | h
  · exact .inl (.inl (e _ _ h))
  · exact .inl (.inr ⟨o, e _ _ h⟩)
  · exact .inr h
/-- lists and tuples stand -/
def Keeps (K : PySem.W.Frag) (H H' : Hp) : Prop := (∀ a xs, SqL K H a xs → SqL K H' a xs) ∧ ∀ a xs, SqT K H a xs → SqT K H' a xs
theorem Keeps.refl : Keeps K H H := ⟨fun _ _ h => h, fun _ _ h => h⟩
theorem Keeps.trans {H2 : Hp} (x : Keeps K H H') (y : Keeps K H' H2) : Keeps K H H2 := ⟨fun a xs h => y.1 a xs (x.1 a xs h), fun a xs h => y.2 a xs (x.2 a xs h)⟩
theorem Same.keeps (e : Same H H') : Keeps K H H' := ⟨fun _ _ h => e.seq h, fun _ _ h => Same.sqT e h⟩
theorem Kp.keeps {b : Addr} {C dx : Addr} {fs : List (Str × V)} (e : Kp b H H') (hb : H b = some (.ins C dx fs)) : Keeps K H H' := by
  have n1 : ∀ {c : Addr} {o : HO}, H c = some o → (∀ C dx fs, o ≠ .ins C dx fs) → H' c = some o := fun {c o} h k => e c o (fun z => by rw [z, hb] at h; exact k _ _ _ (Option.some.inj h).symm) h
  refine ⟨fun a xs h => ?_, fun a xs h => ?_⟩
  · rcases h with (h | ⟨o, h⟩) | h
    · exact .inl (.inl (n1 h (fun _ _ _ z => by cases z)))
    · exact .inl (.inr ⟨o, n1 h (fun _ _ _ z => by cases z)⟩)
    · exact .inr h
  · rcases h with (h | ⟨o, h⟩) | h
    · exact .inl (.inl (n1 h (fun _ _ _ z => by cases z)))
    · exact .inl (.inr ⟨o, n1 h (fun _ _ _ z => by cases z)⟩)
    · exact .inr h
theorem Kp.sqT {b : Addr} {ys : List V} (e : Kp b H H') (hb : H b = some (.lst ys)) (h : SqT K H a xs) : SqT K H' a xs := by
  have n1 : ∀ {c : Addr} {o : HO}, H c = some o → (∀ ys, o ≠ .lst ys) → H' c = some o := fun {c o} h k => e c o (fun z => by rw [z, hb] at h; exact k _ (Option.some.inj h).symm) h
  rcases h with (h | ⟨o, h⟩) | h
  · exact .inl (.inl (n1 h (fun _ z => by cases z)))
  · exact .inl (.inr ⟨o, n1 h (fun _ z => by cases z)⟩)
  · exact .inr h
theorem Sq.keep (e : Keeps K H H') (h : Sq K H v xs) : Sq K H' v xs := by
  obtain ⟨a, rfl, h | h⟩ := h
  · exact ⟨a, rfl, .inl (e.1 _ _ h)⟩
  · exact ⟨a, rfl, .inr (e.2 _ _ h)⟩
theorem Sq.same (e : Same H H') (h : Sq K H v xs) : Sq K H' v xs := h.keep (Same.keeps e)
theorem Sq.len (h : Sq K H v xs) : LenV K v H xs.length := by
  obtain ⟨a, rfl, h | h⟩ := h
  · exact lenL h
  · exact lenT h
variable {Q : VK} {σ : L2.St}
theorem r_ixSq {i : Int} {y : V} (h : Sq K H v xs) (e : atI xs i = some y) (q : Q y H) : rIx K v (.int i) H Q := by
  obtain ⟨a, rfl, h | h⟩ := h
  · exact .inl (r_ixL h e q)
  · exact .inr (.inl (r_ixT h e q))
theorem r_slSq {lo hi : Option Int} (h : Sq K H v xs) (q : ∀ v' H', Same H H' → Sq K H' v' (cutV xs lo hi) → Q v' H') : rSlL K v lo hi H Q ∨ rSlA K v lo hi H Q := by
  obtain ⟨a, rfl, h | h⟩ := h
  · exact .inl ⟨a, xs, rfl, h, fun p np => q _ _ (same_new np) ⟨p, rfl, .inl (SqL.of upd_same)⟩⟩
  · refine .inr ⟨a, xs, rfl, h, fun w => ?_, fun _ p np => q _ _ (same_new np) ⟨p, rfl, .inr (SqT.of upd_same)⟩⟩
    have e : cutV xs lo hi = xs := by
      unfold cutV
      rw [w.1, w.2, List.drop_zero, Nat.sub_zero, List.take_length]
    exact q _ _ (Same.refl _) (by rw [e]; exact ⟨a, rfl, .inr h⟩)
theorem r_star {te : TE} {t : TA} {R : List V → Hp → Prop} (q : te σ H fun x H1 => ∃ p xs, x = V.ref p ∧ (SqT K H1 p xs ∨ SqL K H1 p xs) ∧ t σ H1 fun ys H2 => R (xs ++ ys) H2) : StX.tStar K te t σ H R := q
theorem r_starSq {R : List V → Prop} (h : Sq K H v xs) (q : R xs) : ∃ p zs, v = V.ref p ∧ (SqT K H p zs ∨ SqL K H p zs) ∧ R zs := by
  obtain ⟨a, rfl, h | h⟩ := h
  · exact ⟨a, xs, rfl, .inr h, q⟩
  · exact ⟨a, xs, rfl, .inl h, q⟩
end
section
variable {K : PySem.W.Frag} {v : V} {xs : List V} {g : TG} {tb : TS} {nx : L2.St → Hp → Prop} {rt : VK} {σ : L2.St} {H : Hp}
/-- what stands at v stands on -/
def KeepAt (K : PySem.W.Frag) (v : V) (H H' : Hp) : Prop := ∀ a xs, v = .ref a → (SqL K H a xs → SqL K H' a xs) ∧ (SqT K H a xs → SqT K H' a xs)
theorem Keeps.at {v : V} {H' : Hp} (k : Keeps K H H') : KeepAt K v H H' := fun a xs _ => ⟨k.1 a xs, k.2 a xs⟩
theorem Kp.at {v : V} {H' : Hp} {L : Addr} (k : Kp L H H') (n : v ≠ .ref L) : KeepAt K v H H' := fun a xs e => by
  have na : a ≠ L := fun q => n (by rw [e, q])
  refine ⟨k.seq na, fun h => ?_⟩
  rcases h with (h | ⟨u, h⟩) | h
  · exact .inl (.inl (k _ _ na h))
  · exact .inl (.inr ⟨u, k _ _ na h⟩)
  · exact .inr h
theorem KeepAt.sq {v : V} {H' : Hp} (k : KeepAt K v H H') (h : Sq K H v xs) : Sq K H' v xs := by
  obtain ⟨a, e, h | h⟩ := h
  · exact ⟨a, e, .inl ((k a xs e).1 h)⟩
  · exact ⟨a, e, .inr ((k a xs e).2 h)⟩
/-- a for over a list or a tuple -/
theorem fr_sq {R : It → Hp → Prop} (h : Sq K H v xs) (Pv : Nat → L2.St → Hp → Prop) (h0 : Pv 0 σ H) (hl : ∀ i σ H', i ≤ xs.length → Pv i σ H' → KeepAt K v H H')
    (hs : ∀ i x σ H, xs[i]? = some x → Pv i σ H → g x σ H fun σ2 H2 => tb ⟨Pv (i + 1), rt, nx, Pv (i + 1)⟩ σ2 H2) (hd : ∀ σ H, Pv xs.length σ H → nx σ H)
    (hR : ∀ J, (∃ W : Nat → Nat → L2.St → Hp → Prop, (∃ m, W 0 m σ H) ∧ ∀ i m σ H, W i m σ H →
      ((It.stop J i H ∧ nx σ H) ∨ (It.go J i H ∧ ∃ N : L2.St → Hp → Prop, (∀ σ' H', N σ' H' → ∃ m', m' < m ∧ W (i + 1) m' σ' H') ∧ ∀ x H', It.yld J i H x H' → g x σ H' fun σ2 H2 => tb ⟨N, rt, nx, N⟩ σ2 H2))) → R J H) :
    SqIt K v R H := by
  obtain ⟨a, rfl, h | h⟩ := h
  · exact ⟨a, rfl, .inl ⟨⟨xs, h⟩, hR _ (fr_list Pv h0 (fun i σ H' hi p => (hl i σ H' hi p a xs rfl).1 h) hs hd)⟩⟩
  · exact ⟨a, rfl, .inr ⟨⟨xs, h⟩, hR _ (fr_tup Pv h0 (fun i σ H' hi p => (hl i σ H' hi p a xs rfl).2 h) hs hd)⟩⟩
/-- a slice that is not the whole: a new thing -/
theorem r_slNew {lo hi : Option Int} {Q : VK} (h : Sq K H v xs) (nw : ¬ (HT.sIx xs.length 0 lo = 0 ∧ HT.sIx xs.length xs.length hi = xs.length)) (q : ∀ p H', H p = none → Same H H' → Sq K H' (.ref p) (cutV xs lo hi) → Q (.ref p) H') : rSlL K v lo hi H Q ∨ rSlA K v lo hi H Q := by
  obtain ⟨a, rfl, h | h⟩ := h
  · exact .inl ⟨a, xs, rfl, h, fun p np => q p _ np (same_new np) ⟨p, rfl, .inl (SqL.of upd_same)⟩⟩
  · exact .inr ⟨a, xs, rfl, h, fun w => absurd w nw, fun _ p np => q p _ np (same_new np) ⟨p, rfl, .inr (SqT.of upd_same)⟩⟩
end
theorem walk_rng {lo : Int} {n : Nat} : Walk (Itr lo n) ((List.range n).map fun i : Nat => V.int (lo + i)).length (fun _ => True) (YAt ((List.range n).map fun i : Nat => V.int (lo + i))) := by
  rw [List.length_map, List.length_range]
  exact walk_range.mono (fun _ h => h) fun i H x H' hi _ y => ⟨y.1, by rw [y.2]; simp [hi]⟩
theorem walk_sgn {z : Str} : Walk (Its z) ((sgn z).map V.str).length (fun _ => True) (YAt ((sgn z).map V.str)) := by
  have e : ((sgn z).map V.str).length = z.cps.size := by simp [sgn]
  rw [e]
  refine walk_str.mono (fun _ h => h) fun i H x H' hi _ y => ⟨y.1, ?_⟩
  obtain ⟨c, hc, rfl⟩ := y.2
  have hc' : z.cps.toList[i]? = some c := by simpa using hc
  simp [sgn, hc']

/-- the list at D holds i things, of which P holds -/
def PP (D : Addr) (P : List V → Hp → Prop) (i : Nat) (H : Hp) : Prop := ∃ acc, acc.length = i ∧ H D = some (.lst acc) ∧ P acc H
theorem pp_next {D : Addr} {P : List V → Hp → Prop} {i : Nat} {H : Hp} {y : V} {acc : List V} (e : H D = some (.lst acc)) (l : acc.length = i) (hi : i < sizeLine) (p : P (acc ++ [y]) (upd H D (.lst (acc ++ [y])))) :
    ∃ acc, H D = some (.lst acc) ∧ acc.length < sizeLine ∧ PP D P (i + 1) (upd H D (.lst (acc ++ [y]))) :=
  ⟨acc, e, by omega, acc ++ [y], by rw [List.length_append, l]; rfl, upd_same, p⟩
section
variable {σ : L2.St} {H : Hp} {D : Addr} {vs : List Nat} {te : TE} {Qd : Hp → Prop} {J : It} {xs : List V} {G : Hp → Prop} {slot : Nat}
/-- [e for x in xs]: P of what is made so far and the heap -/
theorem lc_gen (w : Walk J xs.length G (YAt xs)) (hw : ∀ x, wipe ((wipe σ vs).set slot (some x)) vs = wipe σ vs) (P : List V → Hp → Prop) (h0 : P [] (upd H D (.lst [])))
    (hG : ∀ acc H', H' D = some (.lst acc) → P acc H' → G H')
    (hs : ∀ i x acc H', xs[i]? = some x → acc.length = i → H' D = some (.lst acc) → P acc H' → te ((wipe σ vs).set slot (some x)) H' fun y H4 => ∃ acc, H4 D = some (.lst acc) ∧ acc.length < sizeLine ∧ PP D P (i + 1) (upd H4 D (.lst (acc ++ [y]))))
    (hd : ∀ acc H', acc.length = xs.length → H' D = some (.lst acc) → P acc H' → Qd H') :
    ∃ W : Nat → Nat → Hp → Prop, (∃ m, W 0 m (upd H D (.lst []))) ∧ ∀ i m H, W i m H →
      (J.stop i H ∧ Qd H) ∨ (J.go i H ∧ ∃ Nx : Hp → Prop, (∀ H', Nx H' → ∃ m', m' < m ∧ W (i + 1) m' H') ∧ ∀ x H', J.yld i H x H' → gName slot x (wipe σ vs) H' fun σ2 H2 => wipe σ2 vs = wipe σ vs ∧ tYes σ2 H2 fun b H3 =>
        if b = true then te σ2 H3 fun y H4 => ∃ acc, H4 D = some (.lst acc) ∧ acc.length < sizeLine ∧ Nx (upd H4 D (.lst (acc ++ [y]))) else Nx H3) := by
  refine lc_it w (PP D P) ⟨[], rfl, upd_same, h0⟩ (fun i H' _ ⟨acc, _, e, p⟩ => hG acc H' e p) ?_ (fun H' ⟨acc, l, e, p⟩ => hd acc H' l e p)
  rintro i x H1 H2 hi ⟨acc, l, e, p⟩ ⟨rfl, hx⟩
  refine ⟨hw x, ?_⟩
  show te _ _ _
  exact hs i x acc _ hx l e p
/-- the same over a list or a tuple -/
theorem lc_sq {K : PySem.W.Frag} {v : V} {R : It → Hp → Prop} (h : Sq K H v xs) (hw : ∀ x, wipe ((wipe σ vs).set slot (some x)) vs = wipe σ vs) (P : List V → Hp → Prop) (h0 : ∀ D, H D = none → P [] (upd H D (.lst [])))
    (hG : ∀ D acc H', H D = none → H' D = some (.lst acc) → P acc H' → Keeps K H H')
    (hs : ∀ D i x acc H', H D = none → xs[i]? = some x → acc.length = i → H' D = some (.lst acc) → P acc H' → te ((wipe σ vs).set slot (some x)) H' fun y H4 => ∃ acc, H4 D = some (.lst acc) ∧ acc.length < sizeLine ∧ PP D P (i + 1) (upd H4 D (.lst (acc ++ [y]))))
    (Qe : Addr → Hp → Prop) (hd : ∀ D acc H', H D = none → acc.length = xs.length → H' D = some (.lst acc) → P acc H' → Qe D H')
    (hR : ∀ J, (∀ D, H D = none → ∃ W : Nat → Nat → Hp → Prop, (∃ m, W 0 m (upd H D (.lst []))) ∧ ∀ i m H, W i m H →
      (It.stop J i H ∧ Qe D H) ∨ (It.go J i H ∧ ∃ Nx : Hp → Prop, (∀ H', Nx H' → ∃ m', m' < m ∧ W (i + 1) m' H') ∧ ∀ x H', It.yld J i H x H' → gName slot x (wipe σ vs) H' fun σ2 H2 => wipe σ2 vs = wipe σ vs ∧ tYes σ2 H2 fun b H3 =>
        if b = true then te σ2 H3 fun y H4 => ∃ acc, H4 D = some (.lst acc) ∧ acc.length < sizeLine ∧ Nx (upd H4 D (.lst (acc ++ [y]))) else Nx H3)) → R J H) :
    SqIt K v R H := by
  obtain ⟨a, rfl, h | h⟩ := h
  · exact ⟨a, rfl, .inl ⟨⟨xs, h⟩, hR _ fun D hD => lc_gen walk_list hw P (h0 D hD) (fun acc H' e p => (hG D acc H' hD e p).1 _ _ h) (fun i x acc H' hx l e p => hs D i x acc H' hD hx l e p) (fun acc H' l e p => hd D acc H' hD l e p)⟩⟩
  · exact ⟨a, rfl, .inr ⟨⟨xs, h⟩, hR _ fun D hD => lc_gen walk_tup hw P (h0 D hD) (fun acc H' e p => (hG D acc H' hD e p).2 _ _ h) (fun i x acc H' hx l e p => hs D i x acc H' hD hx l e p) (fun acc H' l e p => hd D acc H' hD l e p)⟩⟩
end
section
variable {K : PySem.W.Frag} {C : Addr}
theorem r_tfld {σ : L2.St} {H : Hp} {Q : VK} {ta : TE} {f : Str} (q : ta σ H fun x H1 => ∃ a C dx fs v, x = .ref a ∧ H1 a = some (.ins C dx fs) ∧ Cls K C ∧ NoAttr K C f ∧ fs.lookup f = some v ∧ Q v H1) : tFld K ta f σ H Q := q
theorem r_sfld {σ : L2.St} {H : Hp} {D : Ends} {ta tv : TE} {f : Str} (q : tv σ H fun y H1 => ta σ H1 fun x H2 => ∃ a C dx fs, x = .ref a ∧ H2 a = some (.ins C dx fs) ∧ Cls K C ∧ NoAttr K C f ∧ fs.length < 1000 ∧
  D.nx σ (upd H2 a (.ins C dx (putF f y fs)))) : sFld K ta tv f D σ H := q
theorem r_meth {σ : L2.St} {H : Hp} {Q : VK} {m : Str} {sp : Sp} {dvs : List V} {E : XK} {ta : TE} {t : TA} (q : ta σ H fun x H1 => ∃ a dx fs, x = .ref a ∧ H1 a = some (.ins C dx fs) ∧ fs.lookup m = none ∧
  t σ H1 fun vs H2 => sp (x :: (vs ++ dvs)) H2 Q E) : tMeth C m sp dvs E ta t σ H Q := q
end
def rTupOf (K : PySem.W.Frag) : List V → Hp → VK → Prop := fun xs H Q => ∃ p ys, xs = [.ref p] ∧ ((SqL K H p ys ∧ ∀ l, H l = none → Q (.ref l) (upd H l (.tup ys))) ∨ (SqT K H p ys ∧ Q (.ref p) H))
theorem call_tupOf {X : Cx} : CallR X (.type "tuple") (rTupOf X.K) := call_tuple_of
end K1

/-! A5 -/
/-! The law's draws: a bag off a cell, a number off a bag. -/

local macro_rules | `(tactic| walk_at "go") => `(tactic| repeat (first
  | with_reducible apply K1.r_seq
  | with_reducible apply K1.r_asg
  | ((with_reducible apply K1.r_name); (try dsimp only [List.set]))
  | ((with_reducible apply K1.r_var); (focus rfl))
  | with_reducible apply K1.r_c
  | with_reducible apply K1.r_op
  | with_reducible apply K1.r_un
  | with_reducible apply K1.r_I0
  | with_reducible apply K1.r_test
  | with_reducible apply K1.r_if
  | with_reducible apply K1.r_ifs
  | with_reducible apply K1.r_iteT
  | with_reducible apply K1.r_iteF
  | with_reducible apply K1.r_and
  | with_reducible apply K1.r_or
  | with_reducible apply K1.r_not
  | with_reducible apply K1.r_tB
  | with_reducible apply K1.r_andV
  | with_reducible apply K1.r_orV
  | with_reducible apply K1.r_notV
  | with_reducible apply K1.r_cb
  | with_reducible apply K1.r_cons
  | with_reducible apply K1.r_nil
  | with_reducible apply K1.r_ret
  | with_reducible apply K1.r_next
  | with_reducible apply K1.r_drop
  | with_reducible apply K1.r_lst
  | with_reducible apply K1.r_tup
  | with_reducible apply K1.r_call
  | with_reducible apply K1.r_gsub
  | with_reducible apply K1.r_for
  | refine ⟨_, rfl, ?_⟩
  | refine Or.inl ⟨_, rfl, ?_⟩
  | dsimp only))

namespace K1
open PySem L2

def top (i : Nat) : Stmt := PySem.Challenge.pw_handcarried_k07_deed_lines.main.body.getD i (.Pass ⟨0, 0, 0, 0⟩)

/-- the built-ins that the module's names leave alone -/
structure Bl (mg : Str → Option Value) : Prop where
  len : mg "len" = none
  sum : mg "sum" = none
  abs : mg "abs" = none
  int : mg "int" = none
  range : mg "range" = none
  list : mg "list" = none
  tuple : mg "tuple" = none
  str : mg "str" = none
  bool : mg "bool" = none
  sorted : mg "sorted" = none
  all : mg "all" = none
  min : mg "min" = none
  isin : mg "isinstance" = none
  max : mg "max" = none

/-- a bag: digits that are left, salt, count of mixed draws (at most n) -/
def IsBag (H : Hp) (b : Addr) (n : Nat) : Prop := ∃ d s c : Int, H b = some (.lst [.int d, .int s, .int c]) ∧ 0 ≤ d ∧ 0 ≤ s ∧ s < 2 ^ 40 ∧ 0 ≤ c ∧ c ≤ n

abbrev sBagOf : Stmt := top 77
abbrev sPick : Stmt := top 78
abbrev nBagOf : List Str := ["_law_script", "_law_at", "_law_cell", "_law_size", "_law_digits", "_law_one"]
theorem scBagOf : FnScope nBagOf ["_law_script", "_law_at"] (defScope sBagOf) := ⟨rfl, rfl, rfl, by decide +kernel, rfl, by decide +kernel, by decide +kernel⟩
abbrev nPick : List Str := ["_law_bag", "_law_many", "_law_digit", "_law_one", "_law_two"]
theorem scPick : FnScope nPick ["_law_bag", "_law_many"] (defScope sPick) := ⟨rfl, rfl, rfl, by decide +kernel, rfl, by decide +kernel, by decide +kernel⟩

def spBagOf (K : PySem.W.Frag) : Sp := fun vs H Q _ => ∃ (a : Addr) (ns : List Int) (at_ : Int), vs = [.ref a, .int at_] ∧ SqL K H a (ns.map V.int) ∧ ns.length ≤ 63 ∧ 0 ≤ at_ ∧ at_ ≤ 1000 ∧
  ∀ H' p, Same H H' → H p = none → IsBag H' p 0 → Q (.ref p) H'

section
variable {P : Program} {w : World} {K : PySem.W.Frag} {mg : Str → Option Value} {base : Heap}

theorem ok_bagOf {f : Addr} {fd : FuncData} (F : Fun K "_law_bag_of" "_law_bag_of" sBagOf f fd) (B : Bl mg) : FnOk P w K mg base CX0 1 f fd ["_law_script", "_law_at"] (spBagOf K) := by
  refine F.ok scBagOf (fun vs H Q E h => ?_) (fun cdv A outer s H vs Q E hr h => ?_)
  · obtain ⟨a, ns, at_, rfl, _⟩ := h
    rfl
  · obtain ⟨a, ns, at_, rfl, hS, hlen, h0, h1, k⟩ := h
    refine ⟨_, pss_cons (ps_set (i := 2) scBagOf.nd rfl (Or.inl rfl)
        (pe_ifExp (pt_cmpR op_lt (pv 1) (pe_callB call_len (by rfl) B.len PySem.boot_len (pa_cons (pv 0) pa_nil)) (nomark _))
          (pe_ix ix_list (pv 0) (pv 1) (fun _ _ => rfl))
          (pe_op op_add (pe_callB (cr_sum rfl) (by rfl) B.sum (by decide +kernel) (pa_cons
              (pe_lc (own := [("_law_one", 5)]) (g := gName 5) (tt := tYes) rfl scBagOf.nd (pi_list (pv 0)) (blkOk_by (N := nBagOf) (sc := defScope sBagOf) (by decide +kernel)) (fun _ _ _ _ _ => pg_name (i := 5) scBagOf.nd rfl (Or.inl rfl)) (fun _ _ _ _ _ => pts_nil)
                (fun _ _ _ _ _ => pe_op op_add (pe_op op_fdiv (pe_callB call_abs (by rfl) B.abs (by decide +kernel) (pa_cons (pv 5) pa_nil)) pe_int) pe_int)) pa_nil))
            (pe_op op_mul pe_int (pe_op op_add (pv 1) pe_int)))))
      (pss_cons (ps_set (i := 3) scBagOf.nd rfl (Or.inl rfl) (pe_callB call_abs (by rfl) B.abs (by decide +kernel) (pa_cons (pv 2) pa_nil)))
      (pss_cons (ps_set (i := 4) scBagOf.nd rfl (Or.inl rfl) (pe_ifExp (pt_cmpR op_ge (pv 3) pe_int (nomark _)) (pv 3) pe_int))
      (pss_one (ps_ret (pe_lst (pa_cons (pv 4) (pa_cons (pe_op op_add (pe_op op_add (pe_op op_mod (pe_callTy call_int1 (by rfl) B.int (by decide +kernel) (pa_cons (pv 3) pa_nil)) pe_int) (pe_op op_mul pe_int (pv 1)))
        (pe_ifExp (pt_cmpR op_lt (pv 2) pe_int (nomark _)) pe_int pe_int)) (pa_cons pe_int pa_nil)))))))), ?_⟩
    dsimp only [cxOf, Cx.nox, Cx.wish]
    walk_at "go"
    refine ⟨_, _, rfl, lenL hS, ?_⟩
    walk_at "go"
    refine r_ite (fun h => ?_) (fun h => ?_)
    rotate_left
    walk_at "go"
    refine ⟨⟨_, hS⟩, fun D hD => lc_map (fun x => match x with | .int z => .int ((if z < 0 then -z else z) / 3 + 5) | y => y) hS hD (by rw [List.length_map, sizeLine_eq]; omega) (fun _ => rfl) (fun x hx H' R sm r => ?_) ?_⟩
    · obtain ⟨z, _, rfl⟩ := List.mem_map.mp hx
      walk_at "go"
      refine r_I ⟨by decide, by decide⟩ ?_
      walk_at "go"
      exact r
    walk_at "go"
    have hD' : (upd H D (.lst ((ns.map V.int).map fun x => match x with | .int z => .int ((if z < 0 then -z else z) / 3 + 5) | y => y))) D = some (.lst ((ns.map fun z => (if z < 0 then -z else z) / 3 + 5).map V.int)) := by
      rw [upd_same, List.map_map, List.map_map]
      rfl
    refine r_sum (SqL.of hD') ?_
    walk_at "go"
    refine r_I (.inl ⟨by decide, by decide⟩) ?_
    walk_at "go"
    have sm := same_new (o := HO.lst ((ns.map V.int).map fun x => match x with | .int z => .int ((if z < 0 then -z else z) / 3 + 5) | y => y)) hD
    revert sm
    generalize (ns.map fun z => (if z < 0 then -z else z) / 3 + 5).sum + 7919 * (at_ + 1) = zz
    rotate_left
    obtain ⟨z, hz, _⟩ := at_int (ns := ns) h0 (by simpa using h)
    walk_at "go"
    refine r_ixL hS hz ?_
    walk_at "go"
    have sm : Same H H := Same.refl H
    revert sm
    all_goals
      intro sm
      refine r_ite (fun hh => ?_) (fun hh => ?_)
    all_goals
      walk_at "go"
      refine r_I (by decide) ?_
      walk_at "go"
      refine r_I (.inl ⟨by decide, by decide⟩) ?_
      walk_at "go"
      refine r_ite (fun hn => ?_) (fun hn => ?_)
    all_goals
      walk_at "go"
      refine ⟨(by show 3 ≤ sizeLine; decide), fun p hp => ?_⟩
      refine k _ p (sm.trans (same_new hp)) (sm.free hp) ⟨_, _, _, upd_same, ?_, ?_, ?_, ?_, ?_⟩
    all_goals (first | omega | (split <;> omega))

def spPick : Sp := fun vs H Q _ => ∃ (b : Addr) (m : Int) (n : Nat), vs = [.ref b, .int m] ∧ IsBag H b n ∧ n ≤ 2 ^ 40 ∧ m < 1073741824 ∧
  ∀ r H', 0 ≤ r → (r < m ∨ (m < 2 ∧ r = 0)) → IsBag H' b (n + 1) → Off b H H' → Q (.int r) H'

theorem ok_pick {f : Addr} {fd : FuncData} (F : Fun K "_law_pick" "_law_pick" sPick f fd) (B : Bl mg) : FnOk P w K mg base CX0 1 f fd ["_law_bag", "_law_many"] spPick := by
  refine F.ok scPick (fun vs H Q E h => ?_) (fun cdv A outer s H vs Q E hr h => ?_)
  · obtain ⟨a, m, n, rfl, _⟩ := h
    rfl
  · obtain ⟨b, m, n, rfl, ⟨d, sl, c, hb, d0, s0, s1, c0, c1⟩, hn, hm, k⟩ := h
    refine ⟨_, pss_cons (ps_if (pt_cmpR op_lt (pv 1) pe_int (nomark _)) (pss_one (ps_ret pe_int)) pss_nil)
      (pss_cons (ps_if (pt_cmpR op_gt (pe_ix ix_list (pv 0) pe_int (fun _ _ => rfl)) pe_int (nomark _))
        (pss_cons (ps_set (i := 2) scPick.nd rfl (Or.inl rfl) (pe_op op_modN (pe_callTy call_int1 (by rfl) B.int (by decide +kernel) (pa_cons (pe_ix ix_list (pv 0) pe_int (fun _ _ => rfl)) pa_nil)) (pv 1)))
        (pss_cons (ps_asg (pe_op op_fdivN (pe_ix ix_list (pv 0) pe_int (fun _ _ => rfl)) (pv 1)) (pg_sub (pv 0) pe_int set_list))
        (pss_one (ps_ret (pv 2))))) pss_nil)
      (pss_cons (ps_asg (pe_op op_add (pe_ix ix_list (pv 0) pe_int (fun _ _ => rfl)) pe_int) (pg_sub (pv 0) pe_int set_list))
      (pss_cons (ps_set (i := 3) scPick.nd rfl (Or.inl rfl) (pe_op op_mod (pe_callTy call_int1 (by rfl) B.int (by decide +kernel) (pa_cons
          (pe_op op_add (pe_op op_mul (pe_ix ix_list (pv 0) pe_int (fun _ _ => rfl)) pe_int) (pe_op op_mul (pe_ix ix_list (pv 0) pe_int (fun _ _ => rfl)) pe_int)) pa_nil)) pe_int))
      (pss_cons (ps_set (i := 4) scPick.nd rfl (Or.inl rfl) (pe_op op_mod (pe_callTy call_int1 (by rfl) B.int (by decide +kernel) (pa_cons
          (pe_op op_add (pe_op op_add (pe_op op_mul (pv 3) (pv 3)) (pe_ix ix_list (pv 0) pe_int (fun _ _ => rfl))) (pe_op op_mul (pe_ix ix_list (pv 0) pe_int (fun _ _ => rfl)) pe_int)) pa_nil)) pe_int))
      (pss_one (ps_ret (pe_op op_modN (pe_callTy call_int1 (by rfl) B.int (by decide +kernel) (pa_cons (pe_op op_fdiv (pv 4) pe_int) pa_nil)) (pv 1)))))))), ?_⟩
    dsimp only [cxOf, Cx.nox, Cx.wish]
    walk_at "go"
    refine r_ite (fun h => ?_) (fun h => ?_)
    · walk_at "go"
      exact k 0 H (Int.le_refl 0) (.inr ⟨h, rfl⟩) ⟨d, sl, c, hb, d0, s0, s1, c0, by omega⟩ (Off.refl _ _)
    walk_at "go"
    refine r_ixL (SqL.of hb) rfl ?_
    walk_at "go"
    refine r_ite (fun h2 => ?_) (fun h2 => ?_)
    · walk_at "go"
      refine r_ixL (SqL.of hb) rfl ?_
      walk_at "go"
      refine r_I (by omega) ?_
      walk_at "go"
      refine r_ixL (SqL.of hb) rfl ?_
      walk_at "go"
      refine r_I ⟨by omega, by omega⟩ ?_
      walk_at "go"
      refine r_setL hb rfl ?_
      walk_at "go"
      refine k _ _ ?_ (.inl ?_) ⟨_, _, _, upd_same, ?_, s0, s1, c0, by omega⟩ Off.upd
      · exact Int.fmod_nonneg (by omega) (by omega)
      · exact Int.fmod_lt_of_pos _ (by omega)
      · exact Int.fdiv_nonneg (by omega) (by omega)
    walk_at "go"
    refine r_ixL (SqL.of hb) rfl ?_
    walk_at "go"
    refine r_setL hb rfl ?_
    have hb2 := upd_same (H := H) (a := b) (o := HO.lst (List.set [V.int d, V.int sl, V.int c] 2 (V.int (c + 1))))
    walk_at "go"
    refine r_ixL (SqL.of hb2) rfl ?_
    walk_at "go"
    refine r_I (.inr ⟨by decide, by decide⟩) ?_
    walk_at "go"
    refine r_ixL (SqL.of hb2) rfl ?_
    walk_at "go"
    refine r_I (.inr ⟨by decide, by decide⟩) ?_
    walk_at "go"
    refine r_I (by decide) ?_
    have o0 := Int.emod_nonneg (sl * 48271 + (c + 1) * 69621) (show (2147483647 : Int) ≠ 0 by decide)
    have o1 := Int.emod_lt_of_pos (sl * 48271 + (c + 1) * 69621) (show (0 : Int) < 2147483647 by decide)
    revert o0 o1
    generalize (sl * 48271 + (c + 1) * 69621) % 2147483647 = one
    intro o0 o1
    walk_at "go"
    refine r_I (.inl ⟨by omega, by omega⟩) ?_
    walk_at "go"
    refine r_ixL (SqL.of hb2) rfl ?_
    walk_at "go"
    refine r_ixL (SqL.of hb2) rfl ?_
    walk_at "go"
    refine r_I (.inr ⟨by decide, by decide⟩) ?_
    walk_at "go"
    refine r_I (by decide) ?_
    walk_at "go"
    refine r_I ⟨by decide, by decide⟩ ?_
    walk_at "go"
    refine r_I (by omega) ?_
    walk_at "go"
    refine k _ _ ?_ (.inl ?_) ⟨_, _, _, upd_same, d0, s0, s1, by omega, by omega⟩ Off.upd
    · exact Int.fmod_nonneg (by omega) (by omega)
    · exact Int.fmod_lt_of_pos _ (by omega)
end
end K1

/-! M4 -/
/-! Rules, their words, their data. -/
namespace K4
open PySem L2 PyProof.Rows
abbrev tl (z : Str) : List Nat := z.cps.toList
abbrev ALL : Str := "0123456789ABCDEFGHIJKLMNOPQRSTUVWXYZ"
theorem str_ext {x y : Str} (h : tl x = tl y) : x = y := by
  cases x with | mk a => cases y with | mk b => exact congrArg Str.mk (Array.toList_inj.mp h)
theorem len_tl (x : Str) : x.length = (tl x).length := by simp [Str.length]
/-- a number's word -/
def num (n : Nat) : Str := Str.ofString (toString ((n : Nat) : Int))
theorem tl_numL (n : Nat) : tl (num n) = TL.numL n := TL.tl_num n
def numOk (n : Nat) : Bool := (TL.numL n).all (fun c => 48 ≤ c && c ≤ 57) && 1 ≤ (TL.numL n).length && (TL.numL n).length ≤ 2 && ((TL.numL n).head? != some 48 || TL.numL n == [48])
theorem num_all : (List.range 61).all numOk = true := by decide +kernel
theorem num_ok {n : Nat} (h : n ≤ 60) : (∀ c ∈ tl (num n), 48 ≤ c ∧ c ≤ 57) ∧ 1 ≤ (tl (num n)).length ∧ (tl (num n)).length ≤ 2 ∧ ((tl (num n)).head? ≠ some 48 ∨ tl (num n) = [48]) := by
  have a := List.all_eq_true.mp num_all n (List.mem_range.mpr (by omega))
  rw [tl_numL]
  simpa [numOk, and_assoc] using a
theorem num_int {n : Nat} (h : n ≤ 60) : intText? (num n) = some (n : Int) := TL.int_num (by have := (num_ok h).2.2.1; rw [tl_numL] at this; omega)
theorem num_inj {n m : Nat} (hn : n ≤ 60) (hm : m ≤ 60) (e : num n = num m) : n = m := by
  have a := num_int hn
  rw [e, num_int hm] at a
  have b := Option.some.inj a
  omega
theorem num_no {n c : Nat} (h : n ≤ 60) (hc : c < 48) : c ∉ tl (num n) := fun q => by have := ((num_ok h).1 c q).1; omega
abbrev CM : Str := ","
abbrev SL : Str := "/"
abbrev SP : Str := " "
theorem tl_CM : tl CM = [44] := by decide +kernel
theorem tl_SL : tl SL = [47] := by decide +kernel
theorem tl_SP : tl SP = [32] := by decide +kernel
/-! ### joined -/
theorem spl_CM {ys : List Str} (h : ys ≠ []) (k : ∀ y ∈ ys, 44 ∉ tl y) : Txt.split (Txt.join CM ys) CM = ys := TL.split_join tl_CM (by decide +kernel) h k
theorem spl_SL {ys : List Str} (h : ys ≠ []) (k : ∀ y ∈ ys, 47 ∉ tl y) : Txt.split (Txt.join SL ys) SL = ys := TL.split_join tl_SL (by decide +kernel) h k
theorem spl_SP {ys : List Str} (h : ys ≠ []) (k : ∀ y ∈ ys, 32 ∉ tl y) : Txt.split (Txt.join SP ys) SP = ys := TL.split_join tl_SP (by decide +kernel) h k
theorem tl_joinL (y : Str) (ys : List Str) : tl (Txt.join y ys) = TL.joinL (tl y) (ys.map tl) := by
  show TL.tl _ = _
  rw [TL.join_eq, TL.tl_join]
theorem mem_joinL {S : List Nat} {c : Nat} : ∀ {ps : List (List Nat)}, c ∈ TL.joinL S ps → c ∈ S ∨ ∃ p ∈ ps, c ∈ p
  | [], h => by simp [TL.joinL] at h
  | [p], h => .inr ⟨p, List.mem_singleton.mpr rfl, h⟩
  | p :: q :: r, h => by
    have h' : c ∈ p ++ (S ++ TL.joinL S (q :: r)) := h
    rcases List.mem_append.mp h' with h' | h'
    · exact .inr ⟨p, List.mem_cons_self .., h'⟩
    rcases List.mem_append.mp h' with h' | h'
    · exact .inl h'
    rcases mem_joinL h' with h' | ⟨z, hz, hc⟩
    · exact .inl h'
    · exact .inr ⟨z, List.mem_cons_of_mem _ hz, hc⟩
theorem mem_join {y : Str} {c : Nat} {ys : List Str} (h : c ∈ tl (Txt.join y ys)) : c ∈ tl y ∨ ∃ p ∈ ys, c ∈ tl p := by
  rw [tl_joinL] at h
  rcases mem_joinL h with h | ⟨p, hp, hc⟩
  · exact .inl h
  · obtain ⟨z, hz, rfl⟩ := List.mem_map.mp hp
    exact .inr ⟨z, hz, hc⟩
theorem len_joinL {S : List Nat} {b : Nat} : ∀ {ps : List (List Nat)}, (∀ p ∈ ps, p.length ≤ b) → (TL.joinL S ps).length ≤ ps.length * (b + S.length)
  | [], _ => by simp [TL.joinL]
  | [p], h => by
    have := h p (List.mem_singleton.mpr rfl)
    show p.length ≤ _
    simp only [List.length_cons, List.length_nil]; omega
  | p :: q :: r, h => by
    have a := h p (List.mem_cons_self ..)
    have b' := len_joinL (S := S) (ps := q :: r) fun z hz => h z (List.mem_cons_of_mem _ hz)
    show (p ++ (S ++ TL.joinL S (q :: r))).length ≤ (((q :: r).length) + 1) * (b + S.length)
    rw [List.length_append, List.length_append, Nat.add_mul]
    omega
theorem len_join {y : Str} {b : Nat} {ys : List Str} (h : ∀ p ∈ ys, (tl p).length ≤ b) : (tl (Txt.join y ys)).length ≤ ys.length * (b + (tl y).length) := by
  rw [tl_joinL]
  have := len_joinL (S := tl y) (b := b) (ps := ys.map tl) (fun p hp => by obtain ⟨z, hz, rfl⟩ := List.mem_map.mp hp; exact h z hz)
  rw [List.length_map] at this
  exact this
theorem sum_le {ys : List Str} {b : Nat} (h : ∀ p ∈ ys, (tl p).length ≤ b) : (ys.map (·.length)).sum ≤ ys.length * b := by
  induction ys with
  | nil => simp
  | cons y ys ih =>
    have a := h y (List.mem_cons_self ..)
    have := ih fun p hp => h p (List.mem_cons_of_mem _ hp)
    rw [List.map_cons, List.sum_cons, List.length_cons, Nat.add_mul, len_tl]
    omega
/-- numbers joined by commas -/
def commas (ns : List Nat) : Str := Txt.join CM (ns.map num)
def Nums (b : Nat) (ns : List Nat) : Prop := ns ≠ [] ∧ ns.length ≤ 60 ∧ ∀ n ∈ ns, n ≤ b
theorem Nums.mono {a b : Nat} {ns : List Nat} (h : Nums a ns) (l : a ≤ b) : Nums b ns := ⟨h.1, h.2.1, fun n q => Nat.le_trans (h.2.2 n q) l⟩
theorem split_commas {ns : List Nat} (h : Nums 60 ns) : Txt.split (commas ns) CM = ns.map num :=
  spl_CM (fun e => h.1 (List.map_eq_nil_iff.mp e)) fun y hy => by
    obtain ⟨n, hn, rfl⟩ := List.mem_map.mp hy
    exact num_no (h.2.2 n hn) (by decide)
theorem map_num_inj : ∀ {xs ys : List Nat}, (∀ n ∈ xs, n ≤ 60) → (∀ n ∈ ys, n ≤ 60) → xs.map num = ys.map num → xs = ys
  | [], [], _, _, _ => rfl
  | [], _ :: _, _, _, h => by simp at h
  | _ :: _, [], _, _, h => by simp at h
  | x :: xs, y :: ys, a, b, h => by
    rw [List.map_cons, List.map_cons] at h
    have h1 := (List.cons.inj h)
    rw [num_inj (a x (List.mem_cons_self ..)) (b y (List.mem_cons_self ..)) h1.1, map_num_inj (fun n q => a n (List.mem_cons_of_mem _ q)) (fun n q => b n (List.mem_cons_of_mem _ q)) h1.2]
theorem commas_inj {xs ys : List Nat} (hx : Nums 60 xs) (hy : Nums 60 ys) (e : commas xs = commas ys) : xs = ys :=
  map_num_inj hx.2.2 hy.2.2 (by rw [← split_commas hx, ← split_commas hy, e])
theorem commas_no {ns : List Nat} {c : Nat} (h : Nums 60 ns) (hc : c < 48) (h44 : c ≠ 44) : c ∉ tl (commas ns) := fun q => by
  rcases mem_join q with q | ⟨p, hp, q⟩
  · rw [tl_CM] at q; simp at q; exact h44 q
  · obtain ⟨n, hn, rfl⟩ := List.mem_map.mp hp
    exact num_no (h.2.2 n hn) hc q
theorem commas_no47 {ns : List Nat} (h : Nums 60 ns) : 47 ∉ tl (commas ns) := commas_no h (by decide) (by decide)
theorem commas_len {ns : List Nat} (h : Nums 60 ns) : (tl (commas ns)).length ≤ ns.length * 3 := by
  have := len_join (y := CM) (b := 2) (ys := ns.map num) (fun p hp => by obtain ⟨n, hn, rfl⟩ := List.mem_map.mp hp; exact (num_ok (h.2.2 n hn)).2.2.1)
  rw [List.length_map, tl_CM] at this
  exact this
/-! ### parts -/
inductive Ow
  | any | back | not | both | either
  | sum (m : Nat) (ws : List Nat) (g : Nat)
  | square (rows : List (List Nat)) (gs : List Nat)
  | faces (fs : List Str)
  | cut (a b : Nat)
def Ow.kind : Ow → Nat
  | .any => 0 | .back => 1 | .not => 2 | .both => 3 | .either => 4 | .sum .. => 5 | .square .. => 6 | .faces .. => 7 | .cut .. => 8
def wd : Nat → Str
  | 0 => "any" | 1 => "back" | 2 => "not" | 3 => "both" | 4 => "either" | 5 => "sum" | 6 => "square" | 7 => "faces" | _ => "cut"
def ar : Nat → Nat
  | 0 => 0 | 1 => 1 | 2 => 1 | 3 => 2 | 4 => 2 | 5 => 0 | 6 => 0 | 7 => 1 | _ => 1
def mn : Nat → Nat
  | 5 => 3 | 6 => 2 | 7 => 1 | 8 => 2 | _ => 0
abbrev Ow.word (o : Ow) : Str := wd o.kind
theorem Ow.kind_lt (o : Ow) : o.kind < 9 := by cases o <;> (show (_ : Nat) < 9; simp only [Ow.kind]; decide)
theorem wd_inj : ∀ i < 9, ∀ j < 9, wd i = wd j → i = j := by decide +kernel
theorem wd_ok : ∀ i < 9, 32 ∉ tl (wd i) ∧ (tl (wd i)).length ≤ 6 ∧ 1 ≤ (tl (wd i)).length := by decide +kernel
def Ow.words : Ow → List Str
  | .sum m ws g => [num m, commas ws, num g]
  | .square rows gs => [Txt.join SL (rows.map commas), commas gs]
  | .faces fs => [Txt.join CM fs]
  | .cut a b => [num a, num b]
  | _ => []
def sq (t : Bool) (ds : List PyData) : PyData := if t = true then .tuple ds else .list ds
def pn (n : Nat) : PyData := .int n
def Ow.data (t : Bool) : Ow → List PyData
  | .sum m ws g => [pn m, sq t (ws.map pn), pn g]
  | .square rows gs => [sq t (rows.map fun row => sq t (row.map pn)), sq t (gs.map pn)]
  | .faces fs => [sq t (fs.map .str)]
  | .cut a b => [pn a, pn b]
  | _ => []
def Face (f : Str) : Prop := 2 ≤ (tl f).length ∧ (tl f).length ≤ 12 ∧ ∀ c ∈ tl f, c ∈ tl ALL
def Row (r : List Nat) : Prop := 2 ≤ r.length ∧ r.length ≤ 12 ∧ ∀ x ∈ r, x ≤ 59
def Ow.ok : Ow → Prop
  | .sum m ws g => 2 ≤ m ∧ m ≤ 60 ∧ Nums 59 ws ∧ ws.length ≤ 8 ∧ g ≤ 59
  | .square rows gs => rows ≠ [] ∧ rows.length ≤ 60 ∧ (∀ r ∈ rows, Row r) ∧ Nums 59 gs
  | .faces fs => fs ≠ [] ∧ fs.length ≤ 4 ∧ ∀ f ∈ fs, Face f
  | .cut a b => a ≤ 3 ∧ b ≤ 3
  | _ => True
theorem Row.nums {r : List Nat} (h : Row r) : Nums 60 r := ⟨fun e => by rw [e] at h; exact absurd h.1 (by decide), by have := h.2.1; omega, fun n q => Nat.le_trans (h.2.2 n q) (by decide)⟩
theorem all_ge : ∀ c ∈ tl ALL, 48 ≤ c := by decide +kernel
theorem Face.no {f : Str} {c : Nat} (h : Face f) (hc : c < 48) : c ∉ tl f := fun q => by have := all_ge c (h.2.2 c q); omega
theorem Ow.words_len (o : Ow) : o.words.length = mn o.kind := by cases o <;> rfl
theorem Ow.data_len (t : Bool) (o : Ow) : (o.data t).length = mn o.kind := by cases o <;> rfl

theorem Ow.words_ok {o : Ow} (h : o.ok) : ∀ w ∈ o.words, 32 ∉ tl w ∧ (tl w).length ≤ 2500 := by
  cases o with
  | sum m ws g =>
    obtain ⟨h1, h2, h3, h4, h5⟩ := h
    have c := commas_len (h3.mono (by decide : 59 ≤ 60))
    intro w hw
    simp only [Ow.words, List.mem_cons, List.not_mem_nil, or_false] at hw
    rcases hw with rfl | rfl | rfl
    · exact ⟨num_no h2 (by decide), by have := (num_ok h2).2.2.1; omega⟩
    · exact ⟨commas_no (h3.mono (by decide)) (by decide) (by decide), by omega⟩
    · exact ⟨num_no (by omega) (by decide), by have := (num_ok (show g ≤ 60 by omega)).2.2.1; omega⟩
  | square rows gs =>
    obtain ⟨h1, h2, h3, h4⟩ := h
    intro w hw
    simp only [Ow.words, List.mem_cons, List.not_mem_nil, or_false] at hw
    rcases hw with rfl | rfl
    · refine ⟨fun q => ?_, ?_⟩
      · rcases mem_join q with q | ⟨p, hp, q⟩
        · rw [tl_SL] at q; simp at q
        · obtain ⟨r, hr, rfl⟩ := List.mem_map.mp hp
          exact commas_no (h3 r hr).nums (by decide) (by decide) q
      · have := len_join (y := SL) (b := 36) (ys := rows.map commas) (fun p hp => by
          obtain ⟨r, hr, rfl⟩ := List.mem_map.mp hp
          have a := commas_len (h3 r hr).nums
          have b := (h3 r hr).2.1
          omega)
        rw [List.length_map, tl_SL] at this
        simp only [List.length_cons, List.length_nil] at this
        omega
    · have c := commas_len (h4.mono (by decide : 59 ≤ 60))
      have := h4.2.1
      exact ⟨commas_no (h4.mono (by decide)) (by decide) (by decide), by omega⟩
  | faces fs =>
    obtain ⟨h1, h2, h3⟩ := h
    intro w hw
    simp only [Ow.words, List.mem_cons, List.not_mem_nil, or_false] at hw
    subst hw
    refine ⟨fun q => ?_, ?_⟩
    · rcases mem_join q with q | ⟨p, hp, q⟩
      · rw [tl_CM] at q; simp at q
      · exact (h3 p hp).no (by decide) q
    · have := len_join (y := CM) (b := 12) (ys := fs) (fun p hp => (h3 p hp).2.1)
      rw [tl_CM] at this
      simp only [List.length_cons, List.length_nil] at this
      omega
  | cut a b =>
    obtain ⟨h1, h2⟩ := h
    intro w hw
    simp only [Ow.words, List.mem_cons, List.not_mem_nil, or_false] at hw
    rcases hw with rfl | rfl
    · exact ⟨num_no (by omega) (by decide), by have := (num_ok (show a ≤ 60 by omega)).2.2.1; omega⟩
    · exact ⟨num_no (by omega) (by decide), by have := (num_ok (show b ≤ 60 by omega)).2.2.1; omega⟩
  | _ => intro w hw; simp [Ow.words] at hw
theorem rows_split {rows : List (List Nat)} (h1 : rows ≠ []) (h3 : ∀ r ∈ rows, Row r) : Txt.split (Txt.join SL (rows.map commas)) SL = rows.map commas :=
  spl_SL (fun e => h1 (List.map_eq_nil_iff.mp e)) fun y hy => by
    obtain ⟨r, hr, rfl⟩ := List.mem_map.mp hy
    exact commas_no47 (h3 r hr).nums
theorem faces_split {fs : List Str} (h1 : fs ≠ []) (h3 : ∀ f ∈ fs, Face f) : Txt.split (Txt.join CM fs) CM = fs := spl_CM h1 fun y hy => (h3 y hy).no (by decide)
theorem map_commas_inj : ∀ {xs ys : List (List Nat)}, (∀ r ∈ xs, Row r) → (∀ r ∈ ys, Row r) → xs.map commas = ys.map commas → xs = ys
  | [], [], _, _, _ => rfl
  | [], _ :: _, _, _, h => by simp at h
  | _ :: _, [], _, _, h => by simp at h
  | x :: xs, y :: ys, a, b, h => by
    rw [List.map_cons, List.map_cons] at h
    have h1 := (List.cons.inj h)
    rw [commas_inj (a x (List.mem_cons_self ..)).nums (b y (List.mem_cons_self ..)).nums h1.1, map_commas_inj (fun n q => a n (List.mem_cons_of_mem _ q)) (fun n q => b n (List.mem_cons_of_mem _ q)) h1.2]
theorem Ow.words_inj {o p : Ow} (ho : o.ok) (hp : p.ok) (k : o.kind = p.kind) (e : o.words = p.words) : o = p := by
  cases o <;> cases p <;> first
    | rfl
    | (exact absurd k (by simp only [Ow.kind]; decide))
    | skip
  · rename_i m ws g m' ws' g'
    simp only [Ow.words, List.cons.injEq, and_true] at e
    obtain ⟨h1, h2, h3, h4, h5⟩ := ho
    obtain ⟨k1, k2, k3, k4, k5⟩ := hp
    rw [num_inj h2 k2 e.1, commas_inj (h3.mono (by decide)) (k3.mono (by decide)) e.2.1, num_inj (by omega) (by omega) e.2.2]
  · rename_i rows gs rows' gs'
    simp only [Ow.words, List.cons.injEq, and_true] at e
    obtain ⟨h1, h2, h3, h4⟩ := ho
    obtain ⟨k1, k2, k3, k4⟩ := hp
    have a : rows.map commas = rows'.map commas := by rw [← rows_split h1 h3, ← rows_split k1 k3, e.1]
    rw [map_commas_inj h3 k3 a, commas_inj (h4.mono (by decide)) (k4.mono (by decide)) e.2]
  · rename_i fs fs'
    simp only [Ow.words, List.cons.injEq, and_true] at e
    have a : fs = fs' := by rw [← faces_split ho.1 ho.2.2, ← faces_split hp.1 hp.2.2, e]
    rw [a]
  · rename_i a b a' b'
    simp only [Ow.words, List.cons.injEq, and_true] at e
    have h1 := ho.1
    have h2 := ho.2
    have k1 := hp.1
    have k2 := hp.2
    rw [num_inj (by omega) (by omega) e.1, num_inj (by omega) (by omega) e.2]
/-! ### rules -/
inductive R
  | n0 (o : Ow) | n1 (o : Ow) (a : R) | n2 (o : Ow) (a b : R)
def R.ow : R → Ow
  | .n0 o => o | .n1 o _ => o | .n2 o _ _ => o
def R.inner : R → List R
  | .n0 _ => [] | .n1 _ a => [a] | .n2 _ a b => [a, b]
def R.ok : R → Prop
  | .n0 o => o.ok ∧ ar o.kind = 0 | .n1 o a => o.ok ∧ ar o.kind = 1 ∧ a.ok | .n2 o a b => o.ok ∧ ar o.kind = 2 ∧ a.ok ∧ b.ok
def R.words : R → List Str
  | .n0 o => o.word :: o.words
  | .n1 o a => o.word :: (o.words ++ a.words)
  | .n2 o a b => o.word :: (o.words ++ (a.words ++ b.words))
def R.data (t : Bool) : R → PyData
  | .n0 o => sq t (.str o.word :: o.data t)
  | .n1 o a => sq t (.str o.word :: (o.data t ++ [a.data t]))
  | .n2 o a b => sq t (.str o.word :: (o.data t ++ [a.data t, b.data t]))
def R.parts : R → Nat
  | .n0 _ => 1 | .n1 _ a => a.parts + 1 | .n2 _ a b => a.parts + b.parts + 1
def R.depth : R → Nat
  | .n0 _ => 1 | .n1 _ a => a.depth + 1 | .n2 _ a b => max a.depth b.depth + 1
theorem R.depth_le : ∀ r : R, r.depth ≤ r.parts
  | .n0 _ => Nat.le_refl _
  | .n1 _ a => Nat.succ_le_succ a.depth_le
  | .n2 _ a b => by have h1 := a.depth_le; have h2 := b.depth_le; show max a.depth b.depth + 1 ≤ a.parts + b.parts + 1; omega
theorem R.parts_pos : ∀ r : R, 1 ≤ r.parts
  | .n0 _ => Nat.le_refl _
  | .n1 _ a => Nat.succ_le_succ (Nat.zero_le _)
  | .n2 _ a b => Nat.succ_le_succ (Nat.zero_le _)
theorem R.ok_ow : ∀ {r : R}, r.ok → r.ow.ok
  | .n0 _, h => h.1
  | .n1 _ _, h => h.1
  | .n2 _ _ _, h => h.1
theorem R.ok_ar : ∀ {r : R}, r.ok → r.inner.length = ar r.ow.kind
  | .n0 _, h => h.2.symm
  | .n1 _ _, h => h.2.1.symm
  | .n2 _ _ _, h => h.2.1.symm
theorem R.ok_in : ∀ {r : R}, r.ok → ∀ i ∈ r.inner, i.ok
  | .n0 _, _, i, q => by simp [R.inner] at q
  | .n1 _ _, h, i, q => by simp only [R.inner, List.mem_cons, List.not_mem_nil, or_false] at q; rw [q]; exact h.2.2
  | .n2 _ _ _, h, i, q => by
    simp only [R.inner, List.mem_cons, List.not_mem_nil, or_false] at q
    rcases q with rfl | rfl
    · exact h.2.2.1
    · exact h.2.2.2
theorem R.in_depth : ∀ {r : R}, ∀ i ∈ r.inner, i.depth + 1 ≤ r.depth
  | .n0 _, i, q => by simp [R.inner] at q
  | .n1 _ a, i, q => by simp only [R.inner, List.mem_cons, List.not_mem_nil, or_false] at q; rw [q]; exact Nat.le_refl _
  | .n2 _ a b, i, q => by
    simp only [R.inner, List.mem_cons, List.not_mem_nil, or_false] at q
    show i.depth + 1 ≤ max a.depth b.depth + 1
    rcases q with rfl | rfl <;> omega
theorem R.words_eq : ∀ r : R, r.words = r.ow.word :: (r.ow.words ++ (r.inner.map R.words).flatten)
  | .n0 o => by simp [R.words, R.ow, R.inner]
  | .n1 o a => by simp [R.words, R.ow, R.inner]
  | .n2 o a b => by simp [R.words, R.ow, R.inner]
theorem R.data_eq (t : Bool) : ∀ r : R, r.data t = sq t (.str r.ow.word :: (r.ow.data t ++ r.inner.map (R.data t)))
  | .n0 o => by simp [R.data, R.ow, R.inner]
  | .n1 o a => by simp [R.data, R.ow, R.inner]
  | .n2 o a b => by simp [R.data, R.ow, R.inner]
theorem R.parts_eq : ∀ r : R, r.parts = (r.inner.map R.parts).sum + 1
  | .n0 o => rfl
  | .n1 o a => by simp [R.parts, R.inner]
  | .n2 o a b => by simp [R.parts, R.inner]
theorem mn_le (k : Nat) : mn k ≤ 3 := by
  unfold mn
  split <;> decide
theorem R.words_len : ∀ r : R, r.words.length ≤ 4 * r.parts
  | .n0 o => by have := mn_le o.kind; simp only [R.words, R.parts, List.length_cons, Ow.words_len]; omega
  | .n1 o a => by have := mn_le o.kind; have := a.words_len; simp only [R.words, R.parts, List.length_cons, List.length_append, Ow.words_len]; omega
  | .n2 o a b => by have := mn_le o.kind; have := a.words_len; have := b.words_len; simp only [R.words, R.parts, List.length_cons, List.length_append, Ow.words_len]; omega
theorem R.words_ok : ∀ {r : R}, r.ok → ∀ w ∈ r.words, 32 ∉ tl w ∧ (tl w).length ≤ 2500
  | .n0 o, h, w, q => by
    have hw := wd_ok o.kind o.kind_lt
    simp only [R.words, List.mem_cons] at q
    rcases q with rfl | q
    · exact ⟨hw.1, Nat.le_trans hw.2.1 (by decide)⟩
    · exact Ow.words_ok h.1 w q
  | .n1 o a, h, w, q => by
    have hw := wd_ok o.kind o.kind_lt
    simp only [R.words, List.mem_cons, List.mem_append] at q
    rcases q with rfl | q | q
    · exact ⟨hw.1, Nat.le_trans hw.2.1 (by decide)⟩
    · exact Ow.words_ok h.1 w q
    · exact R.words_ok h.2.2 w q
  | .n2 o a b, h, w, q => by
    have hw := wd_ok o.kind o.kind_lt
    simp only [R.words, List.mem_cons, List.mem_append] at q
    rcases q with rfl | q | q | q
    · exact ⟨hw.1, Nat.le_trans hw.2.1 (by decide)⟩
    · exact Ow.words_ok h.1 w q
    · exact R.words_ok h.2.2.1 w q
    · exact R.words_ok h.2.2.2 w q
theorem R.words_ne (r : R) : r.words ≠ [] := by rw [r.words_eq]; simp
def R.text (r : R) : Str := Txt.join SP r.words
theorem R.split {r : R} (h : r.ok) : Txt.split r.text SP = r.words := spl_SP r.words_ne fun w q => (R.words_ok h w q).1
theorem R.text_len {r : R} (h : r.ok) : (tl r.text).length ≤ 10004 * r.parts := by
  have a := len_join (y := SP) (b := 2500) (ys := r.words) fun w q => (R.words_ok h w q).2
  rw [tl_SP] at a
  have b := r.words_len
  have c : (tl r.text).length ≤ r.words.length * (2500 + 1) := a
  omega
/-- the words tell the rule -/
theorem R.words_pre : ∀ {r s : R} {x y : List Str}, r.ok → s.ok → r.words ++ x = s.words ++ y → r = s ∧ x = y := by
  have kd : ∀ {o p : Ow} {x y : List Str}, o.ok → p.ok → o.word :: (o.words ++ x) = p.word :: (p.words ++ y) → o = p ∧ x = y := by
    intro o p x y ho hp e
    have e1 := List.cons.inj e
    have k := wd_inj _ o.kind_lt _ p.kind_lt e1.1
    have l : o.words.length = p.words.length := by rw [o.words_len, p.words_len, k]
    have e2 := List.append_inj e1.2 l
    exact ⟨Ow.words_inj ho hp k e2.1, e2.2⟩
  have sh : ∀ r : R, ∀ z : List Str, r.words ++ z = r.ow.word :: (r.ow.words ++ ((r.inner.map R.words).flatten ++ z)) := fun r z => by rw [r.words_eq]; simp
  intro r
  induction r with
  | n0 o =>
    intro s x y hr hs e
    rw [sh, sh] at e
    have k := kd hr.1 (R.ok_ow hs) e
    have a := R.ok_ar hs
    rw [← k.1, hr.2] at a
    cases s with
    | n0 p => exact ⟨by rw [show o = p from k.1], k.2⟩
    | n1 p c => simp [R.inner] at a
    | n2 p c d => simp [R.inner] at a
  | n1 o c ih =>
    intro s x y hr hs e
    rw [sh, sh] at e
    have k := kd hr.1 (R.ok_ow hs) e
    have a := R.ok_ar hs
    rw [← k.1, hr.2.1] at a
    cases s with
    | n0 p => simp [R.inner] at a
    | n1 p d =>
      have k2 : c.words ++ x = d.words ++ y := by simpa [R.inner] using k.2
      have q := ih hr.2.2 hs.2.2 k2
      exact ⟨by rw [show o = p from k.1, q.1], q.2⟩
    | n2 p c d => simp [R.inner] at a
  | n2 o c d ihc ihd =>
    intro s x y hr hs e
    rw [sh, sh] at e
    have k := kd hr.1 (R.ok_ow hs) e
    have a := R.ok_ar hs
    rw [← k.1, hr.2.1] at a
    cases s with
    | n0 p => simp [R.inner] at a
    | n1 p d => simp [R.inner] at a
    | n2 p c' d' =>
      have k2 : c.words ++ (d.words ++ x) = c'.words ++ (d'.words ++ y) := by simpa [R.inner] using k.2
      have q := ihc hr.2.2.1 hs.2.2.1 k2
      have q2 := ihd hr.2.2.2 hs.2.2.2 q.2
      exact ⟨by rw [show o = p from k.1, q.1, q2.1], q2.2⟩
theorem R.text_inj {r s : R} (hr : r.ok) (hs : s.ok) (e : r.text = s.text) : r = s :=
  (R.words_pre (x := []) (y := []) hr hs (by rw [List.append_nil, List.append_nil, ← R.split hr, ← R.split hs, e])).1
/-! ### data that are equal are the same -/
mutual
def pure : PyData → Bool
  | .none => true
  | .int _ => true
  | .str _ => true
  | .tuple ds => pureA ds
  | _ => false
def pureA : List PyData → Bool
  | [] => true
  | d :: ds => pure d && pureA ds
end
mutual
theorem eqv_pure : ∀ (d e : PyData), pure d = true → PyData.eqv d e = true → pure e = true → d = e
  | .int i, e, _, h, q => by cases e <;> simp_all [PyData.eqv, pure]
  | .str i, e, _, h, q => by cases e <;> simp_all [PyData.eqv, pure]
  | .tuple ds, e, p, h, q => by
    cases e with
    | tuple es => rw [eqvA_pure ds es (by simpa [pure] using p) (by simpa [PyData.eqv] using h) (by simpa [pure] using q)]
    | _ => simp_all [PyData.eqv, pure]
  | .none, e, _, h, q => by cases e <;> simp_all [PyData.eqv, pure]
  | .bool _, _, p, _, _ => by simp [pure] at p
  | .list _, _, p, _, _ => by simp [pure] at p
  | .dict _, _, p, _, _ => by simp [pure] at p
theorem eqvA_pure : ∀ (ds es : List PyData), pureA ds = true → PyData.eqvAll ds es = true → pureA es = true → ds = es
  | [], [], _, _, _ => rfl
  | [], _ :: _, _, h, _ => by simp [PyData.eqvAll] at h
  | _ :: _, [], _, h, _ => by simp [PyData.eqvAll] at h
  | d :: ds, e :: es, p, h, q => by
    simp only [pureA, Bool.and_eq_true] at p q
    simp only [PyData.eqvAll, Bool.and_eq_true] at h
    rw [eqv_pure d e p.1 h.1 q.1, eqvA_pure ds es p.2 h.2 q.2]
end
theorem pureA_iff : ∀ {ds : List PyData}, pureA ds = true ↔ ∀ d ∈ ds, pure d = true
  | [] => by simp [pureA]
  | d :: ds => by simp [pureA, pureA_iff]
theorem pure_nums (ns : List Nat) : pureA (ns.map pn) = true := pureA_iff.mpr fun d hd => by obtain ⟨n, _, rfl⟩ := List.mem_map.mp hd; rfl
theorem Ow.pure (o : Ow) : pureA (o.data true) = true := by
  cases o <;> simp only [Ow.data, pureA, sq, if_true, pn, K4.pure, pure_nums, Bool.and_true, Bool.true_and]
  · exact pureA_iff.mpr fun d hd => by obtain ⟨r, _, rfl⟩ := List.mem_map.mp hd; exact pure_nums r
  · exact pureA_iff.mpr fun d hd => by obtain ⟨r, _, rfl⟩ := List.mem_map.mp hd; rfl
theorem pureA_app {xs ys : List PyData} (h : pureA xs = true) (k : pureA ys = true) : pureA (xs ++ ys) = true :=
  pureA_iff.mpr fun d hd => by rcases List.mem_append.mp hd with q | q; exact pureA_iff.mp h d q; exact pureA_iff.mp k d q
theorem R.pure : ∀ r : R, K4.pure (r.data true) = true
  | .n0 o => by simpa [R.data, sq, K4.pure, pureA] using o.pure
  | .n1 o a => by simpa [R.data, sq, K4.pure, pureA] using pureA_app o.pure (by simpa [pureA] using a.pure)
  | .n2 o a b => by simpa [R.data, sq, K4.pure, pureA] using pureA_app o.pure (by simpa [pureA] using ⟨a.pure, b.pure⟩)

theorem pn_inj : ∀ {a b : Nat}, pn a = pn b → a = b := fun h => by
  have := PyData.int.inj h
  omega
theorem mapinj {α β : Type} {f : α → β} (hf : ∀ {a b}, f a = f b → a = b) : ∀ {xs ys : List α}, xs.map f = ys.map f → xs = ys
  | [], [], _ => rfl
  | [], _ :: _, h => by simp at h
  | _ :: _, [], h => by simp at h
  | x :: xs, y :: ys, h => by
    rw [List.map_cons, List.map_cons] at h
    have h1 := (List.cons.inj h)
    rw [hf h1.1, mapinj hf h1.2]
theorem Ow.data_inj {o p : Ow} (k : o.kind = p.kind) (e : o.data true = p.data true) : o = p := by
  cases o <;> cases p <;> first
    | rfl
    | (exact absurd k (by simp only [Ow.kind]; decide))
    | skip
  · simp only [Ow.data, sq, if_true, List.cons.injEq, and_true, PyData.tuple.injEq] at e
    rw [pn_inj e.1, mapinj pn_inj e.2.1, pn_inj e.2.2]
  · simp only [Ow.data, sq, if_true, List.cons.injEq, and_true, PyData.tuple.injEq] at e
    rw [mapinj (fun h => mapinj pn_inj (PyData.tuple.inj h)) e.1, mapinj pn_inj e.2]
  · simp only [Ow.data, sq, if_true, List.cons.injEq, and_true, PyData.tuple.injEq] at e
    rw [mapinj (fun h => PyData.str.inj h) e]
  · simp only [Ow.data, List.cons.injEq, and_true] at e
    rw [pn_inj e.1, pn_inj e.2]
theorem R.data_inj : ∀ {r s : R}, r.ok → s.ok → r.data true = s.data true → r = s := by
  have kd : ∀ {o p : Ow} {x y : List PyData}, PyData.tuple (.str o.word :: (o.data true ++ x)) = .tuple (.str p.word :: (p.data true ++ y)) → o = p ∧ x = y := by
    intro o p x y e
    have e1 := List.cons.inj (PyData.tuple.inj e)
    have k := wd_inj _ o.kind_lt _ p.kind_lt (PyData.str.inj e1.1)
    have l : (o.data true).length = (p.data true).length := by rw [o.data_len, p.data_len, k]
    have e2 := List.append_inj e1.2 l
    exact ⟨Ow.data_inj k e2.1, e2.2⟩
  have sh : ∀ r : R, r.data true = .tuple (.str r.ow.word :: (r.ow.data true ++ r.inner.map (R.data true))) := fun r => by rw [r.data_eq]; rfl
  intro r
  induction r with
  | n0 o =>
    intro s hr hs e
    rw [sh, sh] at e
    have k := kd e
    have a := R.ok_ar hs
    rw [← k.1] at a
    cases s with
    | n0 p => exact by rw [show o = p from k.1]
    | n1 p c => exact absurd k.2 (by simp [R.inner])
    | n2 p c d => exact absurd k.2 (by simp [R.inner])
  | n1 o c ih =>
    intro s hr hs e
    rw [sh, sh] at e
    have k := kd e
    cases s with
    | n0 p => exact absurd k.2 (by simp [R.inner])
    | n1 p d =>
      have k2 : c.data true = d.data true := by simpa [R.inner] using k.2
      rw [show o = p from k.1, ih hr.2.2 hs.2.2 k2]
    | n2 p c d => exact absurd k.2 (by simp [R.inner])
  | n2 o c d ihc ihd =>
    intro s hr hs e
    rw [sh, sh] at e
    have k := kd e
    cases s with
    | n0 p => exact absurd k.2 (by simp [R.inner])
    | n1 p d => exact absurd k.2 (by simp [R.inner])
    | n2 p c' d' =>
      have k2 : c.data true = c'.data true ∧ d.data true = d'.data true := by simpa [R.inner] using k.2
      rw [show o = p from k.1, ihc hr.2.2.1 hs.2.2.1 k2.1, ihd hr.2.2.2 hs.2.2.2 k2.2]
mutual
def flatN : PyData → Bool
  | .none => true
  | .int _ => true
  | .str z => PyData.strOk z
  | .tuple ds => flatA ds
  | .list ds => flatA ds
  | _ => false
def flatA : List PyData → Bool
  | [] => true
  | d :: ds => flatN d && flatA ds
end
mutual
theorem canLay_flat : ∀ d : PyData, flatN d = true → PyData.canLay0 d = true
  | .int _, _ => by simp [PyData.canLay0]
  | .str _, h => by simpa [PyData.canLay0, flatN] using h
  | .tuple ds, h => by rw [PyData.canLay0]; exact canLayA_flat ds (by simpa [flatN] using h)
  | .list ds, h => by rw [PyData.canLay0]; exact canLayA_flat ds (by simpa [flatN] using h)
  | .none, _ => by simp [PyData.canLay0]
  | .bool _, h => by simp [flatN] at h
  | .dict _, h => by simp [flatN] at h
theorem canLayA_flat : ∀ ds : List PyData, flatA ds = true → PyData.canLayAll0 ds = true
  | [], _ => by simp [PyData.canLayAll0]
  | d :: ds, h => by
    simp only [flatA, Bool.and_eq_true] at h
    rw [PyData.canLayAll0, canLay_flat d h.1, canLayA_flat ds h.2]
    rfl
end

theorem flatA_iff : ∀ {ds : List PyData}, flatA ds = true ↔ ∀ d ∈ ds, flatN d = true
  | [] => by simp [flatA]
  | d :: ds => by simp [flatA, flatA_iff]
theorem depthA_le {n : Nat} : ∀ {ds : List PyData}, (∀ d ∈ ds, d.depth ≤ n) → PyData.depthAll ds ≤ n
  | [], _ => Nat.zero_le _
  | d :: ds, h => by
    rw [PyData.depthAll]
    have := h d (List.mem_cons_self ..)
    have := depthA_le fun e q => h e (List.mem_cons_of_mem _ q)
    omega
theorem flat_sq {t : Bool} {ds : List PyData} (h : ∀ d ∈ ds, flatN d = true) : flatN (sq t ds) = true := by
  cases t <;> exact flatA_iff.mpr h
theorem depth_sq {t : Bool} {ds : List PyData} {n : Nat} (h : ∀ d ∈ ds, d.depth ≤ n) : (sq t ds).depth ≤ n + 1 := by
  cases t <;> exact Nat.succ_le_succ (depthA_le h)
theorem mem_map_pn {ns : List Nat} {d : PyData} (h : d ∈ ns.map pn) : flatN d = true ∧ d.depth ≤ 0 := by
  obtain ⟨n, _, rfl⟩ := List.mem_map.mp h
  exact ⟨rfl, Nat.le_refl _⟩
end K4

/-! HdG -/
/-! What the top left, read by one kernel run: tables, tuples, errors with an own __init__. -/
namespace Hd
open PySem PySem.Spec PyProof.Rows L2 He
/-! ### a def that names __class__ -/
abbrev FnL : Type := Option (Str × Str × Arguments × FuncBody × Scope × Addr × List Str × Value × Addr)
def fnL (K : PySem.W.Frag) (p : Str × Option Str) : FnL := match K.lookup (fAd K p) with
  | some ⟨_, _, .func fd, _⟩ => some (fd.name, fd.qualname, fd.params, fd.body, fd.scope, fd.globals, fd.closure.map (·.1), fd.defaults, fd.builtins)
  | _ => none
structure DefC where
  at_ : Str × Option Str
  qual : Str
  params : Arguments
  body : List Stmt
  scope : Scope
def DefC.val (d : DefC) : FnL := some ("__init__", d.qual, d.params, .stmts d.body, d.scope, mainGlobals, ["__class__"], .none, builtinsNs)
/-- its code's file is the program's, its cell holds the class -/
def initB (P : Program) (K : PySem.W.Frag) (p : Str × Option Str) (q : Str) (C : Addr) : Bool := match K.lookup (fAd K p) with
  | some ⟨_, _, .func fd, _⟩ => (match fd.code, fd.closure with
    | .ref cda, [(_, cc)] => PySem.W.codeIn K (.ref cda) q && ((match K.lookup cda with
      | some ⟨_, _, .fields vs, _⟩ => (match (vs[2]? : Option Value) with
        | some (.str f _) => P.main.file == f
        | _ => false)
      | _ => false) && (match K.lookup cc with
      | some ⟨_, _, .cell (some (.ref C')), _⟩ => decide (C' = C)
      | _ => false))
    | _, _ => false)
  | _ => false
theorem init_ok {P : Program} {K : PySem.W.Frag} {d : DefC} {C : Addr} (e : fnL K d.at_ = d.val) (c : initB P K d.at_ d.qual C = true) :
    ∃ (oc : Value) (od : Option Addr) (kV doc pm : Value) (an : Option Addr) (ct : Value) (osl : Array (Option Value)) (cda cc : Addr) (ccl : Value) (cdd : Option Addr) (vs : Array Value) (ccs : Array (Option Value)) (file : Str) (tf : Tok) (cl : Value) (cld : Option Addr) (csl : Array (Option Value)),
      K.lookup (fAd K d.at_) = some ⟨oc, od, .func (PySem.W.ksFn "__init__" d.qual d.params d.body d.scope .none kV doc pm an (.ref cda) ct cc), osl⟩ ∧ PySem.W.codeIn K (.ref cda) d.qual = true ∧
      K.lookup cda = some ⟨ccl, cdd, .fields vs, ccs⟩ ∧ vs[2]? = some (.str file tf) ∧ (P.main.file == file) = true ∧ K.lookup cc = some ⟨cl, cld, .cell (some (.ref C)), csl⟩ := by
  unfold fnL at e
  unfold initB at c
  cases q : K.lookup (fAd K d.at_) with
  | none => rw [q] at c; cases c
  | some o =>
    obtain ⟨oc, od, dt, osl⟩ := o
    rw [q] at c e
    cases dt with
    | func fd =>
      obtain ⟨n1, n2, n3, n4, n5, n6, n7, n8, n9, n10, n11, n12, n13, n14, n15⟩ := fd
      have e2 : (some (n1, n2, n3, n4, n5, n6, n7.map (·.1), n8, n15) : FnL) = DefC.val d := e
      unfold DefC.val at e2
      simp only [Option.some.injEq, Prod.mk.injEq] at e2
      obtain ⟨h1, h2, h3, h4, h5, h6, h7, h8, h9⟩ := e2
      subst h1 h2 h3 h4 h5 h6 h8 h9
      cases n13 with
      | ref cda =>
        match n7, h7 with
        | [(k, cc)], h7 =>
          have hk : k = "__class__" := by simpa using h7
          subst hk
          obtain ⟨c1, c⟩ := ba (show (PySem.W.codeIn K (.ref cda) d.qual && ((match K.lookup cda with
            | some ⟨_, _, .fields vs, _⟩ => (match (vs[2]? : Option Value) with
              | some (.str f _) => P.main.file == f
              | _ => false)
            | _ => false) && (match K.lookup cc with
            | some ⟨_, _, .cell (some (.ref C')), _⟩ => decide (C' = C)
            | _ => false))) = true from c)
          obtain ⟨c2, c3⟩ := ba c
          cases q2 : K.lookup cda with
          | none => rw [q2] at c2; cases c2
          | some o2 =>
            obtain ⟨ccl, cdd, dt2, ccs⟩ := o2
            rw [q2] at c2
            cases dt2 with
            | fields vs =>
              have c2' : (match (vs[2]? : Option Value) with
                | some (.str f _) => P.main.file == f
                | _ => false) = true := c2
              cases q4 : vs[2]? with
              | none => rw [q4] at c2'; cases c2'
              | some u =>
                rw [q4] at c2'
                cases u with
                | str file tf =>
                  cases q3 : K.lookup cc with
                  | none => rw [q3] at c3; cases c3
                  | some o3 =>
                    obtain ⟨cl, cld, dt3, csl⟩ := o3
                    rw [q3] at c3
                    cases dt3 with
                    | cell v =>
                      cases v with
                      | none => cases c3
                      | some v =>
                        cases v with
                        | ref C' =>
                          have e3 : C' = C := of_decide_eq_true c3
                          subst e3
                          exact ⟨oc, od, n9, n10, n11, n12, n14, osl, cda, cc, ccl, cdd, vs, ccs, file, tf, cl, cld, csl, rfl, c1, q2, q4, c2', q3⟩
                        | _ => cases c3
                    | _ => cases c3
                | _ => cases c2'
            | _ => cases c2
        | [], h7 => simp at h7
        | _ :: _ :: _, h7 => simp at h7
      | _ => cases c
    | _ => cases c
/-- a class over ValueError, with an own __init__ -/
def oexB (K : PySem.W.Frag) (C : Addr) : Bool := (match K.lookup C with
  | some ⟨.type "type", _, .cls cd, sl⟩ => (match cd.mro, sl.toList with
    | .ref C' :: bm, [_, _, _, _, some (.builtin n), _] => C' == C && (n == "ValueError.__new__" && (!cd.hasDel && (PySem.HandSPX.refsVE bm && cd.hasDict)))
    | _, _ => false)
  | _ => false) && (eqO (PySem.W.findIn K (.ref C) "__setattr__") (some (some (.builtin "object.__setattr__"))) && (decide (PySem.W.subIn K (.ref C) (.type "BaseException") = some true) && (decide (PySem.W.typeIn K (.ref C) = some (.type "type")) && PySem.W.keepIn K (.ref C))))
theorem oexB_ok {K : PySem.W.Frag} {C : Addr} (h : oexB K C = true) : OexC K C := by
  obtain ⟨h0, h⟩ := ba h
  obtain ⟨h1, h⟩ := ba h
  obtain ⟨h2, h⟩ := ba h
  obtain ⟨h3, h4⟩ := ba h
  refine ⟨?_, eqO_ok h1, of_decide_eq_true h2, of_decide_eq_true h3, h4⟩
  split at h0
  · rename_i dd cd sl ho
    split at h0
    · rename_i C' bm k0 k1 k2 k3 n k5 hm hs
      simp only [Bool.and_eq_true, beq_iff_eq, Bool.not_eq_true'] at h0
      obtain ⟨rfl, rfl, hdel, hr, hd⟩ := h0
      obtain ⟨nm, bs, mro, ns, qn, hdc, sn, sub, ab, col, del⟩ := cd
      dsimp only at hm hdel hd
      subst hm hdel hd
      have hsl : sl = #[k0, k1, k2, k3, some (.builtin "ValueError.__new__"), k5] := by
        obtain ⟨l⟩ := sl
        simp only at hs
        rw [hs]
      subst hsl
      exact ⟨nm, qn, ns, bs, bm, sn, sub, ab, col, dd, k0, k1, k2, k3, k5, ho, hr⟩
    · cases h0
  · cases h0
def excB (K : PySem.W.Frag) (D : Addr) : Bool := decide (PySem.W.findIn K (.ref D) "__getattribute__" = some (some (.builtin "BaseException.__getattribute__"))) && (decide (PySem.W.findIn K (.ref D) "__getattr__" = some none) && (decide (PySem.W.subIn K (.ref D) (.type "BaseException") = some true) && (PySem.W.hasDictIn K D &&
  (decide (PySem.W.findIn K (.ref D) "__class__" = some (some (.builtin "object.__class__"))) && (decide (PySem.W.specialIn K (.builtin "object.__class__") "__get__" = some (some (.builtin "getset_descriptor.__get__"))) && (decide (PySem.W.takesIn K (.builtin "object.__class__") = some true) && decide (PySem.W.mroIn K D (.type "object") = some true)))))))
theorem excB_ok {K : PySem.W.Frag} {D : Addr} (h : excB K D = true) : ExcC K D := by
  obtain ⟨h1, h⟩ := ba h
  obtain ⟨h2, h⟩ := ba h
  obtain ⟨h3, h⟩ := ba h
  obtain ⟨h4, h⟩ := ba h
  obtain ⟨h5, h⟩ := ba h
  obtain ⟨h6, h⟩ := ba h
  obtain ⟨h7, h8⟩ := ba h
  exact ⟨of_decide_eq_true h1, of_decide_eq_true h2, of_decide_eq_true h3, h4, of_decide_eq_true h5, of_decide_eq_true h6, of_decide_eq_true h7, of_decide_eq_true h8⟩
/-- what super().__init__ asks of the class -/
def supB (K : PySem.W.Frag) (C : Addr) : Bool := decide (PySem.W.ks_superIn K C C "__init__" = some (some (.builtin "ValueError.__init__"))) && (decide (PySem.W.mroIn K C (.ref C) = some true) && decide (PySem.W.subIn K (.ref C) (.type "ValueError") = some true))
theorem supB_ok {K : PySem.W.Frag} {C : Addr} (h : supB K C = true) : PySem.W.ks_superIn K C C "__init__" = some (some (.builtin "ValueError.__init__")) ∧ PySem.W.mroIn K C (.ref C) = some true ∧ PySem.W.subIn K (.ref C) (.type "ValueError") = some true := by
  obtain ⟨h1, h⟩ := ba h
  obtain ⟨h2, h3⟩ := ba h
  exact ⟨of_decide_eq_true h1, of_decide_eq_true h2, of_decide_eq_true h3⟩
def kitB1 (K : PySem.W.Frag) (C a : Addr) (b : Bool) : Bool := decide (PySem.W.kitOne K (.ref C) (.ref a) = some b)
/-! ### tuples, tables -/
def tupAtB (K : PySem.W.Frag) (a : Addr) (vs : List Str) : Bool := match K.lookup a with
  | some ⟨.type c, _, .seq its _, _⟩ => decide (c = "tuple") && (decide (its.size ≤ sizeLine) && relAll (vs.map V.str) its.toList)
  | _ => false
theorem tupAtB_ok {K : PySem.W.Frag} {a : Addr} {vs : List Str} (h : tupAtB K a vs = true) (H : Hp) : SqT K H a (vs.map V.str) := by
  unfold tupAtB at h
  cases q : K.lookup a with
  | none => rw [q] at h; cases h
  | some o =>
    obtain ⟨oc, od, dt, osl⟩ := o
    rw [q] at h
    cases oc with
    | type c =>
      cases dt with
      | seq its n =>
        obtain ⟨h1, h2⟩ := ba (show (decide (c = "tuple") && (decide (its.size ≤ sizeLine) && relAll (vs.map V.str) its.toList)) = true from h)
        obtain ⟨h3, h4⟩ := ba h2
        exact .inr ⟨_, its, n, q, congrArg Value.type (of_decide_eq_true h1), rfl, of_decide_eq_true h3, relAll_ok h4⟩
      | _ => cases h
    | _ => cases dt <;> cases h
def dAt (K : PySem.W.Frag) (d : Addr) (x : Str) : Addr := match PySem.W.nsIn K d x with
  | some (some (.ref a)) => a
  | _ => 0
theorem keys_vals {P : Params} : ∀ {l : List DictEntry} {ks : List Str}, l.map keyOf = keysIn P ks → Vals (ks.map V.str) (l.map (·.key))
  | [], [], _ => .nil
  | [], _ :: _, h => by cases h
  | e :: r, [], h => by cases h
  | e :: r, k :: ks, h => by
    have h1 : keyOf e :: r.map keyOf = some (k, PyData.keyHash P k) :: keysIn P ks := h
    injection h1 with h2 h3
    refine .cons ?_ (keys_vals h3)
    unfold keyOf at h2
    split at h2
    · rename_i x t q
      have h4 := Option.some.inj h2
      obtain ⟨h5, h6⟩ := Prod.mk.inj h4
      exact ⟨t, by show e.key = _; rw [q, h5]⟩
    · cases h2
theorem dicW_keys {K : PySem.W.Frag} {w : World} {a : Addr} {ks : List Str} (h : dicW K a = some (keysIn w.params ks)) {es : Array DictEntry} {n : Nat} (q : K.lookup a = some ⟨.type "dict", none, .dict es n, #[]⟩) : Vals (ks.map V.str) (es.toList.map (·.key)) := by
  unfold dicW at h
  rw [q] at h
  have h1 : (match decide ("dict" = "dict") && ((#[] : Array (Option Value)).isEmpty && !(a == sysModules)) with
    | true => some (es.toList.map keyOf)
    | false => none) = some (keysIn w.params ks) := h
  cases z : decide ("dict" = "dict") && ((#[] : Array (Option Value)).isEmpty && !(a == sysModules)) with
  | false => rw [z] at h1; cases h1
  | true =>
    rw [z] at h1
    exact keys_vals (Option.some.inj h1)
def allB (K : PySem.W.Frag) (a : Addr) (f : DictEntry → Bool) : Bool := match K.lookup a with
  | some ⟨_, _, .dict es _, _⟩ => es.toList.all f
  | _ => false
theorem allB_ok {K : PySem.W.Frag} {a : Addr} {f : DictEntry → Bool} (h : allB K a f = true) {es : Array DictEntry} {n : Nat} (q : K.lookup a = some ⟨.type "dict", none, .dict es n, #[]⟩) : es.toList.all f = true := by
  unfold allB at h
  rw [q] at h
  exact h
/-! ### the Hook -/
/-- what an object names: no more than the facts ask for -/
def ref1 (o : Obj) : List Addr := match o.data with
  | .dict es _ => es.toList.flatMap fun e => refV e.val
  | .func fd => refV fd.code ++ fd.closure.map (·.2)
  | .cls cd => [cd.ns]
  | _ => []
def lv (g : Addr → Option Obj) (as : List Addr) : List Addr := as.flatMap fun a => match g a with
  | some o => ref1 o
  | none => []
/-- the list, worked out ahead of what follows -/
def frL {α : Type} : List Addr → (List Addr → α) → α
  | [], k => k []
  | a :: r, k => HandSHeadRun.frNat a fun a => frL r fun r => k (a :: r)
theorem frL_eq {α : Type} : ∀ (l : List Addr) (k : List Addr → α), frL l k = k l
  | [], _ => rfl
  | a :: r, k => by
    show HandSHeadRun.frNat a (fun a => frL r fun r => k (a :: r)) = _
    rw [HandSHeadRun.frNat_eq, frL_eq r]
/-- the objects at these places, worked out ahead of what follows -/
def mkK {α : Type} (g : Addr → Option Obj) : List Addr → (PySem.W.Frag → α) → α
  | [], k => k []
  | a :: r, k => match g a with
    | some o => mkK g r fun K => k ((a, o) :: K)
    | none => mkK g r k
theorem mkK_eq {α : Type} (g : Addr → Option Obj) : ∀ (l : List Addr) (k : PySem.W.Frag → α), mkK g l k = k (frG g l)
  | [], _ => rfl
  | a :: r, k => by
    unfold mkK frG
    rw [List.filterMap_cons]
    cases e : g a with
    | none => exact mkK_eq g r k
    | some o => exact mkK_eq g r fun K => k ((a, o) :: K)
abbrev AlY : Type := AlT × Bool × List FnL
def obsYK (fa : List Fa) (fn : List DefD) (ts : List Tab) (ex : PySem.W.Frag → Bool) (fc : List DefC) (K : PySem.W.Frag) : AlY := (obsT fa fn ts K, ex K, fc.map fun d => fnL K d.at_)
def valY (fn : List DefD) (ts : List Tab) (fc : List DefC) (w : World) : AlY := (valT fn ts w, true, fc.map DefC.val)
def obsY (fa : List Fa) (fn : List DefD) (ts : List Tab) (ex : PySem.W.Frag → Bool) (fc : List DefC) (g : Addr → Option Obj) : AlY :=
  frL (lv g [mainGlobals]) fun l1 => frL (lv g l1) fun l2 => frL (lv g l2) fun l3 => frL (lv g l3) fun l4 => mkK g (mainGlobals :: cStatics :: (l1 ++ (l2 ++ (l3 ++ l4)))) fun K => obsYK fa fn ts ex fc K
theorem obsY_at (fa : List Fa) (fn : List DefD) (ts : List Tab) (ex : PySem.W.Frag → Bool) (fc : List DefC) (g : Addr → Option Obj) : ∃ as, obsY fa fn ts ex fc g = obsYK fa fn ts ex fc (frG g as) := by
  unfold obsY
  rw [frL_eq, frL_eq, frL_eq, frL_eq, mkK_eq]
  exact ⟨_, rfl⟩
def SaysY (fa : List Fa) (fn : List DefD) (ts : List Tab) (ex : PySem.W.Frag → Bool) (fc : List DefC) (w : World) (K : PySem.W.Frag) : Prop := obsYK fa fn ts ex fc K = valY fn ts fc w
def hookY (fa : List Fa) (fn : List DefD) (ts : List Tab) (ex : PySem.W.Frag → Bool) (fc : List DefC) : PySem.W.Hook where
  α := AlY
  obs := fun s => obsY fa fn ts ex fc s.heap.get?
  val := fun w => valY fn ts fc w
  says := fun w h => ∃ K : PySem.W.Frag, K.In h ∧ SaysY fa fn ts ex fc w K
  of := fun _ s e => by
    obtain ⟨as, q⟩ := obsY_at fa fn ts ex fc s.heap.get?
    exact ⟨_, frG_in, q.symm.trans e⟩
  keeps := fun _ _ _ ⟨K, hK, c⟩ k => ⟨K, PySem.W.Frag.In.keeps hK k, c⟩
theorem obsY_eq {fa : List Fa} {fn : List DefD} {ts : List Tab} {ex : PySem.W.Frag → Bool} {fc : List DefC} {g : Addr → Option Obj} {s : Shared} (h : ∀ a, g a = s.heap.get? a) : obsY fa fn ts ex fc g = (hookY fa fn ts ex fc).obs s := by
  have e : g = s.heap.get? := funext h
  rw [e] <;> rfl
section
variable {fa : List Fa} {fn : List DefD} {ts : List Tab} {ex : PySem.W.Frag → Bool} {fc : List DefC} {w : World} {K : PySem.W.Frag}
theorem SaysY.t (c : SaysY fa fn ts ex fc w K) : SaysT fa fn ts w K := congrArg (fun z : AlY => z.1) c
theorem SaysY.x (c : SaysY fa fn ts ex fc w K) : ex K = true := congrArg (fun z : AlY => z.2.1) c
theorem SaysY.tabW (c : SaysY fa fn ts ex fc w K) (i : Nat) {t : Tab} (h : ts[i]? = some t := by rfl) : dicW K (t.1 K) = some (keysIn w.params t.2) := by
  have e : ts.map (fun t => dicW K (t.1 K)) = ts.map fun t => some (keysIn w.params t.2) := congrArg (fun z : AlT => z.2) c.t
  have e2 : (ts.map fun t => dicW K (t.1 K))[i]? = (ts.map fun t => some (keysIn w.params t.2))[i]? := by rw [e]
  rw [List.getElem?_map, List.getElem?_map, h] at e2
  exact Option.some.inj e2
theorem SaysY.init (c : SaysY fa fn ts ex fc w K) (i : Nat) {d : DefC} (h : fc[i]? = some d := by rfl) : fnL K d.at_ = d.val := by
  have e : fc.map (fun d => fnL K d.at_) = fc.map DefC.val := congrArg (fun z : AlY => z.2.2) c
  have e2 : (fc.map fun d => fnL K d.at_)[i]? = (fc.map DefC.val)[i]? := by rw [e]
  rw [List.getElem?_map, List.getElem?_map, h] at e2
  exact Option.some.inj e2
theorem kdct_of {a : Addr} {es : Array DictEntry} {n : Nat} (D : KDict K w a es n) {kvs : List (Str × He.Dv)} (h : valsB K a kvs = true) {x : Str} {v : Dv} (hq : (x, v) ∈ kvs) : KDct K w a x (v.v K) := by
  obtain ⟨u, e, r⟩ := valsB_ok h hq
  exact ⟨es, n, u, D.at_, D.lit, e, r⟩
end
end Hd

/-! K7Q -/
namespace K4
open PySem L2 K1
/-- the key of an entry is a word of rules -/
def wdKey (e : DictEntry) : Bool := match e.key with
  | .str y _ => (List.range 9).any fun k => decide (y = wd k)
  | _ => false

end K4
namespace HdK7
open PySem PySem.Spec PyProof.Rows L2 K1 K4 He
def nnQ : List Str := ["signs", "series", "run", "words", "rule", "any", "sum", "square", "faces", "back", "cut", "both", "either", "not", "hand", "slip", "way", "desk", "clerk", "spell", "echo", "issue", "block", "use", "void", "again", "day", "edition"]
def dkQ : Nat → List Str
  | 0 => ["name", "many"]
  | 1 => ["name", "name", "many"]
  | 2 => ["name", "name"]
  | 3 => ["name", "paper"]
  | 4 => ["name", "paper"]
  | 5 => []
  | 6 => ["name", "rule"]
  | _ => []
abbrev PROG : Program := (PySem.Challenge.rw_handcarried_k07_deed_lines).prog
def fa0 : List Fa := [.glo "is_whole", .glo "is_within", .glo "is_text", .glo "own_values", .glo "inner_rules", .glo "is_name", .glo "name_in", .glo "integer_in", .glo "integers_in", .glo "characters_in", .glo "paper_in", .glo "texts_in", .glo "paper_word", .glo "integers_word", .glo "write_rule", .glo "rule_words", .glo "own_words", .glo "take_last_rule", .glo "take_rule", .glo "rule_word_in", .glo "taken_values", .glo "rows_in", .glo "write_deeds", .glo "deed_line", .glo "deed_word", .glo "read_deeds", .glo "read_deed", .glo "take_part", .glo "_law_bag_of", .glo "_law_pick"]
def fa1 : List Fa := [.glo "_law_one_of", .glo "_law_mixed", .glo "_law_paper_of", .glo "_law_listed_of", .glo "_law_no_list", .glo "_law_is_int", .glo "_law_same_tuple", .glo "_law_many_signs", .glo "_law_classes", .glo "_law_commas", .glo "_law_rule_words", .glo "_law_numeral", .glo "_law_numerals", .glo "_law_made", .glo "_law_strings", .glo "_law_rule_kinds", .glo "_law_rule_told", .glo "_law_read_rule", .glo "_law_rule_from", .glo "_law_text_leaf", .glo "_law_text_rule", .glo "_law_keywords", .glo "_law_free_names", .glo "_law_odd_word", .glo "_law_spoilt_of", .glo "_law_deed_of", .glo "_law_deed_line", .glo "_law_deed_word", .glo "_law_read_deed", .glo "_law_told_of"]
def fa2 : List Fa := [.glo "_law_due_of", .glo "_law_spoilt_lines", .glo "law", .glo "CarryError", .glo "Malformed", .glo "Refused", .glo "BadSigns", .glo "BadPaper", .glo "BadName", .glo "BadWalk", .glo "BadRule", .glo "BadForm", .glo "BadSlip", .glo "BadWay", .glo "BadDeed", .glo "BadLine", .glo "TooMany", .glo "Twice", .glo "Unknown", .glo "Unlike", .glo "Unfit", .glo "Words", .glo "OWN_VALUES", .glo "INNER_RULES", .glo "DEED_WORDS", .glo "NO_NAMES", .free "len", .free "sum", .free "abs", .free "int"]
def fa3 : List Fa := [.free "range", .free "list", .free "tuple", .free "str", .free "bool", .free "sorted", .free "all", .free "min", .free "isinstance", .free "max", .free "zip", .free "enumerate", .free "super", .int "LEAST_KINDS" 2, .int "MOST_KINDS" 12, .int "LEAST_MODULUS" 2, .int "MOST_MODULUS" 60, .int "MOST_WEIGHTS" 8, .int "MOST_ROWS" 60, .int "MOST_FACES" 4, .int "MOST_CUT" 3, .int "MOST_PARTS" 40, .int "MOST_DIGITS" 9, .int "MOST_NUMBER" 59, .int "MOST_SIGNS" 60, .int "MOST_MANY" 20, .int "MOST_LETTERS" 8, .str "DIGITS" "0123456789", .str "ALL_SIGNS" K4.ALL, .str "LETTERS" "abcdefghijklmnopqrstuvwxyz"]
def fa4 : List Fa := [.str "EMPTY_PAPER" "-", .cls "Words", .noat "Words" "line", .noat "Words" "words", .noat "Words" "at", .meth "Words" "here", .meth "Words" "taken", .meth "Words" "take_one_of", .meth "Words" "take_name", .meth "Words" "take_paper", .meth "Words" "take_integer", .meth "Words" "more", .meth "Words" "finish", .mkr "Words", .exm "BadLine" "BadLine" true]
def fa : List Fa := fa0 ++ fa1 ++ fa2 ++ fa3 ++ fa4

def fn0 : List DefD := [⟨("is_whole", none), "is_whole", "is_whole", defArgs (top 20), defBody (top 20), defScope (top 20), [], []⟩, ⟨("is_within", none), "is_within", "is_within", defArgs (top 21), defBody (top 21), defScope (top 21), [], []⟩, ⟨("is_text", none), "is_text", "is_text", defArgs (top 22), defBody (top 22), defScope (top 22), [], []⟩, ⟨("own_values", none), "own_values", "own_values", defArgs (top 37), defBody (top 37), defScope (top 37), [], []⟩, ⟨("inner_rules", none), "inner_rules", "inner_rules", defArgs (top 38), defBody (top 38), defScope (top 38), [], []⟩, ⟨("is_name", none), "is_name", "is_name", defArgs (top 43), defBody (top 43), defScope (top 43), [], []⟩, ⟨("name_in", none), "name_in", "name_in", defArgs (top 48), defBody (top 48), defScope (top 48), [], []⟩, ⟨("integer_in", none), "integer_in", "integer_in", defArgs (top 49), defBody (top 49), defScope (top 49), [], []⟩, ⟨("integers_in", none), "integers_in", "integers_in", defArgs (top 50), defBody (top 50), defScope (top 50), [], []⟩, ⟨("characters_in", none), "characters_in", "characters_in", defArgs (top 51), defBody (top 51), defScope (top 51), [], []⟩, ⟨("paper_in", none), "paper_in", "paper_in", defArgs (top 52), defBody (top 52), defScope (top 52), [], []⟩, ⟨("texts_in", none), "texts_in", "texts_in", defArgs (top 53), defBody (top 53), defScope (top 53), [], []⟩, ⟨("paper_word", none), "paper_word", "paper_word", defArgs (top 54), defBody (top 54), defScope (top 54), [], []⟩, ⟨("integers_word", none), "integers_word", "integers_word", defArgs (top 55), defBody (top 55), defScope (top 55), [], []⟩, ⟨("write_rule", none), "write_rule", "write_rule", defArgs (top 59), defBody (top 59), defScope (top 59), [], []⟩, ⟨("rule_words", none), "rule_words", "rule_words", defArgs (top 60), defBody (top 60), defScope (top 60), [], []⟩, ⟨("own_words", none), "own_words", "own_words", defArgs (top 61), defBody (top 61), defScope (top 61), [], []⟩, ⟨("take_last_rule", none), "take_last_rule", "take_last_rule", defArgs (top 62), defBody (top 62), defScope (top 62), [], []⟩, ⟨("take_rule", none), "take_rule", "take_rule", defArgs (top 63), defBody (top 63), defScope (top 63), [], []⟩, ⟨("rule_word_in", none), "rule_word_in", "rule_word_in", defArgs (top 64), defBody (top 64), defScope (top 64), [], []⟩, ⟨("taken_values", none), "taken_values", "taken_values", defArgs (top 65), defBody (top 65), defScope (top 65), [], []⟩, ⟨("rows_in", none), "rows_in", "rows_in", defArgs (top 66), defBody (top 66), defScope (top 66), [], []⟩, ⟨("write_deeds", none), "write_deeds", "write_deeds", defArgs (top 70), defBody (top 70), defScope (top 70), [], []⟩, ⟨("deed_line", none), "deed_line", "deed_line", defArgs (top 71), defBody (top 71), defScope (top 71), [], []⟩, ⟨("deed_word", none), "deed_word", "deed_word", defArgs (top 72), defBody (top 72), defScope (top 72), [], []⟩, ⟨("read_deeds", none), "read_deeds", "read_deeds", defArgs (top 73), defBody (top 73), defScope (top 73), [], []⟩, ⟨("read_deed", none), "read_deed", "read_deed", defArgs (top 74), defBody (top 74), defScope (top 74), [], []⟩, ⟨("take_part", none), "take_part", "take_part", defArgs (top 75), defBody (top 75), defScope (top 75), [], []⟩, ⟨("_law_bag_of", none), "_law_bag_of", "_law_bag_of", defArgs (top 77), defBody (top 77), defScope (top 77), [], []⟩, ⟨("_law_pick", none), "_law_pick", "_law_pick", defArgs (top 78), defBody (top 78), defScope (top 78), [], []⟩]
def fn1 : List DefD := [⟨("_law_one_of", none), "_law_one_of", "_law_one_of", defArgs (top 79), defBody (top 79), defScope (top 79), [], []⟩, ⟨("_law_mixed", none), "_law_mixed", "_law_mixed", defArgs (top 80), defBody (top 80), defScope (top 80), [], []⟩, ⟨("_law_paper_of", none), "_law_paper_of", "_law_paper_of", defArgs (top 81), defBody (top 81), defScope (top 81), [], []⟩, ⟨("_law_listed_of", none), "_law_listed_of", "_law_listed_of", defArgs (top 82), defBody (top 82), defScope (top 82), [], []⟩, ⟨("_law_no_list", none), "_law_no_list", "_law_no_list", defArgs (top 83), defBody (top 83), defScope (top 83), [], []⟩, ⟨("_law_is_int", none), "_law_is_int", "_law_is_int", defArgs (top 84), defBody (top 84), defScope (top 84), [], []⟩, ⟨("_law_same_tuple", none), "_law_same_tuple", "_law_same_tuple", defArgs (top 85), defBody (top 85), defScope (top 85), [], []⟩, ⟨("_law_many_signs", none), "_law_many_signs", "_law_many_signs", defArgs (top 86), defBody (top 86), defScope (top 86), [], []⟩, ⟨("_law_classes", none), "_law_classes", "_law_classes", defArgs (top 87), defBody (top 87), defScope (top 87), [], []⟩, ⟨("_law_commas", none), "_law_commas", "_law_commas", defArgs (top 88), defBody (top 88), defScope (top 88), [], []⟩, ⟨("_law_rule_words", none), "_law_rule_words", "_law_rule_words", defArgs (top 89), defBody (top 89), defScope (top 89), [], []⟩, ⟨("_law_numeral", none), "_law_numeral", "_law_numeral", defArgs (top 90), defBody (top 90), defScope (top 90), [], []⟩, ⟨("_law_numerals", none), "_law_numerals", "_law_numerals", defArgs (top 91), defBody (top 91), defScope (top 91), [], []⟩, ⟨("_law_made", none), "_law_made", "_law_made", defArgs (top 92), defBody (top 92), defScope (top 92), [], []⟩, ⟨("_law_strings", none), "_law_strings", "_law_strings", defArgs (top 93), defBody (top 93), defScope (top 93), [], []⟩, ⟨("_law_rule_kinds", none), "_law_rule_kinds", "_law_rule_kinds", defArgs (top 94), defBody (top 94), defScope (top 94), [], []⟩, ⟨("_law_rule_told", none), "_law_rule_told", "_law_rule_told", defArgs (top 95), defBody (top 95), defScope (top 95), [], []⟩, ⟨("_law_read_rule", none), "_law_read_rule", "_law_read_rule", defArgs (top 96), defBody (top 96), defScope (top 96), [], []⟩, ⟨("_law_rule_from", none), "_law_rule_from", "_law_rule_from", defArgs (top 97), defBody (top 97), defScope (top 97), [], []⟩, ⟨("_law_text_leaf", none), "_law_text_leaf", "_law_text_leaf", defArgs (top 98), defBody (top 98), defScope (top 98), [], []⟩, ⟨("_law_text_rule", none), "_law_text_rule", "_law_text_rule", defArgs (top 99), defBody (top 99), defScope (top 99), [], []⟩, ⟨("_law_keywords", none), "_law_keywords", "_law_keywords", defArgs (top 100), defBody (top 100), defScope (top 100), [], []⟩, ⟨("_law_free_names", none), "_law_free_names", "_law_free_names", defArgs (top 101), defBody (top 101), defScope (top 101), [], []⟩, ⟨("_law_odd_word", none), "_law_odd_word", "_law_odd_word", defArgs (top 102), defBody (top 102), defScope (top 102), [], []⟩, ⟨("_law_spoilt_of", none), "_law_spoilt_of", "_law_spoilt_of", defArgs (top 103), defBody (top 103), defScope (top 103), [], []⟩, ⟨("_law_deed_of", none), "_law_deed_of", "_law_deed_of", defArgs (top 104), defBody (top 104), defScope (top 104), [], []⟩, ⟨("_law_deed_line", none), "_law_deed_line", "_law_deed_line", defArgs (top 105), defBody (top 105), defScope (top 105), [], []⟩, ⟨("_law_deed_word", none), "_law_deed_word", "_law_deed_word", defArgs (top 106), defBody (top 106), defScope (top 106), [], []⟩, ⟨("_law_read_deed", none), "_law_read_deed", "_law_read_deed", defArgs (top 107), defBody (top 107), defScope (top 107), [], []⟩, ⟨("_law_told_of", none), "_law_told_of", "_law_told_of", defArgs (top 108), defBody (top 108), defScope (top 108), [], []⟩]
def fn2 : List DefD := [⟨("_law_due_of", none), "_law_due_of", "_law_due_of", defArgs (top 109), defBody (top 109), defScope (top 109), [], []⟩, ⟨("_law_spoilt_lines", none), "_law_spoilt_lines", "_law_spoilt_lines", defArgs (top 110), defBody (top 110), defScope (top 110), [], []⟩, ⟨("law", none), "law", "law", defArgs (top 111), defBody (top 111), defScope (top 111), [], []⟩, ⟨("Words", some "__init__"), "__init__", "Words.__init__", defArgs (inClass (top 56) 0), defBody (inClass (top 56) 0), defScope (inClass (top 56) 0), [], []⟩, ⟨("Words", some "here"), "here", "Words.here", defArgs (inClass (top 56) 1), defBody (inClass (top 56) 1), defScope (inClass (top 56) 1), [], []⟩, ⟨("Words", some "taken"), "taken", "Words.taken", defArgs (inClass (top 56) 2), defBody (inClass (top 56) 2), defScope (inClass (top 56) 2), [], []⟩, ⟨("Words", some "take_one_of"), "take_one_of", "Words.take_one_of", defArgs (inClass (top 56) 3), defBody (inClass (top 56) 3), defScope (inClass (top 56) 3), [], []⟩, ⟨("Words", some "take_name"), "take_name", "Words.take_name", defArgs (inClass (top 56) 4), defBody (inClass (top 56) 4), defScope (inClass (top 56) 4), [], []⟩, ⟨("Words", some "take_paper"), "take_paper", "Words.take_paper", defArgs (inClass (top 56) 6), defBody (inClass (top 56) 6), defScope (inClass (top 56) 6), [], []⟩, ⟨("Words", some "take_integer"), "take_integer", "Words.take_integer", defArgs (inClass (top 56) 5), defBody (inClass (top 56) 5), defScope (inClass (top 56) 5), [], []⟩, ⟨("Words", some "more"), "more", "Words.more", defArgs (inClass (top 56) 7), defBody (inClass (top 56) 7), defScope (inClass (top 56) 7), [], []⟩, ⟨("Words", some "finish"), "finish", "Words.finish", defArgs (inClass (top 56) 8), defBody (inClass (top 56) 8), defScope (inClass (top 56) 8), [], []⟩]
def fn : List DefD := fn0 ++ fn1 ++ fn2

def vINNER_RULES : List (Str × He.Dv) := [("any", .int 0), ("back", .int 1), ("not", .int 1), ("both", .int 2), ("either", .int 2), ("sum", .int 0), ("square", .int 0), ("faces", .int 1), ("cut", .int 1)]
def vOWN_VALUES : List (Str × He.Dv) := [("any", .int 0), ("back", .int 0), ("not", .int 0), ("both", .int 0), ("either", .int 0), ("sum", .int 3), ("square", .int 2), ("faces", .int 1), ("cut", .int 2)]
def vDEED_WORDS : List (Str × He.Dv) := [("issue", .adr fun K => Hd.dAt K (ga K "DEED_WORDS") "issue"), ("block", .adr fun K => Hd.dAt K (ga K "DEED_WORDS") "block"), ("use", .adr fun K => Hd.dAt K (ga K "DEED_WORDS") "use"), ("void", .adr fun K => Hd.dAt K (ga K "DEED_WORDS") "void"), ("again", .adr fun K => Hd.dAt K (ga K "DEED_WORDS") "again"), ("day", .adr fun K => Hd.dAt K (ga K "DEED_WORDS") "day"), ("edition", .adr fun K => Hd.dAt K (ga K "DEED_WORDS") "edition")]
def ts : List Tab := [(fun K => ga K "INNER_RULES", ["sum", "square", "faces", "back", "cut", "both", "either", "not", "any"]), (fun K => ga K "OWN_VALUES", ["sum", "square", "faces", "back", "cut", "both", "either", "not", "any"]), (fun K => ga K "DEED_WORDS", ["issue", "block", "use", "void", "again", "day", "edition"])]
def exs : List (PySem.W.Frag → Bool) := [fun K => valsB K (ga K "INNER_RULES") vINNER_RULES, fun K => valsB K (ga K "OWN_VALUES") vOWN_VALUES, fun K => valsB K (ga K "DEED_WORDS") vDEED_WORDS, fun K => Hd.allB K (ga K "INNER_RULES") wdKey, fun K => Hd.tupAtB K (ga K "NO_NAMES") nnQ, fun K => Hd.tupAtB K (Hd.dAt K (ga K "DEED_WORDS") "issue") (dkQ 0), fun K => Hd.tupAtB K (Hd.dAt K (ga K "DEED_WORDS") "block") (dkQ 1), fun K => Hd.tupAtB K (Hd.dAt K (ga K "DEED_WORDS") "use") (dkQ 2), fun K => Hd.tupAtB K (Hd.dAt K (ga K "DEED_WORDS") "void") (dkQ 3), fun K => Hd.tupAtB K (Hd.dAt K (ga K "DEED_WORDS") "again") (dkQ 4), fun K => Hd.tupAtB K (Hd.dAt K (ga K "DEED_WORDS") "day") (dkQ 5), fun K => Hd.tupAtB K (Hd.dAt K (ga K "DEED_WORDS") "edition") (dkQ 6), fun K => Hd.oexB K (ga K "BadLine"), fun K => Hd.excB K (ga K "BadLine"), fun K => Hd.supB K (ga K "BadLine"), fun K => xfB K (ga K "BadLine"), fun K => (PySem.W.clsIn K (ga K "BadLine")).isSome, fun K => Hd.initB PROG K ("BadLine", some "__init__") "BadLine.__init__" (ga K "BadLine"), fun K => eqO (PySem.W.nsIn K cStatics "thirdparty.any") (some none), fun K => eqO (PySem.W.findIn K (.ref (ga K "BadLine")) "line") (some none), fun K => eqO (PySem.W.findIn K (.ref (ga K "BadLine")) "word") (some none), fun K => eqO (PySem.W.findIn K (.ref (ga K "BadLine")) "__init__") (some (some (.ref (ma K (ga K "BadLine") "__init__")))), fun K => decide (PySem.W.typeIn K (.ref (ma K (ga K "BadLine") "__init__")) = some (.type "function")), fun K => Hd.kitB1 K (ga K "BadLine") (ga K "CarryError") true, fun K => Hd.kitB1 K (ga K "BadLine") (ga K "Malformed") true, fun K => Hd.kitB1 K (ga K "BadLine") (ga K "Refused") false, fun K => Hd.kitB1 K (ga K "BadLine") (ga K "BadSigns") false, fun K => Hd.kitB1 K (ga K "BadLine") (ga K "BadPaper") false, fun K => Hd.kitB1 K (ga K "BadLine") (ga K "BadName") false, fun K => Hd.kitB1 K (ga K "BadLine") (ga K "BadWalk") false, fun K => Hd.kitB1 K (ga K "BadLine") (ga K "BadRule") false, fun K => Hd.kitB1 K (ga K "BadLine") (ga K "BadForm") false, fun K => Hd.kitB1 K (ga K "BadLine") (ga K "BadSlip") false, fun K => Hd.kitB1 K (ga K "BadLine") (ga K "BadWay") false, fun K => Hd.kitB1 K (ga K "BadLine") (ga K "BadDeed") false, fun K => Hd.kitB1 K (ga K "BadLine") (ga K "BadLine") true, fun K => Hd.kitB1 K (ga K "BadLine") (ga K "TooMany") false, fun K => Hd.kitB1 K (ga K "BadLine") (ga K "Twice") false, fun K => Hd.kitB1 K (ga K "BadLine") (ga K "Unknown") false, fun K => Hd.kitB1 K (ga K "BadLine") (ga K "Unlike") false, fun K => Hd.kitB1 K (ga K "BadLine") (ga K "Unfit") false]
def ex (K : PySem.W.Frag) : Bool := exs.all fun e => e K
def fc : List Hd.DefC := [⟨("BadLine", some "__init__"), "BadLine.__init__", defArgs (inClass (top 13) 0), defBody (inClass (top 13) 0), defScope (inClass (top 13) 0)⟩]
end HdK7
namespace HdK7
open PySem PySem.W PySem.Calls PyProof.Rows
def names0 : List PySem.Str := ["CarryError", "Malformed", "Refused", "BadSigns", "BadPaper", "BadName", "BadWalk", "BadRule", "BadForm", "BadSlip", "BadWay", "BadDeed", "BadLine", "TooMany", "Twice", "Unknown", "Unlike", "Unfit", "is_whole", "is_within", "is_text", "ALL_SIGNS", "LEAST_KINDS", "MOST_KINDS", "MOST_SIGNS", "LEAST_MODULUS", "MOST_MODULUS", "MOST_WEIGHTS", "MOST_ROWS", "MOST_FACES"]
def names1 : List PySem.Str := ["MOST_CUT", "MOST_PARTS", "OWN_VALUES", "INNER_RULES", "own_values", "inner_rules", "LETTERS", "MOST_LETTERS", "NO_NAMES", "is_name", "DIGITS", "EMPTY_PAPER", "MOST_DIGITS", "name_in", "integer_in", "integers_in", "characters_in", "paper_in", "texts_in", "paper_word", "integers_word", "Words", "MOST_NUMBER", "write_rule", "rule_words", "own_words", "take_last_rule", "take_rule", "rule_word_in", "taken_values"]
def names2 : List PySem.Str := ["rows_in", "MOST_MANY", "DEED_WORDS", "write_deeds", "deed_line", "deed_word", "read_deeds", "read_deed", "take_part", "_law_bag_of", "_law_pick", "_law_one_of", "_law_mixed", "_law_paper_of", "_law_listed_of", "_law_no_list", "_law_is_int", "_law_same_tuple", "_law_many_signs", "_law_classes", "_law_commas", "_law_rule_words", "_law_numeral", "_law_numerals", "_law_made", "_law_strings", "_law_rule_kinds", "_law_rule_told", "_law_read_rule", "_law_rule_from"]
def names3 : List PySem.Str := ["_law_text_leaf", "_law_text_rule", "_law_keywords", "_law_free_names", "_law_odd_word", "_law_spoilt_of", "_law_deed_of", "_law_deed_line", "_law_deed_word", "_law_read_deed", "_law_told_of", "_law_due_of", "_law_spoilt_lines"]
def names : List PySem.Str := names0 ++ names1 ++ names2 ++ names3

abbrev R : OpenRow := OpenLaw.row PySem.Challenge.rw_handcarried_k07_deed_lines
abbrev qv : Program := view R.prog [111]
abbrev hk : Hook := Hd.hookY fa fn ts ex fc
def ob (s : SharedT) : Hd.AlY := Hd.obsY fa fn ts ex fc (HandSHeadRun.getT s)
theorem ob_eq (s : SharedT) : ob s = hk.obs s.abs := Hd.obsY_eq (HandSHeadRun.getT_eq s)
theorem runF (w : World) : HandSHeadRun.RunEq R qv hk ob 9000 names (w.withFollow "special-get-raises" false) := by
  intro os
  kernel_rfl
theorem runT (w : World) : HandSHeadRun.RunEq R qv hk ob 9000 names (w.withFollow "special-get-raises" true) := by
  intro os
  kernel_rfl
theorem run (w : World) : HandSHeadRun.RunEq R qv hk ob 9000 names w := byRow2 "special-get-raises" (P := fun w => HandSHeadRun.RunEq R qv hk ob 9000 names w) runF runT w
end HdK7

/-! H4 -/
/-! Rules in a heap. -/
namespace K4
open PySem L2 K1 PyProof.Rows
abbrev vi (n : Nat) : V := .int n
section
variable {K : PySem.W.Frag} {H H' : Hp}
mutual
theorem dp_keep (k : Keeps K H H') : ∀ (d : PyData) (v : V), Dp K H v d → Dp K H' v d
  | .none, _, h => by cases h; exact .non
  | .bool b, _, h => by cases h; exact .bl b
  | .int i, _, h => by cases h; exact .int i
  | .str x, _, h => by cases h; exact .str x
  | .list ds, _, h => by
    cases h with
    | lst hs ha => exact .lst (k.1 _ _ hs) (dpA_keep k ds _ ha)
  | .tuple ds, _, h => by
    cases h with
    | tup hs ha => exact .tup (k.2 _ _ hs) (dpA_keep k ds _ ha)
  | .dict _, _, h => by cases h
theorem dpA_keep (k : Keeps K H H') : ∀ (ds : List PyData) (vs : List V), DpAll K H vs ds → DpAll K H' vs ds
  | [], _, h => by cases h; exact .nil
  | d :: ds, _, h => by
    cases h with
    | cons a b => exact .cons (dp_keep k d _ a) (dpA_keep k ds _ b)
end
abbrev KT (K : PySem.W.Frag) (H H' : Hp) : Prop := ∀ a xs, SqT K H a xs → SqT K H' a xs
mutual
theorem dp_pure (k : KT K H H') : ∀ (d : PyData) (v : V), pure d = true → Dp K H v d → Dp K H' v d
  | .none, _, _, h => by cases h; exact .non
  | .bool b, _, p, _ => by simp [pure] at p
  | .int i, _, _, h => by cases h; exact .int i
  | .str x, _, _, h => by cases h; exact .str x
  | .list ds, _, p, _ => by simp [pure] at p
  | .tuple ds, _, p, h => by
    cases h with
    | tup hs ha => exact .tup (k _ _ hs) (dpA_pure k ds _ (by simpa [pure] using p) ha)
  | .dict _, _, _, h => by cases h
theorem dpA_pure (k : KT K H H') : ∀ (ds : List PyData) (vs : List V), pureA ds = true → DpAll K H vs ds → DpAll K H' vs ds
  | [], _, _, h => by cases h; exact .nil
  | d :: ds, _, p, h => by
    simp only [pureA, Bool.and_eq_true] at p
    cases h with
    | cons a b => exact .cons (dp_pure k d _ p.1 a) (dpA_pure k ds _ p.2 b)
end
theorem kt_lst {D : Addr} {xs ys : List V} (e : H D = some (.lst xs)) : KT K H (upd H D (.lst ys)) := fun a zs h =>
  Kp.sqT (b := D) (fun c o n q => by rw [upd_ne n]; exact q) e h
theorem kt_ins {D : Addr} {C dx : Addr} {fs gs : List (Str × V)} (e : H D = some (.ins C dx fs)) : KT K H (upd H D (.ins C dx gs)) := fun a zs h =>
  (Kp.keeps (b := D) (fun c o n q => by rw [upd_ne n]; exact q) e).2 _ _ h
theorem KT.trans {H2 : Hp} (x : KT K H H') (y : KT K H' H2) : KT K H H2 := fun a xs h => y a xs (x a xs h)
theorem Same.kt (e : Same H H') : KT K H H' := (Same.keeps e).2
theorem dpA_app : ∀ {vs : List V} {ds : List PyData} {ws : List V} {es : List PyData}, DpAll K H vs ds → DpAll K H ws es → DpAll K H (vs ++ ws) (ds ++ es)
  | _, _, _, _, .nil, h => h
  | _, _, _, _, .cons a b, h => .cons a (dpA_app b h)
theorem dpA_split : ∀ {ds es : List PyData} {vs : List V}, DpAll K H vs (ds ++ es) → ∃ xs ys, vs = xs ++ ys ∧ DpAll K H xs ds ∧ DpAll K H ys es
  | [], es, vs, h => ⟨[], vs, rfl, .nil, h⟩
  | d :: ds, es, _, h => by
    cases h with
    | cons a b =>
      obtain ⟨xs, ys, rfl, p, q⟩ := dpA_split b
      exact ⟨_ :: xs, ys, rfl, .cons a p, q⟩
theorem dpA_len : ∀ {vs : List V} {ds : List PyData}, DpAll K H vs ds → vs.length = ds.length
  | _, _, .nil => rfl
  | _, _, .cons _ b => congrArg (· + 1) (dpA_len b)
theorem dpA_get : ∀ {vs : List V} {ds : List PyData}, DpAll K H vs ds → ∀ {i : Nat} {v : V}, vs[i]? = some v → ∃ d, ds[i]? = some d ∧ Dp K H v d
  | _, _, .nil, i, v, h => by simp at h
  | _, _, .cons a b, 0, v, h => ⟨_, rfl, by simp at h; rw [← h]; exact a⟩
  | _, _, .cons a b, i + 1, v, h => dpA_get b (by simpa using h)
theorem dpA_nums : ∀ {ns : List Nat} {vs : List V}, DpAll K H vs (ns.map pn) ↔ vs = ns.map vi
  | [], vs => ⟨fun h => by cases h; rfl, fun h => by subst h; exact .nil⟩
  | n :: ns, vs => ⟨fun h => by
      cases h with
      | cons a b => cases a; rw [dpA_nums.mp b]; rfl, fun h => by subst h; exact .cons (.int _) (dpA_nums.mpr rfl)⟩
theorem dpA_strs : ∀ {ns : List Str} {vs : List V}, DpAll K H vs (ns.map .str) ↔ vs = ns.map V.str
  | [], vs => ⟨fun h => by cases h; rfl, fun h => by subst h; exact .nil⟩
  | n :: ns, vs => ⟨fun h => by
      cases h with
      | cons a b => cases a; rw [dpA_strs.mp b]; rfl, fun h => by subst h; exact .cons (.str _) (dpA_strs.mpr rfl)⟩
theorem dp_sq {t : Bool} {v : V} {ds : List PyData} (h : Dp K H v (sq t ds)) : ∃ xs, Sq K H v xs ∧ DpAll K H xs ds := by
  cases t
  · cases h with
    | lst a b => exact ⟨_, ⟨_, rfl, .inl a⟩, b⟩
  · cases h with
    | tup a b => exact ⟨_, ⟨_, rfl, .inr a⟩, b⟩
/-- numbers -/
def NumsAt (K : PySem.W.Frag) (H : Hp) (v : V) (ns : List Nat) : Prop := Sq K H v (ns.map vi)
def RowsAt (K : PySem.W.Frag) (H : Hp) : List V → List (List Nat) → Prop
  | [], [] => True
  | v :: vs, r :: rs => NumsAt K H v r ∧ RowsAt K H vs rs
  | _, _ => False
def OwAt (K : PySem.W.Frag) (H : Hp) (xs : List V) : Ow → Prop
  | .sum m ws g => ∃ w, xs = [vi m, w, vi g] ∧ NumsAt K H w ws
  | .square rows gs => ∃ a g rvs, xs = [a, g] ∧ Sq K H a rvs ∧ RowsAt K H rvs rows ∧ NumsAt K H g gs
  | .faces fs => ∃ f, xs = [f] ∧ Sq K H f (fs.map V.str)
  | .cut a b => xs = [vi a, vi b]
  | _ => xs = []
theorem RowsAt.keep (k : Keeps K H H') : ∀ {vs : List V} {rs : List (List Nat)}, RowsAt K H vs rs → RowsAt K H' vs rs
  | [], [], _ => trivial
  | v :: vs, r :: rs, h => ⟨h.1.keep k, RowsAt.keep k h.2⟩
  | [], _ :: _, h => h.elim
  | _ :: _, [], h => h.elim
theorem RowsAt.len : ∀ {vs : List V} {rs : List (List Nat)}, RowsAt K H vs rs → vs.length = rs.length
  | [], [], _ => rfl
  | v :: vs, r :: rs, h => congrArg (· + 1) (RowsAt.len h.2)
  | [], _ :: _, h => h.elim
  | _ :: _, [], h => h.elim
theorem RowsAt.get : ∀ {vs : List V} {rs : List (List Nat)}, RowsAt K H vs rs → ∀ {i : Nat} {v : V}, vs[i]? = some v → ∃ r, rs[i]? = some r ∧ NumsAt K H v r
  | [], [], _, i, v, e => by simp at e
  | v :: vs, r :: rs, h, 0, w, e => ⟨r, rfl, by simp at e; rw [← e]; exact h.1⟩
  | v :: vs, r :: rs, h, i + 1, w, e => RowsAt.get h.2 (by simpa using e)
  | [], _ :: _, h, _, _, _ => h.elim
  | _ :: _, [], h, _, _, _ => h.elim
theorem OwAt.keep (k : Keeps K H H') : ∀ {o : Ow} {xs : List V}, OwAt K H xs o → OwAt K H' xs o
  | .sum .., _, ⟨w, e, h⟩ => ⟨w, e, h.keep k⟩
  | .square .., _, ⟨a, g, rvs, e, h1, h2, h3⟩ => ⟨a, g, rvs, e, h1.keep k, h2.keep k, h3.keep k⟩
  | .faces .., _, ⟨f, e, h⟩ => ⟨f, e, h.keep k⟩
  | .cut .., _, h => h
  | .any, _, h => h
  | .back, _, h => h
  | .not, _, h => h
  | .both, _, h => h
  | .either, _, h => h
theorem OwAt.len : ∀ {o : Ow} {xs : List V}, OwAt K H xs o → xs.length = mn o.kind
  | .sum .., _, ⟨w, e, h⟩ => by rw [e]; rfl
  | .square .., _, ⟨a, g, rvs, e, h1, h2, h3⟩ => by rw [e]; rfl
  | .faces .., _, ⟨f, e, h⟩ => by rw [e]; rfl
  | .cut .., _, h => by rw [show _ = _ from h]; rfl
  | .any, _, h => by rw [show _ = _ from h]; rfl
  | .back, _, h => by rw [show _ = _ from h]; rfl
  | .not, _, h => by rw [show _ = _ from h]; rfl
  | .both, _, h => by rw [show _ = _ from h]; rfl
  | .either, _, h => by rw [show _ = _ from h]; rfl
theorem rows_of {t : Bool} : ∀ {rs : List (List Nat)} {vs : List V}, DpAll K H vs (rs.map fun row => sq t (row.map pn)) → RowsAt K H vs rs
  | [], _, .nil => trivial
  | r :: rs, _, .cons a b => by
    obtain ⟨xs, hx, hd⟩ := dp_sq a
    rw [dpA_nums.mp hd] at hx
    exact ⟨hx, rows_of b⟩
theorem nums_of {t : Bool} {v : V} {ns : List Nat} (h : Dp K H v (sq t (ns.map pn))) : NumsAt K H v ns := by
  obtain ⟨xs, hx, hd⟩ := dp_sq h
  rw [dpA_nums.mp hd] at hx
  exact hx
theorem ow_of {t : Bool} : ∀ {o : Ow} {xs : List V}, DpAll K H xs (o.data t) → OwAt K H xs o
  | .sum m ws g, _, .cons (.int _) (.cons b (.cons (.int _) .nil)) => ⟨_, rfl, nums_of b⟩
  | .square rows gs, _, .cons a (.cons b .nil) => by
    obtain ⟨rvs, h1, h2⟩ := dp_sq a
    exact ⟨_, _, rvs, rfl, h1, rows_of h2, nums_of b⟩
  | .faces fs, _, .cons a .nil => by
    obtain ⟨xs, h1, h2⟩ := dp_sq a
    rw [dpA_strs.mp h2] at h1
    exact ⟨_, rfl, h1⟩
  | .cut a b, _, .cons (.int _) (.cons (.int _) .nil) => rfl
  | .any, _, .nil => rfl
  | .back, _, .nil => rfl
  | .not, _, .nil => rfl
  | .both, _, .nil => rfl
  | .either, _, .nil => rfl
/-- a rule, of lists and tuples -/
def RAt (K : PySem.W.Frag) (H : Hp) : V → R → Prop
  | v, .n0 o => ∃ xs, Sq K H v (.str o.word :: (xs ++ [])) ∧ OwAt K H xs o
  | v, .n1 o a => ∃ xs i, Sq K H v (.str o.word :: (xs ++ [i])) ∧ OwAt K H xs o ∧ RAt K H i a
  | v, .n2 o a b => ∃ xs i j, Sq K H v (.str o.word :: (xs ++ [i, j])) ∧ OwAt K H xs o ∧ RAt K H i a ∧ RAt K H j b
def RAll (K : PySem.W.Frag) (H : Hp) : List V → List R → Prop
  | [], [] => True
  | v :: vs, r :: rs => RAt K H v r ∧ RAll K H vs rs
  | _, _ => False
theorem RAt.keep (k : Keeps K H H') : ∀ {r : R} {v : V}, RAt K H v r → RAt K H' v r
  | .n0 _, _, ⟨xs, h, o⟩ => ⟨xs, h.keep k, o.keep k⟩
  | .n1 _ _, _, ⟨xs, i, h, o, a⟩ => ⟨xs, i, h.keep k, o.keep k, RAt.keep k a⟩
  | .n2 _ _ _, _, ⟨xs, i, j, h, o, a, b⟩ => ⟨xs, i, j, h.keep k, o.keep k, RAt.keep k a, RAt.keep k b⟩
theorem RAll.keep (k : Keeps K H H') : ∀ {vs : List V} {rs : List R}, RAll K H vs rs → RAll K H' vs rs
  | [], [], _ => trivial
  | v :: vs, r :: rs, h => ⟨h.1.keep k, RAll.keep k h.2⟩
  | [], _ :: _, h => h.elim
  | _ :: _, [], h => h.elim
theorem RAll.get : ∀ {vs : List V} {rs : List R}, RAll K H vs rs → ∀ {i : Nat} {v : V}, vs[i]? = some v → ∃ r, rs[i]? = some r ∧ RAt K H v r
  | [], [], _, i, v, e => by simp at e
  | v :: vs, r :: rs, h, 0, w, e => ⟨r, rfl, by simp at e; rw [← e]; exact h.1⟩
  | v :: vs, r :: rs, h, i + 1, w, e => RAll.get h.2 (by simpa using e)
  | [], _ :: _, h, _, _, _ => h.elim
  | _ :: _, [], h, _, _, _ => h.elim
theorem RAll.len : ∀ {vs : List V} {rs : List R}, RAll K H vs rs → vs.length = rs.length
  | [], [], _ => rfl
  | v :: vs, r :: rs, h => congrArg (· + 1) (RAll.len h.2)
  | [], _ :: _, h => h.elim
  | _ :: _, [], h => h.elim
theorem RAt.open : ∀ {r : R} {v : V}, RAt K H v r → ∃ xs is, Sq K H v (.str r.ow.word :: (xs ++ is)) ∧ OwAt K H xs r.ow ∧ RAll K H is r.inner
  | .n0 _, _, ⟨xs, h, o⟩ => ⟨xs, [], h, o, trivial⟩
  | .n1 _ _, _, ⟨xs, i, h, o, a⟩ => ⟨xs, [i], h, o, a, trivial⟩
  | .n2 _ _ _, _, ⟨xs, i, j, h, o, a, b⟩ => ⟨xs, [i, j], h, o, a, b, trivial⟩
theorem RAt.of {t : Bool} : ∀ {r : R} {v : V}, Dp K H v (r.data t) → RAt K H v r
  | .n0 o, v, h => by
    obtain ⟨xs, h1, h2⟩ := dp_sq (show Dp K H v (sq t _) from h)
    cases h2 with
    | cons a b =>
      cases a
      exact ⟨_, by rw [List.append_nil]; exact h1, ow_of b⟩
  | .n1 o a, v, h => by
    obtain ⟨xs, h1, h2⟩ := dp_sq (show Dp K H v (sq t _) from h)
    cases h2 with
    | cons a b =>
      cases a
      obtain ⟨ys, zs, rfl, p, q⟩ := dpA_split b
      cases q with
      | cons q1 q2 =>
        cases q2
        exact ⟨ys, _, h1, ow_of p, RAt.of q1⟩
  | .n2 o a b, v, h => by
    obtain ⟨xs, h1, h2⟩ := dp_sq (show Dp K H v (sq t _) from h)
    cases h2 with
    | cons a b =>
      cases a
      obtain ⟨ys, zs, rfl, p, q⟩ := dpA_split b
      cases q with
      | cons q1 q2 =>
        cases q2 with
        | cons q2 q3 =>
          cases q3
          exact ⟨ys, _, _, h1, ow_of p, RAt.of q1, RAt.of q2⟩
end
end K4

/-! C5 -/
local macro_rules | `(tactic| walk_at "go") => `(tactic| repeat (first
  | with_reducible apply K1.r_seq
  | with_reducible apply K1.r_asg
  | ((with_reducible apply K1.r_name); (try dsimp only [List.set]))
  | ((with_reducible apply K1.r_var); (focus rfl))
  | with_reducible apply K1.r_c
  | with_reducible apply K1.r_op
  | with_reducible apply K1.r_un
  | with_reducible apply K1.r_I0
  | with_reducible apply K1.r_test
  | with_reducible apply K1.r_if
  | with_reducible apply K1.r_ifs
  | with_reducible apply K1.r_iteT
  | with_reducible apply K1.r_iteF
  | with_reducible apply K1.r_and
  | with_reducible apply K1.r_or
  | with_reducible apply K1.r_not
  | with_reducible apply K1.r_tB
  | with_reducible apply K1.r_andV
  | with_reducible apply K1.r_orV
  | with_reducible apply K1.r_notV
  | with_reducible apply K1.r_cb
  | with_reducible apply K1.r_cons
  | with_reducible apply K1.r_nil
  | with_reducible apply K1.r_ret
  | with_reducible apply K1.r_next
  | with_reducible apply K1.r_drop
  | with_reducible apply K1.r_lst
  | with_reducible apply K1.r_tup
  | with_reducible apply K1.r_call
  | with_reducible apply K1.r_gsub
  | with_reducible apply K1.r_for
  | with_reducible apply K1.r_bm
  | with_reducible apply K1.r_bm0
  | with_reducible apply K1.r_sl
  | with_reducible apply K1.r_noPart
  | with_reducible apply K1.r_part
  | with_reducible apply K1.r_iStr
  | with_reducible apply K1.r_iRng1
  | with_reducible apply K1.r_m1
  | refine ⟨_, rfl, ?_⟩
  | refine Or.inl ⟨_, rfl, ?_⟩
  | dsimp only))
namespace K1
open PySem L2
abbrev sOneOf : Stmt := top 79
abbrev sMixed : Stmt := top 80
theorem scOneOf : FnScope ["_law_bag", "_law_row"] ["_law_bag", "_law_row"] (defScope sOneOf) := ⟨rfl, rfl, rfl, by decide +kernel, rfl, by decide +kernel, by decide +kernel⟩
abbrev nMixed : List Str := ["_law_bag", "_law_row", "_law_left", "_law_told", "_law_k"]
theorem scMixed : FnScope nMixed ["_law_bag", "_law_row"] (defScope sMixed) := ⟨rfl, rfl, rfl, by decide +kernel, rfl, by decide +kernel, by decide +kernel⟩

abbrev OPick (P : Program) (w : World) (K : PySem.W.Frag) (mg : Str → Option Value) (base : Heap) : Prop := Own P w K mg base "_law_pick" 1 ["_law_bag", "_law_many"] spPick
def spOneOf (K : PySem.W.Frag) : Sp := fun vs H Q _ => ∃ (b : Addr) (r : V) (items : List V) (n : Nat), vs = [.ref b, r] ∧ IsBag H b n ∧ n ≤ 2 ^ 40 ∧ RowAt K H b r items ∧ items ≠ [] ∧
  ∀ x H', x ∈ items → IsBag H' b (n + 1) → Off b H H' → Q x H'
abbrev OOneOf (P : Program) (w : World) (K : PySem.W.Frag) (mg : Str → Option Value) (base : Heap) : Prop := Own P w K mg base "_law_one_of" 2 ["_law_bag", "_law_row"] (spOneOf K)
def spMixed : Sp := fun vs H Q _ => ∃ (b : Addr) (z : Str) (n : Nat), vs = [.ref b, .str z] ∧ IsBag H b n ∧ n + z.length ≤ 2 ^ 40 ∧ z.length ≤ 1000 ∧
  ∀ (ys : List Str) H' p, ys.Perm (sgn z) → IsBag H' b (n + z.length) → Kp b H H' → H p = none → H' p = some (.lst (ys.map V.str)) → p ≠ b → Q (.ref p) H'
theorem IsBag.mono {H : Hp} {b : Addr} {n m : Nat} (h : IsBag H b n) (l : n ≤ m) : IsBag H b m := by
  obtain ⟨d, s, c, e, a1, a2, a3, a4, a5⟩ := h
  exact ⟨d, s, c, e, a1, a2, a3, a4, by omega⟩

section
variable {P : Program} {w : World} {K : PySem.W.Frag} {mg : Str → Option Value} {base : Heap}
theorem ok_oneOf {f : Addr} {fd : FuncData} (F : Fun K "_law_one_of" "_law_one_of" sOneOf f fd) (B : Bl mg) (Op : OPick P w K mg base) : FnOk P w K mg base CX0 2 f fd ["_law_bag", "_law_row"] (spOneOf K) := by
  refine F.ok scOneOf (fun vs H Q E h => ?_) (fun cdv A outer s H vs Q E hr h => ?_)
  · obtain ⟨b, r, items, n, rfl, _⟩ := h
    rfl
  · obtain ⟨b, r, items, n, rfl, hb, hn, hrow, hne, k⟩ := h
    refine ⟨_, pss_one (ps_ret (pe_ix ix_seq (pv 1) (pe_own Op hr (pa_cons (pv 0) (pa_cons (pe_callB call_len (by rfl) B.len PySem.boot_len (pa_cons (pv 1) pa_nil)) pa_nil))) (fun _ _ => rfl))), ?_⟩
    try dsimp only [cxOf, Cx.nox, Cx.wish]
    walk_at "go"
    refine ⟨_, _, rfl, hrow.len.1, ?_⟩
    walk_at "go"
    have hl := hrow.len.2
    have hpos : 0 < items.length := List.length_pos_iff.mpr hne
    refine ⟨_, _, n, rfl, hb, hn, by omega, fun r' H' r0 r1 hb' off => ?_⟩
    obtain ⟨x, ex, hx, _⟩ := at_nat' (xs := items) r0 (by omega)
    exact r_rowix (hrow.off off) ex (k x H' hx hb' off)

theorem seqIx {n : Nat} {i : Int} (h0 : 0 ≤ i) (h1 : i < n) : seqIndex? i n = some i.toNat := by
  have e : ixN n i = some i.toNat := by
    unfold ixN
    rw [if_pos h0, if_pos h1]
  exact (ixN_seq e).1
theorem erase_map {α β : Type} (f : α → β) : ∀ (l : List α) (i : Nat), (l.map f).eraseIdx i = (l.eraseIdx i).map f
  | [], _ => rfl
  | _ :: _, 0 => rfl
  | x :: l, i + 1 => by
    show f x :: (l.map f).eraseIdx i = f x :: (l.eraseIdx i).map f
    rw [erase_map f l i]
theorem erase_perm {α : Type} : ∀ {l : List α} {i : Nat} (h : i < l.length), (l[i] :: l.eraseIdx i).Perm l
  | [], _, h => absurd h (by simp)
  | _ :: _, 0, _ => List.Perm.refl _
  | x :: l, i + 1, h => by
    have h' : i < l.length := by simpa using h
    show (l[i] :: x :: l.eraseIdx i).Perm (x :: l)
    exact (List.Perm.swap x l[i] _).trans (List.Perm.cons x (erase_perm h'))
theorem ok_mixed {f : Addr} {fd : FuncData} (F : Fun K "_law_mixed" "_law_mixed" sMixed f fd) (B : Bl mg) (Op : OPick P w K mg base) : FnOk P w K mg base CX0 2 f fd ["_law_bag", "_law_row"] spMixed := by
  refine F.ok scMixed (fun vs H Q E h => ?_) (fun cdv A outer s H vs Q E hr h => ?_)
  · obtain ⟨b, z, n, rfl, _⟩ := h
    rfl
  · obtain ⟨b, z, n, rfl, hb, hn, hz, k⟩ := h
    have hd := hr.hd
    refine ⟨_, pss_cons (ps_set (i := 2) scMixed.nd rfl (Or.inl rfl) (pe_callTy (call_listS hd) (by rfl) B.list (by decide +kernel) (pa_cons (pv 1) pa_nil)))
      (pss_cons (ps_set (i := 3) scMixed.nd rfl (Or.inl rfl) (pe_lst pa_nil))
      (pss_cons (ps_for PassesOwn.never rfl (pi_range1 rfl B.range (pa_cons (pe_callB call_len (by rfl) B.len PySem.boot_len (pa_cons (pv 1) pa_nil)) pa_nil)) (pg_name (i := 4) scMixed.nd rfl (Or.inl rfl))
        (pss_one (ps_expr (pe_bm PySem.F.plainAttrs_list PySem.F.slot_list_append PySem.F.type_list_append mt_append (pv 3) (pa_cons
          (pe_bm PySem.F.plainAttrs_list PySem.F.slot_list_pop PySem.F.type_list_pop mt_popAt (pv 2) (pa_cons
            (pe_own Op hr (pa_cons (pv 0) (pa_cons (pe_callB call_len (by rfl) B.len PySem.boot_len (pa_cons (pv 2) pa_nil)) pa_nil))) pa_nil)) pa_nil)))))
      (pss_one (ps_ret (pv 3))))), ?_⟩
    try dsimp only [cxOf, Cx.nox, Cx.wish]
    have hsl := small_line hz
    walk_at "go"
    refine ⟨hsl, fun L hL => ?_⟩
    walk_at "go"
    refine ⟨Nat.zero_le _, fun T hT => ?_⟩
    have nLb : L ≠ b := fun q => by obtain ⟨_, _, _, e, _⟩ := hb; rw [q, e] at hL; cases hL
    have nTL : T ≠ L := fun q => by rw [q, upd_same] at hT; cases hT
    rw [upd_ne nTL] at hT
    have nTb : T ≠ b := fun q => by obtain ⟨_, _, _, e, _⟩ := hb; rw [q, e] at hT; cases hT
    walk_at "go"
    refine ⟨_, _, rfl, lenS hsl, ?_⟩
    walk_at "go"
    refine ⟨by omega, by omega, fr_range (lo := 0) (n := z.length) (fun i σ H' => ∃ (kk : Option V) (xs ys : List Str), σ = [some (.ref b), some (.str z), some (.ref L), some (.ref T), kk] ∧ H' L = some (.lst (xs.map V.str)) ∧ H' T = some (.lst (ys.map V.str)) ∧
        (ys ++ xs).Perm (sgn z) ∧ ys.length = i ∧ IsBag H' b (n + i) ∧ Kp b H H') ?_ ?_ ?_⟩
    · refine ⟨none, sgn z, [], rfl, ?_, upd_same, List.Perm.refl _, rfl, ?_, ?_⟩
      · rw [upd_ne nTL.symm, upd_same]
      · obtain ⟨d, s, c, e, r⟩ := hb
        exact ⟨d, s, c, by rw [upd_ne nTb.symm, upd_ne nLb.symm]; exact e, r⟩
      · exact Same.kp (Same.trans (same_new (o := HO.lst ((sgn z).map V.str)) hL) (same_new (by rw [upd_ne nTL]; exact hT)))
    · rintro i σ H' hi ⟨kk, xs, ys, rfl, eL, eT, pm, ly, hb', kp⟩
      have lxs : xs.length = z.length - i := by
        have := pm.length_eq
        rw [List.length_append, sgn_len] at this
        omega
      walk_at "go"
      refine ⟨tyL (SqL.of eT), ?_⟩
      walk_at "go"
      refine ⟨tyL (SqL.of eL), ?_⟩
      walk_at "go"
      refine ⟨_, _, rfl, lenL (SqL.of eL), ?_⟩
      walk_at "go"
      refine ⟨_, _, _, rfl, hb', by omega, by rw [List.length_map]; omega, fun r H2 r0 r1 hb2 off => ?_⟩
      rw [List.length_map] at r1
      have hr1 : r < xs.length := by omega
      have hj : r.toNat < xs.length := by omega
      walk_at "go"
      have eL2 := off.at nLb eL
      have eT2 := off.at nTb eT
      refine ⟨L, xs.map V.str, r, r.toNat, .str xs[r.toNat], rfl, rfl, eL2, by omega, by omega, by rw [List.length_map]; exact seqIx r0 hr1, by simp [hj], ?_⟩
      walk_at "go"
      refine ⟨T, ys.map V.str, _, rfl, rfl, by rw [upd_ne nTL]; exact eT2, by rw [List.length_map]; exact small1000 (by omega), ?_⟩
      walk_at "go"
      refine ⟨some (.int (0 + i)), xs.eraseIdx r.toNat, ys ++ [xs[r.toNat]], rfl, ?_, ?_, ?_, by simp [ly], ?_, ?_⟩
      · rw [upd_ne nTL.symm, upd_same, erase_map]
      · rw [upd_same]; simp
      · refine List.Perm.trans ?_ pm
        rw [List.append_assoc]
        exact (List.Perm.append_left ys (erase_perm hj))
      · obtain ⟨d, s, c, e, q⟩ := hb2
        exact ⟨d, s, c, by rw [upd_ne nTb.symm, upd_ne nLb.symm]; exact e, q⟩
      · intro c o hc e
        have n1 : c ≠ L := fun q => by rw [q, hL] at e; cases e
        have n2 : c ≠ T := fun q => by rw [q, hT] at e; cases e
        rw [upd_ne n2, upd_ne n1]
        exact off.at hc (kp c o hc e)
    · rintro σ H' ⟨kk, xs, ys, rfl, eL, eT, pm, ly, hb', kp⟩
      walk_at "go"
      have lx : xs = [] := by
        have := pm.length_eq
        rw [List.length_append, sgn_len] at this
        exact List.eq_nil_of_length_eq_zero (by omega)
      subst lx
      rw [List.append_nil] at pm
      exact k ys H' T pm hb' kp hT eT nTb

theorem app_cps (x y : Str) : (x ++ y).cps.toList = x.cps.toList ++ y.cps.toList := by
  show (x.cps ++ y.cps).toList = _
  exact Array.toList_append
theorem len_cps (x : Str) : x.length = x.cps.toList.length := by simp [Str.length]
theorem mem_sgn {z : Str} {x : V} (h : x ∈ (sgn z).map V.str) : ∃ c, c ∈ z.cps.toList ∧ x = .str ⟨#[c]⟩ := by
  obtain ⟨y, hy, rfl⟩ := List.mem_map.mp h
  obtain ⟨c, hc, rfl⟩ := List.mem_map.mp hy
  exact ⟨c, hc, rfl⟩
end
end K1

/-! S5 -/
/-! Texts as lists of signs; the good signs. -/
namespace K1
open PySem L2 PyProof.Rows
def one (c : Nat) : Str := ⟨#[c]⟩
theorem str_ext {x y : Str} (h : tl x = tl y) : x = y := by
  cases x with | mk a => cases y with | mk b => exact congrArg Str.mk (Array.toList_inj.mp h)
theorem tl_inj {x y : Str} : tl x = tl y ↔ x = y := ⟨str_ext, fun h => by rw [h]⟩
theorem one_inj {a b : Nat} (h : one a = one b) : a = b := by
  have := congrArg tl h
  simpa [one] using this
abbrev ALL : Str := "0123456789ABCDEFGHIJKLMNOPQRSTUVWXYZ"
/-- signs of a house -/
structure Good (z : Str) : Prop where
  lo : 2 ≤ (tl z).length
  hi : (tl z).length ≤ 12
  up : (tl z).Pairwise (· < ·)
  all : ∀ c ∈ tl z, c ∈ tl ALL
theorem sgn_one (z : Str) : sgn z = (tl z).map one := rfl
theorem ones : ∀ {zs : List Str}, (∀ y ∈ zs, ∃ c, y = one c) → ∃ l : List Nat, zs = l.map one
  | [], _ => ⟨[], rfl⟩
  | y :: zs, h => by
    obtain ⟨c, rfl⟩ := h y (by simp)
    obtain ⟨l, rfl⟩ := ones (zs := zs) fun z hz => h z (List.mem_cons_of_mem _ hz)
    exact ⟨c :: l, rfl⟩
theorem lt_one (a b : Nat) : Spec.ltCps (tl (one a)) (tl (one b)) = decide (a < b) := by
  show (decide (a < b) || (a == b && false)) = decide (a < b)
  rw [Bool.and_false, Bool.or_false]
theorem rising_le : ∀ (l : List Nat) (p : Nat), risingS (one p) (l.map one) = true → (p :: l).Pairwise (· ≤ ·)
  | [], p, _ => by simp
  | c :: l, p, h => by
    have h1 : p ≤ c ∧ risingS (one c) (l.map one) = true := by
      have e : risingS (one p) ((c :: l).map one) = (!Spec.ltCps (tl (one c)) (tl (one p)) && risingS (one c) (l.map one)) := rfl
      rw [e, lt_one] at h
      simpa using h
    have h2 := rising_le l c h1.2
    rw [List.pairwise_cons] at h2 ⊢
    refine ⟨fun d hd => ?_, by rw [List.pairwise_cons]; exact h2⟩
    rcases List.mem_cons.mp hd with rfl | hd
    · exact h1.1
    · exact Nat.le_trans h1.1 (h2.1 d hd)
theorem sorted_le (l : List Nat) (h : sortedS (l.map one) = true) : l.Pairwise (· ≤ ·) := by
  cases l with
  | nil => exact List.Pairwise.nil
  | cons c l => exact rising_le l c h
theorem join_ones : ∀ l : List Nat, tl (Str.join "" (l.map one)) = l
  | [] => rfl
  | [c] => rfl
  | c :: d :: l => by
    have ih := join_ones (d :: l)
    show tl (one c ++ "" ++ Str.join "" ((d :: l).map one)) = _
    rw [tl, app_cps, app_cps]
    rw [tl] at ih
    rw [ih]
    rfl
theorem nodup_all : (sgn ALL).Nodup := by decide +kernel
/-- what sorted of the first m of a mixed row of all signs, put together, is -/
theorem good_of {ys zs : List Str} {m : Nat} (hy : ys.Perm (sgn ALL)) (h2 : 2 ≤ m) (h12 : m ≤ 12) (hz : zs.Perm (ys.take m)) (hs : sortedS zs = true) :
    Good (Str.join "" zs) ∧ (tl (Str.join "" zs)).length = m ∧ (∀ y ∈ zs, y.length = 1) ∧ zs.length = m := by
  have hlen : ys.length = 36 := by rw [hy.length_eq]; decide +kernel
  have ht : (ys.take m).length = m := by rw [List.length_take]; omega
  have hzl : zs.length = m := by rw [hz.length_eq, ht]
  have hmem : ∀ y ∈ zs, ∃ c, y = one c ∧ c ∈ tl ALL := fun y q => by
    have a := hz.mem_iff.mp q
    have b := hy.mem_iff.mp (List.mem_of_mem_take a)
    obtain ⟨c, hc, rfl⟩ := List.mem_map.mp b
    exact ⟨c, rfl, hc⟩
  obtain ⟨l, rfl⟩ := ones (zs := zs) fun y q => by obtain ⟨c, e, _⟩ := hmem y q; exact ⟨c, e⟩
  have hnd : (l.map one).Nodup := hz.nodup_iff.mpr ((hy.nodup_iff.mpr nodup_all).sublist (List.take_sublist _ _))
  have hne : l.Pairwise (· ≠ ·) := (List.pairwise_map.mp hnd).imp fun h e => h (by rw [e])
  have hlt : l.Pairwise (· < ·) := ((sorted_le l hs).and hne).imp fun ⟨a, b⟩ => by omega
  have hl : l.length = m := by rw [← hzl, List.length_map]
  refine ⟨⟨?_, ?_, ?_, ?_⟩, ?_, ?_, hzl⟩
  · rw [join_ones, hl]; exact h2
  · rw [join_ones, hl]; exact h12
  · rw [join_ones]; exact hlt
  · rw [join_ones]
    intro c hc
    obtain ⟨d, e, hd⟩ := hmem (one c) (List.mem_map_of_mem hc)
    rw [one_inj e]; exact hd
  · rw [join_ones, hl]
  · intro y q
    obtain ⟨c, rfl, _⟩ := hmem y q
    rfl
end K1

/-! E5 -/
local macro_rules | `(tactic| walk_at "go") => `(tactic| repeat (first
  | with_reducible apply K1.r_seq
  | with_reducible apply K1.r_asg
  | ((with_reducible apply K1.r_name); (try dsimp only [List.set]))
  | ((with_reducible apply K1.r_var); (focus rfl))
  | with_reducible apply K1.r_c
  | with_reducible apply K1.r_op
  | with_reducible apply K1.r_un
  | with_reducible apply K1.r_I0
  | with_reducible apply K1.r_test
  | with_reducible apply K1.r_if
  | with_reducible apply K1.r_ifs
  | with_reducible apply K1.r_iteT
  | with_reducible apply K1.r_iteF
  | with_reducible apply K1.r_and
  | with_reducible apply K1.r_or
  | with_reducible apply K1.r_not
  | with_reducible apply K1.r_tB
  | with_reducible apply K1.r_andV
  | with_reducible apply K1.r_orV
  | with_reducible apply K1.r_notV
  | with_reducible apply K1.r_cb
  | with_reducible apply K1.r_cons
  | with_reducible apply K1.r_nil
  | with_reducible apply K1.r_ret
  | with_reducible apply K1.r_next
  | with_reducible apply K1.r_drop
  | with_reducible apply K1.r_lst
  | with_reducible apply K1.r_tup
  | with_reducible apply K1.r_call
  | with_reducible apply K1.r_gsub
  | with_reducible apply K1.r_for
  | with_reducible apply K1.r_bm
  | with_reducible apply K1.r_bm0
  | with_reducible apply K1.r_sl
  | with_reducible apply K1.r_noPart
  | with_reducible apply K1.r_part
  | with_reducible apply K1.r_iStr
  | with_reducible apply K1.r_iRng1
  | with_reducible apply K1.r_m1
  | refine ⟨_, rfl, ?_⟩
  | refine ⟨⟨_, rfl⟩, ?_⟩
  | refine Or.inl ⟨_, rfl, ?_⟩
  | dsimp only))

namespace K1
open PySem L2
abbrev sMany : Stmt := top 86
theorem scMany : FnScope ["_law_bag", "_law_many"] ["_law_bag"] (defScope sMany) := ⟨rfl, rfl, rfl, by decide +kernel, rfl, by decide +kernel, by decide +kernel⟩
abbrev OMixed (P : Program) (w : World) (K : PySem.W.Frag) (mg : Str → Option Value) (base : Heap) : Prop := Own P w K mg base "_law_mixed" 2 ["_law_bag", "_law_row"] spMixed
def spMany : Sp := fun vs H Q _ => ∃ (b : Addr) (n : Nat), vs = [.ref b] ∧ IsBag H b n ∧ n + 40 ≤ 2 ^ 40 ∧ ∀ (z : Str) H', Good z → IsBag H' b (n + 40) → Kp b H H' → Q (.str z) H'
section
variable {P : Program} {w : World} {K : PySem.W.Frag} {mg : Str → Option Value} {base : Heap}
theorem IsBag.new {H : Hp} {b p : Addr} {n : Nat} {o : HO} (h : IsBag H b n) (hp : H p = none) : IsBag (upd H p o) b n := by
  obtain ⟨d, s, c, e, r⟩ := h
  exact ⟨d, s, c, by rw [upd_ne (ne_of_none e hp)]; exact e, r⟩
theorem IsBag.ne {H : Hp} {b p : Addr} {n : Nat} (h : IsBag H b n) (hp : H p = none) : p ≠ b := fun q => by
  obtain ⟨_, _, _, e, _⟩ := h
  rw [q, e] at hp; cases hp
theorem cutV_take {xs : List V} {m : Int} (h0 : 0 ≤ m) : cutV xs none (some m) = xs.take m.toNat := by
  unfold cutV
  obtain ⟨k, rfl⟩ : ∃ k : Nat, m = k := ⟨m.toNat, by omega⟩
  rw [HT.sIx_none, HT.sIx_nat, List.drop_zero, Nat.sub_zero, Int.toNat_natCast]
  by_cases h : k ≤ xs.length
  · rw [Nat.min_eq_left h]
  · rw [Nat.min_eq_right (by omega), List.take_length, List.take_of_length_le (by omega)]
theorem ok_many {f : Addr} {fd : FuncData} (F : Fun K "_law_many_signs" "_law_many_signs" sMany f fd) (B : Bl mg) (Op : OPick P w K mg base) (Om : OMixed P w K mg base) : FnOk P w K mg base CX0 3 f fd ["_law_bag"] spMany := by
  refine F.ok scMany (fun vs H Q E h => ?_) (fun cdv A outer s H vs Q E hr h => ?_)
  · obtain ⟨b, n, rfl, _⟩ := h
    rfl
  · obtain ⟨b, n, rfl, hb, hn, k⟩ := h
    have hr1 : Room 1 _ := hr.mono (by decide)
    refine ⟨_, pss_cons (ps_set (i := 1) scMany.nd rfl (Or.inl rfl) (pe_op op_add pe_int (pe_own Op hr1 (pa_cons (pv 0) (pa_cons (pe_ix ix_list (pe_lst (pa_cons pe_int (pa_cons pe_int pa_nil)))
          (pe_own Op hr1 (pa_cons (pv 0) (pa_cons pe_int pa_nil))) (fun _ _ => rfl)) pa_nil)))))
      (pss_one (ps_ret (pe_join pe_str (pe_callB cr_sortedS (by rfl) B.sorted (by decide +kernel) (pa_cons (pe_slice sl_list (pe_own Om hr (pa_cons (pv 0) (pa_cons pe_str pa_nil))) po_none (po_some (pv 1))) pa_nil))))), ?_⟩
    try dsimp only [cxOf, Cx.nox, Cx.wish]
    walk_at "go"
    refine ⟨(by show 2 ≤ sizeLine; decide), fun p hp => ?_⟩
    have npb := hb.ne hp
    walk_at "go"
    refine ⟨_, _, n, rfl, hb.new hp, by omega, by decide, fun r H1 r0 r1 hb1 off1 => ?_⟩
    obtain ⟨v, ev, hv, _⟩ := at_nat' (xs := [V.int 3, V.int 11]) r0 (by show r < 2; omega)
    obtain ⟨q, rfl, q0, q1⟩ : ∃ q : Int, v = .int q ∧ 3 ≤ q ∧ q ≤ 11 := by
      rcases List.mem_cons.mp hv with rfl | hv
      · exact ⟨3, rfl, by decide, by decide⟩
      · rcases List.mem_cons.mp hv with rfl | hv
        · exact ⟨11, rfl, by decide, by decide⟩
        · cases hv
    refine r_ixL (SqL.of (off1.at npb upd_same)) ev ?_
    walk_at "go"
    refine ⟨_, _, _, rfl, hb1, by omega, by omega, fun r' H2 s0 s1 hb2 off2 => ?_⟩
    walk_at "go"
    refine ⟨_, _, _, rfl, hb2, (by show n + 1 + 1 + 36 ≤ 2 ^ 40; omega), (by decide), fun ys H3 l pm hb3 kp3 hl el nlb => ?_⟩
    walk_at "go"
    refine r_slL (SqL.of el) (fun l2 hl2 => ?_)
    walk_at "go"
    have ec : cutV (ys.map V.str) none (some (2 + r')) = (ys.take (2 + r').toNat).map V.str := by rw [cutV_take (by omega), List.map_take]
    refine ⟨l2, ys.take (2 + r').toNat, rfl, SqL.of (by rw [upd_same, ec]), ?_, fun zs l3 pz sz hl3 => ?_⟩
    · rw [List.length_take]; omega
    obtain ⟨gd, gl, g1, gz⟩ := good_of pm (m := (2 + r').toNat) (by omega) (by omega) pz sz
    walk_at "go"
    refine ⟨_, l3, zs, rfl, rfl, .inl (SqL.of upd_same), ?_, ?_⟩
    · have e1 : zs.map (·.length) = zs.map fun _ => 1 := List.map_congr_left g1
      rw [e1, gz]
      have e2 : ∀ l : List Str, (l.map fun _ => 1).sum = l.length := fun l => by induction l with | nil => rfl | cons a l ih => simp [ih]; omega
      rw [e2, gz]
      show (2 + r').toNat + (2 + r').toNat * 0 ≤ 16777216
      omega
    have ej : Txt.join ("" : Str) zs = Str.join "" zs := eq_of_beq (PyProof.Rows.join_plain_closes "" zs)
    show Q (.str (Txt.join ("" : Str) zs)) _
    rw [ej]
    refine k _ _ gd ?_ ?_
    · exact ((hb3.new hl2).new hl3).mono (by show n + 1 + 1 + 36 ≤ n + 40; omega)
    · refine Kp.trans (Same.kp (same_new hp)) (Kp.trans off1.kp (Kp.trans off2.kp (Kp.trans kp3 (Same.kp (Same.trans (same_new hl2) (same_new hl3))))))
end
end K1

/-! G5 -/
/-! The program's constants; rules for names of the module, unpacking of a list or tuple. -/
namespace K4
open PySem L2 K1 PyProof.Rows
def GI (mg : Str → Option Value) (x : Str) (i : Int) : Prop := ∃ t, mg x = some (.int i t)
def GS (mg : Str → Option Value) (x : Str) (z : Str) : Prop := ∃ t, mg x = some (.str z t)
abbrev DIG : Str := "0123456789"
structure Gc (K : PySem.W.Frag) (w : World) (mg : Str → Option Value) (dI : Addr) : Prop where
  LEAST_KINDS : GI mg "LEAST_KINDS" 2
  MOST_KINDS : GI mg "MOST_KINDS" 12
  LEAST_MODULUS : GI mg "LEAST_MODULUS" 2
  MOST_MODULUS : GI mg "MOST_MODULUS" 60
  MOST_WEIGHTS : GI mg "MOST_WEIGHTS" 8
  MOST_ROWS : GI mg "MOST_ROWS" 60
  MOST_FACES : GI mg "MOST_FACES" 4
  MOST_CUT : GI mg "MOST_CUT" 3
  MOST_PARTS : GI mg "MOST_PARTS" 40
  MOST_DIGITS : GI mg "MOST_DIGITS" 9
  MOST_NUMBER : GI mg "MOST_NUMBER" 59
  DIGITS : GS mg "DIGITS" DIG
  ALL_SIGNS : GS mg "ALL_SIGNS" K4.ALL
  IR : mg "INNER_RULES" = some (.ref dI)
  ir : ∀ k < 9, KDct K w dI (wd k) (.int (ar k))
  irD : ∃ es n, KDict K w dI es n
  irN : ∀ k < 9, ∃ r, PySem.W.nsIn K dI (wd k) = some (some r)
  irX : ∀ x : Str, (∀ k < 9, x ≠ wd k) → PySem.W.nsIn K dI x = some none
section
variable {X : Cx} {x : Str} {i : Int} {z : Str} {a : Addr} {pos : Pos}
theorem pe_gI (h : GI X.mg x i) (hg : Gl X x := by rfl) (hd : (x == ("__debug__" : Str)) = false := by decide) : PE X (.Name x pos) (tC (.int i)) := by
  obtain ⟨t, h⟩ := h
  exact pe_glob hg h ⟨t, rfl⟩ hd
theorem pe_gS (h : GS X.mg x z) (hg : Gl X x := by rfl) (hd : (x == ("__debug__" : Str)) = false := by decide) : PE X (.Name x pos) (tC (.str z)) := by
  obtain ⟨t, h⟩ := h
  exact pe_glob hg h ⟨t, rfl⟩ hd
theorem pe_gR (h : X.mg x = some (.ref a)) (hg : Gl X x := by rfl) (hd : (x == ("__debug__" : Str)) = false := by decide) : PE X (.Name x pos) (tC (.ref a)) := pe_glob hg h rfl hd
def gSq (K : PySem.W.Frag) (n : Nat) (t : TGs) : TG := fun v σ H Q => gTup K n t v σ H Q ∨ gUnl K n t v σ H Q
theorem pg_sq {es : List Expr} {k : Nat} {t : TGs} {n : Nat} (hc : X.calm = true) (h : PGs X es t)
    (hn : (assignEach es X.env).length = n := by rfl) (hst : (assignEach es X.env).findIdx? (·.1) = none := by rfl) : PG X (.Tuple es k pos) (gSq X.K n t) := by
  refine ⟨fun pins s σ H v u Q I r hw => ?_⟩
  rcases hw with hw | hw
  · exact (pg_tup (pos := pos) (k := k) hc h hn hst).run pins s σ H v u Q I r hw
  · exact (pg_unl (pos := pos) (k := k) hc h hn hst).run pins s σ H v u Q I r hw
end
theorem r_gSq {K : PySem.W.Frag} {n : Nat} {t : TGs} {v : V} {xs : List V} {σ : L2.St} {H : Hp} {Q : L2.St → Hp → Prop} (h : Sq K H v xs) (hn : xs.length = n) (q : t xs σ H Q) : gSq K n t v σ H Q := by
  obtain ⟨a, rfl, h | h⟩ := h
  · exact .inr ⟨a, xs, rfl, h, hn, q⟩
  · exact .inl ⟨a, xs, rfl, h, hn, q⟩
theorem r_kd {K : PySem.W.Frag} {w : World} {a : Addr} {z : Str} {v : V} {H : Hp} {Q : VK} (h : KDct K w a z v) (q : Q v H) : rIxD K w (.ref a) (.str z) H Q := ⟨a, z, v, rfl, rfl, h, q⟩
/-! ### texts that begin with a text -/
theorem pref_take : ∀ (y x : List Nat), y.isPrefixOf x = (decide (y.length ≤ x.length) && (x.take y.length == y))
  | [], x => by simp
  | b :: y, [] => by simp
  | b :: y, a :: x => by
    rw [List.isPrefixOf, pref_take y x]
    simp only [List.length_cons, List.take_succ_cons, Nat.add_le_add_iff_right]
    by_cases e : b = a
    · subst e; simp
    · have e' : ¬ a = b := fun q => e q.symm
      have b1 : (b == a) = false := by simpa using e
      have b3 : (a :: x.take y.length == b :: y) = false := by simp [e']
      rw [b1, Bool.false_and]
      simp [e']
theorem starts_iff (x y : Str) : Txt.startswith x y = (tl y).isPrefixOf (tl x) := by
  unfold Txt.startswith
  rw [PySem.StrLaws.subAt_eq, pref_take, List.drop_zero, Nat.zero_add, len_tl x, len_tl y]
theorem starts_app (x y : Str) : Txt.startswith x y = true ↔ ∃ r, tl x = tl y ++ r := by
  rw [starts_iff, List.isPrefixOf_iff_prefix]
  exact ⟨fun ⟨r, h⟩ => ⟨r, h.symm⟩, fun ⟨r, h⟩ => ⟨r, h.symm⟩⟩
theorem cutV_mid {xs : List V} (i j : Nat) : cutV xs (some (i : Int)) (some (j : Int)) = (xs.drop i).take (j - i) := by
  unfold cutV
  rw [HT.sIx_nat, HT.sIx_nat]
  by_cases h : i ≤ xs.length
  · rw [Nat.min_eq_left h]
    by_cases h2 : j ≤ xs.length
    · rw [Nat.min_eq_left h2]
    · rw [Nat.min_eq_right (by omega), List.take_of_length_le (by rw [List.length_drop]; omega), List.take_of_length_le (by rw [List.length_drop]; omega)]
  · have hi : min i xs.length = xs.length := Nat.min_eq_right (by omega)
    rw [hi]
    have e1 : xs.drop i = [] := List.drop_eq_nil_of_le (by omega)
    have e2 : xs.drop xs.length = [] := List.drop_eq_nil_of_le (by omega)
    rw [e1, e2]; simp
theorem cutV_from {xs : List V} (i : Nat) : cutV xs (some (i : Int)) none = xs.drop i := by
  unfold cutV
  rw [HT.sIx_nat, HT.sIx_none]
  by_cases h : i ≤ xs.length
  · rw [Nat.min_eq_left h, List.take_of_length_le (by rw [List.length_drop]; omega)]
  · have hi : min i xs.length = xs.length := Nat.min_eq_right (by omega)
    rw [hi]
    have e1 : xs.drop i = [] := List.drop_eq_nil_of_le (by omega)
    have e2 : xs.drop xs.length = [] := List.drop_eq_nil_of_le (by omega)
    rw [e1, e2]; simp
end K4

/-! N5 -/
/-! Reading words, in pure. -/
namespace K4
open PySem L2 K1 PyProof.Rows
theorem big_line {n : Nat} (h : n ≤ 500001) : n < sizeLine := by rw [sizeLine_eq]; omega
theorem str_tl {x : Str} {l : List Nat} (h : tl x = l) : x = ⟨l.toArray⟩ := str_ext h
/-! ### digits -/
theorem val_app (l : List Nat) (c : Nat) : NumText.digitsVal (l ++ [c]) = NumText.digitsVal l * 10 + (c - 48) := by
  unfold NumText.digitsVal
  rw [List.foldl_append]
  rfl
theorem numL_of (l : List Nat) (hd : ∀ c ∈ l, 48 ≤ c ∧ c ≤ 57) (hne : l ≠ []) (hz : l.head? ≠ some 48 ∨ l = [48]) : l = TL.numL (NumText.digitsVal l) := by
  induction n : l.length generalizing l with
  | zero => exact absurd (List.length_eq_zero_iff.mp n) hne
  | succ m ih =>
    obtain ⟨l', c, rfl⟩ : ∃ l' c, l = l' ++ [c] := ⟨l.dropLast, l.getLast hne, (List.dropLast_concat_getLast hne).symm⟩
    have hc := hd c (by simp)
    rw [val_app]
    by_cases e : l' = []
    · subst e
      have : NumText.digitsVal ([] : List Nat) = 0 := rfl
      rw [this, Nat.zero_mul, Nat.zero_add, TL.numL_lt (by omega), List.nil_append]
      congr 1
      omega
    · have hh : l'.head? ≠ some 48 := by
        rcases hz with z | z
        · intro q
          refine z ?_
          cases l' with
          | nil => exact absurd rfl e
          | cons a b => exact q
        · cases l' with
          | nil => exact absurd rfl e
          | cons a b =>
            have := congrArg List.length z
            simp at this
      have ih' := ih l' (fun c h => hd c (List.mem_append_left _ h)) e (.inl hh) (by simp at n; omega)
      have v0 : NumText.digitsVal l' ≠ 0 := by
        intro q
        rw [q, TL.numL_lt (by decide)] at ih'
        rw [ih'] at hh
        exact hh rfl
      rw [TL.numL_step (by omega)]
      have e1 : (NumText.digitsVal l' * 10 + (c - 48)) / 10 = NumText.digitsVal l' := by omega
      have e2 : 48 + (NumText.digitsVal l' * 10 + (c - 48)) % 10 = c := by omega
      rw [e1, e2, ← ih']
theorem tl_DIG : ∀ c, c ∈ tl DIG ↔ 48 ≤ c ∧ c ≤ 57 := by
  have e : tl DIG = [48, 49, 50, 51, 52, 53, 54, 55, 56, 57] := by decide +kernel
  intro c
  rw [e]
  simp only [List.mem_cons, List.not_mem_nil, or_false]
  omega
def textB (lo hi : Int) (cs y : Str) : Bool := decide (lo ≤ y.length) && (decide ((y.length : Int) ≤ hi) && (tl y).all fun c => decide (c ∈ tl cs))
theorem textB_iff {lo hi : Int} {cs y : Str} : textB lo hi cs y = true ↔ lo ≤ y.length ∧ (y.length : Int) ≤ hi ∧ ∀ c ∈ tl y, c ∈ tl cs := by
  unfold textB
  rw [Bool.and_eq_true, Bool.and_eq_true, List.all_eq_true, decide_eq_true_iff, decide_eq_true_iff]
  simp only [decide_eq_true_iff]
/-- a numeral: digits without a nought ahead -/
structure Nml (x : Str) : Prop where
  dg : ∀ c ∈ tl x, 48 ≤ c ∧ c ≤ 57
  ne : tl x ≠ []
  no : (tl x).head? ≠ some 48 ∨ tl x = [48]
theorem Nml.num {x : Str} (h : Nml x) : x = num (NumText.digitsVal (tl x)) := str_ext (by rw [tl_numL]; exact numL_of _ h.dg h.ne h.no)
theorem num_nml {n : Nat} (h : n ≤ 60) : Nml (num n) := by
  have a := num_ok h
  exact ⟨a.1, fun e => by rw [e] at a; simp at a, a.2.2.2⟩
theorem Nml.int {x : Str} (h : Nml x) (l : x.length ≤ 4300) : intText? x = some ((NumText.digitsVal (tl x) : Nat) : Int) := intText_digits (fun c hc => h.dg c hc) h.ne l
theorem Nml.long {x : Str} (h : Nml x) (l : 3 ≤ x.length) : 100 ≤ NumText.digitsVal (tl x) := by
  rcases Nat.lt_or_ge (NumText.digitsVal (tl x)) 100 with q | q
  · exfalso
    have a := TL.numL_len (k := 2) (by decide) (show NumText.digitsVal (tl x) < 10 ^ 2 from q)
    have b := congrArg (fun z : Str => (tl z).length) h.num
    rw [tl_numL, ← len_tl] at b
    omega
  · exact q
theorem Nml.log {x : Str} (h : Nml x) (l : x.length ≤ 9) : (NumText.digitsVal (tl x)) < 10 ^ 9 := by
  have gen : ∀ l : List Nat, (∀ c ∈ l, 48 ≤ c ∧ c ≤ 57) → NumText.digitsVal l < 10 ^ l.length := by
    intro l
    induction n : l.length generalizing l with
    | zero => intro _; rw [List.length_eq_zero_iff.mp n]; decide
    | succ m ih =>
      intro hd
      have hne : l ≠ [] := fun e => by rw [e] at n; cases n
      obtain ⟨l', c, rfl⟩ : ∃ l' c, l = l' ++ [c] := ⟨l.dropLast, l.getLast hne, (List.dropLast_concat_getLast hne).symm⟩
      have hc := hd c (by simp)
      have := ih l' (by simp at n; omega) fun c h => hd c (List.mem_append_left _ h)
      rw [val_app, Nat.pow_succ]
      omega
  refine Nat.lt_of_lt_of_le (gen _ h.dg) (Nat.pow_le_pow_right (by decide) (by rw [← len_tl]; exact l))
/-! ### numbers -/
def rdNum (lo hi : Nat) (x : Str) : Option Nat := (List.range 61).find? fun n => decide (x = num n) && (decide (lo ≤ n) && decide (n ≤ hi))
theorem rdNum_some {lo hi n : Nat} {x : Str} (h : rdNum lo hi x = some n) : x = num n ∧ lo ≤ n ∧ n ≤ hi ∧ n ≤ 60 := by
  have a := List.find?_some h
  have b := List.mem_of_find?_eq_some h
  rw [Bool.and_eq_true, Bool.and_eq_true, decide_eq_true_iff, decide_eq_true_iff, decide_eq_true_iff] at a
  rw [List.mem_range] at b
  exact ⟨a.1, a.2.1, a.2.2, by omega⟩
theorem rdNum_num {lo hi n : Nat} (h : n ≤ 60) (h1 : lo ≤ n) (h2 : n ≤ hi) : rdNum lo hi (num n) = some n := by
  cases e : rdNum lo hi (num n) with
  | some m =>
    have a := rdNum_some e
    exact congrArg some (num_inj h a.2.2.2 a.1).symm
  | none =>
    have a := List.find?_eq_none.mp e n (List.mem_range.mpr (by omega))
    simp [h1, h2] at a
theorem rdNum_none {lo hi : Nat} {x : Str} (h : ∀ n, n ≤ 60 → x = num n → ¬ (lo ≤ n ∧ n ≤ hi)) : rdNum lo hi x = none := by
  cases e : rdNum lo hi x with
  | none => rfl
  | some m =>
    have a := rdNum_some e
    exact absurd ⟨a.2.1, a.2.2.1⟩ (h m a.2.2.2 a.1)
theorem rdNum_of {lo hi : Nat} {x : Str} (h : Nml x) (hh : hi ≤ 60) : rdNum lo hi x = if lo ≤ NumText.digitsVal (tl x) ∧ NumText.digitsVal (tl x) ≤ hi then some (NumText.digitsVal (tl x)) else none := by
  by_cases q : lo ≤ NumText.digitsVal (tl x) ∧ NumText.digitsVal (tl x) ≤ hi
  · rw [if_pos q]
    have e := rdNum_num (lo := lo) (hi := hi) (n := NumText.digitsVal (tl x)) (by omega) q.1 q.2
    rw [← h.num] at e
    exact e
  · rw [if_neg q]
    refine rdNum_none fun n hn e => ?_
    have e2 : num (NumText.digitsVal (tl x)) = num n := h.num.symm.trans e
    have e3 : NumText.digitsVal (tl x) = n := TL.numL_inj (by rw [← tl_numL, ← tl_numL, e2])
    rw [← e3]
    exact q
theorem rdNum_bad {lo hi : Nat} {x : Str} (h : ¬ Nml x) : rdNum lo hi x = none := rdNum_none fun n hn e => by rw [e] at h; exact absurd (num_nml hn) h
/-! ### all parts -/
def rdAll {α : Type} (f : Str → Option α) : List Str → Option (List α)
  | [] => some []
  | x :: xs => match f x with
    | none => none
    | some a => (rdAll f xs).map (a :: ·)
theorem rdAll_some {α : Type} {f : Str → Option α} : ∀ {l : List Str} {as : List α}, rdAll f l = some as → l.map f = as.map some
  | [], as, h => by obtain rfl := Option.some.inj h; rfl
  | x :: xs, as, h => by
    rw [rdAll] at h
    cases e : f x with
    | none => rw [e] at h; cases h
    | some a =>
      rw [e] at h
      cases e2 : rdAll f xs with
      | none => rw [e2] at h; cases h
      | some bs =>
        rw [e2] at h
        obtain rfl := Option.some.inj h
        rw [List.map_cons, e, rdAll_some e2]; rfl
theorem rdAll_none {α : Type} {f : Str → Option α} : ∀ {l : List Str}, rdAll f l = none → ∃ x ∈ l, f x = none
  | [], h => by cases h
  | x :: xs, h => by
    rw [rdAll] at h
    cases e : f x with
    | none => exact ⟨x, List.mem_cons_self .., e⟩
    | some a =>
      rw [e] at h
      cases e2 : rdAll f xs with
      | none =>
        obtain ⟨y, hy, z⟩ := rdAll_none e2
        exact ⟨y, List.mem_cons_of_mem _ hy, z⟩
      | some bs => rw [e2] at h; cases h
def vO {α : Type} (v : α → V) : Option α → V
  | none => .non
  | some a => v a
theorem rdAll_vals {α : Type} {f : Str → Option α} {l : List Str} {as : List α} (v : α → V) (h : rdAll f l = some as) : l.map (fun x => vO v (f x)) = as.map v := by
  have := congrArg (List.map (vO v)) (rdAll_some h)
  rw [List.map_map, List.map_map] at this
  exact this
theorem rdAll_len {α : Type} {f : Str → Option α} {l : List Str} {as : List α} (h : rdAll f l = some as) : as.length = l.length := by
  have := congrArg List.length (rdAll_some h)
  rw [List.length_map, List.length_map] at this
  exact this.symm
theorem rdAll_mem {α : Type} {f : Str → Option α} {l : List Str} {as : List α} (h : rdAll f l = some as) {a : α} (ha : a ∈ as) : ∃ x ∈ l, f x = some a := by
  have : some a ∈ as.map some := List.mem_map.mpr ⟨a, ha, rfl⟩
  rw [← rdAll_some h] at this
  obtain ⟨x, hx, e⟩ := List.mem_map.mp this
  exact ⟨x, hx, e⟩
/-! ### split -/
theorem spl_len {S : List Nat} : ∀ (k : Nat) (acc l : List Nat), (TL.spl S k acc l).length ≤ l.length + 1 ∧ ∀ p ∈ TL.spl S k acc l, p.length ≤ acc.length + l.length
  | k, acc, [] => by
    rw [TL.spl_nil]
    exact ⟨by simp, fun p hp => by rw [List.mem_singleton.mp hp]; simp⟩
  | 0, acc, c :: r => by
    by_cases h : TL.pre S (c :: r) = true
    · rw [TL.spl_hit h]
      have a := spl_len (S := S) (S.length - 1) [] r
      refine ⟨by simp only [List.length_cons]; omega, fun p hp => ?_⟩
      rcases List.mem_cons.mp hp with rfl | hp
      · omega
      · have := a.2 p hp
        simp only [List.length_cons, List.length_nil] at this ⊢
        omega
    · rw [TL.spl_miss (by simpa using h)]
      have a := spl_len (S := S) 0 (acc ++ [c]) r
      refine ⟨by simp only [List.length_cons]; omega, fun p hp => ?_⟩
      have := a.2 p hp
      simp only [List.length_cons, List.length_append, List.length_nil] at this ⊢
      omega
  | k + 1, acc, c :: r => by
    have a := spl_len (S := S) k acc r
    refine ⟨?_, fun p hp => ?_⟩
    · show (TL.spl S k acc r).length ≤ _
      simp only [List.length_cons]; omega
    · have := a.2 p hp
      simp only [List.length_cons]; omega
theorem split_len {x y : Str} (hy : tl y ≠ []) (hk : y.cps.all (· < 256) = true) : (Txt.split x y).length ≤ x.length + 1 ∧ ∀ p ∈ Txt.split x y, p.length ≤ x.length := by
  have e := TL.split_spl x y hy (TL.kind_ok hk)
  have a := spl_len (S := tl y) 0 [] (tl x)
  rw [← e] at a
  rw [List.length_map] at a
  rw [len_tl x]
  refine ⟨a.1, fun p hp => ?_⟩
  have := a.2 (tl p) (List.mem_map.mpr ⟨p, hp, rfl⟩)
  rw [len_tl p]
  simp only [List.length_nil, Nat.zero_add] at this
  exact this
theorem split_ne {x y : Str} (hy : tl y ≠ []) (hk : y.cps.all (· < 256) = true) : Txt.split x y ≠ [] := by
  intro q
  have e := TL.split_spl x y hy (TL.kind_ok hk)
  rw [q] at e
  have ne : ∀ (k : Nat) (acc l : List Nat), TL.spl (tl y) k acc l ≠ [] := by
    intro k acc l
    induction l generalizing k acc with
    | nil => rw [TL.spl_nil]; simp
    | cons c r ih =>
      cases k with
      | zero =>
        by_cases h : TL.pre (tl y) (c :: r) = true
        · rw [TL.spl_hit h]; simp
        · rw [TL.spl_miss (by simpa using h)]; exact ih _ _
      | succ k => exact ih _ _
  exact ne _ _ _ e.symm
abbrev pCM (x : Str) : List Str := Txt.split x CM
abbrev pSL (x : Str) : List Str := Txt.split x SL
theorem pCM_len (x : Str) : (pCM x).length ≤ x.length + 1 ∧ ∀ p ∈ pCM x, p.length ≤ x.length := split_len (by rw [tl_CM]; simp) (by decide +kernel)
theorem pSL_len (x : Str) : (pSL x).length ≤ x.length + 1 ∧ ∀ p ∈ pSL x, p.length ≤ x.length := split_len (by rw [tl_SL]; simp) (by decide +kernel)
def rdNums (lm mm most : Nat) (x : Str) : Option (List Nat) := match rdAll (rdNum 0 most) (pCM x) with
  | none => none
  | some ns => if lm ≤ ns.length ∧ ns.length ≤ mm then some ns else none
def rdTexts (lm mm lo hi : Nat) (x : Str) : Option (List Str) := if ((pCM x).all (textB lo hi K4.ALL)) = true ∧ lm ≤ (pCM x).length ∧ (pCM x).length ≤ mm then some (pCM x) else none
def rdRows (x : Str) : Option (List (List Nat)) := match rdAll (rdNums 2 12 59) (pSL x) with
  | none => none
  | some rs => if rs.length ≤ 60 then some rs else none
end K4

/-! P5a -/

local macro_rules | `(tactic| walk_at "go") => `(tactic| repeat (first
  | with_reducible apply K1.r_seq
  | with_reducible apply K1.r_asg
  | ((with_reducible apply K1.r_name); (try dsimp only [List.set]))
  | ((with_reducible apply K1.r_var); (focus rfl))
  | with_reducible apply K1.r_c
  | with_reducible apply K1.r_op
  | with_reducible apply K1.r_un
  | with_reducible apply K1.r_I0
  | with_reducible apply K1.r_test
  | with_reducible apply K1.r_if
  | with_reducible apply K1.r_ifs
  | with_reducible apply K1.r_iteT
  | with_reducible apply K1.r_iteF
  | with_reducible apply K1.r_and
  | with_reducible apply K1.r_or
  | with_reducible apply K1.r_not
  | with_reducible apply K1.r_tB
  | with_reducible apply K1.r_andV
  | with_reducible apply K1.r_orV
  | with_reducible apply K1.r_notV
  | with_reducible apply K1.r_cb
  | with_reducible apply K1.r_cons
  | with_reducible apply K1.r_star
  | with_reducible apply K1.r_nil
  | with_reducible apply K1.r_ret
  | with_reducible apply K1.r_next
  | with_reducible apply K1.r_drop
  | with_reducible apply K1.r_lst
  | with_reducible apply K1.r_tup
  | with_reducible apply K1.r_call
  | with_reducible apply K1.r_gsub
  | with_reducible apply K1.r_for
  | with_reducible apply K1.r_bm
  | with_reducible apply K1.r_bm0
  | with_reducible apply K1.r_sl
  | with_reducible apply K1.r_noPart
  | with_reducible apply K1.r_part
  | with_reducible apply K1.r_iStr
  | with_reducible apply K1.r_iSq
  | with_reducible apply K1.r_iRng1
  | with_reducible apply K1.r_m1
  | with_reducible apply K1.r_chain
  | ((with_reducible apply K1.r_eq); (focus rfl))
  | ((with_reducible apply K1.r_ne); (focus rfl))
  | with_reducible apply K1.r_gnil
  | with_reducible apply K1.r_gcons
  | with_reducible apply K1.r_tfld
  | with_reducible apply K1.r_sfld
  | with_reducible apply K1.r_meth
  | refine ⟨_, rfl, ?_⟩
  | refine ⟨⟨_, rfl⟩, ?_⟩
  | refine Or.inl ⟨_, rfl, ?_⟩
  | dsimp only))
namespace K4
open PySem L2 K1
abbrev sIsWhole : Stmt := top 20
abbrev nIsWhole : List Str := ["thing"]
theorem scIsWhole : FnScope nIsWhole ["thing"] (defScope sIsWhole) := ⟨rfl, rfl, rfl, by decide +kernel, rfl, by decide +kernel, by decide +kernel⟩
abbrev sIsWithin : Stmt := top 21
abbrev nIsWithin : List Str := ["thing", "least", "most"]
theorem scIsWithin : FnScope nIsWithin ["thing", "least", "most"] (defScope sIsWithin) := ⟨rfl, rfl, rfl, by decide +kernel, rfl, by decide +kernel, by decide +kernel⟩
abbrev sIsText : Stmt := top 22
abbrev nIsText : List Str := ["thing", "least", "most", "characters", "character"]
theorem scIsText : FnScope nIsText ["thing", "least", "most", "characters"] (defScope sIsText) := ⟨rfl, rfl, rfl, by decide +kernel, rfl, by decide +kernel, by decide +kernel⟩
abbrev sIntegerIn : Stmt := top 49
abbrev nIntegerIn : List Str := ["word", "least", "most"]
theorem scIntegerIn : FnScope nIntegerIn ["word", "least", "most"] (defScope sIntegerIn) := ⟨rfl, rfl, rfl, by decide +kernel, rfl, by decide +kernel, by decide +kernel⟩
abbrev sIntegersIn : Stmt := top 50
abbrev nIntegersIn : List Str := ["word", "least_many", "most_many", "most", "integers", "part"]
theorem scIntegersIn : FnScope nIntegersIn ["word", "least_many", "most_many", "most"] (defScope sIntegersIn) := ⟨rfl, rfl, rfl, by decide +kernel, rfl, by decide +kernel, by decide +kernel⟩
abbrev sCharactersIn : Stmt := top 51
abbrev nCharactersIn : List Str := ["word", "least", "most"]
theorem scCharactersIn : FnScope nCharactersIn ["word", "least", "most"] (defScope sCharactersIn) := ⟨rfl, rfl, rfl, by decide +kernel, rfl, by decide +kernel, by decide +kernel⟩
abbrev sTextsIn : Stmt := top 53
abbrev nTextsIn : List Str := ["word", "least_many", "most_many", "least", "most", "texts", "part"]
theorem scTextsIn : FnScope nTextsIn ["word", "least_many", "most_many", "least", "most"] (defScope sTextsIn) := ⟨rfl, rfl, rfl, by decide +kernel, rfl, by decide +kernel, by decide +kernel⟩
abbrev sRowsIn : Stmt := top 66
abbrev nRowsIn : List Str := ["word", "rows", "part"]
theorem scRowsIn : FnScope nRowsIn ["word"] (defScope sRowsIn) := ⟨rfl, rfl, rfl, by decide +kernel, rfl, by decide +kernel, by decide +kernel⟩
theorem same_upd {H H' : Hp} {D : Addr} {o : HO} (s : Same H H') (h : H D = none) : Same H (upd H' D o) := fun c u e => by
  rw [upd_ne (ne_of_none e h)]
  exact s c u e
def spIsWhole : Sp := fun vs H Q _ => ∃ i : Int, vs = [.int i] ∧ Q (.bl true) H
def spIsWithin : Sp := fun vs H Q _ => ∃ i lo hi : Int, vs = [.int i, .int lo, .int hi] ∧ Q (.bl (decide (lo ≤ i) && decide (i ≤ hi))) H
def spIsText : Sp := fun vs H Q _ => ∃ (y : Str) (lo hi : Int) (cs : Str), vs = [.str y, .int lo, .int hi, .str cs] ∧ y.length ≤ 500000 ∧ ∀ H', Same H H' → Q (.bl (textB lo hi cs y)) H'
def spIntIn : Sp := fun vs H Q _ => ∃ (x : Str) (lo hi : Nat), vs = [.str x, vi lo, vi hi] ∧ x.length ≤ 500000 ∧ hi ≤ 60 ∧ ∀ H', Same H H' → Q (vO vi (rdNum lo hi x)) H'
def ORef (H : Hp) (Q : VK) (xs : Option (List V)) : Prop := match xs with
  | none => Q .non H
  | some xs => ∀ p, H p = some (.tup xs) → Q (.ref p) H
def spIntsIn : Sp := fun vs H Q _ => ∃ (x : Str) (lm mm most : Nat), vs = [.str x, vi lm, vi mm, vi most] ∧ x.length ≤ 500000 ∧ most ≤ 60 ∧ ∀ H', Same H H' → ORef H' Q ((rdNums lm mm most x).map fun ns => ns.map vi)
def spCharsIn : Sp := fun vs H Q _ => ∃ (x : Str) (lo hi : Nat), vs = [.str x, vi lo, vi hi] ∧ x.length ≤ 500000 ∧ ∀ H', Same H H' → Q (if textB lo hi K4.ALL x = true then .str x else .non) H'
def spTextsIn : Sp := fun vs H Q _ => ∃ (x : Str) (lm mm lo hi : Nat), vs = [.str x, vi lm, vi mm, vi lo, vi hi] ∧ x.length ≤ 500000 ∧ ∀ H', Same H H' → ORef H' Q ((rdTexts lm mm lo hi x).map fun ns => ns.map V.str)
theorem all_bl (l : List Nat) (f : Nat → Bool) : l.map (fun c => V.bl (f c)) = (l.map f).map V.bl := by rw [List.map_map]; rfl
theorem get_map {α : Type} {f : α → V} {l : List α} {i : Nat} {x : V} (h : (l.map f)[i]? = some x) : ∃ a, l[i]? = some a ∧ x = f a := by
  rw [List.getElem?_map] at h
  cases e : l[i]? with
  | none => rw [e] at h; cases h
  | some a => rw [e] at h; exact ⟨a, rfl, (Option.some.inj h).symm⟩
theorem take_next {α β : Type} {f : α → β} {l : List α} {i : Nat} {a : α} (h : l[i]? = some a) : (l.take i).map f ++ [f a] = (l.take (i + 1)).map f := by
  rw [List.take_succ, h]; simp
theorem acc_next {α : Type} {f : α → V} {l : List α} {acc : List V} {i : Nat} {a : α} (ha : acc = (l.take acc.length).map f) (hl : acc.length = i) (h : l[i]? = some a) : acc ++ [f a] = (l.take (acc ++ [f a]).length).map f := by
  subst hl
  rw [List.length_append]
  show _ = (l.take (acc.length + 1)).map f
  rw [← take_next h, ← ha]
theorem inV_no {α : Type} (f : Str → Option α) (v : α → V) (hv : ∀ a, eqV .non (v a) = false ∧ eqV (v a) .non = false) (l : List Str) : inV .non (l.map fun x => vO v (f x)) = l.any fun x => (f x).isNone := by
  unfold inV
  rw [List.any_map]
  congr 1
  funext x
  show _ = (f x).isNone
  cases e : f x with
  | none => simp [Function.comp, e, vO, eqV]
  | some a => simp [Function.comp, e, vO, hv a]
theorem starts_zero {x : Str} : Txt.startswith x "0" = true ↔ (tl x).head? = some 48 := by
  have e0 : tl ("0" : Str) = [48] := by decide +kernel
  rw [starts_app, e0]
  constructor
  · rintro ⟨r, e⟩
    rw [e]; rfl
  · intro h
    cases e : tl x with
    | nil => rw [e] at h; cases h
    | cons a r =>
      rw [e] at h
      obtain rfl := Option.some.inj h
      exact ⟨r, rfl⟩
theorem is_zero {x : Str} : x = "0" ↔ tl x = [48] := by
  have e0 : tl ("0" : Str) = [48] := by decide +kernel
  exact ⟨fun h => by rw [h]; exact e0, fun h => str_ext (h.trans e0.symm)⟩
section
variable {P : Program} {w : World} {K : PySem.W.Frag} {mg : Str → Option Value} {base : Heap} {dI : Addr}
theorem ok_isWhole {f : Addr} {fd : FuncData} (F : Fun K "is_whole" "is_whole" sIsWhole f fd) (B : Bl mg) : FnOk P w K mg base CX0 1 f fd ["thing"] spIsWhole := by
  refine F.ok scIsWhole (fun vs H Q E h => ?_) (fun cdv A outer s H vs Q E hr h => ?_)
  · obtain ⟨i, rfl, _⟩ := h
    rfl
  · obtain ⟨i, rfl, k⟩ := h
    refine ⟨_, (pss_one (ps_ret (pe_and (pe_callB (id := "isinstance") (r := rIsi K) call_isi (by rfl) B.isin (by decide +kernel) (pa_cons (pv 0) (pa_cons (pe_bltn (v := .ty "int") (by rfl) B.int (by decide +kernel) rfl) pa_nil))) (pe_one (pe_not (pe_callB (id := "isinstance") (r := rIsi K) call_isi (by rfl) B.isin (by decide +kernel) (pa_cons (pv 0) (pa_cons (pe_bltn (v := .ty "bool") (by rfl) B.bool (by decide +kernel) rfl) pa_nil)))))))), ?_⟩
    try dsimp only [cxOf, Cx.nox, Cx.wish]
    walk_at "go"
    refine r_isi (b := true) (.ty "int") (.base (.int _)) (kit_ty (by decide +kernel)) ?_
    walk_at "go"
    refine r_isi (b := false) (.ty "bool") (.base (.int _)) (kit_ty (by decide +kernel)) ?_
    walk_at "go"
    exact k
abbrev OWhole (P : Program) (w : World) (K : PySem.W.Frag) (mg : Str → Option Value) (base : Heap) : Prop := Own P w K mg base "is_whole" 1 ["thing"] spIsWhole
theorem ok_isWithin {f : Addr} {fd : FuncData} (F : Fun K "is_within" "is_within" sIsWithin f fd) (B : Bl mg) (Owh : OWhole P w K mg base) : FnOk P w K mg base CX0 2 f fd ["thing", "least", "most"] spIsWithin := by
  refine F.ok scIsWithin (fun vs H Q E h => ?_) (fun cdv A outer s H vs Q E hr h => ?_)
  · obtain ⟨i, lo, hi, rfl, _⟩ := h
    rfl
  · obtain ⟨i, lo, hi, rfl, k⟩ := h
    refine ⟨_, (pss_one (ps_ret (pe_and (pe_own Owh hr (pa_cons (pv 0) pa_nil)) (pe_one (pe_chain op_le op_le (pv 1) (pv 0) (pv 2)))))), ?_⟩
    try dsimp only [cxOf, Cx.nox, Cx.wish]
    walk_at "go"
    by_cases h1 : lo ≤ i
    · rw [decide_eq_true h1] at k ⊢
      rw [Bool.true_and] at k
      walk_at "go"
      exact k
    · rw [decide_eq_false h1] at k ⊢
      rw [Bool.false_and] at k
      walk_at "go"
      exact k
theorem ok_isText {f : Addr} {fd : FuncData} (F : Fun K "is_text" "is_text" sIsText f fd) (B : Bl mg) : FnOk P w K mg base CX0 1 f fd ["thing","least","most","characters"] spIsText := by
  refine F.ok scIsText (fun vs H Q E h => ?_) (fun cdv A outer s H vs Q E hr h => ?_)
  · obtain ⟨x, lo, hi, cs, rfl, _⟩ := h
    rfl
  · obtain ⟨y, lo, hi, cs, rfl, hy, k⟩ := h
    refine ⟨_, (pss_cons (ps_if (PW.pt (pw_or (pt_not (pt_val (pe_callB (id := "isinstance") (r := rIsi K) call_isi (by rfl) B.isin (by decide +kernel) (pa_cons (pv 0) (pa_cons (pe_bltn (v := .ty "str") (by rfl) B.str (by decide +kernel) rfl) pa_nil))))) (pw_or1 (pt_not (pt_chain op_le op_le (pv 1) (pe_callB call_len (by rfl) B.len PySem.boot_len (pa_cons (pv 0) pa_nil)) (pv 2)))))) (pss_one (ps_ret pe_bl)) pss_nil) (pss_one (ps_ret (pe_callB (cr_all rfl) (by rfl) B.all (by decide +kernel) (pa_cons (pe_lc (own := [("character", 4)]) (g := gName 4) (tt := tYes) rfl scIsText.nd (pi_str (pv 0)) (blkOk_by (N := nIsText) (sc := defScope sIsText) (by decide +kernel)) (fun _ _ _ _ _ => (pg_name (i := 4) scIsText.nd rfl (Or.inl rfl))) (fun _ _ _ _ _ => pts_nil) (fun _ _ _ _ _ => (pe_cmpR op_in_sign (pv 4) (pv 3) (by rfl)))) pa_nil))))), ?_⟩
    try dsimp only [cxOf, Cx.nox, Cx.wish]
    walk_at "go"
    refine r_isi (b := true) (.ty "str") (.base (.str _)) (kit_ty (by decide +kernel)) ?_
    walk_at "go"
    have hyl : y.length ≤ sizeLine := Nat.le_of_lt (big_line (by omega))
    refine ⟨_, _, rfl, lenS hyl, ?_⟩
    walk_at "go"
    unfold textB at k
    refine r_ite (fun h1 => ?_) (fun h1 => ?_)
    · rw [decide_eq_true h1, Bool.true_and] at k
      walk_at "go"
      by_cases h2 : (y.length : Int) ≤ hi
      · rw [decide_eq_true h2] at k ⊢
        rw [Bool.true_and] at k
        walk_at "go"
        intro D hD
        refine lc_smap (fun c => .bl (decide (c ∈ tl cs))) hD hyl (fun _ => rfl) (fun c hc H' R sm r => ?_) ?_
        · walk_at "go"
          exact ⟨c, cs, rfl, rfl, r⟩
        · walk_at "go"
          rw [all_bl]
          refine r_all (SqL.of upd_same) ?_
          have e : ((tl y).map fun c => decide (c ∈ tl cs)).all id = (tl y).all fun c => decide (c ∈ tl cs) := by rw [List.all_map]; rfl
          rw [e]
          exact k _ (same_new hD)
      · rw [decide_eq_false h2] at k ⊢
        walk_at "go"
        exact k H (Same.refl _)
    · rw [decide_eq_false h1] at k
      walk_at "go"
      exact k H (Same.refl _)
abbrev OText (P : Program) (w : World) (K : PySem.W.Frag) (mg : Str → Option Value) (base : Heap) : Prop := Own P w K mg base "is_text" 1 ["thing","least","most","characters"] spIsText
abbrev OWithin (P : Program) (w : World) (K : PySem.W.Frag) (mg : Str → Option Value) (base : Heap) : Prop := Own P w K mg base "is_within" 2 ["thing","least","most"] spIsWithin
theorem ok_integerIn {f : Addr} {fd : FuncData} (F : Fun K "integer_in" "integer_in" sIntegerIn f fd) (B : Bl mg) (G : Gc K w mg dI) (Ot : OText P w K mg base) (Owi : OWithin P w K mg base) : FnOk P w K mg base CX0 3 f fd ["word", "least", "most"] spIntIn := by
  refine F.ok scIntegerIn (fun vs H Q E h => ?_) (fun cdv A outer s H vs Q E hr h => ?_)
  · obtain ⟨x, lo, hi, rfl, _⟩ := h
    rfl
  · obtain ⟨x, lo, hi, rfl, hl, hh, k⟩ := h
    refine ⟨_, (pss_cons (ps_if (PW.pt (pw_or (pt_not (pt_val (pe_own Ot (hr.mono (by omega)) (pa_cons (pv 0) (pa_cons pe_int (pa_cons (pe_gI G.MOST_DIGITS) (pa_cons (pe_gS G.DIGITS) pa_nil))))))) (pw_or1 (PW.pt (pw_and (pt_val (pe_m1 PySem.F.slot_str_startswith PySem.F.type_str_startswith mt_startswith (pv 0) pe_str)) (pw_and1 (pt_cmpR op_ne (pv 0) pe_str (nomark _)))))))) (pss_one (ps_ret pe_non)) pss_nil) (pss_one (ps_ret (pe_ifExp (pt_val (pe_own Owi hr (pa_cons (pe_callTy call_int_str (by rfl) B.int (by decide +kernel) (pa_cons (pv 0) pa_nil)) (pa_cons (pv 1) (pa_cons (pv 2) pa_nil))))) (pe_callTy call_int_str (by rfl) B.int (by decide +kernel) (pa_cons (pv 0) pa_nil)) pe_non)))), ?_⟩
    try dsimp only [cxOf, Cx.nox, Cx.wish]
    walk_at "go"
    refine ⟨_, _, _, _, rfl, hl, fun H1 s1 => ?_⟩
    have kk := k _ s1
    cases ht : textB 1 9 DIG x with
    | false =>
      walk_at "go"
      have : ¬ Nml x ∨ 9 < x.length := by
        by_cases q : Nml x
        · refine .inr ?_
          rcases Nat.lt_or_ge 9 x.length with z | z
          · exact z
          · have : textB 1 9 DIG x = true := textB_iff.mpr ⟨by have := List.length_pos_iff.mpr q.ne; rw [len_tl]; omega, by omega, fun c hc => (tl_DIG c).mpr (q.dg c hc)⟩
            rw [this] at ht; cases ht
        · exact .inl q
      have e : rdNum lo hi x = none := by
        rcases this with q | q
        · exact rdNum_bad q
        · refine rdNum_none fun n hn e => ?_
          have := (num_ok hn).2.2.1
          rw [← e, ← len_tl] at this
          omega
      rw [e] at kk
      exact kk
    | true =>
      obtain ⟨t1, t2, t3⟩ := textB_iff.mp ht
      have hl9 : x.length ≤ 9 := by omega
      have hne : tl x ≠ [] := fun e => by rw [len_tl, e] at t1; simp at t1
      have hdg : ∀ c ∈ tl x, 48 ≤ c ∧ c ≤ 57 := fun c hc => (tl_DIG c).mp (t3 c hc)
      have go : Nml x → ∃ a n, [V.str x] = [V.str a] ∧ PySem.intText? a = some n ∧ a.length ≤ 640 ∧ n = ((NumText.digitsVal (tl x) : Nat) : Int) := fun q => ⟨x, _, rfl, q.int (by omega), by omega, rfl⟩
      walk_at "go"
      refine ⟨_, _, rfl, rfl, ?_⟩
      walk_at "go"
      have fin : Nml x → vO vi (rdNum lo hi x) = if (decide ((lo : Int) ≤ ((NumText.digitsVal (tl x) : Nat) : Int)) && decide (((NumText.digitsVal (tl x) : Nat) : Int) ≤ (hi : Int))) = true then vi (NumText.digitsVal (tl x)) else .non := fun q => by
        rw [rdNum_of q hh]
        by_cases z : lo ≤ NumText.digitsVal (tl x) ∧ NumText.digitsVal (tl x) ≤ hi
        · rw [if_pos z, if_pos (by rw [Bool.and_eq_true, decide_eq_true_iff, decide_eq_true_iff]; omega)]; rfl
        · rw [if_neg z, if_neg (by rw [Bool.and_eq_true, decide_eq_true_iff, decide_eq_true_iff]; omega)]; rfl
      refine r_iteB (fun q => ?_) (fun q => ?_)
      · walk_at "go"
        refine r_iteN (fun z => ?_) (fun z => ?_)
        · walk_at "go"
          have hz : tl x ≠ [48] := fun e => z (congrArg V.str (is_zero.mpr e))
          rw [rdNum_bad (fun q2 => by rcases q2.no with a | a; exact a (starts_zero.mp q); exact hz a)] at kk
          exact kk
        · have N : Nml x := ⟨hdg, hne, .inr (is_zero.mp (V.str.inj z))⟩
          rw [fin N] at kk
          walk_at "go"
          refine ⟨_, _, rfl, N.int (by omega), by omega, ?_⟩
          walk_at "go"
          refine ⟨_, _, _, rfl, ?_⟩
          cases eb : (decide ((lo : Int) ≤ ((NumText.digitsVal (tl x) : Nat) : Int)) && decide (((NumText.digitsVal (tl x) : Nat) : Int) ≤ (hi : Int))) with
          | true =>
            rw [eb] at kk
            walk_at "go"
            exact ⟨_, _, rfl, N.int (by omega), by omega, kk⟩
          | false =>
            rw [eb] at kk
            walk_at "go"
            exact kk
      · have N : Nml x := ⟨hdg, hne, .inl fun e => by rw [starts_zero.mpr e] at q; cases q⟩
        rw [fin N] at kk
        walk_at "go"
        refine ⟨_, _, rfl, N.int (by omega), by omega, ?_⟩
        walk_at "go"
        refine ⟨_, _, _, rfl, ?_⟩
        cases eb : (decide ((lo : Int) ≤ ((NumText.digitsVal (tl x) : Nat) : Int)) && decide (((NumText.digitsVal (tl x) : Nat) : Int) ≤ (hi : Int))) with
        | true =>
          rw [eb] at kk
          walk_at "go"
          exact ⟨_, _, rfl, N.int (by omega), by omega, kk⟩
        | false =>
          rw [eb] at kk
          walk_at "go"
          exact kk
end
end K4

/-! P5b -/


namespace K4
open PySem L2 K1
section
variable {P : Program} {w : World} {K : PySem.W.Frag} {mg : Str → Option Value} {base : Heap} {dI : Addr}
abbrev OIntIn (P : Program) (w : World) (K : PySem.W.Frag) (mg : Str → Option Value) (base : Heap) : Prop := Own P w K mg base "integer_in" 3 ["word", "least", "most"] spIntIn
theorem flat_vO {α : Type} (f : Str → Option α) (v : α → V) (hv : ∀ a, flatV (v a) = true) (l : List Str) : (l.map fun x => vO v (f x)).all flatV = true := List.all_eq_true.mpr fun y hy => by
  obtain ⟨x, _, rfl⟩ := List.mem_map.mp hy
  cases f x with
  | none => rfl
  | some a => exact hv a
theorem any_none {α : Type} (f : Str → Option α) (l : List Str) : (l.any fun x => (f x).isNone) = (rdAll f l).isNone := by
  induction l with
  | nil => rfl
  | cons x xs ih =>
    rw [List.any_cons, rdAll, ih]
    cases e : f x with
    | none => rfl
    | some a => cases rdAll f xs <;> rfl
theorem ok_integersIn {f : Addr} {fd : FuncData} (F : Fun K "integers_in" "integers_in" sIntegersIn f fd) (B : Bl mg) (Oi : OIntIn P w K mg base) : FnOk P w K mg base CX0 4 f fd ["word", "least_many", "most_many", "most"] spIntsIn := by
  refine F.ok scIntegersIn (fun vs H Q E h => ?_) (fun cdv A outer s H vs Q E hr h => ?_)
  · obtain ⟨x, lm, mm, most, rfl, _⟩ := h
    rfl
  · obtain ⟨x, lm, mm, most, rfl, hl, hm, k⟩ := h
    refine ⟨_, (pss_cons (ps_setLc (i := 4) (own := [("part", 5)]) (g := gName 5) (tt := tYes) rfl scIntegersIn.nd rfl rfl (sw_true rfl rfl rfl (by decide +kernel)) (pi_list (pe_m1 PySem.F.slot_str_split PySem.F.type_str_split mt_split (pv 0) pe_str)) (blkOk_by (N := nIntegersIn) (sc := defScope sIntegersIn) (by decide +kernel)) (fun _ _ _ _ _ => (pg_name (i := 5) scIntegersIn.nd rfl (Or.inl rfl))) (fun _ _ _ _ _ => pts_nil) (fun _ _ _ _ _ => (pe_own Oi hr (pa_cons (pv 5) (pa_cons pe_int (pa_cons (pv 3) pa_nil)))))) (pss_cons (ps_if (PW.pt (pw_or (pt_cmpR op_in_seq pe_non (pv 4) (by rfl)) (pw_or1 (pt_not (pt_chain op_le op_le (pv 1) (pe_callB call_len (by rfl) B.len PySem.boot_len (pa_cons (pv 4) pa_nil)) (pv 2)))))) (pss_one (ps_ret pe_non)) pss_nil) (pss_one (ps_ret (pe_callTy call_tuple_of (by rfl) B.tuple (by decide +kernel) (pa_cons (pv 4) pa_nil)))))), ?_⟩
    try dsimp only [cxOf, Cx.nox, Cx.wish]
    have hp := pCM_len x
    walk_at "go"
    refine ⟨_, _, rfl, rfl, by decide +kernel, (by rw [sizeLine_eq]; omega), fun p hp0 => ?_⟩
    walk_at "go"
    refine ⟨⟨_, SqL.of upd_same⟩, fun D hD => ?_⟩
    have s0 : Same H (upd H p (.lst ((pCM x).map V.str))) := same_new hp0
    have e0 : (upd H p (.lst ((pCM x).map V.str))) p = some (.lst ((pCM x).map V.str)) := upd_same
    generalize (upd H p (.lst ((pCM x).map V.str))) = H0 at *
    refine lc_gen (walk_list (K := K) (a := p) (xs := (pCM x).map V.str)) (fun _ => rfl) (fun acc H' => acc = ((pCM x).take acc.length).map (fun y => vO vi (rdNum 0 most y)) ∧ Same H0 H') ⟨rfl, same_new hD⟩ (fun acc H' _ q => SqL.of (q.2 _ _ e0)) ?_ ?_
    · rintro i x' acc H' hx hl' hacc ⟨ha, sm⟩
      obtain ⟨z, hz, rfl⟩ := get_map hx
      have hmem := hp.2 z (List.mem_of_getElem? hz)
      walk_at "go"
      refine ⟨z, 0, most, rfl, by omega, hm, fun H2 s2 => ?_⟩
      refine pp_next (s2 _ _ hacc) hl' (big_line (by have := (List.getElem?_eq_some_iff.mp hz).1; omega)) ⟨acc_next (f := fun y => vO vi (rdNum 0 most y)) ha hl' hz, same_upd (sm.trans s2) hD⟩
    · rintro acc H' hl' hacc ⟨ha, sm⟩
      rw [List.length_map] at hl'
      rw [hl', List.take_length] at ha
      subst ha
      have kk := k _ (s0.trans sm)
      walk_at "go"
      refine ⟨_, _, rfl, .inl (SqL.of hacc), rfl, flat_vO _ vi (fun _ => rfl) _, ?_⟩
      rw [inV_no _ vi (fun a => ⟨rfl, rfl⟩), any_none]
      unfold rdNums at kk
      cases er : rdAll (rdNum 0 most) (pCM x) with
      | none =>
        rw [er] at kk
        walk_at "go"
        exact kk
      | some ns =>
        rw [er] at kk
        dsimp only at kk
        have el := rdAll_len er
        have ev := rdAll_vals vi er
        walk_at "go"
        refine ⟨_, _, rfl, lenL (SqL.of hacc), ?_⟩
        walk_at "go"
        rw [List.length_map, ← el]
        by_cases h1 : lm ≤ ns.length
        · refine r_yes (by omega) ?_
          walk_at "go"
          by_cases h2 : ns.length ≤ mm
          · rw [if_pos ⟨h1, h2⟩] at kk
            rw [decide_eq_true (show ((ns.length : Nat) : Int) ≤ (mm : Int) by omega)]
            walk_at "go"
            refine ⟨_, _, rfl, .inl ⟨SqL.of hacc, fun q hq => ?_⟩⟩
            have k3 := k _ ((s0.trans sm).trans (same_new (o := HO.tup ((pCM x).map fun y => vO vi (rdNum 0 most y))) hq))
            unfold rdNums at k3
            rw [er] at k3
            dsimp only at k3
            rw [if_pos ⟨h1, h2⟩] at k3
            exact k3 q (by rw [upd_same]; exact congrArg (some ∘ HO.tup) ev)
          · rw [if_neg (fun q => h2 q.2)] at kk
            rw [decide_eq_false (show ¬ ((ns.length : Nat) : Int) ≤ (mm : Int) by omega)]
            walk_at "go"
            exact kk
        · rw [if_neg (fun q => h1 q.1)] at kk
          refine r_no (by omega) ?_
          walk_at "go"
          exact kk
theorem ok_charactersIn {f : Addr} {fd : FuncData} (F : Fun K "characters_in" "characters_in" sCharactersIn f fd) (B : Bl mg) (G : Gc K w mg dI) (Ot : OText P w K mg base) : FnOk P w K mg base CX0 2 f fd ["word", "least", "most"] spCharsIn := by
  refine F.ok scCharactersIn (fun vs H Q E h => ?_) (fun cdv A outer s H vs Q E hr h => ?_)
  · obtain ⟨z, lo, hi, rfl, _⟩ := h
    rfl
  · obtain ⟨z, lo, hi, rfl, hl, k⟩ := h
    refine ⟨_, (pss_one (ps_ret (pe_ifExp (pt_val (pe_own Ot hr (pa_cons (pv 0) (pa_cons (pv 1) (pa_cons (pv 2) (pa_cons (pe_gS G.ALL_SIGNS) pa_nil)))))) (pv 0) pe_non))), ?_⟩
    try dsimp only [cxOf, Cx.nox, Cx.wish]
    walk_at "go"
    refine ⟨_, _, _, _, rfl, hl, fun H1 s1 => ?_⟩
    have kk := k _ s1
    cases e : textB lo hi K4.ALL z with
    | true =>
      rw [e] at kk
      walk_at "go"
      exact kk
    | false =>
      rw [e] at kk
      walk_at "go"
      exact kk
abbrev OCharsIn (P : Program) (w : World) (K : PySem.W.Frag) (mg : Str → Option Value) (base : Heap) : Prop := Own P w K mg base "characters_in" 2 ["word", "least", "most"] spCharsIn
def rdChars (lo hi : Nat) (x : Str) : Option Str := if textB lo hi K4.ALL x = true then some x else none
theorem rdChars_v (lo hi : Nat) (x : Str) : (if textB lo hi K4.ALL x = true then V.str x else .non) = vO V.str (rdChars lo hi x) := by
  unfold rdChars
  cases textB lo hi K4.ALL x <;> rfl
theorem rdAll_chars {lo hi : Nat} {l : List Str} : rdAll (rdChars lo hi) l = if (l.all (textB lo hi K4.ALL)) = true then some l else none := by
  induction l with
  | nil => rfl
  | cons x xs ih =>
    rw [rdAll, ih, List.all_cons]
    unfold rdChars
    cases textB lo hi K4.ALL x with
    | false => rfl
    | true =>
      rw [if_pos rfl, Bool.true_and]
      cases xs.all (textB lo hi K4.ALL) <;> rfl
theorem ok_textsIn {f : Addr} {fd : FuncData} (F : Fun K "texts_in" "texts_in" sTextsIn f fd) (B : Bl mg) (Oc : OCharsIn P w K mg base) : FnOk P w K mg base CX0 3 f fd ["word", "least_many", "most_many", "least", "most"] spTextsIn := by
  refine F.ok scTextsIn (fun vs H Q E h => ?_) (fun cdv A outer s H vs Q E hr h => ?_)
  · obtain ⟨x, lm, mm, lo, hi, rfl, _⟩ := h
    rfl
  · obtain ⟨x, lm, mm, lo, hi, rfl, hl, k⟩ := h
    refine ⟨_, (pss_cons (ps_setLc (i := 5) (own := [("part", 6)]) (g := gName 6) (tt := tYes) rfl scTextsIn.nd rfl rfl (sw_true rfl rfl rfl (by decide +kernel)) (pi_list (pe_m1 PySem.F.slot_str_split PySem.F.type_str_split mt_split (pv 0) pe_str)) (blkOk_by (N := nTextsIn) (sc := defScope sTextsIn) (by decide +kernel)) (fun _ _ _ _ _ => (pg_name (i := 6) scTextsIn.nd rfl (Or.inl rfl))) (fun _ _ _ _ _ => pts_nil) (fun _ _ _ _ _ => (pe_own Oc hr (pa_cons (pv 6) (pa_cons (pv 3) (pa_cons (pv 4) pa_nil)))))) (pss_cons (ps_if (PW.pt (pw_or (pt_cmpR op_in_seq pe_non (pv 5) (by rfl)) (pw_or1 (pt_not (pt_chain op_le op_le (pv 1) (pe_callB call_len (by rfl) B.len PySem.boot_len (pa_cons (pv 5) pa_nil)) (pv 2)))))) (pss_one (ps_ret pe_non)) pss_nil) (pss_one (ps_ret (pe_callTy call_tuple_of (by rfl) B.tuple (by decide +kernel) (pa_cons (pv 5) pa_nil)))))), ?_⟩
    try dsimp only [cxOf, Cx.nox, Cx.wish]
    have hp := pCM_len x
    walk_at "go"
    refine ⟨_, _, rfl, rfl, by decide +kernel, (by rw [sizeLine_eq]; omega), fun p hp0 => ?_⟩
    walk_at "go"
    refine ⟨⟨_, SqL.of upd_same⟩, fun D hD => ?_⟩
    have s0 : Same H (upd H p (.lst ((pCM x).map V.str))) := same_new hp0
    have e0 : (upd H p (.lst ((pCM x).map V.str))) p = some (.lst ((pCM x).map V.str)) := upd_same
    generalize (upd H p (.lst ((pCM x).map V.str))) = H0 at *
    refine lc_gen (walk_list (K := K) (a := p) (xs := (pCM x).map V.str)) (fun _ => rfl) (fun acc H' => acc = ((pCM x).take acc.length).map (fun y => vO V.str (rdChars lo hi y)) ∧ Same H0 H') ⟨rfl, same_new hD⟩ (fun acc H' _ q => SqL.of (q.2 _ _ e0)) ?_ ?_
    · rintro i x' acc H' hx hl' hacc ⟨ha, sm⟩
      obtain ⟨z, hz, rfl⟩ := get_map hx
      have hmem := hp.2 z (List.mem_of_getElem? hz)
      walk_at "go"
      refine ⟨z, lo, hi, rfl, by omega, fun H2 s2 => ?_⟩
      rw [rdChars_v]
      exact pp_next (s2 _ _ hacc) hl' (big_line (by have := (List.getElem?_eq_some_iff.mp hz).1; omega)) ⟨acc_next (f := fun y => vO V.str (rdChars lo hi y)) ha hl' hz, same_upd (sm.trans s2) hD⟩
    · rintro acc H' hl' hacc ⟨ha, sm⟩
      rw [List.length_map] at hl'
      rw [hl', List.take_length] at ha
      subst ha
      have kk := k _ (s0.trans sm)
      walk_at "go"
      refine ⟨_, _, rfl, .inl (SqL.of hacc), rfl, flat_vO _ V.str (fun _ => rfl) _, ?_⟩
      rw [inV_no _ V.str (fun a => ⟨rfl, rfl⟩), any_none]
      unfold rdTexts at kk
      have er := rdAll_chars (lo := lo) (hi := hi) (l := pCM x)
      cases ea : (pCM x).all (textB lo hi K4.ALL) with
      | false =>
        rw [ea] at kk er
        rw [if_neg (fun q => by cases q.1)] at kk
        rw [if_neg Bool.false_ne_true] at er
        rw [er]
        walk_at "go"
        exact kk
      | true =>
        rw [ea, if_pos rfl] at er
        rw [ea] at kk
        have ev := rdAll_vals V.str er
        rw [er]
        walk_at "go"
        refine ⟨_, _, rfl, lenL (SqL.of hacc), ?_⟩
        walk_at "go"
        rw [List.length_map]
        by_cases h1 : lm ≤ (pCM x).length
        · refine r_yes (by omega) ?_
          walk_at "go"
          by_cases h2 : (pCM x).length ≤ mm
          · rw [decide_eq_true (show (((pCM x).length : Nat) : Int) ≤ (mm : Int) by omega)]
            walk_at "go"
            refine ⟨_, _, rfl, .inl ⟨SqL.of hacc, fun q hq => ?_⟩⟩
            have k3 := k _ ((s0.trans sm).trans (same_new (o := HO.tup ((pCM x).map fun y => vO V.str (rdChars lo hi y))) hq))
            unfold rdTexts at k3
            rw [if_pos ⟨ea, h1, h2⟩] at k3
            exact k3 q (by rw [upd_same]; exact congrArg (some ∘ HO.tup) ev)
          · rw [if_neg (fun q => h2 q.2.2)] at kk
            rw [decide_eq_false (show ¬ (((pCM x).length : Nat) : Int) ≤ (mm : Int) by omega)]
            walk_at "go"
            exact kk
        · rw [if_neg (fun q => h1 q.2.1)] at kk
          refine r_no (by omega) ?_
          walk_at "go"
          exact kk
end
end K4

/-! P5c -/


namespace K4
open PySem L2 K1
abbrev sRuleWordIn : Stmt := top 64
abbrev nRuleWordIn : List Str := ["word", "begun"]
theorem scRuleWordIn : FnScope nRuleWordIn ["word", "begun"] (defScope sRuleWordIn) := ⟨rfl, rfl, rfl, by decide +kernel, rfl, by decide +kernel, by decide +kernel⟩
abbrev rowD (r : List Nat) : PyData := .tuple (r.map pn)
def oD (o : Option (List Nat)) : PyData := match o with
  | none => .none
  | some r => rowD r
theorem hu65_of {k : Nat} {A : Around} (r : Room k A) : A.units + 65 < cLine := by have := r.un; omega
theorem shaped_of {d : PyData} (h : flatN d = true) (k : d.depth ≤ 64) : SeqAt.shaped d = true := by
  unfold SeqAt.shaped
  rw [canLay_flat d h, decide_eq_true k]
  rfl
theorem rowD_flat (r : List Nat) : flatN (rowD r) = true ∧ (rowD r).depth ≤ 1 :=
  ⟨flat_sq (t := true) fun d hd => (mem_map_pn hd).1, depth_sq (t := true) (n := 0) fun d hd => (mem_map_pn hd).2⟩
theorem oD_flat (o : Option (List Nat)) : flatN (oD o) = true ∧ (oD o).depth ≤ 1 := by
  cases o with
  | none => exact ⟨by simp [oD, flatN], by simp [oD, PyData.depth]⟩
  | some r => exact rowD_flat r
theorem rowD_pure (r : List Nat) : pure (rowD r) = true := pure_nums r
theorem oD_pure (o : Option (List Nat)) : pure (oD o) = true := by
  cases o with
  | none => simp [oD, K4.pure]
  | some r => exact rowD_pure r
def spRowsIn (K : PySem.W.Frag) : Sp := fun vs H Q _ => ∃ x : Str, vs = [.str x] ∧ x.length ≤ 500000 ∧ ∀ H', Same H H' → (match rdRows x with
  | none => Q .non H'
  | some rows => ∀ v, Dp K H' v (.tuple (rows.map rowD)) → Q v H')
def isWd (x : Str) : Bool := (List.range 9).any fun k => decide (x = wd k)
theorem isWd_iff {x : Str} : isWd x = true ↔ ∃ k, k < 9 ∧ x = wd k := by
  unfold isWd
  rw [List.any_eq_true]
  simp only [List.mem_range, decide_eq_true_iff]
def rdWord (x : Str) (b : Nat) : Option Str := if isWd x = true ∧ b < 40 then some x else none
def spRuleWordIn : Sp := fun vs H Q _ => ∃ (x : Str) (b : Nat), vs = [.str x, vi b] ∧ Q (vO V.str (rdWord x b)) H
section
variable {P : Program} {w : World} {K : PySem.W.Frag} {mg : Str → Option Value} {base : Heap} {dI : Addr}
abbrev OIntsIn (P : Program) (w : World) (K : PySem.W.Frag) (mg : Str → Option Value) (base : Heap) : Prop := Own P w K mg base "integers_in" 4 ["word", "least_many", "most_many", "most"] spIntsIn
theorem eqv_none {α : Type} (f : Str → Option (List Nat)) (l : List Str) : ((l.map fun x => oD (f x)).any fun z => PyData.eqv z .none) = l.any fun x => (f x).isNone := by
  rw [List.any_map]
  congr 1
  funext x
  show PyData.eqv (oD (f x)) .none = _
  cases f x with
  | none => simp [oD, PyData.eqv]
  | some r => simp [oD, PyData.eqv]
theorem ok_rowsIn {f : Addr} {fd : FuncData} (F : Fun K "rows_in" "rows_in" sRowsIn f fd) (B : Bl mg) (G : Gc K w mg dI) (Ois : OIntsIn P w K mg base) : FnOk P w K mg base CX0 5 f fd ["word"] (spRowsIn K) := by
  refine F.ok scRowsIn (fun vs H Q E h => ?_) (fun cdv A outer s H vs Q E hr h => ?_)
  · obtain ⟨rows, rfl, _⟩ := h
    rfl
  · obtain ⟨x, rfl, hl, k⟩ := h
    have hu65 := hu65_of hr
    have hp := pSL_len x
    refine ⟨_, (pss_cons (ps_setLc (i := 1) (own := [("part", 2)]) (g := gName 2) (tt := tYes) rfl scRowsIn.nd rfl rfl (sw_true rfl rfl rfl (by decide +kernel)) (pi_list (pe_m1 PySem.F.slot_str_split PySem.F.type_str_split mt_split (pv 0) pe_str)) (blkOk_by (N := nRowsIn) (sc := defScope sRowsIn) (by decide +kernel)) (fun _ _ _ _ _ => (pg_name (i := 2) scRowsIn.nd rfl (Or.inl rfl))) (fun _ _ _ _ _ => pts_nil) (fun _ _ _ _ _ => (pe_own Ois hr (pa_cons (pv 2) (pa_cons (pe_gI G.LEAST_KINDS) (pa_cons (pe_gI G.MOST_KINDS) (pa_cons (pe_gI G.MOST_NUMBER) pa_nil))))))) (pss_one (ps_ret (pe_ifExp (PW.pt (pw_or (pt_cmpR (op_inD hu65) pe_non (pv 1) (by rfl)) (pw_or1 (pt_cmpR op_gt (pe_callB call_len (by rfl) B.len PySem.boot_len (pa_cons (pv 1) pa_nil)) (pe_gI G.MOST_ROWS) (nomark _))))) pe_non (pe_callTy call_tuple_of (by rfl) B.tuple (by decide +kernel) (pa_cons (pv 1) pa_nil)))))), ?_⟩
    try dsimp only [cxOf, Cx.nox, Cx.wish]
    walk_at "go"
    refine ⟨_, _, rfl, rfl, by decide +kernel, (by rw [sizeLine_eq]; omega), fun p hp0 => ?_⟩
    walk_at "go"
    refine ⟨⟨_, SqL.of upd_same⟩, fun D hD => ?_⟩
    have s0 : Same H (upd H p (.lst ((pSL x).map V.str))) := same_new hp0
    have e0 : (upd H p (.lst ((pSL x).map V.str))) p = some (.lst ((pSL x).map V.str)) := upd_same
    generalize (upd H p (.lst ((pSL x).map V.str))) = H0 at *
    refine lc_gen (walk_list (K := K) (a := p) (xs := (pSL x).map V.str)) (fun _ => rfl) (fun acc H' => DpAll K H' acc (((pSL x).take acc.length).map fun y => oD (rdNums 2 12 59 y)) ∧ Same H0 H') ⟨.nil, same_new hD⟩ (fun acc H' _ q => SqL.of (q.2 _ _ e0)) ?_ ?_
    · rintro i x' acc H' hx hl' hacc ⟨ha, sm⟩
      obtain ⟨z, hz, rfl⟩ := get_map hx
      have hmem := hp.2 z (List.mem_of_getElem? hz)
      walk_at "go"
      refine ⟨z, 2, 12, 59, rfl, by omega, by decide, fun H2 s2 => ?_⟩
      have pu : pureA (((pSL x).take acc.length).map fun y => oD (rdNums 2 12 59 y)) = true := pureA_iff.mpr fun d hd => by obtain ⟨r, _, rfl⟩ := List.mem_map.mp hd; exact oD_pure _
      have fin : ∀ v, (∀ H3, KT K H2 H3 → Dp K H3 v (oD (rdNums 2 12 59 z))) → ∃ acc, H2 D = some (.lst acc) ∧ acc.length < sizeLine ∧ PP D (fun acc H' => DpAll K H' acc (((pSL x).take acc.length).map fun y => oD (rdNums 2 12 59 y)) ∧ Same H0 H') (i + 1) (upd H2 D (.lst (acc ++ [v]))) := fun v hv => by
        refine pp_next (s2 _ _ hacc) hl' (big_line (by have := (List.getElem?_eq_some_iff.mp hz).1; omega)) ⟨?_, same_upd (sm.trans s2) hD⟩
        have kt : KT K H2 (upd H2 D (.lst (acc ++ [v]))) := kt_lst (s2 _ _ hacc)
        have h1 : DpAll K (upd H2 D (.lst (acc ++ [v]))) (acc ++ [v]) ((((pSL x).take acc.length).map fun y => oD (rdNums 2 12 59 y)) ++ [oD (rdNums 2 12 59 z)]) :=
          dpA_app (dpA_pure (KT.trans (Same.kt s2) kt) _ _ pu ha) (.cons (hv _ kt) .nil)
        rw [hl', take_next (f := fun y => oD (rdNums 2 12 59 y)) hz] at h1
        rw [List.length_append, hl']
        exact h1
      cases e : rdNums 2 12 59 z with
      | none => exact fin .non fun H3 _ => by rw [e]; exact .non
      | some r =>
        intro q hq
        refine fin (.ref q) fun H3 kt => ?_
        rw [e]
        exact .tup (kt _ _ (SqT.of hq)) (dpA_nums.mpr rfl)
    · rintro acc H' hl' hacc ⟨ha, sm⟩
      rw [List.length_map] at hl'
      rw [hl', List.take_length] at ha
      have kk := k _ (s0.trans sm)
      walk_at "go"
      refine ⟨.none, _, .non, .lst (SqL.of hacc) ha, (by simp [SeqAt.shaped, PyData.canLay0, PyData.depth]), shaped_of ?_ ?_, ?_⟩
      · exact flat_sq (t := false) fun d hd => by obtain ⟨r, _, rfl⟩ := List.mem_map.mp hd; exact (oD_flat _).1
      · exact Nat.le_trans (depth_sq (t := false) (n := 1) fun d hd => by obtain ⟨r, _, rfl⟩ := List.mem_map.mp hd; exact (oD_flat _).2) (by decide)
      rw [eqv_none (α := Nat), any_none]
      unfold rdRows at kk
      cases er : rdAll (rdNums 2 12 59) (pSL x) with
      | none =>
        rw [er] at kk
        walk_at "go"
        exact kk
      | some rs =>
        rw [er] at kk
        dsimp only at kk
        have el := rdAll_len er
        have ev : ((pSL x).map fun y => oD (rdNums 2 12 59 y)) = rs.map rowD := by
          have := congrArg (List.map oD) (rdAll_some er)
          rw [List.map_map, List.map_map] at this
          exact this
        walk_at "go"
        refine ⟨_, _, rfl, lenL (SqL.of hacc), ?_⟩
        walk_at "go"
        by_cases h2 : rs.length ≤ 60
        · rw [if_pos h2] at kk
          refine r_no (by omega) ?_
          walk_at "go"
          refine ⟨_, _, rfl, .inl ⟨SqL.of hacc, fun q hq => ?_⟩⟩
          have k3 := k _ ((s0.trans sm).trans (same_new (o := HO.tup acc) hq))
          unfold rdRows at k3
          rw [er] at k3
          dsimp only at k3
          rw [if_pos h2] at k3
          refine k3 _ (.tup (SqT.of upd_same) ?_)
          rw [← ev]
          exact dpA_pure (Same.kt (same_new hq)) _ _ (pureA_iff.mpr fun d hd => by obtain ⟨r, _, rfl⟩ := List.mem_map.mp hd; exact oD_pure _) ha
        · rw [if_neg h2] at kk
          refine r_yes (by omega) ?_
          walk_at "go"
          exact kk
theorem ok_ruleWordIn {f : Addr} {fd : FuncData} (F : Fun K "rule_word_in" "rule_word_in" sRuleWordIn f fd) (B : Bl mg) (G : Gc K w mg dI) : FnOk P w K mg base CX0 1 f fd ["word", "begun"] spRuleWordIn := by
  refine F.ok scRuleWordIn (fun vs H Q E h => ?_) (fun cdv A outer s H vs Q E hr h => ?_)
  · obtain ⟨k, b, rfl, _⟩ := h
    rfl
  · obtain ⟨x, b, rfl, k⟩ := h
    obtain ⟨es, m, DD⟩ := G.irD
    refine ⟨_, (pss_one (ps_ret (pe_ifExp (PW.pt (pw_and (pt_cmpR (op_in_kd DD) (pv 0) (pe_gR G.IR) (by rfl)) (pw_and1 (pt_cmpR op_lt (pv 1) (pe_gI G.MOST_PARTS) (nomark _))))) (pv 0) pe_non))), ?_⟩
    try dsimp only [cxOf, Cx.nox, Cx.wish]
    walk_at "go"
    cases e : isWd x with
    | false =>
      have hx : ∀ k < 9, x ≠ wd k := fun k hk q => by rw [isWd_iff.mpr ⟨k, hk, q⟩] at e; cases e
      unfold rdWord at k
      rw [e, if_neg (fun q => by cases q.1)] at k
      refine ⟨_, none, rfl, rfl, G.irX x hx, ?_⟩
      walk_at "go"
      exact k
    | true =>
      obtain ⟨c, hc, rfl⟩ := isWd_iff.mp e
      obtain ⟨r, hrr⟩ := G.irN c hc
      unfold rdWord at k
      refine ⟨_, some r, rfl, rfl, hrr, ?_⟩
      walk_at "go"
      by_cases hb : b < 40
      · rw [if_pos ⟨e, hb⟩] at k
        refine r_yes (by omega) ?_
        walk_at "go"
        exact k
      · rw [if_neg (fun q => hb q.2)] at k
        refine r_no (by omega) ?_
        walk_at "go"
        exact k
end
end K4

/-! L5a -/


namespace K4
open PySem L2 K1
abbrev sLNumeral : Stmt := top 90
abbrev nLNumeral : List Str := ["_law_word", "_law_low", "_law_high", "_law_one"]
theorem scLNumeral : FnScope nLNumeral ["_law_word", "_law_low", "_law_high"] (defScope sLNumeral) := ⟨rfl, rfl, rfl, by decide +kernel, rfl, by decide +kernel, by decide +kernel⟩
abbrev sLNumerals : Stmt := top 91
abbrev nLNumerals : List Str := ["_law_word", "_law_low", "_law_high", "_law_told", "_law_part"]
theorem scLNumerals : FnScope nLNumerals ["_law_word", "_law_low", "_law_high"] (defScope sLNumerals) := ⟨rfl, rfl, rfl, by decide +kernel, rfl, by decide +kernel, by decide +kernel⟩
abbrev sLMade : Stmt := top 92
abbrev nLMade : List Str := ["_law_word", "_law_signs", "_law_low", "_law_high", "_law_one"]
theorem scLMade : FnScope nLMade ["_law_word", "_law_signs", "_law_low", "_law_high"] (defScope sLMade) := ⟨rfl, rfl, rfl, by decide +kernel, rfl, by decide +kernel, by decide +kernel⟩
abbrev sLStrings : Stmt := top 93
abbrev nLStrings : List Str := ["_law_word", "_law_low", "_law_high", "_law_least", "_law_most_parts", "_law_every", "_law_parts", "_law_good", "_law_part"]
theorem scLStrings : FnScope nLStrings ["_law_word", "_law_low", "_law_high", "_law_least", "_law_most_parts"] (defScope sLStrings) := ⟨rfl, rfl, rfl, by decide +kernel, rfl, by decide +kernel, by decide +kernel⟩
abbrev sLIsInt : Stmt := top 84
abbrev nLIsInt : List Str := ["_law_thing"]
theorem scLIsInt : FnScope nLIsInt ["_law_thing"] (defScope sLIsInt) := ⟨rfl, rfl, rfl, by decide +kernel, rfl, by decide +kernel, by decide +kernel⟩
def numI : Option Nat → Int
  | none => -1
  | some n => n
def spNumeral : Sp := fun vs H Q _ => ∃ (x : Str) (lo hi : Nat), vs = [.str x, vi lo, vi hi] ∧ x.length ≤ 500000 ∧ hi ≤ 60 ∧ ∀ H', Same H H' → Q (.int (numI (rdNum lo hi x))) H'
section
variable {P : Program} {w : World} {K : PySem.W.Frag} {mg : Str → Option Value} {base : Heap} {dI : Addr}
theorem ok_numeral {f : Addr} {fd : FuncData} (F : Fun K "_law_numeral" "_law_numeral" sLNumeral f fd) (B : Bl mg) : FnOk P w K mg base CX0 1 f fd ["_law_word", "_law_low", "_law_high"] spNumeral := by
  refine F.ok scLNumeral (fun vs H Q E h => ?_) (fun cdv A outer s H vs Q E hr h => ?_)
  · obtain ⟨x, lo, hi, rfl, _⟩ := h
    rfl
  · obtain ⟨x, lo, hi, rfl, hl, hh, k⟩ := h
    refine ⟨_, (pss_cons (ps_if (PW.pt (pw_or (pt_not (pt_chain op_lt op_lt pe_int (pe_callB call_len (by rfl) B.len PySem.boot_len (pa_cons (pv 0) pa_nil)) pe_int)) (pw_or1 (pt_not (pt_val (pe_callB (cr_all rfl) (by rfl) B.all (by decide +kernel) (pa_cons (pe_lc (own := [("_law_one", 3)]) (g := gName 3) (tt := tYes) rfl scLNumeral.nd (pi_str (pv 0)) (blkOk_by (N := nLNumeral) (sc := defScope sLNumeral) (by decide +kernel)) (fun _ _ _ _ _ => (pg_name (i := 3) scLNumeral.nd rfl (Or.inl rfl))) (fun _ _ _ _ _ => pts_nil) (fun _ _ _ _ _ => (pe_cmpR op_in_sign (pv 3) pe_str (by rfl)))) pa_nil))))))) (pss_one (ps_ret (pe_un un_neg pe_int))) pss_nil) (pss_cons (ps_if (PW.pt (pw_and (pt_cmpR op_eq (pe_callB call_len (by rfl) B.len PySem.boot_len (pa_cons (pv 0) pa_nil)) pe_int (nomark _)) (pw_and1 (pt_cmpR op_eq (pe_ix ix_str (pv 0) pe_int (fun _ _ => rfl)) pe_str (nomark _))))) (pss_one (ps_ret (pe_un un_neg pe_int))) pss_nil) (pss_one (ps_ret (pe_ifExp (pt_chain op_le op_le (pv 1) (pe_callTy call_int_str (by rfl) B.int (by decide +kernel) (pa_cons (pv 0) pa_nil)) (pv 2)) (pe_callTy call_int_str (by rfl) B.int (by decide +kernel) (pa_cons (pv 0) pa_nil)) (pe_un un_neg pe_int)))))), ?_⟩
    try dsimp only [cxOf, Cx.nox, Cx.wish]
    have hyl : x.length ≤ sizeLine := Nat.le_of_lt (big_line (by omega))
    walk_at "go"
    refine ⟨_, _, rfl, lenS hyl, ?_⟩
    walk_at "go"
    have bad : ¬ Nml x → ∀ H', Same H H' → Q (.int (-1)) H' := fun q H' s' => by have := k H' s'; rwa [rdNum_bad q] at this
    have long : 3 ≤ x.length → ∀ H', Same H H' → Q (.int (-1)) H' := fun q H' s' => by
      have := k H' s'
      rw [rdNum_none (fun n hn e => ?_)] at this
      · exact this
      · have := (num_ok hn).2.2.1
        rw [← e, ← len_tl] at this
        omega
    refine r_ite (fun h1 => ?_) (fun h1 => ?_)
    · walk_at "go"
      by_cases h2 : x.length < 3
      · rw [decide_eq_true (show ((x.length : Nat) : Int) < 3 by omega)]
        walk_at "go"
        intro D hD
        refine lc_smap (fun c => .bl (decide (c ∈ tl DIG))) hD hyl (fun _ => rfl) (fun c hc H' R sm r => ?_) ?_
        · walk_at "go"
          exact ⟨c, _, rfl, rfl, r⟩
        · walk_at "go"
          rw [all_bl]
          refine r_all (SqL.of upd_same) ?_
          have e : ((tl x).map fun c => decide (c ∈ tl DIG)).all id = (tl x).all fun c => decide (c ∈ tl DIG) := by rw [List.all_map]; rfl
          rw [e]
          have sm : Same H (upd H D (.lst (((tl x).map fun c => decide (c ∈ tl DIG)).map V.bl))) := same_new hD
          generalize (upd H D (.lst (((tl x).map fun c => decide (c ∈ tl DIG)).map V.bl))) = H2 at *
          cases ea : (tl x).all fun c => decide (c ∈ tl DIG) with
          | false =>
            walk_at "go"
            refine bad (fun q => ?_) _ sm
            have : ((tl x).all fun c => decide (c ∈ tl DIG)) = true := List.all_eq_true.mpr fun c hc => decide_eq_true ((tl_DIG c).mpr (q.dg c hc))
            rw [this] at ea; cases ea
          | true =>
            have hdg : ∀ c ∈ tl x, 48 ≤ c ∧ c ≤ 57 := fun c hc => (tl_DIG c).mp (of_decide_eq_true (List.all_eq_true.mp ea c hc))
            have hne : tl x ≠ [] := fun z => by rw [len_tl, z] at h1; simp at h1
            walk_at "go"
            have fin : Nml x → ∀ H', Same H H' → Q (.int (if lo ≤ NumText.digitsVal (tl x) ∧ NumText.digitsVal (tl x) ≤ hi then ((NumText.digitsVal (tl x) : Nat) : Int) else -1)) H' := fun N H' s' => by
              have := k H' s'
              rw [rdNum_of N hh] at this
              by_cases z : lo ≤ NumText.digitsVal (tl x) ∧ NumText.digitsVal (tl x) ≤ hi
              · rw [if_pos z] at this ⊢; exact this
              · rw [if_neg z] at this ⊢; exact this
            refine ⟨_, _, rfl, lenS hyl, ?_⟩
            walk_at "go"
            by_cases h3 : x.length = 2
            · refine r_yes (by rw [h3]; rfl) ?_
              obtain ⟨a, b, eab⟩ : ∃ a b, tl x = [a, b] := by
                rw [len_tl] at h3
                match e : tl x, h3 with
                | [a, b], _ => exact ⟨a, b, rfl⟩
              walk_at "go"
              refine r_ixS hyl (show atI (tl x) 0 = some a by rw [eab]; exact atI_nat (j := 0) rfl) ?_
              walk_at "go"
              by_cases h4 : a = 48
              · subst h4
                refine r_yes (by decide +kernel) ?_
                walk_at "go"
                exact bad (fun q => by rcases q.no with z | z <;> rw [eab] at z <;> simp at z) _ sm
              · have N : Nml x := ⟨hdg, hne, .inl (by rw [eab]; intro z; exact h4 (Option.some.inj z))⟩
                refine r_no (fun z => h4 (by
                  have := congrArg tl (V.str.inj z)
                  have e0 : tl ("0" : Str) = [48] := by decide +kernel
                  rw [e0] at this
                  exact (List.cons.inj this).1)) ?_
                walk_at "go"
                refine ⟨_, _, rfl, N.int (by omega), by omega, ?_⟩
                have ff := fin N _ sm
                walk_at "go"
                refine r_ite (fun z1 => ?_) (fun z1 => ?_)
                · walk_at "go"
                  by_cases z2 : NumText.digitsVal (tl x) ≤ hi
                  · rw [decide_eq_true (show ((NumText.digitsVal (tl x) : Nat) : Int) ≤ (hi : Int) by omega)]
                    rw [if_pos ⟨by omega, z2⟩] at ff
                    walk_at "go"
                    exact ⟨_, _, rfl, N.int (by omega), by omega, ff⟩
                  · rw [decide_eq_false (show ¬ ((NumText.digitsVal (tl x) : Nat) : Int) ≤ (hi : Int) by omega)]
                    rw [if_neg (fun q => z2 q.2)] at ff
                    walk_at "go"
                    exact ff
                · rw [if_neg (fun q => z1 (by omega))] at ff
                  walk_at "go"
                  exact ff
            · have N : Nml x := by
                obtain ⟨a, ea1⟩ : ∃ a, tl x = [a] := by
                  have h5 : (tl x).length = 1 := by rw [← len_tl]; omega
                  match e : tl x, h5 with
                  | [a], _ => exact ⟨a, rfl⟩
                refine ⟨hdg, hne, ?_⟩
                rw [ea1]
                by_cases z : a = 48
                · exact .inr (by rw [z])
                · exact .inl fun q => z (Option.some.inj q)
              refine r_no (fun z => h3 (by have := V.int.inj z; omega)) ?_
              walk_at "go"
              refine ⟨_, _, rfl, N.int (by omega), by omega, ?_⟩
              have ff := fin N _ sm
              walk_at "go"
              refine r_ite (fun z1 => ?_) (fun z1 => ?_)
              · walk_at "go"
                by_cases z2 : NumText.digitsVal (tl x) ≤ hi
                · rw [decide_eq_true (show ((NumText.digitsVal (tl x) : Nat) : Int) ≤ (hi : Int) by omega)]
                  rw [if_pos ⟨by omega, z2⟩] at ff
                  walk_at "go"
                  exact ⟨_, _, rfl, N.int (by omega), by omega, ff⟩
                · rw [decide_eq_false (show ¬ ((NumText.digitsVal (tl x) : Nat) : Int) ≤ (hi : Int) by omega)]
                  rw [if_neg (fun q => z2 q.2)] at ff
                  walk_at "go"
                  exact ff
              · rw [if_neg (fun q => z1 (by omega))] at ff
                walk_at "go"
                exact ff
      · rw [decide_eq_false (show ¬ ((x.length : Nat) : Int) < 3 by omega)]
        walk_at "go"
        exact long (by omega) H (Same.refl _)
    · walk_at "go"
      exact bad (fun q => h1 (by have := List.length_pos_iff.mpr q.ne; rw [len_tl]; omega)) H (Same.refl _)
abbrev ONumeral (P : Program) (w : World) (K : PySem.W.Frag) (mg : Str → Option Value) (base : Heap) : Prop := Own P w K mg base "_law_numeral" 1 ["_law_word", "_law_low", "_law_high"] spNumeral
def spNumerals : Sp := fun vs H Q _ => ∃ (x : Str) (lm mm : Nat), vs = [.str x, vi lm, vi mm] ∧ x.length ≤ 500000 ∧ ∀ H', Same H H' → ORef H' Q ((rdNums lm mm 59 x).map fun ns => ns.map vi)
theorem inV_minus (f : Str → Option Nat) (l : List Str) : inV (.int (-1)) (l.map fun x => V.int (numI (f x))) = l.any fun x => (f x).isNone := by
  unfold inV
  rw [List.any_map]
  congr 1
  funext x
  show _ = (f x).isNone
  cases e : f x with
  | none => simp [Function.comp, e, numI, eqV]
  | some a =>
    have h1 : ¬ ((a : Int) = -1) := by omega
    have h2 : ¬ ((-1 : Int) = a) := by omega
    simp [Function.comp, e, numI, eqV, h1, h2]
theorem flat_numI (f : Str → Option Nat) (l : List Str) : (l.map fun x => V.int (numI (f x))).all flatV = true := List.all_eq_true.mpr fun y hy => by
  obtain ⟨x, _, rfl⟩ := List.mem_map.mp hy
  rfl
theorem rdNums_no {lm mm most : Nat} {x : Str} (h : ¬ (lm ≤ (pCM x).length ∧ (pCM x).length ≤ mm)) : rdNums lm mm most x = none := by
  unfold rdNums
  cases e : rdAll (rdNum 0 most) (pCM x) with
  | none => rfl
  | some ns =>
    dsimp only
    rw [rdAll_len e, if_neg h]
theorem rdNums_bad {lm mm most : Nat} {x : Str} (e : rdAll (rdNum 0 most) (pCM x) = none) : rdNums lm mm most x = none := by
  unfold rdNums
  rw [e]
theorem rdNums_ok {lm mm most : Nat} {x : Str} {ns : List Nat} (e : rdAll (rdNum 0 most) (pCM x) = some ns) (h1 : lm ≤ (pCM x).length) (h2 : (pCM x).length ≤ mm) : rdNums lm mm most x = some ns := by
  unfold rdNums
  rw [e]
  dsimp only
  rw [rdAll_len e, if_pos ⟨h1, h2⟩]
theorem rdAll_num {f : Str → Option Nat} {l : List Str} {as : List Nat} (h : rdAll f l = some as) : l.map (fun x => V.int (numI (f x))) = as.map vi := by
  have := congrArg (List.map fun o => V.int (numI o)) (rdAll_some h)
  rw [List.map_map, List.map_map] at this
  exact this
theorem ok_numerals {f : Addr} {fd : FuncData} (F : Fun K "_law_numerals" "_law_numerals" sLNumerals f fd) (B : Bl mg) (Onu : ONumeral P w K mg base) : FnOk P w K mg base CX0 2 f fd ["_law_word", "_law_low", "_law_high"] spNumerals := by
  refine F.ok scLNumerals (fun vs H Q E h => ?_) (fun cdv A outer s H vs Q E hr h => ?_)
  · obtain ⟨x, lm, mm, rfl, _⟩ := h
    rfl
  · obtain ⟨x, lm, mm, rfl, hl, k⟩ := h
    refine ⟨_, (pss_cons (ps_setLc (i := 3) (own := [("_law_part", 4)]) (g := gName 4) (tt := tYes) rfl scLNumerals.nd rfl rfl (sw_true rfl rfl rfl (by decide +kernel)) (pi_list (pe_m1 PySem.F.slot_str_split PySem.F.type_str_split mt_split (pv 0) pe_str)) (blkOk_by (N := nLNumerals) (sc := defScope sLNumerals) (by decide +kernel)) (fun _ _ _ _ _ => (pg_name (i := 4) scLNumerals.nd rfl (Or.inl rfl))) (fun _ _ _ _ _ => pts_nil) (fun _ _ _ _ _ => (pe_own Onu hr (pa_cons (pv 4) (pa_cons pe_int (pa_cons pe_int pa_nil)))))) (pss_one (ps_ret (pe_ifExp (PW.pt (pw_and (pt_chain op_le op_le (pv 1) (pe_callB call_len (by rfl) B.len PySem.boot_len (pa_cons (pv 3) pa_nil)) (pv 2)) (pw_and1 (pt_cmpR op_notIn_seq (pe_un un_neg pe_int) (pv 3) (by rfl))))) (pe_callTy call_tuple_of (by rfl) B.tuple (by decide +kernel) (pa_cons (pv 3) pa_nil)) pe_non)))), ?_⟩
    try dsimp only [cxOf, Cx.nox, Cx.wish]
    have hp := pCM_len x
    walk_at "go"
    refine ⟨_, _, rfl, rfl, by decide +kernel, (by rw [sizeLine_eq]; omega), fun p hp0 => ?_⟩
    walk_at "go"
    refine ⟨⟨_, SqL.of upd_same⟩, fun D hD => ?_⟩
    have s0 : Same H (upd H p (.lst ((pCM x).map V.str))) := same_new hp0
    have e0 : (upd H p (.lst ((pCM x).map V.str))) p = some (.lst ((pCM x).map V.str)) := upd_same
    generalize (upd H p (.lst ((pCM x).map V.str))) = H0 at *
    refine lc_gen (walk_list (K := K) (a := p) (xs := (pCM x).map V.str)) (fun _ => rfl) (fun acc H' => acc = ((pCM x).take acc.length).map (fun y => V.int (numI (rdNum 0 59 y))) ∧ Same H0 H') ⟨rfl, same_new hD⟩ (fun acc H' _ q => SqL.of (q.2 _ _ e0)) ?_ ?_
    · rintro i x' acc H' hx hl' hacc ⟨ha, sm⟩
      obtain ⟨z, hz, rfl⟩ := get_map hx
      have hmem := hp.2 z (List.mem_of_getElem? hz)
      walk_at "go"
      refine ⟨z, 0, 59, rfl, by omega, by decide, fun H2 s2 => ?_⟩
      refine pp_next (s2 _ _ hacc) hl' (big_line (by have := (List.getElem?_eq_some_iff.mp hz).1; omega)) ⟨acc_next (f := fun y => V.int (numI (rdNum 0 59 y))) ha hl' hz, same_upd (sm.trans s2) hD⟩
    · rintro acc H' hl' hacc ⟨ha, sm⟩
      rw [List.length_map] at hl'
      rw [hl', List.take_length] at ha
      subst ha
      have kk := k _ (s0.trans sm)
      have ba := any_none (rdNum 0 59) (pCM x)
      walk_at "go"
      refine ⟨_, _, rfl, lenL (SqL.of hacc), ?_⟩
      walk_at "go"
      rw [List.length_map]
      refine r_ite (fun z1 => ?_) (fun z1 => ?_)
      · walk_at "go"
        by_cases z2 : (pCM x).length ≤ mm
        · rw [decide_eq_true (show (((pCM x).length : Nat) : Int) ≤ (mm : Int) by omega)]
          walk_at "go"
          refine ⟨_, _, rfl, .inl (SqL.of hacc), rfl, flat_numI _ _, ?_⟩
          rw [inV_minus, ba]
          cases er : rdAll (rdNum 0 59) (pCM x) with
          | none =>
            rw [rdNums_bad er] at kk
            walk_at "go"
            exact kk
          | some ns =>
            walk_at "go"
            refine ⟨_, _, rfl, .inl ⟨SqL.of hacc, fun q hq => ?_⟩⟩
            have k3 := k _ ((s0.trans sm).trans (same_new (o := HO.tup ((pCM x).map fun y => V.int (numI (rdNum 0 59 y)))) hq))
            rw [rdNums_ok er (by omega) z2] at k3
            exact k3 q (by rw [upd_same]; exact congrArg (some ∘ HO.tup) (rdAll_num er))
        · rw [decide_eq_false (show ¬ (((pCM x).length : Nat) : Int) ≤ (mm : Int) by omega)]
          rw [rdNums_no (fun q => z2 q.2)] at kk
          walk_at "go"
          exact kk
      · rw [rdNums_no (fun q => z1 (by omega))] at kk
        walk_at "go"
        exact kk
def spMade : Sp := fun vs H Q _ => ∃ (x cs : Str) (lo hi : Nat), vs = [.str x, .str cs, vi lo, vi hi] ∧ x.length ≤ 500000 ∧ ∀ H', Same H H' → Q (.bl (textB lo hi cs x)) H'
theorem ok_made {f : Addr} {fd : FuncData} (F : Fun K "_law_made" "_law_made" sLMade f fd) (B : Bl mg) : FnOk P w K mg base CX0 1 f fd ["_law_word", "_law_signs", "_law_low", "_law_high"] spMade := by
  refine F.ok scLMade (fun vs H Q E h => ?_) (fun cdv A outer s H vs Q E hr h => ?_)
  · obtain ⟨x, cs, lo, hi, rfl, _⟩ := h
    rfl
  · obtain ⟨x, cs, lo, hi, rfl, hl, k⟩ := h
    refine ⟨_, (pss_one (ps_ret (pe_and (pe_chain op_le op_le (pv 2) (pe_callB call_len (by rfl) B.len PySem.boot_len (pa_cons (pv 0) pa_nil)) (pv 3)) (pe_one (pe_callB (cr_all rfl) (by rfl) B.all (by decide +kernel) (pa_cons (pe_lc (own := [("_law_one", 4)]) (g := gName 4) (tt := tYes) rfl scLMade.nd (pi_str (pv 0)) (blkOk_by (N := nLMade) (sc := defScope sLMade) (by decide +kernel)) (fun _ _ _ _ _ => (pg_name (i := 4) scLMade.nd rfl (Or.inl rfl))) (fun _ _ _ _ _ => pts_nil) (fun _ _ _ _ _ => (pe_cmpR op_in_sign (pv 4) (pv 1) (by rfl)))) pa_nil)))))), ?_⟩
    try dsimp only [cxOf, Cx.nox, Cx.wish]
    have hyl : x.length ≤ sizeLine := Nat.le_of_lt (big_line (by omega))
    walk_at "go"
    refine ⟨_, _, rfl, lenS hyl, ?_⟩
    walk_at "go"
    unfold textB at k
    refine r_ite (fun h1 => ?_) (fun h1 => ?_)
    · rw [decide_eq_true h1, Bool.true_and] at k
      walk_at "go"
      by_cases h2 : ((x.length : Nat) : Int) ≤ (hi : Int)
      · rw [decide_eq_true h2] at k ⊢
        rw [Bool.true_and] at k
        walk_at "go"
        intro D hD
        refine lc_smap (fun c => .bl (decide (c ∈ tl cs))) hD hyl (fun _ => rfl) (fun c hc H' R sm r => ?_) ?_
        · walk_at "go"
          exact ⟨c, cs, rfl, rfl, r⟩
        · walk_at "go"
          rw [all_bl]
          refine r_all (SqL.of upd_same) ?_
          have e : ((tl x).map fun c => decide (c ∈ tl cs)).all id = (tl x).all fun c => decide (c ∈ tl cs) := by rw [List.all_map]; rfl
          rw [e]
          exact k _ (same_new hD)
      · rw [decide_eq_false h2] at k ⊢
        walk_at "go"
        exact k H (Same.refl _)
    · rw [decide_eq_false h1] at k
      walk_at "go"
      exact k H (Same.refl _)
abbrev OMade (P : Program) (w : World) (K : PySem.W.Frag) (mg : Str → Option Value) (base : Heap) : Prop := Own P w K mg base "_law_made" 1 ["_law_word", "_law_signs", "_law_low", "_law_high"] spMade
def spStrings : Sp := fun vs H Q _ => ∃ (x : Str) (lo hi lm mm : Nat), vs = [.str x, vi lo, vi hi, vi lm, vi mm] ∧ x.length ≤ 500000 ∧ ∀ H', Same H H' → ORef H' Q ((rdTexts lm mm lo hi x).map fun ns => ns.map V.str)
theorem ok_strings {f : Addr} {fd : FuncData} (F : Fun K "_law_strings" "_law_strings" sLStrings f fd) (B : Bl mg) (Omd : OMade P w K mg base) : FnOk P w K mg base CX0 2 f fd ["_law_word", "_law_low", "_law_high", "_law_least", "_law_most_parts"] spStrings := by
  refine F.ok scLStrings (fun vs H Q E h => ?_) (fun cdv A outer s H vs Q E hr h => ?_)
  · obtain ⟨x, lo, hi, lm, mm, rfl, _⟩ := h
    rfl
  · obtain ⟨x, lo, hi, lm, mm, rfl, hl, k⟩ := h
    refine ⟨_, (pss_cons (ps_set (i := 5) scLStrings.nd rfl (Or.inr rfl) pe_str) (pss_cons (ps_set (i := 6) scLStrings.nd rfl (Or.inl rfl) (pe_m1 PySem.F.slot_str_split PySem.F.type_str_split mt_split (pv 0) pe_str)) (pss_cons (ps_setLc (i := 7) (own := [("_law_part", 8)]) (g := gName 8) (tt := tYes) rfl scLStrings.nd rfl rfl (sw_true rfl rfl rfl (by decide +kernel)) (pi_list (pv 6)) (blkOk_by (N := nLStrings) (sc := defScope sLStrings) (by decide +kernel)) (fun _ _ _ _ _ => (pg_name (i := 8) scLStrings.nd rfl (Or.inl rfl))) (fun _ _ _ _ _ => pts_nil) (fun _ _ _ _ _ => (pe_own Omd hr (pa_cons (pv 8) (pa_cons (pv 5) (pa_cons (pv 1) (pa_cons (pv 2) pa_nil))))))) (pss_one (ps_ret (pe_ifExp (PW.pt (pw_and (pt_chain op_le op_le (pv 3) (pe_callB call_len (by rfl) B.len PySem.boot_len (pa_cons (pv 6) pa_nil)) (pv 4)) (pw_and1 (pt_val (pe_callB (cr_all rfl) (by rfl) B.all (by decide +kernel) (pa_cons (pv 7) pa_nil)))))) (pe_callTy call_tuple_of (by rfl) B.tuple (by decide +kernel) (pa_cons (pv 6) pa_nil)) pe_non)))))), ?_⟩
    try dsimp only [cxOf, Cx.nox, Cx.wish]
    have hp := pCM_len x
    walk_at "go"
    refine ⟨_, _, rfl, rfl, by decide +kernel, (by rw [sizeLine_eq]; omega), fun p hp0 => ?_⟩
    walk_at "go"
    refine ⟨⟨_, SqL.of upd_same⟩, fun D hD => ?_⟩
    have s0 : Same H (upd H p (.lst ((pCM x).map V.str))) := same_new hp0
    have e0 : (upd H p (.lst ((pCM x).map V.str))) p = some (.lst ((pCM x).map V.str)) := upd_same
    generalize (upd H p (.lst ((pCM x).map V.str))) = H0 at *
    refine lc_gen (walk_list (K := K) (a := p) (xs := (pCM x).map V.str)) (fun _ => rfl) (fun acc H' => acc = ((pCM x).take acc.length).map (fun y => V.bl (textB lo hi K4.ALL y)) ∧ Same H0 H') ⟨rfl, same_new hD⟩ (fun acc H' _ q => SqL.of (q.2 _ _ e0)) ?_ ?_
    · rintro i x' acc H' hx hl' hacc ⟨ha, sm⟩
      obtain ⟨z, hz, rfl⟩ := get_map hx
      have hmem := hp.2 z (List.mem_of_getElem? hz)
      walk_at "go"
      refine ⟨z, _, lo, hi, rfl, by omega, fun H2 s2 => ?_⟩
      refine pp_next (s2 _ _ hacc) hl' (big_line (by have := (List.getElem?_eq_some_iff.mp hz).1; omega)) ⟨acc_next (f := fun y => V.bl (textB lo hi K4.ALL y)) ha hl' hz, same_upd (sm.trans s2) hD⟩
    · rintro acc H' hl' hacc ⟨ha, sm⟩
      rw [List.length_map] at hl'
      rw [hl', List.take_length] at ha
      subst ha
      have kk := k _ (s0.trans sm)
      have ep := sm _ _ e0
      unfold rdTexts at kk
      have eb : ((pCM x).map fun y => V.bl (textB lo hi K4.ALL y)) = ((pCM x).map fun y => textB lo hi K4.ALL y).map V.bl := by rw [List.map_map]; rfl
      have ea : (((pCM x).map fun y => textB lo hi K4.ALL y).all id) = (pCM x).all (textB lo hi K4.ALL) := by rw [List.all_map]; rfl
      walk_at "go"
      refine ⟨_, _, rfl, lenL (SqL.of ep), ?_⟩
      walk_at "go"
      rw [List.length_map]
      refine r_ite (fun z1 => ?_) (fun z1 => ?_)
      · walk_at "go"
        by_cases z2 : (pCM x).length ≤ mm
        · rw [decide_eq_true (show (((pCM x).length : Nat) : Int) ≤ (mm : Int) by omega)]
          walk_at "go"
          rw [eb] at hacc
          refine r_all (SqL.of hacc) ?_
          rw [ea]
          cases eq : (pCM x).all (textB lo hi K4.ALL) with
          | false =>
            rw [eq, if_neg (fun q => by cases q.1)] at kk
            walk_at "go"
            exact kk
          | true =>
            walk_at "go"
            refine ⟨_, _, rfl, .inl ⟨SqL.of ep, fun q hq => ?_⟩⟩
            have k3 := k _ ((s0.trans sm).trans (same_new (o := HO.tup ((pCM x).map V.str)) hq))
            unfold rdTexts at k3
            rw [if_pos ⟨eq, by omega, z2⟩] at k3
            exact k3 q upd_same
        · rw [decide_eq_false (show ¬ (((pCM x).length : Nat) : Int) ≤ (mm : Int) by omega)]
          rw [if_neg (fun q => z2 q.2.2)] at kk
          walk_at "go"
          exact kk
      · rw [if_neg (fun q => z1 (by have := q.2.1; omega))] at kk
        walk_at "go"
        exact kk
end
end K4

/-! N5b -/
/-! A rule read off words, in pure. -/
namespace K4
open PySem L2 K1 PyProof.Rows
inductive Fk
  | modulus | weights | goal | rows | goals | faces | fend
def Fk.nm : Fk → Str
  | .modulus => "modulus" | .weights => "weights" | .goal => "goal" | .rows => "rows" | .goals => "goals" | .faces => "faces" | .fend => "end"
def Fk.read : Fk → Str → Option PyData
  | .modulus, x => (rdNum 2 60 x).map pn
  | .goal, x => (rdNum 0 59 x).map pn
  | .fend, x => (rdNum 0 3 x).map pn
  | .rows, x => (rdRows x).map fun rs => .tuple (rs.map rowD)
  | .faces, x => (rdTexts 1 4 2 12 x).map fun ts => .tuple (ts.map .str)
  | .weights, x => (rdNums 1 8 59 x).map fun ns => .tuple (ns.map pn)
  | .goals, x => (rdNums 1 60 59 x).map fun ns => .tuple (ns.map pn)
def fields : Nat → List Fk
  | 5 => [.modulus, .weights, .goal]
  | 6 => [.rows, .goals]
  | 7 => [.faces]
  | 8 => [.fend, .fend]
  | _ => []
def kindOf (x : Str) : Option Nat := (List.range 9).find? fun k => decide (x = wd k)
theorem kindOf_wd : ∀ {k : Nat}, k < 9 → kindOf (wd k) = some k := by
  have : ∀ k < 9, kindOf (wd k) = some k := by decide +kernel
  intro k hk
  exact this k hk
theorem kindOf_some {x : Str} {k : Nat} (h : kindOf x = some k) : k < 9 ∧ x = wd k := by
  have a := List.find?_some h
  have b := List.mem_of_find?_eq_some h
  exact ⟨List.mem_range.mp b, of_decide_eq_true a⟩
theorem kindOf_none {x : Str} (h : kindOf x = none) : ∀ k < 9, x ≠ wd k := fun k hk e => by
  rw [e, kindOf_wd hk] at h; cases h
theorem isWd_kind (x : Str) : isWd x = (kindOf x).isSome := by
  cases e : kindOf x with
  | none =>
    cases e2 : isWd x with
    | false => rfl
    | true =>
      obtain ⟨k, hk, q⟩ := isWd_iff.mp e2
      exact absurd q (kindOf_none e k hk)
  | some k => exact isWd_iff.mpr ⟨k, (kindOf_some e).1, (kindOf_some e).2⟩
/-- what was read, or the first bad place -/
inductive Out (α : Type)
  | bad (z : Nat)
  | ok (a : α)
def rdFields : List Fk → List Str → Nat → Out (List PyData × Nat)
  | [], _, z => .ok ([], z)
  | f :: fs, ws, z => match ws[z]?.bind f.read with
    | none => .bad z
    | some d => match rdFields fs ws (z + 1) with
      | .bad e => .bad e
      | .ok (ds, z') => .ok (d :: ds, z')
abbrev RR := Out (PyData × Nat × Nat)
def rdMany (f : Nat → Nat → RR) : Nat → Nat → Nat → Out (List PyData × Nat × Nat)
  | 0, z, b => .ok ([], z, b)
  | k + 1, z, b => match f z b with
    | .bad e => .bad e
    | .ok (d, z', b') => match rdMany f k z' b' with
      | .bad e => .bad e
      | .ok (ds, z2, b2) => .ok (d :: ds, z2, b2)
def rdRule : Nat → List Str → Nat → Nat → RR
  | 0, _, z, _ => .bad z
  | n + 1, ws, z, b => match ws[z]?.bind kindOf with
    | none => .bad z
    | some c => if b < 40 then
        match rdFields (fields c) ws (z + 1) with
        | .bad e => .bad e
        | .ok (ds, z1) => match rdMany (rdRule n ws) (ar c) z1 (b + 1) with
          | .bad e => .bad e
          | .ok (rs, z2, b2) => .ok (.tuple (.str (wd c) :: (ds ++ rs)), z2, b2)
      else .bad z
theorem rdMany_b {f : Nat → Nat → RR} (hf : ∀ z b d z' b', b ≤ 40 → f z b = .ok (d, z', b') → b < b' ∧ b' ≤ 40) : ∀ (k z b : Nat) (ds : List PyData) (z' b' : Nat), b ≤ 40 → rdMany f k z b = .ok (ds, z', b') → b + k ≤ b' ∧ b' ≤ 40 ∧ ds.length = k
  | 0, z, b, ds, z', b', hb, h => by
    rw [rdMany] at h
    injection h with h
    injection h with h1 h2
    injection h2 with h2 h3
    subst h1; subst h3
    exact ⟨Nat.le_refl _, hb, rfl⟩
  | k + 1, z, b, ds, z', b', hb, h => by
    rw [rdMany] at h
    cases e : f z b with
    | bad q => rw [e] at h; cases h
    | ok q =>
      obtain ⟨d, z1, b1⟩ := q
      rw [e] at h
      dsimp only at h
      obtain ⟨a1, a2⟩ := hf _ _ _ _ _ hb e
      cases e2 : rdMany f k z1 b1 with
      | bad q => rw [e2] at h; cases h
      | ok q =>
        obtain ⟨ds2, z2, b2⟩ := q
        rw [e2] at h
        injection h with h
        injection h with h1 h2
        injection h2 with h2 h3
        have ih := rdMany_b hf k z1 b1 ds2 z2 b2 a2 e2
        subst h1; subst h3
        refine ⟨by omega, ih.2.1, by rw [List.length_cons, ih.2.2]⟩
theorem rdRule_b : ∀ (n : Nat) (ws : List Str) (z b : Nat) (d : PyData) (z' b' : Nat), b ≤ 40 → rdRule n ws z b = .ok (d, z', b') → b < b' ∧ b' ≤ 40
  | 0, _, _, _, _, _, _, _, h => by cases h
  | n + 1, ws, z, b, d, z', b', hb, h => by
    rw [rdRule] at h
    cases e0 : ws[z]?.bind kindOf with
    | none => rw [e0] at h; cases h
    | some c =>
      rw [e0] at h
      dsimp only at h
      by_cases hb2 : b < 40
      · rw [if_pos hb2] at h
        cases e1 : rdFields (fields c) ws (z + 1) with
        | bad q => rw [e1] at h; cases h
        | ok q =>
          obtain ⟨ds, z1⟩ := q
          rw [e1] at h
          dsimp only at h
          cases e2 : rdMany (rdRule n ws) (ar c) z1 (b + 1) with
          | bad q => rw [e2] at h; cases h
          | ok q =>
            obtain ⟨rs, z2, b2⟩ := q
            rw [e2] at h
            injection h with h
            injection h with h1 h2
            injection h2 with h2 h3
            subst h3
            have := rdMany_b (fun z b d z' b' hb h => rdRule_b n ws z b d z' b' hb h) _ _ _ _ _ _ (show b + 1 ≤ 40 by omega) e2
            omega
      · rw [if_neg hb2] at h; cases h
theorem rdFields_len : ∀ {fs : List Fk} {ws : List Str} {z : Nat} {ds : List PyData} {z' : Nat}, rdFields fs ws z = .ok (ds, z') → ds.length = fs.length ∧ z' = z + fs.length
  | [], ws, z, ds, z', h => by
    rw [rdFields] at h
    injection h with h
    injection h with h1 h2
    subst h1; subst h2
    exact ⟨rfl, rfl⟩
  | f :: fs, ws, z, ds, z', h => by
    rw [rdFields] at h
    cases e : ws[z]?.bind f.read with
    | none => rw [e] at h; cases h
    | some d =>
      rw [e] at h
      dsimp only at h
      cases e2 : rdFields fs ws (z + 1) with
      | bad q => rw [e2] at h; cases h
      | ok q =>
        obtain ⟨ds2, z2⟩ := q
        rw [e2] at h
        injection h with h
        injection h with h1 h2
        subst h1; subst h2
        have ih := rdFields_len e2
        refine ⟨by rw [List.length_cons, List.length_cons, ih.1], by rw [List.length_cons]; omega⟩
/-- what is read is data of tuples -/
theorem Fk.pure {f : Fk} {x : Str} {d : PyData} (h : f.read x = some d) : K4.pure d = true := by
  cases f <;> simp only [Fk.read, Option.map_eq_some_iff] at h <;> obtain ⟨a, _, rfl⟩ := h <;> simp only [pn, K4.pure]
  · exact pure_nums a
  · exact pureA_iff.mpr fun d hd => by obtain ⟨r, _, rfl⟩ := List.mem_map.mp hd; exact rowD_pure r
  · exact pure_nums a
  · exact pureA_iff.mpr fun d hd => by obtain ⟨r, _, rfl⟩ := List.mem_map.mp hd; simp only [K4.pure]
theorem rdFields_pure : ∀ {fs : List Fk} {ws : List Str} {z : Nat} {ds : List PyData} {z' : Nat}, rdFields fs ws z = .ok (ds, z') → pureA ds = true
  | [], ws, z, ds, z', h => by
    rw [rdFields] at h
    injection h with h
    injection h with h1 h2
    subst h1
    rfl
  | f :: fs, ws, z, ds, z', h => by
    rw [rdFields] at h
    cases e : ws[z]?.bind f.read with
    | none => rw [e] at h; cases h
    | some d =>
      rw [e] at h
      dsimp only at h
      cases e2 : rdFields fs ws (z + 1) with
      | bad q => rw [e2] at h; cases h
      | ok q =>
        obtain ⟨ds2, z2⟩ := q
        rw [e2] at h
        injection h with h
        injection h with h1 h2
        subst h1
        obtain ⟨x, _, hx⟩ := Option.bind_eq_some_iff.mp e
        simp only [pureA, Bool.and_eq_true]
        exact ⟨Fk.pure hx, rdFields_pure e2⟩
theorem rdMany_pure {f : Nat → Nat → RR} (hf : ∀ z b d z' b', f z b = .ok (d, z', b') → K4.pure d = true) : ∀ (k z b : Nat) (ds : List PyData) (z' b' : Nat), rdMany f k z b = .ok (ds, z', b') → pureA ds = true
  | 0, z, b, ds, z', b', h => by
    rw [rdMany] at h
    injection h with h
    injection h with h1 h2
    subst h1
    rfl
  | k + 1, z, b, ds, z', b', h => by
    rw [rdMany] at h
    cases e : f z b with
    | bad q => rw [e] at h; cases h
    | ok q =>
      obtain ⟨d, z1, b1⟩ := q
      rw [e] at h
      dsimp only at h
      cases e2 : rdMany f k z1 b1 with
      | bad q => rw [e2] at h; cases h
      | ok q =>
        obtain ⟨ds2, z2, b2⟩ := q
        rw [e2] at h
        injection h with h
        injection h with h1 h2
        subst h1
        simp only [pureA, Bool.and_eq_true]
        exact ⟨hf _ _ _ _ _ e, rdMany_pure hf k z1 b1 ds2 z2 b2 e2⟩
theorem pureA_ap {xs ys : List PyData} (h : pureA xs = true) (k : pureA ys = true) : pureA (xs ++ ys) = true := pureA_iff.mpr fun d hd => by
  rcases List.mem_append.mp hd with q | q
  · exact pureA_iff.mp h d q
  · exact pureA_iff.mp k d q
theorem rdRule_pure : ∀ (n : Nat) (ws : List Str) (z b : Nat) (d : PyData) (z' b' : Nat), rdRule n ws z b = .ok (d, z', b') → K4.pure d = true
  | 0, _, _, _, _, _, _, h => by cases h
  | n + 1, ws, z, b, d, z', b', h => by
    rw [rdRule] at h
    cases e0 : ws[z]?.bind kindOf with
    | none => rw [e0] at h; cases h
    | some c =>
      rw [e0] at h
      dsimp only at h
      by_cases hb2 : b < 40
      · rw [if_pos hb2] at h
        cases e1 : rdFields (fields c) ws (z + 1) with
        | bad q => rw [e1] at h; cases h
        | ok q =>
          obtain ⟨ds, z1⟩ := q
          rw [e1] at h
          dsimp only at h
          cases e2 : rdMany (rdRule n ws) (ar c) z1 (b + 1) with
          | bad q => rw [e2] at h; cases h
          | ok q =>
            obtain ⟨rs, z2, b2⟩ := q
            rw [e2] at h
            injection h with h
            injection h with h1 h2
            subst h1
            have p1 := rdFields_pure e1
            have p2 := rdMany_pure (fun z b d z' b' h => rdRule_pure n ws z b d z' b' h) _ _ _ _ _ _ e2
            simp only [K4.pure, pureA, Bool.true_and]
            exact pureA_ap p1 p2
      · rw [if_neg hb2] at h; cases h
end K4

/-! L5b -/


namespace K4
open PySem L2 K1
abbrev sLKinds : Stmt := top 94
abbrev nLKinds : List Str := ["_law_word"]
theorem scLKinds : FnScope nLKinds ["_law_word"] (defScope sLKinds) := ⟨rfl, rfl, rfl, by decide +kernel, rfl, by decide +kernel, by decide +kernel⟩
abbrev sLTold : Stmt := top 95
abbrev nLTold : List Str := ["_law_kind", "_law_word", "_law_low", "_law_high", "_law_number", "_law_rows", "_law_told", "_law_part"]
theorem scLTold : FnScope nLTold ["_law_kind", "_law_word"] (defScope sLTold) := ⟨rfl, rfl, rfl, by decide +kernel, rfl, by decide +kernel, by decide +kernel⟩
def KindsAt (H : Hp) (p : Addr) (c : Nat) : Prop := ∃ a, H p = some (.lst [.ref a, vi (ar c)]) ∧ H a = some (.lst ((fields c).map fun f => V.str f.nm))
def spKinds : Sp := fun vs H Q _ => ∃ x : Str, vs = [.str x] ∧ (match kindOf x with
  | none => ∀ H', Same H H' → Q .non H'
  | some c => ∀ H' p, Same H H' → KindsAt H' p c → Q (.ref p) H')
def OData (d : Option PyData) : List PyData := match d with
  | none => []
  | some d => [d]
def spTold (K : PySem.W.Frag) : Sp := fun vs H Q _ => ∃ (f : Fk) (x : Str), vs = [.str f.nm, .str x] ∧ x.length ≤ 500000 ∧ ∀ H' p xs, Same H H' → H p = none → H' p = some (.lst xs) → DpAll K H' xs (OData (f.read x)) → Q (.ref p) H'
theorem beq_dec (a x : Str) : (a == x) = decide (x = a) := by
  rw [Bool.eq_iff_iff, decide_eq_true_iff, beq_iff_eq]
  exact ⟨Eq.symm, Eq.symm⟩
theorem inV2 (x a b : Str) : inV (.str x) [.str a, .str b] = (decide (x = a) || decide (x = b)) := by
  unfold inV
  simp [eqV, beq_dec]
theorem inV3 (x a b c : Str) : inV (.str x) [.str a, .str b, .str c] = (decide (x = a) || (decide (x = b) || decide (x = c))) := by
  unfold inV
  simp [eqV, beq_dec]
theorem oref_none {H : Hp} {Q : VK} (h : Q .non H) : ORef H Q none := h
theorem str_ne {a b : Str} (h : a ≠ b) : V.str a ≠ V.str b := fun q => h (V.str.inj q)
section
variable {P : Program} {w : World} {K : PySem.W.Frag} {mg : Str → Option Value} {base : Heap} {dI : Addr}
theorem ok_kinds {f : Addr} {fd : FuncData} (F : Fun K "_law_rule_kinds" "_law_rule_kinds" sLKinds f fd) (B : Bl mg) : FnOk P w K mg base CX0 1 f fd ["_law_word"] spKinds := by
  refine F.ok scLKinds (fun vs H Q E h => ?_) (fun cdv A outer s H vs Q E hr h => ?_)
  · obtain ⟨x, rfl, _⟩ := h
    rfl
  · obtain ⟨x, rfl, k⟩ := h
    refine ⟨_, (pss_cons (ps_if (pt_cmpR op_eq (pv 0) pe_str (nomark _)) (pss_one (ps_ret (pe_lst (pa_cons (pe_lst (pa_cons pe_str (pa_cons pe_str (pa_cons pe_str pa_nil)))) (pa_cons pe_int pa_nil))))) pss_nil) (pss_cons (ps_if (pt_cmpR op_eq (pv 0) pe_str (nomark _)) (pss_one (ps_ret (pe_lst (pa_cons (pe_lst (pa_cons pe_str (pa_cons pe_str pa_nil))) (pa_cons pe_int pa_nil))))) pss_nil) (pss_cons (ps_if (pt_cmpR op_eq (pv 0) pe_str (nomark _)) (pss_one (ps_ret (pe_lst (pa_cons (pe_lst (pa_cons pe_str pa_nil)) (pa_cons pe_int pa_nil))))) pss_nil) (pss_cons (ps_if (pt_cmpR op_eq (pv 0) pe_str (nomark _)) (pss_one (ps_ret (pe_lst (pa_cons (pe_lst (pa_cons pe_str (pa_cons pe_str pa_nil))) (pa_cons pe_int pa_nil))))) pss_nil) (pss_cons (ps_if (pt_cmpR op_in_seq (pv 0) (pe_tup (pa_cons pe_str (pa_cons pe_str pa_nil))) (by rfl)) (pss_one (ps_ret (pe_lst (pa_cons (pe_lst pa_nil) (pa_cons pe_int pa_nil))))) pss_nil) (pss_cons (ps_if (pt_cmpR op_in_seq (pv 0) (pe_tup (pa_cons pe_str (pa_cons pe_str pa_nil))) (by rfl)) (pss_one (ps_ret (pe_lst (pa_cons (pe_lst pa_nil) (pa_cons pe_int pa_nil))))) pss_nil) (pss_one (ps_ret (pe_ifExp (pt_cmpR op_eq (pv 0) pe_str (nomark _)) (pe_lst (pa_cons (pe_lst pa_nil) (pa_cons pe_int pa_nil))) pe_non))))))))), ?_⟩
    try dsimp only [cxOf, Cx.nox, Cx.wish]
    have two : ∀ (c : Nat), c < 9 → x = wd c → ∀ H0, Same H H0 → ∀ a, H0 a = none → ∀ p, (upd H0 a (.lst ((fields c).map fun f => V.str f.nm))) p = none → Q (.ref p) (upd (upd H0 a (.lst ((fields c).map fun f => V.str f.nm))) p (.lst [.ref a, vi (ar c)])) := fun c hc e H0 s0 a ha p hp => by
      rw [e, kindOf_wd hc] at k
      have nap : a ≠ p := fun z => by rw [← z, upd_same] at hp; cases hp
      exact k _ p (s0.trans ((same_new ha).trans (same_new hp))) ⟨a, upd_same, by rw [upd_ne nap, upd_same]⟩
    walk_at "go"
    refine r_ite (fun h5 => ?_) (fun h5 => ?_)
    · have e : x = wd 5 := V.str.inj h5
      walk_at "go"
      refine ⟨(by show 3 ≤ sizeLine; decide), fun a ha => ?_⟩
      walk_at "go"
      refine ⟨(by show 2 ≤ sizeLine; decide), fun p hp => ?_⟩
      exact two 5 (by decide) e H (Same.refl _) a ha p hp
    walk_at "go"
    refine r_ite (fun h6 => ?_) (fun h6 => ?_)
    · have e : x = wd 6 := V.str.inj h6
      walk_at "go"
      refine ⟨(by show 2 ≤ sizeLine; decide), fun a ha => ?_⟩
      walk_at "go"
      refine ⟨(by show 2 ≤ sizeLine; decide), fun p hp => ?_⟩
      exact two 6 (by decide) e H (Same.refl _) a ha p hp
    walk_at "go"
    refine r_ite (fun h7 => ?_) (fun h7 => ?_)
    · have e : x = wd 7 := V.str.inj h7
      walk_at "go"
      refine ⟨(by show 1 ≤ sizeLine; decide), fun a ha => ?_⟩
      walk_at "go"
      refine ⟨(by show 2 ≤ sizeLine; decide), fun p hp => ?_⟩
      exact two 7 (by decide) e H (Same.refl _) a ha p hp
    walk_at "go"
    refine r_ite (fun h8 => ?_) (fun h8 => ?_)
    · have e : x = wd 8 := V.str.inj h8
      walk_at "go"
      refine ⟨(by show 2 ≤ sizeLine; decide), fun a ha => ?_⟩
      walk_at "go"
      refine ⟨(by show 2 ≤ sizeLine; decide), fun p hp => ?_⟩
      exact two 8 (by decide) e H (Same.refl _) a ha p hp
    walk_at "go"
    refine ⟨(by show 2 ≤ sizeLine; decide), fun t ht => ?_⟩
    have s1 : Same H (upd H t (HO.tup [V.str (wd 1), V.str (wd 2)])) := same_new ht
    refine ⟨_, _, rfl, .inr (SqT.of upd_same), rfl, rfl, ?_⟩
    change Same H (upd H t (HO.tup [V.str (Str.ofString "back"), V.str (Str.ofString "not")])) at s1
    generalize (upd H t (HO.tup [V.str (Str.ofString "back"), V.str (Str.ofString "not")])) = H1 at *
    rw [inV2]
    by_cases h1 : x = wd 1
    · have eb : (decide (x = Str.ofString "back") || decide (x = Str.ofString "not")) = true := by rw [decide_eq_true (show x = Str.ofString "back" from h1)]; rfl
      rw [eb]
      walk_at "go"
      refine ⟨(by show 0 ≤ sizeLine; decide), fun a ha => ?_⟩
      walk_at "go"
      refine ⟨(by show 2 ≤ sizeLine; decide), fun p hp => ?_⟩
      exact two 1 (by decide) h1 H1 s1 a ha p hp
    by_cases h2 : x = wd 2
    · have eb : (decide (x = Str.ofString "back") || decide (x = Str.ofString "not")) = true := by rw [decide_eq_true (show x = Str.ofString "not" from h2), Bool.or_true]
      rw [eb]
      walk_at "go"
      refine ⟨(by show 0 ≤ sizeLine; decide), fun a ha => ?_⟩
      walk_at "go"
      refine ⟨(by show 2 ≤ sizeLine; decide), fun p hp => ?_⟩
      exact two 2 (by decide) h2 H1 s1 a ha p hp
    have eb : (decide (x = Str.ofString "back") || decide (x = Str.ofString "not")) = false := by rw [decide_eq_false (show ¬ x = Str.ofString "back" from h1), decide_eq_false (show ¬ x = Str.ofString "not" from h2)]; rfl
    rw [eb]
    walk_at "go"
    refine ⟨(by show 2 ≤ sizeLine; decide), fun t2 ht2 => ?_⟩
    have s2 : Same H (upd H1 t2 (HO.tup [V.str (Str.ofString "both"), V.str (Str.ofString "either")])) := s1.trans (same_new ht2)
    refine ⟨_, _, rfl, .inr (SqT.of upd_same), rfl, rfl, ?_⟩
    generalize (upd H1 t2 (HO.tup [V.str (Str.ofString "both"), V.str (Str.ofString "either")])) = H2 at *
    rw [inV2]
    by_cases h3 : x = wd 3
    · have eb : (decide (x = Str.ofString "both") || decide (x = Str.ofString "either")) = true := by rw [decide_eq_true (show x = Str.ofString "both" from h3)]; rfl
      rw [eb]
      walk_at "go"
      refine ⟨(by show 0 ≤ sizeLine; decide), fun a ha => ?_⟩
      walk_at "go"
      refine ⟨(by show 2 ≤ sizeLine; decide), fun p hp => ?_⟩
      exact two 3 (by decide) h3 H2 s2 a ha p hp
    by_cases h4 : x = wd 4
    · have eb : (decide (x = Str.ofString "both") || decide (x = Str.ofString "either")) = true := by rw [decide_eq_true (show x = Str.ofString "either" from h4), Bool.or_true]
      rw [eb]
      walk_at "go"
      refine ⟨(by show 0 ≤ sizeLine; decide), fun a ha => ?_⟩
      walk_at "go"
      refine ⟨(by show 2 ≤ sizeLine; decide), fun p hp => ?_⟩
      exact two 4 (by decide) h4 H2 s2 a ha p hp
    have eb : (decide (x = Str.ofString "both") || decide (x = Str.ofString "either")) = false := by rw [decide_eq_false (show ¬ x = Str.ofString "both" from h3), decide_eq_false (show ¬ x = Str.ofString "either" from h4)]; rfl
    rw [eb]
    walk_at "go"
    refine r_ite (fun h0 => ?_) (fun h0 => ?_)
    · walk_at "go"
      refine ⟨(by show 0 ≤ sizeLine; decide), fun a ha => ?_⟩
      walk_at "go"
      refine ⟨(by show 2 ≤ sizeLine; decide), fun p hp => ?_⟩
      exact two 0 (by decide) (V.str.inj h0) H2 s2 a ha p hp
    · walk_at "go"
      have : kindOf x = none := by
        cases e : kindOf x with
        | none => rfl
        | some c =>
          obtain ⟨hc, ec⟩ := kindOf_some e
          match c, hc with
          | 0, _ => exact absurd (congrArg V.str ec) h0
          | 1, _ => exact absurd ec h1
          | 2, _ => exact absurd ec h2
          | 3, _ => exact absurd ec h3
          | 4, _ => exact absurd ec h4
          | 5, _ => exact absurd (congrArg V.str ec) h5
          | 6, _ => exact absurd (congrArg V.str ec) h6
          | 7, _ => exact absurd (congrArg V.str ec) h7
          | 8, _ => exact absurd (congrArg V.str ec) h8
      rw [this] at k
      exact k _ s2
abbrev ONumerals (P : Program) (w : World) (K : PySem.W.Frag) (mg : Str → Option Value) (base : Heap) : Prop := Own P w K mg base "_law_numerals" 2 ["_law_word", "_law_low", "_law_high"] spNumerals
abbrev OStrings (P : Program) (w : World) (K : PySem.W.Frag) (mg : Str → Option Value) (base : Heap) : Prop := Own P w K mg base "_law_strings" 2 ["_law_word", "_law_low", "_law_high", "_law_least", "_law_most_parts"] spStrings
theorem sne {a b : Str} (h : tl a ≠ tl b) : ¬ V.str a = V.str b := fun q => h (congrArg tl (V.str.inj q))
theorem ok_told {f : Addr} {fd : FuncData} (F : Fun K "_law_rule_told" "_law_rule_told" sLTold f fd) (B : Bl mg) (Onu : ONumeral P w K mg base) (Ons : ONumerals P w K mg base) (Ost : OStrings P w K mg base) : FnOk P w K mg base CX0 3 f fd ["_law_kind", "_law_word"] (spTold K) := by
  refine F.ok scLTold (fun vs H Q E h => ?_) (fun cdv A outer s H vs Q E hr h => ?_)
  · obtain ⟨f, x, rfl, _⟩ := h
    rfl
  · obtain ⟨fk, x, rfl, hl, k⟩ := h
    have hu65 := hu65_of hr
    have hp := pSL_len x
    refine ⟨_, (pss_cons (ps_if (pt_cmpR op_in_seq (pv 0) (pe_tup (pa_cons pe_str (pa_cons pe_str (pa_cons pe_str pa_nil)))) (by rfl)) (pss_cons (ps_set (i := 2) scLTold.nd rfl (Or.inl rfl) (pe_ifExp (pt_cmpR op_eq (pv 0) pe_str (nomark _)) pe_int pe_int)) (pss_cons (ps_set (i := 3) scLTold.nd rfl (Or.inl rfl) (pe_ifExp (pt_cmpR op_eq (pv 0) pe_str (nomark _)) pe_int (pe_ifExp (pt_cmpR op_eq (pv 0) pe_str (nomark _)) pe_int pe_int))) (pss_cons (ps_set (i := 4) scLTold.nd rfl (Or.inl rfl) (pe_own Onu (hr.mono (by omega)) (pa_cons (pv 1) (pa_cons (pv 2) (pa_cons (pv 3) pa_nil))))) (pss_one (ps_ret (pe_ifExp (pt_cmpR op_ge (pv 4) pe_int (nomark _)) (pe_lst (pa_cons (pv 4) pa_nil)) (pe_lst pa_nil))))))) pss_nil) (pss_cons (ps_if (pt_cmpR op_eq (pv 0) pe_str (nomark _)) (pss_cons (ps_setLc (i := 5) (own := [("_law_part", 7)]) (g := gName 7) (tt := tYes) rfl scLTold.nd rfl rfl (sw_true rfl rfl rfl (by decide +kernel)) (pi_list (pe_m1 PySem.F.slot_str_split PySem.F.type_str_split mt_split (pv 1) pe_str)) (blkOk_by (N := nLTold) (sc := defScope sLTold) (by decide +kernel)) (fun _ _ _ _ _ => (pg_name (i := 7) scLTold.nd rfl (Or.inl rfl))) (fun _ _ _ _ _ => pts_nil) (fun _ _ _ _ _ => (pe_own Ons (hr.mono (by omega)) (pa_cons (pv 7) (pa_cons pe_int (pa_cons pe_int pa_nil)))))) (pss_one (ps_ret (pe_ifExp (PW.pt (pw_or (pt_cmpR (op_inD hu65) pe_non (pv 5) (by rfl)) (pw_or1 (pt_cmpR op_gt (pe_callB call_len (by rfl) B.len PySem.boot_len (pa_cons (pv 5) pa_nil)) pe_int (nomark _))))) (pe_lst pa_nil) (pe_lst (pa_cons (pe_callTy call_tuple_of (by rfl) B.tuple (by decide +kernel) (pa_cons (pv 5) pa_nil)) pa_nil)))))) pss_nil) (pss_cons (ps_if (pt_cmpR op_eq (pv 0) pe_str (nomark _)) (pss_one (ps_set (i := 6) scLTold.nd rfl (Or.inl rfl) (pe_own Ost (hr.mono (by omega)) (pa_cons (pv 1) (pa_cons pe_int (pa_cons pe_int (pa_cons pe_int (pa_cons pe_int pa_nil)))))))) (pss_one (ps_set (i := 6) scLTold.nd rfl (Or.inl rfl) (pe_own Ons (hr.mono (by omega)) (pa_cons (pv 1) (pa_cons pe_int (pa_cons (pe_ifExp (pt_cmpR op_eq (pv 0) pe_str (nomark _)) pe_int pe_int) pa_nil))))))) (pss_one (ps_ret (pe_ifExp (pt_cmpR op_isN (pv 6) pe_non (nomark _)) (pe_lst pa_nil) (pe_lst (pa_cons (pv 6) pa_nil)))))))), ?_⟩
    try dsimp only [cxOf, Cx.nox, Cx.wish]
    walk_at "go"
    refine ⟨(by show 3 ≤ sizeLine; decide), fun t ht => ?_⟩
    have s1 : Same H (upd H t (HO.tup [V.str (Str.ofString "modulus"), V.str (Str.ofString "goal"), V.str (Str.ofString "end")])) := same_new ht
    refine ⟨_, _, rfl, .inr (SqT.of upd_same), rfl, rfl, ?_⟩
    generalize (upd H t (HO.tup [V.str (Str.ofString "modulus"), V.str (Str.ofString "goal"), V.str (Str.ofString "end")])) = H1 at *
    rw [inV3]
    have num : ∀ (o : Option Nat), fk.read x = o.map pn → ∀ H2, Same H H2 → (if decide (0 ≤ numI o) = true then ∀ p, H2 p = none → Q (.ref p) (upd H2 p (.lst [.int (numI o)])) else ∀ p, H2 p = none → Q (.ref p) (upd H2 p (.lst []))) := fun o e H2 s2 => by
      cases o with
      | none =>
        rw [if_neg (by decide)]
        intro p hp
        refine k _ p _ (s2.trans (same_new hp)) (s2.free hp) upd_same ?_
        rw [e]
        exact .nil
      | some n =>
        rw [if_pos (by rw [decide_eq_true_iff]; show (0 : Int) ≤ (n : Int); omega)]
        intro p hp
        refine k _ p _ (s2.trans (same_new hp)) (s2.free hp) upd_same ?_
        rw [e]
        exact .cons (.int _) .nil
    have none_ : fk.read x = none → ∀ H2, Same H H2 → ∀ p, H2 p = none → Q (.ref p) (upd H2 p (.lst [])) := fun e H2 s2 p hp => by
      refine k _ p _ (s2.trans (same_new hp)) (s2.free hp) upd_same ?_
      rw [e]
      exact .nil
    have some_ : ∀ q d, fk.read x = some d → ∀ H2, Same H H2 → Dp K H2 (.ref q) d → K4.pure d = true → ∀ p, H2 p = none → Q (.ref p) (upd H2 p (.lst [.ref q])) := fun q d e H2 s2 hd pu p hp => by
      refine k _ p _ (s2.trans (same_new hp)) (s2.free hp) upd_same ?_
      rw [e]
      exact .cons (dp_pure (Same.kt (same_new hp)) _ _ pu hd) .nil
    cases fk with
    | modulus =>
      have eb : (decide (Fk.nm .modulus = Str.ofString "modulus") || (decide (Fk.nm .modulus = Str.ofString "goal") || decide (Fk.nm .modulus = Str.ofString "end"))) = true := by decide +kernel
      rw [eb]
      walk_at "go"
      refine ⟨x, 2, 60, rfl, hl, by decide, fun H2 s2 => ?_⟩
      have nn := num _ rfl _ (s1.trans s2)
      walk_at "go"
      refine r_ite (fun z => ?_) (fun z => ?_)
      · rw [if_pos (decide_eq_true z)] at nn
        walk_at "go"
        exact ⟨(by show 1 ≤ sizeLine; decide), nn⟩
      · rw [if_neg (by rw [decide_eq_false z]; decide)] at nn
        walk_at "go"
        exact ⟨(by show 0 ≤ sizeLine; decide), nn⟩
    | goal =>
      have eb : (decide (Fk.nm .goal = Str.ofString "modulus") || (decide (Fk.nm .goal = Str.ofString "goal") || decide (Fk.nm .goal = Str.ofString "end"))) = true := by decide +kernel
      rw [eb]
      walk_at "go"
      refine ⟨x, 0, 59, rfl, hl, by decide, fun H2 s2 => ?_⟩
      have nn := num _ rfl _ (s1.trans s2)
      walk_at "go"
      refine r_ite (fun z => ?_) (fun z => ?_)
      · rw [if_pos (decide_eq_true z)] at nn
        walk_at "go"
        exact ⟨(by show 1 ≤ sizeLine; decide), nn⟩
      · rw [if_neg (by rw [decide_eq_false z]; decide)] at nn
        walk_at "go"
        exact ⟨(by show 0 ≤ sizeLine; decide), nn⟩
    | fend =>
      have eb : (decide (Fk.nm .fend = Str.ofString "modulus") || (decide (Fk.nm .fend = Str.ofString "goal") || decide (Fk.nm .fend = Str.ofString "end"))) = true := by decide +kernel
      rw [eb]
      walk_at "go"
      refine ⟨x, 0, 3, rfl, hl, by decide, fun H2 s2 => ?_⟩
      have nn := num _ rfl _ (s1.trans s2)
      walk_at "go"
      refine r_ite (fun z => ?_) (fun z => ?_)
      · rw [if_pos (decide_eq_true z)] at nn
        walk_at "go"
        exact ⟨(by show 1 ≤ sizeLine; decide), nn⟩
      · rw [if_neg (by rw [decide_eq_false z]; decide)] at nn
        walk_at "go"
        exact ⟨(by show 0 ≤ sizeLine; decide), nn⟩
    | weights =>
      have eb : (decide (Fk.nm .weights = Str.ofString "modulus") || (decide (Fk.nm .weights = Str.ofString "goal") || decide (Fk.nm .weights = Str.ofString "end"))) = false := by decide +kernel
      rw [eb]
      walk_at "go"
      refine ⟨x, 1, 8, rfl, hl, fun H2 s2 => ?_⟩
      have rd : Fk.read .weights x = (rdNums 1 8 59 x).map fun ns => .tuple (ns.map pn) := rfl
      cases e : rdNums 1 8 59 x with
      | none =>
        have k3 := none_ (by rw [rd, e]; rfl) H2 (s1.trans s2)
        refine oref_none ?_
        walk_at "go"
        refine ⟨rfl, ?_⟩
        walk_at "go"
        exact ⟨(by show 0 ≤ sizeLine; decide), k3⟩
      | some ns =>
        intro q hq
        have k3 := some_ q _ (by rw [rd, e]; rfl) H2 (s1.trans s2) (.tup (SqT.of hq) (dpA_nums.mpr rfl)) (by simp only [K4.pure]; exact pure_nums _)
        walk_at "go"
        refine ⟨rfl, ?_⟩
        walk_at "go"
        exact ⟨(by show 1 ≤ sizeLine; decide), k3⟩
    | goals =>
      have eb : (decide (Fk.nm .goals = Str.ofString "modulus") || (decide (Fk.nm .goals = Str.ofString "goal") || decide (Fk.nm .goals = Str.ofString "end"))) = false := by decide +kernel
      rw [eb]
      walk_at "go"
      refine ⟨x, 1, 60, rfl, hl, fun H2 s2 => ?_⟩
      have rd : Fk.read .goals x = (rdNums 1 60 59 x).map fun ns => .tuple (ns.map pn) := rfl
      cases e : rdNums 1 60 59 x with
      | none =>
        have k3 := none_ (by rw [rd, e]; rfl) H2 (s1.trans s2)
        refine oref_none ?_
        walk_at "go"
        refine ⟨rfl, ?_⟩
        walk_at "go"
        exact ⟨(by show 0 ≤ sizeLine; decide), k3⟩
      | some ns =>
        intro q hq
        have k3 := some_ q _ (by rw [rd, e]; rfl) H2 (s1.trans s2) (.tup (SqT.of hq) (dpA_nums.mpr rfl)) (by simp only [K4.pure]; exact pure_nums _)
        walk_at "go"
        refine ⟨rfl, ?_⟩
        walk_at "go"
        exact ⟨(by show 1 ≤ sizeLine; decide), k3⟩
    | faces =>
      have eb : (decide (Fk.nm .faces = Str.ofString "modulus") || (decide (Fk.nm .faces = Str.ofString "goal") || decide (Fk.nm .faces = Str.ofString "end"))) = false := by decide +kernel
      rw [eb]
      walk_at "go"
      refine ⟨x, 2, 12, 1, 4, rfl, hl, fun H2 s2 => ?_⟩
      have rd : Fk.read .faces x = (rdTexts 1 4 2 12 x).map fun ts => .tuple (ts.map .str) := rfl
      cases e : rdTexts 1 4 2 12 x with
      | none =>
        have k3 := none_ (by rw [rd, e]; rfl) H2 (s1.trans s2)
        refine oref_none ?_
        walk_at "go"
        refine ⟨rfl, ?_⟩
        walk_at "go"
        exact ⟨(by show 0 ≤ sizeLine; decide), k3⟩
      | some ns =>
        intro q hq
        have k3 := some_ q _ (by rw [rd, e]; rfl) H2 (s1.trans s2) (.tup (SqT.of hq) (dpA_strs.mpr rfl)) (by simp only [K4.pure]; exact pureA_iff.mpr fun d hd => by obtain ⟨r, _, rfl⟩ := List.mem_map.mp hd; simp only [K4.pure])
        walk_at "go"
        refine ⟨rfl, ?_⟩
        walk_at "go"
        exact ⟨(by show 1 ≤ sizeLine; decide), k3⟩
    | rows =>
      have eb : (decide (Fk.nm .rows = Str.ofString "modulus") || (decide (Fk.nm .rows = Str.ofString "goal") || decide (Fk.nm .rows = Str.ofString "end"))) = false := by decide +kernel
      rw [eb]
      walk_at "go"
      refine ⟨_, _, rfl, rfl, by decide +kernel, (by rw [sizeLine_eq]; omega), fun p hp0 => ?_⟩
      walk_at "go"
      refine ⟨⟨_, SqL.of upd_same⟩, fun D hD => ?_⟩
      have s0 : Same H (upd H1 p (.lst ((pSL x).map V.str))) := s1.trans (same_new hp0)
      have e0 : (upd H1 p (.lst ((pSL x).map V.str))) p = some (.lst ((pSL x).map V.str)) := upd_same
      generalize (upd H1 p (.lst ((pSL x).map V.str))) = H0 at *
      refine lc_gen (walk_list (K := K) (a := p) (xs := (pSL x).map V.str)) (fun _ => rfl) (fun acc H' => DpAll K H' acc (((pSL x).take acc.length).map fun y => oD (rdNums 2 12 59 y)) ∧ Same H0 H') ⟨.nil, same_new hD⟩ (fun acc H' _ q => SqL.of (q.2 _ _ e0)) ?_ ?_
      · rintro i x' acc H' hx hl' hacc ⟨ha, sm⟩
        obtain ⟨z, hz, rfl⟩ := get_map hx
        have hmem := hp.2 z (List.mem_of_getElem? hz)
        walk_at "go"
        refine ⟨z, 2, 12, rfl, by omega, fun H2 s2 => ?_⟩
        have pu : pureA (((pSL x).take acc.length).map fun y => oD (rdNums 2 12 59 y)) = true := pureA_iff.mpr fun d hd => by obtain ⟨r, _, rfl⟩ := List.mem_map.mp hd; exact oD_pure _
        have fin : ∀ v, (∀ H3, KT K H2 H3 → Dp K H3 v (oD (rdNums 2 12 59 z))) → ∃ acc, H2 D = some (.lst acc) ∧ acc.length < sizeLine ∧ PP D (fun acc H' => DpAll K H' acc (((pSL x).take acc.length).map fun y => oD (rdNums 2 12 59 y)) ∧ Same H0 H') (i + 1) (upd H2 D (.lst (acc ++ [v]))) := fun v hv => by
          refine pp_next (s2 _ _ hacc) hl' (big_line (by have := (List.getElem?_eq_some_iff.mp hz).1; omega)) ⟨?_, same_upd (sm.trans s2) hD⟩
          have kt : KT K H2 (upd H2 D (.lst (acc ++ [v]))) := kt_lst (s2 _ _ hacc)
          have h1 : DpAll K (upd H2 D (.lst (acc ++ [v]))) (acc ++ [v]) ((((pSL x).take acc.length).map fun y => oD (rdNums 2 12 59 y)) ++ [oD (rdNums 2 12 59 z)]) :=
            dpA_app (dpA_pure (KT.trans (Same.kt s2) kt) _ _ pu ha) (.cons (hv _ kt) .nil)
          rw [hl', take_next (f := fun y => oD (rdNums 2 12 59 y)) hz] at h1
          rw [List.length_append, hl']
          exact h1
        cases e : rdNums 2 12 59 z with
        | none => exact fin .non fun H3 _ => by rw [e]; exact .non
        | some r =>
          intro q hq
          refine fin (.ref q) fun H3 kt => ?_
          rw [e]
          exact .tup (kt _ _ (SqT.of hq)) (dpA_nums.mpr rfl)
      · rintro acc H' hl' hacc ⟨ha, sm⟩
        rw [List.length_map] at hl'
        rw [hl', List.take_length] at ha
        have rd : Fk.read .rows x = (rdRows x).map fun rs => .tuple (rs.map rowD) := rfl
        unfold rdRows at rd
        walk_at "go"
        refine ⟨.none, _, .non, .lst (SqL.of hacc) ha, (by simp [SeqAt.shaped, PyData.canLay0, PyData.depth]), shaped_of ?_ ?_, ?_⟩
        · exact flat_sq (t := false) fun d hd => by obtain ⟨r, _, rfl⟩ := List.mem_map.mp hd; exact (oD_flat _).1
        · exact Nat.le_trans (depth_sq (t := false) (n := 1) fun d hd => by obtain ⟨r, _, rfl⟩ := List.mem_map.mp hd; exact (oD_flat _).2) (by decide)
        rw [eqv_none (α := Nat), any_none]
        cases er : rdAll (rdNums 2 12 59) (pSL x) with
        | none =>
          rw [er] at rd
          have k3 := none_ rd H' (s0.trans sm)
          walk_at "go"
          exact ⟨(by show 0 ≤ sizeLine; decide), k3⟩
        | some rs =>
          rw [er] at rd
          dsimp only at rd
          have el := rdAll_len er
          have ev : ((pSL x).map fun y => oD (rdNums 2 12 59 y)) = rs.map rowD := by
            have := congrArg (List.map oD) (rdAll_some er)
            rw [List.map_map, List.map_map] at this
            exact this
          walk_at "go"
          refine ⟨_, _, rfl, lenL (SqL.of hacc), ?_⟩
          walk_at "go"
          by_cases h2 : rs.length ≤ 60
          · rw [if_pos h2] at rd
            refine r_no (by omega) ?_
            walk_at "go"
            refine ⟨_, _, rfl, .inl ⟨SqL.of hacc, fun q hq => ?_⟩⟩
            have hD3 : DpAll K (upd H' q (.tup acc)) acc (rs.map rowD) := by
              rw [← ev]
              exact dpA_pure (Same.kt (same_new hq)) _ _ (pureA_iff.mpr fun d hd => by obtain ⟨r, _, rfl⟩ := List.mem_map.mp hd; exact oD_pure _) ha
            have k3 := some_ q _ rd (upd H' q (.tup acc)) ((s0.trans sm).trans (same_new hq)) (.tup (SqT.of upd_same) hD3) (by simp only [K4.pure]; exact pureA_iff.mpr fun d hd => by obtain ⟨r, _, rfl⟩ := List.mem_map.mp hd; exact rowD_pure r)
            walk_at "go"
            exact ⟨(by show 1 ≤ sizeLine; decide), k3⟩
          · rw [if_neg h2] at rd
            have k3 := none_ rd H' (s0.trans sm)
            refine r_yes (by omega) ?_
            walk_at "go"
            exact ⟨(by show 0 ≤ sizeLine; decide), k3⟩
end
end K4

/-! L5c -/


namespace K4
open PySem L2 K1
abbrev sLRead : Stmt := top 96
abbrev nLRead : List Str := ["_law_words", "_law_state", "_law_at", "_law_kinds", "_law_things", "_law_kind", "_law_told", "_law_k", "_law_inner"]
theorem scLRead : FnScope nLRead ["_law_words", "_law_state"] (defScope sLRead) := ⟨rfl, rfl, rfl, by decide +kernel, rfl, by decide +kernel, by decide +kernel⟩
abbrev sLFrom : Stmt := top 97
abbrev nLFrom : List Str := ["_law_words", "_law_at", "_law_state", "_law_rule"]
theorem scLFrom : FnScope nLFrom ["_law_words", "_law_at"] (defScope sLFrom) := ⟨rfl, rfl, rfl, by decide +kernel, rfl, by decide +kernel, by decide +kernel⟩
structure WsOk (ws : List Str) : Prop where
  le : ws.length ≤ 500001
  ea : ∀ x ∈ ws, x.length ≤ 500000
def spRead (K : PySem.W.Frag) (n : Nat) : Sp := fun vs H Q _ => ∃ (p st : Addr) (ws : List Str) (z b : Nat), vs = [.ref p, .ref st] ∧ H p = some (.lst (ws.map V.str)) ∧ H st = some (.lst [vi z, vi (40 - b), .int (-1)]) ∧ WsOk ws ∧ b ≤ 40 ∧ 40 < n + b ∧
  ∀ H', Kp st H H' → (match rdRule n ws z b with
    | .bad e => ∀ x y, H' st = some (.lst [x, y, vi e]) → Q .non H'
    | .ok (d, z', b') => ∀ q, H' st = some (.lst [vi z', vi (40 - b'), .int (-1)]) → Dp K H' (.ref q) d → Q (.ref q) H')
theorem r_iteN' {p : Prop} {dp : Decidable p} {A B : Prop} (y : p → A) (n : ¬ p → B) : if decide p = true then A else B := by
  by_cases h : p
  · rw [decide_eq_true h]; exact y h
  · rw [decide_eq_false h]; exact n h
theorem at_0 {x : V} {xs : List V} : atI (x :: xs) 0 = some x := atI_nat (xs := x :: xs) (j := 0) rfl
theorem at_1 {x y : V} {xs : List V} : atI (x :: y :: xs) 1 = some y := atI_nat (xs := x :: y :: xs) (j := 1) rfl
theorem at_2 {x y z : V} {xs : List V} : atI (x :: y :: z :: xs) 2 = some z := atI_nat (xs := x :: y :: z :: xs) (j := 2) rfl
theorem tru_l {K : PySem.W.Frag} {H : Hp} {a : Addr} {xs : List V} {k : Bool} (h : SqL K H a xs) (e : k = !xs.isEmpty) : TruV K (.ref a) H k := .inl ⟨xs, h, e⟩
theorem fields_len (c : Nat) : (fields c).length ≤ 3 := by
  unfold fields
  split <;> decide
theorem ar_le (c : Nat) : ar c ≤ 2 := by
  unfold ar
  split <;> decide
section
variable {P : Program} {w : World} {K : PySem.W.Frag} {mg : Str → Option Value} {base : Heap} {dI : Addr}
abbrev OKinds (P : Program) (w : World) (K : PySem.W.Frag) (mg : Str → Option Value) (base : Heap) : Prop := Own P w K mg base "_law_rule_kinds" 1 ["_law_word"] spKinds
abbrev OTold (P : Program) (w : World) (K : PySem.W.Frag) (mg : Str → Option Value) (base : Heap) : Prop := Own P w K mg base "_law_rule_told" 3 ["_law_kind", "_law_word"] (spTold K)
abbrev ORead (n : Nat) (P : Program) (w : World) (K : PySem.W.Frag) (mg : Str → Option Value) (base : Heap) : Prop := Own P w K mg base "_law_read_rule" (n + 4) ["_law_words", "_law_state"] (spRead K n)
theorem ne_ws {H : Hp} {p st : Addr} {ws : List Str} {i j k : Int} (h : H p = some (.lst (ws.map V.str))) (k : H st = some (.lst [.int i, .int j, .int k])) : p ≠ st := fun e => by
  rw [e, k] at h
  have := HO.lst.inj (Option.some.inj h)
  cases ws with
  | nil => cases this
  | cons a as => cases this
theorem ok_read {n : Nat} {f : Addr} {fd : FuncData} (F : Fun K "_law_read_rule" "_law_read_rule" sLRead f fd) (B : Bl mg) (Okd : OKinds P w K mg base) (Otd : OTold P w K mg base) (Orr : ORead n P w K mg base) :
    FnOk P w K mg base CX0 (n + 1 + 4) f fd ["_law_words", "_law_state"] (spRead K (n + 1)) := by
  refine F.ok scLRead (fun vs H Q E h => ?_) (fun cdv A outer s H vs Q E hr h => ?_)
  · obtain ⟨p, st, ws, z, b, rfl, _⟩ := h
    rfl
  · obtain ⟨p, st, ws, z, b, rfl, hp, hst, hw, hb, hn, k⟩ := h
    have nps := ne_ws hp hst
    have kbad : ∀ e, rdRule (n + 1) ws z b = .bad e → ∀ H' x y, Kp st H H' → H' st = some (.lst [x, y, vi e]) → Q .non H' := fun e er H' x y kp h => by
      have := k H' kp
      rw [er] at this
      exact this x y h
    have kok : ∀ d z' b', rdRule (n + 1) ws z b = .ok (d, z', b') → ∀ H' q, Kp st H H' → H' st = some (.lst [vi z', vi (40 - b'), .int (-1)]) → Dp K H' (.ref q) d → Q (.ref q) H' := fun d z' b' er H' q kp h hd => by
      have := k H' kp
      rw [er] at this
      exact this q h hd
    have hlw : (ws.map V.str).length = ws.length := List.length_map ..
    refine ⟨_, (pss_cons (ps_set (i := 2) scLRead.nd rfl (Or.inl rfl) (pe_ix ix_list (pv 1) pe_int (fun _ _ => rfl))) (pss_cons (ps_set (i := 3) scLRead.nd rfl (Or.inl rfl) (pe_ifExp (PW.pt (pw_or (pt_cmpR op_ge (pv 2) (pe_callB call_len (by rfl) B.len PySem.boot_len (pa_cons (pv 0) pa_nil)) (nomark _)) (pw_or1 (pt_cmpR op_eq (pe_ix ix_list (pv 1) pe_int (fun _ _ => rfl)) pe_int (nomark _))))) pe_non (pe_own Okd (hr.mono (by omega)) (pa_cons (pe_ix ix_list (pv 0) (pv 2) (fun _ _ => rfl)) pa_nil)))) (pss_cons (ps_if (pt_cmpR op_isN (pv 3) pe_non (nomark _)) (pss_cons (ps_asg (pv 2) (pg_sub (pv 1) pe_int set_list)) (pss_one (ps_ret pe_non))) pss_nil) (pss_cons (ps_set (i := 4) scLRead.nd rfl (Or.inl rfl) (pe_lst (pa_cons (pe_ix ix_list (pv 0) (pv 2) (fun _ _ => rfl)) pa_nil))) (pss_cons (ps_asg (pe_op op_add (pv 2) pe_int) (pg_sub (pv 1) pe_int set_list)) (pss_cons (ps_asg (pe_op op_sub (pe_ix ix_list (pv 1) pe_int (fun _ _ => rfl)) pe_int) (pg_sub (pv 1) pe_int set_list)) (pss_cons (ps_for PassesOwn.never rfl (pi_list (pe_ix ix_list (pv 3) pe_int (fun _ _ => rfl))) (pg_name (i := 5) scLRead.nd rfl (Or.inl rfl)) (pss_cons (ps_set (i := 6) scLRead.nd rfl (Or.inl rfl) (pe_ifExp (pt_cmpR op_ge (pe_ix ix_list (pv 1) pe_int (fun _ _ => rfl)) (pe_callB call_len (by rfl) B.len PySem.boot_len (pa_cons (pv 0) pa_nil)) (nomark _)) (pe_lst pa_nil) (pe_own Otd (hr.mono (by omega)) (pa_cons (pv 5) (pa_cons (pe_ix ix_list (pv 0) (pe_ix ix_list (pv 1) pe_int (fun _ _ => rfl)) (fun _ _ => rfl)) pa_nil))))) (pss_cons (ps_if (pt_not (pt_truth (pv 6) (by intro _; rfl))) (pss_cons (ps_asg (pe_ix ix_list (pv 1) pe_int (fun _ _ => rfl)) (pg_sub (pv 1) pe_int set_list)) (pss_one (ps_ret pe_non))) pss_nil) (pss_cons (ps_expr (pe_bm PySem.F.plainAttrs_list PySem.F.slot_list_append PySem.F.type_list_append mt_append (pv 4) (pa_cons (pe_ix ix_list (pv 6) pe_int (fun _ _ => rfl)) pa_nil))) (pss_one (ps_asg (pe_op op_add (pe_ix ix_list (pv 1) pe_int (fun _ _ => rfl)) pe_int) (pg_sub (pv 1) pe_int set_list))))))) (pss_cons (ps_for PassesOwn.never rfl (pi_range1 rfl B.range (pa_cons (pe_ix ix_list (pv 3) pe_int (fun _ _ => rfl)) pa_nil)) (pg_name (i := 7) scLRead.nd rfl (Or.inl rfl)) (pss_cons (ps_set (i := 8) scLRead.nd rfl (Or.inl rfl) (pe_own Orr hr (pa_cons (pv 0) (pa_cons (pv 1) pa_nil)))) (pss_cons (ps_if (pt_cmpR op_ge (pe_ix ix_list (pv 1) pe_int (fun _ _ => rfl)) pe_int (nomark _)) (pss_one (ps_ret pe_non)) pss_nil) (pss_one (ps_expr (pe_bm PySem.F.plainAttrs_list PySem.F.slot_list_append PySem.F.type_list_append mt_append (pv 4) (pa_cons (pv 8) pa_nil))))))) (pss_one (ps_ret (pe_callTy call_tuple_of (by rfl) B.tuple (by decide +kernel) (pa_cons (pv 4) pa_nil)))))))))))), ?_⟩
    try dsimp only [cxOf, Cx.nox, Cx.wish]
    walk_at "go"
    refine r_ixL (SqL.of hst) at_0 ?_
    walk_at "go"
    refine ⟨_, _, rfl, lenL (SqL.of hp), ?_⟩
    walk_at "go"
    rw [hlw]
    have fin0 : rdRule (n + 1) ws z b = .bad z → ∀ H1, Same H H1 → Q .non (upd H1 st (.lst [vi z, vi (40 - b), vi z])) := fun er H1 s1 => by
      refine kbad z er _ _ _ (fun c o nc e => ?_) upd_same
      rw [upd_ne nc]; exact s1 _ _ e
    refine r_ite (fun h1 => ?_) (fun h1 => ?_)
    · have er : rdRule (n + 1) ws z b = .bad z := by
        rw [rdRule, List.getElem?_eq_none (by omega)]
        rfl
      walk_at "go"
      refine ⟨rfl, ?_⟩
      walk_at "go"
      refine r_setL hst rfl ?_
      walk_at "go"
      exact fin0 er H (Same.refl _)
    · obtain ⟨x, hx⟩ : ∃ x, ws[z]? = some x := ⟨ws[z]'(by omega), by simp [show z < ws.length by omega]⟩
      walk_at "go"
      refine r_ixL (SqL.of hst) at_1 ?_
      walk_at "go"
      by_cases hb4 : b < 40
      · refine r_no (fun q => by have := V.int.inj q; omega) ?_
        walk_at "go"
        refine r_ixL (SqL.of hp) (atI_nat (by rw [List.getElem?_map, hx]; rfl)) ?_
        walk_at "go"
        have eb : ws[z]?.bind kindOf = kindOf x := by rw [hx]; rfl
        cases ek : kindOf x with
        | none =>
          have er : rdRule (n + 1) ws z b = .bad z := by rw [rdRule, eb, ek]
          intro H1 s1
          walk_at "go"
          refine ⟨rfl, ?_⟩
          walk_at "go"
          refine r_setL (s1 _ _ hst) rfl ?_
          walk_at "go"
          exact fin0 er H1 s1
        | some c =>
          obtain ⟨hc, rfl⟩ := kindOf_some ek
          intro H1 kd s1 hk
          obtain ⟨ka, hk1, hk2⟩ := hk
          walk_at "go"
          refine ⟨rfl, ?_⟩
          walk_at "go"
          refine r_ixL (SqL.of (s1 _ _ hp)) (atI_nat (by rw [List.getElem?_map, hx]; rfl)) ?_
          walk_at "go"
          refine ⟨(by show 1 ≤ sizeLine; decide), fun L hL => ?_⟩
          walk_at "go"
          have hLH : H L = none := s1.free hL
          have nLst : st ≠ L := fun q => by rw [← q, s1 _ _ hst] at hL; cases hL
          have nLp : p ≠ L := fun q => by rw [← q, s1 _ _ hp] at hL; cases hL
          have nLkd : kd ≠ L := fun q => by rw [← q, hk1] at hL; cases hL
          have nLka : ka ≠ L := fun q => by rw [← q, hk2] at hL; cases hL
          have nkd : kd ≠ st := fun q => by
            rw [q, s1 _ _ hst] at hk1
            cases HO.lst.inj (Option.some.inj hk1)
          have nka : ka ≠ st := fun q => by
            rw [q, s1 _ _ hst] at hk2
            have := HO.lst.inj (Option.some.inj hk2)
            cases hf : fields c with
            | nil => rw [hf] at this; cases this
            | cons a as => rw [hf] at this; cases this
          refine r_setL (xs := [vi z, vi (40 - b), .int (-1)]) (by rw [upd_ne nLst]; exact s1 _ _ hst) rfl ?_
          walk_at "go"
          refine r_ixL (SqL.of upd_same) at_1 ?_
          walk_at "go"
          refine r_setL upd_same rfl ?_
          have hH : ∃ H2, H2 = (upd (upd (upd H1 L (.lst [V.str (wd c)])) st (.lst ([vi z, vi (40 - b), .int (-1)].set (Int.toNat 0) (V.int ((z : Int) + 1))))) st (.lst (([vi z, vi (40 - b), .int (-1)].set (Int.toNat 0) (V.int ((z : Int) + 1))).set (Int.toNat 1) (V.int (((40 - b : Nat) : Int) - 1))))) := ⟨_, rfl⟩
          obtain ⟨H2, eH2⟩ := hH
          have st2 : H2 st = some (.lst [vi (z + 1), vi (40 - (b + 1)), .int (-1)]) := by
            rw [eH2, upd_same]
            have e1 : (((40 - b : Nat) : Int) - 1) = ((40 - (b + 1) : Nat) : Int) := by omega
            rw [e1]
            rfl
          have lx2 : H2 L = some (.lst [V.str (wd c)]) := by rw [eH2, upd_ne nLst.symm, upd_ne nLst.symm, upd_same]
          have kp2 : Kp st H H2 := fun c o nc e => by
            have := ne_of_none (s1 _ _ e) hL
            rw [eH2, upd_ne nc, upd_ne nc, upd_ne this]
            exact s1 _ _ e
          have kd2 : H2 kd = some (.lst [.ref ka, vi (ar c)]) := by rw [eH2, upd_ne nkd, upd_ne nkd, upd_ne nLkd]; exact hk1
          have ka2 : H2 ka = some (.lst ((fields c).map fun f => V.str f.nm)) := by rw [eH2, upd_ne nka, upd_ne nka, upd_ne nLka]; exact hk2
          rw [← eH2]
          clear eH2
          walk_at "go"
          refine r_ixL (SqL.of kd2) at_0 ?_
          walk_at "go"
          have erb : ∀ e, rdFields (fields c) ws (z + 1) = .bad e → rdRule (n + 1) ws z b = .bad e := fun e h => by
            rw [rdRule, eb, ek]
            dsimp only
            rw [if_pos hb4, h]
          have erm : ∀ q, rdFields (fields c) ws (z + 1) = .ok q → ∀ e, rdMany (rdRule n ws) (ar c) q.2 (b + 1) = .bad e → rdRule (n + 1) ws z b = .bad e := fun q h e h2 => by
            rw [rdRule, eb, ek]
            dsimp only
            rw [if_pos hb4, h]
            dsimp only
            rw [h2]
          have est : ∀ (H' : Hp) (q : Addr) (xs : List V), q ≠ st → Kp st H2 H' → H2 q = some (.lst xs) → H' q = some (.lst xs) := fun H' q xs nq kk e => kk _ _ nq e
          refine ⟨⟨_, SqL.of ka2⟩, fr_list (xs := (fields c).map fun f => V.str f.nm) (fun i σ H' => ∃ (o5 o6 : Option V) (ts : List V) (ds : List PyData), σ = [some (.ref p), some (.ref st), some (vi z), some (.ref kd), some (.ref L), o5, o6, none, none] ∧
            Kp st H H' ∧ H' st = some (.lst [vi (z + 1 + i), vi (40 - (b + 1)), .int (-1)]) ∧ H' L = some (.lst (V.str (wd c) :: ts)) ∧ DpAll K H' ts ds ∧ pureA ds = true ∧ ts.length = i ∧
            H' kd = some (.lst [.ref ka, vi (ar c)]) ∧ H' ka = some (.lst ((fields c).map fun f => V.str f.nm)) ∧
            rdFields (fields c) ws (z + 1) = (match rdFields ((fields c).drop i) ws (z + 1 + i) with | .bad e => .bad e | .ok (ds2, z2) => .ok (ds ++ ds2, z2))) ⟨none, none, [], [], rfl, kp2, st2, lx2, .nil, rfl, rfl, kd2, ka2, ?_⟩ ?_ ?_ ?_⟩
          · rw [List.drop_zero, Nat.add_zero]
            cases rdFields (fields c) ws (z + 1) with
            | bad e => rfl
            | ok q => rfl
          · rintro i σ H' _ ⟨_, _, _, _, _, _, _, _, _, _, _, _, e, _⟩
            exact SqL.of e
          · rintro i x' σ H' hx' ⟨o5, o6, ts, ds, rfl, kpi, sti, lxi, di, pi, li, kdi, kai, ri⟩
            obtain ⟨fk, hfk, rfl⟩ := get_map hx'
            walk_at "go"
            refine r_ixL (SqL.of sti) at_0 ?_
            walk_at "go"
            refine ⟨_, _, rfl, lenL (SqL.of (kpi _ _ nps hp)), ?_⟩
            walk_at "go"
            rw [hlw]
            have hdr : (fields c).drop i = fk :: (fields c).drop (i + 1) := by
              obtain ⟨h1, h2⟩ := List.getElem?_eq_some_iff.mp hfk
              rw [List.drop_eq_getElem_cons h1, h2]
            rw [hdr, rdFields] at ri
            have nLi : st ≠ L := nLst
            have dob : ws[z + 1 + i]?.bind fk.read = none → ∀ H3, Same H' H3 → Q .non (upd H3 st (.lst [vi (z + 1 + i), vi (40 - (b + 1)), vi (z + 1 + i)])) := fun h H3 s3 => by
              rw [h] at ri
              refine kbad _ (erb _ ri) _ _ _ (fun c' o nc e => ?_) upd_same
              rw [upd_ne nc]
              exact s3 _ _ (kpi _ _ nc e)
            refine r_ite (fun h3 => ?_) (fun h3 => ?_)
            · have hno : ws[z + 1 + i]?.bind fk.read = none := by rw [List.getElem?_eq_none (by omega)]; rfl
              walk_at "go"
              refine ⟨(by show 0 ≤ sizeLine; decide), fun q hq => ?_⟩
              walk_at "go"
              refine ⟨false, tru_l (SqL.of upd_same) rfl, ?_⟩
              walk_at "go"
              have sm : Same H' (upd H' q (.lst [])) := same_new hq
              refine r_ixL (SqL.of (sm _ _ sti)) at_0 ?_
              walk_at "go"
              refine r_setL (sm _ _ sti) rfl ?_
              walk_at "go"
              exact dob hno _ sm
            · obtain ⟨y, hy⟩ : ∃ y, ws[z + 1 + i]? = some y := ⟨ws[z + 1 + i]'(by omega), by simp [show z + 1 + i < ws.length by omega]⟩
              walk_at "go"
              refine r_ixL (SqL.of sti) at_0 ?_
              walk_at "go"
              refine r_ixL (SqL.of (kpi _ _ nps hp)) (atI_nat (by rw [List.getElem?_map, hy]; rfl)) ?_
              walk_at "go"
              refine ⟨fk, y, rfl, hw.ea y (List.mem_of_getElem? hy), fun H3 q xs s3 hq eq dq => ?_⟩
              have ebi : ws[z + 1 + i]?.bind fk.read = fk.read y := by rw [hy]; rfl
              cases er : fk.read y with
              | none =>
                rw [er] at dq
                cases dq
                walk_at "go"
                refine ⟨false, tru_l (SqL.of eq) rfl, ?_⟩
                walk_at "go"
                refine r_ixL (SqL.of (s3 _ _ sti)) at_0 ?_
                walk_at "go"
                refine r_setL (s3 _ _ sti) rfl ?_
                walk_at "go"
                exact dob (ebi.trans er) _ s3
              | some d =>
                rw [er] at dq
                obtain ⟨xv, rfl, dxv⟩ : ∃ xv, xs = [xv] ∧ Dp K H3 xv d := by
                  cases dq with
                  | cons h1 h2 => cases h2; exact ⟨_, rfl, h1⟩
                walk_at "go"
                refine ⟨true, tru_l (SqL.of eq) rfl, ?_⟩
                walk_at "go"
                have lx3 := s3 _ _ lxi
                refine ⟨tyL (SqL.of lx3), ?_⟩
                walk_at "go"
                refine r_ixL (SqL.of eq) at_0 ?_
                walk_at "go"
                refine ⟨L, _, _, rfl, rfl, lx3, big_line (by rw [List.length_cons, li]; have := fields_len c; have := (List.getElem?_eq_some_iff.mp hfk).1; omega), ?_⟩
                walk_at "go"
                refine r_ixL (SqL.of (by rw [upd_ne nLst]; exact s3 _ _ sti)) at_0 ?_
                walk_at "go"
                refine r_setL (xs := [vi (z + 1 + i), vi (40 - (b + 1)), .int (-1)]) (by rw [upd_ne nLst]; exact s3 _ _ sti) rfl ?_
                have ktA : KT K H3 (upd H3 L (.lst (V.str (wd c) :: ts ++ [xv]))) := kt_lst lx3
                have ktB : KT K (upd H3 L (.lst (V.str (wd c) :: ts ++ [xv]))) (upd (upd H3 L (.lst (V.str (wd c) :: ts ++ [xv]))) st (.lst ([vi (z + 1 + i), vi (40 - (b + 1)), .int (-1)].set (Int.toNat 0) (V.int (((z + 1 + i : Nat) : Int) + 1))))) := kt_lst (by rw [upd_ne nLst]; exact s3 _ _ sti)
                have kt3 := KT.trans ktA ktB
                have pd : K4.pure d = true := Fk.pure er
                refine ⟨_, _, ts ++ [xv], ds ++ [d], rfl, ?_, ?_, ?_, ?_, ?_, ?_, ?_, ?_, ?_⟩
                · intro c' o nc e
                  rw [upd_ne nc, upd_ne (ne_of_none e hLH)]
                  exact s3 _ _ (kpi _ _ nc e)
                · rw [upd_same]
                  have e1 : (((z + 1 + i : Nat) : Int) + 1) = ((z + 1 + (i + 1) : Nat) : Int) := by omega
                  rw [e1]
                  rfl
                · rw [upd_ne nLst.symm, upd_same]; rfl
                · exact dpA_app (dpA_pure (KT.trans (Same.kt s3) kt3) _ _ pi di) (.cons (dp_pure kt3 _ _ pd dxv) .nil)
                · exact pureA_ap pi (by simp only [pureA, pd, Bool.and_true])
                · rw [List.length_append, li]; rfl
                · rw [upd_ne nkd, upd_ne nLkd]; exact s3 _ _ kdi
                · rw [upd_ne nka, upd_ne nLka]; exact s3 _ _ kai
                · rw [ebi, er] at ri
                  dsimp only at ri
                  rw [ri]
                  show _ = (match rdFields ((fields c).drop (i + 1)) ws (z + 1 + i + 1) with | Out.bad e => Out.bad e | Out.ok (ds2, z2) => Out.ok (ds ++ [d] ++ ds2, z2))
                  cases rdFields ((fields c).drop (i + 1)) ws (z + 1 + i + 1) with
                  | bad e => rfl
                  | ok q => simp [List.append_assoc]
          · rintro σ H' ⟨o5, o6, ts, ds, rfl, kpi, sti, lxi, di, pi, li, kdi, kai, ri⟩
            rw [List.length_map] at ri li sti
            rw [List.drop_length, rdFields] at ri
            dsimp only at ri
            rw [List.append_nil] at ri
            generalize hilen : (fields c).length = i at *
            walk_at "go"
            refine r_ixL (SqL.of kdi) at_1 ?_
            walk_at "go"
            have ar2 : ar c ≤ 2 := ar_le c
            have hi3 : i ≤ 3 := by rw [← hilen]; exact fields_len c
            refine ⟨by omega, by omega, fr_range (lo := 0) (n := ar c) (fun j σ H' => ∃ (o5 o6 o7 o8 : Option V) (ts2 : List V) (rs : List PyData) (zj bj : Nat), σ = [some (.ref p), some (.ref st), some (vi z), some (.ref kd), some (.ref L), o5, o6, o7, o8] ∧
              Kp st H H' ∧ H' st = some (.lst [vi zj, vi (40 - bj), .int (-1)]) ∧ H' L = some (.lst (V.str (wd c) :: ts2)) ∧ DpAll K H' ts2 (ds ++ rs) ∧ pureA rs = true ∧ bj ≤ 40 ∧ b + 1 + j ≤ bj ∧ ts2.length = i + j ∧
              rdMany (rdRule n ws) (ar c) (z + 1 + i) (b + 1) = (match rdMany (rdRule n ws) (ar c - j) zj bj with | Out.bad e => Out.bad e | Out.ok (ds2, z2, b2) => Out.ok (rs ++ ds2, z2, b2)))
              ⟨_, _, none, none, ts, [], _, _, rfl, kpi, sti, lxi, by rw [List.append_nil]; exact di, rfl, by omega, by omega, by omega, ?_⟩ ?_ ?_⟩
            · rw [Nat.sub_zero]
              cases rdMany (rdRule n ws) (ar c) (z + 1 + i) (b + 1) with
              | bad e => rfl
              | ok q => rfl
            · rintro j σ H' hj ⟨o5, o6, o7, o8, ts2, rs, zj, bj, rfl, kpj, stj, lxj, dj, pj, hbj, hbb, lj, rj⟩
              have ej : ar c - j = (ar c - (j + 1)) + 1 := by omega
              rw [ej, rdMany] at rj
              walk_at "go"
              refine ⟨p, st, ws, zj, bj, rfl, kpj _ _ nps hp, stj, hw, hbj, by omega, fun H3 kp3 => ?_⟩
              have kpH3 : Kp st H H3 := kpj.trans kp3
              have kt3 : KT K H' H3 := fun a zs h => Kp.sqT kp3 stj h
              have lx3 := kp3 _ _ nLst.symm lxj
              cases er : rdRule n ws zj bj with
              | bad e =>
                intro x' y' st3
                rw [er] at rj
                dsimp only at rj
                walk_at "go"
                refine r_ixL (SqL.of st3) at_2 ?_
                walk_at "go"
                refine r_yes (by omega) ?_
                walk_at "go"
                exact kbad e (erm _ ri e rj) H3 x' y' kpH3 st3
              | ok q =>
                obtain ⟨d, z', b'⟩ := q
                intro q st3 dq
                rw [er] at rj
                dsimp only at rj
                have hbb' := rdRule_b _ _ _ _ _ _ _ hbj er
                have pd := rdRule_pure _ _ _ _ _ _ _ er
                walk_at "go"
                refine r_ixL (SqL.of st3) at_2 ?_
                walk_at "go"
                refine ⟨tyL (SqL.of lx3), ?_⟩
                walk_at "go"
                refine ⟨L, _, _, rfl, rfl, lx3, big_line (by rw [List.length_cons, lj]; omega), ?_⟩
                have ktA : KT K H3 (upd H3 L (.lst (V.str (wd c) :: ts2 ++ [.ref q]))) := kt_lst lx3
                refine ⟨_, _, _, _, ts2 ++ [.ref q], rs ++ [d], z', b', rfl, ?_, ?_, ?_, ?_, ?_, hbb'.2, by omega, ?_, ?_⟩
                · intro c' o nc e
                  rw [upd_ne (ne_of_none e hLH)]
                  exact kpH3 _ _ nc e
                · rw [upd_ne nLst]; exact st3
                · rw [upd_same]; rfl
                · rw [← List.append_assoc]
                  exact dpA_app (dpA_pure (KT.trans kt3 ktA) _ _ (pureA_ap pi pj) dj) (.cons (dp_pure ktA _ _ pd dq) .nil)
                · exact pureA_ap pj (by simp only [pureA, pd, Bool.and_true])
                · rw [List.length_append, lj]; rfl
                · rw [rj]
                  cases rdMany (rdRule n ws) (ar c - (j + 1)) z' b' with
                  | bad e => rfl
                  | ok q => simp [List.append_assoc]
            · rintro σ H' ⟨o5, o6, o7, o8, ts2, rs, zj, bj, rfl, kpj, stj, lxj, dj, pj, hbj, hbb, lj, rj⟩
              rw [Nat.sub_self, rdMany] at rj
              dsimp only at rj
              rw [List.append_nil] at rj
              walk_at "go"
              refine ⟨_, _, rfl, .inl ⟨SqL.of lxj, fun t ht => ?_⟩⟩
              have sm : Same H' (upd H' t (.tup (V.str (wd c) :: ts2))) := same_new ht
              have ero : rdRule (n + 1) ws z b = .ok (.tuple (.str (wd c) :: (ds ++ rs)), zj, bj) := by
                rw [rdRule, eb, ek]
                dsimp only
                rw [if_pos hb4, ri]
                dsimp only
                rw [rj]
              refine kok _ _ _ ero _ t (fun c' o nc e => sm _ _ (kpj _ _ nc e)) (sm _ _ stj) ?_
              exact .tup (SqT.of upd_same) (.cons (.str _) (dpA_pure (Same.kt sm) _ _ (pureA_ap pi pj) dj))
      · have er : rdRule (n + 1) ws z b = .bad z := by
          rw [rdRule]
          cases ws[z]?.bind kindOf with
          | none => rfl
          | some c => exact if_neg hb4
        refine r_yes (by rw [show 40 - b = 0 by omega]; rfl) ?_
        walk_at "go"
        refine ⟨rfl, ?_⟩
        walk_at "go"
        refine r_setL hst rfl ?_
        walk_at "go"
        exact fin0 er H (Same.refl _)
theorem none_ok {f : Addr} {fd : FuncData} {k : Nat} {ps : List Str} {sp : Sp} (no : ∀ vs H Q E, ¬ sp vs H Q E) : FnOk P w K mg base CX0 k f fd ps sp :=
  ⟨fun vs H Q E h => absurd h (no vs H Q E), fun A outer s H args us vs Q E _ _ _ _ h => absurd h (no vs H Q E)⟩
theorem read_all {f : Addr} {fd : FuncData} (F : Fun K "_law_read_rule" "_law_read_rule" sLRead f fd) (B : Bl mg) (Okd : OKinds P w K mg base) (Otd : OTold P w K mg base) (m : mg "_law_read_rule" = some (.ref f)) (b : Binds K fd ["_law_words", "_law_state"] []) : ∀ n : Nat, ORead n P w K mg base
  | 0 => ⟨f, fd, none_ok fun vs H Q E h => by obtain ⟨p, st, ws, z, b, _, _, _, _, hb, hn, _⟩ := h; omega, m, F.kp, b⟩
  | n + 1 => ⟨f, fd, ok_read F B Okd Otd (read_all F B Okd Otd m b n), m, F.kp, b⟩
/-- the whole text: the rule, or the first bad place -/
def rdAllWs (ws : List Str) (z : Nat) : Out PyData := match rdRule 41 ws z 0 with
  | .bad e => .bad e
  | .ok (d, z', _) => if z' < ws.length then .bad z' else .ok d
def spFrom (K : PySem.W.Frag) : Sp := fun vs H Q _ => ∃ (p : Addr) (ws : List Str) (z : Nat), vs = [.ref p, vi z] ∧ H p = some (.lst (ws.map V.str)) ∧ WsOk ws ∧
  ∀ H' q, Same H H' → (match rdAllWs ws z with
    | .bad e => H' q = some (.lst [.non, vi e]) → Q (.ref q) H'
    | .ok d => ∀ t, H' q = some (.lst [.ref t, .int (-1)]) → Dp K H' (.ref t) d → Q (.ref q) H')
theorem ok_from {f : Addr} {fd : FuncData} (F : Fun K "_law_rule_from" "_law_rule_from" sLFrom f fd) (B : Bl mg) (Orr : ORead 41 P w K mg base) : FnOk P w K mg base CX0 46 f fd ["_law_words", "_law_at"] (spFrom K) := by
  refine F.ok scLFrom (fun vs H Q E h => ?_) (fun cdv A outer s H vs Q E hr h => ?_)
  · obtain ⟨p, ws, z, rfl, _⟩ := h
    rfl
  · obtain ⟨p, ws, z, rfl, hp, hw, k⟩ := h
    have hlw : (ws.map V.str).length = ws.length := List.length_map ..
    refine ⟨_, (pss_cons (ps_set (i := 2) scLFrom.nd rfl (Or.inl rfl) (pe_lst (pa_cons (pv 1) (pa_cons pe_int (pa_cons (pe_un un_neg pe_int) pa_nil))))) (pss_cons (ps_set (i := 3) scLFrom.nd rfl (Or.inl rfl) (pe_own Orr hr (pa_cons (pv 0) (pa_cons (pv 2) pa_nil)))) (pss_cons (ps_if (PW.pt (pw_and (pt_cmpR op_lt (pe_ix ix_list (pv 2) pe_int (fun _ _ => rfl)) pe_int (nomark _)) (pw_and1 (pt_cmpR op_lt (pe_ix ix_list (pv 2) pe_int (fun _ _ => rfl)) (pe_callB call_len (by rfl) B.len PySem.boot_len (pa_cons (pv 0) pa_nil)) (nomark _))))) (pss_one (ps_ret (pe_lst (pa_cons pe_non (pa_cons (pe_ix ix_list (pv 2) pe_int (fun _ _ => rfl)) pa_nil))))) pss_nil) (pss_one (ps_ret (pe_lst (pa_cons (pv 3) (pa_cons (pe_ix ix_list (pv 2) pe_int (fun _ _ => rfl)) pa_nil)))))))), ?_⟩
    try dsimp only [cxOf, Cx.nox, Cx.wish]
    walk_at "go"
    refine ⟨(by show 3 ≤ sizeLine; decide), fun st hst => ?_⟩
    walk_at "go"
    have s0 : Same H (upd H st (.lst [vi z, .int 40, .int (-1)])) := same_new hst
    refine ⟨p, st, ws, z, 0, rfl, s0 _ _ hp, upd_same, hw, by decide, by decide, fun H2 kp2 => ?_⟩
    have sm : Same H H2 := fun c o e => kp2 c o (ne_of_none e hst) (s0 _ _ e)
    have k2 : ∀ q xs, H2 q = none → (match rdAllWs ws z with
      | .bad e => xs = [.non, vi e] → Q (.ref q) (upd H2 q (.lst xs))
      | .ok d => ∀ t, xs = [.ref t, .int (-1)] → Dp K H2 (.ref t) d → K4.pure d = true → Q (.ref q) (upd H2 q (.lst xs))) := fun q xs hq => by
      have := k (upd H2 q (.lst xs)) q (sm.trans (same_new hq))
      cases e : rdAllWs ws z with
      | bad e' =>
        rw [e] at this
        exact fun ex => this (by rw [upd_same, ex])
      | ok d =>
        rw [e] at this
        exact fun t ex hd pd => this t (by rw [upd_same, ex]) (dp_pure (Same.kt (same_new hq)) _ _ pd hd)
    unfold rdAllWs at k2
    cases er : rdRule 41 ws z 0 with
    | bad e =>
      rw [er] at k2
      dsimp only at k2
      intro x y st2
      walk_at "go"
      refine r_ixL (SqL.of st2) at_2 ?_
      walk_at "go"
      refine r_ixL (SqL.of st2) at_2 ?_
      walk_at "go"
      exact ⟨(by show 2 ≤ sizeLine; decide), fun q hq => k2 q _ hq rfl⟩
    | ok q =>
      obtain ⟨d, z', b'⟩ := q
      rw [er] at k2
      dsimp only at k2
      have pd := rdRule_pure _ _ _ _ _ _ _ er
      intro t st2 dt
      walk_at "go"
      refine r_ixL (SqL.of st2) at_2 ?_
      walk_at "go"
      refine r_ixL (SqL.of st2) at_0 ?_
      walk_at "go"
      refine ⟨_, _, rfl, lenL (SqL.of (sm _ _ hp)), ?_⟩
      walk_at "go"
      rw [hlw]
      by_cases hz : z' < ws.length
      · rw [if_pos hz] at k2
        refine r_yes (by omega) ?_
        walk_at "go"
        refine r_ixL (SqL.of st2) at_0 ?_
        walk_at "go"
        exact ⟨(by show 2 ≤ sizeLine; decide), fun q hq => k2 q _ hq rfl⟩
      · rw [if_neg hz] at k2
        refine r_no (by omega) ?_
        walk_at "go"
        refine r_ixL (SqL.of st2) at_2 ?_
        walk_at "go"
        exact ⟨(by show 2 ≤ sizeLine; decide), fun q hq => k2 q _ hq _ rfl dt pd⟩
end
end K4

/-! D5 -/
/-! The data of rules: their shapes; lists in place of tuples; what a new thing holds; ends of texts. -/
namespace K4
open PySem L2 K1
theorem line60 {n : Nat} (h : n ≤ 1000) : n < sizeLine := small1000 h
def spIntsWord (K : PySem.W.Frag) : Sp := fun vs H Q _ => ∃ (v : V) (ns : List Nat), vs = [v] ∧ NumsAt K H v ns ∧ ns.length ≤ 60 ∧ (∀ n ∈ ns, n ≤ 60) ∧ ∀ H', Same H H' → Q (.str (commas ns)) H'
def spRW (K : PySem.W.Frag) (n : Nat) : Sp := fun vs H Q _ => ∃ (v : V) (r : R), vs = [v] ∧ RAt K H v r ∧ r.ok ∧ r.parts ≤ 100 ∧ r.depth ≤ n ∧ ∀ H' p, Same H H' → H p = none → H' p = some (.lst (r.words.map V.str)) → Q (.ref p) H'
theorem kind_of {o : Ow} {k : Nat} (hk : k < 9) (h : V.str o.word = V.str (wd k)) : o.kind = k := wd_inj _ o.kind_lt _ hk (V.str.inj h)
theorem at0 {x : V} {xs : List V} : atI (x :: xs) 0 = some x := at_0
theorem strOk_of {z : Str} (h : ∀ c ∈ tl z, c < 1114112) : PyData.strOk z = true := by
  unfold PyData.strOk
  rw [← Array.all_toList]
  exact List.all_eq_true.mpr fun c hc => decide_eq_true (h c hc)
theorem all_lt : ∀ c ∈ tl K4.ALL, c < 1114112 := by decide +kernel
theorem wd_str : ∀ i < 9, PyData.strOk (wd i) = true := by decide +kernel
theorem Face.str {f : Str} (h : Face f) : PyData.strOk f = true := strOk_of fun c hc => all_lt c (h.2.2 c hc)
theorem Ow.flat {o : Ow} (h : o.ok) (t : Bool) : ∀ d ∈ o.data t, flatN d = true ∧ d.depth ≤ 2 := by
  have nums : ∀ ns : List Nat, flatN (sq t (ns.map pn)) = true ∧ (sq t (ns.map pn)).depth ≤ 1 := fun ns =>
    ⟨flat_sq fun d hd => (mem_map_pn hd).1, depth_sq (n := 0) fun d hd => (mem_map_pn hd).2⟩
  cases o with
  | sum m ws g =>
    intro d hd
    simp only [Ow.data, List.mem_cons, List.not_mem_nil, or_false] at hd
    rcases hd with rfl | rfl | rfl
    · exact ⟨rfl, Nat.zero_le _⟩
    · exact ⟨(nums ws).1, Nat.le_trans (nums ws).2 (by decide)⟩
    · exact ⟨rfl, Nat.zero_le _⟩
  | square rows gs =>
    intro d hd
    simp only [Ow.data, List.mem_cons, List.not_mem_nil, or_false] at hd
    rcases hd with rfl | rfl
    · exact ⟨flat_sq fun d hd => by obtain ⟨r, _, rfl⟩ := List.mem_map.mp hd; exact (nums r).1, depth_sq (n := 1) fun d hd => by obtain ⟨r, _, rfl⟩ := List.mem_map.mp hd; exact (nums r).2⟩
    · exact ⟨(nums gs).1, Nat.le_trans (nums gs).2 (by decide)⟩
  | faces fs =>
    intro d hd
    simp only [Ow.data, List.mem_cons, List.not_mem_nil, or_false] at hd
    subst hd
    refine ⟨flat_sq fun d hd => by obtain ⟨r, hr, rfl⟩ := List.mem_map.mp hd; exact (h.2.2 r hr).str, Nat.le_trans (depth_sq (n := 0) fun d hd => ?_) (by decide)⟩
    obtain ⟨r, hr, rfl⟩ := List.mem_map.mp hd
    exact Nat.le_refl _
  | cut a b =>
    intro d hd
    simp only [Ow.data, List.mem_cons, List.not_mem_nil, or_false] at hd
    rcases hd with rfl | rfl <;> exact ⟨rfl, Nat.zero_le _⟩
  | _ => intro d hd; simp [Ow.data] at hd
theorem R.flat (t : Bool) : ∀ {r : R}, r.ok → flatN (r.data t) = true ∧ (r.data t).depth ≤ r.depth + 2
  | .n0 o, h => by
    have a := Ow.flat h.1 t
    refine ⟨flat_sq fun d hd => ?_, depth_sq (n := 2) fun d hd => ?_⟩
    all_goals
      simp only [List.mem_cons] at hd
      rcases hd with rfl | hd
    · exact wd_str _ o.kind_lt
    · exact (a d hd).1
    · exact Nat.zero_le _
    · exact (a d hd).2
  | .n1 o r, h => by
    have a := Ow.flat h.1 t
    have b := R.flat t h.2.2
    refine ⟨flat_sq fun d hd => ?_, depth_sq (n := r.depth + 2) fun d hd => ?_⟩
    all_goals
      simp only [List.mem_cons, List.mem_append, List.not_mem_nil, or_false] at hd
      rcases hd with rfl | hd | rfl
    · exact wd_str _ o.kind_lt
    · exact (a d hd).1
    · exact b.1
    · exact Nat.zero_le _
    · exact Nat.le_trans (a d hd).2 (by omega)
    · exact b.2
  | .n2 o r s, h => by
    have a := Ow.flat h.1 t
    have b := R.flat t h.2.2.1
    have c := R.flat t h.2.2.2
    refine ⟨flat_sq fun d hd => ?_, depth_sq (n := max r.depth s.depth + 2) fun d hd => ?_⟩
    all_goals
      simp only [List.mem_cons, List.mem_append, List.not_mem_nil, or_false] at hd
      rcases hd with rfl | hd | rfl | rfl
    · exact wd_str _ o.kind_lt
    · exact (a d hd).1
    · exact b.1
    · exact c.1
    · exact Nat.zero_le _
    · exact Nat.le_trans (a d hd).2 (by omega)
    · exact Nat.le_trans b.2 (by omega)
    · exact Nat.le_trans c.2 (by omega)
theorem R.shaped (t : Bool) {r : R} (h : r.ok) (k : r.depth ≤ 62) : SeqAt.shaped (r.data t) = true := shaped_of (R.flat t h).1 (Nat.le_trans (R.flat t h).2 (by omega))
theorem R.refl (t : Bool) {r : R} (h : r.ok) : PyData.eqv (r.data t) (r.data t) = true := SeqAt.eqv_refl _ (canLay_flat _ (R.flat t h).1)
mutual
def lstd : PyData → PyData
  | .tuple ds => .list (lstA ds)
  | d => d
def lstA : List PyData → List PyData
  | [] => []
  | d :: ds => lstd d :: lstA ds
end
theorem lstA_map : ∀ ds : List PyData, lstA ds = ds.map lstd
  | [] => rfl
  | d :: ds => by rw [lstA, lstA_map ds]; rfl
theorem lstd_nums (ns : List Nat) : (ns.map pn).map lstd = ns.map pn := by
  rw [List.map_map]
  exact List.map_congr_left fun n _ => by simp [pn, lstd]
theorem lstd_tup (ds : List PyData) : lstd (.tuple ds) = .list (ds.map lstd) := by rw [lstd, lstA_map]
theorem Ow.lst (o : Ow) : (o.data true).map lstd = o.data false := by
  cases o with
  | sum m ws g => simp only [Ow.data, List.map_cons, List.map_nil, sq, if_true, lstd_tup, lstd_nums]; simp [pn, lstd]
  | square rows gs =>
    simp only [Ow.data, List.map_cons, List.map_nil, sq, if_true, lstd_tup, lstd_nums, List.map_map]
    simp only [Bool.false_eq_true, if_false]
    refine congrArg (fun x => [PyData.list x, PyData.list (gs.map pn)]) ?_
    exact List.map_congr_left fun r _ => by show lstd (.tuple (r.map pn)) = _; rw [lstd_tup, lstd_nums]
  | faces fs =>
    simp only [Ow.data, List.map_cons, List.map_nil, sq, if_true, lstd_tup, List.map_map]
    simp only [Bool.false_eq_true, if_false]
    refine congrArg (fun x => [PyData.list x]) ?_
    exact List.map_congr_left fun r _ => by simp [lstd]
  | cut a b => simp [Ow.data, pn, lstd]
  | _ => simp [Ow.data]
theorem R.lst : ∀ r : R, lstd (r.data true) = r.data false
  | .n0 o => by
    show lstd (.tuple _) = .list _
    rw [lstd_tup, List.map_cons, o.lst]
    simp [lstd]
  | .n1 o a => by
    show lstd (.tuple _) = .list _
    rw [lstd_tup, List.map_cons, List.map_append, o.lst, List.map_cons, a.lst]
    simp [lstd]
  | .n2 o a b => by
    show lstd (.tuple _) = .list _
    rw [lstd_tup, List.map_cons, List.map_append, o.lst, List.map_cons, List.map_cons, a.lst, b.lst]
    simp [lstd]
mutual
def wide : PyData → Bool
  | .tuple ds => decide (ds.length ≤ 1000) && wideA ds
  | _ => true
def wideA : List PyData → Bool
  | [] => true
  | d :: ds => wide d && wideA ds
end
theorem wideA_iff : ∀ {ds : List PyData}, wideA ds = true ↔ ∀ d ∈ ds, wide d = true
  | [] => by simp [wideA]
  | d :: ds => by simp [wideA, wideA_iff]
theorem wide_tup {ds : List PyData} (h : ds.length ≤ 1000) (k : ∀ d ∈ ds, wide d = true) : wide (.tuple ds) = true := by
  rw [wide, decide_eq_true h, wideA_iff.mpr k]
  rfl
theorem wide_nums {ns : List Nat} (h : ns.length ≤ 1000) : wide (.tuple (ns.map pn)) = true := wide_tup (by rw [List.length_map]; exact h) fun d hd => by obtain ⟨n, _, rfl⟩ := List.mem_map.mp hd; rfl
theorem Ow.wide {o : Ow} (h : o.ok) : ∀ d ∈ o.data true, K4.wide d = true := by
  cases o with
  | sum m ws g =>
    intro d hd
    simp only [Ow.data, List.mem_cons, List.not_mem_nil, or_false] at hd
    rcases hd with rfl | rfl | rfl
    · rfl
    · exact wide_nums (by have := h.2.2.1.2.1; omega)
    · rfl
  | square rows gs =>
    intro d hd
    simp only [Ow.data, List.mem_cons, List.not_mem_nil, or_false] at hd
    rcases hd with rfl | rfl
    · exact wide_tup (by rw [List.length_map]; have := h.2.1; omega) fun d hd => by obtain ⟨r, hr, rfl⟩ := List.mem_map.mp hd; exact wide_nums (by have := (h.2.2.1 r hr).2.1; omega)
    · exact wide_nums (by have := h.2.2.2.2.1; omega)
  | faces fs =>
    intro d hd
    simp only [Ow.data, List.mem_cons, List.not_mem_nil, or_false] at hd
    subst hd
    exact wide_tup (by rw [List.length_map]; have := h.2.1; omega) fun d hd => by obtain ⟨r, hr, rfl⟩ := List.mem_map.mp hd; rfl
  | cut a b =>
    intro d hd
    simp only [Ow.data, List.mem_cons, List.not_mem_nil, or_false] at hd
    rcases hd with rfl | rfl <;> rfl
  | _ => intro d hd; simp [Ow.data] at hd
theorem R.wide : ∀ {r : R}, r.ok → K4.wide (r.data true) = true
  | .n0 o, h => wide_tup (by have := mn_le o.kind; rw [List.length_cons, Ow.data_len]; omega) fun d hd => by
      simp only [List.mem_cons] at hd
      rcases hd with rfl | hd
      · rfl
      · exact Ow.wide h.1 d hd
  | .n1 o a, h => wide_tup (by have := mn_le o.kind; rw [List.length_cons, List.length_append, Ow.data_len]; simp only [List.length_cons, List.length_nil]; omega) fun d hd => by
      simp only [List.mem_cons, List.mem_append, List.not_mem_nil, or_false] at hd
      rcases hd with rfl | hd | rfl
      · rfl
      · exact Ow.wide h.1 d hd
      · exact R.wide h.2.2
  | .n2 o a b, h => wide_tup (by have := mn_le o.kind; rw [List.length_cons, List.length_append, Ow.data_len]; simp only [List.length_cons, List.length_nil]; omega) fun d hd => by
      simp only [List.mem_cons, List.mem_append, List.not_mem_nil, or_false] at hd
      rcases hd with rfl | hd | rfl | rfl
      · rfl
      · exact Ow.wide h.1 d hd
      · exact R.wide h.2.2.1
      · exact R.wide h.2.2.2
/-! ### what is new in a heap -/
def New (H H' : Hp) : Hp := fun c => match H c with | none => H' c | some _ => none
theorem New.same {H H' : Hp} : Same (New H H') H' := fun c u e => by
  unfold New at e
  cases h : H c with
  | none => rw [h] at e; exact e
  | some o => rw [h] at e; cases e
theorem New.at {H H' : Hp} {c : Addr} (h : H c = none) : New H H' c = H' c := by unfold New; rw [h]
theorem New.le {H0 H1 H H' : Hp} (a : ∀ c, H1 c = none → H0 c = none) (s : ∀ c u, H1 c = none → H c = some u → H' c = some u) : Same (New H1 H) (New H0 H') := fun c u e => by
  unfold New at e
  cases h : H1 c with
  | none => rw [h] at e; rw [New.at (a c h)]; exact s c u h e
  | some o => rw [h] at e; cases e
section
variable {K : PySem.W.Frag} {H : Hp} {a : Addr} {xs : List V}
theorem tyxT (h : SqT K H a xs) : TyX K H (.ref a) (.type "tuple") := by
  rcases h with (h | ⟨u, h⟩) | ⟨o, its, n, e, c, _⟩
  · exact .base (.tup h)
  · exact .fTuple h
  · exact .kTuple e c
theorem tyxL (h : SqL K H a xs) : TyX K H (.ref a) (.type "list") := by
  rcases h with (h | ⟨u, h⟩) | ⟨o, its, n, e, c, _⟩
  · exact .base (.lst h)
  · exact .base (.frz h)
  · exact .kList e c
end
/-! ### ends of texts -/
theorem ends_app (x y r : Str) (h : tl x = tl r ++ tl y) : Txt.endswith x y = true := by
  have lx : x.length = r.length + y.length := by rw [len_tl x, len_tl r, len_tl y, h, List.length_append]
  unfold Txt.endswith
  rw [PySem.StrLaws.subAt_eq]
  have e : x.length - y.length = (tl r).length := by rw [lx, ← len_tl r]; omega
  have e2 : y.length = (tl y).length := len_tl y
  show (decide (0 + y.length ≤ x.length) && (((tl x).drop (x.length - y.length)).take y.length == tl y)) = true
  rw [e, h, List.drop_left, e2, List.take_length, decide_eq_true (by omega)]
  simp
theorem joinL_app {S : List Nat} : ∀ {xs ys : List (List Nat)}, xs ≠ [] → ys ≠ [] → TL.joinL S (xs ++ ys) = TL.joinL S xs ++ (S ++ TL.joinL S ys)
  | [], _, h, _ => absurd rfl h
  | [x], [], _, h => absurd rfl h
  | [x], y :: ys, _, _ => rfl
  | x :: z :: xs, ys, _, h => by
    show x ++ (S ++ TL.joinL S (z :: xs ++ ys)) = x ++ (S ++ TL.joinL S (z :: xs)) ++ _
    rw [joinL_app (by simp) h]
    simp
theorem join_app {s : Str} {xs ys : List Str} (h : xs ≠ []) (k : ys ≠ []) : tl (Txt.join s (xs ++ ys)) = tl (Txt.join s xs) ++ (tl s ++ tl (Txt.join s ys)) := by
  rw [tl_joinL, tl_joinL, tl_joinL, List.map_append, joinL_app (by simpa using h) (by simpa using k)]
end K4

/-! N5c -/
/-! What is read is a tuple of tuples, integers and strings; not wide, not deep. -/
namespace K4
open PySem L2 K1 PyProof.Rows
structure Td (n : Nat) (d : PyData) : Prop where
  tup : ∃ ds, d = .tuple ds
  pu : K4.pure d = true
  wi : wide d = true
  fl : flatN d = true
  dp : d.depth ≤ n
structure Gd (n : Nat) (d : PyData) : Prop where
  wi : wide d = true
  fl : flatN d = true
  dp : d.depth ≤ n
theorem gd_num (n m : Nat) : Gd m (pn n) := ⟨rfl, rfl, Nat.zero_le _⟩
theorem gd_str {n : Nat} {x : Str} (h : PyData.strOk x = true) : Gd n (.str x) := ⟨rfl, h, Nat.zero_le _⟩
theorem gd_tup {n : Nat} {ds : List PyData} (l : ds.length ≤ 1000) (h : ∀ d ∈ ds, Gd n d) : Gd (n + 1) (.tuple ds) :=
  ⟨wide_tup l fun d hd => (h d hd).wi, flat_sq (t := true) fun d hd => (h d hd).fl, depth_sq (t := true) (n := n) fun d hd => (h d hd).dp⟩
theorem gd_nums {n : Nat} {ns : List Nat} (l : ns.length ≤ 1000) : Gd (n + 1) (.tuple (ns.map pn)) := gd_tup (by rw [List.length_map]; exact l) fun d hd => by obtain ⟨m, _, rfl⟩ := List.mem_map.mp hd; exact gd_num m _
theorem rdNums_len {lm mm most : Nat} {x : Str} {ns : List Nat} (h : rdNums lm mm most x = some ns) : ns.length ≤ mm := by
  unfold rdNums at h
  cases e : rdAll (rdNum 0 most) (pCM x) with
  | none => rw [e] at h; cases h
  | some as =>
    rw [e] at h
    dsimp only at h
    split at h
    · cases h; omega
    · cases h
theorem Fk.gd {f : Fk} {x : Str} {d : PyData} (h : f.read x = some d) : Gd 2 d := by
  cases f <;> simp only [Fk.read, Option.map_eq_some_iff] at h <;> obtain ⟨a, ha, rfl⟩ := h
  · exact gd_num _ _
  · exact gd_nums (by have := rdNums_len ha; omega)
  · exact gd_num _ _
  · unfold rdRows at ha
    cases e : rdAll (rdNums 2 12 59) (pSL x) with
    | none => rw [e] at ha; cases ha
    | some rs =>
      rw [e] at ha
      dsimp only at ha
      have hl : a = rs ∧ rs.length ≤ 60 := by
        split at ha
        · cases ha; exact ⟨rfl, by omega⟩
        · cases ha
      obtain ⟨rfl, hl⟩ := hl
      refine gd_tup (by rw [List.length_map]; omega) fun d hd => ?_
      obtain ⟨r, hr, rfl⟩ := List.mem_map.mp hd
      obtain ⟨y, _, hy⟩ := rdAll_mem e hr
      exact gd_nums (by have := rdNums_len hy; omega)
  · exact gd_nums (by have := rdNums_len ha; omega)
  · unfold rdTexts at ha
    split at ha
    · rename_i q
      cases ha
      refine gd_tup (by rw [List.length_map]; omega) fun d hd => ?_
      obtain ⟨r, hr, rfl⟩ := List.mem_map.mp hd
      have t := List.all_eq_true.mp q.1 r hr
      exact gd_str (strOk_of fun c hc => all_lt c ((textB_iff.mp t).2.2 c hc))
    · cases ha
  · exact gd_num _ _
theorem rdFields_gd : ∀ {fs : List Fk} {ws : List Str} {z : Nat} {ds : List PyData} {z' : Nat}, rdFields fs ws z = .ok (ds, z') → ∀ d ∈ ds, Gd 2 d
  | [], ws, z, ds, z', h => by
    rw [rdFields] at h
    injection h with h
    injection h with h1 h2
    subst h1
    intro d hd
    cases hd
  | f :: fs, ws, z, ds, z', h => by
    rw [rdFields] at h
    cases e : ws[z]?.bind f.read with
    | none => rw [e] at h; cases h
    | some d =>
      rw [e] at h
      dsimp only at h
      cases e2 : rdFields fs ws (z + 1) with
      | bad q => rw [e2] at h; cases h
      | ok q =>
        obtain ⟨ds2, z2⟩ := q
        rw [e2] at h
        injection h with h
        injection h with h1 h2
        subst h1
        obtain ⟨x, _, hx⟩ := Option.bind_eq_some_iff.mp e
        intro y hy
        rcases List.mem_cons.mp hy with rfl | hy
        · exact Fk.gd hx
        · exact rdFields_gd e2 y hy
theorem rdMany_gd {f : Nat → Nat → RR} {n : Nat} (hf : ∀ z b d z' b', f z b = .ok (d, z', b') → Gd n d) : ∀ (k z b : Nat) (ds : List PyData) (z' b' : Nat), rdMany f k z b = .ok (ds, z', b') → ds.length = k ∧ ∀ d ∈ ds, Gd n d
  | 0, z, b, ds, z', b', h => by
    rw [rdMany] at h
    injection h with h
    injection h with h1 h2
    subst h1
    exact ⟨rfl, fun d hd => by cases hd⟩
  | k + 1, z, b, ds, z', b', h => by
    rw [rdMany] at h
    cases e : f z b with
    | bad q => rw [e] at h; cases h
    | ok q =>
      obtain ⟨d, z1, b1⟩ := q
      rw [e] at h
      dsimp only at h
      cases e2 : rdMany f k z1 b1 with
      | bad q => rw [e2] at h; cases h
      | ok q =>
        obtain ⟨ds2, z2, b2⟩ := q
        rw [e2] at h
        injection h with h
        injection h with h1 h2
        subst h1
        obtain ⟨ih, ih2⟩ := rdMany_gd hf k z1 b1 ds2 z2 b2 e2
        refine ⟨by rw [List.length_cons, ih], fun y hy => ?_⟩
        rcases List.mem_cons.mp hy with rfl | hy
        · exact hf _ _ _ _ _ e
        · exact ih2 y hy
theorem Gd.up {n m : Nat} {d : PyData} (h : Gd n d) (l : n ≤ m) : Gd m d := ⟨h.wi, h.fl, Nat.le_trans h.dp l⟩
theorem rdRule_gd : ∀ (n : Nat) (ws : List Str) (z b : Nat) (d : PyData) (z' b' : Nat), rdRule n ws z b = .ok (d, z', b') → (∃ ds, d = .tuple ds) ∧ Gd (n + 2) d
  | 0, _, _, _, _, _, _, h => by cases h
  | n + 1, ws, z, b, d, z', b', h => by
    rw [rdRule] at h
    cases e0 : ws[z]?.bind kindOf with
    | none => rw [e0] at h; cases h
    | some c =>
      rw [e0] at h
      dsimp only at h
      by_cases hb2 : b < 40
      · rw [if_pos hb2] at h
        cases e1 : rdFields (fields c) ws (z + 1) with
        | bad q => rw [e1] at h; cases h
        | ok q =>
          obtain ⟨ds, z1⟩ := q
          rw [e1] at h
          dsimp only at h
          cases e2 : rdMany (rdRule n ws) (ar c) z1 (b + 1) with
          | bad q => rw [e2] at h; cases h
          | ok q =>
            obtain ⟨rs, z2, b2⟩ := q
            rw [e2] at h
            injection h with h
            injection h with h1 h2
            subst h1
            obtain ⟨l2, g2⟩ := rdMany_gd (fun z b d z' b' h => (rdRule_gd n ws z b d z' b' h).2) _ _ _ _ _ _ e2
            obtain ⟨x, _, hx⟩ := Option.bind_eq_some_iff.mp e0
            obtain ⟨c9, _⟩ := kindOf_some hx
            have l1 := (rdFields_len e1).1
            have f3 := fields_len c
            have a2 := ar_le c
            refine ⟨⟨_, rfl⟩, gd_tup (n := n + 2) ?_ fun y hy => ?_⟩
            · rw [List.length_cons, List.length_append]; omega
            · rcases List.mem_cons.mp hy with rfl | hy
              · exact gd_str (wd_str _ c9)
              · rcases List.mem_append.mp hy with hy | hy
                · exact (rdFields_gd e1 y hy).up (by omega)
                · exact g2 y hy
      · rw [if_neg hb2] at h; cases h
theorem rdRule_td {n : Nat} {ws : List Str} {z b : Nat} {d : PyData} {z' b' : Nat} (h : rdRule n ws z b = .ok (d, z', b')) : Td (n + 2) d :=
  have g := rdRule_gd _ _ _ _ _ _ _ h
  ⟨g.1, rdRule_pure _ _ _ _ _ _ _ h, g.2.wi, g.2.fl, g.2.dp⟩
end K4

/-! L5d -/


namespace K4
open PySem L2 K1
abbrev sLCommas : Stmt := top 88
abbrev nLCommas : List Str := ["_law_row", "_law_one"]
theorem scLCommas : FnScope nLCommas ["_law_row"] (defScope sLCommas) := ⟨rfl, rfl, rfl, by decide +kernel, rfl, by decide +kernel, by decide +kernel⟩
abbrev sLRuleWords : Stmt := top 89
abbrev nLRuleWords : List Str := ["_law_rule", "_law_word", "_law_row"]
theorem scLRuleWords : FnScope nLRuleWords ["_law_rule"] (defScope sLRuleWords) := ⟨rfl, rfl, rfl, by decide +kernel, rfl, by decide +kernel, by decide +kernel⟩
abbrev sLNoList : Stmt := top 83
abbrev nLNoList : List Str := ["_law_thing", "_law_part"]
theorem scLNoList : FnScope nLNoList ["_law_thing"] (defScope sLNoList) := ⟨rfl, rfl, rfl, by decide +kernel, rfl, by decide +kernel, by decide +kernel⟩
abbrev sLSame : Stmt := top 85
abbrev nLSame : List Str := ["_law_told", "_law_wanted"]
theorem scLSame : FnScope nLSame ["_law_told", "_law_wanted"] (defScope sLSame) := ⟨rfl, rfl, rfl, by decide +kernel, rfl, by decide +kernel, by decide +kernel⟩
def spNoList (K : PySem.W.Frag) (n : Nat) : Sp := fun vs H Q _ => ∃ (v : V) (d : PyData), vs = [v] ∧ Dp K H v d ∧ pure d = true ∧ wide d = true ∧ d.depth < n ∧ ∀ H', Same H H' → Q (.bl true) H'
def spSame (K : PySem.W.Frag) : Sp := fun vs H Q _ => ∃ (a b : V) (d : PyData), vs = [a, b] ∧ Dp K H a d ∧ Dp K H b d ∧ Td 44 d ∧ ∀ H', Same H H' → Q (.bl true) H'
theorem depthA_mem {n : Nat} : ∀ {ds : List PyData}, PyData.depthAll ds ≤ n → ∀ d ∈ ds, d.depth ≤ n
  | [], _, d, h => by simp at h
  | e :: ds, h, d, hd => by
    rw [PyData.depthAll] at h
    rcases List.mem_cons.mp hd with rfl | hd
    · omega
    · exact depthA_mem (by omega) d hd
section
variable {P : Program} {w : World} {K : PySem.W.Frag} {mg : Str → Option Value} {base : Heap} {dO dI : Addr}
theorem ok_lCommas {f : Addr} {fd : FuncData} (F : Fun K "_law_commas" "_law_commas" sLCommas f fd) (B : Bl mg) : FnOk P w K mg base CX0 1 f fd ["_law_row"] (spIntsWord K) := by
  refine F.ok scLCommas (fun vs H Q E h => ?_) (fun cdv A outer s H vs Q E hr h => ?_)
  · obtain ⟨v, ns, rfl, _⟩ := h
    rfl
  · obtain ⟨v, ns, rfl, hS, h60, hb, k⟩ := h
    refine ⟨_, (pss_one (ps_ret (pe_m1 PySem.F.slot_str_join PySem.F.type_str_join mt_join pe_str (pe_lc (own := [("_law_one", 1)]) (g := gName 1) (tt := tYes) rfl scLCommas.nd (pi_sq (pv 0)) (blkOk_by (N := nLCommas) (sc := defScope sLCommas) (by decide +kernel)) (fun _ _ _ _ _ => (pg_name (i := 1) scLCommas.nd rfl (Or.inl rfl))) (fun _ _ _ _ _ => pts_nil) (fun _ _ _ _ _ => (pe_callTy call_str_int (by rfl) B.str (by decide +kernel) (pa_cons (pv 1) pa_nil))))))), ?_⟩
    try dsimp only [cxOf, Cx.nox, Cx.wish]
    walk_at "go"
    refine lc_sq hS (fun _ => rfl) (fun acc H' => acc = ((ns.map num).take acc.length).map V.str ∧ Same H H') (fun D hD => ⟨rfl, same_new hD⟩) (fun D acc H' _ _ q => Same.keeps q.2) ?_ _ ?_ (fun J h => h)
    · rintro D i x acc H' hD hx hl hacc ⟨ha, sm⟩
      obtain ⟨n, hn, rfl⟩ := get_map hx
      walk_at "go"
      have hmem := hb n (List.mem_of_getElem? hn)
      refine ⟨?_, ?_⟩
      · have : ((n : Int).natAbs).log2 < 1920 := by
          rw [Int.natAbs_natCast]
          exact Nat.lt_of_le_of_lt (Nat.log2_le_self n) (by omega)
        exact this
      · exact pp_next hacc hl (line60 (by have := (List.getElem?_eq_some_iff.mp hn).1; omega)) ⟨acc_next (f := V.str) (a := num n) ha hl (by rw [List.getElem?_map, hn]; rfl), same_upd sm hD⟩
    · rintro D acc H' hD hl hacc ⟨ha, sm⟩
      rw [List.length_map] at hl
      rw [hl, ← List.length_map (f := num), List.take_length] at ha
      subst ha
      walk_at "go"
      refine ⟨_, D, ns.map num, rfl, rfl, .inl (SqL.of hacc), ?_, ?_⟩
      · have := sum_le (ys := ns.map num) (b := 2) (fun p hp => by obtain ⟨n, hn, rfl⟩ := List.mem_map.mp hp; exact (num_ok (hb n hn)).2.2.1)
        rw [List.length_map] at this ⊢
        have e : (CM : Str).length = 1 := by rw [len_tl, tl_CM]; rfl
        rw [e]
        omega
      · exact k _ sm
abbrev ONL (n : Nat) (P : Program) (w : World) (K : PySem.W.Frag) (mg : Str → Option Value) (base : Heap) : Prop := Own P w K mg base "_law_no_list" n ["_law_thing"] (spNoList K n)
theorem ok_noList {n : Nat} {f : Addr} {fd : FuncData} (F : Fun K "_law_no_list" "_law_no_list" sLNoList f fd) (B : Bl mg) (Onl : ONL n P w K mg base) : FnOk P w K mg base CX0 (n + 1) f fd ["_law_thing"] (spNoList K (n + 1)) := by
  refine F.ok scLNoList (fun vs H Q E h => ?_) (fun cdv A outer s H vs Q E hr h => ?_)
  · obtain ⟨v, d, rfl, _⟩ := h
    rfl
  · obtain ⟨v, d, rfl, hv, hp, hw, hd, k⟩ := h
    refine ⟨_, (pss_cons (ps_if (pt_val (pe_callB (id := "isinstance") (r := rIsi K) call_isi (by rfl) B.isin (by decide +kernel) (pa_cons (pv 0) (pa_cons (pe_bltn (v := .ty "tuple") (by rfl) B.tuple (by decide +kernel) rfl) pa_nil)))) (pss_one (ps_ret (pe_callB (cr_all rfl) (by rfl) B.all (by decide +kernel) (pa_cons (pe_lc (own := [("_law_part", 1)]) (g := gName 1) (tt := tYes) rfl scLNoList.nd (pi_tup (pv 0)) (blkOk_by (N := nLNoList) (sc := defScope sLNoList) (by decide +kernel)) (fun _ _ _ _ _ => (pg_name (i := 1) scLNoList.nd rfl (Or.inl rfl))) (fun _ _ _ _ _ => pts_nil) (fun _ _ _ _ _ => (pe_own Onl hr (pa_cons (pv 1) pa_nil)))) pa_nil)))) pss_nil) (pss_one (ps_ret (pe_and (pe_not (pe_callB (id := "isinstance") (r := rIsi K) call_isi (by rfl) B.isin (by decide +kernel) (pa_cons (pv 0) (pa_cons (pe_bltn (v := .ty "list") (by rfl) B.list (by decide +kernel) rfl) pa_nil)))) (pe_one (pe_not (pe_callB (id := "isinstance") (r := rIsi K) call_isi (by rfl) B.isin (by decide +kernel) (pa_cons (pv 0) (pa_cons (pe_bltn (v := .ty "bool") (by rfl) B.bool (by decide +kernel) rfl) pa_nil))))))))), ?_⟩
    try dsimp only [cxOf, Cx.nox, Cx.wish]
    walk_at "go"
    cases hv with
    | int i =>
      refine r_isi (b := false) (.ty "tuple") (.base (.int _)) (kit_ty (by decide +kernel)) ?_
      walk_at "go"
      refine r_isi (b := false) (.ty "list") (.base (.int _)) (kit_ty (by decide +kernel)) ?_
      walk_at "go"
      refine r_isi (b := false) (.ty "bool") (.base (.int _)) (kit_ty (by decide +kernel)) ?_
      walk_at "go"
      exact k H (Same.refl _)
    | str x =>
      refine r_isi (b := false) (.ty "tuple") (.base (.str _)) (kit_ty (by decide +kernel)) ?_
      walk_at "go"
      refine r_isi (b := false) (.ty "list") (.base (.str _)) (kit_ty (by decide +kernel)) ?_
      walk_at "go"
      refine r_isi (b := false) (.ty "bool") (.base (.str _)) (kit_ty (by decide +kernel)) ?_
      walk_at "go"
      exact k H (Same.refl _)
    | non =>
      refine r_isi (b := false) (.ty "tuple") (.base .non) (kit_ty (by decide +kernel)) ?_
      walk_at "go"
      refine r_isi (b := false) (.ty "list") (.base .non) (kit_ty (by decide +kernel)) ?_
      walk_at "go"
      refine r_isi (b := false) (.ty "bool") (.base .non) (kit_ty (by decide +kernel)) ?_
      walk_at "go"
      exact k H (Same.refl _)
    | bl => simp [pure] at hp
    | lst => simp [pure] at hp
    | @tup a xs ds hS hA =>
      have hpA : pureA ds = true := by simpa [pure] using hp
      have hwA : ds.length ≤ 1000 ∧ wideA ds = true := by simpa [wide] using hw
      have hdA : PyData.depthAll ds < n := by rw [PyData.depth] at hd; omega
      refine r_isi (b := true) (.ty "tuple") (tyxT hS) (kit_ty (by decide +kernel)) ?_
      walk_at "go"
      refine ⟨⟨_, hS⟩, fun D hD => ?_⟩
      refine lc_gen (walk_tup (K := K) (a := a) (xs := xs)) (fun _ => rfl) (fun acc H' => acc = (List.replicate acc.length true).map V.bl ∧ Same H H') ⟨rfl, same_new hD⟩ (fun acc H' _ q => Same.sqT q.2 hS) ?_ ?_
      · rintro i x acc H' hx hl hacc ⟨ha, sm⟩
        obtain ⟨di, hdi, hxd⟩ := dpA_get hA hx
        have hmem := List.mem_of_getElem? hdi
        have hil := (List.getElem?_eq_some_iff.mp hdi).1
        walk_at "go"
        refine ⟨x, di, rfl, dp_keep (Same.keeps sm) _ _ hxd, pureA_iff.mp hpA di hmem, wideA_iff.mp hwA.2 di hmem, Nat.lt_of_le_of_lt (depthA_mem (Nat.le_refl _) di hmem) hdA, fun H2 s2 => ?_⟩
        refine pp_next (s2 _ _ hacc) hl (line60 (by omega)) ⟨?_, same_upd (sm.trans s2) hD⟩
        rw [List.length_append]
        show acc ++ [V.bl true] = (List.replicate (acc.length + 1) true).map V.bl
        rw [List.replicate_succ', List.map_append, ← ha]
        rfl
      · rintro acc H' hl hacc ⟨ha, sm⟩
        walk_at "go"
        rw [ha] at hacc
        refine r_all (SqL.of hacc) ?_
        have e : (List.replicate acc.length true).all id = true := List.all_eq_true.mpr fun b hb => by rw [(List.mem_replicate.mp hb).2]; rfl
        rw [e]
        exact k _ sm
theorem nl_all {f : Addr} {fd : FuncData} (F : Fun K "_law_no_list" "_law_no_list" sLNoList f fd) (B : Bl mg) (m : mg "_law_no_list" = some (.ref f)) (b : Binds K fd ["_law_thing"] []) : ∀ n : Nat, ONL n P w K mg base
  | 0 => ⟨f, fd, none_ok fun vs H Q E h => by obtain ⟨v, d, _, _, _, _, hd, _⟩ := h; omega, m, F.kp, b⟩
  | n + 1 => ⟨f, fd, ok_noList F B (nl_all F B m b n), m, F.kp, b⟩
theorem ok_same {f : Addr} {fd : FuncData} (F : Fun K "_law_same_tuple" "_law_same_tuple" sLSame f fd) (B : Bl mg) (Onl : ONL 45 P w K mg base) : FnOk P w K mg base CX0 46 f fd ["_law_told", "_law_wanted"] (spSame K) := by
  refine F.ok scLSame (fun vs H Q E h => ?_) (fun cdv A outer s H vs Q E hr h => ?_)
  · obtain ⟨a, b, d, rfl, _⟩ := h
    rfl
  · obtain ⟨a, b, d, rfl, ha, hb, td, k⟩ := h
    refine ⟨_, (pss_one (ps_ret (pe_and (pe_callB (id := "isinstance") (r := rIsi K) call_isi (by rfl) B.isin (by decide +kernel) (pa_cons (pv 0) (pa_cons (pe_bltn (v := .ty "tuple") (by rfl) B.tuple (by decide +kernel) rfl) pa_nil))) (pe_and (pe_cmpR (op_eqD hr.units) (pv 0) (pv 1) (nomark _)) (pe_one (pe_own Onl (hr.mono (by omega)) (pa_cons (pv 0) pa_nil))))))), ?_⟩
    try dsimp only [cxOf, Cx.nox, Cx.wish]
    walk_at "go"
    have hT : TyX K H a (.type "tuple") := by
      obtain ⟨ds, e⟩ := td.tup
      rw [e] at ha
      cases ha with
      | tup h _ => exact tyxT h
    refine r_isi (b := true) (.ty "tuple") hT (kit_ty (by decide +kernel)) ?_
    walk_at "go"
    have dep := td.dp
    have sh : SeqAt.shaped d = true := shaped_of td.fl (by omega)
    have eq : PyData.eqv d d = true := SeqAt.eqv_refl _ (canLay_flat _ td.fl)
    refine ⟨_, _, ha, hb, sh, sh, ?_⟩
    rw [eq]
    walk_at "go"
    exact ⟨a, _, rfl, ha, td.pu, td.wi, by omega, fun H1 s1 => k H1 s1⟩
end
end K4

/-! L5f -/


namespace K4
open PySem L2 K1
abbrev sLLeaf : Stmt := top 98
abbrev nLLeaf : List Str := ["_law_bag", "_law_signs", "_law_room", "_law_way", "_law_modulus", "_law_weights", "_law_most_rows", "_law_many", "_law_rows", "_law_goals", "_law_z", "_law_k", "_law_sign"]
theorem scLLeaf : FnScope nLLeaf ["_law_bag", "_law_signs", "_law_room"] (defScope sLLeaf) := ⟨rfl, rfl, rfl, by decide +kernel, rfl, by decide +kernel, by decide +kernel⟩
abbrev scZ : Scope := { kind := ScopeKind.function, names := [(".0", NameKind.local), ("_law_z", NameKind.local), ("tuple", NameKind.globalImplicit), ("_law_bag", NameKind.cell), ("_law_many", NameKind.cell), ("_law_signs", NameKind.cell)], isGenerator := false, isCoroutine := false }
def spLeaf (K : PySem.W.Frag) : Sp := fun vs H Q _ => ∃ (b : Addr) (z : Str) (room : Int) (n : Nat), vs = [.ref b, .str z, .int room] ∧ Good z ∧ IsBag H b n ∧ n + 1000 ≤ 2 ^ 40 ∧ 0 ≤ room ∧ room ≤ 1000 ∧
  ∀ H' v o, Ow.ok o → ar o.kind = 0 → IsBag H' b (n + 1000) → Kp b H H' → Dp K H' v ((R.n0 o).data true) → Q v H'
section
variable {P : Program} {w : World} {K : PySem.W.Frag} {mg : Str → Option Value} {base : Heap} {dO dI : Addr}
theorem bag_kt {H H' : Hp} {b : Addr} {n : Nat} (h : IsBag H b n) (k : Kp b H H') : KT K H H' := fun a xs q => by
  obtain ⟨d, s, c, e, _⟩ := h
  exact Kp.sqT k e q
theorem bag_upd {H : Hp} {b D : Addr} {n : Nat} {o : HO} (h : IsBag H b n) (nD : D ≠ b) : IsBag (upd H D o) b n := by
  obtain ⟨d, s, c, e, r⟩ := h
  exact ⟨d, s, c, by rw [upd_ne nD.symm]; exact e, r⟩
theorem kp_upd' {b L : Addr} {H H' : Hp} {o : HO} (k : Kp b H H') (h : H L = none) : Kp b H (upd H' L o) := fun c u n e => by
  rw [upd_ne (ne_of_none e h)]
  exact k c u n e
theorem line_small {n : Nat} (h : n ≤ 1000) : n < sizeLine := small1000 h
theorem nums_pure (ns : List Nat) : pure (.tuple (ns.map pn)) = true := pure_nums ns
theorem r_ifJ {c : TT} {ta tb : TE} {σ : L2.St} {H : Hp} {Q : VK} (A : VK) (q : ∀ Q' : VK, (∀ x H', A x H' → Q' x H') → tIf c ta tb σ H Q') (key : ∀ x H', A x H' → Q x H') : tIf c ta tb σ H Q := q Q key
theorem ok_leaf {f : Addr} {fd : FuncData} (F : Fun K "_law_text_leaf" "_law_text_leaf" sLLeaf f fd) (B : Bl mg) (Op : OPick P w K mg base) : FnOk P w K mg base CX0 2 f fd ["_law_bag", "_law_signs", "_law_room"] (spLeaf K) := by
  refine F.ok scLLeaf (fun vs H Q E h => ?_) (fun cdv A outer s H vs Q E hr h => ?_)
  · obtain ⟨b, z, room, n, rfl, _⟩ := h
    rfl
  · obtain ⟨b, z, room, n, rfl, hz, hb, hn, h0, h1, k⟩ := h
    refine ⟨_, (pss_cons (ps_set (i := 3) scLLeaf.nd rfl (Or.inl rfl) (pe_own Op hr (pa_cons (pv 0) (pa_cons pe_int pa_nil)))) (pss_cons (ps_if (pt_cmpR op_eq (pv 3) pe_int (nomark _)) (pss_one (ps_ret (pe_tup (pa_cons pe_str pa_nil)))) pss_nil) (pss_cons (ps_if (pt_cmpR op_lt (pv 3) pe_int (nomark _)) (pss_cons (ps_set (i := 4) scLLeaf.nd rfl (Or.inr rfl) (pe_op op_add pe_int (pe_own Op hr (pa_cons (pv 0) (pa_cons (pe_ix ix_list (pe_lst (pa_cons pe_int (pa_cons pe_int pa_nil))) (pe_own Op hr (pa_cons (pv 0) (pa_cons pe_int pa_nil))) (fun _ _ => rfl)) pa_nil))))) (pss_cons (ps_setLc (i := 5) (own := [("_law_k", 11)]) (g := gName 11) (tt := tYes) rfl scLLeaf.nd rfl rfl (sw_true rfl rfl rfl (by decide +kernel)) (pi_range1 rfl B.range (pa_cons (pe_op op_add pe_int (pe_own Op hr (pa_cons (pv 0) (pa_cons (pe_ix ix_list (pe_lst (pa_cons pe_int (pa_cons pe_int pa_nil))) (pe_own Op hr (pa_cons (pv 0) (pa_cons pe_int pa_nil))) (fun _ _ => rfl)) pa_nil)))) pa_nil)) (blkOk_by (N := nLLeaf) (sc := defScope sLLeaf) (by decide +kernel)) (fun _ _ _ _ _ => (pg_name (i := 11) scLLeaf.nd rfl (Or.inl rfl))) (fun _ _ _ _ _ => pts_nil) (fun _ _ _ _ _ => (pe_own Op hr (pa_cons (pv 0) (pa_cons (pv 4) pa_nil))))) (pss_one (ps_ret (pe_tup (pa_cons pe_str (pa_cons (pv 4) (pa_cons (pe_callTy call_tuple_of (by rfl) B.tuple (by decide +kernel) (pa_cons (pv 5) pa_nil)) (pa_cons (pe_own Op hr (pa_cons (pv 0) (pa_cons (pv 4) pa_nil))) pa_nil))))))))) pss_nil) (pss_cons (ps_set (i := 6) scLLeaf.nd rfl (Or.inl rfl) (pe_callB (call_max2 rfl) (by rfl) B.max (by decide +kernel) (pa_cons pe_int (pa_cons (pe_callB (call_min2 rfl) (by rfl) B.min (by decide +kernel) (pa_cons pe_int (pa_cons (pe_op op_fdivN (pv 2) (pe_op op_mul pe_int (pe_callB call_len (by rfl) B.len PySem.boot_len (pa_cons (pv 1) pa_nil)))) pa_nil))) pa_nil)))) (pss_cons (ps_set (i := 7) scLLeaf.nd rfl (Or.inr rfl) (pe_ifExp (pt_cmpR op_lt (pv 3) pe_int (nomark _)) (pe_op op_add pe_int (pe_own Op hr (pa_cons (pv 0) (pa_cons (pe_callB (call_min2 rfl) (by rfl) B.min (by decide +kernel) (pa_cons (pv 6) (pa_cons pe_int pa_nil))) pa_nil)))) (pv 6))) (pss_cons (ps_setLc (i := 8) (own := [("_law_z", 10)]) (g := gName 10) (tt := tYes) rfl scLLeaf.nd rfl rfl (sw_true rfl rfl rfl (by decide +kernel)) (pi_range1 rfl B.range (pa_cons (pv 7) pa_nil)) (blkOk_by (N := nLLeaf) (sc := defScope sLLeaf) (by decide +kernel)) (fun _ _ _ _ _ => (pg_name (i := 10) scLLeaf.nd rfl (Or.inl rfl))) (fun _ _ _ _ _ => pts_nil) (fun _ _ _ _ _ => (pe_callTy (T := "tuple") (r := rTupOf K) call_tupOf (by rfl) B.tuple (by decide +kernel) (pa_cons (pe_lc (own := [("_law_sign", 12)]) (g := gName 12) (tt := tYes) rfl scLLeaf.nd (pi_str (pv 1)) (blkOk_by (N := nLLeaf) (sc := scZ) (by decide +kernel)) (fun _ _ _ _ _ => (pg_name (i := 12) scLLeaf.nd rfl (Or.inl rfl))) (fun _ _ _ _ _ => pts_nil) (fun _ _ _ _ _ => (pe_own Op hr (pa_cons (pv 0) (pa_cons (pv 7) pa_nil))))) pa_nil)))) (pss_cons (ps_setLc (i := 9) (own := [("_law_z", 10)]) (g := gName 10) rfl scLLeaf.nd rfl rfl (sw_true rfl rfl rfl (by decide +kernel)) (pi_range1 rfl B.range (pa_cons (pv 7) pa_nil)) (blkOk_by (N := nLLeaf) (sc := defScope sLLeaf) (by decide +kernel)) (fun _ _ _ _ _ => (pg_name (i := 10) scLLeaf.nd rfl (Or.inl rfl))) (fun _ _ _ _ _ => (pts_one (pt_cmpR op_eq (pe_own Op hr (pa_cons (pv 0) (pa_cons pe_int pa_nil))) pe_int (nomark _)))) (fun _ _ _ _ _ => (pv 10))) (pss_one (ps_ret (pe_tup (pa_cons pe_str (pa_cons (pe_callTy call_tuple_of (by rfl) B.tuple (by decide +kernel) (pa_cons (pv 8) pa_nil)) (pa_cons (pe_ifExp (pt_truth (pv 9) (by intro _; rfl)) (pe_callTy call_tuple_of (by rfl) B.tuple (by decide +kernel) (pa_cons (pv 9) pa_nil)) (pe_tup (pa_cons (pe_op op_sub (pv 7) pe_int) pa_nil))) pa_nil))))))))))))), ?_⟩
    try dsimp only [cxOf, Cx.nox, Cx.wish]
    walk_at "go"
    refine ⟨_, _, n, rfl, hb, by omega, by decide, fun way H1 w0 w1 hb1 of1 => ?_⟩
    have k1 := of1.kp
    walk_at "go"
    refine r_ite (fun hw => ?_) (fun hw => ?_)
    · walk_at "go"
      refine ⟨(by show 1 ≤ sizeLine; decide), fun p hp => ?_⟩
      refine k _ _ .any trivial rfl ((hb1.mono (by omega)).new hp) (k1.trans (Same.kp (same_new hp))) ?_
      exact .tup (SqT.of upd_same) (.cons (.str _) .nil)
    walk_at "go"
    refine r_ite (fun hw4 => ?_) (fun hw4 => ?_)
    · -- a sum
      walk_at "go"
      refine ⟨(by show 2 ≤ sizeLine; decide), fun p hp => ?_⟩
      have npb := hb1.ne hp
      walk_at "go"
      refine ⟨_, _, n + 1, rfl, hb1.new hp, by omega, by decide, fun r1 H2 r10 r11 hb2 of2 => ?_⟩
      obtain ⟨v1, ev1, hv1, _⟩ := at_nat' (xs := [V.int 4, V.int 59]) r10 (by show r1 < 2; omega)
      obtain ⟨q1, rfl, q10, q11⟩ : ∃ q : Int, v1 = .int q ∧ 4 ≤ q ∧ q ≤ 59 := by
        simp only [List.mem_cons, List.not_mem_nil, or_false] at hv1
        rcases hv1 with rfl | rfl
        · exact ⟨4, rfl, by decide, by decide⟩
        · exact ⟨59, rfl, by decide, by decide⟩
      refine r_ixL (SqL.of (of2.at npb upd_same)) ev1 ?_
      walk_at "go"
      refine ⟨_, _, n + 2, rfl, hb2, by omega, by omega, fun m1 H3 m10 m11 hb3 of3 => ?_⟩
      have k3 : Kp b H H3 := k1.trans ((Same.kp (same_new hp)).trans (of2.kp.trans of3.kp))
      walk_at "go"
      obtain ⟨m, hm⟩ : ∃ m : Nat, 2 + m1 = (m : Int) := ⟨(2 + m1).toNat, by omega⟩
      rw [hm]
      have m2 : 2 ≤ m := by omega
      have m60 : m ≤ 60 := by omega
      refine ⟨(by show 2 ≤ sizeLine; decide), fun p2 hp2 => ?_⟩
      have np2b := hb3.ne hp2
      walk_at "go"
      refine ⟨_, _, n + 3, rfl, hb3.new hp2, by omega, by decide, fun r2 H4 r20 r21 hb4 of4 => ?_⟩
      obtain ⟨v2, ev2, hv2, _⟩ := at_nat' (xs := [V.int 2, V.int 8]) r20 (by show r2 < 2; omega)
      obtain ⟨q2, rfl, q20, q21⟩ : ∃ q : Int, v2 = .int q ∧ 2 ≤ q ∧ q ≤ 8 := by
        simp only [List.mem_cons, List.not_mem_nil, or_false] at hv2
        rcases hv2 with rfl | rfl
        · exact ⟨2, rfl, by decide, by decide⟩
        · exact ⟨8, rfl, by decide, by decide⟩
      refine r_ixL (SqL.of (of4.at np2b upd_same)) ev2 ?_
      walk_at "go"
      refine ⟨_, _, n + 4, rfl, hb4, by omega, by omega, fun m3 H5 m30 m31 hb5 of5 => ?_⟩
      have k5 : Kp b H H5 := k3.trans ((Same.kp (same_new hp2)).trans (of4.kp.trans of5.kp))
      walk_at "go"
      obtain ⟨c, hc⟩ : ∃ c : Nat, 1 + m3 = (c : Int) := ⟨(1 + m3).toNat, by omega⟩
      rw [hc]
      have c1 : 1 ≤ c := by omega
      have c8 : c ≤ 8 := by omega
      refine ⟨by omega, by omega, fun D hD => ?_⟩
      have nDb := hb5.ne hD
      refine lc_gen (walk_rng (lo := 0) (n := c)) (fun _ => rfl) (fun acc H' => ∃ ns : List Nat, acc = ns.map vi ∧ (∀ x ∈ ns, x < m) ∧ IsBag H' b (n + 5 + acc.length) ∧ Kp b H5 H') ⟨[], rfl, (fun x h => absurd h (by simp)), hb5.new hD, Same.kp (same_new hD)⟩ (fun _ _ _ _ => trivial) ?_ ?_
      · rintro i x acc H' hx hl hacc ⟨ns, rfl, hns, hbi, ki⟩
        have hic : i < c := by have := (List.getElem?_eq_some_iff.mp hx).1; rw [List.length_map, List.length_range] at this; exact this
        rw [hl] at hbi
        walk_at "go"
        refine ⟨_, _, n + 5 + i, rfl, hbi, by omega, by omega, fun r H6 r0 r1' hb6 of6 => ?_⟩
        have e6 := of6.at nDb hacc
        refine pp_next e6 hl (line_small (by omega)) ⟨ns ++ [r.toNat], ?_, ?_, ?_, ?_⟩
        · rw [List.map_append]
          show _ = ns.map vi ++ [V.int (r.toNat : Int)]
          rw [Int.toNat_of_nonneg r0]
        · intro x hx
          rcases List.mem_append.mp hx with hx | hx
          · exact hns x hx
          · simp only [List.mem_cons, List.not_mem_nil, or_false] at hx
            omega
        · rw [List.length_append, hl]
          exact bag_upd hb6 nDb
        · exact kp_upd' (ki.trans of6.kp) hD
      · rintro acc H6 hl hacc ⟨ns, rfl, hns, hb6, k6⟩
        rw [List.length_map, List.length_map, List.length_range] at hl
        rw [List.length_map, hl] at hb6
        walk_at "go"
        refine ⟨_, _, rfl, .inl ⟨SqL.of hacc, fun t ht => ?_⟩⟩
        have ntb := hb6.ne ht
        walk_at "go"
        refine ⟨_, _, n + 5 + c, rfl, hb6.new ht, by omega, by omega, fun g H7 g0 g1 hb7 of7 => ?_⟩
        walk_at "go"
        refine ⟨(by show 4 ≤ sizeLine; decide), fun p hp => ?_⟩
        obtain ⟨g', rfl⟩ : ∃ g' : Nat, g = (g' : Int) := ⟨g.toNat, by omega⟩
        refine k _ _ (.sum m ns g') ⟨m2, m60, ⟨?_, by omega, fun x hx => by have := hns x hx; omega⟩, by omega, by omega⟩ rfl ((hb7.mono (by omega)).new hp) ?_ ?_
        · intro q; rw [q] at hl; simp at hl; omega
        · exact k5.trans (k6.trans ((Same.kp (same_new ht)).trans (of7.kp.trans (Same.kp (same_new hp)))))
        · have e7 : H7 t = some (.tup (ns.map vi)) := of7.at ntb upd_same
          refine .tup (SqT.of upd_same) (.cons (.str _) (.cons (.int _) (.cons (.tup (SqT.of ?_) (dpA_nums.mpr rfl)) (.cons (.int _) .nil))))
          rw [upd_ne (ne_of_none e7 hp)]
          exact e7
    walk_at "go"
    have hzl : 2 ≤ (tl z).length := hz.lo
    have hzh : (tl z).length ≤ 12 := hz.hi
    have lz : z.length = (tl z).length := len_tl z
    refine ⟨_, _, rfl, lenS (by rw [len_tl]; exact Nat.le_of_lt (line_small (by omega))), ?_⟩
    walk_at "go"
    refine r_I (.inl ⟨by decide, by decide⟩) ?_
    walk_at "go"
    refine r_I ⟨by omega, by omega⟩ ?_
    generalize room.fdiv (3 * (z.length : Int)) = q
    walk_at "go"
    refine ⟨_, _, rfl, ?_⟩
    walk_at "go"
    refine ⟨_, _, rfl, ?_⟩
    obtain ⟨M, hM, M1, M60⟩ : ∃ M : Nat, (if (if q < 60 then q else 60) > 1 then (if q < 60 then q else 60) else 1) = (M : Int) ∧ 1 ≤ M ∧ M ≤ 60 := by
      refine ⟨(if (if q < 60 then q else 60) > 1 then (if q < 60 then q else 60) else 1).toNat, (Int.toNat_of_nonneg ?_).symm, ?_, ?_⟩ <;> (repeat' split) <;> omega
    rw [hM]
    refine K1.r_name ?_
    try dsimp only [List.set]
    refine K1.r_seq ?_
    refine K1.r_asg ?_
    refine r_ifJ (fun x Hm => ∃ mv : Nat, x = .int mv ∧ 1 ≤ mv ∧ mv ≤ 60 ∧ IsBag Hm b (n + 2) ∧ Kp b H Hm) (fun Q' hQ => ?_) ?_
    · walk_at "go"
      refine r_ite (fun h6 => ?_) (fun h6 => ?_)
      · walk_at "go"
        refine ⟨_, _, rfl, ?_⟩
        walk_at "go"
        refine ⟨_, _, n + 1, rfl, hb1, by omega, by split <;> omega, fun r H2 r0 r1 hb2 of2 => ?_⟩
        walk_at "go"
        have r1' : r < 60 := by
          rcases r1 with r1 | r1
          · split at r1 <;> omega
          · omega
        have r3 : r + 1 ≤ 60 := by omega
        obtain ⟨mv, hmv⟩ : ∃ mv : Nat, 1 + r = (mv : Int) := ⟨(1 + r).toNat, by omega⟩
        rw [hmv]
        exact hQ _ _ ⟨mv, rfl, by omega, by omega, hb2, k1.trans of2.kp⟩
      · walk_at "go"
        exact hQ _ _ ⟨M, rfl, M1, M60, hb1.mono (by omega), k1⟩
    rintro x Hm ⟨mv, rfl, mv1, mv60, hbm, km⟩
    walk_at "go"
    refine ⟨by omega, by omega, fun D hD => ?_⟩
    have nDb := hbm.ne hD
    have hDH : H D = none := by
      obtain ⟨_, _, _, e, _⟩ := id hbm
      exact Kp.free km e hD
    refine lc_gen (walk_rng (lo := 0) (n := mv)) (fun _ => rfl) (fun acc H' => ∃ rws : List (List Nat), DpAll K H' acc (rws.map rowD) ∧ rws.length = acc.length ∧ (∀ r ∈ rws, r.length = (tl z).length ∧ ∀ x ∈ r, x < mv) ∧ IsBag H' b (n + 2 + 13 * acc.length) ∧ Kp b H H')
      ⟨[], .nil, rfl, (fun x h => absurd h (by simp)), (hbm.new hD), kp_upd' km hDH⟩ (fun _ _ _ _ => trivial) ?_ ?_
    · rintro i x acc H' hx hl hacc ⟨rws, hdp, hrl, hrw, hbi, ki⟩
      have hic : i < mv := by have := (List.getElem?_eq_some_iff.mp hx).1; rw [List.length_map, List.length_range] at this; exact this
      rw [hl] at hbi
      walk_at "go"
      intro D2 hD2
      have nD2b := hbi.ne hD2
      refine lc_gen walk_sgn (fun _ => rfl) (fun acc2 H'' => ∃ xs : List Nat, acc2 = xs.map vi ∧ (∀ x ∈ xs, x < mv) ∧ IsBag H'' b (n + 2 + 13 * i + acc2.length) ∧ Kp b H' H'') ⟨[], rfl, (fun x h => absurd h (by simp)), hbi.new hD2, Same.kp (same_new hD2)⟩ (fun _ _ _ _ => trivial) ?_ ?_
      · rintro j y acc2 H2 hy hl2 hacc2 ⟨xs, rfl, hxs, hb2, k2⟩
        have hjz : j < (tl z).length := by have := (List.getElem?_eq_some_iff.mp hy).1; rw [List.length_map, sgn_len, len_tl] at this; exact this
        rw [hl2] at hb2
        walk_at "go"
        refine ⟨_, _, n + 2 + 13 * i + j, rfl, hb2, by omega, by omega, fun r H3 r0 r1' hb3 of3 => ?_⟩
        have e3 := of3.at nD2b hacc2
        refine pp_next e3 hl2 (line_small (by omega)) ⟨xs ++ [r.toNat], ?_, ?_, ?_, ?_⟩
        · rw [List.map_append]
          show _ = xs.map vi ++ [V.int (r.toNat : Int)]
          rw [Int.toNat_of_nonneg r0]
        · intro x hx
          rcases List.mem_append.mp hx with hx | hx
          · exact hxs x hx
          · simp only [List.mem_cons, List.not_mem_nil, or_false] at hx
            omega
        · rw [List.length_append, hl2]
          exact bag_upd hb3 nD2b
        · exact kp_upd' (k2.trans of3.kp) hD2
      · rintro acc2 H2 hl2 hacc2 ⟨xs, rfl, hxs, hb2, k2⟩
        rw [List.length_map, List.length_map, sgn_len, len_tl] at hl2
        rw [List.length_map, hl2] at hb2
        walk_at "go"
        refine ⟨_, _, rfl, .inl ⟨SqL.of hacc2, fun t ht => ?_⟩⟩
        have eD : H2 D = some (.lst acc) := k2 _ _ nDb hacc
        have ntD : D ≠ t := ne_of_none eD ht
        have ntb := hb2.ne ht
        have eD' : (upd H2 t (.tup (xs.map vi))) D = some (.lst acc) := by rw [upd_ne ntD]; exact eD
        have kt1 : KT K H' (upd (upd H2 t (.tup (xs.map vi))) D (.lst (acc ++ [.ref t]))) := KT.trans (bag_kt hbi k2) (KT.trans (Same.kt (same_new ht)) (kt_lst eD'))
        have kt2 : KT K (upd H2 t (.tup (xs.map vi))) (upd (upd H2 t (.tup (xs.map vi))) D (.lst (acc ++ [.ref t]))) := kt_lst eD'
        refine pp_next eD' hl (line_small (by omega)) ⟨rws ++ [xs], ?_, ?_, ?_, ?_, ?_⟩
        · rw [List.map_append]
          exact dpA_app (dpA_pure kt1 _ _ (pureA_iff.mpr fun d hd => by obtain ⟨r, _, rfl⟩ := List.mem_map.mp hd; exact rowD_pure r) hdp) (.cons (.tup (kt2 _ _ (SqT.of upd_same)) (dpA_nums.mpr rfl)) .nil)
        · rw [List.length_append, List.length_append, hrl]; rfl
        · intro r hr'
          rcases List.mem_append.mp hr' with hr' | hr'
          · exact hrw r hr'
          · simp only [List.mem_cons, List.not_mem_nil, or_false] at hr'
            rw [hr']
            exact ⟨hl2, hxs⟩
        · rw [List.length_append, hl]
          exact bag_upd (bag_upd (hb2.mono (by show _ ≤ n + 2 + 13 * (i + 1); omega)) ntb) nDb
        · exact kp_upd' (ki.trans (k2.trans (Same.kp (same_new ht)))) hDH
    · rintro acc H6 hl hacc ⟨rws, hdp, hrl, hrw, hb6, k6⟩
      rw [List.length_map, List.length_range] at hl
      rw [hl] at hb6 hrl
      walk_at "go"
      refine ⟨by omega, by omega, fun D2 hD2 => ?_⟩
      have nD2b := hb6.ne hD2
      have nDD2 : D ≠ D2 := ne_of_none hacc hD2
      refine lc_it walk_range (fun i H' => ∃ gs : List Nat, H' D2 = some (.lst (gs.map vi)) ∧ gs.length ≤ i ∧ (∀ g ∈ gs, g < i) ∧ IsBag H' b (n + 2 + 13 * mv + i) ∧ Kp b H6 H') ⟨[], upd_same, Nat.le_refl _, (fun g h => absurd h (by simp)), hb6.new hD2, Same.kp (same_new hD2)⟩ (fun _ _ _ _ => trivial) ?_ ?_
      · rintro i x H1' H2 hi ⟨gs, hgs, hgl, hgb, hbi, ki⟩ ⟨rfl, rfl⟩
        refine ⟨rfl, ?_⟩
        walk_at "go"
        refine ⟨_, _, _, rfl, hbi, by omega, by decide, fun r H3 r0 r1' hb3 of3 => ?_⟩
        have e3 := of3.at nD2b hgs
        walk_at "go"
        refine r_ite (fun hz0 => ?_) (fun hz0 => ?_)
        · walk_at "go"
          refine ⟨_, e3, by rw [List.length_map]; exact line_small (by omega), gs ++ [i], ?_, ?_, ?_, ?_, ?_⟩
          · rw [upd_same, List.map_append]
            show some (HO.lst (gs.map vi ++ [V.int (0 + (i : Int))])) = some (HO.lst (gs.map vi ++ [V.int (i : Int)]))
            rw [Int.zero_add]
          · rw [List.length_append]; simp only [List.length_cons, List.length_nil]; omega
          · intro g hg
            rcases List.mem_append.mp hg with hg | hg
            · have := hgb g hg; omega
            · simp only [List.mem_cons, List.not_mem_nil, or_false] at hg
              omega
          · exact bag_upd hb3 nD2b
          · exact kp_upd' (ki.trans of3.kp) hD2
        · exact ⟨gs, e3, by omega, fun g hg => by have := hgb g hg; omega, hb3, ki.trans of3.kp⟩
      · rintro H7 ⟨gs, hgs, hgl, hgb, hb7, k7⟩
        have eD : H7 D = some (.lst acc) := k7 _ _ nDb hacc
        walk_at "go"
        refine ⟨_, _, rfl, .inl ⟨SqL.of eD, fun t ht => ?_⟩⟩
        have s8 := same_new (o := HO.tup acc) ht
        have kt8 : KT K H6 (upd H7 t (.tup acc)) := KT.trans (bag_kt hb6 k7) (Same.kt s8)
        have d8 : Dp K (upd H7 t (.tup acc)) (.ref t) (.tuple (rws.map rowD)) := .tup (SqT.of upd_same) (dpA_pure kt8 _ _ (pureA_iff.mpr fun d hd => by obtain ⟨r, _, rfl⟩ := List.mem_map.mp hd; exact rowD_pure r) hdp)
        have fin : ∀ (H9 : Hp) (u p : Addr) (gs' : List Nat), Same (upd H7 t (.tup acc)) H9 → H9 u = some (.tup (gs'.map vi)) → Nums 59 gs' → H9 p = none → Q (.ref p) (upd H9 p (.tup [.str "square", .ref t, .ref u])) := by
          intro H9 u p gs' s9 eu hN hp
          refine k _ _ (.square rws gs') ⟨?_, by omega, ?_, hN⟩ rfl ?_ ?_ ?_
          · intro q; rw [q] at hrl; simp at hrl; omega
          · intro r hr'
            have := hrw r hr'
            exact ⟨by omega, by omega, fun x hx => by have := this.2 x hx; omega⟩
          · have hb8 : IsBag (upd H7 t (.tup acc)) b (n + 1000) := (hb7.mono (by omega)).new ht
            obtain ⟨d, sl, c, e, rr⟩ := hb8
            exact ⟨d, sl, c, by rw [upd_ne (ne_of_none (s9 _ _ e) hp)]; exact s9 _ _ e, rr⟩
          · exact k6.trans (k7.trans ((Same.kp s8).trans ((Same.kp s9).trans (Same.kp (same_new hp)))))
          · have s10 := same_new (o := HO.tup [.str "square", .ref t, .ref u]) hp
            refine .tup (SqT.of upd_same) (.cons (.str _) (.cons ?_ (.cons (.tup (SqT.of ?_) (dpA_nums.mpr rfl)) .nil)))
            · exact dp_pure (KT.trans (Same.kt s9) (Same.kt s10)) _ _ (pureA_iff.mpr fun d hd => by obtain ⟨r, _, rfl⟩ := List.mem_map.mp hd; exact rowD_pure r) d8
            · rw [upd_ne (ne_of_none eu hp)]; exact eu
        have eG : (upd H7 t (.tup acc)) D2 = some (.lst (gs.map vi)) := s8 _ _ hgs
        walk_at "go"
        refine ⟨!(gs.map vi).isEmpty, .inl ⟨_, SqL.of eG, rfl⟩, ?_⟩
        refine r_iteB (fun hne => ?_) (fun he => ?_)
        · walk_at "go"
          refine ⟨_, _, rfl, .inl ⟨SqL.of eG, fun u hu => ?_⟩⟩
          walk_at "go"
          refine ⟨(by show 3 ≤ sizeLine; decide), fun p hp => ?_⟩
          refine fin _ u p gs (same_new hu) upd_same ⟨?_, by omega, fun g hg => by have := hgb g hg; omega⟩ hp
          intro q; rw [q] at hne; simp at hne
        · walk_at "go"
          refine ⟨(by show 1 ≤ sizeLine; decide), fun u hu => ?_⟩
          walk_at "go"
          refine ⟨(by show 3 ≤ sizeLine; decide), fun p hp => ?_⟩
          refine fin _ u p [mv - 1] (same_new hu) ?_ ⟨by simp, by simp, fun g hg => by simp at hg; omega⟩ hp
          rw [upd_same]
          show some (HO.tup [V.int ((mv : Int) - 1)]) = some (HO.tup [V.int ((mv - 1 : Nat) : Int)])
          rw [show ((mv : Int) - 1) = ((mv - 1 : Nat) : Int) by omega]
end
end K4

/-! L7h -/


namespace K4
open PySem L2 K1
abbrev sLOdd : Stmt := top 102
abbrev nLOdd : List Str := ["_law_bag", "_law_more", "_law_a"]
theorem scLOdd : FnScope nLOdd ["_law_bag", "_law_more"] (defScope sLOdd) := ⟨rfl, rfl, rfl, by decide +kernel, rfl, by decide +kernel, by decide +kernel⟩
def spOdd : Sp := fun vs H Q _ => ∃ (b m : Addr) (n : Nat) (more : List Str), vs = [.ref b, .ref m] ∧ IsBag H b n ∧ n ≤ 2 ^ 39 ∧ H m = some (.lst (more.map V.str)) ∧ more.length ≤ 1000 ∧ (∀ x ∈ more, x.length ≤ 70 ∧ 32 ∉ tl x) ∧
  ∀ (x : Str) H', x.length ≤ 70 → 32 ∉ tl x → IsBag H' b (n + 2) → Kp b H H' → Q (.str x) H'
def wsum (ws : List Str) : Nat := (ws.map fun x => x.length + 1).sum
theorem wsum_app (a b : List Str) : wsum (a ++ b) = wsum a + wsum b := by
  unfold wsum
  rw [List.map_append, List.sum_append]
theorem wsum_split (ws : List Str) (i : Nat) : wsum (ws.take i) + wsum (ws.drop i) = wsum ws := by rw [← wsum_app, List.take_append_drop]
theorem wsum_take (ws : List Str) (i : Nat) : wsum (ws.take i) ≤ wsum ws := by have := wsum_split ws i; omega
theorem wsum_drop (ws : List Str) (i j : Nat) (h : i ≤ j) : wsum (ws.drop j) ≤ wsum (ws.drop i) := by
  have e : ws.drop j = (ws.drop i).drop (j - i) := by rw [List.drop_drop]; congr 1; omega
  have := wsum_split (ws.drop i) (j - i)
  rw [e]; omega
theorem wsum_le {zs : List Str} {B : Nat} (h : ∀ z ∈ zs, z.length ≤ B) : wsum zs ≤ zs.length * (B + 1) := by
  induction zs with
  | nil => simp [wsum]
  | cons a l ih =>
    have h1 := h a (List.mem_cons_self ..)
    have h2 := ih fun z hz => h z (List.mem_cons_of_mem _ hz)
    have e : wsum (a :: l) = a.length + 1 + wsum l := by simp [wsum]
    rw [e, List.length_cons, Nat.succ_mul]
    omega
/-- words: how many, how long, all together; no blanks in them -/
structure Wi (ws : List Str) (N S B : Nat) : Prop where
  ne : ws ≠ []
  le : ws.length ≤ N
  ea : ∀ x ∈ ws, x.length ≤ B
  nb : ∀ x ∈ ws, 32 ∉ tl x
  su : wsum ws ≤ S
/-- the same, at most one blank in each -/
structure Wo (ws : List Str) (N S B : Nat) : Prop where
  ne : ws ≠ []
  le : ws.length ≤ N
  ea : ∀ x ∈ ws, x.length ≤ B
  nb : ∀ x ∈ ws, (tl x).count 32 ≤ 1
  su : wsum ws ≤ S
theorem no_count {l : List Nat} (h : 32 ∉ l) : l.count 32 ≤ 1 := by rw [List.count_eq_zero.mpr h]; decide
theorem Wi.cat {ws zs : List Str} {N S B a c : Nat} (h : Wi ws N S B) (hz : zs ≠ []) (k : ∀ z ∈ zs, z.length ≤ B + 1 ∧ (tl z).count 32 ≤ 1) (l : a + zs.length + (ws.length - c) ≤ N + 1) (ac : a ≤ c) (z2 : zs.length ≤ 2) : Wo (ws.take a ++ (zs ++ ws.drop c)) (N + 1) (S + 2 * (B + 2)) (B + 1) := by
  refine ⟨by simp [hz], ?_, fun x hx => ?_, fun x hx => ?_, ?_⟩
  · rw [List.length_append, List.length_append, List.length_take, List.length_drop]
    omega
  · rcases List.mem_append.mp hx with q | q
    · exact Nat.le_succ_of_le (h.ea x (List.mem_of_mem_take q))
    · rcases List.mem_append.mp q with q | q
      · exact (k x q).1
      · exact Nat.le_succ_of_le (h.ea x (List.mem_of_mem_drop q))
  · rcases List.mem_append.mp hx with q | q
    · exact no_count (h.nb x (List.mem_of_mem_take q))
    · rcases List.mem_append.mp q with q | q
      · exact (k x q).2
      · exact no_count (h.nb x (List.mem_of_mem_drop q))
  · rw [wsum_app, wsum_app]
    have a1 := wsum_split ws a
    have a2 := wsum_drop ws a c ac
    have a3 := wsum_le fun z hz => (k z hz).1
    have a4 : zs.length * (B + 1 + 1) ≤ 2 * (B + 2) := Nat.mul_le_mul z2 (by omega)
    have a5 := h.su
    omega
theorem Wi.out {ws vs : List Str} {N S B : Nat} (h : Wi ws N S B) (n : vs ≠ []) (l : vs.length ≤ N + 1) (k : ∀ z ∈ vs, z ∈ ws) (s : wsum vs ≤ wsum ws) : Wo vs (N + 1) (S + 2 * (B + 2)) (B + 1) :=
  ⟨n, l, fun x hx => Nat.le_succ_of_le (h.ea x (k x hx)), fun x hx => no_count (h.nb x (k x hx)), by have := h.su; omega⟩
def spSpoilt : Sp := fun vs H Q _ => ∃ (b p m : Addr) (ws more : List Str) (n N S B : Nat), vs = [.ref b, .ref p, .ref m] ∧ IsBag H b n ∧ n ≤ 2 ^ 38 ∧ H p = some (.lst (ws.map V.str)) ∧ H m = some (.lst (more.map V.str)) ∧ more.length ≤ 1000 ∧ (∀ x ∈ more, x.length ≤ 70 ∧ 32 ∉ tl x) ∧ Wi ws N S B ∧ N ≤ 400 ∧ 70 ≤ B ∧ B ≤ 3000 ∧
  ∀ (ws' : List Str) q H', Wo ws' (N + 1) (S + 2 * (B + 2)) (B + 1) → IsBag H' b (n + 10) → Kp b H H' → H' q = some (.lst (ws'.map V.str)) → Q (.ref q) H'
theorem tru_lst {K : PySem.W.Frag} {H : Hp} {a : Addr} {xs : List V} {k : Bool} (h : SqL K H a xs) (e : k = !xs.isEmpty) : TruV K (.ref a) H k := .inl ⟨xs, h, e⟩
theorem new_end {H H1 : Hp} {p : Addr} {o : HO} (hp : H p = none) (e : upd H p o = H1) : Same H H1 ∧ H1 p = some o := by
  subst e
  exact ⟨same_new hp, upd_same⟩
theorem cat_new {H : Hp} {Q : VK} {p0 : Addr} {xs ys : List V} (e : H p0 = some (.lst xs)) (l : xs.length + ys.length ≤ 1000) (q : ∀ H' p, Same H H' → H' p = some (.lst (xs ++ ys)) → Q (.ref p) H') :
    ys.length ≤ sizeLine ∧ ∀ p, H p = none → rCat (.ref p0) (.ref p) (upd H p (.lst ys)) Q :=
  ⟨Nat.le_of_lt (line_small (by omega)), fun p hp => ⟨p0, p, xs, ys, rfl, rfl, same_new hp _ _ e, upd_same, Nat.le_of_lt (line_small l), fun r hr => q _ r (Same.trans (same_new hp) (same_new hr)) upd_same⟩⟩
theorem cat_two {H : Hp} {Q : VK} {p0 p1 : Addr} {xs ys : List V} (e : H p0 = some (.lst xs)) (e1 : H p1 = some (.lst ys)) (l : xs.length + ys.length ≤ 1000) (q : ∀ H' p, Same H H' → H' p = some (.lst (xs ++ ys)) → Q (.ref p) H') : rCat (.ref p0) (.ref p1) H Q :=
  ⟨p0, p1, xs, ys, rfl, rfl, e, e1, Nat.le_of_lt (line_small l), fun r hr => q _ r (same_new hr) upd_same⟩
theorem sl_new {K : PySem.W.Frag} {H : Hp} {Q : VK} {p0 : Addr} {xs : List V} {lo hi : Option Int} (e : H p0 = some (.lst xs)) (q : ∀ H' p, Same H H' → H' p = some (.lst (cutV xs lo hi)) → Q (.ref p) H') : rSlL K (.ref p0) lo hi H Q :=
  r_slL (SqL.of e) fun p hp => q _ p (same_new hp) upd_same
theorem _root_.K1.IsBag.same {H H' : Hp} {b : Addr} {n : Nat} (h : IsBag H b n) (s : Same H H') : IsBag H' b n := by
  obtain ⟨d, x, c, e, r⟩ := h
  exact ⟨d, x, c, s _ _ e, r⟩
theorem ne_bagS {H : Hp} {b l : Addr} {n : Nat} {ys : List Str} (h : IsBag H b n) (e : H l = some (.lst (ys.map V.str))) : l ≠ b := fun q => by
  obtain ⟨d, c1, c2, e1, _⟩ := h
  rw [q, e1] at e
  have := HO.lst.inj (Option.some.inj e)
  cases ys with
  | nil => cases this
  | cons a as => cases this
theorem r_ifsJ {c : TT} {u w : TS} {σ : L2.St} {H : Hp} {nx : L2.St → Hp → Prop} {rt : VK} {bk ct : L2.St → Hp → Prop} (A : L2.St → Hp → Prop)
    (q : ∀ nx' : L2.St → Hp → Prop, (∀ σ H, A σ H → nx' σ H) → tIfS c u w ⟨nx', rt, bk, ct⟩ σ H) (key : ∀ σ H, A σ H → nx σ H) : tIfS c u w ⟨nx, rt, bk, ct⟩ σ H := q nx key
def oddV : V → Bool
  | .str s => decide (s.length ≤ 70) && !(tl s).contains 32
  | _ => false
section
variable {P : Program} {w : World} {K : PySem.W.Frag} {mg : Str → Option Value} {base : Heap} {dO dI : Addr}
theorem ok_odd {f : Addr} {fd : FuncData} (F : Fun K "_law_odd_word" "_law_odd_word" sLOdd f fd) (B : Bl mg) (Op : OPick P w K mg base) (Oo : OOneOf P w K mg base) : FnOk P w K mg base CX0 3 f fd ["_law_bag", "_law_more"] spOdd := by
  refine F.ok scLOdd (fun vs H Q E h => ?_) (fun cdv A outer s H vs Q E hr h => ?_)
  · obtain ⟨b, m, n, more, rfl, _⟩ := h
    rfl
  · obtain ⟨b, m, n, more, rfl, hb, hn, hm, hml, hmo, k⟩ := h
    have nmb : m ≠ b := ne_bagS hb hm
    refine ⟨_, (pss_cons (ps_if (PW.pt (pw_and (pt_truth (pv 1) (by intro _; rfl)) (pw_and1 (pt_cmpR op_eq (pe_own Op (hr.mono (by omega)) (pa_cons (pv 0) (pa_cons pe_int pa_nil))) pe_int (nomark _))))) (pss_one (ps_ret (pe_own Oo hr (pa_cons (pv 0) (pa_cons (pv 1) pa_nil))))) pss_nil) (pss_cons (ps_set (i := 2) scLOdd.nd rfl (Or.inl rfl) (pe_lst (pa_cons pe_str (pa_cons pe_str (pa_cons pe_str (pa_cons pe_str (pa_cons pe_str (pa_cons pe_str (pa_cons pe_str (pa_cons pe_str (pa_cons pe_str (pa_cons pe_str (pa_cons pe_str (pa_cons pe_str (pa_cons pe_str (pa_cons pe_str (pa_cons pe_str (pa_cons pe_str (pa_cons pe_str (pa_cons pe_str (pa_cons pe_str pa_nil))))))))))))))))))))) (pss_cons (ps_set (i := 2) scLOdd.nd rfl (Or.inl rfl) (pe_op op_cat (pv 2) (pe_lst (pa_cons pe_str (pa_cons pe_str (pa_cons pe_str (pa_cons pe_str (pa_cons pe_str (pa_cons pe_str (pa_cons pe_str (pa_cons pe_str (pa_cons pe_str (pa_cons pe_str (pa_cons pe_str pa_nil)))))))))))))) (pss_cons (ps_set (i := 2) scLOdd.nd rfl (Or.inl rfl) (pe_op op_cat (pv 2) (pe_lst (pa_cons pe_str (pa_cons pe_str (pa_cons pe_str (pa_cons pe_str (pa_cons pe_str (pa_cons pe_str (pa_cons pe_str (pa_cons pe_str (pa_cons pe_str (pa_cons pe_str (pa_cons pe_str (pa_cons pe_str pa_nil))))))))))))))) (pss_cons (ps_set (i := 2) scLOdd.nd rfl (Or.inl rfl) (pe_op op_cat (pv 2) (pe_lst (pa_cons pe_str (pa_cons pe_str (pa_cons pe_str (pa_cons pe_str (pa_cons pe_str (pa_cons pe_str (pa_cons pe_str (pa_cons pe_str (pa_cons pe_str (pa_cons pe_str (pa_cons pe_str (pa_cons pe_str (pa_cons pe_str pa_nil)))))))))))))))) (pss_one (ps_ret (pe_own Oo hr (pa_cons (pv 0) (pa_cons (pe_op op_cat (pv 2) (pe_lst (pa_cons pe_str (pa_cons pe_str (pa_cons pe_str (pa_cons pe_str (pa_cons pe_str pa_nil))))))) pa_nil)))))))))), ?_⟩
    try dsimp only [cxOf, Cx.nox, Cx.wish]
    refine K1.r_seq ?_
    refine r_ifsJ (fun σ' H1 => σ' = L2.start nLOdd [.ref b, .ref m] ∧ ∃ n1, n1 ≤ n + 1 ∧ IsBag H1 b n1 ∧ Kp b H H1) (fun nx' hn' => ?_) ?_
    · walk_at "go"
      by_cases he : more = []
      · refine ⟨false, tru_lst (SqL.of hm) (by rw [he]; rfl), ?_⟩
        walk_at "go"
        exact hn' _ _ ⟨rfl, n, by omega, hb, Kp.refl _ _⟩
      · refine ⟨true, tru_lst (SqL.of hm) (by cases more with | nil => exact absurd rfl he | cons x xs => rfl), ?_⟩
        walk_at "go"
        refine ⟨b, 2, n, rfl, hb, by omega, by decide, fun r H1 r0 r1 hb1 of1 => ?_⟩
        walk_at "go"
        refine r_ite (fun h => ?_) (fun h => ?_)
        · walk_at "go"
          refine ⟨b, _, more.map V.str, n + 1, rfl, hb1, by omega, .inr ⟨m, rfl, SqL.of (of1.at nmb hm), nmb, by rw [List.length_map]; exact hml⟩, (by simp [he]), fun x H6 hx hb6 of6 => ?_⟩
          obtain ⟨y, hy, rfl⟩ := List.mem_map.mp hx
          exact k y H6 (hmo y hy).1 (hmo y hy).2 hb6 (of1.kp.trans of6.kp)
        · walk_at "go"
          exact hn' _ _ ⟨rfl, n + 1, Nat.le_refl _, hb1, of1.kp⟩
    rintro σ' H0 ⟨rfl, n1, hn1, hb0, kp0⟩
    walk_at "go"
    refine ⟨(by show 19 ≤ sizeLine; decide), fun p0 h0 => ?_⟩
    generalize hH : upd H0 p0 _ = H1
    obtain ⟨s0, e0⟩ := new_end h0 hH
    walk_at "go"
    refine cat_new e0 ?_ (fun H2 p1 s1 e1 => ?_)
    · decide
    walk_at "go"
    refine cat_new e1 ?_ (fun H3 p2 s2 e2 => ?_)
    · decide
    walk_at "go"
    refine cat_new e2 ?_ (fun H4 p3 s3 e3 => ?_)
    · decide
    walk_at "go"
    refine cat_new e3 ?_ (fun H5 p4 s4 e4 => ?_)
    · decide
    have sm : Same H0 H5 := s0.trans (s1.trans (s2.trans (s3.trans s4)))
    have hb5 := IsBag.same (hb0.mono hn1) sm
    clear e0 e1 e2 e3
    revert e4
    generalize hit : (_ ++ _ : List V) = items
    intro e4
    have key : items.length ≤ 100 ∧ items.all oddV = true ∧ items ≠ [] := by
      subst hit
      exact ⟨by decide, by decide +kernel, by simp⟩
    refine ⟨b, _, items, n + 1, rfl, hb5, by omega, .inr ⟨p4, rfl, SqL.of e4, ?_, by omega⟩, key.2.2, fun x H6 hx hb6 of6 => ?_⟩
    · intro q
      obtain ⟨d, c1, c2, e, _⟩ := hb5
      rw [q, e] at e4
      have := HO.lst.inj (Option.some.inj e4)
      rw [← this] at key
      exact absurd key.2.1 (by simp [oddV])
    · have := List.all_eq_true.mp key.2.1 x hx
      cases x with
      | str s =>
        have this2 : (decide (s.length ≤ 70) && !(tl s).contains 32) = true := this
        rw [Bool.and_eq_true, decide_eq_true_iff] at this2
        exact k s H6 this2.1 (fun q => by
          have c1 := List.contains_iff_mem.mpr q
          rw [c1] at this2
          exact absurd this2.2 (by decide)) hb6 (kp0.trans (Kp.trans (Same.kp sm) of6.kp))
      | _ => cases this
end
end K4

/-! L7m -/


namespace K1
open PySem L2
def spMixedL : Sp := fun vs H Q _ => ∃ (b R : Addr) (zs : List V) (n : Nat), vs = [.ref b, .ref R] ∧ IsBag H b n ∧ n + zs.length ≤ 2 ^ 40 ∧ H R = some (.lst zs) ∧ R ≠ b ∧ zs.length ≤ 1000 ∧
  ∀ (ys : List V) H' p, ys.Perm zs → IsBag H' b (n + zs.length) → Kp b H H' → H p = none → H' p = some (.lst ys) → p ≠ b → Q (.ref p) H'
section
variable {P : Program} {w : World} {K : PySem.W.Frag} {mg : Str → Option Value} {base : Heap}
theorem ok_mixedL {f : Addr} {fd : FuncData} (F : Fun K "_law_mixed" "_law_mixed" sMixed f fd) (B : Bl mg) (Op : OPick P w K mg base) : FnOk P w K mg base CX0 2 f fd ["_law_bag", "_law_row"] spMixedL := by
  refine F.ok scMixed (fun vs H Q E h => ?_) (fun cdv A outer s H vs Q E hr h => ?_)
  · obtain ⟨b, R, zs, n, rfl, _⟩ := h
    rfl
  · obtain ⟨b, R, zs, n, rfl, hb, hn, eR, nRb, hz, k⟩ := h
    refine ⟨_, pss_cons (ps_set (i := 2) scMixed.nd rfl (Or.inl rfl) (pe_callTy call_list_of (by rfl) B.list (by decide +kernel) (pa_cons (pv 1) pa_nil)))
      (pss_cons (ps_set (i := 3) scMixed.nd rfl (Or.inl rfl) (pe_lst pa_nil))
      (pss_cons (ps_for PassesOwn.never rfl (pi_range1 rfl B.range (pa_cons (pe_callB call_len (by rfl) B.len PySem.boot_len (pa_cons (pv 1) pa_nil)) pa_nil)) (pg_name (i := 4) scMixed.nd rfl (Or.inl rfl))
        (pss_one (ps_expr (pe_bm PySem.F.plainAttrs_list PySem.F.slot_list_append PySem.F.type_list_append mt_append (pv 3) (pa_cons
          (pe_bm PySem.F.plainAttrs_list PySem.F.slot_list_pop PySem.F.type_list_pop mt_popAt (pv 2) (pa_cons
            (pe_own Op hr (pa_cons (pv 0) (pa_cons (pe_callB call_len (by rfl) B.len PySem.boot_len (pa_cons (pv 2) pa_nil)) pa_nil))) pa_nil)) pa_nil)))))
      (pss_one (ps_ret (pv 3))))), ?_⟩
    try dsimp only [cxOf, Cx.nox, Cx.wish]
    walk_at "go"
    refine ⟨R, _, rfl, .inl (SqL.of eR), fun L hL => ?_⟩
    walk_at "go"
    refine ⟨Nat.zero_le _, fun T hT => ?_⟩
    have nLb : L ≠ b := fun q => by obtain ⟨_, _, _, e, _⟩ := hb; rw [q, e] at hL; cases hL
    have nTL : T ≠ L := fun q => by rw [q, upd_same] at hT; cases hT
    rw [upd_ne nTL] at hT
    have nTb : T ≠ b := fun q => by obtain ⟨_, _, _, e, _⟩ := hb; rw [q, e] at hT; cases hT
    walk_at "go"
    have sLT : Same H (upd (upd H L (.lst zs)) T (.lst [])) := Same.trans (same_new (o := HO.lst zs) hL) (same_new (by rw [upd_ne nTL]; exact hT))
    refine ⟨_, _, rfl, lenL (SqL.of (sLT _ _ eR)), ?_⟩
    walk_at "go"
    refine ⟨by omega, by omega, fr_range (lo := 0) (n := zs.length) (fun i σ H' => ∃ (kk : Option V) (xs ys : List V), σ = [some (.ref b), some (.ref R), some (.ref L), some (.ref T), kk] ∧ H' L = some (.lst xs) ∧ H' T = some (.lst ys) ∧
        (ys ++ xs).Perm zs ∧ ys.length = i ∧ IsBag H' b (n + i) ∧ Kp b H H') ?_ ?_ ?_⟩
    · refine ⟨none, zs, [], rfl, ?_, upd_same, List.Perm.refl _, rfl, ?_, ?_⟩
      · rw [upd_ne nTL.symm, upd_same]
      · obtain ⟨d, s, c, e, r⟩ := hb
        exact ⟨d, s, c, by rw [upd_ne nTb.symm, upd_ne nLb.symm]; exact e, r⟩
      · exact Same.kp sLT
    · rintro i σ H' hi ⟨kk, xs, ys, rfl, eL, eT, pm, ly, hb', kp⟩
      have lxs : xs.length = zs.length - i := by
        have := pm.length_eq
        rw [List.length_append] at this
        omega
      walk_at "go"
      refine ⟨tyL (SqL.of eT), ?_⟩
      walk_at "go"
      refine ⟨tyL (SqL.of eL), ?_⟩
      walk_at "go"
      refine ⟨_, _, rfl, lenL (SqL.of eL), ?_⟩
      walk_at "go"
      refine ⟨_, _, _, rfl, hb', by omega, by omega, fun r H2 r0 r1 hb2 off => ?_⟩
      have hr1 : r < xs.length := by omega
      have hj : r.toNat < xs.length := by omega
      walk_at "go"
      have eL2 := off.at nLb eL
      have eT2 := off.at nTb eT
      refine ⟨L, xs, r, r.toNat, xs[r.toNat], rfl, rfl, eL2, by omega, by omega, seqIx r0 hr1, by simp [hj], ?_⟩
      walk_at "go"
      refine ⟨T, ys, _, rfl, rfl, by rw [upd_ne nTL]; exact eT2, small1000 (by omega), ?_⟩
      walk_at "go"
      refine ⟨some (.int (0 + i)), xs.eraseIdx r.toNat, ys ++ [xs[r.toNat]], rfl, ?_, ?_, ?_, by simp [ly], ?_, ?_⟩
      · rw [upd_ne nTL.symm, upd_same]
      · rw [upd_same]
      · refine List.Perm.trans ?_ pm
        rw [List.append_assoc]
        exact (List.Perm.append_left ys (erase_perm hj))
      · obtain ⟨d, s, c, e, q⟩ := hb2
        exact ⟨d, s, c, by rw [upd_ne nTb.symm, upd_ne nLb.symm]; exact e, q⟩
      · intro c o hc e
        have n1 : c ≠ L := fun q => by rw [q, hL] at e; cases e
        have n2 : c ≠ T := fun q => by rw [q, hT] at e; cases e
        rw [upd_ne n2, upd_ne n1]
        exact off.at hc (kp c o hc e)
    · rintro σ H' ⟨kk, xs, ys, rfl, eL, eT, pm, ly, hb', kp⟩
      walk_at "go"
      have lx : xs = [] := by
        have := pm.length_eq
        rw [List.length_append] at this
        exact List.eq_nil_of_length_eq_zero (by omega)
      subst lx
      rw [List.append_nil] at pm
      exact k ys H' T pm hb' kp hT eT nTb

end
end K1

/-! L7j -/


namespace K4
open PySem L2 K1
abbrev sLSpoilt : Stmt := top 103
abbrev nLSpoilt : List Str := ["_law_bag", "_law_words", "_law_more", "_law_way", "_law_at", "_law_place", "_law_letter", "_law_rest", "_law_fresh"]
theorem scLSpoilt : FnScope nLSpoilt ["_law_bag", "_law_words", "_law_more"] (defScope sLSpoilt) := ⟨rfl, rfl, rfl, by decide +kernel, rfl, by decide +kernel, by decide +kernel⟩
theorem cut_to (z : Str) (j : Nat) : (cutS z none (some (j : Int))).length ≤ j := by
  unfold cutS
  rw [HT.sIx_nat, HT.sIx_none]
  show (List.toArray _).size ≤ j
  rw [List.size_toArray, List.length_take]
  omega
theorem cut_from (z : Str) (j : Nat) : (cutS z (some (j : Int)) none).length ≤ z.length - j := by
  unfold cutS
  rw [HT.sIx_nat, HT.sIx_none]
  show (List.toArray _).size ≤ _
  have e : z.cps.toList.length = z.length := by simp [Str.length]
  rw [List.size_toArray, List.length_take, List.length_drop, e]
  omega
theorem cut_mem {z : Str} {lo hi : Option Int} {c : Nat} (h : c ∈ tl (cutS z lo hi)) : c ∈ tl z := by
  unfold cutS at h
  exact List.mem_of_mem_drop (List.mem_of_mem_take h)
theorem add_len (x y : Str) : (x ++ y).length = x.length + y.length := by
  show (x.cps ++ y.cps).size = _
  rw [Array.size_append]
  rfl
section
variable {P : Program} {w : World} {K : PySem.W.Frag} {mg : Str → Option Value} {base : Heap} {dO dI : Addr}
abbrev OOdd (P : Program) (w : World) (K : PySem.W.Frag) (mg : Str → Option Value) (base : Heap) : Prop := Own P w K mg base "_law_odd_word" 3 ["_law_bag", "_law_more"] spOdd
theorem ok_spoilt {f : Addr} {fd : FuncData} (F : Fun K "_law_spoilt_of" "_law_spoilt_of" sLSpoilt f fd) (B : Bl mg) (Op : OPick P w K mg base) (Oo : OOneOf P w K mg base) (Ood : OOdd P w K mg base) : FnOk P w K mg base CX0 4 f fd ["_law_bag", "_law_words", "_law_more"] spSpoilt := by
  refine F.ok scLSpoilt (fun vs H Q E h => ?_) (fun cdv A outer s H vs Q E hr h => ?_)
  · obtain ⟨b, p, m, ws, more, n, N, S, B, rfl, _⟩ := h
    rfl
  · obtain ⟨b, p, m, ws, more, n, N, S, Bd, rfl, hb, hn, hp, hm, hml, hmo, hw, hN, hB1, hB2, k⟩ := h
    have hlw : (ws.map V.str).length = ws.length := List.length_map ..
    have wl := hw.le
    have wp : 0 < ws.length := List.length_pos_iff.mpr hw.ne
    have npb : p ≠ b := ne_bagS hb hp
    have nmb : m ≠ b := ne_bagS hb hm
    refine ⟨_, (pss_cons (ps_set (i := 3) scLSpoilt.nd rfl (Or.inl rfl) (pe_own Op (hr.mono (by omega)) (pa_cons (pv 0) (pa_cons pe_int pa_nil)))) (pss_cons (ps_set (i := 4) scLSpoilt.nd rfl (Or.inl rfl) (pe_own Op (hr.mono (by omega)) (pa_cons (pv 0) (pa_cons (pe_callB call_len (by rfl) B.len PySem.boot_len (pa_cons (pv 1) pa_nil)) pa_nil)))) (pss_cons (ps_if (pt_cmpR op_lt (pv 3) pe_int (nomark _)) (pss_one (ps_ret (pe_op op_cat (pe_op op_cat (pe_slice sl_list (pv 1) po_none (po_some (pv 4))) (pe_lst (pa_cons (pe_own Ood hr (pa_cons (pv 0) (pa_cons (pv 2) pa_nil))) pa_nil))) (pe_slice sl_list (pv 1) (po_some (pe_op op_add (pv 4) pe_int)) po_none)))) pss_nil) (pss_cons (ps_if (pt_cmpR op_eq (pv 3) pe_int (nomark _)) (pss_one (ps_ret (pe_ifExp (pt_cmpR op_gt (pe_callB call_len (by rfl) B.len PySem.boot_len (pa_cons (pv 1) pa_nil)) pe_int (nomark _)) (pe_op op_cat (pe_slice sl_list (pv 1) po_none (po_some (pv 4))) (pe_slice sl_list (pv 1) (po_some (pe_op op_add (pv 4) pe_int)) po_none)) (pe_lst (pa_cons pe_str pa_nil))))) pss_nil) (pss_cons (ps_if (pt_cmpR op_eq (pv 3) pe_int (nomark _)) (pss_cons (ps_set (i := 4) scLSpoilt.nd rfl (Or.inl rfl) (pe_own Op (hr.mono (by omega)) (pa_cons (pv 0) (pa_cons (pe_op op_add (pe_callB call_len (by rfl) B.len PySem.boot_len (pa_cons (pv 1) pa_nil)) pe_int) pa_nil)))) (pss_one (ps_ret (pe_op op_cat (pe_op op_cat (pe_slice sl_list (pv 1) po_none (po_some (pv 4))) (pe_lst (pa_cons (pe_own Ood hr (pa_cons (pv 0) (pa_cons (pv 2) pa_nil))) pa_nil))) (pe_slice sl_list (pv 1) (po_some (pv 4)) po_none))))) pss_nil) (pss_cons (ps_if (pt_cmpR op_eq (pv 3) pe_int (nomark _)) (pss_one (ps_ret (pe_op op_cat (pe_op op_cat (pe_slice sl_list (pv 1) po_none (po_some (pv 4))) (pe_lst (pa_cons (pe_ix ix_list (pv 1) (pv 4) (fun _ _ => rfl)) pa_nil))) (pe_slice sl_list (pv 1) (po_some (pv 4)) po_none)))) pss_nil) (pss_cons (ps_if (pt_cmpR op_eq (pv 3) pe_int (nomark _)) (pss_one (ps_ret (pe_op op_cat (pe_op op_cat (pe_op op_cat (pe_slice sl_list (pv 1) po_none (po_some (pv 4))) (pe_slice sl_list (pv 1) (po_some (pe_op op_add (pv 4) pe_int)) (po_some (pe_op op_add (pv 4) pe_int)))) (pe_lst (pa_cons (pe_ix ix_list (pv 1) (pv 4) (fun _ _ => rfl)) pa_nil))) (pe_slice sl_list (pv 1) (po_some (pe_op op_add (pv 4) pe_int)) po_none)))) pss_nil) (pss_cons (ps_if (pt_cmpR op_eq (pv 3) pe_int (nomark _)) (pss_one (ps_ret (pe_slice sl_list (pv 1) po_none (po_some (pe_op op_add (pv 4) pe_int))))) pss_nil) (pss_cons (ps_set (i := 5) scLSpoilt.nd rfl (Or.inl rfl) (pe_own Op (hr.mono (by omega)) (pa_cons (pv 0) (pa_cons (pe_op op_add (pe_callB call_len (by rfl) B.len PySem.boot_len (pa_cons (pe_ix ix_list (pv 1) (pv 4) (fun _ _ => rfl)) pa_nil)) pe_int) pa_nil)))) (pss_cons (ps_set (i := 6) scLSpoilt.nd rfl (Or.inl rfl) (pe_own Oo (hr.mono (by omega)) (pa_cons (pv 0) (pa_cons pe_str pa_nil)))) (pss_cons (ps_set (i := 7) scLSpoilt.nd rfl (Or.inl rfl) (pe_slice sl_str (pe_ix ix_list (pv 1) (pv 4) (fun _ _ => rfl)) (po_some (pe_op op_add (pv 5) (pe_ix ix_list (pe_lst (pa_cons pe_int (pa_cons pe_int (pa_cons pe_int pa_nil)))) (pe_own Op (hr.mono (by omega)) (pa_cons (pv 0) (pa_cons pe_int pa_nil))) (fun _ _ => rfl)))) po_none)) (pss_cons (ps_set (i := 8) scLSpoilt.nd rfl (Or.inl rfl) (pe_op op_add_str (pe_op op_add_str (pe_slice sl_str (pe_ix ix_list (pv 1) (pv 4) (fun _ _ => rfl)) po_none (po_some (pv 5))) (pe_ifExp (pt_cmpR op_gt (pe_own Op (hr.mono (by omega)) (pa_cons (pv 0) (pa_cons pe_int pa_nil))) pe_int (nomark _)) (pv 6) pe_str)) (pv 7))) (pss_one (ps_ret (pe_op op_cat (pe_op op_cat (pe_slice sl_list (pv 1) po_none (po_some (pv 4))) (pe_lst (pa_cons (pv 8) pa_nil))) (pe_slice sl_list (pv 1) (po_some (pe_op op_add (pv 4) pe_int)) po_none)))))))))))))))), ?_⟩
    try dsimp only [cxOf, Cx.nox, Cx.wish]
    walk_at "go"
    refine ⟨_, _, n, rfl, hb, by omega, by decide, fun way H1 w0 w1 hb1 of1 => ?_⟩
    have w10 : way < 10 := by omega
    walk_at "go"
    have hp1 := of1.at npb hp
    refine ⟨_, _, rfl, lenL (SqL.of hp1), ?_⟩
    walk_at "go"
    refine ⟨_, _, n + 1, rfl, hb1, by omega, by omega, fun at_ H2 a0 a1 hb2 of2 => ?_⟩
    rw [hlw] at a1
    obtain ⟨i, rfl⟩ : ∃ i : Nat, at_ = (i : Int) := ⟨at_.toNat, by omega⟩
    have il : i < ws.length := by omega
    have hp2 := of2.at npb hp1
    have hm2 := of2.at nmb (of1.at nmb hm)
    have k2 : Kp b H H2 := of1.kp.trans of2.kp
    have e1 : ((i : Int) + 1) = ((i + 1 : Nat) : Int) := by omega
    have e2 : ((i : Int) + 2) = ((i + 2 : Nat) : Int) := by omega
    walk_at "go"
    have cT : cutV (ws.map V.str) none (some (i : Int)) = (ws.take i).map V.str := by rw [cutV_take (by omega), List.map_take]; rfl
    have cF : cutV (ws.map V.str) (some ((i : Int) + 1)) none = (ws.drop (i + 1)).map V.str := by rw [e1, cutV_from, List.map_drop]
    have cF0 : cutV (ws.map V.str) (some (i : Int)) none = (ws.drop i).map V.str := by rw [cutV_from, List.map_drop]
    have cF2 : cutV (ws.map V.str) (some ((i : Int) + 2)) none = (ws.drop (i + 2)).map V.str := by rw [e2, cutV_from, List.map_drop]
    have cM : cutV (ws.map V.str) (some ((i : Int) + 1)) (some ((i : Int) + 2)) = ((ws.drop (i + 1)).take 1).map V.str := by
      rw [e1, e2, cutV_mid, List.map_take, List.map_drop, show i + 2 - (i + 1) = 1 by omega]
    have cT1 : cutV (ws.map V.str) none (some ((i : Int) + 1)) = (ws.take (i + 1)).map V.str := by rw [e1, cutV_take (by omega), List.map_take]; rfl
    have lT : ∀ j, ((ws.take j).map V.str).length ≤ ws.length := fun j => by rw [List.length_map, List.length_take]; omega
    have lF : ∀ j, ((ws.drop j).map V.str).length ≤ ws.length := fun j => by rw [List.length_map, List.length_drop]; omega
    refine r_ite (fun h => ?_) (fun h => ?_)
    · walk_at "go"
      refine sl_new hp2 (fun H3 l1 s3 x1 => ?_)
      rw [cT] at x1
      walk_at "go"
      have hb3 := hb2.same s3
      refine ⟨b, m, n + 2, more, rfl, hb3, by omega, s3 _ _ hm2, hml, hmo, fun x H4 hx hxb hb4 k4 => ?_⟩
      walk_at "go"
      refine ⟨(by show 1 ≤ sizeLine; decide), fun p0 h0 => ?_⟩
      have s45 := same_new (o := HO.lst [V.str x]) h0
      refine cat_two (s45 _ _ (k4 _ _ (ne_bagS hb3 x1) x1)) upd_same ?_ (fun H5 l5 s5 x5 => ?_)
      · have := lT i
        simp only [List.length_cons, List.length_nil]; omega
      have s35 := s45.trans s5
      walk_at "go"
      refine sl_new (s35 _ _ (k4 _ _ npb (s3 _ _ hp2))) (fun H6 l6 s6 x6 => ?_)
      rw [cF] at x6
      walk_at "go"
      refine cat_two (s6 _ _ x5) x6 ?_ (fun H7 l7 s7 x7 => ?_)
      · have := lT i; have := lF (i + 1)
        simp only [List.length_append, List.length_cons, List.length_nil] at *; omega
      have s47 := s35.trans (s6.trans s7)
      refine k (ws.take i ++ ([x] ++ ws.drop (i + 1))) l7 H7 (hw.cat (by simp) (fun z hz => ?_) (by simp only [List.length_cons, List.length_nil]; omega) (by omega) (by simp)) ((hb4.mono (by omega)).same s47) (k2.trans ((Same.kp s3).trans (k4.trans (Same.kp s47)))) ?_
      · obtain rfl := List.mem_singleton.mp hz
        exact ⟨by omega, no_count hxb⟩
      · rw [x7]; simp
    walk_at "go"
    refine r_ite (fun h => ?_) (fun h => ?_)
    · walk_at "go"
      refine ⟨_, _, rfl, lenL (SqL.of hp2), ?_⟩
      walk_at "go"
      rw [hlw]
      refine r_ite (fun h1 => ?_) (fun h1 => ?_)
      · walk_at "go"
        refine sl_new hp2 (fun H3 l1 s3 x1 => ?_)
        rw [cT] at x1
        walk_at "go"
        refine sl_new (s3 _ _ hp2) (fun H4 l2 s4 x2 => ?_)
        rw [cF] at x2
        refine cat_two (s4 _ _ x1) x2 ?_ (fun H5 l5 s5 x5 => ?_)
        · have := lT i; have := lF (i + 1)
          omega
        have s25 := s3.trans (s4.trans s5)
        refine k (ws.take i ++ ws.drop (i + 1)) l5 H5 (hw.out ?_ ?_ (fun z hz => ?_) ?_) ((hb2.mono (by omega)).same s25) (k2.trans (Same.kp s25)) (by rw [x5]; simp)
        · intro q
          have := congrArg List.length q
          simp only [List.length_append, List.length_take, List.length_drop, List.length_nil] at this
          omega
        · simp only [List.length_append, List.length_take, List.length_drop]
          omega
        · rcases List.mem_append.mp hz with q | q
          · exact List.mem_of_mem_take q
          · exact List.mem_of_mem_drop q
        · rw [wsum_app]
          have a1 := wsum_split ws i
          have a2 := wsum_drop ws i (i + 1) (by omega)
          omega
      · walk_at "go"
        refine ⟨(by show 1 ≤ sizeLine; decide), fun p0 h0 => ?_⟩
        refine k [""] p0 _ ⟨by simp, by simp, fun z hz => ?_, fun z hz => ?_, ?_⟩ ((hb2.mono (by omega)).new h0) (k2.trans (Same.kp (same_new h0))) upd_same
        · obtain rfl := List.mem_singleton.mp hz
          exact Nat.zero_le _
        · obtain rfl := List.mem_singleton.mp hz
          decide +kernel
        · show 0 + 1 + 0 ≤ _
          omega
    walk_at "go"
    refine r_ite (fun h => ?_) (fun h => ?_)
    · walk_at "go"
      refine ⟨_, _, rfl, lenL (SqL.of hp2), ?_⟩
      walk_at "go"
      rw [hlw]
      refine ⟨_, _, n + 2, rfl, hb2, by omega, by omega, fun j' H3 j0 j1 hb3 of3 => ?_⟩
      obtain ⟨j, rfl⟩ : ∃ j : Nat, j' = (j : Int) := ⟨j'.toNat, by omega⟩
      have jl : j ≤ ws.length := by omega
      have hp3 := of3.at npb hp2
      have hm3 := of3.at nmb hm2
      have cTj : cutV (ws.map V.str) none (some (j : Int)) = (ws.take j).map V.str := by rw [cutV_take (by omega), List.map_take]; rfl
      have cFj : cutV (ws.map V.str) (some (j : Int)) none = (ws.drop j).map V.str := by rw [cutV_from, List.map_drop]
      walk_at "go"
      refine sl_new hp3 (fun H4 l1 s4 x1 => ?_)
      rw [cTj] at x1
      walk_at "go"
      have hb4 := hb3.same s4
      refine ⟨b, m, n + 2 + 1, more, rfl, hb4, by omega, s4 _ _ hm3, hml, hmo, fun x H5 hx hxb hb5 k5 => ?_⟩
      walk_at "go"
      refine ⟨(by show 1 ≤ sizeLine; decide), fun p0 h0 => ?_⟩
      have s56 := same_new (o := HO.lst [V.str x]) h0
      refine cat_two (s56 _ _ (k5 _ _ (ne_bagS hb4 x1) x1)) upd_same ?_ (fun H6 l6 s6 x6 => ?_)
      · have := lT j
        simp only [List.length_cons, List.length_nil]; omega
      have s36 := s56.trans s6
      walk_at "go"
      refine sl_new (s36 _ _ (k5 _ _ npb (s4 _ _ hp3))) (fun H7 l7 s7 x7 => ?_)
      rw [cFj] at x7
      refine cat_two (s7 _ _ x6) x7 ?_ (fun H8 l8 s8 x8 => ?_)
      · have := lT j; have := lF j
        simp only [List.length_append, List.length_cons, List.length_nil] at *; omega
      have s58 := s36.trans (s7.trans s8)
      refine k (ws.take j ++ ([x] ++ ws.drop j)) l8 H8 (hw.cat (by simp) (fun z hz => ?_) (by simp only [List.length_cons, List.length_nil]; omega) (by omega) (by simp)) ((hb5.mono (by omega)).same s58) (k2.trans (of3.kp.trans ((Same.kp s4).trans (k5.trans (Same.kp s58))))) ?_
      · obtain rfl := List.mem_singleton.mp hz
        exact ⟨by omega, no_count hxb⟩
      · rw [x8]; simp
    have ei : atI (ws.map V.str) (i : Int) = some (.str ws[i]) := atI_nat (by rw [List.getElem?_map, List.getElem?_eq_getElem il]; rfl)
    have li : (ws[i]).length ≤ Bd := hw.ea _ (List.getElem_mem il)
    walk_at "go"
    refine r_ite (fun h => ?_) (fun h => ?_)
    · walk_at "go"
      refine sl_new hp2 (fun H3 l1 s3 x1 => ?_)
      rw [cT] at x1
      walk_at "go"
      refine r_ixL (SqL.of (s3 _ _ hp2)) ei ?_
      walk_at "go"
      refine ⟨(by show 1 ≤ sizeLine; decide), fun p0 h0 => ?_⟩
      have s45 := same_new (o := HO.lst [V.str ws[i]]) h0
      refine cat_two (s45 _ _ x1) upd_same ?_ (fun H5 l5 s5 x5 => ?_)
      · have := lT i
        simp only [List.length_cons, List.length_nil]; omega
      have s25 := s3.trans (s45.trans s5)
      walk_at "go"
      refine sl_new (s25 _ _ hp2) (fun H6 l6 s6 x6 => ?_)
      rw [cF0] at x6
      refine cat_two (s6 _ _ x5) x6 ?_ (fun H7 l7 s7 x7 => ?_)
      · have := lT i; have := lF i
        simp only [List.length_append, List.length_cons, List.length_nil] at *; omega
      have s27 := s25.trans (s6.trans s7)
      refine k (ws.take i ++ ([ws[i]] ++ ws.drop i)) l7 H7 (hw.cat (by simp) (fun z hz => ?_) (by simp only [List.length_cons, List.length_nil]; omega) (by omega) (by simp)) ((hb2.mono (by omega)).same s27) (k2.trans (Same.kp s27)) ?_
      · obtain rfl := List.mem_singleton.mp hz
        exact ⟨by omega, no_count (hw.nb _ (List.getElem_mem il))⟩
      · rw [x7]; simp
    walk_at "go"
    refine r_ite (fun h => ?_) (fun h => ?_)
    · walk_at "go"
      refine sl_new hp2 (fun H3 l1 s3 x1 => ?_)
      rw [cT] at x1
      walk_at "go"
      refine sl_new (s3 _ _ hp2) (fun H4 l2 s4 x2 => ?_)
      rw [cM] at x2
      refine cat_two (s4 _ _ x1) x2 ?_ (fun H5 l5 s5 x5 => ?_)
      · have := lT i
        have : (((ws.drop (i + 1)).take 1).map V.str).length ≤ 1 := by rw [List.length_map, List.length_take]; omega
        omega
      have s25 := s3.trans (s4.trans s5)
      walk_at "go"
      refine r_ixL (SqL.of (s25 _ _ hp2)) ei ?_
      walk_at "go"
      refine ⟨(by show 1 ≤ sizeLine; decide), fun p0 h0 => ?_⟩
      have s56 := same_new (o := HO.lst [V.str ws[i]]) h0
      have l1' : (((ws.drop (i + 1)).take 1).map V.str).length ≤ 1 := by rw [List.length_map, List.length_take]; omega
      refine cat_two (s56 _ _ x5) upd_same ?_ (fun H6 l6 s6 x6 => ?_)
      · have := lT i
        simp only [List.length_append, List.length_cons, List.length_nil] at *; omega
      have s26 := s25.trans (s56.trans s6)
      walk_at "go"
      refine sl_new (s26 _ _ hp2) (fun H7 l7 s7 x7 => ?_)
      rw [cF2] at x7
      refine cat_two (s7 _ _ x6) x7 ?_ (fun H8 l8 s8 x8 => ?_)
      · have := lT i; have := lF (i + 2)
        simp only [List.length_append, List.length_cons, List.length_nil] at *; omega
      have s28 := s26.trans (s7.trans s8)
      refine k (ws.take i ++ (((ws.drop (i + 1)).take 1 ++ [ws[i]]) ++ ws.drop (i + 2))) l8 H8 (hw.cat (by simp) (fun z hz => ?_) ?_ (by omega) ?_) ((hb2.mono (by omega)).same s28) (k2.trans (Same.kp s28)) ?_
      · rcases List.mem_append.mp hz with q | q
        · exact ⟨Nat.le_succ_of_le (hw.ea z (List.mem_of_mem_drop (List.mem_of_mem_take q))), no_count (hw.nb z (List.mem_of_mem_drop (List.mem_of_mem_take q)))⟩
        · obtain rfl := List.mem_singleton.mp q
          exact ⟨by omega, no_count (hw.nb _ (List.getElem_mem il))⟩
      · simp only [List.length_append, List.length_take, List.length_drop, List.length_cons, List.length_nil]
        omega
      · simp only [List.length_append, List.length_take, List.length_cons, List.length_nil]
        omega
      · rw [x8]; simp
    walk_at "go"
    refine r_ite (fun h => ?_) (fun h => ?_)
    · walk_at "go"
      refine sl_new hp2 (fun H3 l1 s3 x1 => ?_)
      rw [cT1] at x1
      refine k (ws.take (i + 1)) l1 H3 (hw.out ?_ ?_ (fun z hz => List.mem_of_mem_take hz) (wsum_take ws (i + 1))) ((hb2.mono (by omega)).same s3) (k2.trans (Same.kp s3)) x1
      · intro q
        have := congrArg List.length q
        simp only [List.length_take, List.length_nil] at this
        omega
      · rw [List.length_take]; omega
    walk_at "go"
    refine r_ixL (SqL.of hp2) ei ?_
    walk_at "go"
    refine ⟨_, _, rfl, lenS (Nat.le_of_lt (big_line (by omega))), ?_⟩
    walk_at "go"
    refine ⟨_, _, n + 2, rfl, hb2, by omega, by omega, fun j' H3 j0 j1 hb3 of3 => ?_⟩
    obtain ⟨j, rfl⟩ : ∃ j : Nat, j' = (j : Int) := ⟨j'.toNat, by omega⟩
    have jl : j ≤ (ws[i]).length := by omega
    have hp3 := of3.at npb hp2
    walk_at "go"
    refine ⟨b, _, _, n + 2 + 1, rfl, hb3, by omega, .inl ⟨_, rfl, rfl, by decide +kernel⟩, ?_, fun x H4 hx hb4 of4 => ?_⟩
    · intro q
      have := congrArg List.length q
      rw [List.length_map, sgn_len] at this
      exact absurd this (by decide +kernel)
    obtain ⟨ch, _, rfl⟩ := mem_sgn hx
    have hp4 := of4.at npb hp3
    walk_at "go"
    refine r_ixL (SqL.of hp4) ei ?_
    walk_at "go"
    refine ⟨(by show 3 ≤ sizeLine; decide), fun p0 h0 => ?_⟩
    have s5 := same_new (o := HO.lst [V.int 0, V.int 1, V.int 1]) h0
    have hb5 := hb4.same s5
    have n0b := hb4.ne h0
    walk_at "go"
    refine ⟨_, _, n + 2 + 1 + 1, rfl, hb5, by omega, by decide, fun r H6 r0 r1 hb6 of6 => ?_⟩
    obtain ⟨v, ev, hv, _⟩ := at_nat' (xs := [V.int 0, V.int 1, V.int 1]) r0 (by show r < 3; omega)
    obtain ⟨c, rfl⟩ : ∃ c : Nat, v = vi c := by
      simp only [List.mem_cons, List.not_mem_nil, or_false] at hv
      rcases hv with rfl | rfl | rfl
      · exact ⟨0, rfl⟩
      · exact ⟨1, rfl⟩
      · exact ⟨1, rfl⟩
    refine r_ixL (SqL.of (of6.at n0b upd_same)) ev ?_
    walk_at "go"
    have hwi : (ws[i]).length ≤ sizeLine := Nat.le_of_lt (big_line (by omega))
    refine ⟨hwi, ?_⟩
    have ejc : (j : Int) + (c : Int) = ((j + c : Nat) : Int) := by omega
    rw [ejc]
    have lrest := cut_from ws[i] (j + c)
    have brest : 32 ∉ tl (cutS ws[i] (some ((j + c : Nat) : Int)) none) := fun q => hw.nb _ (List.getElem_mem il) (cut_mem q)
    generalize cutS ws[i] (some ((j + c : Nat) : Int)) none = rest at lrest brest
    walk_at "go"
    have hp6 : H6 p = some (.lst (ws.map V.str)) := of6.at npb (s5 _ _ hp4)
    refine r_ixL (SqL.of hp6) ei ?_
    walk_at "go"
    refine ⟨hwi, ?_⟩
    have lto := cut_to ws[i] j
    have bto : 32 ∉ tl (cutS ws[i] none (some (j : Int))) := fun q => hw.nb _ (List.getElem_mem il) (cut_mem q)
    generalize cutS ws[i] none (some (j : Int)) = front at lto bto
    walk_at "go"
    refine ⟨_, _, n + 2 + 1 + 1 + 1, rfl, hb6, by omega, by decide, fun r' H7 _ _ hb7 of7 => ?_⟩
    have hp7 : H7 p = some (.lst (ws.map V.str)) := of7.at npb hp6
    have k7 : Kp b H H7 := k2.trans (of3.kp.trans (of4.kp.trans ((Same.kp s5).trans (of6.kp.trans of7.kp))))
    have big : (1 : Nat) + 7000 ≤ sizeLine := by rw [sizeLine_eq]; omega
    have tail_ : ∀ mid : Str, mid.length ≤ 1 → (front.length + mid.length ≤ sizeLine) ∧ ((front ++ mid).length + rest.length ≤ sizeLine) ∧ ((front ++ mid) ++ rest).length ≤ Bd + 1 ∧ (tl ((front ++ mid) ++ rest)).count 32 ≤ 1 := fun mid hm => by
      have a1 := add_len front mid
      have a2 := add_len (front ++ mid) rest
      refine ⟨by omega, by omega, by omega, ?_⟩
      have e1 : tl ((front ++ mid) ++ rest) = (tl front ++ tl mid) ++ tl rest := by
        show ((front.cps ++ mid.cps) ++ rest.cps).toList = _
        rw [Array.toList_append, Array.toList_append]
      rw [e1, List.count_append, List.count_append, List.count_eq_zero.mpr bto, List.count_eq_zero.mpr brest]
      have a3 : (tl mid).count 32 ≤ (tl mid).length := List.count_le_length
      rw [← len_tl] at a3
      omega
    have fin : ∀ fresh : Str, (fresh.length ≤ Bd + 1 ∧ (tl fresh).count 32 ≤ 1) → tOp rCat (tOp rCat (tSl (rSlL K) (tVar 1) tNoPart (tPart (tVar 4))) (tLst (tCons (tVar 8) tNil))) (tSl (rSlL K) (tVar 1) (tPart (tOp (rI0 fun i j => V.int (i + j)) (tVar 4) (tC (V.int 1)))) tNoPart)
        [some (.ref b), some (.ref p), some (.ref m), some (.int way), some (.int (i : Int)), some (.int (j : Int)), some (.str ⟨#[ch]⟩), some (.str rest), some (.str fresh)] H7 Q := fun fresh hf => by
      walk_at "go"
      refine sl_new hp7 (fun H8 l1 s8 x1 => ?_)
      rw [cT] at x1
      walk_at "go"
      refine ⟨(by show 1 ≤ sizeLine; decide), fun p1 h1 => ?_⟩
      have s9 := same_new (o := HO.lst [V.str fresh]) h1
      refine cat_two (s9 _ _ x1) upd_same ?_ (fun H9 l9 s10 x9 => ?_)
      · have := lT i
        simp only [List.length_cons, List.length_nil]; omega
      have s79 := s8.trans (s9.trans s10)
      walk_at "go"
      refine sl_new (s79 _ _ hp7) (fun H10 l10 s11 x10 => ?_)
      rw [cF] at x10
      refine cat_two (s11 _ _ x9) x10 ?_ (fun H11 l11 s12 x11 => ?_)
      · have := lT i; have := lF (i + 1)
        simp only [List.length_append, List.length_cons, List.length_nil] at *; omega
      have sE := s79.trans (s11.trans s12)
      refine k (ws.take i ++ ([fresh] ++ ws.drop (i + 1))) l11 H11 (hw.cat (by simp) (fun z hz => ?_) (by simp only [List.length_cons, List.length_nil]; omega) (by omega) (by simp)) ((hb7.mono (by omega)).same sE) (k7.trans (Same.kp sE)) ?_
      · obtain rfl := List.mem_singleton.mp hz
        exact hf
      · rw [x11]; simp
    walk_at "go"
    refine r_ite (fun h => ?_) (fun h => ?_)
    · walk_at "go"
      obtain ⟨t1, t2, t3⟩ := tail_ ⟨#[ch]⟩ (by show 1 ≤ 1; decide)
      refine ⟨_, _, rfl, rfl, t1, ?_⟩
      walk_at "go"
      refine ⟨_, _, rfl, rfl, t2, ?_⟩
      revert t3
      generalize ((front ++ ⟨#[ch]⟩) ++ rest) = fresh
      intro t3
      refine K1.r_name ?_
      exact K1.r_ret (fin fresh t3)
    · walk_at "go"
      obtain ⟨t1, t2, t3⟩ := tail_ "" (by decide +kernel)
      refine ⟨_, _, rfl, rfl, t1, ?_⟩
      walk_at "go"
      refine ⟨_, _, rfl, rfl, t2, ?_⟩
      revert t3
      generalize ((front ++ "") ++ rest) = fresh
      intro t3
      refine K1.r_name ?_
      exact K1.r_ret (fin fresh t3)
end
end K4

/-! X3 -/
/-! A comprehension over a list where an exception is being handled. -/
namespace K1
open PySem L2 L2H PyProof.Rows PySem.W PySem.Calls
theorem list_end_hot {P : Program} {w : World} {A : Around} {E : Value → Shared → Prop} {s : Shared} {it l x1 : Addr} {i : Nat} {items : Array Value} {Q : Option Value → Shared → Prop}
    (hot : HotX.HotAt A x1 s.heap) (hit : s.heap.IsListIter it l i) (hl : s.heap.IsList l items) (hx : items[i]? = none)
    (hQ : ∀ h', Heap.ExtBut it s.heap h' → Q none ⟨h', s.gens, s.drawn, s.toks, s.os⟩) : wpAny (model P w) A (pyNext (.ref it)) Q E s := by
  obtain ⟨o, ho, hc, hd⟩ := id hit
  obtain ⟨ol, hol, _, nl, hdl⟩ := hl
  obtain ⟨hh, o1, vs1, h1, d1, c1⟩ := hot
  have ne : x1 ≠ it := by
    intro z
    rw [z, ho] at h1
    obtain rfl := Option.some.inj h1
    rw [hd] at d1
    obtain rfl := Data.fields.inj d1
    cases c1
  unfold pyNext
  refine wpAny_bind (wpAny_attempt (wpAny_callSpecial?_slot (Heap.IsListIter.typeIs hit) slot_listiter_next (wpAny_call_entry slot_listiter_next (Heap.IsListIter.typeIs hit) entry_listiter_next ?_ (args_listiter_next (.ref it)))))
  unfold Builtin.«list_iterator.__next__»
  dsimp only
  refine wpAny_bind ?_
  show wpAny _ _ (pure (Value.ref it, ([] : List Value))) _ _ _
  refine wpAny_pure ?_
  refine wpAny_bind (wpAny_field ho hd rfl ?_)
  refine wpAny_ite_false (by rfl) ?_
  refine wpAny_bind (wpAny_field ho hd rfl ?_)
  refine wpAny_bind (wpAny_seqItems hol hdl ?_)
  dsimp only
  rw [show (Int.toNat (i : Int)) = i from rfl, hx]
  dsimp only
  refine wpAny_bind (wpAny_rule ?_)
  refine wpAny_bind (wpAny_setField ho hd (by show 0 < 2; decide) ?_)
  unfold Builtin.SmallTypes.stopIteration
  have h1u : (s.heap.update it (Obj.mapFields fun x => x.setIfInBounds 0 Value.none)).get? x1 = some o1 := by
    rw [Heap.get?_update_ne _ _ _ _ ne]; exact h1
  have sbu := Heap.SameBut.extBut (Heap.SameBut.update s.heap it (Obj.mapFields fun x => x.setIfInBounds 0 Value.none))
  revert h1u sbu
  generalize s.heap.update it (Obj.mapFields fun x => x.setIfInBounds 0 Value.none) = hu
  intro h1u sbu
  refine wpAny_bind ?_
  unfold newExc
  refine wpAny_bind (wpAny_newTuple ?_ (Nat.zero_le _))
  refine wpAny_bind (wpAny_of_eq (by rfl) ?_)
  have h2 := Heap.get?_push_of_some ⟨.type "tuple", none, .seq #[] 0, #[]⟩ h1u
  have sb2 := Heap.ExtBut.push sbu ⟨.type "tuple", none, .seq #[] 0, #[]⟩
  show wpAny _ _ _ _ _ ⟨hu.push ⟨.type "tuple", none, .seq #[] 0, #[]⟩, s.gens, s.drawn, s.toks, s.os⟩
  generalize (Value.ref { heap := hu, gens := s.gens, drawn := s.drawn, toks := s.toks, os := s.os : Shared}.heap.objs.size) = tv
  revert h2 sb2
  generalize hu.push ⟨.type "tuple", none, .seq #[] 0, #[]⟩ = hv
  intro h2 sb2
  generalize (if ((Manifest.find? "StopIteration").elim false fun t => t.mro.contains "StopIteration" || t.mro.contains "SystemExit") = true then ([] : List Value).headD Value.none else Value.none) = sv
  refine wpAny_newObj_type ?_ ?_
  · have hx1 : x1 ≠ hv.objs.size := Nat.ne_of_lt (Heap.lt_size h2)
    refine HotX.raiseNew_hot ⟨hh, o1, vs1, Heap.get?_push_of_some _ h2, d1, c1⟩ hx1 (Heap.get?_push_size _ rfl) rfl (by simp [Array.size_append]; omega) ?_
    refine wpAny_bind (wpAny_isInstance ⟨_, Heap.get?_update_self _ (Heap.get?_push_size hv rfl) rfl, rfl⟩ isSubtype_stop (wpAny_pure (hQ _ ?_)))
    intro b o' nb e
    have e2 := sb2 b o' nb e
    rw [Heap.get?_update_ne _ _ _ _ (Nat.ne_of_lt (Heap.lt_size e2))]
    exact Heap.get?_push_of_some _ e2
  · exact sizeOk_excFields tv Value.none Value.none Value.none (Value.bool false) sv (Value.type "StopIteration") []
end K1

/-! X4 -/
namespace K1
open PySem L2 L2H PyProof.Rows PySem.W PySem.Calls
theorem item_list {X : Cx} {a it : Addr} {tg : Expr} {i : Nat} {pins : List (Addr × Obj)} {s : Shared} {σ : L2.St} {H : Hp} {E : Value → Shared → Prop} (I : L2.Inv X pins σ H s) (hf : FpOk X pins H it) (st : s.heap.IsListIter it a i) {xs : List V} {x : V} (hq : SqL X.K H a xs) (hx : xs[i]? = some x) :
    wpAny (model X.prog X.w) X.A (pyNext (.ref it)) (fun r s1 => ∃ u, r = some u ∧ wpAny (model X.prog X.w) X.A (letOwnedTupleGo tg (.ref it) u) (fun _ s2 => L2.Inv X pins σ H s2 ∧ L2.RelV x u ∧ s2.heap.IsListIter it a (i + 1)) E s1) E s := by
  obtain ⟨its, rv, p, hz⟩ := I.list hq
  obtain ⟨u, hu, ru⟩ := Vals.get rv hx
  obtain ⟨f0, f1, f2, f3, f4, f5⟩ := hf
  refine wpAny_pyNext_list_item st p.isList (by rw [List.getElem?_toArray]; exact hu) fun h' st' sb => ?_
  have I1 := Inv.turned (t' := s.toks) I (fun b o hb e => (sb.right b hb).trans e) f0 f1 f3 f4 f5
  obtain ⟨o, e, c, d⟩ := id st'
  exact ⟨u, rfl, go_of e c d (by decide) ⟨I1, ru, st'⟩⟩
theorem done_list {X : Cx} {a it x1 : Addr} {i : Nat} {pins : List (Addr × Obj)} {s : Shared} {σ : L2.St} {H : Hp} {E : Value → Shared → Prop} (hot : HotX.HotAt X.A x1 s.heap) (I : L2.Inv X pins σ H s) (hf : FpOk X pins H it) (st : s.heap.IsListIter it a i) {xs : List V} (hq : SqL X.K H a xs) (hx : xs.length ≤ i) :
    wpAny (model X.prog X.w) X.A (pyNext (.ref it)) (fun r s1 => r = none ∧ L2.Inv X pins σ H s1) E s := by
  obtain ⟨its, rv, p, hz⟩ := I.list hq
  obtain ⟨f0, f1, f2, f3, f4, f5⟩ := hf
  have hl := Vals.length rv
  refine list_end_hot hot st p.isList (by rw [List.getElem?_toArray]; exact List.getElem?_eq_none (by omega)) fun h' eb => ?_
  exact ⟨rfl, Inv.turned I (fun b o hb e => eb b o hb e) f0 f1 f3 f4 f5⟩
/-- the block of a comprehension, the pins kept -/
abbrev bk (X : Cx) (s : Shared) (H : Hp) (scope : Scope) (env : Env) (fp : List Addr) : Cx := { X.blk s H scope env fp with pn := X.pn }
theorem inv_bk {X : Cx} {s3 s : Shared} {H3 H : Hp} {scope : Scope} {ce : Env} {fp : List Addr} {σ : L2.St} (I : L2.Inv (X.blk s3 H3 scope ce fp) [] σ H s)
    (hp : ∀ p ∈ X.pn, s.heap.get? p.1 = some p.2 ∧ H p.1 = none ∧ p.1 ≠ ce.locals ∧ p.1 ∉ frs X.stack ∧ ∀ v : Option Value, p.2.data ≠ .cell v) : L2.Inv (bk X s3 H3 scope ce fp) [] σ H s := by
  have o := I.ok
  exact ⟨⟨o.mod, o.kind, o.glob, o.blt, o.above, o.inj, o.has, o.cab, o.hd, o.frames, o.stk, o.exf, o.bs, o.bsz, o.noex, o.exfs, o.funs, o.frf⟩, I.os, I.bare, I.base, I.loc, I.cell, I.free, I.freeC, fun p h => hp p (by simpa using h), I.hok, I.len⟩
theorem frs_mem {X : Cx} (o : X.Ok) {b : Addr} (h1 : b ∉ X.fs) (h2 : b ≠ X.env.locals) : b ∉ frs X.stack := by
  rcases o.stk with e | ⟨e, ef⟩
  · rw [e]; exact h1
  · rw [e]
    intro h
    unfold frs at h
    rw [List.filterMap_cons, ef] at h
    rcases List.mem_cons.mp h with h | h
    · exact h2 h
    · exact h1 h
theorem pe_lcH {X : Cx} {elt tg iter : Expr} {ifs : List Expr} {scope : Scope} {own : List (Str × Nat)} {pos : Pos} {tl : TE} {g : TG} {tt : TT} {te : TE} (hc : HotC X) (hN : X.N.Nodup) (hl : PE X iter tl) (ok : BlkOk X.N X.env.scope scope own)
    (hg : ∀ (s : Shared) (H : Hp) (C : Addr) (cl : List (Str × Addr)) (fp : List Addr), PG (bk X s H scope (compEnvC scope cl C X.env) fp) tg g)
    (ht : ∀ (s : Shared) (H : Hp) (C : Addr) (cl : List (Str × Addr)) (fp : List Addr), PTs (bk X s H scope (compEnvC scope cl C X.env) fp) ifs tt)
    (he : ∀ (s : Shared) (H : Hp) (C : Addr) (cl : List (Str × Addr)) (fp : List Addr), PE (bk X s H scope (compEnvC scope cl C X.env) fp) elt te)
    (hs : ∀ x, foldedSetIterable iter X.env x = pure x := by intro _; rfl) :
    PE X (.ListComp elt [⟨tg, iter, ifs, 0⟩] scope pos) (tLc (iList X.K tl) g tt te (own.map (·.2))) := by
  refine ⟨fun pins s σ H Q I h => ?_⟩
  rw [eval_ListComp]
  have hfree : ∀ y : Str × NameKind, y ∈ scope.names → y.2 = .free → ∃ c, List.lookup y.1 X.env.cells = some c := fun y hy e => (ok.free y hy e).elim (fun k => I.ok.has y.1 (.inl k)) fun k => I.ok.has y.1 (.inr k)
  refine wpAny_comprehension_free rfl hs (closure_ok hfree) ok.kind (fun y hy e => by rw [ok.uniq y hy, e]) ?_
  refine thn (hl.run pins s σ H _ I h) ?_
  rintro xv s1 ⟨x, H1, I1, r1, a, rfl, ⟨xs, hq⟩, q1⟩
  have e1 : xv = .ref a := r1
  subst e1
  obtain ⟨its, rv, p, hz⟩ := I1.list hq
  refine wpAny_pyIter_list p.isList ?_
  have k2 : ∀ b o, s1.heap.get? b = some o → (s1.heap.push ⟨.type "list_iterator", none, .fields #[.ref a, .int 0 0], #[]⟩).get? b = some o := fun b o e => Heap.get?_push_of_some _ e
  have st2 : (s1.heap.push ⟨.type "list_iterator", none, .fields #[.ref a, .int 0 0], #[]⟩).IsListIter s1.heap.objs.size a 0 := ⟨_, Heap.get?_push_size _ rfl, rfl, rfl⟩
  have I2 := Inv.kept (t' := s1.toks) I1 k2
  have fI : FpOk X pins H1 s1.heap.objs.size := Inv.fpOk I1 (Nat.le_refl _) (HOk.fresh I1.hok (Nat.le_refl _))
  have ltI : s1.heap.objs.size < (s1.heap.push ⟨.type "list_iterator", none, .fields #[.ref a, .int 0 0], #[]⟩).objs.size := Heap.lt_size (Heap.get?_push_size _ rfl)
  revert k2 st2 I2 fI ltI
  generalize s1.heap.push ⟨.type "list_iterator", none, .fields #[.ref a, .int 0 0], #[]⟩ = h2
  generalize s1.heap.objs.size = it
  intro k2 st2 I2 fI ltI
  refine wpAny_newObj_type (newEnv_comp ?_)
  have hDn : H1 h2.objs.size = none := HOk.fresh I2.hok (Nat.le_refl _)
  obtain ⟨W, ⟨m0, w0⟩, turn⟩ := q1 h2.objs.size hDn
  have kp3 : ∀ b o, h2.get? b = some o → (h2.push ⟨.type "list", none, .seq #[] 0, #[]⟩).get? b = some o := fun b o e => Heap.get?_push_of_some _ e
  have I3 := Inv.laid (t' := s1.toks) (o := .lst []) I2 kp3 (Nat.le_refl _) ⟨Nat.zero_le _, [], 0, .nil, Heap.get?_push_size _ rfl⟩
  have st3 : (h2.push ⟨.type "list", none, .seq #[] 0, #[]⟩).IsListIter it a 0 := st2.at fun o e => kp3 it o e
  have ltI3 : it < (h2.push ⟨.type "list", none, .seq #[] 0, #[]⟩).objs.size := by
    obtain ⟨o, e, _⟩ := st3
    exact Heap.lt_size e
  have fI3 : FpOk X pins (upd H1 h2.objs.size (.lst [])) it := ⟨by rw [upd_ne (Nat.ne_of_lt ltI)]; exact fI.1, fI.2⟩
  have ltD : h2.objs.size < (h2.push ⟨.type "list", none, .seq #[] 0, #[]⟩).objs.size := Heap.lt_size (Heap.get?_push_size _ rfl)
  clear kp3 st2
  revert I3 st3 ltI3 fI3 ltD w0
  generalize upd H1 h2.objs.size (.lst []) = H3
  generalize h2.push ⟨.type "list", none, .seq #[] 0, #[]⟩ = h3
  generalize h2.objs.size = D at *
  intro w0 I3' st3 ltI3 fI3 ltD
  have I3 : L2.Inv X pins σ H3 ⟨h3, s1.gens, s1.drawn, s1.toks, s1.os⟩ := I3'
  clear I3'
  obtain ⟨p0, hot, hp0⟩ := hc
  obtain ⟨pg0, ph0, pl0, pf0, pc0⟩ := I3.pin p0 (List.mem_append_left _ hp0)
  have pit : p0.1 ≠ it := fI3.2.2.2.2.2 p0 (List.mem_append_left _ hp0)
  have f3 : ∀ b ∈ [it], FpOk X pins H3 b ∧ b < h3.objs.size := fun b hb => by
    obtain rfl := List.mem_singleton.mp hb
    exact ⟨fI3, ltI3⟩
  have I4 := inv_bk (block_start I3 ok hN f3) (fun p hp => by
    obtain ⟨a1, a2, a3, a4, a5⟩ := I3.pin p (List.mem_append_left _ hp)
    exact ⟨pushCells_keeps _ _ _ _ (Heap.get?_push_of_some _ a1), a2, Nat.ne_of_lt (Heap.lt_size a1), frs_mem I3.ok a4 a3, a5⟩)
  have pg := hg ⟨h3, s1.gens, s1.drawn, s1.toks, s1.os⟩ H3 h3.objs.size (cellsFrom (h3.objs.size + 1) scope.names (cloFrom X.env.cells scope.names [])) [it]
  have pt := ht ⟨h3, s1.gens, s1.drawn, s1.toks, s1.os⟩ H3 h3.objs.size (cellsFrom (h3.objs.size + 1) scope.names (cloFrom X.env.cells scope.names [])) [it]
  have pe := he ⟨h3, s1.gens, s1.drawn, s1.toks, s1.os⟩ H3 h3.objs.size (cellsFrom (h3.objs.size + 1) scope.names (cloFrom X.env.cells scope.names [])) [it]
  have cL : (compEnvC scope (cellsFrom (h3.objs.size + 1) scope.names (cloFrom X.env.cells scope.names [])) h3.objs.size X.env).locals = h3.objs.size := rfl
  have st4 : (pushCells (h3.push ⟨.type "dict", none, .dict #[] 0, #[]⟩) scope.names).IsListIter it a 0 := st3.at fun o e => pushCells_keeps _ _ _ _ (Heap.get?_push_of_some _ e)
  show codeAny _ _ (Code.compStart _ 0 (.ref it) (.ref D) (compEnvC scope (cellsFrom (h3.objs.size + 1) scope.names (cloFrom X.env.cells scope.names [])) h3.objs.size X.env)) _ ⟨pushCells (h3.push ⟨.type "dict", none, .dict #[] 0, #[]⟩) scope.names, s1.gens, s1.drawn, s1.toks, s1.os⟩
  revert I4 pg pt pe cL st4
  generalize pushCells (h3.push ⟨.type "dict", none, .dict #[] 0, #[]⟩) scope.names = h4
  generalize compEnvC scope (cellsFrom (h3.objs.size + 1) scope.names (cloFrom X.env.cells scope.names [])) h3.objs.size X.env = ce
  intro I4 pg pt pe cL st4
  have nfs : p0.1 ∉ frs X.stack := frs_mem I3.ok pf0 pl0
  have hotAt : ∀ {σ' H' s'}, L2.Inv (bk X ⟨h3, s1.gens, s1.drawn, s1.toks, s1.os⟩ H3 scope ce [it]) [] σ' H' s' → HotX.HotAt X.A p0.1 s'.heap := fun {σ' H' s'} I' => by
    obtain ⟨hh, vs, hd, hv⟩ := hot
    refine ⟨hh, p0.2, vs, I'.base.keep p0.1 p0.2 pg0 ph0 nfs ?_, hd, hv⟩
    intro z
    exact pit (List.mem_singleton.mp z)
  have stat : ∀ {σ' H' s'}, L2.Inv (bk X ⟨h3, s1.gens, s1.drawn, s1.toks, s1.os⟩ H3 scope ce [it]) [] σ' H' s' → H' it = none → FpOk (bk X ⟨h3, s1.gens, s1.drawn, s1.toks, s1.os⟩ H3 scope ce [it]) [] H' it := fun {σ' H' s'} I' hn => by
    have hb : it ∈ [it] := List.mem_singleton.mpr rfl
    refine ⟨hn, (I'.ok.exf it hb).1, I'.ok.exfs it hb, .inl hb, (I'.ok.exf it hb).2, fun p hp => ?_⟩
    exact fI3.2.2.2.2.2 p (List.mem_append_left _ (by simpa using hp))
  have loop := compLoop_any (prog := X.prog) (w := X.w) (A := X.A) (elt := elt) (target := tg) (iter := iter) (ifs := ifs) (scope := scope) (pos := pos) (it := .ref it) (acc := .ref D) (env := ce)
    (R := compPost (model X.prog X.w) X.A X.xe none (EP X pins σ Q) (.ref D) h3.objs.size)
    (fun n s' => ∃ i H', L2.Inv (bk X ⟨h3, s1.gens, s1.drawn, s1.toks, s1.os⟩ H3 scope ce [it]) [] (wipe σ (own.map (·.2))) H' s' ∧ s'.heap.IsListIter it a i ∧ H' it = none ∧ W i n H') ?step m0
    (s := ⟨h4, s1.gens, s1.drawn, s1.toks, s1.os⟩) ⟨0, H3, I4, st4, fI3.1, w0⟩
  case step =>
    rintro n s5 ⟨i, H5, I5, st5, n5, w5⟩
    rcases turn i n H5 w5 with ⟨⟨ys, hy, hlen⟩, qq⟩ | ⟨⟨ys, x, hy, hx⟩, Nx, hNx, step⟩
    · refine thnF (done_list (X := bk X ⟨h3, s1.gens, s1.drawn, s1.toks, s1.os⟩ H3 scope ce [it]) (hotAt I5) I5 (stat I5 n5) st5 hy hlen) ?_
      rintro r s6 ⟨rfl, I6⟩
      have I7 : L2.Inv X pins σ H5 s6 := by
        refine Inv.call' I3 I6.os I6.base I6.hok I6.bare fun b hb => ?_
        obtain rfl := List.mem_singleton.mp hb
        exact ⟨fI3.2.2.2.1, fI3.2.1, fI3.2.2.2.2.1, fI3.2.2.2.2.2⟩
      have nC : H5 h3.objs.size = none := by
        have z := I6.free
        rw [show (bk X ⟨h3, s1.gens, s1.drawn, s1.toks, s1.os⟩ H3 scope ce [it]).env.locals = h3.objs.size from cL] at z
        exact z
      obtain ⟨m, hn, _⟩ := I6.loc
      rw [show (bk X ⟨h3, s1.gens, s1.drawn, s1.toks, s1.os⟩ H3 scope ce [it]).env.locals = h3.objs.size from cL] at hn
      obtain ⟨f0, f1, f2, f3', f4, f5⟩ := Inv.fpOk I3 (Nat.le_refl _) nC
      exact ⟨m, hn, fun h'' sb => ⟨.ref D, H5, Inv.turned I7 (fun b o hb e => (sb.right b hb).trans e) f0 f1 f3' f4 f5, rfl, qq⟩⟩
    · refine thnF (item_list (X := bk X ⟨h3, s1.gens, s1.drawn, s1.toks, s1.os⟩ H3 scope ce [it]) (tg := tg) I5 (stat I5 n5) st5 hy hx) ?_
      rintro r s6 ⟨u, rfl, h6⟩
      refine thnF h6 ?_
      rintro _ s7 ⟨I7, r7, st7⟩
      have ob7 : ∀ b ∈ [it], ∃ o, s7.heap.get? b = some o ∧ ∀ v : Option Value, o.data ≠ Data.cell v := fun b hb => by
        obtain rfl := List.mem_singleton.mp hb
        obtain ⟨o, e, _, d⟩ := st7
        exact ⟨o, e, fun v z => by rw [d] at z; cases z⟩
      have I7' := Inv.pinned (fp := [it]) I7 (fun b hb => by obtain rfl := List.mem_singleton.mp hb; exact stat I7 n5) ob7
      refine thnF (pg.run _ s7 _ H5 x u _ I7' r7 (step x H5 ⟨rfl, fun zs hz' => ?_⟩)) ?_
      · rw [I5.list_inj hz' hy]; exact hx
      rintro _ s8 ⟨σ8, H8, I8, hw8, q8⟩
      refine thnF (pt.run _ s8 σ8 H8 _ I8 q8) ?_
      rintro b s9 ⟨H9, I9, q9⟩
      have fin : ∀ {s' H'}, L2.Inv (bk X ⟨h3, s1.gens, s1.drawn, s1.toks, s1.os⟩ H3 scope ce [it]) ([] ++ pinsAt [it] s7.heap) σ8 H' s' → Nx H' → ∃ m, m < n ∧ ∃ i H', L2.Inv (bk X ⟨h3, s1.gens, s1.drawn, s1.toks, s1.os⟩ H3 scope ce [it]) [] (wipe σ (own.map (·.2))) H' s' ∧ s'.heap.IsListIter it a i ∧ H' it = none ∧ W i m H' := fun {s' H'} I' nx => by
        obtain ⟨m', hm, w'⟩ := hNx H' nx
        obtain ⟨o, e, c, d⟩ := id st7
        have z := I'.pin (it, o) (List.mem_append_right _ (List.mem_append_right [] (mem_pinsAt (List.mem_singleton.mpr rfl) e)))
        refine ⟨m', hm, i + 1, H', Inv.weak (Inv.unpinned I') ?_ ?_, ⟨o, z.1, c, d⟩, z.2.1, w'⟩
        · rw [← hw8, wipe_length]
        · intro j v e
          rw [← hw8] at e
          exact (wipe_some e).1
      cases b with
      | false => exact fin I9 q9
      | true =>
        refine thnF (pe.run _ s9 σ8 H9 _ I9 q9) ?_
        rintro z s10 ⟨yv, H10, I10, r10, acc, hD10, hz10, nx⟩
        exact app_ok (X := bk X ⟨h3, s1.gens, s1.drawn, s1.toks, s1.os⟩ H3 scope ce [it]) I10 hD10 hz10 r10 fun s11 I11 => fin I11 nx
  exact codeAny_compStart_list loop (wpAny_pyIter_listiter st4 loop)
end K1

/-! X5 -/
/-! a, b = a tuple, where an exception is being handled. -/
namespace K1
open PySem L2 L2H PyProof.Rows PySem.W PySem.Calls
theorem tuple_end_hot {P : Program} {w : World} {A : Around} {E : Value → Shared → Prop} {s : Shared} {it l x1 : Addr} {i : Nat} {items : Array Value} {Q : Option Value → Shared → Prop}
    (hot : HotX.HotAt A x1 s.heap) (hit : PyProof.Rows.IsTupIter s.heap it l i) (hl : PyProof.Rows.IsTup s.heap l items) (hx : items[i]? = none)
    (hQ : ∀ h', Heap.ExtBut it s.heap h' → Q none ⟨h', s.gens, s.drawn, s.toks, s.os⟩) : wpAny (model P w) A (pyNext (.ref it)) Q E s := by
  obtain ⟨o, ho, hc, hd⟩ := id hit
  obtain ⟨ol, hol, _, nl, hdl⟩ := hl
  obtain ⟨hh, o1, vs1, h1, d1, c1⟩ := hot
  have ne : x1 ≠ it := by
    intro z
    rw [z, ho] at h1
    obtain rfl := Option.some.inj h1
    rw [hd] at d1
    obtain rfl := Data.fields.inj d1
    cases c1
  unfold pyNext
  refine wpAny_bind (wpAny_attempt (wpAny_callSpecial?_slot (PyProof.Rows.IsTupIter.typeIs hit) PyProof.Rows.slot_tupleiter_next (wpAny_call_entry PyProof.Rows.slot_tupleiter_next (PyProof.Rows.IsTupIter.typeIs hit) PyProof.Rows.entry_tupleiter_next ?_ (PyProof.Rows.args_tupleiter_next (.ref it)))))
  unfold Builtin.«tuple_iterator.__next__»
  dsimp only
  refine wpAny_bind ?_
  show wpAny _ _ (pure (Value.ref it, ([] : List Value))) _ _ _
  refine wpAny_pure ?_
  refine wpAny_bind (wpAny_field ho hd rfl ?_)
  refine wpAny_ite_false (by rfl) ?_
  refine wpAny_bind (wpAny_field ho hd rfl ?_)
  refine wpAny_bind (wpAny_seqItems hol hdl ?_)
  dsimp only
  rw [show (Int.toNat (i : Int)) = i from rfl, hx]
  dsimp only
  refine wpAny_bind (wpAny_rule ?_)
  refine wpAny_bind (wpAny_setField ho hd (by show 0 < 2; decide) ?_)
  unfold Builtin.SmallTypes.stopIteration
  have h1u : (s.heap.update it (Obj.mapFields fun x => x.setIfInBounds 0 Value.none)).get? x1 = some o1 := by
    rw [Heap.get?_update_ne _ _ _ _ ne]; exact h1
  have sbu := Heap.SameBut.extBut (Heap.SameBut.update s.heap it (Obj.mapFields fun x => x.setIfInBounds 0 Value.none))
  revert h1u sbu
  generalize s.heap.update it (Obj.mapFields fun x => x.setIfInBounds 0 Value.none) = hu
  intro h1u sbu
  refine wpAny_bind ?_
  unfold newExc
  refine wpAny_bind (wpAny_newTuple ?_ (Nat.zero_le _))
  refine wpAny_bind (wpAny_of_eq (by rfl) ?_)
  have h2 := Heap.get?_push_of_some ⟨.type "tuple", none, .seq #[] 0, #[]⟩ h1u
  have sb2 := Heap.ExtBut.push sbu ⟨.type "tuple", none, .seq #[] 0, #[]⟩
  show wpAny _ _ _ _ _ ⟨hu.push ⟨.type "tuple", none, .seq #[] 0, #[]⟩, s.gens, s.drawn, s.toks, s.os⟩
  generalize (Value.ref { heap := hu, gens := s.gens, drawn := s.drawn, toks := s.toks, os := s.os : Shared}.heap.objs.size) = tv
  revert h2 sb2
  generalize hu.push ⟨.type "tuple", none, .seq #[] 0, #[]⟩ = hv
  intro h2 sb2
  generalize (if ((Manifest.find? "StopIteration").elim false fun t => t.mro.contains "StopIteration" || t.mro.contains "SystemExit") = true then ([] : List Value).headD Value.none else Value.none) = sv
  refine wpAny_newObj_type ?_ ?_
  · have hx1 : x1 ≠ hv.objs.size := Nat.ne_of_lt (Heap.lt_size h2)
    refine HotX.raiseNew_hot ⟨hh, o1, vs1, Heap.get?_push_of_some _ h2, d1, c1⟩ hx1 (Heap.get?_push_size _ rfl) rfl (by simp [Array.size_append]; omega) ?_
    refine wpAny_bind (wpAny_isInstance ⟨_, Heap.get?_update_self _ (Heap.get?_push_size hv rfl) rfl, rfl⟩ isSubtype_stop (wpAny_pure (hQ _ ?_)))
    intro b o' nb e
    have e2 := sb2 b o' nb e
    rw [Heap.get?_update_ne _ _ _ _ (Nat.ne_of_lt (Heap.lt_size e2))]
    exact Heap.get?_push_of_some _ e2
  · exact sizeOk_excFields tv Value.none Value.none Value.none (Value.bool false) sv (Value.type "StopIteration") []
theorem unpack_hot {P : Program} {w : World} {A : Around} {E : Value → Shared → Prop} {s : Shared} {t x1 : Addr} {items : Array Value} {Q : List Value → Shared → Prop} (hot : HotX.HotAt A x1 s.heap) (ht : PyProof.Rows.IsTup s.heap t items)
    (hQ : ∀ h', Heap.ExtBut s.heap.objs.size s.heap h' → Q items.toList ⟨h', s.gens, s.drawn, s.toks, s.os⟩) : wpAny (model P w) A (unpackItems (.ref t) items.size none) Q E s := by
  have hlt : t ≠ s.heap.objs.size := by
    obtain ⟨o, e, _⟩ := ht
    exact Nat.ne_of_lt (Heap.lt_size e)
  have hlx : x1 ≠ s.heap.objs.size := by
    obtain ⟨_, o, _, e, _⟩ := hot
    exact Nat.ne_of_lt (Heap.lt_size e)
  unfold unpackItems
  refine wpAny_bind (wpAny_bind (wpAny_specialOf (PyProof.Rows.IsTup.typeIs ht) PyProof.Rows.slot_tuple_iter.lookup (wpAny_pure ?_)))
  dsimp only
  refine wpAny_ite_false (by rfl) ?_
  refine wpAny_bind (wpAny_holding (PyProof.Rows.iter_tuple ht ?_))
  refine wpAny_bind (wpAny_holding (PyProof.Rows.draw_tuple hlt items.size 0 _ _ ⟨_, Heap.get?_push_size _ rfl, rfl, rfl⟩ (PyProof.Rows.IsTup.push ht _) (by omega) fun h1 hit1 hs1 => ?_))
  have hall : List.take items.size (List.drop 0 items.toList) = items.toList := by
    rw [List.drop_zero]
    exact List.take_of_length_le (by simp)
  rw [hall]
  refine wpAny_ite_false (by simp) ?_
  have ht1 := PyProof.Rows.IsTup.extBut (PyProof.Rows.IsTup.push ht ⟨.type "tuple_iterator", none, .fields #[.ref t, .int 0 0], #[]⟩) (Heap.SameBut.extBut hs1) hlt
  have hot1 : HotX.HotAt A x1 h1 := by
    obtain ⟨hh, o, vs, e, d, c⟩ := hot
    exact ⟨hh, o, vs, Heap.SameBut.extBut hs1 x1 o hlx (Heap.get?_push_of_some _ e), d, c⟩
  refine wpAny_bind (wpAny_holding (tuple_end_hot hot1 hit1 ht1 (by simp) fun h2 he2 => ?_))
  refine wpAny_ite_false (by rfl) ?_
  exact wpAny_pure (hQ h2 fun b o hb e => he2 b o hb (Heap.SameBut.extBut hs1 b o hb (Heap.get?_push_of_some _ e)))
theorem pg_tupH {X : Cx} {pos : Pos} {es : List Expr} {k : Nat} {t : TGs} {n : Nat} (hc : HotC X) (h : PGs X es t) (hn : (assignEach es X.env).length = n := by rfl) (hst : List.findIdx? (fun x => x.fst) (assignEach es X.env) = none := by rfl) : PG X (.Tuple es k pos) (gTup X.K n t) := by
  refine ⟨fun pins s σ H v u Q I r hw => ?_⟩
  obtain ⟨a, xs, rfl, hq, hl, hw⟩ := hw
  have e1 : u = .ref a := r
  subst e1
  obtain ⟨its, rv, ht, hz⟩ := I.tuple hq
  obtain ⟨x1, hot⟩ := HotC.at hc I
  rw [PyProof.Rows.assign_Tuple]
  refine wpAny_bind (wpAny_standAt ?_)
  unfold unpack
  have hsz : (assignEach es X.env).length = its.toArray.size := by
    rw [hn, ← hl, Vals.length rv, List.size_toArray]
  rw [hst, hsz]
  refine wpAny_bind (wpAny_holding (unpack_hot hot ht fun h' hx => ?_))
  have I1 := Inv.kept (t' := s.toks) I fun b o e => hx b o (Nat.ne_of_lt (Heap.lt_size e)) e
  exact h.run pins _ σ H xs its Q I1 rv hw
end K1

/-! X6 -/
/-! A def called in an except suite with what is being handled: its promise may speak of the error. -/
namespace K1
open PySem L2 L2H PyProof.Rows PySem.W PySem.Calls
structure FnE (P : Program) (w : World) (K : Frag) (mg : Str → Option Value) (base : Heap) (k : Nat) (f : Addr) (fd : FuncData) (ps : List Str) (sp : Addr × Obj → Sp) : Prop where
  len : ∀ p vs H Q E, sp p vs H Q E → vs.length = ps.length
  run : ∀ (A : Around) (outer : List Env) (s : Shared) (H : Hp) (args : Args) (us : List Value) (vs : List V) (Q : VK) (E : XK) (p : Addr × Obj), RoomH k A → Hot1 A p → PinOk outer H s p → Env0 P w K mg base A outer s H → BindsTo s fd args (ps.zip us) → Vals vs us → sp p vs H Q E →
    codeAny (model P w) A (.call (.ref f) args) (CR CX0 outer P w H s Q E) s
theorem fnE_of {P : Program} {w : World} {K : Frag} {mg : Str → Option Value} {base : Heap} {x qual : Str} {st : Stmt} {f : Addr} {fd : FuncData} {N ps : List Str} {k : Nat} {sp : Addr × Obj → Sp} (F : Fun K x qual st f fd) (S : FnScope N ps (defScope st)) (len : ∀ p vs H Q E, sp p vs H Q E → vs.length = ps.length)
    (hbody : ∀ (cdv : Value) (A : Around) (outer : List Env) (s : Shared) (H : Hp) (vs : List V) (Q : VK) (E : XK) (p : Addr × Obj), Hot1 A p → RoomH k (A.deeper (envOfC qual (defScope st) s.heap.objs.size f cdv)) → sp p vs H Q E →
      ∃ t, PSs (cxH CX0 P w K mg base N qual (defScope st) f cdv A outer s H E p) (defBody st) t ∧ t { nx := fun _ H' => Q .non H', rt := Q } (L2.start N vs) H) : FnE P w K mg base (k + 1) f fd ps sp := by
  obtain ⟨oc, od, kV, doc, pm, an, cdv, ct, osl, rfl, lk, hcd⟩ := F.ex
  refine ⟨len, fun A outer s H args us vs Q E p hr hot hpin e0 hb r hsp => ?_⟩
  have hl := len p vs H Q E hsp
  have kb : ∀ b o, base.get? b = some o → s.heap.get? b = some o := fun b o e => (e0.bs b o e).1
  have KX := e0.mod.kin.keeps kb
  refine Att.call_fn (binds := ps.zip us) KX (e0.mod.nolimit.keeps kb) lk hcd hr.depth hb ?_ (fun s1 IC => ?_) S.co S.gen S.kind
  · rw [List.all_eq_true]
    rintro ⟨n, v⟩ hy
    have := S.par n (List.of_mem_zip hy).1
    rcases this with q | q <;> simp [q]
  · obtain ⟨t, ht, hq⟩ := hbody cdv A outer s H vs Q E p hot (hr.deeper _) hsp
    have I := inv_startH (CX := CX0) (E := E) (N := N) S hpin e0 hl r IC
    refine wpAny_mono (ht.run [] s1 (L2.start N vs) H _ I hq) (fun fl s' hs => ?_) (fun e s' hs => hs)
    have fin : ∀ {σ' H' v u}, L2.Inv (cxH CX0 P w K mg base N qual (defScope st) f cdv A outer s H E p) [] σ' H' s' → L2.RelV v u → Q v H' → CR CX0 outer P w H s Q E (.ok (.ret u)) s' := fun {σ' H' v u} J rv q => ⟨v, H', J.os, J.bare, J.base, J.hok, rv, q⟩
    cases fl with
    | next =>
      obtain ⟨σ', H', J, q⟩ := hs
      exact fin (v := .non) (u := .none) J (show L2.RelV V.non Value.none from rfl) q
    | ret u =>
      obtain ⟨v, σ', H', J, rv, q⟩ := hs
      exact fin J rv q
    | _ =>
      obtain ⟨_, _, _, q⟩ := hs
      exact q.elim
def tCallE (sp : Addr × Obj → Sp) (p : Addr × Obj) (t : TA) : TE := fun σ H Q => t σ H fun vs H1 => sp p vs H1 Q E0
theorem pe_callE {X : Cx} {k : Nat} {f : Addr} {fd : FuncData} {ps : List Str} {sp : Addr × Obj → Sp} {p : Addr × Obj} {x : Str} {q pos : Pos} {e : Expr} {es : List Expr} {t : TA} (F : FnE X.prog X.w X.K X.mg X.base k f fd ps sp) (hr : RoomH k X.A) (hot : Hot1 X.A p) (hp : p ∈ X.pn) (hg : Gl X x) (hm : X.mg x = some (.ref f)) (hk : keepIn X.K (.ref f) = true) (hb : Binds X.K fd ps []) (ha : PA X (e :: es) t)
    (hdb : (x == ("__debug__" : Str)) = false := by decide) (he : starEach (e :: es) X.env = (false, eval e X.env) :: starEach es X.env := by rfl) (hpl : (backTo pos (starEach es X.env)).any (·.1) = false := by rfl) :
    PE X (.Call (.Name x q) (e :: es) [] pos) (tCallE sp p t) := by
  refine ⟨fun pins s σ H Q I h => ?_⟩
  refine wpAny_Call_Name_kw (ld_glob I hg hm (callWith_K I.ok.mod.kin hk (thn (ha.run pos pins s σ H _ I h) ?_) he hpl) hdb)
  rintro us s1 ⟨vs, H1, I1, r, h1⟩
  refine ⟨I1.kIn, ?_⟩
  have hl : us.length = ps.length := by rw [← Vals.length r]; exact F.len p vs H1 Q E0 h1
  have b := hb s1 us I1.kIn (by simpa using hl)
  have P1 := I1.pin p (List.mem_append_left pins hp)
  refine wpAny_call (codeAny_mono (F.run X.A X.stack s1 H1 ⟨us, []⟩ us vs Q E0 p hr hot ⟨P1.1, P1.2.1, fun hm' => ?_, P1.2.2.2.2⟩ I1.env0 (by simpa using b) r h1) ?_)
  · exact Or.elim (List.mem_cons.mp (I1.stkSub p.1 hm')) P1.2.2.1 P1.2.2.2.1
  · intro rr s' hq
    cases rr with
    | error e => exact hq.elim
    | ok fl =>
      cases fl with
      | ret u => exact Inv.after I1 hq
      | _ => exact hq.elim
/-- isinstance(e, T), e what is being handled -/
def rIsP (K : Frag) (C a d : Addr) : List V → Hp → VK → Prop := fun xs H Q => ∃ (c : V) (cv : Value) (b : Bool) (fs : List (Str × V)), xs = [.ref a, c] ∧ H d = some (.xd fs) ∧ (∀ u, L2.RelV c u → u = cv) ∧ kitOne K (.ref C) cv = some b ∧ Q (.bl b) H
theorem call_isP {X : Cx} {a C d : Addr} {oe : Obj} (hp : (a, oe) ∈ X.pn) (T : ExcC X.K C) (hcl : (clsIn X.K C).isSome = true) (hc : oe.cls = .ref C) (hd : oe.dict = some d) (hf : ∃ vs, oe.data = .fields vs) : CallR X (.builtin "isinstance") (rIsP X.K C a d) := by
  intro pins s σ H xs us Q I r h
  obtain ⟨c, cv, b, fs, rfl, hx, hcv, e, q⟩ := h
  cases r with
  | cons r1 r2 =>
  cases r2 with
  | cons r2 r3 =>
  cases r3 with
  | nil =>
  rename_i u1 u2
  have e1 : u1 = .ref a := r1
  subst e1
  have e2 := hcv u2 r2
  subst e2
  obtain ⟨g1, g2, _⟩ := I.pin (a, oe) (List.mem_append_left _ hp)
  obtain ⟨mA, hn, _⟩ := I.hok d _ hx
  obtain ⟨o, _, _, ho, _⟩ := hn
  obtain ⟨vs, hf⟩ := hf
  have IA : InstAt s.heap a oe C (some o) := by
    refine ⟨g1, hc, ?_, ?_⟩
    · unfold notCls; rw [hf]
    · rw [hd]; exact ho
  refine kia_one (kitx_exc (x := a) (od := some o) (ox := oe) hcl T.hg T.hk T.hs T.ha T.hn T.ht T.hm) I.kIn IA e (by intro z; cases z) fun tk => ?_
  exact ⟨.bl b, H, I.kept (fun _ _ e => e), rfl, q⟩
end K1

/-! L5i -/


namespace K1
open PySem L2 L2H
theorem Same.set {H H1 : Hp} {p : Addr} {o : HO} (s : Same H H1) (hp : H p = none) : Same H (upd H1 p o) := fun c u e => by
  rw [upd_ne (ne_of_none e hp)]; exact s c u e
abbrev sCls : Stmt := top 87
abbrev nCls : List Str := ["_law_e", "_law_a", "_law_name", "_law_flag"]
theorem scCls : FnScope nCls ["_law_e"] (defScope sCls) := ⟨rfl, rfl, rfl, by decide +kernel, rfl, by decide +kernel, by decide +kernel⟩
def clsL : List (Str × Bool) := [("CarryError", true), ("Malformed", true), ("Refused", false), ("BadSigns", false), ("BadPaper", false), ("BadName", false), ("BadWalk", false), ("BadRule", false), ("BadForm", false), ("BadSlip", false), ("BadWay", false), ("BadDeed", false), ("BadLine", true), ("TooMany", false), ("Twice", false), ("Unknown", false), ("Unlike", false), ("Unfit", false)]
/-- the classes of the errors: C is BadLine -/
def ClsF (K : PySem.W.Frag) (mg : Str → Option Value) (C : Addr) (c : Str → Addr) : Prop := ∀ e ∈ clsL, mg e.1 = some (.ref (c e.1)) ∧ PySem.W.kitOne K (.ref C) (.ref (c e.1)) = some e.2
def Row (H : Hp) (l : Addr) (ts : List (Addr × Str × Bool)) : Prop := H l = some (.lst (ts.map fun e => V.ref e.1)) ∧ ∀ e ∈ ts, H e.1 = some (.tup [.str e.2.1, .bl e.2.2])
def tPair (K : PySem.W.Frag) (C a d : Addr) (n1 : Str) (c1 : Addr) (n2 : Str) (c2 : Addr) : TE :=
  tLst (tCons (tTup (tCons (tC (.str n1)) (tCons (tCB (rIsP K C a d) (tCons (tVar 0) (tCons (tC (.ref c1)) tNil))) tNil))) (tCons (tTup (tCons (tC (.str n2)) (tCons (tCB (rIsP K C a d) (tCons (tVar 0) (tCons (tC (.ref c2)) tNil))) tNil))) tNil))
theorem pair_run {K : PySem.W.Frag} {C a d c1 c2 : Addr} {n1 n2 : Str} {b1 b2 : Bool} {σ : L2.St} {H : Hp} {Q : VK} {fs : List (Str × V)} (h0 : σ[0]? = some (some (.ref a))) (hd : H d = some (.xd fs)) (k1 : PySem.W.kitOne K (.ref C) (.ref c1) = some b1) (k2 : PySem.W.kitOne K (.ref C) (.ref c2) = some b2)
    (k : ∀ H' t1 t2 l, Same H H' → H' t1 = some (.tup [.str n1, .bl b1]) → H' t2 = some (.tup [.str n2, .bl b2]) → H' l = some (.lst [.ref t1, .ref t2]) → Q (.ref l) H') : tPair K C a d n1 c1 n2 c2 σ H Q := by
  unfold tPair
  have two : (2 : Nat) ≤ sizeLine := by decide
  walk_at "go"
  refine ⟨_, h0, .ref c1, .ref c1, b1, fs, rfl, hd, fun u h => h, k1, ?_⟩
  walk_at "go"
  refine ⟨two, fun t1 h1 => ?_⟩
  walk_at "go"
  refine ⟨_, h0, .ref c2, .ref c2, b2, fs, rfl, same_new h1 _ _ hd, fun u h => h, k2, ?_⟩
  walk_at "go"
  refine ⟨two, fun t2 h2 => ?_⟩
  walk_at "go"
  refine ⟨two, fun l hl => ?_⟩
  refine k _ t1 t2 l (Same.trans (Same.trans (same_new h1) (same_new h2)) (same_new hl)) ?_ ?_ upd_same
  · exact same_new hl _ _ (same_new h2 _ _ upd_same)
  · exact same_new hl _ _ upd_same
theorem cat_run {K : PySem.W.Frag} {C a d c1 c2 l : Addr} {n1 n2 : Str} {b1 b2 : Bool} {x2 x3 : Option V} {H : Hp} {fs : List (Str × V)} {ts : List (Addr × Str × Bool)} {Q : VK}
    (k : ∀ H' l' ts', Same H H' → Row H' l' ts' → ts'.map (·.2) = ts.map (·.2) ++ [(n1, b1), (n2, b2)] → Q (.ref l') H') (hr : Row H l ts) (hd : H d = some (.xd fs)) (k1 : PySem.W.kitOne K (.ref C) (.ref c1) = some b1) (k2 : PySem.W.kitOne K (.ref C) (.ref c2) = some b2) (hz : ts.length + 2 ≤ 100) :
    tOp rCat (tVar 1) (tPair K C a d n1 c1 n2 c2) [some (.ref a), some (.ref l), x2, x3] H Q := by
  refine r_op ?_
  refine r_var (v := .ref l) rfl ?_
  refine pair_run (σ := [some (.ref a), some (.ref l), x2, x3]) rfl hd k1 k2 fun H' t1 t2 l2 sm e1 e2 el => ?_
  refine ⟨l, l2, _, _, rfl, rfl, sm _ _ hr.1, el, by rw [List.length_map]; exact small_line (by show ts.length + 2 ≤ 1000; omega), fun p hp => ?_⟩
  have s2 := same_new (o := HO.lst ((ts.map fun e => V.ref e.1) ++ [.ref t1, .ref t2])) hp
  refine k _ p (ts ++ [(t1, n1, b1), (t2, n2, b2)]) (Same.trans sm s2) ⟨?_, fun e he => ?_⟩ (by rw [List.map_append]; rfl)
  · rw [upd_same, List.map_append]; rfl
  · rcases List.mem_append.mp he with he | he
    · exact s2 _ _ (sm _ _ (hr.2 e he))
    · rcases List.mem_cons.mp he with rfl | he
      · exact s2 _ _ e1
      · obtain rfl := List.mem_singleton.mp he
        exact s2 _ _ e2
def outs (cl : List (Str × Bool)) (n : Nat) : List V := ((cl.take n).filter (·.2)).map fun e => V.str e.1
theorem outs_no {cl : List (Str × Bool)} {i : Nat} {n : Str} (h : cl[i]? = some (n, false)) : outs cl (i + 1) = outs cl i := by
  unfold outs
  rw [List.take_succ, h]
  simp
theorem outs_yes {cl : List (Str × Bool)} {i : Nat} {n : Str} (h : cl[i]? = some (n, true)) : outs cl (i + 1) = outs cl i ++ [.str n] := by
  unfold outs
  rw [List.take_succ, h]
  simp
theorem outs_len (cl : List (Str × Bool)) (i : Nat) : (outs cl i).length ≤ cl.length := by
  unfold outs
  rw [List.length_map]
  exact Nat.le_trans (List.length_filter_le _ _) (by rw [List.length_take]; omega)
def spCls (C : Addr) : Addr × Obj → Sp := fun p vs H Q _ => ∃ (d : Addr) (fs : List (Str × V)), vs = [.ref p.1] ∧ p.2.cls = .ref C ∧ p.2.dict = some d ∧ (∃ ws, p.2.data = .fields ws) ∧ H d = some (.xd fs) ∧
  ∀ H' r, Same H H' → H' r = some (.lst [.str "CarryError", .str "Malformed", .str "BadLine"]) → Q (.ref r) H'
section
variable {P : Program} {w : World} {K : PySem.W.Frag} {mg : Str → Option Value} {base : Heap}
theorem ok_cls {f C : Addr} {fd : FuncData} {c : Str → Addr} (F : Fun K "_law_classes" "_law_classes" sCls f fd) (B : Bl mg) (T : ExcC K C) (hcl : (PySem.W.clsIn K C).isSome = true) (G : ClsF K mg C c) : FnE P w K mg base 1 f fd ["_law_e"] (spCls C) := by
  refine fnE_of F scCls (fun p vs H Q E h => ?_) (fun cdv A outer s H vs Q E p hot hr h => ?_)
  · obtain ⟨d, fs, rfl, _⟩ := h
    rfl
  · obtain ⟨a, oe⟩ := p
    obtain ⟨d, fs, rfl, hc, hd, hf, hd0, k⟩ := h
    have g0 : mg "CarryError" = some (.ref (c "CarryError")) := (G _ (show (("CarryError" : Str), true) ∈ clsL by simp [clsL])).1
    have k0 : PySem.W.kitOne K (.ref C) (.ref (c "CarryError")) = some true := (G _ (show (("CarryError" : Str), true) ∈ clsL by simp [clsL])).2
    have g1 : mg "Malformed" = some (.ref (c "Malformed")) := (G _ (show (("Malformed" : Str), true) ∈ clsL by simp [clsL])).1
    have k1 : PySem.W.kitOne K (.ref C) (.ref (c "Malformed")) = some true := (G _ (show (("Malformed" : Str), true) ∈ clsL by simp [clsL])).2
    have g2 : mg "Refused" = some (.ref (c "Refused")) := (G _ (show (("Refused" : Str), false) ∈ clsL by simp [clsL])).1
    have k2 : PySem.W.kitOne K (.ref C) (.ref (c "Refused")) = some false := (G _ (show (("Refused" : Str), false) ∈ clsL by simp [clsL])).2
    have g3 : mg "BadSigns" = some (.ref (c "BadSigns")) := (G _ (show (("BadSigns" : Str), false) ∈ clsL by simp [clsL])).1
    have k3 : PySem.W.kitOne K (.ref C) (.ref (c "BadSigns")) = some false := (G _ (show (("BadSigns" : Str), false) ∈ clsL by simp [clsL])).2
    have g4 : mg "BadPaper" = some (.ref (c "BadPaper")) := (G _ (show (("BadPaper" : Str), false) ∈ clsL by simp [clsL])).1
    have k4 : PySem.W.kitOne K (.ref C) (.ref (c "BadPaper")) = some false := (G _ (show (("BadPaper" : Str), false) ∈ clsL by simp [clsL])).2
    have g5 : mg "BadName" = some (.ref (c "BadName")) := (G _ (show (("BadName" : Str), false) ∈ clsL by simp [clsL])).1
    have k5 : PySem.W.kitOne K (.ref C) (.ref (c "BadName")) = some false := (G _ (show (("BadName" : Str), false) ∈ clsL by simp [clsL])).2
    have g6 : mg "BadWalk" = some (.ref (c "BadWalk")) := (G _ (show (("BadWalk" : Str), false) ∈ clsL by simp [clsL])).1
    have k6 : PySem.W.kitOne K (.ref C) (.ref (c "BadWalk")) = some false := (G _ (show (("BadWalk" : Str), false) ∈ clsL by simp [clsL])).2
    have g7 : mg "BadRule" = some (.ref (c "BadRule")) := (G _ (show (("BadRule" : Str), false) ∈ clsL by simp [clsL])).1
    have k7 : PySem.W.kitOne K (.ref C) (.ref (c "BadRule")) = some false := (G _ (show (("BadRule" : Str), false) ∈ clsL by simp [clsL])).2
    have g8 : mg "BadForm" = some (.ref (c "BadForm")) := (G _ (show (("BadForm" : Str), false) ∈ clsL by simp [clsL])).1
    have k8 : PySem.W.kitOne K (.ref C) (.ref (c "BadForm")) = some false := (G _ (show (("BadForm" : Str), false) ∈ clsL by simp [clsL])).2
    have g9 : mg "BadSlip" = some (.ref (c "BadSlip")) := (G _ (show (("BadSlip" : Str), false) ∈ clsL by simp [clsL])).1
    have k9 : PySem.W.kitOne K (.ref C) (.ref (c "BadSlip")) = some false := (G _ (show (("BadSlip" : Str), false) ∈ clsL by simp [clsL])).2
    have g10 : mg "BadWay" = some (.ref (c "BadWay")) := (G _ (show (("BadWay" : Str), false) ∈ clsL by simp [clsL])).1
    have k10 : PySem.W.kitOne K (.ref C) (.ref (c "BadWay")) = some false := (G _ (show (("BadWay" : Str), false) ∈ clsL by simp [clsL])).2
    have g11 : mg "BadDeed" = some (.ref (c "BadDeed")) := (G _ (show (("BadDeed" : Str), false) ∈ clsL by simp [clsL])).1
    have k11 : PySem.W.kitOne K (.ref C) (.ref (c "BadDeed")) = some false := (G _ (show (("BadDeed" : Str), false) ∈ clsL by simp [clsL])).2
    have g12 : mg "BadLine" = some (.ref (c "BadLine")) := (G _ (show (("BadLine" : Str), true) ∈ clsL by simp [clsL])).1
    have k12 : PySem.W.kitOne K (.ref C) (.ref (c "BadLine")) = some true := (G _ (show (("BadLine" : Str), true) ∈ clsL by simp [clsL])).2
    have g13 : mg "TooMany" = some (.ref (c "TooMany")) := (G _ (show (("TooMany" : Str), false) ∈ clsL by simp [clsL])).1
    have k13 : PySem.W.kitOne K (.ref C) (.ref (c "TooMany")) = some false := (G _ (show (("TooMany" : Str), false) ∈ clsL by simp [clsL])).2
    have g14 : mg "Twice" = some (.ref (c "Twice")) := (G _ (show (("Twice" : Str), false) ∈ clsL by simp [clsL])).1
    have k14 : PySem.W.kitOne K (.ref C) (.ref (c "Twice")) = some false := (G _ (show (("Twice" : Str), false) ∈ clsL by simp [clsL])).2
    have g15 : mg "Unknown" = some (.ref (c "Unknown")) := (G _ (show (("Unknown" : Str), false) ∈ clsL by simp [clsL])).1
    have k15 : PySem.W.kitOne K (.ref C) (.ref (c "Unknown")) = some false := (G _ (show (("Unknown" : Str), false) ∈ clsL by simp [clsL])).2
    have g16 : mg "Unlike" = some (.ref (c "Unlike")) := (G _ (show (("Unlike" : Str), false) ∈ clsL by simp [clsL])).1
    have k16 : PySem.W.kitOne K (.ref C) (.ref (c "Unlike")) = some false := (G _ (show (("Unlike" : Str), false) ∈ clsL by simp [clsL])).2
    have g17 : mg "Unfit" = some (.ref (c "Unfit")) := (G _ (show (("Unfit" : Str), false) ∈ clsL by simp [clsL])).1
    have k17 : PySem.W.kitOne K (.ref C) (.ref (c "Unfit")) = some false := (G _ (show (("Unfit" : Str), false) ∈ clsL by simp [clsL])).2
    refine ⟨_, (pss_cons (ps_set (i := 1) scCls.nd rfl (Or.inl rfl) (pe_lst (pa_cons (pe_tup (pa_cons pe_str (pa_cons (pe_callB (id := "isinstance") (r := rIsP K C a d) (call_isP (List.mem_singleton.mpr rfl) T hcl hc hd hf) (by rfl) B.isin (by decide +kernel) (pa_cons (pv 0) (pa_cons (pe_glob (v := .ref (c "CarryError")) rfl g0 rfl) pa_nil))) pa_nil))) (pa_cons (pe_tup (pa_cons pe_str (pa_cons (pe_callB (id := "isinstance") (r := rIsP K C a d) (call_isP (List.mem_singleton.mpr rfl) T hcl hc hd hf) (by rfl) B.isin (by decide +kernel) (pa_cons (pv 0) (pa_cons (pe_glob (v := .ref (c "Malformed")) rfl g1 rfl) pa_nil))) pa_nil))) pa_nil)))) (pss_cons (ps_set (i := 1) scCls.nd rfl (Or.inl rfl) (pe_op op_cat (pv 1) (pe_lst (pa_cons (pe_tup (pa_cons pe_str (pa_cons (pe_callB (id := "isinstance") (r := rIsP K C a d) (call_isP (List.mem_singleton.mpr rfl) T hcl hc hd hf) (by rfl) B.isin (by decide +kernel) (pa_cons (pv 0) (pa_cons (pe_glob (v := .ref (c "Refused")) rfl g2 rfl) pa_nil))) pa_nil))) (pa_cons (pe_tup (pa_cons pe_str (pa_cons (pe_callB (id := "isinstance") (r := rIsP K C a d) (call_isP (List.mem_singleton.mpr rfl) T hcl hc hd hf) (by rfl) B.isin (by decide +kernel) (pa_cons (pv 0) (pa_cons (pe_glob (v := .ref (c "BadSigns")) rfl g3 rfl) pa_nil))) pa_nil))) pa_nil))))) (pss_cons (ps_set (i := 1) scCls.nd rfl (Or.inl rfl) (pe_op op_cat (pv 1) (pe_lst (pa_cons (pe_tup (pa_cons pe_str (pa_cons (pe_callB (id := "isinstance") (r := rIsP K C a d) (call_isP (List.mem_singleton.mpr rfl) T hcl hc hd hf) (by rfl) B.isin (by decide +kernel) (pa_cons (pv 0) (pa_cons (pe_glob (v := .ref (c "BadPaper")) rfl g4 rfl) pa_nil))) pa_nil))) (pa_cons (pe_tup (pa_cons pe_str (pa_cons (pe_callB (id := "isinstance") (r := rIsP K C a d) (call_isP (List.mem_singleton.mpr rfl) T hcl hc hd hf) (by rfl) B.isin (by decide +kernel) (pa_cons (pv 0) (pa_cons (pe_glob (v := .ref (c "BadName")) rfl g5 rfl) pa_nil))) pa_nil))) pa_nil))))) (pss_cons (ps_set (i := 1) scCls.nd rfl (Or.inl rfl) (pe_op op_cat (pv 1) (pe_lst (pa_cons (pe_tup (pa_cons pe_str (pa_cons (pe_callB (id := "isinstance") (r := rIsP K C a d) (call_isP (List.mem_singleton.mpr rfl) T hcl hc hd hf) (by rfl) B.isin (by decide +kernel) (pa_cons (pv 0) (pa_cons (pe_glob (v := .ref (c "BadWalk")) rfl g6 rfl) pa_nil))) pa_nil))) (pa_cons (pe_tup (pa_cons pe_str (pa_cons (pe_callB (id := "isinstance") (r := rIsP K C a d) (call_isP (List.mem_singleton.mpr rfl) T hcl hc hd hf) (by rfl) B.isin (by decide +kernel) (pa_cons (pv 0) (pa_cons (pe_glob (v := .ref (c "BadRule")) rfl g7 rfl) pa_nil))) pa_nil))) pa_nil))))) (pss_cons (ps_set (i := 1) scCls.nd rfl (Or.inl rfl) (pe_op op_cat (pv 1) (pe_lst (pa_cons (pe_tup (pa_cons pe_str (pa_cons (pe_callB (id := "isinstance") (r := rIsP K C a d) (call_isP (List.mem_singleton.mpr rfl) T hcl hc hd hf) (by rfl) B.isin (by decide +kernel) (pa_cons (pv 0) (pa_cons (pe_glob (v := .ref (c "BadForm")) rfl g8 rfl) pa_nil))) pa_nil))) (pa_cons (pe_tup (pa_cons pe_str (pa_cons (pe_callB (id := "isinstance") (r := rIsP K C a d) (call_isP (List.mem_singleton.mpr rfl) T hcl hc hd hf) (by rfl) B.isin (by decide +kernel) (pa_cons (pv 0) (pa_cons (pe_glob (v := .ref (c "BadSlip")) rfl g9 rfl) pa_nil))) pa_nil))) pa_nil))))) (pss_cons (ps_set (i := 1) scCls.nd rfl (Or.inl rfl) (pe_op op_cat (pv 1) (pe_lst (pa_cons (pe_tup (pa_cons pe_str (pa_cons (pe_callB (id := "isinstance") (r := rIsP K C a d) (call_isP (List.mem_singleton.mpr rfl) T hcl hc hd hf) (by rfl) B.isin (by decide +kernel) (pa_cons (pv 0) (pa_cons (pe_glob (v := .ref (c "BadWay")) rfl g10 rfl) pa_nil))) pa_nil))) (pa_cons (pe_tup (pa_cons pe_str (pa_cons (pe_callB (id := "isinstance") (r := rIsP K C a d) (call_isP (List.mem_singleton.mpr rfl) T hcl hc hd hf) (by rfl) B.isin (by decide +kernel) (pa_cons (pv 0) (pa_cons (pe_glob (v := .ref (c "BadDeed")) rfl g11 rfl) pa_nil))) pa_nil))) pa_nil))))) (pss_cons (ps_set (i := 1) scCls.nd rfl (Or.inl rfl) (pe_op op_cat (pv 1) (pe_lst (pa_cons (pe_tup (pa_cons pe_str (pa_cons (pe_callB (id := "isinstance") (r := rIsP K C a d) (call_isP (List.mem_singleton.mpr rfl) T hcl hc hd hf) (by rfl) B.isin (by decide +kernel) (pa_cons (pv 0) (pa_cons (pe_glob (v := .ref (c "BadLine")) rfl g12 rfl) pa_nil))) pa_nil))) (pa_cons (pe_tup (pa_cons pe_str (pa_cons (pe_callB (id := "isinstance") (r := rIsP K C a d) (call_isP (List.mem_singleton.mpr rfl) T hcl hc hd hf) (by rfl) B.isin (by decide +kernel) (pa_cons (pv 0) (pa_cons (pe_glob (v := .ref (c "TooMany")) rfl g13 rfl) pa_nil))) pa_nil))) pa_nil))))) (pss_cons (ps_set (i := 1) scCls.nd rfl (Or.inl rfl) (pe_op op_cat (pv 1) (pe_lst (pa_cons (pe_tup (pa_cons pe_str (pa_cons (pe_callB (id := "isinstance") (r := rIsP K C a d) (call_isP (List.mem_singleton.mpr rfl) T hcl hc hd hf) (by rfl) B.isin (by decide +kernel) (pa_cons (pv 0) (pa_cons (pe_glob (v := .ref (c "Twice")) rfl g14 rfl) pa_nil))) pa_nil))) (pa_cons (pe_tup (pa_cons pe_str (pa_cons (pe_callB (id := "isinstance") (r := rIsP K C a d) (call_isP (List.mem_singleton.mpr rfl) T hcl hc hd hf) (by rfl) B.isin (by decide +kernel) (pa_cons (pv 0) (pa_cons (pe_glob (v := .ref (c "Unknown")) rfl g15 rfl) pa_nil))) pa_nil))) pa_nil))))) (pss_cons (ps_set (i := 1) scCls.nd rfl (Or.inl rfl) (pe_op op_cat (pv 1) (pe_lst (pa_cons (pe_tup (pa_cons pe_str (pa_cons (pe_callB (id := "isinstance") (r := rIsP K C a d) (call_isP (List.mem_singleton.mpr rfl) T hcl hc hd hf) (by rfl) B.isin (by decide +kernel) (pa_cons (pv 0) (pa_cons (pe_glob (v := .ref (c "Unlike")) rfl g16 rfl) pa_nil))) pa_nil))) (pa_cons (pe_tup (pa_cons pe_str (pa_cons (pe_callB (id := "isinstance") (r := rIsP K C a d) (call_isP (List.mem_singleton.mpr rfl) T hcl hc hd hf) (by rfl) B.isin (by decide +kernel) (pa_cons (pv 0) (pa_cons (pe_glob (v := .ref (c "Unfit")) rfl g17 rfl) pa_nil))) pa_nil))) pa_nil))))) (pss_one (ps_ret (pe_lcH (own := [("_law_name", 2), ("_law_flag", 3)]) (g := gTup K 2 (gCons (gName 2) (gCons (gName 3) gNil))) ⟨(a, oe), hot, List.mem_singleton.mpr rfl⟩ scCls.nd (pv 1) (blkOk_by (N := nCls) (sc := defScope sCls) (by decide +kernel)) (fun _ _ _ _ _ => pg_tupH ⟨(a, oe), hot, List.mem_singleton.mpr rfl⟩ (pgs_cons (pg_name (i := 2) scCls.nd rfl (Or.inl rfl)) (pgs_cons (pg_name (i := 3) scCls.nd rfl (Or.inl rfl)) pgs_nil))) (fun _ _ _ _ _ => (pts_one (pt_val (pv 3)))) (fun _ _ _ _ _ => (pv 2)))))))))))))), ?_⟩
    try dsimp only [cxOf, Cx.nox, Cx.wish]
    have tp : ∀ (n1 : Str) (c1 : Addr) (n2 : Str) (c2 : Addr), tLst (tCons (tTup (tCons (tC (.str n1)) (tCons (tCB (rIsP K C a d) (tCons (tVar 0) (tCons (tC (.ref c1)) tNil))) tNil))) (tCons (tTup (tCons (tC (.str n2)) (tCons (tCB (rIsP K C a d) (tCons (tVar 0) (tCons (tC (.ref c2)) tNil))) tNil))) tNil)) = tPair K C a d n1 c1 n2 c2 := fun _ _ _ _ => rfl
    simp only [tp]
    refine r_seq (r_asg ?_)
    refine pair_run (σ := [some (.ref a), none, none, none]) rfl hd0 k0 k1 fun H0 t0 t1 l0 s0 e0 e1 el0 => ?_
    refine r_name ?_
    refine r_seq (r_asg ?_)
    have r0 : Row H0 l0 [(t0, "CarryError", true), (t1, "Malformed", true)] := ⟨el0, fun e he => by
      rcases List.mem_cons.mp he with rfl | he
      · exact e0
      · obtain rfl := List.mem_singleton.mp he
        exact e1⟩
    have m0 : ([(t0, "CarryError", true), (t1, "Malformed", true)] : List (Addr × Str × Bool)).map (·.2) = ([("CarryError", true), ("Malformed", true)] : List (Str × Bool)) := rfl
    revert r0 m0
    generalize ([(t0, "CarryError", true), (t1, "Malformed", true)] : List (Addr × Str × Bool)) = ts0
    intro r0 m0
    refine cat_run (a := a) (x2 := none) (x3 := none) (fun H' l' ts' sm rw' => ?_) r0 (s0 _ _ hd0) k2 k3 (by have := congrArg List.length m0; rw [List.length_map] at this; rw [this]; decide)
    intro mm
    have m0 := mm.trans (congrArg (fun z : List (Str × Bool) => z ++ ([("Refused", false), ("BadSigns", false)] : List (Str × Bool))) m0)
    have s0 := Same.trans s0 sm
    have r0 := rw'
    try dsimp only [List.cons_append, List.nil_append] at m0
    clear mm sm rw'
    refine r_name ?_
    refine r_seq (r_asg ?_)
    refine cat_run (a := a) (x2 := none) (x3 := none) (fun H' l' ts' sm rw' => ?_) r0 (s0 _ _ hd0) k4 k5 (by have := congrArg List.length m0; rw [List.length_map] at this; rw [this]; decide)
    intro mm
    have m0 := mm.trans (congrArg (fun z : List (Str × Bool) => z ++ ([("BadPaper", false), ("BadName", false)] : List (Str × Bool))) m0)
    have s0 := Same.trans s0 sm
    have r0 := rw'
    try dsimp only [List.cons_append, List.nil_append] at m0
    clear mm sm rw'
    refine r_name ?_
    refine r_seq (r_asg ?_)
    refine cat_run (a := a) (x2 := none) (x3 := none) (fun H' l' ts' sm rw' => ?_) r0 (s0 _ _ hd0) k6 k7 (by have := congrArg List.length m0; rw [List.length_map] at this; rw [this]; decide)
    intro mm
    have m0 := mm.trans (congrArg (fun z : List (Str × Bool) => z ++ ([("BadWalk", false), ("BadRule", false)] : List (Str × Bool))) m0)
    have s0 := Same.trans s0 sm
    have r0 := rw'
    try dsimp only [List.cons_append, List.nil_append] at m0
    clear mm sm rw'
    refine r_name ?_
    refine r_seq (r_asg ?_)
    refine cat_run (a := a) (x2 := none) (x3 := none) (fun H' l' ts' sm rw' => ?_) r0 (s0 _ _ hd0) k8 k9 (by have := congrArg List.length m0; rw [List.length_map] at this; rw [this]; decide)
    intro mm
    have m0 := mm.trans (congrArg (fun z : List (Str × Bool) => z ++ ([("BadForm", false), ("BadSlip", false)] : List (Str × Bool))) m0)
    have s0 := Same.trans s0 sm
    have r0 := rw'
    try dsimp only [List.cons_append, List.nil_append] at m0
    clear mm sm rw'
    refine r_name ?_
    refine r_seq (r_asg ?_)
    refine cat_run (a := a) (x2 := none) (x3 := none) (fun H' l' ts' sm rw' => ?_) r0 (s0 _ _ hd0) k10 k11 (by have := congrArg List.length m0; rw [List.length_map] at this; rw [this]; decide)
    intro mm
    have m0 := mm.trans (congrArg (fun z : List (Str × Bool) => z ++ ([("BadWay", false), ("BadDeed", false)] : List (Str × Bool))) m0)
    have s0 := Same.trans s0 sm
    have r0 := rw'
    try dsimp only [List.cons_append, List.nil_append] at m0
    clear mm sm rw'
    refine r_name ?_
    refine r_seq (r_asg ?_)
    refine cat_run (a := a) (x2 := none) (x3 := none) (fun H' l' ts' sm rw' => ?_) r0 (s0 _ _ hd0) k12 k13 (by have := congrArg List.length m0; rw [List.length_map] at this; rw [this]; decide)
    intro mm
    have m0 := mm.trans (congrArg (fun z : List (Str × Bool) => z ++ ([("BadLine", true), ("TooMany", false)] : List (Str × Bool))) m0)
    have s0 := Same.trans s0 sm
    have r0 := rw'
    try dsimp only [List.cons_append, List.nil_append] at m0
    clear mm sm rw'
    refine r_name ?_
    refine r_seq (r_asg ?_)
    refine cat_run (a := a) (x2 := none) (x3 := none) (fun H' l' ts' sm rw' => ?_) r0 (s0 _ _ hd0) k14 k15 (by have := congrArg List.length m0; rw [List.length_map] at this; rw [this]; decide)
    intro mm
    have m0 := mm.trans (congrArg (fun z : List (Str × Bool) => z ++ ([("Twice", false), ("Unknown", false)] : List (Str × Bool))) m0)
    have s0 := Same.trans s0 sm
    have r0 := rw'
    try dsimp only [List.cons_append, List.nil_append] at m0
    clear mm sm rw'
    refine r_name ?_
    refine r_seq (r_asg ?_)
    refine cat_run (a := a) (x2 := none) (x3 := none) (fun H' l' ts' sm rw' => ?_) r0 (s0 _ _ hd0) k16 k17 (by have := congrArg List.length m0; rw [List.length_map] at this; rw [this]; decide)
    intro mm
    have m0 := mm.trans (congrArg (fun z : List (Str × Bool) => z ++ ([("Unlike", false), ("Unfit", false)] : List (Str × Bool))) m0)
    have s0 := Same.trans s0 sm
    have r0 := rw'
    try dsimp only [List.cons_append, List.nil_append] at m0
    clear mm sm rw'
    refine r_name ?_
    obtain ⟨rl, rt⟩ := r0
    walk_at "go"
    refine ⟨⟨_, SqL.of rl⟩, fun D hD => lc_list (K := K) (a := l') (xs := ts'.map fun e => V.ref e.1) (fun i H2 => Same H' H2 ∧ H2 D = some (.lst (outs clsL i))) ⟨same_new hD, by rw [upd_same]; rfl⟩ (fun i H2 _ e => SqL.of (e.1 _ _ rl)) ?_ ?_⟩
    · rintro i x H2 hi ⟨sz, eD⟩
      rw [List.getElem?_map] at hi
      cases hei : ts'[i]? with
      | none => rw [hei] at hi; cases hi
      | some e =>
      rw [hei] at hi
      obtain rfl : x = .ref e.1 := (Option.some.inj hi).symm
      have hci : clsL[i]? = some e.2 := by
        have : (ts'.map (·.2))[i]? = some e.2 := by rw [List.getElem?_map, hei]; rfl
        rw [m0] at this
        exact this
      obtain ⟨ea, en, eb⟩ := e
      refine ⟨ea, _, rfl, SqT.of (sz _ _ (rt _ (List.mem_of_getElem? hei))), rfl, ?_⟩
      walk_at "go"
      refine ⟨rfl, ?_⟩
      show tB (tVar 3) _ _ _
      walk_at "go"
      cases eb with
      | false =>
        walk_at "go"
        refine ⟨sz, ?_⟩
        rw [eD, outs_no hci]
      | true =>
        walk_at "go"
        refine ⟨_, eD, ?_, ?_, ?_⟩
        · exact Nat.lt_of_le_of_lt (outs_len clsL i) (by decide)
        · exact Same.set sz hD
        · rw [upd_same, outs_yes hci]
    · rintro H2 ⟨sz, eD⟩
      have hl : ts'.length = 18 := by
        have := congrArg List.length m0
        rw [List.length_map] at this
        exact this
      rw [List.length_map, hl] at eD
      walk_at "go"
      exact k _ D (Same.trans s0 sz) eD
end
end K1

/-! X1 -/
/-! super().__init__(text) of an own exception over ValueError. -/
namespace K1
open PySem L2 PyProof.Rows PySem.W PySem.Calls
theorem init_code {P : Program} {w : World} {A : Around} {R : Result → Shared → Prop} {h : Heap} {g : Array GenState} {d : Drawn} {t : Nat} {os : OsState} {C e t0 : Addr} {rest : List Value}
    (he : h.get? e = some (HandSPX.excO C t0)) (hrest : rest.length ≤ sizeLine)
    (hq : ∀ (h' : Heap) (t1 : Addr), (∀ b o, b ≠ e → h.get? b = some o → h'.get? b = some o) → h'.get? e = some (HandSPX.excO C t1) → R (.ok (.ret .none)) ⟨h', g, d, t, os⟩) :
    codeAny (model P w) A (.builtin "ValueError.__init__" ⟨.ref e :: rest, []⟩) R ⟨h, g, d, t, os⟩ := by
  refine codeAny_builtin F.excBase_ValueError.initEntry ?_
  rw [Around.under_plainId F.excBase_ValueError.init.plain]
  unfold Builtin.«BaseException.__init__»
  refine wpAny_ite_false (by rfl) ?_
  refine wpAny_bind (wpAny_newTuple ?_ hrest)
  have he' := Heap.get?_push_of_some ⟨.type "tuple", none, .seq rest.toArray 0, #[]⟩ he
  refine wpAny_bind ?_
  unfold Builtin.BaseException.bexcPut
  refine wpAny_bind ?_
  unfold field
  refine wpAny_bind ?_
  unfold fieldsOf
  refine wpAny_bind (wpAny_load' he' ?_)
  refine wpAny_pure ?_
  show wpAny _ _ (pure (Value.ref t0)) _ _ _
  refine wpAny_pure ?_
  refine wpAny_bind ?_
  unfold setField
  refine wpAny_bind (wpAny_load' he' ?_)
  refine wpAny_ite_true (by rfl) ?_
  refine wpAny_update' he' ?_
  refine wpAny_letGo ?_
  refine wpAny_pure ?_
  refine hq _ h.objs.size (fun b o hb e1 => ?_) ?_
  · rw [Heap.get?_update_ne _ _ _ _ hb]
    exact Heap.get?_push_of_some _ e1
  · exact Heap.get?_update_self _ he' rfl
theorem call_mw {P : Program} {w : World} {A : Around} {E : Value → Shared → Prop} {h : Heap} {g : Array GenState} {d : Drawn} {t : Nat} {os : OsState} {nm q : Str} {C N : Addr} {bs bm : List Value} {hdct : Bool} {sn : List Str} {sub : List Value} {ab : Bool} {col : Option Bool} {dd : Option Addr} {k0 k1 k2 k3 k5 : Option Value}
    {u e t0 : Addr} {rest : List Value} {Q : Value → Shared → Prop}
    (hC : h.get? C = some (excClassObj nm q C N bs bm hdct sn sub ab col dd k0 k1 k2 k3 k5 "ValueError.__new__")) (he : h.get? e = some (HandSPX.excO C t0)) (hu : h.get? u = some (kxs_mw "ValueError.__init__" e)) (hrest : rest.length ≤ sizeLine)
    (hq : ∀ (h' : Heap) (t1 : Addr), (∀ b o, b ≠ e → h.get? b = some o → h'.get? b = some o) → h'.get? e = some (HandSPX.excO C t1) → Q .none ⟨h', g, d, t, os⟩) :
    wpAny (model P w) A (call (.ref u) rest) Q E ⟨h, g, d, t, os⟩ := by
  refine wpAny_call (codeAny_of_tree ?_)
  show wpAny _ _ (callAny (.ref u) ⟨rest, []⟩) _ _ _
  unfold callAny
  refine wpAny_bind (wpAny_load hu ?_)
  dsimp only [kxs_mw]
  rw [if_pos (by decide)]
  show wpAny _ _ (if (Value.type "method-wrapper" != Value.type "method") = true then do
          checkBoundCall "ValueError.__init__" { pos := .ref e :: rest }
          again (Code.builtin "ValueError.__init__" { pos := .ref e :: rest })
        else again (Code.call (.builtin "ValueError.__init__") { pos := .ref e :: rest })) _ _ _
  rw [if_pos (by decide)]
  exact wpAny_bind (check_bound_init F.excBase_ValueError.toExcCallFacts hC he rfl (wpAny_pure ⟨Code.quiet_builtin _ (by decide +kernel), init_code he hrest hq⟩))
end K1

/-! Y1 -/
namespace K4
open PySem L2 K1 PyProof.Rows PySem.W PySem.Calls
abbrev sLine : Stmt := inClass (top 13) 0
/-- what is known of the class of the errors, and of its __init__ -/
structure LineF (P : Program) (K : Frag) (mg : Str → Option Value) (f : Addr) (fd : FuncData) (C : Addr) : Prop where
  ex : ∃ (oc : Value) (od : Option Addr) (kV doc pm : Value) (an : Option Addr) (ct : Value) (osl : Array (Option Value)) (cda cc : Addr) (ccl : Value) (cdd : Option Addr) (vs : Array Value) (ccs : Array (Option Value)) (file : Str) (tf : Tok) (cl : Value) (cld : Option Addr) (csl : Array (Option Value)),
    fd = ksFn "__init__" "BadLine.__init__" (defArgs sLine) (defBody sLine) (defScope sLine) .none kV doc pm an (.ref cda) ct cc ∧ K.lookup f = some ⟨oc, od, .func fd, osl⟩ ∧ codeIn K (.ref cda) "BadLine.__init__" = true ∧
    K.lookup cda = some ⟨ccl, cdd, .fields vs, ccs⟩ ∧ vs[2]? = some (.str file tf) ∧ (P.main.file == file) = true ∧ K.lookup cc = some ⟨cl, cld, .cell (some (.ref C)), csl⟩
  sup : (List.lookup (PySem.Str.ofString "super") P.main.scope.names).isSome = false
  any : nsIn K cStatics "thirdparty.any" = some none
  mgS : mg "super" = none
  oex : OexC K C
  sin : ks_superIn K C C "__init__" = some (some (.builtin "ValueError.__init__"))
  subC : mroIn K C (.ref C) = some true
  subV : subIn K (.ref C) (.type "ValueError") = some true
  fi : findIn K (.ref C) "line" = some none
  fw : findIn K (.ref C) "word" = some none
def spLineI (C : Addr) : Sp := fun vs H Q _ => ∃ (a : Addr) (i j : Nat), vs = [.ref a, vi i, vi j] ∧ i < 10 ^ 6 ∧ j < 10 ^ 6 ∧ H a = some (exo a C none) ∧ ∀ dx, H dx = none → dx ≠ a → Q .non (upd (upd H dx (exd dx [("line", vi i), ("word", vi j)])) a (exo a C (some dx)))
theorem log6 {n : Nat} (h : n < 10 ^ 6) : ((n : Int)).natAbs.log2 < 1920 := by
  rw [Int.natAbs_natCast]
  rcases Nat.eq_zero_or_pos n with e | e
  · rw [e]; decide
  · have h20 : n < 2 ^ 20 := Nat.lt_of_lt_of_le h (by decide)
    have : n.log2 < 20 := (Nat.log2_lt (by omega)).mpr h20
    omega
theorem jp0 {M : Model} {A : Around} {E : Value → Shared → Prop} {s : Shared} {out : Str} {x : Sem Value} {rest : List (Sem Value)} {Q : Value → Shared → Prop} {n m : Nat} (ho : out.length ≤ n) (hs : n + m ≤ sizeLine)
    (h : wpAny M A x (fun v s₁ => match v with | .str y _ => y.length ≤ m ∧ ∀ o : Str, o.length ≤ n + m → wpAny M A (joinParts o rest) Q E s₁ | _ => False) E s) : wpAny M A (joinParts out (x :: rest)) Q E s := by
  refine joinParts_cons (wpAny_mono h (fun v s₁ h₁ => ?_) fun _ _ e => e)
  cases v <;> first
    | exact h₁.elim
    | (rename_i y _
       have e : (out ++ y).length ≤ n + m := by
         have := h₁.1
         rw [strLen_append]; omega
       exact ⟨Nat.le_trans e hs, h₁.2 _ e⟩)
theorem jp1 {M : Model} {A : Around} {E : Value → Shared → Prop} {s : Shared} {env : Env} {out : Str} {e : Expr} {es : List Expr} {Q : Value → Shared → Prop} {n m : Nat} (ho : out.length ≤ n) (hs : n + m ≤ sizeLine)
    (h : wpAny M A (eval e env) (fun v s₁ => match v with | .str y _ => y.length ≤ m ∧ ∀ o : Str, o.length ≤ n + m → wpAny M A (joinParts o (evalEach es env)) Q E s₁ | _ => False) E s) : wpAny M A (joinParts out (evalEach (e :: es) env)) Q E s := joinParts_consE (jp0 ho hs h)
theorem jpN {M : Model} {A : Around} {E : Value → Shared → Prop} {s : Shared} {env : Env} {out : Str} {Q : Value → Shared → Prop} {n : Nat} (ho : out.length ≤ n) (hs : n ≤ sizeLine) (h : Q (.str out s.toks) { s with toks := s.toks + 1 }) : wpAny M A (joinParts out (evalEach [] env)) Q E s := joinParts_nilE (joinParts_nil h (Nat.le_trans ho hs))
theorem len6 {n : Nat} (h : n < 10 ^ 6) : (Str.ofString (toString (n : Int))).length ≤ 6 := by
  have := TL.numL_len (k := 6) (by decide) h
  rw [len_tl]
  show (tl (num n)).length ≤ 6
  rw [tl_numL]
  exact this
section
variable {P : Program} {w : World} {K : PySem.W.Frag} {mg : Str → Option Value} {base : Heap}
theorem ok_lineI {f C : Addr} {fd : FuncData} (F : LineF P K mg f fd C) : FnOk P w K mg base CX0 1 f fd ["self", "line", "word"] (spLineI C) := by
  refine ⟨fun vs H Q E h => ?_, fun A outer s H args us vs Q E hr en hb hv hsp => ?_⟩
  · obtain ⟨a, i, j, rfl, _⟩ := h
    rfl
  obtain ⟨a, i, j, rfl, hi, hj, ha, k⟩ := hsp
  obtain ⟨oc, od, kV, doc, pm, an, ct, osl, cda, cc, ccl, cdd, vs, ccs, file, tf, cl, cld, csl, rfl, lk, hcd, lcd, hvs, hfile, lcc⟩ := F.ex
  obtain ⟨nm, q, N, bs, bm, sn, sub, ab, col, dd, k0, k1, k2, k3, k5, hC, hbm⟩ := F.oex.cls
  cases hv with
  | cons h1 t1 =>
  cases t1 with
  | cons h2 t2 =>
  cases t2 with
  | cons h3 t3 =>
  cases t3 with
  | nil =>
  rename_i u1 u2 u3
  have e1 : u1 = .ref a := h1
  subst e1
  obtain ⟨tk2, rfl⟩ : ∃ t, u2 = .int i t := h2
  obtain ⟨tk3, rfl⟩ : ∃ t, u3 = .int j t := h3
  have hda := hr.dp
  have kb : ∀ b o, base.get? b = some o → s.heap.get? b = some o := fun b o e => (en.bs b o e).1
  have X : K.In s.heap := en.mod.kin.keeps kb
  have hcl : clsIn K C = some { name := nm, bases := bs, mro := .ref C :: bm, ns := N, qualname := q, hasDict := true, slotNames := sn, subclasses := sub, abstract := ab, collection := col } := by unfold clsIn; rw [hC]
  obtain ⟨t0, ho⟩ := exo_at en.hok ha
  have nb : ∀ {b o}, base.get? b = some o → b ≠ a := fun e z => by rw [z] at e; have := (en.bs _ _ e).2; rw [ha] at this; cases this
  have aL : a ≠ s.heap.objs.size := Nat.ne_of_lt (Heap.lt_size ho)
  refine ks_codeAny_call_defAt (by omega) (X f _ lk) rfl (en.mod.nolimit.keeps kb) (codeRec_of X hcd) rfl hb (by show ∀ x ∈ (defScope sLine).names, x.2 ≠ .cell; decide +kernel) ?_ (fun h₀ hns kp => ?_) (by rfl) (by rfl) (by rfl)
  · intro x hx
    rcases List.mem_cons.mp hx with rfl | hx
    · rfl
    rcases List.mem_cons.mp hx with rfl | hx
    · rfl
    · obtain rfl := List.mem_singleton.mp hx
      rfl
  have X0 : K.In h₀ := X.keeps kp
  refine ks_wpAt_execs_cons ?_
  refine ks_wpAt_Expr_any (ks_wpAt_MethodCall ?_ rfl) rfl rfl
  refine ks_wpAt_super_base rfl rfl rfl rfl (X0 f _ lk) rfl rfl rfl (X0 cda _ lcd) rfl hvs hfile F.sup ?_
  obtain ⟨mb, hb1, hb2⟩ := en.mod.blt
  have kb0 : ∀ b o, base.get? b = some o → h₀.get? b = some o := fun b o e => kp b o (kb b o e)
  show wpAny _ _ (loadGlobal _ "super") _ _ _
  refine loadGlobal_builtin (en.mod.glob.keeps kb0) F.mgS (hb1.keeps kb0) ((hb2 "super" (by decide)).trans (by decide +kernel)) ⟨rfl, ?_⟩
  refine wpAny_loadName_free rfl rfl rfl ⟨_, X0 cc _ lcc, rfl⟩ ?_
  refine wpAny_loadName_local rfl rfl hns rfl ?_
  refine ks_wpAny_isType_cls (X0 C _ hC) rfl ⟨rfl, ?_⟩
  refine ks_wpAny_call_super (X0 C _ hC) rfl (kp _ _ ho) rfl (by intro c h; cases h) (looks_mroIn X0 F.subC) (fun h1 hso kp1 => ?_)
  have X1 : K.In h1 := X0.keeps kp1
  have ho1 := kp1 _ _ (kp _ _ ho)
  have I1 : InstAt h1 a _ C none := ⟨ho1, rfl, rfl, trivial⟩
  refine kxs_getMethod kxs_ValueError hso (looks_opaque X1 F.any) (fun A Q E s k q => wpAny_bind (looks_clsIn X1 hcl A _ E s k (wpAny_pure q))) rfl X1 (by have := F.sin; unfold ks_superIn at this; rw [hcl] at this; exact this) (Looks.andThen I1.type (looks_subIn X1 F.subV)) (ks_ne X1 I1 hcl) rfl ?_
  have kp2 : ∀ b o, h₀.get? b = some o → (h1.push (kxs_mw "ValueError.__init__" a)).get? b = some o := fun b o e => Heap.get?_push_of_some _ (kp1 b o e)
  have hu : (h1.push (kxs_mw "ValueError.__init__" a)).get? h1.objs.size = some (kxs_mw "ValueError.__init__" a) := Heap.get?_push_at rfl rfl
  have hu1 : h1.get? h1.objs.size = none := by
    cases e : h1.get? h1.objs.size with
    | none => rfl
    | some o => exact absurd (Heap.lt_size e) (Nat.lt_irrefl _)
  have hC2 := kp2 _ _ (X0 C _ hC)
  have ho2 := kp2 _ _ (kp _ _ ho)
  revert kp2 hu hC2 ho2
  generalize h1.push (kxs_mw "ValueError.__init__" a) = hp2
  intro kp2 hu hC2 ho2
  refine kxs_callWith1 (h₀ := h1) (L := h1.objs.size + 1) (news := [(h1.objs.size, kxs_mw "ValueError.__init__" a)]) (x := a) (i := "ValueError.__init__") (fun p hp => ?_) (by simp) ?_ rfl rfl
  · obtain rfl := List.mem_singleton.mp hp
    exact ⟨hu, by simp, hu1⟩
  refine spliced_cons ?_
  have hns2 : hp2.Ns s.heap.objs.size (fun x => List.lookup x ([PySem.Str.ofString "self", PySem.Str.ofString "line", PySem.Str.ofString "word"].zip [Value.ref a, .int i tk2, .int j tk3]).reverse) := by
    obtain ⟨o, es, ep, e, r⟩ := hns
    exact ⟨o, es, ep, kp2 _ _ e, r⟩
  have li := len6 hi
  have lj := len6 hj
  rw [if_neg Bool.false_ne_true]
  refine JoinedStr_many ?_
  refine jp0 (n := 0) (m := 100) (by decide) (by decide) ?_
  refine Constant_str ?_
  refine ⟨by decide +kernel, fun o1 h1 => ?_⟩
  refine jp0 (m := 100) h1 (by decide) ?_
  refine FormattedValue_plain ?_
  refine wpAny_Name (wpAny_loadName_local rfl rfl hns2 rfl ?_) rfl
  refine formatField_int_small (log6 hj) ?_
  refine ⟨Nat.le_trans lj (by decide), fun o2 h2 => ?_⟩
  refine jp1 (m := 100) h2 (by decide) ?_
  refine Constant_str ?_
  refine ⟨by decide +kernel, fun o3 h3 => ?_⟩
  refine jp1 (m := 100) h3 (by decide) ?_
  refine FormattedValue_plain ?_
  refine wpAny_Name (wpAny_loadName_local rfl rfl hns2 rfl ?_) rfl
  refine formatField_int_small (log6 hi) ?_
  refine ⟨Nat.le_trans li (by decide), fun o4 h4 => ?_⟩
  refine jp1 (m := 100) h4 (by decide) ?_
  refine Constant_str ?_
  refine ⟨by decide +kernel, fun o5 h5 => ?_⟩
  refine jpN h5 (by decide) ?_
  refine spliced_nil ?_
  refine ⟨hu, ?_⟩
  refine call_mw hC2 ho2 hu (by show 1 ≤ sizeLine; decide) (fun h3 t1 kp3 ho3 => ?_)
  have kp3' : ∀ b o, b ≠ a → s.heap.get? b = some o → h3.get? b = some o := fun b o nb e => kp3 b o nb (kp2 b o (kp b o e))
  have hns3 : h3.Ns s.heap.objs.size (fun x => List.lookup x ([PySem.Str.ofString "self", PySem.Str.ofString "line", PySem.Str.ofString "word"].zip [Value.ref a, .int i tk2, .int j tk3]).reverse) := by
    obtain ⟨o, es, ep, e, r⟩ := hns
    exact ⟨o, es, ep, kp3 _ _ aL.symm (kp2 _ _ e), r⟩
  have X3 : K.In h3 := fun b o e => kp3' b o (nb (en.mod.kin b o e)) (X b o e)
  dsimp only
  refine ks_wpAt_execs_cons ?_
  refine ks_wpAt_Assign_Attr ?_ rfl
  refine wpAt_of_wpAny ?_
  refine wpAny_Name (wpAny_loadName_local rfl rfl hns3 rfl ?_) rfl
  refine wpAny_Name (wpAny_loadName_local rfl rfl hns3 rfl ?_) rfl
  refine set_plain (ox := HandSPX.excO C t1) (od := none) X3 ⟨ho3, rfl, rfl, trivial⟩ F.oex.sa ?_
  refine HandSPX.exc_osa X3 ho3 hcl hbm rfl F.fi (fun h4 tk4 dx kp4 dn dne hx hn => ?_)
  dsimp only
  have kp4' : ∀ b o, b ≠ a → h3.get? b = some o → h4.get? b = some o := kp4
  have X4 : K.In h4 := fun b o e => kp4' b o (nb (en.mod.kin b o e)) (X3 b o e)
  have hns4 : h4.Ns s.heap.objs.size (fun x => List.lookup x ([PySem.Str.ofString "self", PySem.Str.ofString "line", PySem.Str.ofString "word"].zip [Value.ref a, .int i tk2, .int j tk3]).reverse) := by
    obtain ⟨o, es, ep, e, r⟩ := hns3
    exact ⟨o, es, ep, kp4' _ _ aL.symm e, r⟩
  have dn' : h3.objs.size ≤ dx := dn
  have dnS : s.heap.objs.size ≤ dx := by
    rcases Nat.lt_or_ge dx s.heap.objs.size with q | q
    · exact absurd q (by
        have q0 : s.heap.objs.size < h3.objs.size := by
          obtain ⟨o, es, ep, e, r⟩ := hns3
          exact Heap.lt_size e
        omega)
    · exact q
  refine ks_wpAt_execs_cons ?_
  refine ks_wpAt_Assign_Attr ?_ rfl
  refine wpAt_of_wpAny ?_
  refine wpAny_Name (wpAny_loadName_local rfl rfl hns4 rfl ?_) rfl
  refine wpAny_Name (wpAny_loadName_local rfl rfl hns4 rfl ?_) rfl
  have hwi : Within (fun y : Str => if y = Str.ofString "line" then some (Value.int (i : Int) tk2) else none) [Str.ofString "line"] := by
    intro y hy
    dsimp only at hy
    by_cases z : y = Str.ofString "line"
    · rw [z]; exact List.mem_singleton.mpr rfl
    · rw [if_neg z] at hy
      first | exact absurd rfl hy | cases hy | simp at hy
  obtain ⟨oD, _, _, hoD, _, _⟩ := hn.count hwi
  refine set_plain (ox := { cls := .ref C, dict := some dx, data := .fields #[.ref t1, .none, .none, .none, .bool false, .none] }) (od := some oD) X4 ⟨hx, rfl, rfl, hoD⟩ F.oex.sa ?_
  refine PySem.OEX.osa_old X4 hx hn hwi (by decide) hcl (show PySem.HandSPX.refsVE (.ref C :: bm) = true from hbm) rfl F.fw (fun h5 tk5 kp5 hn5 => ?_)
  have hx5 := kp5 a _ (Ne.symm dne) hx
  refine wpAt_of_wpAny (wpAny_execs_nil ?_)
  have kp5' : ∀ b o, b ≠ a → s.heap.get? b = some o → h5.get? b = some o := fun b o nb e => kp5 b o (Nat.ne_of_lt (Nat.lt_of_lt_of_le (Heap.lt_size e) dnS)) (kp4' b o nb (kp3' b o nb e))
  have hnd : H dx = none := HOk.fresh en.hok dnS
  have nd : ∀ {b o}, s.heap.get? b = some o → b ≠ dx := fun e => Nat.ne_of_lt (Nat.lt_of_lt_of_le (Heap.lt_size e) dnS)
  have na : ∀ {b}, H b = none → b ≠ a := fun e z => by rw [z, ha] at e; cases e
  show CR CX0 outer P w H s Q E (.ok (.ret .none)) _
  refine ⟨.non, upd (upd H dx (exd dx [("line", vi i), ("word", vi j)])) a (exo a C (some dx)), rfl, en.bare, ⟨?_, ?_, ?_, ?_, ?_, ?_, ?_⟩, ?_, rfl, k dx hnd dne⟩
  · exact fun b o e n _ _ => kp5' b o (na n) e
  · exact fun b o e n _ _ => ⟨o.slots, kp5' b o (na n) e⟩
  · exact fun b o e n _ => by rw [upd_ne (na n), upd_ne (nd e)]; exact n
  · intro b o e _
    by_cases z : b = a
    · rw [z]; exact ⟨_, hx5⟩
    · exact ⟨o, kp5' b o z e⟩
  · intro b xs e
    rw [upd_ne (at_ne ha e exo_tup), upd_ne (ne_of_none e hnd)]; exact e
  · intro b o v e
    rw [upd_ne (at_ne ha e exo_frz), upd_ne (ne_of_none e hnd)]; exact e
  · intro b ps e
    refine ⟨#[], ?_⟩
    rw [upd_ne (at_ne ha e (by intro z; cases z)), upd_ne (ne_of_none e hnd), Array.append_empty]; exact e
  · intro b o e
    by_cases z : b = a
    · subst z
      rw [upd_same] at e
      obtain rfl := Option.some.inj e
      exact ⟨⟨t1, hx5⟩, ⟨_, hx5⟩, fun h1 h2 ⟨t, e⟩ k => ⟨t, k _ e⟩⟩
    · rw [upd_ne z] at e
      by_cases z2 : b = dx
      · subst z2
        rw [upd_same] at e
        obtain rfl := Option.some.inj e
        refine ⟨⟨_, hn5, fun g => ?_⟩, by obtain ⟨o, _, _, e, _⟩ := hn5; exact ⟨o, e⟩, fun h1 h2 ⟨mA, ⟨o, es, ep, e, r⟩, q⟩ k => ⟨mA, ⟨o, es, ep, k _ e, r⟩, q⟩⟩
        by_cases z3 : g = Str.ofString "word"
        · subst z3
          rw [if_pos rfl]
          exact ⟨tk3, rfl⟩
        · rw [if_neg z3]
          by_cases z4 : g = Str.ofString "line"
          · subst z4
            rw [if_pos rfl]
            exact ⟨tk2, rfl⟩
          · rw [if_neg z4, List.lookup_cons, beq_false_of_ne z4]
            dsimp only
            rw [List.lookup_cons, beq_false_of_ne z3]
            exact trivial
      · rw [upd_ne z2] at e
        refine ObjOk.stay (en.hok b o e) (fun c u hc hu => ?_) (fun c hc => ?_) (fun c xs hc => ?_)
        · refine kp5' c u ?_ hu
          rcases hc with rfl | hc
          · exact z
          · exact at_ne ha hc (by intro z; cases z)
        · rw [upd_ne (at_ne ha hc (by intro z; cases z)), upd_ne (ne_of_none hc hnd)]; exact hc
        · rw [upd_ne (at_ne ha hc exo_tup), upd_ne (ne_of_none hc hnd)]; exact hc
end
end K4

/-! X8n -/
/-! An error with its own __init__, made where nothing is handled: its context is None. -/
namespace K1
open PySem L2 PyProof.Rows PySem.W PySem.Calls
theorem mk_ctx {X : Cx} {pins : List (Addr × Obj)} {σ : L2.St} {Q : XK} {a C t : Addr} {d : Option Addr} {s' : Shared} (h : MkP X pins σ Q (.ref a) s') (e : s'.heap.get? a = some ⟨.ref C, d, .fields #[.ref t, .none, .none, .none, .bool false, .none], #[]⟩) : L2N.MkP X pins σ Q (.ref a) s' := by
  obtain ⟨a', oe, vs, sI, H', cls, d', ea, I, k, n, g, hz, hd, h1, hn, os, b, r, q⟩ := h
  obtain rfl : a = a' := Value.ref.inj ea
  rw [e] at g
  obtain rfl := Option.some.inj g
  refine ⟨a, _, vs, sI, H', cls, d', rfl, I, k, n, e, ⟨hz.1, hz.2, fun ws hw => ?_⟩, hd, h1, hn, os, b, r, q⟩
  obtain rfl := Data.fields.inj hw
  rfl
theorem pmk_oexN {X : Cx} {e : Expr} {es : List Expr} {ta : TA} {p pos : Pos} {x : Str} {C fI : Addr} {k : Nat} {fd : FuncData} {ps : List Str} {sp : Sp} (T : OexC X.K C) (iC : findIn X.K (.ref C) "__init__" = some (some (.ref fI))) (tI : typeIn X.K (.ref fI) = some (.type "function")) (F1 : FnOk X.prog X.w X.K X.mg X.base CX0 k fI fd ps sp) (hr : Room (k + 1) X.A) (hb : Binds X.K fd ps []) (hg : Gl X x) (hm : X.mg x = some (.ref C)) (ha : PA X (e :: es) ta)
    (hdb : (x == ("__debug__" : Str)) = false := by decide) (he : starEach (e :: es) X.env = (false, eval e X.env) :: starEach es X.env := by rfl) (hpl : (backTo pos (starEach es X.env)).any (·.1) = false := by rfl) :
    L2N.PMk X (.Call (.Name x p) (e :: es) [] pos) (tMkO C sp [] ta) := by
  intro pins s σ H Q I h
  obtain ⟨nm, q, N, bs, bm, sn, sub, ab, col, dd, k0, k1, k2, k3, k5, hC, hbm⟩ := T.cls
  refine wpAny_Call_Name_kw (ld_glob I hg hm (callWith_K I.ok.mod.kin T.kC (thn (ha.run pos pins s σ H _ I h) ?_) he hpl) hdb)
  rintro us s1 ⟨vs, H1, I1, r1, hz, q1⟩
  refine ⟨I1.kIn, ?_⟩
  obtain ⟨hp, g, dr, tk, os⟩ := s1
  have hsz := Nat.le_succ hp.objs.size
  have hn := HOk.fresh I1.hok hsz
  have hq := q1 (hp.objs.size + 1) hn
  have kk : ∀ b o, hp.get? b = some o → ((hp.push (kdv_tup us)).push (HandSPX.excO C hp.objs.size)).get? b = some o := fun b o e => Heap.get?_push_of_some _ (Heap.get?_push_of_some _ e)
  have hget : ((hp.push (kdv_tup us)).push (HandSPX.excO C hp.objs.size)).get? (hp.objs.size + 1) = some (HandSPX.excO C hp.objs.size) := Heap.get?_push_at (by rw [Heap.size_push]) rfl
  have I2 := Inv.laid (t' := tk) I1 kk hsz (exo_ok hget)
  have r2 : Vals (V.ref (hp.objs.size + 1) :: (vs ++ [])) (Value.ref (hp.objs.size + 1) :: us) := by
    rw [List.append_nil]
    exact .cons rfl r1
  have hl : (Value.ref (hp.objs.size + 1) :: us).length = ps.length := by
    rw [← Vals.length r2]
    exact F1.len _ _ _ _ hq
  have hus : us.length ≤ sizeLine := by
    rw [← Vals.length r1]
    exact small_line hz
  have hbb := hb ⟨(hp.push (kdv_tup us)).push (HandSPX.excO C hp.objs.size), g, dr, tk, os⟩ (.ref (hp.objs.size + 1) :: us) I2.kIn (by simpa using hl)
  refine wpAny_call (HandSPX.call_own F.excBase_ValueError (fun Y => HandSPX.refsVE_contains Y bm hbm) (I1.kIn C _ hC) (looks_findIn I1.kIn iC) (fun self => bind_fn I1.kIn self tI) hus (codeAny_mono (F1.run (X.A.under (.builtin "type.__call__" ⟨.ref C :: us, []⟩)) X.stack _ _ _ _ _ _ _ (Room.make hr C us []) (Env0.make I2.env0 C us []) (by simpa using hbb) r2 hq) ?_))
  intro r s' hq'
  cases r with
  | error er => exact hq'.elim
  | ok fl =>
    cases fl with
    | ret u =>
      obtain ⟨v, H2, os2, bare2, un2, hok2, rv, ev, d, fs, ea, ed, hd1, q2⟩ := hq'
      subst ev
      obtain ⟨h2, g2, d2, t2, os2'⟩ := s'
      obtain ⟨t1, et⟩ := exo_at hok2 ea
      exact ⟨rv, mk_ctx (mk_end (raises_own T.exC T.tyC) I1 hsz kk un2 hok2 os2 bare2 ea ed hd1 q2) et⟩
    | _ => exact hq'.elim
end K1

/-! Y2 -/
/-! Defs that may raise BadLine(line, place). -/
namespace K4
open PySem L2 K1 PyProof.Rows
theorem okXN {P : Program} {w : World} {K : PySem.W.Frag} {mg : Str → Option Value} {base : Heap} {x qual : Str} {st : Stmt} {f : Addr} {fd : FuncData} {N ps : List Str} {k : Nat} {sp : Sp} (F : Fun K x qual st f fd) (S : FnScope N ps (defScope st)) (len : ∀ vs H Q E, sp vs H Q E → vs.length = ps.length)
    (hbody : ∀ (cdv : Value) (A : Around) (outer : List Env) (s : Shared) (H : Hp) (vs : List V) (Q : VK) (E : XK), Room k (A.deeper (PyProof.Rows.envOfC qual (defScope st) s.heap.objs.size f cdv)) → sp vs H Q E →
      ∃ t, PSs (cxOf (L2N.CX P w) P w K mg base N qual (defScope st) f cdv A outer s H E) (defBody st) t ∧ t { nx := fun _ H' => Q .non H', rt := Q } (L2.start N vs) H) : FnOk P w K mg base (L2N.CX P w) (k + 1) f fd ps sp := by
  obtain ⟨oc, od, kV, doc, pm, an, cdv, ct, osl, rfl, lk, hcd⟩ := F.ex
  exact fn_of lk hcd S len fun A outer s H vs Q E hr hsp => hbody cdv A outer s H vs Q E hr hsp
def OwnX (P : Program) (w : World) (K : PySem.W.Frag) (mg : Str → Option Value) (base : Heap) (x : Str) (k : Nat) (ps : List Str) (sp : Sp) : Prop :=
  ∃ (f : Addr) (fd : FuncData), FnOk P w K mg base (L2N.CX P w) k f fd ps sp ∧ mg x = some (.ref f) ∧ PySem.W.keepIn K (.ref f) = true ∧ Binds K fd ps []
theorem pe_ownX {X : Cx} {x : Str} {k : Nat} {ps : List Str} {sp : Sp} {E : XK} {e : Expr} {es : List Expr} {t : TA} {p pos : Pos} (O : OwnX X.prog X.w X.K X.mg X.base x k ps sp) (hr : Room k X.A) (hx : Passes (L2N.CX X.prog X.w) X E) (ha : PA X (e :: es) t) (hg : Gl X x := by rfl)
    (hdb : (x == ("__debug__" : Str)) = false := by decide) (he : starEach (e :: es) X.env = (false, eval e X.env) :: starEach es X.env := by rfl) (hpl : (backTo pos (starEach es X.env)).any (·.1) = false := by rfl) :
    PE X (.Call (.Name x p) (e :: es) [] pos) (tCall sp [] E t) := by
  obtain ⟨f, fd, G, m, kp, b⟩ := O
  exact pe_call G hr hg m kp b .nil hx ha hdb he hpl
/-- the number of a line -/
abbrev Ln := {n : Nat // n < 10 ^ 6}
def BadE (j : Ln) (C p : Addr) (H : Hp) (E : XK) (z : Nat) : Prop := ∀ H' d, Kp p H H' → H' d = some (.xd [("line", vi j.1), ("word", vi z)]) → E (.ref C) (some d) H'
theorem BadE.mono {j : Ln} {C p : Addr} {H H1 : Hp} {E : XK} {z : Nat} (h : BadE j C p H E z) (k : Kp p H H1) : BadE j C p H1 E z := fun H' d k2 e => h H' d (k.trans k2) e
theorem rz {j : Ln} {C p : Addr} {H1 : Hp} {E : XK} {z : Nat} {E' : XK} (hz : z < 10 ^ 6) (er : BadE j C p H1 E z) : [vi j.1, vi z].length ≤ 1000 ∧ ∀ a : Addr, H1 a = none → spLineI C (V.ref a :: ([vi j.1, vi z] ++ [])) (upd H1 a (exo a C none))
    (fun v H2 => v = V.non ∧ ∃ d fs, H2 a = some (exo a C (some d)) ∧ H2 d = some (exd d fs) ∧ H1 d = none ∧ E (Value.ref C) (some d) (upd (del H2 a) d (HO.xd fs))) E' := by
  refine ⟨(by show 2 ≤ 1000; decide), fun a ha => ⟨a, j.1, z, rfl, j.2, hz, upd_same, fun dx hdx ne => ?_⟩⟩
  rw [upd_ne ne] at hdx
  refine ⟨rfl, dx, [("line", vi j.1), ("word", vi z)], upd_same, by rw [upd_ne ne, upd_same], hdx, ?_⟩
  refine er _ _ (fun c o nc e => ?_) upd_same
  have n1 : c ≠ dx := ne_of_none e hdx
  have n2 : c ≠ a := ne_of_none e ha
  rw [upd_ne n1, del_ne n2, upd_ne n2, upd_ne n1, upd_ne n2]
  exact e
/-- the class of the error, as the top left it -/
structure TL (P : Program) (K : PySem.W.Frag) (mg : Str → Option Value) (C fI : Addr) (fd : FuncData) : Prop where
  F : LineF P K mg fI fd C
  iC : PySem.W.findIn K (.ref C) "__init__" = some (some (.ref fI))
  tI : PySem.W.typeIn K (.ref fI) = some (.type "function")
  bI : Binds K fd ["self", "line", "word"] []
  g : mg "BadLine" = some (.ref C)
theorem ps_bad {C fI : Addr} {fd : FuncData} {X : Cx} {W : WX} {e : Expr} {es : List Expr} {ta : TA} {p pos ps : Pos}
    (T : TL X.prog X.K X.mg C fI fd) (hr : Room 2 X.A) (hc : X.calm = true) (tk : L2N.Takes X W) (ha : PA X (e :: es) ta) (hg : Gl X "BadLine")
    (he : starEach (e :: es) X.env = (false, eval e X.env) :: starEach es X.env := by rfl) (hpl : (backTo pos (starEach es X.env)).any (·.1) = false := by rfl) :
    PS X (.Raise (some (.Call (.Name "BadLine" p) (e :: es) [] pos)) none ps) (fun _ σ H => tMkO C (spLineI C) [] ta σ H fun cls d H' => W cls d σ H') :=
  L2N.ps_raise hc tk (pmk_oexN T.F.oex T.iC T.tI (ok_lineI T.F) hr T.bI hg T.g ha (by decide) he hpl)
end K4

/-! W5a -/


namespace K4
open PySem L2 K1
abbrev sWInit : Stmt := inClass (top 56) 0
abbrev nWInit : List Str := ["self", "line", "text"]
theorem scWInit : FnScope nWInit ["self", "line", "text"] (defScope sWInit) := ⟨rfl, rfl, rfl, by decide +kernel, rfl, by decide +kernel, by decide +kernel⟩
abbrev sWHere : Stmt := inClass (top 56) 1
abbrev nWHere : List Str := ["self"]
theorem scWHere : FnScope nWHere ["self"] (defScope sWHere) := ⟨rfl, rfl, rfl, by decide +kernel, rfl, by decide +kernel, by decide +kernel⟩
abbrev sWTaken : Stmt := inClass (top 56) 2
abbrev nWTaken : List Str := ["self", "worth"]
theorem scWTaken : FnScope nWTaken ["self", "worth"] (defScope sWTaken) := ⟨rfl, rfl, rfl, by decide +kernel, rfl, by decide +kernel, by decide +kernel⟩
abbrev sWTakeInt : Stmt := inClass (top 56) 5
abbrev nWTakeInt : List Str := ["self", "least", "most"]
theorem scWTakeInt : FnScope nWTakeInt ["self", "least", "most"] (defScope sWTakeInt) := ⟨rfl, rfl, rfl, by decide +kernel, rfl, by decide +kernel, by decide +kernel⟩
abbrev sWMore : Stmt := inClass (top 56) 7
abbrev nWMore : List Str := ["self"]
theorem scWMore : FnScope nWMore ["self"] (defScope sWMore) := ⟨rfl, rfl, rfl, by decide +kernel, rfl, by decide +kernel, by decide +kernel⟩
abbrev sWFinish : Stmt := inClass (top 56) 8
abbrev nWFinish : List Str := ["self"]
theorem scWFinish : FnScope nWFinish ["self"] (defScope sWFinish) := ⟨rfl, rfl, rfl, by decide +kernel, rfl, by decide +kernel, by decide +kernel⟩
/-! ### the object of the words -/
theorem nWL : ¬ (("words" : Str) = "line") := by decide +kernel
theorem nAL : ¬ (("at" : Str) = "line") := by decide +kernel
theorem nAW : ¬ (("at" : Str) = "words") := by decide +kernel
theorem nWA : ¬ (("words" : Str) = "at") := by decide +kernel
theorem nLA : ¬ (("line" : Str) = "at") := by decide +kernel
theorem nLW : ¬ (("line" : Str) = "words") := by decide +kernel
variable {j : Ln}
def flds (j : Ln) (t : Addr) (z : Int) : List (Str × V) := [("line", vi j.1), ("words", .ref t), ("at", .int z)]
theorem flds_line (t : Addr) (z : Int) : (flds j t z).lookup ("line" : Str) = some (vi j.1) := rfl
theorem lk {a b : Str} {v : V} {l : List (Str × V)} (h : ¬ a = b) : List.lookup a ((b, v) :: l) = List.lookup a l := by
  rw [List.lookup_cons]
  have : (a == b) = false := by simpa using h
  rw [this]
theorem lkS {a : Str} {v : V} {l : List (Str × V)} : List.lookup a ((a, v) :: l) = some v := by
  rw [List.lookup_cons, beq_self_eq_true]
theorem flds_words (t : Addr) (z : Int) : (flds j t z).lookup ("words" : Str) = some (.ref t) := by
  unfold flds
  rw [lk nWL, lkS]
theorem flds_at (t : Addr) (z : Int) : (flds j t z).lookup ("at" : Str) = some (.int z) := by
  unfold flds
  rw [lk nAL, lk nAW, lkS]
theorem flds_no (t : Addr) (z : Int) {m : Str} (h1 : ¬ m = "line") (h2 : ¬ m = "words") (h3 : ¬ m = "at") : (flds j t z).lookup m = none := by
  unfold flds
  rw [lk h1, lk h2, lk h3]
  rfl
theorem flds_put (t : Addr) (z y : Int) : putF "at" (.int y) (flds j t z) = flds j t y := by
  show (if ("line" : Str) = "at" then _ else (("line" : Str), vi j.1) :: (if ("words" : Str) = "at" then _ else (("words" : Str), V.ref t) :: (if ("at" : Str) = "at" then [(("at" : Str), V.int y)] else _))) = flds j t y
  rw [if_neg nLA, if_neg nWA, if_pos rfl]
  rfl
structure WordsAt (j : Ln) (C : Addr) (H : Hp) (p : Addr) (ws : List Str) (z : Nat) : Prop where
  ob : ∃ dx t, H p = some (.ins C dx (flds j t z)) ∧ H t = some (.tup (ws.map V.str))
  ok : WsOk ws
  le : z ≤ ws.length
structure TW (K : PySem.W.Frag) (mg : Str → Option Value) (C : Addr) : Prop where
  cl : Cls K C
  nL : NoAttr K C "line"
  nW : NoAttr K C "words"
  nA : NoAttr K C "at"
  mgC : mg "Words" = some (.ref C)
def spHere (j : Ln) (C CL : Addr) : Sp := fun vs H Q E => ∃ (p : Addr) (ws : List Str) (z : Nat), vs = [.ref p] ∧ WordsAt j C H p ws z ∧ (match ws[z]? with
  | none => BadE j CL p H E z
  | some x => Q (.str x) H)
def spTaken (j : Ln) (C CL : Addr) : Sp := fun vs H Q E => ∃ (p : Addr) (ws : List Str) (z : Nat) (x : V), vs = [.ref p, x] ∧ WordsAt j C H p ws z ∧ ((x = .non ∧ BadE j CL p H E z) ∨ (x ≠ .non ∧ z < ws.length ∧ ∀ H', WordsAt j C H' p ws (z + 1) → Off p H H' → Q x H'))
def spTakeInt (j : Ln) (C CL : Addr) : Sp := fun vs H Q E => ∃ (p : Addr) (ws : List Str) (z lo hi : Nat), vs = [.ref p, vi lo, vi hi] ∧ WordsAt j C H p ws z ∧ hi ≤ 60 ∧ (match ws[z]?.bind (rdNum lo hi) with
  | none => BadE j CL p H E z
  | some n => ∀ H', WordsAt j C H' p ws (z + 1) → Kp p H H' → Q (vi n) H')
def spMore (j : Ln) (C : Addr) : Sp := fun vs H Q _ => ∃ (p : Addr) (ws : List Str) (z : Nat), vs = [.ref p] ∧ WordsAt j C H p ws z ∧ Q (.bl (decide (z < ws.length))) H
def spFinish (j : Ln) (C CL : Addr) : Sp := fun vs H Q E => ∃ (p : Addr) (ws : List Str) (z : Nat), vs = [.ref p] ∧ WordsAt j C H p ws z ∧ (if z < ws.length then BadE j CL p H E z else Q .non H)
/-- a method that stands in the class -/
def OwnM (P : Program) (w : World) (K : PySem.W.Frag) (mg : Str → Option Value) (base : Heap) (C : Addr) (m : Str) (k : Nat) (ps : List Str) (sp : Sp) : Prop :=
  ∃ (f : Addr) (fd : FuncData), FnOk P w K mg base (L2N.CX P w) k f fd ps sp ∧ Meth K C m f ∧ Binds K fd ps []
section
variable {P : Program} {w : World} {K : PySem.W.Frag} {mg : Str → Option Value} {base : Heap} {dO dI C : Addr}
theorem WordsAt.same {H H' : Hp} {p : Addr} {ws : List Str} {z : Nat} (h : WordsAt j C H p ws z) (s : Same H H') : WordsAt j C H' p ws z := by
  obtain ⟨⟨dx, t, a, b⟩, l, l2⟩ := h
  exact ⟨⟨dx, t, s _ _ a, s _ _ b⟩, l, l2⟩
theorem WordsAt.keeps {H H' : Hp} {p : Addr} {ws : List Str} {z : Nat} (h : WordsAt j C H p ws z) (k : Kp p H H') : Keeps K H H' := by
  obtain ⟨⟨dx, t, a, b⟩, l⟩ := h
  exact Kp.keeps k a
theorem r_fld {H : Hp} {f : Str} {v : V} {Q : VK} {p dx : Addr} {fs : List (Str × V)} (h : H p = some (.ins C dx fs)) (c : Cls K C) (n : NoAttr K C f) (l : fs.lookup f = some v) (q : Q v H) :
    ∃ a C dx fs v, V.ref p = .ref a ∧ H a = some (.ins C dx fs) ∧ Cls K C ∧ NoAttr K C f ∧ fs.lookup f = some v ∧ Q v H := ⟨p, C, dx, fs, v, rfl, h, c, n, l, q⟩
theorem ok_wHere {f fI CL : Addr} {fd fdI : FuncData} (F : Fun K "here" "Words.here" sWHere f fd) (B : Bl mg) (T : TW K mg C) (TLx : TL P K mg CL fI fdI) : FnOk P w K mg base (L2N.CX P w) 3 f fd ["self"] (spHere j C CL) := by
  refine okXN F scWHere (fun vs H Q E h => ?_) (fun cdv A outer s H vs Q E hr h => ?_)
  · obtain ⟨p, ws, z, rfl, _⟩ := h
    rfl
  · obtain ⟨p, ws, z, rfl, ⟨⟨dx, t, hp, ht⟩, hok, hl⟩, k⟩ := h
    refine ⟨_, (pss_cons (ps_if (pt_cmpR op_eq (pe_fld (pv 0) rfl) (pe_callB call_len (by rfl) B.len PySem.boot_len (pa_cons (pe_fld (pv 0) rfl) pa_nil)) (nomark _)) (pss_one (ps_bad TLx hr rfl (L2N.takes_of rfl rfl rfl rfl) (pa_cons (pe_fld (pv 0) rfl) (pa_cons (pe_fld (pv 0) rfl) pa_nil)) rfl)) pss_nil) (pss_one (ps_ret (pe_ix ix_tup (pe_fld (pv 0) rfl) (pe_fld (pv 0) rfl) (fun _ _ => rfl))))), ?_⟩
    try dsimp only [cxOf, Cx.nox, Cx.wish]
    walk_at "go"
    refine ⟨p, C, dx, _, _, rfl, hp, T.cl, T.nA, flds_at _ _, ?_⟩
    walk_at "go"
    refine ⟨p, C, dx, _, _, rfl, hp, T.cl, T.nW, flds_words _ _, ?_⟩
    walk_at "go"
    refine ⟨_, _, rfl, lenT (SqT.of ht), ?_⟩
    walk_at "go"
    rw [List.length_map]
    by_cases hz : z = ws.length
    · rw [List.getElem?_eq_none (by omega)] at k
      refine r_yes (by rw [hz]) ?_
      walk_at "go"
      refine ⟨p, C, dx, _, _, rfl, hp, T.cl, T.nL, flds_line _ _, ?_⟩
      walk_at "go"
      refine ⟨p, C, dx, _, _, rfl, hp, T.cl, T.nA, flds_at _ _, ?_⟩
      walk_at "go"
      exact rz (by have := hok.le; omega) k
    · obtain ⟨x, hx⟩ : ∃ x, ws[z]? = some x := ⟨ws[z]'(by omega), by simp [show z < ws.length by omega]⟩
      rw [hx] at k
      refine r_no (fun q => hz (by have := V.int.inj q; omega)) ?_
      walk_at "go"
      refine ⟨p, C, dx, _, _, rfl, hp, T.cl, T.nW, flds_words _ _, ?_⟩
      walk_at "go"
      refine ⟨p, C, dx, _, _, rfl, hp, T.cl, T.nA, flds_at _ _, ?_⟩
      walk_at "go"
      exact r_ixT (SqT.of ht) (atI_nat (by rw [List.getElem?_map, hx]; rfl)) k
theorem ok_wTaken {f fI CL : Addr} {fd fdI : FuncData} (F : Fun K "taken" "Words.taken" sWTaken f fd) (B : Bl mg) (T : TW K mg C) (TLx : TL P K mg CL fI fdI) : FnOk P w K mg base (L2N.CX P w) 3 f fd ["self", "worth"] (spTaken j C CL) := by
  refine okXN F scWTaken (fun vs H Q E h => ?_) (fun cdv A outer s H vs Q E hr h => ?_)
  · obtain ⟨p, ws, z, x, rfl, _⟩ := h
    rfl
  · obtain ⟨p, ws, z, x, rfl, ⟨⟨dx, t, hp, ht⟩, hok, hl⟩, hk⟩ := h
    refine ⟨_, (pss_cons (ps_if (pt_cmpR op_isN (pv 1) pe_non (nomark _)) (pss_one (ps_bad TLx hr rfl (L2N.takes_of rfl rfl rfl rfl) (pa_cons (pe_fld (pv 0) rfl) (pa_cons (pe_fld (pv 0) rfl) pa_nil)) rfl)) pss_nil) (pss_cons (ps_fldaug (pv 0) pe_int in_add) (pss_one (ps_ret (pv 1))))), ?_⟩
    try dsimp only [cxOf, Cx.nox, Cx.wish]
    walk_at "go"
    refine ⟨rfl, ?_⟩
    walk_at "go"
    rcases hk with ⟨rfl, k⟩ | ⟨hx, hzl, k⟩
    · walk_at "go"
      refine ⟨p, C, dx, _, _, rfl, hp, T.cl, T.nL, flds_line _ _, ?_⟩
      walk_at "go"
      refine ⟨p, C, dx, _, _, rfl, hp, T.cl, T.nA, flds_at _ _, ?_⟩
      walk_at "go"
      exact rz (by have := hok.le; omega) k
    · refine r_no hx ?_
      walk_at "go"
      refine ⟨p, C, dx, _, _, rfl, hp, T.cl, T.nA, flds_at _ _, ?_⟩
      walk_at "go"
      refine ⟨_, _, rfl, rfl, dx, _, hp, (by show 3 < 1000; decide), ?_⟩
      walk_at "go"
      have ntp : t ≠ p := fun q => by rw [q, hp] at ht; cases ht
      refine k _ ⟨⟨dx, t, ?_, ?_⟩, hok, hzl⟩ Off.upd
      · rw [upd_same, flds_put]
        rfl
      · rw [upd_ne ntp]; exact ht
theorem ok_wMore {f : Addr} {fd : FuncData} (F : Fun K "more" "Words.more" sWMore f fd) (B : Bl mg) (T : TW K mg C) : FnOk P w K mg base CX0 1 f fd ["self"] (spMore j C) := by
  refine F.ok scWMore (fun vs H Q E h => ?_) (fun cdv A outer s H vs Q E hr h => ?_)
  · obtain ⟨p, ws, z, rfl, _⟩ := h
    rfl
  · obtain ⟨p, ws, z, rfl, ⟨⟨dx, t, hp, ht⟩, hok, hl⟩, k⟩ := h
    refine ⟨_, (pss_one (ps_ret (pe_cmpR op_lt (pe_fld (pv 0) rfl) (pe_callB call_len (by rfl) B.len PySem.boot_len (pa_cons (pe_fld (pv 0) rfl) pa_nil)) (nomark _)))), ?_⟩
    try dsimp only [cxOf, Cx.nox, Cx.wish]
    walk_at "go"
    refine ⟨p, C, dx, _, _, rfl, hp, T.cl, T.nA, flds_at _ _, ?_⟩
    walk_at "go"
    refine ⟨p, C, dx, _, _, rfl, hp, T.cl, T.nW, flds_words _ _, ?_⟩
    walk_at "go"
    refine ⟨_, _, rfl, lenT (SqT.of ht), ?_⟩
    walk_at "go"
    rw [List.length_map]
    by_cases hz : z < ws.length
    · rw [decide_eq_true hz] at k
      rw [decide_eq_true (show ((z : Nat) : Int) < ((ws.length : Nat) : Int) by omega)]
      exact k
    · rw [decide_eq_false hz] at k
      rw [decide_eq_false (show ¬ ((z : Nat) : Int) < ((ws.length : Nat) : Int) by omega)]
      exact k
theorem ok_wFinish {f fM fI CL : Addr} {fd fdM fdI : FuncData} (F : Fun K "finish" "Words.finish" sWFinish f fd) (B : Bl mg) (T : TW K mg C) (TLx : TL P K mg CL fI fdI) (GM : FnOk P w K mg base CX0 1 fM fdM ["self"] (spMore j C)) (mM : Meth K C "more" fM) (bM : Binds K fdM ["self"] []) :
    FnOk P w K mg base (L2N.CX P w) 3 f fd ["self"] (spFinish j C CL) := by
  refine okXN F scWFinish (fun vs H Q E h => ?_) (fun cdv A outer s H vs Q E hr h => ?_)
  · obtain ⟨p, ws, z, rfl, _⟩ := h
    rfl
  · obtain ⟨p, ws, z, rfl, hW, k⟩ := h
    obtain ⟨⟨dx, t, hp, ht⟩, hok, hl⟩ := id hW
    refine ⟨_, (pss_one (ps_if (pt_val (pe_meth0 (pv 0) T.cl mM GM (hr.mono (by omega)) bM .nil pass0)) (pss_one (ps_bad TLx (hr.mono (by omega)) rfl (L2N.takes_of rfl rfl rfl rfl) (pa_cons (pe_fld (pv 0) rfl) (pa_cons (pe_fld (pv 0) rfl) pa_nil)) rfl)) pss_nil)), ?_⟩
    try dsimp only [cxOf, Cx.nox, Cx.wish]
    walk_at "go"
    refine ⟨p, dx, _, rfl, hp, flds_no _ _ (by decide +kernel) (by decide +kernel) (by decide +kernel), ?_⟩
    walk_at "go"
    refine ⟨p, ws, z, rfl, hW, ?_⟩
    by_cases hz : z < ws.length
    · rw [if_pos hz] at k
      rw [decide_eq_true hz]
      walk_at "go"
      refine ⟨p, C, dx, _, _, rfl, hp, T.cl, T.nL, flds_line _ _, ?_⟩
      walk_at "go"
      refine ⟨p, C, dx, _, _, rfl, hp, T.cl, T.nA, flds_at _ _, ?_⟩
      walk_at "go"
      exact rz (by have := hok.le; omega) k
    · rw [if_neg hz] at k
      rw [decide_eq_false hz]
      walk_at "go"
      exact k
theorem ok_wTakeInt {f fT fH CL : Addr} {fd fdT fdH : FuncData} (F : Fun K "take_integer" "Words.take_integer" sWTakeInt f fd) (B : Bl mg) (T : TW K mg C) (Oi : OIntIn P w K mg base)
    (GT : FnOk P w K mg base (L2N.CX P w) 3 fT fdT ["self", "worth"] (spTaken j C CL)) (mT : Meth K C "taken" fT) (bT : Binds K fdT ["self", "worth"] []) (GH : FnOk P w K mg base (L2N.CX P w) 3 fH fdH ["self"] (spHere j C CL)) (mH : Meth K C "here" fH) (bH : Binds K fdH ["self"] []) :
    FnOk P w K mg base (L2N.CX P w) 4 f fd ["self", "least", "most"] (spTakeInt j C CL) := by
  refine okXN F scWTakeInt (fun vs H Q E h => ?_) (fun cdv A outer s H vs Q E hr h => ?_)
  · obtain ⟨p, ws, z, lo, hi, rfl, _⟩ := h
    rfl
  · obtain ⟨p, ws, z, lo, hi, rfl, hW, hhi, k⟩ := h
    obtain ⟨⟨dx, t, hp, ht⟩, hok, hl⟩ := id hW
    refine ⟨_, (pss_one (ps_ret (pe_meth (pv 0) T.cl mT GT (hr.mono (by omega)) bT .nil (L2N.passes_call (E := E) (L2N.takes_of rfl rfl rfl rfl) (fun _ _ _ _ h => h)) (pa_cons (pe_own Oi hr (pa_cons (pe_meth0 (pv 0) T.cl mH GH (hr.mono (by omega)) bH .nil (L2N.passes_call (E := E) (L2N.takes_of rfl rfl rfl rfl) (fun _ _ _ _ h => h))) (pa_cons (pv 1) (pa_cons (pv 2) pa_nil)))) pa_nil)))), ?_⟩
    try dsimp only [cxOf, Cx.nox, Cx.wish]
    walk_at "go"
    refine ⟨p, dx, _, rfl, hp, flds_no _ _ (by decide +kernel) (by decide +kernel) (by decide +kernel), ?_⟩
    walk_at "go"
    refine ⟨p, dx, _, rfl, hp, flds_no _ _ (by decide +kernel) (by decide +kernel) (by decide +kernel), ?_⟩
    walk_at "go"
    refine ⟨p, ws, z, rfl, hW, ?_⟩
    cases hx : ws[z]? with
    | none =>
      rw [hx] at k
      exact k
    | some x =>
      rw [hx] at k
      have hzl := (List.getElem?_eq_some_iff.mp hx).1
      walk_at "go"
      refine ⟨x, lo, hi, rfl, hok.ea x (List.mem_of_getElem? hx), hhi, fun H1 s1 => ?_⟩
      walk_at "go"
      refine ⟨p, ws, z, _, rfl, hW.same s1, ?_⟩
      change match rdNum lo hi x with | none => _ | some n => _ at k
      cases e : rdNum lo hi x with
      | none =>
        rw [e] at k
        exact .inl ⟨rfl, k.mono (Same.kp s1)⟩
      | some n =>
        rw [e] at k
        exact .inr ⟨(fun q => nomatch q), hzl, fun H2 w2 o2 => k H2 w2 ((Same.kp s1).trans o2.kp)⟩
end
end K4

/-! W5b -/


namespace K4
open PySem L2 K1
abbrev sTakenValues : Stmt := top 65
abbrev nTakenValues : List Str := ["words", "word"]
theorem scTakenValues : FnScope nTakenValues ["words", "word"] (defScope sTakenValues) := ⟨rfl, rfl, rfl, by decide +kernel, rfl, by decide +kernel, by decide +kernel⟩
variable {j : Ln}
def spTakenValues (j : Ln) (K : PySem.W.Frag) (C CL : Addr) : Sp := fun vs H Q E => ∃ (p : Addr) (ws : List Str) (z c : Nat), vs = [.ref p, .str (wd c)] ∧ c < 9 ∧ WordsAt j C H p ws z ∧ (match rdFields (fields c) ws z with
  | .bad e => BadE j CL p H E e
  | .ok (ds, z') => ∀ H' q xs, WordsAt j C H' p ws z' → Kp p H H' → H' q = some (.lst xs) → DpAll K H' xs ds → Q (.ref q) H')
theorem bind_map {α β : Type} {o : Option Str} {g : Str → Option α} {h : α → β} : (o.bind fun x => (g x).map h) = (o.bind g).map h := by cases o <;> rfl
section
variable {P : Program} {w : World} {K : PySem.W.Frag} {mg : Str → Option Value} {base : Heap} {dI C CL : Addr}
def NoF (m : Str) : Prop := ¬ m = "line" ∧ ¬ m = "words" ∧ ¬ m = "at"
theorem r_mW {H : Hp} {p : Addr} {ws : List Str} {z : Nat} {m : Str} {R : Prop} (hW : WordsAt j C H p ws z) (hm : NoF m) (q : R) : ∃ a dx fs, V.ref p = .ref a ∧ H a = some (.ins C dx fs) ∧ fs.lookup m = none ∧ R := by
  obtain ⟨⟨dx, t, hp, ht⟩, hl⟩ := hW
  exact ⟨p, dx, _, rfl, hp, flds_no _ _ hm.1 hm.2.1 hm.2.2, q⟩
theorem noT : NoF "taken" := ⟨by decide +kernel, by decide +kernel, by decide +kernel⟩
theorem noH : NoF "here" := ⟨by decide +kernel, by decide +kernel, by decide +kernel⟩
theorem noI : NoF "take_integer" := ⟨by decide +kernel, by decide +kernel, by decide +kernel⟩
theorem noF : NoF "finish" := ⟨by decide +kernel, by decide +kernel, by decide +kernel⟩
abbrev ORowsIn (P : Program) (w : World) (K : PySem.W.Frag) (mg : Str → Option Value) (base : Heap) : Prop := Own P w K mg base "rows_in" 5 ["word"] (spRowsIn K)
abbrev OTextsIn (P : Program) (w : World) (K : PySem.W.Frag) (mg : Str → Option Value) (base : Heap) : Prop := Own P w K mg base "texts_in" 3 ["word", "least_many", "most_many", "least", "most"] spTextsIn
theorem wd_ne {c k : Nat} (hc : c < 9) (hk : k < 9) (h : ¬ V.str (wd c) = V.str (wd k)) : c ≠ k := fun e => h (by rw [e])
theorem wd_eq {c k : Nat} (hc : c < 9) (hk : k < 9) (h : V.str (wd c) = V.str (wd k)) : c = k := wd_inj _ hc _ hk (V.str.inj h)
theorem ok_takenValues {f fT fH fI : Addr} {fd fdT fdH fdI : FuncData} (F : Fun K "taken_values" "taken_values" sTakenValues f fd) (B : Bl mg) (G : Gc K w mg dI) (T : TW K mg C)
    (GT : FnOk P w K mg base (L2N.CX P w) 3 fT fdT ["self", "worth"] (spTaken j C CL)) (mT : Meth K C "taken" fT) (bT : Binds K fdT ["self", "worth"] []) (GH : FnOk P w K mg base (L2N.CX P w) 3 fH fdH ["self"] (spHere j C CL)) (mH : Meth K C "here" fH) (bH : Binds K fdH ["self"] [])
    (GI : FnOk P w K mg base (L2N.CX P w) 4 fI fdI ["self", "least", "most"] (spTakeInt j C CL)) (mI : Meth K C "take_integer" fI) (bI : Binds K fdI ["self", "least", "most"] [])
    (Ois : OIntsIn P w K mg base) (Orows : ORowsIn P w K mg base) (Otx : OTextsIn P w K mg base) : FnOk P w K mg base (L2N.CX P w) 6 f fd ["words", "word"] (spTakenValues j K C CL) := by
  refine okXN F scTakenValues (fun vs H Q E h => ?_) (fun cdv A outer s H vs Q E hr h => ?_)
  · obtain ⟨p, ws, z, c, rfl, _⟩ := h
    rfl
  · obtain ⟨p, ws, z, c, rfl, hc, hW, k⟩ := h
    refine ⟨_, (pss_cons (ps_if (pt_cmpR op_eq (pv 1) pe_str (nomark _)) (pss_one (ps_ret (pe_lst (pa_cons (pe_meth (pv 0) T.cl mI GI (hr.mono (by omega)) bI .nil (L2N.passes_call (E := E) (L2N.takes_of rfl rfl rfl rfl) (fun _ _ _ _ h => h)) (pa_cons (pe_gI G.LEAST_MODULUS) (pa_cons (pe_gI G.MOST_MODULUS) pa_nil))) (pa_cons (pe_meth (pv 0) T.cl mT GT (hr.mono (by omega)) bT .nil (L2N.passes_call (E := E) (L2N.takes_of rfl rfl rfl rfl) (fun _ _ _ _ h => h)) (pa_cons (pe_own Ois (hr.mono (by omega)) (pa_cons (pe_meth0 (pv 0) T.cl mH GH (hr.mono (by omega)) bH .nil (L2N.passes_call (E := E) (L2N.takes_of rfl rfl rfl rfl) (fun _ _ _ _ h => h))) (pa_cons pe_int (pa_cons (pe_gI G.MOST_WEIGHTS) (pa_cons (pe_gI G.MOST_NUMBER) pa_nil))))) pa_nil)) (pa_cons (pe_meth (pv 0) T.cl mI GI (hr.mono (by omega)) bI .nil (L2N.passes_call (E := E) (L2N.takes_of rfl rfl rfl rfl) (fun _ _ _ _ h => h)) (pa_cons pe_int (pa_cons (pe_gI G.MOST_NUMBER) pa_nil))) pa_nil)))))) pss_nil) (pss_cons (ps_if (pt_cmpR op_eq (pv 1) pe_str (nomark _)) (pss_one (ps_ret (pe_lst (pa_cons (pe_meth (pv 0) T.cl mT GT (hr.mono (by omega)) bT .nil (L2N.passes_call (E := E) (L2N.takes_of rfl rfl rfl rfl) (fun _ _ _ _ h => h)) (pa_cons (pe_own Orows hr (pa_cons (pe_meth0 (pv 0) T.cl mH GH (hr.mono (by omega)) bH .nil (L2N.passes_call (E := E) (L2N.takes_of rfl rfl rfl rfl) (fun _ _ _ _ h => h))) pa_nil)) pa_nil)) (pa_cons (pe_meth (pv 0) T.cl mT GT (hr.mono (by omega)) bT .nil (L2N.passes_call (E := E) (L2N.takes_of rfl rfl rfl rfl) (fun _ _ _ _ h => h)) (pa_cons (pe_own Ois (hr.mono (by omega)) (pa_cons (pe_meth0 (pv 0) T.cl mH GH (hr.mono (by omega)) bH .nil (L2N.passes_call (E := E) (L2N.takes_of rfl rfl rfl rfl) (fun _ _ _ _ h => h))) (pa_cons pe_int (pa_cons (pe_gI G.MOST_ROWS) (pa_cons (pe_gI G.MOST_NUMBER) pa_nil))))) pa_nil)) pa_nil))))) pss_nil) (pss_cons (ps_if (pt_cmpR op_eq (pv 1) pe_str (nomark _)) (pss_one (ps_ret (pe_lst (pa_cons (pe_meth (pv 0) T.cl mT GT (hr.mono (by omega)) bT .nil (L2N.passes_call (E := E) (L2N.takes_of rfl rfl rfl rfl) (fun _ _ _ _ h => h)) (pa_cons (pe_own Otx (hr.mono (by omega)) (pa_cons (pe_meth0 (pv 0) T.cl mH GH (hr.mono (by omega)) bH .nil (L2N.passes_call (E := E) (L2N.takes_of rfl rfl rfl rfl) (fun _ _ _ _ h => h))) (pa_cons pe_int (pa_cons (pe_gI G.MOST_FACES) (pa_cons (pe_gI G.LEAST_KINDS) (pa_cons (pe_gI G.MOST_KINDS) pa_nil)))))) pa_nil)) pa_nil)))) pss_nil) (pss_cons (ps_if (pt_cmpR op_eq (pv 1) pe_str (nomark _)) (pss_one (ps_ret (pe_lst (pa_cons (pe_meth (pv 0) T.cl mI GI (hr.mono (by omega)) bI .nil (L2N.passes_call (E := E) (L2N.takes_of rfl rfl rfl rfl) (fun _ _ _ _ h => h)) (pa_cons pe_int (pa_cons (pe_gI G.MOST_CUT) pa_nil))) (pa_cons (pe_meth (pv 0) T.cl mI GI (hr.mono (by omega)) bI .nil (L2N.passes_call (E := E) (L2N.takes_of rfl rfl rfl rfl) (fun _ _ _ _ h => h)) (pa_cons pe_int (pa_cons (pe_gI G.MOST_CUT) pa_nil))) pa_nil))))) pss_nil) (pss_one (ps_ret (pe_lst pa_nil))))))), ?_⟩
    try dsimp only [cxOf, Cx.nox, Cx.wish]
    walk_at "go"
    refine r_ite (fun h5 => ?_) (fun h5 => ?_)
    · obtain rfl := wd_eq hc (by decide) (show V.str (wd c) = V.str (wd 5) from h5)
      simp only [fields, rdFields] at k
      walk_at "go"
      refine r_mW hW noI ?_
      walk_at "go"
      refine ⟨p, ws, z, 2, 60, rfl, hW, by decide, ?_⟩
      have e1 : ws[z]?.bind Fk.modulus.read = (ws[z]?.bind (rdNum 2 60)).map pn := bind_map
      rw [e1] at k
      cases q1 : ws[z]?.bind (rdNum 2 60) with
      | none =>
        rw [q1] at k
        exact k
      | some m =>
        rw [q1] at k
        intro H1 w1 k1
        dsimp only [Option.map_some] at k
        walk_at "go"
        refine r_mW w1 noT ?_
        walk_at "go"
        refine r_mW w1 noH ?_
        walk_at "go"
        refine ⟨p, ws, z + 1, rfl, w1, ?_⟩
        cases q2 : ws[z + 1]? with
        | none =>
          rw [q2] at k
          exact k.mono k1
        | some x =>
          rw [q2] at k
          have hzl := (List.getElem?_eq_some_iff.mp q2).1
          dsimp only [Option.bind_some] at k
          walk_at "go"
          refine ⟨x, 1, 8, 59, rfl, w1.ok.ea x (List.mem_of_getElem? q2), by decide, fun H2 s2 => ?_⟩
          have e2 : Fk.weights.read x = (rdNums 1 8 59 x).map fun ns => .tuple (ns.map pn) := rfl
          rw [e2] at k
          cases q3 : rdNums 1 8 59 x with
          | none =>
            rw [q3] at k
            exact ⟨p, ws, z + 1, .non, rfl, w1.same s2, .inl ⟨rfl, k.mono (k1.trans (Same.kp s2))⟩⟩
          | some ns =>
            rw [q3] at k
            intro q hq
            refine ⟨p, ws, z + 1, .ref q, rfl, w1.same s2, .inr ⟨(fun x => nomatch x), hzl, fun H3 w3 o3 => ?_⟩⟩
            dsimp only [Option.map_some] at k
            walk_at "go"
            refine r_mW w3 noI ?_
            walk_at "go"
            refine ⟨p, ws, z + 1 + 1, 0, 59, rfl, w3, by decide, ?_⟩
            have e3 : ws[z + 1 + 1]?.bind Fk.goal.read = (ws[z + 1 + 1]?.bind (rdNum 0 59)).map pn := bind_map
            rw [e3] at k
            cases q4 : ws[z + 1 + 1]?.bind (rdNum 0 59) with
            | none =>
              rw [q4] at k
              exact k.mono (k1.trans ((Same.kp s2).trans o3.kp))
            | some g =>
              rw [q4] at k
              intro H4 w4 k4
              dsimp only [Option.map_some] at k
              walk_at "go"
              refine ⟨(by show 3 ≤ sizeLine; decide), fun r hr' => ?_⟩
              have kt : KT K H2 (upd H4 r (.lst [vi m, .ref q, vi g])) := KT.trans ((w1.same s2).keeps o3.kp).2 (KT.trans (w3.keeps k4).2 (Same.kt (same_new hr')))
              refine k _ r _ (w4.same (same_new hr')) (k1.trans ((Same.kp s2).trans (o3.kp.trans (k4.trans (Same.kp (same_new hr')))))) upd_same ?_
              exact .cons (.int _) (.cons (.tup (kt _ _ (SqT.of hq)) (dpA_nums.mpr rfl)) (.cons (.int _) .nil))
    walk_at "go"
    refine r_ite (fun h6 => ?_) (fun h6 => ?_)
    · obtain rfl := wd_eq hc (by decide) (show V.str (wd c) = V.str (wd 6) from h6)
      simp only [fields, rdFields] at k
      walk_at "go"
      refine r_mW hW noT ?_
      walk_at "go"
      refine r_mW hW noH ?_
      walk_at "go"
      refine ⟨p, ws, z, rfl, hW, ?_⟩
      cases q1 : ws[z]? with
      | none =>
        rw [q1] at k
        exact k
      | some x =>
        rw [q1] at k
        have hzl := (List.getElem?_eq_some_iff.mp q1).1
        dsimp only [Option.bind_some] at k
        walk_at "go"
        refine ⟨hW.ok.ea x (List.mem_of_getElem? q1), fun H1 s1 => ?_⟩
        have e1 : Fk.rows.read x = (rdRows x).map fun rs => .tuple (rs.map rowD) := rfl
        rw [e1] at k
        cases q2 : rdRows x with
        | none =>
          rw [q2] at k
          exact ⟨p, ws, z, .non, rfl, hW.same s1, .inl ⟨rfl, k.mono (Same.kp s1)⟩⟩
        | some rows =>
          rw [q2] at k
          intro v1 hv1
          dsimp only [Option.map_some] at k
          refine ⟨p, ws, z, v1, rfl, hW.same s1, .inr ⟨(fun x => by rw [x] at hv1; cases hv1), hzl, fun H2 w2 o2 => ?_⟩⟩
          walk_at "go"
          refine r_mW w2 noT ?_
          walk_at "go"
          refine r_mW w2 noH ?_
          walk_at "go"
          refine ⟨p, ws, z + 1, rfl, w2, ?_⟩
          cases q3 : ws[z + 1]? with
          | none =>
            rw [q3] at k
            exact k.mono ((Same.kp s1).trans o2.kp)
          | some y =>
            rw [q3] at k
            have hzl2 := (List.getElem?_eq_some_iff.mp q3).1
            dsimp only [Option.bind_some] at k
            walk_at "go"
            refine ⟨y, 1, 60, 59, rfl, hW.ok.ea y (List.mem_of_getElem? q3), by decide, fun H3 s3 => ?_⟩
            have e2 : Fk.goals.read y = (rdNums 1 60 59 y).map fun ns => .tuple (ns.map pn) := rfl
            rw [e2] at k
            cases q4 : rdNums 1 60 59 y with
            | none =>
              rw [q4] at k
              exact ⟨p, ws, z + 1, .non, rfl, w2.same s3, .inl ⟨rfl, k.mono ((Same.kp s1).trans (o2.kp.trans (Same.kp s3)))⟩⟩
            | some gs =>
              rw [q4] at k
              intro q hq
              dsimp only [Option.map_some] at k
              refine ⟨p, ws, z + 1, .ref q, rfl, w2.same s3, .inr ⟨(fun x => nomatch x), hzl2, fun H4 w4 o4 => ?_⟩⟩
              walk_at "go"
              refine ⟨(by show 2 ≤ sizeLine; decide), fun r hr' => ?_⟩
              have kt3 : KT K H3 (upd H4 r (.lst [v1, .ref q])) := KT.trans ((w2.same s3).keeps o4.kp).2 (Same.kt (same_new hr'))
              have kt1 : KT K H1 (upd H4 r (.lst [v1, .ref q])) := KT.trans ((hW.same s1).keeps o2.kp).2 (KT.trans (Same.kt s3) kt3)
              refine k _ r _ (w4.same (same_new hr')) ((Same.kp s1).trans (o2.kp.trans ((Same.kp s3).trans (o4.kp.trans (Same.kp (same_new hr')))))) upd_same ?_
              exact .cons (dp_pure kt1 _ _ (by simp only [K4.pure]; exact pureA_iff.mpr fun d hd => by obtain ⟨r, _, rfl⟩ := List.mem_map.mp hd; exact rowD_pure r) hv1) (.cons (.tup (kt3 _ _ (SqT.of hq)) (dpA_nums.mpr rfl)) .nil)
    walk_at "go"
    refine r_ite (fun h7 => ?_) (fun h7 => ?_)
    · obtain rfl := wd_eq hc (by decide) (show V.str (wd c) = V.str (wd 7) from h7)
      simp only [fields, rdFields] at k
      walk_at "go"
      refine r_mW hW noT ?_
      walk_at "go"
      refine r_mW hW noH ?_
      walk_at "go"
      refine ⟨p, ws, z, rfl, hW, ?_⟩
      cases q1 : ws[z]? with
      | none =>
        rw [q1] at k
        exact k
      | some x =>
        rw [q1] at k
        have hzl := (List.getElem?_eq_some_iff.mp q1).1
        dsimp only [Option.bind_some] at k
        walk_at "go"
        refine ⟨x, 1, 4, 2, 12, rfl, hW.ok.ea x (List.mem_of_getElem? q1), fun H1 s1 => ?_⟩
        have e1 : Fk.faces.read x = (rdTexts 1 4 2 12 x).map fun ts => .tuple (ts.map .str) := rfl
        rw [e1] at k
        cases q2 : rdTexts 1 4 2 12 x with
        | none =>
          rw [q2] at k
          exact ⟨p, ws, z, .non, rfl, hW.same s1, .inl ⟨rfl, k.mono (Same.kp s1)⟩⟩
        | some ts =>
          rw [q2] at k
          intro q hq
          dsimp only [Option.map_some] at k
          refine ⟨p, ws, z, .ref q, rfl, hW.same s1, .inr ⟨(fun x => nomatch x), hzl, fun H2 w2 o2 => ?_⟩⟩
          walk_at "go"
          refine ⟨(by show 1 ≤ sizeLine; decide), fun r hr' => ?_⟩
          have kt1 : KT K H1 (upd H2 r (.lst [.ref q])) := KT.trans ((hW.same s1).keeps o2.kp).2 (Same.kt (same_new hr'))
          refine k _ r _ (w2.same (same_new hr')) ((Same.kp s1).trans (o2.kp.trans (Same.kp (same_new hr')))) upd_same ?_
          exact .cons (.tup (kt1 _ _ (SqT.of hq)) (dpA_strs.mpr rfl)) .nil
    walk_at "go"
    refine r_ite (fun h8 => ?_) (fun h8 => ?_)
    · obtain rfl := wd_eq hc (by decide) (show V.str (wd c) = V.str (wd 8) from h8)
      simp only [fields, rdFields] at k
      walk_at "go"
      refine r_mW hW noI ?_
      walk_at "go"
      refine ⟨p, ws, z, 0, 3, rfl, hW, by decide, ?_⟩
      have e1 : ws[z]?.bind Fk.fend.read = (ws[z]?.bind (rdNum 0 3)).map pn := bind_map
      rw [e1] at k
      cases q1 : ws[z]?.bind (rdNum 0 3) with
      | none =>
        rw [q1] at k
        exact k
      | some a =>
        rw [q1] at k
        intro H1 w1 k1
        dsimp only [Option.map_some] at k
        walk_at "go"
        refine r_mW w1 noI ?_
        walk_at "go"
        refine ⟨p, ws, z + 1, 0, 3, rfl, w1, by decide, ?_⟩
        have e2 : ws[z + 1]?.bind Fk.fend.read = (ws[z + 1]?.bind (rdNum 0 3)).map pn := bind_map
        rw [e2] at k
        cases q2 : ws[z + 1]?.bind (rdNum 0 3) with
        | none =>
          rw [q2] at k
          exact k.mono k1
        | some b =>
          rw [q2] at k
          intro H2 w2 k2
          dsimp only [Option.map_some] at k
          walk_at "go"
          refine ⟨(by show 2 ≤ sizeLine; decide), fun r hr' => ?_⟩
          refine k _ r _ (w2.same (same_new hr')) (k1.trans (k2.trans (Same.kp (same_new hr')))) upd_same ?_
          exact .cons (.int _) (.cons (.int _) .nil)
    walk_at "go"
    refine ⟨(by show 0 ≤ sizeLine; decide), fun r hr' => ?_⟩
    have hf : fields c = [] := by
      match c, hc with
      | 0, _ => rfl
      | 1, _ => rfl
      | 2, _ => rfl
      | 3, _ => rfl
      | 4, _ => rfl
      | 5, _ => exact absurd rfl h5
      | 6, _ => exact absurd rfl h6
      | 7, _ => exact absurd rfl h7
      | 8, _ => exact absurd rfl h8
    rw [hf, rdFields] at k
    exact k _ r [] (hW.same (same_new hr')) (Same.kp (same_new hr')) upd_same .nil
end
end K4

/-! W5c -/


namespace K4
open PySem L2 K1
abbrev sTakeRule : Stmt := top 63
abbrev nTakeRule : List Str := ["words", "begun", "word", "values", "inner", "_", "rule"]
theorem scTakeRule : FnScope nTakeRule ["words", "begun"] (defScope sTakeRule) := ⟨rfl, rfl, rfl, by decide +kernel, rfl, by decide +kernel, by decide +kernel⟩
abbrev sTakeLast : Stmt := top 62
abbrev nTakeLast : List Str := ["words", "rule", "_"]
theorem scTakeLast : FnScope nTakeLast ["words"] (defScope sTakeLast) := ⟨rfl, rfl, rfl, by decide +kernel, rfl, by decide +kernel, by decide +kernel⟩
variable {j : Ln}
def spTakeRule (j : Ln) (K : PySem.W.Frag) (C CL : Addr) (n : Nat) : Sp := fun vs H Q E => ∃ (p : Addr) (ws : List Str) (z b : Nat), vs = [.ref p, vi b] ∧ WordsAt j C H p ws z ∧ b ≤ 40 ∧ 40 < n + b ∧ (match rdRule n ws z b with
  | .bad e => BadE j CL p H E e
  | .ok (d, z', b') => ∀ H' q t, WordsAt j C H' p ws z' → Kp p H H' → H' q = some (.tup [.ref t, vi b']) → Dp K H' (.ref t) d → Q (.ref q) H')
section
variable {P : Program} {w : World} {K : PySem.W.Frag} {mg : Str → Option Value} {base : Heap} {dI C CL : Addr}
abbrev ORuleWordIn (P : Program) (w : World) (K : PySem.W.Frag) (mg : Str → Option Value) (base : Heap) : Prop := Own P w K mg base "rule_word_in" 1 ["word", "begun"] spRuleWordIn
abbrev OTakenValues (j : Ln) (C CL : Addr) (P : Program) (w : World) (K : PySem.W.Frag) (mg : Str → Option Value) (base : Heap) : Prop := OwnX P w K mg base "taken_values" 6 ["words", "word"] (spTakenValues j K C CL)
abbrev OTakeRule (j : Ln) (n : Nat) (C CL : Addr) (P : Program) (w : World) (K : PySem.W.Frag) (mg : Str → Option Value) (base : Heap) : Prop := OwnX P w K mg base "take_rule" (n + 6) ["words", "begun"] (spTakeRule j K C CL n)
theorem kp_upd {b L : Addr} {H H' : Hp} {o : HO} (k : Kp b H H') (h : H L = none) : Kp b H (upd H' L o) := fun c u n e => by
  rw [upd_ne (ne_of_none e h)]
  exact k c u n e
theorem ok_takeRule {n : Nat} {f fT fH : Addr} {fd fdT fdH : FuncData} (F : Fun K "take_rule" "take_rule" sTakeRule f fd) (B : Bl mg) (G : Gc K w mg dI) (T : TW K mg C)
    (GT : FnOk P w K mg base (L2N.CX P w) 3 fT fdT ["self", "worth"] (spTaken j C CL)) (mT : Meth K C "taken" fT) (bT : Binds K fdT ["self", "worth"] []) (GH : FnOk P w K mg base (L2N.CX P w) 3 fH fdH ["self"] (spHere j C CL)) (mH : Meth K C "here" fH) (bH : Binds K fdH ["self"] [])
    (Ori : ORuleWordIn P w K mg base) (Otv : OTakenValues j C CL P w K mg base) (Otr : OTakeRule j n C CL P w K mg base) : FnOk P w K mg base (L2N.CX P w) (n + 1 + 6) f fd ["words", "begun"] (spTakeRule j K C CL (n + 1)) := by
  refine okXN F scTakeRule (fun vs H Q E h => ?_) (fun cdv A outer s H vs Q E hr h => ?_)
  · obtain ⟨p, ws, z, b, rfl, _⟩ := h
    rfl
  · obtain ⟨p, ws, z, b, rfl, hW, hb, hn, k⟩ := h
    refine ⟨_, (pss_cons (ps_set (i := 2) scTakeRule.nd rfl (Or.inl rfl) (pe_meth (pv 0) T.cl mT GT (hr.mono (by omega)) bT .nil (L2N.passes_call (E := E) (L2N.takes_of rfl rfl rfl rfl) (fun _ _ _ _ h => h)) (pa_cons (pe_own Ori (hr.mono (by omega)) (pa_cons (pe_meth0 (pv 0) T.cl mH GH (hr.mono (by omega)) bH .nil (L2N.passes_call (E := E) (L2N.takes_of rfl rfl rfl rfl) (fun _ _ _ _ h => h))) (pa_cons (pv 1) pa_nil))) pa_nil))) (pss_cons (ps_set (i := 3) scTakeRule.nd rfl (Or.inl rfl) (pe_ownX Otv (hr.mono (by omega)) (L2N.passes_call (E := E) (L2N.takes_of rfl rfl rfl rfl) (fun _ _ _ _ h => h)) (pa_cons (pv 0) (pa_cons (pv 2) pa_nil)))) (pss_cons (ps_aug (i := 1) scTakeRule.nd rfl (Or.inl rfl) pe_int ip_add) (pss_cons (ps_set (i := 4) scTakeRule.nd rfl (Or.inl rfl) (pe_lst pa_nil)) (pss_cons (ps_for (passes_of rfl) rfl (pi_range1 rfl B.range (pa_cons (pe_ix ix_kdict (pe_gR G.IR) (pv 2) (fun _ _ => rfl)) pa_nil)) (pg_name (i := 5) scTakeRule.nd rfl (Or.inl rfl)) (pss_cons (ps_asg (pe_ownX Otr hr (L2N.passes_call (E := E) (L2N.takes_of rfl rfl rfl rfl) (fun _ _ _ _ h => h)) (pa_cons (pv 0) (pa_cons (pv 1) pa_nil))) (pg_tup rfl (pgs_cons (pg_name (i := 6) scTakeRule.nd rfl (Or.inl rfl)) (pgs_cons (pg_name (i := 1) scTakeRule.nd rfl (Or.inl rfl)) pgs_nil)))) (pss_one (ps_expr (pe_bm PySem.F.plainAttrs_list PySem.F.slot_list_append PySem.F.type_list_append mt_append (pv 4) (pa_cons (pv 6) pa_nil)))))) (pss_one (ps_ret (pe_tup (pa_cons (pe_tup (pa_cons (pv 2) (StX.pa_star (pv 3) (StX.pa_star (pv 4) pa_nil)))) (pa_cons (pv 1) pa_nil)))))))))), ?_⟩
    try dsimp only [cxOf, Cx.nox, Cx.wish]
    rw [rdRule] at k
    walk_at "go"
    refine r_mW hW noT ?_
    walk_at "go"
    refine r_mW hW noH ?_
    walk_at "go"
    refine ⟨p, ws, z, rfl, hW, ?_⟩
    cases q1 : ws[z]? with
    | none =>
      rw [q1] at k
      exact k
    | some x =>
      rw [q1] at k
      have hzl := (List.getElem?_eq_some_iff.mp q1).1
      dsimp only [Option.bind_some] at k
      walk_at "go"
      refine ⟨x, b, rfl, ?_⟩
      have ew : rdWord x b = if (kindOf x).isSome = true ∧ b < 40 then some x else none := by unfold rdWord; rw [isWd_kind]
      rw [ew]
      walk_at "go"
      refine ⟨p, ws, z, _, rfl, hW, ?_⟩
      cases q2 : kindOf x with
      | none =>
        rw [q2] at k
        rw [if_neg (fun q => by cases q.1)]
        exact .inl ⟨rfl, k⟩
      | some c =>
        obtain ⟨hc, rfl⟩ := kindOf_some q2
        rw [q2] at k
        dsimp only at k
        by_cases hb4 : b < 40
        · rw [if_pos hb4] at k
          rw [if_pos ⟨rfl, hb4⟩]
          refine .inr ⟨(fun q => nomatch q), hzl, fun H1 w1 o1 => ?_⟩
          walk_at "go"
          refine ⟨p, ws, z + 1, c, rfl, hc, w1, ?_⟩
          cases q3 : rdFields (fields c) ws (z + 1) with
          | bad e =>
            rw [q3] at k
            exact k.mono o1.kp
          | ok q =>
            obtain ⟨ds, z1⟩ := q
            rw [q3] at k
            dsimp only at k
            have pds := rdFields_pure q3
            intro H2 q xs w2 k2 eq hdat
            walk_at "go"
            refine ⟨_, _, rfl, rfl, ?_⟩
            walk_at "go"
            refine ⟨(by show 0 ≤ sizeLine; decide), fun L hL => ?_⟩
            walk_at "go"
            refine r_kd (G.ir c hc) ?_
            walk_at "go"
            have npq : q ≠ p := fun x => by obtain ⟨⟨dx, t, hp, _⟩, _⟩ := w2; rw [x, hp] at eq; cases eq
            have nLp : L ≠ p := fun x => by obtain ⟨⟨dx, t, hp, _⟩, _⟩ := w2; rw [x, hp] at hL; cases hL
            have nqL : q ≠ L := fun x => by rw [x, hL] at eq; cases eq
            have kp2 : Kp p H H2 := o1.kp.trans k2
            have hLH : H L = none := by
              obtain ⟨⟨dx, t, hp, _⟩, _⟩ := id w2
              exact Kp.free kp2 hp hL
            have ar2 : ar c ≤ 2 := ar_le c
            have ce : ((b : Int) + 1) = ((b + 1 : Nat) : Int) := by omega
            rw [ce]
            have xl : xs.length ≤ 3 := by
              have h1 := dpA_len hdat
              have h2 := (rdFields_len q3).1
              have h3 := fields_len c
              omega
            refine ⟨by omega, by omega, fr_range (lo := 0) (n := ar c) (fun i σ H' => ∃ (bj zj : Nat) (o5 o6 : Option V) (ts : List V) (rs : List PyData), σ = [some (.ref p), some (vi bj), some (.str (wd c)), some (.ref q), some (.ref L), o5, o6] ∧
              WordsAt j C H' p ws zj ∧ Kp p H H' ∧ H' q = some (.lst xs) ∧ DpAll K H' xs ds ∧ H' L = some (.lst ts) ∧ DpAll K H' ts rs ∧ pureA rs = true ∧ bj ≤ 40 ∧ b + 1 + i ≤ bj ∧ ts.length = i ∧
              rdMany (rdRule n ws) (ar c) z1 (b + 1) = (match rdMany (rdRule n ws) (ar c - i) zj bj with | Out.bad e => Out.bad e | Out.ok (ds2, z2, b2) => Out.ok (rs ++ ds2, z2, b2)))
              ⟨b + 1, z1, none, none, [], [], rfl, w2.same (same_new hL), kp_upd kp2 hLH, by rw [upd_ne nqL]; exact eq, dpA_pure (Same.kt (same_new hL)) _ _ pds hdat, upd_same, .nil, rfl, by omega, by omega, rfl, ?_⟩ ?_ ?_⟩
            · rw [Nat.sub_zero]
              cases rdMany (rdRule n ws) (ar c) z1 (b + 1) with
              | bad e => rfl
              | ok q => rfl
            · rintro i σ H' hi ⟨bj, zj, o5, o6, ts, rs, rfl, w', k', eq', dx', eL', dt', prs, hbj, hbb, li, rj⟩
              have ej : ar c - i = (ar c - (i + 1)) + 1 := by omega
              rw [ej, rdMany] at rj
              walk_at "go"
              refine ⟨p, ws, zj, bj, rfl, w', hbj, by omega, ?_⟩
              cases er : rdRule n ws zj bj with
              | bad e =>
                rw [er] at rj
                dsimp only at rj
                rw [rj] at k
                exact k.mono k'
              | ok r =>
                obtain ⟨d, z', b'⟩ := r
                rw [er] at rj
                dsimp only at rj
                have hbb' := rdRule_b _ _ _ _ _ _ _ hbj er
                have pd := rdRule_pure _ _ _ _ _ _ _ er
                intro H3 q3' t3 w3 k3 e4 d3
                refine ⟨q3', _, rfl, SqT.of e4, rfl, ?_⟩
                walk_at "go"
                have eL3 := k3 _ _ nLp eL'
                refine ⟨tyL (SqL.of eL3), ?_⟩
                walk_at "go"
                refine ⟨L, ts, _, rfl, rfl, eL3, big_line (by omega), ?_⟩
                have kt : KT K H' (upd H3 L (.lst (ts ++ [.ref t3]))) := KT.trans (w'.keeps k3).2 (kt_lst eL3)
                refine ⟨b', z', _, _, ts ++ [.ref t3], rs ++ [d], rfl, ?_, ?_, ?_, ?_, upd_same, ?_, ?_, hbb'.2, by omega, ?_, ?_⟩
                · obtain ⟨⟨dx, t, hp, ht⟩, hok, hl⟩ := w3
                  have n1 : p ≠ L := fun z => nLp z.symm
                  have n2 : t ≠ L := fun z => by rw [z, eL3] at ht; cases ht
                  exact ⟨⟨dx, t, by rw [upd_ne n1]; exact hp, by rw [upd_ne n2]; exact ht⟩, hok, hl⟩
                · exact kp_upd (k'.trans k3) hLH
                · rw [upd_ne nqL]; exact k3 _ _ npq eq'
                · exact dpA_pure kt _ _ pds dx'
                · exact dpA_app (dpA_pure kt _ _ prs dt') (.cons (dp_pure (kt_lst eL3) _ _ pd d3) .nil)
                · exact pureA_ap prs (by simp only [pureA, pd, Bool.and_true])
                · rw [List.length_append, li]; rfl
                · rw [rj]
                  cases rdMany (rdRule n ws) (ar c - (i + 1)) z' b' with
                  | bad e => rfl
                  | ok q => simp [List.append_assoc]
            · rintro σ H' ⟨bj, zj, o5, o6, ts, rs, rfl, w', k', eq', dx', eL', dt', prs, hbj, hbb, li, rj⟩
              rw [Nat.sub_self, rdMany] at rj
              dsimp only at rj
              rw [List.append_nil] at rj
              rw [rj] at k
              dsimp only at k
              walk_at "go"
              refine ⟨q, xs, rfl, .inr (SqL.of eq'), ?_⟩
              walk_at "go"
              refine ⟨L, ts, rfl, .inr (SqL.of eL'), ?_⟩
              walk_at "go"
              refine ⟨Nat.le_of_lt (big_line (by rw [List.length_cons, List.length_append, List.length_append]; simp only [List.length_nil]; omega)), fun t ht => ?_⟩
              walk_at "go"
              refine ⟨(by show 2 ≤ sizeLine; decide), fun q' hq' => ?_⟩
              have ntq : t ≠ q' := fun z => by rw [← z, upd_same] at hq'; cases hq'
              have sm := Same.trans (same_new (o := HO.tup (V.str (wd c) :: (xs ++ (ts ++ [])))) ht) (same_new (o := HO.tup [.ref t, vi bj]) hq')
              refine k _ q' t (w'.same sm) (k'.trans (Same.kp sm)) upd_same ?_
              refine .tup (SqT.of (by rw [upd_ne ntq, upd_same])) (.cons (.str _) ?_)
              rw [← List.append_nil rs]
              exact dpA_app (dpA_pure (Same.kt sm) _ _ pds dx') (dpA_app (dpA_pure (Same.kt sm) _ _ prs dt') .nil)
        · rw [if_neg hb4] at k
          rw [if_neg (fun q => hb4 q.2)]
          exact .inl ⟨rfl, k⟩
theorem none_okX {f : Addr} {fd : FuncData} {k : Nat} {ps : List Str} {sp : Sp} (no : ∀ vs H Q E, ¬ sp vs H Q E) : FnOk P w K mg base (L2N.CX P w) k f fd ps sp :=
  ⟨fun vs H Q E h => absurd h (no vs H Q E), fun A outer s H args us vs Q E _ _ _ _ h => absurd h (no vs H Q E)⟩
theorem tr_all {f fT fH : Addr} {fd fdT fdH : FuncData} (F : Fun K "take_rule" "take_rule" sTakeRule f fd) (B : Bl mg) (G : Gc K w mg dI) (T : TW K mg C)
    (GT : FnOk P w K mg base (L2N.CX P w) 3 fT fdT ["self", "worth"] (spTaken j C CL)) (mT : Meth K C "taken" fT) (bT : Binds K fdT ["self", "worth"] []) (GH : FnOk P w K mg base (L2N.CX P w) 3 fH fdH ["self"] (spHere j C CL)) (mH : Meth K C "here" fH) (bH : Binds K fdH ["self"] [])
    (Ori : ORuleWordIn P w K mg base) (Otv : OTakenValues j C CL P w K mg base) (m : mg "take_rule" = some (.ref f)) (b : Binds K fd ["words", "begun"] []) : ∀ n : Nat, OTakeRule j n C CL P w K mg base
  | 0 => ⟨f, fd, none_okX fun vs H Q E h => by obtain ⟨p, ws, z, b, _, _, hb, hn, _⟩ := h; omega, m, F.kp, b⟩
  | n + 1 => ⟨f, fd, ok_takeRule F B G T GT mT bT GH mH bH Ori Otv (tr_all F B G T GT mT bT GH mH bH Ori Otv m b n), m, F.kp, b⟩
def spTakeLast (j : Ln) (K : PySem.W.Frag) (C CL : Addr) : Sp := fun vs H Q E => ∃ (p : Addr) (ws : List Str) (z : Nat), vs = [.ref p] ∧ WordsAt j C H p ws z ∧ (match rdAllWs ws z with
  | .bad e => BadE j CL p H E e
  | .ok d => ∀ H' t, WordsAt j C H' p ws ws.length → Kp p H H' → Dp K H' (.ref t) d → Q (.ref t) H')
theorem ok_takeLast {f fF : Addr} {fd fdF : FuncData} (F : Fun K "take_last_rule" "take_last_rule" sTakeLast f fd) (B : Bl mg) (Otr : OTakeRule j 41 C CL P w K mg base) (T : TW K mg C)
    (GF : FnOk P w K mg base (L2N.CX P w) 3 fF fdF ["self"] (spFinish j C CL)) (mF : Meth K C "finish" fF) (bF : Binds K fdF ["self"] []) : FnOk P w K mg base (L2N.CX P w) 48 f fd ["words"] (spTakeLast j K C CL) := by
  refine okXN F scTakeLast (fun vs H Q E h => ?_) (fun cdv A outer s H vs Q E hr h => ?_)
  · obtain ⟨p, ws, z, rfl, _⟩ := h
    rfl
  · obtain ⟨p, ws, z, rfl, hW, k⟩ := h
    unfold rdAllWs at k
    refine ⟨_, (pss_cons (ps_asg (pe_ownX Otr (hr.mono (by omega)) (L2N.passes_call (E := E) (L2N.takes_of rfl rfl rfl rfl) (fun _ _ _ _ h => h)) (pa_cons (pv 0) (pa_cons pe_int pa_nil))) (pg_tup rfl (pgs_cons (pg_name (i := 1) scTakeLast.nd rfl (Or.inl rfl)) (pgs_cons (pg_name (i := 2) scTakeLast.nd rfl (Or.inl rfl)) pgs_nil)))) (pss_cons (ps_expr (pe_meth0 (pv 0) T.cl mF GF (hr.mono (by omega)) bF .nil (L2N.passes_call (E := E) (L2N.takes_of rfl rfl rfl rfl) (fun _ _ _ _ h => h)))) (pss_one (ps_ret (pv 1))))), ?_⟩
    try dsimp only [cxOf, Cx.nox, Cx.wish]
    walk_at "go"
    refine ⟨p, ws, z, 0, rfl, hW, by decide, by decide, ?_⟩
    cases q1 : rdRule 41 ws z 0 with
    | bad e =>
      rw [q1] at k
      exact k
    | ok r =>
      obtain ⟨d, z', b'⟩ := r
      rw [q1] at k
      dsimp only at k
      intro H1 q t w1 k1 e1 d1
      refine ⟨q, _, rfl, SqT.of e1, rfl, ?_⟩
      walk_at "go"
      refine r_mW w1 noF ?_
      walk_at "go"
      refine ⟨p, ws, z', rfl, w1, ?_⟩
      by_cases hz : z' < ws.length
      · rw [if_pos hz] at k ⊢
        exact BadE.mono k k1
      · rw [if_neg hz] at k ⊢
        walk_at "go"
        have ez : z' = ws.length := Nat.le_antisymm w1.le (by omega)
        exact k H1 t (ez ▸ w1) k1 d1
abbrev OTakeLast (j : Ln) (C CL : Addr) (P : Program) (w : World) (K : PySem.W.Frag) (mg : Str → Option Value) (base : Heap) : Prop := OwnX P w K mg base "take_last_rule" 48 ["words"] (spTakeLast j K C CL)
/-- no text -/
def NoStr (K : PySem.W.Frag) (H : Hp) (y : V) : Prop := ∃ t, (∀ H', Same H H' → TyX K H' y t) ∧ PySem.W.kitOne K t (.type "str") = some false
def spWInit (j : Ln) (K : PySem.W.Frag) (C CL : Addr) : Sp := fun vs H Q E => ∃ (p dx : Addr) (y : V), vs = [.ref p, vi j.1, y] ∧ H p = some (.ins C dx []) ∧
  ((∃ x : Str, y = .str x ∧ x.length ≤ 500000 ∧ ∀ H', WordsAt j C H' p (Txt.split x SP) 0 → Kp p H H' → Q .non H') ∨ (NoStr K H y ∧ BadE j CL p H E 0))
theorem ok_wInit {f fI CL : Addr} {fd fdI : FuncData} (F : Fun K "__init__" "Words.__init__" sWInit f fd) (B : Bl mg) (T : TW K mg C) (TLx : TL P K mg CL fI fdI) : FnOk P w K mg base (L2N.CX P w) 3 f fd ["self", "line", "text"] (spWInit j K C CL) := by
  refine okXN F scWInit (fun vs H Q E h => ?_) (fun cdv A outer s H vs Q E hr h => ?_)
  · obtain ⟨p, dx, y, rfl, _⟩ := h
    rfl
  · obtain ⟨p, dx, y, rfl, hp, hk⟩ := h
    refine ⟨_, (pss_cons (ps_if (pt_not (pt_val (pe_callB (id := "isinstance") (r := rIsi K) call_isi (by rfl) B.isin (by decide +kernel) (pa_cons (pv 2) (pa_cons (pe_bltn (v := .ty "str") (by rfl) B.str (by decide +kernel) rfl) pa_nil))))) (pss_one (ps_bad TLx hr rfl (L2N.takes_of rfl rfl rfl rfl) (pa_cons (pv 1) (pa_cons pe_int pa_nil)) rfl)) pss_nil) (pss_cons (ps_fld (pv 0) (pv 1) rfl) (pss_cons (ps_fld (pv 0) (pe_callTy call_tuple_of (by rfl) B.tuple (by decide +kernel) (pa_cons (pe_m1 PySem.F.slot_str_split PySem.F.type_str_split mt_split (pv 2) pe_str) pa_nil)) rfl) (pss_one (ps_fld (pv 0) pe_int rfl))))), ?_⟩
    try dsimp only [cxOf, Cx.nox, Cx.wish]
    walk_at "go"
    rcases hk with ⟨x, rfl, hl, k⟩ | ⟨⟨ty, hty, hkit⟩, k⟩
    · refine r_isi (b := true) (.ty "str") (.base (.str _)) (kit_ty (by decide +kernel)) ?_
      walk_at "go"
      refine ⟨p, C, dx, _, rfl, hp, T.cl, T.nL, by decide, ?_⟩
      walk_at "go"
      refine ⟨_, _, rfl, rfl, by decide +kernel, (by rw [sizeLine_eq]; omega), fun q hq => ?_⟩
      have nqp : q ≠ p := fun z => by rw [z, upd_same] at hq; cases hq
      have hqH : H q = none := by rw [upd_ne nqp] at hq; exact hq
      walk_at "go"
      refine ⟨_, _, rfl, .inl ⟨SqL.of upd_same, fun t ht => ?_⟩⟩
      have ntq : t ≠ q := fun z => by rw [z, upd_same] at ht; cases ht
      rw [upd_ne ntq] at ht
      have ntp : t ≠ p := fun z => by rw [z, upd_same] at ht; cases ht
      rw [upd_ne ntp] at ht
      walk_at "go"
      refine ⟨p, C, dx, _, rfl, (by rw [upd_ne ntp.symm, upd_ne nqp.symm, upd_same]), T.cl, T.nW, (by show 1 < 1000; decide), ?_⟩
      walk_at "go"
      refine ⟨p, C, dx, _, rfl, upd_same, T.cl, T.nA, (by show 2 < 1000; decide), ?_⟩
      walk_at "go"
      have hsl := split_len (x := x) (y := SP) (by rw [tl_SP]; simp) (by decide +kernel)
      refine k _ ⟨⟨dx, t, ?_, ?_⟩, ⟨by omega, fun z hz => by have := hsl.2 z hz; omega⟩, Nat.zero_le _⟩ ?_
      · rw [upd_same]
        have e1 : putF "line" (vi j.1) [] = [(("line" : Str), vi j.1)] := rfl
        have e2 : putF "words" (V.ref t) [(("line" : Str), vi j.1)] = [(("line" : Str), vi j.1), (("words" : Str), V.ref t)] := by
          show (if ("line" : Str) = "words" then _ else (("line" : Str), vi j.1) :: [(("words" : Str), V.ref t)]) = _
          rw [if_neg nLW]
        have e3 : putF "at" (V.int 0) [(("line" : Str), vi j.1), (("words" : Str), V.ref t)] = flds j t 0 := by
          show (if ("line" : Str) = "at" then _ else (("line" : Str), vi j.1) :: (if ("words" : Str) = "at" then _ else (("words" : Str), V.ref t) :: [(("at" : Str), V.int 0)])) = _
          rw [if_neg nLA, if_neg nWA]
          rfl
        rw [e1, e2, e3]
        rfl
      · rw [upd_ne ntp, upd_ne ntp, upd_same]
      · intro c o n e
        rw [upd_ne n, upd_ne n, upd_ne (ne_of_none e ht), upd_ne (ne_of_none e hqH), upd_ne n]
        exact e
    · refine r_isi (b := false) (.ty "str") (hty _ (Same.refl _)) hkit ?_
      walk_at "go"
      exact rz (by decide) k
end
end K4

/-! Zk -/
/-! list(d) of a dict of the module with text keys. -/
namespace K4
open PySem L2 PySem.Spec PyProof.Rows
def KLst (K : PySem.W.Frag) (w : World) (d : Addr) (ks : List Str) : Prop := ∃ es n, KDict K w d es n ∧ Vals (ks.map V.str) (es.toList.map (·.key)) ∧ es.size ≤ sizeLine
def rLstK (K : PySem.W.Frag) (w : World) : List V → Hp → VK → Prop := fun xs H Q => ∃ d ks, xs = [.ref d] ∧ KLst K w d ks ∧ ∀ p, H p = none → Q (.ref p) (upd H p (.lst (ks.map V.str)))
theorem call_listK {X : Cx} (hcalm : X.calm = true) : CallR X (.type "list") (rLstK X.K X.w) := by
  intro pins s σ H xs us Q I r q
  obtain ⟨d, ks, ex, ⟨es, n, D, hv, hz⟩, q⟩ := q
  subst ex
  obtain ⟨u, eu, rx⟩ := vals1 r
  subst eu
  cases rx
  have raw : s.heap.DictRaw d es n := ⟨_, I.kIn d _ D.at_, ⟨rfl, rfl, rfl⟩, rfl⟩
  refine PySem.W.kdl_call (KdlSrc.rawDict D.low) (I.ok.hd hcalm) raw hz fun h' tk acc c' hk hD hacc => ?_
  have hl : ks.length = es.size := by
    have := hv.length
    rw [List.length_map, List.length_map, Array.length_toList] at this
    exact this
  have e1 : acc.toList = es.toList.map (·.key) := by
    refine List.ext_getElem? fun j => ?_
    by_cases hj : j < acc.size
    · have h1 : acc.toList[j]? = some acc[j] := by rw [Array.getElem?_toList]; exact Array.getElem?_eq_getElem hj
      obtain ⟨hi, ev⟩ := hacc.2 j acc[j] (Array.getElem?_eq_getElem hj)
      rw [h1, List.getElem?_map, Array.getElem?_toList, Array.getElem?_eq_getElem hi, ev]
      rfl
    · have h2 : es.size ≤ j := by have := hacc.1; omega
      rw [Array.getElem?_toList, Array.getElem?_eq_none (by omega), List.getElem?_map, Array.getElem?_toList, Array.getElem?_eq_none h2]
      rfl
  refine ⟨.ref s.heap.objs.size, upd H s.heap.objs.size (.lst (ks.map V.str)), I.laid (t' := tk) hk (Nat.le_refl _)
    (show ObjOk X.prog X.w _ _ _ (.lst (ks.map V.str)) from ⟨by rw [List.length_map, hl]; exact hz, acc.toList, c', by rw [e1]; exact hv, by rw [Array.toArray_toList]; exact hD⟩), rfl, q _ (I.hok.fresh (Nat.le_refl _))⟩
end K4

/-! G7 -/

/-! More constants of the program: names, deeds; dicts of the module. -/
namespace K4
open PySem L2 K1 PyProof.Rows
abbrev AZ : Str := "abcdefghijklmnopqrstuvwxyz"
structure Go (K : PySem.W.Frag) (w : World) (mg : Str → Option Value) (dO : Addr) : Prop where
  OV : mg "OWN_VALUES" = some (.ref dO)
  ov : ∀ k < 9, KDct K w dO (wd k) (.int (mn k))
/-- the words that are no names -/
def noNames : List Str := ["signs", "series", "run", "words", "rule", "any", "sum", "square", "faces", "back", "cut", "both", "either", "not", "hand", "slip", "way", "desk", "clerk", "spell", "echo", "issue", "block", "use", "void", "again", "day", "edition"]
/-- the words of deeds -/
def dw : Nat → Str
  | 0 => "issue" | 1 => "block" | 2 => "use" | 3 => "void" | 4 => "again" | 5 => "day" | _ => "edition"
inductive Pk
  | name | many | paper | rule
def Pk.nm : Pk → Str
  | .name => "name" | .many => "many" | .paper => "paper" | .rule => "rule"
/-- the kinds of a deed's parts -/
def dk : Nat → List Pk
  | 0 => [.name, .many] | 1 => [.name, .name, .many] | 2 => [.name, .name] | 3 => [.name, .paper] | 4 => [.name, .paper] | 5 => [] | _ => [.name, .rule]
structure G7 (K : PySem.W.Frag) (w : World) (mg : Str → Option Value) (dD tN : Addr) (tk : Nat → Addr) : Prop where
  MOST_SIGNS : GI mg "MOST_SIGNS" 60
  MOST_MANY : GI mg "MOST_MANY" 20
  MOST_LETTERS : GI mg "MOST_LETTERS" 8
  LETTERS : GS mg "LETTERS" AZ
  EMPTY_PAPER : GS mg "EMPTY_PAPER" "-"
  NN : mg "NO_NAMES" = some (.ref tN)
  nn : ∀ H, SqT K H tN (noNames.map V.str)
  DW : mg "DEED_WORDS" = some (.ref dD)
  dw : ∀ k < 7, KDct K w dD (dw k) (.ref (tk k))
  dt : ∀ k < 7, ∀ H, SqT K H (tk k) ((dk k).map fun p => V.str p.nm)
  ls : KLst K w dD ((List.range 7).map K4.dw)
end K4

/-! P7d -/


namespace K4
open PySem L2 K1
abbrev sIsName : Stmt := top 43
abbrev nIsName : List Str := ["thing"]
theorem scIsName : FnScope nIsName ["thing"] (defScope sIsName) := ⟨rfl, rfl, rfl, by decide +kernel, rfl, by decide +kernel, by decide +kernel⟩
abbrev sNameIn : Stmt := top 48
abbrev nNameIn : List Str := ["word"]
theorem scNameIn : FnScope nNameIn ["word"] (defScope sNameIn) := ⟨rfl, rfl, rfl, by decide +kernel, rfl, by decide +kernel, by decide +kernel⟩
abbrev sPaperIn : Stmt := top 52
abbrev nPaperIn : List Str := ["word", "most"]
theorem scPaperIn : FnScope nPaperIn ["word", "most"] (defScope sPaperIn) := ⟨rfl, rfl, rfl, by decide +kernel, rfl, by decide +kernel, by decide +kernel⟩
abbrev sPaperWord : Stmt := top 54
abbrev nPaperWord : List Str := ["paper"]
theorem scPaperWord : FnScope nPaperWord ["paper"] (defScope sPaperWord) := ⟨rfl, rfl, rfl, by decide +kernel, rfl, by decide +kernel, by decide +kernel⟩
/-! Names and papers in words. -/
def isNo (x : Str) : Bool := inV (.str x) (noNames.map V.str)
def isNm (x : Str) : Bool := textB 1 8 AZ x && !isNo x
def rdName (x : Str) : Option Str := if isNm x = true then some x else none
def rdPap (x : Str) : Option Str := if x = "-" then some "" else if textB 1 60 K4.ALL x = true then some x else none
def spIsName : Sp := fun vs H Q _ => ∃ x : Str, vs = [.str x] ∧ x.length ≤ 500000 ∧ ∀ H', Same H H' → Q (.bl (isNm x)) H'
def spNameIn : Sp := fun vs H Q _ => ∃ x : Str, vs = [.str x] ∧ x.length ≤ 500000 ∧ ∀ H', Same H H' → Q (vO V.str (rdName x)) H'
def spPaperIn : Sp := fun vs H Q _ => ∃ x : Str, vs = [.str x, vi 60] ∧ x.length ≤ 500000 ∧ ∀ H', Same H H' → Q (vO V.str (rdPap x)) H'
def pw (x : Str) : Str := if x = "" then "-" else x
def spPaperWord : Sp := fun vs H Q _ => ∃ x : Str, vs = [.str x] ∧ Q (.str (pw x)) H
theorem flat_strs (l : List Str) : (l.map V.str).all flatV = true := List.all_eq_true.mpr fun y hy => by obtain ⟨n, _, rfl⟩ := List.mem_map.mp hy; rfl
theorem inV_strs' (x : Str) (ks : List Str) : inV (.str x) (ks.map V.str) = decide (x ∈ ks) := by
  unfold inV
  rw [List.any_map]
  by_cases h : x ∈ ks
  · rw [decide_eq_true h]
    refine List.any_eq_true.mpr ⟨x, h, ?_⟩
    simp [eqV]
  · rw [decide_eq_false h]
    rw [List.any_eq_false]
    intro y hy
    simp only [Function.comp, eqV]
    intro q
    have : y = x := by simpa using q
    exact h (this ▸ hy)
section
variable {P : Program} {w : World} {K : PySem.W.Frag} {mg : Str → Option Value} {base : Heap} {dD tN : Addr} {tk : Nat → Addr}
theorem ok_isName {f : Addr} {fd : FuncData} (F : Fun K "is_name" "is_name" sIsName f fd) (B : Bl mg) (N : G7 K w mg dD tN tk) (Ot : OText P w K mg base) : FnOk P w K mg base CX0 2 f fd ["thing"] spIsName := by
  refine F.ok scIsName (fun vs H Q E h => ?_) (fun cdv A outer s H vs Q E hr h => ?_)
  · obtain ⟨x, rfl, _⟩ := h
    rfl
  · obtain ⟨x, rfl, hl, k⟩ := h
    refine ⟨_, (pss_one (ps_ret (pe_and (pe_own Ot hr (pa_cons (pv 0) (pa_cons pe_int (pa_cons (pe_gI N.MOST_LETTERS) (pa_cons (pe_gS N.LETTERS) pa_nil))))) (pe_one (pe_cmpR op_notIn_seq (pv 0) (pe_gR N.NN) (by rfl)))))), ?_⟩
    try dsimp only [cxOf, Cx.nox, Cx.wish]
    walk_at "go"
    refine ⟨x, 1, 8, AZ, rfl, hl, fun H1 s1 => ?_⟩
    unfold isNm at k
    cases e : textB 1 8 AZ x with
    | false =>
      rw [e, Bool.false_and] at k
      walk_at "go"
      exact k _ s1
    | true =>
      rw [e, Bool.true_and] at k
      walk_at "go"
      exact ⟨tN, _, rfl, .inr (N.nn _), rfl, flat_strs _, k _ s1⟩
abbrev OIsName (P : Program) (w : World) (K : PySem.W.Frag) (mg : Str → Option Value) (base : Heap) : Prop := Own P w K mg base "is_name" 2 ["thing"] spIsName
theorem ok_nameIn {f : Addr} {fd : FuncData} (F : Fun K "name_in" "name_in" sNameIn f fd) (B : Bl mg) (On : OIsName P w K mg base) : FnOk P w K mg base CX0 3 f fd ["word"] spNameIn := by
  refine F.ok scNameIn (fun vs H Q E h => ?_) (fun cdv A outer s H vs Q E hr h => ?_)
  · obtain ⟨x, rfl, _⟩ := h
    rfl
  · obtain ⟨x, rfl, hl, k⟩ := h
    refine ⟨_, (pss_one (ps_ret (pe_ifExp (pt_val (pe_own On hr (pa_cons (pv 0) pa_nil))) (pv 0) pe_non))), ?_⟩
    try dsimp only [cxOf, Cx.nox, Cx.wish]
    walk_at "go"
    refine ⟨hl, fun H1 s1 => ?_⟩
    have k := k H1 s1
    unfold rdName at k
    cases e : isNm x with
    | false =>
      rw [e, if_neg Bool.false_ne_true] at k
      refine ⟨_, rfl, ?_⟩
      walk_at "go"
      exact k
    | true =>
      rw [e, if_pos rfl] at k
      refine ⟨_, rfl, ?_⟩
      walk_at "go"
      exact k
theorem ok_paperIn {f : Addr} {fd : FuncData} (F : Fun K "paper_in" "paper_in" sPaperIn f fd) (B : Bl mg) (N : G7 K w mg dD tN tk) (Oc : OCharsIn P w K mg base) : FnOk P w K mg base CX0 3 f fd ["word", "most"] spPaperIn := by
  refine F.ok scPaperIn (fun vs H Q E h => ?_) (fun cdv A outer s H vs Q E hr h => ?_)
  · obtain ⟨x, rfl, _⟩ := h
    rfl
  · obtain ⟨x, rfl, hl, k⟩ := h
    refine ⟨_, (pss_one (ps_ret (pe_ifExp (pt_cmpR op_eq (pv 0) (pe_gS N.EMPTY_PAPER) (nomark _)) pe_str (pe_own Oc hr (pa_cons (pv 0) (pa_cons pe_int (pa_cons (pv 1) pa_nil))))))), ?_⟩
    try dsimp only [cxOf, Cx.nox, Cx.wish]
    unfold rdPap at k
    walk_at "go"
    refine r_ite (fun h => ?_) (fun h => ?_)
    · have k := k H (Same.refl _)
      rw [if_pos (V.str.inj h)] at k
      walk_at "go"
      exact k
    · rw [if_neg (fun q => h (by rw [q]))] at k
      walk_at "go"
      refine ⟨x, 1, 60, rfl, hl, fun H1 s1 => ?_⟩
      have k := k H1 s1
      by_cases e : textB ((1 : Nat) : Int) ((60 : Nat) : Int) K4.ALL x = true
      · rw [if_pos e]
        have e' : textB 1 60 K4.ALL x = true := e
        rw [if_pos e'] at k
        exact k
      · rw [if_neg e]
        have e' : ¬ textB 1 60 K4.ALL x = true := e
        rw [if_neg e'] at k
        exact k
theorem ok_paperWord {f : Addr} {fd : FuncData} (F : Fun K "paper_word" "paper_word" sPaperWord f fd) (B : Bl mg) (N : G7 K w mg dD tN tk) : FnOk P w K mg base CX0 1 f fd ["paper"] spPaperWord := by
  refine F.ok scPaperWord (fun vs H Q E h => ?_) (fun cdv A outer s H vs Q E hr h => ?_)
  · obtain ⟨x, rfl, _⟩ := h
    rfl
  · obtain ⟨x, rfl, k⟩ := h
    refine ⟨_, (pss_one (ps_ret (pe_ifExp (pt_cmpR op_eq (pv 0) pe_str (nomark _)) (pe_gS N.EMPTY_PAPER) (pv 0)))), ?_⟩
    try dsimp only [cxOf, Cx.nox, Cx.wish]
    unfold pw at k
    walk_at "go"
    refine r_ite (fun h => ?_) (fun h => ?_)
    · rw [if_pos (V.str.inj h)] at k
      walk_at "go"
      exact k
    · rw [if_neg (fun q => h (by rw [q]))] at k
      walk_at "go"
      exact k
end
end K4

/-! N7 -/
/-! Deeds and their words, in pure. -/
namespace K4
open PySem L2 K1 PyProof.Rows
inductive Dv
  | name (x : Str) | many (n : Nat) | paper (x : Str) | rule (r : R)
def Dv.kd : Dv → Pk
  | .name _ => .name | .many _ => .many | .paper _ => .paper | .rule _ => .rule
def Dv.ok : Dv → Prop
  | .name x => isNm x = true
  | .many n => 1 ≤ n ∧ n ≤ 20
  | .paper x => x.length ≤ 60 ∧ ∀ c ∈ tl x, c ∈ tl K4.ALL
  | .rule r => r.ok ∧ r.parts ≤ 40
def Dv.word : Dv → Str
  | .name x => x | .many n => num n | .paper x => pw x | .rule r => r.text
def Dv.words : Dv → List Str
  | .name x => [x] | .many n => [num n] | .paper x => [pw x] | .rule r => r.words
def Dv.data (t : Bool) : Dv → PyData
  | .name x => .str x | .many n => pn n | .paper x => .str x | .rule r => r.data t
structure Deed where
  k : Nat
  ps : List Dv
structure Deed.ok (d : Deed) : Prop where
  lt : d.k < 7
  ks : d.ps.map Dv.kd = dk d.k
  ea : ∀ p ∈ d.ps, p.ok
def Deed.words (d : Deed) : List Str := dw d.k :: (d.ps.map Dv.words).flatten
def Deed.text (d : Deed) : Str := Txt.join SP (dw d.k :: d.ps.map Dv.word)
def Deed.data (t : Bool) (d : Deed) : PyData := sq t (.str (dw d.k) :: d.ps.map (Dv.data t))
theorem join_one (y x : Str) : Txt.join y [x] = x := str_ext (by rw [tl_joinL]; rfl)
theorem Dv.words_ne (p : Dv) : p.words ≠ [] := by cases p <;> first | exact R.words_ne _ | simp [Dv.words]
theorem Dv.word_eq (p : Dv) : p.word = Txt.join SP p.words := by
  cases p with
  | rule r => rfl
  | _ => exact (join_one _ _).symm
theorem join_flat : ∀ {ls : List (List Str)}, (∀ l ∈ ls, l ≠ []) → tl (Txt.join SP (ls.map (Txt.join SP))) = tl (Txt.join SP ls.flatten)
  | [], _ => rfl
  | [l], h => by
    rw [List.map_cons, List.map_nil, join_one, List.flatten_cons, List.flatten_nil, List.append_nil]
  | l :: m :: ls, h => by
    have e := join_flat (ls := m :: ls) fun x hx => h x (List.mem_cons_of_mem _ hx)
    have n1 : l ≠ [] := h l (List.mem_cons_self ..)
    have n2 : (m :: ls).flatten ≠ [] := by
      have := h m (List.mem_cons_of_mem _ (List.mem_cons_self ..))
      rw [List.flatten_cons]
      exact fun q => this (List.append_eq_nil_iff.mp q).1
    have a1 := join_app (s := SP) (xs := [Txt.join SP l]) (ys := (m :: ls).map (Txt.join SP)) (by simp) (by simp)
    have a2 := join_app (s := SP) (xs := l) (ys := (m :: ls).flatten) n1 n2
    rw [join_one, e] at a1
    rw [List.map_cons, List.flatten_cons, a2, ← a1]
    rfl
theorem Deed.text_eq (d : Deed) : d.text = Txt.join SP d.words := by
  refine str_ext ?_
  have e := join_flat (ls := [dw d.k] :: d.ps.map Dv.words) fun l hl => by
    rcases List.mem_cons.mp hl with rfl | hl
    · simp
    · obtain ⟨p, _, rfl⟩ := List.mem_map.mp hl
      exact p.words_ne
  rw [List.map_cons, join_one, List.map_map] at e
  have f : (Txt.join SP ∘ Dv.words) = Dv.word := funext fun p => (Dv.word_eq p).symm
  rw [f] at e
  exact e
/-! ### no blanks -/
theorem az_ge : ∀ c ∈ tl AZ, 97 ≤ c := by decide +kernel
theorem nm_text {x : Str} (h : isNm x = true) : 1 ≤ x.length ∧ x.length ≤ 8 ∧ (∀ c ∈ tl x, c ∈ tl AZ) ∧ isNo x = false := by
  unfold isNm at h
  rw [Bool.and_eq_true, textB_iff] at h
  obtain ⟨⟨a, b, c⟩, d⟩ := h
  exact ⟨by omega, by omega, c, by simpa using d⟩
theorem nm_of {x : Str} (h1 : 1 ≤ x.length) (h2 : x.length ≤ 8) (h3 : ∀ c ∈ tl x, c ∈ tl AZ) (h4 : isNo x = false) : isNm x = true := by
  unfold isNm
  rw [Bool.and_eq_true, textB_iff]
  exact ⟨⟨by omega, by omega, h3⟩, by rw [h4]; rfl⟩
theorem dw_ok : ∀ k < 7, 32 ∉ tl (dw k) ∧ (tl (dw k)).length ≤ 7 ∧ isNo (dw k) = true := by decide +kernel
theorem tl_minus : tl ("-" : Str) = [45] := by decide +kernel
theorem tl_emp : tl ("" : Str) = [] := by decide +kernel
theorem Dv.words_ok {p : Dv} (h : p.ok) : ∀ w ∈ p.words, 32 ∉ tl w ∧ (tl w).length ≤ 2500 := by
  cases p with
  | name x =>
    intro w hw
    obtain rfl := List.mem_singleton.mp hw
    obtain ⟨a, b, c, _⟩ := nm_text h
    exact ⟨fun q => by have := az_ge 32 (c 32 q); omega, by rw [← len_tl]; omega⟩
  | many n =>
    intro w hw
    obtain rfl := List.mem_singleton.mp hw
    have hn : n ≤ 60 := by have := h.2; omega
    exact ⟨num_no hn (by decide), by have := (num_ok hn).2.2.1; omega⟩
  | paper x =>
    intro w hw
    obtain rfl := List.mem_singleton.mp hw
    unfold pw
    split
    · rw [tl_minus]; exact ⟨by decide, by decide⟩
    · exact ⟨fun q => by have := all_ge 32 (h.2 32 q); omega, by rw [← len_tl]; have := h.1; omega⟩
  | rule r => exact fun w hw => R.words_ok h.1 w hw
theorem Deed.words_ok {d : Deed} (h : d.ok) : ∀ w ∈ d.words, 32 ∉ tl w ∧ (tl w).length ≤ 2500 := by
  intro w hw
  rcases List.mem_cons.mp hw with rfl | hw
  · have := dw_ok _ h.lt
    exact ⟨this.1, Nat.le_trans this.2.1 (by decide)⟩
  · obtain ⟨l, hl, hw⟩ := List.mem_flatten.mp hw
    obtain ⟨p, hp, rfl⟩ := List.mem_map.mp hl
    exact Dv.words_ok (h.ea p hp) w hw
theorem Deed.split {d : Deed} (h : d.ok) : Txt.split d.text SP = d.words := by
  rw [d.text_eq]
  exact spl_SP (by simp [Deed.words]) fun w q => (Deed.words_ok h w q).1
theorem dk_len (k : Nat) : (dk k).length ≤ 3 := by
  unfold dk
  split <;> decide
theorem Dv.len {p : Dv} (h : p.ok) : p.words.length ≤ 160 ∧ (p.kd ≠ .rule → p.words.length = 1) := by
  cases p with
  | rule r => exact ⟨by have := r.words_len; have := h.2; simp only [Dv.words]; omega, fun q => absurd rfl q⟩
  | _ => exact ⟨by simp [Dv.words], fun _ => rfl⟩
theorem Deed.words_len {d : Deed} (h : d.ok) : d.words.length ≤ 165 := by
  have hk := h.ks
  have one : ∀ p ∈ d.ps, p.kd ≠ .rule → p.words.length = 1 := fun p hp q => (Dv.len (h.ea p hp)).2 q
  have all : ∀ p ∈ d.ps, p.words.length ≤ 160 := fun p hp => (Dv.len (h.ea p hp)).1
  obtain ⟨k, ps⟩ := d
  dsimp only [Deed.words] at *
  rw [List.length_cons, List.length_flatten, List.map_map]
  have hl : ps.length = (dk k).length := by rw [← hk, List.length_map]
  match ps, hk with
  | [], _ => simp
  | [a], hk => have := all a (by simp); simp only [List.map_cons, List.map_nil, Function.comp, List.sum_cons, List.sum_nil]; omega
  | [a, b], hk =>
    have h1 := all b (by simp)
    have h2 : a.kd ≠ .rule := by
      intro q
      rw [List.map_cons, q] at hk
      unfold dk at hk
      split at hk <;> cases hk
    have h3 := one a (by simp) h2
    simp only [List.map_cons, List.map_nil, Function.comp, List.sum_cons, List.sum_nil]; omega
  | [a, b, c], hk =>
    have h2 : a.kd ≠ .rule ∧ b.kd ≠ .rule ∧ c.kd ≠ .rule := by
      unfold dk at hk
      split at hk <;> simp only [List.map_cons, List.map_nil, List.cons.injEq, reduceCtorEq, and_false, false_and] at hk
      obtain ⟨q1, q2, q3, _⟩ := hk
      rw [q1, q2, q3]
      exact ⟨(nomatch ·), (nomatch ·), (nomatch ·)⟩
    have h3 := one a (by simp) h2.1
    have h4 := one b (by simp) h2.2.1
    have h5 := one c (by simp) h2.2.2
    simp only [List.map_cons, List.map_nil, Function.comp, List.sum_cons, List.sum_nil]; omega
  | a :: b :: c :: e :: r, _ => have := dk_len k; simp only [List.length_cons] at hl; omega
theorem Deed.text_len {d : Deed} (h : d.ok) : d.text.length ≤ 412665 := by
  rw [d.text_eq, len_tl]
  have a := len_join (y := SP) (b := 2500) (ys := d.words) fun w q => (Deed.words_ok h w q).2
  rw [tl_SP] at a
  have b := Deed.words_len h
  have c : (tl (Txt.join SP d.words)).length ≤ d.words.length * (2500 + 1) := a
  omega
/-! ### reading -/
def rdOne {α : Type} (f : Str → Option α) (g : α → PyData) (ws : List Str) (z : Nat) : Out (PyData × Nat) := match ws[z]?.bind f with
  | none => .bad z
  | some a => .ok (g a, z + 1)
def rdPart : Pk → List Str → Nat → Out (PyData × Nat)
  | .name, ws, z => rdOne rdName PyData.str ws z
  | .many, ws, z => rdOne (rdNum 1 20) pn ws z
  | .paper, ws, z => rdOne rdPap PyData.str ws z
  | .rule, ws, z => match rdAllWs ws z with
    | .bad e => .bad e
    | .ok d => .ok (d, ws.length)
def rdParts : List Pk → List Str → Nat → Out (List PyData × Nat)
  | [], _, z => .ok ([], z)
  | k :: ks, ws, z => match rdPart k ws z with
    | .bad e => .bad e
    | .ok (d, z1) => match rdParts ks ws z1 with
      | .bad e => .bad e
      | .ok (ds, z2) => .ok (d :: ds, z2)
def dkOf (x : Str) : Option Nat := (List.range 7).find? fun k => decide (x = dw k)
theorem dw_inj : ∀ i < 7, ∀ j < 7, dw i = dw j → i = j := by decide +kernel
theorem dkOf_dw : ∀ {k : Nat}, k < 7 → dkOf (dw k) = some k := by
  have : ∀ k < 7, dkOf (dw k) = some k := by decide +kernel
  intro k hk
  exact this k hk
theorem dkOf_some {x : Str} {k : Nat} (h : dkOf x = some k) : k < 7 ∧ x = dw k := by
  have a := List.find?_some h
  have b := List.mem_of_find?_eq_some h
  exact ⟨List.mem_range.mp b, of_decide_eq_true a⟩
theorem dkOf_none {x : Str} (h : dkOf x = none) : ∀ k < 7, x ≠ dw k := fun k hk e => by
  rw [e, dkOf_dw hk] at h; cases h
def rdDeed (ws : List Str) : Out PyData := match ws[0]?.bind dkOf with
  | none => .bad 0
  | some k => match rdParts (dk k) ws 1 with
    | .bad e => .bad e
    | .ok (ds, z) => if z < ws.length then .bad z else .ok (.tuple (.str (dw k) :: ds))
/-- a line: a text, or none -/
def rdLine : Option Str → Out PyData
  | none => .bad 0
  | some x => rdDeed (Txt.split x SP)
/-- all lines: what is read, or the first bad line and its place -/
inductive Outs
  | bad (k z : Nat)
  | ok (ds : List PyData)
def rdLines : Nat → List (Option Str) → Outs
  | _, [] => .ok []
  | i, l :: ls => match rdLine l with
    | .bad z => .bad i z
    | .ok d => match rdLines (i + 1) ls with
      | .bad k z => .bad k z
      | .ok ds => .ok (d :: ds)
end K4

/-! W7d -/


namespace K4
open PySem L2 K1
abbrev sWTakeOne : Stmt := inClass (top 56) 3
abbrev nWTakeOne : List Str := ["self", "choices"]
theorem scWTakeOne : FnScope nWTakeOne ["self", "choices"] (defScope sWTakeOne) := ⟨rfl, rfl, rfl, by decide +kernel, rfl, by decide +kernel, by decide +kernel⟩
abbrev sWTakeName : Stmt := inClass (top 56) 4
abbrev nWTakeName : List Str := ["self"]
theorem scWTakeName : FnScope nWTakeName ["self"] (defScope sWTakeName) := ⟨rfl, rfl, rfl, by decide +kernel, rfl, by decide +kernel, by decide +kernel⟩
abbrev sWTakePaper : Stmt := inClass (top 56) 6
abbrev nWTakePaper : List Str := ["self", "most"]
theorem scWTakePaper : FnScope nWTakePaper ["self", "most"] (defScope sWTakePaper) := ⟨rfl, rfl, rfl, by decide +kernel, rfl, by decide +kernel, by decide +kernel⟩
abbrev sTakePart : Stmt := top 75
abbrev nTakePart : List Str := ["words", "kind"]
theorem scTakePart : FnScope nTakePart ["words", "kind"] (defScope sTakePart) := ⟨rfl, rfl, rfl, by decide +kernel, rfl, by decide +kernel, by decide +kernel⟩
variable {j : Ln}
def spTakeOne (j : Ln) (C CL : Addr) : Sp := fun vs H Q E => ∃ (p L : Addr) (ws ks : List Str) (z : Nat), vs = [.ref p, .ref L] ∧ WordsAt j C H p ws z ∧ H L = some (.lst (ks.map V.str)) ∧ (match ws[z]? with
  | none => BadE j CL p H E z
  | some x => if x ∈ ks then ∀ H', WordsAt j C H' p ws (z + 1) → Off p H H' → Q (.str x) H' else BadE j CL p H E z)
def spTakeName (j : Ln) (C CL : Addr) : Sp := fun vs H Q E => ∃ (p : Addr) (ws : List Str) (z : Nat), vs = [.ref p] ∧ WordsAt j C H p ws z ∧ (match ws[z]?.bind rdName with
  | none => BadE j CL p H E z
  | some n => ∀ H', WordsAt j C H' p ws (z + 1) → Kp p H H' → Q (.str n) H')
def spTakePaper (j : Ln) (C CL : Addr) : Sp := fun vs H Q E => ∃ (p : Addr) (ws : List Str) (z : Nat), vs = [.ref p, vi 60] ∧ WordsAt j C H p ws z ∧ (match ws[z]?.bind rdPap with
  | none => BadE j CL p H E z
  | some n => ∀ H', WordsAt j C H' p ws (z + 1) → Kp p H H' → Q (.str n) H')
def spTakePart (j : Ln) (K : PySem.W.Frag) (C CL : Addr) : Sp := fun vs H Q E => ∃ (p : Addr) (ws : List Str) (z : Nat) (pk : Pk), vs = [.ref p, .str pk.nm] ∧ WordsAt j C H p ws z ∧ (match rdPart pk ws z with
  | .bad e => BadE j CL p H E e
  | .ok (d, z') => ∀ H' v, WordsAt j C H' p ws z' → Kp p H H' → Dp K H' v d → Q v H')
section
variable {P : Program} {w : World} {K : PySem.W.Frag} {mg : Str → Option Value} {base : Heap} {dO dI C CL dD tN : Addr} {tk : Nat → Addr}
abbrev ONameIn (P : Program) (w : World) (K : PySem.W.Frag) (mg : Str → Option Value) (base : Heap) : Prop := Own P w K mg base "name_in" 3 ["word"] spNameIn
abbrev OPaperIn (P : Program) (w : World) (K : PySem.W.Frag) (mg : Str → Option Value) (base : Heap) : Prop := Own P w K mg base "paper_in" 3 ["word", "most"] spPaperIn
theorem ok_wTakeOne {f fT fH CL : Addr} {fd fdT fdH : FuncData} (F : Fun K "take_one_of" "Words.take_one_of" sWTakeOne f fd) (B : Bl mg) (T : TW K mg C)
    (GT : FnOk P w K mg base (L2N.CX P w) 3 fT fdT ["self", "worth"] (spTaken j C CL)) (mT : Meth K C "taken" fT) (bT : Binds K fdT ["self", "worth"] []) (GH : FnOk P w K mg base (L2N.CX P w) 3 fH fdH ["self"] (spHere j C CL)) (mH : Meth K C "here" fH) (bH : Binds K fdH ["self"] []) :
    FnOk P w K mg base (L2N.CX P w) 4 f fd ["self", "choices"] (spTakeOne j C CL) := by
  refine okXN F scWTakeOne (fun vs H Q E h => ?_) (fun cdv A outer s H vs Q E hr h => ?_)
  · obtain ⟨p, L, ws, ks, z, rfl, _⟩ := h
    rfl
  · obtain ⟨p, L, ws, ks, z, rfl, hW, hL, k⟩ := h
    refine ⟨_, (pss_one (ps_ret (pe_meth (pv 0) T.cl mT GT (hr.mono (by omega)) bT .nil (L2N.passes_call (E := E) (L2N.takes_of rfl rfl rfl rfl) (fun _ _ _ _ h => h)) (pa_cons (pe_ifExp (pt_cmpR op_in_seq (pe_meth0 (pv 0) T.cl mH GH (hr.mono (by omega)) bH .nil (L2N.passes_call (E := E) (L2N.takes_of rfl rfl rfl rfl) (fun _ _ _ _ h => h))) (pv 1) (by rfl)) (pe_meth0 (pv 0) T.cl mH GH (hr.mono (by omega)) bH .nil (L2N.passes_call (E := E) (L2N.takes_of rfl rfl rfl rfl) (fun _ _ _ _ h => h))) pe_non) pa_nil)))), ?_⟩
    try dsimp only [cxOf, Cx.nox, Cx.wish]
    walk_at "go"
    refine r_mW hW noT ?_
    walk_at "go"
    refine r_mW hW noH ?_
    walk_at "go"
    refine ⟨p, ws, z, rfl, hW, ?_⟩
    cases hx : ws[z]? with
    | none =>
      rw [hx] at k
      exact k
    | some x =>
      rw [hx] at k
      have hzl := (List.getElem?_eq_some_iff.mp hx).1
      walk_at "go"
      refine ⟨L, _, rfl, .inl (SqL.of hL), rfl, flat_strs _, ?_⟩
      dsimp only
      rw [if_neg Bool.false_ne_true, inV_strs']
      dsimp only at k
      by_cases hk : x ∈ ks
      · rw [if_pos hk] at k
        rw [decide_eq_true hk]
        walk_at "go"
        refine r_mW hW noH ?_
        walk_at "go"
        refine ⟨p, ws, z, rfl, hW, ?_⟩
        rw [hx]
        walk_at "go"
        exact ⟨p, ws, z, .str x, rfl, hW, .inr ⟨(fun q => nomatch q), hzl, fun H' w' o' => k H' w' o'⟩⟩
      · rw [if_neg hk] at k
        rw [decide_eq_false hk]
        walk_at "go"
        exact ⟨p, ws, z, .non, rfl, hW, .inl ⟨rfl, k⟩⟩
theorem ok_wTakeName {f fT fH CL : Addr} {fd fdT fdH : FuncData} (F : Fun K "take_name" "Words.take_name" sWTakeName f fd) (B : Bl mg) (T : TW K mg C) (Oni : ONameIn P w K mg base)
    (GT : FnOk P w K mg base (L2N.CX P w) 3 fT fdT ["self", "worth"] (spTaken j C CL)) (mT : Meth K C "taken" fT) (bT : Binds K fdT ["self", "worth"] []) (GH : FnOk P w K mg base (L2N.CX P w) 3 fH fdH ["self"] (spHere j C CL)) (mH : Meth K C "here" fH) (bH : Binds K fdH ["self"] []) :
    FnOk P w K mg base (L2N.CX P w) 4 f fd ["self"] (spTakeName j C CL) := by
  refine okXN F scWTakeName (fun vs H Q E h => ?_) (fun cdv A outer s H vs Q E hr h => ?_)
  · obtain ⟨p, ws, z, rfl, _⟩ := h
    rfl
  · obtain ⟨p, ws, z, rfl, hW, k⟩ := h
    refine ⟨_, (pss_one (ps_ret (pe_meth (pv 0) T.cl mT GT (hr.mono (by omega)) bT .nil (L2N.passes_call (E := E) (L2N.takes_of rfl rfl rfl rfl) (fun _ _ _ _ h => h)) (pa_cons (pe_own Oni hr (pa_cons (pe_meth0 (pv 0) T.cl mH GH (hr.mono (by omega)) bH .nil (L2N.passes_call (E := E) (L2N.takes_of rfl rfl rfl rfl) (fun _ _ _ _ h => h))) pa_nil)) pa_nil)))), ?_⟩
    try dsimp only [cxOf, Cx.nox, Cx.wish]
    walk_at "go"
    refine r_mW hW noT ?_
    walk_at "go"
    refine r_mW hW noH ?_
    walk_at "go"
    refine ⟨p, ws, z, rfl, hW, ?_⟩
    cases hx : ws[z]? with
    | none =>
      rw [hx] at k
      exact k
    | some x =>
      rw [hx] at k
      have hzl := (List.getElem?_eq_some_iff.mp hx).1
      walk_at "go"
      refine ⟨hW.ok.ea x (List.mem_of_getElem? hx), fun H1 s1 => ?_⟩
      walk_at "go"
      refine ⟨p, ws, z, _, rfl, hW.same s1, ?_⟩
      change match rdName x with | none => _ | some n => _ at k
      cases e : rdName x with
      | none =>
        rw [e] at k
        exact .inl ⟨rfl, k.mono (Same.kp s1)⟩
      | some n =>
        rw [e] at k
        exact .inr ⟨(fun q => nomatch q), hzl, fun H2 w2 o2 => k H2 w2 ((Same.kp s1).trans o2.kp)⟩
theorem ok_wTakePaper {f fT fH CL : Addr} {fd fdT fdH : FuncData} (F : Fun K "take_paper" "Words.take_paper" sWTakePaper f fd) (B : Bl mg) (T : TW K mg C) (Opi : OPaperIn P w K mg base)
    (GT : FnOk P w K mg base (L2N.CX P w) 3 fT fdT ["self", "worth"] (spTaken j C CL)) (mT : Meth K C "taken" fT) (bT : Binds K fdT ["self", "worth"] []) (GH : FnOk P w K mg base (L2N.CX P w) 3 fH fdH ["self"] (spHere j C CL)) (mH : Meth K C "here" fH) (bH : Binds K fdH ["self"] []) :
    FnOk P w K mg base (L2N.CX P w) 4 f fd ["self", "most"] (spTakePaper j C CL) := by
  refine okXN F scWTakePaper (fun vs H Q E h => ?_) (fun cdv A outer s H vs Q E hr h => ?_)
  · obtain ⟨p, ws, z, rfl, _⟩ := h
    rfl
  · obtain ⟨p, ws, z, rfl, hW, k⟩ := h
    refine ⟨_, (pss_one (ps_ret (pe_meth (pv 0) T.cl mT GT (hr.mono (by omega)) bT .nil (L2N.passes_call (E := E) (L2N.takes_of rfl rfl rfl rfl) (fun _ _ _ _ h => h)) (pa_cons (pe_own Opi hr (pa_cons (pe_meth0 (pv 0) T.cl mH GH (hr.mono (by omega)) bH .nil (L2N.passes_call (E := E) (L2N.takes_of rfl rfl rfl rfl) (fun _ _ _ _ h => h))) (pa_cons (pv 1) pa_nil))) pa_nil)))), ?_⟩
    try dsimp only [cxOf, Cx.nox, Cx.wish]
    walk_at "go"
    refine r_mW hW noT ?_
    walk_at "go"
    refine r_mW hW noH ?_
    walk_at "go"
    refine ⟨p, ws, z, rfl, hW, ?_⟩
    cases hx : ws[z]? with
    | none =>
      rw [hx] at k
      exact k
    | some x =>
      rw [hx] at k
      have hzl := (List.getElem?_eq_some_iff.mp hx).1
      walk_at "go"
      refine ⟨hW.ok.ea x (List.mem_of_getElem? hx), fun H1 s1 => ?_⟩
      walk_at "go"
      refine ⟨p, ws, z, _, rfl, hW.same s1, ?_⟩
      change match rdPap x with | none => _ | some n => _ at k
      cases e : rdPap x with
      | none =>
        rw [e] at k
        exact .inl ⟨rfl, k.mono (Same.kp s1)⟩
      | some n =>
        rw [e] at k
        exact .inr ⟨(fun q => nomatch q), hzl, fun H2 w2 o2 => k H2 w2 ((Same.kp s1).trans o2.kp)⟩
theorem noN : NoF "take_name" := ⟨by decide +kernel, by decide +kernel, by decide +kernel⟩
theorem noP : NoF "take_paper" := ⟨by decide +kernel, by decide +kernel, by decide +kernel⟩
theorem no1 : NoF "take_one_of" := ⟨by decide +kernel, by decide +kernel, by decide +kernel⟩
theorem pk_ne {pk : Pk} {x : Str} (h : V.str pk.nm = V.str x) : pk.nm = x := V.str.inj h
theorem ok_takePart {f fN fI fP CL : Addr} {fd fdN fdI fdP : FuncData} (F : Fun K "take_part" "take_part" sTakePart f fd) (B : Bl mg) (T : TW K mg C) (N : G7 K w mg dD tN tk)
    (GN : FnOk P w K mg base (L2N.CX P w) 4 fN fdN ["self"] (spTakeName j C CL)) (mN : Meth K C "take_name" fN) (bN : Binds K fdN ["self"] [])
    (GI : FnOk P w K mg base (L2N.CX P w) 4 fI fdI ["self", "least", "most"] (spTakeInt j C CL)) (mI : Meth K C "take_integer" fI) (bI : Binds K fdI ["self", "least", "most"] [])
    (GP : FnOk P w K mg base (L2N.CX P w) 4 fP fdP ["self", "most"] (spTakePaper j C CL)) (mP : Meth K C "take_paper" fP) (bP : Binds K fdP ["self", "most"] [])
    (Otl : OTakeLast j C CL P w K mg base) : FnOk P w K mg base (L2N.CX P w) 49 f fd ["words", "kind"] (spTakePart j K C CL) := by
  refine okXN F scTakePart (fun vs H Q E h => ?_) (fun cdv A outer s H vs Q E hr h => ?_)
  · obtain ⟨p, ws, z, pk, rfl, _⟩ := h
    rfl
  · obtain ⟨p, ws, z, pk, rfl, hW, k⟩ := h
    refine ⟨_, (pss_cons (ps_if (pt_cmpR op_eq (pv 1) pe_str (nomark _)) (pss_one (ps_ret (pe_meth0 (pv 0) T.cl mN GN (hr.mono (by omega)) bN .nil (L2N.passes_call (E := E) (L2N.takes_of rfl rfl rfl rfl) (fun _ _ _ _ h => h))))) pss_nil) (pss_cons (ps_if (pt_cmpR op_eq (pv 1) pe_str (nomark _)) (pss_one (ps_ret (pe_meth (pv 0) T.cl mI GI (hr.mono (by omega)) bI .nil (L2N.passes_call (E := E) (L2N.takes_of rfl rfl rfl rfl) (fun _ _ _ _ h => h)) (pa_cons pe_int (pa_cons (pe_gI N.MOST_MANY) pa_nil))))) pss_nil) (pss_cons (ps_if (pt_cmpR op_eq (pv 1) pe_str (nomark _)) (pss_one (ps_ret (pe_meth (pv 0) T.cl mP GP (hr.mono (by omega)) bP .nil (L2N.passes_call (E := E) (L2N.takes_of rfl rfl rfl rfl) (fun _ _ _ _ h => h)) (pa_cons (pe_gI N.MOST_SIGNS) pa_nil)))) pss_nil) (pss_one (ps_ret (pe_ownX Otl hr (L2N.passes_call (E := E) (L2N.takes_of rfl rfl rfl rfl) (fun _ _ _ _ h => h)) (pa_cons (pv 0) pa_nil))))))), ?_⟩
    try dsimp only [cxOf, Cx.nox, Cx.wish]
    walk_at "go"
    refine r_ite (fun h => ?_) (fun h1 => ?_)
    · obtain rfl : pk = .name := by cases pk <;> first | rfl | (exact absurd h (by simp only [Pk.nm]; decide +kernel))
      walk_at "go"
      refine r_mW hW noN ?_
      walk_at "go"
      refine ⟨p, ws, z, rfl, hW, ?_⟩
      simp only [rdPart, rdOne] at k
      cases e : ws[z]?.bind rdName with
      | none => rw [e] at k; exact k
      | some n => rw [e] at k; exact fun H' w1 k1 => k H' _ w1 k1 (.str n)
    walk_at "go"
    refine r_ite (fun h => ?_) (fun h2 => ?_)
    · obtain rfl : pk = .many := by cases pk <;> first | rfl | (exact absurd h (by simp only [Pk.nm]; decide +kernel))
      walk_at "go"
      refine r_mW hW noI ?_
      walk_at "go"
      refine ⟨p, ws, z, 1, 20, rfl, hW, by decide, ?_⟩
      simp only [rdPart, rdOne] at k
      cases e : ws[z]?.bind (rdNum 1 20) with
      | none => rw [e] at k; exact k
      | some n => rw [e] at k; exact fun H' w1 k1 => k H' _ w1 k1 (.int _)
    walk_at "go"
    refine r_ite (fun h => ?_) (fun h3 => ?_)
    · obtain rfl : pk = .paper := by cases pk <;> first | rfl | (exact absurd h (by simp only [Pk.nm]; decide +kernel))
      walk_at "go"
      refine r_mW hW noP ?_
      walk_at "go"
      refine ⟨p, ws, z, rfl, hW, ?_⟩
      simp only [rdPart, rdOne] at k
      cases e : ws[z]?.bind rdPap with
      | none => rw [e] at k; exact k
      | some n => rw [e] at k; exact fun H' w1 k1 => k H' _ w1 k1 (.str n)
    · obtain rfl : pk = .rule := by
        cases pk with
        | rule => rfl
        | name => exact absurd rfl h1
        | many => exact absurd rfl h2
        | paper => exact absurd rfl h3
      walk_at "go"
      refine ⟨p, ws, z, rfl, hW, ?_⟩
      simp only [rdPart] at k
      cases e : rdAllWs ws z with
      | bad q => rw [e] at k; exact k
      | ok d => rw [e] at k; exact fun H' t w1 k1 d1 => k H' _ w1 k1 d1
end
end K4

/-! R1 -/
/-! A comprehension whose step may raise: what the block leaves where an error goes through it. -/
namespace K4
open PySem L2 PySem.Spec PyProof.Rows
/-- the block's end; an error goes on with the block's own env -/
def endX (M : Model) (A : Around) (E : Value → Shared → Prop) (Q : Value → Shared → Prop) (acc : Value) (ce : Env) (r : Result) (z : Shared) : Prop :=
  match r with
  | .ok _ => ∃ m, z.heap.Ns ce.locals m ∧ ∀ g, Heap.SameBut ce.locals z.heap g → Q acc { z with heap := g }
  | .error x => ∃ m, z.heap.Ns ce.locals m ∧ ∀ g, Heap.SameBut ce.locals z.heap g → wpAny M A (passOn "comprehension.variables-let-go" x ce : Sem Value) (fun _ _ => False) E { z with heap := g }
theorem comp_free {M : Model} {A : Around} {E : Value → Shared → Prop} {s : Shared} {env : Env} {e : Expr} {sco : Scope} {pos : Pos} {fresh begin_ : Sem Value} {c0 : Comprehension} {cs : List Comprehension} {clo : List (Str × Addr)} {Q : Value → Shared → Prop}
    (e1 : clausesOf e = c0 :: cs) (e2 : ∀ x, foldedSetIterable c0.iter env x = Pure.pure x) (e3 : closureFor sco env = Pure.pure clo) (fk : sco.kind = .function) (uq : ∀ x ∈ sco.names, x.2 = .local → sco.names.lookup x.1 = some .local)
    (road : wpAny M A begin_ (fun x z1 => wpAny M A (pyIter x) (fun it z2 => wpAny M A fresh (fun acc z3 => wpAny M A (newFunctionEnv sco env.globals clo [] env.qual none .none (some env))
      (fun ce z4 => codeAny M A (.compStart e 0 it acc { ce with scope := relabel sco env }) (endX M A E Q acc { ce with scope := relabel sco env }) z4) E z3) E z2) E z1) E s) :
    wpAny M A (comprehension e sco env pos fresh false begin_ none) Q E s := by
  unfold comprehension
  rw [e3, e1]
  have pass : ∀ {α : Type} {t : Sem α} {P P' : α → Shared → Prop} {z : Shared}, wpAny M A t P E z → (∀ a y, P a y → P' a y) → wpAny M A t P' E z := fun a b => wpAny_mono a b fun _ _ w => w
  refine wpAny_bind (pass road fun x z1 r1 => ?_)
  refine wpAny_bind (wpAny_standAt (wpAny_bind (wpAny_of_eq (e2 x) (wpAny_bind (wpAny_holding (pass r1 fun it z2 r2 => ?_))))))
  refine wpAny_standIf (wpAny_bind (pass r2 fun acc z3 r3 => ?_))
  refine wpAny_bind (wpAny_pure (wpAny_bind (pass r3 fun ce z4 r4 => ?_)))
  dsimp only
  have own : ∀ x ∈ (sco.names.filter fun x => (x.2 == .local || x.2 == .cell) && x.1 != (".0" : Str)).reverse, x.2 = .local → Env.kindOf { ce with scope := relabel sco env } x.1 = some .local := by
    intro x hx hl
    exact lookup_relabel_local (uq x (List.mem_filter.mp (List.mem_reverse.mp hx)).1 hl)
  refine wpAny_holding (wpAny_bind (wpAny_attempt (wpAny_holding (wpAny_run (codeAny_mono r4 fun r z5 r5 => ?_)))))
  cases r with
  | ok f =>
    obtain ⟨m, n5, k5⟩ := r5
    exact wpAny_bind (wpAny_holding (wpAny_comp_letGo (cenv := { ce with scope := relabel sco env }) fk _ z5 m own n5 fun g _ _ sb => wpAny_pure (k5 g sb)))
  | error x =>
    obtain ⟨m, n5, k5⟩ := r5
    exact wpAny_bind (wpAny_holding (wpAny_comp_letGo (cenv := { ce with scope := relabel sco env }) fk _ z5 m own n5 fun g _ _ sb => wpAny_mono (k5 g sb) (fun _ _ w => w.elim) fun _ _ w => w))
end K4

/-! R2 -/
/-! An error of a call goes through a comprehension's block: noted at the def's frame, the block's names gone. -/
namespace K4
open PySem L2 PySem.Spec PyProof.Rows
theorem frames_but {h g B B' : Heap} {C : Addr} (same : ∀ b, b ≠ C → g.get? b = h.get? b) (bs : ∀ b, b ≠ C → B'.get? b = B.get? b) (inB : ∃ o, B.get? C = some o) : ∀ {l : List Env}, h.FunFrames B l → g.FunFrames B' l
  | [], _ => trivial
  | v :: l, q => by
    obtain ⟨k, ⟨L, o, f, n, e, d⟩, r⟩ := q
    have ne : L ≠ C := fun w => by obtain ⟨o', e'⟩ := inB; rw [w, e'] at n; cases n
    exact ⟨k, ⟨L, o, f, by rw [bs L ne]; exact n, by rw [same L ne]; exact e, d⟩, frames_but same bs inB r⟩
theorem note_end {X : Cx} {ce : Env} {a : Addr} {B : Heap} {cls : Value} {d : Option Addr} {z : Shared} {Q : Value → Shared → Prop} {acc : Value} (frm : X.env.frame = some X.env.locals) (fr0 : X.A.frames = some (X.env :: X.outer)) (cf : ce.frame = X.env.frame)
    (fly : HandSPX.FlyingZ B (X.env :: X.outer) a (L2N.Zn cls d) z.heap) (inB : ∃ o, B.get? ce.locals = some o) (ns : ∃ m, z.heap.Ns ce.locals m)
    (fin : ∀ (g B' : Heap), (∀ b, b ≠ ce.locals → B'.get? b = B.get? b) → B'.get? ce.locals = none → HandSPX.HeldZ B' (X.env :: X.outer) a (L2N.Zn cls d) X.env.locals g →
      (∀ b o, b ≠ ce.locals → z.heap.get? b = some o → (∀ vs, o.data ≠ .fields vs) → ∃ sl, g.get? b = some { o with slots := sl }) → X.xe (.ref a) { z with heap := g }) :
    notedBy (model X.prog X.w) X.A ce (fun x y => endX (model X.prog X.w) X.A X.xe Q acc ce (.error x) y) (.ref a) z := by
  show wpAny (model X.prog X.w) X.A (noteFrame (.ref a) ce) (fun _ y => endX (model X.prog X.w) X.A X.xe Q acc ce (.error (.ref a)) y) _ z
  have same : noteFrame (.ref a) ce = noteFrame (.ref a) X.env := by unfold noteFrame PySem.frameOf; rw [cf]
  rw [same]
  refine PXN.looks_onZ L2N.Zn.steady fr0 frm fly fun h1 held up => ?_
  obtain ⟨m, o, es, ep, e0, ed, sk, nf⟩ := ns
  obtain ⟨sl, e1⟩ := up ce.locals o e0 fun vs w => by rw [ed] at w; cases w
  refine ⟨m, ⟨_, es, ep, e1, ed, sk, nf⟩, fun g sb => ?_⟩
  obtain ⟨b1, b2, b3, oe, vs, T, oT, ts, he, hz, hd, h1T, nT, Tne, hT, hdT, h3⟩ := held
  obtain ⟨oC, eC⟩ := inB
  have aC : a ≠ ce.locals := fun w => by rw [w, eC] at b2; cases b2
  have TC : T ≠ ce.locals := fun w => by rw [w, eC] at nT; cases nT
  obtain ⟨B', p1, p2⟩ := restrict B fun b => decide (b ≠ ce.locals)
  have pB : ∀ b, b ≠ ce.locals → B'.get? b = B.get? b := fun b n => p1 b (decide_eq_true n)
  have pC : B'.get? ce.locals = none := p2 _ (by simp)
  have heg : g.get? a = some oe := by rw [sb.2 a aC]; exact he
  unfold PySem.passOn
  refine wpAny_bind (wpAny_field heg hd h1T ?_)
  rw [if_neg (show ¬ ((Value.ref T == Value.none) = true) from by simp)]
  have go : wpAny (model X.prog X.w) X.A (setFlight (.ref a) ce.frame) (fun _ y => wpAny (model X.prog X.w) X.A (throw (.ref a) : Sem Value) (fun _ _ => False) X.xe y) X.xe { z with heap := g } := by
    refine HandSPX.setFlight_anyZ (base := B') (Z := L2N.Zn cls d) (l := X.env :: X.outer) (fun b ob q => ?_) (frames_but sb.2 pB ⟨oC, eC⟩ b3) ⟨oe, vs, T, oT, ts, heg, hz, hd, h1T, by rw [pB T TC]; exact nT, Tne, by rw [sb.2 T TC]; exact hT, hdT, h3⟩ fun g2 k1 k2 k3 k4 => wpAny_throw ?_
    · have n : b ≠ ce.locals := fun w => by rw [w, pC] at q; cases q
      show g.get? b = some ob
      rw [sb.2 b n]
      exact b1 b ob (by rw [← pB b n]; exact q)
    · rw [cf, frm] at k3
      refine fin g2 B' pB pC ⟨k1, by rw [pB a aC]; exact b2, k2, k3⟩ fun b ob n q nv => ?_
      obtain ⟨s1, q1⟩ := up b ob q nv
      have q2 : g.get? b = some { ob with slots := s1 } := by rw [sb.2 b n]; exact q1
      obtain ⟨s2, q3⟩ := k4 b { ob with slots := s1 } q2 nv
      exact ⟨s2, q3⟩
  first
    | exact wpAny_bind (wpAny_pure (wpAny_bind go))
    | exact wpAny_bind go
end K4

/-! R3 -/
/-! A call's error in a comprehension's block is an error in the air of the def. -/
namespace K4
open PySem L2 PySem.Spec PyProof.Rows
theorem thru {X : Cx} {W : WX} {pins : List (Addr × Obj)} {σ : L2.St} {H3 H1 : Hp} {s3 s1 z : Shared} {fp : List Addr} {ce : Env} {E : XK} {u : Value} {Q : Value → Shared → Prop} {acc : Value}
    (tk : L2N.Takes X W) (stk : X.stack = X.env :: X.outer) (frm : X.env.frame = some X.env.locals) (cf : ce.frame = X.env.frame) (I3 : L2.Inv X pins σ H3 s3) (ffp : ∀ b ∈ fp, FpOk X pins H3 b)
    (bb : Un (frs X.stack) fp H3 H1 s3.heap s1.heap) (os1 : s1.os = s3.os) (new : s3.heap.objs.size ≤ ce.locals) (nsC : ∃ m, s1.heap.Ns ce.locals m) (nH : H1 ce.locals = none) (nF : ce.locals ∉ frs X.stack)
    (c : L2N.CX X.prog X.w X.stack H1 s1 E u z) (hW : ∀ cls d H', E cls d H' → W cls d σ H') :
    notedBy (model X.prog X.w) X.A ce (fun x y => endX (model X.prog X.w) X.A X.xe Q acc ce (.error x) y) u z := by
  obtain ⟨a, B, H', cls, d, rfl, fl, hok, ub, na, os, ag, hE⟩ := c
  have fr0 : X.A.frames = some (X.env :: X.outer) := by rw [I3.ok.frames, stk]
  obtain ⟨m, oC, es, ep, eC, dC, sk, nf⟩ := nsC
  have BC := ub.keep _ _ eC nH nF
  have HC : H' ce.locals = none := ub.free _ _ eC nH
  have old : ∀ {b o}, s3.heap.get? b = some o → b ≠ ce.locals := fun e => Nat.ne_of_lt (Nat.lt_of_lt_of_le (Heap.lt_size e) new)
  have fl' : HandSPX.FlyingZ B (X.env :: X.outer) a (L2N.Zn cls d) z.heap := by rw [← stk]; exact fl
  refine note_end frm fr0 cf fl' ⟨_, BC⟩ ⟨m, oC, es, ep, fl.1 _ _ BC, dC, sk, nf⟩ fun g B' pB pC held gz => ?_
  obtain ⟨G, g1, g2⟩ := restrict g fun b => (B'.get? b).isSome || decide (b ∈ frs X.stack)
  have inB : ∀ {b o}, B'.get? b = some o → G.get? b = some o := fun {b o} e => by rw [g1 b (by simp [e])]; exact held.1 b o e
  have inF : ∀ {b}, b ∈ frs X.stack → G.get? b = g.get? b := fun {b} hb => g1 b (by simp [hb])
  have out : ∀ {b o}, G.get? b = some o → g.get? b = some o ∧ ((B'.get? b).isSome = true ∨ b ∈ frs X.stack) := fun {b o} e => by
    cases q : ((B'.get? b).isSome || decide (b ∈ frs X.stack)) with
    | false => rw [g2 b q] at e; cases e
    | true =>
      rw [g1 b q] at e
      exact ⟨e, by simpa [Bool.or_eq_true] using q⟩
  have frame : ∀ {b}, b ∈ frs X.stack → ∃ o, z.heap.get? b = some o ∧ (∀ vs, o.data ≠ .fields vs) ∧ b ≠ ce.locals := fun {b} hb => by
    obtain ⟨n, o, e, k⟩ := fl.2.2.1.mem hb
    exact ⟨o, e, k, fun w => by rw [w, BC] at n; cases n⟩
  have un : Un (frs X.stack) fp H3 H' s3.heap G := by
    refine ⟨fun b o e n hf hx => ?_, fun b o e n hf hx => ?_, fun b o e n hx => ?_, fun b o e hx => ?_, fun b xs e => ub.tups b xs (bb.tups b xs e), fun b o v e => ub.frzs b o v (bb.frzs b o v e), fun b ps e => ?_⟩
    · have q := ub.keep b o (bb.keep b o e n hf hx) (bb.free b o e n hx) hf
      exact inB (by rw [pB b (old e)]; exact q)
    · obtain ⟨l1, e1⟩ := bb.slot b o e n hf hx
      obtain ⟨l2, e2⟩ := ub.slot b _ e1 hf
      obtain ⟨o', e', k, ne⟩ := frame hf
      rw [e2] at e'
      obtain rfl := Option.some.inj e'
      obtain ⟨l3, e3⟩ := gz b _ ne e2 k
      exact ⟨l3, by rw [inF hf]; exact e3⟩
    · obtain ⟨o', e'⟩ := bb.there b o e hx
      exact ub.free b o' e' (bb.free b o e n hx)
    · obtain ⟨o1, e1⟩ := bb.there b o e hx
      by_cases hf : b ∈ frs X.stack
      · obtain ⟨o', e', k, ne⟩ := frame hf
        obtain ⟨l3, e3⟩ := gz b _ ne e' k
        exact ⟨_, by rw [inF hf]; exact e3⟩
      · obtain ⟨o', e'⟩ := ub.there b o1 e1 hf
        exact ⟨o', inB (by rw [pB b (old e)]; exact e')⟩
    · obtain ⟨m1, e1⟩ := bb.tbls b ps e
      obtain ⟨m2, e2⟩ := ub.tbls b _ e1
      exact ⟨m1 ++ m2, by rw [e2, Array.append_assoc]⟩
  have hokG : HOk X.prog X.w H' G := fun b o e => by
    refine (hok b o e).stay (fun c v hc hv => ?_) (fun _ q => q) (fun _ _ q => q)
    have ne : c ≠ ce.locals := fun w => by
      rcases hc with rfl | hc
      · rw [w, HC] at e; cases e
      · rw [w, HC] at hc; cases hc
    exact inB (by rw [pB c ne]; exact hv)
  have inv : L2.Inv X pins σ H' { s3 with heap := G, gens := z.gens, drawn := z.drawn, toks := z.toks } := I3.call' (ch := fp) rfl un hokG ag fun b hb => by
    obtain ⟨f0, f1, f2, f3, f4, f5⟩ := ffp b hb
    exact ⟨f3, f1, f4, f5⟩
  refine tk _ _ ⟨a, B', _, pins, σ, H', cls, d, rfl, inv, fun b o e hf => ?_, Heap.UpToSlots.of_keeps fun b o e => (out e).1, .inr (.inr (by rw [stk]; exact held)), na, os.trans os1, ag, hW _ _ _ hE⟩
  obtain ⟨e1, h1 | h1⟩ := out e
  · obtain ⟨o', e'⟩ := Option.isSome_iff_exists.mp h1
    have q := held.1 b o' e'
    rw [e1] at q
    obtain rfl := Option.some.inj q
    exact e'
  · exact absurd h1 hf
end K4

/-! R4 -/
/-! A list comprehension whose step may let a call's error out. -/
namespace K4
open PySem L2 PySem.Spec PyProof.Rows
/-- the block, its step's errors taken by xe -/
abbrev blkX (X : Cx) (s : Shared) (H : Hp) (sco : Scope) (ce : Env) (fp : List Addr) (xe : Value → Shared → Prop) : Cx := { X.blk s H sco ce fp with xe := xe }
theorem to_xe {X : Cx} {s3 s : Shared} {H3 H : Hp} {sco : Scope} {ce : Env} {fp : List Addr} {xe : Value → Shared → Prop} {pins : List (Addr × Obj)} {σ : L2.St} (I : L2.Inv (X.blk s3 H3 sco ce fp) pins σ H s) : L2.Inv (blkX X s3 H3 sco ce fp xe) pins σ H s := by
  have o := I.ok
  exact ⟨⟨o.mod, o.kind, o.glob, o.blt, o.above, o.inj, o.has, o.cab, o.hd, o.frames, o.stk, o.exf, o.bs, o.bsz, o.noex, o.exfs, o.funs, o.frf⟩, I.os, I.bare, I.base, I.loc, I.cell, I.free, I.freeC, I.pin, I.hok, I.len⟩
theorem of_xe {X : Cx} {s3 s : Shared} {H3 H : Hp} {sco : Scope} {ce : Env} {fp : List Addr} {xe : Value → Shared → Prop} {pins : List (Addr × Obj)} {σ : L2.St} (I : L2.Inv (blkX X s3 H3 sco ce fp xe) pins σ H s) : L2.Inv (X.blk s3 H3 sco ce fp) pins σ H s := by
  have o := I.ok
  exact ⟨⟨o.mod, o.kind, o.glob, o.blt, o.above, o.inj, o.has, o.cab, o.hd, o.frames, o.stk, o.exf, o.bs, o.bsz, o.noex, o.exfs, o.funs, o.frf⟩, I.os, I.bare, I.base, I.loc, I.cell, I.free, I.freeC, I.pin, I.hok, I.len⟩
theorem not_frame {X : Cx} (o : X.Ok) {b : Addr} (h1 : b ∉ X.fs) (h2 : b ≠ X.env.locals) : b ∉ frs X.stack := by
  rcases o.stk with e | ⟨e, ef⟩
  · rw [e]; exact h1
  · intro h
    rw [e] at h
    unfold frs at h
    rw [List.filterMap_cons, ef] at h
    rcases List.mem_cons.mp h with h | h
    · exact h2 h
    · exact h1 h
theorem lcX_core {X : Cx} {W : WX} {E : XK} {el tgt itr : Expr} {cds : List Expr} {sco : Scope} {ow : List (Str × Nat)} {pos : Pos} {wit : TI} {g : TG} {cdt : TT} {te : TE} {pins : List (Addr × Obj)} {s : Shared} {σ : L2.St} {H : Hp} {Q : VK} {RR : Value → Env → Result → Shared → Prop} (cm : X.calm = true) (nd : X.N.Nodup) (stk : X.stack = X.env :: X.outer) (frm : X.env.frame = some X.env.locals)
    (tk : L2N.Takes X W) (hW : ∀ cls d t H', E cls d H' → W cls d t H') (pit : PI X tgt itr wit) (bok : BlkOk X.N X.env.scope sco ow)
    (pgt : ∀ (s : Shared) (H : Hp) (C : Addr) (cl : List (Str × Addr)) (fp : List Addr), PG (X.blk s H sco (compEnvC sco cl C X.env) fp) tgt g)
    (pct : ∀ (s : Shared) (H : Hp) (C : Addr) (cl : List (Str × Addr)) (fp : List Addr), PTs (X.blk s H sco (compEnvC sco cl C X.env) fp) cds cdt)
    (pel : ∀ (s : Shared) (H : Hp) (C : Addr) (cl : List (Str × Addr)) (fp : List Addr) (xe : Value → Shared → Prop),
      (∀ (pins : List (Addr × Obj)) (t : L2.St) (H1 : Hp) (s1 : Shared) (u : Value) (z : Shared), L2.Inv (blkX X s H sco (compEnvC sco cl C X.env) fp xe) pins t H1 s1 → L2N.CX X.prog X.w X.stack H1 s1 E u z → xe u z) → PE (blkX X s H sco (compEnvC sco cl C X.env) fp xe) el te)
    (I : L2.Inv X pins σ H s) (h : tLc wit g cdt te (ow.map (·.2)) σ H Q)
    (good : ∀ (D : Addr) (ce : Env) (z : Shared) (m : Str → Option Value) (H' : Hp), L2.Inv X pins σ H' z → Q (.ref D) H' → z.heap.Ns ce.locals m → FpOk X pins H' ce.locals → RR (.ref D) ce (.ok .next) z)
    (bad : ∀ (acc : Value) (ce : Env) (x : Value) (z : Shared), endX (model X.prog X.w) X.A X.xe (fun _ _ => False) acc ce (.error x) z → RR acc ce (.error x) z) :
    wpAny (model X.prog X.w) X.A (eval itr X.env) (fun x z1 => wpAny (model X.prog X.w) X.A (pyIter x) (fun it z2 => wpAny (model X.prog X.w) X.A (newList []) (fun acc z3 => wpAny (model X.prog X.w) X.A (newFunctionEnv sco X.env.globals (cloFrom X.env.cells sco.names []) [] X.env.qual none .none (some X.env))
      (fun ce z4 => codeAny (model X.prog X.w) X.A (.compStart (.ListComp el [⟨tgt, itr, cds, 0⟩] sco pos) 0 it acc { ce with scope := relabel sco X.env }) (RR acc { ce with scope := relabel sco X.env }) z4) X.xe z3) X.xe z2) X.xe z1) X.xe s := by
  refine thn (pit.run pins s σ H _ I h) fun xv s1 q1 => thn q1 fun itv s2 q2 => ?_
  obtain ⟨it, fp, tn, J, H2, rfl, I2, T, at2, ok2, q⟩ := q2
  refine wpAny_newObj_type (newEnv_comp ?_) (by show 0 ≤ sizeLine; decide)
  have nD : H2 s2.heap.objs.size = none := I2.hok.fresh (Nat.le_refl _)
  obtain ⟨V, ⟨m0, v0⟩, turn⟩ := q s2.heap.objs.size nD
  have below : ∀ b ∈ fp, b < s2.heap.objs.size := fun b hb => by
    obtain ⟨o, e, _⟩ := T.obj _ _ at2 b hb
    exact Heap.lt_size e
  have I3 : L2.Inv X pins σ (upd H2 s2.heap.objs.size (.lst [])) { s2 with heap := s2.heap.push { cls := .type "list", data := .seq ([] : List Value).toArray } } :=
    I2.laid (t' := s2.toks) (fun b o e => Heap.get?_push_of_some _ e) (Nat.le_refl _) ⟨Nat.zero_le _, [], 0, .nil, Heap.get?_push_size _ rfl⟩
  have ok3 : ∀ b ∈ fp, FpOk X pins (upd H2 s2.heap.objs.size (.lst [])) b ∧ b < (s2.heap.push { cls := .type "list", data := .seq ([] : List Value).toArray }).objs.size := fun b hb =>
    ⟨⟨by rw [upd_ne (Nat.ne_of_lt (below b hb))]; exact (ok2 b hb).1, (ok2 b hb).2⟩, by rw [Heap.size_push]; exact Nat.lt_succ_of_lt (below b hb)⟩
  have at3 : tn 0 (s2.heap.push { cls := .type "list", data := .seq ([] : List Value).toArray }) := T.keep _ _ _ at2 fun b _ o e => Heap.get?_push_of_some _ e
  revert I3 ok3 at3 v0
  generalize upd H2 s2.heap.objs.size (.lst []) = H3
  generalize s2.heap.objs.size = D at *
  generalize s2.heap.push { cls := .type "list", data := .seq ([] : List Value).toArray } = h3
  intro v0 I3' ok3 at3
  obtain ⟨s3, hs3⟩ : ∃ s3 : Shared, s3 = { s2 with heap := h3 } := ⟨_, rfl⟩
  have I3 : L2.Inv X pins σ H3 s3 := by rw [hs3]; exact I3'
  have hh3 : s3.heap = h3 := by rw [hs3]
  rw [← hh3] at ok3 at3
  have I4 := block_start I3 bok nd ok3
  have p1 := pgt s3 H3 s3.heap.objs.size (cellsFrom (s3.heap.objs.size + 1) sco.names (cloFrom X.env.cells sco.names [])) fp
  have p2 := pct s3 H3 s3.heap.objs.size (cellsFrom (s3.heap.objs.size + 1) sco.names (cloFrom X.env.cells sco.names [])) fp
  have p3 := pel s3 H3 s3.heap.objs.size (cellsFrom (s3.heap.objs.size + 1) sco.names (cloFrom X.env.cells sco.names [])) fp
  rw [← hh3]
  have cF : (compEnvC sco (cellsFrom (s3.heap.objs.size + 1) sco.names (cloFrom X.env.cells sco.names [])) s3.heap.objs.size X.env).frame = X.env.frame := rfl
  have cL : (compEnvC sco (cellsFrom (s3.heap.objs.size + 1) sco.names (cloFrom X.env.cells sco.names [])) s3.heap.objs.size X.env).locals = s3.heap.objs.size := rfl
  show codeAny _ _ (.compStart (.ListComp el [⟨tgt, itr, cds, 0⟩] sco pos) 0 (.ref it) (.ref D) (compEnvC sco (cellsFrom (s3.heap.objs.size + 1) sco.names (cloFrom X.env.cells sco.names [])) s3.heap.objs.size X.env))
    (RR (.ref D) (compEnvC sco (cellsFrom (s3.heap.objs.size + 1) sco.names (cloFrom X.env.cells sco.names [])) s3.heap.objs.size X.env)) { s2 with heap := pushCells (s3.heap.push { cls := .type "dict", data := .dict #[] }) sco.names }
  have at4 : tn 0 (pushCells (s3.heap.push { cls := .type "dict", data := .dict #[] }) sco.names) := T.keep _ _ _ at3 fun b _ o e => pushCells_keeps _ _ _ _ (Heap.get?_push_of_some _ e)
  have none3 : ∀ b ∈ fp, H3 b = none := fun b hb => (ok3 b hb).1.1
  obtain ⟨s4, hs4⟩ : ∃ s4 : Shared, s4 = { s3 with heap := pushCells (s3.heap.push { cls := .type "dict", data := .dict #[] }) sco.names } := ⟨_, rfl⟩
  have I4' : L2.Inv (X.blk s3 H3 sco (compEnvC sco (cellsFrom (s3.heap.objs.size + 1) sco.names (cloFrom X.env.cells sco.names [])) s3.heap.objs.size X.env) fp) [] (wipe σ (ow.map (·.2))) H3 s4 := by rw [hs4]; exact I4
  have es4 : ({ s2 with heap := pushCells (s3.heap.push { cls := .type "dict", data := .dict #[] }) sco.names } : Shared) = s4 := by rw [hs4, hs3]
  rw [es4]
  have at4 : tn 0 s4.heap := by rw [hs4]; exact at4
  clear I4 hs4 es4
  revert I4' p1 p2 p3 cF cL
  generalize compEnvC sco (cellsFrom (s3.heap.objs.size + 1) sco.names (cloFrom X.env.cells sco.names [])) s3.heap.objs.size X.env = ce
  intro p1 p2 p3 cF cL I4
  have still : ∀ {t : L2.St} {G : Hp} {z : Shared}, L2.Inv (X.blk s3 H3 sco ce fp) [] t G z → (∀ b ∈ fp, G b = none) → ∀ b ∈ fp, FpOk (X.blk s3 H3 sco ce fp) [] G b := fun {t G z} J n b hb =>
    ⟨n b hb, (J.ok.exf b hb).1, J.ok.exfs b hb, .inl hb, fun x c e => (J.ok.exf b hb).2 x c e, fun p hp => by cases hp⟩
  -- what a call lets out
  have out : ∀ (pins' : List (Addr × Obj)) (t : L2.St) (H1 : Hp) (z1 : Shared) (u : Value) (z : Shared), L2.Inv (X.blk s3 H3 sco ce fp) pins' t H1 z1 → L2N.CX X.prog X.w X.stack H1 z1 E u z →
      notedBy (model X.prog X.w) X.A ce (fun x y => RR (.ref D) ce (.error x) y) u z := fun pins' t H1 z1 u z J c => by
    have nC : H1 s3.heap.objs.size = none := by rw [← cL]; exact J.free
    obtain ⟨f0, f1, f2, _⟩ := I3.fpOk (Nat.le_refl _) nC
    obtain ⟨m, hm, _⟩ := J.loc
    refine (fun w => wpAny_mono w (fun _ y k => bad _ _ _ _ k) fun x y k => bad _ _ x y k) (thru (Q := fun _ _ => False) (acc := .ref D) tk stk frm cF I3 (fun b hb => (ok3 b hb).1) J.base J.os (by rw [cL]; exact Nat.le_refl _) ⟨m, hm⟩ J.free (by rw [cL]; exact not_frame I3.ok f2 f1) c fun cls d H' => hW cls d σ H')
  have p3 := p3 (fun u z => notedBy (model X.prog X.w) X.A ce (fun x y => RR (.ref D) ce (.error x) y) u z) fun pins' t H1 z1 u z J => out pins' t H1 z1 u z (of_xe J)
  have loop : codeAny (model X.prog X.w) X.A (.compLoop (.ListComp el [⟨tgt, itr, cds, 0⟩] sco pos) 0 (.ref it) (.ref D) ce) (RR (.ref D) ce) s4 := by
    refine compLoop_any (fun n z => ∃ i G, L2.Inv (X.blk s3 H3 sco ce fp) [] (wipe σ (ow.map (·.2))) G z ∧ tn i z.heap ∧ (∀ b ∈ fp, G b = none) ∧ V i n G) ?_ m0 ⟨0, H3, I4, at4, none3, v0⟩
    rintro n s5 ⟨i, H5, I5, at5, n5, v5⟩
    rcases turn i n H5 v5 with ⟨stop, qq⟩ | ⟨go, Nx, less, step⟩
    · refine thnF (T.done (X.blk s3 H3 sco ce fp) rfl rfl rfl cm i [] s5 _ H5 (fun _ _ => False) I5 (still I5 n5) at5 stop) fun r s6 ⟨er, I6⟩ => ?_
      subst er
      have I7 : L2.Inv X pins σ H5 s6 := I3.call' (ch := fp) I6.os I6.base I6.hok I6.bare fun b hb => ⟨(ok3 b hb).1.2.2.2.1, (ok3 b hb).1.2.1, (ok3 b hb).1.2.2.2.2.1, (ok3 b hb).1.2.2.2.2.2⟩
      have nC : H5 s3.heap.objs.size = none := by rw [← cL]; exact I6.free
      obtain ⟨m, hm, _⟩ := I6.loc
      exact good D ce s6 m H5 I7 qq hm (by rw [cL]; exact I3.fpOk (Nat.le_refl _) nC)
    · refine thnF (T.item (X.blk s3 H3 sco ce fp) rfl rfl rfl cm i [] s5 _ H5 (fun _ _ => False) I5 (still I5 n5) at5 go) fun r s6 ⟨u, er, k6⟩ => ?_
      subst er
      refine thnF k6 fun _ s7 ⟨x, H7, I7, r7, y7, at7, n7⟩ => ?_
      refine thnF (p1.run _ s7 _ H7 x u _ (I7.pinned (still I7 n7) (T.obj _ _ at7)) r7 (step x H7 y7)) fun _ s8 ⟨t8, H8, I8, w8, q8⟩ => ?_
      refine thnF (p2.run _ s8 t8 H8 _ I8 q8) fun b s9 ⟨H9, I9, q9⟩ => ?_
      have fin : ∀ {z : Shared} {G : Hp}, L2.Inv (X.blk s3 H3 sco ce fp) ([] ++ pinsAt fp s7.heap) t8 G z → Nx G → ∃ m, m < n ∧ ∃ i G, L2.Inv (X.blk s3 H3 sco ce fp) [] (wipe σ (ow.map (·.2))) G z ∧ tn i z.heap ∧ (∀ b ∈ fp, G b = none) ∧ V i m G := fun {z G} J nx => by
        obtain ⟨m', lt, v'⟩ := less G nx
        have stay : ∀ b ∈ fp, ∀ o, s7.heap.get? b = some o → z.heap.get? b = some o ∧ G b = none := fun b hb o e => by
          have q := J.pin (b, o) (List.mem_append_right _ (List.mem_append_right _ (mem_pinsAt hb e)))
          exact ⟨q.1, q.2.1⟩
        refine ⟨m', lt, i + 1, G, (J.unpinned (pins := [])).weak (by rw [← w8, wipe_length]) (fun j v e => ?_), T.keep _ _ _ at7 fun b hb o e => (stay b hb o e).1, fun b hb => ?_, v'⟩
        · rw [← w8] at e
          exact (wipe_some e).1
        · obtain ⟨o, e, _⟩ := T.obj _ _ at7 b hb
          exact (stay b hb o e).2
      cases b with
      | false =>
        simp only [Bool.false_eq_true, if_false] at q9 ⊢
        exact fin I9 q9
      | true =>
        simp only [if_true] at q9 ⊢
        refine wpAny_mono (p3.run _ s9 t8 H9 _ (to_xe I9) q9) (fun y s10 ⟨yv, H10, I10, r10, acc, hD, hz, nx⟩ => ?_) fun _ _ w => w
        exact app_ok (X := X.blk s3 H3 sco ce fp) (of_xe I10) hD hz r10 fun s11 I11 => fin I11 nx
  exact codeAny_compStart_list loop (T.self X.A 0 _ _ _ at4 loop)
theorem clos_of {X : Cx} {pins : List (Addr × Obj)} {s : Shared} {σ : L2.St} {H : Hp} {sco : Scope} {ow : List (Str × Nat)} (I : L2.Inv X pins σ H s) (bok : BlkOk X.N X.env.scope sco ow) : ∀ x ∈ sco.names, x.2 = .free → ∃ c, X.env.cells.lookup x.1 = some c :=
  fun x hx e => (bok.free x hx e).elim (fun k => I.ok.has x.1 (.inl k)) fun k => I.ok.has x.1 (.inr k)
theorem pe_lcX {X : Cx} {W : WX} {E : XK} {el tgt itr : Expr} {cds : List Expr} {sco : Scope} {ow : List (Str × Nat)} {pos : Pos} {wit : TI} {g : TG} {cdt : TT} {te : TE} (cm : X.calm = true) (nd : X.N.Nodup) (stk : X.stack = X.env :: X.outer) (frm : X.env.frame = some X.env.locals)
    (tk : L2N.Takes X W) (hW : ∀ cls d t H', E cls d H' → W cls d t H') (pit : PI X tgt itr wit) (bok : BlkOk X.N X.env.scope sco ow)
    (pgt : ∀ (s : Shared) (H : Hp) (C : Addr) (cl : List (Str × Addr)) (fp : List Addr), PG (X.blk s H sco (compEnvC sco cl C X.env) fp) tgt g)
    (pct : ∀ (s : Shared) (H : Hp) (C : Addr) (cl : List (Str × Addr)) (fp : List Addr), PTs (X.blk s H sco (compEnvC sco cl C X.env) fp) cds cdt)
    (pel : ∀ (s : Shared) (H : Hp) (C : Addr) (cl : List (Str × Addr)) (fp : List Addr) (xe : Value → Shared → Prop),
      (∀ (pins : List (Addr × Obj)) (t : L2.St) (H1 : Hp) (s1 : Shared) (u : Value) (z : Shared), L2.Inv (blkX X s H sco (compEnvC sco cl C X.env) fp xe) pins t H1 s1 → L2N.CX X.prog X.w X.stack H1 s1 E u z → xe u z) → PE (blkX X s H sco (compEnvC sco cl C X.env) fp xe) el te)
    (fold : ∀ x, foldedSetIterable itr X.env x = Pure.pure x := by intro _; rfl) : PE X (.ListComp el [⟨tgt, itr, cds, 0⟩] sco pos) (tLc wit g cdt te (ow.map (·.2))) := by
  refine ⟨fun pins s σ H Q I h => ?_⟩
  rw [eval_ListComp]
  refine comp_free rfl fold (closure_ok (clos_of I bok)) bok.kind (fun x hx e => by rw [bok.uniq x hx, e]) (lcX_core (RR := fun acc ce r z => endX (model X.prog X.w) X.A X.xe (EP X pins σ Q) acc ce r z) cm nd stk frm tk hW pit bok pgt pct pel I h (fun D ce z m G J q n f => ⟨m, n, fun gg sb => ?_⟩) fun _ _ _ _ k => k)
  obtain ⟨f0, f1, f2, f3, f4, f5⟩ := f
  exact ⟨.ref D, G, J.turned (t' := z.toks) (fun b o hb e => (sb.2 b hb).trans e) f0 f1 f3 f4 f5, rfl, q⟩
end K4

/-! R5 -/
/-! name = [..] on one line, the step may let a call's error out. -/
namespace K4
open PySem L2 PySem.Spec PyProof.Rows
def endU (M : Model) (A : Around) (E : Value → Shared → Prop) (use : Value → Sem Unit) (Q : Shared → Prop) (acc : Value) (ce : Env) (r : Result) (z : Shared) : Prop :=
  match r with
  | .ok _ => wpAny M A (use acc) (fun _ y => ∃ m, y.heap.Ns ce.locals m ∧ ∀ g, Heap.SameBut ce.locals y.heap g → Q { y with heap := g }) E z
  | .error x => endX M A E (fun _ _ => False) acc ce (.error x) z
theorem comp_freeU {M : Model} {A : Around} {E : Value → Shared → Prop} {s : Shared} {env : Env} {e : Expr} {sco : Scope} {pos : Pos} {fresh begin_ : Sem Value} {c0 : Comprehension} {cs : List Comprehension} {clo : List (Str × Addr)} {use : Value → Sem Unit} {Q : Shared → Prop}
    (e1 : clausesOf e = c0 :: cs) (e2 : ∀ x, foldedSetIterable c0.iter env x = Pure.pure x) (e3 : closureFor sco env = Pure.pure clo) (fk : sco.kind = .function) (uq : ∀ x ∈ sco.names, x.2 = .local → sco.names.lookup x.1 = some .local)
    (road : wpAny M A begin_ (fun x z1 => wpAny M A (pyIter x) (fun it z2 => wpAny M A fresh (fun acc z3 => wpAny M A (newFunctionEnv sco env.globals clo [] env.qual none .none (some env))
      (fun ce z4 => codeAny M A (.compStart e 0 it acc { ce with scope := relabel sco env }) (endU M A E use Q acc { ce with scope := relabel sco env }) z4) E z3) E z2) E z1) E s) :
    wpAny M A (comprehension e sco env pos fresh false begin_ (some use)) (fun _ z => Q z) E s := by
  unfold comprehension
  rw [e3, e1]
  have pass : ∀ {α : Type} {t : Sem α} {P P' : α → Shared → Prop} {z : Shared}, wpAny M A t P E z → (∀ a y, P a y → P' a y) → wpAny M A t P' E z := fun a b => wpAny_mono a b fun _ _ w => w
  refine wpAny_bind (pass road fun x z1 r1 => ?_)
  refine wpAny_bind (wpAny_standAt (wpAny_bind (wpAny_of_eq (e2 x) (wpAny_bind (wpAny_holding (pass r1 fun it z2 r2 => ?_))))))
  refine wpAny_standIf (wpAny_bind (pass r2 fun acc z3 r3 => ?_))
  refine wpAny_bind (wpAny_pure (wpAny_bind (pass r3 fun ce z4 r4 => ?_)))
  dsimp only
  have own : ∀ x ∈ (sco.names.filter fun x => (x.2 == .local || x.2 == .cell) && x.1 != (".0" : Str)).reverse, x.2 = .local → Env.kindOf { ce with scope := relabel sco env } x.1 = some .local := by
    intro x hx hl
    exact lookup_relabel_local (uq x (List.mem_filter.mp (List.mem_reverse.mp hx)).1 hl)
  have own2 : ∀ x ∈ (sco.names.filter fun x => (x.2 == .local || x.2 == .cell) && x.1 != (".0" : Str)).reverse.drop 1 ++ (sco.names.filter fun x => (x.2 == .local || x.2 == .cell) && x.1 != (".0" : Str)).reverse.take 1,
      x.2 = .local → Env.kindOf { ce with scope := relabel sco env } x.1 = some .local := fun x hx hl => (List.mem_append.mp hx).elim (fun k => own x (List.mem_of_mem_drop k) hl) fun k => own x (List.mem_of_mem_take k) hl
  refine wpAny_holding (wpAny_bind (wpAny_attempt (wpAny_holding (wpAny_run (codeAny_mono r4 fun r z5 r5 => ?_)))))
  cases r with
  | ok f =>
    refine wpAny_bind (wpAny_rule (wpAny_bind (wpAny_holding (pass r5 fun _ z6 r6 => ?_))))
    obtain ⟨m, n6, k6⟩ := r6
    exact wpAny_bind (wpAny_comp_letGo (cenv := { ce with scope := relabel sco env }) fk _ z6 m own2 n6 fun g _ _ sb => wpAny_pure (k6 g sb))
  | error x =>
    obtain ⟨m, n5, k5⟩ := r5
    exact wpAny_bind (wpAny_holding (wpAny_comp_letGo (cenv := { ce with scope := relabel sco env }) fk _ z5 m own n5 fun g _ _ sb => wpAny_mono (k5 g sb) (fun _ _ w => w.elim) fun _ _ w => w))
end K4
namespace K4
open PySem L2 PySem.Spec PyProof.Rows
theorem ps_setLcX {X : Cx} {W : WX} {E : XK} {i : Nat} {nm : Str} {pn : Pos} {el tgt itr : Expr} {cds : List Expr} {sco : Scope} {ow : List (Str × Nat)} {pos spos : Pos} {wit : TI} {g : TG} {cdt : TT} {te : TE} (cm : X.calm = true) (nd : X.N.Nodup) (stk : X.stack = X.env :: X.outer) (frm : X.env.frame = some X.env.locals)
    (tk : L2N.Takes X W) (hW : ∀ cls d t H', E cls d H' → W cls d t H') (slot : X.N[i]? = some nm) (lcl : X.env.scope.names.lookup nm = some .local)
    (sw : swapsWith (.ListComp el [⟨tgt, itr, cds, 0⟩] sco pos) (some (.Name nm pn)) spos.line X.env = Pure.pure true) (pit : PI X tgt itr wit) (bok : BlkOk X.N X.env.scope sco ow)
    (pgt : ∀ (s : Shared) (H : Hp) (C : Addr) (cl : List (Str × Addr)) (fp : List Addr), PG (X.blk s H sco (compEnvC sco cl C X.env) fp) tgt g)
    (pct : ∀ (s : Shared) (H : Hp) (C : Addr) (cl : List (Str × Addr)) (fp : List Addr), PTs (X.blk s H sco (compEnvC sco cl C X.env) fp) cds cdt)
    (pel : ∀ (s : Shared) (H : Hp) (C : Addr) (cl : List (Str × Addr)) (fp : List Addr) (xe : Value → Shared → Prop),
      (∀ (pins : List (Addr × Obj)) (t : L2.St) (H1 : Hp) (s1 : Shared) (u : Value) (z : Shared), L2.Inv (blkX X s H sco (compEnvC sco cl C X.env) fp xe) pins t H1 s1 → L2N.CX X.prog X.w X.stack H1 s1 E u z → xe u z) → PE (blkX X s H sco (compEnvC sco cl C X.env) fp xe) el te)
    (fold : ∀ x, foldedSetIterable itr X.env x = Pure.pure x := by intro _; rfl) :
    PS X (.Assign [.Name nm pn] (.ListComp el [⟨tgt, itr, cds, 0⟩] sco pos) spos) (tAsg (tLc wit g cdt te (ow.map (·.2))) (gName i)) := by
  refine ⟨fun pins s σ H D I h => ?_⟩
  rw [exec_Assign_Name_used _ _ _ _ sw]
  refine wpAny_bind (wpAny_standAt (wpAny_bind ?_))
  have road : tLc wit g cdt te (ow.map (·.2)) σ H (fun x G => gName i x σ G D.nx) := h
  have run := comp_freeU (M := model X.prog X.w) (A := X.A) (E := X.xe) (s := s) (env := X.env) (e := .ListComp el [⟨tgt, itr, cds, 0⟩] sco pos) (pos := firstIterPos [⟨tgt, itr, cds, 0⟩] pos) (fresh := newList []) (begin_ := eval itr X.env) (use := assign (.Name nm pn) X.env) (Q := fun z => L2.SP X pins D .next z)
    rfl fold (closure_ok (clos_of I bok)) bok.kind (fun x hx e => by rw [bok.uniq x hx, e])
    (lcX_core (RR := fun acc ce r z => endU (model X.prog X.w) X.A X.xe (assign (.Name nm pn) X.env) (fun z => L2.SP X pins D .next z) acc ce r z) cm nd stk frm tk hW pit bok pgt pct pel I road (fun L ce z m G J q n f => ?_) fun _ _ _ _ k => k)
  · exact wpAny_bind (wpAny_mono run (fun _ z q => wpAny_pure (wpAny_pure q)) fun _ _ w => w)
  · show wpAny _ _ (assign (.Name nm pn) X.env (.ref L)) _ _ _
    refine wpAny_assign_Name (store_ok2 (v := V.ref L) J nd slot (.inl lcl) rfl (fun z2 J2 ⟨a, sb, ha⟩ => ?_) (.inr lcl))
    obtain ⟨f0, f1, f2, f3, f4, f5⟩ := f
    have ne : ce.locals ≠ a := ha.elim (fun w => by rw [w]; exact f1) fun w e => f4 nm a w e.symm
    exact ⟨m, n.sameBut sb ne, fun gg s2 => ⟨_, G, J2.turned (t' := z2.toks) (fun b o hb e => (s2.2 b hb).trans e) f0 f1 f3 f4 f5, q⟩⟩
end K4

/-! P7a -/


namespace K4
open PySem L2 K1
abbrev sOwnValues : Stmt := top 37
abbrev nOwnValues : List Str := ["part"]
theorem scOwnValues : FnScope nOwnValues ["part"] (defScope sOwnValues) := ⟨rfl, rfl, rfl, by decide +kernel, rfl, by decide +kernel, by decide +kernel⟩
abbrev sInnerRules : Stmt := top 38
abbrev nInnerRules : List Str := ["part"]
theorem scInnerRules : FnScope nInnerRules ["part"] (defScope sInnerRules) := ⟨rfl, rfl, rfl, by decide +kernel, rfl, by decide +kernel, by decide +kernel⟩
abbrev sIntegersWord : Stmt := top 55
abbrev nIntegersWord : List Str := ["integers", "number"]
theorem scIntegersWord : FnScope nIntegersWord ["integers"] (defScope sIntegersWord) := ⟨rfl, rfl, rfl, by decide +kernel, rfl, by decide +kernel, by decide +kernel⟩
abbrev sOwnWords : Stmt := top 61
abbrev nOwnWords : List Str := ["word", "values", "modulus", "weights", "goal", "rows", "goals", "many", "row"]
theorem scOwnWords : FnScope nOwnWords ["word", "values"] (defScope sOwnWords) := ⟨rfl, rfl, rfl, by decide +kernel, rfl, by decide +kernel, by decide +kernel⟩
abbrev sRuleWords : Stmt := top 60
abbrev nRuleWords : List Str := ["rule", "words", "inner"]
theorem scRuleWords : FnScope nRuleWords ["rule"] (defScope sRuleWords) := ⟨rfl, rfl, rfl, by decide +kernel, rfl, by decide +kernel, by decide +kernel⟩
abbrev sWriteRule : Stmt := top 59
abbrev nWriteRule : List Str := ["rule"]
theorem scWriteRule : FnScope nWriteRule ["rule"] (defScope sWriteRule) := ⟨rfl, rfl, rfl, by decide +kernel, rfl, by decide +kernel, by decide +kernel⟩
def spOwn (K : PySem.W.Frag) : Sp := fun vs H Q _ => ∃ (v : V) (k : Nat) (xs is : List V), vs = [v] ∧ k < 9 ∧ Sq K H v (.str (wd k) :: (xs ++ is)) ∧ xs.length = mn k ∧ ∀ v' H', Same H H' → Sq K H' v' xs → Q v' H'
def spInner (K : PySem.W.Frag) : Sp := fun vs H Q _ => ∃ (v : V) (k : Nat) (xs is : List V), vs = [v] ∧ k < 9 ∧ Sq K H v (.str (wd k) :: (xs ++ is)) ∧ xs.length = mn k ∧ ∀ p H', H p = none → Same H H' → Sq K H' (.ref p) is → Q (.ref p) H'
def spOwnWords (K : PySem.W.Frag) : Sp := fun vs H Q _ => ∃ (o : Ow) (v : V) (xs : List V), vs = [.str o.word, v] ∧ Sq K H v xs ∧ OwAt K H xs o ∧ o.ok ∧ ∀ H' p, Same H H' → H' p = some (.lst (o.words.map V.str)) → Q (.ref p) H'
def spWR (K : PySem.W.Frag) : Sp := fun vs H Q _ => ∃ (v : V) (r : R), vs = [v] ∧ RAt K H v r ∧ r.ok ∧ r.parts ≤ 100 ∧ r.depth ≤ 42 ∧ ∀ H', Same H H' → Q (.str r.text) H'
section
variable {P : Program} {w : World} {K : PySem.W.Frag} {mg : Str → Option Value} {base : Heap} {dO dI : Addr}
theorem ok_ownValues {f : Addr} {fd : FuncData} (F : Fun K "own_values" "own_values" sOwnValues f fd) (B : Bl mg) (G : Go K w mg dO) : FnOk P w K mg base CX0 1 f fd ["part"] (spOwn K) := by
  refine F.ok scOwnValues (fun vs H Q E h => ?_) (fun cdv A outer s H vs Q E hr h => ?_)
  · obtain ⟨v, k, xs, is, rfl, _⟩ := h
    rfl
  · obtain ⟨v, c, xs, is, rfl, hc, hS, hl, k⟩ := h
    refine ⟨_, (pss_one (ps_ret (pe_slice sl_sq (pv 0) (po_some pe_int) (po_some (pe_op op_add pe_int (pe_ix ix_kdict (pe_gR G.OV) (pe_ix ix_seq (pv 0) pe_int (fun _ _ => rfl)) (fun _ _ => rfl))))))), ?_⟩
    try dsimp only [cxOf, Cx.nox, Cx.wish]
    walk_at "go"
    refine r_ixSq hS at0 ?_
    walk_at "go"
    refine r_kd (G.ov c hc) ?_
    walk_at "go"
    refine r_slSq hS fun v' H' sm h' => k v' H' sm ?_
    have e : cutV (.str (wd c) :: (xs ++ is)) (some 1) (some (1 + (mn c : Int))) = xs := by
      have := cutV_mid (xs := .str (wd c) :: (xs ++ is)) 1 (1 + mn c)
      rw [show ((1 + mn c : Nat) : Int) = 1 + (mn c : Int) by omega] at this
      rw [show ((1 : Nat) : Int) = 1 from rfl] at this
      rw [this, ← hl, List.drop_succ_cons, List.drop_zero, Nat.add_sub_cancel_left]
      simp
    rw [e] at h'
    exact h'
theorem ok_innerRules {f : Addr} {fd : FuncData} (F : Fun K "inner_rules" "inner_rules" sInnerRules f fd) (B : Bl mg) (G : Go K w mg dO) : FnOk P w K mg base CX0 1 f fd ["part"] (spInner K) := by
  refine F.ok scInnerRules (fun vs H Q E h => ?_) (fun cdv A outer s H vs Q E hr h => ?_)
  · obtain ⟨v, k, xs, is, rfl, _⟩ := h
    rfl
  · obtain ⟨v, c, xs, is, rfl, hc, hS, hl, k⟩ := h
    refine ⟨_, (pss_one (ps_ret (pe_slice sl_sq (pv 0) (po_some (pe_op op_add pe_int (pe_ix ix_kdict (pe_gR G.OV) (pe_ix ix_seq (pv 0) pe_int (fun _ _ => rfl)) (fun _ _ => rfl)))) po_none))), ?_⟩
    try dsimp only [cxOf, Cx.nox, Cx.wish]
    walk_at "go"
    refine r_ixSq hS at0 ?_
    walk_at "go"
    refine r_kd (G.ov c hc) ?_
    walk_at "go"
    refine r_slNew hS (fun z => ?_) fun p H' hp sm h' => k p H' hp sm ?_
    · have := HT.sIx_nat ((V.str (wd c) :: (xs ++ is)).length) 0 (1 + mn c)
      rw [show ((1 + mn c : Nat) : Int) = 1 + (mn c : Int) by omega] at this
      rw [this, List.length_cons] at z
      omega
    have e : cutV (.str (wd c) :: (xs ++ is)) (some (1 + (mn c : Int))) none = is := by
      have := cutV_from (xs := .str (wd c) :: (xs ++ is)) (1 + mn c)
      rw [show ((1 + mn c : Nat) : Int) = 1 + (mn c : Int) by omega] at this
      rw [this, ← hl, Nat.add_comm, List.drop_succ_cons]
      simp
    rw [e] at h'
    exact h'
theorem ok_integersWord {f : Addr} {fd : FuncData} (F : Fun K "integers_word" "integers_word" sIntegersWord f fd) (B : Bl mg) : FnOk P w K mg base CX0 1 f fd ["integers"] (spIntsWord K) := by
  refine F.ok scIntegersWord (fun vs H Q E h => ?_) (fun cdv A outer s H vs Q E hr h => ?_)
  · obtain ⟨v, ns, rfl, _⟩ := h
    rfl
  · obtain ⟨v, ns, rfl, hS, h60, hb, k⟩ := h
    refine ⟨_, (pss_one (ps_ret (pe_m1 PySem.F.slot_str_join PySem.F.type_str_join mt_join pe_str (pe_lc (own := [("number", 1)]) (g := gName 1) (tt := tYes) rfl scIntegersWord.nd (pi_sq (pv 0)) (blkOk_by (N := nIntegersWord) (sc := defScope sIntegersWord) (by decide +kernel)) (fun _ _ _ _ _ => (pg_name (i := 1) scIntegersWord.nd rfl (Or.inl rfl))) (fun _ _ _ _ _ => pts_nil) (fun _ _ _ _ _ => (pe_callTy call_str_int (by rfl) B.str (by decide +kernel) (pa_cons (pv 1) pa_nil))))))), ?_⟩
    try dsimp only [cxOf, Cx.nox, Cx.wish]
    walk_at "go"
    refine lc_sq hS (fun _ => rfl) (fun acc H' => acc = ((ns.map num).take acc.length).map V.str ∧ Same H H') (fun D hD => ⟨rfl, same_new hD⟩) (fun D acc H' _ _ q => Same.keeps q.2) ?_ _ ?_ (fun J h => h)
    · rintro D i x acc H' hD hx hl hacc ⟨ha, sm⟩
      obtain ⟨n, hn, rfl⟩ := get_map hx
      walk_at "go"
      have hmem := hb n (List.mem_of_getElem? hn)
      refine ⟨?_, ?_⟩
      · have : ((n : Int).natAbs).log2 < 1920 := by
          rw [Int.natAbs_natCast]
          exact Nat.lt_of_le_of_lt (Nat.log2_le_self n) (by omega)
        exact this
      · exact pp_next hacc hl (line60 (by have := (List.getElem?_eq_some_iff.mp hn).1; omega)) ⟨acc_next (f := V.str) (a := num n) ha hl (by rw [List.getElem?_map, hn]; rfl), same_upd sm hD⟩
    · rintro D acc H' hD hl hacc ⟨ha, sm⟩
      rw [List.length_map] at hl
      rw [hl, ← List.length_map (f := num), List.take_length] at ha
      subst ha
      walk_at "go"
      refine ⟨_, D, ns.map num, rfl, rfl, .inl (SqL.of hacc), ?_, ?_⟩
      · have := sum_le (ys := ns.map num) (b := 2) (fun p hp => by obtain ⟨n, hn, rfl⟩ := List.mem_map.mp hp; exact (num_ok (hb n hn)).2.2.1)
        rw [List.length_map] at this ⊢
        have e : (CM : Str).length = 1 := by rw [len_tl, tl_CM]; rfl
        rw [e]
        omega
      · exact k _ sm
end
end K4

/-! P7b -/


namespace K4
open PySem L2 K1
section
variable {P : Program} {w : World} {K : PySem.W.Frag} {mg : Str → Option Value} {base : Heap} {dO dI : Addr}
abbrev OIntsWord (P : Program) (w : World) (K : PySem.W.Frag) (mg : Str → Option Value) (base : Heap) : Prop := Own P w K mg base "integers_word" 1 ["integers"] (spIntsWord K)
theorem log_ok {n : Nat} (h : n ≤ 60) : ((n : Int).natAbs).log2 < 1920 := by
  rw [Int.natAbs_natCast]
  exact Nat.lt_of_le_of_lt (Nat.log2_le_self n) (by omega)
theorem ok_ownWords {f : Addr} {fd : FuncData} (F : Fun K "own_words" "own_words" sOwnWords f fd) (B : Bl mg) (Oiw : OIntsWord P w K mg base) : FnOk P w K mg base CX0 2 f fd ["word", "values"] (spOwnWords K) := by
  refine F.ok scOwnWords (fun vs H Q E h => ?_) (fun cdv A outer s H vs Q E hr h => ?_)
  · obtain ⟨o, v, xs, rfl, _⟩ := h
    rfl
  · obtain ⟨o, v, xs, rfl, hS, hO, hok, k⟩ := h
    refine ⟨_, (pss_cons (ps_if (pt_cmpR op_eq (pv 0) pe_str (nomark _)) (pss_cons (ps_asg (pv 1) (pg_sq rfl (pgs_cons (pg_name (i := 2) scOwnWords.nd rfl (Or.inl rfl)) (pgs_cons (pg_name (i := 3) scOwnWords.nd rfl (Or.inl rfl)) (pgs_cons (pg_name (i := 4) scOwnWords.nd rfl (Or.inl rfl)) pgs_nil))))) (pss_one (ps_ret (pe_lst (pa_cons (pe_callTy call_str_int (by rfl) B.str (by decide +kernel) (pa_cons (pv 2) pa_nil)) (pa_cons (pe_own Oiw hr (pa_cons (pv 3) pa_nil)) (pa_cons (pe_callTy call_str_int (by rfl) B.str (by decide +kernel) (pa_cons (pv 4) pa_nil)) pa_nil))))))) pss_nil) (pss_cons (ps_if (pt_cmpR op_eq (pv 0) pe_str (nomark _)) (pss_cons (ps_asg (pv 1) (pg_sq rfl (pgs_cons (pg_name (i := 5) scOwnWords.nd rfl (Or.inl rfl)) (pgs_cons (pg_name (i := 6) scOwnWords.nd rfl (Or.inl rfl)) pgs_nil)))) (pss_one (ps_ret (pe_lst (pa_cons (pe_m1 PySem.F.slot_str_join PySem.F.type_str_join mt_join pe_str (pe_lc (own := [("row", 8)]) (g := gName 8) (tt := tYes) rfl scOwnWords.nd (pi_sq (pv 5)) (blkOk_by (N := nOwnWords) (sc := defScope sOwnWords) (by decide +kernel)) (fun _ _ _ _ _ => (pg_name (i := 8) scOwnWords.nd rfl (Or.inl rfl))) (fun _ _ _ _ _ => pts_nil) (fun _ _ _ _ _ => (pe_own Oiw hr (pa_cons (pv 8) pa_nil))))) (pa_cons (pe_own Oiw hr (pa_cons (pv 6) pa_nil)) pa_nil)))))) pss_nil) (pss_cons (ps_if (pt_cmpR op_eq (pv 0) pe_str (nomark _)) (pss_one (ps_ret (pe_lst (pa_cons (pe_m1 PySem.F.slot_str_join PySem.F.type_str_join mt_join pe_str (pe_ix ix_seq (pv 1) pe_int (fun _ _ => rfl))) pa_nil)))) pss_nil) (pss_one (ps_ret (pe_lc (own := [("many", 7)]) (g := gName 7) (tt := tYes) rfl scOwnWords.nd (pi_sq (pv 1)) (blkOk_by (N := nOwnWords) (sc := defScope sOwnWords) (by decide +kernel)) (fun _ _ _ _ _ => (pg_name (i := 7) scOwnWords.nd rfl (Or.inl rfl))) (fun _ _ _ _ _ => pts_nil) (fun _ _ _ _ _ => (pe_callTy call_str_int (by rfl) B.str (by decide +kernel) (pa_cons (pv 7) pa_nil))))))))), ?_⟩
    try dsimp only [cxOf, Cx.nox, Cx.wish]
    walk_at "go"
    refine r_ite (fun h5 => ?_) (fun h5 => ?_)
    · have e := kind_of (k := 5) (by decide) h5
      cases o <;> first | (exact absurd e (by simp only [Ow.kind]; decide)) | skip
      rename_i m ws g
      obtain ⟨wv, rfl, hW⟩ := hO
      obtain ⟨a1, a2, a3, a4, a5⟩ := hok
      walk_at "go"
      refine r_gSq hS rfl ?_
      walk_at "go"
      refine ⟨log_ok a2, ?_⟩
      walk_at "go"
      refine ⟨_, ws, rfl, hW, by omega, fun n hn => Nat.le_trans (a3.2.2 n hn) (by decide), fun H1 s1 => ?_⟩
      walk_at "go"
      refine ⟨log_ok (by omega), ?_⟩
      walk_at "go"
      refine ⟨(by show 3 ≤ sizeLine; decide), fun p hp => ?_⟩
      exact k _ p (s1.trans (same_new hp)) upd_same
    walk_at "go"
    refine r_ite (fun h6 => ?_) (fun h6 => ?_)
    · have e := kind_of (k := 6) (by decide) h6
      cases o <;> first | (exact absurd e (by simp only [Ow.kind]; decide)) | skip
      rename_i rows gs
      obtain ⟨av, gv, rvs, rfl, hA, hR, hG⟩ := hO
      obtain ⟨a1, a2, a3, a4⟩ := hok
      walk_at "go"
      refine r_gSq hS rfl ?_
      walk_at "go"
      have hl := hR.len
      refine lc_sq hA (fun _ => rfl) (fun acc H' => acc = ((rows.map commas).take acc.length).map V.str ∧ Same H H') (fun D hD => ⟨rfl, same_new hD⟩) (fun D acc H' _ _ q => Same.keeps q.2) ?_ _ ?_ (fun J h => h)
      · rintro D i x acc H' hD hx hl hacc ⟨ha, sm⟩
        obtain ⟨r, hr', hN⟩ := hR.get hx
        have hmem := a3 r (List.mem_of_getElem? hr')
        walk_at "go"
        refine ⟨_, r, rfl, hN.same sm, hmem.nums.2.1, hmem.nums.2.2, fun H2 s2 => ?_⟩
        exact pp_next (s2 _ _ hacc) hl (line60 (by have := (List.getElem?_eq_some_iff.mp hr').1; omega)) ⟨acc_next (f := V.str) (a := commas r) ha hl (by rw [List.getElem?_map, hr']; rfl), same_upd (sm.trans s2) hD⟩
      · rintro D acc H' hD hl' hacc ⟨ha, sm⟩
        rw [hl', hl, ← List.length_map (f := commas), List.take_length] at ha
        subst ha
        walk_at "go"
        refine ⟨_, D, rows.map commas, rfl, rfl, .inl (SqL.of hacc), ?_, ?_⟩
        · have := sum_le (ys := rows.map commas) (b := 36) (fun p hp => by
            obtain ⟨r, hr, rfl⟩ := List.mem_map.mp hp
            have a := commas_len (a3 r hr).nums
            have b := (a3 r hr).2.1
            omega)
          have e : ("/" : Str).length = 1 := by rw [len_tl, tl_SL]; rfl
          rw [e]
          rw [List.length_map] at this ⊢
          omega
        walk_at "go"
        refine ⟨_, gs, rfl, hG.same sm, a4.2.1, fun n hn => Nat.le_trans (a4.2.2 n hn) (by decide), fun H3 s3 => ?_⟩
        walk_at "go"
        refine ⟨(by show 2 ≤ sizeLine; decide), fun p hp => ?_⟩
        exact k _ p ((sm.trans s3).trans (same_new hp)) upd_same
    walk_at "go"
    refine r_ite (fun h7 => ?_) (fun h7 => ?_)
    · have e := kind_of (k := 7) (by decide) h7
      cases o <;> first | (exact absurd e (by simp only [Ow.kind]; decide)) | skip
      rename_i fs
      obtain ⟨fv, rfl, hF⟩ := hO
      obtain ⟨a1, a2, a3⟩ := hok
      walk_at "go"
      refine r_ixSq hS at0 ?_
      walk_at "go"
      obtain ⟨q, rfl, hq⟩ := hF
      refine ⟨_, q, fs, rfl, rfl, hq, ?_, ?_⟩
      · have := sum_le (ys := fs) (b := 12) (fun p hp => (a3 p hp).2.1)
        have e : ("," : Str).length = 1 := by rw [len_tl, tl_CM]; rfl
        rw [e]
        omega
      walk_at "go"
      refine ⟨(by show 1 ≤ sizeLine; decide), fun p hp => ?_⟩
      exact k _ p (same_new hp) upd_same
    walk_at "go"
    obtain ⟨ns, hxs, hws, h60, hb⟩ : ∃ ns : List Nat, xs = ns.map vi ∧ o.words = ns.map num ∧ ns.length ≤ 60 ∧ ∀ n ∈ ns, n ≤ 60 := by
      cases o with
      | sum m ws g => exact absurd rfl h5
      | square rows gs => exact absurd rfl h6
      | faces fs => exact absurd rfl h7
      | cut a b =>
        have h1 := hok.1
        have h2 := hok.2
        refine ⟨[a, b], hO, rfl, (by show 2 ≤ 60; decide), fun n hn => ?_⟩
        simp only [List.mem_cons, List.not_mem_nil, or_false] at hn
        rcases hn with rfl | rfl <;> omega
      | _ => exact ⟨[], hO, rfl, by decide, fun n hn => absurd hn (by simp)⟩
    subst hxs
    refine lc_sq hS (fun _ => rfl) (fun acc H' => acc = ((ns.map num).take acc.length).map V.str ∧ Same H H') (fun D hD => ⟨rfl, same_new hD⟩) (fun D acc H' _ _ q => Same.keeps q.2) ?_ _ ?_ (fun J h => h)
    · rintro D i x acc H' hD hx hl hacc ⟨ha, sm⟩
      obtain ⟨n, hn, rfl⟩ := get_map hx
      walk_at "go"
      have hmem := hb n (List.mem_of_getElem? hn)
      refine ⟨log_ok hmem, ?_⟩
      exact pp_next hacc hl (line60 (by have := (List.getElem?_eq_some_iff.mp hn).1; omega)) ⟨acc_next (f := V.str) (a := num n) ha hl (by rw [List.getElem?_map, hn]; rfl), same_upd sm hD⟩
    · rintro D acc H' hD hl hacc ⟨ha, sm⟩
      rw [List.length_map] at hl
      rw [hl, ← List.length_map (f := num), List.take_length] at ha
      subst ha
      rw [← hws] at hacc
      exact k _ D sm hacc
end
end K4

/-! L5e -/


namespace K4
open PySem L2 K1
theorem words_bound {r : R} (h : r.parts ≤ 100) : r.words.length ≤ 400 := by have := r.words_len; omega
theorem part_le {r i : R} (h : i ∈ r.inner) : i.parts ≤ r.parts := by
  cases r with
  | n0 o => simp [R.inner] at h
  | n1 o a => simp only [R.inner, List.mem_cons, List.not_mem_nil, or_false] at h; subst h; simp only [R.parts]; omega
  | n2 o a b => simp only [R.inner, List.mem_cons, List.not_mem_nil, or_false] at h; simp only [R.parts]; rcases h with rfl | rfl <;> omega
section
variable {P : Program} {w : World} {K : PySem.W.Frag} {mg : Str → Option Value} {base : Heap} {dO dI : Addr}
abbrev OLR (n : Nat) (P : Program) (w : World) (K : PySem.W.Frag) (mg : Str → Option Value) (base : Heap) : Prop := Own P w K mg base "_law_rule_words" (n + 1) ["_law_rule"] (spRW K n)
abbrev OLCommas (P : Program) (w : World) (K : PySem.W.Frag) (mg : Str → Option Value) (base : Heap) : Prop := Own P w K mg base "_law_commas" 1 ["_law_row"] (spIntsWord K)
theorem at_n {xs : List V} {x : V} (n : Nat) (h : xs[n]? = some x) : atI xs (n : Int) = some x := atI_nat h
theorem log_ok' {n : Nat} (h : n ≤ 60) : ((n : Int).natAbs).log2 < 1920 := by
  rw [Int.natAbs_natCast]
  exact Nat.lt_of_le_of_lt (Nat.log2_le_self n) (by omega)
theorem ok_lRuleWords {n : Nat} {f : Addr} {fd : FuncData} (F : Fun K "_law_rule_words" "_law_rule_words" sLRuleWords f fd) (B : Bl mg) (Ocm : OLCommas P w K mg base) (Olr : OLR n P w K mg base) :
    FnOk P w K mg base CX0 (n + 1 + 1) f fd ["_law_rule"] (spRW K (n + 1)) := by
  refine F.ok scLRuleWords (fun vs H Q E h => ?_) (fun cdv A outer s H vs Q E hr h => ?_)
  · obtain ⟨v, r, rfl, _⟩ := h
    rfl
  · obtain ⟨v, r, rfl, hA, hok, h100, hd, k⟩ := h
    have hwb := words_bound h100
    have hokO := R.ok_ow hok
    have harr := R.ok_ar hok
    have hpl : ∀ i ∈ r.inner, i.ok ∧ i.parts ≤ 100 ∧ i.depth ≤ n := fun i hi => ⟨R.ok_in hok i hi, Nat.le_trans (part_le hi) h100, by have := R.in_depth i hi; omega⟩
    have hwl : ∀ i ∈ r.inner, i.words.length ≤ 400 := fun i hi => words_bound (hpl i hi).2.1
    have hweq := r.words_eq
    obtain ⟨xs, is, hS, hO, hI⟩ := hA.open
    refine ⟨_, (pss_cons (ps_set (i := 1) scLRuleWords.nd rfl (Or.inl rfl) (pe_ix ix_seq (pv 0) pe_int (fun _ _ => rfl))) (pss_cons (ps_if (pt_cmpR op_eq (pv 1) pe_str (nomark _)) (pss_one (ps_ret (pe_lst (pa_cons (pv 1) (pa_cons (pe_callTy call_str_int (by rfl) B.str (by decide +kernel) (pa_cons (pe_ix ix_seq (pv 0) pe_int (fun _ _ => rfl)) pa_nil)) (pa_cons (pe_own Ocm (hr.mono (by omega)) (pa_cons (pe_ix ix_seq (pv 0) pe_int (fun _ _ => rfl)) pa_nil)) (pa_cons (pe_callTy call_str_int (by rfl) B.str (by decide +kernel) (pa_cons (pe_ix ix_seq (pv 0) pe_int (fun _ _ => rfl)) pa_nil)) pa_nil))))))) pss_nil) (pss_cons (ps_if (pt_cmpR op_eq (pv 1) pe_str (nomark _)) (pss_one (ps_ret (pe_lst (pa_cons (pv 1) (pa_cons (pe_m1 PySem.F.slot_str_join PySem.F.type_str_join mt_join pe_str (pe_lc (own := [("_law_row", 2)]) (g := gName 2) (tt := tYes) rfl scLRuleWords.nd (pi_sq (pe_ix ix_seq (pv 0) pe_int (fun _ _ => rfl))) (blkOk_by (N := nLRuleWords) (sc := defScope sLRuleWords) (by decide +kernel)) (fun _ _ _ _ _ => (pg_name (i := 2) scLRuleWords.nd rfl (Or.inl rfl))) (fun _ _ _ _ _ => pts_nil) (fun _ _ _ _ _ => (pe_own Ocm (hr.mono (by omega)) (pa_cons (pv 2) pa_nil))))) (pa_cons (pe_own Ocm (hr.mono (by omega)) (pa_cons (pe_ix ix_seq (pv 0) pe_int (fun _ _ => rfl)) pa_nil)) pa_nil)))))) pss_nil) (pss_cons (ps_if (pt_cmpR op_eq (pv 1) pe_str (nomark _)) (pss_one (ps_ret (pe_op op_cat (pe_lst (pa_cons (pv 1) (pa_cons (pe_m1 PySem.F.slot_str_join PySem.F.type_str_join mt_join pe_str (pe_ix ix_seq (pv 0) pe_int (fun _ _ => rfl))) pa_nil))) (pe_own Olr hr (pa_cons (pe_ix ix_seq (pv 0) pe_int (fun _ _ => rfl)) pa_nil))))) pss_nil) (pss_cons (ps_if (pt_cmpR op_eq (pv 1) pe_str (nomark _)) (pss_one (ps_ret (pe_op op_cat (pe_lst (pa_cons (pv 1) (pa_cons (pe_callTy call_str_int (by rfl) B.str (by decide +kernel) (pa_cons (pe_ix ix_seq (pv 0) pe_int (fun _ _ => rfl)) pa_nil)) (pa_cons (pe_callTy call_str_int (by rfl) B.str (by decide +kernel) (pa_cons (pe_ix ix_seq (pv 0) pe_int (fun _ _ => rfl)) pa_nil)) pa_nil)))) (pe_own Olr hr (pa_cons (pe_ix ix_seq (pv 0) pe_int (fun _ _ => rfl)) pa_nil))))) pss_nil) (pss_cons (ps_if (pt_cmpR op_eq (pv 1) pe_str (nomark _)) (pss_one (ps_ret (pe_lst (pa_cons (pv 1) pa_nil)))) pss_nil) (pss_cons (ps_if (pt_cmpR op_in_seq (pv 1) (pe_tup (pa_cons pe_str (pa_cons pe_str pa_nil))) (by rfl)) (pss_one (ps_ret (pe_op op_cat (pe_lst (pa_cons (pv 1) pa_nil)) (pe_own Olr hr (pa_cons (pe_ix ix_seq (pv 0) pe_int (fun _ _ => rfl)) pa_nil))))) pss_nil) (pss_one (ps_ret (pe_op op_cat (pe_op op_cat (pe_lst (pa_cons (pv 1) pa_nil)) (pe_own Olr hr (pa_cons (pe_ix ix_seq (pv 0) pe_int (fun _ _ => rfl)) pa_nil))) (pe_own Olr hr (pa_cons (pe_ix ix_seq (pv 0) pe_int (fun _ _ => rfl)) pa_nil)))))))))))), ?_⟩
    try dsimp only [cxOf, Cx.nox, Cx.wish]
    walk_at "go"
    refine r_ixSq hS at0 ?_
    walk_at "go"
    generalize ho : r.ow = o at *
    generalize hi : r.inner = il at *
    refine r_ite (fun h5 => ?_) (fun h5 => ?_)
    · have e := kind_of (k := 5) (by decide) h5
      cases o <;> first | (exact absurd e (by simp only [Ow.kind]; decide)) | skip
      rename_i m ws g
      obtain ⟨wv, rfl, hW⟩ := hO
      obtain ⟨a1, a2, a3, a4, a5⟩ := hokO
      have hil : il = [] := List.eq_nil_of_length_eq_zero harr
      subst hil
      walk_at "go"
      refine r_ixSq hS (at_n 1 rfl) ?_
      walk_at "go"
      refine ⟨log_ok' a2, ?_⟩
      walk_at "go"
      refine r_ixSq hS (at_n 2 rfl) ?_
      walk_at "go"
      refine ⟨_, ws, rfl, hW, a3.2.1, fun n hn => Nat.le_trans (a3.2.2 n hn) (by decide), fun H1 s1 => ?_⟩
      walk_at "go"
      refine r_ixSq (hS.same s1) (at_n 3 rfl) ?_
      walk_at "go"
      refine ⟨log_ok' (by omega), ?_⟩
      walk_at "go"
      refine ⟨(by show 4 ≤ sizeLine; decide), fun p hp => ?_⟩
      refine k _ p (s1.trans (same_new hp)) (s1.free hp) ?_
      rw [upd_same, hweq]
      rfl
    walk_at "go"
    refine r_ite (fun h6 => ?_) (fun h6 => ?_)
    · have e := kind_of (k := 6) (by decide) h6
      cases o <;> first | (exact absurd e (by simp only [Ow.kind]; decide)) | skip
      rename_i rows gs
      obtain ⟨av, gv, rvs, rfl, hAr, hR, hG⟩ := hO
      obtain ⟨a1, a2, a3, a4⟩ := hokO
      have hil : il = [] := List.eq_nil_of_length_eq_zero harr
      subst hil
      walk_at "go"
      refine r_ixSq hS (at_n 1 rfl) ?_
      walk_at "go"
      have hl := hR.len
      refine lc_sq hAr (fun _ => rfl) (fun acc H' => acc = ((rows.map commas).take acc.length).map V.str ∧ Same H H') (fun D hD => ⟨rfl, same_new hD⟩) (fun D acc H' _ _ q => Same.keeps q.2) ?_ _ ?_ (fun J h => h)
      · rintro D i x acc H' hD hx hl hacc ⟨ha, sm⟩
        obtain ⟨r, hr', hN⟩ := hR.get hx
        have hmem := a3 r (List.mem_of_getElem? hr')
        walk_at "go"
        refine ⟨_, r, rfl, hN.same sm, hmem.nums.2.1, hmem.nums.2.2, fun H2 s2 => ?_⟩
        exact pp_next (s2 _ _ hacc) hl (line60 (by have := (List.getElem?_eq_some_iff.mp hr').1; omega)) ⟨acc_next (f := V.str) (a := commas r) ha hl (by rw [List.getElem?_map, hr']; rfl), same_upd (sm.trans s2) hD⟩
      · rintro D acc H' hD hl' hacc ⟨ha, sm⟩
        rw [hl', hl, ← List.length_map (f := commas), List.take_length] at ha
        subst ha
        walk_at "go"
        refine ⟨_, D, rows.map commas, rfl, rfl, .inl (SqL.of hacc), ?_, ?_⟩
        · have := sum_le (ys := rows.map commas) (b := 36) (fun p hp => by
            obtain ⟨r, hr, rfl⟩ := List.mem_map.mp hp
            have a := commas_len (a3 r hr).nums
            have b := (a3 r hr).2.1
            omega)
          have e : ("/" : Str).length = 1 := by rw [len_tl, tl_SL]; rfl
          rw [e]
          rw [List.length_map] at this ⊢
          omega
        walk_at "go"
        refine r_ixSq (hS.same sm) (at_n 2 rfl) ?_
        walk_at "go"
        refine ⟨_, gs, rfl, hG.same sm, a4.2.1, fun n hn => Nat.le_trans (a4.2.2 n hn) (by decide), fun H3 s3 => ?_⟩
        walk_at "go"
        refine ⟨(by show 3 ≤ sizeLine; decide), fun p hp => ?_⟩
        refine k _ p ((sm.trans s3).trans (same_new hp)) ((sm.trans s3).free hp) ?_
        rw [upd_same, hweq]
        simp [Ow.words]
    walk_at "go"
    have one_in : il.length = 1 → ∃ i0 iv, il = [i0] ∧ is = [iv] ∧ RAt K H iv i0 := fun h => by
      obtain ⟨i0, rfl⟩ := List.length_eq_one_iff.mp h
      match is, hI with
      | [iv], hI => exact ⟨i0, iv, rfl, rfl, hI.1⟩
    refine r_ite (fun h7 => ?_) (fun h7 => ?_)
    · have e := kind_of (k := 7) (by decide) h7
      cases o <;> first | (exact absurd e (by simp only [Ow.kind]; decide)) | skip
      rename_i fs
      obtain ⟨fv, rfl, hF⟩ := hO
      obtain ⟨a1, a2, a3⟩ := hokO
      obtain ⟨i0, iv, rfl, rfl, hi0⟩ := one_in harr
      obtain ⟨b1, b2, b3⟩ := hpl i0 (by simp)
      have b4 := hwl i0 (by simp)
      walk_at "go"
      refine r_ixSq hS (at_n 1 rfl) ?_
      walk_at "go"
      obtain ⟨q, rfl, hq⟩ := hF
      refine ⟨_, q, fs, rfl, rfl, hq.symm.symm, ?_, ?_⟩
      · have := sum_le (ys := fs) (b := 12) (fun p hp => (a3 p hp).2.1)
        have e : ("," : Str).length = 1 := by rw [len_tl, tl_CM]; rfl
        rw [e]
        omega
      walk_at "go"
      refine ⟨(by show 2 ≤ sizeLine; decide), fun p1 hp1 => ?_⟩
      walk_at "go"
      have s1 := same_new (o := HO.lst [V.str (Ow.faces fs).word, V.str (Txt.join "," fs)]) hp1
      refine r_ixSq (hS.same s1) (at_n 2 rfl) ?_
      walk_at "go"
      refine ⟨iv, i0, rfl, hi0.keep (Same.keeps s1), b1, b2, b3, fun H2 q2 s2 hq2 e2 => ?_⟩
      refine ⟨p1, q2, _, _, rfl, rfl, s2 _ _ upd_same, e2, (by rw [List.length_map]; exact Nat.le_of_lt (line60 (by show 2 + i0.words.length ≤ 1000; omega))), fun p hp => ?_⟩
      refine k _ p ((s1.trans s2).trans (same_new hp)) ((s1.trans s2).free hp) ?_
      rw [upd_same, hweq]
      simp [Ow.words]
    walk_at "go"
    refine r_ite (fun h8 => ?_) (fun h8 => ?_)
    · have e := kind_of (k := 8) (by decide) h8
      cases o <;> first | (exact absurd e (by simp only [Ow.kind]; decide)) | skip
      rename_i a b
      obtain rfl := hO
      obtain ⟨a1, a2⟩ := hokO
      obtain ⟨i0, iv, rfl, rfl, hi0⟩ := one_in harr
      obtain ⟨b1, b2, b3⟩ := hpl i0 (by simp)
      have b4 := hwl i0 (by simp)
      walk_at "go"
      refine r_ixSq hS (at_n 1 rfl) ?_
      walk_at "go"
      refine ⟨log_ok' (by omega), ?_⟩
      walk_at "go"
      refine r_ixSq hS (at_n 2 rfl) ?_
      walk_at "go"
      refine ⟨log_ok' (by omega), ?_⟩
      walk_at "go"
      refine ⟨(by show 3 ≤ sizeLine; decide), fun p1 hp1 => ?_⟩
      walk_at "go"
      have s1 := same_new (o := HO.lst [V.str (Ow.cut a b).word, V.str (toString (a : Int)), V.str (toString (b : Int))]) hp1
      refine r_ixSq (hS.same s1) (at_n 3 rfl) ?_
      walk_at "go"
      refine ⟨iv, i0, rfl, hi0.keep (Same.keeps s1), b1, b2, b3, fun H2 q2 s2 hq2 e2 => ?_⟩
      refine ⟨p1, q2, _, _, rfl, rfl, s2 _ _ upd_same, e2, (by rw [List.length_map]; exact Nat.le_of_lt (line60 (by show 3 + i0.words.length ≤ 1000; omega))), fun p hp => ?_⟩
      refine k _ p ((s1.trans s2).trans (same_new hp)) ((s1.trans s2).free hp) ?_
      rw [upd_same, hweq]
      simp [Ow.words]
      exact ⟨rfl, rfl⟩
    walk_at "go"
    refine r_ite (fun h0 => ?_) (fun h0 => ?_)
    · have e := kind_of (k := 0) (by decide) h0
      cases o <;> first | (exact absurd e (by simp only [Ow.kind]; decide)) | skip
      have hil : il = [] := List.eq_nil_of_length_eq_zero harr
      subst hil
      walk_at "go"
      refine ⟨(by show 1 ≤ sizeLine; decide), fun p hp => ?_⟩
      refine k _ p (same_new hp) hp ?_
      rw [upd_same, hweq]
      rfl
    walk_at "go"
    refine ⟨(by show 2 ≤ sizeLine; decide), fun pt hpt => ?_⟩
    walk_at "go"
    refine ⟨pt, _, rfl, .inr (SqT.of upd_same), rfl, rfl, ?_⟩
    have s0 := same_new (o := HO.tup [V.str "back", V.str "not"]) hpt
    by_cases hk : o.kind = 1 ∨ o.kind = 2
    · have hin : inV (V.str o.word) [V.str "back", V.str "not"] = true := by
        show inV (V.str (wd o.kind)) _ = true
        rcases hk with hk | hk <;> rw [hk] <;> decide +kernel
      have har1 : il.length = 1 := by rw [harr]; rcases hk with hk | hk <;> rw [hk] <;> rfl
      have how : o.words = [] ∧ xs = [] := by
        cases o <;> first | (exact ⟨rfl, hO⟩) | (exact absurd hk (by simp only [Ow.kind]; decide))
      obtain ⟨how, rfl⟩ := how
      obtain ⟨i0, iv, rfl, rfl, hi0⟩ := one_in har1
      obtain ⟨b1, b2, b3⟩ := hpl i0 (by simp)
      have b4 := hwl i0 (by simp)
      walk_at "go"
      rw [hin]
      walk_at "go"
      refine ⟨(by show 1 ≤ sizeLine; decide), fun p1 hp1 => ?_⟩
      walk_at "go"
      have s1 := s0.trans (same_new (o := HO.lst [V.str o.word]) hp1)
      refine r_ixSq (hS.same s1) (at_n 1 rfl) ?_
      walk_at "go"
      refine ⟨iv, i0, rfl, hi0.keep (Same.keeps s1), b1, b2, b3, fun H2 q2 s2 hq2 e2 => ?_⟩
      refine ⟨p1, q2, _, _, rfl, rfl, s2 _ _ upd_same, e2, (by rw [List.length_map]; exact Nat.le_of_lt (line60 (by show 1 + i0.words.length ≤ 1000; omega))), fun p hp => ?_⟩
      refine k _ p ((s1.trans s2).trans (same_new hp)) ((s1.trans s2).free hp) ?_
      rw [upd_same, hweq, how]
      simp
    · have hk34 : o.kind = 3 ∨ o.kind = 4 := by
        cases o with
        | sum m ws g => exact absurd rfl h5
        | square rows gs => exact absurd rfl h6
        | faces fs => exact absurd rfl h7
        | cut a b => exact absurd rfl h8
        | any => exact absurd rfl h0
        | back => exact absurd (.inl rfl) hk
        | not => exact absurd (.inr rfl) hk
        | both => exact .inl rfl
        | either => exact .inr rfl
      have hin : inV (V.str o.word) [V.str "back", V.str "not"] = false := by
        show inV (V.str (wd o.kind)) _ = false
        rcases hk34 with hk | hk <;> rw [hk] <;> decide +kernel
      have har2 : il.length = 2 := by rw [harr]; rcases hk34 with hk | hk <;> rw [hk] <;> rfl
      have how : o.words = [] ∧ xs = [] := by
        cases o <;> first | (exact ⟨rfl, hO⟩) | (exact absurd hk34 (by simp only [Ow.kind]; decide))
      obtain ⟨how, rfl⟩ := how
      obtain ⟨i0, i1, iv, jv, rfl, rfl, hi0, hi1⟩ : ∃ i0 i1 iv jv, il = [i0, i1] ∧ is = [iv, jv] ∧ RAt K H iv i0 ∧ RAt K H jv i1 := by
        match il, is, hI, har2 with
        | [i0, i1], [iv, jv], hI, _ => exact ⟨i0, i1, iv, jv, rfl, rfl, hI.1, hI.2.1⟩
      obtain ⟨b1, b2, b3⟩ := hpl i0 (by simp)
      have b4 := hwl i0 (by simp)
      obtain ⟨c1, c2, c3⟩ := hpl i1 (by simp)
      have c4 := hwl i1 (by simp)
      walk_at "go"
      rw [hin]
      walk_at "go"
      refine ⟨(by show 1 ≤ sizeLine; decide), fun p1 hp1 => ?_⟩
      walk_at "go"
      have s1 := s0.trans (same_new (o := HO.lst [V.str o.word]) hp1)
      refine r_ixSq (hS.same s1) (at_n 1 rfl) ?_
      walk_at "go"
      refine ⟨iv, i0, rfl, hi0.keep (Same.keeps s1), b1, b2, b3, fun H2 q2 s2 hq2 e2 => ?_⟩
      refine ⟨p1, q2, _, _, rfl, rfl, s2 _ _ upd_same, e2, (by rw [List.length_map]; exact Nat.le_of_lt (line60 (by show 1 + i0.words.length ≤ 1000; omega))), fun p3 hp3 => ?_⟩
      walk_at "go"
      have s3 := (s1.trans s2).trans (same_new (o := HO.lst ([V.str o.word] ++ i0.words.map V.str)) hp3)
      refine r_ixSq (hS.same s3) (at_n 2 rfl) ?_
      walk_at "go"
      refine ⟨jv, i1, rfl, hi1.keep (Same.keeps s3), c1, c2, c3, fun H4 q4 s4 hq4 e4 => ?_⟩
      refine ⟨p3, q4, _, _, rfl, rfl, s4 _ _ upd_same, e4, (by rw [List.length_append, List.length_map, List.length_map]; exact Nat.le_of_lt (line60 (by show 1 + i0.words.length + i1.words.length ≤ 1000; omega))), fun p hp => ?_⟩
      refine k _ p ((s3.trans s4).trans (same_new hp)) ((s3.trans s4).free hp) ?_
      rw [upd_same, hweq, how]
      simp
theorem lr_all {f : Addr} {fd : FuncData} (F : Fun K "_law_rule_words" "_law_rule_words" sLRuleWords f fd) (B : Bl mg) (Ocm : OLCommas P w K mg base) (m : mg "_law_rule_words" = some (.ref f)) (b : Binds K fd ["_law_rule"] []) : ∀ n : Nat, OLR n P w K mg base
  | 0 => ⟨f, fd, none_ok fun vs H Q E h => by obtain ⟨v, r, _, _, _, _, hd, _⟩ := h; cases r <;> simp [R.depth] at hd, m, F.kp, b⟩
  | n + 1 => ⟨f, fd, ok_lRuleWords F B Ocm (lr_all F B Ocm m b n), m, F.kp, b⟩
end
end K4

/-! P7c -/


namespace K4
open PySem L2 K1
section
variable {P : Program} {w : World} {K : PySem.W.Frag} {mg : Str → Option Value} {base : Heap} {dO dI : Addr}
abbrev OOwnWords (P : Program) (w : World) (K : PySem.W.Frag) (mg : Str → Option Value) (base : Heap) : Prop := Own P w K mg base "own_words" 2 ["word", "values"] (spOwnWords K)
abbrev OOwnValues (P : Program) (w : World) (K : PySem.W.Frag) (mg : Str → Option Value) (base : Heap) : Prop := Own P w K mg base "own_values" 1 ["part"] (spOwn K)
abbrev OInnerRules (P : Program) (w : World) (K : PySem.W.Frag) (mg : Str → Option Value) (base : Heap) : Prop := Own P w K mg base "inner_rules" 1 ["part"] (spInner K)
abbrev ORW (n : Nat) (P : Program) (w : World) (K : PySem.W.Frag) (mg : Str → Option Value) (base : Heap) : Prop := Own P w K mg base "rule_words" (n + 2) ["rule"] (spRW K n)
theorem flat_next {r : R} {i : Nat} {x : R} (h : r.inner[i]? = some x) : (((r.inner.take i).map R.words).flatten ++ x.words) = ((r.inner.take (i + 1)).map R.words).flatten := by
  rw [List.take_succ, h]; simp
theorem take_words_le (r : R) (i : Nat) : (r.ow.word :: (r.ow.words ++ ((r.inner.take i).map R.words).flatten)).length ≤ r.words.length := by
  rw [r.words_eq]
  have : ((r.inner.take i).map R.words).flatten.length ≤ ((r.inner).map R.words).flatten.length := by
    conv => rhs; rw [← List.take_append_drop i r.inner]
    rw [List.map_append, List.flatten_append, List.length_append]
    omega
  simp only [List.length_cons, List.length_append]
  omega
theorem ok_ruleWords {n : Nat} {f : Addr} {fd : FuncData} (F : Fun K "rule_words" "rule_words" sRuleWords f fd) (B : Bl mg) (Oow : OOwnWords P w K mg base) (Oov : OOwnValues P w K mg base) (Oir : OInnerRules P w K mg base) (Orw : ORW n P w K mg base) :
    FnOk P w K mg base CX0 (n + 1 + 2) f fd ["rule"] (spRW K (n + 1)) := by
  refine F.ok scRuleWords (fun vs H Q E h => ?_) (fun cdv A outer s H vs Q E hr h => ?_)
  · obtain ⟨v, r, rfl, _⟩ := h
    rfl
  · obtain ⟨v, r, rfl, hA, hok, h100, hd, k⟩ := h
    have hwb := words_bound h100
    obtain ⟨xs, is, hS, hO, hI⟩ := hA.open
    have hxl := hO.len
    refine ⟨_, (pss_cons (ps_set (i := 1) scRuleWords.nd rfl (Or.inl rfl) (pe_lst (pa_cons (pe_ix ix_seq (pv 0) pe_int (fun _ _ => rfl)) (StX.pa_star (pe_own Oow (hr.mono (by omega)) (pa_cons (pe_ix ix_seq (pv 0) pe_int (fun _ _ => rfl)) (pa_cons (pe_own Oov (hr.mono (by omega)) (pa_cons (pv 0) pa_nil)) pa_nil))) pa_nil)))) (pss_cons (ps_for PassesOwn.never rfl (pi_sq (pe_own Oir (hr.mono (by omega)) (pa_cons (pv 0) pa_nil))) (pg_name (i := 2) scRuleWords.nd rfl (Or.inl rfl)) (pss_one (ps_expr (pe_bm PySem.F.plainAttrs_list PySem.F.slot_list_extend PySem.F.type_list_extend mt_extend (pv 1) (pa_cons (pe_own Orw hr (pa_cons (pv 2) pa_nil)) pa_nil))))) (pss_one (ps_ret (pv 1))))), ?_⟩
    try dsimp only [cxOf, Cx.nox, Cx.wish]
    walk_at "go"
    refine r_ixSq hS at0 ?_
    walk_at "go"
    refine r_ixSq hS at0 ?_
    walk_at "go"
    refine ⟨v, r.ow.kind, xs, is, rfl, r.ow.kind_lt, hS, hxl, fun v1 H1 s1 h1 => ?_⟩
    walk_at "go"
    refine ⟨r.ow, v1, xs, rfl, h1, hO.keep (Same.keeps s1), R.ok_ow hok, fun H2 p s2 e2 => ?_⟩
    refine ⟨p, _, rfl, .inr (SqL.of e2), ?_⟩
    walk_at "go"
    have hlen1 : (r.ow.words).length ≤ 3 := by rw [Ow.words_len]; exact mn_le _
    refine ⟨(by rw [List.length_cons, List.append_nil, List.length_map]; exact Nat.le_of_lt (line60 (by omega))), fun L hL => ?_⟩
    have s12 := s1.trans s2
    have hLH : H L = none := s12.free hL
    walk_at "go"
    have s3 : Same H (upd H2 L (.lst (V.str r.ow.word :: (r.ow.words.map V.str ++ [])))) := same_upd s12 hLH
    refine ⟨v, r.ow.kind, xs, is, rfl, r.ow.kind_lt, hS.same s3, hxl, fun p3 H3 hp3 s4 h3 => ?_⟩
    have np : V.ref p3 ≠ V.ref L := fun q => by rw [V.ref.inj q, upd_same] at hp3; cases hp3
    have eL : H3 L = some (.lst ((r.ow.word :: (r.ow.words ++ ((r.inner.take 0).map R.words).flatten)).map V.str)) := by
      rw [s4 _ _ upd_same]
      simp
    have s5 := s3.trans s4
    refine fr_sq h3 (fun i σ H' => ∃ oi, σ = [some v, some (.ref L), oi] ∧ Same H H' ∧ Kp L H3 H' ∧ H' L = some (.lst ((r.ow.word :: (r.ow.words ++ ((r.inner.take i).map R.words).flatten)).map V.str))) ⟨none, rfl, s5, Kp.refl _ _, eL⟩ (fun i σ H' _ ⟨_, _, _, kp, _⟩ => Kp.at kp np) ?_ ?_ (fun J h => h)
    · rintro i x σ H' hx ⟨oi, rfl, sm, kp, el⟩
      obtain ⟨ri, hri, hRA⟩ := hI.get hx
      have hmem := List.mem_of_getElem? hri
      walk_at "go"
      refine ⟨tyL (SqL.of el), ?_⟩
      walk_at "go"
      refine ⟨x, ri, rfl, hRA.keep (Same.keeps sm), R.ok_in hok ri hmem, Nat.le_trans (part_le hmem) h100, by have := R.in_depth ri hmem; omega, fun H4 q s6 hq e4 => ?_⟩
      walk_at "go"
      have tb := take_words_le r i
      have wb := words_bound (Nat.le_trans (part_le hmem) h100)
      refine ⟨L, q, _, _, rfl, rfl, s6 _ _ el, e4, ?_, ?_⟩
      · rw [List.length_map, List.length_map]
        exact Nat.le_of_lt (line60 (by omega))
      refine ⟨_, rfl, same_upd (sm.trans s6) hLH, fun c o n e => ?_, ?_⟩
      · rw [upd_ne n]
        exact s6 _ _ (kp c o n e)
      · rw [upd_same, ← List.map_append, List.cons_append, List.append_assoc, flat_next hri]
    · rintro σ H' ⟨oi, rfl, sm, kp, el⟩
      walk_at "go"
      rw [hI.len, List.take_length, ← r.words_eq] at el
      exact k _ L sm hLH el
theorem rw_all {f : Addr} {fd : FuncData} (F : Fun K "rule_words" "rule_words" sRuleWords f fd) (B : Bl mg) (Oow : OOwnWords P w K mg base) (Oov : OOwnValues P w K mg base) (Oir : OInnerRules P w K mg base)
    (m : mg "rule_words" = some (.ref f)) (b : Binds K fd ["rule"] []) : ∀ n : Nat, ORW n P w K mg base
  | 0 => ⟨f, fd, none_ok fun vs H Q E h => by obtain ⟨v, r, _, _, _, _, hd, _⟩ := h; cases r <;> simp [R.depth] at hd, m, F.kp, b⟩
  | n + 1 => ⟨f, fd, ok_ruleWords F B Oow Oov Oir (rw_all F B Oow Oov Oir m b n), m, F.kp, b⟩
theorem ok_writeRule {f : Addr} {fd : FuncData} (F : Fun K "write_rule" "write_rule" sWriteRule f fd) (B : Bl mg) (Orw : ORW 42 P w K mg base) : FnOk P w K mg base CX0 45 f fd ["rule"] (spWR K) := by
  refine F.ok scWriteRule (fun vs H Q E h => ?_) (fun cdv A outer s H vs Q E hr h => ?_)
  · obtain ⟨v, r, rfl, _⟩ := h
    rfl
  · obtain ⟨v, r, rfl, hA, hok, h100, hd, k⟩ := h
    refine ⟨_, (pss_one (ps_ret (pe_m1 PySem.F.slot_str_join PySem.F.type_str_join mt_join pe_str (pe_own Orw (hr.mono (by omega)) (pa_cons (pv 0) pa_nil))))), ?_⟩
    try dsimp only [cxOf, Cx.nox, Cx.wish]
    walk_at "go"
    refine ⟨v, r, rfl, hA, hok, h100, hd, fun H1 p s1 _ e1 => ?_⟩
    walk_at "go"
    refine ⟨_, p, r.words, rfl, rfl, .inl (SqL.of e1), ?_, k _ s1⟩
    have := sum_le (ys := r.words) (b := 2500) (fun p hp => (R.words_ok hok p hp).2)
    have wb := words_bound h100
    have e : (" " : Str).length = 1 := by rw [len_tl, tl_SP]; rfl
    rw [e]
    omega
end
end K4

/-! Zm -/
/-! zip of a tuple and a list; enumerate of a tuple. -/
namespace K4
open PySem L2 PySem.Spec PyProof.Rows
/-- the tuple at a and the list at b as they stand at each turn, the items in new pairs -/
def ItzM (K : PySem.W.Frag) (a b : Addr) : It :=
  ⟨fun i H => ∃ (xs ys : List V) (x y : V), SqT K H a xs ∧ SqL K H b ys ∧ xs[i]? = some x ∧ ys[i]? = some y,
    fun i H v H' => ∃ T x y, v = .ref T ∧ H T = none ∧ H' = upd H T (.tup [x, y]) ∧ (∀ xs, SqT K H a xs → xs[i]? = some x) ∧ ∀ ys, SqL K H b ys → ys[i]? = some y,
    fun i H => ∃ xs ys : List V, SqT K H a xs ∧ SqL K H b ys ∧ xs.length = ys.length ∧ i = xs.length⟩
theorem turn_zipM {P : Program} {w : World} {K : PySem.W.Frag} {elts : List Expr} {kk : Nat} {tpos : Pos} {a b z TI TO i1 i2 : Addr} (S : ZipSep2 z TI TO i1 i2 [i1, a] [i2, b]) (n1 : a ≠ i1) (n2 : b ≠ i2) :
    Turn P w K (.Tuple elts kk tpos) (ItzM K a b) [z, TI, TO, i1, i2] z (fun i h => IsZip h z TI TO .none ∧ IsTupOf2 h TI (.ref i1) (.ref i2) ∧ (∃ x y, IsTupOf2 h TO x y) ∧ h.IsTupleIter i1 a i ∧ h.IsListIter i2 b i) where
  mem := by simp
  obj := fun i h st c hc => by
    obtain ⟨hz, hTI, ⟨x, y, hTO⟩, ⟨o1, e1, _, d1⟩, ⟨o2, e2, _, d2⟩⟩ := st
    have e' : c = z ∨ c = TI ∨ c = TO ∨ c = i1 ∨ c = i2 := by simpa using hc
    rcases e' with q | q | q | q | q
    · rw [q]; exact ⟨_, hz, fun v q => nomatch q⟩
    · rw [q]; exact ⟨_, hTI, fun v q => nomatch q⟩
    · rw [q]; exact ⟨_, hTO, fun v q => nomatch q⟩
    · rw [q]; exact ⟨o1, e1, fun v q => by rw [d1] at q; cases q⟩
    · rw [q]; exact ⟨o2, e2, fun v q => by rw [d2] at q; cases q⟩
  keep := fun i h h' st k => by
    obtain ⟨hz, hTI, ⟨x, y, hTO⟩, h1, h2⟩ := st
    exact ⟨k z (by simp) _ hz, k TI (by simp) _ hTI, ⟨x, y, k TO (by simp) _ hTO⟩, h1.at fun o q => k i1 (by simp) o q, h2.at fun o q => k i2 (by simp) o q⟩
  item := by
    intro X hP hw hK hc i pins s σ H E I hf st hg
    subst hP hw hK
    obtain ⟨hz, hTI, ⟨x0, y0, hTO⟩, h1, h2⟩ := st
    obtain ⟨xs, ys, x, y, hqx, hqy, hx, hy⟩ := hg
    obtain ⟨its, rv, p, _⟩ := I.tuple hqx
    obtain ⟨its2, rv2, p2, _⟩ := I.list hqy
    obtain ⟨u, hu, ru⟩ := rv.get hx
    obtain ⟨u2, hu2, ru2⟩ := rv2.get hy
    have hzl : z < s.heap.objs.size := Heap.lt_size hz
    have hh : X.A.in1.handled = none := I.ok.hd hc
    have l1 : i < its.toArray.size := by
      have := (List.getElem?_eq_some_iff.mp hu).1
      simpa using this
    have l2 : i < its2.toArray.size := by
      have := (List.getElem?_eq_some_iff.mp hu2).1
      simpa using this
    refine wpAny_pyNext_zipD2_item S (Draws.tuple hh i1 a n1 its.toArray) (Draws.list hh i2 b n2 its2.toArray) hz hTI hTO ⟨h1, p⟩ ⟨h2, p2.isList⟩ l1 l2 fun x1 x2 h' tk hx1 hx2 z' TO' h1' h2' hT hsz hk => ?_
    have ex1 : x1 = u := Option.some.inj (hx1.symm.trans (by simpa using hu))
    have ex2 : x2 = u2 := Option.some.inj (hx2.symm.trans (by simpa using hu2))
    subst ex1 ex2
    refine ⟨_, rfl, wpAny_letOwnedTupleGo_zip (s := { s with heap := h', toks := tk }) z' fun h'' z'' sb => ?_⟩
    have hT2 : h''.get? s.heap.objs.size = some { cls := .type "tuple", data := .seq #[x1, x2] } := (sb.2 _ (Nat.ne_of_gt hzl)).trans hT
    have new : ObjOk X.prog X.w (upd H s.heap.objs.size (.tup [x, y])) h'' s.heap.objs.size (.tup [x, y]) :=
      ⟨by show 2 ≤ sizeLine; decide, [x1, x2], .cons ru (.cons ru2 .nil), ⟨_, hT2, rfl, _, rfl⟩⟩
    have I1 : L2.Inv X pins σ (upd H s.heap.objs.size (.tup [x, y])) { s with heap := h'', toks := tk } :=
      I.turnedNew (t' := tk) (ch := [z, TI, TO, i1, i2]) (fun c o hb q => (sb.2 c (fun q' => hb (by simp [q']))).trans (hk c o (fun q' => hb (by simp [q'])) (fun q' => hb (by simp [q'])) (fun q' => hb (by simp [q'])) (fun q' => hb (by simp [q'])) q)) hf (Nat.le_refl _) new
    refine ⟨.ref s.heap.objs.size, _, I1, rfl, ⟨_, x, y, rfl, I.hok.fresh (Nat.le_refl _), rfl, fun l hl => by rw [I.tuple_inj hl hqx]; exact hx, fun l hl => by rw [I.list_inj hl hqy]; exact hy⟩, ⟨z'', ?_, ⟨x1, x2, ?_⟩, ?_, ?_⟩, fun c hcm => ?_⟩
    · exact (sb.2 _ S.TIz).trans (hk _ _ S.TIz S.TITO S.TIi1 S.TIi2 hTI)
    · exact (sb.2 _ S.TOz).trans TO'
    · exact h1'.1.at fun o q => (sb.2 _ (Ne.symm S.zi1)).trans q
    · exact h2'.1.at fun o q => (sb.2 _ (Ne.symm S.zi2)).trans q
    · have hlt : c < s.heap.objs.size := by
        have e' : c = z ∨ c = TI ∨ c = TO ∨ c = i1 ∨ c = i2 := by simpa using hcm
        rcases e' with q | q | q | q | q
        · rw [q]; exact hzl
        · rw [q]; exact Heap.lt_size hTI
        · rw [q]; exact Heap.lt_size hTO
        · rw [q]; obtain ⟨_, e1, _⟩ := h1; exact Heap.lt_size e1
        · rw [q]; obtain ⟨_, e2, _⟩ := h2; exact Heap.lt_size e2
      rw [upd_ne (Nat.ne_of_lt hlt)]
      exact (hf c hcm).1
  done := by
    intro X hP hw hK hc i pins s σ H E I hf st hg
    subst hP hw hK
    obtain ⟨hz, hTI, ⟨x0, y0, hTO⟩, h1, h2⟩ := st
    obtain ⟨xs, ys, hqx, hqy, hend, hi⟩ := hg
    obtain ⟨its, rv, p, _⟩ := I.tuple hqx
    obtain ⟨its2, rv2, p2, _⟩ := I.list hqy
    have l1 := rv.length
    have l2 := rv2.length
    have hh : X.A.in1.handled = none := I.ok.hd hc
    have e1 : i = its.toArray.size := by simp; omega
    have e2 : i = its2.toArray.size := by simp; omega
    refine wpAny_pyNext_zipD2_end S (Draws.tuple hh i1 a n1 its.toArray) (Draws.list hh i2 b n2 its2.toArray) hz hTI hTO ⟨h1, p⟩ ⟨h2, p2.isList⟩ (Nat.le_of_eq e1) (Nat.le_of_eq e2) (.inl e1) fun h' tk hk => ⟨rfl, I.turnedL (t' := tk) (ch := [z, TI, TO, i1, i2]) (fun c o hb q =>
      hk c o (fun q' => hb (by simp [q'])) (fun q' => hb (by simp [q'])) (fun q' => hb (by simp [q'])) (fun q' => hb (by simp [q'])) q) hf⟩
  self := fun A i s Q E st h => wpAny_pyIter_zip st.1 h
def ZipIt (K : PySem.W.Frag) (vs : List V) (R : It → Hp → Prop) (H1 : Hp) : Prop := ∃ a b xs ys, vs = [.ref a, .ref b] ∧ SqT K H1 a xs ∧ ((SqT K H1 b ys ∧ R (RZ.ItzT K a b) H1) ∨ (SqL K H1 b ys ∧ R (ItzM K a b) H1))
def iZipM (K : PySem.W.Frag) (ta : TA) : TI := fun σ H R => ta σ H fun vs H1 => ZipIt K vs R H1
theorem pi_zipM {X : Cx} {e e2 : Expr} {ta : TA} {p pos tpos : Pos} {elts : List Expr} {kk : Nat} (hg : Gl X "zip") (hm : X.mg "zip" = none) (ha : PA X [e, e2] ta)
    (hs : starEach [e, e2] X.env = (false, eval e X.env) :: starEach [e2] X.env := by rfl) (hpl : (backTo pos (starEach [e2] X.env)).any (·.1) = false := by rfl) :
    PI X (.Tuple elts kk tpos) (.Call (.Name "zip" p) [e, e2] [] pos) (iZipM X.K ta) := by
  refine ⟨fun pins s σ H R I h => ?_⟩
  refine Call_ (ld_blt I hg hm PyProof.Rows.boot_zip (PyProof.Rows.callWith_type1 (thn (ha.run pos pins s σ H _ I h) fun us s1 ⟨vs, H1, I1, r1, q1⟩ => ?_) hs hpl))
  obtain ⟨a, b, xs, ys, ex, hqx, q1⟩ := q1
  subst ex
  cases r1 with
  | cons r rr =>
    cases rr with
    | cons r' rr =>
      cases rr
      cases r
      cases r'
      have fresh5 : ∀ c, c ∈ [s1.heap.objs.size + 4, s1.heap.objs.size + 2, s1.heap.objs.size + 3, s1.heap.objs.size, s1.heap.objs.size + 1] → FpOk X pins H1 c := fun c hcm => by
        have e' : c = s1.heap.objs.size + 4 ∨ c = s1.heap.objs.size + 2 ∨ c = s1.heap.objs.size + 3 ∨ c = s1.heap.objs.size ∨ c = s1.heap.objs.size + 1 := by simpa using hcm
        have hle : s1.heap.objs.size ≤ c := by
          rcases e' with z | z | z | z | z
          · rw [z]; exact Nat.le_add_right _ _
          · rw [z]; exact Nat.le_add_right _ _
          · rw [z]; exact Nat.le_add_right _ _
          · rw [z]; exact Nat.le_refl _
          · rw [z]; exact Nat.le_add_right _ _
        exact I1.fpOk hle (I1.hok.fresh hle)
      obtain ⟨its, rv, p1, _⟩ := I1.tuple hqx
      obtain ⟨o1, ho1, _⟩ := id p1
      rcases q1 with ⟨hqy, q⟩ | ⟨hqy, q⟩
      · obtain ⟨its2, rv2, p2, _⟩ := I1.tuple hqy
        obtain ⟨o2, ho2, _⟩ := id p2
        refine RZ.call_zipT (show s1.heap.IsTuple a its.toArray from p1) (show s1.heap.IsTuple b its2.toArray from p2) fun h' hz hTI hTO h1 h2 hsz hk => wpAny_pyIter_zip hz ?_
        have I2 : L2.Inv X pins σ H1 { s1 with heap := h' } := I1.kept (t' := s1.toks) hk
        exact ⟨s1.heap.objs.size + 4, [s1.heap.objs.size + 4, s1.heap.objs.size + 2, s1.heap.objs.size + 3, s1.heap.objs.size, s1.heap.objs.size + 1], _, _, H1, rfl, I2, RZ.turn_zipT (PySem.W.ktu_apart s1.heap.objs.size a b (Heap.lt_size ho1) (Heap.lt_size ho2)), ⟨hz, hTI, ⟨_, _, hTO⟩, h1, h2⟩, fresh5, q⟩
      · obtain ⟨its2, rv2, p2, _⟩ := I1.list hqy
        have lt2 := p2.lt
        refine zip_begins2 (begins_tuple a its.toArray) (begins_list b its2.toArray) p1 p2.isList fun h' hz hTI hTO h1 h2 hsz hk => wpAny_pyIter_zip hz ?_
        have I2 : L2.Inv X pins σ H1 { s1 with heap := h' } := I1.kept (t' := s1.toks) hk
        have la : a < s1.heap.objs.size := Heap.lt_size ho1
        have S : ZipSep2 (s1.heap.objs.size + 4) (s1.heap.objs.size + 2) (s1.heap.objs.size + 3) s1.heap.objs.size (s1.heap.objs.size + 1) [s1.heap.objs.size, a] [s1.heap.objs.size + 1, b] :=
          zip_sep2 (fp1 := [a]) (fp2 := [b]) (fun c hc => by rw [List.mem_singleton.mp hc]; exact la) (fun c hc => by rw [List.mem_singleton.mp hc]; exact lt2)
        exact ⟨s1.heap.objs.size + 4, [s1.heap.objs.size + 4, s1.heap.objs.size + 2, s1.heap.objs.size + 3, s1.heap.objs.size, s1.heap.objs.size + 1], _, _, H1, rfl, I2, turn_zipM S (Nat.ne_of_lt la) (Nat.ne_of_lt (Nat.lt_succ_of_lt lt2)), ⟨hz, hTI, ⟨_, _, hTO⟩, ⟨_, h1, rfl, rfl⟩, ⟨_, h2, rfl, rfl⟩⟩, fresh5, q⟩
/-! ### enumerate(tuple) -/
theorem enum_newT {v : Value} {o : Obj} {HH : Heap → Prop} (B : Begins v o HH) :
    Meets (Builtin.«enumerate.__new__» ⟨[.type "enumerate", v], []⟩) (fun _ R s => HH s.heap ∧
      R (.ok (.ret (.ref (s.heap.push o).objs.size))) { s with heap := (s.heap.push o).push { cls := .type "enumerate", data := .fields #[.none, .bool false, .ref s.heap.objs.size, rawInt 0, .none, .none] } }) :=
  .of_wp fun prog w A R s h => by
    obtain ⟨hp, g, d, tk, os⟩ := s; obtain ⟨h1, h⟩ := h
    have hsub := sub_enumerate
    have q1 : ∀ {A' : Around} {E : Value → Shared → Prop} {Q : Value → Shared → Prop}, Q (.ref hp.objs.size) ⟨hp.push o, g, d, tk, os⟩ → wpAny (model prog w) A' (pyIter v) Q E ⟨hp, g, d, tk, os⟩ :=
      fun q => B.iter prog w _ _ ⟨hp, g, d, tk, os⟩ _ h1 q
    wp_walk using q1
    refine wpAny_stack_any fun st => wpAny_pure ?_
    split
    · rename_i c _ _ _ _ _
      cases (c == Value.type "enumerate")
      · wp_walk using q1
        exact ⟨_, rfl, h⟩
      · wp_walk using q1
        exact ⟨_, rfl, h⟩
    · wp_walk using q1
      exact ⟨_, rfl, h⟩
theorem call_enumT {prog : Program} {w : World} {A : Around} {E : Value → Shared → Prop} {s : Shared} {l : Addr} {items : Array Value} {Q : Value → Shared → Prop} (hL : s.heap.IsTuple l items)
    (h : ∀ h', IsEnum h' (s.heap.objs.size + 1) s.heap.objs.size 0 .none → h'.IsTupleIter s.heap.objs.size l 0 → h'.objs.size = s.heap.objs.size + 2 →
      (∀ b o, s.heap.get? b = some o → h'.get? b = some o) → Q (.ref (s.heap.objs.size + 1)) { s with heap := h' }) :
    wpAny (model prog w) A (call (.type "enumerate") [.ref l]) Q E s := by
  refine callType_new F.called_enumerate (by decide) (F.typeCall_enumerate_1 _) (F.newCall_enumerate_1 _) (fun obj => F.args_object_init_2 obj _) F.entry_enumerate_new
    (enum_newT (begins_tuple l items)) ⟨hL, ?_⟩
  have hz : (s.heap.push { cls := .type "tuple_iterator", data := .fields #[.ref l, .int 0 0] }).objs.size = s.heap.objs.size + 1 := Heap.size_push ..
  show _ ∧ _
  rw [hz]
  have he : IsEnum ((s.heap.push { cls := .type "tuple_iterator", data := .fields #[.ref l, .int 0 0] }).push
      { cls := .type "enumerate", data := .fields #[.none, .bool false, .ref s.heap.objs.size, rawInt 0, .none, .none] }) (s.heap.objs.size + 1) s.heap.objs.size 0 .none := by
    have := Heap.get?_push_size (s.heap.push { cls := .type "tuple_iterator", data := .fields #[.ref l, .int 0 0] })
      (o := { cls := .type "enumerate", data := .fields #[.none, .bool false, .ref s.heap.objs.size, rawInt 0, .none, .none] }) rfl
    rw [hz] at this; exact this
  refine ⟨⟨_, he, rfl⟩, h _ he ⟨_, Heap.get?_push_of_some _ (Heap.get?_push_size _ rfl), rfl, rfl⟩ (by rw [Heap.size_push, hz]) fun b o x => Heap.get?_push_of_some _ (Heap.get?_push_of_some _ x)⟩
/-- the tuple at a, each item in a new pair -/
def IteT (K : PySem.W.Frag) (a : Addr) : It :=
  ⟨fun i H => ∃ (xs : List V) (x : V), SqT K H a xs ∧ xs[i]? = some x, fun i H v H' => ∃ T x, v = .ref T ∧ H T = none ∧ H' = upd H T (.tup [.int (i : Nat), x]) ∧ ∀ xs, SqT K H a xs → xs[i]? = some x, fun i H => ∃ xs : List V, SqT K H a xs ∧ i = xs.length⟩
theorem turn_enumT {P : Program} {w : World} {K : PySem.W.Frag} {elts : List Expr} {kk : Nat} {tpos : Pos} {a e it : Addr} (hne : e ≠ it) (ha : a ≠ it) (hae : e ≠ a) :
    Turn P w K (.Tuple elts kk tpos) (IteT K a) [e, it] e (fun i h => (∃ old, IsEnum h e it ((i : Nat) : Int) old) ∧ h.IsTupleIter it a i) where
  mem := by simp
  obj := fun i h st b hb => by
    obtain ⟨⟨old, he⟩, ⟨o, ho, hc, hd⟩⟩ := st
    have e' : b = e ∨ b = it := by simpa using hb
    rcases e' with z | z
    · rw [z]; exact ⟨_, he, fun v q => nomatch q⟩
    · rw [z]; exact ⟨o, ho, fun v q => by rw [hd] at q; cases q⟩
  keep := fun i h h' st k => let ⟨⟨old, he⟩, hi⟩ := st; ⟨⟨old, k e (by simp) _ he⟩, hi.at fun o q => k it (by simp) o q⟩
  item := by
    intro X hP hw hK hc i pins s σ H E I hf st hg
    subst hP hw hK
    obtain ⟨⟨old, he⟩, hit⟩ := st
    obtain ⟨xs, x, hq, hx⟩ := hg
    obtain ⟨its, rv, p, hz⟩ := I.tuple hq
    obtain ⟨u, hu, ru⟩ := rv.get hx
    have hel : e < s.heap.objs.size := Heap.lt_size he
    have hil : it < s.heap.objs.size := by obtain ⟨_, q, _⟩ := hit; exact Heap.lt_size q
    have hh : X.A.in1.handled = none := I.ok.hd hc
    have l1 : i < its.toArray.size := by
      have := (List.getElem?_eq_some_iff.mp hu).1
      simpa using this
    refine wpAny_pyNext_enum_itemC (Draws.tuple hh it a ha its.toArray) he ⟨hit, p⟩ l1 hne (by simp [hne, hae]) fun x1 h' tk hx1 ho hit' hT hsz hk => ?_
    have ex1 : x1 = u := Option.some.inj (hx1.symm.trans (by simpa using hu))
    subst ex1
    refine ⟨_, rfl, wpAny_letOwnedTupleGo_enum (s := { s with heap := h', toks := tk + 1 }) ho fun h'' he' sb => ?_⟩
    have hT2 : h''.get? s.heap.objs.size = some { cls := .type "tuple", data := .seq #[.int i tk, x1] } := (sb.2 _ (Nat.ne_of_gt hel)).trans hT
    have new : ObjOk X.prog X.w (upd H s.heap.objs.size (.tup [.int (i : Nat), x])) h'' s.heap.objs.size (.tup [.int (i : Nat), x]) :=
      ⟨by show 2 ≤ sizeLine; decide, [.int i tk, x1], .cons ⟨_, rfl⟩ (.cons ru .nil), ⟨_, hT2, rfl, _, rfl⟩⟩
    have I1 : L2.Inv X pins σ (upd H s.heap.objs.size (.tup [.int (i : Nat), x])) { s with heap := h'', toks := tk + 1 } :=
      I.turnedNew (t' := tk + 1) (ch := [e, it]) (fun b ob hb q => (sb.2 b (fun z => hb (by simp [z]))).trans (hk b ob (fun z => hb (by simp [z])) (fun z => hb (by simp [z])) q)) hf (Nat.le_refl _) new
    refine ⟨.ref s.heap.objs.size, _, I1, rfl, ⟨_, x, rfl, I.hok.fresh (Nat.le_refl _), rfl, fun ys hy => by rw [I.tuple_inj hy hq]; exact hx⟩, ⟨⟨x1, ?_⟩, hit'.1.at fun o q => (sb.2 it (Ne.symm hne)).trans q⟩, fun b hb => ?_⟩
    · have e1 : ((i + 1 : Nat) : Int) = (i : Int) + 1 := by omega
      rw [e1]; exact he'
    · have hb' : b < s.heap.objs.size := by
        have e' : b = e ∨ b = it := by simpa using hb
        rcases e' with z | z
        · rw [z]; exact hel
        · rw [z]; exact hil
      rw [upd_ne (Nat.ne_of_lt hb')]
      exact (hf b hb).1
  done := by
    intro X hP hw hK hc i pins s σ H E I hf st hg
    subst hP hw hK
    obtain ⟨⟨old, he⟩, hit⟩ := st
    obtain ⟨xs, hq, hx⟩ := hg
    obtain ⟨its, rv, p, hz⟩ := I.tuple hq
    have hh : X.A.in1.handled = none := I.ok.hd hc
    have hl := rv.length
    have e1 : i = its.toArray.size := by simp; omega
    subst e1
    refine wpAny_pyNext_enum_endD (Draws.tuple hh it a ha its.toArray) he ⟨hit, p⟩ fun h' hx => ⟨rfl, I.turnedL (t' := s.toks) (ch := [e, it]) (fun b o hb q => hx b o (fun z => hb (by simp [z])) q) hf⟩
  self := fun A i s Q E st h => let ⟨⟨_, he⟩, _⟩ := st; wpAny_pyIter_enum he h
def EnIt (K : PySem.W.Frag) (vs : List V) (R : It → Hp → Prop) (H1 : Hp) : Prop := ∃ a xs, vs = [.ref a] ∧ ((SqL K H1 a xs ∧ R (Ite K a) H1) ∨ (SqT K H1 a xs ∧ R (IteT K a) H1))
def iEnumA (K : PySem.W.Frag) (ta : TA) : TI := fun σ H R => ta σ H fun vs H1 => EnIt K vs R H1
theorem pi_enumA {X : Cx} {e : Expr} {ta : TA} {p pos tpos : Pos} {elts : List Expr} {kk : Nat} (hg : Gl X "enumerate") (hm : X.mg "enumerate" = none) (ha : PA X [e] ta) (hs : starEach [e] X.env = [(false, eval e X.env)] := by rfl) :
    PI X (.Tuple elts kk tpos) (.Call (.Name "enumerate" p) [e] [] pos) (iEnumA X.K ta) := by
  refine ⟨fun pins s σ H R I h => ?_⟩
  obtain h := h
  refine Call_ (ld_blt I hg hm boot_enumerate (PyProof.Rows.callWith_type1 (thn (ha.run pos pins s σ H _ I h) fun us s1 ⟨vs, H1, I1, r1, q1⟩ => ?_) hs rfl))
  obtain ⟨a, xs, ex, q1⟩ := q1
  subst ex
  cases r1 with
  | cons r rr =>
    cases rr
    cases r
    have fr : ∀ b ∈ [s1.heap.objs.size + 1, s1.heap.objs.size], FpOk X pins H1 b := fun b hb => by
      have e' : b = s1.heap.objs.size + 1 ∨ b = s1.heap.objs.size := by simpa using hb
      have hle : s1.heap.objs.size ≤ b := by
        rcases e' with z | z
        · rw [z]; exact Nat.le_succ _
        · rw [z]; exact Nat.le_refl _
      exact I1.fpOk hle (I1.hok.fresh hle)
    rcases q1 with ⟨hq, q⟩ | ⟨hq, q⟩
    · obtain ⟨its, rv, p', hz⟩ := I1.list hq
      refine call_enumerate_list p'.isList fun h' he hit hsz hk => wpAny_pyIter_enum he ?_
      have I2 : L2.Inv X pins σ H1 { s1 with heap := h' } := I1.kept (t' := s1.toks) hk
      exact ⟨s1.heap.objs.size + 1, [s1.heap.objs.size + 1, s1.heap.objs.size], _, _, H1, rfl, I2, turn_enum a _ _, ⟨⟨_, he⟩, hit, Nat.succ_ne_self _⟩, fr, q⟩
    · obtain ⟨its, rv, p', hz⟩ := I1.tuple hq
      obtain ⟨o1, ho1, _⟩ := id p'
      have la : a < s1.heap.objs.size := Heap.lt_size ho1
      refine call_enumT (show s1.heap.IsTuple a its.toArray from p') fun h' he hit hsz hk => wpAny_pyIter_enum he ?_
      have I2 : L2.Inv X pins σ H1 { s1 with heap := h' } := I1.kept (t' := s1.toks) hk
      exact ⟨s1.heap.objs.size + 1, [s1.heap.objs.size + 1, s1.heap.objs.size], _, _, H1, rfl, I2, turn_enumT (Nat.succ_ne_self _) (Nat.ne_of_lt la) (Nat.ne_of_gt (Nat.lt_succ_of_lt la)), ⟨⟨_, he⟩, hit⟩, fr, q⟩
end K4

/-! Zl -/
/-! Comprehensions over zip and enumerate. -/
namespace K4
open PySem L2 K1 PyProof.Rows
section
variable {K : PySem.W.Frag} {a b : Addr} {xs ys : List V}
theorem walk_zipT (hl : xs.length = ys.length) : Walk (RZ.ItzT K a b) xs.length (fun H => SqT K H a xs ∧ SqT K H b ys) (YPair (fun i => xs[i]?) (fun i => ys[i]?)) := by
  refine ⟨fun i _ hi q => ?_, fun _ q => ⟨xs, ys, q.1, q.2, by omega⟩, fun i H v H' _ q y => ?_⟩
  · have h2 : i < ys.length := by omega
    exact ⟨xs, ys, xs[i], ys[i], q.1, q.2, by simp [hi], by simp [h2]⟩
  · obtain ⟨T, x, z, h1, h2, h3, h4, h5⟩ := y
    exact ⟨T, x, z, h1, h2, h3, h4 xs q.1, h5 ys q.2⟩
theorem walk_zipM (hl : xs.length = ys.length) : Walk (ItzM K a b) xs.length (fun H => SqT K H a xs ∧ SqL K H b ys) (YPair (fun i => xs[i]?) (fun i => ys[i]?)) := by
  refine ⟨fun i _ hi q => ?_, fun _ q => ⟨xs, ys, q.1, q.2, hl, rfl⟩, fun i H v H' _ q y => ?_⟩
  · have h2 : i < ys.length := by omega
    exact ⟨xs, ys, xs[i], ys[i], q.1, q.2, by simp [hi], by simp [h2]⟩
  · obtain ⟨T, x, z, h1, h2, h3, h4, h5⟩ := y
    exact ⟨T, x, z, h1, h2, h3, h4 xs q.1, h5 ys q.2⟩
theorem walk_enumL : Walk (Ite K a) xs.length (fun H => SqL K H a xs) (YPair (fun i => some (.int (i : Nat))) (fun i => xs[i]?)) := by
  refine ⟨fun i _ hi q => ⟨xs, xs[i], q, by simp [hi]⟩, fun _ q => ⟨xs, q, by simp⟩, fun i H v H' _ q y => ?_⟩
  obtain ⟨T, x, h1, h2, h3, h4⟩ := y
  exact ⟨T, _, x, h1, h2, h3, rfl, h4 xs q⟩
theorem walk_enumT : Walk (IteT K a) xs.length (fun H => SqT K H a xs) (YPair (fun i => some (.int (i : Nat))) (fun i => xs[i]?)) := by
  refine ⟨fun i _ hi q => ⟨xs, xs[i], q, by simp [hi]⟩, fun _ q => ⟨xs, q, rfl⟩, fun i H v H' _ q y => ?_⟩
  obtain ⟨T, x, h1, h2, h3, h4⟩ := y
  exact ⟨T, _, x, h1, h2, h3, rfl, h4 xs q⟩
end
section
variable {K : PySem.W.Frag} {σ : L2.St} {H : Hp} {D : Addr} {vs : List Nat} {te : TE} {Qd : Hp → Prop} {J : It} {n : Nat} {G : Hp → Prop} {f g : Nat → Option V} {i j : Nat}
/-- [e for x, y in pairs] -/
theorem lc_pairs (w : Walk J n G (YPair f g)) (hw : ∀ x y, wipe (((wipe σ vs).set i (some x)).set j (some y)) vs = wipe σ vs) (P : List V → Hp → Prop) (h0 : P [] (upd H D (.lst [])))
    (hG : ∀ acc H', H' D = some (.lst acc) → P acc H' → G H')
    (hs : ∀ k x y T acc H', f k = some x → g k = some y → k < n → acc.length = k → H' D = some (.lst acc) → P acc H' → H' T = none → te (((wipe σ vs).set i (some x)).set j (some y)) (upd H' T (.tup [x, y])) fun y H4 => ∃ acc, H4 D = some (.lst acc) ∧ acc.length < sizeLine ∧ PP D P (k + 1) (upd H4 D (.lst (acc ++ [y]))))
    (hd : ∀ acc H', acc.length = n → H' D = some (.lst acc) → P acc H' → Qd H') :
    ∃ W : Nat → Nat → Hp → Prop, (∃ m, W 0 m (upd H D (.lst []))) ∧ ∀ k m H, W k m H →
      (J.stop k H ∧ Qd H) ∨ (J.go k H ∧ ∃ Nx : Hp → Prop, (∀ H', Nx H' → ∃ m', m' < m ∧ W (k + 1) m' H') ∧ ∀ x H', J.yld k H x H' → gTup K 2 (gCons (gName i) (gCons (gName j) gNil)) x (wipe σ vs) H' fun σ2 H2 => wipe σ2 vs = wipe σ vs ∧ tYes σ2 H2 fun b H3 =>
        if b = true then te σ2 H3 fun y H4 => ∃ acc, H4 D = some (.lst acc) ∧ acc.length < sizeLine ∧ Nx (upd H4 D (.lst (acc ++ [y]))) else Nx H3) := by
  refine lc_it w (PP D P) ⟨[], rfl, upd_same, h0⟩ (fun k H' _ ⟨acc, _, e, p⟩ => hG acc H' e p) ?_ (fun H' ⟨acc, l, e, p⟩ => hd acc H' l e p)
  rintro k v H1 H2 hi ⟨acc, l, e, p⟩ ⟨T, x, y, rfl, hT, rfl, hx, hy⟩
  refine ⟨T, [x, y], rfl, SqT.of upd_same, rfl, ?_⟩
  refine r_gcons ?_
  unfold gName
  refine r_gcons ?_
  refine r_gnil ⟨hw x y, ?_⟩
  show te _ _ _
  exact hs k x y T acc _ hx hy hi l e p hT
end
theorem zip_sq {K : PySem.W.Frag} {R : It → Hp → Prop} {H : Hp} {a : Addr} {v : V} {xs ys : List V} (hx : ∀ H, SqT K H a xs) (h : Sq K H v ys) (hl : xs.length = ys.length)
    (key : ∀ J G, Walk J xs.length G (YPair (fun i => xs[i]?) (fun i => ys[i]?)) → (∀ H', Keeps K H H' → G H') → R J H) : ZipIt K [.ref a, v] R H := by
  obtain ⟨b, rfl, h | h⟩ := h
  · exact ⟨a, b, xs, ys, rfl, hx H, .inr ⟨h, key _ _ (walk_zipM hl) fun H' k => ⟨hx H', k.1 _ _ h⟩⟩⟩
  · exact ⟨a, b, xs, ys, rfl, hx H, .inl ⟨h, key _ _ (walk_zipT hl) fun H' k => ⟨hx H', k.2 _ _ h⟩⟩⟩
theorem en_sq {K : PySem.W.Frag} {R : It → Hp → Prop} {H : Hp} {v : V} {xs : List V} (h : Sq K H v xs)
    (key : ∀ J G, Walk J xs.length G (YPair (fun i => some (.int (i : Nat))) (fun i => xs[i]?)) → (∀ H', Keeps K H H' → G H') → R J H) : EnIt K [v] R H := by
  obtain ⟨a, rfl, h | h⟩ := h
  · exact ⟨a, xs, rfl, .inl ⟨h, key _ _ walk_enumL fun H' k => k.1 _ _ h⟩⟩
  · exact ⟨a, xs, rfl, .inr ⟨h, key _ _ walk_enumT fun H' k => k.2 _ _ h⟩⟩
end K4

/-! P7e -/


namespace K4
open PySem L2 K1
abbrev sDeedWord : Stmt := top 72
abbrev nDeedWord : List Str := ["kind", "worth"]
theorem scDeedWord : FnScope nDeedWord ["kind", "worth"] (defScope sDeedWord) := ⟨rfl, rfl, rfl, by decide +kernel, rfl, by decide +kernel, by decide +kernel⟩
abbrev sDeedLine : Stmt := top 71
abbrev nDeedLine : List Str := ["deed", "kinds", "kind", "worth"]
theorem scDeedLine : FnScope nDeedLine ["deed"] (defScope sDeedLine) := ⟨rfl, rfl, rfl, by decide +kernel, rfl, by decide +kernel, by decide +kernel⟩
abbrev sWriteDeeds : Stmt := top 70
abbrev nWriteDeeds : List Str := ["deeds", "deed"]
theorem scWriteDeeds : FnScope nWriteDeeds ["deeds"] (defScope sWriteDeeds) := ⟨rfl, rfl, rfl, by decide +kernel, rfl, by decide +kernel, by decide +kernel⟩
/-! Writing deeds. -/
structure Bz (mg : Str → Option Value) : Prop where
  zip : mg "zip" = none
  enumerate : mg "enumerate" = none
def DvAt (K : PySem.W.Frag) (H : Hp) : V → Dv → Prop
  | v, .name x => v = .str x
  | v, .many n => v = vi n
  | v, .paper x => v = .str x
  | v, .rule r => RAt K H v r
def DvAll (K : PySem.W.Frag) (H : Hp) : List V → List Dv → Prop
  | [], [] => True
  | v :: vs, p :: ps => DvAt K H v p ∧ DvAll K H vs ps
  | _, _ => False
def DeedAt (K : PySem.W.Frag) (H : Hp) (v : V) (d : Deed) : Prop := ∃ pvs, Sq K H v (.str (dw d.k) :: pvs) ∧ DvAll K H pvs d.ps
section
variable {K : PySem.W.Frag} {H H' : Hp}
theorem DvAt.keep (k : Keeps K H H') : ∀ {p : Dv} {v : V}, DvAt K H v p → DvAt K H' v p
  | .name _, _, h => h
  | .many _, _, h => h
  | .paper _, _, h => h
  | .rule _, _, h => RAt.keep k h
theorem DvAll.keep (k : Keeps K H H') : ∀ {ps : List Dv} {vs : List V}, DvAll K H vs ps → DvAll K H' vs ps
  | [], [], _ => trivial
  | p :: ps, v :: vs, h => ⟨DvAt.keep k h.1, DvAll.keep k h.2⟩
theorem DeedAt.keep (k : Keeps K H H') {v : V} {d : Deed} (h : DeedAt K H v d) : DeedAt K H' v d := by
  obtain ⟨pvs, a, b⟩ := h
  exact ⟨pvs, a.keep k, DvAll.keep k b⟩
theorem DvAll.len : ∀ {vs : List V} {ps : List Dv}, DvAll K H vs ps → vs.length = ps.length
  | [], [], _ => rfl
  | v :: vs, p :: ps, h => by rw [List.length_cons, List.length_cons, DvAll.len h.2]
theorem DvAll.get : ∀ {vs : List V} {ps : List Dv}, DvAll K H vs ps → ∀ {i : Nat} {v : V}, vs[i]? = some v → ∃ p, ps[i]? = some p ∧ DvAt K H v p
  | v :: vs, p :: ps, h, 0, x, e => by obtain rfl := Option.some.inj e; exact ⟨p, rfl, h.1⟩
  | v :: vs, p :: ps, h, i + 1, x, e => DvAll.get h.2 (i := i) e
theorem DvAt.of {t : Bool} : ∀ {p : Dv} {v : V}, Dp K H v (p.data t) → DvAt K H v p
  | .name _, _, h => by cases h; rfl
  | .many _, _, h => by cases h; rfl
  | .paper _, _, h => by cases h; rfl
  | .rule _, _, h => RAt.of h
theorem DvAll.of {t : Bool} : ∀ {ps : List Dv} {vs : List V}, DpAll K H vs (ps.map (Dv.data t)) → DvAll K H vs ps
  | [], _, h => by cases h; trivial
  | p :: ps, _, h => by
    cases h with
    | cons a b => exact ⟨DvAt.of a, DvAll.of b⟩
theorem DeedAt.of {t : Bool} {d : Deed} {v : V} (h : Dp K H v (d.data t)) : DeedAt K H v d := by
  obtain ⟨xs, a, b⟩ := dp_sq h
  cases b with
  | cons x y =>
    cases x
    exact ⟨_, a, DvAll.of y⟩
end
def spDeedWord (K : PySem.W.Frag) : Sp := fun vs H Q _ => ∃ (p : Dv) (v : V), vs = [.str p.kd.nm, v] ∧ DvAt K H v p ∧ p.ok ∧ ∀ H', Same H H' → Q (.str p.word) H'
def spDeedLine (K : PySem.W.Frag) : Sp := fun vs H Q _ => ∃ (d : Deed) (v : V), vs = [v] ∧ DeedAt K H v d ∧ d.ok ∧ ∀ H', Same H H' → Q (.str d.text) H'
def DeedAll (K : PySem.W.Frag) (H : Hp) : List V → List Deed → Prop
  | [], [] => True
  | v :: vs, p :: ps => DeedAt K H v p ∧ DeedAll K H vs ps
  | _, _ => False
section
variable {K : PySem.W.Frag} {H H' : Hp}
theorem DeedAll.keep (k : Keeps K H H') : ∀ {ps : List Deed} {vs : List V}, DeedAll K H vs ps → DeedAll K H' vs ps
  | [], [], _ => trivial
  | p :: ps, v :: vs, h => ⟨DeedAt.keep k h.1, DeedAll.keep k h.2⟩
theorem DeedAll.len : ∀ {vs : List V} {ps : List Deed}, DeedAll K H vs ps → vs.length = ps.length
  | [], [], _ => rfl
  | v :: vs, p :: ps, h => by rw [List.length_cons, List.length_cons, DeedAll.len h.2]
theorem DeedAll.get : ∀ {vs : List V} {ps : List Deed}, DeedAll K H vs ps → ∀ {i : Nat} {v : V}, vs[i]? = some v → ∃ p, ps[i]? = some p ∧ DeedAt K H v p
  | v :: vs, p :: ps, h, 0, x, e => by obtain rfl := Option.some.inj e; exact ⟨p, rfl, h.1⟩
  | v :: vs, p :: ps, h, i + 1, x, e => DeedAll.get h.2 (i := i) e
theorem DeedAll.of {t : Bool} : ∀ {ps : List Deed} {vs : List V}, DpAll K H vs (ps.map (Deed.data t)) → DeedAll K H vs ps
  | [], _, h => by cases h; trivial
  | p :: ps, _, h => by
    cases h with
    | cons a b => exact ⟨DeedAt.of a, DeedAll.of b⟩
end
def spWriteDeeds (K : PySem.W.Frag) : Sp := fun vs H Q _ => ∃ (ds : List Deed) (v : V) (xs : List V), vs = [v] ∧ Sq K H v xs ∧ DeedAll K H xs ds ∧ (∀ d ∈ ds, d.ok) ∧ ds.length ≤ 1000 ∧ ∀ H' p, Same H H' → H' p = some (.tup (ds.map fun d => V.str d.text)) → Q (.ref p) H'
theorem kd_many {p : Dv} (h : V.str p.kd.nm = V.str "many") : ∃ n, p = .many n := by
  cases p with
  | many n => exact ⟨n, rfl⟩
  | _ => exact absurd h (by simp only [Dv.kd, Pk.nm]; decide +kernel)
theorem kd_paper {p : Dv} (h : V.str p.kd.nm = V.str "paper") : ∃ n, p = .paper n := by
  cases p with
  | paper n => exact ⟨n, rfl⟩
  | _ => exact absurd h (by simp only [Dv.kd, Pk.nm]; decide +kernel)
theorem kd_rule {p : Dv} (h : V.str p.kd.nm = V.str "rule") : ∃ n, p = .rule n := by
  cases p with
  | rule n => exact ⟨n, rfl⟩
  | _ => exact absurd h (by simp only [Dv.kd, Pk.nm]; decide +kernel)
theorem Dv.word_len {p : Dv} (h : p.ok) : (tl p.word).length ≤ 400160 := by
  cases p with
  | rule r => have := R.text_len h.1; have := h.2; simp only [Dv.word]; omega
  | name x => have := (nm_text h).2.1; simp only [Dv.word]; rw [← len_tl]; omega
  | many n => have := (num_ok (n := n) (by have := h.2; omega)).2.2.1; simp only [Dv.word]; omega
  | paper x =>
    have := h.1
    simp only [Dv.word, pw]
    split
    · rw [tl_minus]; decide
    · rw [← len_tl]; omega
section
variable {P : Program} {w : World} {K : PySem.W.Frag} {mg : Str → Option Value} {base : Heap} {dD tN : Addr} {tk : Nat → Addr}
abbrev OPaperWord (P : Program) (w : World) (K : PySem.W.Frag) (mg : Str → Option Value) (base : Heap) : Prop := Own P w K mg base "paper_word" 1 ["paper"] spPaperWord
abbrev OWriteRule (P : Program) (w : World) (K : PySem.W.Frag) (mg : Str → Option Value) (base : Heap) : Prop := Own P w K mg base "write_rule" 45 ["rule"] (spWR K)
theorem ok_deedWord {f : Addr} {fd : FuncData} (F : Fun K "deed_word" "deed_word" sDeedWord f fd) (B : Bl mg) (Opw : OPaperWord P w K mg base) (Owr : OWriteRule P w K mg base) : FnOk P w K mg base CX0 46 f fd ["kind", "worth"] (spDeedWord K) := by
  refine F.ok scDeedWord (fun vs H Q E h => ?_) (fun cdv A outer s H vs Q E hr h => ?_)
  · obtain ⟨p, v, rfl, _⟩ := h
    rfl
  · obtain ⟨p, v, rfl, ha, hok, k⟩ := h
    refine ⟨_, (pss_cons (ps_if (pt_cmpR op_eq (pv 0) pe_str (nomark _)) (pss_one (ps_ret (pe_callTy call_str_int (by rfl) B.str (by decide +kernel) (pa_cons (pv 1) pa_nil)))) pss_nil) (pss_cons (ps_if (pt_cmpR op_eq (pv 0) pe_str (nomark _)) (pss_one (ps_ret (pe_own Opw (hr.mono (by omega)) (pa_cons (pv 1) pa_nil)))) pss_nil) (pss_one (ps_ret (pe_ifExp (pt_cmpR op_eq (pv 0) pe_str (nomark _)) (pe_own Owr (hr.mono (by omega)) (pa_cons (pv 1) pa_nil)) (pv 1)))))), ?_⟩
    try dsimp only [cxOf, Cx.nox, Cx.wish]
    walk_at "go"
    refine r_ite (fun h => ?_) (fun h1 => ?_)
    · obtain ⟨n, rfl⟩ := kd_many h
      obtain rfl : v = vi n := ha
      walk_at "go"
      refine ⟨log_ok (by have := hok.2; omega), ?_⟩
      exact k _ (Same.refl _)
    walk_at "go"
    refine r_ite (fun h => ?_) (fun h2 => ?_)
    · obtain ⟨x, rfl⟩ := kd_paper h
      obtain rfl : v = .str x := ha
      walk_at "go"
      exact k _ (Same.refl _)
    walk_at "go"
    refine r_ite (fun h => ?_) (fun h3 => ?_)
    · obtain ⟨r, rfl⟩ := kd_rule h
      walk_at "go"
      have hok2 := hok.2
      have := r.depth_le
      exact ⟨v, r, rfl, ha, hok.1, by omega, by omega, fun H' s' => k H' s'⟩
    · cases p with
      | name x =>
        obtain rfl : v = .str x := ha
        walk_at "go"
        exact k _ (Same.refl _)
      | many n => exact absurd rfl h1
      | paper n => exact absurd rfl h2
      | rule n => exact absurd rfl h3
abbrev ODeedWord (P : Program) (w : World) (K : PySem.W.Frag) (mg : Str → Option Value) (base : Heap) : Prop := Own P w K mg base "deed_word" 46 ["kind", "worth"] (spDeedWord K)
theorem map_text_next {d : Deed} {i : Nat} {p : Dv} (h : d.ps[i]? = some p) : (d.ps.map Dv.word)[i]? = some p.word := by rw [List.getElem?_map, h]; rfl
theorem ok_deedLine {f : Addr} {fd : FuncData} (F : Fun K "deed_line" "deed_line" sDeedLine f fd) (B : Bl mg) (BZ : Bz mg) (N : G7 K w mg dD tN tk) (Odw : ODeedWord P w K mg base) : FnOk P w K mg base CX0 47 f fd ["deed"] (spDeedLine K) := by
  refine F.ok scDeedLine (fun vs H Q E h => ?_) (fun cdv A outer s H vs Q E hr h => ?_)
  · obtain ⟨d, v, rfl, _⟩ := h
    rfl
  · obtain ⟨d, v, rfl, ⟨pvs, hS, hA⟩, hok, k⟩ := h
    refine ⟨_, (pss_cons (ps_set (i := 1) scDeedLine.nd rfl (Or.inl rfl) (pe_ix ix_kdict (pe_gR N.DW) (pe_ix ix_seq (pv 0) pe_int (fun _ _ => rfl)) (fun _ _ => rfl))) (pss_one (ps_ret (pe_m1 PySem.F.slot_str_join PySem.F.type_str_join mt_join pe_str (pe_lst (pa_cons (pe_ix ix_seq (pv 0) pe_int (fun _ _ => rfl)) (StX.pa_star (pe_lc (own := [("kind", 2), ("worth", 3)]) (g := gTup K 2 (gCons (gName 2) (gCons (gName 3) gNil))) (tt := tYes) rfl scDeedLine.nd (pi_zipM rfl BZ.zip (pa_cons (pv 1) (pa_cons (pe_slice sl_sq (pv 0) (po_some pe_int) po_none) pa_nil))) (blkOk_by (N := nDeedLine) (sc := defScope sDeedLine) (by decide +kernel)) (fun _ _ _ _ _ => (pg_tup rfl (pgs_cons (pg_name (i := 2) scDeedLine.nd rfl (Or.inl rfl)) (pgs_cons (pg_name (i := 3) scDeedLine.nd rfl (Or.inl rfl)) pgs_nil)))) (fun _ _ _ _ _ => pts_nil) (fun _ _ _ _ _ => (pe_own Odw hr (pa_cons (pv 2) (pa_cons (pv 3) pa_nil))))) pa_nil))))))), ?_⟩
    try dsimp only [cxOf, Cx.nox, Cx.wish]
    walk_at "go"
    refine r_ixSq hS at0 ?_
    walk_at "go"
    refine r_kd (N.dw _ hok.lt) ?_
    walk_at "go"
    refine r_ixSq hS at0 ?_
    walk_at "go"
    refine r_slSq hS (fun v2 H2 s2 h2 => ?_)
    have hc : cutV (V.str (dw d.k) :: pvs) (some 1) none = pvs := by rw [show (1 : Int) = ((1 : Nat) : Int) from rfl, cutV_from]; rfl
    rw [hc] at h2
    walk_at "go"
    have hpl := hA.len
    have hkl : ((dk d.k).map fun p => V.str p.nm).length = pvs.length := by rw [List.length_map, ← hok.ks, List.length_map, hpl]
    have hkl2 := hkl
    rw [List.length_map] at hkl2
    have hp3 : d.ps.length ≤ 3 := by have := dk_len d.k; omega
    refine zip_sq (N.dt _ hok.lt) h2 hkl (fun J G wk hG => ?_)
    intro D hD
    have hDH : H D = none := s2.free hD
    refine lc_pairs (K := K) wk (fun _ _ => rfl) (fun acc H' => acc = ((d.ps.map Dv.word).take acc.length).map V.str ∧ Same H2 H') ⟨rfl, same_new hD⟩ (fun acc H' _ q => hG H' (Same.keeps q.2)) ?_ ?_
    · rintro i x y T acc H' hx hy hi hl hacc ⟨ha, sm⟩ hT
      obtain ⟨pk, hpk, rfl⟩ := get_map hx
      obtain ⟨p, hp, hd⟩ := DvAll.get hA hy
      have ek : pk = p.kd := by
        have e1 : (d.ps.map Dv.kd)[i]? = some p.kd := by rw [List.getElem?_map, hp]; rfl
        rw [hok.ks, hpk] at e1
        exact Option.some.inj e1
      subst ek
      walk_at "go"
      have sT := same_new (o := HO.tup [V.str p.kd.nm, y]) hT
      have s3 := (s2.trans sm).trans sT
      refine ⟨p, y, rfl, hd.keep (Same.keeps s3), hok.ea p (List.mem_of_getElem? hp), fun H4 s4 => ?_⟩
      have il := (List.getElem?_eq_some_iff.mp hp).1
      refine pp_next (s4 _ _ (sT _ _ hacc)) hl (line60 (by omega)) ⟨acc_next (f := V.str) (a := p.word) ha hl (map_text_next hp), same_upd (sm.trans (sT.trans s4)) hD⟩
    · rintro acc H' hl hacc ⟨ha, sm⟩
      rw [hl, List.length_map, hkl2, hpl, ← List.length_map (f := Dv.word), List.take_length] at ha
      subst ha
      refine ⟨D, _, rfl, .inr (SqL.of hacc), ?_⟩
      walk_at "go"
      refine ⟨Nat.le_of_lt (line60 (by simp only [List.length_cons, List.length_append, List.length_map, List.length_nil]; omega)), fun L hL => ?_⟩
      walk_at "go"
      refine ⟨_, L, dw d.k :: d.ps.map Dv.word, rfl, rfl, .inl (SqL.of (by rw [upd_same, List.append_nil]; rfl)), ?_, ?_⟩
      · have := sum_le (ys := dw d.k :: d.ps.map Dv.word) (b := 400160) (fun z hz => by
          rcases List.mem_cons.mp hz with rfl | hz
          · have := (dw_ok _ hok.lt).2.1; omega
          · obtain ⟨p, hp, rfl⟩ := List.mem_map.mp hz
            exact Dv.word_len (hok.ea p hp))
        have e : (" " : Str).length = 1 := by rw [len_tl, tl_SP]; rfl
        rw [e]
        simp only [List.length_cons, List.length_map] at this ⊢
        omega
      · exact k _ (s2.trans (sm.trans (same_new hL)))
abbrev ODeedLine (P : Program) (w : World) (K : PySem.W.Frag) (mg : Str → Option Value) (base : Heap) : Prop := Own P w K mg base "deed_line" 47 ["deed"] (spDeedLine K)
theorem ok_writeDeeds {f : Addr} {fd : FuncData} (F : Fun K "write_deeds" "write_deeds" sWriteDeeds f fd) (B : Bl mg) (Odl : ODeedLine P w K mg base) : FnOk P w K mg base CX0 48 f fd ["deeds"] (spWriteDeeds K) := by
  refine F.ok scWriteDeeds (fun vs H Q E h => ?_) (fun cdv A outer s H vs Q E hr h => ?_)
  · obtain ⟨ds, v, xs, rfl, _⟩ := h
    rfl
  · obtain ⟨ds, v, xs, rfl, hS, hA, hok, hl1000, k⟩ := h
    have hdl := hA.len
    refine ⟨_, (pss_one (ps_ret (pe_callTy call_tuple_of (by rfl) B.tuple (by decide +kernel) (pa_cons (pe_lc (own := [("deed", 1)]) (g := gName 1) (tt := tYes) rfl scWriteDeeds.nd (pi_sq (pv 0)) (blkOk_by (N := nWriteDeeds) (sc := defScope sWriteDeeds) (by decide +kernel)) (fun _ _ _ _ _ => (pg_name (i := 1) scWriteDeeds.nd rfl (Or.inl rfl))) (fun _ _ _ _ _ => pts_nil) (fun _ _ _ _ _ => (pe_own Odl hr (pa_cons (pv 1) pa_nil)))) pa_nil)))), ?_⟩
    try dsimp only [cxOf, Cx.nox, Cx.wish]
    walk_at "go"
    refine lc_sq hS (fun _ => rfl) (fun acc H' => acc = ((ds.map Deed.text).take acc.length).map V.str ∧ Same H H') (fun D hD => ⟨rfl, same_new hD⟩) (fun D acc H' _ _ q => Same.keeps q.2) ?_ _ ?_ (fun J h => h)
    · rintro D i x acc H' hD hx hl hacc ⟨ha, sm⟩
      obtain ⟨d, hd, hat⟩ := DeedAll.get hA hx
      walk_at "go"
      refine ⟨d, x, rfl, hat.keep (Same.keeps sm), hok d (List.mem_of_getElem? hd), fun H2 s2 => ?_⟩
      have il := (List.getElem?_eq_some_iff.mp hd).1
      exact pp_next (s2 _ _ hacc) hl (line60 (by omega)) ⟨acc_next (f := V.str) (a := d.text) ha hl (by rw [List.getElem?_map, hd]; rfl), same_upd (sm.trans s2) hD⟩
    · rintro D acc H' hD hl hacc ⟨ha, sm⟩
      rw [hl, hdl, ← List.length_map (f := Deed.text), List.take_length] at ha
      subst ha
      walk_at "go"
      refine ⟨D, _, rfl, .inl ⟨SqL.of hacc, fun t ht => ?_⟩⟩
      exact k _ t (sm.trans (same_new ht)) (by rw [upd_same, List.map_map]; rfl)
end
end K4

/-! W7e -/


namespace K4
open PySem L2 K1
abbrev sReadDeed : Stmt := top 74
abbrev nReadDeed : List Str := ["words", "kind", "parts", "part"]
theorem scReadDeed : FnScope nReadDeed ["words"] (defScope sReadDeed) := ⟨rfl, rfl, rfl, by decide +kernel, rfl, by decide +kernel, by decide +kernel⟩
abbrev sReadDeeds : Stmt := top 73
abbrev nReadDeeds : List Str := ["lines", "number", "text"]
theorem scReadDeeds : FnScope nReadDeeds ["lines"] (defScope sReadDeeds) := ⟨rfl, rfl, rfl, by decide +kernel, rfl, by decide +kernel, by decide +kernel⟩
variable {j : Ln}
def spReadDeed (K : PySem.W.Frag) (C CL : Addr) (j : Ln) : Sp := fun vs H Q E => ∃ (p : Addr) (ws : List Str), vs = [.ref p] ∧ WordsAt j C H p ws 0 ∧ (match rdDeed ws with
  | .bad e => BadE j CL p H E e
  | .ok d => ∀ H' t, Kp p H H' → Dp K H' (.ref t) d → Q (.ref t) H')
def exJ (sp : Ln → Sp) : Sp := fun vs H Q E => ∃ j, sp j vs H Q E
theorem FnOk.exJ {P : Program} {w : World} {K : PySem.W.Frag} {mg : Str → Option Value} {base : Heap} {CX : CXT} {k : Nat} {f : Addr} {fd : FuncData} {ps : List Str} {sp : Ln → Sp} (F : ∀ j, FnOk P w K mg base CX k f fd ps (sp j)) : FnOk P w K mg base CX k f fd ps (exJ sp) :=
  ⟨fun vs H Q E ⟨j, h⟩ => (F j).len vs H Q E h, fun A outer s H args us vs Q E hr en hb hv ⟨j, h⟩ => (F j).run A outer s H args us vs Q E hr en hb hv h⟩
theorem rdPart_pure {k : Pk} {ws : List Str} {z : Nat} {d : PyData} {z' : Nat} (h : rdPart k ws z = .ok (d, z')) : K4.pure d = true := by
  have one : ∀ {α : Type} {f : Str → Option α} {g : α → PyData}, (∀ a, K4.pure (g a) = true) → rdOne f g ws z = .ok (d, z') → K4.pure d = true := by
    intro α f g hg h
    unfold rdOne at h
    cases e : ws[z]?.bind f with
    | none => rw [e] at h; cases h
    | some a =>
      rw [e] at h
      injection h with h
      injection h with h1 h2
      rw [← h1]
      exact hg a
  cases k with
  | name => exact one (fun _ => rfl) h
  | many => exact one (fun _ => rfl) h
  | paper => exact one (fun _ => rfl) h
  | rule =>
    simp only [rdPart] at h
    unfold rdAllWs at h
    cases e : rdRule 41 ws z 0 with
    | bad q => rw [e] at h; cases h
    | ok r =>
      obtain ⟨d', z1, b1⟩ := r
      rw [e] at h
      dsimp only at h
      by_cases q : z1 < ws.length
      · rw [if_pos q] at h; cases h
      · rw [if_neg q] at h
        injection h with h
        injection h with h1 h2
        rw [← h1]
        exact rdRule_pure _ _ _ _ _ _ _ e
section
variable {P : Program} {w : World} {K : PySem.W.Frag} {mg : Str → Option Value} {base : Heap} {dO dI C CL dD tN : Addr} {tk : Nat → Addr}
abbrev OTakePart (j : Ln) (C CL : Addr) (P : Program) (w : World) (K : PySem.W.Frag) (mg : Str → Option Value) (base : Heap) : Prop := OwnX P w K mg base "take_part" 49 ["words", "kind"] (spTakePart j K C CL)
theorem ok_readDeed {f f1 fF CL : Addr} {fd fd1 fdF : FuncData} (F : Fun K "read_deed" "read_deed" sReadDeed f fd) (B : Bl mg) (T : TW K mg C) (N : G7 K w mg dD tN tk)
    (G1 : FnOk P w K mg base (L2N.CX P w) 4 f1 fd1 ["self", "choices"] (spTakeOne j C CL)) (m1 : Meth K C "take_one_of" f1) (b1 : Binds K fd1 ["self", "choices"] [])
    (GF : FnOk P w K mg base (L2N.CX P w) 3 fF fdF ["self"] (spFinish j C CL)) (mF : Meth K C "finish" fF) (bF : Binds K fdF ["self"] [])
    (Otp : OTakePart j C CL P w K mg base) : FnOk P w K mg base (L2N.CX P w) 50 f fd ["words"] (spReadDeed K C CL j) := by
  refine okXN F scReadDeed (fun vs H Q E h => ?_) (fun cdv A outer s H vs Q E hr h => ?_)
  · obtain ⟨p, ws, rfl, _⟩ := h
    rfl
  · obtain ⟨p, ws, rfl, hW, k⟩ := h
    refine ⟨_, (pss_cons (ps_set (i := 1) scReadDeed.nd rfl (Or.inl rfl) (pe_meth (pv 0) T.cl m1 G1 (hr.mono (by omega)) b1 .nil (L2N.passes_call (E := E) (L2N.takes_of rfl rfl rfl rfl) (fun _ _ _ _ h => h)) (pa_cons (pe_callTy (call_listK rfl) (by rfl) B.list (by decide +kernel) (pa_cons (pe_gR N.DW) pa_nil)) pa_nil))) (pss_cons (ps_setLcX (E := E) (i := 2) (ow := [("part", 3)]) (g := gName 3) (cdt := tYes) rfl scReadDeed.nd rfl rfl (L2N.takes_of rfl rfl rfl rfl) (fun _ _ _ _ h => h) rfl rfl (sw_true rfl rfl rfl (by decide +kernel)) (pi_tup (pe_ix ix_kdict (pe_gR N.DW) (pv 1) (fun _ _ => rfl))) (blkOk_by (N := nReadDeed) (sc := defScope sReadDeed) (by decide +kernel)) (fun _ _ _ _ _ => (pg_name (i := 3) scReadDeed.nd rfl (Or.inl rfl))) (fun _ _ _ _ _ => pts_nil) (fun _ _ _ _ _ xe px => (pe_ownX Otp hr px (pa_cons (pv 0) (pa_cons (pv 3) pa_nil))))) (pss_cons (ps_expr (pe_meth0 (pv 0) T.cl mF GF (hr.mono (by omega)) bF .nil (L2N.passes_call (E := E) (L2N.takes_of rfl rfl rfl rfl) (fun _ _ _ _ h => h)))) (pss_one (ps_ret (pe_tup (pa_cons (pv 1) (StX.pa_star (pv 2) pa_nil)))))))), ?_⟩
    try dsimp only [cxOf, Cx.nox, Cx.wish]
    unfold rdDeed at k
    walk_at "go"
    refine r_mW hW no1 ?_
    walk_at "go"
    refine ⟨dD, _, rfl, N.ls, fun L hL => ?_⟩
    walk_at "go"
    have s1 := same_new (o := HO.lst (((List.range 7).map K4.dw).map V.str)) hL
    refine ⟨p, L, ws, _, 0, rfl, hW.same s1, upd_same, ?_⟩
    cases q1 : ws[0]? with
    | none =>
      rw [q1] at k
      exact BadE.mono k (Same.kp s1)
    | some x =>
      rw [q1] at k
      dsimp only [Option.bind_some] at k ⊢
      cases q2 : dkOf x with
      | none =>
        rw [q2] at k
        rw [if_neg (fun h => by
          obtain ⟨i, hi, e⟩ := List.mem_map.mp h
          exact dkOf_none q2 i (List.mem_range.mp hi) e.symm)]
        exact BadE.mono k (Same.kp s1)
      | some c =>
        obtain ⟨hc, rfl⟩ := dkOf_some q2
        rw [q2] at k
        rw [if_pos (List.mem_map.mpr ⟨c, List.mem_range.mpr hc, rfl⟩)]
        dsimp only at k
        intro H1 w1 o1
        have k1 : Kp p H H1 := (Same.kp s1).trans o1.kp
        walk_at "go"
        refine r_kd (N.dw _ hc) ?_
        refine ⟨_, rfl, ⟨_, N.dt _ hc _⟩, fun D hD => ?_⟩
        have nDp : D ≠ p := fun q => by
          obtain ⟨⟨dx, t, hp, _⟩, _⟩ := w1
          rw [q, hp] at hD; cases hD
        have hlen3 := dk_len c
        refine lc_gen (walk_tup (K := K) (a := tk c) (xs := (dk c).map fun p => V.str p.nm)) (fun _ => rfl) (fun acc H' => ∃ (ds : List PyData) (zz : Nat), DpAll K H' acc ds ∧ pureA ds = true ∧ WordsAt j C H' p ws zz ∧ Kp p H1 H' ∧
          rdParts (dk c) ws 1 = (match rdParts ((dk c).drop acc.length) ws zz with | Out.bad e => Out.bad e | Out.ok (ds2, z2) => Out.ok (ds ++ ds2, z2)))
          ⟨[], 1, .nil, rfl, w1.same (same_new hD), Same.kp (same_new hD), ?_⟩ (fun acc H' _ _ => N.dt _ hc _) ?_ ?_
        · show rdParts (dk c) ws 1 = (match rdParts (dk c) ws 1 with | Out.bad e => Out.bad e | Out.ok (ds2, z2) => Out.ok ([] ++ ds2, z2))
          cases rdParts (dk c) ws 1 with
          | bad e => rfl
          | ok q => rfl
        · rintro i x acc H' hx hl hacc ⟨ds, zz, da, pa, w', k', rj⟩
          obtain ⟨pk, hpk, rfl⟩ := get_map hx
          have il := (List.getElem?_eq_some_iff.mp hpk).1
          have hdr : (dk c).drop i = pk :: (dk c).drop (i + 1) := by
            obtain ⟨h1, h2⟩ := List.getElem?_eq_some_iff.mp hpk
            rw [List.drop_eq_getElem_cons h1, h2]
          rw [hl, hdr, rdParts] at rj
          walk_at "go"
          refine ⟨p, ws, zz, pk, rfl, w', ?_⟩
          cases er : rdPart pk ws zz with
          | bad e =>
            rw [er] at rj
            dsimp only at rj
            rw [rj] at k
            exact BadE.mono k (k1.trans k')
          | ok r =>
            obtain ⟨d, z'⟩ := r
            rw [er] at rj
            dsimp only at rj
            intro H4 v w4 k4 d4
            have e4 := k4 _ _ nDp hacc
            have pd := rdPart_pure er
            refine pp_next e4 hl (line60 (by omega)) ⟨ds ++ [d], z', ?_, pureA_ap pa (by simp only [pureA, pd, Bool.and_true]), ?_, ?_, ?_⟩
            · have kt : KT K H' (upd H4 D (.lst (acc ++ [v]))) := KT.trans (w'.keeps k4).2 (kt_lst e4)
              exact dpA_app (dpA_pure kt _ _ pa da) (.cons (dp_pure (kt_lst e4) _ _ pd d4) .nil)
            · obtain ⟨⟨dx, t, hp, ht⟩, hok, hl⟩ := w4
              have n2 : t ≠ D := fun z => by rw [z, e4] at ht; cases ht
              exact ⟨⟨dx, t, by rw [upd_ne nDp.symm]; exact hp, by rw [upd_ne n2]; exact ht⟩, hok, hl⟩
            · exact kp_upd (k'.trans k4) hD
            · rw [List.length_append, hl, rj]
              show _ = (match rdParts ((dk c).drop (i + 1)) ws z' with | Out.bad e => Out.bad e | Out.ok (ds2, z2) => Out.ok (ds ++ [d] ++ ds2, z2))
              cases rdParts ((dk c).drop (i + 1)) ws z' with
              | bad e => rfl
              | ok q => simp [List.append_assoc]
        · rintro acc H' hl hacc ⟨ds, zz, da, pa, w', k', rj⟩
          rw [List.length_map] at hl
          rw [hl, List.drop_length, rdParts] at rj
          dsimp only at rj
          rw [List.append_nil] at rj
          rw [rj] at k
          dsimp only at k
          walk_at "go"
          refine r_mW w' noF ?_
          walk_at "go"
          refine ⟨p, ws, zz, rfl, w', ?_⟩
          by_cases hz : zz < ws.length
          · rw [if_pos hz] at k ⊢
            exact BadE.mono k (k1.trans k')
          · rw [if_neg hz] at k ⊢
            walk_at "go"
            refine ⟨D, acc, rfl, .inr (SqL.of hacc), ?_⟩
            walk_at "go"
            refine ⟨Nat.le_of_lt (line60 (by simp only [List.length_cons, List.length_append, List.length_nil]; omega)), fun t ht => ?_⟩
            rw [List.append_nil]
            have sm := same_new (o := HO.tup (V.str (K4.dw c) :: acc)) ht
            exact k _ t (k1.trans (k'.trans (Same.kp sm))) (.tup (SqT.of upd_same) (.cons (.str _) (dpA_pure (Same.kt sm) _ _ pa da)))
abbrev OReadDeed (C CL : Addr) (P : Program) (w : World) (K : PySem.W.Frag) (mg : Str → Option Value) (base : Heap) : Prop := OwnX P w K mg base "read_deed" 50 ["words"] (exJ (spReadDeed K C CL))
/-- a line at a place: a text, or no text -/
def LnAt (K : PySem.W.Frag) (H : Hp) (v : V) : Option Str → Prop
  | some x => v = .str x ∧ x.length ≤ 500000
  | none => NoStr K H v
def LnAll (K : PySem.W.Frag) (H : Hp) : List V → List (Option Str) → Prop
  | [], [] => True
  | v :: vs, p :: ps => LnAt K H v p ∧ LnAll K H vs ps
  | _, _ => False
theorem _root_.K4.NoStr.same' {H H' : Hp} {y : V} (h : NoStr K H y) (s : Same H H') : NoStr K H' y := by
  obtain ⟨t, a, b⟩ := h
  exact ⟨t, fun H2 s2 => a H2 (s.trans s2), b⟩
theorem LnAt.same {H H' : Hp} (s : Same H H') : ∀ {l : Option Str} {v : V}, LnAt K H v l → LnAt K H' v l
  | some _, _, h => h
  | none, _, h => NoStr.same' h s
theorem LnAll.same {H H' : Hp} (s : Same H H') : ∀ {ls : List (Option Str)} {vs : List V}, LnAll K H vs ls → LnAll K H' vs ls
  | [], [], _ => trivial
  | p :: ps, v :: vs, h => ⟨LnAt.same s h.1, LnAll.same s h.2⟩
theorem LnAll.len {H : Hp} : ∀ {vs : List V} {ps : List (Option Str)}, LnAll K H vs ps → vs.length = ps.length
  | [], [], _ => rfl
  | v :: vs, p :: ps, h => by rw [List.length_cons, List.length_cons, LnAll.len h.2]
theorem LnAll.get {H : Hp} : ∀ {vs : List V} {ps : List (Option Str)}, LnAll K H vs ps → ∀ {i : Nat} {v : V}, vs[i]? = some v → ∃ p, ps[i]? = some p ∧ LnAt K H v p
  | v :: vs, p :: ps, h, 0, x, e => by obtain rfl := Option.some.inj e; exact ⟨p, rfl, h.1⟩
  | v :: vs, p :: ps, h, i + 1, x, e => LnAll.get h.2 (i := i) e
def BadS (C : Addr) (H : Hp) (E : XK) (k z : Nat) : Prop := ∀ H' d, Same H H' → H' d = some (.xd [("line", vi k), ("word", vi z)]) → E (.ref C) (some d) H'
def spReadDeeds (K : PySem.W.Frag) (CL : Addr) : Sp := fun vs H Q E => ∃ (v : V) (xs : List V) (ls : List (Option Str)), vs = [v] ∧ Sq K H v xs ∧ LnAll K H xs ls ∧ ls.length ≤ 1000 ∧ (match rdLines 0 ls with
  | .bad k z => BadS CL H E k z
  | .ok ds => ∀ H' t, Same H H' → Dp K H' (.ref t) (.tuple ds) → Q (.ref t) H')
theorem rdDeed_pure {ws : List Str} {d : PyData} (h : rdDeed ws = .ok d) : K4.pure d = true := by
  have parts : ∀ (ks : List Pk) (z : Nat) (ds : List PyData) (z' : Nat), rdParts ks ws z = .ok (ds, z') → pureA ds = true := by
    intro ks
    induction ks with
    | nil =>
      intro z ds z' h
      rw [rdParts] at h
      injection h with h
      injection h with h1 h2
      rw [← h1]; rfl
    | cons k ks ih =>
      intro z ds z' h
      rw [rdParts] at h
      cases e : rdPart k ws z with
      | bad q => rw [e] at h; cases h
      | ok r =>
        obtain ⟨d, z1⟩ := r
        rw [e] at h
        dsimp only at h
        cases e2 : rdParts ks ws z1 with
        | bad q => rw [e2] at h; cases h
        | ok r2 =>
          obtain ⟨ds2, z2⟩ := r2
          rw [e2] at h
          injection h with h
          injection h with h1 h2
          rw [← h1]
          simp only [pureA, rdPart_pure e, ih _ _ _ e2, Bool.and_self]
  unfold rdDeed at h
  cases e0 : ws[0]?.bind dkOf with
  | none => rw [e0] at h; cases h
  | some c =>
    rw [e0] at h
    dsimp only at h
    cases e1 : rdParts (dk c) ws 1 with
    | bad q => rw [e1] at h; cases h
    | ok r =>
      obtain ⟨ds, z⟩ := r
      rw [e1] at h
      dsimp only at h
      by_cases q : z < ws.length
      · rw [if_pos q] at h; cases h
      · rw [if_neg q] at h
        injection h with h
        rw [← h]
        simp only [K4.pure, pureA, Bool.true_and]
        exact parts _ _ _ _ e1
theorem rdLine_pure {l : Option Str} {d : PyData} (h : rdLine l = .ok d) : K4.pure d = true := by
  cases l with
  | none => cases h
  | some x => exact rdDeed_pure h
theorem ok_readDeeds {f fI CL : Addr} {fd fdI : FuncData} (F : Fun K "read_deeds" "read_deeds" sReadDeeds f fd) (B : Bl mg) (BZ : Bz mg) (T : TW K mg C) (MK : Mk K C fI)
    (GI : FnOk P w K mg base (L2N.CX P w) 3 fI fdI ["self", "line", "text"] (exJ fun j => spWInit j K C CL)) (bI : Binds K fdI ["self", "line", "text"] []) (Ord : OReadDeed C CL P w K mg base) : FnOk P w K mg base (L2N.CX P w) 51 f fd ["lines"] (spReadDeeds K CL) := by
  refine okXN F scReadDeeds (fun vs H Q E h => ?_) (fun cdv A outer s H vs Q E hr h => ?_)
  · obtain ⟨v, xs, ls, rfl, _⟩ := h
    rfl
  · obtain ⟨v, xs, ls, rfl, hS, hA, hl1000, k⟩ := h
    have hal := hA.len
    refine ⟨_, (pss_one (ps_ret (pe_callTy call_tuple_of (by rfl) B.tuple (by decide +kernel) (pa_cons (pe_lcX (E := E) (ow := [("number", 1), ("text", 2)]) (g := gTup K 2 (gCons (gName 1) (gCons (gName 2) gNil))) (cdt := tYes) rfl scReadDeeds.nd rfl rfl (L2N.takes_of rfl rfl rfl rfl) (fun _ _ _ _ h => h) (pi_enumA rfl BZ.enumerate (pa_cons (pv 0) pa_nil)) (blkOk_by (N := nReadDeeds) (sc := defScope sReadDeeds) (by decide +kernel)) (fun _ _ _ _ _ => (pg_tup rfl (pgs_cons (pg_name (i := 1) scReadDeeds.nd rfl (Or.inl rfl)) (pgs_cons (pg_name (i := 2) scReadDeeds.nd rfl (Or.inl rfl)) pgs_nil)))) (fun _ _ _ _ _ => pts_nil) (fun _ _ _ _ _ xe px => (pe_ownX Ord hr px (pa_cons (pe_make MK GI (hr.mono (by omega)) (by rfl) T.mgC bI .nil px (pa_cons (pv 1) (pa_cons (pv 2) pa_nil))) pa_nil)))) pa_nil)))), ?_⟩
    try dsimp only [cxOf, Cx.nox, Cx.wish]
    walk_at "go"
    refine en_sq hS (fun J G wk hG => ?_)
    intro D hD
    refine lc_pairs (K := K) wk (fun _ _ => rfl) (fun acc H' => ∃ ds : List PyData, DpAll K H' acc ds ∧ pureA ds = true ∧ Same H H' ∧
      rdLines 0 ls = (match rdLines acc.length (ls.drop acc.length) with | Outs.bad k z => Outs.bad k z | Outs.ok ds2 => Outs.ok (ds ++ ds2))) ⟨[], .nil, rfl, same_new hD, ?_⟩ (fun acc H' _ ⟨_, _, _, sm, _⟩ => hG H' (Same.keeps sm)) ?_ ?_
    · show rdLines 0 ls = (match rdLines 0 ls with | Outs.bad k z => Outs.bad k z | Outs.ok ds2 => Outs.ok ([] ++ ds2))
      cases rdLines 0 ls with
      | bad k z => rfl
      | ok q => rfl
    · rintro i x y T acc H' hx hy hi hl hacc ⟨ds, da, pa, sm, rj⟩ hT
      obtain rfl := Option.some.inj hx
      obtain ⟨l, hl', hln⟩ := LnAll.get hA hy
      have il := (List.getElem?_eq_some_iff.mp hl').1
      have hdr : ls.drop i = l :: ls.drop (i + 1) := by
        obtain ⟨h1, h2⟩ := List.getElem?_eq_some_iff.mp hl'
        rw [List.drop_eq_getElem_cons h1, h2]
      rw [hl, hdr, rdLines] at rj
      have sT := same_new (o := HO.tup [V.int (i : Nat), y]) hT
      revert sT
      generalize upd H' T (HO.tup [V.int (i : Nat), y]) = H2
      intro sT
      have hj : i < 10 ^ 6 := by omega
      walk_at "go"
      intro p dx np ndp nex
      have sm0 : ∀ H3, Kp p (upd (upd H2 dx (.own p)) p (.ins C dx [])) H3 → Same H2 H3 := fun H3 k2 c o e => by
        have n1 : c ≠ p := ne_of_none e np
        exact k2 c o n1 (by rw [upd_ne n1, upd_ne (ne_of_none e ndp)]; exact e)
      cases l with
      | some tx =>
        obtain ⟨rfl, hlx⟩ := hln
        refine ⟨⟨i, hj⟩, p, dx, _, rfl, upd_same, .inl ⟨tx, rfl, hlx, fun H1 w1 k1 => ⟨rfl, ?_⟩⟩⟩
        walk_at "go"
        refine ⟨⟨i, hj⟩, p, _, rfl, w1, ?_⟩
        simp only [rdLine] at rj
        cases er : rdDeed (Txt.split tx SP) with
        | bad e =>
          rw [er] at rj
          dsimp only at rj
          rw [rj] at k
          exact fun H3 d k2 he => k H3 d (sm.trans (sT.trans (sm0 _ (k1.trans k2)))) he
        | ok d =>
          rw [er] at rj
          dsimp only at rj
          intro H4 t k4 d4
          have s4 : Same H2 H4 := sm0 _ (k1.trans k4)
          have e4 := s4 _ _ (sT _ _ hacc)
          have pd := rdDeed_pure er
          refine pp_next e4 hl (line60 (by omega)) ⟨ds ++ [d], ?_, pureA_ap pa (by simp only [pureA, pd, Bool.and_true]), same_upd (sm.trans (sT.trans s4)) hD, ?_⟩
          · exact dpA_app (dpA_pure (KT.trans (Same.kt (sT.trans s4)) (kt_lst e4)) _ _ pa da) (.cons (dp_pure (kt_lst e4) _ _ pd d4) .nil)
          · rw [List.length_append, hl, rj]
            show _ = (match rdLines (i + 1) (ls.drop (i + 1)) with | Outs.bad k z => Outs.bad k z | Outs.ok ds2 => Outs.ok (ds ++ [d] ++ ds2))
            cases rdLines (i + 1) (ls.drop (i + 1)) with
            | bad k z => rfl
            | ok q => simp [List.append_assoc]
      | none =>
        simp only [rdLine] at rj
        rw [rj] at k
        refine ⟨⟨i, hj⟩, p, dx, y, rfl, upd_same, .inr ⟨?_, fun H3 d k2 he => k H3 d (sm.trans (sT.trans (sm0 _ k2))) he⟩⟩
        obtain ⟨ty, hty, hkit⟩ := hln
        exact ⟨ty, fun H3 s2 => hty H3 (fun c o e => s2 c o (by
          have e2 := sT _ _ (sm _ _ e)
          rw [upd_ne (ne_of_none e2 np), upd_ne (ne_of_none e2 ndp)]; exact e2)), hkit⟩
    · rintro acc H' hl hacc ⟨ds, da, pa, sm, rj⟩
      rw [hl, hal, List.drop_length, rdLines] at rj
      dsimp only at rj
      rw [List.append_nil] at rj
      rw [rj] at k
      dsimp only at k
      walk_at "go"
      refine ⟨D, _, rfl, .inl ⟨SqL.of hacc, fun t ht => ?_⟩⟩
      exact k _ t (sm.trans (same_new ht)) (.tup (SqT.of upd_same) (dpA_pure (Same.kt (same_new ht)) _ _ pa da))
end
end K4

/-! T5 -/
/-! A try statement whose first clause (except X as n) takes what the body raises; further clauses may follow. -/
namespace K4
open PySem L2 PySem.Spec PyProof.Rows
/-- the slot of the clause's name is free again behind the suite -/
def bare (i : Nat) (D : Ends) : Ends := ⟨fun t G => D.nx (t.set i none) G, D.rt, fun t G => D.bk (t.set i none) G, fun t G => D.ct (t.set i none) G⟩
def wFst (K : PySem.W.Frag) (c : Value) (i : Nat) (ts : Addr → Value → Option Addr → TS) (D : Ends) : WX := fun cls d t G =>
  PySem.W.exmOne K cls c = some true ∧ ∀ e, G e = none → ts e cls d (bare i D) (t.set i (some (.ref e))) G
theorem ps_tryFst {X : Cx} {y nm : Str} {c : Value} {i : Nat} {bd st : List Stmt} {s₀ : Stmt} {q1 q2 q3 : Pos} {more : List ExceptHandler} {tb : WX → TS} {ts : Addr → Value → Option Addr → TS}
    (stk : X.stack = X.env :: X.outer) (frm : X.env.frame = some X.env.locals) (ndp : X.N.Nodup) (slot : X.N[i]? = some nm) (lcl : X.env.kindOf nm = some .local) (cl : Names X y c)
    (bdy : ∀ (W : WX) (pn : List (Addr × Obj)) (xe : Value → Shared → Prop), L2N.Takes (X.tr pn xe) W → PassesOwn (model X.prog X.w) X.A X.env xe → PSs (X.tr pn xe) bd (tb W))
    (sui : ∀ (e : Addr) (o : Obj) (cls : Value) (d : Option Addr) (pn : List (Addr × Obj)), L2N.Zn cls d o → (∃ vs, o.data = .fields vs) → PSs (X.suite e ((e, o) :: pn)) (s₀ :: st) (ts e cls d)) :
    PS X (.Try bd (.ExceptHandler (some (.Name y q1)) (some nm) (s₀ :: st) q2 :: more) [] [] q3) (fun D t G => tb (wFst X.K c i ts D) D t G) := by
  refine ⟨fun P0 s t G D I0 h => ?_⟩
  have xk := I0.ok
  have fr0 : X.A.frames = some (X.env :: X.outer) := by rw [xk.frames, stk]
  refine wpAny_Try_except ?_
  have run := (bdy (wFst X.K c i ts D) (X.pn ++ P0) (fun v z => wpAny (model X.prog X.w) X.A (noteFrame v X.env) (fun _ z1 => wpAny (model X.prog X.w) X.A (setFlight v none)
    (fun _ z2 => wpAny (model X.prog X.w) X.A (handleBy v X.env (.ExceptHandler (some (.Name y q1)) (some nm) (s₀ :: st) q2 :: more)) (L2.SP X P0 D) X.xe z2) X.xe z1) X.xe z) ?hc PassesOwn.looking).run [] s t G D (I0.toTry _) h
  case hc =>
    rintro u z ⟨e, gr, z0, P1, t1, G1, cls, d, rfl, J0, keepB, upS, sk, noE, eqO, bareG, hit, go⟩
    have J1 : L2.Inv X P0 t1 G1 z0 := J0.ofTry xk
    rw [show (X.tr (X.pn ++ P0) _).stack = X.env :: X.outer from stk] at sk
    show wpAny (model X.prog X.w) X.A (noteFrame (.ref e) X.env) _ _ _
    refine L2N.Sky.land L2N.Zn.steady fr0 frm sk fun g3 air up3 => ?_
    have J2 : L2.Inv X P0 t1 G1 { z with heap := g3 } := J1.landed keepB air.1 (upS.trans up3) eqO bareG
    obtain ⟨o3, fs3, at3, z3, dat3⟩ := air.there
    have offF : e ∉ frs (X.env :: X.outer) := fun hm => by
      obtain ⟨_, o', e', nf⟩ := air.2.2.1.mem hm
      rw [at3] at e'; cases e'
      exact nf _ dat3
    have offL : e ≠ X.env.locals := fun w => offF (List.mem_filterMap.mpr ⟨X.env, List.mem_cons_self, by rw [frm, w]⟩)
    have offS : e ∉ X.fs := fun hm => by
      obtain ⟨v, hv, qv⟩ := List.mem_filterMap.mp hm
      exact offF (List.mem_filterMap.mpr ⟨v, List.mem_cons_of_mem _ hv, qv⟩)
    have S2 := J2.suite at3 dat3 noE offL offS
    refine wpAny_handleBy_cons (codeAny_handlers_test ?_) (by intro w; cases w)
    have lookT : PySem.W.Looks (model X.prog X.w) g3 (typeOf (.ref e)) cls := fun A Q E r k w => wpAny_typeOf_ref (k _ _ at3) (by rw [z3.1]; exact w)
    have lookM := PySem.W.exm_one (M := model X.prog X.w) J2.kIn lookT hit
    have nameC : ∀ {Q E : Value → Shared → Prop}, Q c { z with heap := g3 } → wpAny (model X.prog X.w) (X.A.mark (some (.ref e))) (eval (.Name y q1) X.env) Q E { z with heap := g3 } := by
      intro Q E w
      obtain ⟨gl, db, m | ⟨m, v, ne⟩⟩ := cl
      · exact ld_glob (X := X.suite e ((e, o3) :: (X.pn ++ P0))) S2 gl m w db
      · exact ld_blt (X := X.suite e ((e, o3) :: (X.pn ++ P0))) S2 gl m v w ne db
    refine nameC (lookM.here (codeAny_handlers_suite_as (HandSPX.lands_againZ air fun g4 air4 up4 => ?_)))
    have J4 : L2.Inv X P0 t1 G1 { z with heap := g4 } := J1.landed keepB air4.1 ((upS.trans up3).trans up4) eqO bareG
    obtain ⟨o4, fs4, at4, z4, dat4⟩ := air4.there
    refine store_ok (X := X.suite e ((e, o4) :: (X.pn ++ P0))) (v := .ref e) (J4.suite at4 dat4 noE offL offS) ndp slot (.inl lcl) rfl (fun r5 S5 => ?_) (.inr lcl)
    refine wpAny_mono ((sui e o4 cls d (X.pn ++ P0) z4 ⟨_, dat4⟩).run [] r5 _ G1 _ S5 (go e noE)) (fun f r6 w6 => ?_) fun _ _ w => w.elim
    cases f with
    | ret u =>
      obtain ⟨v6, t6, G6, S6, rel, w⟩ := w6
      exact gone_ok (S6.unsuite xk) ndp slot lcl fun r7 J7 => ⟨_, _, _, J7, rel, w⟩
    | next =>
      obtain ⟨t6, G6, S6, w⟩ := w6
      exact gone_ok (S6.unsuite xk) ndp slot lcl fun r7 J7 => ⟨_, _, J7, w⟩
    | brk =>
      obtain ⟨t6, G6, S6, w⟩ := w6
      exact gone_ok (S6.unsuite xk) ndp slot lcl fun r7 J7 => ⟨_, _, J7, w⟩
    | cont =>
      obtain ⟨t6, G6, S6, w⟩ := w6
      exact gone_ok (S6.unsuite xk) ndp slot lcl fun r7 J7 => ⟨_, _, J7, w⟩
  refine wpAny_mono run (fun f r1 w1 => ?_) fun _ _ w => w
  cases f with
  | ret u =>
    obtain ⟨v, t1, G1, J, rel, w⟩ := w1
    exact ⟨v, t1, G1, J.ofTry xk, rel, w⟩
  | next =>
    obtain ⟨t1, G1, J, w⟩ := w1
    exact wpAny_execs_nil ⟨t1, G1, J.ofTry xk, w⟩
  | brk =>
    obtain ⟨t1, G1, J, w⟩ := w1
    exact ⟨t1, G1, J.ofTry xk, w⟩
  | cont =>
    obtain ⟨t1, G1, J, w⟩ := w1
    exact ⟨t1, G1, J.ofTry xk, w⟩
end K4

/-! L7k -/


namespace K4
open PySem L2 L2H K1
abbrev sLToldOf : Stmt := top 108
abbrev nLToldOf : List Str := ["_law_lines", "fault"]
theorem scLToldOf : FnScope nLToldOf ["_law_lines"] (defScope sLToldOf) := ⟨rfl, rfl, rfl, by decide +kernel, rfl, by decide +kernel, by decide +kernel⟩
def tCls (C a : Addr) (cls : Value) (d : Option Addr) (i : Nat) : TE := fun σ H Q => σ[i]? = some (some (.ref a)) ∧ cls = .ref C ∧ ∃ (dd : Addr) (fs : List (Str × V)), d = some dd ∧ H dd = some (.xd fs) ∧
  ∀ H' r, Same H H' → H' r = some (.lst [.str "CarryError", .str "Malformed", .str "BadLine"]) → Q (.ref r) H'
theorem pe_cls {X : Cx} {f C a : Addr} {fd : FuncData} {oe : Obj} {cls : Value} {d : Option Addr} {i : Nat} {q pos p3 : Pos} {x y : Str} (F : FnE X.prog X.w X.K X.mg X.base 1 f fd ["_law_e"] (spCls C)) (hr : RoomH 1 X.A) (hh : X.A.handled = some (.ref a)) (hz : L2N.Zn cls d oe) (hf : ∃ vs, oe.data = .fields vs) (hp : (a, oe) ∈ X.pn) (hm : X.mg x = some (.ref f)) (hk : PySem.W.keepIn X.K (.ref f) = true) (hb : Binds X.K fd ["_law_e"] []) (hy : PE X (.Name y p3) (tVar i)) (hg : Gl X x := by rfl)
    (hdb : (x == ("__debug__" : Str)) = false := by decide) (he : starEach [.Name y p3] X.env = (false, eval (.Name y p3) X.env) :: starEach [] X.env := by rfl) (hpl : (backTo pos (starEach [] X.env)).any (·.1) = false := by rfl) :
    PE X (.Call (.Name x q) [.Name y p3] [] pos) (tCls C a cls d i) := by
  obtain ⟨ws, hw⟩ := hf
  refine ⟨fun pins s σ H Q I h => ?_⟩
  obtain ⟨h1, h2, dd, fs, h3, h4, k⟩ := h
  refine (pe_callE (p := (a, oe)) F hr ⟨hh, ws, hw, hz.2.2 ws hw⟩ hp hg hm hk hb (pa_cons hy pa_nil) hdb he hpl).run pins s σ H Q I ?_
  refine ⟨.ref a, h1, ?_⟩
  exact ⟨dd, fs, rfl, hz.1.trans h2, hz.2.1.trans h3, ⟨ws, hw⟩, h4, k⟩
def BadT (H : Hp) (Q : VK) (i e : Nat) : Prop := ∀ H' q l, Same H H' → H' q = some (.lst [.non, .ref l]) → H' l = some (.lst [.str "CarryError", .str "Malformed", .str "BadLine", vi i, vi e]) → Q (.ref q) H'
def spToldOf (K : PySem.W.Frag) : Sp := fun vs H Q _ => ∃ (v : V) (xs : List V) (ls : List (Option Str)), vs = [v] ∧ Sq K H v xs ∧ LnAll K H xs ls ∧ ls.length ≤ 1000 ∧ (match rdLines 0 ls with
  | .bad i e => BadT H Q i e
  | .ok ds => ∀ H' q t l, Same H H' → H' q = some (.lst [.ref t, .ref l]) → H' l = some (.lst []) → Dp K H' (.ref t) (.tuple ds) → Q (.ref q) H')
section
variable {P : Program} {w : World} {K : PySem.W.Frag} {mg : Str → Option Value} {base : Heap}
theorem ok_toldOf {f fV fC C : Addr} {fd fdV fdC : FuncData} (F : Fun K "_law_told_of" "_law_told_of" sLToldOf f fd) (B : Bl mg) (FV : FnOk P w K mg base (L2N.CX P w) 51 fV fdV ["lines"] (spReadDeeds K C)) (mV : mg "read_deeds" = some (.ref fV)) (kV : PySem.W.keepIn K (.ref fV) = true) (bV : Binds K fdV ["lines"] [])
    (FC : FnE P w K mg base 1 fC fdC ["_law_e"] (spCls C)) (mC : mg "_law_classes" = some (.ref fC)) (kC : PySem.W.keepIn K (.ref fC) = true) (bC : Binds K fdC ["_law_e"] []) (mE : mg "BadLine" = some (.ref C)) (exm : PySem.W.exmOne K (.ref C) (.ref C) = some true) (TX : XfC K C)
    (fiL : PySem.W.findIn K (.ref C) "line" = some none) (fiW : PySem.W.findIn K (.ref C) "word" = some none) :
    FnOk P w K mg base CX0 52 f fd ["_law_lines"] (spToldOf K) := by
  refine F.ok scLToldOf (fun vs H Q E h => ?_) (fun cdv A outer s H vs Q E hr h => ?_)
  · obtain ⟨y, xs, ls, rfl, _⟩ := h
    rfl
  · obtain ⟨y, xs, ls, rfl, hS, hA, hl, k⟩ := h
    have hrH : RoomH 1 (A.deeper (PyProof.Rows.envOfC "_law_told_of" (defScope sLToldOf) s.heap.objs.size f cdv)) := (roomH_of hr).mono (by decide)
    refine ⟨_, pss_one (ps_tryFst (i := 1) (tb := fun W => tRet (tLst (tCons (tCallS (spReadDeeds K C) (WE W) (tCons (tVar 0) tNil)) (tCons (tLst tNil) tNil))))
      (ts := fun a cls d => tRet (tLst (tCons (tC .non) (tCons (tOp rCat (tCls C a cls d 1) (tLst (tCons (tXf a cls d C "line" (tVar 1)) (tCons (tXf a cls d C "word" (tVar 1)) tNil)))) tNil))))
      rfl rfl scLToldOf.nd rfl rfl ⟨rfl, by decide, Or.inl mE⟩
      (fun W pn xe tk _ => pss_one (ps_ret (pe_lst (pa_cons (pe_callS FV hr rfl mV kV bV (fun σ => L2N.passAt tk σ) (pa_cons (pv 0) pa_nil)) (pa_cons (pe_lst pa_nil) pa_nil)))))
      (fun a oe cls d pn hz hf => pss_one (ps_ret (pe_lst (pa_cons pe_non (pa_cons (pe_op op_cat (pe_cls FC ⟨hrH.dp, hrH.un⟩ rfl hz hf (List.mem_cons_self ..) mC kC bC (pv 1)) (pe_lst (pa_cons (pe_xf TX fiL hz.zc hf (pv 1)) (pa_cons (pe_xf TX fiW hz.zc hf (pv 1)) pa_nil)))) pa_nil)))))), ?_⟩
    try dsimp only [cxOf, Cx.nox, Cx.wish]
    have bad : ∀ i e, BadT H Q i e → BadS C H (WE (wFst K (.ref C) 1 (fun a cls d => tRet (tLst (tCons (tC .non) (tCons (tOp rCat (tCls C a cls d 1) (tLst (tCons (tXf a cls d C "line" (tVar 1)) (tCons (tXf a cls d C "word" (tVar 1)) tNil)))) tNil)))) { nx := fun _ H' => Q .non H', rt := Q }) (L2.start nLToldOf [y])) i e := by
      intro i e k H1 d s1 hd
      refine ⟨exm, fun a ha => ?_⟩
      dsimp only [List.set, bare]
      walk_at "go"
      refine ⟨rfl, rfl, d, _, rfl, hd, fun H2 r s2 hr2 => ?_⟩
      walk_at "go"
      refine ⟨rfl, rfl, d, _, vi i, rfl, s2 _ _ hd, rfl, ?_⟩
      walk_at "go"
      refine ⟨rfl, rfl, d, _, vi e, rfl, s2 _ _ hd, rfl, ?_⟩
      walk_at "go"
      refine ⟨(by show 2 ≤ sizeLine; decide), fun p0 h0 => ?_⟩
      have s3 := same_new (o := HO.lst [vi i, vi e]) h0
      refine cat_two (s3 _ _ hr2) upd_same (by simp) (fun H4 l4 s4 x4 => ?_)
      walk_at "go"
      refine ⟨(by show 2 ≤ sizeLine; decide), fun q hq => ?_⟩
      have s5 := same_new (o := HO.lst [V.non, .ref l4]) hq
      exact k _ q l4 (s1.trans (s2.trans (s3.trans (s4.trans s5)))) upd_same (s5 _ _ x4)
    walk_at "go"
    refine ⟨y, xs, ls, rfl, hS, hA, hl, ?_⟩
    cases er : rdLines 0 ls with
    | bad i e =>
      rw [er] at k
      exact bad i e k
    | ok ds =>
      rw [er] at k
      intro H1 t s1 dt
      walk_at "go"
      refine ⟨(by show 0 ≤ sizeLine; decide), fun l hl => ?_⟩
      have s2 := same_new (o := HO.lst []) hl
      walk_at "go"
      refine ⟨(by show 2 ≤ sizeLine; decide), fun q hq => ?_⟩
      have s3 := same_new (o := HO.lst [V.ref t, .ref l]) hq
      exact k _ q t l (s1.trans (s2.trans s3)) upd_same (s3 _ _ upd_same) (dp_keep (Same.keeps (s2.trans s3)) _ _ dt)
end
end K4

/-! N7b -/
/-! Free names, in pure: 26 turns find one. -/
namespace K4
open PySem L2 K1 PyProof.Rows
theorem nodup_le {α : Type} [DecidableEq α] : ∀ {l m : List α}, l.Nodup → (∀ x ∈ l, x ∈ m) → l.length ≤ m.length
  | [], _, _, _ => Nat.zero_le _
  | a :: l, m, hn, h => by
    have ha := h a (List.mem_cons_self ..)
    have hn2 := List.nodup_cons.mp hn
    have ih := nodup_le (l := l) (m := m.erase a) hn2.2 fun x hx => by
      have ne : x ≠ a := fun q => hn2.1 (q ▸ hx)
      exact (List.mem_erase_of_ne ne).mpr (h x (List.mem_cons_of_mem _ hx))
    have hl := List.length_erase_of_mem ha
    have hp : 0 < m.length := List.length_pos_of_mem ha
    rw [List.length_cons]
    omega
theorem tl_AZ : tl AZ = (List.range 26).map (97 + ·) := by decide +kernel
theorem six : ((noNames.map tl).filter fun y => decide (y.length = 6)).length = 3 := by decide +kernel
theorem pigeon {told : List Str} (ht : told.length ≤ 3) {p : List Nat} (hp : p.length = 5) {f : Nat}
    (h : ∀ s, 6 ≤ s → s < 26 → (∃ y ∈ told, tl y = p ++ [97 + (f + s - 1) % 26]) ∨ ∃ y ∈ noNames, tl y = p ++ [97 + (f + s - 1) % 26]) : False := by
  have key := nodup_le (l := [0, 1, 2, 3, 4, 5, 6].map fun i : Nat => p ++ [97 + (f + (6 + i) - 1) % 26]) (m := told.map tl ++ (noNames.map tl).filter fun y => decide (y.length = 6)) ?_ ?_
  · rw [List.length_append, six, List.length_map, List.length_map] at key
    simp only [List.length_cons, List.length_nil] at key
    omega
  · simp only [List.map_cons, List.map_nil, List.nodup_cons, List.mem_cons, List.not_mem_nil, or_false, List.append_cancel_left_eq, List.cons.injEq, and_true, not_or, not_false_eq_true, List.nodup_nil]
    refine ⟨⟨?_, ?_, ?_, ?_, ?_, ?_⟩, ⟨?_, ?_, ?_, ?_, ?_⟩, ⟨?_, ?_, ?_, ?_⟩, ⟨?_, ?_, ?_⟩, ⟨?_, ?_⟩, ?_⟩ <;> omega
  · intro x hx
    obtain ⟨i, hi, rfl⟩ := List.mem_map.mp hx
    have i7 : i < 7 := by
      simp only [List.mem_cons, List.not_mem_nil, or_false] at hi
      omega
    rcases h (6 + i) (by omega) (by omega) with ⟨y, hy, e⟩ | ⟨y, hy, e⟩
    · exact List.mem_append_left _ (List.mem_map.mpr ⟨y, hy, e⟩)
    · refine List.mem_append_right _ (List.mem_filter.mpr ⟨List.mem_map.mpr ⟨y, hy, e⟩, ?_⟩)
      rw [decide_eq_true_iff, List.length_append, hp]
      rfl
/-- a name that is being made -/
structure Lw (x : Str) : Prop where
  lo : 1 ≤ (tl x).length
  hi : (tl x).length ≤ 6
  az : ∀ c ∈ tl x, c ∈ tl AZ
/-- what stood in the way -/
def Ban (told : List Str) (x : Str) : Prop := x ∈ told ∨ isNo x = true
theorem ban_of {told : List Str} {x : Str} (h : Ban told x) : (∃ y ∈ told, tl y = tl x) ∨ ∃ y ∈ noNames, tl y = tl x := by
  rcases h with h | h
  · exact .inl ⟨x, h, rfl⟩
  · unfold isNo inV at h
    obtain ⟨v, hv, e⟩ := List.any_eq_true.mp h
    obtain ⟨y, hy, rfl⟩ := List.mem_map.mp hv
    refine .inr ⟨y, hy, ?_⟩
    have : y = x := by simpa [eqV] using e
    rw [this]
structure Trail (told : List Str) (f t : Nat) (x : Str) : Prop where
  lw : Lw x
  lo : t < 6 → t + 1 ≤ (tl x).length
  hi : 6 ≤ t → ∃ p : List Nat, p.length = 5 ∧ tl x = p ++ [97 + (f + t - 1) % 26] ∧ ∀ s, 6 ≤ s → s < t → (∃ y ∈ told, tl y = p ++ [97 + (f + s - 1) % 26]) ∨ ∃ y ∈ noNames, tl y = p ++ [97 + (f + s - 1) % 26]
theorem Trail.start {told : List Str} {f : Nat} {x : Str} (h : Lw x) : Trail told f 0 x := ⟨h, fun _ => h.lo, fun q => by omega⟩
theorem mem_AZ (i : Nat) : 97 + i % 26 ∈ tl AZ := by
  rw [tl_AZ]
  exact List.mem_map.mpr ⟨i % 26, List.mem_range.mpr (Nat.mod_lt _ (by decide)), rfl⟩
theorem Trail.next {told : List Str} {f t : Nat} {x y : Str} (h : Trail told f t x) (b : Ban told x) (hy : tl y = (tl x).take 5 ++ [97 + (f + t) % 26]) : Trail told f (t + 1) y := by
  have l1 := h.lw.lo
  have l2 := h.lw.hi
  have ly : (tl y).length = min 5 (tl x).length + 1 := by rw [hy, List.length_append, List.length_take]; rfl
  refine ⟨⟨by omega, by omega, fun c hc => ?_⟩, fun q => ?_, fun q => ?_⟩
  · rw [hy] at hc
    rcases List.mem_append.mp hc with hc | hc
    · exact h.lw.az c (List.mem_of_mem_take hc)
    · rw [List.mem_singleton.mp hc]; exact mem_AZ _
  · have := h.lo (by omega)
    omega
  · have ef : f + (t + 1) - 1 = f + t := by omega
    rcases Nat.lt_or_ge t 6 with q2 | q2
    · have e5 : t = 5 := by omega
      have l6 := h.lo q2
      refine ⟨(tl x).take 5, by rw [List.length_take]; omega, by rw [hy, ef], fun s h1 h2 => by omega⟩
    · obtain ⟨p, hp, ex, hs⟩ := h.hi q2
      have tk : (tl x).take 5 = p := by rw [ex, List.take_append_of_le_length (by omega), List.take_of_length_le (by omega)]
      refine ⟨p, hp, by rw [hy, tk, ef], fun s h1 h2 => ?_⟩
      rcases Nat.lt_or_ge s t with q3 | q3
      · exact hs s h1 q3
      · obtain rfl : s = t := by omega
        rw [← ex]
        exact ban_of b
theorem Trail.no {told : List Str} {f : Nat} {x : Str} (ht : told.length ≤ 3) (h : Trail told f 26 x) : False := by
  obtain ⟨p, hp, _, hs⟩ := h.hi (by decide)
  exact pigeon ht hp hs
theorem Lw.nm {x : Str} (h : Lw x) (n : isNo x = false) : isNm x = true := by
  unfold isNm
  rw [Bool.and_eq_true, textB_iff]
  have l1 := h.lo
  have l2 := h.hi
  have e := len_tl x
  exact ⟨⟨by omega, by omega, h.az⟩, by rw [n]; rfl⟩
end K4

/-! L7b -/


namespace K4
open PySem L2 K1
abbrev sLPaperOf : Stmt := top 81
abbrev nLPaperOf : List Str := ["_law_bag", "_law_signs", "_law_most", "_law_told", "_law_k"]
theorem scLPaperOf : FnScope nLPaperOf ["_law_bag", "_law_signs", "_law_most"] (defScope sLPaperOf) := ⟨rfl, rfl, rfl, by decide +kernel, rfl, by decide +kernel, by decide +kernel⟩
abbrev sLKeys : Stmt := top 100
abbrev nLKeys : List Str := ["_law_a", "_law_b"]
theorem scLKeys : FnScope nLKeys [] (defScope sLKeys) := ⟨rfl, rfl, rfl, by decide +kernel, rfl, by decide +kernel, by decide +kernel⟩
abbrev sLFree : Stmt := top 101
abbrev nLFree : List Str := ["_law_bag", "_law_many", "_law_letters", "_law_told", "_law_k", "_law_name", "_law_turn", "_law_first"]
theorem scLFree : FnScope nLFree ["_law_bag", "_law_many"] (defScope sLFree) := ⟨rfl, rfl, rfl, by decide +kernel, rfl, by decide +kernel, by decide +kernel⟩
theorem tl_app (x y : Str) : tl (x ++ y) = tl x ++ tl y := by
  show (x.cps ++ y.cps).toList = _
  exact Array.toList_append
def spPaperOf : Sp := fun vs H Q _ => ∃ (b : Addr) (z : Str) (m : Int) (n : Nat), vs = [.ref b, .str z, .int m] ∧ IsBag H b n ∧ n + 100 ≤ 2 ^ 40 ∧ z.length ≤ 1000 ∧ 1 ≤ z.length ∧ 0 ≤ m ∧ m ≤ 60 ∧
  ∀ (x : Str) H', (x.length : Int) ≤ m → (∀ c ∈ tl x, c ∈ tl z) → IsBag H' b (n + 100) → Off b H H' → Q (.str x) H'
def spKeys : Sp := fun vs H Q _ => vs = [] ∧ ∀ H' p, Same H H' → H' p = some (.tup (noNames.map V.str)) → Q (.ref p) H'
def spFree : Sp := fun vs H Q _ => ∃ (b : Addr) (n : Nat), vs = [.ref b, vi 4] ∧ IsBag H b n ∧ n + 1000 ≤ 2 ^ 40 ∧
  ∀ (ns : List Str) H' p, ns.length = 4 → (∀ x ∈ ns, isNm x = true) → IsBag H' b (n + 1000) → Kp b H H' → H p = none → p ≠ b → H' p = some (.lst (ns.map V.str)) → Q (.ref p) H'
theorem sgn_ne {z : Str} (h : 1 ≤ z.length) : (sgn z).map V.str ≠ [] := by
  intro q
  have := congrArg List.length q
  rw [List.length_map, sgn_len] at this
  simp at this
  omega
theorem sgn_mem {z : Str} {v : V} (h : v ∈ (sgn z).map V.str) : ∃ y : Str, v = .str y ∧ y.length = 1 ∧ ∀ c ∈ tl y, c ∈ tl z := by
  obtain ⟨y, hy, rfl⟩ := List.mem_map.mp h
  obtain ⟨c, hc, rfl⟩ := List.mem_map.mp hy
  refine ⟨_, rfl, rfl, fun d hd => ?_⟩
  have e : tl ⟨#[c]⟩ = [c] := rfl
  rw [e] at hd
  rw [List.mem_singleton.mp hd]
  exact hc
theorem pe_own0 {X : Cx} {x : Str} {k : Nat} {ps : List Str} {sp : Sp} {p pos : Pos} (O : Own X.prog X.w X.K X.mg X.base x k ps sp) (hr : Room k X.A) (hg : Gl X x := by rfl) (hdb : (x == ("__debug__" : Str)) = false := by decide) :
    PE X (.Call (.Name x p) [] [] pos) (tCall sp [] E0 tNil) := by
  obtain ⟨f, fd, G, m, kp, b⟩ := O
  exact pe_call0 G hr hg m kp b .nil pass0 hdb
theorem ltr (i : Nat) : atI AZ.cps.toList ((i % 26 : Nat) : Int) = some (97 + i % 26) := by
  refine atI_nat ?_
  show (tl AZ)[i % 26]? = _
  have h : i % 26 < 26 := Nat.mod_lt _ (by decide)
  rw [tl_AZ, List.getElem?_map, List.getElem?_range h]
  rfl
theorem kp_updL {b L : Addr} {H H' : Hp} {o : HO} (k : Kp b H H') (h : H L = none) : Kp b H (upd H' L o) := fun c u n e => by
  rw [upd_ne (ne_of_none e h)]
  exact k c u n e
theorem catT_new {K : PySem.W.Frag} {H : Hp} {Q : VK} {a b : Addr} {xs ys : List V} (hx : SqT K H a xs) (hy : SqT K H b ys) (nx : xs ≠ []) (ny : ys ≠ []) (l : xs.length + ys.length ≤ 1000) (q : ∀ H' p, Same H H' → H' p = some (.tup (xs ++ ys)) → Q (.ref p) H') : rCatT K (.ref a) (.ref b) H Q :=
  ⟨a, b, xs, ys, rfl, rfl, hx, hy, nx, Nat.le_of_lt (line60 l), fun e => absurd e ny, fun _ p hp => q _ p (same_new hp) upd_same⟩
theorem take5 (x : Str) : tl (cutS x none (some 5)) = (tl x).take 5 := by
  unfold cutS
  rw [show (5 : Int) = ((5 : Nat) : Int) from rfl, HT.sIx_nat, HT.sIx_none]
  show ((x.cps.toList.drop 0).take (min 5 x.length - 0)) = _
  rw [List.drop_zero, Nat.sub_zero]
  have e : x.length = (tl x).length := len_tl x
  rcases Nat.le_total 5 x.length with q | q
  · rw [Nat.min_eq_left q]
  · rw [Nat.min_eq_right q, e, List.take_length, List.take_of_length_le (by omega)]
section
variable {P : Program} {w : World} {K : PySem.W.Frag} {mg : Str → Option Value} {base : Heap}
theorem ok_paperOf {f : Addr} {fd : FuncData} (F : Fun K "_law_paper_of" "_law_paper_of" sLPaperOf f fd) (B : Bl mg) (Op : OPick P w K mg base) (Oo : OOneOf P w K mg base) : FnOk P w K mg base CX0 3 f fd ["_law_bag", "_law_signs", "_law_most"] spPaperOf := by
  refine F.ok scLPaperOf (fun vs H Q E h => ?_) (fun cdv A outer s H vs Q E hr h => ?_)
  · obtain ⟨b, z, m, n, rfl, _⟩ := h
    rfl
  · obtain ⟨b, z, m, n, rfl, hb, hn, hz, hz1, m0, m60, k⟩ := h
    refine ⟨_, (pss_cons (ps_set (i := 3) scLPaperOf.nd rfl (Or.inl rfl) pe_str) (pss_cons (ps_for PassesOwn.never rfl (pi_range1 rfl B.range (pa_cons (pe_own Op (hr.mono (by omega)) (pa_cons (pv 0) (pa_cons (pe_op op_add (pv 2) pe_int) pa_nil))) pa_nil)) (pg_name (i := 4) scLPaperOf.nd rfl (Or.inl rfl)) (pss_one (ps_set (i := 3) scLPaperOf.nd rfl (Or.inl rfl) (pe_op op_add_str (pv 3) (pe_own Oo hr (pa_cons (pv 0) (pa_cons (pv 1) pa_nil))))))) (pss_one (ps_ret (pv 3))))), ?_⟩
    try dsimp only [cxOf, Cx.nox, Cx.wish]
    walk_at "go"
    refine ⟨_, _, n, rfl, hb, by omega, by omega, fun r H1 r0 r1 hb1 of1 => ?_⟩
    obtain ⟨q, rfl⟩ : ∃ q : Nat, r = (q : Int) := ⟨r.toNat, by omega⟩
    walk_at "go"
    refine ⟨by omega, by omega, fr_range (lo := 0) (n := q) (fun i σ H' => ∃ (x : Str) (kk : Option V), σ = [some (.ref b), some (.str z), some (.int m), some (.str x), kk] ∧ x.length ≤ i ∧ (∀ c ∈ tl x, c ∈ tl z) ∧ IsBag H' b (n + 1 + i) ∧ Off b H H')
      ⟨"", none, rfl, Nat.le_refl _, (by rw [tl_emp]; simp), hb1, of1⟩ ?_ ?_⟩
    · rintro i σ H' hi ⟨x, kk, rfl, xl, xc, hbi, ofi⟩
      walk_at "go"
      refine ⟨b, _, _, n + 1 + i, rfl, hbi, by omega, .inl ⟨z, rfl, rfl, hz⟩, sgn_ne hz1, fun v H2 hv hb2 of2 => ?_⟩
      obtain ⟨y, rfl, yl, yc⟩ := sgn_mem hv
      refine ⟨_, _, rfl, rfl, (by rw [sizeLine_eq]; omega), ?_⟩
      walk_at "go"
      refine ⟨_, _, rfl, ?_, ?_, hb2.mono (by omega), ofi.trans of2⟩
      · have e1 := len_tl (x ++ y)
        have e2 := len_tl x
        have e3 := len_tl y
        rw [tl_app, List.length_append] at e1
        omega
      · intro c hc
        rw [tl_app] at hc
        rcases List.mem_append.mp hc with hc | hc
        · exact xc c hc
        · exact yc c hc
    · rintro σ H' ⟨x, kk, rfl, xl, xc, hbi, ofi⟩
      walk_at "go"
      exact k x H' (by omega) xc (hbi.mono (by omega)) ofi
theorem ok_keys {f : Addr} {fd : FuncData} (F : Fun K "_law_keywords" "_law_keywords" sLKeys f fd) (B : Bl mg) : FnOk P w K mg base CX0 1 f fd [] spKeys := by
  refine F.ok scLKeys (fun vs H Q E h => ?_) (fun cdv A outer s H vs Q E hr h => ?_)
  · obtain ⟨rfl, _⟩ := h
    rfl
  · obtain ⟨rfl, k⟩ := h
    refine ⟨_, (pss_cons (ps_set (i := 0) scLKeys.nd rfl (Or.inl rfl) (pe_tup (pa_cons pe_str (pa_cons pe_str (pa_cons pe_str (pa_cons pe_str (pa_cons pe_str (pa_cons pe_str (pa_cons pe_str (pa_cons pe_str (pa_cons pe_str (pa_cons pe_str (pa_cons pe_str (pa_cons pe_str pa_nil)))))))))))))) (pss_cons (ps_set (i := 1) scLKeys.nd rfl (Or.inl rfl) (pe_tup (pa_cons pe_str (pa_cons pe_str (pa_cons pe_str (pa_cons pe_str (pa_cons pe_str (pa_cons pe_str (pa_cons pe_str (pa_cons pe_str (pa_cons pe_str (pa_cons pe_str (pa_cons pe_str (pa_cons pe_str pa_nil)))))))))))))) (pss_one (ps_ret (pe_op op_catT (pe_op op_catT (pv 0) (pv 1)) (pe_tup (pa_cons pe_str (pa_cons pe_str (pa_cons pe_str (pa_cons pe_str pa_nil)))))))))), ?_⟩
    try dsimp only [cxOf, Cx.nox, Cx.wish]
    walk_at "go"
    refine ⟨(by show 12 ≤ sizeLine; decide), fun p0 h0 => ?_⟩
    generalize e0 : upd H p0 _ = H1
    obtain ⟨s0, x0⟩ := new_end h0 e0
    walk_at "go"
    refine ⟨(by show 12 ≤ sizeLine; decide), fun p1 h1 => ?_⟩
    generalize e1 : upd H1 p1 _ = H2
    obtain ⟨s1, x1⟩ := new_end h1 e1
    walk_at "go"
    refine catT_new (SqT.of (s1 _ _ x0)) (SqT.of x1) (by simp) (by simp) (by decide) (fun H3 p3 s3 x3 => ?_)
    walk_at "go"
    refine ⟨(by show 4 ≤ sizeLine; decide), fun p4 h4 => ?_⟩
    have s4 := same_new (o := HO.tup [V.str "void", V.str "again", V.str "day", V.str "edition"]) h4
    refine catT_new (SqT.of (s4 _ _ x3)) (SqT.of upd_same) (by simp) (by simp) (by decide) (fun H5 p5 s5 x5 => ?_)
    exact k H5 p5 (s0.trans (s1.trans (s3.trans (s4.trans s5)))) x5
abbrev OKeys (P : Program) (w : World) (K : PySem.W.Frag) (mg : Str → Option Value) (base : Heap) : Prop := Own P w K mg base "_law_keywords" 1 [] spKeys
theorem ok_free {f : Addr} {fd : FuncData} (F : Fun K "_law_free_names" "_law_free_names" sLFree f fd) (B : Bl mg) (Op : OPick P w K mg base) (Oo : OOneOf P w K mg base) (Okw : OKeys P w K mg base) : FnOk P w K mg base CX0 4 f fd ["_law_bag", "_law_many"] spFree := by
  refine F.ok scLFree (fun vs H Q E h => ?_) (fun cdv A outer s H vs Q E hr h => ?_)
  · obtain ⟨b, n, rfl, _⟩ := h
    rfl
  · obtain ⟨b, n, rfl, hb, hn, k⟩ := h
    refine ⟨_, (pss_cons (ps_set (i := 2) scLFree.nd rfl (Or.inl rfl) pe_str) (pss_cons (ps_set (i := 3) scLFree.nd rfl (Or.inl rfl) (pe_lst pa_nil)) (pss_cons (ps_for PassesOwn.never rfl (pi_range1 rfl B.range (pa_cons (pv 1) pa_nil)) (pg_name (i := 4) scLFree.nd rfl (Or.inl rfl)) (pss_cons (ps_set (i := 5) scLFree.nd rfl (Or.inl rfl) (pe_own Oo (hr.mono (by omega)) (pa_cons (pv 0) (pa_cons (pv 2) pa_nil)))) (pss_cons (ps_for PassesOwn.never rfl (pi_range1 rfl B.range (pa_cons (pe_own Op (hr.mono (by omega)) (pa_cons (pv 0) (pa_cons pe_int pa_nil))) pa_nil)) (pg_name (i := 6) scLFree.nd rfl (Or.inl rfl)) (pss_one (ps_set (i := 5) scLFree.nd rfl (Or.inl rfl) (pe_op op_add_str (pv 5) (pe_own Oo (hr.mono (by omega)) (pa_cons (pv 0) (pa_cons (pv 2) pa_nil))))))) (pss_cons (ps_set (i := 7) scLFree.nd rfl (Or.inl rfl) (pe_own Op (hr.mono (by omega)) (pa_cons (pv 0) (pa_cons pe_int pa_nil)))) (pss_cons (ps_for PassesOwn.never rfl (pi_range1 rfl B.range (pa_cons pe_int pa_nil)) (pg_name (i := 6) scLFree.nd rfl (Or.inl rfl)) (pss_cons (ps_if (PW.pt (pw_and (pt_cmpR op_notIn_seq (pv 5) (pv 3) (by rfl)) (pw_and1 (pt_cmpR op_notIn_seq (pv 5) (pe_own0 Okw (hr.mono (by omega))) (by rfl))))) (pss_one ps_break) pss_nil) (pss_one (ps_set (i := 5) scLFree.nd rfl (Or.inl rfl) (pe_op op_add_str (pe_slice sl_str (pv 5) po_none (po_some pe_int)) (pe_ix ix_str (pv 2) (pe_op op_mod (pe_callTy call_int1 (by rfl) B.int (by decide +kernel) (pa_cons (pe_op op_add (pv 7) (pv 6)) pa_nil)) pe_int) (fun _ _ => rfl))))))) (pss_one (ps_expr (pe_bm PySem.F.plainAttrs_list PySem.F.slot_list_append PySem.F.type_list_append mt_append (pv 3) (pa_cons (pv 5) pa_nil))))))))) (pss_one (ps_ret (pv 3)))))), ?_⟩
    try dsimp only [cxOf, Cx.nox, Cx.wish]
    have azl : AZ.length = 26 := by rw [len_tl, tl_AZ]; simp
    walk_at "go"
    refine ⟨(by show 0 ≤ sizeLine; decide), fun L hL => ?_⟩
    have nLb := hb.ne hL
    walk_at "go"
    refine ⟨by omega, by omega, fr_range (lo := 0) (n := 4) (fun i σ H' => ∃ (ns : List Str) (k4 k5 k6 k7 : Option V), σ = [some (.ref b), some (vi 4), some (.str AZ), some (.ref L), k4, k5, k6, k7] ∧ ns.length = i ∧ (∀ x ∈ ns, isNm x = true) ∧
        IsBag H' b (n + 100 * i) ∧ H' L = some (.lst (ns.map V.str)) ∧ Kp b H H') ⟨[], none, none, none, none, rfl, rfl, (by simp), hb.new hL, upd_same, Same.kp (same_new hL)⟩ ?_ ?_⟩
    · rintro i σ H' hi ⟨ns, k4, k5, k6, k7, rfl, nl, nok, hbi, eL, kp⟩
      walk_at "go"
      refine ⟨b, _, _, n + 100 * i, rfl, hbi, by omega, .inl ⟨AZ, rfl, rfl, by rw [azl]; decide⟩, sgn_ne (by rw [azl]; decide), fun v H2 hv hb2 of2 => ?_⟩
      obtain ⟨y, rfl, yl, yc⟩ := sgn_mem hv
      walk_at "go"
      refine ⟨_, _, _, rfl, hb2, by omega, by decide, fun r H3 r0 r1 hb3 of3 => ?_⟩
      obtain ⟨q, rfl⟩ : ∃ q : Nat, r = (q : Int) := ⟨r.toNat, by omega⟩
      have eL3 := of3.at nLb (of2.at nLb eL)
      have kp3 := kp.trans (of2.kp.trans of3.kp)
      walk_at "go"
      refine ⟨by omega, by omega, fr_range (lo := 0) (n := q) (fun j σ H' => ∃ (x : Str) (kk : Option V), σ = [some (.ref b), some (vi 4), some (.str AZ), some (.ref L), some (.int (0 + (i : Int))), some (.str x), kk, k7] ∧ 1 ≤ x.length ∧ x.length ≤ 1 + j ∧ (∀ c ∈ tl x, c ∈ tl AZ) ∧
        IsBag H' b (n + 100 * i + 2 + j) ∧ H' L = some (.lst (ns.map V.str)) ∧ Kp b H H') ⟨y, k6, rfl, by omega, by omega, yc, hb3, eL3, kp3⟩ ?_ ?_⟩
      · rintro j σ H4 hj ⟨x, kk, rfl, x1, x2, xc, hb4, eL4, kp4⟩
        walk_at "go"
        refine ⟨b, _, _, n + 100 * i + 2 + j, rfl, hb4, by omega, .inl ⟨AZ, rfl, rfl, by rw [azl]; decide⟩, sgn_ne (by rw [azl]; decide), fun v H5 hv hb5 of5 => ?_⟩
        obtain ⟨z, rfl, zl, zc⟩ := sgn_mem hv
        refine ⟨_, _, rfl, rfl, (by rw [sizeLine_eq]; omega), ?_⟩
        walk_at "go"
        have e1 := len_tl (x ++ z)
        have e2 := len_tl x
        have e3 := len_tl z
        rw [tl_app, List.length_append] at e1
        refine ⟨_, _, rfl, by omega, by omega, fun c hc => ?_, hb5.mono (by omega), of5.at nLb eL4, kp4.trans of5.kp⟩
        rw [tl_app] at hc
        rcases List.mem_append.mp hc with hc | hc
        · exact xc c hc
        · exact zc c hc
      · rintro σ H4 ⟨x, kk, rfl, x1, x2, xc, hb4, eL4, kp4⟩
        have lw : Lw x := ⟨by rw [← len_tl]; exact x1, by rw [← len_tl]; omega, xc⟩
        walk_at "go"
        refine ⟨_, _, _, rfl, hb4, by omega, by decide, fun r' H5 r0' r1' hb5 of5 => ?_⟩
        obtain ⟨g, rfl⟩ : ∃ g : Nat, r' = (g : Int) := ⟨r'.toNat, by omega⟩
        walk_at "go"
        refine ⟨by omega, by omega, fr_range (lo := 0) (n := 26) (fun t σ H' => ∃ (x : Str) (kk : Option V), σ = [some (.ref b), some (vi 4), some (.str AZ), some (.ref L), some (.int (0 + (i : Int))), some (.str x), kk, some (vi g)] ∧ Trail ns g t x ∧
          IsBag H' b (n + 100 * i + 50) ∧ H' L = some (.lst (ns.map V.str)) ∧ Kp b H H') ⟨x, kk, rfl, Trail.start lw, hb5.mono (by omega), of5.at nLb eL4, kp4.trans of5.kp⟩ ?_ ?_⟩
        · rintro t σ H6 ht ⟨x, kk, rfl, tr, hb6, eL6, kp6⟩
          walk_at "go"
          refine ⟨L, _, rfl, .inl (SqL.of eL6), rfl, flat_strs _, ?_⟩
          dsimp only
          rw [if_pos rfl, inV_strs']
          have et : ((g : Int) + (0 + (t : Int))) % 26 = ((((g + t) % 26 : Nat)) : Int) := by
            omega
          by_cases hx : x ∈ ns
          · rw [decide_eq_true hx]
            refine ⟨false, rfl, ?_⟩
            walk_at "go"
            refine ⟨(by have := tr.lw.hi; rw [len_tl, sizeLine_eq]; omega), ?_⟩
            walk_at "go"
            refine r_I (by decide) ?_
            rw [et]
            refine r_ixS (by rw [azl]; decide) (ltr (g + t)) ?_
            refine ⟨_, _, rfl, rfl, ?_, ?_⟩
            · have e1 := len_tl (cutS x none (some 5))
              rw [take5, List.length_take] at e1
              have e2 : (⟨#[97 + (g + t) % 26]⟩ : Str).length = 1 := rfl
              rw [e2, sizeLine_eq]
              omega
            walk_at "go"
            refine ⟨_, _, rfl, tr.next (.inl hx) (by rw [tl_app, take5]), hb6, eL6, kp6⟩
          · rw [decide_eq_false hx]
            refine ⟨true, rfl, ?_⟩
            walk_at "go"
            refine ⟨rfl, fun H7 p7 s7 e7 => ?_⟩
            refine ⟨p7, _, rfl, .inr (SqT.of e7), rfl, flat_strs _, ?_⟩
            dsimp only
            rw [if_pos rfl]
            cases hno : inV (V.str x) (noNames.map V.str) with
            | true =>
              refine ⟨false, rfl, ?_⟩
              walk_at "go"
              refine ⟨(by have := tr.lw.hi; rw [len_tl, sizeLine_eq]; omega), ?_⟩
              walk_at "go"
              refine r_I (by decide) ?_
              rw [et]
              refine r_ixS (by rw [azl]; decide) (ltr (g + t)) ?_
              refine ⟨_, _, rfl, rfl, ?_, ?_⟩
              · have e1 := len_tl (cutS x none (some 5))
                rw [take5, List.length_take] at e1
                have e2 : (⟨#[97 + (g + t) % 26]⟩ : Str).length = 1 := rfl
                rw [e2, sizeLine_eq]
                omega
              walk_at "go"
              refine ⟨_, _, rfl, tr.next (.inr hno) (by rw [tl_app, take5]), (hb6.same s7), (s7 _ _ eL6), (kp6.trans (Same.kp s7))⟩
            | false =>
              refine ⟨true, rfl, ?_⟩
              walk_at "go"
              have eL7 := s7 _ _ eL6
              refine ⟨tyL (SqL.of eL7), ?_⟩
              walk_at "go"
              refine ⟨L, _, _, rfl, rfl, eL7, line60 (by rw [List.length_map, nl]; omega), ?_⟩
              refine ⟨ns ++ [x], _, _, _, _, rfl, by rw [List.length_append, nl]; rfl, fun y hy => ?_, bag_upd ((hb6.same s7).mono (by omega)) nLb, by rw [upd_same, List.map_append]; rfl, kp_updL (kp6.trans (Same.kp s7)) hL⟩
              rcases List.mem_append.mp hy with hy | hy
              · exact nok y hy
              · rw [List.mem_singleton.mp hy]
                exact tr.lw.nm hno
        · rintro σ H6 ⟨x, kk, rfl, tr, _⟩
          exact (Trail.no (by omega) tr).elim
    · rintro σ H' ⟨ns, k4, k5, k6, k7, rfl, nl, nok, hbi, eL, kp⟩
      walk_at "go"
      exact k ns H' L nl nok (hbi.mono (by omega)) kp hL nLb eL
end
end K4

/-! L7c -/


namespace K4
open PySem L2 K1
abbrev sLDeedWord : Stmt := top 106
abbrev nLDeedWord : List Str := ["_law_kind", "_law_word", "_law_many", "_law_good"]
theorem scLDeedWord : FnScope nLDeedWord ["_law_kind", "_law_word"] (defScope sLDeedWord) := ⟨rfl, rfl, rfl, by decide +kernel, rfl, by decide +kernel, by decide +kernel⟩
abbrev sLDeedLine : Stmt := top 105
abbrev nLDeedLine : List Str := ["_law_deed", "_law_thing"]
theorem scLDeedLine : FnScope nLDeedLine ["_law_deed"] (defScope sLDeedLine) := ⟨rfl, rfl, rfl, by decide +kernel, rfl, by decide +kernel, by decide +kernel⟩
def rd1 : Pk → Str → Option PyData
  | .name, x => (rdName x).map PyData.str
  | .many, x => (rdNum 1 20 x).map pn
  | .paper, x => (rdPap x).map PyData.str
  | .rule, _ => none
def spLDeedWord (K : PySem.W.Frag) : Sp := fun vs H Q _ => ∃ (pk : Pk) (x : Str), vs = [.str pk.nm, .str x] ∧ pk ≠ .rule ∧ x.length ≤ 500000 ∧ ∀ H' p xs, Same H H' → H p = none → H' p = some (.lst xs) → DpAll K H' xs (OData (rd1 pk x)) → Q (.ref p) H'
def spLDeedLine (K : PySem.W.Frag) : Sp := fun vs H Q _ => ∃ (d : Deed) (v : V), vs = [v] ∧ DeedAt K H v d ∧ d.ok ∧ ∀ H', Same H H' → Q (.str d.text) H'
theorem Dv.is_name {p : Dv} (h : p.kd = .name) : ∃ x, p = .name x := by cases p <;> first | exact ⟨_, rfl⟩ | cases h
theorem Dv.is_many {p : Dv} (h : p.kd = .many) : ∃ x, p = .many x := by cases p <;> first | exact ⟨_, rfl⟩ | cases h
theorem Dv.is_paper {p : Dv} (h : p.kd = .paper) : ∃ x, p = .paper x := by cases p <;> first | exact ⟨_, rfl⟩ | cases h
theorem Dv.is_rule {p : Dv} (h : p.kd = .rule) : ∃ x, p = .rule x := by cases p <;> first | exact ⟨_, rfl⟩ | cases h
theorem ps2 {ps : List Dv} {a b : Pk} (h : ps.map Dv.kd = [a, b]) : ∃ p q, ps = [p, q] ∧ p.kd = a ∧ q.kd = b := by
  match ps, h with
  | [p, q], h => simp only [List.map_cons, List.map_nil, List.cons.injEq, and_true] at h; exact ⟨p, q, rfl, h.1, h.2⟩
theorem rd1_no {x : Str} (h : isNm x = false) : rd1 .name x = none := by
  show (rdName x).map PyData.str = none
  have e : rdName x = none := if_neg (by rw [h]; exact Bool.false_ne_true)
  rw [e]; rfl
theorem rd1_yes {x : Str} (h : isNm x = true) : rd1 .name x = some (.str x) := by
  show (rdName x).map PyData.str = _
  have e : rdName x = some x := if_pos h
  rw [e]; rfl
/-- no rule in it: names, numbers -/
def Plain : Dv → Prop
  | .name _ => True
  | .many _ => True
  | _ => False
theorem plain_of {d : Deed} (h : d.ok) (h6 : d.k ≠ 6) (h3 : d.k ≠ 3) (h4 : d.k ≠ 4) : ∀ p ∈ d.ps, Plain p := by
  obtain ⟨hk, hks, _⟩ := h
  obtain ⟨k, ps⟩ := d
  dsimp only at *
  have key : ∀ x ∈ dk k, x = .name ∨ x = .many := by
    have e : k = 0 ∨ k = 1 ∨ k = 2 ∨ k = 5 := by omega
    rcases e with rfl | rfl | rfl | rfl <;> simp [dk]
  intro p hp
  have := key p.kd (by rw [← hks]; exact List.mem_map.mpr ⟨p, hp, rfl⟩)
  rcases this with e | e
  · obtain ⟨x, rfl⟩ := Dv.is_name e; trivial
  · obtain ⟨x, rfl⟩ := Dv.is_many e; trivial
section
variable {P : Program} {w : World} {K : PySem.W.Frag} {mg : Str → Option Value} {base : Heap}
theorem ok_lDeedWord {f : Addr} {fd : FuncData} (F : Fun K "_law_deed_word" "_law_deed_word" sLDeedWord f fd) (B : Bl mg) (Onu : ONumeral P w K mg base) (Omd : OMade P w K mg base) (Okw : OKeys P w K mg base) : FnOk P w K mg base CX0 2 f fd ["_law_kind", "_law_word"] (spLDeedWord K) := by
  refine F.ok scLDeedWord (fun vs H Q E h => ?_) (fun cdv A outer s H vs Q E hr h => ?_)
  · obtain ⟨pk, x, rfl, _⟩ := h
    rfl
  · obtain ⟨pk, x, rfl, hpk, hx, k⟩ := h
    refine ⟨_, (pss_cons (ps_if (pt_cmpR op_eq (pv 0) pe_str (nomark _)) (pss_cons (ps_set (i := 2) scLDeedWord.nd rfl (Or.inl rfl) (pe_own Onu (hr.mono (by omega)) (pa_cons (pv 1) (pa_cons pe_int (pa_cons pe_int pa_nil))))) (pss_one (ps_ret (pe_ifExp (pt_cmpR op_gt (pv 2) pe_int (nomark _)) (pe_lst (pa_cons (pv 2) pa_nil)) (pe_lst pa_nil))))) pss_nil) (pss_cons (ps_if (pt_cmpR op_eq (pv 0) pe_str (nomark _)) (pss_cons (ps_if (pt_cmpR op_eq (pv 1) pe_str (nomark _)) (pss_one (ps_ret (pe_lst (pa_cons pe_str pa_nil)))) pss_nil) (pss_one (ps_ret (pe_ifExp (pt_val (pe_own Omd (hr.mono (by omega)) (pa_cons (pv 1) (pa_cons pe_str (pa_cons pe_int (pa_cons pe_int pa_nil)))))) (pe_lst (pa_cons (pv 1) pa_nil)) (pe_lst pa_nil))))) pss_nil) (pss_cons (ps_set (i := 3) scLDeedWord.nd rfl (Or.inl rfl) (pe_and (pe_own Omd (hr.mono (by omega)) (pa_cons (pv 1) (pa_cons pe_str (pa_cons pe_int (pa_cons pe_int pa_nil))))) (pe_one (pe_cmpR op_notIn_seq (pv 1) (pe_own0 Okw (hr.mono (by omega))) (by rfl))))) (pss_one (ps_ret (pe_ifExp (pt_val (pv 3)) (pe_lst (pa_cons (pv 1) pa_nil)) (pe_lst pa_nil))))))), ?_⟩
    try dsimp only [cxOf, Cx.nox, Cx.wish]
    have no : ∀ {H1 : Hp}, Same H H1 → rd1 pk x = none → 0 ≤ sizeLine ∧ ∀ p, H1 p = none → Q (.ref p) (upd H1 p (.lst [])) := fun s1 e => ⟨Nat.zero_le _, fun p hp => k _ p [] (s1.trans (same_new hp)) (s1.free hp) upd_same (by rw [e]; exact .nil)⟩
    have yes : ∀ {H1 : Hp} {v : V} {d : PyData}, Same H H1 → rd1 pk x = some d → (∀ H', Dp K H' v d) → 1 ≤ sizeLine ∧ ∀ p, H1 p = none → Q (.ref p) (upd H1 p (.lst [v])) := fun s1 e hd => ⟨(by show 1 ≤ sizeLine; decide), fun p hp => k _ p _ (s1.trans (same_new hp)) (s1.free hp) upd_same (by rw [e]; exact .cons (hd _) .nil)⟩
    walk_at "go"
    refine r_ite (fun h => ?_) (fun h1 => ?_)
    · obtain rfl : pk = .many := by cases pk <;> first | rfl | (exact absurd h (by simp only [Pk.nm]; decide +kernel))
      walk_at "go"
      refine ⟨x, 1, 20, rfl, hx, by decide, fun H1 s1 => ?_⟩
      walk_at "go"
      cases e : rdNum 1 20 x with
      | none =>
        have e2 : rd1 .many x = none := by simp only [rd1, e]; rfl
        refine r_no (fun q => by simp only [numI] at q; omega) ?_
        walk_at "go"
        exact no s1 e2
      | some m =>
        have e2 : rd1 .many x = some (pn m) := by simp only [rd1, e]; rfl
        have hm := (rdNum_some e).2.1
        refine r_yes (by simp only [numI]; omega) ?_
        walk_at "go"
        exact yes s1 e2 (fun _ => .int _)
    walk_at "go"
    refine r_ite (fun h => ?_) (fun h2 => ?_)
    · obtain rfl : pk = .paper := by cases pk <;> first | rfl | (exact absurd h (by simp only [Pk.nm]; decide +kernel))
      walk_at "go"
      refine r_ite (fun h3 => ?_) (fun h3 => ?_)
      · have e2 : rd1 .paper x = some (.str "") := by simp only [rd1, rdPap]; rw [if_pos (V.str.inj h3)]; rfl
        walk_at "go"
        exact yes (Same.refl _) e2 (fun _ => .str _)
      · walk_at "go"
        refine ⟨x, K4.ALL, 1, 60, rfl, hx, fun H1 s1 => ?_⟩
        have n3 : ¬ x = "-" := fun q => h3 (by rw [q])
        refine ⟨_, rfl, ?_⟩
        cases e : textB ((1 : Nat) : Int) ((60 : Nat) : Int) K4.ALL x with
        | true =>
          have e' : textB 1 60 K4.ALL x = true := e
          have e2 : rd1 .paper x = some (.str x) := by simp only [rd1, rdPap]; rw [if_neg n3, if_pos e']; rfl
          walk_at "go"
          exact yes s1 e2 (fun _ => .str _)
        | false =>
          have e' : textB 1 60 K4.ALL x = false := e
          have e2 : rd1 .paper x = none := by simp only [rd1, rdPap]; rw [if_neg n3, e', if_neg Bool.false_ne_true]; rfl
          walk_at "go"
          exact no s1 e2
    · obtain rfl : pk = .name := by
        cases pk with
        | name => rfl
        | many => exact absurd rfl h1
        | paper => exact absurd rfl h2
        | rule => exact absurd rfl hpk
      walk_at "go"
      refine ⟨x, AZ, 1, 8, rfl, hx, fun H1 s1 => ?_⟩
      cases e : textB ((1 : Nat) : Int) ((8 : Nat) : Int) AZ x with
      | false =>
        have e' : textB 1 8 AZ x = false := e
        have e2 : rd1 .name x = none := rd1_no (by unfold isNm; rw [e']; rfl)
        walk_at "go"
        exact no s1 e2
      | true =>
        have e' : textB 1 8 AZ x = true := e
        walk_at "go"
        refine ⟨rfl, fun H2 p2 s2 x2 => ?_⟩
        refine ⟨p2, _, rfl, .inr (SqT.of x2), rfl, flat_strs _, ?_⟩
        dsimp only
        rw [if_pos rfl]
        cases hno : inV (V.str x) (noNames.map V.str) with
        | true =>
          have e2 : rd1 .name x = none := rd1_no (by unfold isNm isNo; rw [hno]; simp)
          walk_at "go"
          exact no (s1.trans s2) e2
        | false =>
          have e2 : rd1 .name x = some (.str x) := rd1_yes (by unfold isNm isNo; rw [e', hno]; rfl)
          walk_at "go"
          exact yes (s1.trans s2) e2 (fun _ => .str _)
theorem ok_lDeedLine {f : Addr} {fd : FuncData} (F : Fun K "_law_deed_line" "_law_deed_line" sLDeedLine f fd) (B : Bl mg) (Olr : OLR 46 P w K mg base) : FnOk P w K mg base CX0 48 f fd ["_law_deed"] (spLDeedLine K) := by
  refine F.ok scLDeedLine (fun vs H Q E h => ?_) (fun cdv A outer s H vs Q E hr h => ?_)
  · obtain ⟨d, v, rfl, _⟩ := h
    rfl
  · obtain ⟨d, v, rfl, ⟨pvs, hS, hA⟩, hok, k⟩ := h
    refine ⟨_, (pss_cons (ps_if (pt_cmpR op_eq (pe_ix ix_seq (pv 0) pe_int (fun _ _ => rfl)) pe_str (nomark _)) (pss_one (ps_ret (pe_m1 PySem.F.slot_str_join PySem.F.type_str_join mt_join pe_str (pe_op op_cat (pe_lst (pa_cons pe_str (pa_cons (pe_ix ix_seq (pv 0) pe_int (fun _ _ => rfl)) pa_nil))) (pe_own Olr (hr.mono (by omega)) (pa_cons (pe_ix ix_seq (pv 0) pe_int (fun _ _ => rfl)) pa_nil)))))) pss_nil) (pss_cons (ps_if (pt_cmpR op_in_seq (pe_ix ix_seq (pv 0) pe_int (fun _ _ => rfl)) (pe_tup (pa_cons pe_str (pa_cons pe_str pa_nil))) (by rfl)) (pss_one (ps_ret (pe_m1 PySem.F.slot_str_join PySem.F.type_str_join mt_join pe_str (pe_lst (pa_cons (pe_ix ix_seq (pv 0) pe_int (fun _ _ => rfl)) (pa_cons (pe_ix ix_seq (pv 0) pe_int (fun _ _ => rfl)) (pa_cons (pe_ifExp (pt_cmpR op_eq (pe_ix ix_seq (pv 0) pe_int (fun _ _ => rfl)) pe_str (nomark _)) pe_str (pe_ix ix_seq (pv 0) pe_int (fun _ _ => rfl))) pa_nil))))))) pss_nil) (pss_one (ps_ret (pe_m1 PySem.F.slot_str_join PySem.F.type_str_join mt_join pe_str (pe_lc (own := [("_law_thing", 1)]) (g := gName 1) (tt := tYes) rfl scLDeedLine.nd (pi_sq (pv 0)) (blkOk_by (N := nLDeedLine) (sc := defScope sLDeedLine) (by decide +kernel)) (fun _ _ _ _ _ => (pg_name (i := 1) scLDeedLine.nd rfl (Or.inl rfl))) (fun _ _ _ _ _ => pts_nil) (fun _ _ _ _ _ => (pe_callTy (CallR.or call_str_int SkE.call_str_str) (by rfl) B.str (by decide +kernel) (pa_cons (pv 1) pa_nil))))))))), ?_⟩
    try dsimp only [cxOf, Cx.nox, Cx.wish]
    have hlt := hok.lt
    have hks := hok.ks
    walk_at "go"
    refine r_ixSq hS at0 ?_
    walk_at "go"
    refine r_ite (fun h6 => ?_) (fun h6 => ?_)
    · have e6 : d.k = 6 := dw_inj _ hlt 6 (by decide) (V.str.inj h6)
      rw [e6] at hks
      obtain ⟨p, q, eps, ep, eq⟩ := ps2 hks
      obtain ⟨x, rfl⟩ := Dv.is_name ep
      obtain ⟨r, rfl⟩ := Dv.is_rule eq
      rw [eps] at hA
      obtain ⟨v1, v2, rfl⟩ : ∃ v1 v2, pvs = [v1, v2] := by
        have := hA.len
        match pvs, this with
        | [a, b], _ => exact ⟨a, b, rfl⟩
      obtain ⟨hx, hr', _⟩ := hA
      obtain rfl : v1 = .str x := hx
      have hokr : r.ok ∧ r.parts ≤ 40 := hok.ea (.rule r) (by rw [eps]; simp)
      walk_at "go"
      refine r_ixSq hS (at_n 1 rfl) ?_
      walk_at "go"
      refine ⟨(by show 2 ≤ sizeLine; decide), fun p0 h0 => ?_⟩
      walk_at "go"
      have s0 := same_new (o := HO.lst [V.str "edition", V.str x]) h0
      refine r_ixSq (hS.same s0) (at_n 2 rfl) ?_
      walk_at "go"
      have hdp := r.depth_le
      refine ⟨v2, r, rfl, RAt.keep (Same.keeps s0) hr', hokr.1, by omega, by omega, fun H1 L s1 hL eL => ?_⟩
      have wb := words_bound (r := r) (by omega)
      refine cat_two (s1 _ _ upd_same) eL ?_ (fun H2 q2 s2 e2 => ?_)
      · simp only [List.length_cons, List.length_nil, List.length_map]; omega
      walk_at "go"
      have et : d.text = Txt.join SP ("edition" :: x :: r.words) := by
        rw [d.text_eq]
        simp only [Deed.words, eps, e6, List.map_cons, List.map_nil, List.flatten_cons, List.flatten_nil, Dv.words, List.append_nil, List.cons_append, List.nil_append]
        rfl
      refine ⟨_, q2, "edition" :: x :: r.words, rfl, rfl, .inl (SqL.of e2), ?_, ?_⟩
      · have hxn := (nm_text (hok.ea (.name x) (by rw [eps]; simp))).2.1
        have := sum_le (ys := r.words) (b := 2500) (fun p hp => (R.words_ok hokr.1 p hp).2)
        have e : (" " : Str).length = 1 := by rw [len_tl, tl_SP]; rfl
        have e9 : ("edition" : Str).length = 7 := by decide +kernel
        simp only [List.map_cons, List.sum_cons, List.length_cons]
        rw [e, e9]
        omega
      · have := k _ (s0.trans (s1.trans s2))
        rw [et] at this
        exact this
    walk_at "go"
    refine r_ixSq hS at0 ?_
    walk_at "go"
    refine ⟨(by show 2 ≤ sizeLine; decide), fun p0 h0 => ?_⟩
    have s0 := same_new (o := HO.tup [V.str "void", V.str "again"]) h0
    have hS0 := hS.same s0
    refine ⟨p0, _, rfl, .inr (SqT.of upd_same), rfl, flat_strs ["void", "again"], ?_⟩
    dsimp only
    rw [if_neg Bool.false_ne_true]
    have n6 : d.k ≠ 6 := fun q => h6 (by rw [q]; rfl)
    have ein : inV (V.str (K4.dw d.k)) [V.str "void", V.str "again"] = decide (d.k = 3 ∨ d.k = 4) := by
      have e1 : d.k = 0 ∨ d.k = 1 ∨ d.k = 2 ∨ d.k = 3 ∨ d.k = 4 ∨ d.k = 5 := by omega
      rcases e1 with e | e | e | e | e | e <;> rw [e] <;> decide +kernel
    rw [ein]
    have join_ok : ∀ ys : List Str, ys.length ≤ 10 → (∀ y ∈ ys, (tl y).length ≤ 100) → (ys.map (·.length)).sum + ys.length * (" " : Str).length ≤ 16777216 := fun ys h1 h2 => by
      have := sum_le (ys := ys) (b := 100) h2
      have e : (" " : Str).length = 1 := by rw [len_tl, tl_SP]; rfl
      rw [e]
      omega
    have hdwl := (dw_ok _ hlt).2.1
    by_cases h34 : d.k = 3 ∨ d.k = 4
    · rw [decide_eq_true h34]
      have hks2 : d.ps.map Dv.kd = [.name, .paper] := by rcases h34 with e | e <;> (rw [e] at hks; exact hks)
      obtain ⟨p, q, eps, ep, eq⟩ := ps2 hks2
      obtain ⟨x, rfl⟩ := Dv.is_name ep
      obtain ⟨y, rfl⟩ := Dv.is_paper eq
      rw [eps] at hA
      obtain ⟨v1, v2, rfl⟩ : ∃ v1 v2, pvs = [v1, v2] := by
        have := hA.len
        match pvs, this with
        | [a, b], _ => exact ⟨a, b, rfl⟩
      obtain ⟨hx, hy, _⟩ := hA
      obtain rfl : v1 = .str x := hx
      obtain rfl : v2 = .str y := hy
      have et : d.text = Txt.join SP [K4.dw d.k, x, pw y] := by
        unfold Deed.text
        rw [eps]; rfl
      have hxn := (nm_text (hok.ea (.name x) (by rw [eps]; simp))).2.1
      have hyn := (hok.ea (.paper y) (by rw [eps]; simp)).1
      refine ⟨true, rfl, ?_⟩
      walk_at "go"
      refine r_ixSq hS0 at0 ?_
      walk_at "go"
      refine r_ixSq hS0 (at_n 1 rfl) ?_
      walk_at "go"
      refine r_ixSq hS0 (at_n 2 rfl) ?_
      walk_at "go"
      have fin : ∀ z : Str, z = pw y → (3 ≤ sizeLine ∧ ∀ L, (upd H p0 (HO.tup [V.str "void", V.str "again"])) L = none → ∃ a p ys, V.str " " = V.str a ∧ [V.ref L] = [V.ref p] ∧
          (SqL K (upd (upd H p0 (HO.tup [V.str "void", V.str "again"])) L (.lst [V.str (K4.dw d.k), V.str x, V.str z])) p (ys.map V.str) ∨ SqT K (upd (upd H p0 (HO.tup [V.str "void", V.str "again"])) L (.lst [V.str (K4.dw d.k), V.str x, V.str z])) p (ys.map V.str)) ∧
          (ys.map (·.length)).sum + ys.length * a.length ≤ 16777216 ∧ Q (V.str (Txt.join a ys)) (upd (upd H p0 (HO.tup [V.str "void", V.str "again"])) L (.lst [V.str (K4.dw d.k), V.str x, V.str z]))) := fun z hz => by
        refine ⟨by decide, fun L hL => ⟨" ", L, [K4.dw d.k, x, z], rfl, rfl, .inl (SqL.of upd_same), ?_, ?_⟩⟩
        · refine join_ok _ (by simp) fun w hw => ?_
          simp only [List.mem_cons, List.not_mem_nil, or_false] at hw
          rcases hw with rfl | rfl | rfl
          · omega
          · rw [← len_tl]; omega
          · rw [hz]
            unfold pw
            split
            · rw [tl_minus]; decide
            · rw [← len_tl]; omega
        · have := k _ (s0.trans (same_new (o := HO.lst [V.str (K4.dw d.k), V.str x, V.str z]) hL))
          rw [et, ← hz] at this
          exact this
      refine r_ite (fun he => ?_) (fun he => ?_)
      · walk_at "go"
        exact fin "-" (by unfold pw; rw [if_pos (V.str.inj he)])
      · walk_at "go"
        refine r_ixSq hS0 (at_n 2 rfl) ?_
        walk_at "go"
        exact fin y (by unfold pw; rw [if_neg (fun q => he (by rw [q]))])
    · rw [decide_eq_false h34]
      have pl := plain_of hok n6 (fun q => h34 (.inl q)) (fun q => h34 (.inr q))
      refine ⟨false, rfl, ?_⟩
      walk_at "go"
      have hpl := hA.len
      have hp3 : d.ps.length ≤ 3 := by have h1 := dk_len d.k; have h2 := congrArg List.length hks; rw [List.length_map] at h2; omega
      revert s0
      generalize upd H p0 (HO.tup [V.str "void", V.str "again"]) = H0 at *
      intro s0
      refine lc_sq hS0 (fun _ => rfl) (fun acc H' => acc = ((K4.dw d.k :: d.ps.map Dv.word).take acc.length).map V.str ∧ Same H0 H') (fun D hD => ⟨rfl, same_new hD⟩) (fun D acc H' _ _ q => Same.keeps q.2) ?_ _ ?_ (fun J h => h)
      · rintro D i x acc H' hD hx hl hacc ⟨ha, sm⟩
        have il := (List.getElem?_eq_some_iff.mp hx).1
        rw [List.length_cons, hpl] at il
        have val : (∃ n : Nat, n ≤ 60 ∧ x = vi n ∧ (K4.dw d.k :: d.ps.map Dv.word)[i]? = some (num n)) ∨ ∃ y, x = .str y ∧ (K4.dw d.k :: d.ps.map Dv.word)[i]? = some y := by
          cases i with
          | zero => exact .inr ⟨_, (Option.some.inj hx).symm, rfl⟩
          | succ i =>
            obtain ⟨p, hp, hd⟩ := DvAll.get hA (i := i) hx
            have hmem := List.mem_of_getElem? hp
            have hw : (K4.dw d.k :: d.ps.map Dv.word)[i + 1]? = some p.word := by
              rw [List.getElem?_cons_succ, List.getElem?_map, hp]; rfl
            cases p with
            | name y => exact .inr ⟨y, hd, hw⟩
            | many n => exact .inl ⟨n, by have := (hok.ea _ hmem).2; omega, hd, hw⟩
            | paper y => exact (pl _ hmem).elim
            | rule y => exact (pl _ hmem).elim
        walk_at "go"
        rcases val with ⟨n, hn, rfl, hw⟩ | ⟨y, rfl, hw⟩
        · refine .inl ⟨_, rfl, log_ok hn, ?_⟩
          exact pp_next hacc hl (line60 (by omega)) ⟨acc_next (f := V.str) (a := num n) ha hl hw, same_upd sm hD⟩
        · refine .inr ⟨y, rfl, ?_⟩
          exact pp_next hacc hl (line60 (by omega)) ⟨acc_next (f := V.str) (a := y) ha hl hw, same_upd sm hD⟩
      · rintro D acc H' hD hl hacc ⟨ha, sm⟩
        have hl2 : acc.length = (K4.dw d.k :: d.ps.map Dv.word).length := by rw [hl, List.length_cons, List.length_cons, List.length_map, hpl]
        rw [hl2, List.take_length] at ha
        subst ha
        refine ⟨_, D, _, rfl, rfl, .inl (SqL.of hacc), ?_, k _ (s0.trans sm)⟩
        refine join_ok _ (by simp only [List.length_cons, List.length_map]; omega) fun w hw => ?_
        rcases List.mem_cons.mp hw with rfl | hw
        · omega
        · obtain ⟨p, hp, rfl⟩ := List.mem_map.mp hw
          have po := hok.ea p hp
          cases p with
          | name y => have := (nm_text po).2.1; show (tl y).length ≤ 100; rw [← len_tl]; omega
          | many n => have := (num_ok (n := n) (by have := po.2; omega)).2.2.1; show (tl (num n)).length ≤ 100; omega
          | paper y => exact (pl _ hp).elim
          | rule y => exact (pl _ hp).elim
end
end K4

/-! L7d -/


namespace K4
open PySem L2 K1
abbrev sLReadDeed : Stmt := top 107
abbrev nLReadDeed : List Str := ["_law_line", "_law_words", "_law_kinds", "_law_things", "_law_kind", "_law_told", "_law_rule", "_law_place"]
theorem scLReadDeed : FnScope nLReadDeed ["_law_line"] (defScope sLReadDeed) := ⟨rfl, rfl, rfl, by decide +kernel, rfl, by decide +kernel, by decide +kernel⟩
theorem hu1 {k : Nat} {A : Around} (r : Room k A) : A.units + 1 < cLine := by have := r.un; omega
theorem r_dput {td ty tv : TE} {D : Ends} {σ : L2.St} {H : Hp} (q : tv σ H fun v H1 => td σ H1 fun x H2 => ty σ H2 fun y H3 => ∃ a H4, x = .ref a ∧ DPut H3 a y v H4 ∧ D.nx σ H4) : sDPut td ty tv D σ H := q
theorem r_dnotin {td ty : TE} {σ : L2.St} {H : Hp} {Q : VK} (q : ty σ H fun y H1 => td σ H1 fun x H2 => ∃ a o, x = .ref a ∧ DGet H2 a y o ∧ Q (.bl (!o.isSome)) H2) : tDNotIn ty td σ H Q := q
theorem r_dget {td ty : TE} {σ : L2.St} {H : Hp} {Q : VK} (q : td σ H fun x H1 => ty σ H1 fun y H2 => ∃ a v, x = .ref a ∧ DGet H2 a y (some v) ∧ Q v H2) : tDGet td ty σ H Q := q
def dkv (ts : Nat → Addr) : List (Key × V) := [(.inr "issue", .ref (ts 0)), (.inr "block", .ref (ts 1)), (.inr "use", .ref (ts 2)), (.inr "day", .ref (ts 5)), (.inr "void", .ref (ts 3)), (.inr "again", .ref (ts 4)), (.inr "edition", .ref (ts 6))]
theorem valV_dkv (ts : Nat → Addr) (x : Str) : valV (dkv ts) (.inr x) = (dkOf x).map fun c => V.ref (ts c) := by
  cases e : dkOf x with
  | some c =>
    obtain ⟨hc, rfl⟩ := dkOf_some e
    have e1 : c = 0 ∨ c = 1 ∨ c = 2 ∨ c = 3 ∨ c = 4 ∨ c = 5 ∨ c = 6 := by omega
    rcases e1 with rfl | rfl | rfl | rfl | rfl | rfl | rfl <;> rfl
  | none =>
    have n := dkOf_none e
    have ne : ∀ k < 7, ¬ ((Sum.inr (dw k) : Key) = Sum.inr x) := fun k hk q => n k hk (Sum.inr.inj q).symm
    have f0 := decide_eq_false (ne 0 (by decide))
    have f1 := decide_eq_false (ne 1 (by decide))
    have f2 := decide_eq_false (ne 2 (by decide))
    have f3 := decide_eq_false (ne 3 (by decide))
    have f4 := decide_eq_false (ne 4 (by decide))
    have f5 := decide_eq_false (ne 5 (by decide))
    have f6 := decide_eq_false (ne 6 (by decide))
    simp only [dw] at f0 f1 f2 f3 f4 f5 f6
    unfold valV dkv
    simp only [List.find?, f0, f1, f2, f3, f4, f5, f6]
    rfl
def lkd (c : Nat) : List Pk := if c = 6 then [.name] else dk c
theorem lkd_nr {c : Nat} (hc : c < 7) : ∀ k ∈ lkd c, k ≠ .rule := by
  have e : c = 0 ∨ c = 1 ∨ c = 2 ∨ c = 3 ∨ c = 4 ∨ c = 5 ∨ c = 6 := by omega
  intro k hk q
  subst q
  rcases e with rfl | rfl | rfl | rfl | rfl | rfl | rfl <;> simp [lkd, dk] at hk
theorem rdPart_1 {k : Pk} (h : k ≠ .rule) (ws : List Str) (z : Nat) : rdPart k ws z = (match ws[z]?.bind (rd1 k) with | none => .bad z | some d => .ok (d, z + 1)) := by
  have one : ∀ {α : Type} (f : Str → Option α) (g : α → PyData), rdOne f g ws z = (match ws[z]?.bind (fun x => (f x).map g) with | none => .bad z | some d => .ok (d, z + 1)) := by
    intro α f g
    unfold rdOne
    cases ws[z]? with
    | none => rfl
    | some x =>
      dsimp only [Option.bind_some]
      cases f x with
      | none => rfl
      | some a => rfl
  cases k with
  | rule => exact absurd rfl h
  | name => exact one rdName PyData.str
  | many => exact one (rdNum 1 20) pn
  | paper => exact one rdPap PyData.str
theorem rdParts_app : ∀ (a b : List Pk) (ws : List Str) (z : Nat), rdParts (a ++ b) ws z = (match rdParts a ws z with | .bad e => .bad e | .ok (ds, z1) => match rdParts b ws z1 with | .bad e => .bad e | .ok (es, z2) => .ok (ds ++ es, z2))
  | [], b, ws, z => by
    rw [List.nil_append]
    simp only [rdParts]
    cases rdParts b ws z with
    | bad e => rfl
    | ok r => rfl
  | k :: a, b, ws, z => by
    rw [List.cons_append, rdParts, rdParts]
    cases rdPart k ws z with
    | bad e => rfl
    | ok r =>
      obtain ⟨d, z1⟩ := r
      dsimp only
      rw [rdParts_app a b ws z1]
      cases rdParts a ws z1 with
      | bad e => rfl
      | ok r =>
        obtain ⟨ds, z2⟩ := r
        dsimp only
        cases rdParts b ws z2 with
        | bad e => rfl
        | ok r => rfl
theorem rdDeed_of {ws : List Str} {c : Nat} (hc : c < 7) (h0 : ws[0]? = some (dw c)) : rdDeed ws = (match rdParts (lkd c) ws 1 with
    | .bad e => .bad e
    | .ok (ds, z) => if c = 6 then (match rdAllWs ws z with | .bad e => .bad e | .ok d => .ok (.tuple (.str (dw c) :: (ds ++ [d])))) else if z < ws.length then .bad z else .ok (.tuple (.str (dw c) :: ds))) := by
  unfold rdDeed
  rw [h0, Option.bind_some, dkOf_dw hc]
  dsimp only
  by_cases h6 : c = 6
  · have e : dk c = lkd c ++ [.rule] := by rw [h6]; rfl
    rw [e, rdParts_app]
    cases rdParts (lkd c) ws 1 with
    | bad e => rfl
    | ok r =>
      obtain ⟨ds, z⟩ := r
      dsimp only
      rw [if_pos h6]
      simp only [rdParts, rdPart]
      cases rdAllWs ws z with
      | bad e => rfl
      | ok d =>
        dsimp only
        rw [if_neg (Nat.lt_irrefl _)]
  · have e : dk c = lkd c := by unfold lkd; rw [if_neg h6]
    rw [e]
    cases rdParts (lkd c) ws 1 with
    | bad e => rfl
    | ok r =>
      obtain ⟨ds, z⟩ := r
      dsimp only
      rw [if_neg h6]
theorem rd1_pure {k : Pk} {x : Str} {d : PyData} (h : rd1 k x = some d) : K4.pure d = true := by
  cases k <;> simp only [rd1, Option.map_eq_some_iff] at h
  · obtain ⟨a, _, rfl⟩ := h; rfl
  · obtain ⟨a, _, rfl⟩ := h; rfl
  · obtain ⟨a, _, rfl⟩ := h; rfl
  · cases h
theorem rdRule_pureAll {ws : List Str} {z : Nat} {d : PyData} (h : rdAllWs ws z = .ok d) : K4.pure d = true := by
  unfold rdAllWs at h
  cases e : rdRule 41 ws z 0 with
  | bad q => rw [e] at h; cases h
  | ok r =>
    obtain ⟨d', z1, b1⟩ := r
    rw [e] at h
    dsimp only at h
    by_cases q : z1 < ws.length
    · rw [if_pos q] at h; cases h
    · rw [if_neg q] at h
      injection h with h
      rw [← h]
      exact rdRule_pure _ _ _ _ _ _ _ e
def spLReadDeed (K : PySem.W.Frag) : Sp := fun vs H Q _ => ∃ (v : V) (l : Option Str), vs = [v] ∧ LnAt K H v l ∧ ∀ H' q, Same H H' → H q = none → (match rdLine l with
  | .bad e => H' q = some (.lst [.non, vi e]) → Q (.ref q) H'
  | .ok d => ∀ t, H' q = some (.lst [.ref t, .int (-1)]) → Dp K H' (.ref t) d → Q (.ref q) H')
section
variable {P : Program} {w : World} {K : PySem.W.Frag} {mg : Str → Option Value} {base : Heap}
abbrev OLDeedWord (P : Program) (w : World) (K : PySem.W.Frag) (mg : Str → Option Value) (base : Heap) : Prop := Own P w K mg base "_law_deed_word" 2 ["_law_kind", "_law_word"] (spLDeedWord K)
abbrev OFrom (P : Program) (w : World) (K : PySem.W.Frag) (mg : Str → Option Value) (base : Heap) : Prop := Own P w K mg base "_law_rule_from" 46 ["_law_words", "_law_at"] (spFrom K)
theorem ok_lReadDeed {f : Addr} {fd : FuncData} (F : Fun K "_law_read_deed" "_law_read_deed" sLReadDeed f fd) (B : Bl mg) (Odw : OLDeedWord P w K mg base) (Ofr : OFrom P w K mg base) : FnOk P w K mg base CX0 47 f fd ["_law_line"] (spLReadDeed K) := by
  refine F.ok scLReadDeed (fun vs H Q E h => ?_) (fun cdv A outer s H vs Q E hr h => ?_)
  · obtain ⟨v, l, rfl, _⟩ := h
    rfl
  · obtain ⟨v, l, rfl, hl, k⟩ := h
    refine ⟨_, (pss_cons (ps_set (i := 1) scLReadDeed.nd rfl (Or.inl rfl) (pe_ifExp (pt_val (pe_callB (id := "isinstance") (r := rIsi K) call_isi (by rfl) B.isin (by decide +kernel) (pa_cons (pv 0) (pa_cons (pe_bltn (v := .ty "str") (by rfl) B.str (by decide +kernel) rfl) pa_nil)))) (pe_m1 PySem.F.slot_str_split PySem.F.type_str_split mt_split (pv 0) pe_str) (pe_lst (pa_cons pe_str pa_nil)))) (pss_cons (ps_set (i := 2) scLReadDeed.nd rfl (Or.inl rfl) (pe_disp (pps_cons pe_str (pe_tup (pa_cons pe_str (pa_cons pe_str pa_nil))) (pps_cons pe_str (pe_tup (pa_cons pe_str (pa_cons pe_str (pa_cons pe_str pa_nil)))) (pps_cons pe_str (pe_tup (pa_cons pe_str (pa_cons pe_str pa_nil))) (pps_cons pe_str (pe_tup pa_nil) pps_nil)))) rfl rfl (by simp) (by decide))) (pss_cons (ps_dput (hu1 hr) (pv 2) pe_str (pe_tup (pa_cons pe_str (pa_cons pe_str pa_nil))) rfl) (pss_cons (ps_dput (hu1 hr) (pv 2) pe_str (pe_tup (pa_cons pe_str (pa_cons pe_str pa_nil))) rfl) (pss_cons (ps_dput (hu1 hr) (pv 2) pe_str (pe_tup (pa_cons pe_str pa_nil)) rfl) (pss_cons (ps_if (pt_cmp (pc_dnotin (hu1 hr) (pe_ix ix_list (pv 1) pe_int (fun _ _ => rfl)) (pv 2))) (pss_one (ps_ret (pe_lst (pa_cons pe_non (pa_cons pe_int pa_nil))))) pss_nil) (pss_cons (ps_set (i := 3) scLReadDeed.nd rfl (Or.inl rfl) (pe_lst (pa_cons (pe_ix ix_list (pv 1) pe_int (fun _ _ => rfl)) pa_nil))) (pss_cons (ps_for PassesOwn.never rfl (pi_tup (pe_dget (hu1 hr) (pv 2) (pe_ix ix_list (pv 1) pe_int (fun _ _ => rfl)) (fun _ _ => rfl))) (pg_name (i := 4) scLReadDeed.nd rfl (Or.inl rfl)) (pss_cons (ps_set (i := 5) scLReadDeed.nd rfl (Or.inl rfl) (pe_ifExp (pt_cmpR op_lt (pe_callB call_len (by rfl) B.len PySem.boot_len (pa_cons (pv 3) pa_nil)) (pe_callB call_len (by rfl) B.len PySem.boot_len (pa_cons (pv 1) pa_nil)) (nomark _)) (pe_own Odw (hr.mono (by omega)) (pa_cons (pv 4) (pa_cons (pe_ix ix_list (pv 1) (pe_callB call_len (by rfl) B.len PySem.boot_len (pa_cons (pv 3) pa_nil)) (fun _ _ => rfl)) pa_nil))) (pe_lst pa_nil))) (pss_cons (ps_if (pt_not (pt_truth (pv 5) (by intro _; rfl))) (pss_one (ps_ret (pe_lst (pa_cons pe_non (pa_cons (pe_callB call_len (by rfl) B.len PySem.boot_len (pa_cons (pv 3) pa_nil)) pa_nil))))) pss_nil) (pss_one (ps_expr (pe_bm PySem.F.plainAttrs_list PySem.F.slot_list_append PySem.F.type_list_append mt_append (pv 3) (pa_cons (pe_ix ix_list (pv 5) pe_int (fun _ _ => rfl)) pa_nil))))))) (pss_cons (ps_if (pt_cmpR op_eq (pe_ix ix_list (pv 1) pe_int (fun _ _ => rfl)) pe_str (nomark _)) (pss_cons (ps_asg (pe_own Ofr (hr.mono (by omega)) (pa_cons (pv 1) (pa_cons pe_int pa_nil))) (pg_unl rfl (pgs_cons (pg_name (i := 6) scLReadDeed.nd rfl (Or.inl rfl)) (pgs_cons (pg_name (i := 7) scLReadDeed.nd rfl (Or.inl rfl)) pgs_nil)))) (pss_one (ps_ret (pe_ifExp (pt_cmpR op_lt (pv 7) pe_int (nomark _)) (pe_lst (pa_cons (pe_callTy call_tuple_of (by rfl) B.tuple (by decide +kernel) (pa_cons (pe_op op_cat (pv 3) (pe_lst (pa_cons (pv 6) pa_nil))) pa_nil)) (pa_cons (pe_un un_neg pe_int) pa_nil))) (pe_lst (pa_cons pe_non (pa_cons (pv 7) pa_nil))))))) pss_nil) (pss_one (ps_ret (pe_ifExp (pt_cmpR op_eq (pe_callB call_len (by rfl) B.len PySem.boot_len (pa_cons (pv 1) pa_nil)) (pe_callB call_len (by rfl) B.len PySem.boot_len (pa_cons (pv 3) pa_nil)) (nomark _)) (pe_lst (pa_cons (pe_callTy call_tuple_of (by rfl) B.tuple (by decide +kernel) (pa_cons (pv 3) pa_nil)) (pa_cons (pe_un un_neg pe_int) pa_nil))) (pe_lst (pa_cons pe_non (pa_cons (pe_callB call_len (by rfl) B.len PySem.boot_len (pa_cons (pv 3) pa_nil)) pa_nil))))))))))))))), ?_⟩
    try dsimp only [cxOf, Cx.nox, Cx.wish]
    refine K1.r_seq ?_
    refine K1.r_asg ?_
    refine r_ifJ (fun x H1 => ∃ (L : Addr) (ws : List Str), x = .ref L ∧ H1 L = some (.lst (ws.map V.str)) ∧ Same H H1 ∧ WsOk ws ∧ rdLine l = rdDeed ws ∧ ws ≠ []) (fun Q' hQ => ?_) ?_
    · walk_at "go"
      cases l with
      | some x =>
        obtain ⟨rfl, hx⟩ := hl
        refine r_isi (b := true) (.ty "str") (.base (.str _)) (kit_ty (by decide +kernel)) ?_
        walk_at "go"
        have hsl := split_len (x := x) (y := SP) (by rw [tl_SP]; simp) (by decide +kernel)
        refine ⟨_, _, rfl, rfl, by decide +kernel, (by rw [sizeLine_eq]; omega), fun q hq => ?_⟩
        exact hQ _ _ ⟨q, Txt.split x SP, rfl, upd_same, same_new hq, ⟨by omega, fun z hz => by have := hsl.2 z hz; omega⟩, rfl, split_ne (by rw [tl_SP]; simp) (by decide +kernel)⟩
      | none =>
        obtain ⟨ty, hty, hkit⟩ := hl
        refine r_isi (b := false) (.ty "str") (hty _ (Same.refl _)) hkit ?_
        walk_at "go"
        refine ⟨(by show 1 ≤ sizeLine; decide), fun q hq => ?_⟩
        refine hQ _ _ ⟨q, [""], rfl, upd_same, same_new hq, ⟨by decide, fun z hz => by obtain rfl := List.mem_singleton.mp hz; exact Nat.zero_le _⟩, ?_, by simp⟩
        have e : dkOf "" = none := by decide +kernel
        simp only [rdLine, rdDeed, List.getElem?_cons_zero, Option.bind_some]
        rw [e]
    rintro x H1 ⟨L, ws, rfl, eL, s1, hws, erd, wne⟩
    rw [erd] at k
    walk_at "go"
    intro p hp
    simp only [tPairs]
    generalize eHa : upd H1 p (HO.dK []) = Ha
    obtain ⟨sa, ea⟩ := new_end hp eHa
    walk_at "go"
    refine ⟨(by show 2 ≤ sizeLine; decide), fun t0 h0 => ?_⟩
    have n0 : t0 ≠ p := fun q => by rw [q, ea] at h0; cases h0
    generalize eq0 : upd Ha t0 _ = Hb0
    obtain ⟨sb0, eb0⟩ := new_end h0 eq0
    have p0 := sb0 _ _ ea
    walk_at "go"
    refine ⟨(by show 3 ≤ sizeLine; decide), fun t1 h1 => ?_⟩
    have n1 : t1 ≠ p := fun q => by rw [q, p0] at h1; cases h1
    generalize eq1 : upd Hb0 t1 _ = Hb1
    obtain ⟨sb1, eb1⟩ := new_end h1 eq1
    have p1 := sb1 _ _ p0
    walk_at "go"
    refine ⟨(by show 2 ≤ sizeLine; decide), fun t2 h2 => ?_⟩
    have n2 : t2 ≠ p := fun q => by rw [q, p1] at h2; cases h2
    generalize eq2 : upd Hb1 t2 _ = Hb2
    obtain ⟨sb2, eb2⟩ := new_end h2 eq2
    have p2 := sb2 _ _ p1
    walk_at "go"
    refine ⟨(by show 0 ≤ sizeLine; decide), fun t3 h3 => ?_⟩
    have n3 : t3 ≠ p := fun q => by rw [q, p2] at h3; cases h3
    generalize eq3 : upd Hb2 t3 _ = Hb3
    obtain ⟨sb3, eb3⟩ := new_end h3 eq3
    have p3 := sb3 _ _ p2
    refine ⟨p3, [(.inr "issue", .ref t0), (.inr "block", .ref t1), (.inr "use", .ref t2), (.inr "day", .ref t3)], rfl, by show 4 ≤ 15; decide, ?_⟩
    have s14 : Same H1 Hb3 := sa.trans (sb0.trans (sb1.trans (sb2.trans sb3)))
    have f0 := sb3 _ _ (sb2 _ _ (sb1 _ _ eb0))
    have f1 := sb3 _ _ (sb2 _ _ eb1)
    have f2 := sb3 _ _ eb2
    have f3 := eb3
    clear eb0 eb1 eb2 eb3 eq0 eq1 eq2 eq3 eHa
    generalize eHc : upd Hb3 p _ = Hc
    have sc : Same H1 Hc := by rw [← eHc]; exact same_upd s14 hp
    have pc : Hc p = some (.dK [(.inr "issue", .ref t0), (.inr "block", .ref t1), (.inr "use", .ref t2), (.inr "day", .ref t3)]) := by rw [← eHc, upd_same]; rfl
    have g0 : Hc t0 = some (.tup [V.str "name", V.str "many"]) := by rw [← eHc, upd_ne n0]; exact f0
    have g1 : Hc t1 = some (.tup [V.str "name", V.str "name", V.str "many"]) := by rw [← eHc, upd_ne n1]; exact f1
    have g2 : Hc t2 = some (.tup [V.str "name", V.str "name"]) := by rw [← eHc, upd_ne n2]; exact f2
    have g3 : Hc t3 = some (.tup []) := by rw [← eHc, upd_ne n3]; exact f3
    clear f0 f1 f2 f3 eHc s14 p0 p1 p2 p3 sb0 sb1 sb2 sb3 sa ea h0 h1 h2 h3
    walk_at "go"
    refine r_dput ?_
    walk_at "go"
    refine ⟨(by show 2 ≤ sizeLine; decide), fun t4 h4 => ?_⟩
    have n4 : t4 ≠ p := fun q => by rw [q, pc] at h4; cases h4
    have sn4 := same_new (o := HO.tup [V.str "name", V.str "paper"]) h4
    walk_at "go"
    refine ⟨p, _, rfl, DPut.k (k := .inr "void") (sn4 _ _ pc) (line60 (by show 4 ≤ 1000; decide)), ?_⟩
    have e4 : (upd Hc t4 (HO.tup [V.str "name", V.str "paper"])) t4 = some (.tup [V.str "name", V.str "paper"]) := upd_same
    generalize eH4 : upd (upd Hc t4 (HO.tup [V.str "name", V.str "paper"])) p _ = Hd4
    have s4 : Same H1 Hd4 := by rw [← eH4]; exact same_upd (sc.trans sn4) hp
    have pp4 : Hd4 p = some (.dK [(.inr "issue", .ref t0), (.inr "block", .ref t1), (.inr "use", .ref t2), (.inr "day", .ref t3), (.inr "void", .ref t4)]) := by rw [← eH4, upd_same]; rfl
    replace g0 : Hd4 t0 = some (.tup [V.str "name", V.str "many"]) := by rw [← eH4, upd_ne n0]; exact sn4 _ _ g0
    replace g1 : Hd4 t1 = some (.tup [V.str "name", V.str "name", V.str "many"]) := by rw [← eH4, upd_ne n1]; exact sn4 _ _ g1
    replace g2 : Hd4 t2 = some (.tup [V.str "name", V.str "name"]) := by rw [← eH4, upd_ne n2]; exact sn4 _ _ g2
    replace g3 : Hd4 t3 = some (.tup []) := by rw [← eH4, upd_ne n3]; exact sn4 _ _ g3
    have g4 : Hd4 t4 = some (.tup [V.str "name", V.str "paper"]) := by rw [← eH4, upd_ne n4]; exact e4
    clear eH4 e4
    walk_at "go"
    refine r_dput ?_
    walk_at "go"
    refine ⟨(by show 2 ≤ sizeLine; decide), fun t5 h5 => ?_⟩
    have n5 : t5 ≠ p := fun q => by rw [q, pp4] at h5; cases h5
    have sn5 := same_new (o := HO.tup [V.str "name", V.str "paper"]) h5
    walk_at "go"
    refine ⟨p, _, rfl, DPut.k (k := .inr "again") (sn5 _ _ pp4) (line60 (by show 5 ≤ 1000; decide)), ?_⟩
    have e5 : (upd Hd4 t5 (HO.tup [V.str "name", V.str "paper"])) t5 = some (.tup [V.str "name", V.str "paper"]) := upd_same
    generalize eH5 : upd (upd Hd4 t5 (HO.tup [V.str "name", V.str "paper"])) p _ = Hd5
    have s5 : Same H1 Hd5 := by rw [← eH5]; exact same_upd (s4.trans sn5) hp
    have pp5 : Hd5 p = some (.dK [(.inr "issue", .ref t0), (.inr "block", .ref t1), (.inr "use", .ref t2), (.inr "day", .ref t3), (.inr "void", .ref t4), (.inr "again", .ref t5)]) := by rw [← eH5, upd_same]; rfl
    replace g0 : Hd5 t0 = some (.tup [V.str "name", V.str "many"]) := by rw [← eH5, upd_ne n0]; exact sn5 _ _ g0
    replace g1 : Hd5 t1 = some (.tup [V.str "name", V.str "name", V.str "many"]) := by rw [← eH5, upd_ne n1]; exact sn5 _ _ g1
    replace g2 : Hd5 t2 = some (.tup [V.str "name", V.str "name"]) := by rw [← eH5, upd_ne n2]; exact sn5 _ _ g2
    replace g3 : Hd5 t3 = some (.tup []) := by rw [← eH5, upd_ne n3]; exact sn5 _ _ g3
    replace g4 : Hd5 t4 = some (.tup [V.str "name", V.str "paper"]) := by rw [← eH5, upd_ne n4]; exact sn5 _ _ g4
    have g5 : Hd5 t5 = some (.tup [V.str "name", V.str "paper"]) := by rw [← eH5, upd_ne n5]; exact e5
    clear eH5 e5
    walk_at "go"
    refine r_dput ?_
    walk_at "go"
    refine ⟨(by show 1 ≤ sizeLine; decide), fun t6 h6 => ?_⟩
    have n6 : t6 ≠ p := fun q => by rw [q, pp5] at h6; cases h6
    have sn6 := same_new (o := HO.tup [V.str "name"]) h6
    walk_at "go"
    refine ⟨p, _, rfl, DPut.k (k := .inr "edition") (sn6 _ _ pp5) (line60 (by show 6 ≤ 1000; decide)), ?_⟩
    have e6 : (upd Hd5 t6 (HO.tup [V.str "name"])) t6 = some (.tup [V.str "name"]) := upd_same
    generalize eH6 : upd (upd Hd5 t6 (HO.tup [V.str "name"])) p _ = Hd6
    have s6 : Same H1 Hd6 := by rw [← eH6]; exact same_upd (s5.trans sn6) hp
    have pp6 : Hd6 p = some (.dK [(.inr "issue", .ref t0), (.inr "block", .ref t1), (.inr "use", .ref t2), (.inr "day", .ref t3), (.inr "void", .ref t4), (.inr "again", .ref t5), (.inr "edition", .ref t6)]) := by rw [← eH6, upd_same]; rfl
    replace g0 : Hd6 t0 = some (.tup [V.str "name", V.str "many"]) := by rw [← eH6, upd_ne n0]; exact sn6 _ _ g0
    replace g1 : Hd6 t1 = some (.tup [V.str "name", V.str "name", V.str "many"]) := by rw [← eH6, upd_ne n1]; exact sn6 _ _ g1
    replace g2 : Hd6 t2 = some (.tup [V.str "name", V.str "name"]) := by rw [← eH6, upd_ne n2]; exact sn6 _ _ g2
    replace g3 : Hd6 t3 = some (.tup []) := by rw [← eH6, upd_ne n3]; exact sn6 _ _ g3
    replace g4 : Hd6 t4 = some (.tup [V.str "name", V.str "paper"]) := by rw [← eH6, upd_ne n4]; exact sn6 _ _ g4
    replace g5 : Hd6 t5 = some (.tup [V.str "name", V.str "paper"]) := by rw [← eH6, upd_ne n5]; exact sn6 _ _ g5
    have g6 : Hd6 t6 = some (.tup [V.str "name"]) := by rw [← eH6, upd_ne n6]; exact e6
    clear eH6 e6
    obtain ⟨ts, hts⟩ : ∃ ts : Nat → Addr, ts = fun c => match c with | 0 => t0 | 1 => t1 | 2 => t2 | 3 => t4 | 4 => t5 | 5 => t3 | _ => t6 := ⟨_, rfl⟩
    have pD : Hd6 p = some (.dK (dkv ts)) := by rw [pp6, hts]; rfl
    have gT : ∀ c, c < 7 → Hd6 (ts c) = some (.tup ((lkd c).map fun k => V.str k.nm)) := by
      intro c hc
      have e1 : c = 0 ∨ c = 1 ∨ c = 2 ∨ c = 3 ∨ c = 4 ∨ c = 5 ∨ c = 6 := by omega
      rw [hts]
      rcases e1 with rfl | rfl | rfl | rfl | rfl | rfl | rfl
      · exact g0
      · exact g1
      · exact g2
      · exact g4
      · exact g5
      · exact g3
      · exact g6
    clear hts pp6 pp5 pp4 pc g0 g1 g2 g3 g4 g5 g6 n0 n1 n2 n3 n4 n5 n6 h4 h5 h6 sn4 sn5 sn6 s4 s5 sc
    obtain ⟨w0, wr, ews⟩ : ∃ w0 wr, ws = w0 :: wr := by
      cases ws with
      | nil => exact absurd rfl wne
      | cons a b => exact ⟨a, b, rfl⟩
    have hw0 : ws[0]? = some w0 := by rw [ews]; rfl
    have ei : atI (ws.map V.str) 0 = some (.str w0) := by rw [ews]; exact at_0
    have hlw : (ws.map V.str).length = ws.length := List.length_map ..
    have hw1 : 1 ≤ ws.length := by rw [ews, List.length_cons]; omega
    walk_at "go"
    refine r_ixL (SqL.of (s6 _ _ eL)) ei ?_
    walk_at "go"
    refine ⟨p, valV (dkv ts) (.inr w0), rfl, DGet.k (k := .inr w0) pD, ?_⟩
    have hv := valV_dkv ts w0
    rw [hv]
    have s06 : Same H Hd6 := s1.trans s6
    cases eo : dkOf w0 with
    | none =>
      refine ⟨true, rfl, ?_⟩
      walk_at "go"
      refine ⟨(by show 2 ≤ sizeLine; decide), fun q hq => ?_⟩
      have e : rdDeed ws = .bad 0 := by unfold rdDeed; rw [hw0, Option.bind_some, eo]
      have := k _ q (s06.trans (same_new (o := HO.lst [V.non, vi 0]) hq)) (s06.free hq)
      rw [e] at this
      exact this upd_same
    | some c =>
      obtain ⟨hc, rfl⟩ := dkOf_some eo
      rw [eo] at hv
      have erd2 := rdDeed_of hc hw0
      rw [erd2] at k
      refine ⟨false, rfl, ?_⟩
      walk_at "go"
      refine r_ixL (SqL.of (s6 _ _ eL)) ei ?_
      walk_at "go"
      refine ⟨(by show 1 ≤ sizeLine; decide), fun T hT => ?_⟩
      have hTH : H T = none := s06.free hT
      have sT := same_new (o := HO.lst [V.str (K4.dw c)]) hT
      walk_at "go"
      refine r_ixL (SqL.of (sT _ _ (s6 _ _ eL))) ei ?_
      refine ⟨p, .ref (ts c), rfl, (by have := DGet.k (k := .inr (K4.dw c)) (sT _ _ pD); rw [hv] at this; exact this), ?_⟩
      have gc := sT _ _ (gT c hc)
      have nTL : L ≠ T := fun q => by have := s6 _ _ eL; rw [q, hT] at this; cases this
      have nTp : p ≠ T := fun q => by rw [q, hT] at pD; cases pD
      have nTc : ts c ≠ T := fun q => by have := gT c hc; rw [q, hT] at this; cases this
      refine ⟨ts c, rfl, ⟨_, SqT.of gc⟩, fr_tup (K := K) (a := ts c) (xs := (lkd c).map fun k => V.str k.nm) (fun i σ H' => ∃ (o4 o5 : Option V) (tsv : List V) (ds : List PyData), σ = [some v, some (.ref L), some (.ref p), some (.ref T), o4, o5, none, none] ∧ Kp T Hd6 H' ∧
        H' T = some (.lst (V.str (K4.dw c) :: tsv)) ∧ DpAll K H' tsv ds ∧ pureA ds = true ∧ tsv.length = i ∧ 1 + i ≤ ws.length ∧
        rdParts (lkd c) ws 1 = (match rdParts ((lkd c).drop i) ws (1 + i) with | .bad e => .bad e | .ok (ds2, z2) => .ok (ds ++ ds2, z2))) ⟨none, none, [], [], rfl, Same.kp sT, upd_same, .nil, rfl, rfl, hw1, ?_⟩ (fun i σ H' _ ⟨_, _, _, _, _, kp, _⟩ => SqT.of (kp _ _ nTc (gT c hc))) ?_ ?_⟩
      · rw [List.drop_zero, Nat.add_zero]
        cases rdParts (lkd c) ws 1 with
        | bad e => rfl
        | ok q => rfl
      · rintro i x σ H' hx ⟨o4, o5, tsv, ds, rfl, kp, eT, da, pa, tl', l1, rj⟩
        obtain ⟨pk, hpk, rfl⟩ := get_map hx
        have nr := lkd_nr hc pk (List.mem_of_getElem? hpk)
        have hdr : (lkd c).drop i = pk :: (lkd c).drop (i + 1) := by
          obtain ⟨h1, h2⟩ := List.getElem?_eq_some_iff.mp hpk
          rw [List.drop_eq_getElem_cons h1, h2]
        rw [hdr, rdParts, rdPart_1 nr] at rj
        have eL' := kp _ _ nTL (s6 _ _ eL)
        have lT : LenV K (.ref T) H' (1 + i) := by
          have := lenL (SqL.of (K := K) eT)
          rw [List.length_cons, tl'] at this
          rw [Nat.add_comm]; exact this
        refine K1.r_name ?_
        try dsimp only [List.set]
        refine K1.r_seq ?_
        refine K1.r_asg ?_
        refine r_ifJ (fun x Hm => ∃ (q : Addr) (xs : List V), x = .ref q ∧ Same H' Hm ∧ Hm q = some (.lst xs) ∧ DpAll K Hm xs (OData (ws[1 + i]?.bind (rd1 pk)))) (fun Q' hQ => ?_) ?_
        · walk_at "go"
          refine ⟨_, _, rfl, lT, ?_⟩
          walk_at "go"
          refine ⟨_, _, rfl, lenL (SqL.of eL'), ?_⟩
          walk_at "go"
          rw [hlw]
          by_cases hz : 1 + i < ws.length
          · refine r_yes (by omega) ?_
            obtain ⟨y, hy⟩ : ∃ y, ws[1 + i]? = some y := ⟨ws[1 + i], by simp [hz]⟩
            walk_at "go"
            refine ⟨_, _, rfl, lT, ?_⟩
            refine r_ixL (SqL.of eL') (atI_nat (by rw [List.getElem?_map, hy]; rfl)) ?_
            walk_at "go"
            refine ⟨pk, y, rfl, nr, hws.ea y (List.mem_of_getElem? hy), fun H2 q2 xs s2 hq2 e2 d2 => ?_⟩
            exact hQ _ _ ⟨q2, xs, rfl, s2, e2, by rw [hy]; exact d2⟩
          · refine r_no (by omega) ?_
            walk_at "go"
            refine ⟨(by show 0 ≤ sizeLine; decide), fun q hq => ?_⟩
            exact hQ _ _ ⟨q, [], rfl, same_new hq, upd_same, by rw [List.getElem?_eq_none (by omega)]; exact .nil⟩
        rintro x Hm ⟨q, xs, rfl, sm, eq, dx⟩
        have smH : Same H H' := fun c o e => kp c o (ne_of_none e hTH) (s06 _ _ e)
        have eTm := sm _ _ eT
        walk_at "go"
        cases eb : ws[1 + i]?.bind (rd1 pk) with
        | none =>
          rw [eb] at dx rj
          cases dx
          refine ⟨false, tru_lst (SqL.of eq) rfl, ?_⟩
          walk_at "go"
          have lTm : LenV K (.ref T) Hm (1 + i) := by
            have := lenL (SqL.of (K := K) eTm)
            rw [List.length_cons, tl'] at this
            rw [Nat.add_comm]; exact this
          refine ⟨_, _, rfl, lTm, ?_⟩
          walk_at "go"
          refine ⟨(by show 2 ≤ sizeLine; decide), fun q' hq' => ?_⟩
          have := k _ q' ((smH.trans sm).trans (same_new (o := HO.lst [V.non, vi (1 + i)]) hq')) ((smH.trans sm).free hq')
          dsimp only at rj
          rw [rj] at this
          exact this upd_same
        | some d =>
          rw [eb] at dx rj
          obtain ⟨xv, rfl, dxv⟩ : ∃ xv, xs = [xv] ∧ Dp K Hm xv d := by
            cases dx with
            | cons h1 h2 => cases h2; exact ⟨_, rfl, h1⟩
          obtain ⟨y, hy, hyd⟩ := Option.bind_eq_some_iff.mp eb
          have pd := rd1_pure hyd
          have il := (List.getElem?_eq_some_iff.mp hy).1
          have ln3 : (lkd c).length ≤ 3 := by
            unfold lkd
            split
            · decide
            · exact dk_len c
          have il2 := (List.getElem?_eq_some_iff.mp hpk).1
          refine ⟨true, tru_lst (SqL.of eq) rfl, ?_⟩
          walk_at "go"
          refine ⟨tyL (SqL.of eTm), ?_⟩
          walk_at "go"
          refine r_ixL (SqL.of eq) at_0 ?_
          walk_at "go"
          refine ⟨T, _, _, rfl, rfl, eTm, line60 (by rw [List.length_cons, tl']; omega), ?_⟩
          have kt2 : KT K Hm (upd Hm T (.lst (V.str (K4.dw c) :: tsv ++ [xv]))) := kt_lst eTm
          refine ⟨_, _, tsv ++ [xv], ds ++ [d], rfl, kp_upd (fun c' o n e => sm _ _ (kp c' o n e)) hT, by rw [upd_same]; rfl, ?_, pureA_ap pa (by simp only [pureA, pd, Bool.and_true]), by rw [List.length_append, tl']; rfl, by omega, ?_⟩
          · exact dpA_app (dpA_pure (KT.trans (Same.kt sm) kt2) _ _ pa da) (.cons (dp_pure kt2 _ _ pd dxv) .nil)
          · dsimp only at rj
            rw [rj]
            show _ = (match rdParts ((lkd c).drop (i + 1)) ws (1 + i + 1) with | Out.bad e => Out.bad e | Out.ok (ds2, z2) => Out.ok (ds ++ [d] ++ ds2, z2))
            cases rdParts ((lkd c).drop (i + 1)) ws (1 + i + 1) with
            | bad e => rfl
            | ok q => simp [List.append_assoc]
      · rintro σ H' ⟨o4, o5, tsv, ds, rfl, kp, eT, da, pa, tl', l1, rj⟩
        rw [List.length_map] at tl' l1 rj
        rw [List.drop_length, rdParts] at rj
        dsimp only at rj
        rw [List.append_nil] at rj
        rw [rj] at k
        dsimp only at k
        have eL' := kp _ _ nTL (s6 _ _ eL)
        have smH : Same H H' := fun c o e => kp c o (ne_of_none e hTH) (s06 _ _ e)
        have ln3 : (lkd c).length ≤ 3 := by
          unfold lkd
          split
          · decide
          · exact dk_len c
        walk_at "go"
        refine r_ixL (SqL.of eL') ei ?_
        walk_at "go"
        refine r_ite (fun h6 => ?_) (fun h6 => ?_)
        · have e6 : c = 6 := dw_inj _ hc 6 (by decide) (V.str.inj h6)
          have el : 1 + (lkd c).length = 2 := by rw [e6]; rfl
          simp only [if_pos e6, el] at k
          walk_at "go"
          refine ⟨L, ws, 2, rfl, eL', hws, fun H2 q2 s2 => ?_⟩
          cases er : rdAllWs ws 2 with
          | bad e =>
            intro e2
            refine ⟨q2, _, rfl, SqL.of e2, rfl, ?_⟩
            walk_at "go"
            refine ⟨(by show 2 ≤ sizeLine; decide), fun q' hq' => ?_⟩
            have := k _ q' ((smH.trans s2).trans (same_new (o := HO.lst [V.non, vi e]) hq')) ((smH.trans s2).free hq')
            rw [er] at this
            exact this upd_same
          | ok d =>
            intro t e2 d2
            have pd := rdRule_pureAll er
            refine ⟨q2, _, rfl, SqL.of e2, rfl, ?_⟩
            walk_at "go"
            refine cat_new (s2 _ _ eT) (by rw [List.length_cons, tl']; simp only [List.length_cons, List.length_nil]; omega) (fun H3 q3 s3 e3 => ?_)
            walk_at "go"
            refine ⟨q3, _, rfl, .inl ⟨SqL.of e3, fun tp htp => ?_⟩⟩
            have sP := same_new (o := HO.tup (V.str (K4.dw c) :: tsv ++ [V.ref t])) htp
            walk_at "go"
            refine ⟨(by show 2 ≤ sizeLine; decide), fun q' hq' => ?_⟩
            have sQ := same_new (o := HO.lst [V.ref tp, V.int (-1)]) hq'
            have s3Q := s3.trans (sP.trans sQ)
            have := k _ q' (smH.trans (s2.trans s3Q)) ((smH.trans (s2.trans (s3.trans sP))).free hq')
            rw [er] at this
            refine this tp upd_same (.tup (SqT.of (sQ _ _ upd_same)) (.cons (.str _) ?_))
            exact dpA_app (dpA_pure (Same.kt (s2.trans s3Q)) _ _ pa da) (.cons (dp_pure (Same.kt s3Q) _ _ pd d2) .nil)
        · have e6 : c ≠ 6 := fun q => h6 (by rw [q]; rfl)
          simp only [if_neg e6] at k
          walk_at "go"
          refine ⟨_, _, rfl, lenL (SqL.of eL'), ?_⟩
          walk_at "go"
          have lT : LenV K (.ref T) H' (1 + (lkd c).length) := by
            have := lenL (SqL.of (K := K) eT)
            rw [List.length_cons, tl'] at this
            rw [Nat.add_comm]; exact this
          refine ⟨_, _, rfl, lT, ?_⟩
          walk_at "go"
          rw [hlw]
          refine r_ite (fun he => ?_) (fun he => ?_)
          · have he2 : ws.length = 1 + (lkd c).length := by have := V.int.inj he; omega
            simp only [if_neg (show ¬ 1 + (lkd c).length < ws.length by omega)] at k
            walk_at "go"
            refine ⟨T, _, rfl, .inl ⟨SqL.of eT, fun tp htp => ?_⟩⟩
            have sP := same_new (o := HO.tup (V.str (K4.dw c) :: tsv)) htp
            walk_at "go"
            refine ⟨(by show 2 ≤ sizeLine; decide), fun q' hq' => ?_⟩
            have sQ := same_new (o := HO.lst [V.ref tp, V.int (-1)]) hq'
            have sPQ := sP.trans sQ
            have := k _ q' (smH.trans sPQ) ((smH.trans sP).free hq')
            exact this tp upd_same (.tup (SqT.of (sQ _ _ upd_same)) (.cons (.str _) (dpA_pure (Same.kt sPQ) _ _ pa da)))
          · have he2 : 1 + (lkd c).length < ws.length := by
              have : ws.length ≠ 1 + (lkd c).length := fun q => he (by rw [q])
              omega
            simp only [if_pos he2] at k
            walk_at "go"
            refine ⟨_, _, rfl, lT, ?_⟩
            walk_at "go"
            refine ⟨(by show 2 ≤ sizeLine; decide), fun q' hq' => ?_⟩
            exact k _ q' (smH.trans (same_new hq')) (smH.free hq') upd_same
end
end K4

/-! L7n -/


namespace K4
open PySem L2 K1
abbrev sLDueOf : Stmt := top 109
abbrev nLDueOf : List Str := ["_law_lines", "_law_deeds", "_law_due", "_law_k", "_law_deed", "_law_place", "_law_kept", "_law_told", "_law_refusal"]
theorem scLDueOf : FnScope nLDueOf ["_law_lines"] (defScope sLDueOf) := ⟨rfl, rfl, rfl, by decide +kernel, rfl, by decide +kernel, by decide +kernel⟩
def spInt5 : Sp := fun vs H Q _ => ∃ i : Int, vs = [.int i] ∧ Q (.bl true) H
def spSame7 (K : PySem.W.Frag) : Sp := fun vs H Q _ => ∃ (a b : V) (d : PyData), vs = [a, b] ∧ Dp K H a d ∧ Dp K H b d ∧ Td 47 d ∧ ∀ H', Same H H' → Q (.bl true) H'
def dE (k e : Nat) : PyData := .list [.str "CarryError", .str "Malformed", .str "BadLine", .int k, .int e]
theorem dE_flat (k e : Nat) : flatN (dE k e) = true := flat_sq (t := false) fun d hd => by
  simp only [List.mem_cons, List.not_mem_nil, or_false] at hd
  rcases hd with rfl | rfl | rfl | rfl | rfl
  · decide +kernel
  · decide +kernel
  · decide +kernel
  · rfl
  · rfl
theorem dE_dep (k e : Nat) : (dE k e).depth ≤ 1 := depth_sq (t := false) (n := 0) fun d hd => by
  simp only [List.mem_cons, List.not_mem_nil, or_false] at hd
  rcases hd with rfl | rfl | rfl | rfl | rfl <;> exact Nat.zero_le _
theorem dE_eqv (k e : Nat) : PyData.eqv (dE k e) (dE k e) = true := SeqAt.eqv_refl _ (canLay_flat _ (dE_flat k e))
theorem dE_shaped (k e : Nat) : SeqAt.shaped (dE k e) = true := shaped_of (dE_flat k e) (Nat.le_trans (dE_dep k e) (by decide))
theorem dE_at {K : PySem.W.Frag} {H : Hp} {l : Addr} {k e : Nat} (h : H l = some (.lst [.str "CarryError", .str "Malformed", .str "BadLine", vi k, vi e])) : Dp K H (.ref l) (dE k e) :=
  .lst (SqL.of h) (.cons (.str _) (.cons (.str _) (.cons (.str _) (.cons (.int _) (.cons (.int _) .nil)))))
/-! ### what is read is not wide and not deep -/
theorem az_lt : ∀ c ∈ tl AZ, c < 1114112 := by decide +kernel
theorem dw_strOk : ∀ k < 7, PyData.strOk (dw k) = true := by decide +kernel
theorem rdOne_gd {α : Type} {f : Str → Option α} {g : α → PyData} {n : Nat} (hg : ∀ x a, f x = some a → Gd n (g a)) {ws : List Str} {z z' : Nat} {d : PyData} (h : rdOne f g ws z = .ok (d, z')) : Gd n d := by
  unfold rdOne at h
  cases e : ws[z]?.bind f with
  | none => rw [e] at h; cases h
  | some a =>
    rw [e] at h
    injection h with h
    injection h with h1 h2
    rw [← h1]
    obtain ⟨x, _, hx⟩ := Option.bind_eq_some_iff.mp e
    exact hg x a hx
theorem rdName_ok {x y : Str} (h : rdName x = some y) : PyData.strOk y = true := by
  unfold rdName at h
  split at h
  · rename_i q
    cases h
    exact strOk_of fun c hc => az_lt c ((nm_text q).2.2.1 c hc)
  · cases h
theorem rdPap_ok {x y : Str} (h : rdPap x = some y) : PyData.strOk y = true := by
  unfold rdPap at h
  split at h
  · cases h; decide +kernel
  · split at h
    · rename_i q
      cases h
      exact strOk_of fun c hc => all_lt c ((textB_iff.mp q).2.2 c hc)
    · cases h
theorem rdPart_gd {k : Pk} {ws : List Str} {z z' : Nat} {d : PyData} (h : rdPart k ws z = .ok (d, z')) : Gd 43 d := by
  cases k with
  | name => exact rdOne_gd (fun x a e => gd_str (rdName_ok e)) h
  | many => exact rdOne_gd (fun x a e => gd_num _ _) h
  | paper => exact rdOne_gd (fun x a e => gd_str (rdPap_ok e)) h
  | rule =>
    simp only [rdPart] at h
    unfold rdAllWs at h
    cases e : rdRule 41 ws z 0 with
    | bad q => rw [e] at h; cases h
    | ok r =>
      obtain ⟨d', z1, b1⟩ := r
      rw [e] at h
      dsimp only at h
      by_cases q : z1 < ws.length
      · rw [if_pos q] at h; cases h
      · rw [if_neg q] at h
        injection h with h
        injection h with h1 h2
        rw [← h1]
        exact (rdRule_gd _ _ _ _ _ _ _ e).2
theorem rdParts_gd : ∀ {ks : List Pk} {ws : List Str} {z z' : Nat} {ds : List PyData}, rdParts ks ws z = .ok (ds, z') → ds.length = ks.length ∧ ∀ d ∈ ds, Gd 43 d
  | [], ws, z, z', ds, h => by
    rw [rdParts] at h
    injection h with h
    injection h with h1 h2
    rw [← h1]
    exact ⟨rfl, fun d hd => by cases hd⟩
  | k :: ks, ws, z, z', ds, h => by
    rw [rdParts] at h
    cases e : rdPart k ws z with
    | bad q => rw [e] at h; cases h
    | ok r =>
      obtain ⟨d, z1⟩ := r
      rw [e] at h
      dsimp only at h
      cases e2 : rdParts ks ws z1 with
      | bad q => rw [e2] at h; cases h
      | ok r2 =>
        obtain ⟨ds2, z2⟩ := r2
        rw [e2] at h
        injection h with h
        injection h with h1 h2
        rw [← h1]
        have ih := rdParts_gd e2
        refine ⟨by rw [List.length_cons, List.length_cons, ih.1], fun y hy => ?_⟩
        rcases List.mem_cons.mp hy with rfl | hy
        · exact rdPart_gd e
        · exact ih.2 y hy
theorem rdDeed_gd {ws : List Str} {d : PyData} (h : rdDeed ws = .ok d) : Gd 44 d := by
  unfold rdDeed at h
  cases e0 : ws[0]?.bind dkOf with
  | none => rw [e0] at h; cases h
  | some c =>
    rw [e0] at h
    dsimp only at h
    obtain ⟨x, _, hx⟩ := Option.bind_eq_some_iff.mp e0
    have hc := (dkOf_some hx).1
    cases e1 : rdParts (dk c) ws 1 with
    | bad q => rw [e1] at h; cases h
    | ok r =>
      obtain ⟨ds, z⟩ := r
      rw [e1] at h
      dsimp only at h
      by_cases q : z < ws.length
      · rw [if_pos q] at h; cases h
      · rw [if_neg q] at h
        injection h with h
        rw [← h]
        have g := rdParts_gd e1
        have hl := dk_len c
        refine gd_tup (by rw [List.length_cons, g.1]; omega) fun y hy => ?_
        rcases List.mem_cons.mp hy with rfl | hy
        · exact gd_str (dw_strOk c hc)
        · exact g.2 y hy
theorem rdLine_gd {l : Option Str} {d : PyData} (h : rdLine l = .ok d) : Gd 44 d := by
  cases l with
  | none => cases h
  | some x => exact rdDeed_gd h
theorem rdLines_gd : ∀ {i : Nat} {ls : List (Option Str)} {ds : List PyData}, rdLines i ls = .ok ds → ds.length = ls.length ∧ pureA ds = true ∧ ∀ d ∈ ds, Gd 44 d
  | i, [], ds, h => by
    rw [rdLines] at h
    injection h with h
    rw [← h]
    exact ⟨rfl, rfl, fun d hd => by cases hd⟩
  | i, l :: ls, ds, h => by
    rw [rdLines] at h
    cases e : rdLine l with
    | bad q => rw [e] at h; cases h
    | ok d =>
      rw [e] at h
      dsimp only at h
      cases e2 : rdLines (i + 1) ls with
      | bad k z => rw [e2] at h; cases h
      | ok ds2 =>
        rw [e2] at h
        injection h with h
        rw [← h]
        obtain ⟨a1, a2, a3⟩ := rdLines_gd e2
        refine ⟨by rw [List.length_cons, List.length_cons, a1], by simp only [pureA, rdLine_pure e, a2, Bool.and_self], fun y hy => ?_⟩
        rcases List.mem_cons.mp hy with rfl | hy
        · exact rdLine_gd e
        · exact a3 y hy
theorem td_deeds {ds : List PyData} (l : ds.length ≤ 1000) (p : pureA ds = true) (g : ∀ d ∈ ds, Gd 44 d) : Td 47 (.tuple ds) := by
  have a := gd_tup l g
  exact ⟨⟨_, rfl⟩, by simpa [K4.pure] using p, a.wi, a.fl, Nat.le_trans a.dp (by decide)⟩
/-! ### a list is equal to one of the same things -/
def OkV (v : V) : Prop := flatB v = true ∨ ∃ a, v = .ref a
theorem eq_same {K : PySem.W.Frag} {H : Hp} {Q : VK} {a b : Addr} {xs : List V} (ha : SqL K H a xs) (hb : SqL K H b xs) (ok : ∀ x ∈ xs, OkV x) (q : Q (.bl true) H) : rEqV K (.ref a) (.ref b) H Q := by
  refine ⟨1, by decide, .inl ⟨a, b, xs, xs, rfl, rfl, ha, hb, ?_⟩, q⟩
  clear ha hb
  induction xs with
  | nil => exact .nil
  | cons x xs ih =>
    refine .cons ?_ (ih fun y hy => ok y (List.mem_cons_of_mem _ hy))
    rcases ok x (List.mem_cons_self ..) with h | ⟨r, rfl⟩
    · exact .inl ⟨rfl, h⟩
    · exact .inr (.inl ⟨r, rfl, rfl⟩)
def spDue (K : PySem.W.Frag) : Sp := fun vs H Q _ => ∃ (p : Addr) (xs : List V) (ls : List (Option Str)), vs = [.ref p] ∧ H p = some (.lst xs) ∧ LnAll K H xs ls ∧ (∀ x ∈ xs, OkV x) ∧ ls.length ≤ 1000 ∧ ∀ H', Same H H' → Q (.bl true) H'
section
variable {P : Program} {w : World} {K : PySem.W.Frag} {mg : Str → Option Value} {base : Heap}
theorem ok_isInt5 {f : Addr} {fd : FuncData} (F : Fun K "_law_is_int" "_law_is_int" sLIsInt f fd) (B : Bl mg) : FnOk P w K mg base CX0 1 f fd ["_law_thing"] spInt5 := by
  refine F.ok scLIsInt (fun vs H Q E h => ?_) (fun cdv A outer s H vs Q E hr h => ?_)
  · obtain ⟨i, rfl, _⟩ := h
    rfl
  · obtain ⟨i, rfl, k⟩ := h
    refine ⟨_, (pss_one (ps_ret (pe_and (pe_callB (id := "isinstance") (r := rIsi K) call_isi (by rfl) B.isin (by decide +kernel) (pa_cons (pv 0) (pa_cons (pe_bltn (v := .ty "int") (by rfl) B.int (by decide +kernel) rfl) pa_nil))) (pe_one (pe_not (pe_callB (id := "isinstance") (r := rIsi K) call_isi (by rfl) B.isin (by decide +kernel) (pa_cons (pv 0) (pa_cons (pe_bltn (v := .ty "bool") (by rfl) B.bool (by decide +kernel) rfl) pa_nil)))))))), ?_⟩
    try dsimp only [cxOf, Cx.nox, Cx.wish]
    walk_at "go"
    refine r_isi (b := true) (.ty "int") (.base (.int _)) (kit_ty (by decide +kernel)) ?_
    walk_at "go"
    refine r_isi (b := false) (.ty "bool") (.base (.int _)) (kit_ty (by decide +kernel)) ?_
    walk_at "go"
    exact k
theorem ok_same7 {f : Addr} {fd : FuncData} (F : Fun K "_law_same_tuple" "_law_same_tuple" sLSame f fd) (B : Bl mg) (Onl : ONL 48 P w K mg base) : FnOk P w K mg base CX0 49 f fd ["_law_told", "_law_wanted"] (spSame7 K) := by
  refine F.ok scLSame (fun vs H Q E h => ?_) (fun cdv A outer s H vs Q E hr h => ?_)
  · obtain ⟨a, b, d, rfl, _⟩ := h
    rfl
  · obtain ⟨a, b, d, rfl, ha, hb, td, k⟩ := h
    refine ⟨_, (pss_one (ps_ret (pe_and (pe_callB (id := "isinstance") (r := rIsi K) call_isi (by rfl) B.isin (by decide +kernel) (pa_cons (pv 0) (pa_cons (pe_bltn (v := .ty "tuple") (by rfl) B.tuple (by decide +kernel) rfl) pa_nil))) (pe_and (pe_cmpR (op_eqD hr.units) (pv 0) (pv 1) (nomark _)) (pe_one (pe_own Onl (hr.mono (by omega)) (pa_cons (pv 0) pa_nil))))))), ?_⟩
    try dsimp only [cxOf, Cx.nox, Cx.wish]
    walk_at "go"
    have hT : TyX K H a (.type "tuple") := by
      obtain ⟨ds, e⟩ := td.tup
      rw [e] at ha
      cases ha with
      | tup h _ => exact tyxT h
    refine r_isi (b := true) (.ty "tuple") hT (kit_ty (by decide +kernel)) ?_
    walk_at "go"
    have dep := td.dp
    have sh : SeqAt.shaped d = true := shaped_of td.fl (by omega)
    have eq : PyData.eqv d d = true := SeqAt.eqv_refl _ (canLay_flat _ td.fl)
    refine ⟨_, _, ha, hb, sh, sh, ?_⟩
    rw [eq]
    walk_at "go"
    exact ⟨a, _, rfl, ha, td.pu, td.wi, by omega, fun H1 s1 => k H1 s1⟩
abbrev OInt5 (P : Program) (w : World) (K : PySem.W.Frag) (mg : Str → Option Value) (base : Heap) : Prop := Own P w K mg base "_law_is_int" 1 ["_law_thing"] spInt5
abbrev OSame7 (P : Program) (w : World) (K : PySem.W.Frag) (mg : Str → Option Value) (base : Heap) : Prop := Own P w K mg base "_law_same_tuple" 49 ["_law_told", "_law_wanted"] (spSame7 K)
abbrev OToldOf (P : Program) (w : World) (K : PySem.W.Frag) (mg : Str → Option Value) (base : Heap) : Prop := Own P w K mg base "_law_told_of" 52 ["_law_lines"] (spToldOf K)
abbrev OLReadDeed (P : Program) (w : World) (K : PySem.W.Frag) (mg : Str → Option Value) (base : Heap) : Prop := Own P w K mg base "_law_read_deed" 47 ["_law_line"] (spLReadDeed K)
theorem ok_dueOf {f : Addr} {fd : FuncData} (F : Fun K "_law_due_of" "_law_due_of" sLDueOf f fd) (B : Bl mg) (Ord : OLReadDeed P w K mg base) (Oto : OToldOf P w K mg base) (Oii : OInt5 P w K mg base) (Osm : OSame7 P w K mg base) :
    FnOk P w K mg base CX0 53 f fd ["_law_lines"] (spDue K) := by
  refine F.ok scLDueOf (fun vs H Q E h => ?_) (fun cdv A outer s H vs Q E hr h => ?_)
  · obtain ⟨p, xs, ls, rfl, _⟩ := h
    rfl
  · obtain ⟨p, xs, ls, rfl, hp, hA, hok, hl1000, k⟩ := h
    have hal := hA.len
    refine ⟨_, (pss_cons (ps_set (i := 1) scLDueOf.nd rfl (Or.inl rfl) (pe_lst pa_nil)) (pss_cons (ps_set (i := 2) scLDueOf.nd rfl (Or.inl rfl) (pe_lst pa_nil)) (pss_cons (ps_for PassesOwn.never rfl (pi_range1 rfl B.range (pa_cons (pe_callB call_len (by rfl) B.len PySem.boot_len (pa_cons (pv 0) pa_nil)) pa_nil)) (pg_name (i := 3) scLDueOf.nd rfl (Or.inl rfl)) (pss_cons (ps_asg (pe_own Ord (hr.mono (by omega)) (pa_cons (pe_ix ix_list (pv 0) (pv 3) (fun _ _ => rfl)) pa_nil)) (pg_unl rfl (pgs_cons (pg_name (i := 4) scLDueOf.nd rfl (Or.inl rfl)) (pgs_cons (pg_name (i := 5) scLDueOf.nd rfl (Or.inl rfl)) pgs_nil)))) (pss_cons (ps_expr (pe_bm PySem.F.plainAttrs_list PySem.F.slot_list_append PySem.F.type_list_append mt_append (pv 1) (pa_cons (pv 4) pa_nil))) (pss_one (ps_if (PW.pt (pw_and (pt_cmpR op_ge (pv 5) pe_int (nomark _)) (pw_and1 (pt_not (pt_truth (pv 2) (by intro _; rfl)))))) (pss_one (ps_set (i := 2) scLDueOf.nd rfl (Or.inl rfl) (pe_lst (pa_cons pe_str (pa_cons pe_str (pa_cons pe_str (pa_cons (pv 3) (pa_cons (pv 5) pa_nil)))))))) pss_nil))))) (pss_cons (ps_set (i := 6) scLDueOf.nd rfl (Or.inl rfl) (pe_callTy call_list_of (by rfl) B.list (by decide +kernel) (pa_cons (pv 0) pa_nil))) (pss_cons (ps_asg (pe_own Oto hr (pa_cons (pv 0) pa_nil)) (pg_unl rfl (pgs_cons (pg_name (i := 7) scLDueOf.nd rfl (Or.inl rfl)) (pgs_cons (pg_name (i := 8) scLDueOf.nd rfl (Or.inl rfl)) pgs_nil)))) (pss_cons (ps_if (pt_truth (pv 2) (by intro _; rfl)) (pss_one (ps_ret (pe_and (pe_cmpR (op_eqD hr.units) (pv 8) (pv 2) (nomark _)) (pe_and (pe_own Oii (hr.mono (by omega)) (pa_cons (pe_ix ix_list (pv 8) pe_int (fun _ _ => rfl)) pa_nil)) (pe_and (pe_own Oii (hr.mono (by omega)) (pa_cons (pe_ix ix_list (pv 8) pe_int (fun _ _ => rfl)) pa_nil)) (pe_one (pe_cmpR (op_eqV hr.units) (pv 0) (pv 6) (nomark _)))))))) pss_nil) (pss_one (ps_ret (pe_and (pe_cmpR (op_eqD hr.units) (pv 8) (pe_lst pa_nil) (nomark _)) (pe_and (pe_own Osm (hr.mono (by omega)) (pa_cons (pv 7) (pa_cons (pe_callTy call_tuple_of (by rfl) B.tuple (by decide +kernel) (pa_cons (pv 1) pa_nil)) pa_nil))) (pe_one (pe_cmpR (op_eqV hr.units) (pv 0) (pv 6) (nomark _))))))))))))), ?_⟩
    try dsimp only [cxOf, Cx.nox, Cx.wish]
    walk_at "go"
    refine ⟨(by show 0 ≤ sizeLine; decide), fun D hD => ?_⟩
    have sD := same_new (o := HO.lst []) hD
    walk_at "go"
    refine ⟨(by show 0 ≤ sizeLine; decide), fun U hU => ?_⟩
    have sU := same_new (o := HO.lst []) hU
    have nUD : U ≠ D := fun q => by rw [q, upd_same] at hU; cases hU
    walk_at "go"
    refine ⟨_, _, rfl, lenL (SqL.of ((sD.trans sU) _ _ hp)), ?_⟩
    walk_at "go"
    refine ⟨by omega, by omega, fr_range (lo := 0) (n := xs.length) (fun i σ H' => ∃ (U : Addr) (k3 k4 k5 : Option V) (dvs : List V), σ = [some (.ref p), some (.ref D), some (.ref U), k3, k4, k5, none, none, none] ∧ Same H H' ∧ H' D = some (.lst dvs) ∧ dvs.length = i ∧ U ≠ D ∧
      ((∃ ds, H' U = some (.lst []) ∧ DpAll K H' dvs ds ∧ pureA ds = true ∧ rdLines 0 ls = (match rdLines i (ls.drop i) with | .bad k z => .bad k z | .ok ds2 => .ok (ds ++ ds2))) ∨
       ∃ k0 z0 : Nat, H' U = some (.lst [.str "CarryError", .str "Malformed", .str "BadLine", vi k0, vi z0]) ∧ rdLines 0 ls = .bad k0 z0))
      ⟨U, none, none, none, [], rfl, sD.trans sU, sU _ _ upd_same, rfl, nUD, .inl ⟨[], upd_same, .nil, rfl, ?_⟩⟩ ?_ ?_⟩
    · rw [List.drop_zero]
      cases rdLines 0 ls with
      | bad k z => rfl
      | ok q => rfl
    · rintro i σ H' hi ⟨U, k3, k4, k5, dvs, rfl, sm, eD, dl, nUD, st⟩
      obtain ⟨x, hx⟩ : ∃ x, xs[i]? = some x := ⟨xs[i], by simp [hi]⟩
      obtain ⟨l, hl', hln⟩ := LnAll.get hA hx
      have hdr : ls.drop i = l :: ls.drop (i + 1) := by
        obtain ⟨h1, h2⟩ := List.getElem?_eq_some_iff.mp hl'
        rw [List.drop_eq_getElem_cons h1, h2]
      walk_at "go"
      refine r_ixL (SqL.of (sm _ _ hp)) (by rw [Int.zero_add]; exact atI_nat hx) ?_
      walk_at "go"
      refine ⟨x, l, rfl, hln.same sm, fun H2 q s2 hq => ?_⟩
      have eD2 := s2 _ _ eD
      have smH := sm.trans s2
      rw [hdr, rdLines] at st
      cases er : rdLine l with
      | bad e =>
        rw [er] at st
        dsimp only at st
        intro e2
        refine ⟨q, _, rfl, SqL.of e2, rfl, ?_⟩
        walk_at "go"
        refine ⟨tyL (SqL.of eD2), ?_⟩
        walk_at "go"
        refine ⟨D, _, _, rfl, rfl, eD2, line60 (by rw [dl]; omega), ?_⟩
        have eD3 : (upd H2 D (.lst (dvs ++ [V.non]))) D = some (.lst (dvs ++ [V.non])) := upd_same
        have sm3 : Same H (upd H2 D (.lst (dvs ++ [V.non]))) := same_upd smH hD
        have ld3 : (dvs ++ [V.non]).length = i + 1 := by rw [List.length_append, dl]; rfl
        walk_at "go"
        rcases st with ⟨ds, eU, _, _, rj⟩ | ⟨k0, z0, eU, rj⟩
        · have eU3 : (upd H2 D (.lst (dvs ++ [V.non]))) U = some (.lst []) := by rw [upd_ne nUD]; exact s2 _ _ eU
          revert eD3 sm3 eU3
          generalize upd H2 D (.lst (dvs ++ [V.non])) = H3
          intro eD3 sm3 eU3
          refine ⟨false, tru_lst (SqL.of eU3) rfl, ?_⟩
          walk_at "go"
          refine ⟨(by show 5 ≤ sizeLine; decide), fun V' hV' => ?_⟩
          have s4 := same_new (o := HO.lst [V.str "CarryError", V.str "Malformed", V.str "BadLine", V.int (0 + (i : Int)), vi e]) hV'
          refine ⟨V', _, _, _, _, rfl, sm3.trans s4, s4 _ _ eD3, ld3, (fun q => by rw [q, eD3] at hV'; cases hV'), .inr ⟨i, e, by rw [upd_same, Int.zero_add], rj⟩⟩
        · have eU3 : (upd H2 D (.lst (dvs ++ [V.non]))) U = some (.lst [.str "CarryError", .str "Malformed", .str "BadLine", vi k0, vi z0]) := by rw [upd_ne nUD]; exact s2 _ _ eU
          refine ⟨true, tru_lst (SqL.of eU3) rfl, ?_⟩
          walk_at "go"
          exact ⟨U, _, _, _, _, rfl, sm3, eD3, ld3, nUD, .inr ⟨k0, z0, eU3, rj⟩⟩
      | ok d =>
        rw [er] at st
        dsimp only at st
        intro t e2 d2
        have pd := rdLine_pure er
        refine ⟨q, _, rfl, SqL.of e2, rfl, ?_⟩
        walk_at "go"
        refine ⟨tyL (SqL.of eD2), ?_⟩
        walk_at "go"
        refine ⟨D, _, _, rfl, rfl, eD2, line60 (by rw [dl]; omega), ?_⟩
        have eD3 : (upd H2 D (.lst (dvs ++ [V.ref t]))) D = some (.lst (dvs ++ [V.ref t])) := upd_same
        have sm3 : Same H (upd H2 D (.lst (dvs ++ [V.ref t]))) := same_upd smH hD
        have ld3 : (dvs ++ [V.ref t]).length = i + 1 := by rw [List.length_append, dl]; rfl
        walk_at "go"
        refine ⟨U, _, _, _, _, rfl, sm3, eD3, ld3, nUD, ?_⟩
        rcases st with ⟨ds, eU, da, pa, rj⟩ | ⟨k0, z0, eU, rj⟩
        · refine .inl ⟨ds ++ [d], by rw [upd_ne nUD]; exact s2 _ _ eU, ?_, pureA_ap pa (by simp only [pureA, pd, Bool.and_true]), ?_⟩
          · exact dpA_app (dpA_pure (KT.trans (Same.kt s2) (kt_lst eD2)) _ _ pa da) (.cons (dp_pure (kt_lst eD2) _ _ pd d2) .nil)
          · rw [rj]
            cases rdLines (i + 1) (ls.drop (i + 1)) with
            | bad k z => rfl
            | ok q => simp [List.append_assoc]
        · exact .inr ⟨k0, z0, by rw [upd_ne nUD]; exact s2 _ _ eU, rj⟩
    · rintro σ H' ⟨U, k3, k4, k5, dvs, rfl, sm, eD, dl, nUD, st⟩
      have hp' := sm _ _ hp
      walk_at "go"
      refine ⟨p, xs, rfl, .inl (SqL.of hp'), fun kq hkq => ?_⟩
      have s1 := same_new (o := HO.lst xs) hkq
      walk_at "go"
      refine ⟨.ref p, xs, ls, rfl, ⟨p, rfl, .inl (SqL.of (s1 _ _ hp'))⟩, hA.same (sm.trans s1), hl1000, ?_⟩
      rcases st with ⟨ds, eU, da, pa, rj⟩ | ⟨k0, z0, eU, rj⟩
      · rw [hal, List.drop_length, rdLines] at rj
        dsimp only at rj
        rw [List.append_nil] at rj
        obtain ⟨g1, g2, g3⟩ := rdLines_gd rj
        rw [rj]
        intro H2 q t l s2 h2 hl2 d2
        have s12 := s1.trans s2
        refine ⟨q, _, rfl, SqL.of h2, rfl, ?_⟩
        walk_at "go"
        refine ⟨false, tru_lst (SqL.of (s12 _ _ eU)) rfl, ?_⟩
        walk_at "go"
        refine ⟨(by show 0 ≤ sizeLine; decide), fun e3 he3 => ?_⟩
        have s3 := same_new (o := HO.lst []) he3
        refine ⟨.list [], .list [], .lst (SqL.of (s3 _ _ hl2)) .nil, .lst (SqL.of upd_same) .nil, by decide +kernel, by decide +kernel, ?_⟩
        rw [show PyData.eqv (.list []) (.list []) = true from by decide +kernel]
        walk_at "go"
        have s13 := s12.trans s3
        refine ⟨D, _, rfl, .inl ⟨SqL.of (s13 _ _ eD), fun tq htq => ?_⟩⟩
        have s4 := same_new (o := HO.tup dvs) htq
        have s14 := s13.trans s4
        walk_at "go"
        refine ⟨.ref t, .ref tq, .tuple ds, rfl, dp_keep (Same.keeps (s3.trans s4)) _ _ d2, .tup (SqT.of upd_same) (dpA_pure (Same.kt s14) _ _ pa da), td_deeds (by rw [g1]; exact hl1000) g2 g3, fun H5 s5 => ?_⟩
        walk_at "go"
        exact eq_same (SqL.of ((s14.trans s5) _ _ hp')) (SqL.of ((s2.trans (s3.trans (s4.trans s5))) _ _ upd_same)) hok (k _ (sm.trans (s14.trans s5)))
      · rw [rj]
        intro H2 q l s2 h2 hl2
        have s12 := s1.trans s2
        refine ⟨q, _, rfl, SqL.of h2, rfl, ?_⟩
        walk_at "go"
        refine ⟨true, tru_lst (SqL.of (s12 _ _ eU)) rfl, ?_⟩
        walk_at "go"
        refine ⟨_, _, dE_at hl2, dE_at (s12 _ _ eU), dE_shaped k0 z0, dE_shaped k0 z0, ?_⟩
        rw [dE_eqv k0 z0]
        walk_at "go"
        refine r_ixL (SqL.of hl2) (atI_nat (j := 3) rfl) ?_
        walk_at "go"
        refine r_ixL (SqL.of hl2) (atI_nat (j := 4) rfl) ?_
        walk_at "go"
        exact eq_same (SqL.of (s12 _ _ hp')) (SqL.of (s2 _ _ upd_same)) hok (k _ (sm.trans s12))
end
end K4

/-! N7c -/
/-! Words put together and cut again: how many, how long. -/
namespace K4
open PySem L2 K1 PyProof.Rows
theorem pre32 (c : Nat) (r : List Nat) : TL.pre [32] (c :: r) = decide (c = 32) := by
  unfold TL.pre
  simp only [List.length_cons, List.length_nil, List.take_succ_cons, List.take_zero]
  by_cases h : c = 32
  · subst h; rfl
  · rw [decide_eq_false h]
    simp [h]
theorem spl_app : ∀ (l acc r : List Nat), TL.spl [32] 0 acc (l ++ 32 :: r) = TL.spl [32] 0 acc l ++ TL.spl [32] 0 [] r
  | [], acc, r => by
    rw [List.nil_append, TL.spl_hit (by rw [pre32]; rfl), TL.spl_nil]
    rfl
  | c :: l, acc, r => by
    rw [List.cons_append]
    by_cases h : c = 32
    · rw [TL.spl_hit (by rw [pre32, decide_eq_true h]), TL.spl_hit (by rw [pre32, decide_eq_true h])]
      show acc :: TL.spl [32] 0 [] (l ++ 32 :: r) = _
      rw [spl_app l [] r]
      rfl
    · rw [TL.spl_miss (by rw [pre32, decide_eq_false h]), TL.spl_miss (by rw [pre32, decide_eq_false h]), spl_app l (acc ++ [c]) r]
theorem spl_cnt : ∀ (l acc : List Nat), (TL.spl [32] 0 acc l).length = l.count 32 + 1
  | [], acc => by rw [TL.spl_nil]; rfl
  | c :: l, acc => by
    by_cases h : c = 32
    · rw [TL.spl_hit (by rw [pre32, decide_eq_true h])]
      show (acc :: TL.spl [32] 0 [] l).length = _
      rw [List.length_cons, spl_cnt l [], h, List.count_cons_self]
    · rw [TL.spl_miss (by rw [pre32, decide_eq_false h]), spl_cnt l _, List.count_cons_of_ne h]
theorem spl_joinL : ∀ {ls : List (List Nat)}, ls ≠ [] → TL.spl [32] 0 [] (TL.joinL [32] ls) = (ls.map (TL.spl [32] 0 [])).flatten
  | [], h => absurd rfl h
  | [l], _ => by simp [TL.joinL]
  | l :: m :: ls, _ => by
    show TL.spl [32] 0 [] (l ++ ([32] ++ TL.joinL [32] (m :: ls))) = _
    rw [show l ++ ([32] ++ TL.joinL [32] (m :: ls)) = l ++ 32 :: TL.joinL [32] (m :: ls) from rfl, spl_app, spl_joinL (ls := m :: ls) (by simp)]
    rfl
theorem spl_of (x : Str) : (Txt.split x SP).map tl = TL.spl [32] 0 [] (tl x) := by
  have e := TL.split_spl x SP (show tl SP ≠ [] by rw [tl_SP]; simp) (TL.kind_ok (by decide +kernel))
  have e2 : TL.tl SP = [32] := tl_SP
  rw [e2] at e
  exact e
/-- a text: how long, how many words, how long they are -/
structure TxOk (N S B : Nat) (x : Str) : Prop where
  su : x.length ≤ S
  le : (Txt.split x SP).length ≤ N
  ea : ∀ w ∈ Txt.split x SP, w.length ≤ B
theorem TxOk.mono {N S B N' S' B' : Nat} {x : Str} (h : TxOk N S B x) (a : N ≤ N') (b : S ≤ S') (c : B ≤ B') : TxOk N' S' B' x := ⟨Nat.le_trans h.su b, Nat.le_trans h.le a, fun w hw => Nat.le_trans (h.ea w hw) c⟩
theorem spl_nb : ∀ (l acc : List Nat), 32 ∉ acc → ∀ p ∈ TL.spl [32] 0 acc l, 32 ∉ p
  | [], acc, h, p, hp => by rw [TL.spl_nil] at hp; rw [List.mem_singleton.mp hp]; exact h
  | c :: l, acc, h, p, hp => by
    by_cases hc : c = 32
    · rw [TL.spl_hit (by rw [pre32, decide_eq_true hc])] at hp
      rcases List.mem_cons.mp hp with rfl | hp
      · exact h
      · exact spl_nb l [] (by simp) p hp
    · rw [TL.spl_miss (by rw [pre32, decide_eq_false hc])] at hp
      refine spl_nb l _ (fun q => ?_) p hp
      rcases List.mem_append.mp q with q | q
      · exact h q
      · exact hc (List.mem_singleton.mp q).symm
theorem wsum_join : ∀ (ws : List Str), (tl (Txt.join SP ws)).length ≤ wsum ws := by
  intro ws
  rw [tl_joinL, tl_SP]
  have key : ∀ ws : List Str, (TL.joinL [32] (ws.map tl)).length ≤ wsum ws := by
    intro ws
    induction ws with
    | nil => simp [TL.joinL]
    | cons a l ih =>
      have ea : wsum (a :: l) = a.length + 1 + wsum l := by simp [wsum]
      have e2 := len_tl a
      cases l with
      | nil => simp only [List.map_cons, List.map_nil, TL.joinL]; omega
      | cons b r =>
        have e3 : (TL.joinL [32] ((a :: b :: r).map tl)).length = (tl a).length + (1 + (TL.joinL [32] ((b :: r).map tl)).length) := by
          simp only [List.map_cons, TL.joinL, List.length_append, List.length_cons, List.length_nil]
        rw [e3, ea]
        omega
  exact key ws
/-- words of a text, as they come out of split -/
theorem TxOk.wi {N S B : Nat} {x : Str} (h : TxOk N S B x) : Wi (Txt.split x SP) N (S + 1) B := by
  have ne := split_ne (x := x) (y := SP) (by rw [tl_SP]; simp) (by decide +kernel)
  refine ⟨ne, h.le, h.ea, fun w hw => ?_, ?_⟩
  · have : tl w ∈ TL.spl [32] 0 [] (tl x) := by rw [← spl_of]; exact List.mem_map.mpr ⟨w, hw, rfl⟩
    exact spl_nb _ [] (by simp) _ this
  · have e : wsum (Txt.split x SP) = ((TL.spl [32] 0 [] (tl x)).map fun l => l.length + 1).sum := by
      rw [← spl_of]
      unfold wsum
      rw [List.map_map]
      congr 1
    rw [e]
    have key : ∀ (l acc : List Nat), ((TL.spl [32] 0 acc l).map fun l => l.length + 1).sum = acc.length + l.length + 1 := by
      intro l
      induction l with
      | nil => intro acc; rw [TL.spl_nil]; simp
      | cons c l ih =>
        intro acc
        by_cases hc : c = 32
        · rw [TL.spl_hit (by rw [pre32, decide_eq_true hc])]
          show ((acc :: TL.spl [32] 0 [] l).map fun l => l.length + 1).sum = _
          rw [List.map_cons, List.sum_cons, ih []]
          simp only [List.length_nil, List.length_cons]
          try omega
        · rw [TL.spl_miss (by rw [pre32, decide_eq_false hc]), ih]
          simp only [List.length_append, List.length_cons, List.length_nil]
          omega
    rw [key]
    have := h.su
    rw [len_tl] at this
    simp only [List.length_nil]
    omega
/-- what comes of words that hold a blank at most each -/
theorem Wo.tx {ws : List Str} {N S B : Nat} (h : Wo ws N S B) : TxOk (2 * N) S B (Txt.join SP ws) := by
  have e : (Txt.split (Txt.join SP ws) SP).map tl = ((ws.map tl).map (TL.spl [32] 0 [])).flatten := by
    rw [spl_of, tl_joinL, tl_SP, spl_joinL (by simp [h.ne])]
  refine ⟨?_, ?_, fun w hw => ?_⟩
  · rw [len_tl]; exact Nat.le_trans (wsum_join ws) h.su
  · have el := congrArg List.length e
    rw [List.length_map, List.length_flatten, List.map_map, List.map_map] at el
    rw [el]
    have key : ∀ l : List Str, (∀ x ∈ l, (tl x).count 32 ≤ 1) → (l.map ((List.length ∘ TL.spl [32] 0 []) ∘ tl)).sum ≤ 2 * l.length := by
      intro l
      induction l with
      | nil => intro _; simp
      | cons a l ih =>
        intro hl
        have h1 := ih fun x hx => hl x (List.mem_cons_of_mem _ hx)
        have h2 := hl a (List.mem_cons_self ..)
        have h3 := spl_cnt (tl a) []
        rw [List.map_cons, List.sum_cons, List.length_cons]
        show (TL.spl [32] 0 [] (tl a)).length + _ ≤ _
        omega
    have := key ws h.nb
    have := h.le
    omega
  · have : tl w ∈ ((ws.map tl).map (TL.spl [32] 0 [])).flatten := by rw [← e]; exact List.mem_map.mpr ⟨w, hw, rfl⟩
    obtain ⟨l, hl, hw2⟩ := List.mem_flatten.mp this
    obtain ⟨m, hm, rfl⟩ := List.mem_map.mp hl
    obtain ⟨z, hz, rfl⟩ := List.mem_map.mp hm
    have a := (spl_len (S := [32]) 0 [] (tl z)).2 _ hw2
    have b := h.ea z hz
    rw [len_tl] at b ⊢
    simp only [List.length_nil, Nat.zero_add] at a
    omega
theorem Deed.tx {d : Deed} (h : d.ok) : TxOk 165 413000 2500 d.text := by
  refine ⟨Nat.le_trans (Deed.text_len h) (by decide), ?_, ?_⟩
  · rw [Deed.split h]; exact Deed.words_len h
  · intro w hw
    rw [Deed.split h] at hw
    rw [len_tl]
    exact (Deed.words_ok h w hw).2
end K4

/-! L7s -/


namespace K4
open PySem L2 K1
abbrev sLSpLines : Stmt := top 110
abbrev nLSpLines : List Str := ["_law_bag", "_law_lines", "_law_names", "_law_way", "_law_at", "_law_odd", "_law_more"]
theorem scLSpLines : FnScope nLSpLines ["_law_bag", "_law_lines", "_law_names"] (defScope sLSpLines) := ⟨rfl, rfl, rfl, by decide +kernel, rfl, by decide +kernel, by decide +kernel⟩
def spOneOfT (K : PySem.W.Frag) : Sp := fun vs H Q _ => ∃ (b l : Addr) (items : List V) (n : Nat), vs = [.ref b, .ref l] ∧ IsBag H b n ∧ n ≤ 2 ^ 40 ∧ SqT K H l items ∧ H l = some (.tup items) ∧ items ≠ [] ∧ items.length ≤ 1000 ∧
  ∀ x H', x ∈ items → IsBag H' b (n + 1) → Off b H H' → Q x H'
/-- no text, whatever becomes of the bag -/
def NoStrB (K : PySem.W.Frag) (b : Addr) (H : Hp) (y : V) : Prop := ∃ t, (∀ H', Kp b H H' → TyX K H' y t) ∧ PySem.W.kitOne K t (.type "str") = some false
def LnP (N S B : Nat) (K : PySem.W.Frag) (b : Addr) (H : Hp) (v : V) : Prop := (∃ x, v = .str x ∧ TxOk N S B x) ∨ (NoStrB K b H v ∧ OkV v)
theorem NoStrB.kp {K : PySem.W.Frag} {b : Addr} {H H' : Hp} {y : V} (h : NoStrB K b H y) (k : Kp b H H') : NoStrB K b H' y := by
  obtain ⟨t, a, c⟩ := h
  exact ⟨t, fun H2 k2 => a H2 (k.trans k2), c⟩
theorem LnP.kp {N S B N' S' B' : Nat} {K : PySem.W.Frag} {b : Addr} {H H' : Hp} {v : V} (h : LnP N S B K b H v) (k : Kp b H H') (a : N ≤ N') (c : S ≤ S') (d : B ≤ B') : LnP N' S' B' K b H' v := by
  rcases h with ⟨x, rfl, t⟩ | ⟨t, o⟩
  · exact .inl ⟨x, rfl, t.mono a c d⟩
  · exact .inr ⟨t.kp k, o⟩
theorem LnP.ok {N S B : Nat} {K : PySem.W.Frag} {b : Addr} {H : Hp} {v : V} (h : LnP N S B K b H v) : OkV v := by
  rcases h with ⟨x, rfl, _⟩ | ⟨_, o⟩
  · exact .inl rfl
  · exact o
theorem LnP.all {N S B : Nat} {K : PySem.W.Frag} {b : Addr} {H : Hp} (hS : S ≤ 500000) : ∀ {xs : List V}, (∀ v ∈ xs, LnP N S B K b H v) → ∃ ls, LnAll K H xs ls ∧ ls.length = xs.length
  | [], _ => ⟨[], trivial, rfl⟩
  | v :: xs, h => by
    obtain ⟨ls, a, l⟩ := LnP.all hS (xs := xs) fun y hy => h y (List.mem_cons_of_mem _ hy)
    rcases h v (List.mem_cons_self ..) with ⟨x, rfl, t⟩ | ⟨⟨t, o, e⟩, _⟩
    · exact ⟨some x :: ls, ⟨⟨rfl, Nat.le_trans t.su hS⟩, a⟩, by rw [List.length_cons, List.length_cons, l]⟩
    · exact ⟨none :: ls, ⟨⟨t, fun H' s => o H' (Same.kp s), e⟩, a⟩, by rw [List.length_cons, List.length_cons, l]⟩
def spSpLines (K : PySem.W.Frag) : Sp := fun vs H Q _ => ∃ (b p L : Addr) (xs : List V) (ns : List Str) (n N S B : Nat), vs = [.ref b, .ref p, .ref L] ∧ IsBag H b n ∧ n ≤ 2 ^ 37 ∧ H p = some (.lst xs) ∧ p ≠ b ∧ xs ≠ [] ∧ xs.length ≤ 100 ∧ (∀ v ∈ xs, LnP N S B K b H v) ∧
  H L = some (.lst (ns.map V.str)) ∧ ns.length ≤ 100 ∧ (∀ x ∈ ns, isNm x = true) ∧ N ≤ 399 ∧ 70 ≤ B ∧ B ≤ 3000 ∧ S ≤ 490000 ∧
  ∀ H' q ys, H' q = some (.lst ys) → q ≠ b → ys.length ≤ xs.length + 1 → (∀ v ∈ ys, LnP (2 * (N + 1)) (S + 1 + 2 * (B + 2)) (B + 1) K b H' v) → IsBag H' b (n + 2000) → Kp b H H' → Q (.ref q) H'
theorem cat_twoF {H : Hp} {Q : VK} {p0 p1 : Addr} {xs ys : List V} (e : H p0 = some (.lst xs)) (e1 : H p1 = some (.lst ys)) (l : xs.length + ys.length ≤ 1000) (q : ∀ H' p, H p = none → Same H H' → H' p = some (.lst (xs ++ ys)) → Q (.ref p) H') : rCat (.ref p0) (.ref p1) H Q :=
  ⟨p0, p1, xs, ys, rfl, rfl, e, e1, Nat.le_of_lt (line_small l), fun r hr => q _ r hr (same_new hr) upd_same⟩
theorem sl_newF {K : PySem.W.Frag} {H : Hp} {Q : VK} {p0 : Addr} {xs : List V} {lo hi : Option Int} (e : H p0 = some (.lst xs)) (q : ∀ H' p, H p = none → Same H H' → H' p = some (.lst (cutV xs lo hi)) → Q (.ref p) H') : rSlL K (.ref p0) lo hi H Q :=
  r_slL (SqL.of e) fun p hp => q _ p hp (same_new hp) upd_same
theorem odd_tx {x : Str} (h : x ∈ (["", " ", "day ", " day", "days", "Day", "edition", "use a"] : List Str)) : TxOk 2 10 9 x := by
  simp only [List.mem_cons, List.not_mem_nil, or_false] at h
  rcases h with rfl | rfl | rfl | rfl | rfl | rfl | rfl | rfl <;> exact ⟨by decide +kernel, by decide +kernel, by decide +kernel⟩
def moreWords : List Str := ["issue", "block", "use", "void", "again", "day", "edition", "zzzzzzzz", "zzzzzzzzz", "20", "21", "-", repS "A" 60, repS "0" 61]
theorem moreOk : ∀ x ∈ moreWords, x.length ≤ 70 ∧ 32 ∉ tl x := by
  have h : (moreWords.all fun x => decide (x.length ≤ 70) && !(tl x).contains 32) = true := by decide +kernel
  intro x hx
  have := List.all_eq_true.mp h x hx
  rw [Bool.and_eq_true, decide_eq_true_iff] at this
  refine ⟨this.1, fun q => ?_⟩
  have c1 := List.contains_iff_mem.mpr q
  rw [c1] at this
  exact absurd this.2 (by decide)
section
variable {P : Program} {w : World} {K : PySem.W.Frag} {mg : Str → Option Value} {base : Heap}
theorem ok_oneOfT {f : Addr} {fd : FuncData} (F : Fun K "_law_one_of" "_law_one_of" sOneOf f fd) (B : Bl mg) (Op : OPick P w K mg base) : FnOk P w K mg base CX0 2 f fd ["_law_bag", "_law_row"] (spOneOfT K) := by
  refine F.ok scOneOf (fun vs H Q E h => ?_) (fun cdv A outer s H vs Q E hr h => ?_)
  · obtain ⟨b, r, items, n, rfl, _⟩ := h
    rfl
  · obtain ⟨b, l, items, n, rfl, hb, hn, hT, eT, hne, hl, k⟩ := h
    refine ⟨_, pss_one (ps_ret (pe_ix ix_seq (pv 1) (pe_own Op hr (pa_cons (pv 0) (pa_cons (pe_callB call_len (by rfl) B.len PySem.boot_len (pa_cons (pv 1) pa_nil)) pa_nil))) (fun _ _ => rfl))), ?_⟩
    try dsimp only [cxOf, Cx.nox, Cx.wish]
    walk_at "go"
    refine ⟨_, _, rfl, lenT hT, ?_⟩
    walk_at "go"
    have hpos : 0 < items.length := List.length_pos_iff.mpr hne
    refine ⟨_, _, n, rfl, hb, hn, by omega, fun r' H' r0 r1 hb' off => ?_⟩
    obtain ⟨x, ex, hx, _⟩ := at_nat' (xs := items) r0 (by omega)
    have nlb : l ≠ b := fun q => by
      obtain ⟨_, _, _, e, _⟩ := hb
      rw [q, e] at eT; cases eT
    exact .inr (.inl (r_ixT (SqT.of (off.at nlb eT)) ex (k x H' hx hb' off)))
abbrev OOneOfT (P : Program) (w : World) (K : PySem.W.Frag) (mg : Str → Option Value) (base : Heap) : Prop := Own P w K mg base "_law_one_of" 2 ["_law_bag", "_law_row"] (spOneOfT K)
abbrev OMixedL (P : Program) (w : World) (K : PySem.W.Frag) (mg : Str → Option Value) (base : Heap) : Prop := Own P w K mg base "_law_mixed" 2 ["_law_bag", "_law_row"] spMixedL
abbrev OSpoilt (P : Program) (w : World) (K : PySem.W.Frag) (mg : Str → Option Value) (base : Heap) : Prop := Own P w K mg base "_law_spoilt_of" 4 ["_law_bag", "_law_words", "_law_more"] spSpoilt
theorem ok_spLines {f : Addr} {fd : FuncData} (F : Fun K "_law_spoilt_lines" "_law_spoilt_lines" sLSpLines f fd) (B : Bl mg) (Op : OPick P w K mg base) (Oo : OOneOf P w K mg base) (Oot : OOneOfT P w K mg base) (Omx : OMixedL P w K mg base) (Osp : OSpoilt P w K mg base) :
    FnOk P w K mg base CX0 5 f fd ["_law_bag", "_law_lines", "_law_names"] (spSpLines K) := by
  refine F.ok scLSpLines (fun vs H Q E h => ?_) (fun cdv A outer s H vs Q E hr h => ?_)
  · obtain ⟨b, p, L, xs, ns, n, N, S, B, rfl, _⟩ := h
    rfl
  · obtain ⟨b, p, L, xs, ns, n, N, S, Bd, rfl, hb, hn, eP, npb, xne, xl, hx, eL, nl, hnm, hN, hB1, hB2, hS, k⟩ := h
    have nLb : L ≠ b := ne_bagS hb eL
    have xp : 0 < xs.length := List.length_pos_iff.mpr xne
    refine ⟨_, (pss_cons (ps_set (i := 3) scLSpLines.nd rfl (Or.inl rfl) (pe_own Op (hr.mono (by omega)) (pa_cons (pv 0) (pa_cons pe_int pa_nil)))) (pss_cons (ps_set (i := 4) scLSpLines.nd rfl (Or.inl rfl) (pe_own Op (hr.mono (by omega)) (pa_cons (pv 0) (pa_cons (pe_callB call_len (by rfl) B.len PySem.boot_len (pa_cons (pv 1) pa_nil)) pa_nil)))) (pss_cons (ps_if (pt_cmpR op_eq (pv 3) pe_int (nomark _)) (pss_one (ps_ret (pe_op op_cat (pe_slice sl_list (pv 1) po_none (po_some (pv 4))) (pe_slice sl_list (pv 1) (po_some (pe_op op_add (pv 4) pe_int)) po_none)))) pss_nil) (pss_cons (ps_if (pt_cmpR op_eq (pv 3) pe_int (nomark _)) (pss_one (ps_ret (pe_op op_cat (pe_op op_cat (pe_slice sl_list (pv 1) po_none (po_some (pv 4))) (pe_lst (pa_cons (pe_own Oo (hr.mono (by omega)) (pa_cons (pv 0) (pa_cons (pv 1) pa_nil))) pa_nil))) (pe_slice sl_list (pv 1) (po_some (pv 4)) po_none)))) pss_nil) (pss_cons (ps_if (pt_cmpR op_eq (pv 3) pe_int (nomark _)) (pss_one (ps_ret (pe_own Omx (hr.mono (by omega)) (pa_cons (pv 0) (pa_cons (pv 1) pa_nil))))) pss_nil) (pss_cons (ps_if (pt_cmpR op_eq (pv 3) pe_int (nomark _)) (pss_cons (ps_set (i := 5) scLSpLines.nd rfl (Or.inl rfl) (pe_own Oot (hr.mono (by omega)) (pa_cons (pv 0) (pa_cons (pe_tup (pa_cons pe_non (pa_cons pe_int (pa_cons pe_bl (pa_cons (pe_tup (pa_cons pe_str pa_nil)) (pa_cons (pe_lst (pa_cons pe_str pa_nil)) (pa_cons pe_str (pa_cons pe_str (pa_cons pe_str (pa_cons pe_str (pa_cons pe_str (pa_cons pe_str (pa_cons pe_str (pa_cons pe_str pa_nil)))))))))))))) pa_nil)))) (pss_one (ps_ret (pe_op op_cat (pe_op op_cat (pe_slice sl_list (pv 1) po_none (po_some (pv 4))) (pe_lst (pa_cons (pv 5) pa_nil))) (pe_slice sl_list (pv 1) (po_some (pe_op op_add (pv 4) (pe_ifExp (pt_cmpR op_eq (pe_own Op (hr.mono (by omega)) (pa_cons (pv 0) (pa_cons pe_int pa_nil))) pe_int (nomark _)) pe_int pe_int))) po_none))))) pss_nil) (pss_cons (ps_if (pt_not (pt_val (pe_callB (id := "isinstance") (r := rIsi K) call_isi (by rfl) B.isin (by decide +kernel) (pa_cons (pe_ix ix_list (pv 1) (pv 4) (fun _ _ => rfl)) (pa_cons (pe_bltn (v := .ty "str") (by rfl) B.str (by decide +kernel) rfl) pa_nil))))) (pss_one (ps_ret (pv 1))) pss_nil) (pss_cons (ps_set (i := 6) scLSpLines.nd rfl (Or.inl rfl) (pe_op op_cat (pe_callTy call_list_of (by rfl) B.list (by decide +kernel) (pa_cons (pv 2) pa_nil)) (pe_lst (pa_cons pe_str (pa_cons pe_str (pa_cons pe_str (pa_cons pe_str (pa_cons pe_str (pa_cons pe_str (pa_cons pe_str (pa_cons pe_str (pa_cons pe_str (pa_cons pe_str (pa_cons pe_str (pa_cons pe_str pa_nil))))))))))))))) (pss_one (ps_ret (pe_op op_cat (pe_op op_cat (pe_slice sl_list (pv 1) po_none (po_some (pv 4))) (pe_lst (pa_cons (pe_m1 PySem.F.slot_str_join PySem.F.type_str_join mt_join pe_str (pe_own Osp (hr.mono (by omega)) (pa_cons (pv 0) (pa_cons (pe_m1 PySem.F.slot_str_split PySem.F.type_str_split mt_split (pe_ix ix_list (pv 1) (pv 4) (fun _ _ => rfl)) pe_str) (pa_cons (pe_op op_cat (pv 6) (pe_lst (pa_cons (pe_op op_mul_str pe_str pe_int) (pa_cons (pe_op op_mul_str pe_str pe_int) pa_nil)))) pa_nil))))) pa_nil))) (pe_slice sl_list (pv 1) (po_some (pe_op op_add (pv 4) pe_int)) po_none)))))))))))), ?_⟩
    try dsimp only [cxOf, Cx.nox, Cx.wish]
    have up : ∀ {H' : Hp} {v : V}, Kp b H H' → v ∈ xs → LnP (2 * (N + 1)) (S + 1 + 2 * (Bd + 2)) (Bd + 1) K b H' v := fun kk hv => (hx _ hv).kp kk (by omega) (by omega) (by omega)
    walk_at "go"
    refine ⟨_, _, n, rfl, hb, by omega, by decide, fun way H1 w0 w1 hb1 of1 => ?_⟩
    have w10 : way < 10 := by omega
    walk_at "go"
    refine ⟨_, _, rfl, lenL (SqL.of (of1.at npb eP)), ?_⟩
    walk_at "go"
    refine ⟨_, _, n + 1, rfl, hb1, by omega, by omega, fun at_ H2 a0 a1 hb2 of2 => ?_⟩
    obtain ⟨i, rfl⟩ : ∃ i : Nat, at_ = (i : Int) := ⟨at_.toNat, by omega⟩
    have il : i < xs.length := by omega
    have k2 : Kp b H H2 := of1.kp.trans of2.kp
    have eP2 : H2 p = some (.lst xs) := of2.at npb (of1.at npb eP)
    have e1 : ((i : Int) + 1) = ((i + 1 : Nat) : Int) := by omega
    have cT : cutV xs none (some (i : Int)) = xs.take i := by rw [cutV_take (by omega)]; rfl
    have cF : cutV xs (some ((i : Int) + 1)) none = xs.drop (i + 1) := by rw [e1, cutV_from]
    have cF0 : cutV xs (some (i : Int)) none = xs.drop i := cutV_from i
    have lT : ∀ j, (xs.take j).length ≤ xs.length := fun j => by rw [List.length_take]; omega
    have lF : ∀ j, (xs.drop j).length ≤ xs.length := fun j => by rw [List.length_drop]; omega
    have eli : atI xs (i : Int) = some xs[i] := atI_nat (by simp [il])
    walk_at "go"
    refine r_ite (fun h => ?_) (fun h0 => ?_)
    · walk_at "go"
      refine sl_new eP2 (fun H3 l1 s3 x1 => ?_)
      rw [cT] at x1
      walk_at "go"
      refine sl_new (s3 _ _ eP2) (fun H4 l2 s4 x2 => ?_)
      rw [cF] at x2
      refine cat_twoF (s4 _ _ x1) x2 ?_ (fun H5 l5 f5 s5 x5 => ?_)
      · have := lT i; have := lF (i + 1); omega
      have s25 := s3.trans (s4.trans s5)
      have k5 : Kp b H H5 := k2.trans (Same.kp s25)
      refine k H5 l5 _ x5 ((hb2.same (s3.trans s4)).ne f5) ?_ (fun v hv => ?_) ((hb2.mono (by omega)).same s25) k5
      · rw [List.length_append, List.length_take, List.length_drop]; omega
      · rcases List.mem_append.mp hv with q | q
        · exact up k5 (List.mem_of_mem_take q)
        · exact up k5 (List.mem_of_mem_drop q)
    walk_at "go"
    refine r_ite (fun h => ?_) (fun h1 => ?_)
    · walk_at "go"
      refine sl_newF eP2 (fun H3 l1 f1 s3 x1 => ?_)
      rw [cT] at x1
      walk_at "go"
      have hb3 := hb2.same s3
      have l1b : l1 ≠ b := hb2.ne f1
      refine ⟨b, _, xs, n + 2, rfl, hb3, by omega, .inr ⟨p, rfl, SqL.of (s3 _ _ eP2), npb, by omega⟩, xne, fun y H4 hy hb4 of4 => ?_⟩
      walk_at "go"
      refine ⟨(by show 1 ≤ sizeLine; decide), fun p0 h0 => ?_⟩
      have s45 := same_new (o := HO.lst [y]) h0
      have eP4 : H4 p = some (.lst xs) := of4.at npb (s3 _ _ eP2)
      refine cat_two (s45 _ _ (of4.at l1b x1)) upd_same ?_ (fun H5 l5 s5 x5 => ?_)
      · have := lT i
        simp only [List.length_cons, List.length_nil]; omega
      have s46 := s45.trans s5
      walk_at "go"
      refine sl_new (s46 _ _ eP4) (fun H6 l6 s6 x6 => ?_)
      rw [cF0] at x6
      refine cat_twoF (s6 _ _ x5) x6 ?_ (fun H7 l7 f7 s7 x7 => ?_)
      · have := lT i; have := lF i
        simp only [List.length_append, List.length_cons, List.length_nil] at *; omega
      have s47 := s46.trans (s6.trans s7)
      have k7 : Kp b H H7 := k2.trans ((Same.kp s3).trans (of4.kp.trans (Same.kp s47)))
      refine k H7 l7 _ x7 ((hb4.same (s46.trans s6)).ne f7) ?_ (fun v hv => ?_) ((hb4.mono (by omega)).same s47) k7
      · simp only [List.length_append, List.length_take, List.length_drop, List.length_cons, List.length_nil]; omega
      · rcases List.mem_append.mp hv with q | q
        · rcases List.mem_append.mp q with q | q
          · exact up k7 (List.mem_of_mem_take q)
          · rw [List.mem_singleton.mp q]; exact up k7 hy
        · exact up k7 (List.mem_of_mem_drop q)
    walk_at "go"
    refine r_ite (fun h => ?_) (fun h2 => ?_)
    · walk_at "go"
      refine ⟨b, p, xs, n + 2, rfl, hb2, by omega, eP2, npb, by omega, fun ys H3 q pm hb3 k3 fq eq nq => ?_⟩
      have kk := k2.trans k3
      exact k H3 q ys eq nq (by rw [pm.length_eq]; omega) (fun v hv => up kk (pm.mem_iff.mp hv)) (hb3.mono (by omega)) kk
    walk_at "go"
    refine r_ite (fun h => ?_) (fun h3 => ?_)
    · walk_at "go"
      refine ⟨(by show 1 ≤ sizeLine; decide), fun t4 h4 => ?_⟩
      have n4b := hb2.ne h4
      have s4 := same_new (o := HO.tup [V.str "day"]) h4
      walk_at "go"
      refine ⟨(by show 1 ≤ sizeLine; decide), fun t5 h5 => ?_⟩
      have n5b := (hb2.same s4).ne h5
      have s5 := same_new (o := HO.lst [V.str "day"]) h5
      walk_at "go"
      refine ⟨(by show 13 ≤ sizeLine; decide), fun tu hu => ?_⟩
      have s6 := same_new (o := HO.tup [V.non, V.int 0, V.bl true, V.ref t4, V.ref t5, V.str "", V.str " ", V.str "day ", V.str " day", V.str "days", V.str "Day", V.str "edition", V.str "use a"]) hu
      have x4 := s6 _ _ (s5 _ _ (upd_same (a := t4) (o := HO.tup [V.str "day"]) (H := H2)))
      have x5 := s6 _ _ (upd_same (a := t5) (o := HO.lst [V.str "day"]))
      have xu := upd_same (a := tu) (o := HO.tup [V.non, V.int 0, V.bl true, V.ref t4, V.ref t5, V.str "", V.str " ", V.str "day ", V.str " day", V.str "days", V.str "Day", V.str "edition", V.str "use a"]) (H := upd (upd H2 t4 (.tup [.str "day"])) t5 (.lst [.str "day"]))
      have s26 : Same H2 _ := s4.trans (s5.trans s6)
      revert s26 x4 x5 xu
      generalize upd (upd (upd H2 t4 (.tup [.str "day"])) t5 (.lst [.str "day"])) tu _ = H3
      intro x4 x5 xu s26
      clear s4 s5 s6
      walk_at "go"
      refine ⟨b, tu, _, n + 2, rfl, hb2.same s26, by omega, SqT.of xu, xu, by simp, by simp, fun y H4 hy hb4 of4 => ?_⟩
      have k4 : Kp b H H4 := k2.trans ((Same.kp s26).trans of4.kp)
      have eP4 : H4 p = some (.lst xs) := of4.at npb (s26 _ _ eP2)
      have y4 := of4.at n4b x4
      have y5 := of4.at n5b x5
      have hyP : LnP (2 * (N + 1)) (S + 1 + 2 * (Bd + 2)) (Bd + 1) K b H4 y := by
        have tx : ∀ z : Str, z ∈ (["", " ", "day ", " day", "days", "Day", "edition", "use a"] : List Str) → LnP (2 * (N + 1)) (S + 1 + 2 * (Bd + 2)) (Bd + 1) K b H4 (.str z) := fun z hz => .inl ⟨z, rfl, (odd_tx hz).mono (by omega) (by omega) (by omega)⟩
        simp only [List.mem_cons, List.not_mem_nil, or_false] at hy
        rcases hy with rfl | rfl | rfl | rfl | rfl | rfl | rfl | rfl | rfl | rfl | rfl | rfl | rfl
        · exact .inr ⟨⟨.type "NoneType", fun _ _ => .base .non, kit_ty (by decide +kernel)⟩, .inl rfl⟩
        · exact .inr ⟨⟨.type "int", fun _ _ => .base (.int _), kit_ty (by decide +kernel)⟩, .inl rfl⟩
        · exact .inr ⟨⟨.type "bool", fun _ _ => .base (.bl _), kit_ty (by decide +kernel)⟩, .inl rfl⟩
        · exact .inr ⟨⟨.type "tuple", fun _ kk => .base (.tup (kk _ _ n4b y4)), kit_ty (by decide +kernel)⟩, .inr ⟨_, rfl⟩⟩
        · exact .inr ⟨⟨.type "list", fun _ kk => .base (.lst (kk _ _ n5b y5)), kit_ty (by decide +kernel)⟩, .inr ⟨_, rfl⟩⟩
        · exact tx _ (by simp)
        · exact tx _ (by simp)
        · exact tx _ (by simp)
        · exact tx _ (by simp)
        · exact tx _ (by simp)
        · exact tx _ (by simp)
        · exact tx _ (by simp)
        · exact tx _ (by simp)
      walk_at "go"
      refine sl_newF eP4 (fun H5 l1 f1 s5 x1 => ?_)
      rw [cT] at x1
      walk_at "go"
      have hb5 := hb4.same s5
      refine ⟨(by show 1 ≤ sizeLine; decide), fun p0 h0 => ?_⟩
      have s7 := same_new (o := HO.lst [y]) h0
      refine cat_twoF (s7 _ _ x1) upd_same ?_ (fun H6 l2 f2 s8 x2 => ?_)
      · have := lT i
        simp only [List.length_cons, List.length_nil]; omega
      have s46 := s5.trans (s7.trans s8)
      have l2b : l2 ≠ b := (hb5.same s7).ne f2
      walk_at "go"
      refine ⟨b, 2, n + 3, rfl, hb4.same s46, by omega, by decide, fun r H7 r0 r1 hb7 of7 => ?_⟩
      have eP7 : H7 p = some (.lst xs) := of7.at npb (s46 _ _ eP4)
      have x7 := of7.at l2b x2
      have k7 : Kp b H H7 := k4.trans ((Same.kp s46).trans of7.kp)
      have fin : ∀ j : Nat, j ≤ 1 → rSlL K (.ref p) (some ((i : Int) + (j : Int))) none H7 (fun y2 H8 => rCat (.ref l2) y2 H8 Q) := fun j hj => by
        have ej : cutV xs (some ((i : Int) + (j : Int))) none = xs.drop (i + j) := by
          rw [show (i : Int) + (j : Int) = ((i + j : Nat) : Int) by omega, cutV_from]
        refine sl_new eP7 (fun H8 l3 s9 x3 => ?_)
        rw [ej] at x3
        refine cat_twoF (s9 _ _ x7) x3 ?_ (fun H9 l4 f4 s10 x9 => ?_)
        · have := lT i; have := lF (i + j)
          simp only [List.length_append, List.length_cons, List.length_nil] at *; omega
        have s79 := s9.trans s10
        have k9 : Kp b H H9 := k7.trans (Same.kp s79)
        have k49 : Kp b H4 H9 := (Same.kp s46).trans (of7.kp.trans (Same.kp s79))
        refine k H9 l4 _ x9 ((hb7.same s9).ne f4) ?_ (fun v hv => ?_) ((hb7.mono (by omega)).same s79) k9
        · simp only [List.length_append, List.length_take, List.length_drop, List.length_cons, List.length_nil]; omega
        · rcases List.mem_append.mp hv with q | q
          · rcases List.mem_append.mp q with q | q
            · exact up k9 (List.mem_of_mem_take q)
            · rw [List.mem_singleton.mp q]; exact hyP.kp k49 (Nat.le_refl _) (Nat.le_refl _) (Nat.le_refl _)
          · exact up k9 (List.mem_of_mem_drop q)
      walk_at "go"
      refine r_ite (fun hh => ?_) (fun hh => ?_)
      · walk_at "go"
        exact fin 1 (Nat.le_refl _)
      · walk_at "go"
        exact fin 0 (by decide)
    walk_at "go"
    refine r_ixL (SqL.of eP2) eli ?_
    walk_at "go"
    rcases hx xs[i] (List.getElem_mem il) with ⟨tx, etx, htx⟩ | ⟨⟨ty, hty, hkit⟩, _⟩
    · rw [etx] at eli
      rw [etx]
      refine r_isi (b := true) (.ty "str") (.base (.str _)) (kit_ty (by decide +kernel)) ?_
      have eL2 : H2 L = some (.lst (ns.map V.str)) := of2.at nLb (of1.at nLb eL)
      walk_at "go"
      refine ⟨L, _, rfl, .inl (SqL.of eL2), fun q1 hq1 => ?_⟩
      have s3 := same_new (o := HO.lst (ns.map V.str)) hq1
      walk_at "go"
      refine cat_new upd_same ?_ (fun H4 m1 s4 x4 => ?_)
      · simp only [List.length_cons, List.length_nil, List.length_map]; omega
      have s24 := s3.trans s4
      have eP4 := s24 _ _ eP2
      clear s3 s4
      walk_at "go"
      refine sl_newF eP4 (fun H5 l1 f1 s5 x1 => ?_)
      rw [cT] at x1
      have hb5 := hb2.same (s24.trans s5)
      have l1b : l1 ≠ b := (hb2.same s24).ne f1
      walk_at "go"
      refine r_ixL (SqL.of (s5 _ _ eP4)) eli ?_
      walk_at "go"
      have hsu := htx.su
      refine ⟨_, _, rfl, rfl, by decide +kernel, (by rw [sizeLine_eq]; omega), fun W hW => ?_⟩
      have s6 := same_new (o := HO.lst ((Txt.split tx " ").map V.str)) hW
      walk_at "go"
      refine ⟨"A", 60, rfl, rfl, by decide, by decide, by decide +kernel, by decide +kernel, ?_⟩
      walk_at "go"
      refine ⟨"0", 61, rfl, rfl, by decide, by decide, by decide +kernel, by decide +kernel, ?_⟩
      walk_at "go"
      refine cat_new (s6 _ _ (s5 _ _ x4)) ?_ (fun H7 M s7 x7 => ?_)
      · simp only [List.length_append, List.length_cons, List.length_nil, List.length_map]; omega
      have s57 := s5.trans (s6.trans s7)
      have eW := s7 _ _ (upd_same (a := W) (o := HO.lst ((Txt.split tx " ").map V.str)) (H := H5))
      have x1' := s7 _ _ (s6 _ _ x1)
      have eP7 := s57 _ _ eP4
      have hb7 := hb2.same (s24.trans s57)
      have k7 : Kp b H H7 := k2.trans (Same.kp (s24.trans s57))
      obtain ⟨ms, hms, msl, mso⟩ : ∃ ms : List Str, H7 M = some (.lst (ms.map V.str)) ∧ ms.length ≤ 1000 ∧ ∀ x ∈ ms, x.length ≤ 70 ∧ 32 ∉ tl x := by
        refine ⟨ns ++ moreWords, ?_, ?_, fun x hx => ?_⟩
        · rw [x7, List.map_append, List.append_assoc]; rfl
        · rw [List.length_append]
          have : moreWords.length = 14 := rfl
          omega
        · rcases List.mem_append.mp hx with q | q
          · obtain ⟨a, c, d, _⟩ := nm_text (hnm x q)
            exact ⟨by omega, fun e => by have := az_ge 32 (d 32 e); omega⟩
          · exact moreOk x q
      clear x7 s6 s7 x4
      walk_at "go"
      refine ⟨b, W, M, Txt.split tx SP, ms, n + 2, N, S + 1, Bd, rfl, hb7, by omega, eW, hms, msl, mso, htx.wi, by omega, hB1, hB2, fun ws' q' H8 wo hb8 k8 e8 => ?_⟩
      have k78 : Kp b H H8 := k7.trans k8
      have hlsp : (" " : Str).length = 1 := by rw [len_tl, tl_SP]; rfl
      have wos := wo.su
      have esum : (ws'.map (·.length)).sum + ws'.length = wsum ws' := by
        clear wos wo e8
        induction ws' with
        | nil => rfl
        | cons a l ih =>
          simp only [List.map_cons, List.sum_cons, List.length_cons, wsum] at ih ⊢
          omega
      refine ⟨_, q', ws', rfl, rfl, .inl (SqL.of e8), ?_, ?_⟩
      · rw [hlsp, Nat.mul_one, esum]; omega
      walk_at "go"
      refine ⟨(by show 1 ≤ sizeLine; decide), fun p3 h3 => ?_⟩
      have s9 := same_new (o := HO.lst [V.str (Txt.join " " ws')]) h3
      refine cat_two (s9 _ _ (k8 _ _ l1b x1')) upd_same ?_ (fun H9 l9 s10 x9 => ?_)
      · have := lT i
        simp only [List.length_cons, List.length_nil]; omega
      have s89 := s9.trans s10
      walk_at "go"
      refine sl_new (s89 _ _ (k8 _ _ npb eP7)) (fun H10 l10 s11 x10 => ?_)
      rw [cF] at x10
      refine cat_twoF (s11 _ _ x9) x10 ?_ (fun H11 l11 f11 s12 x11 => ?_)
      · have := lT i; have := lF (i + 1)
        simp only [List.length_append, List.length_cons, List.length_nil] at *; omega
      have sE := s89.trans (s11.trans s12)
      have kE : Kp b H H11 := k78.trans (Same.kp sE)
      refine k H11 l11 _ x11 ((hb8.same (s89.trans s11)).ne f11) ?_ (fun v hv => ?_) ((hb8.mono (by omega)).same sE) kE
      · simp only [List.length_append, List.length_take, List.length_drop, List.length_cons, List.length_nil]; omega
      · rcases List.mem_append.mp hv with q | q
        · rcases List.mem_append.mp q with q | q
          · exact up kE (List.mem_of_mem_take q)
          · rw [List.mem_singleton.mp q]
            exact .inl ⟨_, rfl, wo.tx⟩
        · exact up kE (List.mem_of_mem_drop q)
    · refine r_isi (b := false) (.ty "str") (hty _ k2) hkit ?_
      walk_at "go"
      exact k H2 p xs eP2 npb (by omega) (fun v hv => up k2 hv) (hb2.mono (by omega)) k2
end
end K4

/-! L7a -/


namespace K4
open PySem L2 K1
abbrev sLListed : Stmt := top 82
abbrev nLListed : List Str := ["_law_thing", "_law_part"]
theorem scLListed : FnScope nLListed ["_law_thing"] (defScope sLListed) := ⟨rfl, rfl, rfl, by decide +kernel, rfl, by decide +kernel, by decide +kernel⟩
def spListed (K : PySem.W.Frag) (n : Nat) : Sp := fun vs H Q _ => ∃ (v : V) (d : PyData), vs = [v] ∧ Dp K H v d ∧ pure d = true ∧ wide d = true ∧ d.depth < n ∧ ∀ H' v', Same H H' → Dp K (New H H') v' (lstd d) → Q v' H'
section
variable {P : Program} {w : World} {K : PySem.W.Frag} {mg : Str → Option Value} {base : Heap}
abbrev OLL (n : Nat) (P : Program) (w : World) (K : PySem.W.Frag) (mg : Str → Option Value) (base : Heap) : Prop := Own P w K mg base "_law_listed_of" n ["_law_thing"] (spListed K n)
theorem ok_listed {n : Nat} {f : Addr} {fd : FuncData} (F : Fun K "_law_listed_of" "_law_listed_of" sLListed f fd) (B : Bl mg) (Oll : OLL n P w K mg base) : FnOk P w K mg base CX0 (n + 1) f fd ["_law_thing"] (spListed K (n + 1)) := by
  refine F.ok scLListed (fun vs H Q E h => ?_) (fun cdv A outer s H vs Q E hr h => ?_)
  · obtain ⟨v, d, rfl, _⟩ := h
    rfl
  · obtain ⟨v, d, rfl, hv, hp, hw, hd, k⟩ := h
    refine ⟨_, (pss_cons (ps_if (PW.pt (pw_or (pt_val (pe_callB (id := "isinstance") (r := rIsi K) call_isi (by rfl) B.isin (by decide +kernel) (pa_cons (pv 0) (pa_cons (pe_bltn (v := .ty "tuple") (by rfl) B.tuple (by decide +kernel) rfl) pa_nil)))) (pw_or1 (pt_val (pe_callB (id := "isinstance") (r := rIsi K) call_isi (by rfl) B.isin (by decide +kernel) (pa_cons (pv 0) (pa_cons (pe_bltn (v := .ty "list") (by rfl) B.list (by decide +kernel) rfl) pa_nil))))))) (pss_one (ps_ret (pe_lc (own := [("_law_part", 1)]) (g := gName 1) (tt := tYes) rfl scLListed.nd (pi_tup (pv 0)) (blkOk_by (N := nLListed) (sc := defScope sLListed) (by decide +kernel)) (fun _ _ _ _ _ => (pg_name (i := 1) scLListed.nd rfl (Or.inl rfl))) (fun _ _ _ _ _ => pts_nil) (fun _ _ _ _ _ => (pe_own Oll hr (pa_cons (pv 1) pa_nil)))))) pss_nil) (pss_one (ps_ret (pv 0)))), ?_⟩
    try dsimp only [cxOf, Cx.nox, Cx.wish]
    walk_at "go"
    cases hv with
    | int i =>
      refine r_isi (b := false) (.ty "tuple") (.base (.int _)) (kit_ty (by decide +kernel)) ?_
      walk_at "go"
      refine r_isi (b := false) (.ty "list") (.base (.int _)) (kit_ty (by decide +kernel)) ?_
      walk_at "go"
      exact k H _ (Same.refl _) (.int i)
    | str x =>
      refine r_isi (b := false) (.ty "tuple") (.base (.str _)) (kit_ty (by decide +kernel)) ?_
      walk_at "go"
      refine r_isi (b := false) (.ty "list") (.base (.str _)) (kit_ty (by decide +kernel)) ?_
      walk_at "go"
      exact k H _ (Same.refl _) (.str x)
    | non =>
      refine r_isi (b := false) (.ty "tuple") (.base .non) (kit_ty (by decide +kernel)) ?_
      walk_at "go"
      refine r_isi (b := false) (.ty "list") (.base .non) (kit_ty (by decide +kernel)) ?_
      walk_at "go"
      exact k H _ (Same.refl _) .non
    | bl => simp [pure] at hp
    | lst => simp [pure] at hp
    | @tup a xs ds hS hA =>
      have hpA : pureA ds = true := by simpa [pure] using hp
      have hwA : ds.length ≤ 1000 ∧ wideA ds = true := by simpa [wide] using hw
      have hdA : PyData.depthAll ds < n := by rw [PyData.depth] at hd; omega
      refine r_isi (b := true) (.ty "tuple") (tyxT hS) (kit_ty (by decide +kernel)) ?_
      walk_at "go"
      refine ⟨⟨_, hS⟩, fun D hD => ?_⟩
      have s1 : Same H (upd H D (.lst [])) := same_new hD
      have e1 : (upd H D (.lst [])) D = some (.lst []) := upd_same
      refine lc_gen (walk_tup (K := K) (a := a) (xs := xs)) (fun _ => rfl) (fun acc H' => DpAll K (New (upd H D (.lst [])) H') acc ((ds.take acc.length).map lstd) ∧ Same H H') ⟨.nil, s1⟩ (fun acc H' _ q => Same.sqT q.2 hS) ?_ ?_
      · rintro i x acc H' hx hl hacc ⟨ha, sm⟩
        obtain ⟨di, hdi, hxd⟩ := dpA_get hA hx
        have hmem := List.mem_of_getElem? hdi
        have hil := (List.getElem?_eq_some_iff.mp hdi).1
        walk_at "go"
        refine ⟨x, di, rfl, dp_keep (Same.keeps sm) _ _ hxd, pureA_iff.mp hpA di hmem, wideA_iff.mp hwA.2 di hmem, Nat.lt_of_le_of_lt (depthA_mem (Nat.le_refl _) di hmem) hdA, fun H2 v2 s2 d2 => ?_⟩
        refine pp_next (s2 _ _ hacc) hl (line60 (by omega)) ⟨?_, same_upd (sm.trans s2) hD⟩
        have g0 : ∀ c, H' c = none → (upd H D (.lst [])) c = none := fun c hc => by
          by_cases q : c = D
          · rw [q, hacc] at hc; cases hc
          · rw [upd_ne q]; exact sm.free hc
        have g1 : Same (New H' H2) (New (upd H D (.lst [])) (upd H2 D (.lst (acc ++ [v2])))) := New.le g0 fun c u hc e => by
          have q : c ≠ D := fun q => by rw [q, hacc] at hc; cases hc
          rw [upd_ne q]; exact e
        have g2 : Same (New (upd H D (.lst [])) H') (New (upd H D (.lst [])) (upd H2 D (.lst (acc ++ [v2])))) := New.le (fun c h => h) fun c u hc e => by
          have q : c ≠ D := fun q => by rw [q, upd_same] at hc; cases hc
          rw [upd_ne q]; exact s2 _ _ e
        have r1 := dpA_app (dpA_keep (Same.keeps g2) _ _ ha) (.cons (dp_keep (Same.keeps g1) _ _ d2) .nil)
        rw [hl, take_next hdi] at r1
        rw [List.length_append, hl]
        exact r1
      · rintro acc H' hl hacc ⟨ha, sm⟩
        have hxl := dpA_len hA
        rw [hl, hxl, List.take_length] at ha
        walk_at "go"
        refine k _ _ sm ?_
        rw [lstd_tup]
        have g : Same (New (upd H D (.lst [])) H') (New H H') := New.le (fun c h => by
          by_cases q : c = D
          · rw [q]; exact hD
          · rw [upd_ne q] at h; exact h) fun c u _ e => e
        refine .lst (SqL.of ?_) (dpA_keep (Same.keeps g) _ _ ha)
        rw [New.at hD]
        exact hacc
theorem ll_all {f : Addr} {fd : FuncData} (F : Fun K "_law_listed_of" "_law_listed_of" sLListed f fd) (B : Bl mg) (m : mg "_law_listed_of" = some (.ref f)) (b : Binds K fd ["_law_thing"] []) : ∀ n : Nat, OLL n P w K mg base
  | 0 => ⟨f, fd, none_ok fun vs H Q E h => by obtain ⟨v, d, _, _, _, _, hd, _⟩ := h; omega, m, F.kp, b⟩
  | n + 1 => ⟨f, fd, ok_listed F B (ll_all F B m b n), m, F.kp, b⟩
end
end K4

/-! N7d -/
/-! What has been written is read as it was. -/
namespace K4
open PySem L2 K1 PyProof.Rows
theorem rdAll_map {α β : Type} {f : Str → Option α} {g : β → Str} {h : β → α} : ∀ {l : List β}, (∀ x ∈ l, f (g x) = some (h x)) → rdAll f (l.map g) = some (l.map h)
  | [], _ => rfl
  | x :: l, k => by
    rw [List.map_cons, rdAll, k x (List.mem_cons_self ..)]
    dsimp only
    rw [rdAll_map fun y hy => k y (List.mem_cons_of_mem _ hy)]
    rfl
theorem rdNums_commas {lm mm most : Nat} {ns : List Nat} (h : Nums most ns) (hm : most ≤ 60) (h1 : lm ≤ ns.length) (h2 : ns.length ≤ mm) : rdNums lm mm most (commas ns) = some ns := by
  unfold rdNums pCM
  rw [split_commas (h.mono hm), rdAll_map (g := num) (h := id) (fun n hn => rdNum_num (Nat.le_trans (h.2.2 n hn) hm) (Nat.zero_le _) (h.2.2 n hn)), List.map_id]
  dsimp only
  rw [if_pos ⟨h1, h2⟩]
theorem Row.nums59 {r : List Nat} (h : Row r) : Nums 59 r := ⟨fun e => by rw [e] at h; exact absurd h.1 (by decide), by have := h.2.1; omega, h.2.2⟩
theorem rdRows_join {rows : List (List Nat)} (h1 : rows ≠ []) (h2 : rows.length ≤ 60) (h3 : ∀ r ∈ rows, Row r) : rdRows (Txt.join SL (rows.map commas)) = some rows := by
  unfold rdRows pSL
  rw [rows_split h1 h3, rdAll_map (g := commas) (h := id) (fun r hr => rdNums_commas (h3 r hr).nums59 (by decide) (h3 r hr).1 (h3 r hr).2.1), List.map_id]
  dsimp only
  rw [if_pos h2]
theorem rdTexts_join {fs : List Str} (h1 : fs ≠ []) (h2 : fs.length ≤ 4) (h3 : ∀ f ∈ fs, Face f) : rdTexts 1 4 2 12 (Txt.join CM fs) = some fs := by
  unfold rdTexts pCM
  rw [faces_split h1 h3]
  rw [if_pos]
  refine ⟨List.all_eq_true.mpr fun f hf => ?_, List.length_pos_iff.mpr h1, h2⟩
  have a := h3 f hf
  rw [textB_iff, len_tl]
  have a1 := a.1
  have a2 := a.2.1
  exact ⟨by omega, by omega, a.2.2⟩
/-- words at a place -/
def At (ws : List Str) (z : Nat) (xs : List Str) : Prop := ∃ r, ws.drop z = xs ++ r
theorem At.head {ws : List Str} {z : Nat} {x : Str} {xs : List Str} (h : At ws z (x :: xs)) : ws[z]? = some x ∧ At ws (z + 1) xs := by
  obtain ⟨r, e⟩ := h
  have e1 : (ws.drop z)[0]? = some x := by rw [e]; rfl
  rw [List.getElem?_drop, Nat.add_zero] at e1
  refine ⟨e1, r, ?_⟩
  have : ws.drop (z + 1) = (ws.drop z).drop 1 := by rw [List.drop_drop]
  rw [this, e]; rfl
theorem At.app {ws : List Str} {z : Nat} {xs ys : List Str} (h : At ws z (xs ++ ys)) : At ws z xs ∧ At ws (z + xs.length) ys := by
  obtain ⟨r, e⟩ := h
  refine ⟨⟨ys ++ r, by rw [e, List.append_assoc]⟩, r, ?_⟩
  have : ws.drop (z + xs.length) = (ws.drop z).drop xs.length := by rw [List.drop_drop]
  rw [this, e, List.append_assoc, List.drop_left]
theorem rdFields_ow {o : Ow} (h : o.ok) {ws : List Str} {z : Nat} (ha : At ws z o.words) : rdFields (fields o.kind) ws z = .ok (o.data true, z + o.words.length) := by
  cases o with
  | sum m vs g =>
    obtain ⟨a1, a2, a3, a4, a5⟩ := h
    obtain ⟨e0, h1⟩ := ha.head
    obtain ⟨e1, h2⟩ := h1.head
    obtain ⟨e2, _⟩ := h2.head
    have r0 : Fk.modulus.read (num m) = some (pn m) := by simp only [Fk.read]; rw [rdNum_num a2 a1 a2]; rfl
    have r1 : Fk.weights.read (commas vs) = some (.tuple (vs.map pn)) := by simp only [Fk.read]; rw [rdNums_commas a3 (by decide) (List.length_pos_iff.mpr a3.1) a4]; rfl
    have r2 : Fk.goal.read (num g) = some (pn g) := by simp only [Fk.read]; rw [rdNum_num (by omega) (Nat.zero_le _) a5]; rfl
    simp only [Ow.kind, fields, rdFields]
    rw [e0, Option.bind_some, r0]
    dsimp only
    rw [e1, Option.bind_some, r1]
    dsimp only
    rw [e2, Option.bind_some, r2]
    rfl
  | square rows gs =>
    obtain ⟨a1, a2, a3, a4⟩ := h
    obtain ⟨e0, h1⟩ := ha.head
    obtain ⟨e1, _⟩ := h1.head
    have r0 : Fk.rows.read (Txt.join SL (rows.map commas)) = some (.tuple (rows.map rowD)) := by simp only [Fk.read]; rw [rdRows_join a1 a2 a3]; rfl
    have r1 : Fk.goals.read (commas gs) = some (.tuple (gs.map pn)) := by simp only [Fk.read]; rw [rdNums_commas a4 (by decide) (List.length_pos_iff.mpr a4.1) a4.2.1]; rfl
    simp only [Ow.kind, fields, rdFields]
    rw [e0, Option.bind_some, r0]
    dsimp only
    rw [e1, Option.bind_some, r1]
    rfl
  | faces fs =>
    obtain ⟨a1, a2, a3⟩ := h
    obtain ⟨e0, _⟩ := ha.head
    have r0 : Fk.faces.read (Txt.join CM fs) = some (.tuple (fs.map .str)) := by simp only [Fk.read]; rw [rdTexts_join a1 a2 a3]; rfl
    simp only [Ow.kind, fields, rdFields]
    rw [e0, Option.bind_some, r0]
    rfl
  | cut a b =>
    obtain ⟨a1, a2⟩ := h
    obtain ⟨e0, h1⟩ := ha.head
    obtain ⟨e1, _⟩ := h1.head
    have r0 : Fk.fend.read (num a) = some (pn a) := by simp only [Fk.read]; rw [rdNum_num (by omega) (Nat.zero_le _) a1]; rfl
    have r1 : Fk.fend.read (num b) = some (pn b) := by simp only [Fk.read]; rw [rdNum_num (by omega) (Nat.zero_le _) a2]; rfl
    simp only [Ow.kind, fields, rdFields]
    rw [e0, Option.bind_some, r0]
    dsimp only
    rw [e1, Option.bind_some, r1]
    rfl
  | _ => rfl
theorem rdMany_all {f : Nat → Nat → RR} {ws : List Str} : ∀ {is : List R} {z b : Nat}, (∀ i ∈ is, ∀ z b, At ws z i.words → b + i.parts ≤ 40 → f z b = .ok (i.data true, z + i.words.length, b + i.parts)) →
    At ws z (is.map R.words).flatten → b + (is.map R.parts).sum ≤ 40 → rdMany f is.length z b = .ok (is.map (R.data true), z + (is.map R.words).flatten.length, b + (is.map R.parts).sum)
  | [], z, b, _, _, _ => rfl
  | i :: is, z, b, hf, ha, hb => by
    rw [List.map_cons, List.flatten_cons] at ha
    rw [List.map_cons, List.sum_cons] at hb
    obtain ⟨h1, h2⟩ := ha.app
    rw [List.length_cons, rdMany, hf i (List.mem_cons_self ..) z b h1 (by omega)]
    dsimp only
    rw [rdMany_all (fun j hj => hf j (List.mem_cons_of_mem _ hj)) h2 (by omega)]
    dsimp only
    rw [List.map_cons, List.map_cons, List.flatten_cons, List.length_append, List.map_cons, List.sum_cons, Nat.add_assoc, Nat.add_assoc]
theorem rdRule_words : ∀ (n : Nat) {r : R} {ws : List Str} {z b : Nat}, r.ok → r.depth ≤ n → At ws z r.words → b + r.parts ≤ 40 → rdRule n ws z b = .ok (r.data true, z + r.words.length, b + r.parts)
  | 0, r, ws, z, b, _, hd, _, _ => by cases r <;> simp [R.depth] at hd
  | n + 1, r, ws, z, b, hok, hd, ha, hb => by
    have hw := r.words_eq
    rw [hw] at ha
    obtain ⟨e0, h1⟩ := ha.head
    obtain ⟨h2, h3⟩ := h1.app
    have hp := r.parts_pos
    rw [rdRule, e0, Option.bind_some, kindOf_wd r.ow.kind_lt]
    dsimp only
    rw [if_pos (by omega), rdFields_ow (R.ok_ow hok) h2]
    dsimp only
    rw [← R.ok_ar hok, rdMany_all (fun i hi z b h k => rdRule_words n (R.ok_in hok i hi) (by have := R.in_depth i hi; omega) h k) h3 (by have := r.parts_eq; omega)]
    dsimp only
    have hl : r.words.length = 1 + (r.ow.words.length + (r.inner.map R.words).flatten.length) := by rw [hw, List.length_cons, List.length_append]; omega
    have hq := r.parts_eq
    rw [r.data_eq true]
    refine congrArg Out.ok (Prod.ext rfl (Prod.ext ?_ ?_))
    · dsimp only; omega
    · dsimp only; omega
theorem rdAllWs_rule {r : R} {ws : List Str} {z : Nat} (hok : r.ok) (hp : r.parts ≤ 40) (ha : At ws z r.words) (hl : z + r.words.length = ws.length) : rdAllWs ws z = .ok (r.data true) := by
  unfold rdAllWs
  have := r.depth_le
  rw [rdRule_words 41 hok (by omega) ha (by omega)]
  dsimp only
  rw [hl, if_neg (Nat.lt_irrefl _)]
theorem rdName_ok' {x : Str} (h : isNm x = true) : rdName x = some x := if_pos h
theorem rdPap_pw {x : Str} (h1 : x.length ≤ 60) (h2 : ∀ c ∈ tl x, c ∈ tl K4.ALL) : rdPap (pw x) = some x := by
  unfold rdPap pw
  by_cases h : x = ""
  · rw [if_pos h, if_pos rfl, h]
  · rw [if_neg h]
    have hl : 1 ≤ x.length := by
      rcases Nat.eq_zero_or_pos x.length with q | q
      · exfalso
        refine h (str_ext ?_)
        rw [tl_emp]
        exact List.eq_nil_of_length_eq_zero (by rw [← len_tl]; exact q)
      · exact q
    have n : ¬ x = "-" := fun q => by
      have : (45 : Nat) ∈ tl x := by rw [q, tl_minus]; simp
      have := all_ge 45 (h2 45 this)
      omega
    rw [if_neg n, if_pos]
    rw [textB_iff]
    exact ⟨by omega, by omega, h2⟩
/-- a part that is not the last -/
theorem rdPart_dv {p : Dv} (h : p.ok) {ws : List Str} {z : Nat} (ha : At ws z p.words) (hr : p.kd = .rule → z + p.words.length = ws.length) : rdPart p.kd ws z = .ok (p.data true, z + p.words.length) := by
  cases p with
  | name x =>
    obtain ⟨e, _⟩ := ha.head
    simp only [Dv.kd, rdPart, rdOne]
    rw [e, Option.bind_some, rdName_ok' h]
    rfl
  | many n =>
    obtain ⟨e, _⟩ := ha.head
    simp only [Dv.kd, rdPart, rdOne]
    rw [e, Option.bind_some, rdNum_num (by have := h.2; omega) h.1 h.2]
    rfl
  | paper x =>
    obtain ⟨e, _⟩ := ha.head
    simp only [Dv.kd, rdPart, rdOne]
    rw [e, Option.bind_some, rdPap_pw h.1 h.2]
    rfl
  | rule r =>
    have hl := hr rfl
    simp only [Dv.kd, rdPart]
    rw [rdAllWs_rule h.1 h.2 ha hl]
    dsimp only
    rw [← hl]
    rfl
theorem rdParts_dv : ∀ {ps : List Dv} {ws : List Str} {z : Nat}, (∀ p ∈ ps, p.ok) → (∀ k ∈ (ps.map Dv.kd).dropLast, k ≠ .rule) → At ws z (ps.map Dv.words).flatten → z + (ps.map Dv.words).flatten.length = ws.length → rdParts (ps.map Dv.kd) ws z = .ok (ps.map (Dv.data true), ws.length)
  | [], ws, z, _, _, _, hl => by
    simp only [List.map_nil, List.flatten_nil, List.length_nil, Nat.add_zero] at hl
    rw [List.map_nil, rdParts, hl]
    rfl
  | [p], ws, z, ho, _, ha, hl => by
    simp only [List.map_cons, List.map_nil, List.flatten_cons, List.flatten_nil, List.append_nil] at ha hl ⊢
    rw [rdParts, rdPart_dv (ho p (List.mem_cons_self ..)) ha (fun _ => hl)]
    dsimp only
    rw [rdParts, hl]
  | p :: q :: ps, ws, z, ho, hk, ha, hl => by
    rw [List.map_cons, List.flatten_cons] at ha hl
    obtain ⟨h1, h2⟩ := ha.app
    have nr : p.kd ≠ .rule := hk _ (by simp)
    rw [List.map_cons, rdParts, rdPart_dv (ho p (List.mem_cons_self ..)) h1 (fun e => absurd e nr)]
    dsimp only
    rw [rdParts_dv (ps := q :: ps) (fun x hx => ho x (List.mem_cons_of_mem _ hx)) (fun k hk' => hk k (by
      simp only [List.map_cons] at hk' ⊢
      rw [List.dropLast_cons_of_ne_nil (by simp)]
      exact List.mem_cons_of_mem _ hk')) h2 (by rw [List.length_append] at hl; omega)]
    rfl
theorem dk_drop (c : Nat) : ∀ k ∈ (dk c).dropLast, k ≠ .rule := by
  intro k hk q
  subst q
  unfold dk at hk
  split at hk <;> simp at hk
theorem rdDeed_words {d : Deed} (h : d.ok) : rdDeed d.words = .ok (d.data true) := by
  unfold rdDeed
  have e0 : d.words[0]? = some (dw d.k) := rfl
  rw [e0, Option.bind_some, dkOf_dw h.lt]
  dsimp only
  have ha : At d.words 1 (d.ps.map Dv.words).flatten := ⟨[], by rw [List.append_nil]; rfl⟩
  rw [← h.ks, rdParts_dv h.ea (by rw [h.ks]; exact dk_drop _) ha (by show 1 + _ = _; unfold Deed.words; rw [List.length_cons]; omega)]
  dsimp only
  rw [if_neg (Nat.lt_irrefl _)]
  rfl
theorem rdLine_text {d : Deed} (h : d.ok) : rdLine (some d.text) = .ok (d.data true) := by
  show rdDeed (Txt.split d.text SP) = _
  rw [Deed.split h]
  exact rdDeed_words h
theorem rdLines_texts : ∀ {ds : List Deed} {i : Nat}, (∀ d ∈ ds, d.ok) → rdLines i (ds.map fun d => some d.text) = .ok (ds.map (Deed.data true))
  | [], i, _ => rfl
  | d :: ds, i, h => by
    rw [List.map_cons, rdLines, rdLine_text (h d (List.mem_cons_self ..))]
    dsimp only
    rw [rdLines_texts fun x hx => h x (List.mem_cons_of_mem _ hx)]
    rfl
/-! ### the signs of texts are signs -/
def Lo (x : Str) : Prop := ∀ c ∈ tl x, c < 1114112
theorem Lo.join {y : Str} {xs : List Str} (h : Lo y) (k : ∀ x ∈ xs, Lo x) : Lo (Txt.join y xs) := fun c hc => by
  rcases mem_join hc with q | ⟨p, hp, q⟩
  · exact h c q
  · exact k p hp c q
theorem lo_num {n : Nat} (h : n ≤ 60) : Lo (num n) := fun c hc => by have := (num_ok h).1 c hc; omega
theorem lo_CM : Lo CM := fun c hc => by rw [tl_CM] at hc; rw [List.mem_singleton.mp hc]; decide
theorem lo_SL : Lo SL := fun c hc => by rw [tl_SL] at hc; rw [List.mem_singleton.mp hc]; decide
theorem lo_SP : Lo SP := fun c hc => by rw [tl_SP] at hc; rw [List.mem_singleton.mp hc]; decide
theorem lo_wd : ∀ k < 9, ∀ c ∈ tl (wd k), c < 1114112 := by decide +kernel
theorem lo_dw : ∀ k < 7, ∀ c ∈ tl (dw k), c < 1114112 := by decide +kernel
theorem lo_commas {ns : List Nat} (h : ∀ n ∈ ns, n ≤ 60) : Lo (commas ns) := Lo.join lo_CM fun x hx => by
  obtain ⟨n, hn, rfl⟩ := List.mem_map.mp hx
  exact lo_num (h n hn)
theorem lo_ow {o : Ow} (h : o.ok) : ∀ w ∈ o.words, Lo w := by
  intro w hw
  cases o with
  | sum m vs g =>
    obtain ⟨a1, a2, a3, a4, a5⟩ := h
    simp only [Ow.words, List.mem_cons, List.not_mem_nil, or_false] at hw
    rcases hw with rfl | rfl | rfl
    · exact lo_num a2
    · exact lo_commas fun n hn => by have := a3.2.2 n hn; omega
    · exact lo_num (by omega)
  | square rows gs =>
    obtain ⟨a1, a2, a3, a4⟩ := h
    simp only [Ow.words, List.mem_cons, List.not_mem_nil, or_false] at hw
    rcases hw with rfl | rfl
    · exact Lo.join lo_SL fun x hx => by
        obtain ⟨r, hr, rfl⟩ := List.mem_map.mp hx
        exact lo_commas fun n hn => by have := (a3 r hr).2.2 n hn; omega
    · exact lo_commas fun n hn => by have := a4.2.2 n hn; omega
  | faces fs =>
    obtain ⟨a1, a2, a3⟩ := h
    simp only [Ow.words, List.mem_cons, List.not_mem_nil, or_false] at hw
    rw [hw]
    exact Lo.join lo_CM fun x hx c hc => all_lt c ((a3 x hx).2.2 c hc)
  | cut a b =>
    obtain ⟨a1, a2⟩ := h
    simp only [Ow.words, List.mem_cons, List.not_mem_nil, or_false] at hw
    rcases hw with rfl | rfl
    · exact lo_num (by omega)
    · exact lo_num (by omega)
  | _ => simp [Ow.words] at hw
theorem lo_rule : ∀ {r : R}, r.ok → ∀ w ∈ r.words, Lo w
  | .n0 o, h, w, q => by
    simp only [R.words, List.mem_cons] at q
    rcases q with rfl | q
    · exact lo_wd _ o.kind_lt
    · exact lo_ow h.1 w q
  | .n1 o a, h, w, q => by
    simp only [R.words, List.mem_cons, List.mem_append] at q
    rcases q with rfl | q | q
    · exact lo_wd _ o.kind_lt
    · exact lo_ow h.1 w q
    · exact lo_rule h.2.2 w q
  | .n2 o a b, h, w, q => by
    simp only [R.words, List.mem_cons, List.mem_append] at q
    rcases q with rfl | q | q | q
    · exact lo_wd _ o.kind_lt
    · exact lo_ow h.1 w q
    · exact lo_rule h.2.2.1 w q
    · exact lo_rule h.2.2.2 w q
theorem lo_dv {p : Dv} (h : p.ok) : ∀ w ∈ p.words, Lo w := by
  intro w hw
  cases p with
  | name x =>
    rw [List.mem_singleton.mp hw]
    exact fun c hc => az_lt c ((nm_text h).2.2.1 c hc)
  | many n =>
    rw [List.mem_singleton.mp hw]
    exact lo_num (by have := h.2; omega)
  | paper x =>
    rw [List.mem_singleton.mp hw]
    unfold pw
    split
    · intro c hc; rw [tl_minus] at hc; rw [List.mem_singleton.mp hc]; decide
    · exact fun c hc => all_lt c (h.2 c hc)
  | rule r => exact lo_rule h.1 w hw
theorem Deed.lo {d : Deed} (h : d.ok) : Lo d.text := by
  rw [d.text_eq]
  refine Lo.join lo_SP fun w hw => ?_
  rcases List.mem_cons.mp hw with rfl | hw
  · exact lo_dw _ h.lt
  · obtain ⟨l, hl, hw⟩ := List.mem_flatten.mp hw
    obtain ⟨p, hp, rfl⟩ := List.mem_map.mp hl
    exact lo_dv (h.ea p hp) w hw
theorem td_texts {ds : List Deed} (l : ds.length ≤ 1000) (h : ∀ d ∈ ds, d.ok) : Td 47 (.tuple (ds.map fun d => .str d.text)) := by
  have g := gd_tup (n := 0) (ds := ds.map fun d => PyData.str d.text) (by rw [List.length_map]; exact l) fun y hy => by
    obtain ⟨d, hd, rfl⟩ := List.mem_map.mp hy
    exact gd_str (strOk_of (Deed.lo (h d hd)))
  refine ⟨⟨_, rfl⟩, ?_, g.wi, g.fl, Nat.le_trans g.dp (by decide)⟩
  simp only [K4.pure]
  exact pureA_iff.mpr fun y hy => by obtain ⟨d, hd, rfl⟩ := List.mem_map.mp hy; rfl
/-! ### deeds as data -/
theorem Dv.pure {p : Dv} : K4.pure (p.data true) = true := by
  cases p with
  | rule r => exact r.pure
  | _ => rfl
theorem Deed.pure (d : Deed) : K4.pure (d.data true) = true := by
  show K4.pure (.tuple (.str (dw d.k) :: d.ps.map (Dv.data true))) = true
  simp only [K4.pure, pureA, Bool.true_and]
  exact pureA_iff.mpr fun y hy => by obtain ⟨p, _, rfl⟩ := List.mem_map.mp hy; exact Dv.pure
theorem Dv.lst (p : Dv) : lstd (p.data true) = p.data false := by
  cases p with
  | rule r => exact r.lst
  | _ => rfl
theorem Deed.lst (d : Deed) : lstd (d.data true) = d.data false := by
  show lstd (.tuple (.str (dw d.k) :: d.ps.map (Dv.data true))) = .list (.str (dw d.k) :: d.ps.map (Dv.data false))
  rw [lstd_tup, List.map_cons, List.map_map]
  have : d.ps.map (lstd ∘ Dv.data true) = d.ps.map (Dv.data false) := List.map_congr_left fun p _ => p.lst
  rw [this]
  rfl
theorem Dv.flat (t : Bool) {p : Dv} (h : p.ok) : flatN (p.data t) = true ∧ (p.data t).depth ≤ 42 := by
  cases p with
  | name x => exact ⟨strOk_of fun c hc => az_lt c ((nm_text h).2.2.1 c hc), Nat.zero_le _⟩
  | many n => exact ⟨rfl, Nat.zero_le _⟩
  | paper x => exact ⟨strOk_of fun c hc => all_lt c (h.2 c hc), Nat.zero_le _⟩
  | rule r =>
    have a := R.flat t h.1
    have b := r.depth_le
    have c := h.2
    exact ⟨a.1, Nat.le_trans a.2 (by omega)⟩
theorem Dv.wide {p : Dv} (h : p.ok) : K4.wide (p.data true) = true := by
  cases p with
  | rule r => exact R.wide h.1
  | _ => rfl
theorem Deed.flat (t : Bool) {d : Deed} (h : d.ok) : flatN (d.data t) = true ∧ (d.data t).depth ≤ 43 := by
  refine ⟨flat_sq fun y hy => ?_, depth_sq fun y hy => ?_⟩
  · rcases List.mem_cons.mp hy with rfl | hy
    · exact dw_strOk _ h.lt
    · obtain ⟨p, hp, rfl⟩ := List.mem_map.mp hy
      exact (Dv.flat t (h.ea p hp)).1
  · rcases List.mem_cons.mp hy with rfl | hy
    · exact Nat.zero_le _
    · obtain ⟨p, hp, rfl⟩ := List.mem_map.mp hy
      exact (Dv.flat t (h.ea p hp)).2
theorem Deed.ps_len {d : Deed} (h : d.ok) : d.ps.length ≤ 3 := by
  have a := congrArg List.length h.ks
  rw [List.length_map] at a
  have := dk_len d.k
  omega
theorem Deed.wide {d : Deed} (h : d.ok) : K4.wide (d.data true) = true := by
  refine wide_tup (by have := Deed.ps_len h; simp only [List.length_cons, List.length_map]; omega) fun y hy => ?_
  rcases List.mem_cons.mp hy with rfl | hy
  · rfl
  · obtain ⟨p, hp, rfl⟩ := List.mem_map.mp hy
    exact Dv.wide (h.ea p hp)
theorem td_data {ds : List Deed} (l : ds.length ≤ 1000) (h : ∀ d ∈ ds, d.ok) : Td 47 (.tuple (ds.map (Deed.data true))) := by
  refine ⟨⟨_, rfl⟩, ?_, wide_tup (by rw [List.length_map]; exact l) fun y hy => ?_, flat_sq (t := true) fun y hy => ?_, Nat.le_trans (depth_sq (t := true) (n := 43) fun y hy => ?_) (by decide)⟩
  · simp only [K4.pure]
    exact pureA_iff.mpr fun y hy => by obtain ⟨d, _, rfl⟩ := List.mem_map.mp hy; exact d.pure
  · obtain ⟨d, hd, rfl⟩ := List.mem_map.mp hy; exact Deed.wide (h d hd)
  · obtain ⟨d, hd, rfl⟩ := List.mem_map.mp hy; exact (Deed.flat true (h d hd)).1
  · obtain ⟨d, hd, rfl⟩ := List.mem_map.mp hy; exact (Deed.flat true (h d hd)).2
theorem lst_shaped {ds : List Deed} (h : ∀ d ∈ ds, d.ok) : SeqAt.shaped (.list (ds.map (Deed.data false))) = true ∧ PyData.eqv (.list (ds.map (Deed.data false))) (.list (ds.map (Deed.data false))) = true := by
  have fl : flatN (.list (ds.map (Deed.data false))) = true := flat_sq (t := false) fun y hy => by obtain ⟨d, hd, rfl⟩ := List.mem_map.mp hy; exact (Deed.flat false (h d hd)).1
  have dp : (PyData.list (ds.map (Deed.data false))).depth ≤ 44 := depth_sq (t := false) (n := 43) fun y hy => by obtain ⟨d, hd, rfl⟩ := List.mem_map.mp hy; exact (Deed.flat false (h d hd)).2
  exact ⟨shaped_of fl (by omega), SeqAt.eqv_refl _ (canLay_flat _ fl)⟩
end K4

/-! L7l -/


namespace K4
open PySem L2 K1
def spListedL (K : PySem.W.Frag) (n : Nat) : Sp := fun vs H Q _ => ∃ (a : Addr) (xs : List V) (ds : List PyData), vs = [.ref a] ∧ SqL K H a xs ∧ DpAll K H xs ds ∧ (∀ d ∈ ds, K4.pure d = true) ∧ (∀ d ∈ ds, K4.wide d = true) ∧ (∀ d ∈ ds, d.depth < n) ∧ ds.length ≤ 1000 ∧ ∀ H' v', Same H H' → Dp K (New H H') v' (.list (ds.map lstd)) → Q v' H'
section
variable {P : Program} {w : World} {K : PySem.W.Frag} {mg : Str → Option Value} {base : Heap}
theorem ok_listedL {n : Nat} {f : Addr} {fd : FuncData} (F : Fun K "_law_listed_of" "_law_listed_of" sLListed f fd) (B : Bl mg) (Oll : OLL n P w K mg base) : FnOk P w K mg base CX0 (n + 1) f fd ["_law_thing"] (spListedL K n) := by
  refine F.ok scLListed (fun vs H Q E h => ?_) (fun cdv A outer s H vs Q E hr h => ?_)
  · obtain ⟨a, xs, ds, rfl, _⟩ := h
    rfl
  · obtain ⟨a, xs, ds, rfl, hS, hA, hp, hw, hd, hl1000, k⟩ := h
    refine ⟨_, (pss_cons (ps_if (PW.pt (pw_or (pt_val (pe_callB (id := "isinstance") (r := rIsi K) call_isi (by rfl) B.isin (by decide +kernel) (pa_cons (pv 0) (pa_cons (pe_bltn (v := .ty "tuple") (by rfl) B.tuple (by decide +kernel) rfl) pa_nil)))) (pw_or1 (pt_val (pe_callB (id := "isinstance") (r := rIsi K) call_isi (by rfl) B.isin (by decide +kernel) (pa_cons (pv 0) (pa_cons (pe_bltn (v := .ty "list") (by rfl) B.list (by decide +kernel) rfl) pa_nil))))))) (pss_one (ps_ret (pe_lc (own := [("_law_part", 1)]) (g := gName 1) (tt := tYes) rfl scLListed.nd (pi_list (pv 0)) (blkOk_by (N := nLListed) (sc := defScope sLListed) (by decide +kernel)) (fun _ _ _ _ _ => (pg_name (i := 1) scLListed.nd rfl (Or.inl rfl))) (fun _ _ _ _ _ => pts_nil) (fun _ _ _ _ _ => (pe_own Oll hr (pa_cons (pv 1) pa_nil)))))) pss_nil) (pss_one (ps_ret (pv 0)))), ?_⟩
    try dsimp only [cxOf, Cx.nox, Cx.wish]
    walk_at "go"
    refine r_isi (b := false) (.ty "tuple") (tyxL hS) (kit_ty (by decide +kernel)) ?_
    walk_at "go"
    refine r_isi (b := true) (.ty "list") (tyxL hS) (kit_ty (by decide +kernel)) ?_
    walk_at "go"
    refine ⟨⟨_, hS⟩, fun D hD => ?_⟩
    have s1 : Same H (upd H D (.lst [])) := same_new hD
    have e1 : (upd H D (.lst [])) D = some (.lst []) := upd_same
    refine lc_gen (walk_list (K := K) (a := a) (xs := xs)) (fun _ => rfl) (fun acc H' => DpAll K (New (upd H D (.lst [])) H') acc ((ds.take acc.length).map lstd) ∧ Same H H') ⟨.nil, s1⟩ (fun acc H' _ q => q.2.seq hS) ?_ ?_
    · rintro i x acc H' hx hl hacc ⟨ha, sm⟩
      obtain ⟨di, hdi, hxd⟩ := dpA_get hA hx
      have hmem := List.mem_of_getElem? hdi
      have hil := (List.getElem?_eq_some_iff.mp hdi).1
      walk_at "go"
      refine ⟨x, di, rfl, dp_keep (Same.keeps sm) _ _ hxd, hp di hmem, hw di hmem, hd di hmem, fun H2 v2 s2 d2 => ?_⟩
      refine pp_next (s2 _ _ hacc) hl (line60 (by omega)) ⟨?_, same_upd (sm.trans s2) hD⟩
      have g0 : ∀ c, H' c = none → (upd H D (.lst [])) c = none := fun c hc => by
        by_cases q : c = D
        · rw [q, hacc] at hc; cases hc
        · rw [upd_ne q]; exact sm.free hc
      have g1 : Same (New H' H2) (New (upd H D (.lst [])) (upd H2 D (.lst (acc ++ [v2])))) := New.le g0 fun c u hc e => by
        have q : c ≠ D := fun q => by rw [q, hacc] at hc; cases hc
        rw [upd_ne q]; exact e
      have g2 : Same (New (upd H D (.lst [])) H') (New (upd H D (.lst [])) (upd H2 D (.lst (acc ++ [v2])))) := New.le (fun c h => h) fun c u hc e => by
        have q : c ≠ D := fun q => by rw [q, upd_same] at hc; cases hc
        rw [upd_ne q]; exact s2 _ _ e
      have r1 := dpA_app (dpA_keep (Same.keeps g2) _ _ ha) (.cons (dp_keep (Same.keeps g1) _ _ d2) .nil)
      rw [hl, take_next hdi] at r1
      rw [List.length_append, hl]
      exact r1
    · rintro acc H' hl hacc ⟨ha, sm⟩
      have hxl := dpA_len hA
      rw [hl, hxl, List.take_length] at ha
      walk_at "go"
      refine k _ _ sm ?_
      have g : Same (New (upd H D (.lst [])) H') (New H H') := New.le (fun c h => by
        by_cases q : c = D
        · rw [q]; exact hD
        · rw [upd_ne q] at h; exact h) fun c u _ e => e
      refine .lst (SqL.of ?_) (dpA_keep (Same.keeps g) _ _ ha)
      rw [New.at hD]
      exact hacc
end
end K4

/-! L5g -/


namespace K4
open PySem L2 K1
abbrev sLTextRule : Stmt := top 99
abbrev nLTextRule : List Str := ["_law_bag", "_law_signs", "_law_parts", "_law_room", "_law_way", "_law_many", "_law_first", "_law_inner", "_law_faces", "_law_k", "_law_sign"]
theorem scLTextRule : FnScope nLTextRule ["_law_bag", "_law_signs", "_law_parts", "_law_room"] (defScope sLTextRule) := ⟨rfl, rfl, rfl, by decide +kernel, rfl, by decide +kernel, by decide +kernel⟩
def spTextRule (K : PySem.W.Frag) (N : Nat) : Sp := fun vs H Q _ => ∃ (b : Addr) (z : Str) (p : Nat) (room : Int) (n : Nat), vs = [.ref b, .str z, vi p, .int room] ∧ Good z ∧ IsBag H b n ∧ n + 1000 * p ≤ 2 ^ 39 ∧ 1 ≤ p ∧ p < N ∧ p ≤ 45 ∧ 0 ≤ room ∧ room ≤ 1000 ∧
  ∀ H' v r, R.ok r → r.parts = p → IsBag H' b (n + 1000 * p) → Kp b H H' → Dp K H' v (r.data true) → Q v H'
theorem good_face {z y : Str} (h : Good z) (l : (tl y).length = (tl z).length) (k : ∀ c ∈ tl y, c ∈ tl z) : Face y := by
  have h1 : 2 ≤ (tl z).length := h.lo
  have h2 : (tl z).length ≤ 12 := h.hi
  exact ⟨by omega, by omega, fun c hc => h.all c (k c hc)⟩
section
variable {P : Program} {w : World} {K : PySem.W.Frag} {mg : Str → Option Value} {base : Heap} {dO dI : Addr}
abbrev OLeaf (P : Program) (w : World) (K : PySem.W.Frag) (mg : Str → Option Value) (base : Heap) : Prop := Own P w K mg base "_law_text_leaf" 2 ["_law_bag", "_law_signs", "_law_room"] (spLeaf K)
abbrev OTextRule (N : Nat) (P : Program) (w : World) (K : PySem.W.Frag) (mg : Str → Option Value) (base : Heap) : Prop := Own P w K mg base "_law_text_rule" (N + 3) ["_law_bag", "_law_signs", "_law_parts", "_law_room"] (spTextRule K N)
theorem ok_textRule {N : Nat} {f : Addr} {fd : FuncData} (F : Fun K "_law_text_rule" "_law_text_rule" sLTextRule f fd) (B : Bl mg) (Op : OPick P w K mg base) (Oo : OOneOf P w K mg base) (Olf : OLeaf P w K mg base) (Otx : OTextRule N P w K mg base) :
    FnOk P w K mg base CX0 (N + 1 + 3) f fd ["_law_bag", "_law_signs", "_law_parts", "_law_room"] (spTextRule K (N + 1)) := by
  refine F.ok scLTextRule (fun vs H Q E h => ?_) (fun cdv A outer s H vs Q E hr h => ?_)
  · obtain ⟨b, z, p, room, n, rfl, _⟩ := h
    rfl
  · obtain ⟨b, z, p, room, n, rfl, hz, hb, hn, p1, pN, p40, h0, h1, k⟩ := h
    have hzl : 2 ≤ (tl z).length := hz.lo
    have hzh : (tl z).length ≤ 12 := hz.hi
    have lz : z.length = (tl z).length := len_tl z
    refine ⟨_, (pss_cons (ps_if (pt_cmpR op_eq (pv 2) pe_int (nomark _)) (pss_one (ps_ret (pe_own Olf (hr.mono (by omega)) (pa_cons (pv 0) (pa_cons (pv 1) (pa_cons (pv 3) pa_nil)))))) pss_nil) (pss_cons (ps_set (i := 4) scLTextRule.nd rfl (Or.inl rfl) (pe_own Op (hr.mono (by omega)) (pa_cons (pv 0) (pa_cons pe_int pa_nil)))) (pss_cons (ps_if (PW.pt (pw_and (pt_cmpR op_gt (pv 2) pe_int (nomark _)) (pw_and1 (pt_cmpR op_lt (pv 4) pe_int (nomark _))))) (pss_cons (ps_set (i := 5) scLTextRule.nd rfl (Or.inl rfl) (pe_op op_add pe_int (pe_own Op (hr.mono (by omega)) (pa_cons (pv 0) (pa_cons (pe_op op_sub (pv 2) pe_int) pa_nil))))) (pss_cons (ps_set (i := 6) scLTextRule.nd rfl (Or.inl rfl) (pe_own Otx hr (pa_cons (pv 0) (pa_cons (pv 1) (pa_cons (pv 5) (pa_cons (pv 3) pa_nil)))))) (pss_one (ps_ret (pe_tup (pa_cons (pe_ix ix_list (pe_lst (pa_cons pe_str (pa_cons pe_str (pa_cons pe_str pa_nil)))) (pv 4) (fun _ _ => rfl)) (pa_cons (pv 6) (pa_cons (pe_own Otx hr (pa_cons (pv 0) (pa_cons (pv 1) (pa_cons (pe_op op_sub (pe_op op_sub (pv 2) pe_int) (pv 5)) (pa_cons (pv 3) pa_nil))))) pa_nil)))))))) pss_nil) (pss_cons (ps_set (i := 7) scLTextRule.nd rfl (Or.inl rfl) (pe_own Otx hr (pa_cons (pv 0) (pa_cons (pv 1) (pa_cons (pe_op op_sub (pv 2) pe_int) (pa_cons (pv 3) pa_nil)))))) (pss_cons (ps_if (pt_cmpR op_eq (pv 4) pe_int (nomark _)) (pss_one (ps_ret (pe_tup (pa_cons pe_str (pa_cons (pv 7) pa_nil))))) pss_nil) (pss_cons (ps_if (pt_cmpR op_eq (pv 4) pe_int (nomark _)) (pss_one (ps_ret (pe_tup (pa_cons pe_str (pa_cons (pe_own Op (hr.mono (by omega)) (pa_cons (pv 0) (pa_cons pe_int pa_nil))) (pa_cons (pe_own Op (hr.mono (by omega)) (pa_cons (pv 0) (pa_cons pe_int pa_nil))) (pa_cons (pv 7) pa_nil))))))) pss_nil) (pss_cons (ps_if (pt_cmpR op_eq (pv 4) pe_int (nomark _)) (pss_cons (ps_set (i := 8) scLTextRule.nd rfl (Or.inl rfl) (pe_lst pa_nil)) (pss_cons (ps_for PassesOwn.never rfl (pi_range1 rfl B.range (pa_cons (pe_ifExp (pt_cmpR op_lt (pv 3) pe_int (nomark _)) pe_int (pe_op op_add pe_int (pe_own Op (hr.mono (by omega)) (pa_cons (pv 0) (pa_cons pe_int pa_nil))))) pa_nil)) (pg_name (i := 9) scLTextRule.nd rfl (Or.inl rfl)) (pss_one (ps_expr (pe_bm PySem.F.plainAttrs_list PySem.F.slot_list_append PySem.F.type_list_append mt_append (pv 8) (pa_cons (pe_m1 PySem.F.slot_str_join PySem.F.type_str_join mt_join pe_str (pe_lc (own := [("_law_sign", 10)]) (g := gName 10) (tt := tYes) rfl scLTextRule.nd (pi_str (pv 1)) (blkOk_by (N := nLTextRule) (sc := defScope sLTextRule) (by decide +kernel)) (fun _ _ _ _ _ => (pg_name (i := 10) scLTextRule.nd rfl (Or.inl rfl))) (fun _ _ _ _ _ => pts_nil) (fun _ _ _ _ _ => (pe_own Oo (hr.mono (by omega)) (pa_cons (pv 0) (pa_cons (pv 1) pa_nil)))))) pa_nil))))) (pss_one (ps_ret (pe_tup (pa_cons pe_str (pa_cons (pe_callTy call_tuple_of (by rfl) B.tuple (by decide +kernel) (pa_cons (pv 8) pa_nil)) (pa_cons (pv 7) pa_nil)))))))) pss_nil) (pss_one (ps_ret (pe_tup (pa_cons pe_str (pa_cons (pv 7) pa_nil)))))))))))), ?_⟩
    try dsimp only [cxOf, Cx.nox, Cx.wish]
    walk_at "go"
    refine r_ite (fun hp1 => ?_) (fun hp1 => ?_)
    · have hp : p = 1 := by have := V.int.inj hp1; omega
      subst hp
      walk_at "go"
      refine ⟨_, z, room, n, rfl, hz, hb, by omega, h0, h1, fun H1 v o ho ha hb1 k1 d1 => ?_⟩
      exact k H1 v (.n0 o) ⟨ho, ha⟩ rfl hb1 k1 d1
    have p2 : 2 ≤ p := by
      rcases Nat.lt_or_ge p 2 with q | q
      · exact absurd (congrArg V.int (show (p : Int) = 1 by omega)) hp1
      · exact q
    walk_at "go"
    refine ⟨_, _, n, rfl, hb, by omega, by decide, fun way H1 w0 w1 hb1 of1 => ?_⟩
    have k1 := of1.kp
    have w7 : way < 7 := by omega
    walk_at "go"
    by_cases hc : p > 2 ∧ way < 3
    · obtain ⟨hp3, hw3⟩ := hc
      refine r_yes (by omega) ?_
      walk_at "go"
      refine r_yes hw3 ?_
      walk_at "go"
      refine ⟨_, _, n + 1, rfl, hb1, by omega, by omega, fun m H2 m0 m1 hb2 of2 => ?_⟩
      walk_at "go"
      obtain ⟨mm, hmm⟩ : ∃ mm : Nat, 1 + m = (mm : Int) := ⟨(1 + m).toNat, by omega⟩
      rw [hmm]
      have mm1 : 1 ≤ mm := by omega
      have mm2 : mm + 2 ≤ p := by omega
      refine ⟨b, z, mm, room, n + 2, rfl, hz, hb2, by omega, mm1, by omega, by omega, h0, h1, fun H3 v1 r1 ok1 pr1 hb3 k3 d3 => ?_⟩
      walk_at "go"
      refine ⟨(by show 3 ≤ sizeLine; decide), fun l hl => ?_⟩
      have sl := same_new (o := HO.lst [V.str "both", V.str "either", V.str "either"]) hl
      obtain ⟨o, ho, hok, har, how⟩ : ∃ o : Ow, atI [V.str "both", V.str "either", V.str "either"] way = some (.str o.word) ∧ o.ok ∧ ar o.kind = 2 ∧ o.data true = [] := by
        obtain rfl | rfl | rfl : way = 0 ∨ way = 1 ∨ way = 2 := by omega
        · exact ⟨.both, rfl, trivial, rfl, rfl⟩
        · exact ⟨.either, rfl, trivial, rfl, rfl⟩
        · exact ⟨.either, rfl, trivial, rfl, rfl⟩
      walk_at "go"
      refine r_ixL (SqL.of upd_same) ho ?_
      walk_at "go"
      obtain ⟨p', hp'⟩ : ∃ p' : Nat, (p : Int) - 1 - (mm : Int) = (p' : Int) := ⟨p - 1 - mm, by omega⟩
      rw [hp']
      have e' : mm + p' + 1 = p := by omega
      refine ⟨b, z, p', room, n + 2 + 1000 * mm, rfl, hz, hb3.new hl, by omega, by omega, by omega, by omega, h0, h1, fun H4 v2 r2 ok2 pr2 hb4 k4 d4 => ?_⟩
      walk_at "go"
      refine ⟨(by show 3 ≤ sizeLine; decide), fun q hq => ?_⟩
      have s5 := same_new (o := HO.tup [.str o.word, v1, v2]) hq
      refine k _ _ (.n2 o r1 r2) ⟨hok, har, ok1, ok2⟩ (by show r1.parts + r2.parts + 1 = p; omega) ((hb4.mono (by omega)).new hq) (k1.trans (of2.kp.trans (k3.trans ((Same.kp sl).trans (k4.trans (Same.kp s5)))))) ?_
      have kt3 : KT K H3 (upd H4 q (.tup [.str o.word, v1, v2])) := KT.trans (Same.kt sl) (KT.trans (bag_kt (hb3.new hl) k4) (Same.kt s5))
      refine .tup (SqT.of upd_same) (.cons (.str _) ?_)
      rw [how]
      exact .cons (dp_pure kt3 _ _ r1.pure d3) (.cons (dp_pure (Same.kt s5) _ _ r2.pure d4) .nil)
    · by_cases hp3 : p > 2
      refine r_yes (by omega) ?_
      walk_at "go"
      refine r_no (fun q => hc ⟨hp3, q⟩) ?_
      walk_at "go"
      rotate_left
      refine r_no (by omega) ?_
      walk_at "go"
      all_goals
        obtain ⟨p', hp'⟩ : ∃ p' : Nat, (p : Int) - 1 = (p' : Int) := ⟨p - 1, by omega⟩
        rw [hp']
        have e' : p' + 1 = p := by omega
        refine ⟨b, z, p', room, n + 1, rfl, hz, hb1, by omega, by omega, by omega, by omega, h0, h1, fun H2 v1 r1 ok1 pr1 hb2 k2 d2 => ?_⟩
        have k12 := k1.trans k2
        walk_at "go"
        refine r_ite (fun h3 => ?_) (fun h3 => ?_)
        · walk_at "go"
          refine ⟨(by show 2 ≤ sizeLine; decide), fun q hq => ?_⟩
          have s5 := same_new (o := HO.tup [.str "back", v1]) hq
          refine k _ _ (.n1 .back r1) ⟨trivial, rfl, ok1⟩ (by show r1.parts + 1 = p; omega) ((hb2.mono (by omega)).new hq) (k12.trans (Same.kp s5)) ?_
          exact .tup (SqT.of upd_same) (.cons (.str _) (.cons (dp_pure (Same.kt s5) _ _ r1.pure d2) .nil))
        walk_at "go"
        refine r_ite (fun h4 => ?_) (fun h4 => ?_)
        · walk_at "go"
          refine ⟨_, _, n + 1 + 1000 * p', rfl, hb2, by omega, by decide, fun a H3 a0 a1 hb3 of3 => ?_⟩
          walk_at "go"
          refine ⟨_, _, n + 2 + 1000 * p', rfl, hb3.mono (by omega), by omega, by decide, fun c H4 c0 c1 hb4 of4 => ?_⟩
          walk_at "go"
          refine ⟨(by show 4 ≤ sizeLine; decide), fun q hq => ?_⟩
          obtain ⟨a', rfl⟩ : ∃ a' : Nat, a = (a' : Int) := ⟨a.toNat, by omega⟩
          obtain ⟨c', rfl⟩ : ∃ c' : Nat, c = (c' : Int) := ⟨c.toNat, by omega⟩
          have s5 := same_new (o := HO.tup [.str "cut", vi a', vi c', v1]) hq
          have kk : Kp b H2 (upd H4 q (.tup [.str "cut", vi a', vi c', v1])) := of3.kp.trans (of4.kp.trans (Same.kp s5))
          refine k _ _ (.n1 (.cut a' c') r1) ⟨⟨by omega, by omega⟩, rfl, ok1⟩ (by show r1.parts + 1 = p; omega) ((hb4.mono (by omega)).new hq) (k12.trans kk) ?_
          exact .tup (SqT.of upd_same) (.cons (.str _) (.cons (.int _) (.cons (.int _) (.cons (dp_pure (bag_kt hb2 kk) _ _ r1.pure d2) .nil))))
        walk_at "go"
        refine r_ite (fun h5 => ?_) (fun h5 => ?_)
        · walk_at "go"
          refine ⟨(by show 0 ≤ sizeLine; decide), fun L hL => ?_⟩
          have nLb := hb2.ne hL
          have sL := same_new (o := HO.lst []) hL
          refine K1.r_name ?_
          try dsimp only [List.set]
          refine K1.r_seq ?_
          refine K1.r_for ?_
          refine K1.r_iRng1 ?_
          refine K1.r_cons ?_
          refine r_ifJ (fun x Hm => ∃ c : Nat, x = .int c ∧ 1 ≤ c ∧ c ≤ 4 ∧ IsBag Hm b (n + 2 + 1000 * p') ∧ Kp b H2 Hm ∧ Hm L = some (.lst [])) (fun Q' hQ => ?_) ?_
          · walk_at "go"
            refine r_ite (fun h6 => ?_) (fun h6 => ?_)
            · walk_at "go"
              exact hQ _ _ ⟨1, rfl, by decide, by decide, (hb2.new hL).mono (by omega), Same.kp sL, upd_same⟩
            · walk_at "go"
              refine ⟨_, _, n + 1 + 1000 * p', rfl, hb2.new hL, by omega, by decide, fun a H3 a0 a1 hb3 of3 => ?_⟩
              walk_at "go"
              obtain ⟨a', rfl⟩ : ∃ a' : Nat, a = (a' : Int) := ⟨a.toNat, by omega⟩
              refine hQ _ _ ⟨1 + a', ?_, by omega, by omega, hb3.mono (by omega), (Same.kp sL).trans of3.kp, of3.at nLb upd_same⟩
              rw [show (1 : Int) + (a' : Int) = ((1 + a' : Nat) : Int) by omega]
          rintro x Hm ⟨c, rfl, c1, c4, hbm, km, eLm⟩
          walk_at "go"
          refine ⟨by omega, by omega, fr_range (lo := 0) (n := c) (fun i σ H' => ∃ (fs : List Str) (ok : Option V), σ = [some (.ref b), some (.str z), some (vi p), some (.int room), some (.int way), none, none, some v1, some (.ref L), ok, none] ∧
            H' L = some (.lst (fs.map V.str)) ∧ fs.length = i ∧ (∀ f ∈ fs, Face f) ∧ IsBag H' b (n + 2 + 1000 * p' + 12 * i) ∧ Kp b H2 H') ⟨[], none, rfl, eLm, rfl, (fun f h => absurd h (by simp)), hbm, km⟩ ?_ ?_⟩
          · rintro i σ H3 hi ⟨fs, ok, rfl, eL, hfl, hff, hb3, k3⟩
            walk_at "go"
            refine ⟨tyL (SqL.of eL), ?_⟩
            walk_at "go"
            intro D hD
            have nDb := hb3.ne hD
            refine lc_gen walk_sgn (fun _ => rfl) (fun acc H' => ∃ cs : List Nat, acc = (cs.map one).map V.str ∧ (∀ c ∈ cs, c ∈ tl z) ∧ IsBag H' b (n + 2 + 1000 * p' + 12 * i + acc.length) ∧ Kp b H3 H') ⟨[], rfl, (fun x h => absurd h (by simp)), hb3.new hD, Same.kp (same_new hD)⟩ (fun _ _ _ _ => trivial) ?_ ?_
            · rintro j y acc H4 hy hl hacc ⟨cs, rfl, hcs, hb4, k4⟩
              have hjz : j < (tl z).length := by have := (List.getElem?_eq_some_iff.mp hy).1; rw [List.length_map, sgn_len, len_tl] at this; exact this
              rw [hl] at hb4
              walk_at "go"
              refine ⟨b, .str z, _, _, rfl, hb4, by omega, .inl ⟨z, rfl, rfl, by omega⟩, ?_, fun x H5 hx hb5 of5 => ?_⟩
              · intro q
                have := congrArg List.length q
                rw [List.length_map, sgn_len, List.length_nil] at this
                omega
              obtain ⟨ch, hch, rfl⟩ := mem_sgn hx
              have e5 := of5.at nDb hacc
              refine pp_next e5 hl (line_small (by omega)) ⟨cs ++ [ch], ?_, ?_, ?_, ?_⟩
              · rw [List.map_append, List.map_append]; rfl
              · intro x hx
                rcases List.mem_append.mp hx with hx | hx
                · exact hcs x hx
                · simp only [List.mem_cons, List.not_mem_nil, or_false] at hx
                  rw [hx]; exact hch
              · rw [List.length_append, hl]
                exact bag_upd hb5 nDb
              · exact kp_upd' (k4.trans of5.kp) hD
            · rintro acc H4 hl hacc ⟨cs, rfl, hcs, hb4, k4⟩
              rw [List.length_map, List.length_map, List.length_map, sgn_len, len_tl] at hl
              rw [List.length_map, List.length_map, hl] at hb4
              walk_at "go"
              refine ⟨_, D, cs.map one, rfl, rfl, .inl (SqL.of hacc), ?_, ?_⟩
              · have := sum_le (ys := cs.map one) (b := 1) (fun p hp => by obtain ⟨x, hx, rfl⟩ := List.mem_map.mp hp; exact Nat.le_refl 1)
                rw [List.length_map] at this ⊢
                have e : ("" : Str).length = 0 := by decide
                rw [e]
                omega
              walk_at "go"
              have eL4 : H4 L = some (.lst (fs.map V.str)) := k4 _ _ nLb eL
              refine ⟨L, _, _, rfl, rfl, eL4, line_small (by rw [List.length_map]; omega), ?_⟩
              walk_at "go"
              have et : tl (Txt.join ("" : Str) (cs.map one)) = cs := by
                have : Txt.join ("" : Str) (cs.map one) = Str.join "" (cs.map one) := TL.join_eq _ _
                rw [this]
                exact join_ones cs
              refine ⟨fs ++ [Txt.join ("" : Str) (cs.map one)], _, rfl, ?_, by rw [List.length_append, hfl]; rfl, ?_, ?_, ?_⟩
              · rw [upd_same, List.map_append]; rfl
              · intro f hf
                rcases List.mem_append.mp hf with hf | hf
                · exact hff f hf
                · simp only [List.mem_cons, List.not_mem_nil, or_false] at hf
                  rw [hf]
                  exact good_face hz (by rw [et]; exact hl) (by rw [et]; exact hcs)
              · exact bag_upd (hb4.mono (by omega)) nLb
              · exact kp_upd' (k3.trans k4) hL
          · rintro σ H3 ⟨fs, ok, rfl, eL, hfl, hff, hb3, k3⟩
            walk_at "go"
            refine ⟨_, _, rfl, .inl ⟨SqL.of eL, fun t ht => ?_⟩⟩
            walk_at "go"
            refine ⟨(by show 3 ≤ sizeLine; decide), fun q hq => ?_⟩
            have s5 := same_new (o := HO.tup (fs.map V.str)) ht
            have s6 := same_new (o := HO.tup [.str "faces", .ref t, v1]) hq
            refine k _ _ (.n1 (.faces fs) r1) ⟨⟨?_, by omega, hff⟩, rfl, ok1⟩ (by show r1.parts + 1 = p; omega) (((hb3.mono (by omega)).new ht).new hq) (k12.trans (k3.trans ((Same.kp s5).trans (Same.kp s6)))) ?_
            · intro q; rw [q] at hfl; simp at hfl; omega
            have et : (upd H3 t (.tup (fs.map V.str))) t = some (.tup (fs.map V.str)) := upd_same
            refine .tup (SqT.of upd_same) (.cons (.str _) (.cons (.tup (SqT.of (s6 _ _ et)) (dpA_strs.mpr rfl)) (.cons (dp_pure (KT.trans (bag_kt hb2 k3) (KT.trans (Same.kt s5) (Same.kt s6))) _ _ r1.pure d2) .nil)))
        walk_at "go"
        refine ⟨(by show 2 ≤ sizeLine; decide), fun q hq => ?_⟩
        have s5 := same_new (o := HO.tup [.str "not", v1]) hq
        refine k _ _ (.n1 .not r1) ⟨trivial, rfl, ok1⟩ (by show r1.parts + 1 = p; omega) ((hb2.mono (by omega)).new hq) (k12.trans (Same.kp s5)) ?_
        exact .tup (SqT.of upd_same) (.cons (.str _) (.cons (dp_pure (Same.kt s5) _ _ r1.pure d2) .nil))
theorem tx_all {f : Addr} {fd : FuncData} (F : Fun K "_law_text_rule" "_law_text_rule" sLTextRule f fd) (B : Bl mg) (Op : OPick P w K mg base) (Oo : OOneOf P w K mg base) (Olf : OLeaf P w K mg base)
    (m : mg "_law_text_rule" = some (.ref f)) (b : Binds K fd ["_law_bag", "_law_signs", "_law_parts", "_law_room"] []) : ∀ n : Nat, OTextRule n P w K mg base
  | 0 => ⟨f, fd, none_ok fun vs H Q E h => by obtain ⟨_, _, _, _, _, _, _, _, _, _, h, _⟩ := h; omega, m, F.kp, b⟩
  | n + 1 => ⟨f, fd, ok_textRule F B Op Oo Olf (tx_all F B Op Oo Olf m b n), m, F.kp, b⟩
end
end K4

/-! L7e -/


namespace K4
open PySem L2 K1
abbrev sLDeedOf : Stmt := top 104
abbrev nLDeedOf : List Str := ["_law_bag", "_law_names", "_law_way", "_law_many", "_law_paper", "_law_parts"]
theorem scLDeedOf : FnScope nLDeedOf ["_law_bag", "_law_names"] (defScope sLDeedOf) := ⟨rfl, rfl, rfl, by decide +kernel, rfl, by decide +kernel, by decide +kernel⟩
theorem fdiv_240 {p : Nat} (h : 1 ≤ p) : 0 ≤ (240 : Int).fdiv (p : Int) ∧ (240 : Int).fdiv (p : Int) ≤ 240 := by
  rw [Int.fdiv_eq_ediv_of_nonneg _ (by omega)]
  exact ⟨Int.ediv_nonneg (by decide) (by omega), Int.ediv_le_self _ (by decide)⟩
def spDeedOf (K : PySem.W.Frag) : Sp := fun vs H Q _ => ∃ (b L : Addr) (ns : List Str) (n : Nat), vs = [.ref b, .ref L] ∧ IsBag H b n ∧ n ≤ 2 ^ 38 ∧ H L = some (.lst (ns.map V.str)) ∧ ns ≠ [] ∧ ns.length ≤ 1000 ∧ (∀ x ∈ ns, isNm x = true) ∧
  ∀ H' v (d : Deed), d.ok → IsBag H' b (n + 100000) → Kp b H H' → Dp K H' v (d.data true) → Q v H'
section
variable {P : Program} {w : World} {K : PySem.W.Frag} {mg : Str → Option Value} {base : Heap}
abbrev OPaperOf (P : Program) (w : World) (K : PySem.W.Frag) (mg : Str → Option Value) (base : Heap) : Prop := Own P w K mg base "_law_paper_of" 3 ["_law_bag", "_law_signs", "_law_most"] spPaperOf
abbrev OMany (P : Program) (w : World) (K : PySem.W.Frag) (mg : Str → Option Value) (base : Heap) : Prop := Own P w K mg base "_law_many_signs" 3 ["_law_bag"] spMany
theorem ok_deedOf {f : Addr} {fd : FuncData} (F : Fun K "_law_deed_of" "_law_deed_of" sLDeedOf f fd) (B : Bl mg) (Op : OPick P w K mg base) (Oo : OOneOf P w K mg base) (Opa : OPaperOf P w K mg base) (Otx : OTextRule 46 P w K mg base) (Om : OMany P w K mg base) : FnOk P w K mg base CX0 50 f fd ["_law_bag", "_law_names"] (spDeedOf K) := by
  refine F.ok scLDeedOf (fun vs H Q E h => ?_) (fun cdv A outer s H vs Q E hr h => ?_)
  · obtain ⟨b, L, ns, n, rfl, _⟩ := h
    rfl
  · obtain ⟨b, L, ns, n, rfl, hb, hn, eL, hne, hl, hnm, k⟩ := h
    have nLb : L ≠ b := ne_bagS hb eL
    refine ⟨_, (pss_cons (ps_set (i := 2) scLDeedOf.nd rfl (Or.inl rfl) (pe_own Op (hr.mono (by omega)) (pa_cons (pv 0) (pa_cons pe_int pa_nil)))) (pss_cons (ps_set (i := 3) scLDeedOf.nd rfl (Or.inl rfl) (pe_ix ix_list (pe_lst (pa_cons pe_int (pa_cons pe_int (pa_cons (pe_op op_add pe_int (pe_own Op (hr.mono (by omega)) (pa_cons (pv 0) (pa_cons pe_int pa_nil)))) pa_nil)))) (pe_own Op (hr.mono (by omega)) (pa_cons (pv 0) (pa_cons pe_int pa_nil))) (fun _ _ => rfl))) (pss_cons (ps_if (pt_cmpR op_eq (pv 2) pe_int (nomark _)) (pss_one (ps_ret (pe_tup (pa_cons pe_str (pa_cons (pe_own Oo (hr.mono (by omega)) (pa_cons (pv 0) (pa_cons (pv 1) pa_nil))) (pa_cons (pv 3) pa_nil)))))) pss_nil) (pss_cons (ps_if (pt_cmpR op_eq (pv 2) pe_int (nomark _)) (pss_one (ps_ret (pe_tup (pa_cons pe_str (pa_cons (pe_own Oo (hr.mono (by omega)) (pa_cons (pv 0) (pa_cons (pv 1) pa_nil))) (pa_cons (pe_own Oo (hr.mono (by omega)) (pa_cons (pv 0) (pa_cons (pv 1) pa_nil))) (pa_cons (pv 3) pa_nil))))))) pss_nil) (pss_cons (ps_if (pt_cmpR op_eq (pv 2) pe_int (nomark _)) (pss_one (ps_ret (pe_tup (pa_cons pe_str (pa_cons (pe_own Oo (hr.mono (by omega)) (pa_cons (pv 0) (pa_cons (pv 1) pa_nil))) (pa_cons (pe_own Oo (hr.mono (by omega)) (pa_cons (pv 0) (pa_cons (pv 1) pa_nil))) pa_nil)))))) pss_nil) (pss_cons (ps_if (pt_cmpR op_lt (pv 2) pe_int (nomark _)) (pss_cons (ps_set (i := 4) scLDeedOf.nd rfl (Or.inl rfl) (pe_own Opa (hr.mono (by omega)) (pa_cons (pv 0) (pa_cons pe_str (pa_cons (pe_ix ix_list (pe_lst (pa_cons pe_int (pa_cons pe_int (pa_cons pe_int pa_nil)))) (pe_own Op (hr.mono (by omega)) (pa_cons (pv 0) (pa_cons pe_int pa_nil))) (fun _ _ => rfl)) pa_nil))))) (pss_one (ps_ret (pe_tup (pa_cons (pe_ix ix_list (pe_lst (pa_cons pe_str (pa_cons pe_str pa_nil))) (pe_op op_sub (pv 2) pe_int) (fun _ _ => rfl)) (pa_cons (pe_own Oo (hr.mono (by omega)) (pa_cons (pv 0) (pa_cons (pv 1) pa_nil))) (pa_cons (pv 4) pa_nil))))))) pss_nil) (pss_cons (ps_if (pt_cmpR op_eq (pv 2) pe_int (nomark _)) (pss_one (ps_ret (pe_tup (pa_cons pe_str pa_nil)))) pss_nil) (pss_cons (ps_set (i := 5) scLDeedOf.nd rfl (Or.inl rfl) (pe_ix ix_list (pe_lst (pa_cons pe_int (pa_cons pe_int (pa_cons pe_int (pa_cons pe_int (pa_cons pe_int (pa_cons pe_int (pa_cons pe_int (pa_cons pe_int pa_nil))))))))) (pe_own Op (hr.mono (by omega)) (pa_cons (pv 0) (pa_cons pe_int pa_nil))) (fun _ _ => rfl))) (pss_one (ps_ret (pe_tup (pa_cons pe_str (pa_cons (pe_own Oo (hr.mono (by omega)) (pa_cons (pv 0) (pa_cons (pv 1) pa_nil))) (pa_cons (pe_own Otx (hr.mono (by omega)) (pa_cons (pv 0) (pa_cons (pe_own Om (hr.mono (by omega)) (pa_cons (pv 0) pa_nil)) (pa_cons (pv 5) (pa_cons (pe_op op_add pe_int (pe_op op_fdivN pe_int (pv 5))) pa_nil))))) pa_nil)))))))))))))), ?_⟩
    try dsimp only [cxOf, Cx.nox, Cx.wish]
    have one : ∀ {H1 : Hp} {n1 : Nat} {Q1 : VK} {E1 : XK}, IsBag H1 b n1 → n1 ≤ 2 ^ 39 → Kp b H H1 → (∀ x H2, isNm x = true → IsBag H2 b (n1 + 1) → Kp b H H2 → Q1 (.str x) H2) → spOneOf K [.ref b, .ref L] H1 Q1 E1 := fun {H1 n1 Q1 E1} hb1 hn1 k1 q => by
      refine ⟨b, _, ns.map V.str, n1, rfl, hb1, by omega, .inr ⟨L, rfl, SqL.of (k1 _ _ nLb eL), nLb, by rw [List.length_map]; exact hl⟩, (by simp [hne]), fun v H2 hv hb2 of2 => ?_⟩
      obtain ⟨x, hx, rfl⟩ := List.mem_map.mp hv
      exact q x H2 (hnm x hx) hb2 (k1.trans of2.kp)
    walk_at "go"
    refine ⟨b, 8, n, rfl, hb, by omega, by decide, fun way H1 w0 w1 hb1 of1 => ?_⟩
    walk_at "go"
    refine ⟨b, 20, n + 1, rfl, hb1, by omega, by decide, fun r H2 r0 r1 hb2 of2 => ?_⟩
    walk_at "go"
    refine ⟨(by show 3 ≤ sizeLine; decide), fun p0 h0 => ?_⟩
    have n0b := hb2.ne h0
    have s2 := same_new (o := HO.lst [V.int 1, V.int 20, V.int (1 + r)]) h0
    walk_at "go"
    refine ⟨b, 3, n + 2, rfl, hb2.same s2, by omega, by decide, fun r' H3 r0' r1' hb3 of3 => ?_⟩
    obtain ⟨v, ev, hv, _⟩ := at_nat' (xs := [V.int 1, V.int 20, V.int (1 + r)]) r0' (by show r' < 3; omega)
    obtain ⟨m, rfl, m1, m20⟩ : ∃ m : Nat, v = vi m ∧ 1 ≤ m ∧ m ≤ 20 := by
      simp only [List.mem_cons, List.not_mem_nil, or_false] at hv
      rcases hv with rfl | rfl | rfl
      · exact ⟨1, rfl, by decide, by decide⟩
      · exact ⟨20, rfl, by decide, by decide⟩
      · exact ⟨(1 + r).toNat, congrArg V.int (by omega), by omega, by omega⟩
    refine r_ixL (SqL.of (of3.at n0b upd_same)) ev ?_
    have k3 : Kp b H H3 := of1.kp.trans (of2.kp.trans ((Same.kp s2).trans of3.kp))
    have w10 : way < 8 := by omega
    walk_at "go"
    refine r_ite (fun h => ?_) (fun h0' => ?_)
    · walk_at "go"
      refine one hb3 (by omega) k3 (fun x H4 hx hb4 k4 => ?_)
      walk_at "go"
      refine ⟨(by show 3 ≤ sizeLine; decide), fun t ht => ?_⟩
      refine k _ _ ⟨0, [.name x, .many m]⟩ ⟨by show 0 < 7; decide, rfl, fun p hp => ?_⟩ ((hb4.mono (by omega)).new ht) (k4.trans (Same.kp (same_new ht))) (.tup (SqT.of upd_same) (.cons (.str _) (.cons (.str _) (.cons (.int _) .nil))))
      simp only [List.mem_cons, List.not_mem_nil, or_false] at hp
      rcases hp with rfl | rfl
      · exact hx
      · exact ⟨m1, m20⟩
    walk_at "go"
    refine r_ite (fun h => ?_) (fun h1' => ?_)
    · walk_at "go"
      refine one hb3 (by omega) k3 (fun x H4 hx hb4 k4 => ?_)
      walk_at "go"
      refine one hb4 (by omega) k4 (fun y H5 hy hb5 k5 => ?_)
      walk_at "go"
      refine ⟨(by show 4 ≤ sizeLine; decide), fun t ht => ?_⟩
      refine k _ _ ⟨1, [.name x, .name y, .many m]⟩ ⟨by show 1 < 7; decide, rfl, fun p hp => ?_⟩ ((hb5.mono (by omega)).new ht) (k5.trans (Same.kp (same_new ht))) (.tup (SqT.of upd_same) (.cons (.str _) (.cons (.str _) (.cons (.str _) (.cons (.int _) .nil)))))
      simp only [List.mem_cons, List.not_mem_nil, or_false] at hp
      rcases hp with rfl | rfl | rfl
      · exact hx
      · exact hy
      · exact ⟨m1, m20⟩
    walk_at "go"
    refine r_ite (fun h => ?_) (fun h2' => ?_)
    · walk_at "go"
      refine one hb3 (by omega) k3 (fun x H4 hx hb4 k4 => ?_)
      walk_at "go"
      refine one hb4 (by omega) k4 (fun y H5 hy hb5 k5 => ?_)
      walk_at "go"
      refine ⟨(by show 3 ≤ sizeLine; decide), fun t ht => ?_⟩
      refine k _ _ ⟨2, [.name x, .name y]⟩ ⟨by show 2 < 7; decide, rfl, fun p hp => ?_⟩ ((hb5.mono (by omega)).new ht) (k5.trans (Same.kp (same_new ht))) (.tup (SqT.of upd_same) (.cons (.str _) (.cons (.str _) (.cons (.str _) .nil))))
      simp only [List.mem_cons, List.not_mem_nil, or_false] at hp
      rcases hp with rfl | rfl
      · exact hx
      · exact hy
    walk_at "go"
    refine r_iteN' (fun h5 => ?_) (fun h5 => ?_)
    · have e34 : way = 3 ∨ way = 4 := by
        have a0 : way ≠ 0 := fun q => h0' (by rw [q])
        have a1 : way ≠ 1 := fun q => h1' (by rw [q])
        have a2 : way ≠ 2 := fun q => h2' (by rw [q])
        omega
      walk_at "go"
      refine ⟨(by show 3 ≤ sizeLine; decide), fun p1 hp1 => ?_⟩
      have n1b := hb3.ne hp1
      have s4 := same_new (o := HO.lst [V.int 0, V.int 4, V.int 60]) hp1
      walk_at "go"
      refine ⟨b, 3, n + 2 + 1, rfl, hb3.same s4, by omega, by decide, fun q H5 q0 q1 hb5 of5 => ?_⟩
      obtain ⟨v2, ev2, hv2, _⟩ := at_nat' (xs := [V.int 0, V.int 4, V.int 60]) q0 (by show q < 3; omega)
      obtain ⟨ms, rfl, ms0, ms60⟩ : ∃ ms : Int, v2 = .int ms ∧ 0 ≤ ms ∧ ms ≤ 60 := by
        simp only [List.mem_cons, List.not_mem_nil, or_false] at hv2
        rcases hv2 with rfl | rfl | rfl
        · exact ⟨0, rfl, by decide, by decide⟩
        · exact ⟨4, rfl, by decide, by decide⟩
        · exact ⟨60, rfl, by decide, by decide⟩
      refine r_ixL (SqL.of (of5.at n1b upd_same)) ev2 ?_
      walk_at "go"
      have k5 : Kp b H H5 := k3.trans ((Same.kp s4).trans of5.kp)
      refine ⟨b, K4.ALL, ms, n + 4, rfl, hb5.mono (by omega), by omega, by decide +kernel, by decide +kernel, ms0, ms60, fun x H6 xl xc hb6 of6 => ?_⟩
      walk_at "go"
      refine ⟨(by show 2 ≤ sizeLine; decide), fun p2 hp2 => ?_⟩
      have s6 := same_new (o := HO.lst [V.str "void", V.str "again"]) hp2
      walk_at "go"
      have fin : ∀ c : Nat, (c = 3 ∨ c = 4) → ∀ (z : Str) (H8 : Hp), isNm z = true → IsBag H8 b (n + 4 + 100 + 1) → Kp b H H8 → (3 ≤ sizeLine ∧ ∀ t, H8 t = none → Q (.ref t) (upd H8 t (.tup [.str (K4.dw c), .str z, .str x]))) := fun c hc z H8 hz hb8 k8 => by
        refine ⟨by decide, fun t ht => ?_⟩
        refine k _ _ ⟨c, [.name z, .paper x]⟩ ⟨by show c < 7; omega, by rcases hc with rfl | rfl <;> rfl, fun p hp => ?_⟩ ((hb8.mono (by omega)).new ht) (k8.trans (Same.kp (same_new ht))) (.tup (SqT.of upd_same) (.cons (.str _) (.cons (.str _) (.cons (.str _) .nil))))
        simp only [List.mem_cons, List.not_mem_nil, or_false] at hp
        rcases hp with rfl | rfl
        · exact hz
        · exact ⟨by omega, xc⟩
      have k6 : Kp b H (upd H6 p2 (HO.lst [V.str "void", V.str "again"])) := k5.trans (of6.kp.trans (Same.kp s6))
      rcases e34 with rfl | rfl
      · refine r_ixL (SqL.of upd_same) (v := .str "void") (by decide +kernel) ?_
        walk_at "go"
        refine one (hb6.same s6) (by omega) k6 (fun z H8 hz hb8 k8 => ?_)
        walk_at "go"
        exact fin 3 (.inl rfl) z H8 hz hb8 k8
      · refine r_ixL (SqL.of upd_same) (v := .str "again") (by decide +kernel) ?_
        walk_at "go"
        refine one (hb6.same s6) (by omega) k6 (fun z H8 hz hb8 k8 => ?_)
        walk_at "go"
        exact fin 4 (.inr rfl) z H8 hz hb8 k8
    walk_at "go"
    refine r_ite (fun h => ?_) (fun h6 => ?_)
    · walk_at "go"
      refine ⟨(by show 1 ≤ sizeLine; decide), fun t ht => ?_⟩
      exact k _ _ ⟨5, []⟩ ⟨by show 5 < 7; decide, rfl, fun p hp => by cases hp⟩ ((hb3.mono (by omega)).new ht) (k3.trans (Same.kp (same_new ht))) (.tup (SqT.of upd_same) (.cons (.str _) .nil))
    walk_at "go"
    refine ⟨(by show 8 ≤ sizeLine; decide), fun p1 hp1 => ?_⟩
    have n1b := hb3.ne hp1
    have s4 := same_new (o := HO.lst [V.int 1, V.int 1, V.int 1, V.int 2, V.int 2, V.int 3, V.int 4, V.int 40]) hp1
    walk_at "go"
    refine ⟨b, 8, n + 2 + 1, rfl, hb3.same s4, by omega, by decide, fun q H5 q0 q1 hb5 of5 => ?_⟩
    obtain ⟨v2, ev2, hv2, _⟩ := at_nat' (xs := [V.int 1, V.int 1, V.int 1, V.int 2, V.int 2, V.int 3, V.int 4, V.int 40]) q0 (by show q < 8; omega)
    obtain ⟨pp, rfl, pp1, pp40⟩ : ∃ pp : Nat, v2 = vi pp ∧ 1 ≤ pp ∧ pp ≤ 40 := by
      simp only [List.mem_cons, List.not_mem_nil, or_false] at hv2
      rcases hv2 with rfl | rfl | rfl | rfl | rfl | rfl | rfl | rfl
      · exact ⟨1, rfl, by decide, by decide⟩
      · exact ⟨1, rfl, by decide, by decide⟩
      · exact ⟨1, rfl, by decide, by decide⟩
      · exact ⟨2, rfl, by decide, by decide⟩
      · exact ⟨2, rfl, by decide, by decide⟩
      · exact ⟨3, rfl, by decide, by decide⟩
      · exact ⟨4, rfl, by decide, by decide⟩
      · exact ⟨40, rfl, by decide, by decide⟩
    refine r_ixL (SqL.of (of5.at n1b upd_same)) ev2 ?_
    have k5 : Kp b H H5 := k3.trans ((Same.kp s4).trans of5.kp)
    walk_at "go"
    refine one hb5 (by omega) k5 (fun x H6 hx hb6 k6 => ?_)
    walk_at "go"
    refine ⟨b, _, rfl, hb6, by omega, fun z H7 hz hb7 k7 => ?_⟩
    walk_at "go"
    refine r_I ⟨by omega, by omega⟩ ?_
    have hq := fdiv_240 pp1
    walk_at "go"
    refine ⟨b, z, pp, _, _, rfl, hz, hb7, by omega, pp1, by omega, by omega, by omega, by omega, fun H8 v r ok pr hb8 k8 d8 => ?_⟩
    walk_at "go"
    refine ⟨(by show 3 ≤ sizeLine; decide), fun t ht => ?_⟩
    refine k _ _ ⟨6, [.name x, .rule r]⟩ ⟨by show 6 < 7; decide, rfl, fun p hp => ?_⟩ ((hb8.mono (by omega)).new ht) (k6.trans (k7.trans (k8.trans (Same.kp (same_new ht))))) (.tup (SqT.of upd_same) (.cons (.str _) (.cons (.str _) (.cons (dp_pure (Same.kt (same_new ht)) _ _ r.pure d8) .nil))))
    simp only [List.mem_cons, List.not_mem_nil, or_false] at hp
    rcases hp with rfl | rfl
    · exact hx
    · exact ⟨ok, by omega⟩
end
end K4

/-! L7p -/


namespace K4
open PySem L2 K1
abbrev sLLaw : Stmt := top 111
abbrev nLLaw : List Str := ["_law_script", "_law_bag", "_law_names", "_law_deeds", "_law_k", "_law_lines", "_law_listed", "_law_told", "_law_turn", "_law_at", "_law_spoilt", "_law_deed"]
theorem scLLaw : FnScope nLLaw ["_law_script"] (defScope sLLaw) := ⟨rfl, rfl, rfl, by decide +kernel, rfl, by decide +kernel, by decide +kernel⟩
def spLaw (K : PySem.W.Frag) : Sp := fun vs H Q _ => ∃ (a : Addr) (ns : List Int), vs = [.ref a] ∧ SqL K H a (ns.map V.int) ∧ ns.length ≤ 63 ∧ ∀ H', Q (.bl true) H'
theorem FnOk.calm {P : Program} {w : World} {K : PySem.W.Frag} {mg : Str → Option Value} {base : Heap} {k : Nat} {f : Addr} {fd : FuncData} {ps : List Str} {sp sp' : Sp} (F : FnOk P w K mg base (L2N.CX P w) k f fd ps sp)
    (h : ∀ vs H Q E, sp' vs H Q E → sp vs H Q (fun _ _ _ => False)) : FnOk P w K mg base CX0 k f fd ps sp' :=
  ⟨fun vs H Q E q => F.len vs H Q _ (h vs H Q E q), fun A outer s H args us vs Q E hr en hb hv q => codeAny_mono (F.run A outer s H args us vs Q _ hr en hb hv (h vs H Q E q)) fun r s' hq => by
    cases r with
    | ok fl => cases fl <;> exact hq
    | error e =>
      obtain ⟨_, _, _, _, _, _, _, _, _, _, _, _, hE⟩ := hq
      exact hE.elim⟩
def spReadOk (K : PySem.W.Frag) : Sp := fun vs H Q _ => ∃ (v : V) (xs : List V) (ls : List (Option Str)) (ds : List PyData), vs = [v] ∧ Sq K H v xs ∧ LnAll K H xs ls ∧ ls.length ≤ 1000 ∧ rdLines 0 ls = .ok ds ∧ ∀ H' t, Same H H' → Dp K H' (.ref t) (.tuple ds) → Q (.ref t) H'
theorem readOk {P : Program} {w : World} {K : PySem.W.Frag} {mg : Str → Option Value} {base : Heap} {CL f : Addr} {fd : FuncData} (F : FnOk P w K mg base (L2N.CX P w) 51 f fd ["lines"] (spReadDeeds K CL)) : FnOk P w K mg base CX0 51 f fd ["lines"] (spReadOk K) :=
  K4.FnOk.calm F fun vs H Q E ⟨v, xs, ls, ds, e, hS, hA, hl, er, k⟩ => ⟨v, xs, ls, e, hS, hA, hl, by rw [er]; exact k⟩
/-- texts of deeds as lines -/
theorem ln_texts {K : PySem.W.Frag} {H : Hp} : ∀ {ds : List Deed}, (∀ d ∈ ds, d.ok) → LnAll K H (ds.map fun d => V.str d.text) (ds.map fun d => some d.text)
  | [], _ => trivial
  | d :: ds, h => ⟨⟨rfl, Nat.le_trans (Deed.text_len (h d (List.mem_cons_self ..))) (by decide)⟩, ln_texts fun x hx => h x (List.mem_cons_of_mem _ hx)⟩
theorem dp_texts {K : PySem.W.Frag} {H : Hp} : ∀ {ds : List Deed}, DpAll K H (ds.map fun d => V.str d.text) (ds.map fun d => PyData.str d.text)
  | [] => .nil
  | _ :: _ => .cons (.str _) dp_texts
section
variable {P : Program} {w : World} {K : PySem.W.Frag} {mg : Str → Option Value} {base : Heap}
abbrev OBagOf (P : Program) (w : World) (K : PySem.W.Frag) (mg : Str → Option Value) (base : Heap) : Prop := Own P w K mg base "_law_bag_of" 1 ["_law_script", "_law_at"] (spBagOf K)
abbrev OFree (P : Program) (w : World) (K : PySem.W.Frag) (mg : Str → Option Value) (base : Heap) : Prop := Own P w K mg base "_law_free_names" 4 ["_law_bag", "_law_many"] spFree
abbrev ODeedOf (P : Program) (w : World) (K : PySem.W.Frag) (mg : Str → Option Value) (base : Heap) : Prop := Own P w K mg base "_law_deed_of" 50 ["_law_bag", "_law_names"] (spDeedOf K)
abbrev OLDeedLine (P : Program) (w : World) (K : PySem.W.Frag) (mg : Str → Option Value) (base : Heap) : Prop := Own P w K mg base "_law_deed_line" 48 ["_law_deed"] (spLDeedLine K)
abbrev OListedL (P : Program) (w : World) (K : PySem.W.Frag) (mg : Str → Option Value) (base : Heap) : Prop := Own P w K mg base "_law_listed_of" 47 ["_law_thing"] (spListedL K 46)
abbrev OWriteDeeds (P : Program) (w : World) (K : PySem.W.Frag) (mg : Str → Option Value) (base : Heap) : Prop := Own P w K mg base "write_deeds" 48 ["deeds"] (spWriteDeeds K)
abbrev ODueOf (P : Program) (w : World) (K : PySem.W.Frag) (mg : Str → Option Value) (base : Heap) : Prop := Own P w K mg base "_law_due_of" 53 ["_law_lines"] (spDue K)
abbrev OReadOk (P : Program) (w : World) (K : PySem.W.Frag) (mg : Str → Option Value) (base : Heap) : Prop := Own P w K mg base "read_deeds" 51 ["lines"] (spReadOk K)
abbrev OSpLines (P : Program) (w : World) (K : PySem.W.Frag) (mg : Str → Option Value) (base : Heap) : Prop := Own P w K mg base "_law_spoilt_lines" 5 ["_law_bag", "_law_lines", "_law_names"] (spSpLines K)
theorem ok_law {f : Addr} {fd : FuncData} (F : Fun K "law" "law" sLLaw f fd) (B : Bl mg) (Ob : OBagOf P w K mg base) (Ofr : OFree P w K mg base) (Op : OPick P w K mg base) (Odo : ODeedOf P w K mg base) (Odl : OLDeedLine P w K mg base) (Oll : OListedL P w K mg base) (Owd : OWriteDeeds P w K mg base)
    (Osm : OSame7 P w K mg base) (Odu : ODueOf P w K mg base) (Ord : OReadOk P w K mg base) (Osl : OSpLines P w K mg base) : FnOk P w K mg base CX0 54 f fd ["_law_script"] (spLaw K) := by
  refine F.ok scLLaw (fun vs H Q E h => ?_) (fun cdv A outer s H vs Q E hr h => ?_)
  · obtain ⟨a, ns, rfl, _⟩ := h
    rfl
  · obtain ⟨a, ns, rfl, hS, hlen, k⟩ := h
    refine ⟨_, (pss_cons (ps_set (i := 1) scLLaw.nd rfl (Or.inl rfl) (pe_own Ob (hr.mono (by omega)) (pa_cons (pv 0) (pa_cons pe_int pa_nil)))) (pss_cons (ps_set (i := 2) scLLaw.nd rfl (Or.inl rfl) (pe_op op_cat (pe_own Ofr (hr.mono (by omega)) (pa_cons (pv 1) (pa_cons pe_int pa_nil))) (pe_lst (pa_cons pe_str (pa_cons pe_str pa_nil))))) (pss_cons (ps_set (i := 3) scLLaw.nd rfl (Or.inl rfl) (pe_lst pa_nil)) (pss_cons (ps_for PassesOwn.never rfl (pi_range1 rfl B.range (pa_cons (pe_op op_add (pe_own Op (hr.mono (by omega)) (pa_cons (pv 1) (pa_cons pe_int pa_nil))) (pe_callB (call_min2 rfl) (by rfl) B.min (by decide +kernel) (pa_cons (pe_callB call_len (by rfl) B.len PySem.boot_len (pa_cons (pv 0) pa_nil)) (pa_cons pe_int pa_nil)))) pa_nil)) (pg_name (i := 4) scLLaw.nd rfl (Or.inl rfl)) (pss_one (ps_expr (pe_bm PySem.F.plainAttrs_list PySem.F.slot_list_append PySem.F.type_list_append mt_append (pv 3) (pa_cons (pe_own Odo (hr.mono (by omega)) (pa_cons (pe_own Ob (hr.mono (by omega)) (pa_cons (pv 0) (pa_cons (pe_op op_add pe_int (pv 4)) pa_nil))) (pa_cons (pv 2) pa_nil))) pa_nil))))) (pss_cons (ps_setLc (i := 5) (own := [("_law_deed", 11)]) (g := gName 11) (tt := tYes) rfl scLLaw.nd rfl rfl (sw_true rfl rfl rfl (by decide +kernel)) (pi_list (pv 3)) (blkOk_by (N := nLLaw) (sc := defScope sLLaw) (by decide +kernel)) (fun _ _ _ _ _ => (pg_name (i := 11) scLLaw.nd rfl (Or.inl rfl))) (fun _ _ _ _ _ => pts_nil) (fun _ _ _ _ _ => (pe_own Odl (hr.mono (by omega)) (pa_cons (pv 11) pa_nil)))) (pss_cons (ps_set (i := 6) scLLaw.nd rfl (Or.inl rfl) (pe_own Oll (hr.mono (by omega)) (pa_cons (pv 3) pa_nil))) (pss_cons (ps_for PassesOwn.never rfl (pi_tup (pe_tup (pa_cons (pe_own Owd (hr.mono (by omega)) (pa_cons (pv 3) pa_nil)) (pa_cons (pe_own Owd (hr.mono (by omega)) (pa_cons (pe_callTy call_tuple_of (by rfl) B.tuple (by decide +kernel) (pa_cons (pv 3) pa_nil)) pa_nil)) (pa_cons (pe_own Owd (hr.mono (by omega)) (pa_cons (pv 6) pa_nil)) pa_nil))))) (pg_name (i := 7) scLLaw.nd rfl (Or.inl rfl)) (pss_one (ps_if (pt_not (pt_val (pe_own Osm (hr.mono (by omega)) (pa_cons (pv 7) (pa_cons (pe_callTy call_tuple_of (by rfl) B.tuple (by decide +kernel) (pa_cons (pv 5) pa_nil)) pa_nil))))) (pss_one (ps_ret pe_bl)) pss_nil))) (pss_cons (ps_if (PW.pt (pw_or (pt_cmpR (op_neD hr.units) (pv 6) (pe_own Oll (hr.mono (by omega)) (pa_cons (pv 3) pa_nil)) (nomark _)) (pw_or (pt_not (pt_val (pe_own Odu (hr.mono (by omega)) (pa_cons (pv 5) pa_nil)))) (pw_or1 (pt_not (pt_val (pe_own Osm (hr.mono (by omega)) (pa_cons (pe_own Ord (hr.mono (by omega)) (pa_cons (pe_callTy call_tuple_of (by rfl) B.tuple (by decide +kernel) (pa_cons (pv 5) pa_nil)) pa_nil)) (pa_cons (pe_callTy call_tuple_of (by rfl) B.tuple (by decide +kernel) (pa_cons (pv 3) pa_nil)) pa_nil))))))))) (pss_one (ps_ret pe_bl)) pss_nil) (pss_cons (ps_if (pt_not (PW.pt (pw_and (pt_val (pe_own Odu (hr.mono (by omega)) (pa_cons (pe_lst (pa_cons pe_str pa_nil)) pa_nil))) (pw_and (pt_val (pe_own Odu (hr.mono (by omega)) (pa_cons (pe_lst (pa_cons pe_non pa_nil)) pa_nil))) (pw_and (pt_val (pe_own Odu (hr.mono (by omega)) (pa_cons (pe_lst (pa_cons pe_str (pa_cons pe_str pa_nil))) pa_nil))) (pw_and1 (pt_val (pe_own Odu (hr.mono (by omega)) (pa_cons (pe_lst pa_nil) pa_nil))))))))) (pss_one (ps_ret pe_bl)) pss_nil) (pss_cons (ps_if (pt_not (pt_truth (pv 5) (by intro _; rfl))) (pss_one (ps_ret pe_bl)) pss_nil) (pss_cons (ps_set (i := 1) scLLaw.nd rfl (Or.inl rfl) (pe_own Ob (hr.mono (by omega)) (pa_cons (pv 0) (pa_cons pe_int pa_nil)))) (pss_cons (ps_for PassesOwn.never rfl (pi_range1 rfl B.range (pa_cons pe_int pa_nil)) (pg_name (i := 8) scLLaw.nd rfl (Or.inl rfl)) (pss_cons (ps_set (i := 9) scLLaw.nd rfl (Or.inl rfl) (pe_own Op (hr.mono (by omega)) (pa_cons (pv 1) (pa_cons (pe_callB call_len (by rfl) B.len PySem.boot_len (pa_cons (pv 5) pa_nil)) pa_nil)))) (pss_cons (ps_set (i := 10) scLLaw.nd rfl (Or.inl rfl) (pe_own Osl (hr.mono (by omega)) (pa_cons (pv 1) (pa_cons (pe_ifExp (pt_cmpR op_eq (pv 8) pe_int (nomark _)) (pv 5) (pe_slice sl_list (pv 5) (po_some (pv 9)) (po_some (pe_op op_add (pv 9) pe_int)))) (pa_cons (pv 2) pa_nil))))) (pss_one (ps_if (PW.pt (pw_or (pt_not (pt_val (pe_own Odu (hr.mono (by omega)) (pa_cons (pv 10) pa_nil)))) (pw_or1 (PW.pt (pw_and (pt_truth (pv 10) (by intro _; rfl)) (pw_and1 (pt_not (pt_val (pe_own Odu (hr.mono (by omega)) (pa_cons (pe_own Osl (hr.mono (by omega)) (pa_cons (pv 1) (pa_cons (pv 10) (pa_cons (pv 2) pa_nil)))) pa_nil)))))))))) (pss_one (ps_ret pe_bl)) pss_nil))))) (pss_one (ps_ret (pe_own Odu (hr.mono (by omega)) (pa_cons (pv 5) pa_nil)))))))))))))))), ?_⟩
    try dsimp only [cxOf, Cx.nox, Cx.wish]
    walk_at "go"
    refine ⟨a, ns, 0, rfl, hS, hlen, Int.le_refl 0, by decide, fun H1 b0 s1 hb0 hb1 => ?_⟩
    walk_at "go"
    refine ⟨b0, 0, rfl, hb1, by decide, fun nms H2 p2 nl nok hb2 k2 fp np e2 => ?_⟩
    have sm2 : Same H H2 := fun c o e => k2 c o (ne_of_none e hb0) (s1 _ _ e)
    refine cat_new e2 (by rw [List.length_map, nl]; decide) (fun H3 L s3 x3 => ?_)
    obtain ⟨names, eL, nml, nmne, nmok⟩ : ∃ names : List Str, H3 L = some (.lst (names.map V.str)) ∧ names.length ≤ 100 ∧ names ≠ [] ∧ ∀ x ∈ names, isNm x = true := by
      refine ⟨nms ++ (["abcdefgh", "q"] : List Str), by rw [x3, List.map_append]; rfl, by rw [List.length_append, nl]; decide, by simp, fun x hx => ?_⟩
      rcases List.mem_append.mp hx with q | q
      · exact nok x q
      · simp only [List.mem_cons, List.not_mem_nil, or_false] at q
        rcases q with rfl | rfl <;> decide +kernel
    clear x3
    have sm3 := sm2.trans s3
    have hb3 := hb2.same s3
    have nLb : L ≠ b0 := ne_bagS hb3 eL
    walk_at "go"
    refine ⟨(by show 0 ≤ sizeLine; decide), fun D hD => ?_⟩
    have sD := same_new (o := HO.lst []) hD
    have nDb := hb3.ne hD
    have nLD : L ≠ D := fun q => by rw [q, hD] at eL; cases eL
    walk_at "go"
    refine ⟨b0, 4, _, rfl, hb3.same sD, by decide, by decide, fun r H5 r0 r1 hb5 of5 => ?_⟩
    have sm5 : Same H H5 := fun c o e => of5.at (ne_of_none e hb0) (sD _ _ (sm3 _ _ e))
    have eL5 : H5 L = some (.lst (names.map V.str)) := of5.at nLb (sD _ _ eL)
    have eD5 : H5 D = some (.lst []) := of5.at nDb upd_same
    have hDH : H D = none := sm3.free hD
    walk_at "go"
    refine ⟨_, _, rfl, lenL (sm5.seq hS), ?_⟩
    walk_at "go"
    refine ⟨_, _, rfl, ?_⟩
    obtain ⟨m, hm, hm43⟩ : ∃ m : Nat, r + (if (40 : Int) < ((ns.map V.int).length : Int) then 40 else ((ns.map V.int).length : Int)) = (m : Int) ∧ m ≤ 43 := by
      rw [List.length_map]
      by_cases q : (40 : Int) < (ns.length : Int)
      · rw [if_pos q]; exact ⟨(r + 40).toNat, by omega, by omega⟩
      · rw [if_neg q]; exact ⟨(r + ns.length).toNat, by omega, by omega⟩
    refine K1.r_I0 ?_
    rw [hm]
    walk_at "go"
    refine ⟨by omega, by omega, fr_range (lo := 0) (n := m) (fun i σ H' => ∃ (k4 : Option V) (dvs : List V) (ds : List Deed), σ = [some (.ref a), some (.ref b0), some (.ref L), some (.ref D), k4, none, none, none, none, none, none, none] ∧ Same H H' ∧ H' D = some (.lst dvs) ∧
      DpAll K H' dvs (ds.map (Deed.data true)) ∧ (∀ d ∈ ds, d.ok) ∧ ds.length = i ∧ H' L = some (.lst (names.map V.str))) ⟨none, [], [], rfl, sm5, eD5, .nil, (fun d hd => by cases hd), rfl, eL5⟩ ?_ ?_⟩
    · rintro i σ H6 hi ⟨k4, dvs, ds, rfl, sm, eD, da, dok, dl, eL6⟩
      have dvl : dvs.length = i := by have := dpA_len da; rw [List.length_map, dl] at this; exact this
      walk_at "go"
      refine ⟨tyL (SqL.of eD), ?_⟩
      walk_at "go"
      refine ⟨a, ns, _, rfl, sm.seq hS, hlen, by omega, by omega, fun H7 pb s7 hpb hb7 => ?_⟩
      have nDp : D ≠ pb := fun q => by rw [q, hpb] at eD; cases eD
      have nLp : L ≠ pb := fun q => by rw [q, hpb] at eL6; cases eL6
      walk_at "go"
      refine ⟨pb, L, names, 0, rfl, hb7, by decide, s7 _ _ eL6, nmne, by omega, nmok, fun H8 v d hd hb8 k8 dd => ?_⟩
      walk_at "go"
      have eD8 := k8 _ _ nDp (s7 _ _ eD)
      refine ⟨D, dvs, _, rfl, rfl, eD8, line60 (by omega), ?_⟩
      have s68 : Same H6 H8 := fun c o e => k8 c o (ne_of_none e hpb) (s7 _ _ e)
      refine ⟨_, dvs ++ [v], ds ++ [d], rfl, same_upd (sm.trans s68) hDH, upd_same, ?_, ?_, by rw [List.length_append, dl]; rfl, by rw [upd_ne nLD]; exact s68 _ _ eL6⟩
      · rw [List.map_append]
        exact dpA_app (dpA_pure (KT.trans (Same.kt s68) (kt_lst eD8)) _ _ (pureA_iff.mpr fun y hy => by obtain ⟨e, _, rfl⟩ := List.mem_map.mp hy; exact e.pure) da) (.cons (dp_pure (kt_lst eD8) _ _ d.pure dd) .nil)
      · intro x hx
        rcases List.mem_append.mp hx with q | q
        · exact dok x q
        · rw [List.mem_singleton.mp q]; exact hd
    · rintro σ H6 ⟨k4, dvs, ds, rfl, sm, eD, da, dok, dl, eL6⟩
      have dvl : dvs.length = ds.length := by have := dpA_len da; rw [List.length_map] at this; exact this
      have dl43 : ds.length ≤ 43 := by omega
      clear hb5 of5 eD5 eL5 sm5 hm
      walk_at "go"
      refine ⟨⟨_, SqL.of eD⟩, fun M hM => ?_⟩
      have hMH : H M = none := sm.free hM
      refine lc_gen (walk_list (K := K) (a := D) (xs := dvs)) (fun _ => rfl) (fun acc H' => acc = ((ds.map Deed.text).take acc.length).map V.str ∧ Same H6 H') ⟨rfl, same_new hM⟩ (fun acc H' _ q => q.2.seq (SqL.of eD)) ?_ ?_
      · rintro i x acc H' hx hl hacc ⟨ha, s6⟩
        obtain ⟨y, hy, hxd⟩ := dpA_get da hx
        rw [List.getElem?_map] at hy
        cases ed : ds[i]? with
        | none => rw [ed] at hy; cases hy
        | some d =>
          rw [ed] at hy
          obtain rfl := Option.some.inj hy
          walk_at "go"
          have il := (List.getElem?_eq_some_iff.mp ed).1
          refine ⟨d, x, rfl, (DeedAt.of (t := true) hxd).keep (Same.keeps s6), dok d (List.mem_of_getElem? ed), fun H2 s2 => ?_⟩
          exact pp_next (s2 _ _ hacc) hl (line60 (by omega)) ⟨acc_next (f := V.str) (a := d.text) ha hl (by rw [List.getElem?_map, ed]; rfl), same_upd (s6.trans s2) hM⟩
      · rintro acc H7 hl hacc ⟨ha, s67⟩
        rw [hl, dvl, ← List.length_map (f := Deed.text), List.take_length] at ha
        have eM : H7 M = some (.lst (ds.map fun d => V.str d.text)) := by rw [hacc, ha, List.map_map]; rfl
        clear ha hacc hl
        have sm7 := sm.trans s67
        have eD7 := s67 _ _ eD
        have eL7 := s67 _ _ eL6
        have da7 : DpAll K H7 dvs (ds.map (Deed.data true)) := dpA_keep (Same.keeps s67) _ _ da
        have pds : pureA (ds.map (Deed.data true)) = true := pureA_iff.mpr fun y hy => by obtain ⟨e, _, rfl⟩ := List.mem_map.mp hy; exact e.pure
        walk_at "go"
        have lsp : ∀ {Hx : Hp} {R : VK} {E0' : XK}, Same H7 Hx → (∀ H' v, Same Hx H' → Dp K H' v (.list (ds.map (Deed.data false))) → R v H') → spListedL K 46 [.ref D] Hx R E0' := fun {Hx R E0'} sx q => by
          refine ⟨D, dvs, ds.map (Deed.data true), rfl, SqL.of (sx _ _ eD7), dpA_keep (Same.keeps sx) _ _ da7, fun y hy => ?_, fun y hy => ?_, fun y hy => ?_, by rw [List.length_map]; omega, fun H' v' s' dv => ?_⟩
          · obtain ⟨e, _, rfl⟩ := List.mem_map.mp hy; exact e.pure
          · obtain ⟨e, he, rfl⟩ := List.mem_map.mp hy; exact Deed.wide (dok e he)
          · obtain ⟨e, he, rfl⟩ := List.mem_map.mp hy; exact Nat.lt_of_le_of_lt (Deed.flat true (dok e he)).2 (by decide)
          · refine q H' v' s' ?_
            have e1 : (ds.map (Deed.data true)).map lstd = ds.map (Deed.data false) := by
              rw [List.map_map]
              exact List.map_congr_left fun e _ => e.lst
            rw [e1] at dv
            exact dp_keep (Same.keeps New.same) _ _ dv
        refine lsp (Same.refl _) (fun H8 lv s8 dlv => ?_)
        walk_at "go"
        have eM8 := s8 _ _ eM
        have eD8 := s8 _ _ eD7
        have da8 := dpA_keep (Same.keeps s8) _ _ da7
        refine ⟨ds, .ref D, dvs, rfl, ⟨D, rfl, .inl (SqL.of eD8)⟩, DeedAll.of da8, dok, by omega, fun H9 t1 s9 e1 => ?_⟩
        walk_at "go"
        refine ⟨D, dvs, rfl, .inl ⟨SqL.of (s9 _ _ eD8), fun tq htq => ?_⟩⟩
        have sq9 := same_new (o := HO.tup dvs) htq
        walk_at "go"
        refine ⟨ds, .ref tq, dvs, rfl, ⟨tq, rfl, .inr (SqT.of upd_same)⟩, DeedAll.of (dpA_keep (Same.keeps (s9.trans sq9)) _ _ da8), dok, by omega, fun H10 t2 s10 e2 => ?_⟩
        walk_at "go"
        have s8A := s9.trans (sq9.trans s10)
        obtain ⟨lxs, hls, dls⟩ := dp_sq (t := false) (dp_keep (Same.keeps s8A) _ _ dlv)
        refine ⟨ds, lv, lxs, rfl, hls, DeedAll.of (t := false) dls, dok, by omega, fun H11 t3 s11 e3 => ?_⟩
        walk_at "go"
        refine ⟨(by show 3 ≤ sizeLine; decide), fun T hT => ?_⟩
        have s12 := same_new (o := HO.tup [V.ref t1, V.ref t2, V.ref t3]) hT
        have f1 := s12 _ _ (s11 _ _ (s10 _ _ (sq9 _ _ e1)))
        have f2 := s12 _ _ (s11 _ _ e2)
        have f3 := s12 _ _ e3
        have fT := upd_same (a := T) (o := HO.tup [V.ref t1, V.ref t2, V.ref t3]) (H := H11)
        have s8C : Same H8 (upd H11 T (.tup [V.ref t1, V.ref t2, V.ref t3])) := s8A.trans (s11.trans s12)
        revert f1 f2 f3 fT s8C
        generalize upd H11 T (.tup [V.ref t1, V.ref t2, V.ref t3]) = H12
        intro f1 f2 f3 fT s8C
        clear s12 s11 s10 sq9 s9 s8A e1 e2 e3 hls dls hT htq
        have tdt := td_texts (ds := ds) (by omega) dok
        refine ⟨T, rfl, ⟨_, SqT.of fT⟩, fr_tup (K := K) (a := T) (xs := [V.ref t1, V.ref t2, V.ref t3]) (fun i σ H' => ∃ o7 : Option V, σ = [some (.ref a), some (.ref b0), some (.ref L), some (.ref D), k4, some (.ref M), some lv, o7, none, none, none, none] ∧ Same H12 H')
          ⟨none, rfl, Same.refl _⟩ (fun i σ H' _ ⟨_, _, e⟩ => SqT.of (e _ _ fT)) ?_ ?_⟩
        · rintro i x σ H' hi ⟨o7, rfl, sx⟩
          obtain ⟨t, rfl, ft⟩ : ∃ t, x = .ref t ∧ H12 t = some (.tup (ds.map fun d => V.str d.text)) := by
            have hm := List.mem_of_getElem? hi
            simp only [List.mem_cons, List.not_mem_nil, or_false] at hm
            rcases hm with rfl | rfl | rfl
            · exact ⟨_, rfl, f1⟩
            · exact ⟨_, rfl, f2⟩
            · exact ⟨_, rfl, f3⟩
          walk_at "go"
          refine ⟨M, _, rfl, .inl ⟨SqL.of (sx _ _ (s8C _ _ eM8)), fun tm htm => ?_⟩⟩
          have sm' := same_new (o := HO.tup (ds.map fun d => V.str d.text)) htm
          walk_at "go"
          refine ⟨.ref t, .ref tm, _, rfl, .tup (SqT.of (sm' _ _ (sx _ _ ft))) dp_texts, .tup (SqT.of upd_same) dp_texts, tdt, fun H13 s13 => ?_⟩
          walk_at "go"
          exact sx.trans (sm'.trans s13)
        · rintro σ H13 ⟨o7, rfl, s13⟩
          have s8D := s8C.trans s13
          have eM13 := s8D _ _ eM8
          have eD13 := s8D _ _ eD8
          have eL13 := s8D _ _ (s8 _ _ eL7)
          have sm13 := sm7.trans (s8.trans s8D)
          have da13 := dpA_keep (Same.keeps s8D) _ _ da8
          have dl13 := dp_keep (Same.keeps s8D) _ _ dlv
          have s7D := s8.trans s8D
          clear f1 f2 f3 fT s8C
          walk_at "go"
          have hsh := lst_shaped dok
          have due : ∀ {Hx : Hp} {R : VK} {E0' : XK}, Hx M = some (.lst (ds.map fun d => V.str d.text)) → (∀ H', Same Hx H' → R (.bl true) H') → spDue K [.ref M] Hx R E0' := fun {Hx R E0'} ex q => by
            refine ⟨M, _, _, rfl, ex, ln_texts dok, fun v hv => ?_, by rw [List.length_map]; omega, q⟩
            obtain ⟨d, _, rfl⟩ := List.mem_map.mp hv
            exact .inl rfl
          refine lsp s7D (fun H14 lv2 s14 dlv2 => ?_)
          refine ⟨_, _, dp_keep (Same.keeps s14) _ _ dl13, dlv2, hsh.1, hsh.1, ?_⟩
          rw [hsh.2]
          walk_at "go"
          have eM14 := s14 _ _ eM13
          refine due eM14 (fun H15 s15 => ?_)
          walk_at "go"
          have eM15 := s15 _ _ eM14
          refine ⟨M, _, rfl, .inl ⟨SqL.of eM15, fun tm htm => ?_⟩⟩
          have s16 := same_new (o := HO.tup (ds.map fun d => V.str d.text)) htm
          walk_at "go"
          refine ⟨.ref tm, _, _, _, rfl, ⟨tm, rfl, .inr (SqT.of upd_same)⟩, ln_texts dok, by rw [List.length_map]; omega, rdLines_texts dok, fun H17 t s17 dt => ?_⟩
          walk_at "go"
          have s1317 := s14.trans (s15.trans (s16.trans s17))
          refine ⟨D, dvs, rfl, .inl ⟨SqL.of (s1317 _ _ eD13), fun td htd => ?_⟩⟩
          have s18 := same_new (o := HO.tup dvs) htd
          walk_at "go"
          refine ⟨.ref t, .ref td, _, rfl, dp_keep (Same.keeps s18) _ _ dt, .tup (SqT.of upd_same) (dpA_keep (Same.keeps (s1317.trans s18)) _ _ da13), td_data (by omega) dok, fun H18 s19' => ?_⟩
          have s1318 := s1317.trans (s18.trans s19')
          have eM18 := s1318 _ _ eM13
          have eL18' := s1318 _ _ eL13
          have sm18 := sm13.trans s1318
          clear s14 s15 s16 s17 s18 s19' s1317 dlv2 dt htm htd eM14 eM15
          walk_at "go"
          refine ⟨(by show 1 ≤ sizeLine; decide), fun qa1 hq1 => ?_⟩
          have sa1 := same_new (o := HO.lst [V.str (Str.ofString "")]) hq1
          walk_at "go"
          refine ⟨qa1, [V.str (Str.ofString "")], [some (Str.ofString "")], rfl, upd_same, ⟨⟨rfl, by decide⟩, trivial⟩, (fun v hv => by rw [List.mem_singleton.mp hv]; exact .inl rfl), by decide, fun Hb1 sb1 => ?_⟩
          walk_at "go"
          refine ⟨(by show 1 ≤ sizeLine; decide), fun qa2 hq2 => ?_⟩
          have sa2 := same_new (o := HO.lst [V.non]) hq2
          walk_at "go"
          refine ⟨qa2, [V.non], [none], rfl, upd_same, ⟨⟨.type "NoneType", fun _ _ => .base .non, kit_ty (by decide +kernel)⟩, trivial⟩, (fun v hv => by rw [List.mem_singleton.mp hv]; exact .inl rfl), by decide, fun Hb2 sb2 => ?_⟩
          walk_at "go"
          refine ⟨(by show 2 ≤ sizeLine; decide), fun qa3 hq3 => ?_⟩
          have sa3 := same_new (o := HO.lst [V.str (Str.ofString "day"), V.str (Str.ofString "day")]) hq3
          walk_at "go"
          refine ⟨qa3, [V.str (Str.ofString "day"), V.str (Str.ofString "day")], [some (Str.ofString "day"), some (Str.ofString "day")], rfl, upd_same, ⟨⟨rfl, by decide⟩, ⟨rfl, by decide⟩, trivial⟩, (fun v hv => by rcases List.mem_cons.mp hv with q | q; exact .inl (by rw [q]; rfl); rw [List.mem_singleton.mp q]; exact .inl rfl), by decide, fun Hb3 sb3 => ?_⟩
          walk_at "go"
          refine ⟨(by show 0 ≤ sizeLine; decide), fun qa4 hq4 => ?_⟩
          have sa4 := same_new (o := HO.lst ([] : List V)) hq4
          walk_at "go"
          refine ⟨qa4, ([] : List V), [], rfl, upd_same, trivial, (fun v hv => by cases hv), by decide, fun Hb4 sb4 => ?_⟩
          walk_at "go"
          have sK := sa1.trans (sb1.trans (sa2.trans (sb2.trans (sa3.trans (sb3.trans (sa4.trans sb4))))))
          have eMk := sK _ _ eM18
          have eLk := sK _ _ eL18'
          have smk := sm18.trans sK
          clear sa1 sb1 sa2 sb2 sa3 sb3 sa4 sb4 hq1 hq2 hq3 hq4 sK
          by_cases hds : ds = []
          · refine ⟨false, tru_lst (SqL.of eMk) (by rw [hds]; rfl), ?_⟩
            walk_at "go"
            exact k _
          refine ⟨true, tru_lst (SqL.of eMk) (by cases ds with | nil => exact absurd rfl hds | cons x xs => rfl), ?_⟩
          walk_at "go"
          refine ⟨a, ns, 2, rfl, smk.seq hS, hlen, by decide, by decide, fun H19 pb s19 hpb hb19 => ?_⟩
          have nMp : M ≠ pb := fun q => by rw [q, hpb] at eMk; cases eMk
          have nLp : L ≠ pb := fun q => by rw [q, hpb] at eLk; cases eLk
          have eM19 := s19 _ _ eMk
          have eL19 := s19 _ _ eLk
          have hds1 : (ds.map fun d => V.str d.text) ≠ [] := fun q => hds (List.map_eq_nil_iff.mp q)
          have hln : ∀ v ∈ (ds.map fun d => V.str d.text), ∀ H', LnP 165 413000 2500 K pb H' v := fun v hv H' => by
            obtain ⟨d, hd, rfl⟩ := List.mem_map.mp hv
            exact .inl ⟨_, rfl, Deed.tx (dok d hd)⟩
          walk_at "go"
          refine ⟨by omega, by omega, fr_range (lo := 0) (n := 4) (fun i σ H' => ∃ o8 o9 o10 : Option V, σ = [some (.ref a), some (.ref pb), some (.ref L), some (.ref D), k4, some (.ref M), some lv, o7, o8, o9, o10, none] ∧ IsBag H' pb (10000 * i) ∧ Kp pb H19 H')
            ⟨none, none, none, rfl, hb19, Kp.refl _ _⟩ ?_ ?_⟩
          · rintro i σ H20 hi ⟨o8, o9, o10, rfl, hb20, k20⟩
            walk_at "go"
            have eM20 := k20 _ _ nMp eM19
            refine ⟨_, _, rfl, lenL (SqL.of eM20), ?_⟩
            walk_at "go"
            refine ⟨pb, _, _, rfl, hb20, by omega, by rw [List.length_map]; omega, fun r H21 r0 r1 hb21 of21 => ?_⟩
            have eM21 := of21.at nMp eM20
            have kc : Kp pb H19 H21 := k20.trans of21.kp
            walk_at "go"
            have hl43 : (ds.map fun d => V.str d.text).length ≤ 43 := by rw [List.length_map]; exact dl43
            have r41 : (r : Int) < 43 ∨ r = 0 := by rw [List.length_map] at r1; omega
            by_cases hi0 : i = 0
            · rw [if_pos (by rw [hi0]; rfl)]
              walk_at "go"
              refine ⟨pb, M, L, _, names, _, 165, 413000, 2500, rfl, hb21, by omega, eM21, nMp, hds1, by omega, (fun v hv => hln v hv _), kc _ _ nLp eL19, by omega, nmok, by decide, by decide, by decide, by decide, fun H22 q' ys eq' nq' yl hy hb22 k22 => ?_⟩
              walk_at "go"
              obtain ⟨ls, lna, lnl⟩ := LnP.all (by decide) hy
              refine ⟨q', ys, ls, rfl, eq', lna, fun v hv => (hy v hv).ok, by omega, fun H23 s23 => ?_⟩
              have hy23 : ∀ v ∈ ys, LnP (2 * (165 + 1)) (413000 + 1 + 2 * (2500 + 2)) (2500 + 1) K pb H23 v := fun v hv => (hy v hv).kp (Same.kp s23) (Nat.le_refl _) (Nat.le_refl _) (Nat.le_refl _)
              have hb23 := hb22.same s23
              have k23 : Kp pb H19 H23 := kc.trans (k22.trans (Same.kp s23))
              walk_at "go"
              by_cases hye : ys = []
              · refine ⟨false, tru_lst (SqL.of (s23 _ _ eq')) (by rw [hye]; rfl), ?_⟩
                walk_at "go"
                exact ⟨_, _, _, rfl, hb23.mono (by omega), k23⟩
              · refine ⟨true, tru_lst (SqL.of (s23 _ _ eq')) (by cases ys with | nil => exact absurd rfl hye | cons x xs => rfl), ?_⟩
                walk_at "go"
                refine ⟨pb, q', L, ys, names, _, _, _, _, rfl, hb23, by omega, s23 _ _ eq', nq', hye, by omega, hy23, k23 _ _ nLp eL19, by omega, nmok, by decide, by decide, by decide, by decide, fun H24 q2 zs eq2 nq2 zl hz hb24 k24 => ?_⟩
                walk_at "go"
                obtain ⟨ls2, lna2, lnl2⟩ := LnP.all (by decide) hz
                refine ⟨q2, zs, ls2, rfl, eq2, lna2, fun v hv => (hz v hv).ok, by omega, fun H25 s25 => ?_⟩
                walk_at "go"
                exact ⟨_, _, _, rfl, (hb24.same s25).mono (by omega), k23.trans (k24.trans (Same.kp s25))⟩
            · rw [if_neg (by rw [decide_eq_true_eq]; intro e; exact hi0 (by have := V.int.inj e; omega))]
              walk_at "go"
              refine sl_newF eM21 (fun H21' l1 f1 s1 x1 => ?_)
              obtain ⟨rn, rfl⟩ : ∃ rn : Nat, r = rn := ⟨r.toNat, by omega⟩
              have e6 : ((rn : Int) + 6) = ((rn + 6 : Nat) : Int) := rfl
              rw [e6, cutV_mid] at x1
              have rlt : rn < (ds.map fun d => V.str d.text).length := by
                have : 0 < (ds.map fun d => V.str d.text).length := List.length_pos_iff.mpr hds1
                omega
              have hl6 : (((ds.map fun d => V.str d.text).drop rn).take (rn + 6 - rn)).length ≤ 43 := by rw [List.length_take, List.length_drop]; omega
              have nl1 : l1 ≠ pb := fun q => by
                obtain ⟨_, _, _, hb, _⟩ := hb21
                rw [← q, f1] at hb; cases hb
              have kc' := kc.trans (Same.kp s1)
              walk_at "go"
              refine ⟨pb, l1, L, _, names, _, 165, 413000, 2500, rfl, (hb21.same s1), by omega, x1, nl1, (fun q => by have := congrArg List.length q; rw [List.length_take, List.length_drop, List.length_nil] at this; omega), by omega, (fun v hv => hln v (List.mem_of_mem_drop (List.mem_of_mem_take hv)) _), kc' _ _ nLp eL19, by omega, nmok, by decide, by decide, by decide, by decide, fun H22 q' ys eq' nq' yl hy hb22 k22 => ?_⟩
              walk_at "go"
              obtain ⟨ls, lna, lnl⟩ := LnP.all (by decide) hy
              refine ⟨q', ys, ls, rfl, eq', lna, fun v hv => (hy v hv).ok, by omega, fun H23 s23 => ?_⟩
              have hy23 : ∀ v ∈ ys, LnP (2 * (165 + 1)) (413000 + 1 + 2 * (2500 + 2)) (2500 + 1) K pb H23 v := fun v hv => (hy v hv).kp (Same.kp s23) (Nat.le_refl _) (Nat.le_refl _) (Nat.le_refl _)
              have hb23 := hb22.same s23
              have k23 : Kp pb H19 H23 := kc'.trans (k22.trans (Same.kp s23))
              walk_at "go"
              by_cases hye : ys = []
              · refine ⟨false, tru_lst (SqL.of (s23 _ _ eq')) (by rw [hye]; rfl), ?_⟩
                walk_at "go"
                exact ⟨_, _, _, rfl, hb23.mono (by omega), k23⟩
              · refine ⟨true, tru_lst (SqL.of (s23 _ _ eq')) (by cases ys with | nil => exact absurd rfl hye | cons x xs => rfl), ?_⟩
                walk_at "go"
                refine ⟨pb, q', L, ys, names, _, _, _, _, rfl, hb23, by omega, s23 _ _ eq', nq', hye, by omega, hy23, k23 _ _ nLp eL19, by omega, nmok, by decide, by decide, by decide, by decide, fun H24 q2 zs eq2 nq2 zl hz hb24 k24 => ?_⟩
                walk_at "go"
                obtain ⟨ls2, lna2, lnl2⟩ := LnP.all (by decide) hz
                refine ⟨q2, zs, ls2, rfl, eq2, lna2, fun v hv => (hz v hv).ok, by omega, fun H25 s25 => ?_⟩
                walk_at "go"
                exact ⟨_, _, _, rfl, (hb24.same s25).mono (by omega), k23.trans (k24.trans (Same.kp s25))⟩
          · rintro σ H20 ⟨o8, o9, o10, rfl, hb20, k20⟩
            walk_at "go"
            exact due (k20 _ _ nMp eM19) (fun H' _ => k H')
end
end K4

/-! K7H -/
namespace K4
open PySem L2 L2H K1
def Fn (K : PySem.W.Frag) (x : Str) (st : Stmt) : Prop := ∃ (f : Addr) (fd : FuncData), PySem.W.nsIn K mainGlobals x = some (some (.ref f)) ∧ Fun K x x st f fd
theorem fn_mk {K : PySem.W.Frag} {x : Str} {st : Stmt} {f : Addr} {oc : Value} {od an : Option Addr} {osl : Array (Option Value)} {kV doc pm cdv ct : Value} (a : PySem.W.nsIn K mainGlobals x = some (some (.ref f)))
    (l : K.lookup f = some ⟨oc, od, .func (PySem.W.fnOf x x (defArgs st) (defBody st) (defScope st) .none kV doc pm an cdv ct), osl⟩) (c : PySem.W.codeIn K cdv x = true) (k : PySem.W.keepIn K (.ref f) = true) : Fn K x st := ⟨f, _, a, fun_mk l c k⟩
def FnQ (K : PySem.W.Frag) (x q : Str) (st : Stmt) (f : Addr) : Prop := ∃ fd : FuncData, Fun K x q st f fd
theorem fnq_mk {K : PySem.W.Frag} {x q : Str} {st : Stmt} {f : Addr} {oc : Value} {od an : Option Addr} {osl : Array (Option Value)} {kV doc pm cdv ct : Value}
    (l : K.lookup f = some ⟨oc, od, .func (PySem.W.fnOf x q (defArgs st) (defBody st) (defScope st) .none kV doc pm an cdv ct), osl⟩) (c : PySem.W.codeIn K cdv q = true) (k : PySem.W.keepIn K (.ref f) = true) : FnQ K x q st f := ⟨_, fun_mk l c k⟩
theorem own_of {P : Program} {w : World} {K : PySem.W.Frag} {mg : Str → Option Value} {h base : Heap} {x : Str} {st : Stmt} {n : Nat} {ps : List Str} {sp : Sp} (X : K.In h) (G : h.Ns mainGlobals mg) (N : Fn K x st) (ok : ∀ f fd, Fun K x x st f fd → FnOk P w K mg base CX0 n f fd ps sp)
    (bd : ∀ (kV doc pm : Value) (an : Option Addr) (cdv ct : Value) (us : List Value), us.length = ps.length → bindArgs (PySem.W.fnOf x x (defArgs st) (defBody st) (defScope st) .none kV doc pm an cdv ct) ⟨us, []⟩ = Pure.pure (ps.zip us)) : Own P w K mg base x n ps sp := by
  obtain ⟨f, fd, a, F⟩ := N
  exact ⟨f, fd, ok f fd F, PySem.W.mg_of X G a, F.kp, F.binds bd⟩
theorem ownX_of {P : Program} {w : World} {K : PySem.W.Frag} {mg : Str → Option Value} {h base : Heap} {x : Str} {st : Stmt} {n : Nat} {ps : List Str} {sp : Sp} (X : K.In h) (G : h.Ns mainGlobals mg) (N : Fn K x st) (ok : ∀ f fd, Fun K x x st f fd → FnOk P w K mg base (L2N.CX P w) n f fd ps sp)
    (bd : ∀ (kV doc pm : Value) (an : Option Addr) (cdv ct : Value) (us : List Value), us.length = ps.length → bindArgs (PySem.W.fnOf x x (defArgs st) (defBody st) (defScope st) .none kV doc pm an cdv ct) ⟨us, []⟩ = Pure.pure (ps.zip us)) : OwnX P w K mg base x n ps sp := by
  obtain ⟨f, fd, a, F⟩ := N
  exact ⟨f, fd, ok f fd F, PySem.W.mg_of X G a, F.kp, F.binds bd⟩
theorem ns_miss {K : PySem.W.Frag} {a : Addr} {es : Array DictEntry} {n : Nat} (l : K.lookup a = some ⟨.type "dict", none, .dict es n, #[]⟩) (q : es.toList.all wdKey = true) : ∀ x : Str, (∀ k < 9, x ≠ wd k) → PySem.W.nsIn K a x = some none := by
  intro x hx
  have key : ∀ e ∈ es.toList, ∃ y t, e.key = .str y t ∧ y ≠ x := fun e he => by
    have w := List.all_eq_true.mp q e he
    unfold wdKey at w
    split at w
    · rename_i y t ek
      obtain ⟨k, hk, hd⟩ := List.any_eq_true.mp w
      exact ⟨y, t, ek, fun z => hx k (List.mem_range.mp hk) (by rw [← z]; exact of_decide_eq_true hd)⟩
    · cases w
  unfold PySem.W.nsIn
  rw [l]
  dsimp only
  have h1 : es.toList.find? (fun e => e.key.isStr x) = none := List.find?_eq_none.mpr fun e he => by
    obtain ⟨y, t, e1, e2⟩ := key e he
    rw [e1]
    simpa [Value.isStr] using e2
  have h2 : es.toList.any (·.refKey) = false := by
    rw [List.any_eq_false]
    intro e he
    obtain ⟨y, t, e1, _⟩ := key e he
    unfold DictEntry.refKey
    rw [e1]
    simp
  rw [h1]
  dsimp only
  rw [h2]
  rfl
def ClX (K : PySem.W.Frag) (C : Addr) (x : Str) (b : Bool) : Prop := ∃ a : Addr, PySem.W.nsIn K mainGlobals x = some (some (.ref a)) ∧ PySem.W.kitOne K (.ref C) (.ref a) = some b
theorem clx_mk {K : PySem.W.Frag} {C a : Addr} {x : Str} {b : Bool} (h1 : PySem.W.nsIn K mainGlobals x = some (some (.ref a))) (h2 : PySem.W.kitOne K (.ref C) (.ref a) = some b) : ClX K C x b := ⟨a, h1, h2⟩
def cAt (K : PySem.W.Frag) (x : Str) : Addr := match PySem.W.nsIn K mainGlobals x with | some (some (.ref a)) => a | _ => 0
theorem clx_at {K : PySem.W.Frag} {C : Addr} {x : Str} {b : Bool} {h : Heap} {mg : Str → Option Value} (X : K.In h) (G : h.Ns mainGlobals mg) (c : ClX K C x b) : mg x = some (.ref (cAt K x)) ∧ PySem.W.kitOne K (.ref C) (.ref (cAt K x)) = some b := by
  obtain ⟨a, h1, h2⟩ := c
  have e : cAt K x = a := by unfold cAt; rw [h1]
  rw [e]
  exact ⟨PySem.W.mg_of X G h1, h2⟩
theorem linef_mk {P : Program} {K : PySem.W.Frag} {h : Heap} {mg : Str → Option Value} {fI C : Addr} {nm q : Str} {N : Addr} {bs bm : List Value} {sn : List Str} {sub : List Value} {ab : Bool} {col : Option Bool} {dd : Option Addr} {k0 k1 k2 k3 k5 : Option Value}
    {oc : Value} {od : Option Addr} {kV doc pm : Value} {an : Option Addr} {ct : Value} {osl : Array (Option Value)} {cda cc : Addr} {ccl : Value} {cdd : Option Addr} {vs : Array Value} {ccs : Array (Option Value)} {file : Str} {tf : Tok} {cl : Value} {cld : Option Addr} {csl : Array (Option Value)}
    (X : K.In h) (G : h.Ns mainGlobals mg)
    (l : K.lookup fI = some ⟨oc, od, .func (PySem.W.ksFn "__init__" "BadLine.__init__" (defArgs sLine) (defBody sLine) (defScope sLine) .none kV doc pm an (.ref cda) ct cc), osl⟩) (c : PySem.W.codeIn K (.ref cda) "BadLine.__init__" = true)
    (lcd : K.lookup cda = some ⟨ccl, cdd, .fields vs, ccs⟩) (hv : vs[2]? = some (.str file tf)) (hf : (P.main.file == file) = true) (lcc : K.lookup cc = some ⟨cl, cld, .cell (some (.ref C)), csl⟩)
    (sup : (List.lookup (PySem.Str.ofString "super") P.main.scope.names).isSome = false) (any : PySem.W.nsIn K cStatics "thirdparty.any" = some none) (mgS : PySem.W.nsIn K mainGlobals "super" = some none)
    (xL : K.lookup C = some (excClassObj nm q C N bs bm true sn sub ab col dd k0 k1 k2 k3 k5 "ValueError.__new__")) (hbm : HandSPX.refsVE bm = true)
    (sa : PySem.W.findIn K (.ref C) "__setattr__" = some (some (.builtin "object.__setattr__"))) (exC : PySem.W.subIn K (.ref C) (.type "BaseException") = some true) (tyC : PySem.W.typeIn K (.ref C) = some (.type "type")) (kC : PySem.W.keepIn K (.ref C) = true)
    (sin : PySem.W.ks_superIn K C C "__init__" = some (some (.builtin "ValueError.__init__"))) (subC : PySem.W.mroIn K C (.ref C) = some true) (subV : PySem.W.subIn K (.ref C) (.type "ValueError") = some true) (fi : PySem.W.findIn K (.ref C) "line" = some none) (fw : PySem.W.findIn K (.ref C) "word" = some none) :
    LineF P K mg fI (PySem.W.ksFn "__init__" "BadLine.__init__" (defArgs sLine) (defBody sLine) (defScope sLine) .none kV doc pm an (.ref cda) ct cc) C :=
  ⟨⟨oc, od, kV, doc, pm, an, ct, osl, cda, cc, ccl, cdd, vs, ccs, file, tf, cl, cld, csl, rfl, l, c, lcd, hv, hf, lcc⟩, sup, any, PySem.W.mg_none_of X G mgS, ⟨⟨nm, q, N, bs, bm, sn, sub, ab, col, dd, k0, k1, k2, k3, k5, xL, hbm⟩, sa, exC, tyC, kC⟩, sin, subC, subV, fi, fw⟩
theorem kit_cls {K : PySem.W.Frag} {C a : Addr} {b : Bool} (h2 : PySem.W.isClsIn K a = true) (h3 : PySem.W.typeIn K (.ref a) = some (.type "type")) (h4 : PySem.W.subIn K (.ref C) (.ref a) = some b) : PySem.W.kitCls K (.ref C) (.ref a) = some b := by
  have e2 : ((PySem.W.clsIn K a).isSome && PySem.W.typeIn K (.ref a) == some (.type "type")) = true := by
    have h2' : (PySem.W.clsIn K a).isSome = true := h2
    rw [h2', h3] <;> rfl
  show (if ((PySem.W.clsIn K a).isSome && PySem.W.typeIn K (.ref a) == some (.type "type")) = true then PySem.W.subIn K (.ref C) (.ref a) else none) = some b
  rw [if_pos e2]
  exact h4
theorem exm_mk {K : PySem.W.Frag} {C a : Addr} {b : Bool} (h1 : PySem.W.subIn K (.ref a) (.type "BaseException") = some true) (h2 : PySem.W.isClsIn K a = true) (h3 : PySem.W.typeIn K (.ref a) = some (.type "type")) (h4 : PySem.W.subIn K (.ref C) (.ref a) = some b) : PySem.W.exmOne K (.ref C) (.ref a) = some b := by
  have e1 : (PySem.W.subIn K (.ref a) (.type "BaseException") == some true) = true := by rw [h1] <;> rfl
  unfold PySem.W.exmOne
  rw [if_pos e1]
  exact kit_cls h2 h3 h4
theorem kit_mk {K : PySem.W.Frag} {C a : Addr} {b : Bool} (hne : ((Value.ref C) == (Value.ref a)) = false) (h2 : PySem.W.isClsIn K a = true) (h3 : PySem.W.typeIn K (.ref a) = some (.type "type")) (h4 : PySem.W.subIn K (.ref C) (.ref a) = some b) : PySem.W.kitOne K (.ref C) (.ref a) = some b := by
  unfold PySem.W.kitOne
  rw [hne, if_neg Bool.false_ne_true]
  exact kit_cls h2 h3 h4
theorem kit_self {K : PySem.W.Frag} {C : Addr} : PySem.W.kitOne K (.ref C) (.ref C) = some true := by
  unfold PySem.W.kitOne
  rw [if_pos (beq_self_eq_true _)]
theorem bL_mk {K : PySem.W.Frag} {kV doc pm : Value} {an : Option Addr} {cdv ct : Value} {cc : Addr} : Binds K (PySem.W.ksFn "__init__" "BadLine.__init__" (defArgs sLine) (defBody sLine) (defScope sLine) .none kV doc pm an cdv ct cc) ["self", "line", "word"] [] :=
  fun s us _ hl => match us, hl with | [_, _, _], _ => .of_eq rfl

end K4
namespace HdK7
open PySem PySem.Spec PyProof.Rows L2 K1 K4 He
abbrev Says (w : World) (K : PySem.W.Frag) : Prop := Hd.SaysY fa fn ts ex fc w K
theorem exAt {w : World} {K : PySem.W.Frag} (c : Says w K) (i : Nat) {e : PySem.W.Frag → Bool} (h : exs[i]? = some e := by rfl) : e K = true :=
  List.all_eq_true.mp (show (exs.all fun e => e K) = true from c.x) e (List.mem_of_getElem? h)
theorem all_mk {w : World} {K : PySem.W.Frag} {h : Heap} {mg : Str → Option Value} {fa_ : Addr} (X : K.In h) (G : h.Ns mainGlobals mg) (hfa : mg "law" = some (.ref fa_)) (c : Says w K) :
    ∃ fd : FuncData, (∀ (s : Shared) (u : Value), BindsTo s fd ⟨[u], []⟩ [("_law_script", u)]) ∧ ∀ base : Heap, K.In base → base.Ns mainGlobals mg → FnOk PROG w K mg base CX0 54 fa_ fd ["_law_script"] (spLaw K) := by
  have n_is_whole : Fn K "is_whole" sIsWhole := by
    obtain ⟨fd, F⟩ := c.t.d.def_ 0 (d := ⟨("is_whole", none), "is_whole", "is_whole", defArgs (top 20), defBody (top 20), defScope (top 20), [], []⟩) rfl
    exact ⟨_, fd, (eqO_ok (c.t.d.fact 0 (f := .glo "is_whole") rfl)), He5.fun_of F⟩
  have n_is_within : Fn K "is_within" sIsWithin := by
    obtain ⟨fd, F⟩ := c.t.d.def_ 1 (d := ⟨("is_within", none), "is_within", "is_within", defArgs (top 21), defBody (top 21), defScope (top 21), [], []⟩) rfl
    exact ⟨_, fd, (eqO_ok (c.t.d.fact 1 (f := .glo "is_within") rfl)), He5.fun_of F⟩
  have n_is_text : Fn K "is_text" sIsText := by
    obtain ⟨fd, F⟩ := c.t.d.def_ 2 (d := ⟨("is_text", none), "is_text", "is_text", defArgs (top 22), defBody (top 22), defScope (top 22), [], []⟩) rfl
    exact ⟨_, fd, (eqO_ok (c.t.d.fact 2 (f := .glo "is_text") rfl)), He5.fun_of F⟩
  have n_own_values : Fn K "own_values" sOwnValues := by
    obtain ⟨fd, F⟩ := c.t.d.def_ 3 (d := ⟨("own_values", none), "own_values", "own_values", defArgs (top 37), defBody (top 37), defScope (top 37), [], []⟩) rfl
    exact ⟨_, fd, (eqO_ok (c.t.d.fact 3 (f := .glo "own_values") rfl)), He5.fun_of F⟩
  have n_inner_rules : Fn K "inner_rules" sInnerRules := by
    obtain ⟨fd, F⟩ := c.t.d.def_ 4 (d := ⟨("inner_rules", none), "inner_rules", "inner_rules", defArgs (top 38), defBody (top 38), defScope (top 38), [], []⟩) rfl
    exact ⟨_, fd, (eqO_ok (c.t.d.fact 4 (f := .glo "inner_rules") rfl)), He5.fun_of F⟩
  have n_is_name : Fn K "is_name" sIsName := by
    obtain ⟨fd, F⟩ := c.t.d.def_ 5 (d := ⟨("is_name", none), "is_name", "is_name", defArgs (top 43), defBody (top 43), defScope (top 43), [], []⟩) rfl
    exact ⟨_, fd, (eqO_ok (c.t.d.fact 5 (f := .glo "is_name") rfl)), He5.fun_of F⟩
  have n_name_in : Fn K "name_in" sNameIn := by
    obtain ⟨fd, F⟩ := c.t.d.def_ 6 (d := ⟨("name_in", none), "name_in", "name_in", defArgs (top 48), defBody (top 48), defScope (top 48), [], []⟩) rfl
    exact ⟨_, fd, (eqO_ok (c.t.d.fact 6 (f := .glo "name_in") rfl)), He5.fun_of F⟩
  have n_integer_in : Fn K "integer_in" sIntegerIn := by
    obtain ⟨fd, F⟩ := c.t.d.def_ 7 (d := ⟨("integer_in", none), "integer_in", "integer_in", defArgs (top 49), defBody (top 49), defScope (top 49), [], []⟩) rfl
    exact ⟨_, fd, (eqO_ok (c.t.d.fact 7 (f := .glo "integer_in") rfl)), He5.fun_of F⟩
  have n_integers_in : Fn K "integers_in" sIntegersIn := by
    obtain ⟨fd, F⟩ := c.t.d.def_ 8 (d := ⟨("integers_in", none), "integers_in", "integers_in", defArgs (top 50), defBody (top 50), defScope (top 50), [], []⟩) rfl
    exact ⟨_, fd, (eqO_ok (c.t.d.fact 8 (f := .glo "integers_in") rfl)), He5.fun_of F⟩
  have n_characters_in : Fn K "characters_in" sCharactersIn := by
    obtain ⟨fd, F⟩ := c.t.d.def_ 9 (d := ⟨("characters_in", none), "characters_in", "characters_in", defArgs (top 51), defBody (top 51), defScope (top 51), [], []⟩) rfl
    exact ⟨_, fd, (eqO_ok (c.t.d.fact 9 (f := .glo "characters_in") rfl)), He5.fun_of F⟩
  have n_paper_in : Fn K "paper_in" sPaperIn := by
    obtain ⟨fd, F⟩ := c.t.d.def_ 10 (d := ⟨("paper_in", none), "paper_in", "paper_in", defArgs (top 52), defBody (top 52), defScope (top 52), [], []⟩) rfl
    exact ⟨_, fd, (eqO_ok (c.t.d.fact 10 (f := .glo "paper_in") rfl)), He5.fun_of F⟩
  have n_texts_in : Fn K "texts_in" sTextsIn := by
    obtain ⟨fd, F⟩ := c.t.d.def_ 11 (d := ⟨("texts_in", none), "texts_in", "texts_in", defArgs (top 53), defBody (top 53), defScope (top 53), [], []⟩) rfl
    exact ⟨_, fd, (eqO_ok (c.t.d.fact 11 (f := .glo "texts_in") rfl)), He5.fun_of F⟩
  have n_paper_word : Fn K "paper_word" sPaperWord := by
    obtain ⟨fd, F⟩ := c.t.d.def_ 12 (d := ⟨("paper_word", none), "paper_word", "paper_word", defArgs (top 54), defBody (top 54), defScope (top 54), [], []⟩) rfl
    exact ⟨_, fd, (eqO_ok (c.t.d.fact 12 (f := .glo "paper_word") rfl)), He5.fun_of F⟩
  have n_integers_word : Fn K "integers_word" sIntegersWord := by
    obtain ⟨fd, F⟩ := c.t.d.def_ 13 (d := ⟨("integers_word", none), "integers_word", "integers_word", defArgs (top 55), defBody (top 55), defScope (top 55), [], []⟩) rfl
    exact ⟨_, fd, (eqO_ok (c.t.d.fact 13 (f := .glo "integers_word") rfl)), He5.fun_of F⟩
  have n_write_rule : Fn K "write_rule" sWriteRule := by
    obtain ⟨fd, F⟩ := c.t.d.def_ 14 (d := ⟨("write_rule", none), "write_rule", "write_rule", defArgs (top 59), defBody (top 59), defScope (top 59), [], []⟩) rfl
    exact ⟨_, fd, (eqO_ok (c.t.d.fact 14 (f := .glo "write_rule") rfl)), He5.fun_of F⟩
  have n_rule_words : Fn K "rule_words" sRuleWords := by
    obtain ⟨fd, F⟩ := c.t.d.def_ 15 (d := ⟨("rule_words", none), "rule_words", "rule_words", defArgs (top 60), defBody (top 60), defScope (top 60), [], []⟩) rfl
    exact ⟨_, fd, (eqO_ok (c.t.d.fact 15 (f := .glo "rule_words") rfl)), He5.fun_of F⟩
  have n_own_words : Fn K "own_words" sOwnWords := by
    obtain ⟨fd, F⟩ := c.t.d.def_ 16 (d := ⟨("own_words", none), "own_words", "own_words", defArgs (top 61), defBody (top 61), defScope (top 61), [], []⟩) rfl
    exact ⟨_, fd, (eqO_ok (c.t.d.fact 16 (f := .glo "own_words") rfl)), He5.fun_of F⟩
  have n_take_last_rule : Fn K "take_last_rule" sTakeLast := by
    obtain ⟨fd, F⟩ := c.t.d.def_ 17 (d := ⟨("take_last_rule", none), "take_last_rule", "take_last_rule", defArgs (top 62), defBody (top 62), defScope (top 62), [], []⟩) rfl
    exact ⟨_, fd, (eqO_ok (c.t.d.fact 17 (f := .glo "take_last_rule") rfl)), He5.fun_of F⟩
  have n_take_rule : Fn K "take_rule" sTakeRule := by
    obtain ⟨fd, F⟩ := c.t.d.def_ 18 (d := ⟨("take_rule", none), "take_rule", "take_rule", defArgs (top 63), defBody (top 63), defScope (top 63), [], []⟩) rfl
    exact ⟨_, fd, (eqO_ok (c.t.d.fact 18 (f := .glo "take_rule") rfl)), He5.fun_of F⟩
  have n_rule_word_in : Fn K "rule_word_in" sRuleWordIn := by
    obtain ⟨fd, F⟩ := c.t.d.def_ 19 (d := ⟨("rule_word_in", none), "rule_word_in", "rule_word_in", defArgs (top 64), defBody (top 64), defScope (top 64), [], []⟩) rfl
    exact ⟨_, fd, (eqO_ok (c.t.d.fact 19 (f := .glo "rule_word_in") rfl)), He5.fun_of F⟩
  have n_taken_values : Fn K "taken_values" sTakenValues := by
    obtain ⟨fd, F⟩ := c.t.d.def_ 20 (d := ⟨("taken_values", none), "taken_values", "taken_values", defArgs (top 65), defBody (top 65), defScope (top 65), [], []⟩) rfl
    exact ⟨_, fd, (eqO_ok (c.t.d.fact 20 (f := .glo "taken_values") rfl)), He5.fun_of F⟩
  have n_rows_in : Fn K "rows_in" sRowsIn := by
    obtain ⟨fd, F⟩ := c.t.d.def_ 21 (d := ⟨("rows_in", none), "rows_in", "rows_in", defArgs (top 66), defBody (top 66), defScope (top 66), [], []⟩) rfl
    exact ⟨_, fd, (eqO_ok (c.t.d.fact 21 (f := .glo "rows_in") rfl)), He5.fun_of F⟩
  have n_write_deeds : Fn K "write_deeds" sWriteDeeds := by
    obtain ⟨fd, F⟩ := c.t.d.def_ 22 (d := ⟨("write_deeds", none), "write_deeds", "write_deeds", defArgs (top 70), defBody (top 70), defScope (top 70), [], []⟩) rfl
    exact ⟨_, fd, (eqO_ok (c.t.d.fact 22 (f := .glo "write_deeds") rfl)), He5.fun_of F⟩
  have n_deed_line : Fn K "deed_line" sDeedLine := by
    obtain ⟨fd, F⟩ := c.t.d.def_ 23 (d := ⟨("deed_line", none), "deed_line", "deed_line", defArgs (top 71), defBody (top 71), defScope (top 71), [], []⟩) rfl
    exact ⟨_, fd, (eqO_ok (c.t.d.fact 23 (f := .glo "deed_line") rfl)), He5.fun_of F⟩
  have n_deed_word : Fn K "deed_word" sDeedWord := by
    obtain ⟨fd, F⟩ := c.t.d.def_ 24 (d := ⟨("deed_word", none), "deed_word", "deed_word", defArgs (top 72), defBody (top 72), defScope (top 72), [], []⟩) rfl
    exact ⟨_, fd, (eqO_ok (c.t.d.fact 24 (f := .glo "deed_word") rfl)), He5.fun_of F⟩
  have n_read_deeds : Fn K "read_deeds" sReadDeeds := by
    obtain ⟨fd, F⟩ := c.t.d.def_ 25 (d := ⟨("read_deeds", none), "read_deeds", "read_deeds", defArgs (top 73), defBody (top 73), defScope (top 73), [], []⟩) rfl
    exact ⟨_, fd, (eqO_ok (c.t.d.fact 25 (f := .glo "read_deeds") rfl)), He5.fun_of F⟩
  have n_read_deed : Fn K "read_deed" sReadDeed := by
    obtain ⟨fd, F⟩ := c.t.d.def_ 26 (d := ⟨("read_deed", none), "read_deed", "read_deed", defArgs (top 74), defBody (top 74), defScope (top 74), [], []⟩) rfl
    exact ⟨_, fd, (eqO_ok (c.t.d.fact 26 (f := .glo "read_deed") rfl)), He5.fun_of F⟩
  have n_take_part : Fn K "take_part" sTakePart := by
    obtain ⟨fd, F⟩ := c.t.d.def_ 27 (d := ⟨("take_part", none), "take_part", "take_part", defArgs (top 75), defBody (top 75), defScope (top 75), [], []⟩) rfl
    exact ⟨_, fd, (eqO_ok (c.t.d.fact 27 (f := .glo "take_part") rfl)), He5.fun_of F⟩
  have n__law_bag_of : Fn K "_law_bag_of" K1.sBagOf := by
    obtain ⟨fd, F⟩ := c.t.d.def_ 28 (d := ⟨("_law_bag_of", none), "_law_bag_of", "_law_bag_of", defArgs (top 77), defBody (top 77), defScope (top 77), [], []⟩) rfl
    exact ⟨_, fd, (eqO_ok (c.t.d.fact 28 (f := .glo "_law_bag_of") rfl)), He5.fun_of F⟩
  have n__law_pick : Fn K "_law_pick" K1.sPick := by
    obtain ⟨fd, F⟩ := c.t.d.def_ 29 (d := ⟨("_law_pick", none), "_law_pick", "_law_pick", defArgs (top 78), defBody (top 78), defScope (top 78), [], []⟩) rfl
    exact ⟨_, fd, (eqO_ok (c.t.d.fact 29 (f := .glo "_law_pick") rfl)), He5.fun_of F⟩
  have n__law_one_of : Fn K "_law_one_of" K1.sOneOf := by
    obtain ⟨fd, F⟩ := c.t.d.def_ 30 (d := ⟨("_law_one_of", none), "_law_one_of", "_law_one_of", defArgs (top 79), defBody (top 79), defScope (top 79), [], []⟩) rfl
    exact ⟨_, fd, (eqO_ok (c.t.d.fact 30 (f := .glo "_law_one_of") rfl)), He5.fun_of F⟩
  have n__law_mixed : Fn K "_law_mixed" K1.sMixed := by
    obtain ⟨fd, F⟩ := c.t.d.def_ 31 (d := ⟨("_law_mixed", none), "_law_mixed", "_law_mixed", defArgs (top 80), defBody (top 80), defScope (top 80), [], []⟩) rfl
    exact ⟨_, fd, (eqO_ok (c.t.d.fact 31 (f := .glo "_law_mixed") rfl)), He5.fun_of F⟩
  have n__law_paper_of : Fn K "_law_paper_of" sLPaperOf := by
    obtain ⟨fd, F⟩ := c.t.d.def_ 32 (d := ⟨("_law_paper_of", none), "_law_paper_of", "_law_paper_of", defArgs (top 81), defBody (top 81), defScope (top 81), [], []⟩) rfl
    exact ⟨_, fd, (eqO_ok (c.t.d.fact 32 (f := .glo "_law_paper_of") rfl)), He5.fun_of F⟩
  have n__law_listed_of : Fn K "_law_listed_of" sLListed := by
    obtain ⟨fd, F⟩ := c.t.d.def_ 33 (d := ⟨("_law_listed_of", none), "_law_listed_of", "_law_listed_of", defArgs (top 82), defBody (top 82), defScope (top 82), [], []⟩) rfl
    exact ⟨_, fd, (eqO_ok (c.t.d.fact 33 (f := .glo "_law_listed_of") rfl)), He5.fun_of F⟩
  have n__law_no_list : Fn K "_law_no_list" sLNoList := by
    obtain ⟨fd, F⟩ := c.t.d.def_ 34 (d := ⟨("_law_no_list", none), "_law_no_list", "_law_no_list", defArgs (top 83), defBody (top 83), defScope (top 83), [], []⟩) rfl
    exact ⟨_, fd, (eqO_ok (c.t.d.fact 34 (f := .glo "_law_no_list") rfl)), He5.fun_of F⟩
  have n__law_is_int : Fn K "_law_is_int" sLIsInt := by
    obtain ⟨fd, F⟩ := c.t.d.def_ 35 (d := ⟨("_law_is_int", none), "_law_is_int", "_law_is_int", defArgs (top 84), defBody (top 84), defScope (top 84), [], []⟩) rfl
    exact ⟨_, fd, (eqO_ok (c.t.d.fact 35 (f := .glo "_law_is_int") rfl)), He5.fun_of F⟩
  have n__law_same_tuple : Fn K "_law_same_tuple" sLSame := by
    obtain ⟨fd, F⟩ := c.t.d.def_ 36 (d := ⟨("_law_same_tuple", none), "_law_same_tuple", "_law_same_tuple", defArgs (top 85), defBody (top 85), defScope (top 85), [], []⟩) rfl
    exact ⟨_, fd, (eqO_ok (c.t.d.fact 36 (f := .glo "_law_same_tuple") rfl)), He5.fun_of F⟩
  have n__law_many_signs : Fn K "_law_many_signs" K1.sMany := by
    obtain ⟨fd, F⟩ := c.t.d.def_ 37 (d := ⟨("_law_many_signs", none), "_law_many_signs", "_law_many_signs", defArgs (top 86), defBody (top 86), defScope (top 86), [], []⟩) rfl
    exact ⟨_, fd, (eqO_ok (c.t.d.fact 37 (f := .glo "_law_many_signs") rfl)), He5.fun_of F⟩
  have n__law_classes : Fn K "_law_classes" K1.sCls := by
    obtain ⟨fd, F⟩ := c.t.d.def_ 38 (d := ⟨("_law_classes", none), "_law_classes", "_law_classes", defArgs (top 87), defBody (top 87), defScope (top 87), [], []⟩) rfl
    exact ⟨_, fd, (eqO_ok (c.t.d.fact 38 (f := .glo "_law_classes") rfl)), He5.fun_of F⟩
  have n__law_commas : Fn K "_law_commas" sLCommas := by
    obtain ⟨fd, F⟩ := c.t.d.def_ 39 (d := ⟨("_law_commas", none), "_law_commas", "_law_commas", defArgs (top 88), defBody (top 88), defScope (top 88), [], []⟩) rfl
    exact ⟨_, fd, (eqO_ok (c.t.d.fact 39 (f := .glo "_law_commas") rfl)), He5.fun_of F⟩
  have n__law_rule_words : Fn K "_law_rule_words" sLRuleWords := by
    obtain ⟨fd, F⟩ := c.t.d.def_ 40 (d := ⟨("_law_rule_words", none), "_law_rule_words", "_law_rule_words", defArgs (top 89), defBody (top 89), defScope (top 89), [], []⟩) rfl
    exact ⟨_, fd, (eqO_ok (c.t.d.fact 40 (f := .glo "_law_rule_words") rfl)), He5.fun_of F⟩
  have n__law_numeral : Fn K "_law_numeral" sLNumeral := by
    obtain ⟨fd, F⟩ := c.t.d.def_ 41 (d := ⟨("_law_numeral", none), "_law_numeral", "_law_numeral", defArgs (top 90), defBody (top 90), defScope (top 90), [], []⟩) rfl
    exact ⟨_, fd, (eqO_ok (c.t.d.fact 41 (f := .glo "_law_numeral") rfl)), He5.fun_of F⟩
  have n__law_numerals : Fn K "_law_numerals" sLNumerals := by
    obtain ⟨fd, F⟩ := c.t.d.def_ 42 (d := ⟨("_law_numerals", none), "_law_numerals", "_law_numerals", defArgs (top 91), defBody (top 91), defScope (top 91), [], []⟩) rfl
    exact ⟨_, fd, (eqO_ok (c.t.d.fact 42 (f := .glo "_law_numerals") rfl)), He5.fun_of F⟩
  have n__law_made : Fn K "_law_made" sLMade := by
    obtain ⟨fd, F⟩ := c.t.d.def_ 43 (d := ⟨("_law_made", none), "_law_made", "_law_made", defArgs (top 92), defBody (top 92), defScope (top 92), [], []⟩) rfl
    exact ⟨_, fd, (eqO_ok (c.t.d.fact 43 (f := .glo "_law_made") rfl)), He5.fun_of F⟩
  have n__law_strings : Fn K "_law_strings" sLStrings := by
    obtain ⟨fd, F⟩ := c.t.d.def_ 44 (d := ⟨("_law_strings", none), "_law_strings", "_law_strings", defArgs (top 93), defBody (top 93), defScope (top 93), [], []⟩) rfl
    exact ⟨_, fd, (eqO_ok (c.t.d.fact 44 (f := .glo "_law_strings") rfl)), He5.fun_of F⟩
  have n__law_rule_kinds : Fn K "_law_rule_kinds" sLKinds := by
    obtain ⟨fd, F⟩ := c.t.d.def_ 45 (d := ⟨("_law_rule_kinds", none), "_law_rule_kinds", "_law_rule_kinds", defArgs (top 94), defBody (top 94), defScope (top 94), [], []⟩) rfl
    exact ⟨_, fd, (eqO_ok (c.t.d.fact 45 (f := .glo "_law_rule_kinds") rfl)), He5.fun_of F⟩
  have n__law_rule_told : Fn K "_law_rule_told" sLTold := by
    obtain ⟨fd, F⟩ := c.t.d.def_ 46 (d := ⟨("_law_rule_told", none), "_law_rule_told", "_law_rule_told", defArgs (top 95), defBody (top 95), defScope (top 95), [], []⟩) rfl
    exact ⟨_, fd, (eqO_ok (c.t.d.fact 46 (f := .glo "_law_rule_told") rfl)), He5.fun_of F⟩
  have n__law_read_rule : Fn K "_law_read_rule" sLRead := by
    obtain ⟨fd, F⟩ := c.t.d.def_ 47 (d := ⟨("_law_read_rule", none), "_law_read_rule", "_law_read_rule", defArgs (top 96), defBody (top 96), defScope (top 96), [], []⟩) rfl
    exact ⟨_, fd, (eqO_ok (c.t.d.fact 47 (f := .glo "_law_read_rule") rfl)), He5.fun_of F⟩
  have n__law_rule_from : Fn K "_law_rule_from" sLFrom := by
    obtain ⟨fd, F⟩ := c.t.d.def_ 48 (d := ⟨("_law_rule_from", none), "_law_rule_from", "_law_rule_from", defArgs (top 97), defBody (top 97), defScope (top 97), [], []⟩) rfl
    exact ⟨_, fd, (eqO_ok (c.t.d.fact 48 (f := .glo "_law_rule_from") rfl)), He5.fun_of F⟩
  have n__law_text_leaf : Fn K "_law_text_leaf" sLLeaf := by
    obtain ⟨fd, F⟩ := c.t.d.def_ 49 (d := ⟨("_law_text_leaf", none), "_law_text_leaf", "_law_text_leaf", defArgs (top 98), defBody (top 98), defScope (top 98), [], []⟩) rfl
    exact ⟨_, fd, (eqO_ok (c.t.d.fact 49 (f := .glo "_law_text_leaf") rfl)), He5.fun_of F⟩
  have n__law_text_rule : Fn K "_law_text_rule" sLTextRule := by
    obtain ⟨fd, F⟩ := c.t.d.def_ 50 (d := ⟨("_law_text_rule", none), "_law_text_rule", "_law_text_rule", defArgs (top 99), defBody (top 99), defScope (top 99), [], []⟩) rfl
    exact ⟨_, fd, (eqO_ok (c.t.d.fact 50 (f := .glo "_law_text_rule") rfl)), He5.fun_of F⟩
  have n__law_keywords : Fn K "_law_keywords" sLKeys := by
    obtain ⟨fd, F⟩ := c.t.d.def_ 51 (d := ⟨("_law_keywords", none), "_law_keywords", "_law_keywords", defArgs (top 100), defBody (top 100), defScope (top 100), [], []⟩) rfl
    exact ⟨_, fd, (eqO_ok (c.t.d.fact 51 (f := .glo "_law_keywords") rfl)), He5.fun_of F⟩
  have n__law_free_names : Fn K "_law_free_names" sLFree := by
    obtain ⟨fd, F⟩ := c.t.d.def_ 52 (d := ⟨("_law_free_names", none), "_law_free_names", "_law_free_names", defArgs (top 101), defBody (top 101), defScope (top 101), [], []⟩) rfl
    exact ⟨_, fd, (eqO_ok (c.t.d.fact 52 (f := .glo "_law_free_names") rfl)), He5.fun_of F⟩
  have n__law_odd_word : Fn K "_law_odd_word" sLOdd := by
    obtain ⟨fd, F⟩ := c.t.d.def_ 53 (d := ⟨("_law_odd_word", none), "_law_odd_word", "_law_odd_word", defArgs (top 102), defBody (top 102), defScope (top 102), [], []⟩) rfl
    exact ⟨_, fd, (eqO_ok (c.t.d.fact 53 (f := .glo "_law_odd_word") rfl)), He5.fun_of F⟩
  have n__law_spoilt_of : Fn K "_law_spoilt_of" sLSpoilt := by
    obtain ⟨fd, F⟩ := c.t.d.def_ 54 (d := ⟨("_law_spoilt_of", none), "_law_spoilt_of", "_law_spoilt_of", defArgs (top 103), defBody (top 103), defScope (top 103), [], []⟩) rfl
    exact ⟨_, fd, (eqO_ok (c.t.d.fact 54 (f := .glo "_law_spoilt_of") rfl)), He5.fun_of F⟩
  have n__law_deed_of : Fn K "_law_deed_of" sLDeedOf := by
    obtain ⟨fd, F⟩ := c.t.d.def_ 55 (d := ⟨("_law_deed_of", none), "_law_deed_of", "_law_deed_of", defArgs (top 104), defBody (top 104), defScope (top 104), [], []⟩) rfl
    exact ⟨_, fd, (eqO_ok (c.t.d.fact 55 (f := .glo "_law_deed_of") rfl)), He5.fun_of F⟩
  have n__law_deed_line : Fn K "_law_deed_line" sLDeedLine := by
    obtain ⟨fd, F⟩ := c.t.d.def_ 56 (d := ⟨("_law_deed_line", none), "_law_deed_line", "_law_deed_line", defArgs (top 105), defBody (top 105), defScope (top 105), [], []⟩) rfl
    exact ⟨_, fd, (eqO_ok (c.t.d.fact 56 (f := .glo "_law_deed_line") rfl)), He5.fun_of F⟩
  have n__law_deed_word : Fn K "_law_deed_word" sLDeedWord := by
    obtain ⟨fd, F⟩ := c.t.d.def_ 57 (d := ⟨("_law_deed_word", none), "_law_deed_word", "_law_deed_word", defArgs (top 106), defBody (top 106), defScope (top 106), [], []⟩) rfl
    exact ⟨_, fd, (eqO_ok (c.t.d.fact 57 (f := .glo "_law_deed_word") rfl)), He5.fun_of F⟩
  have n__law_read_deed : Fn K "_law_read_deed" sLReadDeed := by
    obtain ⟨fd, F⟩ := c.t.d.def_ 58 (d := ⟨("_law_read_deed", none), "_law_read_deed", "_law_read_deed", defArgs (top 107), defBody (top 107), defScope (top 107), [], []⟩) rfl
    exact ⟨_, fd, (eqO_ok (c.t.d.fact 58 (f := .glo "_law_read_deed") rfl)), He5.fun_of F⟩
  have n__law_told_of : Fn K "_law_told_of" sLToldOf := by
    obtain ⟨fd, F⟩ := c.t.d.def_ 59 (d := ⟨("_law_told_of", none), "_law_told_of", "_law_told_of", defArgs (top 108), defBody (top 108), defScope (top 108), [], []⟩) rfl
    exact ⟨_, fd, (eqO_ok (c.t.d.fact 59 (f := .glo "_law_told_of") rfl)), He5.fun_of F⟩
  have n__law_due_of : Fn K "_law_due_of" sLDueOf := by
    obtain ⟨fd, F⟩ := c.t.d.def_ 60 (d := ⟨("_law_due_of", none), "_law_due_of", "_law_due_of", defArgs (top 109), defBody (top 109), defScope (top 109), [], []⟩) rfl
    exact ⟨_, fd, (eqO_ok (c.t.d.fact 60 (f := .glo "_law_due_of") rfl)), He5.fun_of F⟩
  have n__law_spoilt_lines : Fn K "_law_spoilt_lines" sLSpLines := by
    obtain ⟨fd, F⟩ := c.t.d.def_ 61 (d := ⟨("_law_spoilt_lines", none), "_law_spoilt_lines", "_law_spoilt_lines", defArgs (top 110), defBody (top 110), defScope (top 110), [], []⟩) rfl
    exact ⟨_, fd, (eqO_ok (c.t.d.fact 61 (f := .glo "_law_spoilt_lines") rfl)), He5.fun_of F⟩
  have n_law : Fn K "law" sLLaw := by
    obtain ⟨fd, F⟩ := c.t.d.def_ 62 (d := ⟨("law", none), "law", "law", defArgs (top 111), defBody (top 111), defScope (top 111), [], []⟩) rfl
    exact ⟨_, fd, (eqO_ok (c.t.d.fact 62 (f := .glo "law") rfl)), He5.fun_of F⟩
  have q_Init : FnQ K "__init__" "Words.__init__" sWInit (ma K (ga K "Words") "__init__") := by
    obtain ⟨fd, F⟩ := c.t.d.def_ 63 (d := ⟨("Words", some "__init__"), "__init__", "Words.__init__", defArgs (inClass (top 56) 0), defBody (inClass (top 56) 0), defScope (inClass (top 56) 0), [], []⟩) rfl
    exact ⟨fd, He5.fun_of F⟩
  have q_H : FnQ K "here" "Words.here" sWHere (ma K (ga K "Words") "here") := by
    obtain ⟨fd, F⟩ := c.t.d.def_ 64 (d := ⟨("Words", some "here"), "here", "Words.here", defArgs (inClass (top 56) 1), defBody (inClass (top 56) 1), defScope (inClass (top 56) 1), [], []⟩) rfl
    exact ⟨fd, He5.fun_of F⟩
  have q_T : FnQ K "taken" "Words.taken" sWTaken (ma K (ga K "Words") "taken") := by
    obtain ⟨fd, F⟩ := c.t.d.def_ 65 (d := ⟨("Words", some "taken"), "taken", "Words.taken", defArgs (inClass (top 56) 2), defBody (inClass (top 56) 2), defScope (inClass (top 56) 2), [], []⟩) rfl
    exact ⟨fd, He5.fun_of F⟩
  have q_1 : FnQ K "take_one_of" "Words.take_one_of" sWTakeOne (ma K (ga K "Words") "take_one_of") := by
    obtain ⟨fd, F⟩ := c.t.d.def_ 66 (d := ⟨("Words", some "take_one_of"), "take_one_of", "Words.take_one_of", defArgs (inClass (top 56) 3), defBody (inClass (top 56) 3), defScope (inClass (top 56) 3), [], []⟩) rfl
    exact ⟨fd, He5.fun_of F⟩
  have q_N : FnQ K "take_name" "Words.take_name" sWTakeName (ma K (ga K "Words") "take_name") := by
    obtain ⟨fd, F⟩ := c.t.d.def_ 67 (d := ⟨("Words", some "take_name"), "take_name", "Words.take_name", defArgs (inClass (top 56) 4), defBody (inClass (top 56) 4), defScope (inClass (top 56) 4), [], []⟩) rfl
    exact ⟨fd, He5.fun_of F⟩
  have q_P : FnQ K "take_paper" "Words.take_paper" sWTakePaper (ma K (ga K "Words") "take_paper") := by
    obtain ⟨fd, F⟩ := c.t.d.def_ 68 (d := ⟨("Words", some "take_paper"), "take_paper", "Words.take_paper", defArgs (inClass (top 56) 6), defBody (inClass (top 56) 6), defScope (inClass (top 56) 6), [], []⟩) rfl
    exact ⟨fd, He5.fun_of F⟩
  have q_I : FnQ K "take_integer" "Words.take_integer" sWTakeInt (ma K (ga K "Words") "take_integer") := by
    obtain ⟨fd, F⟩ := c.t.d.def_ 69 (d := ⟨("Words", some "take_integer"), "take_integer", "Words.take_integer", defArgs (inClass (top 56) 5), defBody (inClass (top 56) 5), defScope (inClass (top 56) 5), [], []⟩) rfl
    exact ⟨fd, He5.fun_of F⟩
  have q_M : FnQ K "more" "Words.more" sWMore (ma K (ga K "Words") "more") := by
    obtain ⟨fd, F⟩ := c.t.d.def_ 70 (d := ⟨("Words", some "more"), "more", "Words.more", defArgs (inClass (top 56) 7), defBody (inClass (top 56) 7), defScope (inClass (top 56) 7), [], []⟩) rfl
    exact ⟨fd, He5.fun_of F⟩
  have q_F : FnQ K "finish" "Words.finish" sWFinish (ma K (ga K "Words") "finish") := by
    obtain ⟨fd, F⟩ := c.t.d.def_ 71 (d := ⟨("Words", some "finish"), "finish", "Words.finish", defArgs (inClass (top 56) 8), defBody (inClass (top 56) 8), defScope (inClass (top 56) 8), [], []⟩) rfl
    exact ⟨fd, He5.fun_of F⟩
  have hcls := cls_ok (c.t.d.fact 121 (f := .cls "Words") rfl)
  have hmkr := mkr_ok (c.t.d.fact 133 (f := .mkr "Words") rfl)
  have B : Bl mg := ⟨free_ok X G (c.t.d.fact 86 (f := .free "len") rfl), free_ok X G (c.t.d.fact 87 (f := .free "sum") rfl), free_ok X G (c.t.d.fact 88 (f := .free "abs") rfl), free_ok X G (c.t.d.fact 89 (f := .free "int") rfl), free_ok X G (c.t.d.fact 90 (f := .free "range") rfl), free_ok X G (c.t.d.fact 91 (f := .free "list") rfl), free_ok X G (c.t.d.fact 92 (f := .free "tuple") rfl), free_ok X G (c.t.d.fact 93 (f := .free "str") rfl), free_ok X G (c.t.d.fact 94 (f := .free "bool") rfl), free_ok X G (c.t.d.fact 95 (f := .free "sorted") rfl), free_ok X G (c.t.d.fact 96 (f := .free "all") rfl), free_ok X G (c.t.d.fact 97 (f := .free "min") rfl), free_ok X G (c.t.d.fact 98 (f := .free "isinstance") rfl), free_ok X G (c.t.d.fact 99 (f := .free "max") rfl)⟩
  have BZ : Bz mg := ⟨free_ok X G (c.t.d.fact 100 (f := .free "zip") rfl), free_ok X G (c.t.d.fact 101 (f := .free "enumerate") rfl)⟩
  have T : TW K mg (ga K "Words") := ⟨hcls, noat_ok (c.t.d.fact 122 (f := .noat "Words" "line") rfl), noat_ok (c.t.d.fact 123 (f := .noat "Words" "words") rfl), noat_ok (c.t.d.fact 124 (f := .noat "Words" "at") rfl), (glo_ok X G (c.t.d.fact 81 (f := .glo "Words") rfl))⟩
  obtain ⟨esI, mI, DI⟩ := c.t.tab 0 (t := (fun K => ga K "INNER_RULES", ["sum", "square", "faces", "back", "cut", "both", "either", "not", "any"])) rfl
  obtain ⟨esO, mO, DO⟩ := c.t.tab 1 (t := (fun K => ga K "OWN_VALUES", ["sum", "square", "faces", "back", "cut", "both", "either", "not", "any"])) rfl
  obtain ⟨esD, mD, DD⟩ := c.t.tab 2 (t := (fun K => ga K "DEED_WORDS", ["issue", "block", "use", "void", "again", "day", "edition"])) rfl
  have tW := c.tabW 2 (t := (fun K => ga K "DEED_WORDS", ["issue", "block", "use", "void", "again", "day", "edition"])) rfl
  have vI := (exAt c 0 (e := fun K => valsB K (ga K "INNER_RULES") vINNER_RULES) rfl)
  have vO := (exAt c 1 (e := fun K => valsB K (ga K "OWN_VALUES") vOWN_VALUES) rfl)
  have vD := (exAt c 2 (e := fun K => valsB K (ga K "DEED_WORDS") vDEED_WORDS) rfl)
  have aI := Hd.allB_ok (exAt c 3 (e := fun K => Hd.allB K (ga K "INNER_RULES") wdKey) rfl) DI.at_
  have Gk : Gc K w mg (ga K "INNER_RULES") := ⟨int_ok X G (c.t.d.fact 103 (f := .int "LEAST_KINDS" 2) rfl), int_ok X G (c.t.d.fact 104 (f := .int "MOST_KINDS" 12) rfl), int_ok X G (c.t.d.fact 105 (f := .int "LEAST_MODULUS" 2) rfl), int_ok X G (c.t.d.fact 106 (f := .int "MOST_MODULUS" 60) rfl), int_ok X G (c.t.d.fact 107 (f := .int "MOST_WEIGHTS" 8) rfl), int_ok X G (c.t.d.fact 108 (f := .int "MOST_ROWS" 60) rfl), int_ok X G (c.t.d.fact 109 (f := .int "MOST_FACES" 4) rfl), int_ok X G (c.t.d.fact 110 (f := .int "MOST_CUT" 3) rfl), int_ok X G (c.t.d.fact 111 (f := .int "MOST_PARTS" 40) rfl), int_ok X G (c.t.d.fact 112 (f := .int "MOST_DIGITS" 9) rfl), int_ok X G (c.t.d.fact 113 (f := .int "MOST_NUMBER" 59) rfl), str_ok X G (c.t.d.fact 117 (f := .str "DIGITS" "0123456789") rfl), str_ok X G (c.t.d.fact 118 (f := .str "ALL_SIGNS" K4.ALL) rfl), (glo_ok X G (c.t.d.fact 83 (f := .glo "INNER_RULES") rfl)),
    (fun k hk => by
      match k, hk with
      | 0, _ => exact Hd.kdct_of DI vI (x := "any") (v := .int 0) (by simp [vINNER_RULES])
      | 1, _ => exact Hd.kdct_of DI vI (x := "back") (v := .int 1) (by simp [vINNER_RULES])
      | 2, _ => exact Hd.kdct_of DI vI (x := "not") (v := .int 1) (by simp [vINNER_RULES])
      | 3, _ => exact Hd.kdct_of DI vI (x := "both") (v := .int 2) (by simp [vINNER_RULES])
      | 4, _ => exact Hd.kdct_of DI vI (x := "either") (v := .int 2) (by simp [vINNER_RULES])
      | 5, _ => exact Hd.kdct_of DI vI (x := "sum") (v := .int 0) (by simp [vINNER_RULES])
      | 6, _ => exact Hd.kdct_of DI vI (x := "square") (v := .int 0) (by simp [vINNER_RULES])
      | 7, _ => exact Hd.kdct_of DI vI (x := "faces") (v := .int 1) (by simp [vINNER_RULES])
      | 8, _ => exact Hd.kdct_of DI vI (x := "cut") (v := .int 1) (by simp [vINNER_RULES])
      | k + 9, hk => omega),
    ⟨_, _, DI⟩, (fun k hk => by
      match k, hk with
      | 0, _ => obtain ⟨u, e, _⟩ := valsB_ok vI (q := ("any", .int 0)) (by simp [vINNER_RULES]); exact ⟨u, e⟩
      | 1, _ => obtain ⟨u, e, _⟩ := valsB_ok vI (q := ("back", .int 1)) (by simp [vINNER_RULES]); exact ⟨u, e⟩
      | 2, _ => obtain ⟨u, e, _⟩ := valsB_ok vI (q := ("not", .int 1)) (by simp [vINNER_RULES]); exact ⟨u, e⟩
      | 3, _ => obtain ⟨u, e, _⟩ := valsB_ok vI (q := ("both", .int 2)) (by simp [vINNER_RULES]); exact ⟨u, e⟩
      | 4, _ => obtain ⟨u, e, _⟩ := valsB_ok vI (q := ("either", .int 2)) (by simp [vINNER_RULES]); exact ⟨u, e⟩
      | 5, _ => obtain ⟨u, e, _⟩ := valsB_ok vI (q := ("sum", .int 0)) (by simp [vINNER_RULES]); exact ⟨u, e⟩
      | 6, _ => obtain ⟨u, e, _⟩ := valsB_ok vI (q := ("square", .int 0)) (by simp [vINNER_RULES]); exact ⟨u, e⟩
      | 7, _ => obtain ⟨u, e, _⟩ := valsB_ok vI (q := ("faces", .int 1)) (by simp [vINNER_RULES]); exact ⟨u, e⟩
      | 8, _ => obtain ⟨u, e, _⟩ := valsB_ok vI (q := ("cut", .int 1)) (by simp [vINNER_RULES]); exact ⟨u, e⟩
      | k + 9, hk => omega), ns_miss DI.at_ aI⟩
  have Go : Go K w mg (ga K "OWN_VALUES") := ⟨(glo_ok X G (c.t.d.fact 82 (f := .glo "OWN_VALUES") rfl)), (fun k hk => by
      match k, hk with
      | 0, _ => exact Hd.kdct_of DO vO (x := "any") (v := .int 0) (by simp [vOWN_VALUES])
      | 1, _ => exact Hd.kdct_of DO vO (x := "back") (v := .int 0) (by simp [vOWN_VALUES])
      | 2, _ => exact Hd.kdct_of DO vO (x := "not") (v := .int 0) (by simp [vOWN_VALUES])
      | 3, _ => exact Hd.kdct_of DO vO (x := "both") (v := .int 0) (by simp [vOWN_VALUES])
      | 4, _ => exact Hd.kdct_of DO vO (x := "either") (v := .int 0) (by simp [vOWN_VALUES])
      | 5, _ => exact Hd.kdct_of DO vO (x := "sum") (v := .int 3) (by simp [vOWN_VALUES])
      | 6, _ => exact Hd.kdct_of DO vO (x := "square") (v := .int 2) (by simp [vOWN_VALUES])
      | 7, _ => exact Hd.kdct_of DO vO (x := "faces") (v := .int 1) (by simp [vOWN_VALUES])
      | 8, _ => exact Hd.kdct_of DO vO (x := "cut") (v := .int 2) (by simp [vOWN_VALUES])
      | k + 9, hk => omega)⟩
  have N7 : G7 K w mg (ga K "DEED_WORDS") (ga K "NO_NAMES") (fun k => Hd.dAt K (ga K "DEED_WORDS") (K4.dw k)) := ⟨int_ok X G (c.t.d.fact 114 (f := .int "MOST_SIGNS" 60) rfl), int_ok X G (c.t.d.fact 115 (f := .int "MOST_MANY" 20) rfl), int_ok X G (c.t.d.fact 116 (f := .int "MOST_LETTERS" 8) rfl), str_ok X G (c.t.d.fact 119 (f := .str "LETTERS" "abcdefghijklmnopqrstuvwxyz") rfl), str_ok X G (c.t.d.fact 120 (f := .str "EMPTY_PAPER" "-") rfl), (glo_ok X G (c.t.d.fact 85 (f := .glo "NO_NAMES") rfl)), Hd.tupAtB_ok (exAt c 4 (e := fun K => Hd.tupAtB K (ga K "NO_NAMES") nnQ) rfl), (glo_ok X G (c.t.d.fact 84 (f := .glo "DEED_WORDS") rfl)),
    (fun k hk => by
      match k, hk with
      | 0, _ => exact Hd.kdct_of DD vD (x := "issue") (v := .adr fun K => Hd.dAt K (ga K "DEED_WORDS") "issue") (by simp [vDEED_WORDS])
      | 1, _ => exact Hd.kdct_of DD vD (x := "block") (v := .adr fun K => Hd.dAt K (ga K "DEED_WORDS") "block") (by simp [vDEED_WORDS])
      | 2, _ => exact Hd.kdct_of DD vD (x := "use") (v := .adr fun K => Hd.dAt K (ga K "DEED_WORDS") "use") (by simp [vDEED_WORDS])
      | 3, _ => exact Hd.kdct_of DD vD (x := "void") (v := .adr fun K => Hd.dAt K (ga K "DEED_WORDS") "void") (by simp [vDEED_WORDS])
      | 4, _ => exact Hd.kdct_of DD vD (x := "again") (v := .adr fun K => Hd.dAt K (ga K "DEED_WORDS") "again") (by simp [vDEED_WORDS])
      | 5, _ => exact Hd.kdct_of DD vD (x := "day") (v := .adr fun K => Hd.dAt K (ga K "DEED_WORDS") "day") (by simp [vDEED_WORDS])
      | 6, _ => exact Hd.kdct_of DD vD (x := "edition") (v := .adr fun K => Hd.dAt K (ga K "DEED_WORDS") "edition") (by simp [vDEED_WORDS])
      | k + 7, hk => omega),
    (fun k hk H => by
      match k, hk with
      | 0, _ => exact Hd.tupAtB_ok (exAt c 5 (e := fun K => Hd.tupAtB K (Hd.dAt K (ga K "DEED_WORDS") "issue") (dkQ 0)) rfl) H
      | 1, _ => exact Hd.tupAtB_ok (exAt c 6 (e := fun K => Hd.tupAtB K (Hd.dAt K (ga K "DEED_WORDS") "block") (dkQ 1)) rfl) H
      | 2, _ => exact Hd.tupAtB_ok (exAt c 7 (e := fun K => Hd.tupAtB K (Hd.dAt K (ga K "DEED_WORDS") "use") (dkQ 2)) rfl) H
      | 3, _ => exact Hd.tupAtB_ok (exAt c 8 (e := fun K => Hd.tupAtB K (Hd.dAt K (ga K "DEED_WORDS") "void") (dkQ 3)) rfl) H
      | 4, _ => exact Hd.tupAtB_ok (exAt c 9 (e := fun K => Hd.tupAtB K (Hd.dAt K (ga K "DEED_WORDS") "again") (dkQ 4)) rfl) H
      | 5, _ => exact Hd.tupAtB_ok (exAt c 10 (e := fun K => Hd.tupAtB K (Hd.dAt K (ga K "DEED_WORDS") "day") (dkQ 5)) rfl) H
      | 6, _ => exact Hd.tupAtB_ok (exAt c 11 (e := fun K => Hd.tupAtB K (Hd.dAt K (ga K "DEED_WORDS") "edition") (dkQ 6)) rfl) H
      | k + 7, hk => omega),
    ⟨esD, mD, DD, Hd.dicW_keys tW DD.at_, by have hv := Vals.length (Hd.dicW_keys tW DD.at_); rw [List.length_map, List.length_map] at hv; show esD.toList.length ≤ sizeLine; rw [← hv]; decide⟩⟩
  have aL := (glo_ok X G (c.t.d.fact 75 (f := .glo "BadLine") rfl))
  have oxL := Hd.oexB_ok (exAt c 12 (e := fun K => Hd.oexB K (ga K "BadLine")) rfl)
  obtain ⟨sin, subC, subV⟩ := Hd.supB_ok (exAt c 14 (e := fun K => Hd.supB K (ga K "BadLine")) rfl)
  obtain ⟨oc, od, kV, doc, pm, an, ct, osl, cda, cc, ccl, cdd, vs, ccs, file, tf, cl0, cld, csl, lk, hcd, lcd, hvs, hfile, lcc⟩ := Hd.init_ok (P := PROG) (d := ⟨("BadLine", some "__init__"), "BadLine.__init__", defArgs (inClass (top 13) 0), defBody (inClass (top 13) 0), defScope (inClass (top 13) 0)⟩) (c.init 0 rfl) (exAt c 17 (e := fun K => Hd.initB PROG K ("BadLine", some "__init__") "BadLine.__init__" (ga K "BadLine")) rfl)
  have T0 : LineF PROG K mg (ma K (ga K "BadLine") "__init__") _ (ga K "BadLine") := ⟨⟨oc, od, kV, doc, pm, an, ct, osl, cda, cc, ccl, cdd, vs, ccs, file, tf, cl0, cld, csl, rfl, lk, hcd, lcd, hvs, hfile, lcc⟩, by kernel_rfl, eqO_ok (exAt c 18 (e := fun K => eqO (PySem.W.nsIn K cStatics "thirdparty.any") (some none)) rfl), free_ok X G (c.t.d.fact 102 (f := .free "super") rfl), oxL, sin, subC, subV, eqO_ok (exAt c 19 (e := fun K => eqO (PySem.W.findIn K (.ref (ga K "BadLine")) "line") (some none)) rfl), eqO_ok (exAt c 20 (e := fun K => eqO (PySem.W.findIn K (.ref (ga K "BadLine")) "word") (some none)) rfl)⟩
  have TLx : TL PROG K mg (ga K "BadLine") (ma K (ga K "BadLine") "__init__") _ := ⟨T0, eqO_ok (exAt c 21 (e := fun K => eqO (PySem.W.findIn K (.ref (ga K "BadLine")) "__init__") (some (some (.ref (ma K (ga K "BadLine") "__init__"))))) rfl), of_decide_eq_true (exAt c 22 (e := fun K => decide (PySem.W.typeIn K (.ref (ma K (ga K "BadLine") "__init__")) = some (.type "function"))) rfl), K4.bL_mk, aL⟩
  have TC := Hd.excB_ok (exAt c 13 (e := fun K => Hd.excB K (ga K "BadLine")) rfl)
  have TX := xfB_ok (exAt c 15 (e := fun K => xfB K (ga K "BadLine")) rfl)
  have hcl : (PySem.W.clsIn K (ga K "BadLine")).isSome = true := (exAt c 16 (e := fun K => (PySem.W.clsIn K (ga K "BadLine")).isSome) rfl)
  have exm := exm_ok (c.t.d.fact 134 (f := .exm "BadLine" "BadLine" true) rfl)
  have c_CarryError : ClX K (ga K "BadLine") "CarryError" true := ⟨ga K "CarryError", (eqO_ok (c.t.d.fact 63 (f := .glo "CarryError") rfl)), of_decide_eq_true (exAt c 23 (e := fun K => Hd.kitB1 K (ga K "BadLine") (ga K "CarryError") true) rfl)⟩
  have c_Malformed : ClX K (ga K "BadLine") "Malformed" true := ⟨ga K "Malformed", (eqO_ok (c.t.d.fact 64 (f := .glo "Malformed") rfl)), of_decide_eq_true (exAt c 24 (e := fun K => Hd.kitB1 K (ga K "BadLine") (ga K "Malformed") true) rfl)⟩
  have c_Refused : ClX K (ga K "BadLine") "Refused" false := ⟨ga K "Refused", (eqO_ok (c.t.d.fact 65 (f := .glo "Refused") rfl)), of_decide_eq_true (exAt c 25 (e := fun K => Hd.kitB1 K (ga K "BadLine") (ga K "Refused") false) rfl)⟩
  have c_BadSigns : ClX K (ga K "BadLine") "BadSigns" false := ⟨ga K "BadSigns", (eqO_ok (c.t.d.fact 66 (f := .glo "BadSigns") rfl)), of_decide_eq_true (exAt c 26 (e := fun K => Hd.kitB1 K (ga K "BadLine") (ga K "BadSigns") false) rfl)⟩
  have c_BadPaper : ClX K (ga K "BadLine") "BadPaper" false := ⟨ga K "BadPaper", (eqO_ok (c.t.d.fact 67 (f := .glo "BadPaper") rfl)), of_decide_eq_true (exAt c 27 (e := fun K => Hd.kitB1 K (ga K "BadLine") (ga K "BadPaper") false) rfl)⟩
  have c_BadName : ClX K (ga K "BadLine") "BadName" false := ⟨ga K "BadName", (eqO_ok (c.t.d.fact 68 (f := .glo "BadName") rfl)), of_decide_eq_true (exAt c 28 (e := fun K => Hd.kitB1 K (ga K "BadLine") (ga K "BadName") false) rfl)⟩
  have c_BadWalk : ClX K (ga K "BadLine") "BadWalk" false := ⟨ga K "BadWalk", (eqO_ok (c.t.d.fact 69 (f := .glo "BadWalk") rfl)), of_decide_eq_true (exAt c 29 (e := fun K => Hd.kitB1 K (ga K "BadLine") (ga K "BadWalk") false) rfl)⟩
  have c_BadRule : ClX K (ga K "BadLine") "BadRule" false := ⟨ga K "BadRule", (eqO_ok (c.t.d.fact 70 (f := .glo "BadRule") rfl)), of_decide_eq_true (exAt c 30 (e := fun K => Hd.kitB1 K (ga K "BadLine") (ga K "BadRule") false) rfl)⟩
  have c_BadForm : ClX K (ga K "BadLine") "BadForm" false := ⟨ga K "BadForm", (eqO_ok (c.t.d.fact 71 (f := .glo "BadForm") rfl)), of_decide_eq_true (exAt c 31 (e := fun K => Hd.kitB1 K (ga K "BadLine") (ga K "BadForm") false) rfl)⟩
  have c_BadSlip : ClX K (ga K "BadLine") "BadSlip" false := ⟨ga K "BadSlip", (eqO_ok (c.t.d.fact 72 (f := .glo "BadSlip") rfl)), of_decide_eq_true (exAt c 32 (e := fun K => Hd.kitB1 K (ga K "BadLine") (ga K "BadSlip") false) rfl)⟩
  have c_BadWay : ClX K (ga K "BadLine") "BadWay" false := ⟨ga K "BadWay", (eqO_ok (c.t.d.fact 73 (f := .glo "BadWay") rfl)), of_decide_eq_true (exAt c 33 (e := fun K => Hd.kitB1 K (ga K "BadLine") (ga K "BadWay") false) rfl)⟩
  have c_BadDeed : ClX K (ga K "BadLine") "BadDeed" false := ⟨ga K "BadDeed", (eqO_ok (c.t.d.fact 74 (f := .glo "BadDeed") rfl)), of_decide_eq_true (exAt c 34 (e := fun K => Hd.kitB1 K (ga K "BadLine") (ga K "BadDeed") false) rfl)⟩
  have c_BadLine : ClX K (ga K "BadLine") "BadLine" true := ⟨ga K "BadLine", (eqO_ok (c.t.d.fact 75 (f := .glo "BadLine") rfl)), of_decide_eq_true (exAt c 35 (e := fun K => Hd.kitB1 K (ga K "BadLine") (ga K "BadLine") true) rfl)⟩
  have c_TooMany : ClX K (ga K "BadLine") "TooMany" false := ⟨ga K "TooMany", (eqO_ok (c.t.d.fact 76 (f := .glo "TooMany") rfl)), of_decide_eq_true (exAt c 36 (e := fun K => Hd.kitB1 K (ga K "BadLine") (ga K "TooMany") false) rfl)⟩
  have c_Twice : ClX K (ga K "BadLine") "Twice" false := ⟨ga K "Twice", (eqO_ok (c.t.d.fact 77 (f := .glo "Twice") rfl)), of_decide_eq_true (exAt c 37 (e := fun K => Hd.kitB1 K (ga K "BadLine") (ga K "Twice") false) rfl)⟩
  have c_Unknown : ClX K (ga K "BadLine") "Unknown" false := ⟨ga K "Unknown", (eqO_ok (c.t.d.fact 78 (f := .glo "Unknown") rfl)), of_decide_eq_true (exAt c 38 (e := fun K => Hd.kitB1 K (ga K "BadLine") (ga K "Unknown") false) rfl)⟩
  have c_Unlike : ClX K (ga K "BadLine") "Unlike" false := ⟨ga K "Unlike", (eqO_ok (c.t.d.fact 79 (f := .glo "Unlike") rfl)), of_decide_eq_true (exAt c 39 (e := fun K => Hd.kitB1 K (ga K "BadLine") (ga K "Unlike") false) rfl)⟩
  have c_Unfit : ClX K (ga K "BadLine") "Unfit" false := ⟨ga K "Unfit", (eqO_ok (c.t.d.fact 80 (f := .glo "Unfit") rfl)), of_decide_eq_true (exAt c 40 (e := fun K => Hd.kitB1 K (ga K "BadLine") (ga K "Unfit") false) rfl)⟩
  have CF : ClsF K mg (ga K "BadLine") (cAt K) := fun e he => by
    simp only [clsL] at he
    rcases List.mem_cons.mp he with rfl | he
    · exact clx_at X G c_CarryError
    rcases List.mem_cons.mp he with rfl | he
    · exact clx_at X G c_Malformed
    rcases List.mem_cons.mp he with rfl | he
    · exact clx_at X G c_Refused
    rcases List.mem_cons.mp he with rfl | he
    · exact clx_at X G c_BadSigns
    rcases List.mem_cons.mp he with rfl | he
    · exact clx_at X G c_BadPaper
    rcases List.mem_cons.mp he with rfl | he
    · exact clx_at X G c_BadName
    rcases List.mem_cons.mp he with rfl | he
    · exact clx_at X G c_BadWalk
    rcases List.mem_cons.mp he with rfl | he
    · exact clx_at X G c_BadRule
    rcases List.mem_cons.mp he with rfl | he
    · exact clx_at X G c_BadForm
    rcases List.mem_cons.mp he with rfl | he
    · exact clx_at X G c_BadSlip
    rcases List.mem_cons.mp he with rfl | he
    · exact clx_at X G c_BadWay
    rcases List.mem_cons.mp he with rfl | he
    · exact clx_at X G c_BadDeed
    rcases List.mem_cons.mp he with rfl | he
    · exact clx_at X G c_BadLine
    rcases List.mem_cons.mp he with rfl | he
    · exact clx_at X G c_TooMany
    rcases List.mem_cons.mp he with rfl | he
    · exact clx_at X G c_Twice
    rcases List.mem_cons.mp he with rfl | he
    · exact clx_at X G c_Unknown
    rcases List.mem_cons.mp he with rfl | he
    · exact clx_at X G c_Unlike
    rcases List.mem_cons.mp he with rfl | he
    · exact clx_at X G c_Unfit
    cases he
  obtain ⟨flw, fdlw, alw, Flw⟩ := n_law
  have e := hfa.symm.trans (PySem.W.mg_of X G alw)
  cases e
  refine ⟨fdlw, fun s u => ?_, fun base _ _ => ?_⟩
  · obtain ⟨oc, od, kV, doc, pm, an, cdv, ct, osl, rfl, _⟩ := Flw.ex
    exact .of_eq rfl
  · 
    have Owh := own_of (P := PROG) (w := w) (base := base) X G n_is_whole (fun f fd F => ok_isWhole F B) (fun _ _ _ _ _ _ us hl => match us, hl with | [_], _ => rfl)
    have Owi := own_of (P := PROG) (w := w) (base := base) X G n_is_within (fun f fd F => ok_isWithin F B Owh) (fun _ _ _ _ _ _ us hl => match us, hl with | [_, _, _], _ => rfl)
    have Ot := own_of (P := PROG) (w := w) (base := base) X G n_is_text (fun f fd F => ok_isText F B) (fun _ _ _ _ _ _ us hl => match us, hl with | [_, _, _, _], _ => rfl)
    have Oi := own_of (P := PROG) (w := w) (base := base) X G n_integer_in (fun f fd F => ok_integerIn F B Gk Ot Owi) (fun _ _ _ _ _ _ us hl => match us, hl with | [_, _, _], _ => rfl)
    have Ois := own_of (P := PROG) (w := w) (base := base) X G n_integers_in (fun f fd F => ok_integersIn F B Oi) (fun _ _ _ _ _ _ us hl => match us, hl with | [_, _, _, _], _ => rfl)
    have Oc := own_of (P := PROG) (w := w) (base := base) X G n_characters_in (fun f fd F => ok_charactersIn F B Gk Ot) (fun _ _ _ _ _ _ us hl => match us, hl with | [_, _, _], _ => rfl)
    have Otxs := own_of (P := PROG) (w := w) (base := base) X G n_texts_in (fun f fd F => ok_textsIn F B Oc) (fun _ _ _ _ _ _ us hl => match us, hl with | [_, _, _, _, _], _ => rfl)
    have Orows := own_of (P := PROG) (w := w) (base := base) X G n_rows_in (fun f fd F => ok_rowsIn F B Gk Ois) (fun _ _ _ _ _ _ us hl => match us, hl with | [_], _ => rfl)
    have Ori := own_of (P := PROG) (w := w) (base := base) X G n_rule_word_in (fun f fd F => ok_ruleWordIn F B Gk) (fun _ _ _ _ _ _ us hl => match us, hl with | [_, _], _ => rfl)
    have On := own_of (P := PROG) (w := w) (base := base) X G n_is_name (fun f fd F => ok_isName F B N7 Ot) (fun _ _ _ _ _ _ us hl => match us, hl with | [_], _ => rfl)
    have Oni := own_of (P := PROG) (w := w) (base := base) X G n_name_in (fun f fd F => ok_nameIn F B On) (fun _ _ _ _ _ _ us hl => match us, hl with | [_], _ => rfl)
    have Opi := own_of (P := PROG) (w := w) (base := base) X G n_paper_in (fun f fd F => ok_paperIn F B N7 Oc) (fun _ _ _ _ _ _ us hl => match us, hl with | [_, _], _ => rfl)
    have Opw := own_of (P := PROG) (w := w) (base := base) X G n_paper_word (fun f fd F => ok_paperWord F B N7) (fun _ _ _ _ _ _ us hl => match us, hl with | [_], _ => rfl)
    have Oov := own_of (P := PROG) (w := w) (base := base) X G n_own_values (fun f fd F => ok_ownValues F B Go) (fun _ _ _ _ _ _ us hl => match us, hl with | [_], _ => rfl)
    have Oir := own_of (P := PROG) (w := w) (base := base) X G n_inner_rules (fun f fd F => ok_innerRules F B Go) (fun _ _ _ _ _ _ us hl => match us, hl with | [_], _ => rfl)
    have Oiw := own_of (P := PROG) (w := w) (base := base) X G n_integers_word (fun f fd F => ok_integersWord F B) (fun _ _ _ _ _ _ us hl => match us, hl with | [_], _ => rfl)
    have Oow := own_of (P := PROG) (w := w) (base := base) X G n_own_words (fun f fd F => ok_ownWords F B Oiw) (fun _ _ _ _ _ _ us hl => match us, hl with | [_, _], _ => rfl)
    have Orw : ORW 42 PROG w K mg base := by
      obtain ⟨f, fd, a, F⟩ := id n_rule_words
      exact rw_all F B Oow Oov Oir (PySem.W.mg_of X G a) (F.binds (fun _ _ _ _ _ _ us hl => match us, hl with | [_], _ => rfl)) 42
    have Owr := own_of (P := PROG) (w := w) (base := base) X G n_write_rule (fun f fd F => ok_writeRule F B Orw) (fun _ _ _ _ _ _ us hl => match us, hl with | [_], _ => rfl)
    have Odw := own_of (P := PROG) (w := w) (base := base) X G n_deed_word (fun f fd F => ok_deedWord F B Opw Owr) (fun _ _ _ _ _ _ us hl => match us, hl with | [_, _], _ => rfl)
    have Odl := own_of (P := PROG) (w := w) (base := base) X G n_deed_line (fun f fd F => ok_deedLine F B BZ N7 Odw) (fun _ _ _ _ _ _ us hl => match us, hl with | [_], _ => rfl)
    have Owd := own_of (P := PROG) (w := w) (base := base) X G n_write_deeds (fun f fd F => ok_writeDeeds F B Odl) (fun _ _ _ _ _ _ us hl => match us, hl with | [_], _ => rfl)
    obtain ⟨fdInit, FInit⟩ := id q_Init
    have bInit := FInit.binds (ps := ["self", "line", "text"]) (fun _ _ _ _ _ _ us hl => match us, hl with | [_, _, _], _ => rfl)
    have GInit := fun j : Ln => ok_wInit (j := j) (P := PROG) (w := w) (base := base) FInit B T TLx
    obtain ⟨fdH, FH⟩ := id q_H
    have bH := FH.binds (ps := ["self"]) (fun _ _ _ _ _ _ us hl => match us, hl with | [_], _ => rfl)
    have GH := fun j : Ln => ok_wHere (j := j) (P := PROG) (w := w) (base := base) FH B T TLx
    have mH := (meth_ok (c.t.d.fact 125 (f := .meth "Words" "here") rfl))
    obtain ⟨fdT, FT⟩ := id q_T
    have bT := FT.binds (ps := ["self", "worth"]) (fun _ _ _ _ _ _ us hl => match us, hl with | [_, _], _ => rfl)
    have GT := fun j : Ln => ok_wTaken (j := j) (P := PROG) (w := w) (base := base) FT B T TLx
    have mT := (meth_ok (c.t.d.fact 126 (f := .meth "Words" "taken") rfl))
    obtain ⟨fdM, FM⟩ := id q_M
    have bM := FM.binds (ps := ["self"]) (fun _ _ _ _ _ _ us hl => match us, hl with | [_], _ => rfl)
    have GM := fun j : Ln => ok_wMore (j := j) (P := PROG) (w := w) (base := base) FM B T
    have mM := (meth_ok (c.t.d.fact 131 (f := .meth "Words" "more") rfl))
    obtain ⟨fdF, FF⟩ := id q_F
    have bF := FF.binds (ps := ["self"]) (fun _ _ _ _ _ _ us hl => match us, hl with | [_], _ => rfl)
    have GF := fun j : Ln => ok_wFinish (j := j) (P := PROG) (w := w) (base := base) FF B T TLx (GM j) mM bM
    have mF := (meth_ok (c.t.d.fact 132 (f := .meth "Words" "finish") rfl))
    obtain ⟨fdI, FI⟩ := id q_I
    have bI := FI.binds (ps := ["self", "least", "most"]) (fun _ _ _ _ _ _ us hl => match us, hl with | [_, _, _], _ => rfl)
    have GI := fun j : Ln => ok_wTakeInt (j := j) (P := PROG) (w := w) (base := base) FI B T Oi (GT j) mT bT (GH j) mH bH
    have mI := (meth_ok (c.t.d.fact 130 (f := .meth "Words" "take_integer") rfl))
    obtain ⟨fd1, F1⟩ := id q_1
    have b1 := F1.binds (ps := ["self", "choices"]) (fun _ _ _ _ _ _ us hl => match us, hl with | [_, _], _ => rfl)
    have G1 := fun j : Ln => ok_wTakeOne (j := j) (P := PROG) (w := w) (base := base) F1 B T (GT j) mT bT (GH j) mH bH
    have m1 := (meth_ok (c.t.d.fact 127 (f := .meth "Words" "take_one_of") rfl))
    obtain ⟨fdN, FN⟩ := id q_N
    have bN := FN.binds (ps := ["self"]) (fun _ _ _ _ _ _ us hl => match us, hl with | [_], _ => rfl)
    have GN := fun j : Ln => ok_wTakeName (j := j) (P := PROG) (w := w) (base := base) FN B T Oni (GT j) mT bT (GH j) mH bH
    have mN := (meth_ok (c.t.d.fact 128 (f := .meth "Words" "take_name") rfl))
    obtain ⟨fdP, FP⟩ := id q_P
    have bP := FP.binds (ps := ["self", "most"]) (fun _ _ _ _ _ _ us hl => match us, hl with | [_, _], _ => rfl)
    have GP := fun j : Ln => ok_wTakePaper (j := j) (P := PROG) (w := w) (base := base) FP B T Opi (GT j) mT bT (GH j) mH bH
    have mP := (meth_ok (c.t.d.fact 129 (f := .meth "Words" "take_paper") rfl))
    have Otv : ∀ j : Ln, OTakenValues j (ga K "Words") (ga K "BadLine") PROG w K mg base := fun j => ownX_of (P := PROG) (w := w) (base := base) X G n_taken_values (fun f fd F => ok_takenValues F B Gk T (GT j) mT bT (GH j) mH bH (GI j) mI bI Ois Orows Otxs) (fun _ _ _ _ _ _ us hl => match us, hl with | [_, _], _ => rfl)
    have Otr : ∀ j : Ln, OTakeRule j 41 (ga K "Words") (ga K "BadLine") PROG w K mg base := fun j => by
      obtain ⟨f, fd, a, F⟩ := id n_take_rule
      exact tr_all F B Gk T (GT j) mT bT (GH j) mH bH Ori (Otv j) (PySem.W.mg_of X G a) (F.binds (fun _ _ _ _ _ _ us hl => match us, hl with | [_, _], _ => rfl)) 41
    have Otl : ∀ j : Ln, OTakeLast j (ga K "Words") (ga K "BadLine") PROG w K mg base := fun j => ownX_of (P := PROG) (w := w) (base := base) X G n_take_last_rule (fun f fd F => ok_takeLast F B (Otr j) T (GF j) mF bF) (fun _ _ _ _ _ _ us hl => match us, hl with | [_], _ => rfl)
    have Otp : ∀ j : Ln, OTakePart j (ga K "Words") (ga K "BadLine") PROG w K mg base := fun j => ownX_of (P := PROG) (w := w) (base := base) X G n_take_part (fun f fd F => ok_takePart F B T N7 (GN j) mN bN (GI j) mI bI (GP j) mP bP (Otl j)) (fun _ _ _ _ _ _ us hl => match us, hl with | [_, _], _ => rfl)
    have Ord : OReadDeed (ga K "Words") (ga K "BadLine") PROG w K mg base := ownX_of (P := PROG) (w := w) (base := base) X G n_read_deed (fun f fd F => FnOk.exJ fun j => ok_readDeed F B T N7 (G1 j) m1 b1 (GF j) mF bF (Otp j)) (fun _ _ _ _ _ _ us hl => match us, hl with | [_], _ => rfl)
    obtain ⟨fRd, fdRd, aRd, FRd⟩ := id n_read_deeds
    have GRd := ok_readDeeds (P := PROG) (w := w) (base := base) FRd B BZ T hmkr (FnOk.exJ GInit) bInit Ord
    have Ordk : OReadOk PROG w K mg base := ⟨fRd, fdRd, readOk GRd, PySem.W.mg_of X G aRd, FRd.kp, FRd.binds (fun _ _ _ _ _ _ us hl => match us, hl with | [_], _ => rfl)⟩
    have Op := own_of (P := PROG) (w := w) (base := base) X G n__law_pick (fun f fd F => ok_pick F B) (fun _ _ _ _ _ _ us hl => match us, hl with | [_, _], _ => rfl)
    have Ob := own_of (P := PROG) (w := w) (base := base) X G n__law_bag_of (fun f fd F => ok_bagOf F B) (fun _ _ _ _ _ _ us hl => match us, hl with | [_, _], _ => rfl)
    have Oo := own_of (P := PROG) (w := w) (base := base) X G n__law_one_of (fun f fd F => ok_oneOf F B Op) (fun _ _ _ _ _ _ us hl => match us, hl with | [_, _], _ => rfl)
    have Oot := own_of (P := PROG) (w := w) (base := base) X G n__law_one_of (fun f fd F => ok_oneOfT F B Op) (fun _ _ _ _ _ _ us hl => match us, hl with | [_, _], _ => rfl)
    have Omx := own_of (P := PROG) (w := w) (base := base) X G n__law_mixed (fun f fd F => ok_mixed F B Op) (fun _ _ _ _ _ _ us hl => match us, hl with | [_, _], _ => rfl)
    have OmxL := own_of (P := PROG) (w := w) (base := base) X G n__law_mixed (fun f fd F => ok_mixedL F B Op) (fun _ _ _ _ _ _ us hl => match us, hl with | [_, _], _ => rfl)
    have Om := own_of (P := PROG) (w := w) (base := base) X G n__law_many_signs (fun f fd F => ok_many F B Op Omx) (fun _ _ _ _ _ _ us hl => match us, hl with | [_], _ => rfl)
    have Opa := own_of (P := PROG) (w := w) (base := base) X G n__law_paper_of (fun f fd F => ok_paperOf F B Op Oo) (fun _ _ _ _ _ _ us hl => match us, hl with | [_, _, _], _ => rfl)
    have Olf := own_of (P := PROG) (w := w) (base := base) X G n__law_text_leaf (fun f fd F => ok_leaf F B Op) (fun _ _ _ _ _ _ us hl => match us, hl with | [_, _, _], _ => rfl)
    have Otx : OTextRule 46 PROG w K mg base := by
      obtain ⟨f, fd, a, F⟩ := id n__law_text_rule
      exact tx_all F B Op Oo Olf (PySem.W.mg_of X G a) (F.binds (fun _ _ _ _ _ _ us hl => match us, hl with | [_, _, _, _], _ => rfl)) 46
    have Odo := own_of (P := PROG) (w := w) (base := base) X G n__law_deed_of (fun f fd F => ok_deedOf F B Op Oo Opa Otx Om) (fun _ _ _ _ _ _ us hl => match us, hl with | [_, _], _ => rfl)
    have Okw := own_of (P := PROG) (w := w) (base := base) X G n__law_keywords (fun f fd F => ok_keys F B) (fun _ _ _ _ _ _ us hl => match us, hl with | [], _ => rfl)
    have Ofr := own_of (P := PROG) (w := w) (base := base) X G n__law_free_names (fun f fd F => ok_free F B Op Oo Okw) (fun _ _ _ _ _ _ us hl => match us, hl with | [_, _], _ => rfl)
    have Oll : OLL 46 PROG w K mg base := by
      obtain ⟨f, fd, a, F⟩ := id n__law_listed_of
      exact ll_all F B (PySem.W.mg_of X G a) (F.binds (fun _ _ _ _ _ _ us hl => match us, hl with | [_], _ => rfl)) 46
    have OllL := own_of (P := PROG) (w := w) (base := base) X G n__law_listed_of (fun f fd F => ok_listedL F B Oll) (fun _ _ _ _ _ _ us hl => match us, hl with | [_], _ => rfl)
    have Onl : ONL 48 PROG w K mg base := by
      obtain ⟨f, fd, a, F⟩ := id n__law_no_list
      exact nl_all F B (PySem.W.mg_of X G a) (F.binds (fun _ _ _ _ _ _ us hl => match us, hl with | [_], _ => rfl)) 48
    have Osm := own_of (P := PROG) (w := w) (base := base) X G n__law_same_tuple (fun f fd F => ok_same7 F B Onl) (fun _ _ _ _ _ _ us hl => match us, hl with | [_, _], _ => rfl)
    have Oii := own_of (P := PROG) (w := w) (base := base) X G n__law_is_int (fun f fd F => ok_isInt5 F B) (fun _ _ _ _ _ _ us hl => match us, hl with | [_], _ => rfl)
    have Onu := own_of (P := PROG) (w := w) (base := base) X G n__law_numeral (fun f fd F => ok_numeral F B) (fun _ _ _ _ _ _ us hl => match us, hl with | [_, _, _], _ => rfl)
    have Ons := own_of (P := PROG) (w := w) (base := base) X G n__law_numerals (fun f fd F => ok_numerals F B Onu) (fun _ _ _ _ _ _ us hl => match us, hl with | [_, _, _], _ => rfl)
    have Omd := own_of (P := PROG) (w := w) (base := base) X G n__law_made (fun f fd F => ok_made F B) (fun _ _ _ _ _ _ us hl => match us, hl with | [_, _, _, _], _ => rfl)
    have Ost := own_of (P := PROG) (w := w) (base := base) X G n__law_strings (fun f fd F => ok_strings F B Omd) (fun _ _ _ _ _ _ us hl => match us, hl with | [_, _, _, _, _], _ => rfl)
    have Okd := own_of (P := PROG) (w := w) (base := base) X G n__law_rule_kinds (fun f fd F => ok_kinds F B) (fun _ _ _ _ _ _ us hl => match us, hl with | [_], _ => rfl)
    have Otd := own_of (P := PROG) (w := w) (base := base) X G n__law_rule_told (fun f fd F => ok_told F B Onu Ons Ost) (fun _ _ _ _ _ _ us hl => match us, hl with | [_, _], _ => rfl)
    have Orr : ORead 41 PROG w K mg base := by
      obtain ⟨f, fd, a, F⟩ := id n__law_read_rule
      exact read_all F B Okd Otd (PySem.W.mg_of X G a) (F.binds (fun _ _ _ _ _ _ us hl => match us, hl with | [_, _], _ => rfl)) 41
    have Ofm := own_of (P := PROG) (w := w) (base := base) X G n__law_rule_from (fun f fd F => ok_from F B Orr) (fun _ _ _ _ _ _ us hl => match us, hl with | [_, _], _ => rfl)
    have Olc := own_of (P := PROG) (w := w) (base := base) X G n__law_commas (fun f fd F => ok_lCommas F B) (fun _ _ _ _ _ _ us hl => match us, hl with | [_], _ => rfl)
    have Olr : OLR 46 PROG w K mg base := by
      obtain ⟨f, fd, a, F⟩ := id n__law_rule_words
      exact lr_all F B Olc (PySem.W.mg_of X G a) (F.binds (fun _ _ _ _ _ _ us hl => match us, hl with | [_], _ => rfl)) 46
    have Oldw := own_of (P := PROG) (w := w) (base := base) X G n__law_deed_word (fun f fd F => ok_lDeedWord F B Onu Omd Okw) (fun _ _ _ _ _ _ us hl => match us, hl with | [_, _], _ => rfl)
    have Oldl := own_of (P := PROG) (w := w) (base := base) X G n__law_deed_line (fun f fd F => ok_lDeedLine F B Olr) (fun _ _ _ _ _ _ us hl => match us, hl with | [_], _ => rfl)
    have Olrd := own_of (P := PROG) (w := w) (base := base) X G n__law_read_deed (fun f fd F => ok_lReadDeed F B Oldw Ofm) (fun _ _ _ _ _ _ us hl => match us, hl with | [_], _ => rfl)
    have Ood := own_of (P := PROG) (w := w) (base := base) X G n__law_odd_word (fun f fd F => ok_odd F B Op Oo) (fun _ _ _ _ _ _ us hl => match us, hl with | [_, _], _ => rfl)
    have Osp := own_of (P := PROG) (w := w) (base := base) X G n__law_spoilt_of (fun f fd F => ok_spoilt F B Op Oo Ood) (fun _ _ _ _ _ _ us hl => match us, hl with | [_, _, _], _ => rfl)
    have Osl := own_of (P := PROG) (w := w) (base := base) X G n__law_spoilt_lines (fun f fd F => ok_spLines F B Op Oo Oot OmxL Osp) (fun _ _ _ _ _ _ us hl => match us, hl with | [_, _, _], _ => rfl)
    obtain ⟨fcl, fdcl, acl, Fcl⟩ := id n__law_classes
    have GC := ok_cls (P := PROG) (w := w) (base := base) Fcl B TC hcl CF
    have Oto := own_of (P := PROG) (w := w) (base := base) X G n__law_told_of (fun f fd F => ok_toldOf F B GRd (PySem.W.mg_of X G aRd) FRd.kp (FRd.binds (fun _ _ _ _ _ _ us hl => match us, hl with | [_], _ => rfl)) GC (PySem.W.mg_of X G acl) Fcl.kp (Fcl.binds (fun _ _ _ _ _ _ us hl => match us, hl with | [_], _ => rfl)) aL exm TX T0.fi T0.fw) (fun _ _ _ _ _ _ us hl => match us, hl with | [_], _ => rfl)
    have Odu := own_of (P := PROG) (w := w) (base := base) X G n__law_due_of (fun f fd F => ok_dueOf F B Olrd Oto Oii Osm) (fun _ _ _ _ _ _ us hl => match us, hl with | [_], _ => rfl)
    exact ok_law Flw B Ob Ofr Op Odo Oldl OllL Owd Osm Odu Ordk Osl

end HdK7

/-! K7E -/
open PySem PySem.W PySem.Calls PyProof.Rows
set_option maxRecDepth 100000 in
set_option maxHeartbeats 0 in
theorem PySem.Challenge.cw_handcarried_k07_deed_lines_holds : PySem.Challenge.rw_handcarried_k07_deed_lines.Holds := by
  w_on; o_law
  refine HandSHeadRun.head_any (r := OpenLaw.row PySem.Challenge.rw_handcarried_k07_deed_lines) (q := HdK7.qv) (H := HdK7.hk) (ob := HdK7.ob) (M := 9000) (loose := HdK7.names) (d := HandSHeadRun.topDef (OpenLaw.row PySem.Challenge.rw_handcarried_k07_deed_lines).prog 111) (kwd := []) HdK7.ob_eq
    (by kernel_rfl) (fun s => by kernel_rfl) HdK7.run (by kernel_rfl) (by kernel_rfl) (by kernel_rfl) (by rfl) (by first | assumption | decide +kernel) (by decide +kernel) ⟨rfl, rfl, rfl, rfl, rfl, by decide +kernel⟩ ?hw ?hc
  case hw => w_witness2
  case hc =>
    refine L2.walk_ofE (l := PySem.Challenge.rw_handcarried_k07_deed_lines) (n := 63) (k := 54) (x := "_law_script") (CX := L2.CX0) rfl (by decide) (by kernel_rfl) ⟨rfl, by decide, by decide⟩ ?F (fun _ _ _ _ z => z)
    intro w mg fa h Y G hmg0
    obtain ⟨K, KX, c⟩ := Y
    have hmg : mg ("law" : PySem.Str) = some (.ref fa) := by
      have e : (HandSHeadRun.topDef (OpenLaw.row PySem.Challenge.rw_handcarried_k07_deed_lines).prog 111).name = ("law" : PySem.Str) := by kernel_rfl
      rw [← e]
      exact hmg0
    obtain ⟨fd, hb, hF⟩ := HdK7.all_mk (w := w) KX G hmg c
    exact ⟨K, fd, K4.spLaw K, KX, hb, fun H a ns hl _ hS => ⟨a, ns, rfl, hS, hl, fun _ => rfl⟩, hF⟩
