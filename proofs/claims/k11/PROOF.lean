import PyProof.Rows.All
import Wide.All
import OpenK.AllK
import Wide.FinOn
import HandS.Base
import HandS.Call
import HandS.List
import HandS.Text
import PyProof.ListStr
import PyProof.StrOps2
import PyProof.SliceStr2
import KE.KRevSl
import HandS.ForMost
import HandS.Star
import HandS.TupAny
import HandS.IsInst
import HandS.NoneIn
import HandS.More
import HandS.Walk
import KE.DataEq
import HandS.ExcIs
import HandS.ExcField
import HandS.ExcInit
import HandS.ExcSuper
import KE.KExcSuper
import KE.KSuper
import HandS.Head0
import HandS.Head1
import HandS.Head2
import HandS.HeadEnd
import HandS.HeadHook1
import HandS.HeadHook2
import HandS.HeadHook3
import HandS.HeadNt
import HandS.Deep
import KE.KDictCopyH
import PyProof.P3Eq
import HandS.Exc
import HandS.ExcOwn
import HandS.ExcCtx
import HandS.WordsExc
import KE.GoesEnum
import HandS.Replace
import HandS.Conv
import HandS.CallSlots
import HandS.HotCalls
import KE.KExcIs
import HandS.Dict
import PyProof.ReprRoads
import PyProof.ReprReads
import HandS.Ends
import PySem.Challenge.RW_handcarried_k11_rules_judged
set_option Elab.async false
set_option linter.all false
set_option maxRecDepth 100000
set_option maxHeartbeats 0
/-! Br1 -/
/-! Rules of my own over the layer: list(text), text * n, text[::-1]. -/
namespace K1
open PySem PySem.Spec PyProof.Rows L2

theorem vals_pt : ∀ {xs : List V} {us : List Value}, xs.length = us.length → (∀ (j : Nat) (x : V) (u : Value), xs[j]? = some x → us[j]? = some u → RelV x u) → Vals xs us
  | [], [], _, _ => .nil
  | [], _ :: _, h, _ => by simp at h
  | _ :: _, [], h, _ => by simp at h
  | x :: xs, u :: us, h, k => .cons (k 0 x u rfl rfl) (vals_pt (by simpa using h) fun j y w a b => k (j + 1) y w (by simpa using a) (by simpa using b))

/-- the signs of a text, each a text -/
def sgn (z : Str) : List Str := z.cps.toList.map fun c => ⟨#[c]⟩

theorem call_listS {X : Cx} (hh : X.A.handled = none) : CallR X (.type "list") (fun xs H Q => ∃ z : Str, xs = [.str z] ∧ z.length ≤ sizeLine ∧ ∀ l, H l = none → Q (.ref l) (upd H l (.lst ((sgn z).map V.str)))) := by
  intro pins s σ H xs us Q I r h
  obtain ⟨z, rfl, hz, q⟩ := h
  obtain ⟨u, rfl, rx⟩ := vals1 r
  obtain ⟨t, rfl⟩ := rx
  refine call_list_str hh z t (hn := hz) fun h' tk acc c kp hS hacc => ?_
  refine ⟨.ref s.heap.objs.size, _, I.laid (t' := tk) (o := .lst ((sgn z).map V.str)) kp (Nat.le_refl _) ?_, rfl, q _ (I.hok.fresh (Nat.le_refl _))⟩
  refine ⟨?_, acc.toList, c, ?_, ?_⟩
  · have e : ((sgn z).map V.str).length = z.length := by simp [sgn, Str.length]
    rw [e]; exact hz
  · refine vals_pt ?_ ?_
    · simp [sgn, hacc.1]
    · intro j x u hx hu
      obtain ⟨c, w, hc, rfl⟩ := hacc.2 j u (by simpa using hu)
      have : x = V.str ⟨#[c]⟩ := by
        simp [sgn, hc] at hx
        exact hx.symm
      subst this
      exact ⟨w, rfl⟩
  · simpa using hS

/-- a text n times -/
def repS (z : Str) (n : Nat) : Str := ⟨(List.replicate n z.cps).foldl (· ++ ·) #[]⟩
theorem op_mul_str {X : Cx} : OpR X (binaryOp .Mult) (fun x y H Q => ∃ (z : Str) (k : Int), x = .str z ∧ y = .int k ∧ 1 ≤ k ∧ k ≤ 1000000 ∧ 1 ≤ z.length ∧ z.length * k.toNat ≤ sizeLine ∧ Q (.str (repS z k.toNat)) H) := by
  intro pins s σ H x y v u Q I rx ry h
  obtain ⟨z, k, rfl, rfl, h1, h2, h3, h4, q⟩ := h
  obtain ⟨t, rfl⟩ := rx
  obtain ⟨w, rfl⟩ := ry
  have hsl := sizeLine_eq
  refine P.mul_str ?_ ?_ ?_ ?_
  · have a1 : ¬ k < -(2 ^ 63 : Int) := by omega
    have a2 : ¬ k ≥ 2 ^ 63 := by omega
    rw [decide_eq_false a1, decide_eq_false a2]; rfl
  · intro _ _ hgt
    have hlen : (z.length : Int) ≤ 16777216 := by
      have : z.length * 1 ≤ z.length * k.toNat := Nat.mul_le_mul_left _ (by omega)
      omega
    have hq : (16777216 : Int) ≤ (2 ^ 63 - 1) / k := by
      rw [Int.le_ediv_iff_mul_le (by omega)]
      omega
    omega
  · intro _ _
    unfold Builtin.Str.tooLong
    exact decide_eq_false (by omega)
  · rw [if_neg (by omega)]
    by_cases c : (k == 1 || z.length == 0) = true
    · rw [if_pos c]
      have hk : k = 1 := by
        have h0 : (z.length == 0) = false := by simp; omega
        rw [h0, Bool.or_false] at c
        exact eq_of_beq c
      subst hk
      have e : repS z (1 : Int).toNat = z := by
        show (⟨(List.replicate 1 z.cps).foldl (· ++ ·) #[]⟩ : Str) = z
        simp [List.replicate]
      rw [e] at q
      exact ⟨.str z, H, I, ⟨t, rfl⟩, q⟩
    · rw [if_neg c]
      refine ⟨?_, .str _, H, I.tok _, ⟨_, rfl⟩, q⟩
      have e : ∀ (n : Nat) (a : Array Nat), ((List.replicate n z.cps).foldl (· ++ ·) a).size = a.size + n * z.cps.size := by
        intro n
        induction n with
        | zero => intro a; simp
        | succ n ih => intro a; rw [List.replicate_succ, List.foldl_cons, ih, Array.size_append, Nat.add_mul]; omega
      show ((List.replicate k.toNat z.cps).foldl (· ++ ·) #[]).size ≤ sizeLine
      rw [e]
      have : k.toNat * z.cps.size = z.length * k.toNat := Nat.mul_comm _ _
      simp only [Array.size_empty, Nat.zero_add]
      omega

/-- a text read from its end -/
def revS (z : Str) : Str := ⟨z.cps.toList.reverse.toArray⟩
def tRevS (te : TE) : TE := fun σ H Q => te σ H fun x H1 => ∃ z : Str, x = .str z ∧ z.length ≤ sizeLine ∧ Q (.str (revS z)) H1
theorem picked_rev (z : Str) (u : Tok) : ((slicePicked z none none (some (-1, u))).filterMap (z.cps[·]?)).toArray = z.cps.toList.reverse.toArray := by
  have e : slicePicked z none none (some (-1, u)) = sliceRange ((z.cps.size : Int) - 1) (-1) (-1) := by
    first
      | rfl
      | simp [slicePicked, Builtin.Str.strSliceIndices, Str.length]
  rw [e, PySem.W.krv_sliceRange, PySem.W.krv_range, List.filterMap_reverse, PySem.W.krv_all]
section
variable {X : Cx}
theorem pe_revS {e : Expr} {te : TE} {k : Nat} {p1 p2 p3 pos : Pos} (he : PE X e te) : PE X (.Subscript e (.Slice none none (some (.UnaryOp .USub (.Constant (.int 1) k p1) p2)) p3) pos) (tRevS te) := by
  refine ⟨fun pins s σ H Q I h => ?_⟩
  refine Subscript_ (thn (he.run pins s σ H _ I h) fun v s1 ⟨x, H1, I1, r1, z, ez, hz, q⟩ => ?_)
  subst ez
  obtain ⟨t, rfl⟩ := r1
  have hst : PO X (some (.UnaryOp .USub (.Constant (.int 1) k p1) p2)) (tPart (tUn (rU fun i => .int (-i)) (tC (.int 1)))) := po_some (pe_un un_neg pe_int)
  refine wpAny_Slice (thn (po_none.run pins s1 σ H1 (fun o G => o = none ∧ G = H1) I1 ⟨rfl, rfl⟩) fun vl s2 ⟨l, G2, I2, pl, el, g2⟩ => ?_)
  subst el g2
  refine thn (po_none.run pins s2 σ G2 (fun o G => o = none ∧ G = G2) I2 ⟨rfl, rfl⟩) fun vu s3 ⟨u, G3, I3, pu, eu, g3⟩ => ?_
  subst eu g3
  refine thn (hst.run pins s3 σ G3 (fun o G => o = some (-1) ∧ G = G3) I3 ⟨1, rfl, -1, rfl, rfl, rfl⟩) fun vs s4 ⟨o, G4, I4, ps, eo, g4⟩ => ?_
  subst eo g4
  obtain ⟨l', el, fl⟩ := IsPart.raw pl
  obtain ⟨u', eu, fu⟩ := IsPart.raw pu
  obtain ⟨w', ew, fw⟩ := IsPart.raw ps
  have l0 : l' = none := by cases l' <;> simp_all
  have u0 : u' = none := by cases u' <;> simp_all
  obtain ⟨tw, w0⟩ : ∃ tw, w' = some (-1, tw) := by
    cases w' with
    | none => simp at fw
    | some p => obtain ⟨a, b⟩ := p; simp at fw; exact ⟨b, by rw [← fw]⟩
  subst l0 u0 w0
  have I5 : Inv X pins σ G4 { s4 with heap := s4.heap.push { cls := .type "slice", data := .fields #[vl, vu, vs] } } := I4.kept (t' := s4.toks) fun b ob q => Heap.get?_push_of_some _ q
  show wpAny (model X.prog X.w) X.A (subscriptTail e (.Slice none none (some (.UnaryOp .USub (.Constant (.int 1) k p1) p2)) p3) (.str z t) (.ref s4.heap.objs.size)) (EP X pins σ Q) X.xe { s4 with heap := s4.heap.push { cls := .type "slice", data := .fields #[vl, vu, vs] } }
  refine tail_any (ops := [.str z t, .ref s4.heap.objs.size]) (typeIs_str _ _ _) (PySem.F.slot_str_getitem.lookup) ?_ (by with_unfolding_all rfl)
  have hsl : Heap.IsSlice (s4.heap.push { cls := .type "slice", data := .fields #[vl, vu, vs] }) s4.heap.objs.size none none (some (-1, tw)) := by
    rw [el, eu, ew]
    exact ⟨_, Heap.get?_push_size _ rfl, rfl, rfl⟩
  refine wpAny_getItem_str_slice (l := none) (u := none) (st := some (-1, tw)) hsl rfl ?_
  have em : sliceMade z t none none (some (-1, tw)) = Made.str (revS z) := by
    unfold sliceMade
    rw [if_neg (by simp), picked_rev]
    rfl
  rw [em]
  refine ⟨?_, .str _, G4, I5.tok _, ⟨_, rfl⟩, q⟩
  simpa [revS, Str.length] using hz
end
end K1

/-! Br2 -/
/-! Readings, backwards: one lemma for each word of a reading, so that straight code runs by itself. -/
namespace K1
open PySem L2
section
variable {σ : L2.St} {H : Hp} {Q : VK} {v : V} {i : Nat} {ta tb te : TE} {t : TA} {nx : L2.St → Hp → Prop} {rt : VK} {bk ct : L2.St → Hp → Prop}
theorem r_var (h : σ[i]? = some (some v)) (q : Q v H) : tVar i σ H Q := ⟨v, h, q⟩
theorem r_c (q : Q v H) : tC v σ H Q := q
theorem r_op {r : R2} (q : ta σ H fun x H1 => tb σ H1 fun y H2 => r x y H2 Q) : tOp r ta tb σ H Q := q
theorem r_un {r : V → Hp → VK → Prop} (q : ta σ H fun x H1 => r x H1 Q) : tUn r ta σ H Q := q
theorem r_I0 {g : Int → Int → V} {a b : Int} (q : Q (g a b) H) : rI0 g (.int a) (.int b) H Q := ⟨a, b, rfl, rfl, q⟩
theorem r_I {C : Int → Int → Prop} {g : Int → Int → V} {a b : Int} (c : C a b) (q : Q (g a b) H) : rI C g (.int a) (.int b) H Q := ⟨a, b, rfl, rfl, c, q⟩
theorem r_test {R : Bool → Hp → Prop} (q : te σ H fun x H' => ∃ k, x = .bl k ∧ R k H') : tTest te σ H R := q
theorem r_bl {b : Bool} {R : Bool → Hp → Prop} (q : R b H) : ∃ k, V.bl b = .bl k ∧ R k H := ⟨b, rfl, q⟩
theorem r_if {c : TT} (q : c σ H fun b H1 => if b = true then ta σ H1 Q else tb σ H1 Q) : tIf c ta tb σ H Q := q
theorem r_ifs {c : TT} {u w : TS} {D : Ends} (q : c σ H fun b H1 => if b = true then u D σ H1 else w D σ H1) : tIfS c u w D σ H := q
theorem r_ite {p : Prop} {dp : Decidable p} {A B : Prop} (h1 : p → A) (h2 : ¬ p → B) : if decide p = true then A else B := by
  by_cases h : p
  · rw [decide_eq_true h, if_pos rfl]; exact h1 h
  · rw [decide_eq_false h, if_neg Bool.false_ne_true]; exact h2 h
theorem r_iteN {p : Prop} {dp : Decidable p} {A B : Prop} (h1 : ¬ p → A) (h2 : p → B) : if (!decide p) = true then A else B := by
  by_cases h : p
  · rw [decide_eq_true h]; exact h2 h
  · rw [decide_eq_false h]; exact h1 h
theorem r_iteT {A B : Prop} (h1 : A) : if true = true then A else B := h1
theorem r_iteF {A B : Prop} (h1 : B) : if false = true then A else B := h1
theorem r_iteB {b : Bool} {A B : Prop} (h1 : b = true → A) (h2 : b = false → B) : if b = true then A else B := by
  cases b
  · exact h2 rfl
  · exact h1 rfl
theorem r_and {c d : TT} {R : Bool → Hp → Prop} (q : c σ H fun b H1 => if b = true then d σ H1 R else R false H1) : tAnd c d σ H R := q
theorem r_or {c d : TT} {R : Bool → Hp → Prop} (q : c σ H fun b H1 => if b = true then R true H1 else d σ H1 R) : tOr c d σ H R := q
theorem r_not {c : TT} {R : Bool → Hp → Prop} (q : c σ H fun b H1 => R (!b) H1) : tNot c σ H R := q
theorem r_tB {R : Bool → Hp → Prop} (q : te σ H fun x H' => ∃ k, x = .bl k ∧ R k H') : tB te σ H R := q
theorem r_andV (q : ta σ H fun x H1 => ∃ c, x = .bl c ∧ if c = true then tb σ H1 Q else Q (.bl false) H1) : tAndV ta tb σ H Q := q
theorem r_orV (q : ta σ H fun x H1 => ∃ c, x = .bl c ∧ if c = true then Q (.bl true) H1 else tb σ H1 Q) : tOrV ta tb σ H Q := q
theorem r_notV (q : ta σ H fun x H1 => ∃ c, x = .bl c ∧ Q (.bl (!c)) H1) : tNotV ta σ H Q := q
theorem r_cb {r : List V → Hp → VK → Prop} (q : t σ H fun vs H1 => r vs H1 Q) : tCB r t σ H Q := q
theorem r_cons {tr : TA} {R : List V → Hp → Prop} (q : ta σ H fun x H1 => tr σ H1 fun xs H2 => R (x :: xs) H2) : tCons ta tr σ H R := q
theorem r_nil {R : List V → Hp → Prop} (q : R [] H) : tNil σ H R := q
theorem r_seq {u w : TS} (q : u ⟨w ⟨nx, rt, bk, ct⟩, rt, bk, ct⟩ σ H) : tSeq u w ⟨nx, rt, bk, ct⟩ σ H := q
theorem r_asg {g : TG} (q : te σ H fun x H1 => g x σ H1 nx) : tAsg te g ⟨nx, rt, bk, ct⟩ σ H := q
theorem r_name {R : L2.St → Hp → Prop} (q : R (σ.set i (some v)) H) : gName i v σ H R := q
theorem r_ret (q : te σ H rt) : tRet te ⟨nx, rt, bk, ct⟩ σ H := q
theorem r_next (q : nx σ H) : tNext ⟨nx, rt, bk, ct⟩ σ H := q
theorem r_drop (q : te σ H fun _ H1 => nx σ H1) : tDrop te ⟨nx, rt, bk, ct⟩ σ H := q
theorem r_lst (q : t σ H fun xs H1 => xs.length ≤ sizeLine ∧ ∀ p, H1 p = none → Q (.ref p) (upd H1 p (.lst xs))) : tLst t σ H Q := q
theorem r_tup (q : t σ H fun xs H1 => xs.length ≤ sizeLine ∧ ∀ p, H1 p = none → Q (.ref p) (upd H1 p (.tup xs))) : tTup t σ H Q := q
theorem r_call {sp : Sp} {dvs : List V} {E : XK} (q : t σ H fun vs H1 => sp (vs ++ dvs) H1 Q E) : tCall sp dvs E t σ H Q := q
theorem r_gsub {to ti : TE} {s : TSet} {R : L2.St → Hp → Prop} (q : to σ H fun o H1 => ti σ H1 fun i H2 => s o i v H2 fun H3 => R σ H3) : gSub to ti s v σ H R := q
theorem r_for {wi : TI} {g : TG} {u : TS} {D : Ends} (q : wi σ H fun J H1 => ∃ W : Nat → Nat → L2.St → Hp → Prop, (∃ m, W 0 m σ H1) ∧ ∀ i m σ H, W i m σ H →
    ((J.stop i H ∧ D.nx σ H) ∨ (J.go i H ∧ ∃ N : L2.St → Hp → Prop, (∀ σ' H', N σ' H' → ∃ m', m' < m ∧ W (i + 1) m' σ' H') ∧ ∀ x H', J.yld i H x H' → g x σ H' fun σ2 H2 => u { D with nx := N, ct := N, bk := D.nx } σ2 H2))) : tFor wi g u D σ H := q
end
section
variable {K : PySem.W.Frag} {σ : L2.St} {H : Hp} {Q : VK} {v : V} {a : Addr} {xs : List V}
theorem lenL (h : SqL K H a xs) : LenV K (.ref a) H xs.length := .inl ⟨_, h, rfl⟩
theorem lenT (h : SqT K H a xs) : LenV K (.ref a) H xs.length := .inr ⟨_, h, rfl⟩
theorem lenS {x : Str} (h : x.length ≤ sizeLine) : LenV K (.str x) H x.length := ⟨h, rfl⟩
theorem r_len {y : V} {n : Nat} {R : VK} (h : LenV K y H n) (q : R (.int n) H) : ∃ x n, [y] = [x] ∧ LenV K x H n ∧ R (V.int n) H := ⟨y, n, rfl, h, q⟩
theorem r_ixL {i : Int} (h : SqL K H a xs) (e : atI xs i = some v) (q : Q v H) : rIxL K (.ref a) (.int i) H Q := ⟨a, xs, i, v, rfl, rfl, h, e, q⟩
theorem r_ixT {i : Int} (h : SqT K H a xs) (e : atI xs i = some v) (q : Q v H) : rIxT K (.ref a) (.int i) H Q := ⟨a, xs, i, v, rfl, rfl, h, e, q⟩
theorem r_ixS {x : Str} {i : Int} {c : Nat} (h : x.length ≤ sizeLine) (e : atI x.cps.toList i = some c) (q : Q (.str ⟨#[c]⟩) H) : rIxS (.str x) (.int i) H Q := ⟨x, i, c, rfl, rfl, h, e, q⟩
theorem r_sum {ns : List Int} (h : SqL K H a (ns.map V.int)) (q : Q (.int ns.sum) H) : rSum K [.ref a] H Q := ⟨a, ns, rfl, h, q⟩
theorem at_int {ns : List Int} {i : Int} (h0 : 0 ≤ i) (h1 : i < ns.length) : ∃ z, atI (ns.map V.int) i = some (.int z) ∧ z ∈ ns := by
  obtain ⟨j, rfl⟩ : ∃ j : Nat, i = j := ⟨i.toNat, by omega⟩
  have hj : j < ns.length := by omega
  exact ⟨ns[j], atI_nat (by simp [hj]), List.getElem_mem _⟩
theorem r_setL {i : Int} {j : Nat} {R : Hp → Prop} (h : H a = some (.lst xs)) (e : ixN xs.length i = some j) (q : R (upd H a (.lst (xs.set j v)))) : rSetL (.ref a) (.int i) v H R := ⟨a, xs, i, j, rfl, rfl, h, e, q⟩
end
section
variable {K : PySem.W.Frag} {σ : L2.St} {H : Hp} {a D : Addr} {xs : List V} {vs : List Nat} {te : TE} {Qd : Hp → Prop}
theorem same_new {o : HO} (h : H D = none) : Same H (upd H D o) := fun b u e => by
  rw [upd_ne (ne_of_none e h)]
  exact e
theorem sqL_new {o : HO} (h : H D = none) (q : SqL K H a xs) : SqL K (upd H D o) a xs := (same_new h).seq q
/-- [f x for x in xs], the element's value told, the heap left as it was -/
theorem lc_map {i : Nat} (f : V → V) (hS : SqL K H a xs) (hD : H D = none) (hz : xs.length ≤ sizeLine) (hw : ∀ x, wipe ((wipe σ vs).set i (some x)) vs = wipe σ vs)
    (he : ∀ x ∈ xs, ∀ (H' : Hp) (R : VK), Same H H' → R (f x) H' → te ((wipe σ vs).set i (some x)) H' R) (hd : Qd (upd H D (.lst (xs.map f)))) :
    ∃ W : Nat → Nat → Hp → Prop, (∃ m, W 0 m (upd H D (.lst []))) ∧ ∀ i₁ m H, W i₁ m H →
      ((Itl K a).stop i₁ H ∧ Qd H) ∨ ((Itl K a).go i₁ H ∧ ∃ Nx : Hp → Prop, (∀ H', Nx H' → ∃ m', m' < m ∧ W (i₁ + 1) m' H') ∧ ∀ x H', (Itl K a).yld i₁ H x H' → gName i x (wipe σ vs) H' fun σ2 H2 => wipe σ2 vs = wipe σ vs ∧ tYes σ2 H2 fun b H3 =>
        if b = true then te σ2 H3 fun y H4 => ∃ acc, H4 D = some (.lst acc) ∧ acc.length < sizeLine ∧ Nx (upd H4 D (.lst (acc ++ [y]))) else Nx H3) := by
  refine lc_list (K := K) (a := a) (xs := xs) (fun j H' => H' = upd H D (.lst ((xs.take j).map f))) (by simp) (fun j H' _ e => by rw [e]; exact sqL_new hD hS) ?_ (fun H' e => by rw [e, List.take_length]; exact hd)
  rintro j x H' hx rfl
  have hj : j < xs.length := (List.getElem?_eq_some_iff.mp hx).1
  have hm : x ∈ xs := List.mem_of_getElem? hx
  refine ⟨hw x, ?_⟩
  show te _ _ _
  refine he x hm _ _ (same_new hD) ⟨_, upd_same, ?_, ?_⟩
  · simp only [List.length_map, List.length_take]
    omega
  · rw [upd_upd, List.take_succ, hx]
    simp
end
/-! ### own defs -/
def Own (P : Program) (w : World) (K : PySem.W.Frag) (mg : Str → Option Value) (base : Heap) (x : Str) (k : Nat) (ps : List Str) (sp : Sp) : Prop :=
  ∃ (f : Addr) (fd : FuncData), FnOk P w K mg base CX0 k f fd ps sp ∧ mg x = some (.ref f) ∧ PySem.W.keepIn K (.ref f) = true ∧ Binds K fd ps []
theorem pe_own {X : Cx} {x : Str} {k : Nat} {ps : List Str} {sp : Sp} {e : Expr} {es : List Expr} {t : TA} {p pos : Pos} (O : Own X.prog X.w X.K X.mg X.base x k ps sp) (hr : Room k X.A) (ha : PA X (e :: es) t) (hg : Gl X x := by rfl)
    (hdb : (x == ("__debug__" : Str)) = false := by decide) (he : starEach (e :: es) X.env = (false, eval e X.env) :: starEach es X.env := by rfl) (hpl : (backTo pos (starEach es X.env)).any (·.1) = false := by rfl) :
    PE X (.Call (.Name x p) (e :: es) [] pos) (tCall sp [] E0 t) := by
  obtain ⟨f, fd, G, m, kp, b⟩ := O
  exact pe_call G hr hg m kp b .nil pass0 ha hdb he hpl
theorem Own.imp {P : Program} {w : World} {K : PySem.W.Frag} {mg : Str → Option Value} {base : Heap} {x : Str} {k : Nat} {ps : List Str} {sp sp' : Sp} (O : Own P w K mg base x k ps sp) (h : ∀ vs H Q E, sp' vs H Q E → sp vs H Q E) : Own P w K mg base x k ps sp' := by
  obtain ⟨f, fd, G, r⟩ := O
  exact ⟨f, fd, G.imp h, r⟩
/-- everywhere but at b the heap is the same -/
def Off (b : Addr) (H H' : Hp) : Prop := ∀ c, c ≠ b → H' c = H c
theorem Off.refl (b : Addr) (H : Hp) : Off b H H := fun _ _ => rfl
theorem Off.trans {b : Addr} {H H1 H2 : Hp} (x : Off b H H1) (y : Off b H1 H2) : Off b H H2 := fun c h => (y c h).trans (x c h)
theorem Off.upd {b : Addr} {H : Hp} {o : HO} : Off b H (upd H b o) := fun _ h => upd_ne h
theorem Off.at {b c : Addr} {H H' : Hp} {o : HO} (x : Off b H H') (h : c ≠ b) (e : H c = some o) : H' c = some o := (x c h).trans e
theorem Off.none {b c : Addr} {H H' : Hp} {u : HO} (x : Off b H H') (hb : H b = some u) (hb' : ∃ u, H' b = some u) (e : H c = none) : H' c = none := by
  by_cases h : c = b
  · subst h; rw [hb] at e; cases e
  · exact (x c h).trans e
theorem Off.free {b c : Addr} {H H' : Hp} (x : Off b H H') (hb' : ∃ u, H' b = some u) (e : H' c = Option.none) : c ≠ b ∧ H c = Option.none := by
  have h : c ≠ b := fun h => by obtain ⟨u, q⟩ := hb'; rw [h, q] at e; cases e
  exact ⟨h, (x c h).symm.trans e⟩
section
variable {K : PySem.W.Frag} {σ : L2.St} {H : Hp} {Q : VK} {v : V} {a : Addr} {xs : List V} {te to : TE} {t : TA} {lo hi : Option Int}
theorem r_bm {T : String} {r : V → List V → Hp → VK → Prop} (q : to σ H fun x H1 => tyV K T x H1 ∧ t σ H1 fun ys H2 => r x ys H2 Q) : tBM K T r to t σ H Q := q
theorem r_bm0 {T : String} {r : V → List V → Hp → VK → Prop} (q : to σ H fun x H1 => tyV K T x H1 ∧ r x [] H1 Q) : tBM0 K T r to σ H Q := q
theorem r_sl {r : V → Option Int → Option Int → Hp → VK → Prop} {tl th : TO} (q : te σ H fun x H1 => tl σ H1 fun l H2 => th σ H2 fun u H3 => r x l u H3 Q) : tSl r te tl th σ H Q := q
theorem r_noPart {R : Option Int → Hp → Prop} (q : R none H) : tNoPart σ H R := q
theorem r_part {R : Option Int → Hp → Prop} (q : te σ H fun x H1 => ∃ i, x = .int i ∧ R (some i) H1) : tPart te σ H R := q
theorem r_slS {z : Str} (h : z.length ≤ sizeLine) (q : Q (.str (cutS z lo hi)) H) : rSlS (.str z) lo hi H Q := ⟨z, rfl, h, q⟩
theorem r_slL (h : SqL K H a xs) (q : ∀ p, H p = none → Q (.ref p) (upd H p (.lst (cutV xs lo hi)))) : rSlL K (.ref a) lo hi H Q := ⟨a, xs, rfl, h, q⟩
theorem r_iStr {R : It → Hp → Prop} (q : te σ H fun w H1 => ∃ x, w = .str x ∧ R (Its x) H1) : iStr te σ H R := q
theorem r_iRng1 {R : It → Hp → Prop} (q : t σ H fun vs H1 => ∃ j : Int, vs = [.int j] ∧ -(2 ^ 62) ≤ j ∧ j < 2 ^ 62 ∧ R (Itr 0 j.toNat) H1) : iRng1 t σ H R := q
theorem r_m1 {r : V → List V → Hp → VK → Prop} (q : to σ H fun x H1 => (∃ z, x = .str z) ∧ te σ H1 fun y H2 => r x [y] H2 Q) : tM1 r to te σ H Q := q
theorem tyL {H : Hp} (h : SqL K H a xs) : tyV K "list" (.ref a) H := .inl ⟨rfl, _, h⟩
theorem SqL.off {b : Addr} {H' : Hp} (h : SqL K H a xs) (n : a ≠ b) (o : Off b H H') : SqL K H' a xs := by
  rcases h with (h | ⟨u, h⟩) | h
  · exact .inl (.inl (o.at n h))
  · exact .inl (.inr ⟨u, o.at n h⟩)
  · exact .inr h
/-- what was tracked stands, but at b -/
def Kp (b : Addr) (H H' : Hp) : Prop := ∀ c o, c ≠ b → H c = some o → H' c = some o
theorem Kp.refl (b : Addr) (H : Hp) : Kp b H H := fun _ _ _ e => e
theorem Kp.trans {b : Addr} {H H1 H2 : Hp} (x : Kp b H H1) (y : Kp b H1 H2) : Kp b H H2 := fun c o n e => y c o n (x c o n e)
theorem Off.kp {b : Addr} {H H' : Hp} (x : Off b H H') : Kp b H H' := fun c o n e => x.at n e
theorem Same.kp {b : Addr} {H H' : Hp} (x : Same H H') : Kp b H H' := fun c o _ e => x c o e
theorem Kp.seq {b : Addr} {H' : Hp} (o : Kp b H H') (n : a ≠ b) (h : SqL K H a xs) : SqL K H' a xs := by
  rcases h with (h | ⟨u, h⟩) | h
  · exact .inl (.inl (o _ _ n h))
  · exact .inl (.inr ⟨u, o _ _ n h⟩)
  · exact .inr h
theorem Kp.free {b c : Addr} {H' : Hp} {u : HO} (o : Kp b H H') (hb : H' b = some u) (e : H' c = none) : H c = none := by
  cases q : H c with
  | none => rfl
  | some w =>
    have n : c ≠ b := fun z => by rw [z, hb] at e; cases e
    rw [o c w n q] at e
    cases e
theorem Kp.off {b c : Addr} {H' H2 : Hp} {u : HO} (o : Kp b H H') (x : Off c H' H2) (hc : H c = none) (hb : H b = some u) : Kp b H H2 := fun d w n e => by
  have z : d ≠ c := fun z => by rw [z, hc] at e; cases e
  exact x.at z (o d w n e)
theorem Kp.same {b : Addr} {H' : Hp} (o : Kp b H H') (hb : H b = none) : Same H H' := fun c w e => o c w (fun z => by rw [z, hb] at e; cases e) e
/-- a row: a text's signs, or a list's items -/
def RowAt (K : PySem.W.Frag) (H : Hp) (b : Addr) (r : V) (items : List V) : Prop :=
  (∃ z : Str, r = .str z ∧ items = (sgn z).map V.str ∧ z.length ≤ 1000) ∨ ∃ l, r = .ref l ∧ SqL K H l items ∧ l ≠ b ∧ items.length ≤ 1000
theorem sgn_len (z : Str) : (sgn z).length = z.length := by simp [sgn, Str.length]
theorem small_line {n : Nat} (h : n ≤ 1000) : n ≤ sizeLine := Nat.le_of_lt (small1000 h)
theorem RowAt.len {K : PySem.W.Frag} {H : Hp} {b : Addr} {r : V} {items : List V} (h : RowAt K H b r items) : LenV K r H items.length ∧ items.length ≤ 1000 := by
  rcases h with ⟨z, rfl, rfl, hz⟩ | ⟨l, rfl, h, _, hz⟩
  · rw [List.length_map, sgn_len]
    exact ⟨lenS (small_line hz), hz⟩
  · exact ⟨lenL h, hz⟩
theorem r_rowix {b : Addr} {r : V} {items : List V} {i : Int} {x : V} (h : RowAt K H b r items) (e : atI items i = some x) (q : Q x H) : rIx K r (.int i) H Q := by
  rcases h with ⟨z, rfl, rfl, hz⟩ | ⟨l, rfl, h, _, hz⟩
  · refine .inr (.inr ?_)
    have e' : atI z.cps.toList i = (atI z.cps.toList i) := rfl
    unfold atI at e
    have el : ((sgn z).map V.str).length = z.cps.toList.length := by simp [sgn]
    rw [el] at e
    cases hj : ixN z.cps.toList.length i with
    | none => rw [hj] at e; cases e
    | some j =>
      rw [hj] at e
      have e2 : ((sgn z).map V.str)[j]? = some x := e
      cases hc : z.cps.toList[j]? with
      | none =>
        rw [sgn, List.map_map, List.getElem?_map, hc] at e2
        cases e2
      | some c =>
        rw [sgn, List.map_map, List.getElem?_map, hc] at e2
        have e3 : x = V.str ⟨#[c]⟩ := (Option.some.inj e2).symm
        subst e3
        exact r_ixS (small_line hz) (by unfold atI; rw [hj]; exact hc) q
  · exact .inl (r_ixL h e q)
theorem RowAt.off {b : Addr} {r : V} {items : List V} {H' : Hp} (h : RowAt K H b r items) (o : Off b H H') : RowAt K H' b r items := by
  rcases h with ⟨z, e⟩ | ⟨l, rfl, h, n, hz⟩
  · exact .inl ⟨z, e⟩
  · exact .inr ⟨l, rfl, SqL.off h n o, n, hz⟩
theorem at_nat' {α : Type} {xs : List α} {i : Int} (h0 : 0 ≤ i) (h1 : i < xs.length) : ∃ x, atI xs i = some x ∧ x ∈ xs ∧ xs[i.toNat]? = some x := by
  obtain ⟨j, rfl⟩ : ∃ j : Nat, i = j := ⟨i.toNat, by omega⟩
  have hj : j < xs.length := by omega
  exact ⟨xs[j], atI_nat (by simp [hj]), List.getElem_mem _, by simp [hj]⟩
end
section
variable {K : PySem.W.Frag} {a : Addr} {xs : List V} {lo : Int} {n : Nat} {g : TG} {tb : TS} {nx : L2.St → Hp → Prop} {rt : VK} {σ : L2.St} {H : Hp}
/-- a for over a range, the ends written out -/
theorem fr_range (Pv : Nat → L2.St → Hp → Prop) (h0 : Pv 0 σ H)
    (hs : ∀ i σ H, i < n → Pv i σ H → g (.int (lo + i)) σ H fun σ2 H2 => tb ⟨Pv (i + 1), rt, nx, Pv (i + 1)⟩ σ2 H2) (hd : ∀ σ H, Pv n σ H → nx σ H) :
    ∃ W : Nat → Nat → L2.St → Hp → Prop, (∃ m, W 0 m σ H) ∧ ∀ i m σ H, W i m σ H →
      ((Itr lo n).stop i H ∧ nx σ H) ∨ ((Itr lo n).go i H ∧ ∃ N : L2.St → Hp → Prop, (∀ σ' H', N σ' H' → ∃ m', m' < m ∧ W (i + 1) m' σ' H') ∧ ∀ x H', (Itr lo n).yld i H x H' → g x σ H' fun σ2 H2 => tb ⟨N, rt, nx, N⟩ σ2 H2) :=
  for_range (D := ⟨nx, rt, nx, nx⟩) Pv h0 hs hd
/-- a for over a list -/
theorem fr_list (Pv : Nat → L2.St → Hp → Prop) (h0 : Pv 0 σ H) (hl : ∀ i σ H, i ≤ xs.length → Pv i σ H → SqL K H a xs)
    (hs : ∀ i x σ H, xs[i]? = some x → Pv i σ H → g x σ H fun σ2 H2 => tb ⟨Pv (i + 1), rt, nx, Pv (i + 1)⟩ σ2 H2) (hd : ∀ σ H, Pv xs.length σ H → nx σ H) :
    ∃ W : Nat → Nat → L2.St → Hp → Prop, (∃ m, W 0 m σ H) ∧ ∀ i m σ H, W i m σ H →
      ((Itl K a).stop i H ∧ nx σ H) ∨ ((Itl K a).go i H ∧ ∃ N : L2.St → Hp → Prop, (∀ σ' H', N σ' H' → ∃ m', m' < m ∧ W (i + 1) m' σ' H') ∧ ∀ x H', (Itl K a).yld i H x H' → g x σ H' fun σ2 H2 => tb ⟨N, rt, nx, N⟩ σ2 H2) :=
  for_list (D := ⟨nx, rt, nx, nx⟩) Pv h0 hl hs hd
theorem fr_tup (Pv : Nat → L2.St → Hp → Prop) (h0 : Pv 0 σ H) (hl : ∀ i σ H, i ≤ xs.length → Pv i σ H → SqT K H a xs)
    (hs : ∀ i x σ H, xs[i]? = some x → Pv i σ H → g x σ H fun σ2 H2 => tb ⟨Pv (i + 1), rt, nx, Pv (i + 1)⟩ σ2 H2) (hd : ∀ σ H, Pv xs.length σ H → nx σ H) :
    ∃ W : Nat → Nat → L2.St → Hp → Prop, (∃ m, W 0 m σ H) ∧ ∀ i m σ H, W i m σ H →
      ((Itt K a).stop i H ∧ nx σ H) ∨ ((Itt K a).go i H ∧ ∃ N : L2.St → Hp → Prop, (∀ σ' H', N σ' H' → ∃ m', m' < m ∧ W (i + 1) m' σ' H') ∧ ∀ x H', (Itt K a).yld i H x H' → g x σ H' fun σ2 H2 => tb ⟨N, rt, nx, N⟩ σ2 H2) :=
  for_tup (D := ⟨nx, rt, nx, nx⟩) Pv h0 hl hs hd
end
end K1

/-! B4 -/
namespace K1
open PySem L2 PyProof.Rows
abbrev tl (z : Str) : List Nat := z.cps.toList
section
variable {K : PySem.W.Frag} {σ : L2.St} {H : Hp} {Q : VK} {x y v : V} {vs : List V}
theorem r_eq (h : scal x y = true) (q : Q (.bl (decide (x = y))) H) : rEq x y H Q := ⟨h, q⟩
theorem r_ne (h : scal x y = true) (q : Q (.bl (!decide (x = y))) H) : rNe x y H Q := ⟨h, q⟩
theorem r_gnil {R : L2.St → Hp → Prop} (q : R σ H) : gNil [] σ H R := ⟨rfl, q⟩
theorem r_gcons {t : TG} {u : TGs} {R : L2.St → Hp → Prop} (q : t v σ H fun σ' H' => u vs σ' H' R) : gCons t u (v :: vs) σ H R := ⟨v, vs, rfl, q⟩
theorem r_isi {c : V} {t u : Value} {b : Bool} (hc : ClsV c u) (ht : TyX K H x t) (hk : PySem.W.kitOne K t u = some b) (q : Q (.bl b) H) : rIsi K [x, c] H Q := ⟨x, c, t, u, b, rfl, hc, ht, hk, q⟩
theorem r_all {a : Addr} {bs : List Bool} (h : SqL K H a (bs.map V.bl)) (q : Q (.bl (bs.all id)) H) : rAll K [.ref a] H Q := ⟨a, bs, rfl, h, q⟩
theorem r_yes {p : Prop} {dp : Decidable p} {A B : Prop} (h : p) (q : A) : if decide p = true then A else B := by
  rw [decide_eq_true h, if_pos rfl]; exact q
theorem r_no {p : Prop} {dp : Decidable p} {A B : Prop} (h : ¬ p) (q : B) : if decide p = true then A else B := by
  rw [decide_eq_false h, if_neg Bool.false_ne_true]; exact q
theorem tyL' {T : String} (e : T = "list") {a : Addr} {xs : List V} (h : SqL K H a xs) : tyV K T (.ref a) H := by rw [e]; exact tyL h
end
section
variable {K : PySem.W.Frag} {σ : L2.St} {H : Hp} {Q : VK} {D : Addr} {vs : List Nat} {te : TE} {Qd : Hp → Prop} {ta tb tc : TE}
theorem r_chain {r r' : R2} (q : ta σ H fun x H1 => tb σ H1 fun y H2 => r x y H2 fun z H3 => ∃ k, z = .bl k ∧ (if k = true then tc σ H3 fun w' H4 => r' y w' H4 Q else Q (.bl false) H3)) : tChain r r' ta tb tc σ H Q := q
/-- [f c for c in text] -/
theorem lc_smap {i : Nat} {z : Str} (f : Nat → V) (hD : H D = none) (hz : z.length ≤ sizeLine) (hw : ∀ x, wipe ((wipe σ vs).set i (some x)) vs = wipe σ vs)
    (he : ∀ c ∈ tl z, ∀ (H' : Hp) (R : VK), Same H H' → R (f c) H' → te ((wipe σ vs).set i (some (.str ⟨#[c]⟩))) H' R) (hd : Qd (upd H D (.lst ((tl z).map f)))) :
    ∃ W : Nat → Nat → Hp → Prop, (∃ m, W 0 m (upd H D (.lst []))) ∧ ∀ i₁ m H, W i₁ m H →
      ((Its z).stop i₁ H ∧ Qd H) ∨ ((Its z).go i₁ H ∧ ∃ Nx : Hp → Prop, (∀ H', Nx H' → ∃ m', m' < m ∧ W (i₁ + 1) m' H') ∧ ∀ x H', (Its z).yld i₁ H x H' → gName i x (wipe σ vs) H' fun σ2 H2 => wipe σ2 vs = wipe σ vs ∧ tYes σ2 H2 fun b H3 =>
        if b = true then te σ2 H3 fun y H4 => ∃ acc, H4 D = some (.lst acc) ∧ acc.length < sizeLine ∧ Nx (upd H4 D (.lst (acc ++ [y]))) else Nx H3) := by
  have hl : z.length = (tl z).length := by simp [Str.length]
  have hsz : z.cps.size = (tl z).length := by simp
  refine ⟨fun j m H' => m = (tl z).length - j ∧ j ≤ (tl z).length ∧ H' = upd H D (.lst (((tl z).take j).map f)), ⟨_, rfl, Nat.zero_le _, rfl⟩, ?_⟩
  rintro j m H' ⟨rfl, hj, rfl⟩
  by_cases hlt : j < (tl z).length
  · refine .inr ⟨by show j < z.cps.size; omega, fun H' => j + 1 ≤ (tl z).length ∧ H' = upd H D (.lst (((tl z).take (j + 1)).map f)), fun H' ⟨a, b⟩ => ⟨(tl z).length - (j + 1), by omega, rfl, a, b⟩, ?_⟩
    rintro x H' ⟨rfl, c, hc, rfl⟩
    have hc' : (tl z)[j]? = some c := by simpa using hc
    refine ⟨hw _, ?_⟩
    show te _ _ _
    refine he c (List.mem_of_getElem? hc') _ _ (same_new hD) ⟨_, upd_same, ?_, by omega, ?_⟩
    · simp only [List.length_map, List.length_take]; omega
    · rw [upd_upd, List.take_succ, hc']; simp
  · have e : j = (tl z).length := by omega
    refine .inl ⟨by show z.cps.size ≤ j; omega, ?_⟩
    rw [e, List.take_length]; exact hd
end
/-! ### a list or a tuple -/
def SqIt (K : PySem.W.Frag) (x : V) (R : It → Hp → Prop) (H1 : Hp) : Prop := ∃ a, x = .ref a ∧ (((∃ xs, SqL K H1 a xs) ∧ R (Itl K a) H1) ∨ ((∃ xs, SqT K H1 a xs) ∧ R (Itt K a) H1))
def iSq (K : PySem.W.Frag) (tl : TE) : TI := fun σ H R => tl σ H fun x H1 => SqIt K x R H1
theorem r_iSq {K : PySem.W.Frag} {te : TE} {σ : L2.St} {H : Hp} {R : It → Hp → Prop} (q : te σ H fun x H1 => SqIt K x R H1) : iSq K te σ H R := q
/-- an iterator that has just been made stands for its walk -/
theorem sq_born {X : Cx} {pins : List (Addr × Obj)} {σ : L2.St} {tg : Expr} {H : Hp} {s : Shared} {J : It} {tn : Nat → Heap → Prop} {R : It → Hp → Prop} {cls : String} {held : Array Value} (known : Inv X pins σ H s)
    (turns : Turn X.prog X.w X.K tg J [s.heap.objs.size] s.heap.objs.size tn) (z : tn 0 (s.heap.push { cls := .type cls, data := .fields held })) (r : R J H) :
    PIE X pins σ tg R (.ref s.heap.objs.size) { s with heap := s.heap.push { cls := .type cls, data := .fields held } } := by
  have still : Inv X pins σ H { s with heap := s.heap.push { cls := .type cls, data := .fields held } } := known.kept (t' := s.toks) fun _ _ => Heap.get?_push_of_some _
  have young : ∀ b ∈ [s.heap.objs.size], FpOk X pins H b := by
    intro b mem
    rw [List.mem_singleton.mp mem]
    exact known.fpOk Nat.le.refl (known.hok.fresh Nat.le.refl)
  exact ⟨_, _, tn, J, H, rfl, still, turns, z, young, r⟩
theorem pi_sq {X : Cx} {tg walked : Expr} {te : TE} (he : PE X walked te) : PI X tg walked (iSq X.K te) where
  run := fun pins s σ H R known reads => by
    refine thn (he.run pins s σ H _ known reads) ?_
    rintro v s1 ⟨x, H1, known1, rel, a, rfl, ⟨⟨xs, isList⟩, r⟩ | ⟨⟨xs, isTup⟩, r⟩⟩
    · obtain ⟨_, _, there, _⟩ := known1.list isList
      cases rel
      exact wpAny_pyIter_list there.isList (sq_born known1 (turn_list a _) ⟨_, Heap.get?_push_size _ rfl, rfl, rfl⟩ r)
    · obtain ⟨cells, _, there, _⟩ := known1.tuple isTup
      cases rel
      exact wpAny_pyIter_tuple (items := cells.toArray) there (sq_born known1 (turn_tuple a _) ⟨_, Heap.get?_push_size _ rfl, rfl, rfl⟩ r)
theorem sl_sq {X : Cx} : SlR X (fun x lo hi H Q => rSlL X.K x lo hi H Q ∨ rSlA X.K x lo hi H Q) := SlR.or sl_list sl_tupA
def Sq (K : PySem.W.Frag) (H : Hp) (v : V) (xs : List V) : Prop := ∃ a, v = .ref a ∧ (SqL K H a xs ∨ SqT K H a xs)
section
variable {K : PySem.W.Frag} {H H' : Hp} {a : Addr} {xs : List V} {v : V}
theorem Same.sqT (e : Same H H') (h : SqT K H a xs) : SqT K H' a xs := by
  rcases h with (h | ⟨o, h⟩) | h
  · exact .inl (.inl (e _ _ h))
  · exact .inl (.inr ⟨o, e _ _ h⟩)
  · exact .inr h
/-- lists and tuples stand -/
def Keeps (K : PySem.W.Frag) (H H' : Hp) : Prop := (∀ a xs, SqL K H a xs → SqL K H' a xs) ∧ ∀ a xs, SqT K H a xs → SqT K H' a xs
theorem Keeps.refl : Keeps K H H := ⟨fun _ _ h => h, fun _ _ h => h⟩
theorem Keeps.trans {H2 : Hp} (x : Keeps K H H') (y : Keeps K H' H2) : Keeps K H H2 := ⟨fun a xs h => y.1 a xs (x.1 a xs h), fun a xs h => y.2 a xs (x.2 a xs h)⟩
theorem Same.keeps (e : Same H H') : Keeps K H H' := ⟨fun _ _ h => e.seq h, fun _ _ h => Same.sqT e h⟩
theorem Kp.keeps {b : Addr} {C dx : Addr} {fs : List (Str × V)} (e : Kp b H H') (hb : H b = some (.ins C dx fs)) : Keeps K H H' := by
  have n1 : ∀ {c : Addr} {o : HO}, H c = some o → (∀ C dx fs, o ≠ .ins C dx fs) → H' c = some o := fun {c o} h k => e c o (fun z => by rw [z, hb] at h; exact k _ _ _ (Option.some.inj h).symm) h
  refine ⟨fun a xs h => ?_, fun a xs h => ?_⟩
  · rcases h with (h | ⟨o, h⟩) | h
    · exact .inl (.inl (n1 h (fun _ _ _ z => by cases z)))
    · exact .inl (.inr ⟨o, n1 h (fun _ _ _ z => by cases z)⟩)
    · exact .inr h
  · rcases h with (h | ⟨o, h⟩) | h
    · exact .inl (.inl (n1 h (fun _ _ _ z => by cases z)))
    · exact .inl (.inr ⟨o, n1 h (fun _ _ _ z => by cases z)⟩)
    · exact .inr h
theorem Kp.sqT {b : Addr} {ys : List V} (e : Kp b H H') (hb : H b = some (.lst ys)) (h : SqT K H a xs) : SqT K H' a xs := by
  have n1 : ∀ {c : Addr} {o : HO}, H c = some o → (∀ ys, o ≠ .lst ys) → H' c = some o := fun {c o} h k => e c o (fun z => by rw [z, hb] at h; exact k _ (Option.some.inj h).symm) h
  rcases h with (h | ⟨o, h⟩) | h
  · exact .inl (.inl (n1 h (fun _ z => by cases z)))
  · exact .inl (.inr ⟨o, n1 h (fun _ z => by cases z)⟩)
  · exact .inr h
theorem Sq.keep (e : Keeps K H H') (h : Sq K H v xs) : Sq K H' v xs := by
  obtain ⟨a, rfl, h | h⟩ := h
  · exact ⟨a, rfl, .inl (e.1 _ _ h)⟩
  · exact ⟨a, rfl, .inr (e.2 _ _ h)⟩
theorem Sq.same (e : Same H H') (h : Sq K H v xs) : Sq K H' v xs := h.keep (Same.keeps e)
theorem Sq.len (h : Sq K H v xs) : LenV K v H xs.length := by
  obtain ⟨a, rfl, h | h⟩ := h
  · exact lenL h
  · exact lenT h
variable {Q : VK} {σ : L2.St}
theorem r_ixSq {i : Int} {y : V} (h : Sq K H v xs) (e : atI xs i = some y) (q : Q y H) : rIx K v (.int i) H Q := by
  obtain ⟨a, rfl, h | h⟩ := h
  · exact .inl (r_ixL h e q)
  · exact .inr (.inl (r_ixT h e q))
theorem r_slSq {lo hi : Option Int} (h : Sq K H v xs) (q : ∀ v' H', Same H H' → Sq K H' v' (cutV xs lo hi) → Q v' H') : rSlL K v lo hi H Q ∨ rSlA K v lo hi H Q := by
  obtain ⟨a, rfl, h | h⟩ := h
  · exact .inl ⟨a, xs, rfl, h, fun p np => q _ _ (same_new np) ⟨p, rfl, .inl (SqL.of upd_same)⟩⟩
  · refine .inr ⟨a, xs, rfl, h, fun w => ?_, fun _ p np => q _ _ (same_new np) ⟨p, rfl, .inr (SqT.of upd_same)⟩⟩
    have e : cutV xs lo hi = xs := by
      unfold cutV
      rw [w.1, w.2, List.drop_zero, Nat.sub_zero, List.take_length]
    exact q _ _ (Same.refl _) (by rw [e]; exact ⟨a, rfl, .inr h⟩)
theorem r_star {te : TE} {t : TA} {R : List V → Hp → Prop} (q : te σ H fun x H1 => ∃ p xs, x = V.ref p ∧ (SqT K H1 p xs ∨ SqL K H1 p xs) ∧ t σ H1 fun ys H2 => R (xs ++ ys) H2) : StX.tStar K te t σ H R := q
theorem r_starSq {R : List V → Prop} (h : Sq K H v xs) (q : R xs) : ∃ p zs, v = V.ref p ∧ (SqT K H p zs ∨ SqL K H p zs) ∧ R zs := by
  obtain ⟨a, rfl, h | h⟩ := h
  · exact ⟨a, xs, rfl, .inr h, q⟩
  · exact ⟨a, xs, rfl, .inl h, q⟩
end
section
variable {K : PySem.W.Frag} {v : V} {xs : List V} {g : TG} {tb : TS} {nx : L2.St → Hp → Prop} {rt : VK} {σ : L2.St} {H : Hp}
/-- what stands at v stands on -/
def KeepAt (K : PySem.W.Frag) (v : V) (H H' : Hp) : Prop := ∀ a xs, v = .ref a → (SqL K H a xs → SqL K H' a xs) ∧ (SqT K H a xs → SqT K H' a xs)
theorem Keeps.at {v : V} {H' : Hp} (k : Keeps K H H') : KeepAt K v H H' := fun a xs _ => ⟨k.1 a xs, k.2 a xs⟩
theorem Kp.at {v : V} {H' : Hp} {L : Addr} (k : Kp L H H') (n : v ≠ .ref L) : KeepAt K v H H' := fun a xs e => by
  have na : a ≠ L := fun q => n (by rw [e, q])
  refine ⟨k.seq na, fun h => ?_⟩
  rcases h with (h | ⟨u, h⟩) | h
  · exact .inl (.inl (k _ _ na h))
  · exact .inl (.inr ⟨u, k _ _ na h⟩)
  · exact .inr h
theorem KeepAt.sq {v : V} {H' : Hp} (k : KeepAt K v H H') (h : Sq K H v xs) : Sq K H' v xs := by
  obtain ⟨a, e, h | h⟩ := h
  · exact ⟨a, e, .inl ((k a xs e).1 h)⟩
  · exact ⟨a, e, .inr ((k a xs e).2 h)⟩
/-- a for over a list or a tuple -/
theorem fr_sq {R : It → Hp → Prop} (h : Sq K H v xs) (Pv : Nat → L2.St → Hp → Prop) (h0 : Pv 0 σ H) (hl : ∀ i σ H', i ≤ xs.length → Pv i σ H' → KeepAt K v H H')
    (hs : ∀ i x σ H, xs[i]? = some x → Pv i σ H → g x σ H fun σ2 H2 => tb ⟨Pv (i + 1), rt, nx, Pv (i + 1)⟩ σ2 H2) (hd : ∀ σ H, Pv xs.length σ H → nx σ H)
    (hR : ∀ J, (∃ W : Nat → Nat → L2.St → Hp → Prop, (∃ m, W 0 m σ H) ∧ ∀ i m σ H, W i m σ H →
      ((It.stop J i H ∧ nx σ H) ∨ (It.go J i H ∧ ∃ N : L2.St → Hp → Prop, (∀ σ' H', N σ' H' → ∃ m', m' < m ∧ W (i + 1) m' σ' H') ∧ ∀ x H', It.yld J i H x H' → g x σ H' fun σ2 H2 => tb ⟨N, rt, nx, N⟩ σ2 H2))) → R J H) :
    SqIt K v R H := by
  obtain ⟨a, rfl, h | h⟩ := h
  · exact ⟨a, rfl, .inl ⟨⟨xs, h⟩, hR _ (fr_list Pv h0 (fun i σ H' hi p => (hl i σ H' hi p a xs rfl).1 h) hs hd)⟩⟩
  · exact ⟨a, rfl, .inr ⟨⟨xs, h⟩, hR _ (fr_tup Pv h0 (fun i σ H' hi p => (hl i σ H' hi p a xs rfl).2 h) hs hd)⟩⟩
/-- a slice that is not the whole: a new thing -/
theorem r_slNew {lo hi : Option Int} {Q : VK} (h : Sq K H v xs) (nw : ¬ (HT.sIx xs.length 0 lo = 0 ∧ HT.sIx xs.length xs.length hi = xs.length)) (q : ∀ p H', H p = none → Same H H' → Sq K H' (.ref p) (cutV xs lo hi) → Q (.ref p) H') : rSlL K v lo hi H Q ∨ rSlA K v lo hi H Q := by
  obtain ⟨a, rfl, h | h⟩ := h
  · exact .inl ⟨a, xs, rfl, h, fun p np => q p _ np (same_new np) ⟨p, rfl, .inl (SqL.of upd_same)⟩⟩
  · exact .inr ⟨a, xs, rfl, h, fun w => absurd w nw, fun _ p np => q p _ np (same_new np) ⟨p, rfl, .inr (SqT.of upd_same)⟩⟩
end
theorem walk_rng {lo : Int} {n : Nat} : Walk (Itr lo n) ((List.range n).map fun i : Nat => V.int (lo + i)).length (fun _ => True) (YAt ((List.range n).map fun i : Nat => V.int (lo + i))) := by
  rw [List.length_map, List.length_range]
  exact walk_range.mono (fun _ h => h) fun i H x H' hi _ y => ⟨y.1, by rw [y.2]; simp [hi]⟩
theorem walk_sgn {z : Str} : Walk (Its z) ((sgn z).map V.str).length (fun _ => True) (YAt ((sgn z).map V.str)) := by
  have e : ((sgn z).map V.str).length = z.cps.size := by simp [sgn]
  rw [e]
  refine walk_str.mono (fun _ h => h) fun i H x H' hi _ y => ⟨y.1, ?_⟩
  obtain ⟨c, hc, rfl⟩ := y.2
  have hc' : z.cps.toList[i]? = some c := by simpa using hc
  simp [sgn, hc']

/-- the list at D holds i things, of which P holds -/
def PP (D : Addr) (P : List V → Hp → Prop) (i : Nat) (H : Hp) : Prop := ∃ acc, acc.length = i ∧ H D = some (.lst acc) ∧ P acc H
theorem pp_next {D : Addr} {P : List V → Hp → Prop} {i : Nat} {H : Hp} {y : V} {acc : List V} (e : H D = some (.lst acc)) (l : acc.length = i) (hi : i < sizeLine) (p : P (acc ++ [y]) (upd H D (.lst (acc ++ [y])))) :
    ∃ acc, H D = some (.lst acc) ∧ acc.length < sizeLine ∧ PP D P (i + 1) (upd H D (.lst (acc ++ [y]))) :=
  ⟨acc, e, by omega, acc ++ [y], by rw [List.length_append, l]; rfl, upd_same, p⟩
section
variable {σ : L2.St} {H : Hp} {D : Addr} {vs : List Nat} {te : TE} {Qd : Hp → Prop} {J : It} {xs : List V} {G : Hp → Prop} {slot : Nat}
/-- [e for x in xs]: P of what is made so far and the heap -/
theorem lc_gen (w : Walk J xs.length G (YAt xs)) (hw : ∀ x, wipe ((wipe σ vs).set slot (some x)) vs = wipe σ vs) (P : List V → Hp → Prop) (h0 : P [] (upd H D (.lst [])))
    (hG : ∀ acc H', H' D = some (.lst acc) → P acc H' → G H')
    (hs : ∀ i x acc H', xs[i]? = some x → acc.length = i → H' D = some (.lst acc) → P acc H' → te ((wipe σ vs).set slot (some x)) H' fun y H4 => ∃ acc, H4 D = some (.lst acc) ∧ acc.length < sizeLine ∧ PP D P (i + 1) (upd H4 D (.lst (acc ++ [y]))))
    (hd : ∀ acc H', acc.length = xs.length → H' D = some (.lst acc) → P acc H' → Qd H') :
    ∃ W : Nat → Nat → Hp → Prop, (∃ m, W 0 m (upd H D (.lst []))) ∧ ∀ i m H, W i m H →
      (J.stop i H ∧ Qd H) ∨ (J.go i H ∧ ∃ Nx : Hp → Prop, (∀ H', Nx H' → ∃ m', m' < m ∧ W (i + 1) m' H') ∧ ∀ x H', J.yld i H x H' → gName slot x (wipe σ vs) H' fun σ2 H2 => wipe σ2 vs = wipe σ vs ∧ tYes σ2 H2 fun b H3 =>
        if b = true then te σ2 H3 fun y H4 => ∃ acc, H4 D = some (.lst acc) ∧ acc.length < sizeLine ∧ Nx (upd H4 D (.lst (acc ++ [y]))) else Nx H3) := by
  refine lc_it w (PP D P) ⟨[], rfl, upd_same, h0⟩ (fun i H' _ ⟨acc, _, e, p⟩ => hG acc H' e p) ?_ (fun H' ⟨acc, l, e, p⟩ => hd acc H' l e p)
  rintro i x H1 H2 hi ⟨acc, l, e, p⟩ ⟨rfl, hx⟩
  refine ⟨hw x, ?_⟩
  show te _ _ _
  exact hs i x acc _ hx l e p
/-- the same over a list or a tuple -/
theorem lc_sq {K : PySem.W.Frag} {v : V} {R : It → Hp → Prop} (h : Sq K H v xs) (hw : ∀ x, wipe ((wipe σ vs).set slot (some x)) vs = wipe σ vs) (P : List V → Hp → Prop) (h0 : ∀ D, H D = none → P [] (upd H D (.lst [])))
    (hG : ∀ D acc H', H D = none → H' D = some (.lst acc) → P acc H' → Keeps K H H')
    (hs : ∀ D i x acc H', H D = none → xs[i]? = some x → acc.length = i → H' D = some (.lst acc) → P acc H' → te ((wipe σ vs).set slot (some x)) H' fun y H4 => ∃ acc, H4 D = some (.lst acc) ∧ acc.length < sizeLine ∧ PP D P (i + 1) (upd H4 D (.lst (acc ++ [y]))))
    (Qe : Addr → Hp → Prop) (hd : ∀ D acc H', H D = none → acc.length = xs.length → H' D = some (.lst acc) → P acc H' → Qe D H')
    (hR : ∀ J, (∀ D, H D = none → ∃ W : Nat → Nat → Hp → Prop, (∃ m, W 0 m (upd H D (.lst []))) ∧ ∀ i m H, W i m H →
      (It.stop J i H ∧ Qe D H) ∨ (It.go J i H ∧ ∃ Nx : Hp → Prop, (∀ H', Nx H' → ∃ m', m' < m ∧ W (i + 1) m' H') ∧ ∀ x H', It.yld J i H x H' → gName slot x (wipe σ vs) H' fun σ2 H2 => wipe σ2 vs = wipe σ vs ∧ tYes σ2 H2 fun b H3 =>
        if b = true then te σ2 H3 fun y H4 => ∃ acc, H4 D = some (.lst acc) ∧ acc.length < sizeLine ∧ Nx (upd H4 D (.lst (acc ++ [y]))) else Nx H3)) → R J H) :
    SqIt K v R H := by
  obtain ⟨a, rfl, h | h⟩ := h
  · exact ⟨a, rfl, .inl ⟨⟨xs, h⟩, hR _ fun D hD => lc_gen walk_list hw P (h0 D hD) (fun acc H' e p => (hG D acc H' hD e p).1 _ _ h) (fun i x acc H' hx l e p => hs D i x acc H' hD hx l e p) (fun acc H' l e p => hd D acc H' hD l e p)⟩⟩
  · exact ⟨a, rfl, .inr ⟨⟨xs, h⟩, hR _ fun D hD => lc_gen walk_tup hw P (h0 D hD) (fun acc H' e p => (hG D acc H' hD e p).2 _ _ h) (fun i x acc H' hx l e p => hs D i x acc H' hD hx l e p) (fun acc H' l e p => hd D acc H' hD l e p)⟩⟩
end
section
variable {K : PySem.W.Frag} {C : Addr}
theorem r_tfld {σ : L2.St} {H : Hp} {Q : VK} {ta : TE} {f : Str} (q : ta σ H fun x H1 => ∃ a C dx fs v, x = .ref a ∧ H1 a = some (.ins C dx fs) ∧ Cls K C ∧ NoAttr K C f ∧ fs.lookup f = some v ∧ Q v H1) : tFld K ta f σ H Q := q
theorem r_sfld {σ : L2.St} {H : Hp} {D : Ends} {ta tv : TE} {f : Str} (q : tv σ H fun y H1 => ta σ H1 fun x H2 => ∃ a C dx fs, x = .ref a ∧ H2 a = some (.ins C dx fs) ∧ Cls K C ∧ NoAttr K C f ∧ fs.length < 1000 ∧
  D.nx σ (upd H2 a (.ins C dx (putF f y fs)))) : sFld K ta tv f D σ H := q
theorem r_meth {σ : L2.St} {H : Hp} {Q : VK} {m : Str} {sp : Sp} {dvs : List V} {E : XK} {ta : TE} {t : TA} (q : ta σ H fun x H1 => ∃ a dx fs, x = .ref a ∧ H1 a = some (.ins C dx fs) ∧ fs.lookup m = none ∧
  t σ H1 fun vs H2 => sp (x :: (vs ++ dvs)) H2 Q E) : tMeth C m sp dvs E ta t σ H Q := q
end
def rTupOf (K : PySem.W.Frag) : List V → Hp → VK → Prop := fun xs H Q => ∃ p ys, xs = [.ref p] ∧ ((SqL K H p ys ∧ ∀ l, H l = none → Q (.ref l) (upd H l (.tup ys))) ∨ (SqT K H p ys ∧ Q (.ref p) H))
theorem call_tupOf {X : Cx} : CallR X (.type "tuple") (rTupOf X.K) := call_tuple_of
end K1

/-! A5 -/
/-! The law's draws: a bag off a cell, a number off a bag. -/

local macro_rules | `(tactic| walk_at "go") => `(tactic| repeat (first
  | with_reducible apply K1.r_seq
  | with_reducible apply K1.r_asg
  | ((with_reducible apply K1.r_name); (try dsimp only [List.set]))
  | ((with_reducible apply K1.r_var); (focus rfl))
  | with_reducible apply K1.r_c
  | with_reducible apply K1.r_op
  | with_reducible apply K1.r_un
  | with_reducible apply K1.r_I0
  | with_reducible apply K1.r_test
  | with_reducible apply K1.r_if
  | with_reducible apply K1.r_ifs
  | with_reducible apply K1.r_iteT
  | with_reducible apply K1.r_iteF
  | with_reducible apply K1.r_and
  | with_reducible apply K1.r_or
  | with_reducible apply K1.r_not
  | with_reducible apply K1.r_tB
  | with_reducible apply K1.r_andV
  | with_reducible apply K1.r_orV
  | with_reducible apply K1.r_notV
  | with_reducible apply K1.r_cb
  | with_reducible apply K1.r_cons
  | with_reducible apply K1.r_nil
  | with_reducible apply K1.r_ret
  | with_reducible apply K1.r_next
  | with_reducible apply K1.r_drop
  | with_reducible apply K1.r_lst
  | with_reducible apply K1.r_tup
  | with_reducible apply K1.r_call
  | with_reducible apply K1.r_gsub
  | with_reducible apply K1.r_for
  | refine ⟨_, rfl, ?_⟩
  | refine Or.inl ⟨_, rfl, ?_⟩
  | dsimp only))

namespace K1
open PySem L2

def top (i : Nat) : Stmt := PySem.Challenge.pw_handcarried_k11_rules_judged.main.body.getD i (.Pass ⟨0, 0, 0, 0⟩)

/-- the built-ins that the module's names leave alone -/
structure Bl (mg : Str → Option Value) : Prop where
  len : mg "len" = none
  sum : mg "sum" = none
  abs : mg "abs" = none
  int : mg "int" = none
  range : mg "range" = none
  list : mg "list" = none
  tuple : mg "tuple" = none
  str : mg "str" = none
  bool : mg "bool" = none
  sorted : mg "sorted" = none
  all : mg "all" = none
  min : mg "min" = none
  isin : mg "isinstance" = none
  max : mg "max" = none
  any : mg "any" = none
  repr : mg "repr" = none

/-- a bag: digits that are left, salt, count of mixed draws (at most n) -/
def IsBag (H : Hp) (b : Addr) (n : Nat) : Prop := ∃ d s c : Int, H b = some (.lst [.int d, .int s, .int c]) ∧ 0 ≤ d ∧ 0 ≤ s ∧ s < 2 ^ 40 ∧ 0 ≤ c ∧ c ≤ n

abbrev sBagOf : Stmt := top 56
abbrev sPick : Stmt := top 57
abbrev nBagOf : List Str := ["_law_script", "_law_at", "_law_cell", "_law_size", "_law_digits", "_law_one"]
theorem scBagOf : FnScope nBagOf ["_law_script", "_law_at"] (defScope sBagOf) := ⟨rfl, rfl, rfl, by decide +kernel, rfl, by decide +kernel, by decide +kernel⟩
abbrev nPick : List Str := ["_law_bag", "_law_many", "_law_digit", "_law_one", "_law_two"]
theorem scPick : FnScope nPick ["_law_bag", "_law_many"] (defScope sPick) := ⟨rfl, rfl, rfl, by decide +kernel, rfl, by decide +kernel, by decide +kernel⟩

def spBagOf (K : PySem.W.Frag) : Sp := fun vs H Q _ => ∃ (a : Addr) (ns : List Int) (at_ : Int), vs = [.ref a, .int at_] ∧ SqL K H a (ns.map V.int) ∧ ns.length ≤ 63 ∧ 0 ≤ at_ ∧ at_ ≤ 1000 ∧
  ∀ H' p, Same H H' → H p = none → IsBag H' p 0 → Q (.ref p) H'

section
variable {P : Program} {w : World} {K : PySem.W.Frag} {mg : Str → Option Value} {base : Heap}

theorem ok_bagOf {f : Addr} {fd : FuncData} (F : Fun K "_law_bag_of" "_law_bag_of" sBagOf f fd) (B : Bl mg) : FnOk P w K mg base CX0 1 f fd ["_law_script", "_law_at"] (spBagOf K) := by
  refine F.ok scBagOf (fun vs H Q E h => ?_) (fun cdv A outer s H vs Q E hr h => ?_)
  · obtain ⟨a, ns, at_, rfl, _⟩ := h
    rfl
  · obtain ⟨a, ns, at_, rfl, hS, hlen, h0, h1, k⟩ := h
    refine ⟨_, pss_cons (ps_set (i := 2) scBagOf.nd rfl (Or.inl rfl)
        (pe_ifExp (pt_cmpR op_lt (pv 1) (pe_callB call_len (by rfl) B.len PySem.boot_len (pa_cons (pv 0) pa_nil)) (nomark _))
          (pe_ix ix_list (pv 0) (pv 1) (fun _ _ => rfl))
          (pe_op op_add (pe_callB (cr_sum rfl) (by rfl) B.sum (by decide +kernel) (pa_cons
              (pe_lc (own := [("_law_one", 5)]) (g := gName 5) (tt := tYes) rfl scBagOf.nd (pi_list (pv 0)) (blkOk_by (N := nBagOf) (sc := defScope sBagOf) (by decide +kernel)) (fun _ _ _ _ _ => pg_name (i := 5) scBagOf.nd rfl (Or.inl rfl)) (fun _ _ _ _ _ => pts_nil)
                (fun _ _ _ _ _ => pe_op op_add (pe_op op_fdiv (pe_callB call_abs (by rfl) B.abs (by decide +kernel) (pa_cons (pv 5) pa_nil)) pe_int) pe_int)) pa_nil))
            (pe_op op_mul pe_int (pe_op op_add (pv 1) pe_int)))))
      (pss_cons (ps_set (i := 3) scBagOf.nd rfl (Or.inl rfl) (pe_callB call_abs (by rfl) B.abs (by decide +kernel) (pa_cons (pv 2) pa_nil)))
      (pss_cons (ps_set (i := 4) scBagOf.nd rfl (Or.inl rfl) (pe_ifExp (pt_cmpR op_ge (pv 3) pe_int (nomark _)) (pv 3) pe_int))
      (pss_one (ps_ret (pe_lst (pa_cons (pv 4) (pa_cons (pe_op op_add (pe_op op_add (pe_op op_mod (pe_callTy call_int1 (by rfl) B.int (by decide +kernel) (pa_cons (pv 3) pa_nil)) pe_int) (pe_op op_mul pe_int (pv 1)))
        (pe_ifExp (pt_cmpR op_lt (pv 2) pe_int (nomark _)) pe_int pe_int)) (pa_cons pe_int pa_nil)))))))), ?_⟩
    dsimp only [cxOf, Cx.nox, Cx.wish]
    walk_at "go"
    refine ⟨_, _, rfl, lenL hS, ?_⟩
    walk_at "go"
    refine r_ite (fun h => ?_) (fun h => ?_)
    rotate_left
    walk_at "go"
    refine ⟨⟨_, hS⟩, fun D hD => lc_map (fun x => match x with | .int z => .int ((if z < 0 then -z else z) / 3 + 5) | y => y) hS hD (by rw [List.length_map, sizeLine_eq]; omega) (fun _ => rfl) (fun x hx H' R sm r => ?_) ?_⟩
    · obtain ⟨z, _, rfl⟩ := List.mem_map.mp hx
      walk_at "go"
      refine r_I ⟨by decide, by decide⟩ ?_
      walk_at "go"
      exact r
    walk_at "go"
    have hD' : (upd H D (.lst ((ns.map V.int).map fun x => match x with | .int z => .int ((if z < 0 then -z else z) / 3 + 5) | y => y))) D = some (.lst ((ns.map fun z => (if z < 0 then -z else z) / 3 + 5).map V.int)) := by
      rw [upd_same, List.map_map, List.map_map]
      rfl
    refine r_sum (SqL.of hD') ?_
    walk_at "go"
    refine r_I (.inl ⟨by decide, by decide⟩) ?_
    walk_at "go"
    have sm := same_new (o := HO.lst ((ns.map V.int).map fun x => match x with | .int z => .int ((if z < 0 then -z else z) / 3 + 5) | y => y)) hD
    revert sm
    generalize (ns.map fun z => (if z < 0 then -z else z) / 3 + 5).sum + 7919 * (at_ + 1) = zz
    rotate_left
    obtain ⟨z, hz, _⟩ := at_int (ns := ns) h0 (by simpa using h)
    walk_at "go"
    refine r_ixL hS hz ?_
    walk_at "go"
    have sm : Same H H := Same.refl H
    revert sm
    all_goals
      intro sm
      refine r_ite (fun hh => ?_) (fun hh => ?_)
    all_goals
      walk_at "go"
      refine r_I (by decide) ?_
      walk_at "go"
      refine r_I (.inl ⟨by decide, by decide⟩) ?_
      walk_at "go"
      refine r_ite (fun hn => ?_) (fun hn => ?_)
    all_goals
      walk_at "go"
      refine ⟨(by show 3 ≤ sizeLine; decide), fun p hp => ?_⟩
      refine k _ p (sm.trans (same_new hp)) (sm.free hp) ⟨_, _, _, upd_same, ?_, ?_, ?_, ?_, ?_⟩
    all_goals (first | omega | (split <;> omega))

def spPick : Sp := fun vs H Q _ => ∃ (b : Addr) (m : Int) (n : Nat), vs = [.ref b, .int m] ∧ IsBag H b n ∧ n ≤ 2 ^ 40 ∧ m < 1073741824 ∧
  ∀ r H', 0 ≤ r → (r < m ∨ (m < 2 ∧ r = 0)) → IsBag H' b (n + 1) → Off b H H' → Q (.int r) H'

theorem ok_pick {f : Addr} {fd : FuncData} (F : Fun K "_law_pick" "_law_pick" sPick f fd) (B : Bl mg) : FnOk P w K mg base CX0 1 f fd ["_law_bag", "_law_many"] spPick := by
  refine F.ok scPick (fun vs H Q E h => ?_) (fun cdv A outer s H vs Q E hr h => ?_)
  · obtain ⟨a, m, n, rfl, _⟩ := h
    rfl
  · obtain ⟨b, m, n, rfl, ⟨d, sl, c, hb, d0, s0, s1, c0, c1⟩, hn, hm, k⟩ := h
    refine ⟨_, pss_cons (ps_if (pt_cmpR op_lt (pv 1) pe_int (nomark _)) (pss_one (ps_ret pe_int)) pss_nil)
      (pss_cons (ps_if (pt_cmpR op_gt (pe_ix ix_list (pv 0) pe_int (fun _ _ => rfl)) pe_int (nomark _))
        (pss_cons (ps_set (i := 2) scPick.nd rfl (Or.inl rfl) (pe_op op_modN (pe_callTy call_int1 (by rfl) B.int (by decide +kernel) (pa_cons (pe_ix ix_list (pv 0) pe_int (fun _ _ => rfl)) pa_nil)) (pv 1)))
        (pss_cons (ps_asg (pe_op op_fdivN (pe_ix ix_list (pv 0) pe_int (fun _ _ => rfl)) (pv 1)) (pg_sub (pv 0) pe_int set_list))
        (pss_one (ps_ret (pv 2))))) pss_nil)
      (pss_cons (ps_asg (pe_op op_add (pe_ix ix_list (pv 0) pe_int (fun _ _ => rfl)) pe_int) (pg_sub (pv 0) pe_int set_list))
      (pss_cons (ps_set (i := 3) scPick.nd rfl (Or.inl rfl) (pe_op op_mod (pe_callTy call_int1 (by rfl) B.int (by decide +kernel) (pa_cons
          (pe_op op_add (pe_op op_mul (pe_ix ix_list (pv 0) pe_int (fun _ _ => rfl)) pe_int) (pe_op op_mul (pe_ix ix_list (pv 0) pe_int (fun _ _ => rfl)) pe_int)) pa_nil)) pe_int))
      (pss_cons (ps_set (i := 4) scPick.nd rfl (Or.inl rfl) (pe_op op_mod (pe_callTy call_int1 (by rfl) B.int (by decide +kernel) (pa_cons
          (pe_op op_add (pe_op op_add (pe_op op_mul (pv 3) (pv 3)) (pe_ix ix_list (pv 0) pe_int (fun _ _ => rfl))) (pe_op op_mul (pe_ix ix_list (pv 0) pe_int (fun _ _ => rfl)) pe_int)) pa_nil)) pe_int))
      (pss_one (ps_ret (pe_op op_modN (pe_callTy call_int1 (by rfl) B.int (by decide +kernel) (pa_cons (pe_op op_fdiv (pv 4) pe_int) pa_nil)) (pv 1)))))))), ?_⟩
    dsimp only [cxOf, Cx.nox, Cx.wish]
    walk_at "go"
    refine r_ite (fun h => ?_) (fun h => ?_)
    · walk_at "go"
      exact k 0 H (Int.le_refl 0) (.inr ⟨h, rfl⟩) ⟨d, sl, c, hb, d0, s0, s1, c0, by omega⟩ (Off.refl _ _)
    walk_at "go"
    refine r_ixL (SqL.of hb) rfl ?_
    walk_at "go"
    refine r_ite (fun h2 => ?_) (fun h2 => ?_)
    · walk_at "go"
      refine r_ixL (SqL.of hb) rfl ?_
      walk_at "go"
      refine r_I (by omega) ?_
      walk_at "go"
      refine r_ixL (SqL.of hb) rfl ?_
      walk_at "go"
      refine r_I ⟨by omega, by omega⟩ ?_
      walk_at "go"
      refine r_setL hb rfl ?_
      walk_at "go"
      refine k _ _ ?_ (.inl ?_) ⟨_, _, _, upd_same, ?_, s0, s1, c0, by omega⟩ Off.upd
      · exact Int.fmod_nonneg (by omega) (by omega)
      · exact Int.fmod_lt_of_pos _ (by omega)
      · exact Int.fdiv_nonneg (by omega) (by omega)
    walk_at "go"
    refine r_ixL (SqL.of hb) rfl ?_
    walk_at "go"
    refine r_setL hb rfl ?_
    have hb2 := upd_same (H := H) (a := b) (o := HO.lst (List.set [V.int d, V.int sl, V.int c] 2 (V.int (c + 1))))
    walk_at "go"
    refine r_ixL (SqL.of hb2) rfl ?_
    walk_at "go"
    refine r_I (.inr ⟨by decide, by decide⟩) ?_
    walk_at "go"
    refine r_ixL (SqL.of hb2) rfl ?_
    walk_at "go"
    refine r_I (.inr ⟨by decide, by decide⟩) ?_
    walk_at "go"
    refine r_I (by decide) ?_
    have o0 := Int.emod_nonneg (sl * 48271 + (c + 1) * 69621) (show (2147483647 : Int) ≠ 0 by decide)
    have o1 := Int.emod_lt_of_pos (sl * 48271 + (c + 1) * 69621) (show (0 : Int) < 2147483647 by decide)
    revert o0 o1
    generalize (sl * 48271 + (c + 1) * 69621) % 2147483647 = one
    intro o0 o1
    walk_at "go"
    refine r_I (.inl ⟨by omega, by omega⟩) ?_
    walk_at "go"
    refine r_ixL (SqL.of hb2) rfl ?_
    walk_at "go"
    refine r_ixL (SqL.of hb2) rfl ?_
    walk_at "go"
    refine r_I (.inr ⟨by decide, by decide⟩) ?_
    walk_at "go"
    refine r_I (by decide) ?_
    walk_at "go"
    refine r_I ⟨by decide, by decide⟩ ?_
    walk_at "go"
    refine r_I (by omega) ?_
    walk_at "go"
    refine k _ _ ?_ (.inl ?_) ⟨_, _, _, upd_same, d0, s0, s1, by omega, by omega⟩ Off.upd
    · exact Int.fmod_nonneg (by omega) (by omega)
    · exact Int.fmod_lt_of_pos _ (by omega)
end
end K1

/-! M4 -/
/-! Rules, their words, their data. -/
namespace K4
open PySem L2 PyProof.Rows
abbrev tl (z : Str) : List Nat := z.cps.toList
abbrev ALL : Str := "0123456789ABCDEFGHIJKLMNOPQRSTUVWXYZ"
theorem str_ext {x y : Str} (h : tl x = tl y) : x = y := by
  cases x with | mk a => cases y with | mk b => exact congrArg Str.mk (Array.toList_inj.mp h)
theorem len_tl (x : Str) : x.length = (tl x).length := by simp [Str.length]
/-- a number's word -/
def num (n : Nat) : Str := Str.ofString (toString ((n : Nat) : Int))
theorem tl_numL (n : Nat) : tl (num n) = TL.numL n := TL.tl_num n
def numOk (n : Nat) : Bool := (TL.numL n).all (fun c => 48 ≤ c && c ≤ 57) && 1 ≤ (TL.numL n).length && (TL.numL n).length ≤ 2 && ((TL.numL n).head? != some 48 || TL.numL n == [48])
theorem num_all : (List.range 61).all numOk = true := by decide +kernel
theorem num_ok {n : Nat} (h : n ≤ 60) : (∀ c ∈ tl (num n), 48 ≤ c ∧ c ≤ 57) ∧ 1 ≤ (tl (num n)).length ∧ (tl (num n)).length ≤ 2 ∧ ((tl (num n)).head? ≠ some 48 ∨ tl (num n) = [48]) := by
  have a := List.all_eq_true.mp num_all n (List.mem_range.mpr (by omega))
  rw [tl_numL]
  simpa [numOk, and_assoc] using a
theorem num_int {n : Nat} (h : n ≤ 60) : intText? (num n) = some (n : Int) := TL.int_num (by have := (num_ok h).2.2.1; rw [tl_numL] at this; omega)
theorem num_inj {n m : Nat} (hn : n ≤ 60) (hm : m ≤ 60) (e : num n = num m) : n = m := by
  have a := num_int hn
  rw [e, num_int hm] at a
  have b := Option.some.inj a
  omega
theorem num_no {n c : Nat} (h : n ≤ 60) (hc : c < 48) : c ∉ tl (num n) := fun q => by have := ((num_ok h).1 c q).1; omega
abbrev CM : Str := ","
abbrev SL : Str := "/"
abbrev SP : Str := " "
theorem tl_CM : tl CM = [44] := by decide +kernel
theorem tl_SL : tl SL = [47] := by decide +kernel
theorem tl_SP : tl SP = [32] := by decide +kernel
/-! ### joined -/
theorem spl_CM {ys : List Str} (h : ys ≠ []) (k : ∀ y ∈ ys, 44 ∉ tl y) : Txt.split (Txt.join CM ys) CM = ys := TL.split_join tl_CM (by decide +kernel) h k
theorem spl_SL {ys : List Str} (h : ys ≠ []) (k : ∀ y ∈ ys, 47 ∉ tl y) : Txt.split (Txt.join SL ys) SL = ys := TL.split_join tl_SL (by decide +kernel) h k
theorem spl_SP {ys : List Str} (h : ys ≠ []) (k : ∀ y ∈ ys, 32 ∉ tl y) : Txt.split (Txt.join SP ys) SP = ys := TL.split_join tl_SP (by decide +kernel) h k
theorem tl_joinL (y : Str) (ys : List Str) : tl (Txt.join y ys) = TL.joinL (tl y) (ys.map tl) := by
  show TL.tl _ = _
  rw [TL.join_eq, TL.tl_join]
theorem mem_joinL {S : List Nat} {c : Nat} : ∀ {ps : List (List Nat)}, c ∈ TL.joinL S ps → c ∈ S ∨ ∃ p ∈ ps, c ∈ p
  | [], h => by simp [TL.joinL] at h
  | [p], h => .inr ⟨p, List.mem_singleton.mpr rfl, h⟩
  | p :: q :: r, h => by
    have h' : c ∈ p ++ (S ++ TL.joinL S (q :: r)) := h
    rcases List.mem_append.mp h' with h' | h'
    · exact .inr ⟨p, List.mem_cons_self .., h'⟩
    rcases List.mem_append.mp h' with h' | h'
    · exact .inl h'
    rcases mem_joinL h' with h' | ⟨z, hz, hc⟩
    · exact .inl h'
    · exact .inr ⟨z, List.mem_cons_of_mem _ hz, hc⟩
theorem mem_join {y : Str} {c : Nat} {ys : List Str} (h : c ∈ tl (Txt.join y ys)) : c ∈ tl y ∨ ∃ p ∈ ys, c ∈ tl p := by
  rw [tl_joinL] at h
  rcases mem_joinL h with h | ⟨p, hp, hc⟩
  · exact .inl h
  · obtain ⟨z, hz, rfl⟩ := List.mem_map.mp hp
    exact .inr ⟨z, hz, hc⟩
theorem len_joinL {S : List Nat} {b : Nat} : ∀ {ps : List (List Nat)}, (∀ p ∈ ps, p.length ≤ b) → (TL.joinL S ps).length ≤ ps.length * (b + S.length)
  | [], _ => by simp [TL.joinL]
  | [p], h => by
    have := h p (List.mem_singleton.mpr rfl)
    show p.length ≤ _
    simp only [List.length_cons, List.length_nil]; omega
  | p :: q :: r, h => by
    have a := h p (List.mem_cons_self ..)
    have b' := len_joinL (S := S) (ps := q :: r) fun z hz => h z (List.mem_cons_of_mem _ hz)
    show (p ++ (S ++ TL.joinL S (q :: r))).length ≤ (((q :: r).length) + 1) * (b + S.length)
    rw [List.length_append, List.length_append, Nat.add_mul]
    omega
theorem len_join {y : Str} {b : Nat} {ys : List Str} (h : ∀ p ∈ ys, (tl p).length ≤ b) : (tl (Txt.join y ys)).length ≤ ys.length * (b + (tl y).length) := by
  rw [tl_joinL]
  have := len_joinL (S := tl y) (b := b) (ps := ys.map tl) (fun p hp => by obtain ⟨z, hz, rfl⟩ := List.mem_map.mp hp; exact h z hz)
  rw [List.length_map] at this
  exact this
theorem sum_le {ys : List Str} {b : Nat} (h : ∀ p ∈ ys, (tl p).length ≤ b) : (ys.map (·.length)).sum ≤ ys.length * b := by
  induction ys with
  | nil => simp
  | cons y ys ih =>
    have a := h y (List.mem_cons_self ..)
    have := ih fun p hp => h p (List.mem_cons_of_mem _ hp)
    rw [List.map_cons, List.sum_cons, List.length_cons, Nat.add_mul, len_tl]
    omega
/-- numbers joined by commas -/
def commas (ns : List Nat) : Str := Txt.join CM (ns.map num)
def Nums (b : Nat) (ns : List Nat) : Prop := ns ≠ [] ∧ ns.length ≤ 60 ∧ ∀ n ∈ ns, n ≤ b
theorem Nums.mono {a b : Nat} {ns : List Nat} (h : Nums a ns) (l : a ≤ b) : Nums b ns := ⟨h.1, h.2.1, fun n q => Nat.le_trans (h.2.2 n q) l⟩
theorem split_commas {ns : List Nat} (h : Nums 60 ns) : Txt.split (commas ns) CM = ns.map num :=
  spl_CM (fun e => h.1 (List.map_eq_nil_iff.mp e)) fun y hy => by
    obtain ⟨n, hn, rfl⟩ := List.mem_map.mp hy
    exact num_no (h.2.2 n hn) (by decide)
theorem map_num_inj : ∀ {xs ys : List Nat}, (∀ n ∈ xs, n ≤ 60) → (∀ n ∈ ys, n ≤ 60) → xs.map num = ys.map num → xs = ys
  | [], [], _, _, _ => rfl
  | [], _ :: _, _, _, h => by simp at h
  | _ :: _, [], _, _, h => by simp at h
  | x :: xs, y :: ys, a, b, h => by
    rw [List.map_cons, List.map_cons] at h
    have h1 := (List.cons.inj h)
    rw [num_inj (a x (List.mem_cons_self ..)) (b y (List.mem_cons_self ..)) h1.1, map_num_inj (fun n q => a n (List.mem_cons_of_mem _ q)) (fun n q => b n (List.mem_cons_of_mem _ q)) h1.2]
theorem commas_inj {xs ys : List Nat} (hx : Nums 60 xs) (hy : Nums 60 ys) (e : commas xs = commas ys) : xs = ys :=
  map_num_inj hx.2.2 hy.2.2 (by rw [← split_commas hx, ← split_commas hy, e])
theorem commas_no {ns : List Nat} {c : Nat} (h : Nums 60 ns) (hc : c < 48) (h44 : c ≠ 44) : c ∉ tl (commas ns) := fun q => by
  rcases mem_join q with q | ⟨p, hp, q⟩
  · rw [tl_CM] at q; simp at q; exact h44 q
  · obtain ⟨n, hn, rfl⟩ := List.mem_map.mp hp
    exact num_no (h.2.2 n hn) hc q
theorem commas_no47 {ns : List Nat} (h : Nums 60 ns) : 47 ∉ tl (commas ns) := commas_no h (by decide) (by decide)
theorem commas_len {ns : List Nat} (h : Nums 60 ns) : (tl (commas ns)).length ≤ ns.length * 3 := by
  have := len_join (y := CM) (b := 2) (ys := ns.map num) (fun p hp => by obtain ⟨n, hn, rfl⟩ := List.mem_map.mp hp; exact (num_ok (h.2.2 n hn)).2.2.1)
  rw [List.length_map, tl_CM] at this
  exact this
/-! ### parts -/
inductive Ow
  | any | back | not | both | either
  | sum (m : Nat) (ws : List Nat) (g : Nat)
  | square (rows : List (List Nat)) (gs : List Nat)
  | faces (fs : List Str)
  | cut (a b : Nat)
def Ow.kind : Ow → Nat
  | .any => 0 | .back => 1 | .not => 2 | .both => 3 | .either => 4 | .sum .. => 5 | .square .. => 6 | .faces .. => 7 | .cut .. => 8
def wd : Nat → Str
  | 0 => "any" | 1 => "back" | 2 => "not" | 3 => "both" | 4 => "either" | 5 => "sum" | 6 => "square" | 7 => "faces" | _ => "cut"
def ar : Nat → Nat
  | 0 => 0 | 1 => 1 | 2 => 1 | 3 => 2 | 4 => 2 | 5 => 0 | 6 => 0 | 7 => 1 | _ => 1
def mn : Nat → Nat
  | 5 => 3 | 6 => 2 | 7 => 1 | 8 => 2 | _ => 0
abbrev Ow.word (o : Ow) : Str := wd o.kind
theorem Ow.kind_lt (o : Ow) : o.kind < 9 := by cases o <;> (show (_ : Nat) < 9; simp only [Ow.kind]; decide)
theorem wd_inj : ∀ i < 9, ∀ j < 9, wd i = wd j → i = j := by decide +kernel
theorem wd_ok : ∀ i < 9, 32 ∉ tl (wd i) ∧ (tl (wd i)).length ≤ 6 ∧ 1 ≤ (tl (wd i)).length := by decide +kernel
def Ow.words : Ow → List Str
  | .sum m ws g => [num m, commas ws, num g]
  | .square rows gs => [Txt.join SL (rows.map commas), commas gs]
  | .faces fs => [Txt.join CM fs]
  | .cut a b => [num a, num b]
  | _ => []
def sq (t : Bool) (ds : List PyData) : PyData := if t = true then .tuple ds else .list ds
def pn (n : Nat) : PyData := .int n
def Ow.data (t : Bool) : Ow → List PyData
  | .sum m ws g => [pn m, sq t (ws.map pn), pn g]
  | .square rows gs => [sq t (rows.map fun row => sq t (row.map pn)), sq t (gs.map pn)]
  | .faces fs => [sq t (fs.map .str)]
  | .cut a b => [pn a, pn b]
  | _ => []
def Face (f : Str) : Prop := 2 ≤ (tl f).length ∧ (tl f).length ≤ 12 ∧ ∀ c ∈ tl f, c ∈ tl ALL
def Row (r : List Nat) : Prop := 2 ≤ r.length ∧ r.length ≤ 12 ∧ ∀ x ∈ r, x ≤ 59
def Ow.ok : Ow → Prop
  | .sum m ws g => 2 ≤ m ∧ m ≤ 60 ∧ Nums 59 ws ∧ ws.length ≤ 8 ∧ g ≤ 59
  | .square rows gs => rows ≠ [] ∧ rows.length ≤ 60 ∧ (∀ r ∈ rows, Row r) ∧ Nums 59 gs
  | .faces fs => fs ≠ [] ∧ fs.length ≤ 4 ∧ ∀ f ∈ fs, Face f
  | .cut a b => a ≤ 3 ∧ b ≤ 3
  | _ => True
theorem Row.nums {r : List Nat} (h : Row r) : Nums 60 r := ⟨fun e => by rw [e] at h; exact absurd h.1 (by decide), by have := h.2.1; omega, fun n q => Nat.le_trans (h.2.2 n q) (by decide)⟩
theorem all_ge : ∀ c ∈ tl ALL, 48 ≤ c := by decide +kernel
theorem Face.no {f : Str} {c : Nat} (h : Face f) (hc : c < 48) : c ∉ tl f := fun q => by have := all_ge c (h.2.2 c q); omega
theorem Ow.words_len (o : Ow) : o.words.length = mn o.kind := by cases o <;> rfl
theorem Ow.data_len (t : Bool) (o : Ow) : (o.data t).length = mn o.kind := by cases o <;> rfl

theorem Ow.words_ok {o : Ow} (h : o.ok) : ∀ w ∈ o.words, 32 ∉ tl w ∧ (tl w).length ≤ 2500 := by
  cases o with
  | sum m ws g =>
    obtain ⟨h1, h2, h3, h4, h5⟩ := h
    have c := commas_len (h3.mono (by decide : 59 ≤ 60))
    intro w hw
    simp only [Ow.words, List.mem_cons, List.not_mem_nil, or_false] at hw
    rcases hw with rfl | rfl | rfl
    · exact ⟨num_no h2 (by decide), by have := (num_ok h2).2.2.1; omega⟩
    · exact ⟨commas_no (h3.mono (by decide)) (by decide) (by decide), by omega⟩
    · exact ⟨num_no (by omega) (by decide), by have := (num_ok (show g ≤ 60 by omega)).2.2.1; omega⟩
  | square rows gs =>
    obtain ⟨h1, h2, h3, h4⟩ := h
    intro w hw
    simp only [Ow.words, List.mem_cons, List.not_mem_nil, or_false] at hw
    rcases hw with rfl | rfl
    · refine ⟨fun q => ?_, ?_⟩
      · rcases mem_join q with q | ⟨p, hp, q⟩
        · rw [tl_SL] at q; simp at q
        · obtain ⟨r, hr, rfl⟩ := List.mem_map.mp hp
          exact commas_no (h3 r hr).nums (by decide) (by decide) q
      · have := len_join (y := SL) (b := 36) (ys := rows.map commas) (fun p hp => by
          obtain ⟨r, hr, rfl⟩ := List.mem_map.mp hp
          have a := commas_len (h3 r hr).nums
          have b := (h3 r hr).2.1
          omega)
        rw [List.length_map, tl_SL] at this
        simp only [List.length_cons, List.length_nil] at this
        omega
    · have c := commas_len (h4.mono (by decide : 59 ≤ 60))
      have := h4.2.1
      exact ⟨commas_no (h4.mono (by decide)) (by decide) (by decide), by omega⟩
  | faces fs =>
    obtain ⟨h1, h2, h3⟩ := h
    intro w hw
    simp only [Ow.words, List.mem_cons, List.not_mem_nil, or_false] at hw
    subst hw
    refine ⟨fun q => ?_, ?_⟩
    · rcases mem_join q with q | ⟨p, hp, q⟩
      · rw [tl_CM] at q; simp at q
      · exact (h3 p hp).no (by decide) q
    · have := len_join (y := CM) (b := 12) (ys := fs) (fun p hp => (h3 p hp).2.1)
      rw [tl_CM] at this
      simp only [List.length_cons, List.length_nil] at this
      omega
  | cut a b =>
    obtain ⟨h1, h2⟩ := h
    intro w hw
    simp only [Ow.words, List.mem_cons, List.not_mem_nil, or_false] at hw
    rcases hw with rfl | rfl
    · exact ⟨num_no (by omega) (by decide), by have := (num_ok (show a ≤ 60 by omega)).2.2.1; omega⟩
    · exact ⟨num_no (by omega) (by decide), by have := (num_ok (show b ≤ 60 by omega)).2.2.1; omega⟩
  | _ => intro w hw; simp [Ow.words] at hw
theorem rows_split {rows : List (List Nat)} (h1 : rows ≠ []) (h3 : ∀ r ∈ rows, Row r) : Txt.split (Txt.join SL (rows.map commas)) SL = rows.map commas :=
  spl_SL (fun e => h1 (List.map_eq_nil_iff.mp e)) fun y hy => by
    obtain ⟨r, hr, rfl⟩ := List.mem_map.mp hy
    exact commas_no47 (h3 r hr).nums
theorem faces_split {fs : List Str} (h1 : fs ≠ []) (h3 : ∀ f ∈ fs, Face f) : Txt.split (Txt.join CM fs) CM = fs := spl_CM h1 fun y hy => (h3 y hy).no (by decide)
theorem map_commas_inj : ∀ {xs ys : List (List Nat)}, (∀ r ∈ xs, Row r) → (∀ r ∈ ys, Row r) → xs.map commas = ys.map commas → xs = ys
  | [], [], _, _, _ => rfl
  | [], _ :: _, _, _, h => by simp at h
  | _ :: _, [], _, _, h => by simp at h
  | x :: xs, y :: ys, a, b, h => by
    rw [List.map_cons, List.map_cons] at h
    have h1 := (List.cons.inj h)
    rw [commas_inj (a x (List.mem_cons_self ..)).nums (b y (List.mem_cons_self ..)).nums h1.1, map_commas_inj (fun n q => a n (List.mem_cons_of_mem _ q)) (fun n q => b n (List.mem_cons_of_mem _ q)) h1.2]
theorem Ow.words_inj {o p : Ow} (ho : o.ok) (hp : p.ok) (k : o.kind = p.kind) (e : o.words = p.words) : o = p := by
  cases o <;> cases p <;> first
    | rfl
    | (exact absurd k (by simp only [Ow.kind]; decide))
    | skip
  · rename_i m ws g m' ws' g'
    simp only [Ow.words, List.cons.injEq, and_true] at e
    obtain ⟨h1, h2, h3, h4, h5⟩ := ho
    obtain ⟨k1, k2, k3, k4, k5⟩ := hp
    rw [num_inj h2 k2 e.1, commas_inj (h3.mono (by decide)) (k3.mono (by decide)) e.2.1, num_inj (by omega) (by omega) e.2.2]
  · rename_i rows gs rows' gs'
    simp only [Ow.words, List.cons.injEq, and_true] at e
    obtain ⟨h1, h2, h3, h4⟩ := ho
    obtain ⟨k1, k2, k3, k4⟩ := hp
    have a : rows.map commas = rows'.map commas := by rw [← rows_split h1 h3, ← rows_split k1 k3, e.1]
    rw [map_commas_inj h3 k3 a, commas_inj (h4.mono (by decide)) (k4.mono (by decide)) e.2]
  · rename_i fs fs'
    simp only [Ow.words, List.cons.injEq, and_true] at e
    have a : fs = fs' := by rw [← faces_split ho.1 ho.2.2, ← faces_split hp.1 hp.2.2, e]
    rw [a]
  · rename_i a b a' b'
    simp only [Ow.words, List.cons.injEq, and_true] at e
    have h1 := ho.1
    have h2 := ho.2
    have k1 := hp.1
    have k2 := hp.2
    rw [num_inj (by omega) (by omega) e.1, num_inj (by omega) (by omega) e.2]
/-! ### rules -/
inductive R
  | n0 (o : Ow) | n1 (o : Ow) (a : R) | n2 (o : Ow) (a b : R)
def R.ow : R → Ow
  | .n0 o => o | .n1 o _ => o | .n2 o _ _ => o
def R.inner : R → List R
  | .n0 _ => [] | .n1 _ a => [a] | .n2 _ a b => [a, b]
def R.ok : R → Prop
  | .n0 o => o.ok ∧ ar o.kind = 0 | .n1 o a => o.ok ∧ ar o.kind = 1 ∧ a.ok | .n2 o a b => o.ok ∧ ar o.kind = 2 ∧ a.ok ∧ b.ok
def R.words : R → List Str
  | .n0 o => o.word :: o.words
  | .n1 o a => o.word :: (o.words ++ a.words)
  | .n2 o a b => o.word :: (o.words ++ (a.words ++ b.words))
def R.data (t : Bool) : R → PyData
  | .n0 o => sq t (.str o.word :: o.data t)
  | .n1 o a => sq t (.str o.word :: (o.data t ++ [a.data t]))
  | .n2 o a b => sq t (.str o.word :: (o.data t ++ [a.data t, b.data t]))
def R.parts : R → Nat
  | .n0 _ => 1 | .n1 _ a => a.parts + 1 | .n2 _ a b => a.parts + b.parts + 1
def R.depth : R → Nat
  | .n0 _ => 1 | .n1 _ a => a.depth + 1 | .n2 _ a b => max a.depth b.depth + 1
theorem R.depth_le : ∀ r : R, r.depth ≤ r.parts
  | .n0 _ => Nat.le_refl _
  | .n1 _ a => Nat.succ_le_succ a.depth_le
  | .n2 _ a b => by have h1 := a.depth_le; have h2 := b.depth_le; show max a.depth b.depth + 1 ≤ a.parts + b.parts + 1; omega
theorem R.parts_pos : ∀ r : R, 1 ≤ r.parts
  | .n0 _ => Nat.le_refl _
  | .n1 _ a => Nat.succ_le_succ (Nat.zero_le _)
  | .n2 _ a b => Nat.succ_le_succ (Nat.zero_le _)
theorem R.ok_ow : ∀ {r : R}, r.ok → r.ow.ok
  | .n0 _, h => h.1
  | .n1 _ _, h => h.1
  | .n2 _ _ _, h => h.1
theorem R.ok_ar : ∀ {r : R}, r.ok → r.inner.length = ar r.ow.kind
  | .n0 _, h => h.2.symm
  | .n1 _ _, h => h.2.1.symm
  | .n2 _ _ _, h => h.2.1.symm
theorem R.ok_in : ∀ {r : R}, r.ok → ∀ i ∈ r.inner, i.ok
  | .n0 _, _, i, q => by simp [R.inner] at q
  | .n1 _ _, h, i, q => by simp only [R.inner, List.mem_cons, List.not_mem_nil, or_false] at q; rw [q]; exact h.2.2
  | .n2 _ _ _, h, i, q => by
    simp only [R.inner, List.mem_cons, List.not_mem_nil, or_false] at q
    rcases q with rfl | rfl
    · exact h.2.2.1
    · exact h.2.2.2
theorem R.in_depth : ∀ {r : R}, ∀ i ∈ r.inner, i.depth + 1 ≤ r.depth
  | .n0 _, i, q => by simp [R.inner] at q
  | .n1 _ a, i, q => by simp only [R.inner, List.mem_cons, List.not_mem_nil, or_false] at q; rw [q]; exact Nat.le_refl _
  | .n2 _ a b, i, q => by
    simp only [R.inner, List.mem_cons, List.not_mem_nil, or_false] at q
    show i.depth + 1 ≤ max a.depth b.depth + 1
    rcases q with rfl | rfl <;> omega
theorem R.words_eq : ∀ r : R, r.words = r.ow.word :: (r.ow.words ++ (r.inner.map R.words).flatten)
  | .n0 o => by simp [R.words, R.ow, R.inner]
  | .n1 o a => by simp [R.words, R.ow, R.inner]
  | .n2 o a b => by simp [R.words, R.ow, R.inner]
theorem R.data_eq (t : Bool) : ∀ r : R, r.data t = sq t (.str r.ow.word :: (r.ow.data t ++ r.inner.map (R.data t)))
  | .n0 o => by simp [R.data, R.ow, R.inner]
  | .n1 o a => by simp [R.data, R.ow, R.inner]
  | .n2 o a b => by simp [R.data, R.ow, R.inner]
theorem R.parts_eq : ∀ r : R, r.parts = (r.inner.map R.parts).sum + 1
  | .n0 o => rfl
  | .n1 o a => by simp [R.parts, R.inner]
  | .n2 o a b => by simp [R.parts, R.inner]
theorem mn_le (k : Nat) : mn k ≤ 3 := by
  unfold mn
  split <;> decide
theorem R.words_len : ∀ r : R, r.words.length ≤ 4 * r.parts
  | .n0 o => by have := mn_le o.kind; simp only [R.words, R.parts, List.length_cons, Ow.words_len]; omega
  | .n1 o a => by have := mn_le o.kind; have := a.words_len; simp only [R.words, R.parts, List.length_cons, List.length_append, Ow.words_len]; omega
  | .n2 o a b => by have := mn_le o.kind; have := a.words_len; have := b.words_len; simp only [R.words, R.parts, List.length_cons, List.length_append, Ow.words_len]; omega
theorem R.words_ok : ∀ {r : R}, r.ok → ∀ w ∈ r.words, 32 ∉ tl w ∧ (tl w).length ≤ 2500
  | .n0 o, h, w, q => by
    have hw := wd_ok o.kind o.kind_lt
    simp only [R.words, List.mem_cons] at q
    rcases q with rfl | q
    · exact ⟨hw.1, Nat.le_trans hw.2.1 (by decide)⟩
    · exact Ow.words_ok h.1 w q
  | .n1 o a, h, w, q => by
    have hw := wd_ok o.kind o.kind_lt
    simp only [R.words, List.mem_cons, List.mem_append] at q
    rcases q with rfl | q | q
    · exact ⟨hw.1, Nat.le_trans hw.2.1 (by decide)⟩
    · exact Ow.words_ok h.1 w q
    · exact R.words_ok h.2.2 w q
  | .n2 o a b, h, w, q => by
    have hw := wd_ok o.kind o.kind_lt
    simp only [R.words, List.mem_cons, List.mem_append] at q
    rcases q with rfl | q | q | q
    · exact ⟨hw.1, Nat.le_trans hw.2.1 (by decide)⟩
    · exact Ow.words_ok h.1 w q
    · exact R.words_ok h.2.2.1 w q
    · exact R.words_ok h.2.2.2 w q
theorem R.words_ne (r : R) : r.words ≠ [] := by rw [r.words_eq]; simp
def R.text (r : R) : Str := Txt.join SP r.words
theorem R.split {r : R} (h : r.ok) : Txt.split r.text SP = r.words := spl_SP r.words_ne fun w q => (R.words_ok h w q).1
theorem R.text_len {r : R} (h : r.ok) : (tl r.text).length ≤ 10004 * r.parts := by
  have a := len_join (y := SP) (b := 2500) (ys := r.words) fun w q => (R.words_ok h w q).2
  rw [tl_SP] at a
  have b := r.words_len
  have c : (tl r.text).length ≤ r.words.length * (2500 + 1) := a
  omega
/-- the words tell the rule -/
theorem R.words_pre : ∀ {r s : R} {x y : List Str}, r.ok → s.ok → r.words ++ x = s.words ++ y → r = s ∧ x = y := by
  have kd : ∀ {o p : Ow} {x y : List Str}, o.ok → p.ok → o.word :: (o.words ++ x) = p.word :: (p.words ++ y) → o = p ∧ x = y := by
    intro o p x y ho hp e
    have e1 := List.cons.inj e
    have k := wd_inj _ o.kind_lt _ p.kind_lt e1.1
    have l : o.words.length = p.words.length := by rw [o.words_len, p.words_len, k]
    have e2 := List.append_inj e1.2 l
    exact ⟨Ow.words_inj ho hp k e2.1, e2.2⟩
  have sh : ∀ r : R, ∀ z : List Str, r.words ++ z = r.ow.word :: (r.ow.words ++ ((r.inner.map R.words).flatten ++ z)) := fun r z => by rw [r.words_eq]; simp
  intro r
  induction r with
  | n0 o =>
    intro s x y hr hs e
    rw [sh, sh] at e
    have k := kd hr.1 (R.ok_ow hs) e
    have a := R.ok_ar hs
    rw [← k.1, hr.2] at a
    cases s with
    | n0 p => exact ⟨by rw [show o = p from k.1], k.2⟩
    | n1 p c => simp [R.inner] at a
    | n2 p c d => simp [R.inner] at a
  | n1 o c ih =>
    intro s x y hr hs e
    rw [sh, sh] at e
    have k := kd hr.1 (R.ok_ow hs) e
    have a := R.ok_ar hs
    rw [← k.1, hr.2.1] at a
    cases s with
    | n0 p => simp [R.inner] at a
    | n1 p d =>
      have k2 : c.words ++ x = d.words ++ y := by simpa [R.inner] using k.2
      have q := ih hr.2.2 hs.2.2 k2
      exact ⟨by rw [show o = p from k.1, q.1], q.2⟩
    | n2 p c d => simp [R.inner] at a
  | n2 o c d ihc ihd =>
    intro s x y hr hs e
    rw [sh, sh] at e
    have k := kd hr.1 (R.ok_ow hs) e
    have a := R.ok_ar hs
    rw [← k.1, hr.2.1] at a
    cases s with
    | n0 p => simp [R.inner] at a
    | n1 p d => simp [R.inner] at a
    | n2 p c' d' =>
      have k2 : c.words ++ (d.words ++ x) = c'.words ++ (d'.words ++ y) := by simpa [R.inner] using k.2
      have q := ihc hr.2.2.1 hs.2.2.1 k2
      have q2 := ihd hr.2.2.2 hs.2.2.2 q.2
      exact ⟨by rw [show o = p from k.1, q.1, q2.1], q2.2⟩
theorem R.text_inj {r s : R} (hr : r.ok) (hs : s.ok) (e : r.text = s.text) : r = s :=
  (R.words_pre (x := []) (y := []) hr hs (by rw [List.append_nil, List.append_nil, ← R.split hr, ← R.split hs, e])).1
/-! ### data that are equal are the same -/
mutual
def pure : PyData → Bool
  | .none => true
  | .int _ => true
  | .str _ => true
  | .tuple ds => pureA ds
  | _ => false
def pureA : List PyData → Bool
  | [] => true
  | d :: ds => pure d && pureA ds
end
mutual
theorem eqv_pure : ∀ (d e : PyData), pure d = true → PyData.eqv d e = true → pure e = true → d = e
  | .int i, e, _, h, q => by cases e <;> simp_all [PyData.eqv, pure]
  | .str i, e, _, h, q => by cases e <;> simp_all [PyData.eqv, pure]
  | .tuple ds, e, p, h, q => by
    cases e with
    | tuple es => rw [eqvA_pure ds es (by simpa [pure] using p) (by simpa [PyData.eqv] using h) (by simpa [pure] using q)]
    | _ => simp_all [PyData.eqv, pure]
  | .none, e, _, h, q => by cases e <;> simp_all [PyData.eqv, pure]
  | .bool _, _, p, _, _ => by simp [pure] at p
  | .list _, _, p, _, _ => by simp [pure] at p
  | .dict _, _, p, _, _ => by simp [pure] at p
theorem eqvA_pure : ∀ (ds es : List PyData), pureA ds = true → PyData.eqvAll ds es = true → pureA es = true → ds = es
  | [], [], _, _, _ => rfl
  | [], _ :: _, _, h, _ => by simp [PyData.eqvAll] at h
  | _ :: _, [], _, h, _ => by simp [PyData.eqvAll] at h
  | d :: ds, e :: es, p, h, q => by
    simp only [pureA, Bool.and_eq_true] at p q
    simp only [PyData.eqvAll, Bool.and_eq_true] at h
    rw [eqv_pure d e p.1 h.1 q.1, eqvA_pure ds es p.2 h.2 q.2]
end
theorem pureA_iff : ∀ {ds : List PyData}, pureA ds = true ↔ ∀ d ∈ ds, pure d = true
  | [] => by simp [pureA]
  | d :: ds => by simp [pureA, pureA_iff]
theorem pure_nums (ns : List Nat) : pureA (ns.map pn) = true := pureA_iff.mpr fun d hd => by obtain ⟨n, _, rfl⟩ := List.mem_map.mp hd; rfl
theorem Ow.pure (o : Ow) : pureA (o.data true) = true := by
  cases o <;> simp only [Ow.data, pureA, sq, if_true, pn, K4.pure, pure_nums, Bool.and_true, Bool.true_and]
  · exact pureA_iff.mpr fun d hd => by obtain ⟨r, _, rfl⟩ := List.mem_map.mp hd; exact pure_nums r
  · exact pureA_iff.mpr fun d hd => by obtain ⟨r, _, rfl⟩ := List.mem_map.mp hd; rfl
theorem pureA_app {xs ys : List PyData} (h : pureA xs = true) (k : pureA ys = true) : pureA (xs ++ ys) = true :=
  pureA_iff.mpr fun d hd => by rcases List.mem_append.mp hd with q | q; exact pureA_iff.mp h d q; exact pureA_iff.mp k d q
theorem R.pure : ∀ r : R, K4.pure (r.data true) = true
  | .n0 o => by simpa [R.data, sq, K4.pure, pureA] using o.pure
  | .n1 o a => by simpa [R.data, sq, K4.pure, pureA] using pureA_app o.pure (by simpa [pureA] using a.pure)
  | .n2 o a b => by simpa [R.data, sq, K4.pure, pureA] using pureA_app o.pure (by simpa [pureA] using ⟨a.pure, b.pure⟩)

theorem pn_inj : ∀ {a b : Nat}, pn a = pn b → a = b := fun h => by
  have := PyData.int.inj h
  omega
theorem mapinj {α β : Type} {f : α → β} (hf : ∀ {a b}, f a = f b → a = b) : ∀ {xs ys : List α}, xs.map f = ys.map f → xs = ys
  | [], [], _ => rfl
  | [], _ :: _, h => by simp at h
  | _ :: _, [], h => by simp at h
  | x :: xs, y :: ys, h => by
    rw [List.map_cons, List.map_cons] at h
    have h1 := (List.cons.inj h)
    rw [hf h1.1, mapinj hf h1.2]
theorem Ow.data_inj {o p : Ow} (k : o.kind = p.kind) (e : o.data true = p.data true) : o = p := by
  cases o <;> cases p <;> first
    | rfl
    | (exact absurd k (by simp only [Ow.kind]; decide))
    | skip
  · simp only [Ow.data, sq, if_true, List.cons.injEq, and_true, PyData.tuple.injEq] at e
    rw [pn_inj e.1, mapinj pn_inj e.2.1, pn_inj e.2.2]
  · simp only [Ow.data, sq, if_true, List.cons.injEq, and_true, PyData.tuple.injEq] at e
    rw [mapinj (fun h => mapinj pn_inj (PyData.tuple.inj h)) e.1, mapinj pn_inj e.2]
  · simp only [Ow.data, sq, if_true, List.cons.injEq, and_true, PyData.tuple.injEq] at e
    rw [mapinj (fun h => PyData.str.inj h) e]
  · simp only [Ow.data, List.cons.injEq, and_true] at e
    rw [pn_inj e.1, pn_inj e.2]
theorem R.data_inj : ∀ {r s : R}, r.ok → s.ok → r.data true = s.data true → r = s := by
  have kd : ∀ {o p : Ow} {x y : List PyData}, PyData.tuple (.str o.word :: (o.data true ++ x)) = .tuple (.str p.word :: (p.data true ++ y)) → o = p ∧ x = y := by
    intro o p x y e
    have e1 := List.cons.inj (PyData.tuple.inj e)
    have k := wd_inj _ o.kind_lt _ p.kind_lt (PyData.str.inj e1.1)
    have l : (o.data true).length = (p.data true).length := by rw [o.data_len, p.data_len, k]
    have e2 := List.append_inj e1.2 l
    exact ⟨Ow.data_inj k e2.1, e2.2⟩
  have sh : ∀ r : R, r.data true = .tuple (.str r.ow.word :: (r.ow.data true ++ r.inner.map (R.data true))) := fun r => by rw [r.data_eq]; rfl
  intro r
  induction r with
  | n0 o =>
    intro s hr hs e
    rw [sh, sh] at e
    have k := kd e
    have a := R.ok_ar hs
    rw [← k.1] at a
    cases s with
    | n0 p => exact by rw [show o = p from k.1]
    | n1 p c => exact absurd k.2 (by simp [R.inner])
    | n2 p c d => exact absurd k.2 (by simp [R.inner])
  | n1 o c ih =>
    intro s hr hs e
    rw [sh, sh] at e
    have k := kd e
    cases s with
    | n0 p => exact absurd k.2 (by simp [R.inner])
    | n1 p d =>
      have k2 : c.data true = d.data true := by simpa [R.inner] using k.2
      rw [show o = p from k.1, ih hr.2.2 hs.2.2 k2]
    | n2 p c d => exact absurd k.2 (by simp [R.inner])
  | n2 o c d ihc ihd =>
    intro s hr hs e
    rw [sh, sh] at e
    have k := kd e
    cases s with
    | n0 p => exact absurd k.2 (by simp [R.inner])
    | n1 p d => exact absurd k.2 (by simp [R.inner])
    | n2 p c' d' =>
      have k2 : c.data true = c'.data true ∧ d.data true = d'.data true := by simpa [R.inner] using k.2
      rw [show o = p from k.1, ihc hr.2.2.1 hs.2.2.1 k2.1, ihd hr.2.2.2 hs.2.2.2 k2.2]
mutual
def flatN : PyData → Bool
  | .none => true
  | .int _ => true
  | .str z => PyData.strOk z
  | .tuple ds => flatA ds
  | .list ds => flatA ds
  | _ => false
def flatA : List PyData → Bool
  | [] => true
  | d :: ds => flatN d && flatA ds
end
mutual
theorem canLay_flat : ∀ d : PyData, flatN d = true → PyData.canLay0 d = true
  | .int _, _ => by simp [PyData.canLay0]
  | .str _, h => by simpa [PyData.canLay0, flatN] using h
  | .tuple ds, h => by rw [PyData.canLay0]; exact canLayA_flat ds (by simpa [flatN] using h)
  | .list ds, h => by rw [PyData.canLay0]; exact canLayA_flat ds (by simpa [flatN] using h)
  | .none, _ => by simp [PyData.canLay0]
  | .bool _, h => by simp [flatN] at h
  | .dict _, h => by simp [flatN] at h
theorem canLayA_flat : ∀ ds : List PyData, flatA ds = true → PyData.canLayAll0 ds = true
  | [], _ => by simp [PyData.canLayAll0]
  | d :: ds, h => by
    simp only [flatA, Bool.and_eq_true] at h
    rw [PyData.canLayAll0, canLay_flat d h.1, canLayA_flat ds h.2]
    rfl
end

theorem flatA_iff : ∀ {ds : List PyData}, flatA ds = true ↔ ∀ d ∈ ds, flatN d = true
  | [] => by simp [flatA]
  | d :: ds => by simp [flatA, flatA_iff]
theorem depthA_le {n : Nat} : ∀ {ds : List PyData}, (∀ d ∈ ds, d.depth ≤ n) → PyData.depthAll ds ≤ n
  | [], _ => Nat.zero_le _
  | d :: ds, h => by
    rw [PyData.depthAll]
    have := h d (List.mem_cons_self ..)
    have := depthA_le fun e q => h e (List.mem_cons_of_mem _ q)
    omega
theorem flat_sq {t : Bool} {ds : List PyData} (h : ∀ d ∈ ds, flatN d = true) : flatN (sq t ds) = true := by
  cases t <;> exact flatA_iff.mpr h
theorem depth_sq {t : Bool} {ds : List PyData} {n : Nat} (h : ∀ d ∈ ds, d.depth ≤ n) : (sq t ds).depth ≤ n + 1 := by
  cases t <;> exact Nat.succ_le_succ (depthA_le h)
theorem mem_map_pn {ns : List Nat} {d : PyData} (h : d ∈ ns.map pn) : flatN d = true ∧ d.depth ≤ 0 := by
  obtain ⟨n, _, rfl⟩ := List.mem_map.mp h
  exact ⟨rfl, Nat.le_refl _⟩
end K4

/-! HdG -/
/-! What the top left, read by one kernel run: tables, tuples, errors with an own __init__. -/
namespace Hd
open PySem PySem.Spec PyProof.Rows L2 He
/-! ### a def that names __class__ -/
abbrev FnL : Type := Option (Str × Str × Arguments × FuncBody × Scope × Addr × List Str × Value × Addr)
def fnL (K : PySem.W.Frag) (p : Str × Option Str) : FnL := match K.lookup (fAd K p) with
  | some ⟨_, _, .func fd, _⟩ => some (fd.name, fd.qualname, fd.params, fd.body, fd.scope, fd.globals, fd.closure.map (·.1), fd.defaults, fd.builtins)
  | _ => none
structure DefC where
  at_ : Str × Option Str
  qual : Str
  params : Arguments
  body : List Stmt
  scope : Scope
def DefC.val (d : DefC) : FnL := some ("__init__", d.qual, d.params, .stmts d.body, d.scope, mainGlobals, ["__class__"], .none, builtinsNs)
/-- its code's file is the program's, its cell holds the class -/
def initB (P : Program) (K : PySem.W.Frag) (p : Str × Option Str) (q : Str) (C : Addr) : Bool := match K.lookup (fAd K p) with
  | some ⟨_, _, .func fd, _⟩ => (match fd.code, fd.closure with
    | .ref cda, [(_, cc)] => PySem.W.codeIn K (.ref cda) q && ((match K.lookup cda with
      | some ⟨_, _, .fields vs, _⟩ => (match (vs[2]? : Option Value) with
        | some (.str f _) => P.main.file == f
        | _ => false)
      | _ => false) && (match K.lookup cc with
      | some ⟨_, _, .cell (some (.ref C')), _⟩ => decide (C' = C)
      | _ => false))
    | _, _ => false)
  | _ => false
theorem init_ok {P : Program} {K : PySem.W.Frag} {d : DefC} {C : Addr} (e : fnL K d.at_ = d.val) (c : initB P K d.at_ d.qual C = true) :
    ∃ (oc : Value) (od : Option Addr) (kV doc pm : Value) (an : Option Addr) (ct : Value) (osl : Array (Option Value)) (cda cc : Addr) (ccl : Value) (cdd : Option Addr) (vs : Array Value) (ccs : Array (Option Value)) (file : Str) (tf : Tok) (cl : Value) (cld : Option Addr) (csl : Array (Option Value)),
      K.lookup (fAd K d.at_) = some ⟨oc, od, .func (PySem.W.ksFn "__init__" d.qual d.params d.body d.scope .none kV doc pm an (.ref cda) ct cc), osl⟩ ∧ PySem.W.codeIn K (.ref cda) d.qual = true ∧
      K.lookup cda = some ⟨ccl, cdd, .fields vs, ccs⟩ ∧ vs[2]? = some (.str file tf) ∧ (P.main.file == file) = true ∧ K.lookup cc = some ⟨cl, cld, .cell (some (.ref C)), csl⟩ := by
  unfold fnL at e
  unfold initB at c
  cases q : K.lookup (fAd K d.at_) with
  | none => rw [q] at c; cases c
  | some o =>
    obtain ⟨oc, od, dt, osl⟩ := o
    rw [q] at c e
    cases dt with
    | func fd =>
      obtain ⟨n1, n2, n3, n4, n5, n6, n7, n8, n9, n10, n11, n12, n13, n14, n15⟩ := fd
      have e2 : (some (n1, n2, n3, n4, n5, n6, n7.map (·.1), n8, n15) : FnL) = DefC.val d := e
      unfold DefC.val at e2
      simp only [Option.some.injEq, Prod.mk.injEq] at e2
      obtain ⟨h1, h2, h3, h4, h5, h6, h7, h8, h9⟩ := e2
      subst h1 h2 h3 h4 h5 h6 h8 h9
      cases n13 with
      | ref cda =>
        match n7, h7 with
        | [(k, cc)], h7 =>
          have hk : k = "__class__" := by simpa using h7
          subst hk
          obtain ⟨c1, c⟩ := ba (show (PySem.W.codeIn K (.ref cda) d.qual && ((match K.lookup cda with
            | some ⟨_, _, .fields vs, _⟩ => (match (vs[2]? : Option Value) with
              | some (.str f _) => P.main.file == f
              | _ => false)
            | _ => false) && (match K.lookup cc with
            | some ⟨_, _, .cell (some (.ref C')), _⟩ => decide (C' = C)
            | _ => false))) = true from c)
          obtain ⟨c2, c3⟩ := ba c
          cases q2 : K.lookup cda with
          | none => rw [q2] at c2; cases c2
          | some o2 =>
            obtain ⟨ccl, cdd, dt2, ccs⟩ := o2
            rw [q2] at c2
            cases dt2 with
            | fields vs =>
              have c2' : (match (vs[2]? : Option Value) with
                | some (.str f _) => P.main.file == f
                | _ => false) = true := c2
              cases q4 : vs[2]? with
              | none => rw [q4] at c2'; cases c2'
              | some u =>
                rw [q4] at c2'
                cases u with
                | str file tf =>
                  cases q3 : K.lookup cc with
                  | none => rw [q3] at c3; cases c3
                  | some o3 =>
                    obtain ⟨cl, cld, dt3, csl⟩ := o3
                    rw [q3] at c3
                    cases dt3 with
                    | cell v =>
                      cases v with
                      | none => cases c3
                      | some v =>
                        cases v with
                        | ref C' =>
                          have e3 : C' = C := of_decide_eq_true c3
                          subst e3
                          exact ⟨oc, od, n9, n10, n11, n12, n14, osl, cda, cc, ccl, cdd, vs, ccs, file, tf, cl, cld, csl, rfl, c1, q2, q4, c2', q3⟩
                        | _ => cases c3
                    | _ => cases c3
                | _ => cases c2'
            | _ => cases c2
        | [], h7 => simp at h7
        | _ :: _ :: _, h7 => simp at h7
      | _ => cases c
    | _ => cases c
/-- a class over ValueError, with an own __init__ -/
def oexB (K : PySem.W.Frag) (C : Addr) : Bool := (match K.lookup C with
  | some ⟨.type "type", _, .cls cd, sl⟩ => (match cd.mro, sl.toList with
    | .ref C' :: bm, [_, _, _, _, some (.builtin n), _] => C' == C && (n == "ValueError.__new__" && (!cd.hasDel && (PySem.HandSPX.refsVE bm && cd.hasDict)))
    | _, _ => false)
  | _ => false) && (eqO (PySem.W.findIn K (.ref C) "__setattr__") (some (some (.builtin "object.__setattr__"))) && (decide (PySem.W.subIn K (.ref C) (.type "BaseException") = some true) && (decide (PySem.W.typeIn K (.ref C) = some (.type "type")) && PySem.W.keepIn K (.ref C))))
theorem oexB_ok {K : PySem.W.Frag} {C : Addr} (h : oexB K C = true) : OexC K C := by
  obtain ⟨h0, h⟩ := ba h
  obtain ⟨h1, h⟩ := ba h
  obtain ⟨h2, h⟩ := ba h
  obtain ⟨h3, h4⟩ := ba h
  refine ⟨?_, eqO_ok h1, of_decide_eq_true h2, of_decide_eq_true h3, h4⟩
  split at h0
  · rename_i dd cd sl ho
    split at h0
    · rename_i C' bm k0 k1 k2 k3 n k5 hm hs
      simp only [Bool.and_eq_true, beq_iff_eq, Bool.not_eq_true'] at h0
      obtain ⟨rfl, rfl, hdel, hr, hd⟩ := h0
      obtain ⟨nm, bs, mro, ns, qn, hdc, sn, sub, ab, col, del⟩ := cd
      dsimp only at hm hdel hd
      subst hm hdel hd
      have hsl : sl = #[k0, k1, k2, k3, some (.builtin "ValueError.__new__"), k5] := by
        obtain ⟨l⟩ := sl
        simp only at hs
        rw [hs]
      subst hsl
      exact ⟨nm, qn, ns, bs, bm, sn, sub, ab, col, dd, k0, k1, k2, k3, k5, ho, hr⟩
    · cases h0
  · cases h0
def excB (K : PySem.W.Frag) (D : Addr) : Bool := decide (PySem.W.findIn K (.ref D) "__getattribute__" = some (some (.builtin "BaseException.__getattribute__"))) && (decide (PySem.W.findIn K (.ref D) "__getattr__" = some none) && (decide (PySem.W.subIn K (.ref D) (.type "BaseException") = some true) && (PySem.W.hasDictIn K D &&
  (decide (PySem.W.findIn K (.ref D) "__class__" = some (some (.builtin "object.__class__"))) && (decide (PySem.W.specialIn K (.builtin "object.__class__") "__get__" = some (some (.builtin "getset_descriptor.__get__"))) && (decide (PySem.W.takesIn K (.builtin "object.__class__") = some true) && decide (PySem.W.mroIn K D (.type "object") = some true)))))))
theorem excB_ok {K : PySem.W.Frag} {D : Addr} (h : excB K D = true) : ExcC K D := by
  obtain ⟨h1, h⟩ := ba h
  obtain ⟨h2, h⟩ := ba h
  obtain ⟨h3, h⟩ := ba h
  obtain ⟨h4, h⟩ := ba h
  obtain ⟨h5, h⟩ := ba h
  obtain ⟨h6, h⟩ := ba h
  obtain ⟨h7, h8⟩ := ba h
  exact ⟨of_decide_eq_true h1, of_decide_eq_true h2, of_decide_eq_true h3, h4, of_decide_eq_true h5, of_decide_eq_true h6, of_decide_eq_true h7, of_decide_eq_true h8⟩
/-- what super().__init__ asks of the class -/
def supB (K : PySem.W.Frag) (C : Addr) : Bool := decide (PySem.W.ks_superIn K C C "__init__" = some (some (.builtin "ValueError.__init__"))) && (decide (PySem.W.mroIn K C (.ref C) = some true) && decide (PySem.W.subIn K (.ref C) (.type "ValueError") = some true))
theorem supB_ok {K : PySem.W.Frag} {C : Addr} (h : supB K C = true) : PySem.W.ks_superIn K C C "__init__" = some (some (.builtin "ValueError.__init__")) ∧ PySem.W.mroIn K C (.ref C) = some true ∧ PySem.W.subIn K (.ref C) (.type "ValueError") = some true := by
  obtain ⟨h1, h⟩ := ba h
  obtain ⟨h2, h3⟩ := ba h
  exact ⟨of_decide_eq_true h1, of_decide_eq_true h2, of_decide_eq_true h3⟩
def kitB1 (K : PySem.W.Frag) (C a : Addr) (b : Bool) : Bool := decide (PySem.W.kitOne K (.ref C) (.ref a) = some b)
/-! ### tuples, tables -/
def tupAtB (K : PySem.W.Frag) (a : Addr) (vs : List Str) : Bool := match K.lookup a with
  | some ⟨.type c, _, .seq its _, _⟩ => decide (c = "tuple") && (decide (its.size ≤ sizeLine) && relAll (vs.map V.str) its.toList)
  | _ => false
theorem tupAtB_ok {K : PySem.W.Frag} {a : Addr} {vs : List Str} (h : tupAtB K a vs = true) (H : Hp) : SqT K H a (vs.map V.str) := by
  unfold tupAtB at h
  cases q : K.lookup a with
  | none => rw [q] at h; cases h
  | some o =>
    obtain ⟨oc, od, dt, osl⟩ := o
    rw [q] at h
    cases oc with
    | type c =>
      cases dt with
      | seq its n =>
        obtain ⟨h1, h2⟩ := ba (show (decide (c = "tuple") && (decide (its.size ≤ sizeLine) && relAll (vs.map V.str) its.toList)) = true from h)
        obtain ⟨h3, h4⟩ := ba h2
        exact .inr ⟨_, its, n, q, congrArg Value.type (of_decide_eq_true h1), rfl, of_decide_eq_true h3, relAll_ok h4⟩
      | _ => cases h
    | _ => cases dt <;> cases h
def dAt (K : PySem.W.Frag) (d : Addr) (x : Str) : Addr := match PySem.W.nsIn K d x with
  | some (some (.ref a)) => a
  | _ => 0
theorem keys_vals {P : Params} : ∀ {l : List DictEntry} {ks : List Str}, l.map keyOf = keysIn P ks → Vals (ks.map V.str) (l.map (·.key))
  | [], [], _ => .nil
  | [], _ :: _, h => by cases h
  | e :: r, [], h => by cases h
  | e :: r, k :: ks, h => by
    have h1 : keyOf e :: r.map keyOf = some (k, PyData.keyHash P k) :: keysIn P ks := h
    injection h1 with h2 h3
    refine .cons ?_ (keys_vals h3)
    unfold keyOf at h2
    split at h2
    · rename_i x t q
      have h4 := Option.some.inj h2
      obtain ⟨h5, h6⟩ := Prod.mk.inj h4
      exact ⟨t, by show e.key = _; rw [q, h5]⟩
    · cases h2
theorem dicW_keys {K : PySem.W.Frag} {w : World} {a : Addr} {ks : List Str} (h : dicW K a = some (keysIn w.params ks)) {es : Array DictEntry} {n : Nat} (q : K.lookup a = some ⟨.type "dict", none, .dict es n, #[]⟩) : Vals (ks.map V.str) (es.toList.map (·.key)) := by
  unfold dicW at h
  rw [q] at h
  have h1 : (match decide ("dict" = "dict") && ((#[] : Array (Option Value)).isEmpty && !(a == sysModules)) with
    | true => some (es.toList.map keyOf)
    | false => none) = some (keysIn w.params ks) := h
  cases z : decide ("dict" = "dict") && ((#[] : Array (Option Value)).isEmpty && !(a == sysModules)) with
  | false => rw [z] at h1; cases h1
  | true =>
    rw [z] at h1
    exact keys_vals (Option.some.inj h1)
def allB (K : PySem.W.Frag) (a : Addr) (f : DictEntry → Bool) : Bool := match K.lookup a with
  | some ⟨_, _, .dict es _, _⟩ => es.toList.all f
  | _ => false
theorem allB_ok {K : PySem.W.Frag} {a : Addr} {f : DictEntry → Bool} (h : allB K a f = true) {es : Array DictEntry} {n : Nat} (q : K.lookup a = some ⟨.type "dict", none, .dict es n, #[]⟩) : es.toList.all f = true := by
  unfold allB at h
  rw [q] at h
  exact h
/-! ### the Hook -/
/-- what an object names: no more than the facts ask for -/
def ref1 (o : Obj) : List Addr := match o.data with
  | .dict es _ => es.toList.flatMap fun e => refV e.val
  | .func fd => refV fd.code ++ fd.closure.map (·.2)
  | .cls cd => [cd.ns]
  | _ => []
def lv (g : Addr → Option Obj) (as : List Addr) : List Addr := as.flatMap fun a => match g a with
  | some o => ref1 o
  | none => []
/-- the list, worked out ahead of what follows -/
def frL {α : Type} : List Addr → (List Addr → α) → α
  | [], k => k []
  | a :: r, k => HandSHeadRun.frNat a fun a => frL r fun r => k (a :: r)
theorem frL_eq {α : Type} : ∀ (l : List Addr) (k : List Addr → α), frL l k = k l
  | [], _ => rfl
  | a :: r, k => by
    show HandSHeadRun.frNat a (fun a => frL r fun r => k (a :: r)) = _
    rw [HandSHeadRun.frNat_eq, frL_eq r]
/-- the objects at these places, worked out ahead of what follows -/
def mkK {α : Type} (g : Addr → Option Obj) : List Addr → (PySem.W.Frag → α) → α
  | [], k => k []
  | a :: r, k => match g a with
    | some o => mkK g r fun K => k ((a, o) :: K)
    | none => mkK g r k
theorem mkK_eq {α : Type} (g : Addr → Option Obj) : ∀ (l : List Addr) (k : PySem.W.Frag → α), mkK g l k = k (frG g l)
  | [], _ => rfl
  | a :: r, k => by
    unfold mkK frG
    rw [List.filterMap_cons]
    cases e : g a with
    | none => exact mkK_eq g r k
    | some o => exact mkK_eq g r fun K => k ((a, o) :: K)
abbrev AlY : Type := AlT × Bool × List FnL
def obsYK (fa : List Fa) (fn : List DefD) (ts : List Tab) (ex : PySem.W.Frag → Bool) (fc : List DefC) (K : PySem.W.Frag) : AlY := (obsT fa fn ts K, ex K, fc.map fun d => fnL K d.at_)
def valY (fn : List DefD) (ts : List Tab) (fc : List DefC) (w : World) : AlY := (valT fn ts w, true, fc.map DefC.val)
def obsY (fa : List Fa) (fn : List DefD) (ts : List Tab) (ex : PySem.W.Frag → Bool) (fc : List DefC) (g : Addr → Option Obj) : AlY :=
  frL (lv g [mainGlobals]) fun l1 => frL (lv g l1) fun l2 => frL (lv g l2) fun l3 => frL (lv g l3) fun l4 => mkK g (mainGlobals :: cStatics :: (l1 ++ (l2 ++ (l3 ++ l4)))) fun K => obsYK fa fn ts ex fc K
theorem obsY_at (fa : List Fa) (fn : List DefD) (ts : List Tab) (ex : PySem.W.Frag → Bool) (fc : List DefC) (g : Addr → Option Obj) : ∃ as, obsY fa fn ts ex fc g = obsYK fa fn ts ex fc (frG g as) := by
  unfold obsY
  rw [frL_eq, frL_eq, frL_eq, frL_eq, mkK_eq]
  exact ⟨_, rfl⟩
def SaysY (fa : List Fa) (fn : List DefD) (ts : List Tab) (ex : PySem.W.Frag → Bool) (fc : List DefC) (w : World) (K : PySem.W.Frag) : Prop := obsYK fa fn ts ex fc K = valY fn ts fc w
def hookY (fa : List Fa) (fn : List DefD) (ts : List Tab) (ex : PySem.W.Frag → Bool) (fc : List DefC) : PySem.W.Hook where
  α := AlY
  obs := fun s => obsY fa fn ts ex fc s.heap.get?
  val := fun w => valY fn ts fc w
  says := fun w h => ∃ K : PySem.W.Frag, K.In h ∧ SaysY fa fn ts ex fc w K
  of := fun _ s e => by
    obtain ⟨as, q⟩ := obsY_at fa fn ts ex fc s.heap.get?
    exact ⟨_, frG_in, q.symm.trans e⟩
  keeps := fun _ _ _ ⟨K, hK, c⟩ k => ⟨K, PySem.W.Frag.In.keeps hK k, c⟩
theorem obsY_eq {fa : List Fa} {fn : List DefD} {ts : List Tab} {ex : PySem.W.Frag → Bool} {fc : List DefC} {g : Addr → Option Obj} {s : Shared} (h : ∀ a, g a = s.heap.get? a) : obsY fa fn ts ex fc g = (hookY fa fn ts ex fc).obs s := by
  have e : g = s.heap.get? := funext h
  rw [e] <;> rfl
section
variable {fa : List Fa} {fn : List DefD} {ts : List Tab} {ex : PySem.W.Frag → Bool} {fc : List DefC} {w : World} {K : PySem.W.Frag}
theorem SaysY.t (c : SaysY fa fn ts ex fc w K) : SaysT fa fn ts w K := congrArg (fun z : AlY => z.1) c
theorem SaysY.x (c : SaysY fa fn ts ex fc w K) : ex K = true := congrArg (fun z : AlY => z.2.1) c
theorem SaysY.tabW (c : SaysY fa fn ts ex fc w K) (i : Nat) {t : Tab} (h : ts[i]? = some t := by rfl) : dicW K (t.1 K) = some (keysIn w.params t.2) := by
  have e : ts.map (fun t => dicW K (t.1 K)) = ts.map fun t => some (keysIn w.params t.2) := congrArg (fun z : AlT => z.2) c.t
  have e2 : (ts.map fun t => dicW K (t.1 K))[i]? = (ts.map fun t => some (keysIn w.params t.2))[i]? := by rw [e]
  rw [List.getElem?_map, List.getElem?_map, h] at e2
  exact Option.some.inj e2
theorem SaysY.init (c : SaysY fa fn ts ex fc w K) (i : Nat) {d : DefC} (h : fc[i]? = some d := by rfl) : fnL K d.at_ = d.val := by
  have e : fc.map (fun d => fnL K d.at_) = fc.map DefC.val := congrArg (fun z : AlY => z.2.2) c
  have e2 : (fc.map fun d => fnL K d.at_)[i]? = (fc.map DefC.val)[i]? := by rw [e]
  rw [List.getElem?_map, List.getElem?_map, h] at e2
  exact Option.some.inj e2
theorem kdct_of {a : Addr} {es : Array DictEntry} {n : Nat} (D : KDict K w a es n) {kvs : List (Str × He.Dv)} (h : valsB K a kvs = true) {x : Str} {v : Dv} (hq : (x, v) ∈ kvs) : KDct K w a x (v.v K) := by
  obtain ⟨u, e, r⟩ := valsB_ok h hq
  exact ⟨es, n, u, D.at_, D.lit, e, r⟩
end
end Hd

/-! K11Q -/
namespace K4
open PySem L2 K1
/-- the key of an entry is a word of rules -/
def wdKey (e : DictEntry) : Bool := match e.key with
  | .str y _ => (List.range 9).any fun k => decide (y = wd k)
  | _ => false

end K4
namespace HdK11
open PySem PySem.Spec PyProof.Rows L2 K1 K4 He
abbrev PROG : Program := (PySem.Challenge.rw_handcarried_k11_rules_judged).prog
def fa0 : List Fa := [.glo "is_whole", .glo "is_within", .glo "is_tuple", .glo "is_tuple_of", .glo "is_text", .glo "is_ascending", .glo "as_tuples", .glo "are_signs", .glo "require_signs", .glo "is_paper", .glo "require_paper", .glo "are_rows", .glo "is_row", .glo "are_goals", .glo "standing_in", .glo "own_values", .glo "inner_rules", .glo "is_sum", .glo "is_square", .glo "are_faces", .glo "has_form", .glo "checked_rule", .glo "checked_part", .glo "count_parts", .glo "check_rule", .glo "is_right", .glo "finds_right", .glo "has_sum", .glo "ends_in_goal", .glo "faced"]
def fa1 : List Fa := [.glo "_law_bag_of", .glo "_law_pick", .glo "_law_one_of", .glo "_law_mixed", .glo "_law_signs_of", .glo "_law_paper_of", .glo "_law_sum", .glo "_law_rows_of", .glo "_law_goals_of", .glo "_law_faces_of", .glo "_law_rule_of", .glo "_law_judged", .glo "_law_led", .glo "_law_listed", .glo "_law_wide_signs", .glo "_law_wide_sum", .glo "_law_wide_square", .glo "_law_wide_faces", .glo "_law_rule_on", .glo "_law_parts", .glo "_law_wrapped", .glo "_law_slipped", .glo "_law_says", .glo "_law_refused", .glo "_law_bad_paper", .glo "_law_bad_signs", .glo "_law_errors", .glo "_law_changed", .glo "law", .glo "CarryError"]
def fa2 : List Fa := [.glo "Malformed", .glo "BadSigns", .glo "BadRule", .glo "BadPaper", .glo "OWN_VALUES", .glo "INNER_RULES", .free "len", .free "sum", .free "abs", .free "int", .free "range", .free "list", .free "tuple", .free "str", .free "bool", .free "sorted", .free "all", .free "min", .free "isinstance", .free "max", .free "any", .free "repr", .free "enumerate", .free "super", .free "ValueError", .int "LEAST_KINDS" 2, .int "MOST_KINDS" 12, .int "MOST_SIGNS" 60, .int "LEAST_MODULUS" 2, .int "MOST_MODULUS" 60]
def fa3 : List Fa := [.int "MOST_WEIGHTS" 8, .int "MOST_ROWS" 60, .int "MOST_FACES" 4, .int "MOST_CUT" 3, .int "MOST_PARTS" 40, .str "ALL_SIGNS" K4.ALL, .exm "BadSigns" "CarryError" true, .exm "BadRule" "CarryError" true, .exm "BadPaper" "CarryError" true]
def fa : List Fa := fa0 ++ fa1 ++ fa2 ++ fa3

def fn0 : List DefD := [⟨("is_whole", none), "is_whole", "is_whole", defArgs (top 8), defBody (top 8), defScope (top 8), [], []⟩, ⟨("is_within", none), "is_within", "is_within", defArgs (top 9), defBody (top 9), defScope (top 9), [], []⟩, ⟨("is_tuple", none), "is_tuple", "is_tuple", defArgs (top 10), defBody (top 10), defScope (top 10), [], []⟩, ⟨("is_tuple_of", none), "is_tuple_of", "is_tuple_of", defArgs (top 11), defBody (top 11), defScope (top 11), [], []⟩, ⟨("is_text", none), "is_text", "is_text", defArgs (top 12), defBody (top 12), defScope (top 12), [], []⟩, ⟨("is_ascending", none), "is_ascending", "is_ascending", defArgs (top 13), defBody (top 13), defScope (top 13), [], []⟩, ⟨("as_tuples", none), "as_tuples", "as_tuples", defArgs (top 14), defBody (top 14), defScope (top 14), [], []⟩, ⟨("are_signs", none), "are_signs", "are_signs", defArgs (top 20), defBody (top 20), defScope (top 20), [], []⟩, ⟨("require_signs", none), "require_signs", "require_signs", defArgs (top 21), defBody (top 21), defScope (top 21), [], []⟩, ⟨("is_paper", none), "is_paper", "is_paper", defArgs (top 22), defBody (top 22), defScope (top 22), [], []⟩, ⟨("require_paper", none), "require_paper", "require_paper", defArgs (top 23), defBody (top 23), defScope (top 23), [], []⟩, ⟨("are_rows", none), "are_rows", "are_rows", defArgs (top 25), defBody (top 25), defScope (top 25), [], []⟩, ⟨("is_row", none), "is_row", "is_row", defArgs (top 26), defBody (top 26), defScope (top 26), [], []⟩, ⟨("are_goals", none), "are_goals", "are_goals", defArgs (top 27), defBody (top 27), defScope (top 27), [], []⟩, ⟨("standing_in", none), "standing_in", "standing_in", defArgs (top 28), defBody (top 28), defScope (top 28), [], []⟩, ⟨("own_values", none), "own_values", "own_values", defArgs (top 39), defBody (top 39), defScope (top 39), [], []⟩, ⟨("inner_rules", none), "inner_rules", "inner_rules", defArgs (top 40), defBody (top 40), defScope (top 40), [], []⟩, ⟨("is_sum", none), "is_sum", "is_sum", defArgs (top 41), defBody (top 41), defScope (top 41), [], []⟩, ⟨("is_square", none), "is_square", "is_square", defArgs (top 42), defBody (top 42), defScope (top 42), [], []⟩, ⟨("are_faces", none), "are_faces", "are_faces", defArgs (top 43), defBody (top 43), defScope (top 43), [], []⟩, ⟨("has_form", none), "has_form", "has_form", defArgs (top 44), defBody (top 44), defScope (top 44), [], []⟩, ⟨("checked_rule", none), "checked_rule", "checked_rule", defArgs (top 45), defBody (top 45), defScope (top 45), [], []⟩, ⟨("checked_part", none), "checked_part", "checked_part", defArgs (top 46), defBody (top 46), defScope (top 46), [], []⟩, ⟨("count_parts", none), "count_parts", "count_parts", defArgs (top 47), defBody (top 47), defScope (top 47), [], []⟩, ⟨("check_rule", none), "check_rule", "check_rule", defArgs (top 49), defBody (top 49), defScope (top 49), [], []⟩, ⟨("is_right", none), "is_right", "is_right", defArgs (top 50), defBody (top 50), defScope (top 50), [], []⟩, ⟨("finds_right", none), "finds_right", "finds_right", defArgs (top 51), defBody (top 51), defScope (top 51), [], []⟩, ⟨("has_sum", none), "has_sum", "has_sum", defArgs (top 52), defBody (top 52), defScope (top 52), [], []⟩, ⟨("ends_in_goal", none), "ends_in_goal", "ends_in_goal", defArgs (top 53), defBody (top 53), defScope (top 53), [], []⟩, ⟨("faced", none), "faced", "faced", defArgs (top 54), defBody (top 54), defScope (top 54), [], []⟩]
def fn1 : List DefD := [⟨("_law_bag_of", none), "_law_bag_of", "_law_bag_of", defArgs (top 56), defBody (top 56), defScope (top 56), [], []⟩, ⟨("_law_pick", none), "_law_pick", "_law_pick", defArgs (top 57), defBody (top 57), defScope (top 57), [], []⟩, ⟨("_law_one_of", none), "_law_one_of", "_law_one_of", defArgs (top 58), defBody (top 58), defScope (top 58), [], []⟩, ⟨("_law_mixed", none), "_law_mixed", "_law_mixed", defArgs (top 59), defBody (top 59), defScope (top 59), [], []⟩, ⟨("_law_signs_of", none), "_law_signs_of", "_law_signs_of", defArgs (top 60), defBody (top 60), defScope (top 60), [], []⟩, ⟨("_law_paper_of", none), "_law_paper_of", "_law_paper_of", defArgs (top 61), defBody (top 61), defScope (top 61), [], []⟩, ⟨("_law_sum", none), "_law_sum", "_law_sum", defArgs (top 62), defBody (top 62), defScope (top 62), [], []⟩, ⟨("_law_rows_of", none), "_law_rows_of", "_law_rows_of", defArgs (top 63), defBody (top 63), defScope (top 63), [], []⟩, ⟨("_law_goals_of", none), "_law_goals_of", "_law_goals_of", defArgs (top 64), defBody (top 64), defScope (top 64), [], []⟩, ⟨("_law_faces_of", none), "_law_faces_of", "_law_faces_of", defArgs (top 65), defBody (top 65), defScope (top 65), [], []⟩, ⟨("_law_rule_of", none), "_law_rule_of", "_law_rule_of", defArgs (top 66), defBody (top 66), defScope (top 66), [], []⟩, ⟨("_law_judged", none), "_law_judged", "_law_judged", defArgs (top 67), defBody (top 67), defScope (top 67), [], []⟩, ⟨("_law_led", none), "_law_led", "_law_led", defArgs (top 68), defBody (top 68), defScope (top 68), [], []⟩, ⟨("_law_listed", none), "_law_listed", "_law_listed", defArgs (top 69), defBody (top 69), defScope (top 69), [], []⟩, ⟨("_law_wide_signs", none), "_law_wide_signs", "_law_wide_signs", defArgs (top 70), defBody (top 70), defScope (top 70), [], []⟩, ⟨("_law_wide_sum", none), "_law_wide_sum", "_law_wide_sum", defArgs (top 71), defBody (top 71), defScope (top 71), [], []⟩, ⟨("_law_wide_square", none), "_law_wide_square", "_law_wide_square", defArgs (top 72), defBody (top 72), defScope (top 72), [], []⟩, ⟨("_law_wide_faces", none), "_law_wide_faces", "_law_wide_faces", defArgs (top 73), defBody (top 73), defScope (top 73), [], []⟩, ⟨("_law_rule_on", none), "_law_rule_on", "_law_rule_on", defArgs (top 74), defBody (top 74), defScope (top 74), [], []⟩, ⟨("_law_parts", none), "_law_parts", "_law_parts", defArgs (top 75), defBody (top 75), defScope (top 75), [], []⟩, ⟨("_law_wrapped", none), "_law_wrapped", "_law_wrapped", defArgs (top 76), defBody (top 76), defScope (top 76), [], []⟩, ⟨("_law_slipped", none), "_law_slipped", "_law_slipped", defArgs (top 77), defBody (top 77), defScope (top 77), [], []⟩, ⟨("_law_says", none), "_law_says", "_law_says", defArgs (top 78), defBody (top 78), defScope (top 78), [], []⟩, ⟨("_law_refused", none), "_law_refused", "_law_refused", defArgs (top 79), defBody (top 79), defScope (top 79), [], []⟩, ⟨("_law_bad_paper", none), "_law_bad_paper", "_law_bad_paper", defArgs (top 80), defBody (top 80), defScope (top 80), [], []⟩, ⟨("_law_bad_signs", none), "_law_bad_signs", "_law_bad_signs", defArgs (top 81), defBody (top 81), defScope (top 81), [], []⟩, ⟨("_law_errors", none), "_law_errors", "_law_errors", defArgs (top 82), defBody (top 82), defScope (top 82), [], []⟩, ⟨("_law_changed", none), "_law_changed", "_law_changed", defArgs (top 83), defBody (top 83), defScope (top 83), [], []⟩, ⟨("law", none), "law", "law", defArgs (top 84), defBody (top 84), defScope (top 84), [], []⟩]
def fn : List DefD := fn0 ++ fn1

def vINNER_RULES : List (Str × He.Dv) := [("any", .int 0), ("back", .int 1), ("not", .int 1), ("both", .int 2), ("either", .int 2), ("sum", .int 0), ("square", .int 0), ("faces", .int 1), ("cut", .int 1)]
def vOWN_VALUES : List (Str × He.Dv) := [("any", .int 0), ("back", .int 0), ("not", .int 0), ("both", .int 0), ("either", .int 0), ("sum", .int 3), ("square", .int 2), ("faces", .int 1), ("cut", .int 2)]
def ts : List Tab := [(fun K => ga K "INNER_RULES", ["sum", "square", "faces", "back", "cut", "both", "either", "not", "any"]), (fun K => ga K "OWN_VALUES", ["sum", "square", "faces", "back", "cut", "both", "either", "not", "any"])]
def exs0 : List (PySem.W.Frag → Bool) := [fun K => valsB K (ga K "INNER_RULES") vINNER_RULES, fun K => valsB K (ga K "OWN_VALUES") vOWN_VALUES, fun K => Hd.allB K (ga K "OWN_VALUES") wdKey, fun K => eqO (PySem.W.nsIn K cStatics "thirdparty.any") (some none), fun K => Hd.oexB K (ga K "BadSigns"), fun K => Hd.excB K (ga K "BadSigns"), fun K => Hd.supB K (ga K "BadSigns"), fun K => xfB K (ga K "BadSigns"), fun K => (PySem.W.clsIn K (ga K "BadSigns")).isSome, fun K => Hd.initB PROG K ("BadSigns", some "__init__") "BadSigns.__init__" (ga K "BadSigns"), fun K => eqO (PySem.W.findIn K (.ref (ga K "BadSigns")) "signs") (some none), fun K => eqO (PySem.W.findIn K (.ref (ga K "BadSigns")) "__init__") (some (some (.ref (ma K (ga K "BadSigns") "__init__")))), fun K => decide (PySem.W.typeIn K (.ref (ma K (ga K "BadSigns") "__init__")) = some (.type "function")), fun K => Hd.kitB1 K (ga K "BadSigns") (ga K "Malformed") true, fun K => Hd.kitB1 K (ga K "BadSigns") (ga K "BadSigns") true, fun K => Hd.kitB1 K (ga K "BadSigns") (ga K "BadRule") false, fun K => Hd.kitB1 K (ga K "BadSigns") (ga K "BadPaper") false, fun K => decide (PySem.W.kitOne K (.ref (ga K "BadSigns")) (.type "ValueError") = some true), fun K => Hd.oexB K (ga K "BadRule"), fun K => Hd.excB K (ga K "BadRule"), fun K => Hd.supB K (ga K "BadRule"), fun K => xfB K (ga K "BadRule"), fun K => (PySem.W.clsIn K (ga K "BadRule")).isSome, fun K => Hd.initB PROG K ("BadRule", some "__init__") "BadRule.__init__" (ga K "BadRule"), fun K => eqO (PySem.W.findIn K (.ref (ga K "BadRule")) "rule") (some none), fun K => eqO (PySem.W.findIn K (.ref (ga K "BadRule")) "__init__") (some (some (.ref (ma K (ga K "BadRule") "__init__")))), fun K => decide (PySem.W.typeIn K (.ref (ma K (ga K "BadRule") "__init__")) = some (.type "function")), fun K => Hd.kitB1 K (ga K "BadRule") (ga K "Malformed") true, fun K => Hd.kitB1 K (ga K "BadRule") (ga K "BadSigns") false, fun K => Hd.kitB1 K (ga K "BadRule") (ga K "BadRule") true]
def exs1 : List (PySem.W.Frag → Bool) := [fun K => Hd.kitB1 K (ga K "BadRule") (ga K "BadPaper") false, fun K => decide (PySem.W.kitOne K (.ref (ga K "BadRule")) (.type "ValueError") = some true), fun K => Hd.oexB K (ga K "BadPaper"), fun K => Hd.excB K (ga K "BadPaper"), fun K => Hd.supB K (ga K "BadPaper"), fun K => xfB K (ga K "BadPaper"), fun K => (PySem.W.clsIn K (ga K "BadPaper")).isSome, fun K => Hd.initB PROG K ("BadPaper", some "__init__") "BadPaper.__init__" (ga K "BadPaper"), fun K => eqO (PySem.W.findIn K (.ref (ga K "BadPaper")) "paper") (some none), fun K => eqO (PySem.W.findIn K (.ref (ga K "BadPaper")) "__init__") (some (some (.ref (ma K (ga K "BadPaper") "__init__")))), fun K => decide (PySem.W.typeIn K (.ref (ma K (ga K "BadPaper") "__init__")) = some (.type "function")), fun K => Hd.kitB1 K (ga K "BadPaper") (ga K "Malformed") true, fun K => Hd.kitB1 K (ga K "BadPaper") (ga K "BadSigns") false, fun K => Hd.kitB1 K (ga K "BadPaper") (ga K "BadRule") false, fun K => Hd.kitB1 K (ga K "BadPaper") (ga K "BadPaper") true, fun K => decide (PySem.W.kitOne K (.ref (ga K "BadPaper")) (.type "ValueError") = some true)]
def exs : List (PySem.W.Frag → Bool) := exs0 ++ exs1

def ex (K : PySem.W.Frag) : Bool := exs.all fun e => e K
def fc : List Hd.DefC := [⟨("BadSigns", some "__init__"), "BadSigns.__init__", defArgs (inClass (top 3) 0), defBody (inClass (top 3) 0), defScope (inClass (top 3) 0)⟩, ⟨("BadRule", some "__init__"), "BadRule.__init__", defArgs (inClass (top 5) 0), defBody (inClass (top 5) 0), defScope (inClass (top 5) 0)⟩, ⟨("BadPaper", some "__init__"), "BadPaper.__init__", defArgs (inClass (top 4) 0), defBody (inClass (top 4) 0), defScope (inClass (top 4) 0)⟩]
end HdK11
namespace HdK11
open PySem PySem.W PySem.Calls PyProof.Rows
def names0 : List PySem.Str := ["CarryError", "Malformed", "BadSigns", "BadPaper", "BadRule", "TooMany", "is_whole", "is_within", "is_tuple", "is_tuple_of", "is_text", "is_ascending", "as_tuples", "ALL_SIGNS", "LEAST_KINDS", "MOST_KINDS", "MOST_SIGNS", "are_signs", "require_signs", "is_paper", "require_paper", "are_rows", "is_row", "are_goals", "standing_in", "LEAST_MODULUS", "MOST_MODULUS", "MOST_WEIGHTS", "MOST_ROWS", "MOST_FACES"]
def names1 : List PySem.Str := ["MOST_CUT", "MOST_PARTS", "OWN_VALUES", "INNER_RULES", "own_values", "inner_rules", "is_sum", "is_square", "are_faces", "has_form", "checked_rule", "checked_part", "count_parts", "check_rule", "is_right", "finds_right", "has_sum", "ends_in_goal", "faced", "_law_bag_of", "_law_pick", "_law_one_of", "_law_mixed", "_law_signs_of", "_law_paper_of", "_law_sum", "_law_rows_of", "_law_goals_of", "_law_faces_of", "_law_rule_of"]
def names2 : List PySem.Str := ["_law_judged", "_law_led", "_law_listed", "_law_wide_signs", "_law_wide_sum", "_law_wide_square", "_law_wide_faces", "_law_rule_on", "_law_parts", "_law_wrapped", "_law_slipped", "_law_says", "_law_refused", "_law_bad_paper", "_law_bad_signs", "_law_errors", "_law_changed"]
def names : List PySem.Str := names0 ++ names1 ++ names2

abbrev R : OpenRow := OpenLaw.row PySem.Challenge.rw_handcarried_k11_rules_judged
abbrev qv : Program := view R.prog [84]
abbrev hk : Hook := Hd.hookY fa fn ts ex fc
def ob (s : SharedT) : Hd.AlY := Hd.obsY fa fn ts ex fc (HandSHeadRun.getT s)
theorem ob_eq (s : SharedT) : ob s = hk.obs s.abs := Hd.obsY_eq (HandSHeadRun.getT_eq s)
theorem runF (w : World) : HandSHeadRun.RunEq R qv hk ob 9000 names (w.withFollow "special-get-raises" false) := by
  intro os
  kernel_rfl
theorem runT (w : World) : HandSHeadRun.RunEq R qv hk ob 9000 names (w.withFollow "special-get-raises" true) := by
  intro os
  kernel_rfl
theorem run (w : World) : HandSHeadRun.RunEq R qv hk ob 9000 names w := byRow2 "special-get-raises" (P := fun w => HandSHeadRun.RunEq R qv hk ob 9000 names w) runF runT w
end HdK11

/-! H4 -/
/-! Rules in a heap. -/
namespace K4
open PySem L2 K1 PyProof.Rows
abbrev vi (n : Nat) : V := .int n
section
variable {K : PySem.W.Frag} {H H' : Hp}
mutual
theorem dp_keep (k : Keeps K H H') : ∀ (d : PyData) (v : V), Dp K H v d → Dp K H' v d
  | .none, _, h => by cases h; exact .non
  | .bool b, _, h => by cases h; exact .bl b
  | .int i, _, h => by cases h; exact .int i
  | .str x, _, h => by cases h; exact .str x
  | .list ds, _, h => by
    cases h with
    | lst hs ha => exact .lst (k.1 _ _ hs) (dpA_keep k ds _ ha)
  | .tuple ds, _, h => by
    cases h with
    | tup hs ha => exact .tup (k.2 _ _ hs) (dpA_keep k ds _ ha)
  | .dict _, _, h => by cases h
theorem dpA_keep (k : Keeps K H H') : ∀ (ds : List PyData) (vs : List V), DpAll K H vs ds → DpAll K H' vs ds
  | [], _, h => by cases h; exact .nil
  | d :: ds, _, h => by
    cases h with
    | cons a b => exact .cons (dp_keep k d _ a) (dpA_keep k ds _ b)
end
abbrev KT (K : PySem.W.Frag) (H H' : Hp) : Prop := ∀ a xs, SqT K H a xs → SqT K H' a xs
mutual
theorem dp_pure (k : KT K H H') : ∀ (d : PyData) (v : V), pure d = true → Dp K H v d → Dp K H' v d
  | .none, _, _, h => by cases h; exact .non
  | .bool b, _, p, _ => by simp [pure] at p
  | .int i, _, _, h => by cases h; exact .int i
  | .str x, _, _, h => by cases h; exact .str x
  | .list ds, _, p, _ => by simp [pure] at p
  | .tuple ds, _, p, h => by
    cases h with
    | tup hs ha => exact .tup (k _ _ hs) (dpA_pure k ds _ (by simpa [pure] using p) ha)
  | .dict _, _, _, h => by cases h
theorem dpA_pure (k : KT K H H') : ∀ (ds : List PyData) (vs : List V), pureA ds = true → DpAll K H vs ds → DpAll K H' vs ds
  | [], _, _, h => by cases h; exact .nil
  | d :: ds, _, p, h => by
    simp only [pureA, Bool.and_eq_true] at p
    cases h with
    | cons a b => exact .cons (dp_pure k d _ p.1 a) (dpA_pure k ds _ p.2 b)
end
theorem kt_lst {D : Addr} {xs ys : List V} (e : H D = some (.lst xs)) : KT K H (upd H D (.lst ys)) := fun a zs h =>
  Kp.sqT (b := D) (fun c o n q => by rw [upd_ne n]; exact q) e h
theorem kt_ins {D : Addr} {C dx : Addr} {fs gs : List (Str × V)} (e : H D = some (.ins C dx fs)) : KT K H (upd H D (.ins C dx gs)) := fun a zs h =>
  (Kp.keeps (b := D) (fun c o n q => by rw [upd_ne n]; exact q) e).2 _ _ h
theorem KT.trans {H2 : Hp} (x : KT K H H') (y : KT K H' H2) : KT K H H2 := fun a xs h => y a xs (x a xs h)
theorem Same.kt (e : Same H H') : KT K H H' := (Same.keeps e).2
theorem dpA_app : ∀ {vs : List V} {ds : List PyData} {ws : List V} {es : List PyData}, DpAll K H vs ds → DpAll K H ws es → DpAll K H (vs ++ ws) (ds ++ es)
  | _, _, _, _, .nil, h => h
  | _, _, _, _, .cons a b, h => .cons a (dpA_app b h)
theorem dpA_split : ∀ {ds es : List PyData} {vs : List V}, DpAll K H vs (ds ++ es) → ∃ xs ys, vs = xs ++ ys ∧ DpAll K H xs ds ∧ DpAll K H ys es
  | [], es, vs, h => ⟨[], vs, rfl, .nil, h⟩
  | d :: ds, es, _, h => by
    cases h with
    | cons a b =>
      obtain ⟨xs, ys, rfl, p, q⟩ := dpA_split b
      exact ⟨_ :: xs, ys, rfl, .cons a p, q⟩
theorem dpA_len : ∀ {vs : List V} {ds : List PyData}, DpAll K H vs ds → vs.length = ds.length
  | _, _, .nil => rfl
  | _, _, .cons _ b => congrArg (· + 1) (dpA_len b)
theorem dpA_get : ∀ {vs : List V} {ds : List PyData}, DpAll K H vs ds → ∀ {i : Nat} {v : V}, vs[i]? = some v → ∃ d, ds[i]? = some d ∧ Dp K H v d
  | _, _, .nil, i, v, h => by simp at h
  | _, _, .cons a b, 0, v, h => ⟨_, rfl, by simp at h; rw [← h]; exact a⟩
  | _, _, .cons a b, i + 1, v, h => dpA_get b (by simpa using h)
theorem dpA_nums : ∀ {ns : List Nat} {vs : List V}, DpAll K H vs (ns.map pn) ↔ vs = ns.map vi
  | [], vs => ⟨fun h => by cases h; rfl, fun h => by subst h; exact .nil⟩
  | n :: ns, vs => ⟨fun h => by
      cases h with
      | cons a b => cases a; rw [dpA_nums.mp b]; rfl, fun h => by subst h; exact .cons (.int _) (dpA_nums.mpr rfl)⟩
theorem dpA_strs : ∀ {ns : List Str} {vs : List V}, DpAll K H vs (ns.map .str) ↔ vs = ns.map V.str
  | [], vs => ⟨fun h => by cases h; rfl, fun h => by subst h; exact .nil⟩
  | n :: ns, vs => ⟨fun h => by
      cases h with
      | cons a b => cases a; rw [dpA_strs.mp b]; rfl, fun h => by subst h; exact .cons (.str _) (dpA_strs.mpr rfl)⟩
theorem dp_sq {t : Bool} {v : V} {ds : List PyData} (h : Dp K H v (sq t ds)) : ∃ xs, Sq K H v xs ∧ DpAll K H xs ds := by
  cases t
  · cases h with
    | lst a b => exact ⟨_, ⟨_, rfl, .inl a⟩, b⟩
  · cases h with
    | tup a b => exact ⟨_, ⟨_, rfl, .inr a⟩, b⟩
/-- numbers -/
def NumsAt (K : PySem.W.Frag) (H : Hp) (v : V) (ns : List Nat) : Prop := Sq K H v (ns.map vi)
def RowsAt (K : PySem.W.Frag) (H : Hp) : List V → List (List Nat) → Prop
  | [], [] => True
  | v :: vs, r :: rs => NumsAt K H v r ∧ RowsAt K H vs rs
  | _, _ => False
def OwAt (K : PySem.W.Frag) (H : Hp) (xs : List V) : Ow → Prop
  | .sum m ws g => ∃ w, xs = [vi m, w, vi g] ∧ NumsAt K H w ws
  | .square rows gs => ∃ a g rvs, xs = [a, g] ∧ Sq K H a rvs ∧ RowsAt K H rvs rows ∧ NumsAt K H g gs
  | .faces fs => ∃ f, xs = [f] ∧ Sq K H f (fs.map V.str)
  | .cut a b => xs = [vi a, vi b]
  | _ => xs = []
theorem RowsAt.keep (k : Keeps K H H') : ∀ {vs : List V} {rs : List (List Nat)}, RowsAt K H vs rs → RowsAt K H' vs rs
  | [], [], _ => trivial
  | v :: vs, r :: rs, h => ⟨h.1.keep k, RowsAt.keep k h.2⟩
  | [], _ :: _, h => h.elim
  | _ :: _, [], h => h.elim
theorem RowsAt.len : ∀ {vs : List V} {rs : List (List Nat)}, RowsAt K H vs rs → vs.length = rs.length
  | [], [], _ => rfl
  | v :: vs, r :: rs, h => congrArg (· + 1) (RowsAt.len h.2)
  | [], _ :: _, h => h.elim
  | _ :: _, [], h => h.elim
theorem RowsAt.get : ∀ {vs : List V} {rs : List (List Nat)}, RowsAt K H vs rs → ∀ {i : Nat} {v : V}, vs[i]? = some v → ∃ r, rs[i]? = some r ∧ NumsAt K H v r
  | [], [], _, i, v, e => by simp at e
  | v :: vs, r :: rs, h, 0, w, e => ⟨r, rfl, by simp at e; rw [← e]; exact h.1⟩
  | v :: vs, r :: rs, h, i + 1, w, e => RowsAt.get h.2 (by simpa using e)
  | [], _ :: _, h, _, _, _ => h.elim
  | _ :: _, [], h, _, _, _ => h.elim
theorem OwAt.keep (k : Keeps K H H') : ∀ {o : Ow} {xs : List V}, OwAt K H xs o → OwAt K H' xs o
  | .sum .., _, ⟨w, e, h⟩ => ⟨w, e, h.keep k⟩
  | .square .., _, ⟨a, g, rvs, e, h1, h2, h3⟩ => ⟨a, g, rvs, e, h1.keep k, h2.keep k, h3.keep k⟩
  | .faces .., _, ⟨f, e, h⟩ => ⟨f, e, h.keep k⟩
  | .cut .., _, h => h
  | .any, _, h => h
  | .back, _, h => h
  | .not, _, h => h
  | .both, _, h => h
  | .either, _, h => h
theorem OwAt.len : ∀ {o : Ow} {xs : List V}, OwAt K H xs o → xs.length = mn o.kind
  | .sum .., _, ⟨w, e, h⟩ => by rw [e]; rfl
  | .square .., _, ⟨a, g, rvs, e, h1, h2, h3⟩ => by rw [e]; rfl
  | .faces .., _, ⟨f, e, h⟩ => by rw [e]; rfl
  | .cut .., _, h => by rw [show _ = _ from h]; rfl
  | .any, _, h => by rw [show _ = _ from h]; rfl
  | .back, _, h => by rw [show _ = _ from h]; rfl
  | .not, _, h => by rw [show _ = _ from h]; rfl
  | .both, _, h => by rw [show _ = _ from h]; rfl
  | .either, _, h => by rw [show _ = _ from h]; rfl
theorem rows_of {t : Bool} : ∀ {rs : List (List Nat)} {vs : List V}, DpAll K H vs (rs.map fun row => sq t (row.map pn)) → RowsAt K H vs rs
  | [], _, .nil => trivial
  | r :: rs, _, .cons a b => by
    obtain ⟨xs, hx, hd⟩ := dp_sq a
    rw [dpA_nums.mp hd] at hx
    exact ⟨hx, rows_of b⟩
theorem nums_of {t : Bool} {v : V} {ns : List Nat} (h : Dp K H v (sq t (ns.map pn))) : NumsAt K H v ns := by
  obtain ⟨xs, hx, hd⟩ := dp_sq h
  rw [dpA_nums.mp hd] at hx
  exact hx
theorem ow_of {t : Bool} : ∀ {o : Ow} {xs : List V}, DpAll K H xs (o.data t) → OwAt K H xs o
  | .sum m ws g, _, .cons (.int _) (.cons b (.cons (.int _) .nil)) => ⟨_, rfl, nums_of b⟩
  | .square rows gs, _, .cons a (.cons b .nil) => by
    obtain ⟨rvs, h1, h2⟩ := dp_sq a
    exact ⟨_, _, rvs, rfl, h1, rows_of h2, nums_of b⟩
  | .faces fs, _, .cons a .nil => by
    obtain ⟨xs, h1, h2⟩ := dp_sq a
    rw [dpA_strs.mp h2] at h1
    exact ⟨_, rfl, h1⟩
  | .cut a b, _, .cons (.int _) (.cons (.int _) .nil) => rfl
  | .any, _, .nil => rfl
  | .back, _, .nil => rfl
  | .not, _, .nil => rfl
  | .both, _, .nil => rfl
  | .either, _, .nil => rfl
/-- a rule, of lists and tuples -/
def RAt (K : PySem.W.Frag) (H : Hp) : V → R → Prop
  | v, .n0 o => ∃ xs, Sq K H v (.str o.word :: (xs ++ [])) ∧ OwAt K H xs o
  | v, .n1 o a => ∃ xs i, Sq K H v (.str o.word :: (xs ++ [i])) ∧ OwAt K H xs o ∧ RAt K H i a
  | v, .n2 o a b => ∃ xs i j, Sq K H v (.str o.word :: (xs ++ [i, j])) ∧ OwAt K H xs o ∧ RAt K H i a ∧ RAt K H j b
def RAll (K : PySem.W.Frag) (H : Hp) : List V → List R → Prop
  | [], [] => True
  | v :: vs, r :: rs => RAt K H v r ∧ RAll K H vs rs
  | _, _ => False
theorem RAt.keep (k : Keeps K H H') : ∀ {r : R} {v : V}, RAt K H v r → RAt K H' v r
  | .n0 _, _, ⟨xs, h, o⟩ => ⟨xs, h.keep k, o.keep k⟩
  | .n1 _ _, _, ⟨xs, i, h, o, a⟩ => ⟨xs, i, h.keep k, o.keep k, RAt.keep k a⟩
  | .n2 _ _ _, _, ⟨xs, i, j, h, o, a, b⟩ => ⟨xs, i, j, h.keep k, o.keep k, RAt.keep k a, RAt.keep k b⟩
theorem RAll.keep (k : Keeps K H H') : ∀ {vs : List V} {rs : List R}, RAll K H vs rs → RAll K H' vs rs
  | [], [], _ => trivial
  | v :: vs, r :: rs, h => ⟨h.1.keep k, RAll.keep k h.2⟩
  | [], _ :: _, h => h.elim
  | _ :: _, [], h => h.elim
theorem RAll.get : ∀ {vs : List V} {rs : List R}, RAll K H vs rs → ∀ {i : Nat} {v : V}, vs[i]? = some v → ∃ r, rs[i]? = some r ∧ RAt K H v r
  | [], [], _, i, v, e => by simp at e
  | v :: vs, r :: rs, h, 0, w, e => ⟨r, rfl, by simp at e; rw [← e]; exact h.1⟩
  | v :: vs, r :: rs, h, i + 1, w, e => RAll.get h.2 (by simpa using e)
  | [], _ :: _, h, _, _, _ => h.elim
  | _ :: _, [], h, _, _, _ => h.elim
theorem RAll.len : ∀ {vs : List V} {rs : List R}, RAll K H vs rs → vs.length = rs.length
  | [], [], _ => rfl
  | v :: vs, r :: rs, h => congrArg (· + 1) (RAll.len h.2)
  | [], _ :: _, h => h.elim
  | _ :: _, [], h => h.elim
theorem RAt.open : ∀ {r : R} {v : V}, RAt K H v r → ∃ xs is, Sq K H v (.str r.ow.word :: (xs ++ is)) ∧ OwAt K H xs r.ow ∧ RAll K H is r.inner
  | .n0 _, _, ⟨xs, h, o⟩ => ⟨xs, [], h, o, trivial⟩
  | .n1 _ _, _, ⟨xs, i, h, o, a⟩ => ⟨xs, [i], h, o, a, trivial⟩
  | .n2 _ _ _, _, ⟨xs, i, j, h, o, a, b⟩ => ⟨xs, [i, j], h, o, a, b, trivial⟩
theorem RAt.of {t : Bool} : ∀ {r : R} {v : V}, Dp K H v (r.data t) → RAt K H v r
  | .n0 o, v, h => by
    obtain ⟨xs, h1, h2⟩ := dp_sq (show Dp K H v (sq t _) from h)
    cases h2 with
    | cons a b =>
      cases a
      exact ⟨_, by rw [List.append_nil]; exact h1, ow_of b⟩
  | .n1 o a, v, h => by
    obtain ⟨xs, h1, h2⟩ := dp_sq (show Dp K H v (sq t _) from h)
    cases h2 with
    | cons a b =>
      cases a
      obtain ⟨ys, zs, rfl, p, q⟩ := dpA_split b
      cases q with
      | cons q1 q2 =>
        cases q2
        exact ⟨ys, _, h1, ow_of p, RAt.of q1⟩
  | .n2 o a b, v, h => by
    obtain ⟨xs, h1, h2⟩ := dp_sq (show Dp K H v (sq t _) from h)
    cases h2 with
    | cons a b =>
      cases a
      obtain ⟨ys, zs, rfl, p, q⟩ := dpA_split b
      cases q with
      | cons q1 q2 =>
        cases q2 with
        | cons q2 q3 =>
          cases q3
          exact ⟨ys, _, _, h1, ow_of p, RAt.of q1, RAt.of q2⟩
end
end K4

/-! C5 -/
local macro_rules | `(tactic| walk_at "go") => `(tactic| repeat (first
  | with_reducible apply K1.r_seq
  | with_reducible apply K1.r_asg
  | ((with_reducible apply K1.r_name); (try dsimp only [List.set]))
  | ((with_reducible apply K1.r_var); (focus rfl))
  | with_reducible apply K1.r_c
  | with_reducible apply K1.r_op
  | with_reducible apply K1.r_un
  | with_reducible apply K1.r_I0
  | with_reducible apply K1.r_test
  | with_reducible apply K1.r_if
  | with_reducible apply K1.r_ifs
  | with_reducible apply K1.r_iteT
  | with_reducible apply K1.r_iteF
  | with_reducible apply K1.r_and
  | with_reducible apply K1.r_or
  | with_reducible apply K1.r_not
  | with_reducible apply K1.r_tB
  | with_reducible apply K1.r_andV
  | with_reducible apply K1.r_orV
  | with_reducible apply K1.r_notV
  | with_reducible apply K1.r_cb
  | with_reducible apply K1.r_cons
  | with_reducible apply K1.r_nil
  | with_reducible apply K1.r_ret
  | with_reducible apply K1.r_next
  | with_reducible apply K1.r_drop
  | with_reducible apply K1.r_lst
  | with_reducible apply K1.r_tup
  | with_reducible apply K1.r_call
  | with_reducible apply K1.r_gsub
  | with_reducible apply K1.r_for
  | with_reducible apply K1.r_bm
  | with_reducible apply K1.r_bm0
  | with_reducible apply K1.r_sl
  | with_reducible apply K1.r_noPart
  | with_reducible apply K1.r_part
  | with_reducible apply K1.r_iStr
  | with_reducible apply K1.r_iRng1
  | with_reducible apply K1.r_m1
  | refine ⟨_, rfl, ?_⟩
  | refine Or.inl ⟨_, rfl, ?_⟩
  | dsimp only))
namespace K1
open PySem L2
abbrev sOneOf : Stmt := top 58
abbrev sMixed : Stmt := top 59
theorem scOneOf : FnScope ["_law_bag", "_law_row"] ["_law_bag", "_law_row"] (defScope sOneOf) := ⟨rfl, rfl, rfl, by decide +kernel, rfl, by decide +kernel, by decide +kernel⟩
abbrev nMixed : List Str := ["_law_bag", "_law_row", "_law_left", "_law_told", "_law_k"]
theorem scMixed : FnScope nMixed ["_law_bag", "_law_row"] (defScope sMixed) := ⟨rfl, rfl, rfl, by decide +kernel, rfl, by decide +kernel, by decide +kernel⟩

abbrev OPick (P : Program) (w : World) (K : PySem.W.Frag) (mg : Str → Option Value) (base : Heap) : Prop := Own P w K mg base "_law_pick" 1 ["_law_bag", "_law_many"] spPick
def spOneOf (K : PySem.W.Frag) : Sp := fun vs H Q _ => ∃ (b : Addr) (r : V) (items : List V) (n : Nat), vs = [.ref b, r] ∧ IsBag H b n ∧ n ≤ 2 ^ 40 ∧ RowAt K H b r items ∧ items ≠ [] ∧
  ∀ x H', x ∈ items → IsBag H' b (n + 1) → Off b H H' → Q x H'
abbrev OOneOf (P : Program) (w : World) (K : PySem.W.Frag) (mg : Str → Option Value) (base : Heap) : Prop := Own P w K mg base "_law_one_of" 2 ["_law_bag", "_law_row"] (spOneOf K)
def spMixed : Sp := fun vs H Q _ => ∃ (b : Addr) (z : Str) (n : Nat), vs = [.ref b, .str z] ∧ IsBag H b n ∧ n + z.length ≤ 2 ^ 40 ∧ z.length ≤ 1000 ∧
  ∀ (ys : List Str) H' p, ys.Perm (sgn z) → IsBag H' b (n + z.length) → Kp b H H' → H p = none → H' p = some (.lst (ys.map V.str)) → p ≠ b → Q (.ref p) H'
theorem IsBag.mono {H : Hp} {b : Addr} {n m : Nat} (h : IsBag H b n) (l : n ≤ m) : IsBag H b m := by
  obtain ⟨d, s, c, e, a1, a2, a3, a4, a5⟩ := h
  exact ⟨d, s, c, e, a1, a2, a3, a4, by omega⟩

section
variable {P : Program} {w : World} {K : PySem.W.Frag} {mg : Str → Option Value} {base : Heap}
theorem ok_oneOf {f : Addr} {fd : FuncData} (F : Fun K "_law_one_of" "_law_one_of" sOneOf f fd) (B : Bl mg) (Op : OPick P w K mg base) : FnOk P w K mg base CX0 2 f fd ["_law_bag", "_law_row"] (spOneOf K) := by
  refine F.ok scOneOf (fun vs H Q E h => ?_) (fun cdv A outer s H vs Q E hr h => ?_)
  · obtain ⟨b, r, items, n, rfl, _⟩ := h
    rfl
  · obtain ⟨b, r, items, n, rfl, hb, hn, hrow, hne, k⟩ := h
    refine ⟨_, pss_one (ps_ret (pe_ix ix_seq (pv 1) (pe_own Op hr (pa_cons (pv 0) (pa_cons (pe_callB call_len (by rfl) B.len PySem.boot_len (pa_cons (pv 1) pa_nil)) pa_nil))) (fun _ _ => rfl))), ?_⟩
    try dsimp only [cxOf, Cx.nox, Cx.wish]
    walk_at "go"
    refine ⟨_, _, rfl, hrow.len.1, ?_⟩
    walk_at "go"
    have hl := hrow.len.2
    have hpos : 0 < items.length := List.length_pos_iff.mpr hne
    refine ⟨_, _, n, rfl, hb, hn, by omega, fun r' H' r0 r1 hb' off => ?_⟩
    obtain ⟨x, ex, hx, _⟩ := at_nat' (xs := items) r0 (by omega)
    exact r_rowix (hrow.off off) ex (k x H' hx hb' off)

theorem seqIx {n : Nat} {i : Int} (h0 : 0 ≤ i) (h1 : i < n) : seqIndex? i n = some i.toNat := by
  have e : ixN n i = some i.toNat := by
    unfold ixN
    rw [if_pos h0, if_pos h1]
  exact (ixN_seq e).1
theorem erase_map {α β : Type} (f : α → β) : ∀ (l : List α) (i : Nat), (l.map f).eraseIdx i = (l.eraseIdx i).map f
  | [], _ => rfl
  | _ :: _, 0 => rfl
  | x :: l, i + 1 => by
    show f x :: (l.map f).eraseIdx i = f x :: (l.eraseIdx i).map f
    rw [erase_map f l i]
theorem erase_perm {α : Type} : ∀ {l : List α} {i : Nat} (h : i < l.length), (l[i] :: l.eraseIdx i).Perm l
  | [], _, h => absurd h (by simp)
  | _ :: _, 0, _ => List.Perm.refl _
  | x :: l, i + 1, h => by
    have h' : i < l.length := by simpa using h
    show (l[i] :: x :: l.eraseIdx i).Perm (x :: l)
    exact (List.Perm.swap x l[i] _).trans (List.Perm.cons x (erase_perm h'))
theorem ok_mixed {f : Addr} {fd : FuncData} (F : Fun K "_law_mixed" "_law_mixed" sMixed f fd) (B : Bl mg) (Op : OPick P w K mg base) : FnOk P w K mg base CX0 2 f fd ["_law_bag", "_law_row"] spMixed := by
  refine F.ok scMixed (fun vs H Q E h => ?_) (fun cdv A outer s H vs Q E hr h => ?_)
  · obtain ⟨b, z, n, rfl, _⟩ := h
    rfl
  · obtain ⟨b, z, n, rfl, hb, hn, hz, k⟩ := h
    have hd := hr.hd
    refine ⟨_, pss_cons (ps_set (i := 2) scMixed.nd rfl (Or.inl rfl) (pe_callTy (call_listS hd) (by rfl) B.list (by decide +kernel) (pa_cons (pv 1) pa_nil)))
      (pss_cons (ps_set (i := 3) scMixed.nd rfl (Or.inl rfl) (pe_lst pa_nil))
      (pss_cons (ps_for PassesOwn.never rfl (pi_range1 rfl B.range (pa_cons (pe_callB call_len (by rfl) B.len PySem.boot_len (pa_cons (pv 1) pa_nil)) pa_nil)) (pg_name (i := 4) scMixed.nd rfl (Or.inl rfl))
        (pss_one (ps_expr (pe_bm PySem.F.plainAttrs_list PySem.F.slot_list_append PySem.F.type_list_append mt_append (pv 3) (pa_cons
          (pe_bm PySem.F.plainAttrs_list PySem.F.slot_list_pop PySem.F.type_list_pop mt_popAt (pv 2) (pa_cons
            (pe_own Op hr (pa_cons (pv 0) (pa_cons (pe_callB call_len (by rfl) B.len PySem.boot_len (pa_cons (pv 2) pa_nil)) pa_nil))) pa_nil)) pa_nil)))))
      (pss_one (ps_ret (pv 3))))), ?_⟩
    try dsimp only [cxOf, Cx.nox, Cx.wish]
    have hsl := small_line hz
    walk_at "go"
    refine ⟨hsl, fun L hL => ?_⟩
    walk_at "go"
    refine ⟨Nat.zero_le _, fun T hT => ?_⟩
    have nLb : L ≠ b := fun q => by obtain ⟨_, _, _, e, _⟩ := hb; rw [q, e] at hL; cases hL
    have nTL : T ≠ L := fun q => by rw [q, upd_same] at hT; cases hT
    rw [upd_ne nTL] at hT
    have nTb : T ≠ b := fun q => by obtain ⟨_, _, _, e, _⟩ := hb; rw [q, e] at hT; cases hT
    walk_at "go"
    refine ⟨_, _, rfl, lenS hsl, ?_⟩
    walk_at "go"
    refine ⟨by omega, by omega, fr_range (lo := 0) (n := z.length) (fun i σ H' => ∃ (kk : Option V) (xs ys : List Str), σ = [some (.ref b), some (.str z), some (.ref L), some (.ref T), kk] ∧ H' L = some (.lst (xs.map V.str)) ∧ H' T = some (.lst (ys.map V.str)) ∧
        (ys ++ xs).Perm (sgn z) ∧ ys.length = i ∧ IsBag H' b (n + i) ∧ Kp b H H') ?_ ?_ ?_⟩
    · refine ⟨none, sgn z, [], rfl, ?_, upd_same, List.Perm.refl _, rfl, ?_, ?_⟩
      · rw [upd_ne nTL.symm, upd_same]
      · obtain ⟨d, s, c, e, r⟩ := hb
        exact ⟨d, s, c, by rw [upd_ne nTb.symm, upd_ne nLb.symm]; exact e, r⟩
      · exact Same.kp (Same.trans (same_new (o := HO.lst ((sgn z).map V.str)) hL) (same_new (by rw [upd_ne nTL]; exact hT)))
    · rintro i σ H' hi ⟨kk, xs, ys, rfl, eL, eT, pm, ly, hb', kp⟩
      have lxs : xs.length = z.length - i := by
        have := pm.length_eq
        rw [List.length_append, sgn_len] at this
        omega
      walk_at "go"
      refine ⟨tyL (SqL.of eT), ?_⟩
      walk_at "go"
      refine ⟨tyL (SqL.of eL), ?_⟩
      walk_at "go"
      refine ⟨_, _, rfl, lenL (SqL.of eL), ?_⟩
      walk_at "go"
      refine ⟨_, _, _, rfl, hb', by omega, by rw [List.length_map]; omega, fun r H2 r0 r1 hb2 off => ?_⟩
      rw [List.length_map] at r1
      have hr1 : r < xs.length := by omega
      have hj : r.toNat < xs.length := by omega
      walk_at "go"
      have eL2 := off.at nLb eL
      have eT2 := off.at nTb eT
      refine ⟨L, xs.map V.str, r, r.toNat, .str xs[r.toNat], rfl, rfl, eL2, by omega, by omega, by rw [List.length_map]; exact seqIx r0 hr1, by simp [hj], ?_⟩
      walk_at "go"
      refine ⟨T, ys.map V.str, _, rfl, rfl, by rw [upd_ne nTL]; exact eT2, by rw [List.length_map]; exact small1000 (by omega), ?_⟩
      walk_at "go"
      refine ⟨some (.int (0 + i)), xs.eraseIdx r.toNat, ys ++ [xs[r.toNat]], rfl, ?_, ?_, ?_, by simp [ly], ?_, ?_⟩
      · rw [upd_ne nTL.symm, upd_same, erase_map]
      · rw [upd_same]; simp
      · refine List.Perm.trans ?_ pm
        rw [List.append_assoc]
        exact (List.Perm.append_left ys (erase_perm hj))
      · obtain ⟨d, s, c, e, q⟩ := hb2
        exact ⟨d, s, c, by rw [upd_ne nTb.symm, upd_ne nLb.symm]; exact e, q⟩
      · intro c o hc e
        have n1 : c ≠ L := fun q => by rw [q, hL] at e; cases e
        have n2 : c ≠ T := fun q => by rw [q, hT] at e; cases e
        rw [upd_ne n2, upd_ne n1]
        exact off.at hc (kp c o hc e)
    · rintro σ H' ⟨kk, xs, ys, rfl, eL, eT, pm, ly, hb', kp⟩
      walk_at "go"
      have lx : xs = [] := by
        have := pm.length_eq
        rw [List.length_append, sgn_len] at this
        exact List.eq_nil_of_length_eq_zero (by omega)
      subst lx
      rw [List.append_nil] at pm
      exact k ys H' T pm hb' kp hT eT nTb

theorem app_cps (x y : Str) : (x ++ y).cps.toList = x.cps.toList ++ y.cps.toList := by
  show (x.cps ++ y.cps).toList = _
  exact Array.toList_append
theorem len_cps (x : Str) : x.length = x.cps.toList.length := by simp [Str.length]
theorem mem_sgn {z : Str} {x : V} (h : x ∈ (sgn z).map V.str) : ∃ c, c ∈ z.cps.toList ∧ x = .str ⟨#[c]⟩ := by
  obtain ⟨y, hy, rfl⟩ := List.mem_map.mp h
  obtain ⟨c, hc, rfl⟩ := List.mem_map.mp hy
  exact ⟨c, hc, rfl⟩
end
end K1

/-! S5 -/
/-! Texts as lists of signs; the good signs. -/
namespace K1
open PySem L2 PyProof.Rows
def one (c : Nat) : Str := ⟨#[c]⟩
theorem str_ext {x y : Str} (h : tl x = tl y) : x = y := by
  cases x with | mk a => cases y with | mk b => exact congrArg Str.mk (Array.toList_inj.mp h)
theorem tl_inj {x y : Str} : tl x = tl y ↔ x = y := ⟨str_ext, fun h => by rw [h]⟩
theorem one_inj {a b : Nat} (h : one a = one b) : a = b := by
  have := congrArg tl h
  simpa [one] using this
abbrev ALL : Str := "0123456789ABCDEFGHIJKLMNOPQRSTUVWXYZ"
/-- signs of a house -/
structure Good (z : Str) : Prop where
  lo : 2 ≤ (tl z).length
  hi : (tl z).length ≤ 12
  up : (tl z).Pairwise (· < ·)
  all : ∀ c ∈ tl z, c ∈ tl ALL
theorem sgn_one (z : Str) : sgn z = (tl z).map one := rfl
theorem ones : ∀ {zs : List Str}, (∀ y ∈ zs, ∃ c, y = one c) → ∃ l : List Nat, zs = l.map one
  | [], _ => ⟨[], rfl⟩
  | y :: zs, h => by
    obtain ⟨c, rfl⟩ := h y (by simp)
    obtain ⟨l, rfl⟩ := ones (zs := zs) fun z hz => h z (List.mem_cons_of_mem _ hz)
    exact ⟨c :: l, rfl⟩
theorem lt_one (a b : Nat) : Spec.ltCps (tl (one a)) (tl (one b)) = decide (a < b) := by
  show (decide (a < b) || (a == b && false)) = decide (a < b)
  rw [Bool.and_false, Bool.or_false]
theorem rising_le : ∀ (l : List Nat) (p : Nat), risingS (one p) (l.map one) = true → (p :: l).Pairwise (· ≤ ·)
  | [], p, _ => by simp
  | c :: l, p, h => by
    have h1 : p ≤ c ∧ risingS (one c) (l.map one) = true := by
      have e : risingS (one p) ((c :: l).map one) = (!Spec.ltCps (tl (one c)) (tl (one p)) && risingS (one c) (l.map one)) := rfl
      rw [e, lt_one] at h
      simpa using h
    have h2 := rising_le l c h1.2
    rw [List.pairwise_cons] at h2 ⊢
    refine ⟨fun d hd => ?_, by rw [List.pairwise_cons]; exact h2⟩
    rcases List.mem_cons.mp hd with rfl | hd
    · exact h1.1
    · exact Nat.le_trans h1.1 (h2.1 d hd)
theorem sorted_le (l : List Nat) (h : sortedS (l.map one) = true) : l.Pairwise (· ≤ ·) := by
  cases l with
  | nil => exact List.Pairwise.nil
  | cons c l => exact rising_le l c h
theorem join_ones : ∀ l : List Nat, tl (Str.join "" (l.map one)) = l
  | [] => rfl
  | [c] => rfl
  | c :: d :: l => by
    have ih := join_ones (d :: l)
    show tl (one c ++ "" ++ Str.join "" ((d :: l).map one)) = _
    rw [tl, app_cps, app_cps]
    rw [tl] at ih
    rw [ih]
    rfl
theorem nodup_all : (sgn ALL).Nodup := by decide +kernel
/-- what sorted of the first m of a mixed row of all signs, put together, is -/
theorem good_of {ys zs : List Str} {m : Nat} (hy : ys.Perm (sgn ALL)) (h2 : 2 ≤ m) (h12 : m ≤ 12) (hz : zs.Perm (ys.take m)) (hs : sortedS zs = true) :
    Good (Str.join "" zs) ∧ (tl (Str.join "" zs)).length = m ∧ (∀ y ∈ zs, y.length = 1) ∧ zs.length = m := by
  have hlen : ys.length = 36 := by rw [hy.length_eq]; decide +kernel
  have ht : (ys.take m).length = m := by rw [List.length_take]; omega
  have hzl : zs.length = m := by rw [hz.length_eq, ht]
  have hmem : ∀ y ∈ zs, ∃ c, y = one c ∧ c ∈ tl ALL := fun y q => by
    have a := hz.mem_iff.mp q
    have b := hy.mem_iff.mp (List.mem_of_mem_take a)
    obtain ⟨c, hc, rfl⟩ := List.mem_map.mp b
    exact ⟨c, rfl, hc⟩
  obtain ⟨l, rfl⟩ := ones (zs := zs) fun y q => by obtain ⟨c, e, _⟩ := hmem y q; exact ⟨c, e⟩
  have hnd : (l.map one).Nodup := hz.nodup_iff.mpr ((hy.nodup_iff.mpr nodup_all).sublist (List.take_sublist _ _))
  have hne : l.Pairwise (· ≠ ·) := (List.pairwise_map.mp hnd).imp fun h e => h (by rw [e])
  have hlt : l.Pairwise (· < ·) := ((sorted_le l hs).and hne).imp fun ⟨a, b⟩ => by omega
  have hl : l.length = m := by rw [← hzl, List.length_map]
  refine ⟨⟨?_, ?_, ?_, ?_⟩, ?_, ?_, hzl⟩
  · rw [join_ones, hl]; exact h2
  · rw [join_ones, hl]; exact h12
  · rw [join_ones]; exact hlt
  · rw [join_ones]
    intro c hc
    obtain ⟨d, e, hd⟩ := hmem (one c) (List.mem_map_of_mem hc)
    rw [one_inj e]; exact hd
  · rw [join_ones, hl]
  · intro y q
    obtain ⟨c, rfl, _⟩ := hmem y q
    rfl
end K1

/-! B11 -/

/-! Rules for names of the module, unpacking of a list or tuple; new lists. -/
namespace K4
open PySem L2 K1 PyProof.Rows
def GI (mg : Str → Option Value) (x : Str) (i : Int) : Prop := ∃ t, mg x = some (.int i t)
def GS (mg : Str → Option Value) (x : Str) (z : Str) : Prop := ∃ t, mg x = some (.str z t)
section
variable {X : Cx} {x : Str} {i : Int} {z : Str} {a : Addr} {pos : Pos}
theorem pe_gI (h : GI X.mg x i) (hg : Gl X x := by rfl) (hd : (x == ("__debug__" : Str)) = false := by decide) : PE X (.Name x pos) (tC (.int i)) := by
  obtain ⟨t, h⟩ := h
  exact pe_glob hg h ⟨t, rfl⟩ hd
theorem pe_gS (h : GS X.mg x z) (hg : Gl X x := by rfl) (hd : (x == ("__debug__" : Str)) = false := by decide) : PE X (.Name x pos) (tC (.str z)) := by
  obtain ⟨t, h⟩ := h
  exact pe_glob hg h ⟨t, rfl⟩ hd
theorem pe_gR (h : X.mg x = some (.ref a)) (hg : Gl X x := by rfl) (hd : (x == ("__debug__" : Str)) = false := by decide) : PE X (.Name x pos) (tC (.ref a)) := pe_glob hg h rfl hd
def gSq (K : PySem.W.Frag) (n : Nat) (t : TGs) : TG := fun v σ H Q => gTup K n t v σ H Q ∨ gUnl K n t v σ H Q
theorem pg_sq {es : List Expr} {k : Nat} {t : TGs} {n : Nat} (hc : X.calm = true) (h : PGs X es t)
    (hn : (assignEach es X.env).length = n := by rfl) (hst : (assignEach es X.env).findIdx? (·.1) = none := by rfl) : PG X (.Tuple es k pos) (gSq X.K n t) := by
  refine ⟨fun pins s σ H v u Q I r hw => ?_⟩
  rcases hw with hw | hw
  · exact (pg_tup (pos := pos) (k := k) hc h hn hst).run pins s σ H v u Q I r hw
  · exact (pg_unl (pos := pos) (k := k) hc h hn hst).run pins s σ H v u Q I r hw
end
theorem r_gSq {K : PySem.W.Frag} {n : Nat} {t : TGs} {v : V} {xs : List V} {σ : L2.St} {H : Hp} {Q : L2.St → Hp → Prop} (h : Sq K H v xs) (hn : xs.length = n) (q : t xs σ H Q) : gSq K n t v σ H Q := by
  obtain ⟨a, rfl, h | h⟩ := h
  · exact .inr ⟨a, xs, rfl, h, hn, q⟩
  · exact .inl ⟨a, xs, rfl, h, hn, q⟩
theorem r_kd {K : PySem.W.Frag} {w : World} {a : Addr} {z : Str} {v : V} {H : Hp} {Q : VK} (h : KDct K w a z v) (q : Q v H) : rIxD K w (.ref a) (.str z) H Q := ⟨a, z, v, rfl, rfl, h, q⟩
/-! ### texts that begin with a text -/
theorem pref_take : ∀ (y x : List Nat), y.isPrefixOf x = (decide (y.length ≤ x.length) && (x.take y.length == y))
  | [], x => by simp
  | b :: y, [] => by simp
  | b :: y, a :: x => by
    rw [List.isPrefixOf, pref_take y x]
    simp only [List.length_cons, List.take_succ_cons, Nat.add_le_add_iff_right]
    by_cases e : b = a
    · subst e; simp
    · have e' : ¬ a = b := fun q => e q.symm
      have b1 : (b == a) = false := by simpa using e
      have b3 : (a :: x.take y.length == b :: y) = false := by simp [e']
      rw [b1, Bool.false_and]
      simp [e']
theorem starts_iff (x y : Str) : Txt.startswith x y = (tl y).isPrefixOf (tl x) := by
  unfold Txt.startswith
  rw [PySem.StrLaws.subAt_eq, pref_take, List.drop_zero, Nat.zero_add, len_tl x, len_tl y]
theorem starts_app (x y : Str) : Txt.startswith x y = true ↔ ∃ r, tl x = tl y ++ r := by
  rw [starts_iff, List.isPrefixOf_iff_prefix]
  exact ⟨fun ⟨r, h⟩ => ⟨r, h.symm⟩, fun ⟨r, h⟩ => ⟨r, h.symm⟩⟩
theorem cutV_mid {xs : List V} (i j : Nat) : cutV xs (some (i : Int)) (some (j : Int)) = (xs.drop i).take (j - i) := by
  unfold cutV
  rw [HT.sIx_nat, HT.sIx_nat]
  by_cases h : i ≤ xs.length
  · rw [Nat.min_eq_left h]
    by_cases h2 : j ≤ xs.length
    · rw [Nat.min_eq_left h2]
    · rw [Nat.min_eq_right (by omega), List.take_of_length_le (by rw [List.length_drop]; omega), List.take_of_length_le (by rw [List.length_drop]; omega)]
  · have hi : min i xs.length = xs.length := Nat.min_eq_right (by omega)
    rw [hi]
    have e1 : xs.drop i = [] := List.drop_eq_nil_of_le (by omega)
    have e2 : xs.drop xs.length = [] := List.drop_eq_nil_of_le (by omega)
    rw [e1, e2]; simp
theorem cutV_from {xs : List V} (i : Nat) : cutV xs (some (i : Int)) none = xs.drop i := by
  unfold cutV
  rw [HT.sIx_nat, HT.sIx_none]
  by_cases h : i ≤ xs.length
  · rw [Nat.min_eq_left h, List.take_of_length_le (by rw [List.length_drop]; omega)]
  · have hi : min i xs.length = xs.length := Nat.min_eq_right (by omega)
    rw [hi]
    have e1 : xs.drop i = [] := List.drop_eq_nil_of_le (by omega)
    have e2 : xs.drop xs.length = [] := List.drop_eq_nil_of_le (by omega)
    rw [e1, e2]; simp
theorem r_iteN' {p : Prop} {dp : Decidable p} {A B : Prop} (y : p → A) (n : ¬ p → B) : if decide p = true then A else B := by
  by_cases h : p
  · rw [decide_eq_true h]; exact y h
  · rw [decide_eq_false h]; exact n h
theorem at_0 {x : V} {xs : List V} : atI (x :: xs) 0 = some x := atI_nat (xs := x :: xs) (j := 0) rfl
theorem at_1 {x y : V} {xs : List V} : atI (x :: y :: xs) 1 = some y := atI_nat (xs := x :: y :: xs) (j := 1) rfl
theorem at_2 {x y z : V} {xs : List V} : atI (x :: y :: z :: xs) 2 = some z := atI_nat (xs := x :: y :: z :: xs) (j := 2) rfl
theorem tru_l {K : PySem.W.Frag} {H : Hp} {a : Addr} {xs : List V} {k : Bool} (h : SqL K H a xs) (e : k = !xs.isEmpty) : TruV K (.ref a) H k := .inl ⟨xs, h, e⟩
theorem hu65_of {k : Nat} {A : Around} (r : Room k A) : A.units + 65 < cLine := by have := r.un; omega
theorem shaped_of {d : PyData} (h : flatN d = true) (k : d.depth ≤ 64) : SeqAt.shaped d = true := by
  unfold SeqAt.shaped
  rw [canLay_flat d h, decide_eq_true k]
  rfl
theorem same_upd {H H' : Hp} {D : Addr} {o : HO} (s : Same H H') (h : H D = none) : Same H (upd H' D o) := fun c u e => by
  rw [upd_ne (ne_of_none e h)]
  exact s c u e
theorem all_bl (l : List Nat) (f : Nat → Bool) : l.map (fun c => V.bl (f c)) = (l.map f).map V.bl := by rw [List.map_map]; rfl
theorem get_map {α : Type} {f : α → V} {l : List α} {i : Nat} {x : V} (h : (l.map f)[i]? = some x) : ∃ a, l[i]? = some a ∧ x = f a := by
  rw [List.getElem?_map] at h
  cases e : l[i]? with
  | none => rw [e] at h; cases h
  | some a => rw [e] at h; exact ⟨a, rfl, (Option.some.inj h).symm⟩
theorem take_next {α β : Type} {f : α → β} {l : List α} {i : Nat} {a : α} (h : l[i]? = some a) : (l.take i).map f ++ [f a] = (l.take (i + 1)).map f := by
  rw [List.take_succ, h]; simp
theorem acc_next {α : Type} {f : α → V} {l : List α} {acc : List V} {i : Nat} {a : α} (ha : acc = (l.take acc.length).map f) (hl : acc.length = i) (h : l[i]? = some a) : acc ++ [f a] = (l.take (acc ++ [f a]).length).map f := by
  subst hl
  rw [List.length_append]
  show _ = (l.take (acc.length + 1)).map f
  rw [← take_next h, ← ha]
theorem tru_lst {K : PySem.W.Frag} {H : Hp} {a : Addr} {xs : List V} {k : Bool} (h : SqL K H a xs) (e : k = !xs.isEmpty) : TruV K (.ref a) H k := .inl ⟨xs, h, e⟩
theorem new_end {H H1 : Hp} {p : Addr} {o : HO} (hp : H p = none) (e : upd H p o = H1) : Same H H1 ∧ H1 p = some o := by
  subst e
  exact ⟨same_new hp, upd_same⟩
theorem line_small {n : Nat} (h : n ≤ 1000) : n < sizeLine := small1000 h
theorem hu1 {k : Nat} {A : Around} (r : Room k A) : A.units + 1 < cLine := by have := r.un; omega
theorem cat_new {H : Hp} {Q : VK} {p0 : Addr} {xs ys : List V} (e : H p0 = some (.lst xs)) (l : xs.length + ys.length ≤ 1000) (q : ∀ H' p, Same H H' → H' p = some (.lst (xs ++ ys)) → Q (.ref p) H') :
    ys.length ≤ sizeLine ∧ ∀ p, H p = none → rCat (.ref p0) (.ref p) (upd H p (.lst ys)) Q :=
  ⟨Nat.le_of_lt (line_small (by omega)), fun p hp => ⟨p0, p, xs, ys, rfl, rfl, same_new hp _ _ e, upd_same, Nat.le_of_lt (line_small l), fun r hr => q _ r (Same.trans (same_new hp) (same_new hr)) upd_same⟩⟩
theorem cat_two {H : Hp} {Q : VK} {p0 p1 : Addr} {xs ys : List V} (e : H p0 = some (.lst xs)) (e1 : H p1 = some (.lst ys)) (l : xs.length + ys.length ≤ 1000) (q : ∀ H' p, Same H H' → H' p = some (.lst (xs ++ ys)) → Q (.ref p) H') : rCat (.ref p0) (.ref p1) H Q :=
  ⟨p0, p1, xs, ys, rfl, rfl, e, e1, Nat.le_of_lt (line_small l), fun r hr => q _ r (same_new hr) upd_same⟩
theorem sl_new {K : PySem.W.Frag} {H : Hp} {Q : VK} {p0 : Addr} {xs : List V} {lo hi : Option Int} (e : H p0 = some (.lst xs)) (q : ∀ H' p, Same H H' → H' p = some (.lst (cutV xs lo hi)) → Q (.ref p) H') : rSlL K (.ref p0) lo hi H Q :=
  r_slL (SqL.of e) fun p hp => q _ p (same_new hp) upd_same
theorem _root_.K1.IsBag.same {H H' : Hp} {b : Addr} {n : Nat} (h : IsBag H b n) (s : Same H H') : IsBag H' b n := by
  obtain ⟨d, x, c, e, r⟩ := h
  exact ⟨d, x, c, s _ _ e, r⟩
theorem cat_twoF {H : Hp} {Q : VK} {p0 p1 : Addr} {xs ys : List V} (e : H p0 = some (.lst xs)) (e1 : H p1 = some (.lst ys)) (l : xs.length + ys.length ≤ 1000) (q : ∀ H' p, H p = none → Same H H' → H' p = some (.lst (xs ++ ys)) → Q (.ref p) H') : rCat (.ref p0) (.ref p1) H Q :=
  ⟨p0, p1, xs, ys, rfl, rfl, e, e1, Nat.le_of_lt (line_small l), fun r hr => q _ r hr (same_new hr) upd_same⟩
theorem sl_newF {K : PySem.W.Frag} {H : Hp} {Q : VK} {p0 : Addr} {xs : List V} {lo hi : Option Int} (e : H p0 = some (.lst xs)) (q : ∀ H' p, H p = none → Same H H' → H' p = some (.lst (cutV xs lo hi)) → Q (.ref p) H') : rSlL K (.ref p0) lo hi H Q :=
  r_slL (SqL.of e) fun p hp => q _ p hp (same_new hp) upd_same
theorem none_ok {P : Program} {w : World} {K : PySem.W.Frag} {mg : Str → Option Value} {base : Heap} {f : Addr} {fd : FuncData} {k : Nat} {ps : List Str} {sp : Sp} (no : ∀ vs H Q E, ¬ sp vs H Q E) : FnOk P w K mg base CX0 k f fd ps sp :=
  ⟨fun vs H Q E h => absurd h (no vs H Q E), fun A outer s H args us vs Q E _ _ _ _ h => absurd h (no vs H Q E)⟩
section
variable {X : Cx} {T : String} {name : Str} {id : String} {r : V → List V → Hp → VK → Prop} {o : Expr} {to : TE} {e : Expr} {es : List Expr} {t : TA} {apos cpos : Pos}
theorem pe_bmK {K : PySem.W.Frag} (hK : X.K = K) (pa : PlainAttrs T) (slot : Slot T name id) (hty : typeOf (.builtin id) = Pure.pure (.type "method_descriptor")) (hm : MtR X id r) (ho : PE X o to) (ha : PA X (e :: es) t)
    (hbase : attributeBase o name X.env (eval o X.env) = eval o X.env := by rfl)
    (hfew : ((backTo cpos (starEach (e :: es) X.env)).all (fun x => !x.1) && (backToKw cpos (keywordEach [] X.env)).all (fun x => x.1.isSome)
      && decide ((e :: es).length + ([] : List Keyword).length + (if ([] : List Keyword).isEmpty then 0 else 1) < 30)) = true := by rfl)
    (hline : (apos.endLine == cpos.line) = true := by rfl) (hs : starEach (e :: es) X.env = (false, eval e X.env) :: starEach es X.env := by rfl) (hplain : (backTo cpos (starEach es X.env)).any (·.1) = false := by rfl) :
    PE X (.Call (.Attribute o name apos) (e :: es) [] cpos) (tBM K T r to t) := by
  subst hK
  exact pe_bm pa slot hty hm ho ha hbase hfew hline hs hplain
end
end K4

/-! D11 -/
/-! The data of rules: their shapes; lists in place of tuples; what a new thing holds; ends of texts. -/
namespace K4
open PySem L2 K1
theorem line60 {n : Nat} (h : n ≤ 1000) : n < sizeLine := small1000 h
def spIntsWord (K : PySem.W.Frag) : Sp := fun vs H Q _ => ∃ (v : V) (ns : List Nat), vs = [v] ∧ NumsAt K H v ns ∧ ns.length ≤ 60 ∧ (∀ n ∈ ns, n ≤ 60) ∧ ∀ H', Same H H' → Q (.str (commas ns)) H'
def spRW (K : PySem.W.Frag) (n : Nat) : Sp := fun vs H Q _ => ∃ (v : V) (r : R), vs = [v] ∧ RAt K H v r ∧ r.ok ∧ r.parts ≤ 100 ∧ r.depth ≤ n ∧ ∀ H' p, Same H H' → H p = none → H' p = some (.lst (r.words.map V.str)) → Q (.ref p) H'
theorem kind_of {o : Ow} {k : Nat} (hk : k < 9) (h : V.str o.word = V.str (wd k)) : o.kind = k := wd_inj _ o.kind_lt _ hk (V.str.inj h)
theorem at0 {x : V} {xs : List V} : atI (x :: xs) 0 = some x := at_0
theorem strOk_of {z : Str} (h : ∀ c ∈ tl z, c < 1114112) : PyData.strOk z = true := by
  unfold PyData.strOk
  rw [← Array.all_toList]
  exact List.all_eq_true.mpr fun c hc => decide_eq_true (h c hc)
theorem all_lt : ∀ c ∈ tl K4.ALL, c < 1114112 := by decide +kernel
theorem wd_str : ∀ i < 9, PyData.strOk (wd i) = true := by decide +kernel
theorem Face.str {f : Str} (h : Face f) : PyData.strOk f = true := strOk_of fun c hc => all_lt c (h.2.2 c hc)
theorem Ow.flat {o : Ow} (h : o.ok) (t : Bool) : ∀ d ∈ o.data t, flatN d = true ∧ d.depth ≤ 2 := by
  have nums : ∀ ns : List Nat, flatN (sq t (ns.map pn)) = true ∧ (sq t (ns.map pn)).depth ≤ 1 := fun ns =>
    ⟨flat_sq fun d hd => (mem_map_pn hd).1, depth_sq (n := 0) fun d hd => (mem_map_pn hd).2⟩
  cases o with
  | sum m ws g =>
    intro d hd
    simp only [Ow.data, List.mem_cons, List.not_mem_nil, or_false] at hd
    rcases hd with rfl | rfl | rfl
    · exact ⟨rfl, Nat.zero_le _⟩
    · exact ⟨(nums ws).1, Nat.le_trans (nums ws).2 (by decide)⟩
    · exact ⟨rfl, Nat.zero_le _⟩
  | square rows gs =>
    intro d hd
    simp only [Ow.data, List.mem_cons, List.not_mem_nil, or_false] at hd
    rcases hd with rfl | rfl
    · exact ⟨flat_sq fun d hd => by obtain ⟨r, _, rfl⟩ := List.mem_map.mp hd; exact (nums r).1, depth_sq (n := 1) fun d hd => by obtain ⟨r, _, rfl⟩ := List.mem_map.mp hd; exact (nums r).2⟩
    · exact ⟨(nums gs).1, Nat.le_trans (nums gs).2 (by decide)⟩
  | faces fs =>
    intro d hd
    simp only [Ow.data, List.mem_cons, List.not_mem_nil, or_false] at hd
    subst hd
    refine ⟨flat_sq fun d hd => by obtain ⟨r, hr, rfl⟩ := List.mem_map.mp hd; exact (h.2.2 r hr).str, Nat.le_trans (depth_sq (n := 0) fun d hd => ?_) (by decide)⟩
    obtain ⟨r, hr, rfl⟩ := List.mem_map.mp hd
    exact Nat.le_refl _
  | cut a b =>
    intro d hd
    simp only [Ow.data, List.mem_cons, List.not_mem_nil, or_false] at hd
    rcases hd with rfl | rfl <;> exact ⟨rfl, Nat.zero_le _⟩
  | _ => intro d hd; simp [Ow.data] at hd
theorem R.flat (t : Bool) : ∀ {r : R}, r.ok → flatN (r.data t) = true ∧ (r.data t).depth ≤ r.depth + 2
  | .n0 o, h => by
    have a := Ow.flat h.1 t
    refine ⟨flat_sq fun d hd => ?_, depth_sq (n := 2) fun d hd => ?_⟩
    all_goals
      simp only [List.mem_cons] at hd
      rcases hd with rfl | hd
    · exact wd_str _ o.kind_lt
    · exact (a d hd).1
    · exact Nat.zero_le _
    · exact (a d hd).2
  | .n1 o r, h => by
    have a := Ow.flat h.1 t
    have b := R.flat t h.2.2
    refine ⟨flat_sq fun d hd => ?_, depth_sq (n := r.depth + 2) fun d hd => ?_⟩
    all_goals
      simp only [List.mem_cons, List.mem_append, List.not_mem_nil, or_false] at hd
      rcases hd with rfl | hd | rfl
    · exact wd_str _ o.kind_lt
    · exact (a d hd).1
    · exact b.1
    · exact Nat.zero_le _
    · exact Nat.le_trans (a d hd).2 (by omega)
    · exact b.2
  | .n2 o r s, h => by
    have a := Ow.flat h.1 t
    have b := R.flat t h.2.2.1
    have c := R.flat t h.2.2.2
    refine ⟨flat_sq fun d hd => ?_, depth_sq (n := max r.depth s.depth + 2) fun d hd => ?_⟩
    all_goals
      simp only [List.mem_cons, List.mem_append, List.not_mem_nil, or_false] at hd
      rcases hd with rfl | hd | rfl | rfl
    · exact wd_str _ o.kind_lt
    · exact (a d hd).1
    · exact b.1
    · exact c.1
    · exact Nat.zero_le _
    · exact Nat.le_trans (a d hd).2 (by omega)
    · exact Nat.le_trans b.2 (by omega)
    · exact Nat.le_trans c.2 (by omega)
theorem R.shaped (t : Bool) {r : R} (h : r.ok) (k : r.depth ≤ 62) : SeqAt.shaped (r.data t) = true := shaped_of (R.flat t h).1 (Nat.le_trans (R.flat t h).2 (by omega))
theorem R.refl (t : Bool) {r : R} (h : r.ok) : PyData.eqv (r.data t) (r.data t) = true := SeqAt.eqv_refl _ (canLay_flat _ (R.flat t h).1)
mutual
def lstd : PyData → PyData
  | .tuple ds => .list (lstA ds)
  | d => d
def lstA : List PyData → List PyData
  | [] => []
  | d :: ds => lstd d :: lstA ds
end
theorem lstA_map : ∀ ds : List PyData, lstA ds = ds.map lstd
  | [] => rfl
  | d :: ds => by rw [lstA, lstA_map ds]; rfl
theorem lstd_nums (ns : List Nat) : (ns.map pn).map lstd = ns.map pn := by
  rw [List.map_map]
  exact List.map_congr_left fun n _ => by simp [pn, lstd]
theorem lstd_tup (ds : List PyData) : lstd (.tuple ds) = .list (ds.map lstd) := by rw [lstd, lstA_map]
theorem Ow.lst (o : Ow) : (o.data true).map lstd = o.data false := by
  cases o with
  | sum m ws g => simp only [Ow.data, List.map_cons, List.map_nil, sq, if_true, lstd_tup, lstd_nums]; simp [pn, lstd]
  | square rows gs =>
    simp only [Ow.data, List.map_cons, List.map_nil, sq, if_true, lstd_tup, lstd_nums, List.map_map]
    simp only [Bool.false_eq_true, if_false]
    refine congrArg (fun x => [PyData.list x, PyData.list (gs.map pn)]) ?_
    exact List.map_congr_left fun r _ => by show lstd (.tuple (r.map pn)) = _; rw [lstd_tup, lstd_nums]
  | faces fs =>
    simp only [Ow.data, List.map_cons, List.map_nil, sq, if_true, lstd_tup, List.map_map]
    simp only [Bool.false_eq_true, if_false]
    refine congrArg (fun x => [PyData.list x]) ?_
    exact List.map_congr_left fun r _ => by simp [lstd]
  | cut a b => simp [Ow.data, pn, lstd]
  | _ => simp [Ow.data]
theorem R.lst : ∀ r : R, lstd (r.data true) = r.data false
  | .n0 o => by
    show lstd (.tuple _) = .list _
    rw [lstd_tup, List.map_cons, o.lst]
    simp [lstd]
  | .n1 o a => by
    show lstd (.tuple _) = .list _
    rw [lstd_tup, List.map_cons, List.map_append, o.lst, List.map_cons, a.lst]
    simp [lstd]
  | .n2 o a b => by
    show lstd (.tuple _) = .list _
    rw [lstd_tup, List.map_cons, List.map_append, o.lst, List.map_cons, List.map_cons, a.lst, b.lst]
    simp [lstd]
mutual
def wide : PyData → Bool
  | .tuple ds => decide (ds.length ≤ 1000) && wideA ds
  | _ => true
def wideA : List PyData → Bool
  | [] => true
  | d :: ds => wide d && wideA ds
end
theorem wideA_iff : ∀ {ds : List PyData}, wideA ds = true ↔ ∀ d ∈ ds, wide d = true
  | [] => by simp [wideA]
  | d :: ds => by simp [wideA, wideA_iff]
theorem wide_tup {ds : List PyData} (h : ds.length ≤ 1000) (k : ∀ d ∈ ds, wide d = true) : wide (.tuple ds) = true := by
  rw [wide, decide_eq_true h, wideA_iff.mpr k]
  rfl
theorem wide_nums {ns : List Nat} (h : ns.length ≤ 1000) : wide (.tuple (ns.map pn)) = true := wide_tup (by rw [List.length_map]; exact h) fun d hd => by obtain ⟨n, _, rfl⟩ := List.mem_map.mp hd; rfl
theorem Ow.wide {o : Ow} (h : o.ok) : ∀ d ∈ o.data true, K4.wide d = true := by
  cases o with
  | sum m ws g =>
    intro d hd
    simp only [Ow.data, List.mem_cons, List.not_mem_nil, or_false] at hd
    rcases hd with rfl | rfl | rfl
    · rfl
    · exact wide_nums (by have := h.2.2.1.2.1; omega)
    · rfl
  | square rows gs =>
    intro d hd
    simp only [Ow.data, List.mem_cons, List.not_mem_nil, or_false] at hd
    rcases hd with rfl | rfl
    · exact wide_tup (by rw [List.length_map]; have := h.2.1; omega) fun d hd => by obtain ⟨r, hr, rfl⟩ := List.mem_map.mp hd; exact wide_nums (by have := (h.2.2.1 r hr).2.1; omega)
    · exact wide_nums (by have := h.2.2.2.2.1; omega)
  | faces fs =>
    intro d hd
    simp only [Ow.data, List.mem_cons, List.not_mem_nil, or_false] at hd
    subst hd
    exact wide_tup (by rw [List.length_map]; have := h.2.1; omega) fun d hd => by obtain ⟨r, hr, rfl⟩ := List.mem_map.mp hd; rfl
  | cut a b =>
    intro d hd
    simp only [Ow.data, List.mem_cons, List.not_mem_nil, or_false] at hd
    rcases hd with rfl | rfl <;> rfl
  | _ => intro d hd; simp [Ow.data] at hd
theorem R.wide : ∀ {r : R}, r.ok → K4.wide (r.data true) = true
  | .n0 o, h => wide_tup (by have := mn_le o.kind; rw [List.length_cons, Ow.data_len]; omega) fun d hd => by
      simp only [List.mem_cons] at hd
      rcases hd with rfl | hd
      · rfl
      · exact Ow.wide h.1 d hd
  | .n1 o a, h => wide_tup (by have := mn_le o.kind; rw [List.length_cons, List.length_append, Ow.data_len]; simp only [List.length_cons, List.length_nil]; omega) fun d hd => by
      simp only [List.mem_cons, List.mem_append, List.not_mem_nil, or_false] at hd
      rcases hd with rfl | hd | rfl
      · rfl
      · exact Ow.wide h.1 d hd
      · exact R.wide h.2.2
  | .n2 o a b, h => wide_tup (by have := mn_le o.kind; rw [List.length_cons, List.length_append, Ow.data_len]; simp only [List.length_cons, List.length_nil]; omega) fun d hd => by
      simp only [List.mem_cons, List.mem_append, List.not_mem_nil, or_false] at hd
      rcases hd with rfl | hd | rfl | rfl
      · rfl
      · exact Ow.wide h.1 d hd
      · exact R.wide h.2.2.1
      · exact R.wide h.2.2.2
/-! ### what is new in a heap -/
def New (H H' : Hp) : Hp := fun c => match H c with | none => H' c | some _ => none
theorem New.same {H H' : Hp} : Same (New H H') H' := fun c u e => by
  unfold New at e
  cases h : H c with
  | none => rw [h] at e; exact e
  | some o => rw [h] at e; cases e
theorem New.at {H H' : Hp} {c : Addr} (h : H c = none) : New H H' c = H' c := by unfold New; rw [h]
theorem New.le {H0 H1 H H' : Hp} (a : ∀ c, H1 c = none → H0 c = none) (s : ∀ c u, H1 c = none → H c = some u → H' c = some u) : Same (New H1 H) (New H0 H') := fun c u e => by
  unfold New at e
  cases h : H1 c with
  | none => rw [h] at e; rw [New.at (a c h)]; exact s c u h e
  | some o => rw [h] at e; cases e
section
variable {K : PySem.W.Frag} {H : Hp} {a : Addr} {xs : List V}
theorem tyxT (h : SqT K H a xs) : TyX K H (.ref a) (.type "tuple") := by
  rcases h with (h | ⟨u, h⟩) | ⟨o, its, n, e, c, _⟩
  · exact .base (.tup h)
  · exact .fTuple h
  · exact .kTuple e c
theorem tyxL (h : SqL K H a xs) : TyX K H (.ref a) (.type "list") := by
  rcases h with (h | ⟨u, h⟩) | ⟨o, its, n, e, c, _⟩
  · exact .base (.lst h)
  · exact .base (.frz h)
  · exact .kList e c
end
/-! ### ends of texts -/
theorem ends_app (x y r : Str) (h : tl x = tl r ++ tl y) : Txt.endswith x y = true := by
  have lx : x.length = r.length + y.length := by rw [len_tl x, len_tl r, len_tl y, h, List.length_append]
  unfold Txt.endswith
  rw [PySem.StrLaws.subAt_eq]
  have e : x.length - y.length = (tl r).length := by rw [lx, ← len_tl r]; omega
  have e2 : y.length = (tl y).length := len_tl y
  show (decide (0 + y.length ≤ x.length) && (((tl x).drop (x.length - y.length)).take y.length == tl y)) = true
  rw [e, h, List.drop_left, e2, List.take_length, decide_eq_true (by omega)]
  simp
theorem joinL_app {S : List Nat} : ∀ {xs ys : List (List Nat)}, xs ≠ [] → ys ≠ [] → TL.joinL S (xs ++ ys) = TL.joinL S xs ++ (S ++ TL.joinL S ys)
  | [], _, h, _ => absurd rfl h
  | [x], [], _, h => absurd rfl h
  | [x], y :: ys, _, _ => rfl
  | x :: z :: xs, ys, _, h => by
    show x ++ (S ++ TL.joinL S (z :: xs ++ ys)) = x ++ (S ++ TL.joinL S (z :: xs)) ++ _
    rw [joinL_app (by simp) h]
    simp
theorem join_app {s : Str} {xs ys : List Str} (h : xs ≠ []) (k : ys ≠ []) : tl (Txt.join s (xs ++ ys)) = tl (Txt.join s xs) ++ (tl s ++ tl (Txt.join s ys)) := by
  rw [tl_joinL, tl_joinL, tl_joinL, List.map_append, joinL_app (by simpa using h) (by simpa using k)]
end K4

/-! Q11 -/

/-! Rules that fit signs, and what they say of a paper: pure. -/
namespace K4
open PySem L2
def Ow.fit (z : List Nat) : Ow → Prop
  | .sum m ws g => 2 ≤ m ∧ m ≤ 60 ∧ ws ≠ [] ∧ ws.length ≤ 8 ∧ (∀ w ∈ ws, w < m) ∧ g < m
  | .square rows gs => rows ≠ [] ∧ rows.length ≤ 60 ∧ (∀ r ∈ rows, r.length = z.length ∧ ∀ x ∈ r, x < rows.length) ∧ gs ≠ [] ∧ gs.Pairwise (· < ·) ∧ ∀ g ∈ gs, g < rows.length
  | .faces fs => fs ≠ [] ∧ fs.length ≤ 4 ∧ ∀ f ∈ fs, (tl f).length = z.length ∧ ∀ c ∈ tl f, c ∈ z
  | .cut a b => a ≤ 3 ∧ b ≤ 3
  | _ => True
def R.fit (z : List Nat) : R → Prop
  | .n0 o => o.fit z ∧ ar o.kind = 0 | .n1 o a => o.fit z ∧ ar o.kind = 1 ∧ a.fit z | .n2 o a b => o.fit z ∧ ar o.kind = 2 ∧ a.fit z ∧ b.fit z
theorem R.fit_ow {z : List Nat} : ∀ {r : R}, r.fit z → r.ow.fit z ∧ r.inner.length = ar r.ow.kind
  | .n0 _, h => ⟨h.1, h.2.symm⟩
  | .n1 _ _, h => ⟨h.1, h.2.1.symm⟩
  | .n2 _ _ _, h => ⟨h.1, h.2.1.symm⟩
theorem R.fit_in {z : List Nat} : ∀ {r : R}, r.fit z → ∀ i ∈ r.inner, i.fit z
  | .n0 _, _, i, q => by simp [R.inner] at q
  | .n1 _ _, h, i, q => by simp only [R.inner, List.mem_cons, List.not_mem_nil, or_false] at q; rw [q]; exact h.2.2
  | .n2 _ _ _, h, i, q => by
    simp only [R.inner, List.mem_cons, List.not_mem_nil, or_false] at q
    rcases q with rfl | rfl
    · exact h.2.2.1
    · exact h.2.2.2
/-- ascending numbers below n are at most n many -/
theorem asc_len : ∀ {gs : List Nat} {n : Nat} (k : Nat), gs.Pairwise (· < ·) → (∀ g ∈ gs, k ≤ g ∧ g < n) → gs.length + k ≤ max n k
  | [], n, k, _, _ => by simp; omega
  | g :: gs, n, k, h, b => by
    rw [List.pairwise_cons] at h
    have b0 := b g (List.mem_cons_self ..)
    have ih := asc_len (gs := gs) (n := n) (g + 1) h.2 fun y hy => ⟨h.1 y hy, (b y (List.mem_cons_of_mem _ hy)).2⟩
    rw [List.length_cons]
    omega
theorem Ow.fit_ok {z : List Nat} (z2 : 2 ≤ z.length) (z12 : z.length ≤ 12) (zA : ∀ c ∈ z, c ∈ tl ALL) : ∀ {o : Ow}, o.fit z → o.ok
  | .sum m ws g, ⟨h1, h2, h3, h4, h5, h6⟩ => ⟨h1, h2, ⟨h3, by omega, fun n q => by have := h5 n q; omega⟩, h4, by omega⟩
  | .square rows gs, ⟨h1, h2, h3, h4, h5, h6⟩ => ⟨h1, h2, fun r q => ⟨by have := (h3 r q).1; omega, by have := (h3 r q).1; omega, fun x hx => by have := (h3 r q).2 x hx; omega⟩,
      h4, by have := asc_len (n := rows.length) 0 h5 fun g q => ⟨Nat.zero_le _, h6 g q⟩; omega, fun n q => by have := h6 n q; omega⟩
  | .faces fs, ⟨h1, h2, h3⟩ => ⟨h1, h2, fun f q => ⟨by have := (h3 f q).1; omega, by have := (h3 f q).1; omega, fun c hc => zA c ((h3 f q).2 c hc)⟩⟩
  | .cut a b, h => h
  | .any, _ => trivial
  | .back, _ => trivial
  | .not, _ => trivial
  | .both, _ => trivial
  | .either, _ => trivial
theorem R.fit_ok {z : List Nat} (z2 : 2 ≤ z.length) (z12 : z.length ≤ 12) (zA : ∀ c ∈ z, c ∈ tl ALL) : ∀ {r : R}, r.fit z → r.ok
  | .n0 _, h => ⟨Ow.fit_ok z2 z12 zA h.1, h.2⟩
  | .n1 _ _, h => ⟨Ow.fit_ok z2 z12 zA h.1, h.2.1, R.fit_ok z2 z12 zA h.2.2⟩
  | .n2 _ _ _, h => ⟨Ow.fit_ok z2 z12 zA h.1, h.2.1, R.fit_ok z2 z12 zA h.2.2.1, R.fit_ok z2 z12 zA h.2.2.2⟩
def wat (ws : List Nat) (k : Nat) : Nat := ws.getD (k % ws.length) 0
def term (z ws p : List Nat) (k : Nat) : Nat := wat ws k * z.idxOf (p.getD k 0)
def tot (z ws p : List Nat) (n : Nat) : Nat := ((List.range n).map (term z ws p)).sum
def fch (z : List Nat) (fs : List Str) (p : List Nat) (k : Nat) : Nat := (tl (fs.getD (k % fs.length) "")).getD (z.idxOf (p.getD k 0)) 0
def faced (z : List Nat) (fs : List Str) (p : List Nat) : List Nat := (List.range p.length).map (fch z fs p)
def stp (z : List Nat) (rows : List (List Nat)) (at_ c : Nat) : Nat := (rows.getD at_ []).getD (z.idxOf c) 0
def runs (z : List Nat) (rows : List (List Nat)) (at_ : Nat) (p : List Nat) : Nat := p.foldl (stp z rows) at_
def ev (z : List Nat) : R → List Nat → Bool
  | .n0 (.sum m ws g), p => decide (tot z ws p p.length % m = g)
  | .n0 (.square rows gs), p => decide (runs z rows 0 p ∈ gs)
  | .n0 _, _ => true
  | .n1 (.faces fs) a, p => ev z a (faced z fs p)
  | .n1 .back a, p => ev z a p.reverse
  | .n1 (.cut x y) a, p => decide (x + y ≤ p.length) && ev z a ((p.drop x).take (p.length - y - x))
  | .n1 _ a, p => !ev z a p
  | .n2 .both a b, p => ev z a p && ev z b p
  | .n2 _ a b, p => ev z a p || ev z b p
theorem tot_succ (z ws p : List Nat) (n : Nat) : tot z ws p (n + 1) = tot z ws p n + term z ws p n := by
  unfold tot
  rw [List.range_succ, List.map_append, List.sum_append]
  simp
/-- a paper over signs -/
structure Pp (z : List Nat) (p : List Nat) : Prop where
  le : p.length ≤ 60
  all : ∀ c ∈ p, c ∈ z
theorem mod_lt {α : Type} {xs : List α} (h : xs ≠ []) (k : Nat) : k % xs.length < xs.length := Nat.mod_lt _ (List.length_pos_iff.mpr h)
theorem getD_mem {α : Type} {xs : List α} {i : Nat} {d : α} (h : i < xs.length) : xs.getD i d ∈ xs := by
  rw [List.getD_eq_getElem?_getD, List.getElem?_eq_getElem h]
  exact List.getElem_mem h
theorem getD_at {α : Type} {xs : List α} {i : Nat} {d : α} (h : i < xs.length) : xs[i]? = some (xs.getD i d) := by
  rw [List.getD_eq_getElem?_getD, List.getElem?_eq_getElem h]; rfl
theorem idx_lt {z : List Nat} {c : Nat} (h : c ∈ z) : z.idxOf c < z.length := List.idxOf_lt_length_iff.mpr h
theorem idx_at {z : List Nat} {c : Nat} (h : c ∈ z) : z[z.idxOf c]? = some c := by
  rw [List.getElem?_eq_getElem (idx_lt h)]
  exact congrArg some (List.getElem_idxOf (idx_lt h))
theorem faced_len (z : List Nat) (fs : List Str) (p : List Nat) : (faced z fs p).length = p.length := by rw [faced, List.length_map, List.length_range]
theorem fch_mem {z : List Nat} {fs : List Str} {p : List Nat} (h : Ow.fit z (.faces fs)) (hp : Pp z p) {k : Nat} (hk : k < p.length) : fch z fs p k ∈ z := by
  have hf := h.2.2 (fs.getD (k % fs.length) "") (getD_mem (mod_lt h.1 k))
  refine hf.2 _ (getD_mem ?_)
  rw [hf.1]
  exact idx_lt (hp.all _ (getD_mem hk))
theorem Pp.faced {z : List Nat} {fs : List Str} {p : List Nat} (h : Ow.fit z (.faces fs)) (hp : Pp z p) : Pp z (faced z fs p) := by
  refine ⟨by rw [faced_len]; exact hp.le, fun c hc => ?_⟩
  obtain ⟨k, hk, rfl⟩ := List.mem_map.mp hc
  exact fch_mem h hp (List.mem_range.mp hk)
theorem Pp.rev {z p : List Nat} (hp : Pp z p) : Pp z p.reverse := ⟨by rw [List.length_reverse]; exact hp.le, fun c hc => hp.all c (List.mem_reverse.mp hc)⟩
theorem Pp.cut {z p : List Nat} (hp : Pp z p) (i j : Nat) : Pp z ((p.drop i).take j) := ⟨by rw [List.length_take, List.length_drop]; have := hp.le; omega, fun c hc => hp.all c (List.mem_of_mem_drop (List.mem_of_mem_take hc))⟩
theorem stp_lt {z : List Nat} {rows : List (List Nat)} {gs : List Nat} (h : Ow.fit z (.square rows gs)) {a c : Nat} (ha : a < rows.length) (hc : c ∈ z) : stp z rows a c < rows.length := by
  have hr := h.2.2.1 _ (getD_mem (d := ([] : List Nat)) ha)
  exact hr.2 _ (getD_mem (by rw [hr.1]; exact idx_lt hc))
theorem runs_lt {z : List Nat} {rows : List (List Nat)} (h : ∀ a c, a < rows.length → c ∈ z → stp z rows a c < rows.length) : ∀ {p : List Nat} {a : Nat}, a < rows.length → (∀ c ∈ p, c ∈ z) → runs z rows a p < rows.length
  | [], _, ha, _ => ha
  | c :: p, a, ha, hp => by
    show runs z rows (stp z rows a c) p < _
    exact runs_lt h (h a c ha (hp c (List.mem_cons_self ..))) fun x hx => hp x (List.mem_cons_of_mem _ hx)
theorem runs_snoc (z : List Nat) (rows : List (List Nat)) (a : Nat) (p : List Nat) (c : Nat) : runs z rows a (p ++ [c]) = stp z rows (runs z rows a p) c := by
  unfold runs
  rw [List.foldl_append]
  rfl
end K4

/-! P11a -/

local macro_rules | `(tactic| walk_at "go") => `(tactic| repeat (first
  | with_reducible apply K1.r_seq
  | with_reducible apply K1.r_asg
  | ((with_reducible apply K1.r_name); (try dsimp only [List.set]))
  | ((with_reducible apply K1.r_var); (focus rfl))
  | with_reducible apply K1.r_c
  | with_reducible apply K1.r_op
  | with_reducible apply K1.r_un
  | with_reducible apply K1.r_I0
  | with_reducible apply K1.r_test
  | with_reducible apply K1.r_if
  | with_reducible apply K1.r_ifs
  | with_reducible apply K1.r_iteT
  | with_reducible apply K1.r_iteF
  | with_reducible apply K1.r_and
  | with_reducible apply K1.r_or
  | with_reducible apply K1.r_not
  | with_reducible apply K1.r_tB
  | with_reducible apply K1.r_andV
  | with_reducible apply K1.r_orV
  | with_reducible apply K1.r_notV
  | with_reducible apply K1.r_cb
  | with_reducible apply K1.r_cons
  | with_reducible apply K1.r_star
  | with_reducible apply K1.r_nil
  | with_reducible apply K1.r_ret
  | with_reducible apply K1.r_next
  | with_reducible apply K1.r_drop
  | with_reducible apply K1.r_lst
  | with_reducible apply K1.r_tup
  | with_reducible apply K1.r_call
  | with_reducible apply K1.r_gsub
  | with_reducible apply K1.r_for
  | with_reducible apply K1.r_bm
  | with_reducible apply K1.r_bm0
  | with_reducible apply K1.r_sl
  | with_reducible apply K1.r_noPart
  | with_reducible apply K1.r_part
  | with_reducible apply K1.r_iStr
  | with_reducible apply K1.r_iSq
  | with_reducible apply K1.r_iRng1
  | with_reducible apply K1.r_m1
  | with_reducible apply K1.r_chain
  | ((with_reducible apply K1.r_eq); (focus rfl))
  | ((with_reducible apply K1.r_ne); (focus rfl))
  | with_reducible apply K1.r_gnil
  | with_reducible apply K1.r_gcons
  | with_reducible apply K1.r_tfld
  | with_reducible apply K1.r_sfld
  | with_reducible apply K1.r_meth
  | refine ⟨_, rfl, ?_⟩
  | refine ⟨⟨_, rfl⟩, ?_⟩
  | refine Or.inl ⟨_, rfl, ?_⟩
  | dsimp only))
namespace K4
open PySem L2 K1
/-- the program's constants -/
structure G11 (K : PySem.W.Frag) (w : World) (mg : Str → Option Value) (dO dI : Addr) : Prop where
  LEAST_KINDS : GI mg "LEAST_KINDS" 2
  MOST_KINDS : GI mg "MOST_KINDS" 12
  MOST_SIGNS : GI mg "MOST_SIGNS" 60
  LEAST_MODULUS : GI mg "LEAST_MODULUS" 2
  MOST_MODULUS : GI mg "MOST_MODULUS" 60
  MOST_WEIGHTS : GI mg "MOST_WEIGHTS" 8
  MOST_ROWS : GI mg "MOST_ROWS" 60
  MOST_FACES : GI mg "MOST_FACES" 4
  MOST_CUT : GI mg "MOST_CUT" 3
  MOST_PARTS : GI mg "MOST_PARTS" 40
  ALL_SIGNS : GS mg "ALL_SIGNS" K4.ALL
  OV : mg "OWN_VALUES" = some (.ref dO)
  ov : ∀ k < 9, KDct K w dO (wd k) (.int (mn k))
  ovD : ∃ es n, KDict K w dO es n
  ovN : ∀ k < 9, ∃ r, PySem.W.nsIn K dO (wd k) = some (some r)
  ovX : ∀ x : Str, (∀ k < 9, x ≠ wd k) → PySem.W.nsIn K dO x = some none
  IR : mg "INNER_RULES" = some (.ref dI)
  ir : ∀ k < 9, KDct K w dI (wd k) (.int (ar k))
end K4
namespace K1
open PySem L2
abbrev sIsText : Stmt := top 12
abbrev nIsText : List Str := ["thing", "least", "most", "characters", "character"]
theorem scIsText : FnScope nIsText ["thing", "least", "most", "characters"] (defScope sIsText) := ⟨rfl, rfl, rfl, by decide +kernel, rfl, by decide +kernel, by decide +kernel⟩
abbrev sIsAsc : Stmt := top 13
abbrev nIsAsc : List Str := ["things", "k"]
theorem scIsAsc : FnScope nIsAsc ["things"] (defScope sIsAsc) := ⟨rfl, rfl, rfl, by decide +kernel, rfl, by decide +kernel, by decide +kernel⟩
abbrev sAreSigns : Stmt := top 20
abbrev nAreSigns : List Str := ["thing"]
theorem scAreSigns : FnScope nAreSigns ["thing"] (defScope sAreSigns) := ⟨rfl, rfl, rfl, by decide +kernel, rfl, by decide +kernel, by decide +kernel⟩
section
variable {K : PySem.W.Frag} {σ : L2.St} {H : Hp} {Q : VK} {D : Addr} {vs : List Nat} {te : TE} {Qd : Hp → Prop} {ta tb tc : TE}
/-- [f i for i in range(n)], the heap left as it was -/
theorem lc_rmap {i n : Nat} (f : Nat → V) (hD : H D = none) (hz : n ≤ sizeLine) (hw : ∀ x, wipe ((wipe σ vs).set i (some x)) vs = wipe σ vs)
    (he : ∀ j, j < n → ∀ (H' : Hp) (R : VK), Same H H' → R (f j) H' → te ((wipe σ vs).set i (some (.int (0 + j)))) H' R) (hd : Qd (upd H D (.lst ((List.range n).map f)))) :
    ∃ W : Nat → Nat → Hp → Prop, (∃ m, W 0 m (upd H D (.lst []))) ∧ ∀ i₁ m H, W i₁ m H →
      ((Itr 0 n).stop i₁ H ∧ Qd H) ∨ ((Itr 0 n).go i₁ H ∧ ∃ Nx : Hp → Prop, (∀ H', Nx H' → ∃ m', m' < m ∧ W (i₁ + 1) m' H') ∧ ∀ x H', (Itr 0 n).yld i₁ H x H' → gName i x (wipe σ vs) H' fun σ2 H2 => wipe σ2 vs = wipe σ vs ∧ tYes σ2 H2 fun b H3 =>
        if b = true then te σ2 H3 fun y H4 => ∃ acc, H4 D = some (.lst acc) ∧ acc.length < sizeLine ∧ Nx (upd H4 D (.lst (acc ++ [y]))) else Nx H3) := by
  refine lc_range (lo := 0) (n := n) (fun j H' => j ≤ n ∧ H' = upd H D (.lst ((List.range j).map f))) ⟨Nat.zero_le _, rfl⟩ ?_ (fun H' ⟨_, e⟩ => by rw [e]; exact hd)
  rintro j H' hj ⟨_, rfl⟩
  refine ⟨hw _, ?_⟩
  show te _ _ _
  refine he j hj _ _ (same_new hD) ⟨_, upd_same, ?_, ?_⟩
  · simp only [List.length_map, List.length_range]; omega
  · refine ⟨by omega, ?_⟩
    rw [upd_upd, List.range_succ, List.map_append]; rfl
end
theorem len_tl' (x : Str) : x.length = (tl x).length := by simp [Str.length]
def ascL (l : List Nat) : Bool := (List.range (l.length - 1)).all fun k => decide (l.getD k 0 < l.getD (k + 1) 0)
def textB (lo hi : Int) (cs y : Str) : Bool := decide (lo ≤ y.length) && (decide ((y.length : Int) ≤ hi) && (tl y).all fun c => decide (c ∈ tl cs))
def signsB (y : Str) : Bool := textB 2 12 ALL y && ascL (tl y)
def NoText (K : PySem.W.Frag) (H : Hp) (x : V) : Prop := ∃ t, TyX K H x (.type t) ∧ PySem.W.kitOne K (.type t) (.type "str") = some false
def spIsText (K : PySem.W.Frag) : Sp := fun vs H Q _ => ∃ (x : V) (lo hi : Int) (cs : Str), vs = [x, .int lo, .int hi, .str cs] ∧ ((∃ y : Str, x = .str y ∧ y.length ≤ 1000 ∧ ∀ H', Same H H' → Q (.bl (textB lo hi cs y)) H') ∨ (NoText K H x ∧ Q (.bl false) H))
def spIsAsc : Sp := fun vs H Q _ => ∃ y : Str, vs = [.str y] ∧ y.length ≤ 1000 ∧ ∀ H', Same H H' → Q (.bl (ascL (tl y))) H'
def spAreSigns (K : PySem.W.Frag) : Sp := fun vs H Q _ => ∃ x : V, vs = [x] ∧ ((∃ y : Str, x = .str y ∧ y.length ≤ 1000 ∧ ∀ H', Same H H' → Q (.bl (signsB y)) H') ∨ (NoText K H x ∧ Q (.bl false) H))
theorem all_bl (l : List Nat) (f : Nat → Bool) : l.map (fun c => V.bl (f c)) = (l.map f).map V.bl := by rw [List.map_map]; rfl
section
variable {P : Program} {w : World} {K : PySem.W.Frag} {mg : Str → Option Value} {base : Heap}
theorem ok_isText {f : Addr} {fd : FuncData} (F : Fun K "is_text" "is_text" sIsText f fd) (B : Bl mg) : FnOk P w K mg base CX0 1 f fd ["thing","least","most","characters"] (spIsText K) := by
  refine F.ok scIsText (fun vs H Q E h => ?_) (fun cdv A outer s H vs Q E hr h => ?_)
  · obtain ⟨x, lo, hi, cs, rfl, _⟩ := h
    rfl
  · obtain ⟨x, lo, hi, cs, rfl, h⟩ := h
    refine ⟨_, (pss_cons (ps_if (PW.pt (pw_or (pt_not (pt_val (pe_callB (id := "isinstance") (r := rIsi K) call_isi (by rfl) B.isin (by decide +kernel) (pa_cons (pv 0) (pa_cons (pe_bltn (v := .ty "str") (by rfl) B.str (by decide +kernel) rfl) pa_nil))))) (pw_or1 (pt_not (pt_chain op_le op_le (pv 1) (pe_callB call_len (by rfl) B.len PySem.boot_len (pa_cons (pv 0) pa_nil)) (pv 2)))))) (pss_one (ps_ret pe_bl)) pss_nil) (pss_one (ps_ret (pe_callB (cr_all rfl) (by rfl) B.all (by decide +kernel) (pa_cons (pe_lc (own := [("character", 4)]) (g := gName 4) (tt := tYes) rfl scIsText.nd (pi_str (pv 0)) (blkOk_by (N := nIsText) (sc := defScope sIsText) (by decide +kernel)) (fun _ _ _ _ _ => (pg_name (i := 4) scIsText.nd rfl (Or.inl rfl))) (fun _ _ _ _ _ => pts_nil) (fun _ _ _ _ _ => (pe_cmpR op_in_sign (pv 4) (pv 3) rfl))) pa_nil))))), ?_⟩
    try dsimp only [cxOf, Cx.nox, Cx.wish]
    rcases h with ⟨y, rfl, hy, k⟩ | ⟨⟨t, ht, hk⟩, k⟩
    · walk_at "go"
      refine r_isi (b := true) (.ty "str") (.base (.str _)) (kit_ty (by decide +kernel)) ?_
      walk_at "go"
      refine ⟨_, _, rfl, lenS (small_line hy), ?_⟩
      walk_at "go"
      unfold textB at k
      refine r_ite (fun h1 => ?_) (fun h1 => ?_)
      · rw [decide_eq_true h1, Bool.true_and] at k
        walk_at "go"
        by_cases h2 : (y.length : Int) ≤ hi
        · rw [decide_eq_true h2] at k ⊢
          rw [Bool.true_and] at k
          walk_at "go"
          intro D hD
          refine lc_smap (fun c => .bl (decide (c ∈ tl cs))) hD (small_line hy) (fun _ => rfl) (fun c hc H' R sm r => ?_) ?_
          · walk_at "go"
            exact ⟨c, cs, rfl, rfl, r⟩
          · walk_at "go"
            rw [all_bl]
            refine r_all (SqL.of upd_same) ?_
            have e : ((tl y).map fun c => decide (c ∈ tl cs)).all id = (tl y).all fun c => decide (c ∈ tl cs) := by rw [List.all_map]; rfl
            rw [e]
            exact k _ (same_new hD)
        · rw [decide_eq_false h2] at k ⊢
          walk_at "go"
          exact k H (Same.refl _)
      · rw [decide_eq_false h1] at k
        walk_at "go"
        exact k H (Same.refl _)
    · walk_at "go"
      refine r_isi (b := false) (.ty "str") ht hk ?_
      walk_at "go"
      exact k
theorem lt_ones (a b : Nat) : decide ((⟨#[a]⟩ : Str).cps.toList < (⟨#[b]⟩ : Str).cps.toList) = decide (a < b) := by
  show decide ([a] < [b]) = decide (a < b)
  have : [a] < [b] ↔ a < b := by
    rw [List.cons_lt_cons_iff]
    simp
  by_cases h : a < b
  · rw [decide_eq_true h, decide_eq_true (this.mpr h)]
  · rw [decide_eq_false h, decide_eq_false (fun q => h (this.mp q))]
theorem ok_isAsc {f : Addr} {fd : FuncData} (F : Fun K "is_ascending" "is_ascending" sIsAsc f fd) (B : Bl mg) : FnOk P w K mg base CX0 1 f fd ["things"] spIsAsc := by
  refine F.ok scIsAsc (fun vs H Q E h => ?_) (fun cdv A outer s H vs Q E hr h => ?_)
  · obtain ⟨y, rfl, _⟩ := h
    rfl
  · obtain ⟨y, rfl, hy, k⟩ := h
    refine ⟨_, (pss_one (ps_ret (pe_callB (cr_all rfl) (by rfl) B.all (by decide +kernel) (pa_cons (pe_lc (own := [("k", 1)]) (g := gName 1) (tt := tYes) rfl scIsAsc.nd (pi_range1 rfl B.range (pa_cons (pe_op op_sub (pe_callB call_len (by rfl) B.len PySem.boot_len (pa_cons (pv 0) pa_nil)) pe_int) pa_nil)) (blkOk_by (N := nIsAsc) (sc := defScope sIsAsc) (by decide +kernel)) (fun _ _ _ _ _ => (pg_name (i := 1) scIsAsc.nd rfl (Or.inl rfl))) (fun _ _ _ _ _ => pts_nil) (fun _ _ _ _ _ => (pe_cmpR op_lt_str (pe_ix ix_str (pv 0) (pv 1) (fun _ _ => rfl)) (pe_ix ix_str (pv 0) (pe_op op_add (pv 1) pe_int) (fun _ _ => rfl)) (nomark _)))) pa_nil)))), ?_⟩
    try dsimp only [cxOf, Cx.nox, Cx.wish]
    have ly := len_tl' y
    walk_at "go"
    refine ⟨_, _, rfl, lenS (small_line hy), ?_⟩
    walk_at "go"
    refine ⟨by omega, by omega, fun D hD => lc_rmap (n := ((y.length : Int) - 1).toNat) (fun j => .bl (decide ((tl y).getD j 0 < (tl y).getD (j + 1) 0))) hD (small_line (by omega)) (fun _ => rfl) (fun j hj H' R sm r => ?_) ?_⟩
    · have e1 : atI y.cps.toList (0 + (j : Int)) = some ((tl y).getD j 0) := by
        rw [Int.zero_add]
        refine atI_nat ?_
        show (tl y)[j]? = _
        rw [List.getD_eq_getElem?_getD, List.getElem?_eq_getElem (by omega)]; rfl
      have e2 : atI y.cps.toList (0 + (j : Int) + 1) = some ((tl y).getD (j + 1) 0) := by
        rw [Int.zero_add, show (j : Int) + 1 = ((j + 1 : Nat) : Int) from rfl]
        refine atI_nat ?_
        show (tl y)[j + 1]? = _
        rw [List.getD_eq_getElem?_getD, List.getElem?_eq_getElem (by omega)]; rfl
      walk_at "go"
      refine r_ixS (small_line hy) e1 ?_
      walk_at "go"
      refine r_ixS (small_line hy) e2 ?_
      walk_at "go"
      refine ⟨_, _, rfl, rfl, ?_⟩
      rw [lt_ones]
      exact r
    · walk_at "go"
      have e0 : ((y.length : Int) - 1).toNat = (tl y).length - 1 := by omega
      rw [e0, all_bl]
      refine r_all (SqL.of upd_same) ?_
      have e : ((List.range ((tl y).length - 1)).map fun j => decide ((tl y).getD j 0 < (tl y).getD (j + 1) 0)).all id = ascL (tl y) := by rw [List.all_map]; rfl
      rw [e]
      exact k _ (same_new hD)
abbrev OIsText (P : Program) (w : World) (K : PySem.W.Frag) (mg : Str → Option Value) (base : Heap) : Prop := Own P w K mg base "is_text" 1 ["thing","least","most","characters"] (spIsText K)
abbrev OIsAsc (P : Program) (w : World) (K : PySem.W.Frag) (mg : Str → Option Value) (base : Heap) : Prop := Own P w K mg base "is_ascending" 1 ["things"] spIsAsc
theorem ok_areSigns {dO dI f : Addr} {fd : FuncData} (F : Fun K "are_signs" "are_signs" sAreSigns f fd) (G : K4.G11 K w mg dO dI) (Oi : OIsText P w K mg base) (Oa : OIsAsc P w K mg base) : FnOk P w K mg base CX0 2 f fd ["thing"] (spAreSigns K) := by
  obtain ⟨t1, g1⟩ := G.LEAST_KINDS
  obtain ⟨t2, g2⟩ := G.MOST_KINDS
  obtain ⟨t3, g3⟩ := G.ALL_SIGNS
  refine F.ok scAreSigns (fun vs H Q E h => ?_) (fun cdv A outer s H vs Q E hr h => ?_)
  · obtain ⟨x, rfl, _⟩ := h
    rfl
  · obtain ⟨x, rfl, h⟩ := h
    refine ⟨_, (pss_one (ps_ret (pe_and (pe_own Oi hr (pa_cons (pv 0) (pa_cons (pe_glob (v := .int 2) rfl g1 ⟨_, rfl⟩) (pa_cons (pe_glob (v := .int 12) rfl g2 ⟨_, rfl⟩) (pa_cons (pe_glob (v := .str ALL) rfl g3 ⟨_, rfl⟩) pa_nil))))) (pe_one (pe_own Oa hr (pa_cons (pv 0) pa_nil)))))), ?_⟩
    try dsimp only [cxOf, Cx.nox, Cx.wish]
    walk_at "go"
    refine ⟨x, 2, 12, ALL, rfl, ?_⟩
    rcases h with ⟨y, rfl, hy, k⟩ | ⟨h, k⟩
    · refine .inl ⟨y, rfl, hy, fun H' sm => ?_⟩
      unfold signsB at k
      cases e : textB 2 12 ALL y with
      | true =>
        rw [e, Bool.true_and] at k
        walk_at "go"
        refine ⟨hy, fun H2 sm2 => ?_⟩
        exact k H2 (Same.trans sm sm2)
      | false =>
        rw [e] at k
        walk_at "go"
        exact k H' sm
    · refine .inr ⟨h, ?_⟩
      walk_at "go"
      exact k
end
end K1

/-! P11b -/


namespace K4
open PySem L2 K1
abbrev sIsWhole : Stmt := top 8
abbrev nIsWhole : List Str := ["thing"]
theorem scIsWhole : FnScope nIsWhole ["thing"] (defScope sIsWhole) := ⟨rfl, rfl, rfl, by decide +kernel, rfl, by decide +kernel, by decide +kernel⟩
abbrev sIsWithin : Stmt := top 9
abbrev nIsWithin : List Str := ["thing", "least", "most"]
theorem scIsWithin : FnScope nIsWithin ["thing", "least", "most"] (defScope sIsWithin) := ⟨rfl, rfl, rfl, by decide +kernel, rfl, by decide +kernel, by decide +kernel⟩
abbrev sIsTuple : Stmt := top 10
abbrev nIsTuple : List Str := ["thing"]
theorem scIsTuple : FnScope nIsTuple ["thing"] (defScope sIsTuple) := ⟨rfl, rfl, rfl, by decide +kernel, rfl, by decide +kernel, by decide +kernel⟩
abbrev sIsTupleOf : Stmt := top 11
abbrev nIsTupleOf : List Str := ["thing", "least", "most"]
theorem scIsTupleOf : FnScope nIsTupleOf ["thing", "least", "most"] (defScope sIsTupleOf) := ⟨rfl, rfl, rfl, by decide +kernel, rfl, by decide +kernel, by decide +kernel⟩
abbrev sIsPaper : Stmt := top 22
abbrev nIsPaper : List Str := ["signs", "thing"]
theorem scIsPaper : FnScope nIsPaper ["signs", "thing"] (defScope sIsPaper) := ⟨rfl, rfl, rfl, by decide +kernel, rfl, by decide +kernel, by decide +kernel⟩
def spIsWhole : Sp := fun vs H Q _ => ∃ i : Int, vs = [.int i] ∧ Q (.bl true) H
def spIsWithin : Sp := fun vs H Q _ => ∃ i lo hi : Int, vs = [.int i, .int lo, .int hi] ∧ Q (.bl (decide (lo ≤ i) && decide (i ≤ hi))) H
/-- neither a list nor a tuple -/
def NoSeq (K : PySem.W.Frag) (H : Hp) (x : V) : Prop := ∃ t, (∀ H', Same H H' → TyX K H' x t) ∧ PySem.W.kitAny K t [.type "tuple", .type "list"] = some false
def SeqB (K : PySem.W.Frag) (H : Hp) (x : V) (b : Bool) : Prop := (b = true ∧ ∃ xs, Sq K H x xs) ∨ (b = false ∧ NoSeq K H x)
def spIsTuple (K : PySem.W.Frag) : Sp := fun vs H Q _ => ∃ (x : V) (b : Bool), vs = [x] ∧ SeqB K H x b ∧ ∀ H', Same H H' → Q (.bl b) H'
def spIsTupleOf (K : PySem.W.Frag) : Sp := fun vs H Q _ => ∃ (x : V) (lo hi : Int), vs = [x, .int lo, .int hi] ∧ ((∃ xs, Sq K H x xs ∧ ∀ H', Same H H' → Q (.bl (decide (lo ≤ (xs.length : Int)) && decide ((xs.length : Int) ≤ hi))) H') ∨ (NoSeq K H x ∧ ∀ H', Same H H' → Q (.bl false) H'))
def spAscN (K : PySem.W.Frag) : Sp := fun vs H Q _ => ∃ (v : V) (ns : List Nat), vs = [v] ∧ NumsAt K H v ns ∧ ns.length ≤ 1000 ∧ ∀ H', Same H H' → Q (.bl (ascL ns)) H'
def spIsPaper (K : PySem.W.Frag) : Sp := fun vs H Q _ => ∃ (z : Str) (x : V), vs = [.str z, x] ∧ ((∃ y : Str, x = .str y ∧ y.length ≤ 1000 ∧ ∀ H', Same H H' → Q (.bl (textB 0 60 z y)) H') ∨ (NoText K H x ∧ Q (.bl false) H))
theorem any_t : ∀ {K : PySem.W.Frag}, PySem.W.kitAny K (.type "tuple") [.type "tuple", .type "list"] = some true := by
  intro K
  exact kitAny_cons (b := true) (kit_ty (by decide +kernel)) (fun q => nomatch q) (fun _ => rfl)
theorem any_l : ∀ {K : PySem.W.Frag}, PySem.W.kitAny K (.type "list") [.type "tuple", .type "list"] = some true := by
  intro K
  exact kitAny_cons (b := false) (kit_ty (by decide +kernel)) (fun _ => kitAny_cons (b := true) (kit_ty (by decide +kernel)) (fun q => nomatch q) (fun _ => rfl)) (fun q => nomatch q)
theorem any_n {K : PySem.W.Frag} {n : String} (h1 : kitB n "tuple" = some false) (h2 : kitB n "list" = some false) : PySem.W.kitAny K (.type n) [.type "tuple", .type "list"] = some false :=
  kitAny_cons (b := false) (kit_ty h1) (fun _ => kitAny_cons (b := false) (kit_ty h2) (fun _ => rfl) (fun q => nomatch q)) (fun q => nomatch q)
theorem noSeq_str {K : PySem.W.Frag} {H : Hp} {x : Str} : NoSeq K H (.str x) := ⟨.type "str", fun _ _ => .base (.str _), any_n (by decide +kernel) (by decide +kernel)⟩
theorem noSeq_int {K : PySem.W.Frag} {H : Hp} {i : Int} : NoSeq K H (.int i) := ⟨.type "int", fun _ _ => .base (.int _), any_n (by decide +kernel) (by decide +kernel)⟩
theorem noSeq_non {K : PySem.W.Frag} {H : Hp} : NoSeq K H .non := ⟨.type "NoneType", fun _ _ => .base .non, any_n (by decide +kernel) (by decide +kernel)⟩
theorem seqB_t {K : PySem.W.Frag} {H : Hp} {x : V} {b : Bool} (h : SeqB K H x b) : ∃ t, (∀ H', Same H H' → TyX K H' x t) ∧ PySem.W.kitAny K t [.type "tuple", .type "list"] = some b := by
  rcases h with ⟨rfl, xs, a, rfl, h | h⟩ | ⟨rfl, h⟩
  · exact ⟨.type "list", fun H' s => tyxL (s.seq h), any_l⟩
  · exact ⟨.type "tuple", fun H' s => tyxT (Same.sqT s h), any_t⟩
  · exact h
section
variable {P : Program} {w : World} {K : PySem.W.Frag} {mg : Str → Option Value} {base : Heap} {dO dI : Addr}
theorem ok_isWhole {f : Addr} {fd : FuncData} (F : Fun K "is_whole" "is_whole" sIsWhole f fd) (B : Bl mg) : FnOk P w K mg base CX0 1 f fd ["thing"] spIsWhole := by
  refine F.ok scIsWhole (fun vs H Q E h => ?_) (fun cdv A outer s H vs Q E hr h => ?_)
  · obtain ⟨i, rfl, _⟩ := h
    rfl
  · obtain ⟨i, rfl, k⟩ := h
    refine ⟨_, (pss_one (ps_ret (pe_and (pe_callB (id := "isinstance") (r := rIsi K) call_isi (by rfl) B.isin (by decide +kernel) (pa_cons (pv 0) (pa_cons (pe_bltn (v := .ty "int") (by rfl) B.int (by decide +kernel) rfl) pa_nil))) (pe_one (pe_not (pe_callB (id := "isinstance") (r := rIsi K) call_isi (by rfl) B.isin (by decide +kernel) (pa_cons (pv 0) (pa_cons (pe_bltn (v := .ty "bool") (by rfl) B.bool (by decide +kernel) rfl) pa_nil)))))))), ?_⟩
    try dsimp only [cxOf, Cx.nox, Cx.wish]
    walk_at "go"
    refine r_isi (b := true) (.ty "int") (.base (.int _)) (kit_ty (by decide +kernel)) ?_
    walk_at "go"
    refine r_isi (b := false) (.ty "bool") (.base (.int _)) (kit_ty (by decide +kernel)) ?_
    walk_at "go"
    exact k
abbrev OWhole (P : Program) (w : World) (K : PySem.W.Frag) (mg : Str → Option Value) (base : Heap) : Prop := Own P w K mg base "is_whole" 1 ["thing"] spIsWhole
theorem ok_isWithin {f : Addr} {fd : FuncData} (F : Fun K "is_within" "is_within" sIsWithin f fd) (B : Bl mg) (Owh : OWhole P w K mg base) : FnOk P w K mg base CX0 2 f fd ["thing", "least", "most"] spIsWithin := by
  refine F.ok scIsWithin (fun vs H Q E h => ?_) (fun cdv A outer s H vs Q E hr h => ?_)
  · obtain ⟨i, lo, hi, rfl, _⟩ := h
    rfl
  · obtain ⟨i, lo, hi, rfl, k⟩ := h
    refine ⟨_, (pss_one (ps_ret (pe_and (pe_own Owh hr (pa_cons (pv 0) pa_nil)) (pe_one (pe_chain op_le op_le (pv 1) (pv 0) (pv 2)))))), ?_⟩
    try dsimp only [cxOf, Cx.nox, Cx.wish]
    walk_at "go"
    by_cases h1 : lo ≤ i
    · rw [decide_eq_true h1] at k ⊢
      rw [Bool.true_and] at k
      walk_at "go"
      exact k
    · rw [decide_eq_false h1] at k ⊢
      rw [Bool.false_and] at k
      walk_at "go"
      exact k
theorem ok_isTuple {f : Addr} {fd : FuncData} (F : Fun K "is_tuple" "is_tuple" sIsTuple f fd) (B : Bl mg) : FnOk P w K mg base CX0 1 f fd ["thing"] (spIsTuple K) := by
  refine F.ok scIsTuple (fun vs H Q E h => ?_) (fun cdv A outer s H vs Q E hr h => ?_)
  · obtain ⟨x, b, rfl, _⟩ := h
    rfl
  · obtain ⟨x, b, rfl, hb, k⟩ := h
    refine ⟨_, (pss_one (ps_ret (pe_callB (id := "isinstance") (r := rIsiT K) call_isiT (by rfl) B.isin (by decide +kernel) (pa_cons (pv 0) (pa_cons (pe_tup (pa_cons (pe_bltn (v := .ty "tuple") (by rfl) B.tuple (by decide +kernel) rfl) (pa_cons (pe_bltn (v := .ty "list") (by rfl) B.list (by decide +kernel) rfl) pa_nil))) pa_nil))))), ?_⟩
    try dsimp only [cxOf, Cx.nox, Cx.wish]
    walk_at "go"
    obtain ⟨t, ht, ka⟩ := seqB_t hb
    refine ⟨(by show 2 ≤ sizeLine; decide), fun p hp => ?_⟩
    walk_at "go"
    have sp := same_new (o := HO.tup [V.ty "tuple", V.ty "list"]) hp
    exact ⟨x, p, _, t, _, b, rfl, upd_same, .cons (.ty _) (.cons (.ty _) .nil), ht _ sp, ka, k _ sp⟩
abbrev OIsTuple (P : Program) (w : World) (K : PySem.W.Frag) (mg : Str → Option Value) (base : Heap) : Prop := Own P w K mg base "is_tuple" 1 ["thing"] (spIsTuple K)
theorem ok_isTupleOf {f : Addr} {fd : FuncData} (F : Fun K "is_tuple_of" "is_tuple_of" sIsTupleOf f fd) (B : Bl mg) (Oit : OIsTuple P w K mg base) : FnOk P w K mg base CX0 2 f fd ["thing", "least", "most"] (spIsTupleOf K) := by
  refine F.ok scIsTupleOf (fun vs H Q E h => ?_) (fun cdv A outer s H vs Q E hr h => ?_)
  · obtain ⟨x, lo, hi, rfl, _⟩ := h
    rfl
  · obtain ⟨x, lo, hi, rfl, h⟩ := h
    refine ⟨_, (pss_one (ps_ret (pe_and (pe_own Oit hr (pa_cons (pv 0) pa_nil)) (pe_one (pe_chain op_le op_le (pv 1) (pe_callB call_len (by rfl) B.len PySem.boot_len (pa_cons (pv 0) pa_nil)) (pv 2)))))), ?_⟩
    try dsimp only [cxOf, Cx.nox, Cx.wish]
    walk_at "go"
    rcases h with ⟨xs, hx, k⟩ | ⟨hn, k⟩
    · refine ⟨x, true, rfl, .inl ⟨rfl, xs, hx⟩, fun H1 s1 => ?_⟩
      walk_at "go"
      refine ⟨_, _, rfl, (hx.same s1).len, ?_⟩
      walk_at "go"
      by_cases h1 : lo ≤ (xs.length : Int)
      · rw [decide_eq_true h1] at k ⊢
        walk_at "go"
        exact k _ s1
      · rw [decide_eq_false h1] at k ⊢
        walk_at "go"
        exact k _ s1
    · refine ⟨x, false, rfl, .inr ⟨rfl, hn⟩, fun H1 s1 => ?_⟩
      walk_at "go"
      exact k _ s1
abbrev OIsTupleOf (P : Program) (w : World) (K : PySem.W.Frag) (mg : Str → Option Value) (base : Heap) : Prop := Own P w K mg base "is_tuple_of" 2 ["thing", "least", "most"] (spIsTupleOf K)
theorem nums_get {H : Hp} {v : V} {ns : List Nat} (h : NumsAt K H v ns) {i : Nat} (hi : i < ns.length) {Q : VK} (q : Q (vi (ns.getD i 0)) H) : rIx K v (.int (i : Int)) H Q := by
  refine r_ixSq h (atI_nat ?_) q
  rw [List.getElem?_map, getD_at hi]
  rfl
abbrev sIsAsc : Stmt := top 13
abbrev nIsAsc : List Str := ["things", "k"]
theorem scIsAsc : FnScope nIsAsc ["things"] (defScope sIsAsc) := ⟨rfl, rfl, rfl, by decide +kernel, rfl, by decide +kernel, by decide +kernel⟩
theorem ok_ascN {f : Addr} {fd : FuncData} (F : Fun K "is_ascending" "is_ascending" sIsAsc f fd) (B : Bl mg) : FnOk P w K mg base CX0 1 f fd ["things"] (spAscN K) := by
  refine F.ok scIsAsc (fun vs H Q E h => ?_) (fun cdv A outer s H vs Q E hr h => ?_)
  · obtain ⟨v, ns, rfl, _⟩ := h
    rfl
  · obtain ⟨v, ns, rfl, hv, hl, k⟩ := h
    refine ⟨_, (pss_one (ps_ret (pe_callB (cr_all rfl) (by rfl) B.all (by decide +kernel) (pa_cons (pe_lc (own := [("k", 1)]) (g := gName 1) (tt := tYes) rfl scIsAsc.nd (pi_range1 rfl B.range (pa_cons (pe_op op_sub (pe_callB call_len (by rfl) B.len PySem.boot_len (pa_cons (pv 0) pa_nil)) pe_int) pa_nil)) (blkOk_by (N := nIsAsc) (sc := defScope sIsAsc) (by decide +kernel)) (fun _ _ _ _ _ => (pg_name (i := 1) scIsAsc.nd rfl (Or.inl rfl))) (fun _ _ _ _ _ => pts_nil) (fun _ _ _ _ _ => (pe_cmpR op_lt (pe_ix (r := rIx K) ix_seq (pv 0) (pv 1) (fun _ _ => rfl)) (pe_ix (r := rIx K) ix_seq (pv 0) (pe_op op_add (pv 1) pe_int) (fun _ _ => rfl)) (nomark _)))) pa_nil)))), ?_⟩
    try dsimp only [cxOf, Cx.nox, Cx.wish]
    walk_at "go"
    have hlen := hv.len
    rw [List.length_map] at hlen
    refine ⟨_, _, rfl, hlen, ?_⟩
    walk_at "go"
    refine ⟨by omega, by omega, fun D hD => lc_rmap (n := ((ns.length : Int) - 1).toNat) (fun j => .bl (decide (ns.getD j 0 < ns.getD (j + 1) 0))) hD (small_line (by omega)) (fun _ => rfl) (fun j hj H' R sm r => ?_) ?_⟩
    · walk_at "go"
      rw [Int.zero_add]
      refine nums_get (Sq.same sm hv) (by omega) ?_
      walk_at "go"
      refine nums_get (i := j + 1) (Sq.same sm hv) (by omega) ?_
      walk_at "go"
      have e : decide ((ns.getD j 0 : Int) < (ns.getD (j + 1) 0 : Int)) = decide (ns.getD j 0 < ns.getD (j + 1) 0) := by
        rw [decide_eq_decide]; omega
      rw [e]
      exact r
    · walk_at "go"
      have e0 : ((ns.length : Int) - 1).toNat = ns.length - 1 := by omega
      rw [e0, all_bl]
      refine r_all (SqL.of upd_same) ?_
      have e : ((List.range (ns.length - 1)).map fun j => decide (ns.getD j 0 < ns.getD (j + 1) 0)).all id = ascL ns := by rw [List.all_map]; rfl
      rw [e]
      exact k _ (same_new hD)
theorem ok_isPaper {f : Addr} {fd : FuncData} (F : Fun K "is_paper" "is_paper" sIsPaper f fd) (G : G11 K w mg dO dI) (Ot : OIsText P w K mg base) : FnOk P w K mg base CX0 2 f fd ["signs", "thing"] (spIsPaper K) := by
  refine F.ok scIsPaper (fun vs H Q E h => ?_) (fun cdv A outer s H vs Q E hr h => ?_)
  · obtain ⟨z, x, rfl, _⟩ := h
    rfl
  · obtain ⟨z, x, rfl, h⟩ := h
    refine ⟨_, (pss_one (ps_ret (pe_own Ot hr (pa_cons (pv 1) (pa_cons pe_int (pa_cons (pe_gI G.MOST_SIGNS) (pa_cons (pv 0) pa_nil))))))), ?_⟩
    try dsimp only [cxOf, Cx.nox, Cx.wish]
    walk_at "go"
    refine ⟨x, 0, 60, z, rfl, ?_⟩
    rcases h with ⟨y, rfl, hy, k⟩ | ⟨h, k⟩
    · exact .inl ⟨y, rfl, hy, k⟩
    · exact .inr ⟨h, k⟩
end
end K4

/-! P11c -/


namespace K4
open PySem L2 K1
abbrev sOwnValues : Stmt := top 39
abbrev nOwnValues : List Str := ["part"]
theorem scOwnValues : FnScope nOwnValues ["part"] (defScope sOwnValues) := ⟨rfl, rfl, rfl, by decide +kernel, rfl, by decide +kernel, by decide +kernel⟩
abbrev sInnerRules : Stmt := top 40
abbrev nInnerRules : List Str := ["part"]
theorem scInnerRules : FnScope nInnerRules ["part"] (defScope sInnerRules) := ⟨rfl, rfl, rfl, by decide +kernel, rfl, by decide +kernel, by decide +kernel⟩
abbrev sIsRow : Stmt := top 26
abbrev nIsRow : List Str := ["thing", "kinds", "many", "to"]
theorem scIsRow : FnScope nIsRow ["thing", "kinds", "many"] (defScope sIsRow) := ⟨rfl, rfl, rfl, by decide +kernel, rfl, by decide +kernel, by decide +kernel⟩
abbrev sAreRows : Stmt := top 25
abbrev nAreRows : List Str := ["signs", "thing", "most", "row"]
theorem scAreRows : FnScope nAreRows ["signs", "thing", "most"] (defScope sAreRows) := ⟨rfl, rfl, rfl, by decide +kernel, rfl, by decide +kernel, by decide +kernel⟩
abbrev sAreGoals : Stmt := top 27
abbrev nAreGoals : List Str := ["thing", "many", "goal"]
theorem scAreGoals : FnScope nAreGoals ["thing", "many"] (defScope sAreGoals) := ⟨rfl, rfl, rfl, by decide +kernel, rfl, by decide +kernel, by decide +kernel⟩
abbrev sIsSum : Stmt := top 41
abbrev nIsSum : List Str := ["values", "modulus", "weights", "goal", "number"]
theorem scIsSum : FnScope nIsSum ["values"] (defScope sIsSum) := ⟨rfl, rfl, rfl, by decide +kernel, rfl, by decide +kernel, by decide +kernel⟩
abbrev sIsSquare : Stmt := top 42
abbrev nIsSquare : List Str := ["signs", "values", "rows", "goals"]
theorem scIsSquare : FnScope nIsSquare ["signs", "values"] (defScope sIsSquare) := ⟨rfl, rfl, rfl, by decide +kernel, rfl, by decide +kernel, by decide +kernel⟩
abbrev sAreFaces : Stmt := top 43
abbrev nAreFaces : List Str := ["signs", "thing", "face"]
theorem scAreFaces : FnScope nAreFaces ["signs", "thing"] (defScope sAreFaces) := ⟨rfl, rfl, rfl, by decide +kernel, rfl, by decide +kernel, by decide +kernel⟩
def spOwn (K : PySem.W.Frag) : Sp := fun vs H Q _ => ∃ (v : V) (k : Nat) (xs is : List V), vs = [v] ∧ k < 9 ∧ Sq K H v (.str (wd k) :: (xs ++ is)) ∧ xs.length = mn k ∧ ∀ v' H', Same H H' → Sq K H' v' xs → Q v' H'
def spInner (K : PySem.W.Frag) : Sp := fun vs H Q _ => ∃ (v : V) (k : Nat) (xs is : List V), vs = [v] ∧ k < 9 ∧ Sq K H v (.str (wd k) :: (xs ++ is)) ∧ xs.length = mn k ∧ ∀ p H', H p = none → Same H H' → Sq K H' (.ref p) is → Q (.ref p) H'
section
variable {K : PySem.W.Frag} {σ : L2.St} {H : Hp} {vs : List Nat} {te : TE} {slot : Nat} {xs : List V} {v : V}
theorem acc_rep {n i : Nat} {acc : List V} (h : acc = List.replicate acc.length (V.bl true)) : acc ++ [V.bl true] = List.replicate (acc ++ [V.bl true]).length (V.bl true) := by
  rw [List.length_append]
  show _ = List.replicate (acc.length + 1) _
  rw [List.replicate_succ', ← h]
/-- [.. for x in xs], each of which is True -/
theorem lc_true {R : It → Hp → Prop} (h : Sq K H v xs) (hl : xs.length ≤ 1000) (hw : ∀ x, wipe ((wipe σ vs).set slot (some x)) vs = wipe σ vs)
    (hs : ∀ (i : Nat) (x : V) (H' : Hp) (R : VK), xs[i]? = some x → Same H H' → (∀ H4, Same H' H4 → R (.bl true) H4) → te ((wipe σ vs).set slot (some x)) H' R)
    (Qe : Addr → Hp → Prop) (hd : ∀ D H', H D = none → Same H H' → H' D = some (.lst (List.replicate xs.length (.bl true))) → Qe D H')
    (hR : ∀ J, (∀ D, H D = none → ∃ W : Nat → Nat → Hp → Prop, (∃ m, W 0 m (upd H D (.lst []))) ∧ ∀ i m H, W i m H →
      (It.stop J i H ∧ Qe D H) ∨ (It.go J i H ∧ ∃ Nx : Hp → Prop, (∀ H', Nx H' → ∃ m', m' < m ∧ W (i + 1) m' H') ∧ ∀ x H', It.yld J i H x H' → gName slot x (wipe σ vs) H' fun σ2 H2 => wipe σ2 vs = wipe σ vs ∧ tYes σ2 H2 fun b H3 =>
        if b = true then te σ2 H3 fun y H4 => ∃ acc, H4 D = some (.lst acc) ∧ acc.length < sizeLine ∧ Nx (upd H4 D (.lst (acc ++ [y]))) else Nx H3)) → R J H) :
    SqIt K v R H := by
  refine lc_sq h hw (fun acc H' => acc = List.replicate acc.length (.bl true) ∧ Same H H') (fun D hD => ⟨rfl, same_new hD⟩) (fun D acc H' _ _ q => Same.keeps q.2) ?_ Qe ?_ hR
  · rintro D i x acc H' hD hx la hacc ⟨ha, sm⟩
    refine hs i x H' _ hx sm fun H4 s4 => ?_
    exact pp_next (s4 _ _ hacc) la (line60 (by have := (List.getElem?_eq_some_iff.mp hx).1; omega)) ⟨acc_rep (n := 0) (i := 0) ha, same_upd (sm.trans s4) hD⟩
  · rintro D acc H' hD la hacc ⟨ha, sm⟩
    refine hd D H' hD sm ?_
    rw [hacc, ha, la]
theorem lc_trueL {a D : Addr} {Qd : Hp → Prop} (h : SqL K H a xs) (hD : H D = none) (hl : xs.length ≤ 1000) (hw : ∀ x, wipe ((wipe σ vs).set slot (some x)) vs = wipe σ vs)
    (hs : ∀ (i : Nat) (x : V) (H' : Hp) (R : VK), xs[i]? = some x → Same H H' → (∀ H4, Same H' H4 → R (.bl true) H4) → te ((wipe σ vs).set slot (some x)) H' R)
    (hd : ∀ H', Same H H' → H' D = some (.lst (List.replicate xs.length (.bl true))) → Qd H') :
    ∃ W : Nat → Nat → Hp → Prop, (∃ m, W 0 m (upd H D (.lst []))) ∧ ∀ i m H, W i m H →
      ((Itl K a).stop i H ∧ Qd H) ∨ ((Itl K a).go i H ∧ ∃ Nx : Hp → Prop, (∀ H', Nx H' → ∃ m', m' < m ∧ W (i + 1) m' H') ∧ ∀ x H', (Itl K a).yld i H x H' → gName slot x (wipe σ vs) H' fun σ2 H2 => wipe σ2 vs = wipe σ vs ∧ tYes σ2 H2 fun b H3 =>
        if b = true then te σ2 H3 fun y H4 => ∃ acc, H4 D = some (.lst acc) ∧ acc.length < sizeLine ∧ Nx (upd H4 D (.lst (acc ++ [y]))) else Nx H3) := by
  refine lc_gen (walk_list (K := K) (a := a) (xs := xs)) hw (fun acc H' => acc = List.replicate acc.length (.bl true) ∧ Same H H') ⟨rfl, same_new hD⟩ (fun acc H' _ q => q.2.seq h) ?_ ?_
  · rintro i x acc H' hx la hacc ⟨ha, sm⟩
    refine hs i x H' _ hx sm fun H4 s4 => ?_
    exact pp_next (s4 _ _ hacc) la (line60 (by have := (List.getElem?_eq_some_iff.mp hx).1; omega)) ⟨acc_rep (n := 0) (i := 0) ha, same_upd (sm.trans s4) hD⟩
  · rintro acc H' la hacc ⟨ha, sm⟩
    refine hd H' sm ?_
    rw [hacc, ha, la]
theorem r_allT {n : Nat} {a : Addr} {Q : VK} (h : H a = some (.lst (List.replicate n (V.bl true)))) (q : Q (.bl true) H) : rAll K [.ref a] H Q := by
  refine r_all (bs := List.replicate n true) (by rw [List.map_replicate]; exact SqL.of h) ?_
  rw [show (List.replicate n true).all id = true by rw [List.all_eq_true]; intro x hx; rw [(List.mem_replicate.mp hx).2]; rfl]
  exact q
end
abbrev rLenK (K : PySem.W.Frag) : List V → Hp → VK → Prop := fun xs H Q => ∃ x n, xs = [x] ∧ LenV K x H n ∧ Q (V.int ↑n) H
def spIsRow (K : PySem.W.Frag) : Sp := fun vs H Q _ => ∃ (v : V) (r : List Nat) (n m : Nat), vs = [v, vi n, vi m] ∧ NumsAt K H v r ∧ r.length = n ∧ n ≤ 1000 ∧ (∀ x ∈ r, x < m) ∧ ∀ H', Same H H' → Q (.bl true) H'
def spAreRows (K : PySem.W.Frag) : Sp := fun vs H Q _ => ∃ (z : Str) (v : V) (rvs : List V) (rows : List (List Nat)) (m : Nat), vs = [.str z, v, vi m] ∧ Sq K H v rvs ∧ RowsAt K H rvs rows ∧ rows ≠ [] ∧ rows.length ≤ m ∧ m ≤ 1000 ∧ z.length ≤ 12 ∧
  (∀ r ∈ rows, r.length = z.length ∧ ∀ x ∈ r, x < rows.length) ∧ ∀ H', Same H H' → Q (.bl true) H'
def spAreGoals (K : PySem.W.Frag) : Sp := fun vs H Q _ => ∃ (v : V) (gs : List Nat) (m : Nat), vs = [v, vi m] ∧ NumsAt K H v gs ∧ gs.length ≤ 1000 ∧ gs.Pairwise (· < ·) ∧ (∀ x ∈ gs, x < m) ∧ ∀ H', Same H H' → Q (.bl true) H'
def spIsSum (K : PySem.W.Frag) : Sp := fun vs H Q _ => ∃ (v : V) (xs : List V) (z : List Nat) (m : Nat) (ws : List Nat) (g : Nat), vs = [v] ∧ Sq K H v xs ∧ OwAt K H xs (.sum m ws g) ∧ Ow.fit z (.sum m ws g) ∧ ∀ H', Same H H' → Q (.bl true) H'
def spIsSquare (K : PySem.W.Frag) : Sp := fun vs H Q _ => ∃ (z : Str) (v : V) (xs : List V) (rows : List (List Nat)) (gs : List Nat), vs = [.str z, v] ∧ z.length ≤ 12 ∧ Sq K H v xs ∧ OwAt K H xs (.square rows gs) ∧ Ow.fit (tl z) (.square rows gs) ∧ ∀ H', Same H H' → Q (.bl true) H'
def spAreFaces (K : PySem.W.Frag) : Sp := fun vs H Q _ => ∃ (z : Str) (v : V) (fs : List Str), vs = [.str z, v] ∧ z.length ≤ 12 ∧ Sq K H v (fs.map V.str) ∧ Ow.fit (tl z) (.faces fs) ∧ ∀ H', Same H H' → Q (.bl true) H'
theorem asc_true : ∀ {ns : List Nat}, ns.Pairwise (· < ·) → ascL ns = true := by
  intro ns h
  refine List.all_eq_true.mpr fun k hk => decide_eq_true ?_
  have hk' := List.mem_range.mp hk
  have pw := List.pairwise_iff_getElem.mp h
  have h1 : k < ns.length := by omega
  have h2 : k + 1 < ns.length := by omega
  rw [List.getD_eq_getElem?_getD, List.getD_eq_getElem?_getD, List.getElem?_eq_getElem h1, List.getElem?_eq_getElem h2]
  exact pw k (k + 1) h1 h2 (Nat.lt_succ_self k)
section
variable {P : Program} {w : World} {K : PySem.W.Frag} {mg : Str → Option Value} {base : Heap} {dO dI : Addr}
theorem ok_ownValues {f : Addr} {fd : FuncData} (F : Fun K "own_values" "own_values" sOwnValues f fd) (B : Bl mg) (G : G11 K w mg dO dI) : FnOk P w K mg base CX0 1 f fd ["part"] (spOwn K) := by
  refine F.ok scOwnValues (fun vs H Q E h => ?_) (fun cdv A outer s H vs Q E hr h => ?_)
  · obtain ⟨v, k, xs, is, rfl, _⟩ := h
    rfl
  · obtain ⟨v, c, xs, is, rfl, hc, hS, hl, k⟩ := h
    refine ⟨_, (pss_one (ps_ret (pe_slice sl_sq (pv 0) (po_some pe_int) (po_some (pe_op op_add pe_int (pe_ix ix_kdict (pe_gR G.OV) (pe_ix ix_seq (pv 0) pe_int (fun _ _ => rfl)) (fun _ _ => rfl))))))), ?_⟩
    try dsimp only [cxOf, Cx.nox, Cx.wish]
    walk_at "go"
    refine r_ixSq hS at0 ?_
    walk_at "go"
    refine r_kd (G.ov c hc) ?_
    walk_at "go"
    refine r_slSq hS fun v' H' sm h' => k v' H' sm ?_
    have e : cutV (.str (wd c) :: (xs ++ is)) (some 1) (some (1 + (mn c : Int))) = xs := by
      have := cutV_mid (xs := .str (wd c) :: (xs ++ is)) 1 (1 + mn c)
      rw [show ((1 + mn c : Nat) : Int) = 1 + (mn c : Int) by omega] at this
      rw [show ((1 : Nat) : Int) = 1 from rfl] at this
      rw [this, ← hl, List.drop_succ_cons, List.drop_zero, Nat.add_sub_cancel_left]
      simp
    rw [e] at h'
    exact h'
theorem ok_innerRules {f : Addr} {fd : FuncData} (F : Fun K "inner_rules" "inner_rules" sInnerRules f fd) (B : Bl mg) (G : G11 K w mg dO dI) : FnOk P w K mg base CX0 1 f fd ["part"] (spInner K) := by
  refine F.ok scInnerRules (fun vs H Q E h => ?_) (fun cdv A outer s H vs Q E hr h => ?_)
  · obtain ⟨v, k, xs, is, rfl, _⟩ := h
    rfl
  · obtain ⟨v, c, xs, is, rfl, hc, hS, hl, k⟩ := h
    refine ⟨_, (pss_one (ps_ret (pe_slice sl_sq (pv 0) (po_some (pe_op op_add pe_int (pe_ix ix_kdict (pe_gR G.OV) (pe_ix ix_seq (pv 0) pe_int (fun _ _ => rfl)) (fun _ _ => rfl)))) po_none))), ?_⟩
    try dsimp only [cxOf, Cx.nox, Cx.wish]
    walk_at "go"
    refine r_ixSq hS at0 ?_
    walk_at "go"
    refine r_kd (G.ov c hc) ?_
    walk_at "go"
    refine r_slNew hS (fun z => ?_) fun p H' hp sm h' => k p H' hp sm ?_
    · have := HT.sIx_nat ((V.str (wd c) :: (xs ++ is)).length) 0 (1 + mn c)
      rw [show ((1 + mn c : Nat) : Int) = 1 + (mn c : Int) by omega] at this
      rw [this, List.length_cons] at z
      omega
    have e : cutV (.str (wd c) :: (xs ++ is)) (some (1 + (mn c : Int))) none = is := by
      have := cutV_from (xs := .str (wd c) :: (xs ++ is)) (1 + mn c)
      rw [show ((1 + mn c : Nat) : Int) = 1 + (mn c : Int) by omega] at this
      rw [this, ← hl, Nat.add_comm, List.drop_succ_cons]
      simp
    rw [e] at h'
    exact h'
abbrev OWithin (P : Program) (w : World) (K : PySem.W.Frag) (mg : Str → Option Value) (base : Heap) : Prop := Own P w K mg base "is_within" 2 ["thing","least","most"] spIsWithin
abbrev OAscN (P : Program) (w : World) (K : PySem.W.Frag) (mg : Str → Option Value) (base : Heap) : Prop := Own P w K mg base "is_ascending" 1 ["things"] (spAscN K)
theorem ok_isRow {f : Addr} {fd : FuncData} (F : Fun K "is_row" "is_row" sIsRow f fd) (B : Bl mg) (Ito : OIsTupleOf P w K mg base) (Owi : OWithin P w K mg base) : FnOk P w K mg base CX0 3 f fd ["thing", "kinds", "many"] (spIsRow K) := by
  refine F.ok scIsRow (fun vs H Q E h => ?_) (fun cdv A outer s H vs Q E hr h => ?_)
  · obtain ⟨v, r, n, m, rfl, _⟩ := h
    rfl
  · obtain ⟨v, r, n, m, rfl, hv, hn, h1000, hm, k⟩ := h
    refine ⟨_, (pss_one (ps_ret (pe_and (pe_own Ito (hr.mono (by omega)) (pa_cons (pv 0) (pa_cons (pv 1) (pa_cons (pv 1) pa_nil)))) (pe_one (pe_callB (cr_all rfl) (by rfl) B.all (by decide +kernel) (pa_cons (pe_lc (own := [("to", 3)]) (g := gName 3) (tt := tYes) rfl scIsRow.nd (pi_sq (pv 0)) (blkOk_by (N := nIsRow) (sc := defScope sIsRow) (by decide +kernel)) (fun _ _ _ _ _ => (pg_name (i := 3) scIsRow.nd rfl (Or.inl rfl))) (fun _ _ _ _ _ => pts_nil) (fun _ _ _ _ _ => (pe_own Owi hr (pa_cons (pv 3) (pa_cons pe_int (pa_cons (pe_op op_sub (pv 2) pe_int) pa_nil)))))) pa_nil)))))), ?_⟩
    try dsimp only [cxOf, Cx.nox, Cx.wish]
    walk_at "go"
    refine ⟨v, n, n, rfl, .inl ⟨_, hv, fun H1 s1 => ?_⟩⟩
    rw [List.length_map, hn, decide_eq_true (Int.le_refl _)]
    walk_at "go"
    refine lc_true (hv.same s1) (by rw [List.length_map]; omega) (fun _ => rfl) ?_ _ ?_ (fun J h => h)
    · intro i x H' R hx sm q
      obtain ⟨y, hy, rfl⟩ := get_map hx
      walk_at "go"
      refine ⟨(y : Int), 0, (m : Int) - 1, rfl, ?_⟩
      have := hm y (List.mem_of_getElem? hy)
      rw [decide_eq_true (by omega), decide_eq_true (by omega)]
      exact q _ (Same.refl _)
    · intro D H' hD sm e
      walk_at "go"
      exact r_allT e (k _ (s1.trans sm))
abbrev OIsRow (P : Program) (w : World) (K : PySem.W.Frag) (mg : Str → Option Value) (base : Heap) : Prop := Own P w K mg base "is_row" 3 ["thing", "kinds", "many"] (spIsRow K)
theorem ok_areRows {f : Addr} {fd : FuncData} (F : Fun K "are_rows" "are_rows" sAreRows f fd) (B : Bl mg) (Ito : OIsTupleOf P w K mg base) (Oir : OIsRow P w K mg base) : FnOk P w K mg base CX0 4 f fd ["signs", "thing", "most"] (spAreRows K) := by
  refine F.ok scAreRows (fun vs H Q E h => ?_) (fun cdv A outer s H vs Q E hr h => ?_)
  · obtain ⟨z, v, rvs, rows, m, rfl, _⟩ := h
    rfl
  · obtain ⟨z, v, rvs, rows, m, rfl, hv, hR, hne, hm, h1000, hz, hrs, k⟩ := h
    refine ⟨_, (pss_cons (ps_if (pt_not (pt_val (pe_own Ito (hr.mono (by omega)) (pa_cons (pv 1) (pa_cons pe_int (pa_cons (pv 2) pa_nil)))))) (pss_one (ps_ret pe_bl)) pss_nil) (pss_one (ps_ret (pe_callB (cr_all rfl) (by rfl) B.all (by decide +kernel) (pa_cons (pe_lc (own := [("row", 3)]) (g := gName 3) (tt := tYes) rfl scAreRows.nd (pi_sq (pv 1)) (blkOk_by (N := nAreRows) (sc := defScope sAreRows) (by decide +kernel)) (fun _ _ _ _ _ => (pg_name (i := 3) scAreRows.nd rfl (Or.inl rfl))) (fun _ _ _ _ _ => pts_nil) (fun _ _ _ _ _ => (pe_own Oir hr (pa_cons (pv 3) (pa_cons (pe_callB (r := rLenK K) call_len (by rfl) B.len PySem.boot_len (pa_cons (pv 0) pa_nil)) (pa_cons (pe_callB (r := rLenK K) call_len (by rfl) B.len PySem.boot_len (pa_cons (pv 1) pa_nil)) pa_nil)))))) pa_nil))))), ?_⟩
    try dsimp only [cxOf, Cx.nox, Cx.wish]
    have hrl := hR.len
    have hpos := List.length_pos_iff.mpr hne
    walk_at "go"
    refine ⟨v, 1, m, rfl, .inl ⟨_, hv, fun H1 s1 => ?_⟩⟩
    rw [decide_eq_true (by omega), decide_eq_true (by omega)]
    walk_at "go"
    refine lc_true (hv.same s1) (by omega) (fun _ => rfl) ?_ _ ?_ (fun J h => h)
    · intro i x H' R hx sm q
      obtain ⟨r, hri, hrA⟩ := hR.get hx
      have hmem := List.mem_of_getElem? hri
      walk_at "go"
      refine ⟨_, _, rfl, lenS (small_line (by omega)), ?_⟩
      walk_at "go"
      refine ⟨_, _, rfl, (hv.same (s1.trans sm)).len, ?_⟩
      walk_at "go"
      rw [hrl]
      exact ⟨x, r, z.length, rows.length, rfl, hrA.keep (Same.keeps (s1.trans sm)), (hrs r hmem).1, by omega, (hrs r hmem).2, fun H4 s4 => q _ s4⟩
    · intro D H' hD sm e
      walk_at "go"
      exact r_allT e (k _ (s1.trans sm))
theorem ok_areGoals {f : Addr} {fd : FuncData} (F : Fun K "are_goals" "are_goals" sAreGoals f fd) (B : Bl mg) (Oit : OIsTuple P w K mg base) (Owi : OWithin P w K mg base) (Oan : OAscN P w K mg base) : FnOk P w K mg base CX0 3 f fd ["thing", "many"] (spAreGoals K) := by
  refine F.ok scAreGoals (fun vs H Q E h => ?_) (fun cdv A outer s H vs Q E hr h => ?_)
  · obtain ⟨v, gs, m, rfl, _⟩ := h
    rfl
  · obtain ⟨v, gs, m, rfl, hv, h1000, hp, hm, k⟩ := h
    refine ⟨_, (pss_cons (ps_if (PW.pt (pw_or (pt_not (pt_val (pe_own Oit (hr.mono (by omega)) (pa_cons (pv 0) pa_nil)))) (pw_or1 (pt_not (pt_val (pe_callB (cr_all rfl) (by rfl) B.all (by decide +kernel) (pa_cons (pe_lc (own := [("goal", 2)]) (g := gName 2) (tt := tYes) rfl scAreGoals.nd (pi_sq (pv 0)) (blkOk_by (N := nAreGoals) (sc := defScope sAreGoals) (by decide +kernel)) (fun _ _ _ _ _ => (pg_name (i := 2) scAreGoals.nd rfl (Or.inl rfl))) (fun _ _ _ _ _ => pts_nil) (fun _ _ _ _ _ => (pe_own Owi (hr.mono (by omega)) (pa_cons (pv 2) (pa_cons pe_int (pa_cons (pe_op op_sub (pv 1) pe_int) pa_nil)))))) pa_nil))))))) (pss_one (ps_ret pe_bl)) pss_nil) (pss_one (ps_ret (pe_own Oan (hr.mono (by omega)) (pa_cons (pv 0) pa_nil))))), ?_⟩
    try dsimp only [cxOf, Cx.nox, Cx.wish]
    walk_at "go"
    refine ⟨v, true, rfl, .inl ⟨rfl, _, hv⟩, fun H1 s1 => ?_⟩
    walk_at "go"
    refine lc_true (hv.same s1) (by rw [List.length_map]; omega) (fun _ => rfl) ?_ _ ?_ (fun J h => h)
    · intro i x H' R hx sm q
      obtain ⟨y, hy, rfl⟩ := get_map hx
      walk_at "go"
      refine ⟨(y : Int), 0, (m : Int) - 1, rfl, ?_⟩
      have := hm y (List.mem_of_getElem? hy)
      rw [decide_eq_true (by omega), decide_eq_true (by omega)]
      exact q _ (Same.refl _)
    · intro D H' hD sm e
      walk_at "go"
      refine r_allT e ?_
      walk_at "go"
      refine ⟨v, gs, rfl, hv.same (s1.trans sm), h1000, fun H2 s2 => ?_⟩
      rw [asc_true hp]
      exact k _ ((s1.trans sm).trans s2)
abbrev OAreRows (P : Program) (w : World) (K : PySem.W.Frag) (mg : Str → Option Value) (base : Heap) : Prop := Own P w K mg base "are_rows" 4 ["signs", "thing", "most"] (spAreRows K)
abbrev OAreGoals (P : Program) (w : World) (K : PySem.W.Frag) (mg : Str → Option Value) (base : Heap) : Prop := Own P w K mg base "are_goals" 3 ["thing", "many"] (spAreGoals K)
theorem ok_isSum {f : Addr} {fd : FuncData} (F : Fun K "is_sum" "is_sum" sIsSum f fd) (B : Bl mg) (G : G11 K w mg dO dI) (Ito : OIsTupleOf P w K mg base) (Owi : OWithin P w K mg base) : FnOk P w K mg base CX0 3 f fd ["values"] (spIsSum K) := by
  refine F.ok scIsSum (fun vs H Q E h => ?_) (fun cdv A outer s H vs Q E hr h => ?_)
  · obtain ⟨v, xs, z, m, ws, g, rfl, _⟩ := h
    rfl
  · obtain ⟨v, xs, z, m, ws, g, rfl, hv, ⟨wv, rfl, hw⟩, ⟨m2, m60, wne, w8, wlt, glt⟩, k⟩ := h
    refine ⟨_, (pss_cons (ps_asg (pv 0) (pg_sq rfl (pgs_cons (pg_name (i := 1) scIsSum.nd rfl (Or.inr rfl)) (pgs_cons (pg_name (i := 2) scIsSum.nd rfl (Or.inl rfl)) (pgs_cons (pg_name (i := 3) scIsSum.nd rfl (Or.inl rfl)) pgs_nil))))) (pss_cons (ps_if (PW.pt (pw_or (pt_not (pt_val (pe_own Owi (hr.mono (by omega)) (pa_cons (pv 1) (pa_cons (pe_gI G.LEAST_MODULUS) (pa_cons (pe_gI G.MOST_MODULUS) pa_nil)))))) (pw_or1 (pt_not (pt_val (pe_own Ito (hr.mono (by omega)) (pa_cons (pv 2) (pa_cons pe_int (pa_cons (pe_gI G.MOST_WEIGHTS) pa_nil))))))))) (pss_one (ps_ret pe_bl)) pss_nil) (pss_one (ps_ret (pe_callB (cr_all rfl) (by rfl) B.all (by decide +kernel) (pa_cons (pe_lc (own := [("number", 4)]) (g := gName 4) (tt := tYes) rfl scIsSum.nd (pi_list (pe_lst (StX.pa_star (pv 2) (pa_cons (pv 3) pa_nil)))) (blkOk_by (N := nIsSum) (sc := defScope sIsSum) (by decide +kernel)) (fun _ _ _ _ _ => (pg_name (i := 4) scIsSum.nd rfl (Or.inl rfl))) (fun _ _ _ _ _ => pts_nil) (fun _ _ _ _ _ => (pe_own Owi (hr.mono (by omega)) (pa_cons (pv 4) (pa_cons pe_int (pa_cons (pe_op op_sub (pv 1) pe_int) pa_nil)))))) pa_nil)))))), ?_⟩
    try dsimp only [cxOf, Cx.nox, Cx.wish]
    walk_at "go"
    refine r_gSq hv rfl ?_
    walk_at "go"
    refine ⟨(m : Int), 2, 60, rfl, ?_⟩
    rw [decide_eq_true (by omega), decide_eq_true (by omega)]
    walk_at "go"
    have wpos := List.length_pos_iff.mpr wne
    refine ⟨wv, 1, 8, rfl, .inl ⟨_, hw, fun H1 s1 => ?_⟩⟩
    rw [List.length_map, decide_eq_true (by omega), decide_eq_true (by omega)]
    walk_at "go"
    refine r_starSq (hw.same s1) ?_
    walk_at "go"
    have hsum : ∀ x ∈ ws.map vi ++ [vi g], ∃ y : Nat, x = vi y ∧ y < m := by
      intro x hx
      rcases List.mem_append.mp hx with hx | hx
      · obtain ⟨y, hy, rfl⟩ := List.mem_map.mp hx
        exact ⟨y, rfl, wlt y hy⟩
      · exact ⟨g, List.mem_singleton.mp hx, glt⟩
    have hlen : (ws.map vi ++ [vi g]).length ≤ 1000 := by rw [List.length_append, List.length_map, List.length_singleton]; omega
    refine ⟨small_line hlen, fun p hp => ⟨p, rfl, ⟨_, SqL.of upd_same⟩, fun D hD => lc_trueL (SqL.of upd_same) hD hlen (fun _ => rfl) ?_ ?_⟩⟩
    · intro i x H' R hx sm q
      obtain ⟨y, rfl, hy⟩ := hsum x (List.mem_of_getElem? hx)
      walk_at "go"
      refine ⟨(y : Int), 0, (m : Int) - 1, rfl, ?_⟩
      rw [decide_eq_true (by omega), decide_eq_true (by omega)]
      exact q _ (Same.refl _)
    · intro H' sm e
      walk_at "go"
      exact r_allT e (k _ (s1.trans ((same_new hp).trans sm)))
theorem ok_isSquare {f : Addr} {fd : FuncData} (F : Fun K "is_square" "is_square" sIsSquare f fd) (B : Bl mg) (G : G11 K w mg dO dI) (Oar : OAreRows P w K mg base) (Oag : OAreGoals P w K mg base) : FnOk P w K mg base CX0 5 f fd ["signs", "values"] (spIsSquare K) := by
  refine F.ok scIsSquare (fun vs H Q E h => ?_) (fun cdv A outer s H vs Q E hr h => ?_)
  · obtain ⟨z, v, xs, rows, gs, rfl, _⟩ := h
    rfl
  · obtain ⟨z, v, xs, rows, gs, rfl, hz, hv, ⟨rv, gv, rvs, rfl, h1, h2, h3⟩, ⟨r1, r2, r3, r4, r5, r6⟩, k⟩ := h
    refine ⟨_, (pss_cons (ps_asg (pv 1) (pg_sq rfl (pgs_cons (pg_name (i := 2) scIsSquare.nd rfl (Or.inl rfl)) (pgs_cons (pg_name (i := 3) scIsSquare.nd rfl (Or.inl rfl)) pgs_nil)))) (pss_one (ps_ret (pe_and (pe_own Oar (hr.mono (by omega)) (pa_cons (pv 0) (pa_cons (pv 2) (pa_cons (pe_gI G.MOST_ROWS) pa_nil)))) (pe_and (pe_own Oag (hr.mono (by omega)) (pa_cons (pv 3) (pa_cons (pe_callB call_len (by rfl) B.len PySem.boot_len (pa_cons (pv 2) pa_nil)) pa_nil))) (pe_one (pe_cmpR op_gt (pe_callB call_len (by rfl) B.len PySem.boot_len (pa_cons (pv 3) pa_nil)) pe_int (nomark _)))))))), ?_⟩
    try dsimp only [cxOf, Cx.nox, Cx.wish]
    have lz := len_tl z
    have gl := asc_len (n := rows.length) 0 r5 fun g q => ⟨Nat.zero_le _, r6 g q⟩
    walk_at "go"
    refine r_gSq hv rfl ?_
    walk_at "go"
    refine ⟨z, rv, rvs, rows, 60, rfl, h1, h2, r1, r2, by decide, hz, fun r hr => by rw [lz]; exact r3 r hr, fun H1 s1 => ?_⟩
    walk_at "go"
    refine ⟨_, _, rfl, (h1.same s1).len, ?_⟩
    walk_at "go"
    rw [h2.len]
    refine ⟨gv, gs, rows.length, rfl, h3.same s1, by omega, r5, r6, fun H2 s2 => ?_⟩
    walk_at "go"
    refine ⟨_, _, rfl, (h3.same (s1.trans s2)).len, ?_⟩
    walk_at "go"
    have := List.length_pos_iff.mpr r4
    rw [List.length_map, decide_eq_true (by omega)]
    exact k _ (s1.trans s2)
theorem ok_areFaces {f : Addr} {fd : FuncData} (F : Fun K "are_faces" "are_faces" sAreFaces f fd) (B : Bl mg) (G : G11 K w mg dO dI) (Ito : OIsTupleOf P w K mg base) (Ot : OIsText P w K mg base) : FnOk P w K mg base CX0 3 f fd ["signs", "thing"] (spAreFaces K) := by
  refine F.ok scAreFaces (fun vs H Q E h => ?_) (fun cdv A outer s H vs Q E hr h => ?_)
  · obtain ⟨z, v, fs, rfl, _⟩ := h
    rfl
  · obtain ⟨z, v, fs, rfl, hz, hv, ⟨f1, f4, hf⟩, k⟩ := h
    refine ⟨_, (pss_cons (ps_if (pt_not (pt_val (pe_own Ito (hr.mono (by omega)) (pa_cons (pv 1) (pa_cons pe_int (pa_cons (pe_gI G.MOST_FACES) pa_nil)))))) (pss_one (ps_ret pe_bl)) pss_nil) (pss_one (ps_ret (pe_callB (cr_all rfl) (by rfl) B.all (by decide +kernel) (pa_cons (pe_lc (own := [("face", 2)]) (g := gName 2) (tt := tYes) rfl scAreFaces.nd (pi_sq (pv 1)) (blkOk_by (N := nAreFaces) (sc := defScope sAreFaces) (by decide +kernel)) (fun _ _ _ _ _ => (pg_name (i := 2) scAreFaces.nd rfl (Or.inl rfl))) (fun _ _ _ _ _ => pts_nil) (fun _ _ _ _ _ => (pe_own Ot (hr.mono (by omega)) (pa_cons (pv 2) (pa_cons (pe_callB (r := rLenK K) call_len (by rfl) B.len PySem.boot_len (pa_cons (pv 0) pa_nil)) (pa_cons (pe_callB (r := rLenK K) call_len (by rfl) B.len PySem.boot_len (pa_cons (pv 0) pa_nil)) (pa_cons (pv 0) pa_nil))))))) pa_nil))))), ?_⟩
    try dsimp only [cxOf, Cx.nox, Cx.wish]
    have lz := len_tl z
    have := List.length_pos_iff.mpr f1
    walk_at "go"
    refine ⟨v, 1, 4, rfl, .inl ⟨_, hv, fun H1 s1 => ?_⟩⟩
    rw [List.length_map, decide_eq_true (by omega), decide_eq_true (by omega)]
    walk_at "go"
    refine lc_true (hv.same s1) (by rw [List.length_map]; omega) (fun _ => rfl) ?_ _ ?_ (fun J h => h)
    · intro i x H' R hx sm q
      obtain ⟨y, hy, rfl⟩ := get_map hx
      have hy' := hf y (List.mem_of_getElem? hy)
      have ly := len_tl y
      walk_at "go"
      refine ⟨_, _, rfl, lenS (small_line (by omega)), ?_⟩
      walk_at "go"
      refine ⟨_, _, rfl, lenS (small_line (by omega)), ?_⟩
      walk_at "go"
      refine ⟨.str y, z.length, z.length, z, rfl, .inl ⟨y, rfl, by omega, fun H4 s4 => ?_⟩⟩
      have e : textB z.length z.length z y = true := by
        unfold textB
        rw [decide_eq_true (by omega), decide_eq_true (by omega), Bool.true_and, Bool.true_and]
        exact List.all_eq_true.mpr fun c hc => decide_eq_true (hy'.2 c hc)
      rw [e]
      exact q _ s4
    · intro D H' hD sm e
      walk_at "go"
      exact r_allT e (k _ (s1.trans sm))
end
end K4

/-! P11d -/


namespace K4
open PySem L2 K1
abbrev sAsTuples : Stmt := top 14
abbrev nAsTuples : List Str := ["thing", "inner"]
theorem scAsTuples : FnScope nAsTuples ["thing"] (defScope sAsTuples) := ⟨rfl, rfl, rfl, by decide +kernel, rfl, by decide +kernel, by decide +kernel⟩
abbrev sCountParts : Stmt := top 47
abbrev nCountParts : List Str := ["rule", "inner"]
theorem scCountParts : FnScope nCountParts ["rule"] (defScope sCountParts) := ⟨rfl, rfl, rfl, by decide +kernel, rfl, by decide +kernel, by decide +kernel⟩
mutual
def wdt : PyData → Bool
  | .tuple ds => decide (ds.length ≤ 1000) && wdtA ds
  | .list ds => decide (ds.length ≤ 1000) && wdtA ds
  | _ => true
def wdtA : List PyData → Bool
  | [] => true
  | d :: ds => wdt d && wdtA ds
end
mutual
def tupd : PyData → PyData
  | .tuple ds => .tuple (tupA ds)
  | .list ds => .tuple (tupA ds)
  | d => d
def tupA : List PyData → List PyData
  | [] => []
  | d :: ds => tupd d :: tupA ds
end
theorem tupA_map : ∀ ds : List PyData, tupA ds = ds.map tupd
  | [] => rfl
  | d :: ds => by rw [tupA, tupA_map ds]; rfl
theorem tupd_sq (t : Bool) (ds : List PyData) : tupd (sq t ds) = .tuple (ds.map tupd) := by
  cases t
  · show tupd (.list ds) = _
    rw [tupd, tupA_map]
  · show tupd (.tuple ds) = _
    rw [tupd, tupA_map]
theorem wdtA_iff : ∀ {ds : List PyData}, wdtA ds = true ↔ ∀ d ∈ ds, wdt d = true
  | [] => by simp [wdtA]
  | d :: ds => by simp [wdtA, wdtA_iff]
theorem wdt_sq {t : Bool} {ds : List PyData} (h : ds.length ≤ 1000) (k : ∀ d ∈ ds, wdt d = true) : wdt (sq t ds) = true := by
  cases t
  · show wdt (.list ds) = true
    rw [wdt, decide_eq_true h, wdtA_iff.mpr k]; rfl
  · show wdt (.tuple ds) = true
    rw [wdt, decide_eq_true h, wdtA_iff.mpr k]; rfl
theorem tupd_nums (ns : List Nat) : (ns.map pn).map tupd = ns.map pn := by
  rw [List.map_map]
  exact List.map_congr_left fun n _ => by simp [pn, tupd]
theorem wdt_nums {t : Bool} {ns : List Nat} (h : ns.length ≤ 1000) : wdt (sq t (ns.map pn)) = true := wdt_sq (by rw [List.length_map]; exact h) fun d hd => by obtain ⟨n, _, rfl⟩ := List.mem_map.mp hd; simp [pn, wdt]
theorem Ow.tup (t : Bool) (o : Ow) : (o.data t).map tupd = o.data true := by
  cases o with
  | sum m ws g => simp only [Ow.data, List.map_cons, List.map_nil, tupd_sq, tupd_nums]; simp [pn, tupd, sq]
  | square rows gs =>
    simp only [Ow.data, List.map_cons, List.map_nil, tupd_sq, tupd_nums, List.map_map]
    simp only [sq, if_true]
    refine congrArg (fun x => [PyData.tuple x, PyData.tuple (gs.map pn)]) ?_
    exact List.map_congr_left fun r _ => by
      show tupd (sq t (r.map pn)) = _
      rw [tupd_sq, tupd_nums]
  | faces fs =>
    simp only [Ow.data, List.map_cons, List.map_nil, tupd_sq, List.map_map]
    simp only [sq, if_true]
    refine congrArg (fun x => [PyData.tuple x]) ?_
    exact List.map_congr_left fun r _ => by simp [tupd]
  | cut a b => simp [Ow.data, pn, tupd]
  | _ => simp [Ow.data]
theorem Ow.wdt {o : Ow} (h : o.ok) (t : Bool) : ∀ d ∈ o.data t, K4.wdt d = true := by
  cases o with
  | sum m ws g =>
    intro d hd
    simp only [Ow.data, List.mem_cons, List.not_mem_nil, or_false] at hd
    rcases hd with rfl | rfl | rfl
    · simp [pn, K4.wdt]
    · exact wdt_nums (by have := h.2.2.1.2.1; omega)
    · simp [pn, K4.wdt]
  | square rows gs =>
    intro d hd
    simp only [Ow.data, List.mem_cons, List.not_mem_nil, or_false] at hd
    rcases hd with rfl | rfl
    · exact wdt_sq (by rw [List.length_map]; have := h.2.1; omega) fun d hd => by obtain ⟨r, hr, rfl⟩ := List.mem_map.mp hd; exact wdt_nums (by have := (h.2.2.1 r hr).2.1; omega)
    · exact wdt_nums (by have := h.2.2.2.2.1; omega)
  | faces fs =>
    intro d hd
    simp only [Ow.data, List.mem_cons, List.not_mem_nil, or_false] at hd
    subst hd
    exact wdt_sq (by rw [List.length_map]; have := h.2.1; omega) fun d hd => by obtain ⟨r, hr, rfl⟩ := List.mem_map.mp hd; simp [K4.wdt]
  | cut a b =>
    intro d hd
    simp only [Ow.data, List.mem_cons, List.not_mem_nil, or_false] at hd
    rcases hd with rfl | rfl <;> simp [pn, K4.wdt]
  | _ => intro d hd; simp [Ow.data] at hd
mutual
theorem tupd_pure : ∀ d : PyData, flatN d = true → pure (tupd d) = true
  | .none, _ => by simp [tupd, pure]
  | .int _, _ => by simp [tupd, pure]
  | .str _, _ => by simp [tupd, pure]
  | .tuple ds, h => by rw [tupd, pure]; exact tupA_pure ds (by simpa [flatN] using h)
  | .list ds, h => by rw [tupd, pure]; exact tupA_pure ds (by simpa [flatN] using h)
  | .bool _, h => by simp [flatN] at h
  | .dict _, h => by simp [flatN] at h
theorem tupA_pure : ∀ ds : List PyData, flatA ds = true → pureA (tupA ds) = true
  | [], _ => by simp [tupA, pureA]
  | d :: ds, h => by
    simp only [flatA, Bool.and_eq_true] at h
    rw [tupA, pureA, tupd_pure d h.1, tupA_pure ds h.2]
    rfl
end
theorem depthA_mem {n : Nat} : ∀ {ds : List PyData}, PyData.depthAll ds ≤ n → ∀ d ∈ ds, d.depth ≤ n
  | [], _, d, h => by simp at h
  | e :: ds, h, d, hd => by
    rw [PyData.depthAll] at h
    rcases List.mem_cons.mp hd with rfl | hd
    · omega
    · exact depthA_mem (by omega) d hd
def spAsT (K : PySem.W.Frag) (n : Nat) : Sp := fun vs H Q _ => ∃ (v : V) (d : PyData), vs = [v] ∧ Dp K H v d ∧ flatN d = true ∧ wdt d = true ∧ d.depth < n ∧ ∀ H' v', Same H H' → Dp K H' v' (tupd d) → Q v' H'
section
variable {P : Program} {w : World} {K : PySem.W.Frag} {mg : Str → Option Value} {base : Heap} {dO dI : Addr}
theorem dp_tuple {H : Hp} {v : V} {ds : List PyData} (h : Dp K H v (.tuple ds)) : ∃ a xs, v = .ref a ∧ SqT K H a xs ∧ DpAll K H xs ds := by
  cases h with
  | tup a b => exact ⟨_, _, rfl, a, b⟩
abbrev OAsT (n : Nat) (P : Program) (w : World) (K : PySem.W.Frag) (mg : Str → Option Value) (base : Heap) : Prop := Own P w K mg base "as_tuples" (n + 1) ["thing"] (spAsT K n)
theorem ok_asTuples {n : Nat} {f : Addr} {fd : FuncData} (F : Fun K "as_tuples" "as_tuples" sAsTuples f fd) (B : Bl mg) (Oit : OIsTuple P w K mg base) (Oas : OAsT n P w K mg base) : FnOk P w K mg base CX0 (n + 1 + 1) f fd ["thing"] (spAsT K (n + 1)) := by
  refine F.ok scAsTuples (fun vs H Q E h => ?_) (fun cdv A outer s H vs Q E hr h => ?_)
  · obtain ⟨v, d, rfl, _⟩ := h
    rfl
  · obtain ⟨v, d, rfl, hv, hf, hw, hd, k⟩ := h
    refine ⟨_, (pss_cons (ps_if (pt_not (pt_val (pe_own Oit (hr.mono (by omega)) (pa_cons (pv 0) pa_nil)))) (pss_one (ps_ret (pv 0))) pss_nil) (pss_one (ps_ret (pe_callTy call_tuple_of (by rfl) B.tuple (by decide +kernel) (pa_cons (pe_lc (own := [("inner", 1)]) (g := gName 1) (tt := tYes) rfl scAsTuples.nd (pi_sq (pv 0)) (blkOk_by (N := nAsTuples) (sc := defScope sAsTuples) (by decide +kernel)) (fun _ _ _ _ _ => (pg_name (i := 1) scAsTuples.nd rfl (Or.inl rfl))) (fun _ _ _ _ _ => pts_nil) (fun _ _ _ _ _ => (pe_own Oas hr (pa_cons (pv 1) pa_nil)))) pa_nil))))), ?_⟩
    try dsimp only [cxOf, Cx.nox, Cx.wish]
    walk_at "go"
    have seq : ∀ (t : Bool) (ds : List PyData), d = sq t ds → ∃ xs, Sq K H v xs ∧ DpAll K H xs ds ∧ flatA ds = true ∧ ds.length ≤ 1000 ∧ wdtA ds = true ∧ PyData.depthAll ds < n := fun t ds e => by
      subst e
      obtain ⟨xs, h1, h2⟩ := dp_sq hv
      refine ⟨xs, h1, h2, ?_⟩
      cases t
      · have hw' : wdt (.list ds) = true := hw
        have hd' : (PyData.list ds).depth < n + 1 := hd
        rw [wdt, Bool.and_eq_true, decide_eq_true_eq] at hw'
        rw [PyData.depth] at hd'
        exact ⟨by simpa [sq, flatN] using hf, hw'.1, hw'.2, by omega⟩
      · have hw' : wdt (.tuple ds) = true := hw
        have hd' : (PyData.tuple ds).depth < n + 1 := hd
        rw [wdt, Bool.and_eq_true, decide_eq_true_eq] at hw'
        rw [PyData.depth] at hd'
        exact ⟨by simpa [sq, flatN] using hf, hw'.1, hw'.2, by omega⟩
    have two : (NoSeq K H v ∧ tupd d = d) ∨ ∃ t ds, d = sq t ds := by
      cases hv with
      | non => exact .inl ⟨noSeq_non, by simp [tupd]⟩
      | int i => exact .inl ⟨noSeq_int, by simp [tupd]⟩
      | str x => exact .inl ⟨noSeq_str, by simp [tupd]⟩
      | bl b => simp [flatN] at hf
      | lst a b => exact .inr ⟨false, _, rfl⟩
      | tup a b => exact .inr ⟨true, _, rfl⟩
    rcases two with ⟨hn, e⟩ | ⟨t, ds, e⟩
    · refine ⟨v, false, rfl, .inr ⟨rfl, hn⟩, fun H1 s1 => ?_⟩
      walk_at "go"
      exact k H1 v s1 (by rw [e]; exact dp_keep (Same.keeps s1) _ _ hv)
    · obtain ⟨xs, hS, hA, hfA, hl, hwA, hdA⟩ := seq t ds e
      subst e
      rw [tupd_sq] at k
      have hpA : pureA (ds.map tupd) = true := by rw [← tupA_map]; exact tupA_pure ds hfA
      have hxl := dpA_len hA
      refine ⟨v, true, rfl, .inl ⟨rfl, xs, hS⟩, fun H1 s1 => ?_⟩
      walk_at "go"
      refine lc_sq (hS.same s1) (fun _ => rfl) (fun acc H' => DpAll K H' acc ((ds.map tupd).take acc.length) ∧ Same H1 H') (fun D hD => ⟨.nil, same_new hD⟩) (fun D acc H' _ _ q => Same.keeps q.2) ?_ _ ?_ (fun J h => h)
      · rintro D i x acc H' hD hx la hacc ⟨ha, sm⟩
        obtain ⟨di, hdi, hxd⟩ := dpA_get hA hx
        have hmem := List.mem_of_getElem? hdi
        have hil := (List.getElem?_eq_some_iff.mp hdi).1
        walk_at "go"
        refine ⟨x, di, rfl, dp_keep (Same.keeps (s1.trans sm)) _ _ hxd, flatA_iff.mp hfA di hmem, wdtA_iff.mp hwA di hmem, Nat.lt_of_le_of_lt (depthA_mem (Nat.le_refl _) di hmem) hdA, fun H2 v2 s2 d2 => ?_⟩
        refine pp_next (s2 _ _ hacc) la (line60 (by omega)) ⟨?_, same_upd (sm.trans s2) hD⟩
        have kt : KT K H2 (upd H2 D (.lst (acc ++ [v2]))) := kt_lst (s2 _ _ hacc)
        have e2 : ds.map tupd = ds.map tupd := rfl
        have pt : pureA ((ds.map tupd).take acc.length) = true := pureA_iff.mpr fun y hy => pureA_iff.mp hpA y (List.mem_of_mem_take hy)
        have r1 := dpA_app (dpA_pure kt _ _ pt (dpA_keep (Same.keeps s2) _ _ ha)) (.cons (dp_pure kt _ _ (tupd_pure di (flatA_iff.mp hfA di hmem)) d2) .nil)
        rw [la, ← List.map_take, take_next hdi, List.map_take] at r1
        rw [List.length_append, la]
        exact r1
      · rintro D acc H' hD la hacc ⟨ha, sm⟩
        rw [la, hxl, ← List.length_map (f := tupd), List.take_length] at ha
        walk_at "go"
        refine ⟨D, acc, rfl, .inl ⟨SqL.of hacc, fun l hl => ?_⟩⟩
        have s3 := same_new (o := HO.tup acc) hl
        exact k _ _ (s1.trans (sm.trans s3)) (.tup (SqT.of upd_same) (dpA_keep (Same.keeps s3) _ _ ha))
theorem as_all {f : Addr} {fd : FuncData} (F : Fun K "as_tuples" "as_tuples" sAsTuples f fd) (B : Bl mg) (Oit : OIsTuple P w K mg base) (m : mg "as_tuples" = some (.ref f)) (b : Binds K fd ["thing"] []) : ∀ n : Nat, OAsT n P w K mg base
  | 0 => ⟨f, fd, none_ok fun vs H Q E h => by obtain ⟨v, d, _, _, _, _, hd, _⟩ := h; omega, m, F.kp, b⟩
  | n + 1 => ⟨f, fd, ok_asTuples F B Oit (as_all F B Oit m b n), m, F.kp, b⟩
end
end K4

/-! P11e -/


namespace K4
open PySem L2 K1
abbrev sHasForm : Stmt := top 44
abbrev nHasForm : List Str := ["signs", "part", "word", "values", "many"]
theorem scHasForm : FnScope nHasForm ["signs", "part"] (defScope sHasForm) := ⟨rfl, rfl, rfl, by decide +kernel, rfl, by decide +kernel, by decide +kernel⟩
/-- no rule, told at its head -/
def BadR (K : PySem.W.Frag) (H : Hp) (v : V) : Prop :=
  NoSeq K H v ∨ (∃ x : Str, Sq K H v [.str x] ∧ ∀ k < 9, x ≠ wd k) ∨ (∃ (k : Nat) (xs : List V), k < 9 ∧ Sq K H v (.str (wd k) :: xs) ∧ xs.length ≤ 3 ∧ xs.length ≠ mn k + ar k) ∨
  (∃ (a b : Nat) (x : V), Sq K H v [.str (wd 8), vi a, vi b, x] ∧ a ≤ 3 ∧ 3 < b)
theorem NoSeq.same {K : PySem.W.Frag} {H H' : Hp} {v : V} (h : NoSeq K H v) (s : Same H H') : NoSeq K H' v := by
  obtain ⟨t, a, b⟩ := h
  exact ⟨t, fun H2 s2 => a H2 (s.trans s2), b⟩
theorem BadR.same {K : PySem.W.Frag} {H H' : Hp} {v : V} (h : BadR K H v) (s : Same H H') : BadR K H' v := by
  rcases h with h | ⟨x, h, e⟩ | ⟨k, xs, hk, h, l⟩ | ⟨a, b, x, h, l⟩
  · exact .inl (h.same s)
  · exact .inr (.inl ⟨x, h.same s, e⟩)
  · exact .inr (.inr (.inl ⟨k, xs, hk, h.same s, l⟩))
  · exact .inr (.inr (.inr ⟨a, b, x, h.same s, l⟩))
def spHasForm (K : PySem.W.Frag) : Sp := fun vs H Q _ => ∃ (z : Str) (v : V), vs = [.str z, v] ∧ z.length ≤ 12 ∧ ((∃ r : R, RAt K H v r ∧ r.ow.fit (tl z) ∧ r.inner.length = ar r.ow.kind ∧ ∀ H', Same H H' → Q (.bl true) H') ∨ (BadR K H v ∧ ∀ H', Same H H' → Q (.bl false) H'))
theorem r_neY {p : Prop} {dp : Decidable p} {A B : Prop} (h : p) (q : B) : if (!decide p) = true then A else B := by
  rw [decide_eq_true h]; exact q
theorem r_neN {p : Prop} {dp : Decidable p} {A B : Prop} (h : ¬ p) (q : A) : if (!decide p) = true then A else B := by
  rw [decide_eq_false h]; exact q
theorem mn_ar : ∀ k < 9, mn k + ar k ≤ 3 := by decide
section
variable {P : Program} {w : World} {K : PySem.W.Frag} {mg : Str → Option Value} {base : Heap} {dO dI : Addr}
abbrev OIsSum (P : Program) (w : World) (K : PySem.W.Frag) (mg : Str → Option Value) (base : Heap) : Prop := Own P w K mg base "is_sum" 3 ["values"] (spIsSum K)
abbrev OIsSquare (P : Program) (w : World) (K : PySem.W.Frag) (mg : Str → Option Value) (base : Heap) : Prop := Own P w K mg base "is_square" 5 ["signs", "values"] (spIsSquare K)
abbrev OAreFaces (P : Program) (w : World) (K : PySem.W.Frag) (mg : Str → Option Value) (base : Heap) : Prop := Own P w K mg base "are_faces" 3 ["signs", "thing"] (spAreFaces K)
abbrev OOwnV (P : Program) (w : World) (K : PySem.W.Frag) (mg : Str → Option Value) (base : Heap) : Prop := Own P w K mg base "own_values" 1 ["part"] (spOwn K)
abbrev OInner (P : Program) (w : World) (K : PySem.W.Frag) (mg : Str → Option Value) (base : Heap) : Prop := Own P w K mg base "inner_rules" 1 ["part"] (spInner K)
theorem ok_hasForm {f : Addr} {fd : FuncData} (F : Fun K "has_form" "has_form" sHasForm f fd) (B : Bl mg) (G : G11 K w mg dO dI) (Ito : OIsTupleOf P w K mg base) (Owi : OWithin P w K mg base) (Oov : OOwnV P w K mg base) (Osu : OIsSum P w K mg base) (Osq : OIsSquare P w K mg base) (Ofa : OAreFaces P w K mg base) :
    FnOk P w K mg base CX0 6 f fd ["signs", "part"] (spHasForm K) := by
  refine F.ok scHasForm (fun vs H Q E h => ?_) (fun cdv A outer s H vs Q E hr h => ?_)
  · obtain ⟨z, v, rfl, _⟩ := h
    rfl
  · obtain ⟨z, v, rfl, hz, h⟩ := h
    obtain ⟨es, m, DD⟩ := G.ovD
    refine ⟨_, (pss_cons (ps_if (PW.pt (pw_or (pt_not (pt_val (pe_own Ito (hr.mono (by omega)) (pa_cons (pv 1) (pa_cons pe_int (pa_cons pe_int pa_nil)))))) (pw_or (pt_not (pt_val (pe_callB (id := "isinstance") (r := rIsi K) call_isi (by rfl) B.isin (by decide +kernel) (pa_cons (pe_ix ix_seq (pv 1) pe_int (fun _ _ => rfl)) (pa_cons (pe_bltn (v := .ty "str") (by rfl) B.str (by decide +kernel) rfl) pa_nil))))) (pw_or1 (pt_cmpR (op_notIn_kd DD) (pe_ix ix_seq (pv 1) pe_int (fun _ _ => rfl)) (pe_gR G.OV) (by rfl)))))) (pss_one (ps_ret pe_bl)) pss_nil) (pss_cons (ps_set (i := 2) scHasForm.nd rfl (Or.inl rfl) (pe_ix ix_seq (pv 1) pe_int (fun _ _ => rfl))) (pss_cons (ps_if (pt_cmpR op_ne (pe_callB call_len (by rfl) B.len PySem.boot_len (pa_cons (pv 1) pa_nil)) (pe_op op_add (pe_op op_add pe_int (pe_ix ix_kdict (pe_gR G.OV) (pv 2) (fun _ _ => rfl))) (pe_ix ix_kdict (pe_gR G.IR) (pv 2) (fun _ _ => rfl))) (nomark _)) (pss_one (ps_ret pe_bl)) pss_nil) (pss_cons (ps_set (i := 3) scHasForm.nd rfl (Or.inl rfl) (pe_own Oov (hr.mono (by omega)) (pa_cons (pv 1) pa_nil))) (pss_cons (ps_if (pt_cmpR op_eq (pv 2) pe_str (nomark _)) (pss_one (ps_ret (pe_own Osu (hr.mono (by omega)) (pa_cons (pv 3) pa_nil)))) pss_nil) (pss_cons (ps_if (pt_cmpR op_eq (pv 2) pe_str (nomark _)) (pss_one (ps_ret (pe_own Osq (hr.mono (by omega)) (pa_cons (pv 0) (pa_cons (pv 3) pa_nil))))) pss_nil) (pss_cons (ps_if (pt_cmpR op_eq (pv 2) pe_str (nomark _)) (pss_one (ps_ret (pe_own Ofa (hr.mono (by omega)) (pa_cons (pv 0) (pa_cons (pe_ix ix_seq (pv 3) pe_int (fun _ _ => rfl)) pa_nil))))) pss_nil) (pss_one (ps_ret (pe_callB (cr_all rfl) (by rfl) B.all (by decide +kernel) (pa_cons (pe_lc (own := [("many", 4)]) (g := gName 4) (tt := tYes) rfl scHasForm.nd (pi_sq (pv 3)) (blkOk_by (N := nHasForm) (sc := defScope sHasForm) (by decide +kernel)) (fun _ _ _ _ _ => (pg_name (i := 4) scHasForm.nd rfl (Or.inl rfl))) (fun _ _ _ _ _ => pts_nil) (fun _ _ _ _ _ => (pe_own Owi (hr.mono (by omega)) (pa_cons (pv 4) (pa_cons pe_int (pa_cons (pe_gI G.MOST_CUT) pa_nil)))))) pa_nil))))))))))), ?_⟩
    try dsimp only [cxOf, Cx.nox, Cx.wish]
    walk_at "go"
    have cmpW : ∀ {k j : Nat}, k < 9 → j < 9 → k ≠ j → ¬ (V.str (wd k) = V.str (wd j)) := fun hk hj ne q => ne (wd_inj _ hk _ hj (V.str.inj q))
    rcases h with ⟨r, hR, hfit, har, k⟩ | ⟨hb, k⟩
    · obtain ⟨xs, is, hS, hO, hI⟩ := hR.open
      have lx := hO.len
      have li := hI.len
      have hk9 := r.ow.kind_lt
      have hmn := mn_ar r.ow.kind hk9
      refine ⟨v, 1, 4, rfl, .inl ⟨_, hS, fun H1 s1 => ?_⟩⟩
      rw [List.length_cons, List.length_append, lx, li, har, decide_eq_true (by omega), decide_eq_true (by omega)]
      walk_at "go"
      refine r_ixSq (hS.same s1) at0 ?_
      walk_at "go"
      refine r_isi (b := true) (.ty "str") (.base (.str _)) (kit_ty (by decide +kernel)) ?_
      walk_at "go"
      refine r_ixSq (hS.same s1) at0 ?_
      walk_at "go"
      obtain ⟨u, hu⟩ := G.ovN _ hk9
      refine ⟨_, some u, rfl, rfl, hu, ?_⟩
      walk_at "go"
      refine r_ixSq (hS.same s1) at0 ?_
      walk_at "go"
      refine ⟨_, _, rfl, (hS.same s1).len, ?_⟩
      walk_at "go"
      refine r_kd (G.ov _ hk9) ?_
      walk_at "go"
      refine r_kd (G.ir _ hk9) ?_
      walk_at "go"
      refine r_neY (congrArg V.int (by rw [List.length_cons, List.length_append, lx, li, har]; omega)) ?_
      walk_at "go"
      refine ⟨v, r.ow.kind, xs, is, rfl, hk9, hS.same s1, lx, fun v' H2 s2 hv' => ?_⟩
      have s12 := s1.trans s2
      have hO2 := hO.keep (Same.keeps s12)
      clear hO hS
      generalize r.ow = o at *
      walk_at "go"
      refine r_ite (fun h5 => ?_) (fun h5 => ?_)
      · have e := kind_of (k := 5) (by decide) h5
        cases o <;> first | (exact absurd e (by simp only [Ow.kind]; decide)) | skip
        rename_i m' ws g
        walk_at "go"
        exact ⟨v', xs, tl z, m', ws, g, rfl, hv', hO2, hfit, fun H3 s3 => k _ (s12.trans s3)⟩
      walk_at "go"
      refine r_ite (fun h6 => ?_) (fun h6 => ?_)
      · have e := kind_of (k := 6) (by decide) h6
        cases o <;> first | (exact absurd e (by simp only [Ow.kind]; decide)) | skip
        rename_i rows gs
        walk_at "go"
        exact ⟨z, v', xs, rows, gs, rfl, hz, hv', hO2, hfit, fun H3 s3 => k _ (s12.trans s3)⟩
      walk_at "go"
      refine r_ite (fun h7 => ?_) (fun h7 => ?_)
      · have e := kind_of (k := 7) (by decide) h7
        cases o <;> first | (exact absurd e (by simp only [Ow.kind]; decide)) | skip
        rename_i fs
        obtain ⟨fv, rfl, hf⟩ := hO2
        walk_at "go"
        refine r_ixSq hv' at0 ?_
        walk_at "go"
        exact ⟨z, fv, fs, rfl, hz, hf, hfit, fun H3 s3 => k _ (s12.trans s3)⟩
      walk_at "go"
      have hx : xs.length ≤ 1000 ∧ ∀ x ∈ xs, ∃ y : Nat, x = vi y ∧ y ≤ 3 := by
        cases o with
        | sum m' ws g => exact absurd rfl h5
        | square rows gs => exact absurd rfl h6
        | faces fs => exact absurd rfl h7
        | cut a b =>
          obtain rfl : xs = [vi a, vi b] := hO2
          refine ⟨by show 2 ≤ 1000; decide, fun x hx => ?_⟩
          simp only [List.mem_cons, List.not_mem_nil, or_false] at hx
          rcases hx with rfl | rfl
          · exact ⟨a, rfl, hfit.1⟩
          · exact ⟨b, rfl, hfit.2⟩
        | any => obtain rfl : xs = [] := hO2; exact ⟨Nat.zero_le _, fun x hx => by cases hx⟩
        | back => obtain rfl : xs = [] := hO2; exact ⟨Nat.zero_le _, fun x hx => by cases hx⟩
        | not => obtain rfl : xs = [] := hO2; exact ⟨Nat.zero_le _, fun x hx => by cases hx⟩
        | both => obtain rfl : xs = [] := hO2; exact ⟨Nat.zero_le _, fun x hx => by cases hx⟩
        | either => obtain rfl : xs = [] := hO2; exact ⟨Nat.zero_le _, fun x hx => by cases hx⟩
      refine lc_true hv' hx.1 (fun _ => rfl) ?_ _ ?_ (fun J h => h)
      · intro i x H' R hxi sm q
        obtain ⟨y, rfl, hy⟩ := hx.2 x (List.mem_of_getElem? hxi)
        walk_at "go"
        refine ⟨(y : Int), 0, 3, rfl, ?_⟩
        rw [decide_eq_true (by omega), decide_eq_true (by omega)]
        exact q _ (Same.refl _)
      · intro D H' hD sm e
        walk_at "go"
        exact r_allT e (k _ (s12.trans sm))
    · rcases hb with hn | ⟨x, hS, hx⟩ | ⟨kd, xs, hk9, hS, hl, hne⟩ | ⟨a, b, x, hS, ha, hb⟩
      · refine ⟨v, 1, 4, rfl, .inr ⟨hn, fun H1 s1 => ?_⟩⟩
        walk_at "go"
        exact k _ s1
      · refine ⟨v, 1, 4, rfl, .inl ⟨_, hS, fun H1 s1 => ?_⟩⟩
        rw [show (([V.str x].length : Nat) : Int) = 1 from rfl, decide_eq_true (by omega), decide_eq_true (by omega)]
        walk_at "go"
        refine r_ixSq (hS.same s1) at0 ?_
        walk_at "go"
        refine r_isi (b := true) (.ty "str") (.base (.str _)) (kit_ty (by decide +kernel)) ?_
        walk_at "go"
        refine r_ixSq (hS.same s1) at0 ?_
        walk_at "go"
        refine ⟨_, none, rfl, rfl, G.ovX x hx, ?_⟩
        walk_at "go"
        exact k _ s1
      · refine ⟨v, 1, 4, rfl, .inl ⟨_, hS, fun H1 s1 => ?_⟩⟩
        rw [List.length_cons, decide_eq_true (by omega), decide_eq_true (by omega)]
        walk_at "go"
        refine r_ixSq (hS.same s1) at0 ?_
        walk_at "go"
        refine r_isi (b := true) (.ty "str") (.base (.str _)) (kit_ty (by decide +kernel)) ?_
        walk_at "go"
        refine r_ixSq (hS.same s1) at0 ?_
        walk_at "go"
        obtain ⟨u, hu⟩ := G.ovN _ hk9
        refine ⟨_, some u, rfl, rfl, hu, ?_⟩
        walk_at "go"
        refine r_ixSq (hS.same s1) at0 ?_
        walk_at "go"
        refine ⟨_, _, rfl, (hS.same s1).len, ?_⟩
        walk_at "go"
        refine r_kd (G.ov _ hk9) ?_
        walk_at "go"
        refine r_kd (G.ir _ hk9) ?_
        walk_at "go"
        refine r_neN (fun q => hne (by have := V.int.inj q; rw [List.length_cons] at this; omega)) ?_
        walk_at "go"
        exact k _ s1
      · refine ⟨v, 1, 4, rfl, .inl ⟨_, hS, fun H1 s1 => ?_⟩⟩
        rw [show (([V.str (wd 8), vi a, vi b, x].length : Nat) : Int) = 4 from rfl, decide_eq_true (by omega), decide_eq_true (by omega)]
        walk_at "go"
        refine r_ixSq (hS.same s1) at0 ?_
        walk_at "go"
        refine r_isi (b := true) (.ty "str") (.base (.str _)) (kit_ty (by decide +kernel)) ?_
        walk_at "go"
        refine r_ixSq (hS.same s1) at0 ?_
        walk_at "go"
        obtain ⟨u, hu⟩ := G.ovN 8 (by decide)
        refine ⟨_, some u, rfl, rfl, hu, ?_⟩
        walk_at "go"
        refine r_ixSq (hS.same s1) at0 ?_
        walk_at "go"
        refine ⟨_, _, rfl, (hS.same s1).len, ?_⟩
        walk_at "go"
        refine r_kd (G.ov 8 (by decide)) ?_
        walk_at "go"
        refine r_kd (G.ir 8 (by decide)) ?_
        walk_at "go"
        refine ⟨v, 8, [vi a, vi b], [x], rfl, by decide, hS.same s1, rfl, fun v' H2 s2 hv' => ?_⟩
        have s12 := s1.trans s2
        walk_at "go"
        refine lc_sq hv' (fun _ => rfl) (fun acc H' => acc = ([true, false].take acc.length).map V.bl ∧ Same H2 H') (fun D hD => ⟨rfl, same_new hD⟩) (fun D acc H' _ _ q => Same.keeps q.2) ?_ _ ?_ (fun J h => h)
        · rintro D i x' acc H' hD hx la hacc ⟨hacc', sm⟩
          walk_at "go"
          match i, hx with
          | 0, hx =>
            obtain rfl := Option.some.inj hx
            refine ⟨(a : Int), 0, 3, rfl, ?_⟩
            rw [decide_eq_true (by omega), decide_eq_true (by omega)]
            exact pp_next hacc la (line60 (by decide)) ⟨acc_next (f := V.bl) (a := true) hacc' la rfl, same_upd sm hD⟩
          | 1, hx =>
            obtain rfl := Option.some.inj hx
            refine ⟨(b : Int), 0, 3, rfl, ?_⟩
            rw [decide_eq_true (by omega), decide_eq_false (by omega)]
            exact pp_next hacc la (line60 (by decide)) ⟨acc_next (f := V.bl) (a := false) hacc' la rfl, same_upd sm hD⟩
          | i + 2, hx => cases hx
        · rintro D acc H' hD la hacc ⟨hacc', sm⟩
          rw [la] at hacc'
          walk_at "go"
          refine r_all (bs := [true, false]) (by rw [hacc'] at hacc; exact SqL.of hacc) ?_
          exact k _ (s12.trans sm)
abbrev OHasForm (P : Program) (w : World) (K : PySem.W.Frag) (mg : Str → Option Value) (base : Heap) : Prop := Own P w K mg base "has_form" 6 ["signs", "part"] (spHasForm K)
theorem R.depth_pos : ∀ r : R, 1 ≤ r.depth
  | .n0 _ => Nat.le_refl _
  | .n1 _ _ => Nat.succ_le_succ (Nat.zero_le _)
  | .n2 _ _ _ => Nat.succ_le_succ (Nat.zero_le _)
def spCount (K : PySem.W.Frag) (n : Nat) : Sp := fun vs H Q _ => ∃ (v : V) (r : R), vs = [v] ∧ RAt K H v r ∧ r.depth ≤ n ∧ ∀ H', Same H H' → Q (.int r.parts) H'
theorem sum_cast : ∀ ns : List Nat, (ns.map fun n : Nat => (n : Int)).sum = ((ns.sum : Nat) : Int)
  | [] => rfl
  | n :: ns => by rw [List.map_cons, List.sum_cons, List.sum_cons, sum_cast ns]; omega
theorem inner_len : ∀ r : R, r.inner.length ≤ 2
  | .n0 _ => by simp [R.inner]
  | .n1 _ _ => by simp [R.inner]
  | .n2 _ _ _ => by simp [R.inner]
abbrev OCount (n : Nat) (P : Program) (w : World) (K : PySem.W.Frag) (mg : Str → Option Value) (base : Heap) : Prop := Own P w K mg base "count_parts" (n + 1) ["rule"] (spCount K n)
theorem ok_count {n : Nat} {f : Addr} {fd : FuncData} (F : Fun K "count_parts" "count_parts" sCountParts f fd) (B : Bl mg) (Oin : OInner P w K mg base) (Ocp : OCount n P w K mg base) : FnOk P w K mg base CX0 (n + 1 + 1) f fd ["rule"] (spCount K (n + 1)) := by
  refine F.ok scCountParts (fun vs H Q E h => ?_) (fun cdv A outer s H vs Q E hr h => ?_)
  · obtain ⟨v, r, rfl, _⟩ := h
    rfl
  · obtain ⟨v, r, rfl, hR, hd, k⟩ := h
    refine ⟨_, (pss_one (ps_ret (pe_op op_add pe_int (pe_callB (cr_sum rfl) (by rfl) B.sum (by decide +kernel) (pa_cons (pe_lc (own := [("inner", 1)]) (g := gName 1) (tt := tYes) rfl scCountParts.nd (pi_sq (pe_own Oin (hr.mono (by omega)) (pa_cons (pv 0) pa_nil))) (blkOk_by (N := nCountParts) (sc := defScope sCountParts) (by decide +kernel)) (fun _ _ _ _ _ => (pg_name (i := 1) scCountParts.nd rfl (Or.inl rfl))) (fun _ _ _ _ _ => pts_nil) (fun _ _ _ _ _ => (pe_own Ocp (hr.mono (by omega)) (pa_cons (pv 1) pa_nil)))) pa_nil))))), ?_⟩
    try dsimp only [cxOf, Cx.nox, Cx.wish]
    obtain ⟨xs, is, hS, hO, hI⟩ := hR.open
    walk_at "go"
    refine ⟨v, r.ow.kind, xs, is, rfl, r.ow.kind_lt, hS, hO.len, fun p H1 hp s1 hi => ?_⟩
    have hI1 := hI.keep (Same.keeps s1)
    have li := hI.len
    have l2 := inner_len r
    refine lc_sq hi (fun _ => rfl) (fun acc H' => acc = ((r.inner.map R.parts).take acc.length).map vi ∧ Same H1 H') (fun D hD => ⟨rfl, same_new hD⟩) (fun D acc H' _ _ q => Same.keeps q.2) ?_ _ ?_ (fun J h => h)
    · rintro D i x acc H' hD hx la hacc ⟨ha, sm⟩
      obtain ⟨ri, hri, hRA⟩ := hI1.get hx
      have hmem := List.mem_of_getElem? hri
      walk_at "go"
      refine ⟨x, ri, rfl, hRA.keep (Same.keeps sm), by have := R.in_depth ri hmem; omega, fun H4 s4 => ?_⟩
      exact pp_next (s4 _ _ hacc) la (line60 (by have := (List.getElem?_eq_some_iff.mp hri).1; omega)) ⟨acc_next (f := vi) (a := ri.parts) ha la (by rw [List.getElem?_map, hri]; rfl), same_upd (sm.trans s4) hD⟩
    · rintro D acc H' hD la hacc ⟨ha, sm⟩
      rw [la, li, ← List.length_map (f := R.parts), List.take_length] at ha
      walk_at "go"
      refine r_sum (ns := (r.inner.map R.parts).map fun n : Nat => (n : Int)) (by rw [ha] at hacc; rw [List.map_map]; exact SqL.of hacc) ?_
      walk_at "go"
      rw [sum_cast]
      have e : (1 : Int) + ((r.inner.map R.parts).sum : Nat) = (r.parts : Nat) := by rw [r.parts_eq]; omega
      rw [e]
      exact k _ (s1.trans sm)
theorem cp_all {f : Addr} {fd : FuncData} (F : Fun K "count_parts" "count_parts" sCountParts f fd) (B : Bl mg) (Oin : OInner P w K mg base) (m : mg "count_parts" = some (.ref f)) (b : Binds K fd ["rule"] []) : ∀ n : Nat, OCount n P w K mg base
  | 0 => ⟨f, fd, none_ok fun vs H Q E h => by obtain ⟨v, r, _, _, hd, _⟩ := h; have := R.depth_pos r; omega, m, F.kp, b⟩
  | n + 1 => ⟨f, fd, ok_count F B Oin (cp_all F B Oin m b n), m, F.kp, b⟩
end
end K4

/-! X1 -/
/-! super().__init__(text) of an own exception over ValueError. -/
namespace K1
open PySem L2 PyProof.Rows PySem.W PySem.Calls
theorem init_code {P : Program} {w : World} {A : Around} {R : Result → Shared → Prop} {h : Heap} {g : Array GenState} {d : Drawn} {t : Nat} {os : OsState} {C e t0 : Addr} {rest : List Value}
    (he : h.get? e = some (HandSPX.excO C t0)) (hrest : rest.length ≤ sizeLine)
    (hq : ∀ (h' : Heap) (t1 : Addr), (∀ b o, b ≠ e → h.get? b = some o → h'.get? b = some o) → h'.get? e = some (HandSPX.excO C t1) → R (.ok (.ret .none)) ⟨h', g, d, t, os⟩) :
    codeAny (model P w) A (.builtin "ValueError.__init__" ⟨.ref e :: rest, []⟩) R ⟨h, g, d, t, os⟩ := by
  refine codeAny_builtin F.excBase_ValueError.initEntry ?_
  rw [Around.under_plainId F.excBase_ValueError.init.plain]
  unfold Builtin.«BaseException.__init__»
  refine wpAny_ite_false (by rfl) ?_
  refine wpAny_bind (wpAny_newTuple ?_ hrest)
  have he' := Heap.get?_push_of_some ⟨.type "tuple", none, .seq rest.toArray 0, #[]⟩ he
  refine wpAny_bind ?_
  unfold Builtin.BaseException.bexcPut
  refine wpAny_bind ?_
  unfold field
  refine wpAny_bind ?_
  unfold fieldsOf
  refine wpAny_bind (wpAny_load' he' ?_)
  refine wpAny_pure ?_
  show wpAny _ _ (pure (Value.ref t0)) _ _ _
  refine wpAny_pure ?_
  refine wpAny_bind ?_
  unfold setField
  refine wpAny_bind (wpAny_load' he' ?_)
  refine wpAny_ite_true (by rfl) ?_
  refine wpAny_update' he' ?_
  refine wpAny_letGo ?_
  refine wpAny_pure ?_
  refine hq _ h.objs.size (fun b o hb e1 => ?_) ?_
  · rw [Heap.get?_update_ne _ _ _ _ hb]
    exact Heap.get?_push_of_some _ e1
  · exact Heap.get?_update_self _ he' rfl
theorem call_mw {P : Program} {w : World} {A : Around} {E : Value → Shared → Prop} {h : Heap} {g : Array GenState} {d : Drawn} {t : Nat} {os : OsState} {nm q : Str} {C N : Addr} {bs bm : List Value} {hdct : Bool} {sn : List Str} {sub : List Value} {ab : Bool} {col : Option Bool} {dd : Option Addr} {k0 k1 k2 k3 k5 : Option Value}
    {u e t0 : Addr} {rest : List Value} {Q : Value → Shared → Prop}
    (hC : h.get? C = some (excClassObj nm q C N bs bm hdct sn sub ab col dd k0 k1 k2 k3 k5 "ValueError.__new__")) (he : h.get? e = some (HandSPX.excO C t0)) (hu : h.get? u = some (kxs_mw "ValueError.__init__" e)) (hrest : rest.length ≤ sizeLine)
    (hq : ∀ (h' : Heap) (t1 : Addr), (∀ b o, b ≠ e → h.get? b = some o → h'.get? b = some o) → h'.get? e = some (HandSPX.excO C t1) → Q .none ⟨h', g, d, t, os⟩) :
    wpAny (model P w) A (call (.ref u) rest) Q E ⟨h, g, d, t, os⟩ := by
  refine wpAny_call (codeAny_of_tree ?_)
  show wpAny _ _ (callAny (.ref u) ⟨rest, []⟩) _ _ _
  unfold callAny
  refine wpAny_bind (wpAny_load hu ?_)
  dsimp only [kxs_mw]
  rw [if_pos (by decide)]
  show wpAny _ _ (if (Value.type "method-wrapper" != Value.type "method") = true then do
          checkBoundCall "ValueError.__init__" { pos := .ref e :: rest }
          again (Code.builtin "ValueError.__init__" { pos := .ref e :: rest })
        else again (Code.call (.builtin "ValueError.__init__") { pos := .ref e :: rest })) _ _ _
  rw [if_pos (by decide)]
  exact wpAny_bind (check_bound_init F.excBase_ValueError.toExcCallFacts hC he rfl (wpAny_pure ⟨Code.quiet_builtin _ (by decide +kernel), init_code he hrest hq⟩))
end K1

/-! X8n -/
/-! An error with its own __init__, made where nothing is handled: its context is None. -/
namespace K1
open PySem L2 PyProof.Rows PySem.W PySem.Calls
theorem mk_ctx {X : Cx} {pins : List (Addr × Obj)} {σ : L2.St} {Q : XK} {a C t : Addr} {d : Option Addr} {s' : Shared} (h : MkP X pins σ Q (.ref a) s') (e : s'.heap.get? a = some ⟨.ref C, d, .fields #[.ref t, .none, .none, .none, .bool false, .none], #[]⟩) : L2N.MkP X pins σ Q (.ref a) s' := by
  obtain ⟨a', oe, vs, sI, H', cls, d', ea, I, k, n, g, hz, hd, h1, hn, os, b, r, q⟩ := h
  obtain rfl : a = a' := Value.ref.inj ea
  rw [e] at g
  obtain rfl := Option.some.inj g
  refine ⟨a, _, vs, sI, H', cls, d', rfl, I, k, n, e, ⟨hz.1, hz.2, fun ws hw => ?_⟩, hd, h1, hn, os, b, r, q⟩
  obtain rfl := Data.fields.inj hw
  rfl
theorem pmk_oexN {X : Cx} {e : Expr} {es : List Expr} {ta : TA} {p pos : Pos} {x : Str} {C fI : Addr} {k : Nat} {fd : FuncData} {ps : List Str} {sp : Sp} (T : OexC X.K C) (iC : findIn X.K (.ref C) "__init__" = some (some (.ref fI))) (tI : typeIn X.K (.ref fI) = some (.type "function")) (F1 : FnOk X.prog X.w X.K X.mg X.base CX0 k fI fd ps sp) (hr : Room (k + 1) X.A) (hb : Binds X.K fd ps []) (hg : Gl X x) (hm : X.mg x = some (.ref C)) (ha : PA X (e :: es) ta)
    (hdb : (x == ("__debug__" : Str)) = false := by decide) (he : starEach (e :: es) X.env = (false, eval e X.env) :: starEach es X.env := by rfl) (hpl : (backTo pos (starEach es X.env)).any (·.1) = false := by rfl) :
    L2N.PMk X (.Call (.Name x p) (e :: es) [] pos) (tMkO C sp [] ta) := by
  intro pins s σ H Q I h
  obtain ⟨nm, q, N, bs, bm, sn, sub, ab, col, dd, k0, k1, k2, k3, k5, hC, hbm⟩ := T.cls
  refine wpAny_Call_Name_kw (ld_glob I hg hm (callWith_K I.ok.mod.kin T.kC (thn (ha.run pos pins s σ H _ I h) ?_) he hpl) hdb)
  rintro us s1 ⟨vs, H1, I1, r1, hz, q1⟩
  refine ⟨I1.kIn, ?_⟩
  obtain ⟨hp, g, dr, tk, os⟩ := s1
  have hsz := Nat.le_succ hp.objs.size
  have hn := HOk.fresh I1.hok hsz
  have hq := q1 (hp.objs.size + 1) hn
  have kk : ∀ b o, hp.get? b = some o → ((hp.push (kdv_tup us)).push (HandSPX.excO C hp.objs.size)).get? b = some o := fun b o e => Heap.get?_push_of_some _ (Heap.get?_push_of_some _ e)
  have hget : ((hp.push (kdv_tup us)).push (HandSPX.excO C hp.objs.size)).get? (hp.objs.size + 1) = some (HandSPX.excO C hp.objs.size) := Heap.get?_push_at (by rw [Heap.size_push]) rfl
  have I2 := Inv.laid (t' := tk) I1 kk hsz (exo_ok hget)
  have r2 : Vals (V.ref (hp.objs.size + 1) :: (vs ++ [])) (Value.ref (hp.objs.size + 1) :: us) := by
    rw [List.append_nil]
    exact .cons rfl r1
  have hl : (Value.ref (hp.objs.size + 1) :: us).length = ps.length := by
    rw [← Vals.length r2]
    exact F1.len _ _ _ _ hq
  have hus : us.length ≤ sizeLine := by
    rw [← Vals.length r1]
    exact small_line hz
  have hbb := hb ⟨(hp.push (kdv_tup us)).push (HandSPX.excO C hp.objs.size), g, dr, tk, os⟩ (.ref (hp.objs.size + 1) :: us) I2.kIn (by simpa using hl)
  refine wpAny_call (HandSPX.call_own F.excBase_ValueError (fun Y => HandSPX.refsVE_contains Y bm hbm) (I1.kIn C _ hC) (looks_findIn I1.kIn iC) (fun self => bind_fn I1.kIn self tI) hus (codeAny_mono (F1.run (X.A.under (.builtin "type.__call__" ⟨.ref C :: us, []⟩)) X.stack _ _ _ _ _ _ _ (Room.make hr C us []) (Env0.make I2.env0 C us []) (by simpa using hbb) r2 hq) ?_))
  intro r s' hq'
  cases r with
  | error er => exact hq'.elim
  | ok fl =>
    cases fl with
    | ret u =>
      obtain ⟨v, H2, os2, bare2, un2, hok2, rv, ev, d, fs, ea, ed, hd1, q2⟩ := hq'
      subst ev
      obtain ⟨h2, g2, d2, t2, os2'⟩ := s'
      obtain ⟨t1, et⟩ := exo_at hok2 ea
      exact ⟨rv, mk_ctx (mk_end (raises_own T.exC T.tyC) I1 hsz kk un2 hok2 os2 bare2 ea ed hd1 q2) et⟩
    | _ => exact hq'.elim
end K1

/-! E11 -/

namespace K1
open PySem L2 PyProof.Rows PySem.W PySem.Calls
abbrev sBadS : Stmt := inClass (top 3) 0
/-- what is known of the class of the errors, and of its __init__ -/
structure BadFS (P : Program) (K : Frag) (mg : Str → Option Value) (f : Addr) (fd : FuncData) (C : Addr) : Prop where
  ex : ∃ (oc : Value) (od : Option Addr) (kV doc pm : Value) (an : Option Addr) (ct : Value) (osl : Array (Option Value)) (cda cc : Addr) (ccl : Value) (cdd : Option Addr) (vs : Array Value) (ccs : Array (Option Value)) (file : Str) (tf : Tok) (cl : Value) (cld : Option Addr) (csl : Array (Option Value)),
    fd = ksFn "__init__" "BadSigns.__init__" (defArgs sBadS) (defBody sBadS) (defScope sBadS) .none kV doc pm an (.ref cda) ct cc ∧ K.lookup f = some ⟨oc, od, .func fd, osl⟩ ∧ codeIn K (.ref cda) "BadSigns.__init__" = true ∧
    K.lookup cda = some ⟨ccl, cdd, .fields vs, ccs⟩ ∧ vs[2]? = some (.str file tf) ∧ (P.main.file == file) = true ∧ K.lookup cc = some ⟨cl, cld, .cell (some (.ref C)), csl⟩
  sup : (List.lookup (PySem.Str.ofString "super") P.main.scope.names).isSome = false
  any : nsIn K cStatics "thirdparty.any" = some none
  mgS : mg "super" = none
  oex : OexC K C
  sin : ks_superIn K C C "__init__" = some (some (.builtin "ValueError.__init__"))
  subC : mroIn K C (.ref C) = some true
  subV : subIn K (.ref C) (.type "ValueError") = some true
  fi : findIn K (.ref C) "signs" = some none
def spBadS (C : Addr) : Sp := fun vs H Q _ => ∃ (a : Addr) (y : V), vs = [.ref a, y] ∧ H a = some (exo a C none) ∧ ∀ dx, H dx = none → dx ≠ a → Q .non (upd (upd H dx (exd dx [("signs", y)])) a (exo a C (some dx)))
section
variable {P : Program} {w : World} {K : PySem.W.Frag} {mg : Str → Option Value} {base : Heap}
theorem ok_badS {f C : Addr} {fd : FuncData} (F : BadFS P K mg f fd C) : FnOk P w K mg base CX0 1 f fd ["self", "signs"] (spBadS C) := by
  refine ⟨fun vs H Q E h => ?_, fun A outer s H args us vs Q E hr en hb hv hsp => ?_⟩
  · obtain ⟨a, y, rfl, _⟩ := h
    rfl
  obtain ⟨a, y, rfl, ha, k⟩ := hsp
  obtain ⟨oc, od, kV, doc, pm, an, ct, osl, cda, cc, ccl, cdd, vs, ccs, file, tf, cl, cld, csl, rfl, lk, hcd, lcd, hvs, hfile, lcc⟩ := F.ex
  obtain ⟨nm, q, N, bs, bm, sn, sub, ab, col, dd, k0, k1, k2, k3, k5, hC, hbm⟩ := F.oex.cls
  cases hv with
  | cons h1 t1 =>
  cases t1 with
  | cons h2 t2 =>
  cases t2 with
  | nil =>
  rename_i u1 u2
  have e1 : u1 = .ref a := h1
  subst e1
  have hda := hr.dp
  have kb : ∀ b o, base.get? b = some o → s.heap.get? b = some o := fun b o e => (en.bs b o e).1
  have X : K.In s.heap := en.mod.kin.keeps kb
  have hcl : clsIn K C = some { name := nm, bases := bs, mro := .ref C :: bm, ns := N, qualname := q, hasDict := true, slotNames := sn, subclasses := sub, abstract := ab, collection := col } := by unfold clsIn; rw [hC]
  obtain ⟨t0, ho⟩ := exo_at en.hok ha
  have nb : ∀ {b o}, base.get? b = some o → b ≠ a := fun e z => by rw [z] at e; have := (en.bs _ _ e).2; rw [ha] at this; cases this
  have aL : a ≠ s.heap.objs.size := Nat.ne_of_lt (Heap.lt_size ho)
  refine ks_codeAny_call_defAt (by omega) (X f _ lk) rfl (en.mod.nolimit.keeps kb) (codeRec_of X hcd) rfl hb (by show ∀ x ∈ (defScope sBadS).names, x.2 ≠ .cell; decide +kernel) ?_ (fun h₀ hns kp => ?_) (by rfl) (by rfl) (by rfl)
  · intro x hx
    rcases List.mem_cons.mp hx with rfl | hx
    · rfl
    · obtain rfl := List.mem_singleton.mp hx
      rfl
  have X0 : K.In h₀ := X.keeps kp
  refine ks_wpAt_execs_cons ?_
  refine ks_wpAt_Expr_any (ks_wpAt_MethodCall ?_ rfl) rfl rfl
  refine ks_wpAt_super_base rfl rfl rfl rfl (X0 f _ lk) rfl rfl rfl (X0 cda _ lcd) rfl hvs hfile F.sup ?_
  obtain ⟨mb, hb1, hb2⟩ := en.mod.blt
  have kb0 : ∀ b o, base.get? b = some o → h₀.get? b = some o := fun b o e => kp b o (kb b o e)
  show wpAny _ _ (loadGlobal _ "super") _ _ _
  refine loadGlobal_builtin (en.mod.glob.keeps kb0) F.mgS (hb1.keeps kb0) ((hb2 "super" (by decide)).trans (by decide +kernel)) ⟨rfl, ?_⟩
  refine wpAny_loadName_free rfl rfl rfl ⟨_, X0 cc _ lcc, rfl⟩ ?_
  refine wpAny_loadName_local rfl rfl hns rfl ?_
  refine ks_wpAny_isType_cls (X0 C _ hC) rfl ⟨rfl, ?_⟩
  refine ks_wpAny_call_super (X0 C _ hC) rfl (kp _ _ ho) rfl (by intro c h; cases h) (looks_mroIn X0 F.subC) (fun h1 hso kp1 => ?_)
  have X1 : K.In h1 := X0.keeps kp1
  have ho1 := kp1 _ _ (kp _ _ ho)
  have I1 : InstAt h1 a _ C none := ⟨ho1, rfl, rfl, trivial⟩
  refine kxs_getMethod kxs_ValueError hso (looks_opaque X1 F.any) (fun A Q E s k q => wpAny_bind (looks_clsIn X1 hcl A _ E s k (wpAny_pure q))) rfl X1 (by have := F.sin; unfold ks_superIn at this; rw [hcl] at this; exact this) (Looks.andThen I1.type (looks_subIn X1 F.subV)) (ks_ne X1 I1 hcl) rfl ?_
  have kp2 : ∀ b o, h₀.get? b = some o → (h1.push (kxs_mw "ValueError.__init__" a)).get? b = some o := fun b o e => Heap.get?_push_of_some _ (kp1 b o e)
  have hu : (h1.push (kxs_mw "ValueError.__init__" a)).get? h1.objs.size = some (kxs_mw "ValueError.__init__" a) := Heap.get?_push_at rfl rfl
  have hu1 : h1.get? h1.objs.size = none := by
    cases e : h1.get? h1.objs.size with
    | none => rfl
    | some o => exact absurd (Heap.lt_size e) (Nat.lt_irrefl _)
  have hC2 := kp2 _ _ (X0 C _ hC)
  have ho2 := kp2 _ _ (kp _ _ ho)
  revert kp2 hu hC2 ho2
  generalize h1.push (kxs_mw "ValueError.__init__" a) = hp2
  intro kp2 hu hC2 ho2
  refine kxs_callWith1 (h₀ := h1) (L := h1.objs.size + 1) (news := [(h1.objs.size, kxs_mw "ValueError.__init__" a)]) (x := a) (i := "ValueError.__init__") (fun p hp => ?_) (by simp) ?_ rfl rfl
  · obtain rfl := List.mem_singleton.mp hp
    exact ⟨hu, by simp, hu1⟩
  refine spliced_cons ?_
  refine Constant_str (x := "these are no signs") (k := 0) (pos := ⟨0, 0, 0, 0⟩) ?_
  refine spliced_nil ?_
  refine ⟨hu, ?_⟩
  refine call_mw hC2 ho2 hu (by show 1 ≤ sizeLine; decide) (fun h3 t1 kp3 ho3 => ?_)
  have kp3' : ∀ b o, b ≠ a → s.heap.get? b = some o → h3.get? b = some o := fun b o nb e => kp3 b o nb (kp2 b o (kp b o e))
  have hns3 : h3.Ns s.heap.objs.size (fun x => List.lookup x ([PySem.Str.ofString "self", PySem.Str.ofString "signs"].zip [Value.ref a, u2]).reverse) := by
    obtain ⟨o, es, ep, e, r⟩ := hns
    exact ⟨o, es, ep, kp3 _ _ aL.symm (kp2 _ _ e), r⟩
  have X3 : K.In h3 := fun b o e => kp3' b o (nb (en.mod.kin b o e)) (X b o e)
  dsimp only
  refine ks_wpAt_execs_cons ?_
  refine ks_wpAt_Assign_Attr ?_ rfl
  refine wpAt_of_wpAny ?_
  refine wpAny_Name (wpAny_loadName_local rfl rfl hns3 rfl ?_) rfl
  refine wpAny_Name (wpAny_loadName_local rfl rfl hns3 rfl ?_) rfl
  refine set_plain (ox := HandSPX.excO C t1) (od := none) X3 ⟨ho3, rfl, rfl, trivial⟩ F.oex.sa ?_
  refine HandSPX.exc_osa X3 ho3 hcl hbm rfl F.fi (fun h4 tk4 dx kp4 dn dne hx hn => ?_)
  refine wpAt_of_wpAny (wpAny_execs_nil ?_)
  have kp4' : ∀ b o, b ≠ a → s.heap.get? b = some o → h4.get? b = some o := fun b o nb e => kp4 b o nb (kp3' b o nb e)
  have dn' : h3.objs.size ≤ dx := dn
  have dnS : s.heap.objs.size ≤ dx := by
    rcases Nat.lt_or_ge dx s.heap.objs.size with q | q
    · exact absurd q (by
        have q0 : s.heap.objs.size < h3.objs.size := by
          obtain ⟨o, es, ep, e, r⟩ := hns3
          exact Heap.lt_size e
        omega)
    · exact q
  have hnd : H dx = none := HOk.fresh en.hok dnS
  have nd : ∀ {b o}, s.heap.get? b = some o → b ≠ dx := fun e => Nat.ne_of_lt (Nat.lt_of_lt_of_le (Heap.lt_size e) dnS)
  have na : ∀ {b}, H b = none → b ≠ a := fun e z => by rw [z, ha] at e; cases e
  show CR CX0 outer P w H s Q E (.ok (.ret .none)) _
  refine ⟨.non, upd (upd H dx (exd dx [("signs", y)])) a (exo a C (some dx)), rfl, en.bare, ⟨?_, ?_, ?_, ?_, ?_, ?_, ?_⟩, ?_, rfl, k dx hnd dne⟩
  · exact fun b o e n _ _ => kp4' b o (na n) e
  · exact fun b o e n _ _ => ⟨o.slots, kp4' b o (na n) e⟩
  · exact fun b o e n _ => by rw [upd_ne (na n), upd_ne (nd e)]; exact n
  · intro b o e _
    by_cases z : b = a
    · rw [z]; exact ⟨_, hx⟩
    · exact ⟨o, kp4' b o z e⟩
  · intro b xs e
    rw [upd_ne (at_ne ha e exo_tup), upd_ne (ne_of_none e hnd)]; exact e
  · intro b o v e
    rw [upd_ne (at_ne ha e exo_frz), upd_ne (ne_of_none e hnd)]; exact e
  · intro b ps e
    refine ⟨#[], ?_⟩
    rw [upd_ne (at_ne ha e (by intro z; cases z)), upd_ne (ne_of_none e hnd), Array.append_empty]; exact e
  · intro b o e
    by_cases z : b = a
    · subst z
      rw [upd_same] at e
      obtain rfl := Option.some.inj e
      exact ⟨⟨t1, hx⟩, ⟨_, hx⟩, fun h1 h2 ⟨t, e⟩ k => ⟨t, k _ e⟩⟩
    · rw [upd_ne z] at e
      by_cases z2 : b = dx
      · subst z2
        rw [upd_same] at e
        obtain rfl := Option.some.inj e
        refine ⟨⟨_, hn, fun g => ?_⟩, by obtain ⟨o, _, _, e, _⟩ := hn; exact ⟨o, e⟩, fun h1 h2 ⟨mA, ⟨o, es, ep, e, r⟩, q⟩ k => ⟨mA, ⟨o, es, ep, k _ e, r⟩, q⟩⟩
        by_cases z3 : g = "signs"
        · subst z3
          rw [if_pos rfl]
          exact h2
        · rw [if_neg z3, List.lookup_cons, beq_false_of_ne z3]
          exact trivial
      · rw [upd_ne z2] at e
        refine ObjOk.stay (en.hok b o e) (fun c u hc hu => ?_) (fun c hc => ?_) (fun c xs hc => ?_)
        · refine kp4' c u ?_ hu
          rcases hc with rfl | hc
          · exact z
          · exact at_ne ha hc (by intro z; cases z)
        · rw [upd_ne (at_ne ha hc (by intro z; cases z)), upd_ne (ne_of_none hc hnd)]; exact hc
        · rw [upd_ne (at_ne ha hc exo_tup), upd_ne (ne_of_none hc hnd)]; exact hc
end
structure ErrS (P : Program) (K : Frag) (mg : Str → Option Value) (C fI : Addr) (fdI : FuncData) : Prop where
  T : BadFS P K mg fI fdI C
  gC : mg "BadSigns" = some (.ref C)
  iC : findIn K (.ref C) "__init__" = some (some (.ref fI))
  tI : typeIn K (.ref fI) = some (.type "function")
  bI : Binds K fdI ["self", "signs"] []
abbrev sBadP : Stmt := inClass (top 4) 0
/-- what is known of the class of the errors, and of its __init__ -/
structure BadFP (P : Program) (K : Frag) (mg : Str → Option Value) (f : Addr) (fd : FuncData) (C : Addr) : Prop where
  ex : ∃ (oc : Value) (od : Option Addr) (kV doc pm : Value) (an : Option Addr) (ct : Value) (osl : Array (Option Value)) (cda cc : Addr) (ccl : Value) (cdd : Option Addr) (vs : Array Value) (ccs : Array (Option Value)) (file : Str) (tf : Tok) (cl : Value) (cld : Option Addr) (csl : Array (Option Value)),
    fd = ksFn "__init__" "BadPaper.__init__" (defArgs sBadP) (defBody sBadP) (defScope sBadP) .none kV doc pm an (.ref cda) ct cc ∧ K.lookup f = some ⟨oc, od, .func fd, osl⟩ ∧ codeIn K (.ref cda) "BadPaper.__init__" = true ∧
    K.lookup cda = some ⟨ccl, cdd, .fields vs, ccs⟩ ∧ vs[2]? = some (.str file tf) ∧ (P.main.file == file) = true ∧ K.lookup cc = some ⟨cl, cld, .cell (some (.ref C)), csl⟩
  sup : (List.lookup (PySem.Str.ofString "super") P.main.scope.names).isSome = false
  any : nsIn K cStatics "thirdparty.any" = some none
  mgS : mg "super" = none
  oex : OexC K C
  sin : ks_superIn K C C "__init__" = some (some (.builtin "ValueError.__init__"))
  subC : mroIn K C (.ref C) = some true
  subV : subIn K (.ref C) (.type "ValueError") = some true
  fi : findIn K (.ref C) "paper" = some none
def spBadP (C : Addr) : Sp := fun vs H Q _ => ∃ (a : Addr) (y : V), vs = [.ref a, y] ∧ H a = some (exo a C none) ∧ ∀ dx, H dx = none → dx ≠ a → Q .non (upd (upd H dx (exd dx [("paper", y)])) a (exo a C (some dx)))
section
variable {P : Program} {w : World} {K : PySem.W.Frag} {mg : Str → Option Value} {base : Heap}
theorem ok_badP {f C : Addr} {fd : FuncData} (F : BadFP P K mg f fd C) : FnOk P w K mg base CX0 1 f fd ["self", "paper"] (spBadP C) := by
  refine ⟨fun vs H Q E h => ?_, fun A outer s H args us vs Q E hr en hb hv hsp => ?_⟩
  · obtain ⟨a, y, rfl, _⟩ := h
    rfl
  obtain ⟨a, y, rfl, ha, k⟩ := hsp
  obtain ⟨oc, od, kV, doc, pm, an, ct, osl, cda, cc, ccl, cdd, vs, ccs, file, tf, cl, cld, csl, rfl, lk, hcd, lcd, hvs, hfile, lcc⟩ := F.ex
  obtain ⟨nm, q, N, bs, bm, sn, sub, ab, col, dd, k0, k1, k2, k3, k5, hC, hbm⟩ := F.oex.cls
  cases hv with
  | cons h1 t1 =>
  cases t1 with
  | cons h2 t2 =>
  cases t2 with
  | nil =>
  rename_i u1 u2
  have e1 : u1 = .ref a := h1
  subst e1
  have hda := hr.dp
  have kb : ∀ b o, base.get? b = some o → s.heap.get? b = some o := fun b o e => (en.bs b o e).1
  have X : K.In s.heap := en.mod.kin.keeps kb
  have hcl : clsIn K C = some { name := nm, bases := bs, mro := .ref C :: bm, ns := N, qualname := q, hasDict := true, slotNames := sn, subclasses := sub, abstract := ab, collection := col } := by unfold clsIn; rw [hC]
  obtain ⟨t0, ho⟩ := exo_at en.hok ha
  have nb : ∀ {b o}, base.get? b = some o → b ≠ a := fun e z => by rw [z] at e; have := (en.bs _ _ e).2; rw [ha] at this; cases this
  have aL : a ≠ s.heap.objs.size := Nat.ne_of_lt (Heap.lt_size ho)
  refine ks_codeAny_call_defAt (by omega) (X f _ lk) rfl (en.mod.nolimit.keeps kb) (codeRec_of X hcd) rfl hb (by show ∀ x ∈ (defScope sBadP).names, x.2 ≠ .cell; decide +kernel) ?_ (fun h₀ hns kp => ?_) (by rfl) (by rfl) (by rfl)
  · intro x hx
    rcases List.mem_cons.mp hx with rfl | hx
    · rfl
    · obtain rfl := List.mem_singleton.mp hx
      rfl
  have X0 : K.In h₀ := X.keeps kp
  refine ks_wpAt_execs_cons ?_
  refine ks_wpAt_Expr_any (ks_wpAt_MethodCall ?_ rfl) rfl rfl
  refine ks_wpAt_super_base rfl rfl rfl rfl (X0 f _ lk) rfl rfl rfl (X0 cda _ lcd) rfl hvs hfile F.sup ?_
  obtain ⟨mb, hb1, hb2⟩ := en.mod.blt
  have kb0 : ∀ b o, base.get? b = some o → h₀.get? b = some o := fun b o e => kp b o (kb b o e)
  show wpAny _ _ (loadGlobal _ "super") _ _ _
  refine loadGlobal_builtin (en.mod.glob.keeps kb0) F.mgS (hb1.keeps kb0) ((hb2 "super" (by decide)).trans (by decide +kernel)) ⟨rfl, ?_⟩
  refine wpAny_loadName_free rfl rfl rfl ⟨_, X0 cc _ lcc, rfl⟩ ?_
  refine wpAny_loadName_local rfl rfl hns rfl ?_
  refine ks_wpAny_isType_cls (X0 C _ hC) rfl ⟨rfl, ?_⟩
  refine ks_wpAny_call_super (X0 C _ hC) rfl (kp _ _ ho) rfl (by intro c h; cases h) (looks_mroIn X0 F.subC) (fun h1 hso kp1 => ?_)
  have X1 : K.In h1 := X0.keeps kp1
  have ho1 := kp1 _ _ (kp _ _ ho)
  have I1 : InstAt h1 a _ C none := ⟨ho1, rfl, rfl, trivial⟩
  refine kxs_getMethod kxs_ValueError hso (looks_opaque X1 F.any) (fun A Q E s k q => wpAny_bind (looks_clsIn X1 hcl A _ E s k (wpAny_pure q))) rfl X1 (by have := F.sin; unfold ks_superIn at this; rw [hcl] at this; exact this) (Looks.andThen I1.type (looks_subIn X1 F.subV)) (ks_ne X1 I1 hcl) rfl ?_
  have kp2 : ∀ b o, h₀.get? b = some o → (h1.push (kxs_mw "ValueError.__init__" a)).get? b = some o := fun b o e => Heap.get?_push_of_some _ (kp1 b o e)
  have hu : (h1.push (kxs_mw "ValueError.__init__" a)).get? h1.objs.size = some (kxs_mw "ValueError.__init__" a) := Heap.get?_push_at rfl rfl
  have hu1 : h1.get? h1.objs.size = none := by
    cases e : h1.get? h1.objs.size with
    | none => rfl
    | some o => exact absurd (Heap.lt_size e) (Nat.lt_irrefl _)
  have hC2 := kp2 _ _ (X0 C _ hC)
  have ho2 := kp2 _ _ (kp _ _ ho)
  revert kp2 hu hC2 ho2
  generalize h1.push (kxs_mw "ValueError.__init__" a) = hp2
  intro kp2 hu hC2 ho2
  refine kxs_callWith1 (h₀ := h1) (L := h1.objs.size + 1) (news := [(h1.objs.size, kxs_mw "ValueError.__init__" a)]) (x := a) (i := "ValueError.__init__") (fun p hp => ?_) (by simp) ?_ rfl rfl
  · obtain rfl := List.mem_singleton.mp hp
    exact ⟨hu, by simp, hu1⟩
  refine spliced_cons ?_
  refine Constant_str (x := "this is no paper") (k := 0) (pos := ⟨0, 0, 0, 0⟩) ?_
  refine spliced_nil ?_
  refine ⟨hu, ?_⟩
  refine call_mw hC2 ho2 hu (by show 1 ≤ sizeLine; decide) (fun h3 t1 kp3 ho3 => ?_)
  have kp3' : ∀ b o, b ≠ a → s.heap.get? b = some o → h3.get? b = some o := fun b o nb e => kp3 b o nb (kp2 b o (kp b o e))
  have hns3 : h3.Ns s.heap.objs.size (fun x => List.lookup x ([PySem.Str.ofString "self", PySem.Str.ofString "paper"].zip [Value.ref a, u2]).reverse) := by
    obtain ⟨o, es, ep, e, r⟩ := hns
    exact ⟨o, es, ep, kp3 _ _ aL.symm (kp2 _ _ e), r⟩
  have X3 : K.In h3 := fun b o e => kp3' b o (nb (en.mod.kin b o e)) (X b o e)
  dsimp only
  refine ks_wpAt_execs_cons ?_
  refine ks_wpAt_Assign_Attr ?_ rfl
  refine wpAt_of_wpAny ?_
  refine wpAny_Name (wpAny_loadName_local rfl rfl hns3 rfl ?_) rfl
  refine wpAny_Name (wpAny_loadName_local rfl rfl hns3 rfl ?_) rfl
  refine set_plain (ox := HandSPX.excO C t1) (od := none) X3 ⟨ho3, rfl, rfl, trivial⟩ F.oex.sa ?_
  refine HandSPX.exc_osa X3 ho3 hcl hbm rfl F.fi (fun h4 tk4 dx kp4 dn dne hx hn => ?_)
  refine wpAt_of_wpAny (wpAny_execs_nil ?_)
  have kp4' : ∀ b o, b ≠ a → s.heap.get? b = some o → h4.get? b = some o := fun b o nb e => kp4 b o nb (kp3' b o nb e)
  have dn' : h3.objs.size ≤ dx := dn
  have dnS : s.heap.objs.size ≤ dx := by
    rcases Nat.lt_or_ge dx s.heap.objs.size with q | q
    · exact absurd q (by
        have q0 : s.heap.objs.size < h3.objs.size := by
          obtain ⟨o, es, ep, e, r⟩ := hns3
          exact Heap.lt_size e
        omega)
    · exact q
  have hnd : H dx = none := HOk.fresh en.hok dnS
  have nd : ∀ {b o}, s.heap.get? b = some o → b ≠ dx := fun e => Nat.ne_of_lt (Nat.lt_of_lt_of_le (Heap.lt_size e) dnS)
  have na : ∀ {b}, H b = none → b ≠ a := fun e z => by rw [z, ha] at e; cases e
  show CR CX0 outer P w H s Q E (.ok (.ret .none)) _
  refine ⟨.non, upd (upd H dx (exd dx [("paper", y)])) a (exo a C (some dx)), rfl, en.bare, ⟨?_, ?_, ?_, ?_, ?_, ?_, ?_⟩, ?_, rfl, k dx hnd dne⟩
  · exact fun b o e n _ _ => kp4' b o (na n) e
  · exact fun b o e n _ _ => ⟨o.slots, kp4' b o (na n) e⟩
  · exact fun b o e n _ => by rw [upd_ne (na n), upd_ne (nd e)]; exact n
  · intro b o e _
    by_cases z : b = a
    · rw [z]; exact ⟨_, hx⟩
    · exact ⟨o, kp4' b o z e⟩
  · intro b xs e
    rw [upd_ne (at_ne ha e exo_tup), upd_ne (ne_of_none e hnd)]; exact e
  · intro b o v e
    rw [upd_ne (at_ne ha e exo_frz), upd_ne (ne_of_none e hnd)]; exact e
  · intro b ps e
    refine ⟨#[], ?_⟩
    rw [upd_ne (at_ne ha e (by intro z; cases z)), upd_ne (ne_of_none e hnd), Array.append_empty]; exact e
  · intro b o e
    by_cases z : b = a
    · subst z
      rw [upd_same] at e
      obtain rfl := Option.some.inj e
      exact ⟨⟨t1, hx⟩, ⟨_, hx⟩, fun h1 h2 ⟨t, e⟩ k => ⟨t, k _ e⟩⟩
    · rw [upd_ne z] at e
      by_cases z2 : b = dx
      · subst z2
        rw [upd_same] at e
        obtain rfl := Option.some.inj e
        refine ⟨⟨_, hn, fun g => ?_⟩, by obtain ⟨o, _, _, e, _⟩ := hn; exact ⟨o, e⟩, fun h1 h2 ⟨mA, ⟨o, es, ep, e, r⟩, q⟩ k => ⟨mA, ⟨o, es, ep, k _ e, r⟩, q⟩⟩
        by_cases z3 : g = "paper"
        · subst z3
          rw [if_pos rfl]
          exact h2
        · rw [if_neg z3, List.lookup_cons, beq_false_of_ne z3]
          exact trivial
      · rw [upd_ne z2] at e
        refine ObjOk.stay (en.hok b o e) (fun c u hc hu => ?_) (fun c hc => ?_) (fun c xs hc => ?_)
        · refine kp4' c u ?_ hu
          rcases hc with rfl | hc
          · exact z
          · exact at_ne ha hc (by intro z; cases z)
        · rw [upd_ne (at_ne ha hc (by intro z; cases z)), upd_ne (ne_of_none hc hnd)]; exact hc
        · rw [upd_ne (at_ne ha hc exo_tup), upd_ne (ne_of_none hc hnd)]; exact hc
end
structure ErrP (P : Program) (K : Frag) (mg : Str → Option Value) (C fI : Addr) (fdI : FuncData) : Prop where
  T : BadFP P K mg fI fdI C
  gC : mg "BadPaper" = some (.ref C)
  iC : findIn K (.ref C) "__init__" = some (some (.ref fI))
  tI : typeIn K (.ref fI) = some (.type "function")
  bI : Binds K fdI ["self", "paper"] []
abbrev sBadR : Stmt := inClass (top 5) 0
/-- what is known of the class of the errors, and of its __init__ -/
structure BadFR (P : Program) (K : Frag) (mg : Str → Option Value) (f : Addr) (fd : FuncData) (C : Addr) : Prop where
  ex : ∃ (oc : Value) (od : Option Addr) (kV doc pm : Value) (an : Option Addr) (ct : Value) (osl : Array (Option Value)) (cda cc : Addr) (ccl : Value) (cdd : Option Addr) (vs : Array Value) (ccs : Array (Option Value)) (file : Str) (tf : Tok) (cl : Value) (cld : Option Addr) (csl : Array (Option Value)),
    fd = ksFn "__init__" "BadRule.__init__" (defArgs sBadR) (defBody sBadR) (defScope sBadR) .none kV doc pm an (.ref cda) ct cc ∧ K.lookup f = some ⟨oc, od, .func fd, osl⟩ ∧ codeIn K (.ref cda) "BadRule.__init__" = true ∧
    K.lookup cda = some ⟨ccl, cdd, .fields vs, ccs⟩ ∧ vs[2]? = some (.str file tf) ∧ (P.main.file == file) = true ∧ K.lookup cc = some ⟨cl, cld, .cell (some (.ref C)), csl⟩
  sup : (List.lookup (PySem.Str.ofString "super") P.main.scope.names).isSome = false
  any : nsIn K cStatics "thirdparty.any" = some none
  mgS : mg "super" = none
  oex : OexC K C
  sin : ks_superIn K C C "__init__" = some (some (.builtin "ValueError.__init__"))
  subC : mroIn K C (.ref C) = some true
  subV : subIn K (.ref C) (.type "ValueError") = some true
  fi : findIn K (.ref C) "rule" = some none
def spBadR (C : Addr) : Sp := fun vs H Q _ => ∃ (a : Addr) (y : V), vs = [.ref a, y] ∧ H a = some (exo a C none) ∧ ∀ dx, H dx = none → dx ≠ a → Q .non (upd (upd H dx (exd dx [("rule", y)])) a (exo a C (some dx)))
section
variable {P : Program} {w : World} {K : PySem.W.Frag} {mg : Str → Option Value} {base : Heap}
theorem ok_badR {f C : Addr} {fd : FuncData} (F : BadFR P K mg f fd C) : FnOk P w K mg base CX0 1 f fd ["self", "rule"] (spBadR C) := by
  refine ⟨fun vs H Q E h => ?_, fun A outer s H args us vs Q E hr en hb hv hsp => ?_⟩
  · obtain ⟨a, y, rfl, _⟩ := h
    rfl
  obtain ⟨a, y, rfl, ha, k⟩ := hsp
  obtain ⟨oc, od, kV, doc, pm, an, ct, osl, cda, cc, ccl, cdd, vs, ccs, file, tf, cl, cld, csl, rfl, lk, hcd, lcd, hvs, hfile, lcc⟩ := F.ex
  obtain ⟨nm, q, N, bs, bm, sn, sub, ab, col, dd, k0, k1, k2, k3, k5, hC, hbm⟩ := F.oex.cls
  cases hv with
  | cons h1 t1 =>
  cases t1 with
  | cons h2 t2 =>
  cases t2 with
  | nil =>
  rename_i u1 u2
  have e1 : u1 = .ref a := h1
  subst e1
  have hda := hr.dp
  have kb : ∀ b o, base.get? b = some o → s.heap.get? b = some o := fun b o e => (en.bs b o e).1
  have X : K.In s.heap := en.mod.kin.keeps kb
  have hcl : clsIn K C = some { name := nm, bases := bs, mro := .ref C :: bm, ns := N, qualname := q, hasDict := true, slotNames := sn, subclasses := sub, abstract := ab, collection := col } := by unfold clsIn; rw [hC]
  obtain ⟨t0, ho⟩ := exo_at en.hok ha
  have nb : ∀ {b o}, base.get? b = some o → b ≠ a := fun e z => by rw [z] at e; have := (en.bs _ _ e).2; rw [ha] at this; cases this
  have aL : a ≠ s.heap.objs.size := Nat.ne_of_lt (Heap.lt_size ho)
  refine ks_codeAny_call_defAt (by omega) (X f _ lk) rfl (en.mod.nolimit.keeps kb) (codeRec_of X hcd) rfl hb (by show ∀ x ∈ (defScope sBadR).names, x.2 ≠ .cell; decide +kernel) ?_ (fun h₀ hns kp => ?_) (by rfl) (by rfl) (by rfl)
  · intro x hx
    rcases List.mem_cons.mp hx with rfl | hx
    · rfl
    · obtain rfl := List.mem_singleton.mp hx
      rfl
  have X0 : K.In h₀ := X.keeps kp
  refine ks_wpAt_execs_cons ?_
  refine ks_wpAt_Expr_any (ks_wpAt_MethodCall ?_ rfl) rfl rfl
  refine ks_wpAt_super_base rfl rfl rfl rfl (X0 f _ lk) rfl rfl rfl (X0 cda _ lcd) rfl hvs hfile F.sup ?_
  obtain ⟨mb, hb1, hb2⟩ := en.mod.blt
  have kb0 : ∀ b o, base.get? b = some o → h₀.get? b = some o := fun b o e => kp b o (kb b o e)
  show wpAny _ _ (loadGlobal _ "super") _ _ _
  refine loadGlobal_builtin (en.mod.glob.keeps kb0) F.mgS (hb1.keeps kb0) ((hb2 "super" (by decide)).trans (by decide +kernel)) ⟨rfl, ?_⟩
  refine wpAny_loadName_free rfl rfl rfl ⟨_, X0 cc _ lcc, rfl⟩ ?_
  refine wpAny_loadName_local rfl rfl hns rfl ?_
  refine ks_wpAny_isType_cls (X0 C _ hC) rfl ⟨rfl, ?_⟩
  refine ks_wpAny_call_super (X0 C _ hC) rfl (kp _ _ ho) rfl (by intro c h; cases h) (looks_mroIn X0 F.subC) (fun h1 hso kp1 => ?_)
  have X1 : K.In h1 := X0.keeps kp1
  have ho1 := kp1 _ _ (kp _ _ ho)
  have I1 : InstAt h1 a _ C none := ⟨ho1, rfl, rfl, trivial⟩
  refine kxs_getMethod kxs_ValueError hso (looks_opaque X1 F.any) (fun A Q E s k q => wpAny_bind (looks_clsIn X1 hcl A _ E s k (wpAny_pure q))) rfl X1 (by have := F.sin; unfold ks_superIn at this; rw [hcl] at this; exact this) (Looks.andThen I1.type (looks_subIn X1 F.subV)) (ks_ne X1 I1 hcl) rfl ?_
  have kp2 : ∀ b o, h₀.get? b = some o → (h1.push (kxs_mw "ValueError.__init__" a)).get? b = some o := fun b o e => Heap.get?_push_of_some _ (kp1 b o e)
  have hu : (h1.push (kxs_mw "ValueError.__init__" a)).get? h1.objs.size = some (kxs_mw "ValueError.__init__" a) := Heap.get?_push_at rfl rfl
  have hu1 : h1.get? h1.objs.size = none := by
    cases e : h1.get? h1.objs.size with
    | none => rfl
    | some o => exact absurd (Heap.lt_size e) (Nat.lt_irrefl _)
  have hC2 := kp2 _ _ (X0 C _ hC)
  have ho2 := kp2 _ _ (kp _ _ ho)
  revert kp2 hu hC2 ho2
  generalize h1.push (kxs_mw "ValueError.__init__" a) = hp2
  intro kp2 hu hC2 ho2
  refine kxs_callWith1 (h₀ := h1) (L := h1.objs.size + 1) (news := [(h1.objs.size, kxs_mw "ValueError.__init__" a)]) (x := a) (i := "ValueError.__init__") (fun p hp => ?_) (by simp) ?_ rfl rfl
  · obtain rfl := List.mem_singleton.mp hp
    exact ⟨hu, by simp, hu1⟩
  refine spliced_cons ?_
  refine Constant_str (x := "this is no rule") (k := 0) (pos := ⟨0, 0, 0, 0⟩) ?_
  refine spliced_nil ?_
  refine ⟨hu, ?_⟩
  refine call_mw hC2 ho2 hu (by show 1 ≤ sizeLine; decide) (fun h3 t1 kp3 ho3 => ?_)
  have kp3' : ∀ b o, b ≠ a → s.heap.get? b = some o → h3.get? b = some o := fun b o nb e => kp3 b o nb (kp2 b o (kp b o e))
  have hns3 : h3.Ns s.heap.objs.size (fun x => List.lookup x ([PySem.Str.ofString "self", PySem.Str.ofString "rule"].zip [Value.ref a, u2]).reverse) := by
    obtain ⟨o, es, ep, e, r⟩ := hns
    exact ⟨o, es, ep, kp3 _ _ aL.symm (kp2 _ _ e), r⟩
  have X3 : K.In h3 := fun b o e => kp3' b o (nb (en.mod.kin b o e)) (X b o e)
  dsimp only
  refine ks_wpAt_execs_cons ?_
  refine ks_wpAt_Assign_Attr ?_ rfl
  refine wpAt_of_wpAny ?_
  refine wpAny_Name (wpAny_loadName_local rfl rfl hns3 rfl ?_) rfl
  refine wpAny_Name (wpAny_loadName_local rfl rfl hns3 rfl ?_) rfl
  refine set_plain (ox := HandSPX.excO C t1) (od := none) X3 ⟨ho3, rfl, rfl, trivial⟩ F.oex.sa ?_
  refine HandSPX.exc_osa X3 ho3 hcl hbm rfl F.fi (fun h4 tk4 dx kp4 dn dne hx hn => ?_)
  refine wpAt_of_wpAny (wpAny_execs_nil ?_)
  have kp4' : ∀ b o, b ≠ a → s.heap.get? b = some o → h4.get? b = some o := fun b o nb e => kp4 b o nb (kp3' b o nb e)
  have dn' : h3.objs.size ≤ dx := dn
  have dnS : s.heap.objs.size ≤ dx := by
    rcases Nat.lt_or_ge dx s.heap.objs.size with q | q
    · exact absurd q (by
        have q0 : s.heap.objs.size < h3.objs.size := by
          obtain ⟨o, es, ep, e, r⟩ := hns3
          exact Heap.lt_size e
        omega)
    · exact q
  have hnd : H dx = none := HOk.fresh en.hok dnS
  have nd : ∀ {b o}, s.heap.get? b = some o → b ≠ dx := fun e => Nat.ne_of_lt (Nat.lt_of_lt_of_le (Heap.lt_size e) dnS)
  have na : ∀ {b}, H b = none → b ≠ a := fun e z => by rw [z, ha] at e; cases e
  show CR CX0 outer P w H s Q E (.ok (.ret .none)) _
  refine ⟨.non, upd (upd H dx (exd dx [("rule", y)])) a (exo a C (some dx)), rfl, en.bare, ⟨?_, ?_, ?_, ?_, ?_, ?_, ?_⟩, ?_, rfl, k dx hnd dne⟩
  · exact fun b o e n _ _ => kp4' b o (na n) e
  · exact fun b o e n _ _ => ⟨o.slots, kp4' b o (na n) e⟩
  · exact fun b o e n _ => by rw [upd_ne (na n), upd_ne (nd e)]; exact n
  · intro b o e _
    by_cases z : b = a
    · rw [z]; exact ⟨_, hx⟩
    · exact ⟨o, kp4' b o z e⟩
  · intro b xs e
    rw [upd_ne (at_ne ha e exo_tup), upd_ne (ne_of_none e hnd)]; exact e
  · intro b o v e
    rw [upd_ne (at_ne ha e exo_frz), upd_ne (ne_of_none e hnd)]; exact e
  · intro b ps e
    refine ⟨#[], ?_⟩
    rw [upd_ne (at_ne ha e (by intro z; cases z)), upd_ne (ne_of_none e hnd), Array.append_empty]; exact e
  · intro b o e
    by_cases z : b = a
    · subst z
      rw [upd_same] at e
      obtain rfl := Option.some.inj e
      exact ⟨⟨t1, hx⟩, ⟨_, hx⟩, fun h1 h2 ⟨t, e⟩ k => ⟨t, k _ e⟩⟩
    · rw [upd_ne z] at e
      by_cases z2 : b = dx
      · subst z2
        rw [upd_same] at e
        obtain rfl := Option.some.inj e
        refine ⟨⟨_, hn, fun g => ?_⟩, by obtain ⟨o, _, _, e, _⟩ := hn; exact ⟨o, e⟩, fun h1 h2 ⟨mA, ⟨o, es, ep, e, r⟩, q⟩ k => ⟨mA, ⟨o, es, ep, k _ e, r⟩, q⟩⟩
        by_cases z3 : g = "rule"
        · subst z3
          rw [if_pos rfl]
          exact h2
        · rw [if_neg z3, List.lookup_cons, beq_false_of_ne z3]
          exact trivial
      · rw [upd_ne z2] at e
        refine ObjOk.stay (en.hok b o e) (fun c u hc hu => ?_) (fun c hc => ?_) (fun c xs hc => ?_)
        · refine kp4' c u ?_ hu
          rcases hc with rfl | hc
          · exact z
          · exact at_ne ha hc (by intro z; cases z)
        · rw [upd_ne (at_ne ha hc (by intro z; cases z)), upd_ne (ne_of_none hc hnd)]; exact hc
        · rw [upd_ne (at_ne ha hc exo_tup), upd_ne (ne_of_none hc hnd)]; exact hc
end
structure ErrR (P : Program) (K : Frag) (mg : Str → Option Value) (C fI : Addr) (fdI : FuncData) : Prop where
  T : BadFR P K mg fI fdI C
  gC : mg "BadRule" = some (.ref C)
  iC : findIn K (.ref C) "__init__" = some (some (.ref fI))
  tI : typeIn K (.ref fI) = some (.type "function")
  bI : Binds K fdI ["self", "rule"] []
/-- what an error bears -/
def Err (C : Addr) (f : Str) (x : V) (H : Hp) (E : XK) : Prop := ∀ H' d, Same H H' → H' d = some (.xd [(f, x)]) → H d = none → E (.ref C) (some d) H'
theorem Err.same {C : Addr} {f : Str} {x : V} {H H1 : Hp} {E : XK} (h : Err C f x H E) (s : Same H H1) : Err C f x H1 E := fun H' d s' e n => h H' d (s.trans s') e (Same.free s n)
theorem rzS {C : Addr} {x : V} {H1 : Hp} {E : XK} (er : Err C "signs" x H1 E) : [x].length ≤ 1000 ∧ ∀ a : Addr, H1 a = none → spBadS C (V.ref a :: ([x] ++ [])) (upd H1 a (exo a C none))
      (fun v H2 => v = V.non ∧ ∃ d fs, H2 a = some (exo a C (some d)) ∧ H2 d = some (exd d fs) ∧ H1 d = none ∧ E (Value.ref C) (some d) (upd (del H2 a) d (HO.xd fs))) fun x x_1 x_2 => False := by
  refine ⟨(by show 1 ≤ 1000; decide), fun a ha => ⟨a, x, rfl, upd_same, fun dx hdx ne => ?_⟩⟩
  rw [upd_ne ne] at hdx
  refine ⟨rfl, dx, [("signs", x)], upd_same, by rw [upd_ne ne, upd_same], hdx, ?_⟩
  refine er _ _ (fun c o e => ?_) upd_same hdx
  have n1 : c ≠ dx := ne_of_none e hdx
  have n2 : c ≠ a := ne_of_none e ha
  rw [upd_ne n1, del_ne n2, upd_ne n2, upd_ne n1, upd_ne n2]
  exact e
theorem rzP {C : Addr} {x : V} {H1 : Hp} {E : XK} (er : Err C "paper" x H1 E) : [x].length ≤ 1000 ∧ ∀ a : Addr, H1 a = none → spBadP C (V.ref a :: ([x] ++ [])) (upd H1 a (exo a C none))
      (fun v H2 => v = V.non ∧ ∃ d fs, H2 a = some (exo a C (some d)) ∧ H2 d = some (exd d fs) ∧ H1 d = none ∧ E (Value.ref C) (some d) (upd (del H2 a) d (HO.xd fs))) fun x x_1 x_2 => False := by
  refine ⟨(by show 1 ≤ 1000; decide), fun a ha => ⟨a, x, rfl, upd_same, fun dx hdx ne => ?_⟩⟩
  rw [upd_ne ne] at hdx
  refine ⟨rfl, dx, [("paper", x)], upd_same, by rw [upd_ne ne, upd_same], hdx, ?_⟩
  refine er _ _ (fun c o e => ?_) upd_same hdx
  have n1 : c ≠ dx := ne_of_none e hdx
  have n2 : c ≠ a := ne_of_none e ha
  rw [upd_ne n1, del_ne n2, upd_ne n2, upd_ne n1, upd_ne n2]
  exact e
theorem rzR {C : Addr} {x : V} {H1 : Hp} {E : XK} (er : Err C "rule" x H1 E) : [x].length ≤ 1000 ∧ ∀ a : Addr, H1 a = none → spBadR C (V.ref a :: ([x] ++ [])) (upd H1 a (exo a C none))
      (fun v H2 => v = V.non ∧ ∃ d fs, H2 a = some (exo a C (some d)) ∧ H2 d = some (exd d fs) ∧ H1 d = none ∧ E (Value.ref C) (some d) (upd (del H2 a) d (HO.xd fs))) fun x x_1 x_2 => False := by
  refine ⟨(by show 1 ≤ 1000; decide), fun a ha => ⟨a, x, rfl, upd_same, fun dx hdx ne => ?_⟩⟩
  rw [upd_ne ne] at hdx
  refine ⟨rfl, dx, [("rule", x)], upd_same, by rw [upd_ne ne, upd_same], hdx, ?_⟩
  refine er _ _ (fun c o e => ?_) upd_same hdx
  have n1 : c ≠ dx := ne_of_none e hdx
  have n2 : c ≠ a := ne_of_none e ha
  rw [upd_ne n1, del_ne n2, upd_ne n2, upd_ne n1, upd_ne n2]
  exact e
end K1
namespace K4
open PySem L2 K1 PyProof.Rows
theorem okXN {P : Program} {w : World} {K : PySem.W.Frag} {mg : Str → Option Value} {base : Heap} {x qual : Str} {st : Stmt} {f : Addr} {fd : FuncData} {N ps : List Str} {k : Nat} {sp : Sp} (F : Fun K x qual st f fd) (S : FnScope N ps (defScope st)) (len : ∀ vs H Q E, sp vs H Q E → vs.length = ps.length)
    (hbody : ∀ (cdv : Value) (A : Around) (outer : List Env) (s : Shared) (H : Hp) (vs : List V) (Q : VK) (E : XK), Room k (A.deeper (PyProof.Rows.envOfC qual (defScope st) s.heap.objs.size f cdv)) → sp vs H Q E →
      ∃ t, PSs (cxOf (L2N.CX P w) P w K mg base N qual (defScope st) f cdv A outer s H E) (defBody st) t ∧ t { nx := fun _ H' => Q .non H', rt := Q } (L2.start N vs) H) : FnOk P w K mg base (L2N.CX P w) (k + 1) f fd ps sp := by
  obtain ⟨oc, od, kV, doc, pm, an, cdv, ct, osl, rfl, lk, hcd⟩ := F.ex
  exact fn_of lk hcd S len fun A outer s H vs Q E hr hsp => hbody cdv A outer s H vs Q E hr hsp
def OwnX (P : Program) (w : World) (K : PySem.W.Frag) (mg : Str → Option Value) (base : Heap) (x : Str) (k : Nat) (ps : List Str) (sp : Sp) : Prop :=
  ∃ (f : Addr) (fd : FuncData), FnOk P w K mg base (L2N.CX P w) k f fd ps sp ∧ mg x = some (.ref f) ∧ PySem.W.keepIn K (.ref f) = true ∧ Binds K fd ps []
theorem pe_ownX {X : Cx} {x : Str} {k : Nat} {ps : List Str} {sp : Sp} {E : XK} {e : Expr} {es : List Expr} {t : TA} {p pos : Pos} (O : OwnX X.prog X.w X.K X.mg X.base x k ps sp) (hr : Room k X.A) (hx : Passes (L2N.CX X.prog X.w) X E) (ha : PA X (e :: es) t) (hg : Gl X x := by rfl)
    (hdb : (x == ("__debug__" : Str)) = false := by decide) (he : starEach (e :: es) X.env = (false, eval e X.env) :: starEach es X.env := by rfl) (hpl : (backTo pos (starEach es X.env)).any (·.1) = false := by rfl) :
    PE X (.Call (.Name x p) (e :: es) [] pos) (tCall sp [] E t) := by
  obtain ⟨f, fd, G, m, kp, b⟩ := O
  exact pe_call G hr hg m kp b .nil hx ha hdb he hpl
theorem FnOk.calm {P : Program} {w : World} {K : PySem.W.Frag} {mg : Str → Option Value} {base : Heap} {k : Nat} {f : Addr} {fd : FuncData} {ps : List Str} {sp sp' : Sp} (F : FnOk P w K mg base (L2N.CX P w) k f fd ps sp)
    (h : ∀ vs H Q E, sp' vs H Q E → sp vs H Q (fun _ _ _ => False)) : FnOk P w K mg base CX0 k f fd ps sp' :=
  ⟨fun vs H Q E q => F.len vs H Q _ (h vs H Q E q), fun A outer s H args us vs Q E hr en hb hv q => codeAny_mono (F.run A outer s H args us vs Q _ hr en hb hv (h vs H Q E q)) fun r s' hq => by
    cases r with
    | ok fl => cases fl <;> exact hq
    | error e =>
      obtain ⟨_, _, _, _, _, _, _, _, _, _, _, _, hE⟩ := hq
      exact hE.elim⟩
end K4

/-! P11f -/


namespace K4
open PySem L2 K1
abbrev sChkPart : Stmt := top 46
abbrev nChkPart : List Str := ["signs", "part", "inner", "rule"]
theorem scChkPart : FnScope nChkPart ["signs", "part"] (defScope sChkPart) := ⟨rfl, rfl, rfl, by decide +kernel, rfl, by decide +kernel, by decide +kernel⟩
abbrev sChkRule : Stmt := top 45
abbrev nChkRule : List Str := ["signs", "rule", "told"]
theorem scChkRule : FnScope nChkRule ["signs", "rule"] (defScope sChkRule) := ⟨rfl, rfl, rfl, by decide +kernel, rfl, by decide +kernel, by decide +kernel⟩
abbrev sReqSigns : Stmt := top 21
abbrev nReqSigns : List Str := ["signs"]
theorem scReqSigns : FnScope nReqSigns ["signs"] (defScope sReqSigns) := ⟨rfl, rfl, rfl, by decide +kernel, rfl, by decide +kernel, by decide +kernel⟩
abbrev sReqPaper : Stmt := top 23
abbrev nReqPaper : List Str := ["signs", "paper"]
theorem scReqPaper : FnScope nReqPaper ["signs", "paper"] (defScope sReqPaper) := ⟨rfl, rfl, rfl, by decide +kernel, rfl, by decide +kernel, by decide +kernel⟩
abbrev sCheckRule : Stmt := top 49
abbrev nCheckRule : List Str := ["signs", "rule"]
theorem scCheckRule : FnScope nCheckRule ["signs", "rule"] (defScope sCheckRule) := ⟨rfl, rfl, rfl, by decide +kernel, rfl, by decide +kernel, by decide +kernel⟩
abbrev sIsRight : Stmt := top 50
abbrev nIsRight : List Str := ["signs", "rule", "paper", "told"]
theorem scIsRight : FnScope nIsRight ["signs", "rule", "paper"] (defScope sIsRight) := ⟨rfl, rfl, rfl, by decide +kernel, rfl, by decide +kernel, by decide +kernel⟩
theorem dp_of_sq {K : PySem.W.Frag} {H : Hp} {v : V} {xs : List V} {ds : List PyData} (h : Sq K H v xs) (a : DpAll K H xs ds) : ∃ t, Dp K H v (sq t ds) := by
  obtain ⟨p, rfl, h | h⟩ := h
  · exact ⟨false, .lst h a⟩
  · exact ⟨true, .tup h a⟩
theorem dp_open {K : PySem.W.Frag} {H : Hp} {v : V} {r : R} {t : Bool} (h : Dp K H v (r.data t)) : ∃ xs is, Sq K H v (.str r.ow.word :: (xs ++ is)) ∧ DpAll K H xs (r.ow.data t) ∧ DpAll K H is (r.inner.map (R.data t)) ∧ xs.length = mn r.ow.kind ∧ is.length = r.inner.length := by
  rw [r.data_eq] at h
  obtain ⟨zs, h1, h2⟩ := dp_sq h
  cases h2 with
  | cons a b =>
    cases a
    obtain ⟨xs, is, rfl, p, q⟩ := dpA_split b
    exact ⟨xs, is, h1, p, q, by rw [dpA_len p, r.ow.data_len], by rw [dpA_len q, List.length_map]⟩
def spChk (K : PySem.W.Frag) (n : Nat) : Sp := fun vs H Q _ => ∃ (z : Str) (v : V) (r : R) (t : Bool), vs = [.str z, v] ∧ z.length ≤ 12 ∧ Dp K H v (r.data t) ∧ r.fit (tl z) ∧ r.ok ∧ r.depth ≤ n ∧ ∀ H' v', Same H H' → Dp K H' v' (r.data true) → Q v' H'
def spChkX (K : PySem.W.Frag) (C : Addr) : Sp := fun vs H Q E => ∃ (z : Str) (v : V), vs = [.str z, v] ∧ z.length ≤ 12 ∧ ((∃ (r : R) (t : Bool), Dp K H v (r.data t) ∧ r.fit (tl z) ∧ r.ok ∧ r.depth ≤ 41 ∧ ∀ H' v', Same H H' → Dp K H' v' (r.data true) → Q v' H') ∨ (BadR K H v ∧ Err C "rule" v H E))
def spChkR (K : PySem.W.Frag) (C : Addr) : Sp := fun vs H Q E => ∃ (z : Str) (v : V), vs = [.str z, v] ∧ z.length ≤ 12 ∧ ((∃ (r : R) (t : Bool), Dp K H v (r.data t) ∧ r.fit (tl z) ∧ r.ok ∧ r.parts ≤ 40 ∧ ∀ H' v', Same H H' → Dp K H' v' (r.data true) → Q v' H') ∨ (BadR K H v ∧ Err C "rule" v H E))
section
variable {P : Program} {w : World} {K : PySem.W.Frag} {mg : Str → Option Value} {base : Heap} {dO dI : Addr}
abbrev OChk (n : Nat) (P : Program) (w : World) (K : PySem.W.Frag) (mg : Str → Option Value) (base : Heap) : Prop := Own P w K mg base "checked_part" (n + 7) ["signs", "part"] (spChk K n)
theorem ok_chk {n : Nat} {f : Addr} {fd : FuncData} (F : Fun K "checked_part" "checked_part" sChkPart f fd) (B : Bl mg) (Ohf : OHasForm P w K mg base) (Oin : OInner P w K mg base) (Oov : OOwnV P w K mg base) (Oas : OAsT 4 P w K mg base) (Ock : OChk n P w K mg base) :
    FnOk P w K mg base CX0 (n + 1 + 7) f fd ["signs", "part"] (spChk K (n + 1)) := by
  refine F.ok scChkPart (fun vs H Q E h => ?_) (fun cdv A outer s H vs Q E hr h => ?_)
  · obtain ⟨z, v, r, t, rfl, _⟩ := h
    rfl
  · obtain ⟨z, v, r, t, rfl, hz, hv, hf, hok, hd, k⟩ := h
    refine ⟨_, (pss_cons (ps_if (pt_not (pt_val (pe_own Ohf (hr.mono (by omega)) (pa_cons (pv 0) (pa_cons (pv 1) pa_nil))))) (pss_one ps_never) pss_nil) (pss_cons (ps_setLc (i := 2) (own := [("rule", 3)]) (g := gName 3) (tt := tYes) rfl scChkPart.nd rfl rfl (sw_true rfl rfl rfl (by decide +kernel)) (pi_sq (pe_own Oin (hr.mono (by omega)) (pa_cons (pv 1) pa_nil))) (blkOk_by (N := nChkPart) (sc := defScope sChkPart) (by decide +kernel)) (fun _ _ _ _ _ => (pg_name (i := 3) scChkPart.nd rfl (Or.inl rfl))) (fun _ _ _ _ _ => pts_nil) (fun _ _ _ _ _ => (pe_own Ock hr (pa_cons (pv 0) (pa_cons (pv 3) pa_nil))))) (pss_one (ps_ret (pe_tup (pa_cons (pe_ix ix_seq (pv 1) pe_int (fun _ _ => rfl)) (StX.pa_star (pe_own Oas (hr.mono (by omega)) (pa_cons (pe_own Oov (hr.mono (by omega)) (pa_cons (pv 1) pa_nil)) pa_nil)) (StX.pa_star (pv 2) pa_nil)))))))), ?_⟩
    try dsimp only [cxOf, Cx.nox, Cx.wish]
    have chk : ∀ {v' : V}, True := fun {_} => trivial
    obtain ⟨xs, is, hS, hX, hI, lx, li⟩ := dp_open hv
    have l2 := inner_len r
    have lm := mn_le r.ow.kind
    walk_at "go"
    refine ⟨z, v, rfl, hz, .inl ⟨r, RAt.of hv, (R.fit_ow hf).1, (R.fit_ow hf).2, fun H1 s1 => ?_⟩⟩
    walk_at "go"
    refine ⟨v, r.ow.kind, xs, is, rfl, r.ow.kind_lt, hS.same s1, lx, fun p H2 hp s2 hi => ?_⟩
    have s12 := s1.trans s2
    have hpA : pureA (r.inner.map (R.data true)) = true := pureA_iff.mpr fun y hy => by obtain ⟨i, _, rfl⟩ := List.mem_map.mp hy; exact i.pure
    refine lc_sq hi (fun _ => rfl) (fun acc H' => DpAll K H' acc ((r.inner.map (R.data true)).take acc.length) ∧ Same H2 H') (fun D hD => ⟨.nil, same_new hD⟩) (fun D acc H' _ _ q => Same.keeps q.2) ?_ _ ?_ (fun J h => h)
    · rintro D i x acc H' hD hx la hacc ⟨ha, sm⟩
      obtain ⟨di, hdi, hxd⟩ := dpA_get hI hx
      rw [List.getElem?_map] at hdi
      cases eri : r.inner[i]? with
      | none => rw [eri] at hdi; cases hdi
      | some ri =>
        rw [eri] at hdi
        obtain rfl := Option.some.inj hdi
        have hmem := List.mem_of_getElem? eri
        have hil := (List.getElem?_eq_some_iff.mp eri).1
        walk_at "go"
        refine ⟨z, x, ri, t, rfl, hz, dp_keep (Same.keeps (s12.trans sm)) _ _ hxd, R.fit_in hf ri hmem, R.ok_in hok ri hmem, by have := R.in_depth ri hmem; omega, fun H4 v4 s4 d4 => ?_⟩
        refine pp_next (s4 _ _ hacc) la (line60 (by omega)) ⟨?_, same_upd (sm.trans s4) hD⟩
        have kt : KT K H4 (upd H4 D (.lst (acc ++ [v4]))) := kt_lst (s4 _ _ hacc)
        have pt : pureA ((r.inner.map (R.data true)).take acc.length) = true := pureA_iff.mpr fun y hy => pureA_iff.mp hpA y (List.mem_of_mem_take hy)
        have r1 := dpA_app (dpA_pure kt _ _ pt (dpA_keep (Same.keeps s4) _ _ ha)) (.cons (dp_pure kt _ _ ri.pure d4) .nil)
        rw [la, ← List.map_take, take_next eri, List.map_take] at r1
        rw [List.length_append, la]
        exact r1
    · rintro D acc H3 hD la hacc ⟨ha, sm⟩
      rw [la, li, ← List.length_map (f := R.data true), List.take_length] at ha
      have s13 := s12.trans sm
      walk_at "go"
      refine r_ixSq (hS.same s13) at0 ?_
      walk_at "go"
      refine ⟨v, r.ow.kind, xs, is, rfl, r.ow.kind_lt, hS.same s13, lx, fun v' H4 s4 hv' => ?_⟩
      walk_at "go"
      obtain ⟨t', hd'⟩ := dp_of_sq hv' (dpA_keep (Same.keeps (s13.trans s4)) _ _ hX)
      have fl := Ow.flat (R.ok_ow hok) t
      refine ⟨v', _, rfl, hd', flat_sq fun d hd => (fl d hd).1, wdt_sq (by rw [r.ow.data_len]; omega) (Ow.wdt (R.ok_ow hok) t), Nat.lt_succ_of_le (depth_sq fun d hd => (fl d hd).2), fun H5 v5 s5 d5 => ?_⟩
      rw [tupd_sq, Ow.tup] at d5
      obtain ⟨p5, os, rfl, hos, dos⟩ := dp_tuple d5
      have s35 := s4.trans s5
      refine r_starSq ⟨p5, rfl, .inr hos⟩ ?_
      walk_at "go"
      refine r_starSq ⟨D, rfl, .inl (SqL.of (s35 _ _ hacc))⟩ ?_
      walk_at "go"
      have lo : os.length = mn r.ow.kind := by rw [dpA_len dos, r.ow.data_len]
      have lacc : acc.length = r.inner.length := by rw [dpA_len ha, List.length_map]
      refine ⟨small_line (by simp only [List.length_cons, List.length_append, List.length_nil]; omega), fun q hq => ?_⟩
      have s6 := same_new (o := HO.tup (V.str r.ow.word :: (os ++ (acc ++ [])))) hq
      refine k _ _ (s13.trans (s35.trans s6)) ?_
      rw [r.data_eq]
      exact .tup (SqT.of upd_same) (.cons (.str _) (dpA_app (dpA_keep (Same.keeps s6) _ _ dos) (Eq.subst (motive := fun l => DpAll K _ l (r.inner.map (R.data true))) (List.append_nil acc).symm (dpA_keep (Same.keeps (s35.trans s6)) _ _ ha))))
theorem chk_all {f : Addr} {fd : FuncData} (F : Fun K "checked_part" "checked_part" sChkPart f fd) (B : Bl mg) (Ohf : OHasForm P w K mg base) (Oin : OInner P w K mg base) (Oov : OOwnV P w K mg base) (Oas : OAsT 4 P w K mg base)
    (m : mg "checked_part" = some (.ref f)) (b : Binds K fd ["signs", "part"] []) : ∀ n : Nat, OChk n P w K mg base
  | 0 => ⟨f, fd, none_ok fun vs H Q E h => by obtain ⟨z, v, r, t, _, _, _, _, _, hd, _⟩ := h; have := R.depth_pos r; omega, m, F.kp, b⟩
  | n + 1 => ⟨f, fd, ok_chk F B Ohf Oin Oov Oas (chk_all F B Ohf Oin Oov Oas m b n), m, F.kp, b⟩

end
end K4

/-! P11g -/


namespace K4
open PySem L2 K1
section
variable {P : Program} {w : World} {K : PySem.W.Frag} {mg : Str → Option Value} {base : Heap} {dO dI : Addr}
theorem ok_chkX {f C fI : Addr} {fd fdI : FuncData} (F : Fun K "checked_part" "checked_part" sChkPart f fd) (B : Bl mg) (TR : ErrR P K mg C fI fdI) (Ohf : OHasForm P w K mg base) (Oin : OInner P w K mg base) (Oov : OOwnV P w K mg base) (Oas : OAsT 4 P w K mg base) (Ock : OChk 40 P w K mg base) :
    FnOk P w K mg base (L2N.CX P w) 48 f fd ["signs", "part"] (spChkX K C) := by
  refine okXN F scChkPart (fun vs H Q E h => ?_) (fun cdv A outer s H vs Q E hr h => ?_)
  · obtain ⟨z, v, rfl, _⟩ := h
    rfl
  · obtain ⟨z, v, rfl, hz, h⟩ := h
    refine ⟨_, (pss_cons (ps_if (pt_not (pt_val (pe_own Ohf (hr.mono (by omega)) (pa_cons (pv 0) (pa_cons (pv 1) pa_nil))))) (pss_one (L2N.ps_raise rfl (L2N.takes_of rfl rfl rfl rfl) (pmk_oexN TR.T.oex TR.iC TR.tI (ok_badR TR.T) (hr.mono (by omega)) TR.bI rfl TR.gC (pa_cons (pv 1) pa_nil)))) pss_nil) (pss_cons (ps_setLc (i := 2) (own := [("rule", 3)]) (g := gName 3) (tt := tYes) rfl scChkPart.nd rfl rfl (sw_true rfl rfl rfl (by decide +kernel)) (pi_sq (pe_own Oin (hr.mono (by omega)) (pa_cons (pv 1) pa_nil))) (blkOk_by (N := nChkPart) (sc := defScope sChkPart) (by decide +kernel)) (fun _ _ _ _ _ => (pg_name (i := 3) scChkPart.nd rfl (Or.inl rfl))) (fun _ _ _ _ _ => pts_nil) (fun _ _ _ _ _ => (pe_own Ock (hr.mono (by omega)) (pa_cons (pv 0) (pa_cons (pv 3) pa_nil))))) (pss_one (ps_ret (pe_tup (pa_cons (pe_ix ix_seq (pv 1) pe_int (fun _ _ => rfl)) (StX.pa_star (pe_own Oas (hr.mono (by omega)) (pa_cons (pe_own Oov (hr.mono (by omega)) (pa_cons (pv 1) pa_nil)) pa_nil)) (StX.pa_star (pv 2) pa_nil)))))))), ?_⟩
    try dsimp only [cxOf, Cx.nox, Cx.wish]
    walk_at "go"
    rcases h with ⟨r, t, hv, hf, hok, hd, k⟩ | ⟨hb, er⟩
    · skip
      obtain ⟨xs, is, hS, hX, hI, lx, li⟩ := dp_open hv
      have l2 := inner_len r
      have lm := mn_le r.ow.kind
      refine ⟨z, v, rfl, hz, .inl ⟨r, RAt.of hv, (R.fit_ow hf).1, (R.fit_ow hf).2, fun H1 s1 => ?_⟩⟩
      walk_at "go"
      refine ⟨v, r.ow.kind, xs, is, rfl, r.ow.kind_lt, hS.same s1, lx, fun p H2 hp s2 hi => ?_⟩
      have s12 := s1.trans s2
      have hpA : pureA (r.inner.map (R.data true)) = true := pureA_iff.mpr fun y hy => by obtain ⟨i, _, rfl⟩ := List.mem_map.mp hy; exact i.pure
      refine lc_sq hi (fun _ => rfl) (fun acc H' => DpAll K H' acc ((r.inner.map (R.data true)).take acc.length) ∧ Same H2 H') (fun D hD => ⟨.nil, same_new hD⟩) (fun D acc H' _ _ q => Same.keeps q.2) ?_ _ ?_ (fun J h => h)
      · rintro D i x acc H' hD hx la hacc ⟨ha, sm⟩
        obtain ⟨di, hdi, hxd⟩ := dpA_get hI hx
        rw [List.getElem?_map] at hdi
        cases eri : r.inner[i]? with
        | none => rw [eri] at hdi; cases hdi
        | some ri =>
          rw [eri] at hdi
          obtain rfl := Option.some.inj hdi
          have hmem := List.mem_of_getElem? eri
          have hil := (List.getElem?_eq_some_iff.mp eri).1
          walk_at "go"
          refine ⟨z, x, ri, t, rfl, hz, dp_keep (Same.keeps (s12.trans sm)) _ _ hxd, R.fit_in hf ri hmem, R.ok_in hok ri hmem, by have := R.in_depth ri hmem; omega, fun H4 v4 s4 d4 => ?_⟩
          refine pp_next (s4 _ _ hacc) la (line60 (by omega)) ⟨?_, same_upd (sm.trans s4) hD⟩
          have kt : KT K H4 (upd H4 D (.lst (acc ++ [v4]))) := kt_lst (s4 _ _ hacc)
          have pt : pureA ((r.inner.map (R.data true)).take acc.length) = true := pureA_iff.mpr fun y hy => pureA_iff.mp hpA y (List.mem_of_mem_take hy)
          have r1 := dpA_app (dpA_pure kt _ _ pt (dpA_keep (Same.keeps s4) _ _ ha)) (.cons (dp_pure kt _ _ ri.pure d4) .nil)
          rw [la, ← List.map_take, take_next eri, List.map_take] at r1
          rw [List.length_append, la]
          exact r1
      · rintro D acc H3 hD la hacc ⟨ha, sm⟩
        rw [la, li, ← List.length_map (f := R.data true), List.take_length] at ha
        have s13 := s12.trans sm
        walk_at "go"
        refine r_ixSq (hS.same s13) at0 ?_
        walk_at "go"
        refine ⟨v, r.ow.kind, xs, is, rfl, r.ow.kind_lt, hS.same s13, lx, fun v' H4 s4 hv' => ?_⟩
        walk_at "go"
        obtain ⟨t', hd'⟩ := dp_of_sq hv' (dpA_keep (Same.keeps (s13.trans s4)) _ _ hX)
        have fl := Ow.flat (R.ok_ow hok) t
        refine ⟨v', _, rfl, hd', flat_sq fun d hd => (fl d hd).1, wdt_sq (by rw [r.ow.data_len]; omega) (Ow.wdt (R.ok_ow hok) t), Nat.lt_succ_of_le (depth_sq fun d hd => (fl d hd).2), fun H5 v5 s5 d5 => ?_⟩
        rw [tupd_sq, Ow.tup] at d5
        obtain ⟨p5, os, rfl, hos, dos⟩ := dp_tuple d5
        have s35 := s4.trans s5
        refine r_starSq ⟨p5, rfl, .inr hos⟩ ?_
        walk_at "go"
        refine r_starSq ⟨D, rfl, .inl (SqL.of (s35 _ _ hacc))⟩ ?_
        walk_at "go"
        have lo : os.length = mn r.ow.kind := by rw [dpA_len dos, r.ow.data_len]
        have lacc : acc.length = r.inner.length := by rw [dpA_len ha, List.length_map]
        refine ⟨small_line (by simp only [List.length_cons, List.length_append, List.length_nil]; omega), fun q hq => ?_⟩
        have s6 := same_new (o := HO.tup (V.str r.ow.word :: (os ++ (acc ++ [])))) hq
        refine k _ _ (s13.trans (s35.trans s6)) ?_
        rw [r.data_eq]
        exact .tup (SqT.of upd_same) (.cons (.str _) (dpA_app (dpA_keep (Same.keeps s6) _ _ dos) (Eq.subst (motive := fun l => DpAll K _ l (r.inner.map (R.data true))) (List.append_nil acc).symm (dpA_keep (Same.keeps (s35.trans s6)) _ _ ha))))
    · refine ⟨z, v, rfl, hz, .inr ⟨hb, fun H1 s1 => ?_⟩⟩
      walk_at "go"
      exact rzR (er.same s1)
abbrev OChkX (C : Addr) (P : Program) (w : World) (K : PySem.W.Frag) (mg : Str → Option Value) (base : Heap) : Prop := OwnX P w K mg base "checked_part" 48 ["signs", "part"] (spChkX K C)
theorem ok_chkRule {f C : Addr} {fd : FuncData} (F : Fun K "checked_rule" "checked_rule" sChkRule f fd) (B : Bl mg) (G : G11 K w mg dO dI) (Ock : OChkX C P w K mg base) (Ocp : OCount 41 P w K mg base) : FnOk P w K mg base (L2N.CX P w) 49 f fd ["signs", "rule"] (spChkR K C) := by
  refine okXN F scChkRule (fun vs H Q E h => ?_) (fun cdv A outer s H vs Q E hr h => ?_)
  · obtain ⟨z, v, rfl, _⟩ := h
    rfl
  · obtain ⟨z, v, rfl, hz, h⟩ := h
    refine ⟨_, (pss_cons (ps_set (i := 2) scChkRule.nd rfl (Or.inl rfl) (pe_ownX Ock (hr.mono (by omega)) (L2N.passes_call (E := E) (L2N.takes_of rfl rfl rfl rfl) (fun _ _ _ _ h => h)) (pa_cons (pv 0) (pa_cons (pv 1) pa_nil)))) (pss_cons (ps_if (pt_cmpR op_gt (pe_own Ocp (hr.mono (by omega)) (pa_cons (pv 2) pa_nil)) (pe_gI G.MOST_PARTS) (nomark _)) (pss_one ps_never) pss_nil) (pss_one (ps_ret (pv 2))))), ?_⟩
    try dsimp only [cxOf, Cx.nox, Cx.wish]
    walk_at "go"
    rcases h with ⟨r, t, hv, hf, hok, hp, k⟩ | ⟨hb, er⟩
    · have hd := r.depth_le
      refine ⟨z, v, rfl, hz, .inl ⟨r, t, hv, hf, hok, by omega, fun H1 v1 s1 d1 => ?_⟩⟩
      walk_at "go"
      refine ⟨v1, r, rfl, RAt.of d1, by omega, fun H2 s2 => ?_⟩
      walk_at "go"
      refine r_no (by omega) ?_
      walk_at "go"
      exact k H2 v1 (s1.trans s2) (dp_keep (Same.keeps s2) _ _ d1)
    · exact ⟨z, v, rfl, hz, .inr ⟨hb, er⟩⟩
def Bads (K : PySem.W.Frag) (H : Hp) (x : V) : Prop := (∃ y : Str, x = .str y ∧ y.length ≤ 1000 ∧ signsB y = false) ∨ NoText K H x
def spReqS (K : PySem.W.Frag) (C : Addr) : Sp := fun vs H Q E => ∃ x : V, vs = [x] ∧ ((∃ y : Str, x = .str y ∧ y.length ≤ 1000 ∧ signsB y = true ∧ ∀ H', Same H H' → Q .non H') ∨ (Bads K H x ∧ Err C "signs" x H E))
abbrev OAreSigns (P : Program) (w : World) (K : PySem.W.Frag) (mg : Str → Option Value) (base : Heap) : Prop := Own P w K mg base "are_signs" 2 ["thing"] (spAreSigns K)
theorem ok_reqS {f C fI : Addr} {fd fdI : FuncData} (F : Fun K "require_signs" "require_signs" sReqSigns f fd) (TS : ErrS P K mg C fI fdI) (Oa : OAreSigns P w K mg base) : FnOk P w K mg base (L2N.CX P w) 3 f fd ["signs"] (spReqS K C) := by
  refine okXN F scReqSigns (fun vs H Q E h => ?_) (fun cdv A outer s H vs Q E hr h => ?_)
  · obtain ⟨x, rfl, _⟩ := h
    rfl
  · obtain ⟨x, rfl, h⟩ := h
    refine ⟨_, (pss_one (ps_if (pt_not (pt_val (pe_own Oa (hr.mono (by omega)) (pa_cons (pv 0) pa_nil)))) (pss_one (L2N.ps_raise rfl (L2N.takes_of rfl rfl rfl rfl) (pmk_oexN TS.T.oex TS.iC TS.tI (ok_badS TS.T) (hr.mono (by omega)) TS.bI rfl TS.gC (pa_cons (pv 0) pa_nil)))) pss_nil)), ?_⟩
    try dsimp only [cxOf, Cx.nox, Cx.wish]
    walk_at "go"
    rcases h with ⟨y, rfl, hy, hs, k⟩ | ⟨hb, er⟩
    · refine .inl ⟨y, rfl, hy, fun H' sm => ?_⟩
      rw [hs]
      walk_at "go"
      exact k H' sm
    · rcases hb with ⟨y, rfl, hy, hs⟩ | hn
      · refine .inl ⟨y, rfl, hy, fun H' sm => ?_⟩
        rw [hs]
        walk_at "go"
        exact rzS (er.same sm)
      · refine .inr ⟨hn, ?_⟩
        walk_at "go"
        exact rzS er
def BadP (K : PySem.W.Frag) (H : Hp) (z : Str) (x : V) : Prop := (∃ y : Str, x = .str y ∧ y.length ≤ 1000 ∧ textB 0 60 z y = false) ∨ NoText K H x
def spReqP (K : PySem.W.Frag) (C : Addr) : Sp := fun vs H Q E => ∃ (z : Str) (x : V), vs = [.str z, x] ∧ ((∃ y : Str, x = .str y ∧ y.length ≤ 1000 ∧ textB 0 60 z y = true ∧ ∀ H', Same H H' → Q .non H') ∨ (BadP K H z x ∧ Err C "paper" x H E))
abbrev OIsPaper (P : Program) (w : World) (K : PySem.W.Frag) (mg : Str → Option Value) (base : Heap) : Prop := Own P w K mg base "is_paper" 2 ["signs", "thing"] (spIsPaper K)
theorem ok_reqP {f C fI : Addr} {fd fdI : FuncData} (F : Fun K "require_paper" "require_paper" sReqPaper f fd) (TP : ErrP P K mg C fI fdI) (Oip : OIsPaper P w K mg base) : FnOk P w K mg base (L2N.CX P w) 3 f fd ["signs", "paper"] (spReqP K C) := by
  refine okXN F scReqPaper (fun vs H Q E h => ?_) (fun cdv A outer s H vs Q E hr h => ?_)
  · obtain ⟨z, x, rfl, _⟩ := h
    rfl
  · obtain ⟨z, x, rfl, h⟩ := h
    refine ⟨_, (pss_one (ps_if (pt_not (pt_val (pe_own Oip (hr.mono (by omega)) (pa_cons (pv 0) (pa_cons (pv 1) pa_nil))))) (pss_one (L2N.ps_raise rfl (L2N.takes_of rfl rfl rfl rfl) (pmk_oexN TP.T.oex TP.iC TP.tI (ok_badP TP.T) (hr.mono (by omega)) TP.bI rfl TP.gC (pa_cons (pv 1) pa_nil)))) pss_nil)), ?_⟩
    try dsimp only [cxOf, Cx.nox, Cx.wish]
    walk_at "go"
    refine ⟨z, x, rfl, ?_⟩
    rcases h with ⟨y, rfl, hy, hs, k⟩ | ⟨hb, er⟩
    · refine .inl ⟨y, rfl, hy, fun H' sm => ?_⟩
      rw [hs]
      walk_at "go"
      exact k H' sm
    · rcases hb with ⟨y, rfl, hy, hs⟩ | hn
      · refine .inl ⟨y, rfl, hy, fun H' sm => ?_⟩
        rw [hs]
        walk_at "go"
        exact rzP (er.same sm)
      · refine .inr ⟨hn, ?_⟩
        walk_at "go"
        exact rzP er
/-- what check_rule is told -/
def spCheck (K : PySem.W.Frag) (CS CR : Addr) : Sp := fun vs H Q E => ∃ x v : V, vs = [x, v] ∧
  ((Bads K H x ∧ Err CS "signs" x H E) ∨ (∃ z : Str, x = .str z ∧ z.length ≤ 12 ∧ signsB z = true ∧ ((BadR K H v ∧ Err CR "rule" v H E) ∨
    (∃ (r : R) (t : Bool), Dp K H v (r.data t) ∧ r.fit (tl z) ∧ r.ok ∧ r.parts ≤ 40 ∧ ∀ H' v', Same H H' → Dp K H' v' (r.data true) → Q v' H'))))
abbrev OReqS (C : Addr) (P : Program) (w : World) (K : PySem.W.Frag) (mg : Str → Option Value) (base : Heap) : Prop := OwnX P w K mg base "require_signs" 3 ["signs"] (spReqS K C)
abbrev OReqP (C : Addr) (P : Program) (w : World) (K : PySem.W.Frag) (mg : Str → Option Value) (base : Heap) : Prop := OwnX P w K mg base "require_paper" 3 ["signs", "paper"] (spReqP K C)
abbrev OChkR (C : Addr) (P : Program) (w : World) (K : PySem.W.Frag) (mg : Str → Option Value) (base : Heap) : Prop := OwnX P w K mg base "checked_rule" 49 ["signs", "rule"] (spChkR K C)
theorem ok_checkRule {f CS CR : Addr} {fd : FuncData} (F : Fun K "check_rule" "check_rule" sCheckRule f fd) (Ors : OReqS CS P w K mg base) (Ocr : OChkR CR P w K mg base) : FnOk P w K mg base (L2N.CX P w) 50 f fd ["signs", "rule"] (spCheck K CS CR) := by
  refine okXN F scCheckRule (fun vs H Q E h => ?_) (fun cdv A outer s H vs Q E hr h => ?_)
  · obtain ⟨x, v, rfl, _⟩ := h
    rfl
  · obtain ⟨x, v, rfl, h⟩ := h
    refine ⟨_, (pss_cons (ps_expr (pe_ownX Ors (hr.mono (by omega)) (L2N.passes_call (E := E) (L2N.takes_of rfl rfl rfl rfl) (fun _ _ _ _ h => h)) (pa_cons (pv 0) pa_nil))) (pss_one (ps_ret (pe_ownX Ocr (hr.mono (by omega)) (L2N.passes_call (E := E) (L2N.takes_of rfl rfl rfl rfl) (fun _ _ _ _ h => h)) (pa_cons (pv 0) (pa_cons (pv 1) pa_nil)))))), ?_⟩
    try dsimp only [cxOf, Cx.nox, Cx.wish]
    walk_at "go"
    rcases h with ⟨hb, er⟩ | ⟨z, rfl, hz, hs, h⟩
    · exact .inr ⟨hb, er⟩
    · refine .inl ⟨z, rfl, by omega, hs, fun H1 s1 => ?_⟩
      walk_at "go"
      refine ⟨z, v, rfl, hz, ?_⟩
      rcases h with ⟨hb, er⟩ | ⟨r, t, hv, hf, hok, hp, k⟩
      · exact .inr ⟨hb.same s1, er.same s1⟩
      · exact .inl ⟨r, t, dp_keep (Same.keeps s1) _ _ hv, hf, hok, hp, fun H2 v2 s2 d2 => k H2 v2 (s1.trans s2) d2⟩
end
end K4

/-! En11 -/

/-! enumerate(text). -/
namespace K4
open PySem L2 PySem.Spec PyProof.Rows
/-- the signs of a text, each in a new pair -/
def IteS (z : Str) : It :=
  ⟨fun i _ => i < z.cps.size, fun i H v H' => ∃ T c, v = .ref T ∧ H T = none ∧ H' = upd H T (.tup [.int (i : Nat), .str ⟨#[c]⟩]) ∧ z.cps[i]? = some c, fun i _ => i = z.cps.size⟩
theorem turn_enumS {P : Program} {w : World} {K : PySem.W.Frag} {elts : List Expr} {kk : Nat} {tpos : Pos} {z : Str} {t : Tok} {e it : Addr} (hne : e ≠ it) :
    Turn P w K (.Tuple elts kk tpos) (IteS z) [e, it] e (fun i h => (∃ old, IsEnum h e it ((i : Nat) : Int) old) ∧ h.IsStrIter it (strIterType z) z t i) where
  mem := by simp
  obj := fun i h st b hb => by
    obtain ⟨⟨old, he⟩, ⟨o, ho, hc, hd⟩⟩ := st
    have e' : b = e ∨ b = it := by simpa using hb
    rcases e' with q | q
    · rw [q]; exact ⟨_, he, fun v q => nomatch q⟩
    · rw [q]; exact ⟨o, ho, fun v q => by rw [hd] at q; cases q⟩
  keep := fun i h h' st k => by
    obtain ⟨⟨old, he⟩, ⟨o, ho, r⟩⟩ := st
    exact ⟨⟨old, k e (by simp) _ he⟩, ⟨o, k it (by simp) o ho, r⟩⟩
  item := by
    intro X hP hw hK hc i pins s σ H E I hf st hg
    subst hP hw hK
    obtain ⟨⟨old, he⟩, hit⟩ := st
    have hel : e < s.heap.objs.size := Heap.lt_size he
    have hil : it < s.heap.objs.size := by obtain ⟨_, q, _⟩ := hit; exact Heap.lt_size q
    have hh : X.A.in1.handled = none := I.ok.hd hc
    refine wpAny_pyNext_enum_itemC (Draws.text hh it z t) he hit hg hne (by simp [hne]) fun x1 h' tk hx1 ho hit' hT hsz hk => ?_
    obtain ⟨c, u, hcx, rfl⟩ := hx1
    refine ⟨_, rfl, wpAny_letOwnedTupleGo_enum (s := { s with heap := h', toks := tk + 1 }) ho fun h'' he' sb => ?_⟩
    have hT2 : h''.get? s.heap.objs.size = some { cls := .type "tuple", data := .seq #[.int i tk, .str ⟨#[c]⟩ u] } := (sb.2 _ (Nat.ne_of_gt hel)).trans hT
    have new : ObjOk X.prog X.w (upd H s.heap.objs.size (.tup [.int (i : Nat), .str ⟨#[c]⟩])) h'' s.heap.objs.size (.tup [.int (i : Nat), .str ⟨#[c]⟩]) :=
      ⟨by show 2 ≤ sizeLine; decide, [.int i tk, .str ⟨#[c]⟩ u], .cons ⟨_, rfl⟩ (.cons ⟨_, rfl⟩ .nil), ⟨_, hT2, rfl, _, rfl⟩⟩
    have I1 : L2.Inv X pins σ (upd H s.heap.objs.size (.tup [.int (i : Nat), .str ⟨#[c]⟩])) { s with heap := h'', toks := tk + 1 } :=
      I.turnedNew (t' := tk + 1) (ch := [e, it]) (fun b ob hb q => (sb.2 b (fun z => hb (by simp [z]))).trans (hk b ob (fun z => hb (by simp [z])) (fun z => hb (by simp [z])) q)) hf (Nat.le_refl _) new
    refine ⟨.ref s.heap.objs.size, _, I1, rfl, ⟨_, c, rfl, I.hok.fresh (Nat.le_refl _), rfl, hcx⟩, ⟨⟨.str ⟨#[c]⟩ u, ?_⟩, ?_⟩, fun b hb => ?_⟩
    · have e1 : ((i + 1 : Nat) : Int) = (i : Int) + 1 := by omega
      rw [e1]; exact he'
    · obtain ⟨o, ho', r⟩ := hit'
      exact ⟨o, (sb.2 it (Ne.symm hne)).trans ho', r⟩
    · have hb' : b < s.heap.objs.size := by
        have e' : b = e ∨ b = it := by simpa using hb
        rcases e' with q | q
        · rw [q]; exact hel
        · rw [q]; exact hil
      rw [upd_ne (Nat.ne_of_lt hb')]
      exact (hf b hb).1
  done := by
    intro X hP hw hK hc i pins s σ H E I hf st hg
    subst hP hw hK
    obtain ⟨⟨old, he⟩, hit⟩ := st
    have hh : X.A.in1.handled = none := I.ok.hd hc
    have e1 : i = z.cps.size := hg
    subst e1
    refine wpAny_pyNext_enum_endD (Draws.text hh it z t) he hit fun h' hx => ⟨rfl, I.turnedL (t' := s.toks) (ch := [e, it]) (fun b o hb q => hx b o (fun z => hb (by simp [z])) q) hf⟩
  self := fun A i s Q E st h => let ⟨⟨_, he⟩, _⟩ := st; wpAny_pyIter_enum he h
def iEnumS (ta : TA) : TI := fun σ H R => ta σ H fun vs H1 => ∃ z, vs = [.str z] ∧ R (IteS z) H1
theorem pi_enumS {X : Cx} {e : Expr} {ta : TA} {p pos tpos : Pos} {elts : List Expr} {kk : Nat} (hg : Gl X "enumerate") (hm : X.mg "enumerate" = none) (ha : PA X [e] ta) (hs : starEach [e] X.env = [(false, eval e X.env)] := by rfl) :
    PI X (.Tuple elts kk tpos) (.Call (.Name "enumerate" p) [e] [] pos) (iEnumS ta) := by
  refine ⟨fun pins s σ H R I h => ?_⟩
  refine Call_ (ld_blt I hg hm boot_enumerate (PyProof.Rows.callWith_type1 (thn (ha.run pos pins s σ H _ I h) fun us s1 ⟨vs, H1, I1, r1, q1⟩ => ?_) hs rfl))
  obtain ⟨z, ex, q⟩ := q1
  subst ex
  cases r1 with
  | cons r rr =>
    cases rr
    obtain ⟨t, rfl⟩ := r
    have fr : ∀ b ∈ [s1.heap.objs.size + 1, s1.heap.objs.size], FpOk X pins H1 b := fun b hb => by
      have e' : b = s1.heap.objs.size + 1 ∨ b = s1.heap.objs.size := by simpa using hb
      have hle : s1.heap.objs.size ≤ b := by
        rcases e' with z | z
        · rw [z]; exact Nat.le_succ _
        · rw [z]; exact Nat.le_refl _
      exact I1.fpOk hle (I1.hok.fresh hle)
    refine call_enumerate_str fun h' he hit hsz hk => wpAny_pyIter_enum he ?_
    have I2 : L2.Inv X pins σ H1 { s1 with heap := h' } := I1.kept (t' := s1.toks) hk
    exact ⟨s1.heap.objs.size + 1, [s1.heap.objs.size + 1, s1.heap.objs.size], _, _, H1, rfl, I2, turn_enumS (t := t) (Nat.succ_ne_self _), ⟨⟨_, he⟩, hit⟩, fr, q⟩
end K4
namespace K4
open PySem L2 K1 PyProof.Rows
theorem walk_enumS {z : Str} : Walk (IteS z) z.cps.size (fun _ => True) (YPair (fun i => some (.int (i : Nat))) (fun i => (z.cps[i]?).map fun c => V.str ⟨#[c]⟩)) := by
  refine ⟨fun i _ hi q => hi, fun _ q => rfl, fun i H v H' _ q y => ?_⟩
  obtain ⟨T, c, h1, h2, h3, h4⟩ := y
  exact ⟨T, _, .str ⟨#[c]⟩, h1, h2, h3, rfl, by show Option.map _ z.cps[i]? = _; rw [h4]; rfl⟩
section
variable {K : PySem.W.Frag} {σ : L2.St} {H : Hp} {D : Addr} {vs : List Nat} {te : TE} {Qd : Hp → Prop} {J : It} {n : Nat} {G : Hp → Prop} {f g : Nat → Option V} {i j : Nat}
/-- [e for x, y in pairs] -/
theorem lc_pairs (w : Walk J n G (YPair f g)) (hw : ∀ x y, wipe (((wipe σ vs).set i (some x)).set j (some y)) vs = wipe σ vs) (P : List V → Hp → Prop) (h0 : P [] (upd H D (.lst [])))
    (hG : ∀ acc H', H' D = some (.lst acc) → P acc H' → G H')
    (hs : ∀ k x y T acc H', f k = some x → g k = some y → k < n → acc.length = k → H' D = some (.lst acc) → P acc H' → H' T = none → te (((wipe σ vs).set i (some x)).set j (some y)) (upd H' T (.tup [x, y])) fun y H4 => ∃ acc, H4 D = some (.lst acc) ∧ acc.length < sizeLine ∧ PP D P (k + 1) (upd H4 D (.lst (acc ++ [y]))))
    (hd : ∀ acc H', acc.length = n → H' D = some (.lst acc) → P acc H' → Qd H') :
    ∃ W : Nat → Nat → Hp → Prop, (∃ m, W 0 m (upd H D (.lst []))) ∧ ∀ k m H, W k m H →
      (J.stop k H ∧ Qd H) ∨ (J.go k H ∧ ∃ Nx : Hp → Prop, (∀ H', Nx H' → ∃ m', m' < m ∧ W (k + 1) m' H') ∧ ∀ x H', J.yld k H x H' → gTup K 2 (gCons (gName i) (gCons (gName j) gNil)) x (wipe σ vs) H' fun σ2 H2 => wipe σ2 vs = wipe σ vs ∧ tYes σ2 H2 fun b H3 =>
        if b = true then te σ2 H3 fun y H4 => ∃ acc, H4 D = some (.lst acc) ∧ acc.length < sizeLine ∧ Nx (upd H4 D (.lst (acc ++ [y]))) else Nx H3) := by
  refine lc_it w (PP D P) ⟨[], rfl, upd_same, h0⟩ (fun k H' _ ⟨acc, _, e, p⟩ => hG acc H' e p) ?_ (fun H' ⟨acc, l, e, p⟩ => hd acc H' l e p)
  rintro k v H1 H2 hi ⟨acc, l, e, p⟩ ⟨T, x, y, rfl, hT, rfl, hx, hy⟩
  refine ⟨T, [x, y], rfl, SqT.of upd_same, rfl, ?_⟩
  refine r_gcons ?_
  unfold gName
  refine r_gcons ?_
  refine r_gnil ⟨hw x y, ?_⟩
  show te _ _ _
  exact hs k x y T acc _ hx hy hi l e p hT
end
end K4

/-! P11h -/


namespace K1
open PySem L2
theorem tyS {K : PySem.W.Frag} {H : Hp} {y : Str} : tyV K "str" (.str y) H := rfl
theorem sub_one (y : Str) (c i : Nat) : StrLaws.At y (one c) y.length i ↔ (tl y)[i]? = some c := by
  show (i + 1 ≤ y.cps.size ∧ (y.cps.extract i (i + 1) == #[c]) = true) ↔ _
  rw [beq_iff_eq]
  constructor
  · rintro ⟨h1, h2⟩
    have h3 : (y.cps.extract i (i + 1))[0]? = some c := by rw [h2]; rfl
    rw [Array.getElem?_extract] at h3
    split at h3
    · simpa using h3
    · cases h3
  · intro h
    obtain ⟨h1, h2⟩ := List.getElem?_eq_some_iff.mp h
    have h1' : i < y.cps.size := by simpa using h1
    refine ⟨h1', ?_⟩
    apply Array.ext
    · simp; omega
    · intro j j1 j2
      have j0 : j = 0 := by simpa using j2
      subst j0
      simpa using h2
theorem index_one {y : Str} {c k : Nat} (h : (tl y)[k]? = some c) (nd : (tl y).Nodup) : ∃ r, Builtin.Str.occurrences y (one c) 0 y.length 1 = k :: r := by
  rcases StrLaws.occ_head y (one c) 1 (Nat.le_refl _) with ⟨_, e⟩ | ⟨i, r, e, hi, hk⟩
  · exact absurd ((sub_one y c k).mpr h) (e k)
  · have h2 := (sub_one y c i).mp hi
    obtain ⟨a1, a2⟩ := List.getElem?_eq_some_iff.mp h
    obtain ⟨b1, b2⟩ := List.getElem?_eq_some_iff.mp h2
    have pw := List.pairwise_iff_getElem.mp nd
    have : i = k := by
      rcases Nat.lt_trichotomy i k with q | q | q
      · exact absurd (b2.trans a2.symm) (pw i k b1 a1 q)
      · exact q
      · exact absurd (a2.trans b2.symm) (pw k i a1 b1 q)
    subst this
    exact ⟨r, e⟩
section
variable {g : TG} {tb : TS} {nx : L2.St → Hp → Prop} {rt : VK} {σ : L2.St} {H : Hp}
/-- a for over a text -/
theorem fr_str {z : Str} (Pv : Nat → L2.St → Hp → Prop) (h0 : Pv 0 σ H)
    (hs : ∀ (i c : Nat) (σ : L2.St) (H : Hp), (tl z)[i]? = some c → Pv i σ H → g (.str ⟨#[c]⟩) σ H fun σ2 H2 => tb ⟨Pv (i + 1), rt, nx, Pv (i + 1)⟩ σ2 H2) (hd : ∀ σ H, Pv (tl z).length σ H → nx σ H) :
    ∃ W : Nat → Nat → L2.St → Hp → Prop, (∃ m, W 0 m σ H) ∧ ∀ i m σ H, W i m σ H →
      ((Its z).stop i H ∧ nx σ H) ∨ ((Its z).go i H ∧ ∃ N : L2.St → Hp → Prop, (∀ σ' H', N σ' H' → ∃ m', m' < m ∧ W (i + 1) m' σ' H') ∧ ∀ x H', (Its z).yld i H x H' → g x σ H' fun σ2 H2 => tb ⟨N, rt, nx, N⟩ σ2 H2) := by
  have hsz : z.cps.size = (tl z).length := by simp
  refine ⟨fun i m σ H => m = (tl z).length - i ∧ i ≤ (tl z).length ∧ Pv i σ H, ⟨_, rfl, Nat.zero_le _, h0⟩, ?_⟩
  rintro i m σ H ⟨rfl, hi, p⟩
  by_cases hlt : i < (tl z).length
  · refine .inr ⟨by show i < z.cps.size; omega, Pv (i + 1), fun σ' H' q => ⟨(tl z).length - (i + 1), by omega, rfl, by omega, q⟩, ?_⟩
    rintro x H' ⟨rfl, c, hc, rfl⟩
    exact hs i c σ _ (by simpa using hc) p
  · have e : i = (tl z).length := by omega
    refine .inl ⟨by show z.cps.size ≤ i; omega, hd σ H ?_⟩
    rw [← e]; exact p
end
end K1
namespace K4
open PySem L2 K1
abbrev sStandIn : Stmt := top 28
abbrev nStandIn : List Str := ["signs", "rows", "paper", "start", "at", "sign"]
theorem scStandIn : FnScope nStandIn ["signs", "rows", "paper", "start"] (defScope sStandIn) := ⟨rfl, rfl, rfl, by decide +kernel, rfl, by decide +kernel, by decide +kernel⟩
abbrev sFaced : Stmt := top 54
abbrev nFaced : List Str := ["signs", "faces", "paper", "at", "sign"]
theorem scFaced : FnScope nFaced ["signs", "faces", "paper"] (defScope sFaced) := ⟨rfl, rfl, rfl, by decide +kernel, rfl, by decide +kernel, by decide +kernel⟩
abbrev sHasSum : Stmt := top 52
abbrev nHasSum : List Str := ["signs", "values", "paper", "modulus", "weights", "goal", "total", "at", "sign"]
theorem scHasSum : FnScope nHasSum ["signs", "values", "paper"] (defScope sHasSum) := ⟨rfl, rfl, rfl, by decide +kernel, rfl, by decide +kernel, by decide +kernel⟩
abbrev sEndsInGoal : Stmt := top 53
abbrev nEndsInGoal : List Str := ["signs", "values", "paper", "rows", "goals"]
theorem scEndsInGoal : FnScope nEndsInGoal ["signs", "values", "paper"] (defScope sEndsInGoal) := ⟨rfl, rfl, rfl, by decide +kernel, rfl, by decide +kernel, by decide +kernel⟩
theorem r_mod {H : Hp} {Q : VK} {i n : Nat} (hn : 0 < n) (q : Q (vi (i % n)) H) : rI (fun _ j => j ≠ 0) (fun i j => V.int (i.fmod j)) (.int (i : Int)) (.int (n : Int)) H Q := by
  refine ⟨_, _, rfl, rfl, by omega, ?_⟩
  show Q (.int ((i : Int).fmod (n : Int))) H
  rw [← Int.ofNat_fmod]
  exact q
theorem r_mul {H : Hp} {Q : VK} {i n : Nat} (h : i < 2 ^ 60) (q : Q (vi (i * n)) H) : rI CMul (fun i j => V.int (i * j)) (vi i) (vi n) H Q := by
  refine ⟨_, _, rfl, rfl, .inl ⟨by omega, by omega⟩, ?_⟩
  have e : ((i : Int) * (n : Int)) = ((i * n : Nat) : Int) := by rw [Int.natCast_mul]
  show Q (.int ((i : Int) * (n : Int))) H
  rw [e]
  exact q
theorem r_iEnumS {ta : TA} {σ : L2.St} {H : Hp} {R : It → Hp → Prop} (q : ta σ H fun vs H1 => ∃ z, vs = [V.str z] ∧ R (IteS z) H1) : iEnumS ta σ H R := q
theorem rows_at {K : PySem.W.Frag} {H : Hp} : ∀ {rvs : List V} {rows : List (List Nat)}, RowsAt K H rvs rows → ∀ {i : Nat}, i < rows.length → ∃ v, rvs[i]? = some v ∧ NumsAt K H v (rows.getD i [])
  | [], [], _, i, h => by simp at h
  | v :: vs, r :: rs, h, 0, _ => ⟨v, rfl, h.1⟩
  | v :: vs, r :: rs, h, i + 1, hi => by
    obtain ⟨u, e, q⟩ := rows_at h.2 (i := i) (by simpa using hi)
    exact ⟨u, by simpa using e, by simpa using q⟩
  | [], _ :: _, h, _, _ => h.elim
  | _ :: _, [], h, _, _ => h.elim
/-- the place of a sign -/
theorem idx_occ {z : Str} {c : Nat} (hc : c ∈ tl z) (nd : (tl z).Nodup) : ∃ r, Builtin.Str.occurrences z (one c) 0 z.length 1 = (tl z).idxOf c :: r := index_one (idx_at hc) nd
def spStand (K : PySem.W.Frag) : Sp := fun vs H Q _ => ∃ (z : Str) (v : V) (rvs : List V) (rows : List (List Nat)) (gs : List Nat) (x : Str) (a : Nat), vs = [.str z, v, .str x, vi a] ∧ z.length ≤ 12 ∧ (tl z).Nodup ∧ Sq K H v rvs ∧ RowsAt K H rvs rows ∧ Ow.fit (tl z) (.square rows gs) ∧ a < rows.length ∧
  (∀ c ∈ tl x, c ∈ tl z) ∧ Q (vi (runs (tl z) rows a (tl x))) H
section
variable {P : Program} {w : World} {K : PySem.W.Frag} {mg : Str → Option Value} {base : Heap} {dO dI : Addr}
theorem ok_standIn {f : Addr} {fd : FuncData} (F : Fun K "standing_in" "standing_in" sStandIn f fd) (B : Bl mg) : FnOk P w K mg base CX0 1 f fd ["signs", "rows", "paper", "start"] (spStand K) := by
  refine F.ok scStandIn (fun vs H Q E h => ?_) (fun cdv A outer s H vs Q E hr h => ?_)
  · obtain ⟨z, v, rvs, rows, gs, x, a, rfl, _⟩ := h
    rfl
  · obtain ⟨z, v, rvs, rows, gs, x, a, rfl, hz, nd, hS, hR, hf, ha, hx, k⟩ := h
    refine ⟨_, (pss_cons (ps_set (i := 4) scStandIn.nd rfl (Or.inl rfl) (pv 3)) (pss_cons (ps_for PassesOwn.never rfl (pi_str (pv 2)) (pg_name (i := 5) scStandIn.nd rfl (Or.inl rfl)) (pss_one (ps_set (i := 4) scStandIn.nd rfl (Or.inl rfl) (pe_ix ix_seq (pe_ix ix_seq (pv 1) (pv 4) (fun _ _ => rfl)) (pe_bm PySem.F.plainAttrs_str PySem.F.slot_str_index PySem.F.type_str_index mt_sindex (pv 0) (pa_cons (pv 5) pa_nil)) (fun _ _ => rfl))))) (pss_one (ps_ret (pv 4))))), ?_⟩
    try dsimp only [cxOf, Cx.nox, Cx.wish]
    walk_at "go"
    refine fr_str (fun i σ H' => ∃ o5 : Option V, σ = [some (.str z), some v, some (.str x), some (vi a), some (vi (runs (tl z) rows a ((tl x).take i))), o5] ∧ H' = H) ⟨none, rfl, rfl⟩ ?_ ?_
    · rintro i c σ _ hi ⟨o5, rfl, rfl⟩
      have hc := hx c (List.mem_of_getElem? hi)
      have hlt := runs_lt (z := tl z) (rows := rows) (fun a c h1 h2 => stp_lt hf h1 h2) (p := (tl x).take i) ha fun y hy => hx y (List.mem_of_mem_take hy)
      obtain ⟨rv, e1, hN⟩ := rows_at hR hlt
      have hrow := hf.2.2.1 _ (getD_mem (d := ([] : List Nat)) hlt)
      walk_at "go"
      refine r_ixSq hS (atI_nat e1) ?_
      walk_at "go"
      refine ⟨tyS, ?_⟩
      walk_at "go"
      obtain ⟨r, er⟩ := idx_occ hc nd
      refine ⟨z, one c, _, r, rfl, rfl, er, ?_⟩
      walk_at "go"
      refine nums_get hN (by rw [hrow.1]; exact idx_lt hc) ?_
      walk_at "go"
      refine ⟨some (.str ⟨#[c]⟩), ?_, rfl⟩
      have e2 : runs (tl z) rows a ((tl x).take (i + 1)) = stp (tl z) rows (runs (tl z) rows a ((tl x).take i)) c := by
        rw [List.take_succ, hi, ← runs_snoc]; rfl
      rw [e2]
      rfl
    · rintro σ _ ⟨o5, rfl, rfl⟩
      walk_at "go"
      rw [List.take_length]
      exact k
abbrev OStand (P : Program) (w : World) (K : PySem.W.Frag) (mg : Str → Option Value) (base : Heap) : Prop := Own P w K mg base "standing_in" 1 ["signs", "rows", "paper", "start"] (spStand K)
def spHasSum (K : PySem.W.Frag) : Sp := fun vs H Q _ => ∃ (z : Str) (v : V) (xs : List V) (m : Nat) (ws : List Nat) (g : Nat) (x : Str), vs = [.str z, v, .str x] ∧ z.length ≤ 12 ∧ (tl z).Nodup ∧ Sq K H v xs ∧ OwAt K H xs (.sum m ws g) ∧ Ow.fit (tl z) (.sum m ws g) ∧ Pp (tl z) (tl x) ∧
  ∀ H', Same H H' → Q (.bl (decide (tot (tl z) ws (tl x) (tl x).length % m = g))) H'
theorem ok_hasSum {f : Addr} {fd : FuncData} (F : Fun K "has_sum" "has_sum" sHasSum f fd) (B : Bl mg) (BZ : mg "enumerate" = none) : FnOk P w K mg base CX0 1 f fd ["signs", "values", "paper"] (spHasSum K) := by
  refine F.ok scHasSum (fun vs H Q E h => ?_) (fun cdv A outer s H vs Q E hr h => ?_)
  · obtain ⟨z, v, xs, m, ws, g, x, rfl, _⟩ := h
    rfl
  · obtain ⟨z, v, xs, m, ws, g, x, rfl, hz, nd, hS, ⟨wv, rfl, hw⟩, hf, hp, k⟩ := h
    refine ⟨_, (pss_cons (ps_asg (pv 1) (pg_sq rfl (pgs_cons (pg_name (i := 3) scHasSum.nd rfl (Or.inl rfl)) (pgs_cons (pg_name (i := 4) scHasSum.nd rfl (Or.inr rfl)) (pgs_cons (pg_name (i := 5) scHasSum.nd rfl (Or.inl rfl)) pgs_nil))))) (pss_cons (ps_set (i := 6) scHasSum.nd rfl (Or.inl rfl) (pe_callB (cr_sum rfl) (by rfl) B.sum (by decide +kernel) (pa_cons (pe_lc (own := [("at", 7), ("sign", 8)]) (g := gTup K 2 (gCons (gName 7) (gCons (gName 8) gNil))) (tt := tYes) rfl scHasSum.nd (pi_enumS rfl BZ (pa_cons (pv 2) pa_nil)) (blkOk_by (N := nHasSum) (sc := defScope sHasSum) (by decide +kernel)) (fun _ _ _ _ _ => (pg_tup rfl (pgs_cons (pg_name (i := 7) scHasSum.nd rfl (Or.inl rfl)) (pgs_cons (pg_name (i := 8) scHasSum.nd rfl (Or.inl rfl)) pgs_nil)))) (fun _ _ _ _ _ => pts_nil) (fun _ _ _ _ _ => (pe_op op_mul (pe_ix (r := rIx K) ix_seq (pv 4) (pe_op op_modN (pv 7) (pe_callB (r := rLenK K) call_len (by rfl) B.len PySem.boot_len (pa_cons (pv 4) pa_nil))) (fun _ _ => rfl)) (pe_bmK (K := K) rfl PySem.F.plainAttrs_str PySem.F.slot_str_index PySem.F.type_str_index mt_sindex (pv 0) (pa_cons (pv 8) pa_nil))))) pa_nil))) (pss_one (ps_ret (pe_cmpR op_eq (pe_op op_modN (pv 6) (pv 3)) (pv 5) (nomark _)))))), ?_⟩
    try dsimp only [cxOf, Cx.nox, Cx.wish]
    walk_at "go"
    refine r_gSq hS rfl ?_
    walk_at "go"
    intro D hD
    have hsz : x.cps.size = (tl x).length := by simp
    have hx60 := hp.le
    refine lc_pairs walk_enumS (fun _ _ => rfl) (fun acc H' => acc = ((List.range (tl x).length).take acc.length).map (fun k => vi (term (tl z) ws (tl x) k)) ∧ Same H H') ⟨rfl, same_new hD⟩ (fun _ _ _ _ => trivial) ?_ ?_
    · intro k u y T acc H' hu hy hk la hacc hPa hT
      obtain ⟨ha, sm⟩ := hPa
      obtain rfl := Option.some.inj hu
      have hk' : k < (tl x).length := by omega
      have hc : x.cps[k]? = some ((tl x).getD k 0) := by
        have := getD_at (d := 0) hk'
        simpa using this
      rw [hc] at hy
      obtain rfl := Option.some.inj hy
      have hmem := hp.all _ (getD_mem (d := 0) hk')
      have sT := sm.trans (same_new (o := HO.tup [V.int (k : Nat), V.str ⟨#[(tl x).getD k 0]⟩]) hT)
      have eD : (upd H' T (HO.tup [V.int (k : Nat), V.str ⟨#[(tl x).getD k 0]⟩])) D = some (.lst acc) := by rw [upd_ne (ne_of_none hacc hT)]; exact hacc
      walk_at "go"
      have hwl := (hw.same sT).len
      rw [List.length_map] at hwl
      have wpos := List.length_pos_iff.mpr hf.2.2.1
      refine ⟨wv, _, rfl, hwl, ?_⟩
      refine r_mod wpos ?_
      refine nums_get (hw.same sT) (mod_lt hf.2.2.1 k) ?_
      walk_at "go"
      refine ⟨tyS, ?_⟩
      walk_at "go"
      obtain ⟨r, er⟩ := idx_occ hmem nd
      refine ⟨z, one _, _, r, rfl, rfl, er, ?_⟩
      have hwlt := hf.2.2.2.2.1 _ (getD_mem (d := 0) (mod_lt hf.2.2.1 k))
      have hm60 := hf.2.1
      refine r_mul (by omega) ?_
      refine pp_next eD la (line60 (by omega)) ⟨acc_next (f := fun k => vi (term (tl z) ws (tl x) k)) (a := k) ha la (List.getElem?_eq_some_iff.mpr ⟨by rw [List.length_range]; exact hk', List.getElem_range _⟩), same_upd sT hD⟩
    · intro acc H' la hacc hPa
      obtain ⟨ha, sm⟩ := hPa
      have e0 : (List.range (tl x).length).take acc.length = List.range (tl x).length := by
        refine List.take_of_length_le ?_
        rw [List.length_range]; omega
      rw [e0] at ha
      walk_at "go"
      refine r_sum (ns := ((List.range (tl x).length).map (term (tl z) ws (tl x))).map fun n : Nat => (n : Int)) (by rw [ha] at hacc; rw [List.map_map, List.map_map]; exact SqL.of hacc) ?_
      rw [sum_cast]
      walk_at "go"
      have hm2 := hf.1
      refine r_mod (by omega) ?_
      walk_at "go"
      have e2 : decide (vi (tot (tl z) ws (tl x) (tl x).length % m) = vi g) = decide (tot (tl z) ws (tl x) (tl x).length % m = g) := by
        rw [decide_eq_decide]
        exact ⟨fun q => by have := V.int.inj q; omega, fun q => by rw [q]⟩
      have := k H' sm
      rw [← e2] at this
      exact this
theorem joinL_ones : ∀ l : List Nat, TL.joinL ([] : List Nat) (l.map fun c => [c]) = l
  | [] => rfl
  | [c] => rfl
  | c :: d :: l => by
    show [c] ++ ([] ++ TL.joinL [] ((d :: l).map fun c => [c])) = _
    rw [joinL_ones (d :: l)]
    rfl
theorem tl_join1 (l : List Nat) : tl (Txt.join "" (l.map one)) = l := by
  rw [tl_joinL, List.map_map]
  have e : (tl ("" : Str)) = [] := by decide +kernel
  rw [e]
  exact joinL_ones l
theorem strs_get {H : Hp} {v : V} {fs : List Str} (h : Sq K H v (fs.map V.str)) {i : Nat} (hi : i < fs.length) {Q : VK} (q : Q (.str (fs.getD i "")) H) : rIx K v (.int (i : Int)) H Q := by
  refine r_ixSq h (atI_nat ?_) q
  rw [List.getElem?_map, getD_at (xs := fs) (d := ("" : Str)) hi]
  rfl
def spFaced (K : PySem.W.Frag) : Sp := fun vs H Q _ => ∃ (z : Str) (v : V) (fs : List Str) (x : Str), vs = [.str z, v, .str x] ∧ z.length ≤ 12 ∧ (tl z).Nodup ∧ Sq K H v (fs.map V.str) ∧ Ow.fit (tl z) (.faces fs) ∧ Pp (tl z) (tl x) ∧
  ∀ H' y, Same H H' → tl y = faced (tl z) fs (tl x) → Q (.str y) H'
theorem ok_faced {f : Addr} {fd : FuncData} (F : Fun K "faced" "faced" sFaced f fd) (B : Bl mg) (BZ : mg "enumerate" = none) : FnOk P w K mg base CX0 1 f fd ["signs", "faces", "paper"] (spFaced K) := by
  refine F.ok scFaced (fun vs H Q E h => ?_) (fun cdv A outer s H vs Q E hr h => ?_)
  · obtain ⟨z, v, fs, x, rfl, _⟩ := h
    rfl
  · obtain ⟨z, v, fs, x, rfl, hz, nd, hS, hf, hp, k⟩ := h
    refine ⟨_, (pss_one (ps_ret (pe_m1 PySem.F.slot_str_join PySem.F.type_str_join mt_join pe_str (pe_lc (own := [("at", 3), ("sign", 4)]) (g := gTup K 2 (gCons (gName 3) (gCons (gName 4) gNil))) (tt := tYes) rfl scFaced.nd (pi_enumS rfl BZ (pa_cons (pv 2) pa_nil)) (blkOk_by (N := nFaced) (sc := defScope sFaced) (by decide +kernel)) (fun _ _ _ _ _ => (pg_tup rfl (pgs_cons (pg_name (i := 3) scFaced.nd rfl (Or.inl rfl)) (pgs_cons (pg_name (i := 4) scFaced.nd rfl (Or.inl rfl)) pgs_nil)))) (fun _ _ _ _ _ => pts_nil) (fun _ _ _ _ _ => (pe_ix ix_str (pe_ix (r := rIx K) ix_seq (pv 1) (pe_op op_modN (pv 3) (pe_callB (r := rLenK K) call_len (by rfl) B.len PySem.boot_len (pa_cons (pv 1) pa_nil))) (fun _ _ => rfl)) (pe_bmK (K := K) rfl PySem.F.plainAttrs_str PySem.F.slot_str_index PySem.F.type_str_index mt_sindex (pv 0) (pa_cons (pv 4) pa_nil)) (fun _ _ => rfl))))))), ?_⟩
    try dsimp only [cxOf, Cx.nox, Cx.wish]
    walk_at "go"
    intro D hD
    have hsz : x.cps.size = (tl x).length := by simp
    have hx60 := hp.le
    have fpos := List.length_pos_iff.mpr hf.1
    refine lc_pairs walk_enumS (fun _ _ => rfl) (fun acc H' => acc = ((List.range (tl x).length).take acc.length).map (fun k => V.str (one (fch (tl z) fs (tl x) k))) ∧ Same H H') ⟨rfl, same_new hD⟩ (fun _ _ _ _ => trivial) ?_ ?_
    · intro k u y T acc H' hu hy hk la hacc hPa hT
      obtain ⟨ha, sm⟩ := hPa
      obtain rfl := Option.some.inj hu
      have hk' : k < (tl x).length := by omega
      have hc : x.cps[k]? = some ((tl x).getD k 0) := by
        have := getD_at (d := 0) hk'
        simpa using this
      rw [hc] at hy
      obtain rfl := Option.some.inj hy
      have hmem := hp.all _ (getD_mem (d := 0) hk')
      have sT := sm.trans (same_new (o := HO.tup [V.int (k : Nat), V.str ⟨#[(tl x).getD k 0]⟩]) hT)
      have eD : (upd H' T (HO.tup [V.int (k : Nat), V.str ⟨#[(tl x).getD k 0]⟩])) D = some (.lst acc) := by rw [upd_ne (ne_of_none hacc hT)]; exact hacc
      walk_at "go"
      have hwl := (hS.same sT).len
      rw [List.length_map] at hwl
      refine ⟨v, _, rfl, hwl, ?_⟩
      refine r_mod fpos ?_
      refine strs_get (hS.same sT) (mod_lt hf.1 k) ?_
      walk_at "go"
      refine ⟨tyS, ?_⟩
      walk_at "go"
      obtain ⟨r, er⟩ := idx_occ hmem nd
      refine ⟨z, one _, _, r, rfl, rfl, er, ?_⟩
      have hfm := hf.2.2 (fs.getD (k % fs.length) "") (getD_mem (mod_lt hf.1 k))
      have hil := idx_lt hmem
      have hzl := len_tl z
      have hfl := len_tl (fs.getD (k % fs.length) "")
      refine r_ixS (small_line (by omega)) (atI_nat (show (tl (fs.getD (k % fs.length) ""))[(tl z).idxOf ((tl x).getD k 0)]? = some (fch (tl z) fs (tl x) k) from getD_at (by rw [hfm.1]; exact hil))) ?_
      refine pp_next eD la (line60 (by omega)) ⟨acc_next (f := fun k => V.str (one (fch (tl z) fs (tl x) k))) (a := k) ha la (List.getElem?_eq_some_iff.mpr ⟨by rw [List.length_range]; exact hk', List.getElem_range _⟩), same_upd sT hD⟩
    · intro acc H' la hacc hPa
      obtain ⟨ha, sm⟩ := hPa
      have e0 : (List.range (tl x).length).take acc.length = List.range (tl x).length := by
        refine List.take_of_length_le ?_
        rw [List.length_range]; omega
      rw [e0] at ha
      have e1 : acc = ((faced (tl z) fs (tl x)).map one).map V.str := by rw [ha, faced, List.map_map, List.map_map]; rfl
      walk_at "go"
      refine ⟨_, D, (faced (tl z) fs (tl x)).map one, rfl, rfl, .inl (by rw [e1] at hacc; exact SqL.of hacc), ?_, ?_⟩
      · have := sum_le (ys := (faced (tl z) fs (tl x)).map one) (b := 1) (fun p hp => by obtain ⟨c, _, rfl⟩ := List.mem_map.mp hp; exact Nat.le_refl _)
        have e3 : ("" : Str).length = 0 := by decide +kernel
        rw [e3]
        rw [List.length_map, faced_len] at *
        omega
      · exact k H' _ sm (tl_join1 _)
def spEnds (K : PySem.W.Frag) : Sp := fun vs H Q _ => ∃ (z : Str) (v : V) (xs : List V) (rows : List (List Nat)) (gs : List Nat) (x : Str), vs = [.str z, v, .str x] ∧ z.length ≤ 12 ∧ (tl z).Nodup ∧ Sq K H v xs ∧ OwAt K H xs (.square rows gs) ∧ Ow.fit (tl z) (.square rows gs) ∧ (∀ c ∈ tl x, c ∈ tl z) ∧
  Q (.bl (decide (runs (tl z) rows 0 (tl x) ∈ gs))) H
theorem inV_nums (n : Nat) : ∀ ns : List Nat, inV (vi n) (ns.map vi) = decide (n ∈ ns)
  | [] => rfl
  | m :: ns => by
    have ih := inV_nums n ns
    unfold inV at ih ⊢
    rw [List.map_cons, List.any_cons, ih]
    have e : eqV (vi m) (vi n) = decide (n = m) := by
      show decide ((m : Int) = (n : Int)) = _
      rw [decide_eq_decide]; omega
    rw [e]
    by_cases h : n = m
    · subst h; simp
    · simp [h]
theorem ok_ends {f : Addr} {fd : FuncData} (F : Fun K "ends_in_goal" "ends_in_goal" sEndsInGoal f fd) (B : Bl mg) (Osi : OStand P w K mg base) : FnOk P w K mg base CX0 2 f fd ["signs", "values", "paper"] (spEnds K) := by
  refine F.ok scEndsInGoal (fun vs H Q E h => ?_) (fun cdv A outer s H vs Q E hr h => ?_)
  · obtain ⟨z, v, xs, rows, gs, x, rfl, _⟩ := h
    rfl
  · obtain ⟨z, v, xs, rows, gs, x, rfl, hz, nd, hS, ⟨rv, gv, rvs, rfl, h1, h2, h3⟩, hf, hx, k⟩ := h
    refine ⟨_, (pss_cons (ps_asg (pv 1) (pg_sq rfl (pgs_cons (pg_name (i := 3) scEndsInGoal.nd rfl (Or.inl rfl)) (pgs_cons (pg_name (i := 4) scEndsInGoal.nd rfl (Or.inl rfl)) pgs_nil)))) (pss_one (ps_ret (pe_cmpR op_in_seq (pe_own Osi hr (pa_cons (pv 0) (pa_cons (pv 3) (pa_cons (pv 2) (pa_cons pe_int pa_nil))))) (pv 4) (by rfl))))), ?_⟩
    try dsimp only [cxOf, Cx.nox, Cx.wish]
    walk_at "go"
    refine r_gSq hS rfl ?_
    walk_at "go"
    refine ⟨z, rv, rvs, rows, gs, x, 0, rfl, hz, nd, h1, h2, hf, List.length_pos_iff.mpr hf.1, hx, ?_⟩
    walk_at "go"
    obtain ⟨ga, ea, hg⟩ := h3
    refine ⟨ga, gs.map vi, ea, hg, rfl, ?_, ?_⟩
    · rw [List.all_eq_true]
      intro y hy
      obtain ⟨n, _, rfl⟩ := List.mem_map.mp hy
      rfl
    · show Q (.bl (inV _ _)) H
      rw [inV_nums]
      exact k
abbrev OHasSum (P : Program) (w : World) (K : PySem.W.Frag) (mg : Str → Option Value) (base : Heap) : Prop := Own P w K mg base "has_sum" 1 ["signs", "values", "paper"] (spHasSum K)
abbrev OEnds (P : Program) (w : World) (K : PySem.W.Frag) (mg : Str → Option Value) (base : Heap) : Prop := Own P w K mg base "ends_in_goal" 2 ["signs", "values", "paper"] (spEnds K)
abbrev OFaced (P : Program) (w : World) (K : PySem.W.Frag) (mg : Str → Option Value) (base : Heap) : Prop := Own P w K mg base "faced" 1 ["signs", "faces", "paper"] (spFaced K)
end
end K4

/-! P11i -/


namespace K4
open PySem L2 K1
abbrev sFinds : Stmt := top 51
abbrev nFinds : List Str := ["signs", "part", "paper", "word", "values", "inner", "first", "last", "rest", "flags", "rule"]
theorem scFinds : FnScope nFinds ["signs", "part", "paper"] (defScope sFinds) := ⟨rfl, rfl, rfl, by decide +kernel, rfl, by decide +kernel, by decide +kernel⟩
theorem tl_cut_mid {x : Str} (i j : Nat) : tl (cutS x (some (i : Int)) (some (j : Int))) = ((tl x).drop i).take (j - i) := by
  have hl := len_tl x
  unfold cutS
  rw [HT.sIx_nat, HT.sIx_nat]
  show ((tl x).drop (min i x.length)).take (min j x.length - min i x.length) = _
  by_cases h : i ≤ x.length
  · rw [Nat.min_eq_left h]
    by_cases h2 : j ≤ x.length
    · rw [Nat.min_eq_left h2]
    · rw [Nat.min_eq_right (by omega), List.take_of_length_le (by rw [List.length_drop]; omega), List.take_of_length_le (by rw [List.length_drop]; omega)]
  · have hi : min i x.length = x.length := Nat.min_eq_right (by omega)
    rw [hi]
    have e1 : (tl x).drop i = [] := List.drop_eq_nil_of_le (by omega)
    have e2 : (tl x).drop x.length = [] := List.drop_eq_nil_of_le (by omega)
    rw [e1, e2]; simp
def spFinds (K : PySem.W.Frag) (n : Nat) : Sp := fun vs H Q _ => ∃ (z : Str) (v : V) (r : R) (x : Str), vs = [.str z, v, .str x] ∧ z.length ≤ 12 ∧ (tl z).Nodup ∧ RAt K H v r ∧ r.fit (tl z) ∧ Pp (tl z) (tl x) ∧ r.depth ≤ n ∧ ∀ H', Same H H' → Q (.bl (ev (tl z) r (tl x))) H'
section
variable {P : Program} {w : World} {K : PySem.W.Frag} {mg : Str → Option Value} {base : Heap} {dO dI : Addr}
abbrev OFinds (n : Nat) (P : Program) (w : World) (K : PySem.W.Frag) (mg : Str → Option Value) (base : Heap) : Prop := Own P w K mg base "finds_right" (n + 3) ["signs", "part", "paper"] (spFinds K n)
theorem ok_finds {n : Nat} {f : Addr} {fd : FuncData} (F : Fun K "finds_right" "finds_right" sFinds f fd) (B : Bl mg) (Oin : OInner P w K mg base) (Oov : OOwnV P w K mg base) (Ohs : OHasSum P w K mg base) (Oeg : OEnds P w K mg base) (Ofc : OFaced P w K mg base) (Ofi : OFinds n P w K mg base) :
    FnOk P w K mg base CX0 (n + 1 + 3) f fd ["signs", "part", "paper"] (spFinds K (n + 1)) := by
  refine F.ok scFinds (fun vs H Q E h => ?_) (fun cdv A outer s H vs Q E hr h => ?_)
  · obtain ⟨z, v, r, x, rfl, _⟩ := h
    rfl
  · obtain ⟨z, v, r, x, rfl, hz, nd, hR, hf, hp, hd, k⟩ := h
    refine ⟨_, (pss_cons (ps_set (i := 3) scFinds.nd rfl (Or.inl rfl) (pe_ix ix_seq (pv 1) pe_int (fun _ _ => rfl))) (pss_cons (ps_set (i := 4) scFinds.nd rfl (Or.inl rfl) (pe_own Oov (hr.mono (by omega)) (pa_cons (pv 1) pa_nil))) (pss_cons (ps_set (i := 5) scFinds.nd rfl (Or.inl rfl) (pe_own Oin (hr.mono (by omega)) (pa_cons (pv 1) pa_nil))) (pss_cons (ps_if (pt_cmpR op_eq (pv 3) pe_str (nomark _)) (pss_one (ps_ret (pe_own Ohs (hr.mono (by omega)) (pa_cons (pv 0) (pa_cons (pv 4) (pa_cons (pv 2) pa_nil)))))) pss_nil) (pss_cons (ps_if (pt_cmpR op_eq (pv 3) pe_str (nomark _)) (pss_one (ps_ret (pe_own Oeg (hr.mono (by omega)) (pa_cons (pv 0) (pa_cons (pv 4) (pa_cons (pv 2) pa_nil)))))) pss_nil) (pss_cons (ps_if (pt_cmpR op_eq (pv 3) pe_str (nomark _)) (pss_one (ps_ret (pe_own Ofi hr (pa_cons (pv 0) (pa_cons (pe_ix ix_seq (pv 5) pe_int (fun _ _ => rfl)) (pa_cons (pe_own Ofc (hr.mono (by omega)) (pa_cons (pv 0) (pa_cons (pe_ix ix_seq (pv 4) pe_int (fun _ _ => rfl)) (pa_cons (pv 2) pa_nil)))) pa_nil)))))) pss_nil) (pss_cons (ps_if (pt_cmpR op_eq (pv 3) pe_str (nomark _)) (pss_one (ps_ret (pe_own Ofi hr (pa_cons (pv 0) (pa_cons (pe_ix ix_seq (pv 5) pe_int (fun _ _ => rfl)) (pa_cons (pe_revS (pv 2)) pa_nil)))))) pss_nil) (pss_cons (ps_if (pt_cmpR op_eq (pv 3) pe_str (nomark _)) (pss_cons (ps_asg (pv 4) (pg_sq rfl (pgs_cons (pg_name (i := 6) scFinds.nd rfl (Or.inl rfl)) (pgs_cons (pg_name (i := 7) scFinds.nd rfl (Or.inl rfl)) pgs_nil)))) (pss_cons (ps_set (i := 8) scFinds.nd rfl (Or.inl rfl) (pe_slice sl_str (pv 2) (po_some (pv 6)) (po_some (pe_op op_sub (pe_callB call_len (by rfl) B.len PySem.boot_len (pa_cons (pv 2) pa_nil)) (pv 7))))) (pss_one (ps_ret (pe_and (pe_cmpR op_ge (pe_callB call_len (by rfl) B.len PySem.boot_len (pa_cons (pv 2) pa_nil)) (pe_op op_add (pv 6) (pv 7)) (nomark _)) (pe_one (pe_own Ofi hr (pa_cons (pv 0) (pa_cons (pe_ix ix_seq (pv 5) pe_int (fun _ _ => rfl)) (pa_cons (pv 8) pa_nil)))))))))) pss_nil) (pss_cons (ps_setLc (i := 9) (own := [("rule", 10)]) (g := gName 10) (tt := tYes) rfl scFinds.nd rfl rfl (sw_true rfl rfl rfl (by decide +kernel)) (pi_sq (pv 5)) (blkOk_by (N := nFinds) (sc := defScope sFinds) (by decide +kernel)) (fun _ _ _ _ _ => (pg_name (i := 10) scFinds.nd rfl (Or.inl rfl))) (fun _ _ _ _ _ => pts_nil) (fun _ _ _ _ _ => (pe_own Ofi hr (pa_cons (pv 0) (pa_cons (pv 10) (pa_cons (pv 2) pa_nil)))))) (pss_cons (ps_if (pt_cmpR op_eq (pv 3) pe_str (nomark _)) (pss_one (ps_ret (pe_not (pe_ix ix_list (pv 9) pe_int (fun _ _ => rfl))))) pss_nil) (pss_one (ps_ret (pe_ifExp (pt_cmpR op_eq (pv 3) pe_str (nomark _)) (pe_callB (cr_any rfl) (by rfl) B.any (by decide +kernel) (pa_cons (pv 9) pa_nil)) (pe_callB (cr_all rfl) (by rfl) B.all (by decide +kernel) (pa_cons (pv 9) pa_nil))))))))))))))), ?_⟩
    try dsimp only [cxOf, Cx.nox, Cx.wish]
    have hlx := len_tl x
    have hx60 := hp.le
    have kd := r.ow.kind_lt
    obtain ⟨xs, is, hS, hO, hI⟩ := hR.open
    have lx := hO.len
    have li := hI.len
    walk_at "go"
    refine r_ixSq hS at0 ?_
    walk_at "go"
    refine ⟨v, r.ow.kind, xs, is, rfl, kd, hS, lx, fun v' H1 s1 hv' => ?_⟩
    walk_at "go"
    refine ⟨v, r.ow.kind, xs, is, rfl, kd, hS.same s1, lx, fun p H2 hp2 s2 hi => ?_⟩
    generalize V.ref p = pv at hi ⊢
    have s12 := s1.trans s2
    have hO2 := hO.keep (Same.keeps s12)
    have hI2 := hI.keep (Same.keeps s12)
    have hv2 := hv'.same s2
    have fa := R.fit_ow hf
    walk_at "go"
    have one_in : ∀ {o : Ow} {a : R}, r = .n1 o a → ∃ i, is = [i] ∧ RAt K H2 i a := fun {o a} e => by
      subst e
      match is, hI2 with
      | [i], h => exact ⟨i, rfl, h.1⟩
      | [], h => exact h.elim
      | _ :: _ :: _, h => exact h.2.elim
    have noar : ∀ {j m : Nat}, r.ow.kind = j → ar j = m → r.inner.length = m := fun e1 e2 => by rw [fa.2, e1, e2]
    refine r_ite (fun h5 => ?_) (fun h5 => ?_)
    · have e := kind_of (k := 5) (by decide) h5
      have l0 : r.inner.length = 0 := noar e rfl
      cases r with
      | n1 o a => simp [R.inner] at l0
      | n2 o a b => simp [R.inner] at l0
      | n0 o =>
        cases o <;> first | (exact absurd e (by simp only [R.ow, Ow.kind]; decide)) | skip
        rename_i m ws g
        walk_at "go"
        exact ⟨z, v', xs, m, ws, g, x, rfl, hz, nd, hv2, hO2, fa.1, hp, fun H3 s3 => k _ (s12.trans s3)⟩
    walk_at "go"
    refine r_ite (fun h6 => ?_) (fun h6 => ?_)
    · have e := kind_of (k := 6) (by decide) h6
      have l0 : r.inner.length = 0 := noar e rfl
      cases r with
      | n1 o a => simp [R.inner] at l0
      | n2 o a b => simp [R.inner] at l0
      | n0 o =>
        cases o <;> first | (exact absurd e (by simp only [R.ow, Ow.kind]; decide)) | skip
        rename_i rows gs
        walk_at "go"
        exact ⟨z, v', xs, rows, gs, x, rfl, hz, nd, hv2, hO2, fa.1, hp.all, k _ s12⟩
    walk_at "go"
    refine r_ite (fun h7 => ?_) (fun h7 => ?_)
    · have e := kind_of (k := 7) (by decide) h7
      have l0 : r.inner.length = 1 := noar e rfl
      cases r with
      | n0 o => simp [R.inner] at l0
      | n2 o a b => simp [R.inner] at l0
      | n1 o a =>
        cases o <;> first | (exact absurd e (by simp only [R.ow, Ow.kind]; decide)) | skip
        rename_i fs
        obtain ⟨fv, rfl, hfv⟩ := hO2
        obtain ⟨i, rfl, hA⟩ := one_in rfl
        walk_at "go"
        refine r_ixSq hi at0 ?_
        walk_at "go"
        refine r_ixSq hv2 at0 ?_
        walk_at "go"
        refine ⟨z, fv, fs, x, rfl, hz, nd, hfv, fa.1, hp, fun H3 y s3 ey => ?_⟩
        walk_at "go"
        refine ⟨z, i, a, y, rfl, hz, nd, hA.keep (Same.keeps s3), hf.2.2, by rw [ey]; exact Pp.faced fa.1 hp, Nat.le_of_succ_le_succ hd, fun H4 s4 => ?_⟩
        rw [ey]
        exact k _ (s12.trans (s3.trans s4))
    walk_at "go"
    refine r_ite (fun h1 => ?_) (fun h1 => ?_)
    · have e := kind_of (k := 1) (by decide) h1
      have l0 : r.inner.length = 1 := noar e rfl
      cases r with
      | n0 o => simp [R.inner] at l0
      | n2 o a b => simp [R.inner] at l0
      | n1 o a =>
        cases o <;> first | (exact absurd e (by simp only [R.ow, Ow.kind]; decide)) | skip
        obtain ⟨i, rfl, hA⟩ := one_in rfl
        walk_at "go"
        refine r_ixSq hi at0 ?_
        walk_at "go"
        refine ⟨small_line (by omega), ?_⟩
        walk_at "go"
        exact ⟨z, i, a, revS x, rfl, hz, nd, hA, hf.2.2, hp.rev, Nat.le_of_succ_le_succ hd, fun H4 s4 => k _ (s12.trans s4)⟩
    walk_at "go"
    refine r_ite (fun h8 => ?_) (fun h8 => ?_)
    · have e := kind_of (k := 8) (by decide) h8
      have l0 : r.inner.length = 1 := noar e rfl
      cases r with
      | n0 o => simp [R.inner] at l0
      | n2 o a b => simp [R.inner] at l0
      | n1 o a =>
        cases o <;> first | (exact absurd e (by simp only [R.ow, Ow.kind]; decide)) | skip
        rename_i i1 i2
        obtain ⟨i, rfl, hA⟩ := one_in rfl
        obtain rfl : xs = [vi i1, vi i2] := hO2
        walk_at "go"
        refine r_gSq hv2 rfl ?_
        walk_at "go"
        refine ⟨_, _, rfl, lenS (small_line (by omega)), ?_⟩
        walk_at "go"
        refine ⟨small_line (by omega), ?_⟩
        walk_at "go"
        refine ⟨_, _, rfl, lenS (small_line (by omega)), ?_⟩
        walk_at "go"
        have ek : ev (tl z) (.n1 (.cut i1 i2) a) (tl x) = (decide (i1 + i2 ≤ (tl x).length) && ev (tl z) a (((tl x).drop i1).take ((tl x).length - i2 - i1))) := rfl
        rw [ek] at k
        by_cases hle : i1 + i2 ≤ x.length
        · rw [decide_eq_true (by omega), Bool.true_and] at k
          refine r_yes (by omega) ?_
          walk_at "go"
          refine r_ixSq hi at0 ?_
          walk_at "go"
          have e1 : ((x.length : Int) - (i2 : Int)) = ((x.length - i2 : Nat) : Int) := by omega
          have e2 : tl (cutS x (some (i1 : Int)) (some ((x.length : Int) - (i2 : Int)))) = ((tl x).drop i1).take ((tl x).length - i2 - i1) := by rw [e1, tl_cut_mid, hlx]
          refine ⟨z, i, a, _, rfl, hz, nd, hA, hf.2.2, by rw [e2]; exact hp.cut _ _, Nat.le_of_succ_le_succ hd, fun H4 s4 => ?_⟩
          rw [e2]
          exact k _ (s12.trans s4)
        · rw [decide_eq_false (by omega), Bool.false_and] at k
          refine r_no (by omega) ?_
          exact k _ s12
    walk_at "go"
    have lin := inner_len r
    refine lc_sq hi (fun _ => rfl) (fun acc H' => acc = ((r.inner.map fun i => ev (tl z) i (tl x)).take acc.length).map V.bl ∧ Same H2 H') (fun D hD => ⟨rfl, same_new hD⟩) (fun D acc H' _ _ q => Same.keeps q.2) ?_ _ ?_ (fun J h => h)
    · rintro D i y acc H' hD hx la hacc ⟨ha, sm⟩
      obtain ⟨ri, hri, hRA⟩ := hI2.get hx
      have hmem := List.mem_of_getElem? hri
      walk_at "go"
      refine ⟨z, y, ri, x, rfl, hz, nd, hRA.keep (Same.keeps sm), R.fit_in hf ri hmem, hp, by have := R.in_depth ri hmem; omega, fun H4 s4 => ?_⟩
      exact pp_next (s4 _ _ hacc) la (line60 (by have := (List.getElem?_eq_some_iff.mp hri).1; omega)) ⟨acc_next (f := V.bl) (a := ev (tl z) ri (tl x)) ha la (by rw [List.getElem?_map, hri]; rfl), same_upd (sm.trans s4) hD⟩
    · rintro D acc H' hD la hacc ⟨ha, sm⟩
      rw [la, li, ← List.length_map (f := fun i => ev (tl z) i (tl x)), List.take_length] at ha
      subst ha
      have kk := k _ (s12.trans sm)
      walk_at "go"
      refine r_ite (fun h2 => ?_) (fun h2 => ?_)
      · have e := kind_of (k := 2) (by decide) h2
        have l0 : r.inner.length = 1 := noar e rfl
        cases r with
        | n0 o => simp [R.inner] at l0
        | n2 o a b => simp [R.inner] at l0
        | n1 o a =>
          cases o <;> first | (exact absurd e (by simp only [R.ow, Ow.kind]; decide)) | skip
          walk_at "go"
          refine r_ixL (SqL.of hacc) (atI_nat (j := 0) rfl) ?_
          walk_at "go"
          exact kk
      walk_at "go"
      refine r_ite (fun h4 => ?_) (fun h4 => ?_)
      · have e := kind_of (k := 4) (by decide) h4
        have l0 : r.inner.length = 2 := noar e rfl
        cases r with
        | n0 o => simp [R.inner] at l0
        | n1 o a => simp [R.inner] at l0
        | n2 o a b =>
          cases o <;> first | (exact absurd e (by simp only [R.ow, Ow.kind]; decide)) | skip
          walk_at "go"
          refine ⟨D, [ev (tl z) a (tl x), ev (tl z) b (tl x)], rfl, SqL.of hacc, ?_⟩
          have e3 : [ev (tl z) a (tl x), ev (tl z) b (tl x)].any id = ev (tl z) (.n2 .either a b) (tl x) := by
            show (ev (tl z) a (tl x) || (ev (tl z) b (tl x) || false)) = (ev (tl z) a (tl x) || ev (tl z) b (tl x))
            rw [Bool.or_false]
          rw [e3]
          exact kk
      walk_at "go"
      refine r_all (SqL.of hacc) ?_
      have e3 : (r.inner.map fun i => ev (tl z) i (tl x)).all id = ev (tl z) r (tl x) := by
        cases r with
        | n0 o =>
          cases o with
          | any => rfl
          | sum m ws g => exact absurd rfl h5
          | square rows gs => exact absurd rfl h6
          | faces fs => exact absurd hf.2 (show ¬ (1 : Nat) = 0 by decide)
          | cut a b => exact absurd hf.2 (show ¬ (1 : Nat) = 0 by decide)
          | back => exact absurd hf.2 (by decide)
          | not => exact absurd hf.2 (by decide)
          | both => exact absurd hf.2 (by decide)
          | either => exact absurd hf.2 (by decide)
        | n1 o a =>
          cases o with
          | any => exact absurd hf.2.1 (by decide)
          | sum m ws g => exact absurd rfl h5
          | square rows gs => exact absurd rfl h6
          | faces fs => exact absurd rfl h7
          | cut a b => exact absurd rfl h8
          | back => exact absurd rfl h1
          | not => exact absurd rfl h2
          | both => exact absurd hf.2.1 (by decide)
          | either => exact absurd hf.2.1 (by decide)
        | n2 o a b =>
          cases o with
          | any => exact absurd hf.2.1 (by decide)
          | sum m ws g => exact absurd rfl h5
          | square rows gs => exact absurd rfl h6
          | faces fs => exact absurd rfl h7
          | cut a b => exact absurd rfl h8
          | back => exact absurd rfl h1
          | not => exact absurd rfl h2
          | both =>
            show (ev (tl z) a (tl x) && (ev (tl z) b (tl x) && true)) = (ev (tl z) a (tl x) && ev (tl z) b (tl x))
            rw [Bool.and_true]
          | either => exact absurd rfl h4
      rw [e3]
      exact kk
theorem fi_all {f : Addr} {fd : FuncData} (F : Fun K "finds_right" "finds_right" sFinds f fd) (B : Bl mg) (Oin : OInner P w K mg base) (Oov : OOwnV P w K mg base) (Ohs : OHasSum P w K mg base) (Oeg : OEnds P w K mg base) (Ofc : OFaced P w K mg base)
    (m : mg "finds_right" = some (.ref f)) (b : Binds K fd ["signs", "part", "paper"] []) : ∀ n : Nat, OFinds n P w K mg base
  | 0 => ⟨f, fd, none_ok fun vs H Q E h => by obtain ⟨z, v, r, x, _, _, _, _, _, _, hd, _⟩ := h; have := R.depth_pos r; omega, m, F.kp, b⟩
  | n + 1 => ⟨f, fd, ok_finds F B Oin Oov Ohs Oeg Ofc (fi_all F B Oin Oov Ohs Oeg Ofc m b n), m, F.kp, b⟩
/-- what is_right is told -/
def spRight (K : PySem.W.Frag) (CS CR CP : Addr) : Sp := fun vs H Q E => ∃ x v y : V, vs = [x, v, y] ∧
  ((Bads K H x ∧ Err CS "signs" x H E) ∨ (∃ z : Str, x = .str z ∧ z.length ≤ 12 ∧ (tl z).Nodup ∧ signsB z = true ∧ ((BadR K H v ∧ Err CR "rule" v H E) ∨
    (∃ (r : R) (t : Bool), Dp K H v (r.data t) ∧ r.fit (tl z) ∧ r.ok ∧ r.parts ≤ 40 ∧ (((∀ H', Same H H' → BadP K H' z y) ∧ Err CP "paper" y H E) ∨
      (∃ p : Str, y = .str p ∧ Pp (tl z) (tl p) ∧ ∀ H', Same H H' → Q (.bl (ev (tl z) r (tl p))) H'))))))
abbrev OCheck (CS CR : Addr) (P : Program) (w : World) (K : PySem.W.Frag) (mg : Str → Option Value) (base : Heap) : Prop := OwnX P w K mg base "check_rule" 50 ["signs", "rule"] (spCheck K CS CR)
theorem pp_text {z p : Str} (h : Pp (tl z) (tl p)) : textB 0 60 z p = true := by
  have := h.le
  have l := len_tl p
  unfold textB
  rw [decide_eq_true (by omega), decide_eq_true (by omega), Bool.true_and, Bool.true_and]
  exact List.all_eq_true.mpr fun c hc => decide_eq_true (h.all c hc)
theorem ok_isRight {f CS CR CP : Addr} {fd : FuncData} (F : Fun K "is_right" "is_right" sIsRight f fd) (Ocr : OCheck CS CR P w K mg base) (Orp : OReqP CP P w K mg base) (Ofi : OFinds 40 P w K mg base) : FnOk P w K mg base (L2N.CX P w) 51 f fd ["signs", "rule", "paper"] (spRight K CS CR CP) := by
  refine okXN F scIsRight (fun vs H Q E h => ?_) (fun cdv A outer s H vs Q E hr h => ?_)
  · obtain ⟨x, v, y, rfl, _⟩ := h
    rfl
  · obtain ⟨x, v, y, rfl, h⟩ := h
    refine ⟨_, (pss_cons (ps_set (i := 3) scIsRight.nd rfl (Or.inl rfl) (pe_ownX Ocr (hr.mono (by omega)) (L2N.passes_call (E := E) (L2N.takes_of rfl rfl rfl rfl) (fun _ _ _ _ h => h)) (pa_cons (pv 0) (pa_cons (pv 1) pa_nil)))) (pss_cons (ps_expr (pe_ownX Orp (hr.mono (by omega)) (L2N.passes_call (E := E) (L2N.takes_of rfl rfl rfl rfl) (fun _ _ _ _ h => h)) (pa_cons (pv 0) (pa_cons (pv 2) pa_nil)))) (pss_one (ps_ret (pe_own Ofi (hr.mono (by omega)) (pa_cons (pv 0) (pa_cons (pv 3) (pa_cons (pv 2) pa_nil)))))))), ?_⟩
    try dsimp only [cxOf, Cx.nox, Cx.wish]
    walk_at "go"
    refine ⟨x, v, rfl, ?_⟩
    rcases h with ⟨hb, er⟩ | ⟨z, rfl, hz, nd, hs, h⟩
    · exact .inl ⟨hb, er⟩
    · refine .inr ⟨z, rfl, hz, hs, ?_⟩
      rcases h with ⟨hb, er⟩ | ⟨r, t, hv, hf, hok, hp, h⟩
      · exact .inl ⟨hb, er⟩
      · refine .inr ⟨r, t, hv, hf, hok, hp, fun H1 v1 s1 d1 => ?_⟩
        walk_at "go"
        refine ⟨z, y, rfl, ?_⟩
        rcases h with ⟨hb, er⟩ | ⟨p, rfl, hpp, k⟩
        · exact .inr ⟨hb H1 s1, er.same s1⟩
        · refine .inl ⟨p, rfl, by have := hpp.le; have := len_tl p; omega, pp_text hpp, fun H2 s2 => ?_⟩
          walk_at "go"
          have hd := r.depth_le
          exact ⟨z, v1, r, p, rfl, hz, nd, RAt.of (dp_keep (Same.keeps s2) _ _ d1), hf, hpp, by omega, fun H3 s3 => k _ (s1.trans (s2.trans s3))⟩
end
end K4

/-! L11a -/


namespace K4
open PySem L2 K1
abbrev sLJudged : Stmt := top 67
abbrev nLJudged : List Str := ["_law_signs", "_law_rule", "_law_paper", "_law_word", "_law_total", "_law_k", "_law_z", "_law_sign", "_law_faced"]
theorem scLJudged : FnScope nLJudged ["_law_signs", "_law_rule", "_law_paper"] (defScope sLJudged) := ⟨rfl, rfl, rfl, by decide +kernel, rfl, by decide +kernel, by decide +kernel⟩
abbrev sLLed : Stmt := top 68
abbrev nLLed : List Str := ["_law_signs", "_law_rows", "_law_z", "_law_paper", "_law_sign"]
theorem scLLed : FnScope nLLed ["_law_signs", "_law_rows", "_law_z", "_law_paper"] (defScope sLLed) := ⟨rfl, rfl, rfl, by decide +kernel, rfl, by decide +kernel, by decide +kernel⟩
theorem ix_paper {x : Str} (hx : x.length ≤ 1000) {i : Nat} (hi : i < (tl x).length) {Q : VK} {H : Hp} (q : Q (.str (one ((tl x).getD i 0))) H) : rIxS (.str x) (.int (i : Int)) H Q :=
  r_ixS (small_line hx) (atI_nat (getD_at (d := 0) hi)) q
section
variable {P : Program} {w : World} {K : PySem.W.Frag} {mg : Str → Option Value} {base : Heap} {dO dI : Addr}
def spLed (K : PySem.W.Frag) : Sp := fun vs H Q _ => ∃ (z : Str) (v : V) (rvs : List V) (rows : List (List Nat)) (gs : List Nat) (x : Str) (a : Nat), vs = [.str z, v, vi a, .str x] ∧ z.length ≤ 12 ∧ (tl z).Nodup ∧ Sq K H v rvs ∧ RowsAt K H rvs rows ∧ Ow.fit (tl z) (.square rows gs) ∧ a < rows.length ∧
  (∀ c ∈ tl x, c ∈ tl z) ∧ Q (vi (runs (tl z) rows a (tl x))) H
theorem ok_led {f : Addr} {fd : FuncData} (F : Fun K "_law_led" "_law_led" sLLed f fd) (B : Bl mg) : FnOk P w K mg base CX0 1 f fd ["_law_signs", "_law_rows", "_law_z", "_law_paper"] (spLed K) := by
  refine F.ok scLLed (fun vs H Q E h => ?_) (fun cdv A outer s H vs Q E hr h => ?_)
  · obtain ⟨z, v, rvs, rows, gs, x, a, rfl, _⟩ := h
    rfl
  · obtain ⟨z, v, rvs, rows, gs, x, a, rfl, hz, nd, hS, hR, hf, ha, hx, k⟩ := h
    refine ⟨_, (pss_cons (ps_for PassesOwn.never rfl (pi_str (pv 3)) (pg_name (i := 4) scLLed.nd rfl (Or.inl rfl)) (pss_one (ps_set (i := 2) scLLed.nd rfl (Or.inl rfl) (pe_ix ix_seq (pe_ix ix_seq (pv 1) (pv 2) (fun _ _ => rfl)) (pe_bm PySem.F.plainAttrs_str PySem.F.slot_str_index PySem.F.type_str_index mt_sindex (pv 0) (pa_cons (pv 4) pa_nil)) (fun _ _ => rfl))))) (pss_one (ps_ret (pv 2)))), ?_⟩
    try dsimp only [cxOf, Cx.nox, Cx.wish]
    walk_at "go"
    refine fr_str (fun i σ H' => ∃ o5 : Option V, σ = [some (.str z), some v, some (vi (runs (tl z) rows a ((tl x).take i))), some (.str x), o5] ∧ H' = H) ⟨none, rfl, rfl⟩ ?_ ?_
    · rintro i c σ _ hi ⟨o5, rfl, rfl⟩
      have hc := hx c (List.mem_of_getElem? hi)
      have hlt := runs_lt (z := tl z) (rows := rows) (fun a c h1 h2 => stp_lt hf h1 h2) (p := (tl x).take i) ha fun y hy => hx y (List.mem_of_mem_take hy)
      obtain ⟨rv, e1, hN⟩ := rows_at hR hlt
      have hrow := hf.2.2.1 _ (getD_mem (d := ([] : List Nat)) hlt)
      walk_at "go"
      refine r_ixSq hS (atI_nat e1) ?_
      walk_at "go"
      refine ⟨tyS, ?_⟩
      walk_at "go"
      obtain ⟨r, er⟩ := idx_occ hc nd
      refine ⟨z, one c, _, r, rfl, rfl, er, ?_⟩
      walk_at "go"
      refine nums_get hN (by rw [hrow.1]; exact idx_lt hc) ?_
      walk_at "go"
      refine ⟨some (.str ⟨#[c]⟩), ?_, rfl⟩
      have e2 : runs (tl z) rows a ((tl x).take (i + 1)) = stp (tl z) rows (runs (tl z) rows a ((tl x).take i)) c := by
        rw [List.take_succ, hi, ← runs_snoc]; rfl
      rw [e2]
      rfl
    · rintro σ _ ⟨o5, rfl, rfl⟩
      walk_at "go"
      rw [List.take_length]
      exact k
abbrev OJudged (n : Nat) (P : Program) (w : World) (K : PySem.W.Frag) (mg : Str → Option Value) (base : Heap) : Prop := Own P w K mg base "_law_judged" (n + 1) ["_law_signs", "_law_rule", "_law_paper"] (spFinds K n)
theorem ok_judged {n : Nat} {f : Addr} {fd : FuncData} (F : Fun K "_law_judged" "_law_judged" sLJudged f fd) (B : Bl mg) (Olj : OJudged n P w K mg base) :
    FnOk P w K mg base CX0 (n + 1 + 1) f fd ["_law_signs", "_law_rule", "_law_paper"] (spFinds K (n + 1)) := by
  refine F.ok scLJudged (fun vs H Q E h => ?_) (fun cdv A outer s H vs Q E hr h => ?_)
  · obtain ⟨z, v, r, x, rfl, _⟩ := h
    rfl
  · obtain ⟨z, v, r, x, rfl, hz, nd, hR, hf, hp, hd, k⟩ := h
    refine ⟨_, (pss_cons (ps_set (i := 3) scLJudged.nd rfl (Or.inl rfl) (pe_ix ix_seq (pv 1) pe_int (fun _ _ => rfl))) (pss_cons (ps_if (pt_cmpR op_eq (pv 3) pe_str (nomark _)) (pss_cons (ps_set (i := 4) scLJudged.nd rfl (Or.inl rfl) pe_int) (pss_cons (ps_for PassesOwn.never rfl (pi_range1 rfl B.range (pa_cons (pe_callB call_len (by rfl) B.len PySem.boot_len (pa_cons (pv 2) pa_nil)) pa_nil)) (pg_name (i := 5) scLJudged.nd rfl (Or.inl rfl)) (pss_one (ps_set (i := 4) scLJudged.nd rfl (Or.inl rfl) (pe_op op_add (pv 4) (pe_op op_mul (pe_ix ix_seq (pe_ix ix_seq (pv 1) pe_int (fun _ _ => rfl)) (pe_op op_modN (pe_callTy call_int1 (by rfl) B.int (by decide +kernel) (pa_cons (pv 5) pa_nil)) (pe_callB call_len (by rfl) B.len PySem.boot_len (pa_cons (pe_ix ix_seq (pv 1) pe_int (fun _ _ => rfl)) pa_nil))) (fun _ _ => rfl)) (pe_bm PySem.F.plainAttrs_str PySem.F.slot_str_index PySem.F.type_str_index mt_sindex (pv 0) (pa_cons (pe_ix ix_str (pv 2) (pv 5) (fun _ _ => rfl)) pa_nil))))))) (pss_one (ps_ret (pe_cmpR op_eq (pe_op op_modN (pe_callTy call_int1 (by rfl) B.int (by decide +kernel) (pa_cons (pv 4) pa_nil)) (pe_ix ix_seq (pv 1) pe_int (fun _ _ => rfl))) (pe_ix ix_seq (pv 1) pe_int (fun _ _ => rfl)) (nomark _)))))) pss_nil) (pss_cons (ps_if (pt_cmpR op_eq (pv 3) pe_str (nomark _)) (pss_cons (ps_set (i := 6) scLJudged.nd rfl (Or.inl rfl) pe_int) (pss_cons (ps_for PassesOwn.never rfl (pi_str (pv 2)) (pg_name (i := 7) scLJudged.nd rfl (Or.inl rfl)) (pss_one (ps_set (i := 6) scLJudged.nd rfl (Or.inl rfl) (pe_ix ix_seq (pe_ix ix_seq (pe_ix ix_seq (pv 1) pe_int (fun _ _ => rfl)) (pv 6) (fun _ _ => rfl)) (pe_bm PySem.F.plainAttrs_str PySem.F.slot_str_index PySem.F.type_str_index mt_sindex (pv 0) (pa_cons (pv 7) pa_nil)) (fun _ _ => rfl))))) (pss_one (ps_ret (pe_cmpR op_in_seq (pv 6) (pe_ix ix_seq (pv 1) pe_int (fun _ _ => rfl)) (by rfl)))))) pss_nil) (pss_cons (ps_if (pt_cmpR op_eq (pv 3) pe_str (nomark _)) (pss_cons (ps_set (i := 8) scLJudged.nd rfl (Or.inl rfl) pe_str) (pss_cons (ps_for PassesOwn.never rfl (pi_range1 rfl B.range (pa_cons (pe_callB call_len (by rfl) B.len PySem.boot_len (pa_cons (pv 2) pa_nil)) pa_nil)) (pg_name (i := 5) scLJudged.nd rfl (Or.inl rfl)) (pss_one (ps_set (i := 8) scLJudged.nd rfl (Or.inl rfl) (pe_op op_add_str (pv 8) (pe_ix ix_str (pe_ix ix_seq (pe_ix ix_seq (pv 1) pe_int (fun _ _ => rfl)) (pe_op op_modN (pe_callTy call_int1 (by rfl) B.int (by decide +kernel) (pa_cons (pv 5) pa_nil)) (pe_callB call_len (by rfl) B.len PySem.boot_len (pa_cons (pe_ix ix_seq (pv 1) pe_int (fun _ _ => rfl)) pa_nil))) (fun _ _ => rfl)) (pe_bm PySem.F.plainAttrs_str PySem.F.slot_str_index PySem.F.type_str_index mt_sindex (pv 0) (pa_cons (pe_ix ix_str (pv 2) (pv 5) (fun _ _ => rfl)) pa_nil)) (fun _ _ => rfl)))))) (pss_one (ps_ret (pe_own Olj hr (pa_cons (pv 0) (pa_cons (pe_ix ix_seq (pv 1) pe_int (fun _ _ => rfl)) (pa_cons (pv 8) pa_nil)))))))) pss_nil) (pss_cons (ps_if (pt_cmpR op_eq (pv 3) pe_str (nomark _)) (pss_one (ps_ret (pe_own Olj hr (pa_cons (pv 0) (pa_cons (pe_ix ix_seq (pv 1) pe_int (fun _ _ => rfl)) (pa_cons (pe_revS (pv 2)) pa_nil)))))) pss_nil) (pss_cons (ps_if (pt_cmpR op_eq (pv 3) pe_str (nomark _)) (pss_cons (ps_if (pt_cmpR op_lt (pe_callB call_len (by rfl) B.len PySem.boot_len (pa_cons (pv 2) pa_nil)) (pe_op op_add (pe_ix ix_seq (pv 1) pe_int (fun _ _ => rfl)) (pe_ix ix_seq (pv 1) pe_int (fun _ _ => rfl))) (nomark _)) (pss_one (ps_ret pe_bl)) pss_nil) (pss_one (ps_ret (pe_own Olj hr (pa_cons (pv 0) (pa_cons (pe_ix ix_seq (pv 1) pe_int (fun _ _ => rfl)) (pa_cons (pe_slice sl_str (pv 2) (po_some (pe_ix ix_seq (pv 1) pe_int (fun _ _ => rfl))) (po_some (pe_op op_sub (pe_callB call_len (by rfl) B.len PySem.boot_len (pa_cons (pv 2) pa_nil)) (pe_ix ix_seq (pv 1) pe_int (fun _ _ => rfl))))) pa_nil))))))) pss_nil) (pss_cons (ps_if (pt_cmpR op_eq (pv 3) pe_str (nomark _)) (pss_one (ps_ret (pe_and (pe_own Olj hr (pa_cons (pv 0) (pa_cons (pe_ix ix_seq (pv 1) pe_int (fun _ _ => rfl)) (pa_cons (pv 2) pa_nil)))) (pe_one (pe_own Olj hr (pa_cons (pv 0) (pa_cons (pe_ix ix_seq (pv 1) pe_int (fun _ _ => rfl)) (pa_cons (pv 2) pa_nil)))))))) pss_nil) (pss_cons (ps_if (pt_cmpR op_eq (pv 3) pe_str (nomark _)) (pss_one (ps_ret (pe_or (pe_own Olj hr (pa_cons (pv 0) (pa_cons (pe_ix ix_seq (pv 1) pe_int (fun _ _ => rfl)) (pa_cons (pv 2) pa_nil)))) (pe_one (pe_own Olj hr (pa_cons (pv 0) (pa_cons (pe_ix ix_seq (pv 1) pe_int (fun _ _ => rfl)) (pa_cons (pv 2) pa_nil)))))))) pss_nil) (pss_cons (ps_if (pt_cmpR op_eq (pv 3) pe_str (nomark _)) (pss_one (ps_ret (pe_not (pe_own Olj hr (pa_cons (pv 0) (pa_cons (pe_ix ix_seq (pv 1) pe_int (fun _ _ => rfl)) (pa_cons (pv 2) pa_nil))))))) pss_nil) (pss_one (ps_ret pe_bl))))))))))), ?_⟩
    try dsimp only [cxOf, Cx.nox, Cx.wish]
    have hlx := len_tl x
    have hzl := len_tl z
    have hx60 := hp.le
    have kd := r.ow.kind_lt
    obtain ⟨xs, is, hS, hO, hI⟩ := hR.open
    have lx := hO.len
    have li := hI.len
    have fa := R.fit_ow hf
    have noar : ∀ {j m : Nat}, r.ow.kind = j → ar j = m → r.inner.length = m := fun e1 e2 => by rw [fa.2, e1, e2]
    have one_in : ∀ {o : Ow} {a : R}, r = .n1 o a → ∃ i, is = [i] ∧ RAt K H i a := fun {o a} e => by
      subst e
      match is, hI with
      | [i], h => exact ⟨i, rfl, h.1⟩
      | [], h => exact h.elim
      | _ :: _ :: _, h => exact h.2.elim
    have two_in : ∀ {o : Ow} {a b : R}, r = .n2 o a b → ∃ i j, is = [i, j] ∧ RAt K H i a ∧ RAt K H j b := fun {o a b} e => by
      subst e
      match is, hI with
      | [i, j], h => exact ⟨i, j, rfl, h.1, h.2.1⟩
      | [], h => exact h.elim
      | [_], h => exact h.2.elim
      | _ :: _ :: _ :: _, h => exact h.2.2.elim
    have sg : ∀ c, c ∈ tl x → ∃ r', Builtin.Str.occurrences z (one c) 0 z.length 1 = (tl z).idxOf c :: r' := fun c hc => idx_occ (hp.all c hc) nd
    walk_at "go"
    refine r_ixSq hS at0 ?_
    walk_at "go"
    refine r_ite (fun h5 => ?_) (fun h5 => ?_)
    · have e := kind_of (k := 5) (by decide) h5
      have l0 : r.inner.length = 0 := noar e rfl
      cases r with
      | n1 o a => simp [R.inner] at l0
      | n2 o a b => simp [R.inner] at l0
      | n0 o =>
        cases o <;> first | (exact absurd e (by simp only [R.ow, Ow.kind]; decide)) | skip
        rename_i m ws g
        obtain ⟨wv, rfl, hw⟩ := hO
        obtain ⟨m2, m60, wne, w8, wlt, glt⟩ := fa.1
        have wpos := List.length_pos_iff.mpr wne
        have hwl := hw.len
        rw [List.length_map] at hwl
        walk_at "go"
        refine ⟨_, _, rfl, lenS (small_line (by omega)), ?_⟩
        walk_at "go"
        refine ⟨by omega, by omega, fr_range (lo := 0) (n := x.length) (fun i σ H' => ∃ o5 : Option V, σ = [some (.str z), some v, some (.str x), some (.str (wd 5)), some (vi (tot (tl z) ws (tl x) i)), o5, none, none, none] ∧ H' = H) ⟨none, rfl, rfl⟩ ?_ ?_⟩
        · rintro i σ _ hi ⟨o5, rfl, rfl⟩
          walk_at "go"
          rw [Int.zero_add]
          refine r_ixSq hS (atI_nat (j := 2) rfl) ?_
          walk_at "go"
          refine r_ixSq hS (atI_nat (j := 2) rfl) ?_
          walk_at "go"
          refine ⟨wv, _, rfl, hwl, ?_⟩
          refine r_mod wpos ?_
          refine nums_get hw (mod_lt wne i) ?_
          walk_at "go"
          refine ⟨tyS, ?_⟩
          walk_at "go"
          refine ix_paper (by omega) (by omega) ?_
          walk_at "go"
          have hmem := getD_mem (xs := tl x) (i := i) (d := 0) (by omega)
          obtain ⟨r', er⟩ := sg _ hmem
          refine ⟨z, one _, _, r', rfl, rfl, er, ?_⟩
          have hwlt := wlt _ (getD_mem (d := 0) (mod_lt wne i))
          refine r_mul (by omega) ?_
          walk_at "go"
          refine ⟨some (.int (i : Nat)), ?_, rfl⟩
          rw [tot_succ, ← Int.natCast_add]
          rfl
        · rintro σ _ ⟨o5, rfl, rfl⟩
          walk_at "go"
          refine r_ixSq hS (atI_nat (j := 1) rfl) ?_
          refine r_mod (by omega) ?_
          walk_at "go"
          refine r_ixSq hS (atI_nat (j := 3) rfl) ?_
          walk_at "go"
          have e2 : decide (vi (tot (tl z) ws (tl x) x.length % m) = vi g) = decide (tot (tl z) ws (tl x) (tl x).length % m = g) := by
            rw [decide_eq_decide, hlx]
            exact ⟨fun q => by have := V.int.inj q; omega, fun q => by rw [q]⟩
          have := k _ (Same.refl _)
          rw [show ev (tl z) (.n0 (.sum m ws g)) (tl x) = decide (tot (tl z) ws (tl x) (tl x).length % m = g) from rfl, ← e2] at this
          exact this
    walk_at "go"
    refine r_ite (fun h6 => ?_) (fun h6 => ?_)
    · have e := kind_of (k := 6) (by decide) h6
      have l0 : r.inner.length = 0 := noar e rfl
      cases r with
      | n1 o a => simp [R.inner] at l0
      | n2 o a b => simp [R.inner] at l0
      | n0 o =>
        cases o <;> first | (exact absurd e (by simp only [R.ow, Ow.kind]; decide)) | skip
        rename_i rows gs
        obtain ⟨rv, gv, rvs, rfl, h1, h2, h3⟩ := hO
        have hfs : Ow.fit (tl z) (.square rows gs) := fa.1
        walk_at "go"
        refine fr_str (fun i σ H' => ∃ o7 : Option V, σ = [some (.str z), some v, some (.str x), some (.str (wd 6)), none, none, some (vi (runs (tl z) rows 0 ((tl x).take i))), o7, none] ∧ H' = H) ⟨none, rfl, rfl⟩ ?_ ?_
        · rintro i c σ _ hi ⟨o5, rfl, rfl⟩
          have hc := hp.all c (List.mem_of_getElem? hi)
          have hlt := runs_lt (z := tl z) (rows := rows) (fun a c h1 h2 => stp_lt hfs h1 h2) (p := (tl x).take i) (List.length_pos_iff.mpr hfs.1) fun y hy => hp.all y (List.mem_of_mem_take hy)
          obtain ⟨rv', e1, hN⟩ := rows_at h2 hlt
          have hrow := hfs.2.2.1 _ (getD_mem (d := ([] : List Nat)) hlt)
          walk_at "go"
          refine r_ixSq hS (atI_nat (j := 1) rfl) ?_
          walk_at "go"
          refine r_ixSq h1 (atI_nat e1) ?_
          walk_at "go"
          refine ⟨tyS, ?_⟩
          walk_at "go"
          obtain ⟨r', er⟩ := idx_occ hc nd
          refine ⟨z, one c, _, r', rfl, rfl, er, ?_⟩
          walk_at "go"
          refine nums_get hN (by rw [hrow.1]; exact idx_lt hc) ?_
          walk_at "go"
          refine ⟨some (.str ⟨#[c]⟩), ?_, rfl⟩
          have e2 : runs (tl z) rows 0 ((tl x).take (i + 1)) = stp (tl z) rows (runs (tl z) rows 0 ((tl x).take i)) c := by
            rw [List.take_succ, hi, ← runs_snoc]; rfl
          rw [e2]
          rfl
        · rintro σ _ ⟨o5, rfl, rfl⟩
          walk_at "go"
          refine r_ixSq hS (atI_nat (j := 2) rfl) ?_
          obtain ⟨ga, ea, hg⟩ := h3
          refine ⟨ga, gs.map vi, ea, hg, rfl, ?_, ?_⟩
          · rw [List.all_eq_true]
            intro y hy
            obtain ⟨n, _, rfl⟩ := List.mem_map.mp hy
            rfl
          · show Q (.bl (inV _ _)) _
            rw [inV_nums, List.take_length]
            exact k _ (Same.refl _)
    walk_at "go"
    refine r_ite (fun h7 => ?_) (fun h7 => ?_)
    · have e := kind_of (k := 7) (by decide) h7
      have l0 : r.inner.length = 1 := noar e rfl
      cases r with
      | n0 o => simp [R.inner] at l0
      | n2 o a b => simp [R.inner] at l0
      | n1 o a =>
        cases o <;> first | (exact absurd e (by simp only [R.ow, Ow.kind]; decide)) | skip
        rename_i fs
        obtain ⟨fv, rfl, hfv⟩ := hO
        obtain ⟨i, rfl, hA⟩ := one_in rfl
        have hff : Ow.fit (tl z) (.faces fs) := fa.1
        have fpos := List.length_pos_iff.mpr hff.1
        have hfl := hfv.len
        rw [List.length_map] at hfl
        walk_at "go"
        refine ⟨_, _, rfl, lenS (small_line (by omega)), ?_⟩
        walk_at "go"
        refine ⟨by omega, by omega, fr_range (lo := 0) (n := x.length) (fun j σ H' => ∃ (o5 : Option V) (y : Str), σ = [some (.str z), some v, some (.str x), some (.str (wd 7)), none, o5, none, none, some (.str y)] ∧ tl y = (faced (tl z) fs (tl x)).take j ∧ H' = H) ⟨none, _, rfl, rfl, rfl⟩ ?_ ?_⟩
        · rintro j σ _ hj ⟨o5, y, rfl, hy, rfl⟩
          walk_at "go"
          rw [Int.zero_add]
          refine r_ixSq hS (atI_nat (j := 1) rfl) ?_
          walk_at "go"
          refine r_ixSq hS (atI_nat (j := 1) rfl) ?_
          walk_at "go"
          refine ⟨fv, _, rfl, hfl, ?_⟩
          refine r_mod fpos ?_
          refine strs_get hfv (mod_lt hff.1 j) ?_
          walk_at "go"
          refine ⟨tyS, ?_⟩
          walk_at "go"
          refine ix_paper (by omega) (by omega) ?_
          walk_at "go"
          have hmem := getD_mem (xs := tl x) (i := j) (d := 0) (by omega)
          obtain ⟨r', er⟩ := sg _ hmem
          refine ⟨z, one _, _, r', rfl, rfl, er, ?_⟩
          have hfm := hff.2.2 (fs.getD (j % fs.length) "") (getD_mem (mod_lt hff.1 j))
          have hil := idx_lt (hp.all _ hmem)
          have hgl := len_tl (fs.getD (j % fs.length) "")
          have hyl := len_tl y
          have hyl2 : (tl y).length ≤ 60 := by rw [hy, List.length_take, faced_len]; omega
          refine r_ixS (small_line (by omega)) (atI_nat (show (tl (fs.getD (j % fs.length) ""))[(tl z).idxOf ((tl x).getD j 0)]? = some (fch (tl z) fs (tl x) j) from getD_at (by rw [hfm.1]; exact hil))) ?_
          refine ⟨y, _, rfl, rfl, small_line (by show y.length + 1 ≤ 1000; omega), ?_⟩
          walk_at "go"
          refine ⟨some (.int (j : Nat)), y ++ one (fch (tl z) fs (tl x) j), rfl, ?_, rfl⟩
          have e3 : (faced (tl z) fs (tl x))[j]? = some (fch (tl z) fs (tl x) j) := by
            rw [faced, List.getElem?_map, List.getElem?_range (by omega)]; rfl
          rw [List.take_succ, e3, ← hy]
          exact K1.app_cps y _
        · rintro σ _ ⟨o5, y, rfl, hy, rfl⟩
          rw [List.take_of_length_le (by rw [faced_len]; omega)] at hy
          walk_at "go"
          refine r_ixSq hS (atI_nat (j := 2) rfl) ?_
          walk_at "go"
          refine ⟨z, i, a, y, rfl, hz, nd, hA, hf.2.2, by rw [hy]; exact Pp.faced hff hp, Nat.le_of_succ_le_succ hd, fun H4 s4 => ?_⟩
          rw [hy]
          exact k _ s4
    walk_at "go"
    refine r_ite (fun h1 => ?_) (fun h1 => ?_)
    · have e := kind_of (k := 1) (by decide) h1
      have l0 : r.inner.length = 1 := noar e rfl
      cases r with
      | n0 o => simp [R.inner] at l0
      | n2 o a b => simp [R.inner] at l0
      | n1 o a =>
        cases o <;> first | (exact absurd e (by simp only [R.ow, Ow.kind]; decide)) | skip
        obtain ⟨i, rfl, hA⟩ := one_in rfl
        obtain rfl : xs = [] := hO
        walk_at "go"
        refine r_ixSq hS (atI_nat (j := 1) rfl) ?_
        walk_at "go"
        refine ⟨small_line (by omega), ?_⟩
        walk_at "go"
        exact ⟨z, i, a, revS x, rfl, hz, nd, hA, hf.2.2, hp.rev, Nat.le_of_succ_le_succ hd, fun H4 s4 => k _ s4⟩
    walk_at "go"
    refine r_ite (fun h8 => ?_) (fun h8 => ?_)
    · have e := kind_of (k := 8) (by decide) h8
      have l0 : r.inner.length = 1 := noar e rfl
      cases r with
      | n0 o => simp [R.inner] at l0
      | n2 o a b => simp [R.inner] at l0
      | n1 o a =>
        cases o <;> first | (exact absurd e (by simp only [R.ow, Ow.kind]; decide)) | skip
        rename_i i1 i2
        obtain ⟨i, rfl, hA⟩ := one_in rfl
        obtain rfl : xs = [vi i1, vi i2] := hO
        have ek : ev (tl z) (.n1 (.cut i1 i2) a) (tl x) = (decide (i1 + i2 ≤ (tl x).length) && ev (tl z) a (((tl x).drop i1).take ((tl x).length - i2 - i1))) := rfl
        rw [ek] at k
        walk_at "go"
        refine ⟨_, _, rfl, lenS (small_line (by omega)), ?_⟩
        walk_at "go"
        refine r_ixSq hS (atI_nat (j := 1) rfl) ?_
        walk_at "go"
        refine r_ixSq hS (atI_nat (j := 2) rfl) ?_
        walk_at "go"
        by_cases hle : i1 + i2 ≤ x.length
        · rw [decide_eq_true (by omega), Bool.true_and] at k
          refine r_no (by omega) ?_
          walk_at "go"
          refine r_ixSq hS (atI_nat (j := 3) rfl) ?_
          walk_at "go"
          refine r_ixSq hS (atI_nat (j := 1) rfl) ?_
          walk_at "go"
          refine ⟨_, _, rfl, lenS (small_line (by omega)), ?_⟩
          walk_at "go"
          refine r_ixSq hS (atI_nat (j := 2) rfl) ?_
          walk_at "go"
          refine ⟨small_line (by omega), ?_⟩
          have e1 : ((x.length : Int) - (i2 : Int)) = ((x.length - i2 : Nat) : Int) := by omega
          have e2 : tl (cutS x (some (i1 : Int)) (some ((x.length : Int) - (i2 : Int)))) = ((tl x).drop i1).take ((tl x).length - i2 - i1) := by rw [e1, tl_cut_mid, hlx]
          refine ⟨z, i, a, _, rfl, hz, nd, hA, hf.2.2, by rw [e2]; exact hp.cut _ _, Nat.le_of_succ_le_succ hd, fun H4 s4 => ?_⟩
          rw [e2]
          exact k _ s4
        · rw [decide_eq_false (by omega), Bool.false_and] at k
          refine r_yes (by omega) ?_
          walk_at "go"
          exact k _ (Same.refl _)
    walk_at "go"
    refine r_ite (fun h3 => ?_) (fun h3 => ?_)
    · have e := kind_of (k := 3) (by decide) h3
      have l0 : r.inner.length = 2 := noar e rfl
      cases r with
      | n0 o => simp [R.inner] at l0
      | n1 o a => simp [R.inner] at l0
      | n2 o a b =>
        cases o <;> first | (exact absurd e (by simp only [R.ow, Ow.kind]; decide)) | skip
        obtain ⟨i, j, rfl, hA, hB⟩ := two_in rfl
        obtain rfl : xs = [] := hO
        have hda : a.depth ≤ n ∧ b.depth ≤ n := by have hd' : max a.depth b.depth + 1 ≤ n + 1 := hd; omega
        have kb : ∀ H', Same H H' → Q (.bl (ev (tl z) a (tl x) && ev (tl z) b (tl x))) H' := k
        walk_at "go"
        refine r_ixSq hS (atI_nat (j := 1) rfl) ?_
        walk_at "go"
        refine ⟨z, i, a, x, rfl, hz, nd, hA, hf.2.2.1, hp, hda.1, fun H4 s4 => ?_⟩
        cases ea : ev (tl z) a (tl x) with
        | false =>
          rw [ea] at kb
          walk_at "go"
          exact kb _ s4
        | true =>
          rw [ea] at kb
          walk_at "go"
          refine r_ixSq (hS.same s4) (atI_nat (j := 2) rfl) ?_
          walk_at "go"
          refine ⟨z, j, b, x, rfl, hz, nd, hB.keep (Same.keeps s4), hf.2.2.2, hp, hda.2, fun H5 s5 => ?_⟩
          have := kb _ (s4.trans s5)
          rw [Bool.true_and] at this
          exact this
    walk_at "go"
    refine r_ite (fun h4 => ?_) (fun h4 => ?_)
    · have e := kind_of (k := 4) (by decide) h4
      have l0 : r.inner.length = 2 := noar e rfl
      cases r with
      | n0 o => simp [R.inner] at l0
      | n1 o a => simp [R.inner] at l0
      | n2 o a b =>
        cases o <;> first | (exact absurd e (by simp only [R.ow, Ow.kind]; decide)) | skip
        obtain ⟨i, j, rfl, hA, hB⟩ := two_in rfl
        obtain rfl : xs = [] := hO
        have hda : a.depth ≤ n ∧ b.depth ≤ n := by have hd' : max a.depth b.depth + 1 ≤ n + 1 := hd; omega
        have kb : ∀ H', Same H H' → Q (.bl (ev (tl z) a (tl x) || ev (tl z) b (tl x))) H' := k
        walk_at "go"
        refine r_ixSq hS (atI_nat (j := 1) rfl) ?_
        walk_at "go"
        refine ⟨z, i, a, x, rfl, hz, nd, hA, hf.2.2.1, hp, hda.1, fun H4 s4 => ?_⟩
        cases ea : ev (tl z) a (tl x) with
        | true =>
          rw [ea] at kb
          walk_at "go"
          exact kb _ s4
        | false =>
          rw [ea] at kb
          walk_at "go"
          refine r_ixSq (hS.same s4) (atI_nat (j := 2) rfl) ?_
          walk_at "go"
          refine ⟨z, j, b, x, rfl, hz, nd, hB.keep (Same.keeps s4), hf.2.2.2, hp, hda.2, fun H5 s5 => ?_⟩
          have := kb _ (s4.trans s5)
          rw [Bool.false_or] at this
          exact this
    walk_at "go"
    refine r_ite (fun h2 => ?_) (fun h2 => ?_)
    · have e := kind_of (k := 2) (by decide) h2
      have l0 : r.inner.length = 1 := noar e rfl
      cases r with
      | n0 o => simp [R.inner] at l0
      | n2 o a b => simp [R.inner] at l0
      | n1 o a =>
        cases o <;> first | (exact absurd e (by simp only [R.ow, Ow.kind]; decide)) | skip
        obtain ⟨i, rfl, hA⟩ := one_in rfl
        obtain rfl : xs = [] := hO
        have kb : ∀ H', Same H H' → Q (.bl (!ev (tl z) a (tl x))) H' := k
        walk_at "go"
        refine r_ixSq hS (atI_nat (j := 1) rfl) ?_
        walk_at "go"
        refine ⟨z, i, a, x, rfl, hz, nd, hA, hf.2.2, hp, Nat.le_of_succ_le_succ hd, fun H4 s4 => ?_⟩
        walk_at "go"
        exact kb _ s4
    walk_at "go"
    have e3 : ev (tl z) r (tl x) = true := by
      cases r with
      | n0 o =>
        cases o with
        | any => rfl
        | sum m ws g => exact absurd rfl h5
        | square rows gs => exact absurd rfl h6
        | faces fs => exact absurd rfl h7
        | cut a b => exact absurd rfl h8
        | back => exact absurd rfl h1
        | not => exact absurd rfl h2
        | both => exact absurd rfl h3
        | either => exact absurd rfl h4
      | n1 o a =>
        cases o with
        | any => exact absurd hf.2.1 (by decide)
        | sum m ws g => exact absurd rfl h5
        | square rows gs => exact absurd rfl h6
        | faces fs => exact absurd rfl h7
        | cut a b => exact absurd rfl h8
        | back => exact absurd rfl h1
        | not => exact absurd rfl h2
        | both => exact absurd rfl h3
        | either => exact absurd rfl h4
      | n2 o a b =>
        cases o with
        | any => exact absurd hf.2.1 (by decide)
        | sum m ws g => exact absurd rfl h5
        | square rows gs => exact absurd rfl h6
        | faces fs => exact absurd rfl h7
        | cut a b => exact absurd rfl h8
        | back => exact absurd rfl h1
        | not => exact absurd rfl h2
        | both => exact absurd rfl h3
        | either => exact absurd rfl h4
    have kk := k H (Same.refl _)
    rw [e3] at kk
    exact kk
theorem lj_all {f : Addr} {fd : FuncData} (F : Fun K "_law_judged" "_law_judged" sLJudged f fd) (B : Bl mg) (m : mg "_law_judged" = some (.ref f)) (b : Binds K fd ["_law_signs", "_law_rule", "_law_paper"] []) : ∀ n : Nat, OJudged n P w K mg base
  | 0 => ⟨f, fd, none_ok fun vs H Q E h => by obtain ⟨z, v, r, x, _, _, _, _, _, _, hd, _⟩ := h; have := R.depth_pos r; omega, m, F.kp, b⟩
  | n + 1 => ⟨f, fd, ok_judged F B (lj_all F B m b n), m, F.kp, b⟩
end
end K4

/-! L11b -/


namespace K4
open PySem L2 K1
abbrev sLListed : Stmt := top 69
abbrev nLListed : List Str := ["_law_thing", "_law_part"]
theorem scLListed : FnScope nLListed ["_law_thing"] (defScope sLListed) := ⟨rfl, rfl, rfl, by decide +kernel, rfl, by decide +kernel, by decide +kernel⟩
def spListed (K : PySem.W.Frag) (n : Nat) : Sp := fun vs H Q _ => ∃ (v : V) (d : PyData), vs = [v] ∧ Dp K H v d ∧ pure d = true ∧ wide d = true ∧ d.depth < n ∧ ∀ H' v', Same H H' → Dp K (New H H') v' (lstd d) → Q v' H'
section
variable {P : Program} {w : World} {K : PySem.W.Frag} {mg : Str → Option Value} {base : Heap}
abbrev OLL (n : Nat) (P : Program) (w : World) (K : PySem.W.Frag) (mg : Str → Option Value) (base : Heap) : Prop := Own P w K mg base "_law_listed" n ["_law_thing"] (spListed K n)
theorem ok_listed {n : Nat} {f : Addr} {fd : FuncData} (F : Fun K "_law_listed" "_law_listed" sLListed f fd) (B : Bl mg) (Oll : OLL n P w K mg base) : FnOk P w K mg base CX0 (n + 1) f fd ["_law_thing"] (spListed K (n + 1)) := by
  refine F.ok scLListed (fun vs H Q E h => ?_) (fun cdv A outer s H vs Q E hr h => ?_)
  · obtain ⟨v, d, rfl, _⟩ := h
    rfl
  · obtain ⟨v, d, rfl, hv, hp, hw, hd, k⟩ := h
    refine ⟨_, (pss_cons (ps_if (PW.pt (pw_or (pt_val (pe_callB (id := "isinstance") (r := rIsi K) call_isi (by rfl) B.isin (by decide +kernel) (pa_cons (pv 0) (pa_cons (pe_bltn (v := .ty "tuple") (by rfl) B.tuple (by decide +kernel) rfl) pa_nil)))) (pw_or1 (pt_val (pe_callB (id := "isinstance") (r := rIsi K) call_isi (by rfl) B.isin (by decide +kernel) (pa_cons (pv 0) (pa_cons (pe_bltn (v := .ty "list") (by rfl) B.list (by decide +kernel) rfl) pa_nil))))))) (pss_one (ps_ret (pe_lc (own := [("_law_part", 1)]) (g := gName 1) (tt := tYes) rfl scLListed.nd (pi_tup (pv 0)) (blkOk_by (N := nLListed) (sc := defScope sLListed) (by decide +kernel)) (fun _ _ _ _ _ => (pg_name (i := 1) scLListed.nd rfl (Or.inl rfl))) (fun _ _ _ _ _ => pts_nil) (fun _ _ _ _ _ => (pe_own Oll hr (pa_cons (pv 1) pa_nil)))))) pss_nil) (pss_one (ps_ret (pv 0)))), ?_⟩
    try dsimp only [cxOf, Cx.nox, Cx.wish]
    walk_at "go"
    cases hv with
    | int i =>
      refine r_isi (b := false) (.ty "tuple") (.base (.int _)) (kit_ty (by decide +kernel)) ?_
      walk_at "go"
      refine r_isi (b := false) (.ty "list") (.base (.int _)) (kit_ty (by decide +kernel)) ?_
      walk_at "go"
      exact k H _ (Same.refl _) (.int i)
    | str x =>
      refine r_isi (b := false) (.ty "tuple") (.base (.str _)) (kit_ty (by decide +kernel)) ?_
      walk_at "go"
      refine r_isi (b := false) (.ty "list") (.base (.str _)) (kit_ty (by decide +kernel)) ?_
      walk_at "go"
      exact k H _ (Same.refl _) (.str x)
    | non =>
      refine r_isi (b := false) (.ty "tuple") (.base .non) (kit_ty (by decide +kernel)) ?_
      walk_at "go"
      refine r_isi (b := false) (.ty "list") (.base .non) (kit_ty (by decide +kernel)) ?_
      walk_at "go"
      exact k H _ (Same.refl _) .non
    | bl => simp [pure] at hp
    | lst => simp [pure] at hp
    | @tup a xs ds hS hA =>
      have hpA : pureA ds = true := by simpa [pure] using hp
      have hwA : ds.length ≤ 1000 ∧ wideA ds = true := by simpa [wide] using hw
      have hdA : PyData.depthAll ds < n := by rw [PyData.depth] at hd; omega
      refine r_isi (b := true) (.ty "tuple") (tyxT hS) (kit_ty (by decide +kernel)) ?_
      walk_at "go"
      refine ⟨⟨_, hS⟩, fun D hD => ?_⟩
      have s1 : Same H (upd H D (.lst [])) := same_new hD
      have e1 : (upd H D (.lst [])) D = some (.lst []) := upd_same
      refine lc_gen (walk_tup (K := K) (a := a) (xs := xs)) (fun _ => rfl) (fun acc H' => DpAll K (New (upd H D (.lst [])) H') acc ((ds.take acc.length).map lstd) ∧ Same H H') ⟨.nil, s1⟩ (fun acc H' _ q => Same.sqT q.2 hS) ?_ ?_
      · rintro i x acc H' hx hl hacc ⟨ha, sm⟩
        obtain ⟨di, hdi, hxd⟩ := dpA_get hA hx
        have hmem := List.mem_of_getElem? hdi
        have hil := (List.getElem?_eq_some_iff.mp hdi).1
        walk_at "go"
        refine ⟨x, di, rfl, dp_keep (Same.keeps sm) _ _ hxd, pureA_iff.mp hpA di hmem, wideA_iff.mp hwA.2 di hmem, Nat.lt_of_le_of_lt (depthA_mem (Nat.le_refl _) di hmem) hdA, fun H2 v2 s2 d2 => ?_⟩
        refine pp_next (s2 _ _ hacc) hl (line60 (by omega)) ⟨?_, same_upd (sm.trans s2) hD⟩
        have g0 : ∀ c, H' c = none → (upd H D (.lst [])) c = none := fun c hc => by
          by_cases q : c = D
          · rw [q, hacc] at hc; cases hc
          · rw [upd_ne q]; exact sm.free hc
        have g1 : Same (New H' H2) (New (upd H D (.lst [])) (upd H2 D (.lst (acc ++ [v2])))) := New.le g0 fun c u hc e => by
          have q : c ≠ D := fun q => by rw [q, hacc] at hc; cases hc
          rw [upd_ne q]; exact e
        have g2 : Same (New (upd H D (.lst [])) H') (New (upd H D (.lst [])) (upd H2 D (.lst (acc ++ [v2])))) := New.le (fun c h => h) fun c u hc e => by
          have q : c ≠ D := fun q => by rw [q, upd_same] at hc; cases hc
          rw [upd_ne q]; exact s2 _ _ e
        have r1 := dpA_app (dpA_keep (Same.keeps g2) _ _ ha) (.cons (dp_keep (Same.keeps g1) _ _ d2) .nil)
        rw [hl, take_next hdi] at r1
        rw [List.length_append, hl]
        exact r1
      · rintro acc H' hl hacc ⟨ha, sm⟩
        have hxl := dpA_len hA
        rw [hl, hxl, List.take_length] at ha
        walk_at "go"
        refine k _ _ sm ?_
        rw [lstd_tup]
        have g : Same (New (upd H D (.lst [])) H') (New H H') := New.le (fun c h => by
          by_cases q : c = D
          · rw [q]; exact hD
          · rw [upd_ne q] at h; exact h) fun c u _ e => e
        refine .lst (SqL.of ?_) (dpA_keep (Same.keeps g) _ _ ha)
        rw [New.at hD]
        exact hacc
theorem ll_all {f : Addr} {fd : FuncData} (F : Fun K "_law_listed" "_law_listed" sLListed f fd) (B : Bl mg) (m : mg "_law_listed" = some (.ref f)) (b : Binds K fd ["_law_thing"] []) : ∀ n : Nat, OLL n P w K mg base
  | 0 => ⟨f, fd, none_ok fun vs H Q E h => by obtain ⟨v, d, _, _, _, _, hd, _⟩ := h; omega, m, F.kp, b⟩
  | n + 1 => ⟨f, fd, ok_listed F B (ll_all F B m b n), m, F.kp, b⟩
end
end K4

/-! L11c -/


namespace K1
open PySem L2
abbrev sLPaperOf : Stmt := top 61
abbrev nLPaperOf : List Str := ["_law_bag", "_law_signs", "_law_most", "_law_told", "_law_k"]
theorem scLPaperOf : FnScope nLPaperOf ["_law_bag", "_law_signs", "_law_most"] (defScope sLPaperOf) := ⟨rfl, rfl, rfl, by decide +kernel, rfl, by decide +kernel, by decide +kernel⟩
def spPaperOf : Sp := fun vs H Q _ => ∃ (b : Addr) (z : Str) (m : Nat) (n : Nat), vs = [.ref b, .str z, .int m] ∧ IsBag H b n ∧ n + m + 1 ≤ 2 ^ 40 ∧ z.length ≤ 1000 ∧ 1 ≤ z.length ∧ m ≤ 1000 ∧
  ∀ (y : Str) H', y.length ≤ m → (∀ c ∈ y.cps.toList, c ∈ z.cps.toList) → IsBag H' b (n + m + 1) → Off b H H' → Q (.str y) H'
theorem IsBag.new {H : Hp} {b p : Addr} {n : Nat} {o : HO} (h : IsBag H b n) (hp : H p = none) : IsBag (upd H p o) b n := by
  obtain ⟨d, s, c, e, r⟩ := h
  exact ⟨d, s, c, by rw [upd_ne (ne_of_none e hp)]; exact e, r⟩
theorem IsBag.ne {H : Hp} {b p : Addr} {n : Nat} (h : IsBag H b n) (hp : H p = none) : p ≠ b := fun q => by
  obtain ⟨_, _, _, e, _⟩ := h
  rw [q, e] at hp; cases hp
section
variable {P : Program} {w : World} {K : PySem.W.Frag} {mg : Str → Option Value} {base : Heap}
theorem ok_paperOf {f : Addr} {fd : FuncData} (F : Fun K "_law_paper_of" "_law_paper_of" sLPaperOf f fd) (B : Bl mg) (Op : OPick P w K mg base) (Oo : OOneOf P w K mg base) :
    FnOk P w K mg base CX0 3 f fd ["_law_bag", "_law_signs", "_law_most"] spPaperOf := by
  refine F.ok scLPaperOf (fun vs H Q E h => ?_) (fun cdv A outer s H vs Q E hr h => ?_)
  · obtain ⟨b, z, m, n, rfl, _⟩ := h
    rfl
  · obtain ⟨b, z, m, n, rfl, hb, hn, hz, hz1, hm, k⟩ := h
    have hr1 : Room 1 _ := hr.mono (by decide)
    refine ⟨_, (pss_cons (ps_set (i := 3) scLPaperOf.nd rfl (Or.inl rfl) pe_str) (pss_cons (ps_for PassesOwn.never rfl (pi_range1 rfl B.range (pa_cons (pe_own Op (hr.mono (by omega)) (pa_cons (pv 0) (pa_cons (pe_op op_add (pv 2) pe_int) pa_nil))) pa_nil)) (pg_name (i := 4) scLPaperOf.nd rfl (Or.inl rfl)) (pss_one (ps_set (i := 3) scLPaperOf.nd rfl (Or.inl rfl) (pe_op op_add_str (pv 3) (pe_own Oo (hr.mono (by omega)) (pa_cons (pv 0) (pa_cons (pv 1) pa_nil))))))) (pss_one (ps_ret (pv 3))))), ?_⟩
    try dsimp only [cxOf, Cx.nox, Cx.wish]
    walk_at "go"
    refine ⟨_, _, n, rfl, hb, by omega, by omega, fun r H1 r0 r1 hb1 off1 => ?_⟩
    walk_at "go"
    refine ⟨by omega, by omega, fr_range (lo := 0) (n := r.toNat) (fun i σ H' => ∃ (kk : Option V) (y : Str), σ = [some (.ref b), some (.str z), some (.int m), some (.str y), kk] ∧ y.length = i ∧ (∀ c ∈ y.cps.toList, c ∈ z.cps.toList) ∧
        IsBag H' b (n + 1 + i) ∧ Off b H H') ?_ ?_ ?_⟩
    · exact ⟨none, _, rfl, rfl, (fun c hc => absurd (show c ∈ ([] : List Nat) from hc) (by simp)), hb1, off1⟩
    · rintro i σ H' hi ⟨kk, y, rfl, ly, hy, hb', off⟩
      walk_at "go"
      refine ⟨_, _, _, _, rfl, hb', by omega, .inl ⟨z, rfl, rfl, hz⟩, ?_, fun x H2 hx hb2 off2 => ?_⟩
      · intro q
        have := congrArg List.length q
        rw [List.length_map, sgn_len, List.length_nil] at this
        omega
      obtain ⟨c, hc, rfl⟩ := mem_sgn hx
      walk_at "go"
      refine ⟨_, _, rfl, rfl, ?_, ?_⟩
      · rw [ly]
        exact small_line (by show i + 1 ≤ 1000; omega)
      walk_at "go"
      refine ⟨_, _, rfl, ?_, ?_, hb2, off.trans off2⟩
      · rw [len_cps, app_cps, List.length_append, ← len_cps, ly]
        rfl
      · intro d hd
        rw [app_cps] at hd
        rcases List.mem_append.mp hd with hd | hd
        · exact hy d hd
        · have : d = c := by simpa using hd
          rw [this]; exact hc
    · rintro σ H' ⟨kk, y, rfl, ly, hy, hb', off⟩
      walk_at "go"
      exact k y H' (by omega) hy (hb'.mono (by omega)) off
end
end K1
namespace K4
open PySem L2 K1
abbrev sLSum : Stmt := top 62
abbrev nLSum : List Str := ["_law_bag", "_law_signs", "_law_modulus", "_law_weights", "_law_k"]
theorem scLSum : FnScope nLSum ["_law_bag", "_law_signs"] (defScope sLSum) := ⟨rfl, rfl, rfl, by decide +kernel, rfl, by decide +kernel, by decide +kernel⟩
theorem bag_kt {H H' : Hp} {b : Addr} {n : Nat} (h : IsBag H b n) (k : Kp b H H') : KT K H H' := fun a xs q => by
  obtain ⟨d, s, c, e, _⟩ := h
  exact Kp.sqT k e q
theorem bag_upd {H : Hp} {b D : Addr} {n : Nat} {o : HO} (h : IsBag H b n) (nD : D ≠ b) : IsBag (upd H D o) b n := by
  obtain ⟨d, s, c, e, r⟩ := h
  exact ⟨d, s, c, by rw [upd_ne nD.symm]; exact e, r⟩
theorem kp_upd' {b L : Addr} {H H' : Hp} {o : HO} (k : Kp b H H') (h : H L = none) : Kp b H (upd H' L o) := fun c u n e => by
  rw [upd_ne (ne_of_none e h)]
  exact k c u n e
theorem r_ifJ {c : TT} {ta tb : TE} {σ : L2.St} {H : Hp} {Q : VK} (A : VK) (q : ∀ Q' : VK, (∀ x H', A x H' → Q' x H') → tIf c ta tb σ H Q') (key : ∀ x H', A x H' → Q x H') : tIf c ta tb σ H Q := q Q key
/-- a thing picked off a list of numbers -/
theorem pick_of {ys : List V} {xs : List Nat} {r : Int} (e : ys = xs.map vi) (h0 : 0 ≤ r) (h1 : r < ys.length ∨ ((ys.length : Int) < 2 ∧ r = 0)) (ne : xs ≠ []) : ∃ n : Nat, atI ys r = some (vi n) ∧ n ∈ xs := by
  subst e
  rw [List.length_map] at h1
  have := List.length_pos_iff.mpr ne
  obtain ⟨j, rfl⟩ : ∃ j : Nat, r = j := ⟨r.toNat, by omega⟩
  have hj : j < xs.length := by omega
  exact ⟨xs[j], atI_nat (by rw [List.getElem?_map, List.getElem?_eq_getElem hj]; rfl), List.getElem_mem _⟩
/-- a rule has been drawn -/
def Drawn (K : PySem.W.Frag) (b : Addr) (n c : Nat) (H : Hp) (Q : VK) (P : R → Prop) : Prop := ∀ H' v r, Dp K H' v (r.data true) → P r → IsBag H' b (n + c) → Kp b H H' → Q v H'
def spSumG (K : PySem.W.Frag) : Sp := fun vs H Q _ => ∃ (b : Addr) (y : V) (n : Nat), vs = [.ref b, y] ∧ IsBag H b n ∧ n ≤ 2 ^ 39 ∧ Drawn K b n 20 H Q fun r => ∃ m ws g, r = .n0 (.sum m ws g) ∧ ∀ z, Ow.fit z (.sum m ws g)
section
variable {P : Program} {w : World} {K : PySem.W.Frag} {mg : Str → Option Value} {base : Heap} {dO dI : Addr}
theorem ok_sumG {f : Addr} {fd : FuncData} (F : Fun K "_law_sum" "_law_sum" sLSum f fd) (B : Bl mg) (Op : OPick P w K mg base) : FnOk P w K mg base CX0 2 f fd ["_law_bag", "_law_signs"] (spSumG K) := by
  refine F.ok scLSum (fun vs H Q E h => ?_) (fun cdv A outer s H vs Q E hr h => ?_)
  · obtain ⟨b, y, n, rfl, _⟩ := h
    rfl
  · obtain ⟨b, y, n, rfl, hb, hn, k⟩ := h
    refine ⟨_, (pss_cons (ps_set (i := 2) scLSum.nd rfl (Or.inl rfl) (pe_op op_add pe_int (pe_own Op (hr.mono (by omega)) (pa_cons (pv 0) (pa_cons pe_int pa_nil))))) (pss_cons (ps_set (i := 3) scLSum.nd rfl (Or.inl rfl) (pe_lst pa_nil)) (pss_cons (ps_for PassesOwn.never rfl (pi_range1 rfl B.range (pa_cons (pe_ix ix_list (pe_lst (pa_cons pe_int (pa_cons pe_int (pa_cons pe_int (pa_cons pe_int (pa_cons pe_int pa_nil)))))) (pe_own Op (hr.mono (by omega)) (pa_cons (pv 0) (pa_cons pe_int pa_nil))) (fun _ _ => rfl)) pa_nil)) (pg_name (i := 4) scLSum.nd rfl (Or.inl rfl)) (pss_one (ps_expr (pe_bm PySem.F.plainAttrs_list PySem.F.slot_list_append PySem.F.type_list_append mt_append (pv 3) (pa_cons (pe_ifExp (pt_cmpR op_eq (pe_own Op (hr.mono (by omega)) (pa_cons (pv 0) (pa_cons pe_int pa_nil))) pe_int (nomark _)) pe_int (pe_op op_add pe_int (pe_own Op (hr.mono (by omega)) (pa_cons (pv 0) (pa_cons (pe_op op_sub (pv 2) pe_int) pa_nil))))) pa_nil))))) (pss_one (ps_ret (pe_tup (pa_cons pe_str (pa_cons (pv 2) (pa_cons (pe_callTy call_tuple_of (by rfl) B.tuple (by decide +kernel) (pa_cons (pv 3) pa_nil)) (pa_cons (pe_own Op (hr.mono (by omega)) (pa_cons (pv 0) (pa_cons (pv 2) pa_nil))) pa_nil)))))))))), ?_⟩
    try dsimp only [cxOf, Cx.nox, Cx.wish]
    walk_at "go"
    refine ⟨_, _, n, rfl, hb, by omega, by decide, fun r H1 r0 r1 hb1 of1 => ?_⟩
    obtain ⟨m, hm⟩ : ∃ m : Nat, 2 + r = (m : Int) := ⟨(2 + r).toNat, by omega⟩
    walk_at "go"
    rw [hm]
    refine ⟨(by show 0 ≤ sizeLine; decide), fun D hD => ?_⟩
    have nDb := hb1.ne hD
    walk_at "go"
    refine ⟨(by show 5 ≤ sizeLine; decide), fun p hp => ?_⟩
    have hb1' := hb1.new (o := HO.lst []) hD
    have npb := hb1'.ne hp
    have nDp : D ≠ p := fun q => by rw [← q, upd_same] at hp; cases hp
    walk_at "go"
    refine ⟨_, _, n + 1, rfl, hb1'.new hp, by omega, by decide, fun r2 H2 r20 r21 hb2 of2 => ?_⟩
    obtain ⟨c, ec, hc⟩ := pick_of (xs := [1, 1, 2, 2, 3]) rfl r20 (by simpa using r21) (by decide)
    refine r_ixL (SqL.of (of2.at npb upd_same)) ec ?_
    have hc3 : 1 ≤ c ∧ c ≤ 3 := by simp only [List.mem_cons, List.not_mem_nil, or_false] at hc; omega
    have k2 : Kp b H H2 := of1.kp.trans ((Same.kp (same_new (o := HO.lst []) hD)).trans ((Same.kp (same_new hp)).trans of2.kp))
    have eD2 : H2 D = some (.lst []) := of2.at nDb (by rw [upd_ne nDp]; exact upd_same)
    have hDH : H D = none ∨ D = b := by
      cases e : H D with
      | none => exact .inl rfl
      | some o => exact .inr (by by_cases q : D = b; exact q; exact absurd (of1.at q e) (by rw [hD]; intro z; cases z))
    have hDn : H D = none := hDH.resolve_right nDb
    walk_at "go"
    refine ⟨by omega, by omega, fr_range (lo := 0) (n := c) (fun i σ H' => ∃ (o4 : Option V) (ws : List Nat), σ = [some (.ref b), some y, some (vi m), some (.ref D), o4] ∧ IsBag H' b (n + 2 + 2 * i) ∧ Kp b H H' ∧ H' D = some (.lst (ws.map vi)) ∧ ws.length = i ∧ ∀ w ∈ ws, w < m) ⟨none, [], rfl, hb2, k2, eD2, rfl, (fun w h => by cases h)⟩ ?_ ?_⟩
    · rintro i σ H3 hi ⟨o4, ws, rfl, hb3, k3, eD, lw, hw⟩
      have m2 : 2 ≤ m ∧ m ≤ 5 := by omega
      walk_at "go"
      refine ⟨tyL (SqL.of eD), ?_⟩
      refine r_cons (r_ifJ (fun x H' => ∃ wv : Nat, x = vi wv ∧ wv < m ∧ IsBag H' b (n + 2 + 2 * (i + 1)) ∧ Off b H3 H') (fun Q' h => ?_) ?_)
      · walk_at "go"
        refine ⟨_, _, n + 2 + 2 * i, rfl, hb3, by omega, by decide, fun r4 H4 r40 r41 hb4 of4 => ?_⟩
        walk_at "go"
        refine r_ite (fun h0 => ?_) (fun h0 => ?_)
        · walk_at "go"
          exact h _ _ ⟨0, rfl, by omega, hb4.mono (by omega), of4⟩
        · walk_at "go"
          refine ⟨_, _, n + 2 + 2 * i + 1, rfl, hb4, by omega, by omega, fun r5 H5 r50 r51 hb5 of5 => ?_⟩
          walk_at "go"
          obtain ⟨wv, hwv⟩ : ∃ wv : Nat, 1 + r5 = (wv : Int) := ⟨(1 + r5).toNat, by omega⟩
          rw [hwv]
          exact h _ _ ⟨wv, rfl, by omega, hb5.mono (by omega), of4.trans of5⟩
      · rintro x H' ⟨wv, rfl, hwv, hb', of'⟩
        walk_at "go"
        have eD' := of'.at nDb eD
        refine ⟨D, ws.map vi, _, rfl, rfl, eD', line60 (by rw [List.length_map]; omega), ?_⟩
        refine ⟨_, ws ++ [wv], rfl, bag_upd hb' nDb, kp_upd' (k3.trans of'.kp) hDn, by rw [upd_same, List.map_append]; rfl, by rw [List.length_append, lw]; rfl, fun w hw' => ?_⟩
        rcases List.mem_append.mp hw' with q | q
        · exact hw w q
        · rw [List.mem_singleton.mp q]; exact hwv
    · rintro σ H3 ⟨o4, ws, rfl, hb3, k3, eD, lw, hw⟩
      have m2 : 2 ≤ m ∧ m ≤ 5 := by omega
      walk_at "go"
      refine ⟨D, ws.map vi, rfl, .inl ⟨SqL.of eD, fun T hT => ?_⟩⟩
      walk_at "go"
      refine ⟨_, _, n + 2 + 2 * c, rfl, hb3.new hT, by omega, by omega, fun r4 H4 r40 r41 hb4 of4 => ?_⟩
      obtain ⟨g, hg⟩ : ∃ g : Nat, r4 = (g : Int) := ⟨r4.toNat, by omega⟩
      subst hg
      have nTb := hb3.ne hT
      have eT := of4.at nTb (upd_same (a := T) (o := HO.tup (ws.map vi)) (H := H3))
      walk_at "go"
      refine ⟨(by show 4 ≤ sizeLine; decide), fun q hq => ?_⟩
      have s5 := same_new (o := HO.tup [V.str "sum", vi m, V.ref T, vi g]) hq
      refine k _ _ (.n0 (.sum m ws g)) ?_ ⟨m, ws, g, rfl, fun z => ⟨m2.1, by omega, fun e => by rw [e] at lw; simp at lw; omega, by omega, hw, by omega⟩⟩ ((hb4.new hq).mono (by omega)) ((k3.trans (Same.kp (same_new hT))).trans (of4.kp.trans (Same.kp s5)))
      exact .tup (SqT.of upd_same) (.cons (.str _) (.cons (.int _) (.cons (.tup (SqT.of (s5 _ _ eT)) (dpA_nums.mpr rfl)) (.cons (.int _) .nil))))
end
end K4

/-! L11d -/


namespace K4
open PySem L2 K1
abbrev sLSignsOf : Stmt := top 60
abbrev nLSignsOf : List Str := ["_law_bag", "_law_most", "_law_many", "_law_every", "_law_at", "_law_told", "_law_k"]
theorem scLSignsOf : FnScope nLSignsOf ["_law_bag", "_law_most"] (defScope sLSignsOf) := ⟨rfl, rfl, rfl, by decide +kernel, rfl, by decide +kernel, by decide +kernel⟩
abbrev sLWideSigns : Stmt := top 70
abbrev nLWideSigns : List Str := ["_law_bag", "_law_every", "_law_count", "_law_room", "_law_at", "_law_told", "_law_k", "_law_skip"]
theorem scLWideSigns : FnScope nLWideSigns ["_law_bag"] (defScope sLWideSigns) := ⟨rfl, rfl, rfl, by decide +kernel, rfl, by decide +kernel, by decide +kernel⟩
def al (j : Nat) : Nat := (tl K4.ALL).getD j 0
theorem al_lt : ∀ i < 36, ∀ j < 36, i < j → al i < al j := by decide +kernel
theorem al_mem : ∀ i < 36, al i ∈ tl K4.ALL := by decide +kernel
theorem all36 : (tl K4.ALL).length = 36 := by decide +kernel
/-- signs off the alphabet, by their places -/
structure Js (js : List Nat) (y : Str) (a : Nat) : Prop where
  eq : tl y = js.map al
  up : js.Pairwise (· < ·)
  lt : ∀ j ∈ js, j < a
theorem Js.next {js : List Nat} {y : Str} {a c : Nat} (h : Js js y a) (hc : a ≤ c) : Js (js ++ [c]) (y ++ one (al c)) (c + 1) := by
  refine ⟨?_, ?_, fun j hj => ?_⟩
  · rw [List.map_append, ← h.eq]
    exact K1.app_cps y _
  · rw [List.pairwise_append]
    exact ⟨h.up, by simp, fun i hi j hj => by rw [List.mem_singleton.mp hj]; have := h.lt i hi; omega⟩
  · rcases List.mem_append.mp hj with q | q
    · have := h.lt j q; omega
    · rw [List.mem_singleton.mp q]; omega
theorem Js.good {js : List Nat} {y : Str} {a : Nat} (h : Js js y a) (ha : a ≤ 36) (l2 : 2 ≤ js.length) (l12 : js.length ≤ 12) : Good y := by
  have hl : (K1.tl y).length = js.length := by
    have : (tl y).length = js.length := by rw [h.eq, List.length_map]
    exact this
  refine ⟨by omega, by omega, ?_, ?_⟩
  · have : (tl y).Pairwise (· < ·) := by
      rw [h.eq, List.pairwise_map]
      exact List.Pairwise.imp_of_mem (fun {i j} hi hj q => al_lt i (by have := h.lt i hi; omega) j (by have := h.lt j hj; omega) q) h.up
    exact this
  · intro c hc
    have hc' : c ∈ tl y := hc
    rw [h.eq] at hc'
    obtain ⟨j, hj, rfl⟩ := List.mem_map.mp hc'
    exact al_mem j (by have := h.lt j hj; omega)
theorem ix_all {j : Nat} (hj : j < 36) {Q : VK} {H : Hp} (q : Q (.str (one (al j))) H) : rIxS (.str K4.ALL) (.int (j : Int)) H Q :=
  r_ixS (small_line (by decide +kernel)) (atI_nat (getD_at (xs := tl K4.ALL) (d := 0) (by rw [all36]; exact hj))) q
def spSigns (x : V → Prop) : Sp := fun vs H Q _ => ∃ (b : Addr) (y : List V) (n : Nat), vs = .ref b :: y ∧ (∀ v ∈ y, x v) ∧ y.length ≤ 1 ∧ IsBag H b n ∧ n ≤ 2 ^ 39 ∧ ∀ H' z, Good z → IsBag H' b (n + 40) → Kp b H H' → Q (.str z) H'
def spSignsOf : Sp := fun vs H Q _ => ∃ (b : Addr) (n : Nat), vs = [.ref b, .int 4] ∧ IsBag H b n ∧ n ≤ 2 ^ 39 ∧ ∀ H' z, Good z → (tl z).length ≤ 4 → IsBag H' b (n + 40) → Kp b H H' → Q (.str z) H'
def spWideSigns : Sp := fun vs H Q _ => ∃ (b : Addr) (n : Nat), vs = [.ref b] ∧ IsBag H b n ∧ n ≤ 2 ^ 39 ∧ ∀ H' z, Good z → IsBag H' b (n + 40) → Kp b H H' → Q (.str z) H'
section
variable {P : Program} {w : World} {K : PySem.W.Frag} {mg : Str → Option Value} {base : Heap} {dO dI : Addr}
/-- a number picked off a list that has just been written -/
theorem pick_new {H : Hp} {Q : VK} {b : Addr} {n i : Nat} {m : Int} {σ : L2.St} {ys : List V} {xs : List Nat} (hb : IsBag H b n) (e : ys = xs.map vi) (em : m = (ys.length : Int)) (hv : ∀ (H : Hp) (Q : VK), Q (.ref b) H → tVar i σ H Q) (hl : ys.length ≤ 1000) (ne : 2 ≤ xs.length) (hn : n ≤ 2 ^ 40)
    (k : ∀ (c : Nat) H', c ∈ xs → IsBag H' b (n + 1) → Kp b H H' → Q (vi c) H') : ys.length ≤ sizeLine ∧ ∀ p, H p = none → tCall spPick [] E0 (tCons (tVar i) (tCons (tC (V.int m)) tNil)) σ (upd H p (.lst ys)) (fun y H1 => rIxL K (.ref p) y H1 Q) := by
  refine ⟨small_line hl, fun p hp => ?_⟩
  refine r_call (r_cons (hv _ _ ?_))
  walk_at "go"
  refine ⟨b, _, n, rfl, hb.new hp, hn, by omega, fun r H2 r0 r1 hb2 of2 => ?_⟩
  have npb := hb.ne hp
  obtain ⟨c, ec, hc⟩ := pick_of (ys := ys) (xs := xs) e r0 (by rw [← em]; rcases r1 with q | q; exact .inl (by omega); exact .inr q) (fun q => by rw [q] at ne; simp at ne)
  exact r_ixL (SqL.of (of2.at npb upd_same)) ec (k c H2 hc hb2 ((Same.kp (same_new hp)).trans of2.kp))
theorem ok_signsOf {f : Addr} {fd : FuncData} (F : Fun K "_law_signs_of" "_law_signs_of" sLSignsOf f fd) (B : Bl mg) (Op : OPick P w K mg base) : FnOk P w K mg base CX0 2 f fd ["_law_bag", "_law_most"] spSignsOf := by
  refine F.ok scLSignsOf (fun vs H Q E h => ?_) (fun cdv A outer s H vs Q E hr h => ?_)
  · obtain ⟨b, n, rfl, _⟩ := h
    rfl
  · obtain ⟨b, n, rfl, hb, hn, k⟩ := h
    refine ⟨_, (pss_cons (ps_set (i := 2) scLSignsOf.nd rfl (Or.inl rfl) (pe_callB (call_min2 rfl) (by rfl) B.min (by decide +kernel) (pa_cons (pv 1) (pa_cons (pe_ix ix_list (pe_lst (pa_cons pe_int (pa_cons pe_int (pa_cons pe_int (pa_cons pe_int (pa_cons pe_int (pa_cons pe_int pa_nil))))))) (pe_own Op (hr.mono (by omega)) (pa_cons (pv 0) (pa_cons pe_int pa_nil))) (fun _ _ => rfl)) pa_nil)))) (pss_cons (ps_set (i := 3) scLSignsOf.nd rfl (Or.inl rfl) pe_str) (pss_cons (ps_set (i := 4) scLSignsOf.nd rfl (Or.inl rfl) (pe_ix ix_list (pe_lst (pa_cons pe_int (pa_cons pe_int (pa_cons pe_int (pa_cons pe_int (pa_cons pe_int (pa_cons pe_int (pa_cons pe_int (pa_cons pe_int pa_nil))))))))) (pe_own Op (hr.mono (by omega)) (pa_cons (pv 0) (pa_cons pe_int pa_nil))) (fun _ _ => rfl))) (pss_cons (ps_set (i := 5) scLSignsOf.nd rfl (Or.inl rfl) (pe_ix ix_str (pv 3) (pv 4) (fun _ _ => rfl))) (pss_cons (ps_for PassesOwn.never rfl (pi_range1 rfl B.range (pa_cons (pe_op op_sub (pv 2) pe_int) pa_nil)) (pg_name (i := 6) scLSignsOf.nd rfl (Or.inl rfl)) (pss_cons (ps_set (i := 4) scLSignsOf.nd rfl (Or.inl rfl) (pe_op op_add (pe_op op_add (pv 4) pe_int) (pe_ix ix_list (pe_lst (pa_cons pe_int (pa_cons pe_int (pa_cons pe_int (pa_cons pe_int pa_nil))))) (pe_own Op (hr.mono (by omega)) (pa_cons (pv 0) (pa_cons pe_int pa_nil))) (fun _ _ => rfl)))) (pss_one (ps_set (i := 5) scLSignsOf.nd rfl (Or.inl rfl) (pe_op op_add_str (pv 5) (pe_ix ix_str (pv 3) (pv 4) (fun _ _ => rfl))))))) (pss_one (ps_ret (pv 5)))))))), ?_⟩
    try dsimp only [cxOf, Cx.nox, Cx.wish]
    walk_at "go"
    refine pick_new (xs := [2, 2, 2, 3, 3, 4]) hb rfl rfl (fun _ _ q => ⟨_, rfl, q⟩) (by decide) (by decide) (by omega) (fun many H1 hm hb1 k1 => ?_)
    have hm24 : 2 ≤ many ∧ many ≤ 4 := by simp only [List.mem_cons, List.not_mem_nil, or_false] at hm; omega
    walk_at "go"
    refine ⟨_, _, rfl, ?_⟩
    walk_at "go"
    have hmin : (if (many : Int) < 4 then (many : Int) else 4) = (many : Int) := by
      by_cases q : (many : Int) < 4
      · rw [if_pos q]
      · rw [if_neg q]; omega
    rw [hmin]
    refine pick_new (xs := [0, 0, 0, 1, 8, 9, 10, 20]) hb1 rfl rfl (fun _ _ q => ⟨_, rfl, q⟩) (by decide) (by decide) (by omega) (fun a H2 ha hb2 k2 => ?_)
    have ha20 : a ≤ 20 := by simp only [List.mem_cons, List.not_mem_nil, or_false] at ha; omega
    walk_at "go"
    refine ix_all (by omega) ?_
    walk_at "go"
    rw [show ((many : Int) - 1) = ((many - 1 : Nat) : Int) by omega]
    refine ⟨by omega, by omega, fr_range (lo := 0) (n := many - 1) (fun i σ H' => ∃ (o6 : Option V) (js : List Nat) (y : Str) (c : Nat), σ = [some (.ref b), some (.int 4), some (vi many), some (.str K4.ALL), some (vi c), some (.str y), o6] ∧ Js js y (c + 1) ∧ js.length = i + 1 ∧ c ≤ a + 2 * i ∧
      IsBag H' b (n + 2 + i) ∧ Kp b H H') ⟨none, [a], one (al a), a, rfl, ⟨rfl, by simp, fun j hj => by rw [List.mem_singleton.mp hj]; omega⟩, rfl, by omega, hb2, k1.trans k2⟩ ?_ ?_⟩
    · rintro i σ H3 hi ⟨o6, js, y, c, rfl, hJ, hjl, hc, hb3, k3⟩
      walk_at "go"
      refine pick_new (xs := [0, 0, 0, 1]) hb3 rfl rfl (fun _ _ q => ⟨_, rfl, q⟩) (by decide) (by decide) (by omega) (fun d H4 hd hb4 k4 => ?_)
      have hd1 : d ≤ 1 := by simp only [List.mem_cons, List.not_mem_nil, or_false] at hd; omega
      walk_at "go"
      have e1 : ((c : Int) + 1 + (d : Int)) = ((c + 1 + d : Nat) : Int) := by omega
      rw [e1]
      refine ix_all (by omega) ?_
      have hyl : y.length = js.length := by rw [len_tl y, hJ.eq, List.length_map]
      refine ⟨y, _, rfl, rfl, small_line (by show y.length + 1 ≤ 1000; omega), ?_⟩
      walk_at "go"
      exact ⟨some (.int (0 + (i : Int))), js ++ [c + 1 + d], _, c + 1 + d, rfl, hJ.next (by omega), by rw [List.length_append, hjl]; rfl, by omega, hb4, k3.trans k4⟩
    · rintro σ H3 ⟨o6, js, y, c, rfl, hJ, hjl, hc, hb3, k3⟩
      walk_at "go"
      exact k H3 y (hJ.good (by omega) (by omega) (by omega)) (by rw [hJ.eq, List.length_map]; omega) (hb3.mono (by omega)) k3
theorem ok_wideSigns {f : Addr} {fd : FuncData} (F : Fun K "_law_wide_signs" "_law_wide_signs" sLWideSigns f fd) (B : Bl mg) (Op : OPick P w K mg base) (Oo : OOneOf P w K mg base) : FnOk P w K mg base CX0 3 f fd ["_law_bag"] spWideSigns := by
  refine F.ok scLWideSigns (fun vs H Q E h => ?_) (fun cdv A outer s H vs Q E hr h => ?_)
  · obtain ⟨b, n, rfl, _⟩ := h
    rfl
  · obtain ⟨b, n, rfl, hb, hn, k⟩ := h
    refine ⟨_, (pss_cons (ps_set (i := 1) scLWideSigns.nd rfl (Or.inl rfl) pe_str) (pss_cons (ps_set (i := 2) scLWideSigns.nd rfl (Or.inl rfl) (pe_own Oo (hr.mono (by omega)) (pa_cons (pv 0) (pa_cons (pe_lst (pa_cons pe_int (pa_cons pe_int (pa_cons pe_int (pa_cons pe_int (pa_cons pe_int (pa_cons pe_int (pa_cons pe_int (pa_cons pe_int (pa_cons pe_int pa_nil)))))))))) pa_nil)))) (pss_cons (ps_set (i := 3) scLWideSigns.nd rfl (Or.inl rfl) (pe_op op_sub pe_int (pv 2))) (pss_cons (ps_set (i := 4) scLWideSigns.nd rfl (Or.inl rfl) (pe_ifExp (pt_cmpR op_eq (pe_own Op (hr.mono (by omega)) (pa_cons (pv 0) (pa_cons pe_int pa_nil))) pe_int (nomark _)) (pe_own Op (hr.mono (by omega)) (pa_cons (pv 0) (pa_cons (pe_op op_add (pv 3) pe_int) pa_nil))) pe_int)) (pss_cons (ps_set (i := 3) scLWideSigns.nd rfl (Or.inl rfl) (pe_op op_sub (pv 3) (pv 4))) (pss_cons (ps_set (i := 5) scLWideSigns.nd rfl (Or.inl rfl) pe_str) (pss_cons (ps_for PassesOwn.never rfl (pi_range1 rfl B.range (pa_cons (pv 2) pa_nil)) (pg_name (i := 6) scLWideSigns.nd rfl (Or.inl rfl)) (pss_cons (ps_set (i := 5) scLWideSigns.nd rfl (Or.inl rfl) (pe_op op_add_str (pv 5) (pe_ix ix_str (pv 1) (pv 4) (fun _ _ => rfl)))) (pss_cons (ps_set (i := 7) scLWideSigns.nd rfl (Or.inl rfl) (pe_callB (call_min2 rfl) (by rfl) B.min (by decide +kernel) (pa_cons (pv 3) (pa_cons (pe_own Oo (hr.mono (by omega)) (pa_cons (pv 0) (pa_cons (pe_lst (pa_cons pe_int (pa_cons pe_int (pa_cons pe_int (pa_cons pe_int pa_nil))))) pa_nil))) pa_nil)))) (pss_cons (ps_set (i := 3) scLWideSigns.nd rfl (Or.inl rfl) (pe_op op_sub (pv 3) (pv 7))) (pss_one (ps_set (i := 4) scLWideSigns.nd rfl (Or.inl rfl) (pe_op op_add (pe_op op_add (pv 4) pe_int) (pv 7)))))))) (pss_one (ps_ret (pv 5)))))))))), ?_⟩
    try dsimp only [cxOf, Cx.nox, Cx.wish]
    walk_at "go"
    refine ⟨(by show 9 ≤ sizeLine; decide), fun p hp => ?_⟩
    have npb := hb.ne hp
    walk_at "go"
    refine ⟨b, _, [V.int 2, V.int 2, V.int 2, V.int 3, V.int 3, V.int 4, V.int 5, V.int 10, V.int 12], n, rfl, hb.new hp, by omega, .inr ⟨p, rfl, SqL.of upd_same, npb, by decide⟩, by simp, fun x H1 hx hb1 of1 => ?_⟩
    obtain ⟨cnt, rfl, c2, c12⟩ : ∃ cnt : Nat, x = vi cnt ∧ 2 ≤ cnt ∧ cnt ≤ 12 := by
      simp only [List.mem_cons, List.not_mem_nil, or_false] at hx
      rcases hx with rfl | rfl | rfl | rfl | rfl | rfl | rfl | rfl | rfl
      · exact ⟨2, rfl, by decide, by decide⟩
      · exact ⟨2, rfl, by decide, by decide⟩
      · exact ⟨2, rfl, by decide, by decide⟩
      · exact ⟨3, rfl, by decide, by decide⟩
      · exact ⟨3, rfl, by decide, by decide⟩
      · exact ⟨4, rfl, by decide, by decide⟩
      · exact ⟨5, rfl, by decide, by decide⟩
      · exact ⟨10, rfl, by decide, by decide⟩
      · exact ⟨12, rfl, by decide, by decide⟩
    have k1 : Kp b H H1 := (Same.kp (same_new hp)).trans of1.kp
    walk_at "go"
    refine ⟨b, _, n + 1, rfl, hb1, by omega, by decide, fun r3 H2 _ _ hb2 of2 => ?_⟩
    walk_at "go"
    have k2 := k1.trans of2.kp
    refine r_ite (fun h0 => ?_) (fun h0 => ?_)
    · walk_at "go"
      refine ⟨b, _, n + 2, rfl, hb2, by omega, by omega, fun r4 H3 r40 r41 hb3 of3 => ?_⟩
      obtain ⟨a, rfl⟩ : ∃ a : Nat, r4 = (a : Int) := ⟨r4.toNat, by omega⟩
      have ha : a + cnt ≤ 36 := by omega
      have k3 := k2.trans of3.kp
      have hroom : ((36 : Int) - (cnt : Int) - (a : Int)) = ((36 - cnt - a : Nat) : Int) := by omega
      walk_at "go"
      rw [hroom]
      refine ⟨by omega, by omega, fr_range (lo := 0) (n := cnt) (fun i σ H' => ∃ (o6 o7 : Option V) (js : List Nat) (y : Str) (c rm : Nat), σ = [some (.ref b), some (.str K4.ALL), some (vi cnt), some (vi rm), some (vi c), some (.str y), o6, o7] ∧ Js js y c ∧ js.length = i ∧ c + (cnt - i) + rm ≤ 36 ∧
        IsBag H' b (n + 3 + i) ∧ Kp b H H') ⟨none, none, [], _, a, 36 - cnt - a, rfl, ⟨rfl, by simp, fun j hj => by cases hj⟩, rfl, by omega, hb3, k3⟩ ?_ ?_⟩
      · rintro i σ H4 hi ⟨o6, o7, js, y, c, rm, rfl, hJ, hjl, hc, hb4, k4⟩
        walk_at "go"
        refine ix_all (by omega) ?_
        have hyl : y.length = js.length := by rw [len_tl y, hJ.eq, List.length_map]
        refine ⟨y, _, rfl, rfl, small_line (by show y.length + 1 ≤ 1000; omega), ?_⟩
        walk_at "go"
        refine ⟨(by show 4 ≤ sizeLine; decide), fun p4 hp4 => ?_⟩
        have np4 := hb4.ne hp4
        walk_at "go"
        refine ⟨b, _, [V.int 0, V.int 0, V.int 1, V.int 3], n + 3 + i, rfl, hb4.new hp4, by omega, .inr ⟨p4, rfl, SqL.of upd_same, np4, by decide⟩, by simp, fun x H5 hx hb5 of5 => ?_⟩
        obtain ⟨d, rfl⟩ : ∃ d : Nat, x = vi d := by
          simp only [List.mem_cons, List.not_mem_nil, or_false] at hx
          rcases hx with rfl | rfl | rfl | rfl
          · exact ⟨0, rfl⟩
          · exact ⟨0, rfl⟩
          · exact ⟨1, rfl⟩
          · exact ⟨3, rfl⟩
        have k5 : Kp b H H5 := k4.trans ((Same.kp (same_new hp4)).trans of5.kp)
        walk_at "go"
        refine ⟨_, _, rfl, ?_⟩
        obtain ⟨sk, hsk, hskr⟩ : ∃ sk : Nat, (if (d : Int) < (rm : Int) then (d : Int) else (rm : Int)) = (sk : Int) ∧ sk ≤ rm := by
          by_cases q : (d : Int) < (rm : Int)
          · rw [if_pos q]; exact ⟨d, rfl, by omega⟩
          · rw [if_neg q]; exact ⟨rm, rfl, Nat.le_refl _⟩
        rw [hsk]
        walk_at "go"
        have e1 : ((rm : Int) - (sk : Int)) = ((rm - sk : Nat) : Int) := by omega
        have e2 : ((c : Int) + 1 + (sk : Int)) = ((c + 1 + sk : Nat) : Int) := by omega
        rw [e1, e2]
        have hJ' := hJ.next (Nat.le_refl c)
        exact ⟨_, _, js ++ [c], _, c + 1 + sk, rm - sk, rfl, ⟨hJ'.eq, hJ'.up, fun j hj => by have := hJ'.lt j hj; omega⟩, by rw [List.length_append, hjl]; rfl, by omega, hb5, k5⟩
      · rintro σ H4 ⟨o6, o7, js, y, c, rm, rfl, hJ, hjl, hc, hb4, k4⟩
        walk_at "go"
        exact k H4 y (hJ.good (by omega) (by omega) (by omega)) (hb4.mono (by omega)) k4
    · walk_at "go"
      have hb3 := hb2.mono (show n + 2 ≤ n + 3 by omega)
      have k3 := k2
      have ha : 0 + cnt ≤ 36 := by omega
      have hroom : ((36 : Int) - (cnt : Int) - 0) = ((36 - cnt - 0 : Nat) : Int) := by omega
      walk_at "go"
      rw [hroom]
      refine ⟨by omega, by omega, fr_range (lo := 0) (n := cnt) (fun i σ H' => ∃ (o6 o7 : Option V) (js : List Nat) (y : Str) (c rm : Nat), σ = [some (.ref b), some (.str K4.ALL), some (vi cnt), some (vi rm), some (vi c), some (.str y), o6, o7] ∧ Js js y c ∧ js.length = i ∧ c + (cnt - i) + rm ≤ 36 ∧
        IsBag H' b (n + 3 + i) ∧ Kp b H H') ⟨none, none, [], _, 0, 36 - cnt - 0, rfl, ⟨rfl, by simp, fun j hj => by cases hj⟩, rfl, by omega, hb3, k3⟩ ?_ ?_⟩
      · rintro i σ H4 hi ⟨o6, o7, js, y, c, rm, rfl, hJ, hjl, hc, hb4, k4⟩
        walk_at "go"
        refine ix_all (by omega) ?_
        have hyl : y.length = js.length := by rw [len_tl y, hJ.eq, List.length_map]
        refine ⟨y, _, rfl, rfl, small_line (by show y.length + 1 ≤ 1000; omega), ?_⟩
        walk_at "go"
        refine ⟨(by show 4 ≤ sizeLine; decide), fun p4 hp4 => ?_⟩
        have np4 := hb4.ne hp4
        walk_at "go"
        refine ⟨b, _, [V.int 0, V.int 0, V.int 1, V.int 3], n + 3 + i, rfl, hb4.new hp4, by omega, .inr ⟨p4, rfl, SqL.of upd_same, np4, by decide⟩, by simp, fun x H5 hx hb5 of5 => ?_⟩
        obtain ⟨d, rfl⟩ : ∃ d : Nat, x = vi d := by
          simp only [List.mem_cons, List.not_mem_nil, or_false] at hx
          rcases hx with rfl | rfl | rfl | rfl
          · exact ⟨0, rfl⟩
          · exact ⟨0, rfl⟩
          · exact ⟨1, rfl⟩
          · exact ⟨3, rfl⟩
        have k5 : Kp b H H5 := k4.trans ((Same.kp (same_new hp4)).trans of5.kp)
        walk_at "go"
        refine ⟨_, _, rfl, ?_⟩
        obtain ⟨sk, hsk, hskr⟩ : ∃ sk : Nat, (if (d : Int) < (rm : Int) then (d : Int) else (rm : Int)) = (sk : Int) ∧ sk ≤ rm := by
          by_cases q : (d : Int) < (rm : Int)
          · rw [if_pos q]; exact ⟨d, rfl, by omega⟩
          · rw [if_neg q]; exact ⟨rm, rfl, Nat.le_refl _⟩
        rw [hsk]
        walk_at "go"
        have e1 : ((rm : Int) - (sk : Int)) = ((rm - sk : Nat) : Int) := by omega
        have e2 : ((c : Int) + 1 + (sk : Int)) = ((c + 1 + sk : Nat) : Int) := by omega
        rw [e1, e2]
        have hJ' := hJ.next (Nat.le_refl c)
        exact ⟨_, _, js ++ [c], _, c + 1 + sk, rm - sk, rfl, ⟨hJ'.eq, hJ'.up, fun j hj => by have := hJ'.lt j hj; omega⟩, by rw [List.length_append, hjl]; rfl, by omega, hb5, k5⟩
      · rintro σ H4 ⟨o6, o7, js, y, c, rm, rfl, hJ, hjl, hc, hb4, k4⟩
        walk_at "go"
        exact k H4 y (hJ.good (by omega) (by omega) (by omega)) (hb4.mono (by omega)) k4
end
end K4

/-! L11e -/


namespace K4
open PySem L2 K1
abbrev sLGoalsOf : Stmt := top 64
abbrev nLGoalsOf : List Str := ["_law_bag", "_law_many", "_law_first", "_law_z"]
theorem scLGoalsOf : FnScope nLGoalsOf ["_law_bag", "_law_many"] (defScope sLGoalsOf) := ⟨rfl, rfl, rfl, by decide +kernel, rfl, by decide +kernel, by decide +kernel⟩
def spGoals (K : PySem.W.Frag) : Sp := fun vs H Q _ => ∃ (b : Addr) (n many : Nat), vs = [.ref b, vi many] ∧ IsBag H b n ∧ n ≤ 2 ^ 39 ∧ 1 ≤ many ∧ many ≤ 60 ∧
  ∀ H' T gs, H' T = some (.tup (gs.map vi)) → gs ≠ [] → gs.Pairwise (· < ·) → (∀ g ∈ gs, g < many) → IsBag H' b (n + 70) → Kp b H H' → Q (.ref T) H'
section
variable {P : Program} {w : World} {K : PySem.W.Frag} {mg : Str → Option Value} {base : Heap} {dO dI : Addr}
theorem ok_goalsOf {f : Addr} {fd : FuncData} (F : Fun K "_law_goals_of" "_law_goals_of" sLGoalsOf f fd) (B : Bl mg) (Op : OPick P w K mg base) : FnOk P w K mg base CX0 2 f fd ["_law_bag", "_law_many"] (spGoals K) := by
  refine F.ok scLGoalsOf (fun vs H Q E h => ?_) (fun cdv A outer s H vs Q E hr h => ?_)
  · obtain ⟨b, n, many, rfl, _⟩ := h
    rfl
  · obtain ⟨b, n, many, rfl, hb, hn, m1, m60, k⟩ := h
    refine ⟨_, (pss_cons (ps_set (i := 2) scLGoalsOf.nd rfl (Or.inr rfl) (pe_own Op (hr.mono (by omega)) (pa_cons (pv 0) (pa_cons (pv 1) pa_nil)))) (pss_cons (ps_if (pt_cmpR op_gt (pe_own Op (hr.mono (by omega)) (pa_cons (pv 0) (pa_cons pe_int pa_nil))) pe_int (nomark _)) (pss_one (ps_ret (pe_tup (pa_cons (pv 2) pa_nil)))) pss_nil) (pss_one (ps_ret (pe_callTy call_tuple_of (by rfl) B.tuple (by decide +kernel) (pa_cons (pe_lc (own := [("_law_z", 3)]) (g := gName 3) rfl scLGoalsOf.nd (pi_range1 rfl B.range (pa_cons (pv 1) pa_nil)) (blkOk_by (N := nLGoalsOf) (sc := defScope sLGoalsOf) (by decide +kernel)) (fun _ _ _ _ _ => (pg_name (i := 3) scLGoalsOf.nd rfl (Or.inl rfl))) (fun _ _ _ _ _ => (pts_one (PW.pt (pw_or (pt_cmpR op_eq (pv 3) (pv 2) (nomark _)) (pw_or1 (pt_cmpR op_eq (pe_own Op (hr.mono (by omega)) (pa_cons (pv 0) (pa_cons pe_int pa_nil))) pe_int (nomark _))))))) (fun _ _ _ _ _ => (pv 3))) pa_nil)))))), ?_⟩
    try dsimp only [cxOf, Cx.nox, Cx.wish]
    walk_at "go"
    refine ⟨b, _, n, rfl, hb, by omega, by omega, fun r1 H1 r10 r11 hb1 of1 => ?_⟩
    obtain ⟨a, rfl⟩ : ∃ a : Nat, r1 = (a : Int) := ⟨r1.toNat, by omega⟩
    have ha : a < many := by omega
    walk_at "go"
    refine ⟨b, _, n + 1, rfl, hb1, by omega, by decide, fun r2 H2 _ _ hb2 of2 => ?_⟩
    walk_at "go"
    have k2 := of1.kp.trans of2.kp
    refine r_iteN' (fun h0 => ?_) (fun h0 => ?_)
    · walk_at "go"
      refine ⟨(by show 1 ≤ sizeLine; decide), fun T hT => ?_⟩
      exact k _ T [a] upd_same (by simp) (by simp) (fun g hg => by rw [List.mem_singleton.mp hg]; exact ha) ((hb2.new hT).mono (by omega)) (k2.trans (Same.kp (same_new hT)))
    · walk_at "go"
      refine ⟨by omega, by omega, fun D hD => ?_⟩
      have nDb := hb2.ne hD
      have hDn : H D = none := by
        cases e : H D with
        | none => rfl
        | some o => exact absurd (k2 D o nDb e) (by rw [hD]; intro z; cases z)
      refine lc_it (walk_rng (lo := 0) (n := many)) (fun i H' => ∃ gs : List Nat, H' D = some (.lst (gs.map vi)) ∧ gs.Pairwise (· < ·) ∧ (∀ g ∈ gs, g < i) ∧ (a < i → a ∈ gs) ∧ gs.length ≤ i ∧ IsBag H' b (n + 2 + i) ∧ Kp b H H') ⟨[], upd_same, .nil, (fun g h => by cases h), (fun h => absurd h (Nat.not_lt_zero a)), Nat.le_refl _, hb2.new hD, k2.trans (Same.kp (same_new hD))⟩ (fun _ _ _ _ => trivial) ?_ ?_
      · rintro i x H3 H3' hi ⟨gs, eD, up, lt, ma, gl, hb3, k3⟩ ⟨rfl, hx⟩
        rw [List.length_map, List.length_range] at hi
        rw [List.getElem?_map, List.getElem?_range hi] at hx
        obtain rfl := Option.some.inj hx
        refine ⟨rfl, ?_⟩
        have stay : ∀ H', IsBag H' b (n + 2 + i + 1) → Kp b H3' H' → ∃ acc, H' D = some (.lst acc) ∧ acc.length < sizeLine ∧ ∃ gs : List Nat, (upd H' D (.lst (acc ++ [vi i]))) D = some (.lst (gs.map vi)) ∧ gs.Pairwise (· < ·) ∧ (∀ g ∈ gs, g < i + 1) ∧ (a < i + 1 → a ∈ gs) ∧ gs.length ≤ i + 1 ∧
            IsBag (upd H' D (.lst (acc ++ [vi i]))) b (n + 2 + (i + 1)) ∧ Kp b H (upd H' D (.lst (acc ++ [vi i]))) := fun H' hb' k' => by
          refine ⟨gs.map vi, k' _ _ nDb eD, line60 (by rw [List.length_map]; omega), gs ++ [i], by rw [upd_same, List.map_append]; rfl, ?_, ?_, ?_, by rw [List.length_append, List.length_singleton]; omega, bag_upd hb' nDb, kp_upd' (k3.trans k') hDn⟩
          · rw [List.pairwise_append]
            exact ⟨up, by simp, fun u hu v hv => by rw [List.mem_singleton.mp hv]; exact lt u hu⟩
          · intro g hg
            rcases List.mem_append.mp hg with q | q
            · have := lt g q; omega
            · rw [List.mem_singleton.mp q]; omega
          · intro q
            by_cases e : a = i
            · rw [e]; simp
            · exact List.mem_append_left _ (ma (by omega))
        dsimp only
        rw [Int.zero_add]
        walk_at "go"
        refine r_iteN' (fun h1 => ?_) (fun h1 => ?_)
        · walk_at "go"
          exact stay _ (hb3.mono (by omega)) (Kp.refl _ _)
        · walk_at "go"
          refine ⟨b, _, n + 2 + i, rfl, hb3, by omega, by decide, fun r4 H4 _ _ hb4 of4 => ?_⟩
          walk_at "go"
          refine r_iteN' (fun h2 => ?_) (fun h2 => ?_)
          · walk_at "go"
            exact stay _ hb4 of4.kp
          · walk_at "go"
            refine ⟨gs, of4.kp _ _ nDb eD, up, (fun g hg => by have := lt g hg; omega), (fun q => ma ?_), by omega, hb4, k3.trans of4.kp⟩
            have : ¬ (i = a) := fun e => h1 (by rw [e])
            omega
      · rintro H3 ⟨gs, eD, up, lt, ma, gl, hb3, k3⟩
        rw [List.length_map, List.length_range] at *
        walk_at "go"
        refine ⟨D, gs.map vi, rfl, .inl ⟨SqL.of eD, fun T hT => ?_⟩⟩
        have hm := ma ha
        exact k _ T gs upd_same (fun q => by rw [q] at hm; cases hm) up lt ((hb3.new hT).mono (by omega)) (k3.trans (Same.kp (same_new hT)))
end
end K4

/-! L11f -/


namespace K4
open PySem L2 K1
abbrev sLFacesOf : Stmt := top 65
abbrev nLFacesOf : List Str := ["_law_bag", "_law_signs", "_law_told", "_law_k", "_law_face"]
theorem scLFacesOf : FnScope nLFacesOf ["_law_bag", "_law_signs"] (defScope sLFacesOf) := ⟨rfl, rfl, rfl, by decide +kernel, rfl, by decide +kernel, by decide +kernel⟩
theorem tl_app (x y : Str) : tl (x ++ y) = tl x ++ tl y := K1.app_cps x y
theorem tl_cut_to {x : Str} (j : Nat) : tl (cutS x none (some (j : Int))) = (tl x).take j := by
  have hl := len_tl x
  unfold cutS
  rw [HT.sIx_none, HT.sIx_nat]
  show ((tl x).drop 0).take (min j x.length - 0) = _
  rw [List.drop_zero, Nat.sub_zero]
  by_cases h : j ≤ x.length
  · rw [Nat.min_eq_left h]
  · rw [Nat.min_eq_right (by omega), List.take_of_length_le (by omega), List.take_of_length_le (by omega)]
theorem tl_cut_from {x : Str} (i : Nat) : tl (cutS x (some (i : Int)) none) = (tl x).drop i := by
  have hl := len_tl x
  unfold cutS
  rw [HT.sIx_none, HT.sIx_nat]
  show ((tl x).drop (min i x.length)).take (x.length - min i x.length) = _
  by_cases h : i ≤ x.length
  · rw [Nat.min_eq_left h, List.take_of_length_le (by rw [List.length_drop]; omega)]
  · rw [Nat.min_eq_right (by omega)]
    have e1 : (tl x).drop i = [] := List.drop_eq_nil_of_le (by omega)
    have e2 : (tl x).drop x.length = [] := List.drop_eq_nil_of_le (by omega)
    rw [e1, e2]; simp
/-- a mixed row of signs, put together -/
theorem mixed_join {z : Str} {ys : List Str} (h : ys.Perm (sgn z)) : (tl (Txt.join "" ys)).length = (tl z).length ∧ (∀ c ∈ tl (Txt.join "" ys), c ∈ tl z) ∧ (ys.map (·.length)).sum = (tl z).length ∧ ys.length = (tl z).length := by
  have hs : sgn z = (tl z).map one := K1.sgn_one z
  rw [hs] at h
  obtain ⟨l, rfl⟩ := K1.ones (zs := ys) fun y hy => by
    obtain ⟨c, _, rfl⟩ := List.mem_map.mp (h.mem_iff.mp hy)
    exact ⟨c, rfl⟩
  have hll : l.length = (tl z).length := by have := h.length_eq; simpa using this
  rw [tl_join1]
  refine ⟨hll, fun c hc => ?_, ?_, by rw [List.length_map]; exact hll⟩
  · obtain ⟨d, hd, e⟩ := List.mem_map.mp (h.mem_iff.mp (List.mem_map.mpr ⟨c, hc, rfl⟩))
    rw [← K1.one_inj e]; exact hd
  · rw [List.map_map, ← hll]
    clear hll h hs
    induction l with
    | nil => rfl
    | cons c l ih => rw [List.map_cons, List.sum_cons, List.length_cons, ih]; show 1 + l.length = _; omega
abbrev OMixed (P : Program) (w : World) (K : PySem.W.Frag) (mg : Str → Option Value) (base : Heap) : Prop := Own P w K mg base "_law_mixed" 2 ["_law_bag", "_law_row"] spMixed
def spFacesG (K : PySem.W.Frag) : Sp := fun vs H Q _ => ∃ (b : Addr) (z : Str) (n : Nat), vs = [.ref b, .str z] ∧ IsBag H b n ∧ n ≤ 2 ^ 39 ∧ Good z ∧ ∀ H' T fs, H' T = some (.tup (fs.map V.str)) → Ow.fit (tl z) (.faces fs) → IsBag H' b (n + 100) → Kp b H H' → Q (.ref T) H'
section
variable {P : Program} {w : World} {K : PySem.W.Frag} {mg : Str → Option Value} {base : Heap} {dO dI : Addr}
theorem ok_facesOf {f : Addr} {fd : FuncData} (F : Fun K "_law_faces_of" "_law_faces_of" sLFacesOf f fd) (B : Bl mg) (Op : OPick P w K mg base) (Omx : OMixed P w K mg base) : FnOk P w K mg base CX0 3 f fd ["_law_bag", "_law_signs"] (spFacesG K) := by
  refine F.ok scLFacesOf (fun vs H Q E h => ?_) (fun cdv A outer s H vs Q E hr h => ?_)
  · obtain ⟨b, z, n, rfl, _⟩ := h
    rfl
  · obtain ⟨b, z, n, rfl, hb, hn, gz, k⟩ := h
    refine ⟨_, (pss_cons (ps_set (i := 2) scLFacesOf.nd rfl (Or.inl rfl) (pe_lst pa_nil)) (pss_cons (ps_for PassesOwn.never rfl (pi_range1 rfl B.range (pa_cons (pe_op op_add pe_int (pe_own Op (hr.mono (by omega)) (pa_cons (pv 0) (pa_cons pe_int pa_nil)))) pa_nil)) (pg_name (i := 3) scLFacesOf.nd rfl (Or.inl rfl)) (pss_cons (ps_set (i := 4) scLFacesOf.nd rfl (Or.inl rfl) (pe_m1 PySem.F.slot_str_join PySem.F.type_str_join mt_join pe_str (pe_own Omx (hr.mono (by omega)) (pa_cons (pv 0) (pa_cons (pv 1) pa_nil))))) (pss_one (ps_expr (pe_bm PySem.F.plainAttrs_list PySem.F.slot_list_append PySem.F.type_list_append mt_append (pv 2) (pa_cons (pe_ifExp (pt_cmpR op_gt (pe_own Op (hr.mono (by omega)) (pa_cons (pv 0) (pa_cons pe_int pa_nil))) pe_int (nomark _)) (pv 4) (pe_op op_add_str (pe_op op_add_str (pe_slice sl_str (pv 4) po_none (po_some pe_int)) (pe_slice sl_str (pv 4) po_none (po_some pe_int))) (pe_slice sl_str (pv 4) (po_some pe_int) po_none))) pa_nil)))))) (pss_one (ps_ret (pe_callTy call_tuple_of (by rfl) B.tuple (by decide +kernel) (pa_cons (pv 2) pa_nil)))))), ?_⟩
    try dsimp only [cxOf, Cx.nox, Cx.wish]
    have z2 : 2 ≤ (tl z).length := gz.lo
    have z12 : (tl z).length ≤ 12 := gz.hi
    have lz := len_tl z
    have e0 : ("" : Str).length = 0 := by decide +kernel
    walk_at "go"
    refine ⟨(by show 0 ≤ sizeLine; decide), fun D hD => ?_⟩
    have nDb := hb.ne hD
    walk_at "go"
    refine ⟨b, _, n, rfl, hb.new hD, by omega, by decide, fun r1 H1 r10 r11 hb1 of1 => ?_⟩
    obtain ⟨cnt, hcnt⟩ : ∃ cnt : Nat, 1 + r1 = (cnt : Int) := ⟨(1 + r1).toNat, by omega⟩
    have c12 : 1 ≤ cnt ∧ cnt ≤ 2 := by omega
    walk_at "go"
    rw [hcnt]
    refine ⟨by omega, by omega, fr_range (lo := 0) (n := cnt) (fun i σ H' => ∃ (o3 o4 : Option V) (fs : List Str), σ = [some (.ref b), some (.str z), some (.ref D), o3, o4] ∧ IsBag H' b (n + 1 + 20 * i) ∧ Kp b H H' ∧ H' D = some (.lst (fs.map V.str)) ∧ fs.length = i ∧ ∀ f ∈ fs, (tl f).length = (tl z).length ∧ ∀ c ∈ tl f, c ∈ tl z)
      ⟨none, none, [], rfl, hb1, (Same.kp (same_new hD)).trans of1.kp, of1.at nDb upd_same, rfl, (fun f h => by cases h)⟩ ?_ ?_⟩
    · rintro i σ H3 hi ⟨o3, o4, fs, rfl, hb3, k3, eD, lf, hf⟩
      walk_at "go"
      refine ⟨b, z, n + 1 + 20 * i, rfl, hb3, by omega, by omega, fun ys H4 p hperm hb4 k4 hp4 e4 np4 => ?_⟩
      obtain ⟨j1, j2, j3, j4⟩ := mixed_join hperm
      refine ⟨_, p, ys, rfl, rfl, .inl (SqL.of e4), by rw [e0, j3]; omega, ?_⟩
      generalize Txt.join (Str.ofString "") ys = fc at j1 j2 ⊢
      have lfc := len_tl fc
      walk_at "go"
      have eD4 := k4 _ _ nDb eD
      refine ⟨tyL (SqL.of eD4), ?_⟩
      refine r_cons (r_ifJ (fun x H' => ∃ y : Str, x = .str y ∧ ((tl y).length = (tl z).length ∧ ∀ c ∈ tl y, c ∈ tl z) ∧ IsBag H' b (n + 1 + 20 * (i + 1)) ∧ Off b H4 H') (fun Q' h => ?_) ?_)
      · walk_at "go"
        refine ⟨b, _, _, rfl, hb4, by omega, by decide, fun r5 H5 _ _ hb5 of5 => ?_⟩
        walk_at "go"
        refine r_iteN' (fun h0 => ?_) (fun h0 => ?_)
        · walk_at "go"
          exact h _ _ ⟨fc, rfl, ⟨j1, j2⟩, hb5.mono (by omega), of5⟩
        · walk_at "go"
          have t1 : tl (cutS fc none (some 1)) = (tl fc).take 1 := tl_cut_to 1
          have t2 : tl (cutS fc (some 2) none) = (tl fc).drop 2 := tl_cut_from 2
          have g1 := len_tl (cutS fc none (some 1))
          have g2 := len_tl (cutS fc (some 2) none)
          rw [t1, List.length_take] at g1
          rw [t2, List.length_drop] at g2
          refine ⟨small_line (by omega), ?_⟩
          walk_at "go"
          refine ⟨small_line (by omega), ?_⟩
          walk_at "go"
          refine ⟨_, _, rfl, rfl, small_line (by omega), ?_⟩
          walk_at "go"
          refine ⟨small_line (by omega), ?_⟩
          walk_at "go"
          have g3 := len_tl (cutS fc none (some 1) ++ cutS fc none (some 1))
          rw [tl_app, List.length_append, t1, List.length_take] at g3
          refine ⟨_, _, rfl, rfl, small_line (by omega), ?_⟩
          refine h _ _ ⟨_, rfl, ⟨?_, fun c hc => ?_⟩, hb5.mono (by omega), of5⟩
          · rw [tl_app, tl_app, List.length_append, List.length_append, t1, t2, List.length_take, List.length_drop]; omega
          · rw [tl_app, tl_app, t1, t2] at hc
            rcases List.mem_append.mp hc with q | q
            · rcases List.mem_append.mp q with q | q
              · exact j2 c (List.mem_of_mem_take q)
              · exact j2 c (List.mem_of_mem_take q)
            · exact j2 c (List.mem_of_mem_drop q)
      · rintro x H5 ⟨y, rfl, hy, hb5, of5⟩
        walk_at "go"
        have eD5 := of5.at nDb eD4
        have hDH : H D = none := hD
        refine ⟨D, fs.map V.str, _, rfl, rfl, eD5, line60 (by rw [List.length_map]; omega), ?_⟩
        refine ⟨_, _, fs ++ [y], rfl, bag_upd hb5 nDb, kp_upd' (k3.trans (k4.trans of5.kp)) hDH, by rw [upd_same, List.map_append]; rfl, by rw [List.length_append, lf]; rfl, fun f hf' => ?_⟩
        rcases List.mem_append.mp hf' with q | q
        · exact hf f q
        · rw [List.mem_singleton.mp q]; exact hy
    · rintro σ H3 ⟨o3, o4, fs, rfl, hb3, k3, eD, lf, hf⟩
      walk_at "go"
      refine ⟨D, fs.map V.str, rfl, .inl ⟨SqL.of eD, fun T hT => ?_⟩⟩
      exact k _ T fs upd_same ⟨fun e => by rw [e] at lf; simp at lf; omega, by omega, hf⟩ ((hb3.new hT).mono (by omega)) (k3.trans (Same.kp (same_new hT)))
end
end K4

/-! L11g -/


namespace K4
open PySem L2 K1
abbrev sLSlipped : Stmt := top 77
abbrev nLSlipped : List Str := ["_law_bag", "_law_signs", "_law_paper", "_law_at", "_law_wrong", "_law_turned", "_law_longer"]
theorem scLSlipped : FnScope nLSlipped ["_law_bag", "_law_signs", "_law_paper"] (defScope sLSlipped) := ⟨rfl, rfl, rfl, by decide +kernel, rfl, by decide +kernel, by decide +kernel⟩
theorem cut_mem {x : Str} {lo hi : Option Int} : ∀ c ∈ tl (cutS x lo hi), c ∈ tl x := fun c hc => by
  unfold cutS at hc
  have h : c ∈ ((tl x).drop (HT.sIx x.length 0 lo)).take (HT.sIx x.length x.length hi - HT.sIx x.length 0 lo) := hc
  exact List.mem_of_mem_drop (List.mem_of_mem_take h)
def spSlipped (K : PySem.W.Frag) : Sp := fun vs H Q _ => ∃ (b : Addr) (z p : Str) (n : Nat), vs = [.ref b, .str z, .str p] ∧ IsBag H b n ∧ n ≤ 2 ^ 39 ∧ Good z ∧ Pp (tl z) (tl p) ∧
  ∀ H' L x1 x2 x3, H' L = some (.lst [V.str x1, V.str x2, V.str x3]) → (∀ x ∈ [x1, x2, x3], Pp (tl z) (tl x)) → IsBag H' b (n + 10) → Kp b H H' → Q (.ref L) H'
section
variable {P : Program} {w : World} {K : PySem.W.Frag} {mg : Str → Option Value} {base : Heap} {dO dI : Addr}
/-- a sign picked -/
theorem one_sign {z : Str} {b : Addr} {n : Nat} {H : Hp} {Q : VK} (gz : Good z) (hb : IsBag H b n) (hn : n ≤ 2 ^ 40) (k : ∀ c H', c ∈ tl z → IsBag H' b (n + 1) → Off b H H' → Q (.str (one c)) H') : spOneOf K [.ref b, .str z] H Q E0 := by
  have z2 : 2 ≤ (K1.tl z).length := gz.lo
  have z12 : (K1.tl z).length ≤ 12 := gz.hi
  have lz : z.length = (K1.tl z).length := K1.len_tl' z
  refine ⟨b, _, _, n, rfl, hb, hn, .inl ⟨z, rfl, rfl, by omega⟩, ?_, fun x H2 hx hb2 of2 => ?_⟩
  · intro q
    have := congrArg List.length q
    rw [List.length_map, sgn_len, List.length_nil] at this
    omega
  · obtain ⟨c, hc, rfl⟩ := mem_sgn hx
    exact k c H2 hc hb2 of2
theorem ok_slipped {f : Addr} {fd : FuncData} (F : Fun K "_law_slipped" "_law_slipped" sLSlipped f fd) (B : Bl mg) (Op : OPick P w K mg base) (Oo : OOneOf P w K mg base) : FnOk P w K mg base CX0 3 f fd ["_law_bag", "_law_signs", "_law_paper"] (spSlipped K) := by
  refine F.ok scLSlipped (fun vs H Q E h => ?_) (fun cdv A outer s H vs Q E hr h => ?_)
  · obtain ⟨b, z, p, n, rfl, _⟩ := h
    rfl
  · obtain ⟨b, z, p, n, rfl, hb, hn, gz, hp, k⟩ := h
    refine ⟨_, (pss_cons (ps_set (i := 3) scLSlipped.nd rfl (Or.inl rfl) (pe_own Op (hr.mono (by omega)) (pa_cons (pv 0) (pa_cons (pe_callB (call_max2 rfl) (by rfl) B.max (by decide +kernel) (pa_cons pe_int (pa_cons (pe_callB call_len (by rfl) B.len PySem.boot_len (pa_cons (pv 2) pa_nil)) pa_nil))) pa_nil)))) (pss_cons (ps_set (i := 4) scLSlipped.nd rfl (Or.inl rfl) (pe_op op_add_str (pe_op op_add_str (pe_slice sl_str (pv 2) po_none (po_some (pv 3))) (pe_own Oo (hr.mono (by omega)) (pa_cons (pv 0) (pa_cons (pv 1) pa_nil)))) (pe_slice sl_str (pv 2) (po_some (pe_op op_add (pv 3) pe_int)) po_none))) (pss_cons (ps_set (i := 5) scLSlipped.nd rfl (Or.inl rfl) (pe_op op_add_str (pe_op op_add_str (pe_op op_add_str (pe_slice sl_str (pv 2) po_none (po_some (pv 3))) (pe_slice sl_str (pv 2) (po_some (pe_op op_add (pv 3) pe_int)) (po_some (pe_op op_add (pv 3) pe_int)))) (pe_slice sl_str (pv 2) (po_some (pv 3)) (po_some (pe_op op_add (pv 3) pe_int)))) (pe_slice sl_str (pv 2) (po_some (pe_op op_add (pv 3) pe_int)) po_none))) (pss_cons (ps_set (i := 6) scLSlipped.nd rfl (Or.inl rfl) (pe_slice sl_str (pe_op op_add_str (pe_op op_add_str (pe_slice sl_str (pv 2) po_none (po_some (pv 3))) (pe_own Oo (hr.mono (by omega)) (pa_cons (pv 0) (pa_cons (pv 1) pa_nil)))) (pe_slice sl_str (pv 2) (po_some (pv 3)) po_none)) po_none (po_some pe_int))) (pss_one (ps_ret (pe_lst (pa_cons (pv 4) (pa_cons (pv 5) (pa_cons (pe_ifExp (pt_cmpR op_eq (pe_own Op (hr.mono (by omega)) (pa_cons (pv 0) (pa_cons pe_int pa_nil))) pe_int (nomark _)) (pv 6) (pe_op op_add_str (pe_slice sl_str (pv 2) po_none (po_some (pv 3))) (pe_slice sl_str (pv 2) (po_some (pe_op op_add (pv 3) pe_int)) po_none))) pa_nil)))))))))), ?_⟩
    try dsimp only [cxOf, Cx.nox, Cx.wish]
    have lp := len_tl p
    have p60 := hp.le
    walk_at "go"
    refine ⟨_, _, rfl, lenS (small_line (by omega)), ?_⟩
    walk_at "go"
    refine ⟨_, _, rfl, ?_⟩
    have hmax : (if (p.length : Int) > 1 then (p.length : Int) else 1) ≤ 60 ∧ 1 ≤ (if (p.length : Int) > 1 then (p.length : Int) else 1) ∧ (∀ r : Int, 0 ≤ r → (r < (if (p.length : Int) > 1 then (p.length : Int) else 1) ∨ ((if (p.length : Int) > 1 then (p.length : Int) else 1) < 2 ∧ r = 0)) → r ≤ p.length ∧ (r < p.length ∨ p.length = 0)) := by
      by_cases q : (p.length : Int) > 1
      · rw [if_pos q]; exact ⟨by omega, by omega, fun r h0 h => by omega⟩
      · rw [if_neg q]; exact ⟨by omega, by omega, fun r h0 h => by omega⟩
    walk_at "go"
    refine ⟨b, _, n, rfl, hb, by omega, by omega, fun r H1 r0 r1 hb1 of1 => ?_⟩
    obtain ⟨hrl, hrz⟩ := hmax.2.2 r r0 r1
    obtain ⟨a, rfl⟩ : ∃ a : Nat, r = (a : Int) := ⟨r.toNat, by omega⟩
    have e1 : ((a : Int) + 1) = ((a + 1 : Nat) : Int) := rfl
    have e2 : ((a : Int) + 2) = ((a + 2 : Nat) : Int) := rfl
    -- the pieces
    have tA : tl (cutS p none (some (a : Int))) = (tl p).take a := tl_cut_to a
    have tB : tl (cutS p (some ((a : Int) + 1)) none) = (tl p).drop (a + 1) := tl_cut_from (a + 1)
    have tC' : tl (cutS p (some ((a : Int) + 1)) (some ((a : Int) + 2))) = ((tl p).drop (a + 1)).take 1 := by
      rw [e1, e2, tl_cut_mid]; congr 1; omega
    have tD : tl (cutS p (some (a : Int)) (some ((a : Int) + 1))) = ((tl p).drop a).take 1 := by
      rw [e1, tl_cut_mid]; congr 1; omega
    have tE : tl (cutS p (some ((a : Int) + 2)) none) = (tl p).drop (a + 2) := tl_cut_from (a + 2)
    have tF : tl (cutS p (some (a : Int)) none) = (tl p).drop a := tl_cut_from a
    have lA : (cutS p none (some (a : Int))).length = min a (tl p).length := by rw [len_tl, tA, List.length_take]
    have lB : (cutS p (some ((a : Int) + 1)) none).length = (tl p).length - (a + 1) := by rw [len_tl, tB, List.length_drop]
    have lC : (cutS p (some ((a : Int) + 1)) (some ((a : Int) + 2))).length = min 1 ((tl p).length - (a + 1)) := by rw [len_tl, tC', List.length_take, List.length_drop]
    have lD : (cutS p (some (a : Int)) (some ((a : Int) + 1))).length = min 1 ((tl p).length - a) := by rw [len_tl, tD, List.length_take, List.length_drop]
    have lE : (cutS p (some ((a : Int) + 2)) none).length = (tl p).length - (a + 2) := by rw [len_tl, tE, List.length_drop]
    have lF : (cutS p (some (a : Int)) none).length = (tl p).length - a := by rw [len_tl, tF, List.length_drop]
    have ap : ∀ x y : Str, (x ++ y).length = x.length + y.length := fun x y => by rw [len_tl, tl_app, List.length_append, ← len_tl, ← len_tl]
    have l1 : ∀ c : Nat, (one c).length = 1 := fun _ => rfl
    have sub2 : ∀ x y : Str, (∀ c ∈ tl x, c ∈ tl z) → (∀ c ∈ tl y, c ∈ tl z) → ∀ c ∈ tl (x ++ y), c ∈ tl z := fun x y hx hy c hc => by
      rw [tl_app] at hc
      rcases List.mem_append.mp hc with q | q
      · exact hx c q
      · exact hy c q
    have sp : ∀ lo hi, ∀ c ∈ tl (cutS p lo hi), c ∈ tl z := fun lo hi c hc => hp.all c (cut_mem c hc)
    have so : ∀ d, d ∈ tl z → ∀ c ∈ tl (one d), c ∈ tl z := fun d hd c hc => by
      have : c = d := by simpa using (show c ∈ [d] from hc)
      rw [this]; exact hd
    walk_at "go"
    refine ⟨small_line (by omega), ?_⟩
    walk_at "go"
    refine one_sign gz hb1 (by omega) (fun c1 H2 hc1 hb2 of2 => ?_)
    have lw := ap (cutS p none (some (a : Int))) (one c1)
    have lw1 := l1 c1
    refine ⟨_, _, rfl, rfl, small_line (by omega), ?_⟩
    walk_at "go"
    refine ⟨small_line (by omega), ?_⟩
    walk_at "go"
    have lw2 := ap (cutS p none (some (a : Int)) ++ one c1) (cutS p (some ((a : Int) + 1)) none)
    refine ⟨_, _, rfl, rfl, small_line (by omega), ?_⟩
    walk_at "go"
    refine ⟨small_line (by omega), ?_⟩
    walk_at "go"
    refine ⟨small_line (by omega), ?_⟩
    walk_at "go"
    have lt1 := ap (cutS p none (some (a : Int))) (cutS p (some ((a : Int) + 1)) (some ((a : Int) + 2)))
    refine ⟨_, _, rfl, rfl, small_line (by omega), ?_⟩
    walk_at "go"
    refine ⟨small_line (by omega), ?_⟩
    walk_at "go"
    have lt2 := ap (cutS p none (some (a : Int)) ++ cutS p (some ((a : Int) + 1)) (some ((a : Int) + 2))) (cutS p (some (a : Int)) (some ((a : Int) + 1)))
    refine ⟨_, _, rfl, rfl, small_line (by omega), ?_⟩
    walk_at "go"
    refine ⟨small_line (by omega), ?_⟩
    walk_at "go"
    have lt3 := ap (cutS p none (some (a : Int)) ++ cutS p (some ((a : Int) + 1)) (some ((a : Int) + 2)) ++ cutS p (some (a : Int)) (some ((a : Int) + 1))) (cutS p (some ((a : Int) + 2)) none)
    refine ⟨_, _, rfl, rfl, small_line (by omega), ?_⟩
    walk_at "go"
    refine ⟨small_line (by omega), ?_⟩
    walk_at "go"
    refine one_sign gz hb2 (by omega) (fun c2 H3 hc2 hb3 of3 => ?_)
    have ll1 := ap (cutS p none (some (a : Int))) (one c2)
    have l12 := l1 c2
    refine ⟨_, _, rfl, rfl, small_line (by omega), ?_⟩
    walk_at "go"
    refine ⟨small_line (by omega), ?_⟩
    walk_at "go"
    have ll2 := ap (cutS p none (some (a : Int)) ++ one c2) (cutS p (some (a : Int)) none)
    refine ⟨_, _, rfl, rfl, small_line (by omega), ?_⟩
    walk_at "go"
    refine ⟨small_line (by omega), ?_⟩
    have k3 : Kp b H H3 := of1.kp.trans (of2.kp.trans of3.kp)
    have w1 : Pp (tl z) (tl (cutS p none (some (a : Int)) ++ one c1 ++ cutS p (some ((a : Int) + 1)) none)) := ⟨by rw [← len_tl]; omega, sub2 _ _ (sub2 _ _ (sp _ _) (so _ hc1)) (sp _ _)⟩
    have w2 : Pp (tl z) (tl (cutS p none (some (a : Int)) ++ cutS p (some ((a : Int) + 1)) (some ((a : Int) + 2)) ++ cutS p (some (a : Int)) (some ((a : Int) + 1)) ++ cutS p (some ((a : Int) + 2)) none)) := ⟨by rw [← len_tl]; omega, sub2 _ _ (sub2 _ _ (sub2 _ _ (sp _ _) (sp _ _)) (sp _ _)) (sp _ _)⟩
    walk_at "go"
    refine ⟨b, _, _, rfl, hb3, by omega, by decide, fun r4 H4 _ _ hb4 of4 => ?_⟩
    walk_at "go"
    refine r_iteN' (fun h0 => ?_) (fun h0 => ?_)
    · have w3 : Pp (tl z) (tl (cutS (cutS p none (some (a : Int)) ++ one c2 ++ cutS p (some (a : Int)) none) none (some 60))) := by
        have t60 : tl (cutS (cutS p none (some (a : Int)) ++ one c2 ++ cutS p (some (a : Int)) none) none (some 60)) = _ := tl_cut_to 60
        refine ⟨by rw [t60, List.length_take]; omega, fun c hc => sub2 _ _ (sub2 _ _ (sp _ _) (so _ hc2)) (sp _ _) c (cut_mem c hc)⟩
      walk_at "go"
      refine ⟨(by show 3 ≤ sizeLine; decide), fun L hL => ?_⟩
      refine k _ L _ _ _ upd_same (fun x hx => ?_) ((hb4.new hL).mono (by omega)) ((k3.trans of4.kp).trans (Same.kp (same_new hL)))
      simp only [List.mem_cons, List.not_mem_nil, or_false] at hx
      rcases hx with rfl | rfl | rfl
      · exact w1
      · exact w2
      · exact w3
    · walk_at "go"
      refine ⟨small_line (by omega), ?_⟩
      walk_at "go"
      refine ⟨small_line (by omega), ?_⟩
      walk_at "go"
      have ls := ap (cutS p none (some (a : Int))) (cutS p (some ((a : Int) + 1)) none)
      refine ⟨_, _, rfl, rfl, small_line (by omega), ?_⟩
      have w3 : Pp (tl z) (tl (cutS p none (some (a : Int)) ++ cutS p (some ((a : Int) + 1)) none)) := ⟨by rw [← len_tl]; omega, sub2 _ _ (sp _ _) (sp _ _)⟩
      walk_at "go"
      refine ⟨(by show 3 ≤ sizeLine; decide), fun L hL => ?_⟩
      refine k _ L _ _ _ upd_same (fun x hx => ?_) ((hb4.new hL).mono (by omega)) ((k3.trans of4.kp).trans (Same.kp (same_new hL)))
      simp only [List.mem_cons, List.not_mem_nil, or_false] at hx
      rcases hx with rfl | rfl | rfl
      · exact w1
      · exact w2
      · exact w3
end
end K4

/-! L11h -/


namespace K4
open PySem L2 K1
abbrev sLWrapped : Stmt := top 76
abbrev nLWrapped : List Str := ["_law_bag", "_law_signs", "_law_rule", "_law_count", "_law_k", "_law_way"]
theorem scLWrapped : FnScope nLWrapped ["_law_bag", "_law_signs", "_law_rule", "_law_count"] (defScope sLWrapped) := ⟨rfl, rfl, rfl, by decide +kernel, rfl, by decide +kernel, by decide +kernel⟩
def spWrapped (K : PySem.W.Frag) : Sp := fun vs H Q _ => ∃ (b : Addr) (z : Str) (v : V) (r : R) (n cnt : Nat), vs = [.ref b, .str z, v, vi cnt] ∧ IsBag H b n ∧ n ≤ 2 ^ 39 ∧ Good z ∧ Dp K H v (r.data true) ∧ r.fit (tl z) ∧ cnt ≤ 40 ∧
  ∀ (H' : Hp) (v' : V) (r' : R), Dp K H' v' (r'.data true) → r'.fit (tl z) → r'.parts = r.parts + cnt → IsBag H' b (n + cnt) → Kp b H H' → Q v' H'
section
variable {P : Program} {w : World} {K : PySem.W.Frag} {mg : Str → Option Value} {base : Heap} {dO dI : Addr}
theorem dp_bag {H H' : Hp} {b : Addr} {n : Nat} {v : V} {r : R} (h : Dp K H v (r.data true)) (hb : IsBag H b n) (k : Kp b H H') : Dp K H' v (r.data true) := dp_pure (bag_kt hb k) _ _ r.pure h
theorem ok_wrapped {f : Addr} {fd : FuncData} (F : Fun K "_law_wrapped" "_law_wrapped" sLWrapped f fd) (B : Bl mg) (Op : OPick P w K mg base) : FnOk P w K mg base CX0 2 f fd ["_law_bag", "_law_signs", "_law_rule", "_law_count"] (spWrapped K) := by
  refine F.ok scLWrapped (fun vs H Q E h => ?_) (fun cdv A outer s H vs Q E hr h => ?_)
  · obtain ⟨b, z, v, r, n, cnt, rfl, _⟩ := h
    rfl
  · obtain ⟨b, z, v, r, n, cnt, rfl, hb, hn, gz, hv, hf, hc, k⟩ := h
    refine ⟨_, (pss_cons (ps_for PassesOwn.never rfl (pi_range1 rfl B.range (pa_cons (pv 3) pa_nil)) (pg_name (i := 4) scLWrapped.nd rfl (Or.inl rfl)) (pss_cons (ps_set (i := 5) scLWrapped.nd rfl (Or.inl rfl) (pe_own Op (hr.mono (by omega)) (pa_cons (pv 0) (pa_cons pe_int pa_nil)))) (pss_one (ps_if (pt_cmpR op_eq (pv 5) pe_int (nomark _)) (pss_one (ps_set (i := 2) scLWrapped.nd rfl (Or.inl rfl) (pe_tup (pa_cons pe_str (pa_cons (pe_tup (pa_cons (pv 1) pa_nil)) (pa_cons (pv 2) pa_nil)))))) (pss_one (ps_if (pt_cmpR op_eq (pv 5) pe_int (nomark _)) (pss_one (ps_set (i := 2) scLWrapped.nd rfl (Or.inl rfl) (pe_tup (pa_cons pe_str (pa_cons pe_int (pa_cons pe_int (pa_cons (pv 2) pa_nil))))))) (pss_one (ps_set (i := 2) scLWrapped.nd rfl (Or.inl rfl) (pe_ifExp (pt_cmpR op_eq (pv 5) pe_int (nomark _)) (pe_tup (pa_cons pe_str (pa_cons (pv 2) pa_nil))) (pe_tup (pa_cons pe_str (pa_cons (pv 2) pa_nil)))))))))))) (pss_one (ps_ret (pv 2)))), ?_⟩
    try dsimp only [cxOf, Cx.nox, Cx.wish]
    walk_at "go"
    refine ⟨by omega, by omega, fr_range (lo := 0) (n := cnt) (fun i σ H' => ∃ (o4 o5 : Option V) (v' : V) (r' : R), σ = [some (.ref b), some (.str z), some v', some (vi cnt), o4, o5] ∧ Dp K H' v' (r'.data true) ∧ r'.fit (tl z) ∧ r'.parts = r.parts + i ∧ IsBag H' b (n + i) ∧ Kp b H H')
      ⟨none, none, v, r, rfl, hv, hf, rfl, hb, Kp.refl _ _⟩ ?_ ?_⟩
    · rintro i σ H3 hi ⟨o4, o5, v', r', rfl, hv', hf', hp', hb3, k3⟩
      walk_at "go"
      refine ⟨b, _, n + i, rfl, hb3, by omega, by decide, fun r4 H4 _ _ hb4 of4 => ?_⟩
      have hv4 := dp_bag hv' hb3 of4.kp
      have k4 := k3.trans of4.kp
      have fin : ∀ (H5 : Hp) (o4' o5' : Option V) (v5 : V) (o : Ow), Same H4 H5 → Ow.fit (tl z) o → ar o.kind = 1 → Dp K H5 v5 ((R.n1 o r').data true) →
          ∃ (o4 o5 : Option V) (v' : V) (r' : R), [some (V.ref b), some (.str z), some v5, some (vi cnt), o4', o5'] = [some (.ref b), some (.str z), some v', some (vi cnt), o4, o5] ∧ Dp K H5 v' (r'.data true) ∧ r'.fit (tl z) ∧ r'.parts = r.parts + (i + 1) ∧ IsBag H5 b (n + (i + 1)) ∧ Kp b H H5 := fun H5 o4' o5' v5 o s5 ho har hd =>
        ⟨o4', o5', v5, .n1 o r', rfl, hd, ⟨ho, har, hf'⟩, by show r'.parts + 1 = _; omega, by
          obtain ⟨d, x, c, e, q⟩ := hb4
          exact ⟨d, x, c, s5 _ _ e, q⟩, k4.trans (Same.kp s5)⟩
      have ll : ∀ x ∈ tl z, x ∈ tl z := fun _ h => h
      walk_at "go"
      refine r_iteN' (fun h0 => ?_) (fun h0 => ?_)
      · walk_at "go"
        refine ⟨(by show 1 ≤ sizeLine; decide), fun p hp => ?_⟩
        walk_at "go"
        refine ⟨(by show 3 ≤ sizeLine; decide), fun q hq => ?_⟩
        have s1 := same_new (o := HO.tup [V.str z]) hp
        have s2 := same_new (o := HO.tup [V.str (Str.ofString "faces"), V.ref p, v']) hq
        walk_at "go"
        refine fin _ _ _ _ (.faces [z]) (s1.trans s2) ⟨by simp, by simp, fun f hf => by rw [List.mem_singleton.mp hf]; exact ⟨rfl, fun c hc => hc⟩⟩ rfl ?_
        exact .tup (SqT.of upd_same) (.cons (.str _) (.cons (.tup (SqT.of (s2 _ _ upd_same)) (.cons (.str z) .nil)) (.cons (dp_keep (Same.keeps (s1.trans s2)) _ _ hv4) .nil)))
      · walk_at "go"
        refine r_iteN' (fun h1 => ?_) (fun h1 => ?_)
        · walk_at "go"
          refine ⟨(by show 4 ≤ sizeLine; decide), fun q hq => ?_⟩
          have s2 := same_new (o := HO.tup [V.str (Str.ofString "cut"), .int 0, .int 0, v']) hq
          walk_at "go"
          refine fin _ _ _ _ (.cut 0 0) s2 ⟨by decide, by decide⟩ rfl ?_
          exact .tup (SqT.of upd_same) (.cons (.str _) (.cons (.int _) (.cons (.int _) (.cons (dp_keep (Same.keeps s2) _ _ hv4) .nil))))
        · walk_at "go"
          refine r_iteN' (fun h2 => ?_) (fun h2 => ?_)
          · walk_at "go"
            refine ⟨(by show 2 ≤ sizeLine; decide), fun q hq => ?_⟩
            have s2 := same_new (o := HO.tup [V.str (Str.ofString "not"), v']) hq
            walk_at "go"
            exact fin _ _ _ _ .not s2 trivial rfl (.tup (SqT.of upd_same) (.cons (.str _) (.cons (dp_keep (Same.keeps s2) _ _ hv4) .nil)))
          · walk_at "go"
            refine ⟨(by show 2 ≤ sizeLine; decide), fun q hq => ?_⟩
            have s2 := same_new (o := HO.tup [V.str (Str.ofString "back"), v']) hq
            walk_at "go"
            exact fin _ _ _ _ .back s2 trivial rfl (.tup (SqT.of upd_same) (.cons (.str _) (.cons (dp_keep (Same.keeps s2) _ _ hv4) .nil)))
    · rintro σ H3 ⟨o4, o5, v', r', rfl, hv', hf', hp', hb3, k3⟩
      walk_at "go"
      exact k H3 v' r' hv' hf' hp' hb3 k3
end
end K4

/-! L11i -/


namespace K4
open PySem L2 K1
abbrev sLWideFaces : Stmt := top 73
abbrev nLWideFaces : List Str := ["_law_bag", "_law_signs", "_law_told", "_law_k", "_law_sign"]
theorem scLWideFaces : FnScope nLWideFaces ["_law_bag", "_law_signs"] (defScope sLWideFaces) := ⟨rfl, rfl, rfl, by decide +kernel, rfl, by decide +kernel, by decide +kernel⟩
section
variable {P : Program} {w : World} {K : PySem.W.Frag} {mg : Str → Option Value} {base : Heap} {dO dI : Addr}
theorem ok_wideFaces {f : Addr} {fd : FuncData} (F : Fun K "_law_wide_faces" "_law_wide_faces" sLWideFaces f fd) (B : Bl mg) (Op : OPick P w K mg base) (Omx : OMixed P w K mg base) (Oo : OOneOf P w K mg base) : FnOk P w K mg base CX0 3 f fd ["_law_bag", "_law_signs"] (spFacesG K) := by
  refine F.ok scLWideFaces (fun vs H Q E h => ?_) (fun cdv A outer s H vs Q E hr h => ?_)
  · obtain ⟨b, z, n, rfl, _⟩ := h
    rfl
  · obtain ⟨b, z, n, rfl, hb, hn, gz, k⟩ := h
    refine ⟨_, (pss_cons (ps_set (i := 2) scLWideFaces.nd rfl (Or.inl rfl) (pe_lst pa_nil)) (pss_cons (ps_for PassesOwn.never rfl (pi_range1 rfl B.range (pa_cons (pe_op op_add pe_int (pe_own Op (hr.mono (by omega)) (pa_cons (pv 0) (pa_cons pe_int pa_nil)))) pa_nil)) (pg_name (i := 3) scLWideFaces.nd rfl (Or.inl rfl)) (pss_one (ps_if (pt_cmpR op_gt (pe_own Op (hr.mono (by omega)) (pa_cons (pv 0) (pa_cons pe_int pa_nil))) pe_int (nomark _)) (pss_one (ps_expr (pe_bm PySem.F.plainAttrs_list PySem.F.slot_list_append PySem.F.type_list_append mt_append (pv 2) (pa_cons (pe_m1 PySem.F.slot_str_join PySem.F.type_str_join mt_join pe_str (pe_own Omx (hr.mono (by omega)) (pa_cons (pv 0) (pa_cons (pv 1) pa_nil)))) pa_nil)))) (pss_one (ps_expr (pe_bm PySem.F.plainAttrs_list PySem.F.slot_list_append PySem.F.type_list_append mt_append (pv 2) (pa_cons (pe_m1 PySem.F.slot_str_join PySem.F.type_str_join mt_join pe_str (pe_lc (own := [("_law_sign", 4)]) (g := gName 4) (tt := tYes) rfl scLWideFaces.nd (pi_str (pv 1)) (blkOk_by (N := nLWideFaces) (sc := defScope sLWideFaces) (by decide +kernel)) (fun _ _ _ _ _ => (pg_name (i := 4) scLWideFaces.nd rfl (Or.inl rfl))) (fun _ _ _ _ _ => pts_nil) (fun _ _ _ _ _ => (pe_own Oo (hr.mono (by omega)) (pa_cons (pv 0) (pa_cons (pv 1) pa_nil)))))) pa_nil))))))) (pss_one (ps_ret (pe_callTy call_tuple_of (by rfl) B.tuple (by decide +kernel) (pa_cons (pv 2) pa_nil)))))), ?_⟩
    try dsimp only [cxOf, Cx.nox, Cx.wish]
    have z2 : 2 ≤ (tl z).length := gz.lo
    have z12 : (tl z).length ≤ 12 := gz.hi
    have lz := len_tl z
    have e0 : ("" : Str).length = 0 := by decide +kernel
    walk_at "go"
    refine ⟨(by show 0 ≤ sizeLine; decide), fun D hD => ?_⟩
    have nDb := hb.ne hD
    have hDH : H D = none := hD
    walk_at "go"
    refine ⟨b, _, n, rfl, hb.new hD, by omega, by decide, fun r1 H1 r10 r11 hb1 of1 => ?_⟩
    obtain ⟨cnt, hcnt⟩ : ∃ cnt : Nat, 1 + r1 = (cnt : Int) := ⟨(1 + r1).toNat, by omega⟩
    have c12 : 1 ≤ cnt ∧ cnt ≤ 4 := by omega
    walk_at "go"
    rw [hcnt]
    refine ⟨by omega, by omega, fr_range (lo := 0) (n := cnt) (fun i σ H' => ∃ (o3 o4 : Option V) (fs : List Str), σ = [some (.ref b), some (.str z), some (.ref D), o3, o4] ∧ IsBag H' b (n + 1 + 20 * i) ∧ Kp b H H' ∧ H' D = some (.lst (fs.map V.str)) ∧ fs.length = i ∧ ∀ f ∈ fs, (tl f).length = (tl z).length ∧ ∀ c ∈ tl f, c ∈ tl z)
      ⟨none, none, [], rfl, hb1, (Same.kp (same_new hD)).trans of1.kp, of1.at nDb upd_same, rfl, (fun f h => by cases h)⟩ ?_ ?_⟩
    · rintro i σ H3 hi ⟨o3, o4, fs, rfl, hb3, k3, eD, lf, hf⟩
      have add : ∀ (H5 : Hp) (y : Str) (o3' o4' : Option V), ((tl y).length = (tl z).length ∧ ∀ c ∈ tl y, c ∈ tl z) → IsBag H5 b (n + 1 + 20 * (i + 1)) → Kp b H3 H5 → H5 D = some (.lst (fs.map V.str)) →
          ∃ (o3 o4 : Option V) (fs' : List Str), [some (V.ref b), some (V.str z), some (V.ref D), o3', o4'] = [some (.ref b), some (.str z), some (.ref D), o3, o4] ∧ IsBag (upd H5 D (.lst (fs.map V.str ++ [V.str y]))) b (n + 1 + 20 * (i + 1)) ∧ Kp b H (upd H5 D (.lst (fs.map V.str ++ [V.str y]))) ∧
            (upd H5 D (.lst (fs.map V.str ++ [V.str y]))) D = some (.lst (fs'.map V.str)) ∧ fs'.length = i + 1 ∧ ∀ f ∈ fs', (tl f).length = (tl z).length ∧ ∀ c ∈ tl f, c ∈ tl z := fun H5 y o3' o4' hy hb5 k5 e5 => by
        refine ⟨o3', o4', fs ++ [y], rfl, bag_upd hb5 nDb, kp_upd' (k3.trans k5) hDH, by rw [upd_same, List.map_append]; rfl, by rw [List.length_append, lf]; rfl, fun f hf' => ?_⟩
        rcases List.mem_append.mp hf' with q | q
        · exact hf f q
        · rw [List.mem_singleton.mp q]; exact hy
      walk_at "go"
      refine ⟨b, _, _, rfl, hb3, by omega, by decide, fun r4 H4 _ _ hb4 of4 => ?_⟩
      have eD4 := of4.at nDb eD
      walk_at "go"
      refine r_iteN' (fun h0 => ?_) (fun h0 => ?_)
      · walk_at "go"
        refine ⟨tyL (SqL.of eD4), ?_⟩
        walk_at "go"
        refine ⟨b, z, _, rfl, hb4, by omega, by omega, fun ys H5 p hperm hb5 k5 hp5 e5 np5 => ?_⟩
        obtain ⟨j1, j2, j3, j4⟩ := mixed_join hperm
        refine ⟨_, p, ys, rfl, rfl, .inl (SqL.of e5), by rw [e0, j3]; omega, ?_⟩
        walk_at "go"
        refine ⟨D, fs.map V.str, _, rfl, rfl, k5 _ _ nDb eD4, line60 (by rw [List.length_map]; omega), ?_⟩
        exact add H5 _ _ _ ⟨j1, j2⟩ (hb5.mono (by omega)) (of4.kp.trans k5) (k5 _ _ nDb eD4)
      · walk_at "go"
        refine ⟨tyL (SqL.of eD4), ?_⟩
        walk_at "go"
        intro D2 hD2
        have nD2b := hb4.ne hD2
        have nDD2 : D ≠ D2 := fun q => by rw [q, hD2] at eD4; cases eD4
        refine lc_gen walk_sgn (fun _ => rfl) (fun acc H' => ∃ l : List Nat, acc = (l.map one).map V.str ∧ (∀ c ∈ l, c ∈ tl z) ∧ IsBag H' b (n + 1 + 20 * i + 1 + acc.length) ∧ Kp b H4 H') ⟨[], rfl, (fun c h => by cases h), hb4.new hD2, Same.kp (same_new hD2)⟩ (fun _ _ _ _ => trivial) ?_ ?_
        · rintro j x acc H' hx la hacc ⟨l, rfl, hl, hbi, ki⟩
          have hj : j < 12 := by
            have := (List.getElem?_eq_some_iff.mp hx).1
            rw [List.length_map, sgn_len] at this
            omega
          rw [la] at hbi
          walk_at "go"
          refine one_sign gz hbi (by omega) (fun c H6 hc hb6 of6 => ?_)
          refine pp_next (of6.at nD2b hacc) la (line60 (by omega)) ⟨l ++ [c], by rw [List.map_append, List.map_append]; rfl, fun d hd => ?_, ?_, kp_upd' (ki.trans of6.kp) hD2⟩
          · rcases List.mem_append.mp hd with q | q
            · exact hl d q
            · rw [List.mem_singleton.mp q]; exact hc
          · rw [List.length_append, la]
            exact bag_upd hb6 nD2b
        · rintro acc H' la hacc ⟨l, rfl, hl, hbi, ki⟩
          have ll : l.length = (tl z).length := by
            rw [List.length_map, List.length_map, List.length_map, sgn_len] at la
            exact la
          rw [la, List.length_map, sgn_len] at hbi
          walk_at "go"
          refine ⟨_, D2, l.map one, rfl, rfl, .inl (SqL.of hacc), ?_, ?_⟩
          · have := sum_le (ys := l.map one) (b := 1) (fun p hp => by obtain ⟨c, _, rfl⟩ := List.mem_map.mp hp; exact Nat.le_refl _)
            rw [e0]
            rw [List.length_map] at *
            omega
          walk_at "go"
          have eD5 := ki _ _ nDb eD4
          refine ⟨D, fs.map V.str, _, rfl, rfl, eD5, line60 (by rw [List.length_map]; omega), ?_⟩
          refine add H' _ _ _ ⟨?_, ?_⟩ (hbi.mono (by omega)) (of4.kp.trans ki) eD5
          · rw [show tl (Txt.join (Str.ofString "") (l.map one)) = l from tl_join1 l]; exact ll
          · rw [show tl (Txt.join (Str.ofString "") (l.map one)) = l from tl_join1 l]; exact hl
    · rintro σ H3 ⟨o3, o4, fs, rfl, hb3, k3, eD, lf, hf⟩
      walk_at "go"
      refine ⟨D, fs.map V.str, rfl, .inl ⟨SqL.of eD, fun T hT => ?_⟩⟩
      exact k _ T fs upd_same ⟨fun e => by rw [e] at lf; simp at lf; omega, by omega, hf⟩ ((hb3.new hT).mono (by omega)) (k3.trans (Same.kp (same_new hT)))
end
end K4

/-! L11j -/


namespace K4
open PySem L2 K1
abbrev sLWideSum : Stmt := top 71
abbrev nLWideSum : List Str := ["_law_bag", "_law_signs", "_law_paper", "_law_size", "_law_k", "_law_weights", "_law_total", "_law_goal"]
theorem scLWideSum : FnScope nLWideSum ["_law_bag", "_law_signs", "_law_paper"] (defScope sLWideSum) := ⟨rfl, rfl, rfl, by decide +kernel, rfl, by decide +kernel, by decide +kernel⟩
theorem good_nd {z : Str} (g : Good z) : (tl z).Nodup := List.Pairwise.imp (fun h => Nat.ne_of_lt h) (show (tl z).Pairwise (· < ·) from g.up)
def spWideSum (K : PySem.W.Frag) : Sp := fun vs H Q _ => ∃ (b : Addr) (z x : Str) (n : Nat), vs = [.ref b, .str z, .str x] ∧ IsBag H b n ∧ n ≤ 2 ^ 39 ∧ Good z ∧ Pp (tl z) (tl x) ∧ Drawn K b n 20 H Q fun r => ∃ m ws g, r = .n0 (.sum m ws g) ∧ ∀ z, Ow.fit z (.sum m ws g)
section
variable {P : Program} {w : World} {K : PySem.W.Frag} {mg : Str → Option Value} {base : Heap} {dO dI : Addr}
theorem ok_wideSum {f : Addr} {fd : FuncData} (F : Fun K "_law_wide_sum" "_law_wide_sum" sLWideSum f fd) (B : Bl mg) (Op : OPick P w K mg base) (Oo : OOneOf P w K mg base) : FnOk P w K mg base CX0 3 f fd ["_law_bag", "_law_signs", "_law_paper"] (spWideSum K) := by
  refine F.ok scLWideSum (fun vs H Q E h => ?_) (fun cdv A outer s H vs Q E hr h => ?_)
  · obtain ⟨b, z, x, n, rfl, _⟩ := h
    rfl
  · obtain ⟨b, z, x, n, rfl, hb, hn, gz, hp, k⟩ := h
    refine ⟨_, (pss_cons (ps_set (i := 3) scLWideSum.nd rfl (Or.inr rfl) (pe_ifExp (pt_cmpR op_eq (pe_own Op (hr.mono (by omega)) (pa_cons (pv 0) (pa_cons pe_int pa_nil))) pe_int (nomark _)) (pe_op op_add pe_int (pe_own Op (hr.mono (by omega)) (pa_cons (pv 0) (pa_cons pe_int pa_nil)))) (pe_own Oo (hr.mono (by omega)) (pa_cons (pv 0) (pa_cons (pe_lst (pa_cons pe_int (pa_cons pe_int (pa_cons pe_int (pa_cons pe_int (pa_cons pe_int (pa_cons pe_int (pa_cons pe_int (pa_cons pe_int pa_nil))))))))) pa_nil))))) (pss_cons (ps_setLc (i := 5) (own := [("_law_k", 4)]) (g := gName 4) (tt := tYes) rfl scLWideSum.nd rfl rfl (sw_true rfl rfl rfl (by decide +kernel)) (pi_range1 rfl B.range (pa_cons (pe_op op_add pe_int (pe_own Op (hr.mono (by omega)) (pa_cons (pv 0) (pa_cons pe_int pa_nil)))) pa_nil)) (blkOk_by (N := nLWideSum) (sc := defScope sLWideSum) (by decide +kernel)) (fun _ _ _ _ _ => (pg_name (i := 4) scLWideSum.nd rfl (Or.inl rfl))) (fun _ _ _ _ _ => pts_nil) (fun _ _ _ _ _ => (pe_own Op (hr.mono (by omega)) (pa_cons (pv 0) (pa_cons (pv 3) pa_nil))))) (pss_cons (ps_set (i := 6) scLWideSum.nd rfl (Or.inl rfl) pe_int) (pss_cons (ps_for PassesOwn.never rfl (pi_range1 rfl B.range (pa_cons (pe_callB call_len (by rfl) B.len PySem.boot_len (pa_cons (pv 2) pa_nil)) pa_nil)) (pg_name (i := 4) scLWideSum.nd rfl (Or.inl rfl)) (pss_one (ps_set (i := 6) scLWideSum.nd rfl (Or.inl rfl) (pe_op op_add (pv 6) (pe_op op_mul (pe_ix ix_list (pv 5) (pe_op op_modN (pe_callTy call_int1 (by rfl) B.int (by decide +kernel) (pa_cons (pv 4) pa_nil)) (pe_callB call_len (by rfl) B.len PySem.boot_len (pa_cons (pv 5) pa_nil))) (fun _ _ => rfl)) (pe_bm PySem.F.plainAttrs_str PySem.F.slot_str_index PySem.F.type_str_index mt_sindex (pv 1) (pa_cons (pe_ix ix_str (pv 2) (pv 4) (fun _ _ => rfl)) pa_nil))))))) (pss_cons (ps_set (i := 7) scLWideSum.nd rfl (Or.inl rfl) (pe_ifExp (pt_cmpR op_gt (pe_own Op (hr.mono (by omega)) (pa_cons (pv 0) (pa_cons pe_int pa_nil))) pe_int (nomark _)) (pe_op op_modN (pe_callTy call_int1 (by rfl) B.int (by decide +kernel) (pa_cons (pv 6) pa_nil)) (pv 3)) (pe_own Op (hr.mono (by omega)) (pa_cons (pv 0) (pa_cons (pv 3) pa_nil))))) (pss_one (ps_ret (pe_tup (pa_cons pe_str (pa_cons (pv 3) (pa_cons (pe_callTy call_tuple_of (by rfl) B.tuple (by decide +kernel) (pa_cons (pv 5) pa_nil)) (pa_cons (pv 7) pa_nil)))))))))))), ?_⟩
    try dsimp only [cxOf, Cx.nox, Cx.wish]
    have nd := good_nd gz
    have lz := len_tl z
    have z12 : (tl z).length ≤ 12 := gz.hi
    have lx := len_tl x
    have x60 := hp.le
    refine r_seq (r_asg (r_ifJ (fun v H' => ∃ m : Nat, v = vi m ∧ 2 ≤ m ∧ m ≤ 60 ∧ IsBag H' b (n + 2) ∧ Kp b H H') (fun Q' h => ?_) ?_))
    · walk_at "go"
      refine ⟨b, _, n, rfl, hb, by omega, by decide, fun r1 H1 _ _ hb1 of1 => ?_⟩
      walk_at "go"
      refine r_iteN' (fun h0 => ?_) (fun h0 => ?_)
      · walk_at "go"
        refine ⟨b, _, _, rfl, hb1, by omega, by decide, fun r2 H2 r20 r21 hb2 of2 => ?_⟩
        walk_at "go"
        obtain ⟨m, hm⟩ : ∃ m : Nat, 2 + r2 = (m : Int) := ⟨(2 + r2).toNat, by omega⟩
        rw [hm]
        exact h _ _ ⟨m, rfl, by omega, by omega, hb2, of1.kp.trans of2.kp⟩
      · walk_at "go"
        refine ⟨(by show 8 ≤ sizeLine; decide), fun p hp4 => ?_⟩
        have npb := hb1.ne hp4
        walk_at "go"
        refine ⟨b, _, [V.int 2, V.int 2, V.int 3, V.int 4, V.int 5, V.int 10, V.int 11, V.int 60], n + 1, rfl, hb1.new hp4, by omega, .inr ⟨p, rfl, SqL.of upd_same, npb, by decide⟩, by simp, fun v H2 hx hb2 of2 => ?_⟩
        have k2 : Kp b H H2 := of1.kp.trans ((Same.kp (same_new hp4)).trans of2.kp)
        simp only [List.mem_cons, List.not_mem_nil, or_false] at hx
        rcases hx with rfl | rfl | rfl | rfl | rfl | rfl | rfl | rfl
        · exact h _ _ ⟨2, rfl, by decide, by decide, hb2, k2⟩
        · exact h _ _ ⟨2, rfl, by decide, by decide, hb2, k2⟩
        · exact h _ _ ⟨3, rfl, by decide, by decide, hb2, k2⟩
        · exact h _ _ ⟨4, rfl, by decide, by decide, hb2, k2⟩
        · exact h _ _ ⟨5, rfl, by decide, by decide, hb2, k2⟩
        · exact h _ _ ⟨10, rfl, by decide, by decide, hb2, k2⟩
        · exact h _ _ ⟨11, rfl, by decide, by decide, hb2, k2⟩
        · exact h _ _ ⟨60, rfl, by decide, by decide, hb2, k2⟩
    · rintro v H2 ⟨m, rfl, m2, m60, hb2, k2⟩
      walk_at "go"
      refine ⟨b, _, _, rfl, hb2, by omega, by decide, fun r3 H3 r30 r31 hb3 of3 => ?_⟩
      obtain ⟨cnt, hcnt⟩ : ∃ cnt : Nat, 1 + r3 = (cnt : Int) := ⟨(1 + r3).toNat, by omega⟩
      have c18 : 1 ≤ cnt ∧ cnt ≤ 8 := by omega
      have k3 := k2.trans of3.kp
      walk_at "go"
      rw [hcnt]
      have wstep : ∀ (ws : List Nat) (D : Addr) (H4 : Hp) (i : Nat), H4 D = some (.lst (ws.map vi)) → ws ≠ [] → ∀ {Q' : VK}, Q' (vi (wat ws i)) H4 → rIxL K (.ref D) (.int ((i % ws.length : Nat) : Int)) H4 Q' := fun ws D H4 i e ne Q' q => by
        refine r_ixL (SqL.of e) (atI_nat ?_) q
        rw [List.getElem?_map, getD_at (d := 0) (mod_lt ne i)]
        rfl
      refine ⟨by omega, by omega, fun D hD => ?_⟩
      have nDb := hb3.ne hD
      have hDn : H D = none := by
        cases e : H D with
        | none => rfl
        | some o => exact absurd (k3 D o nDb e) (by rw [hD]; intro z; cases z)
      refine lc_gen (walk_rng (lo := 0) (n := cnt)) (fun _ => rfl) (fun acc H' => ∃ ws : List Nat, acc = ws.map vi ∧ (∀ x ∈ ws, x < m) ∧ IsBag H' b (n + 3 + acc.length) ∧ Kp b H H') ⟨[], rfl, (fun x h => absurd h (by simp)), hb3.new hD, k3.trans (Same.kp (same_new hD))⟩ (fun _ _ _ _ => trivial) ?_ ?_
      · rintro i y acc H' hy la hacc ⟨ws, rfl, hw, hbi, ki⟩
        have hic : i < cnt := by have := (List.getElem?_eq_some_iff.mp hy).1; rw [List.length_map, List.length_range] at this; exact this
        rw [la] at hbi
        walk_at "go"
        refine ⟨b, _, _, rfl, hbi, by omega, by omega, fun r4 H4 r40 r41 hb4 of4 => ?_⟩
        obtain ⟨g, rfl⟩ : ∃ g : Nat, r4 = (g : Int) := ⟨r4.toNat, by omega⟩
        refine pp_next (of4.at nDb hacc) la (line60 (by omega)) ⟨ws ++ [g], by rw [List.map_append]; rfl, fun x hx => ?_, ?_, kp_upd' (ki.trans of4.kp) hDn⟩
        · rcases List.mem_append.mp hx with q | q
          · exact hw x q
          · rw [List.mem_singleton.mp q]; omega
        · rw [List.length_append, la]
          exact bag_upd hb4 nDb
      · rintro acc H4 la hacc ⟨ws, rfl, hw, hb4, k4⟩
        rw [List.length_map, List.length_map, List.length_range] at la
        rw [List.length_map, la] at hb4
        have wne : ws ≠ [] := fun e => by rw [e] at la; simp at la; omega
        walk_at "go"
        refine ⟨_, _, rfl, lenS (small_line (by omega)), ?_⟩
        walk_at "go"
        refine ⟨by omega, by omega, fr_range (lo := 0) (n := x.length) (fun i σ H' => ∃ o4 : Option V, σ = [some (.ref b), some (.str z), some (.str x), some (vi m), o4, some (.ref D), some (vi (tot (tl z) ws (tl x) i)), none] ∧ H' = H4) ⟨none, rfl, rfl⟩ ?_ ?_⟩
        · rintro i σ _ hi ⟨o4, rfl, rfl⟩
          walk_at "go"
          rw [Int.zero_add]
          refine ⟨_, _, rfl, lenL (SqL.of hacc), ?_⟩
          rw [List.length_map]
          refine r_mod (List.length_pos_iff.mpr wne) ?_
          refine wstep ws D _ i hacc wne ?_
          walk_at "go"
          refine ⟨tyS, ?_⟩
          walk_at "go"
          refine ix_paper (by omega) (by omega) ?_
          walk_at "go"
          have hmem := getD_mem (xs := tl x) (i := i) (d := 0) (by omega)
          obtain ⟨r', er⟩ := idx_occ (hp.all _ hmem) nd
          refine ⟨z, one _, _, r', rfl, rfl, er, ?_⟩
          have hwlt := hw _ (getD_mem (d := 0) (mod_lt wne i))
          refine r_mul (by unfold wat; omega) ?_
          walk_at "go"
          refine ⟨some (.int (i : Nat)), ?_, rfl⟩
          rw [tot_succ, ← Int.natCast_add]
          rfl
        · rintro σ H4 ⟨o4, rfl, rfl⟩
          refine r_seq (r_asg (r_ifJ (fun v H' => ∃ g : Nat, v = vi g ∧ g < m ∧ IsBag H' b (n + 3 + cnt + 2) ∧ Off b H4 H') (fun Q' h => ?_) ?_))
          · walk_at "go"
            refine ⟨b, _, _, rfl, hb4, by omega, by decide, fun r5 H5 _ _ hb5 of5 => ?_⟩
            walk_at "go"
            refine r_iteN' (fun h0 => ?_) (fun h0 => ?_)
            · walk_at "go"
              refine r_mod (by omega) ?_
              exact h _ _ ⟨_, rfl, Nat.mod_lt _ (by omega), hb5.mono (by omega), of5⟩
            · walk_at "go"
              refine ⟨b, _, _, rfl, hb5, by omega, by omega, fun r6 H6 r60 r61 hb6 of6 => ?_⟩
              obtain ⟨g, rfl⟩ : ∃ g : Nat, r6 = (g : Int) := ⟨r6.toNat, by omega⟩
              exact h _ _ ⟨g, rfl, by omega, hb6, of5.trans of6⟩
          · rintro v H5 ⟨g, rfl, hg, hb5, of5⟩
            have hacc5 := of5.at nDb hacc
            walk_at "go"
            refine ⟨D, ws.map vi, rfl, .inl ⟨SqL.of hacc5, fun T hT => ?_⟩⟩
            walk_at "go"
            refine ⟨(by show 4 ≤ sizeLine; decide), fun q hq => ?_⟩
            have s5 := same_new (o := HO.tup [V.str "sum", vi m, V.ref T, vi g]) hq
            refine k _ _ (.n0 (.sum m ws g)) ?_ ⟨m, ws, g, rfl, fun z => ⟨m2, m60, wne, by omega, hw, hg⟩⟩ (((hb5.new hT).new hq).mono (by omega)) ((k4.trans of5.kp).trans ((Same.kp (same_new hT)).trans (Same.kp s5)))
            exact .tup (SqT.of upd_same) (.cons (.str _) (.cons (.int _) (.cons (.tup (SqT.of (s5 _ _ upd_same)) (dpA_nums.mpr rfl)) (.cons (.int _) .nil))))
end
end K4

/-! L11k -/


namespace K1
open PySem L2
def spMixedL : Sp := fun vs H Q _ => ∃ (b R : Addr) (zs : List V) (n : Nat), vs = [.ref b, .ref R] ∧ IsBag H b n ∧ n + zs.length ≤ 2 ^ 40 ∧ H R = some (.lst zs) ∧ R ≠ b ∧ zs.length ≤ 1000 ∧
  ∀ (ys : List V) H' p, ys.Perm zs → IsBag H' b (n + zs.length) → Kp b H H' → H p = none → H' p = some (.lst ys) → p ≠ b → Q (.ref p) H'
section
variable {P : Program} {w : World} {K : PySem.W.Frag} {mg : Str → Option Value} {base : Heap}
theorem ok_mixedL {f : Addr} {fd : FuncData} (F : Fun K "_law_mixed" "_law_mixed" sMixed f fd) (B : Bl mg) (Op : OPick P w K mg base) : FnOk P w K mg base CX0 2 f fd ["_law_bag", "_law_row"] spMixedL := by
  refine F.ok scMixed (fun vs H Q E h => ?_) (fun cdv A outer s H vs Q E hr h => ?_)
  · obtain ⟨b, R, zs, n, rfl, _⟩ := h
    rfl
  · obtain ⟨b, R, zs, n, rfl, hb, hn, eR, nRb, hz, k⟩ := h
    refine ⟨_, pss_cons (ps_set (i := 2) scMixed.nd rfl (Or.inl rfl) (pe_callTy call_list_of (by rfl) B.list (by decide +kernel) (pa_cons (pv 1) pa_nil)))
      (pss_cons (ps_set (i := 3) scMixed.nd rfl (Or.inl rfl) (pe_lst pa_nil))
      (pss_cons (ps_for PassesOwn.never rfl (pi_range1 rfl B.range (pa_cons (pe_callB call_len (by rfl) B.len PySem.boot_len (pa_cons (pv 1) pa_nil)) pa_nil)) (pg_name (i := 4) scMixed.nd rfl (Or.inl rfl))
        (pss_one (ps_expr (pe_bm PySem.F.plainAttrs_list PySem.F.slot_list_append PySem.F.type_list_append mt_append (pv 3) (pa_cons
          (pe_bm PySem.F.plainAttrs_list PySem.F.slot_list_pop PySem.F.type_list_pop mt_popAt (pv 2) (pa_cons
            (pe_own Op hr (pa_cons (pv 0) (pa_cons (pe_callB call_len (by rfl) B.len PySem.boot_len (pa_cons (pv 2) pa_nil)) pa_nil))) pa_nil)) pa_nil)))))
      (pss_one (ps_ret (pv 3))))), ?_⟩
    try dsimp only [cxOf, Cx.nox, Cx.wish]
    walk_at "go"
    refine ⟨R, _, rfl, .inl (SqL.of eR), fun L hL => ?_⟩
    walk_at "go"
    refine ⟨Nat.zero_le _, fun T hT => ?_⟩
    have nLb : L ≠ b := fun q => by obtain ⟨_, _, _, e, _⟩ := hb; rw [q, e] at hL; cases hL
    have nTL : T ≠ L := fun q => by rw [q, upd_same] at hT; cases hT
    rw [upd_ne nTL] at hT
    have nTb : T ≠ b := fun q => by obtain ⟨_, _, _, e, _⟩ := hb; rw [q, e] at hT; cases hT
    walk_at "go"
    have sLT : Same H (upd (upd H L (.lst zs)) T (.lst [])) := Same.trans (same_new (o := HO.lst zs) hL) (same_new (by rw [upd_ne nTL]; exact hT))
    refine ⟨_, _, rfl, lenL (SqL.of (sLT _ _ eR)), ?_⟩
    walk_at "go"
    refine ⟨by omega, by omega, fr_range (lo := 0) (n := zs.length) (fun i σ H' => ∃ (kk : Option V) (xs ys : List V), σ = [some (.ref b), some (.ref R), some (.ref L), some (.ref T), kk] ∧ H' L = some (.lst xs) ∧ H' T = some (.lst ys) ∧
        (ys ++ xs).Perm zs ∧ ys.length = i ∧ IsBag H' b (n + i) ∧ Kp b H H') ?_ ?_ ?_⟩
    · refine ⟨none, zs, [], rfl, ?_, upd_same, List.Perm.refl _, rfl, ?_, ?_⟩
      · rw [upd_ne nTL.symm, upd_same]
      · obtain ⟨d, s, c, e, r⟩ := hb
        exact ⟨d, s, c, by rw [upd_ne nTb.symm, upd_ne nLb.symm]; exact e, r⟩
      · exact Same.kp sLT
    · rintro i σ H' hi ⟨kk, xs, ys, rfl, eL, eT, pm, ly, hb', kp⟩
      have lxs : xs.length = zs.length - i := by
        have := pm.length_eq
        rw [List.length_append] at this
        omega
      walk_at "go"
      refine ⟨tyL (SqL.of eT), ?_⟩
      walk_at "go"
      refine ⟨tyL (SqL.of eL), ?_⟩
      walk_at "go"
      refine ⟨_, _, rfl, lenL (SqL.of eL), ?_⟩
      walk_at "go"
      refine ⟨_, _, _, rfl, hb', by omega, by omega, fun r H2 r0 r1 hb2 off => ?_⟩
      have hr1 : r < xs.length := by omega
      have hj : r.toNat < xs.length := by omega
      walk_at "go"
      have eL2 := off.at nLb eL
      have eT2 := off.at nTb eT
      refine ⟨L, xs, r, r.toNat, xs[r.toNat], rfl, rfl, eL2, by omega, by omega, seqIx r0 hr1, by simp [hj], ?_⟩
      walk_at "go"
      refine ⟨T, ys, _, rfl, rfl, by rw [upd_ne nTL]; exact eT2, small1000 (by omega), ?_⟩
      walk_at "go"
      refine ⟨some (.int (0 + i)), xs.eraseIdx r.toNat, ys ++ [xs[r.toNat]], rfl, ?_, ?_, ?_, by simp [ly], ?_, ?_⟩
      · rw [upd_ne nTL.symm, upd_same]
      · rw [upd_same]
      · refine List.Perm.trans ?_ pm
        rw [List.append_assoc]
        exact (List.Perm.append_left ys (erase_perm hj))
      · obtain ⟨d, s, c, e, q⟩ := hb2
        exact ⟨d, s, c, by rw [upd_ne nTb.symm, upd_ne nLb.symm]; exact e, q⟩
      · intro c o hc e
        have n1 : c ≠ L := fun q => by rw [q, hL] at e; cases e
        have n2 : c ≠ T := fun q => by rw [q, hT] at e; cases e
        rw [upd_ne n2, upd_ne n1]
        exact off.at hc (kp c o hc e)
    · rintro σ H' ⟨kk, xs, ys, rfl, eL, eT, pm, ly, hb', kp⟩
      walk_at "go"
      have lx : xs = [] := by
        have := pm.length_eq
        rw [List.length_append] at this
        exact List.eq_nil_of_length_eq_zero (by omega)
      subst lx
      rw [List.append_nil] at pm
      exact k ys H' T pm hb' kp hT eT nTb

end
end K1

/-! L11l -/


namespace K4
open PySem L2 K1
abbrev sLRowsOf : Stmt := top 63
abbrev nLRowsOf : List Str := ["_law_bag", "_law_signs", "_law_many", "_law_columns", "_law_sign", "_law_z", "_law_column"]
theorem scLRowsOf : FnScope nLRowsOf ["_law_bag", "_law_signs", "_law_many"] (defScope sLRowsOf) := ⟨rfl, rfl, rfl, by decide +kernel, rfl, by decide +kernel, by decide +kernel⟩
abbrev scRA : Scope := { kind := ScopeKind.function, names := [(".0", NameKind.local), ("_law_z", NameKind.cell), ("tuple", NameKind.globalImplicit), ("_law_columns", NameKind.cell)], isGenerator := false, isCoroutine := false }
abbrev scRB : Scope := { kind := ScopeKind.function, names := [(".0", NameKind.local), ("_law_z", NameKind.local), ("tuple", NameKind.globalImplicit), ("_law_bag", NameKind.cell), ("_law_many", NameKind.cell), ("_law_signs", NameKind.cell)], isGenerator := false, isCoroutine := false }
def rowD (r : List Nat) : PyData := .tuple (r.map pn)
theorem rowD_pure (rs : List (List Nat)) : pureA (rs.map rowD) = true := pureA_iff.mpr fun y hy => by obtain ⟨r, _, rfl⟩ := List.mem_map.mp hy; exact pure_nums r
theorem nums_list {m : Nat} : ∀ {ys : List V}, (∀ y ∈ ys, ∃ k : Nat, k < m ∧ y = vi k) → ∃ l : List Nat, ys = l.map vi ∧ ∀ x ∈ l, x < m
  | [], _ => ⟨[], rfl, fun x h => by cases h⟩
  | y :: ys, h => by
    obtain ⟨k, hk, rfl⟩ := h y (List.mem_cons_self ..)
    obtain ⟨l, rfl, hl⟩ := nums_list (ys := ys) fun z hz => h z (List.mem_cons_of_mem _ hz)
    exact ⟨k :: l, rfl, fun x hx => by
      rcases List.mem_cons.mp hx with rfl | q
      · exact hk
      · exact hl x q⟩
theorem perm_rg {m : Nat} {ys : List V} (h : ys.Perm (rgV 0 (m : Int))) : ∃ l : List Nat, ys = l.map vi ∧ l.length = m ∧ ∀ x ∈ l, x < m := by
  obtain ⟨l, rfl, hl⟩ := nums_list (m := m) (ys := ys) fun y hy => by
    obtain ⟨i, hi, rfl⟩ := List.mem_map.mp (h.mem_iff.mp hy)
    exact ⟨i, by have := List.mem_range.mp hi; omega, by show V.int (0 + (i : Int)) = _; rw [Int.zero_add]⟩
  have := h.length_eq
  rw [List.length_map, rgV_length] at this
  exact ⟨l, rfl, by omega, hl⟩
def spRowsG (K : PySem.W.Frag) : Sp := fun vs H Q _ => ∃ (b : Addr) (z : Str) (n many : Nat), vs = [.ref b, .str z, vi many] ∧ IsBag H b n ∧ n ≤ 2 ^ 39 ∧ Good z ∧ 1 ≤ many ∧ many ≤ 7 ∧
  ∀ (H' : Hp) (T : Addr) (rows : List (List Nat)), Dp K H' (.ref T) (.tuple (rows.map rowD)) → rows.length = many → (∀ r ∈ rows, r.length = (tl z).length ∧ ∀ x ∈ r, x < many) → IsBag H' b (n + 200) → Kp b H H' → Q (.ref T) H'
abbrev OMixedL (P : Program) (w : World) (K : PySem.W.Frag) (mg : Str → Option Value) (base : Heap) : Prop := Own P w K mg base "_law_mixed" 2 ["_law_bag", "_law_row"] spMixedL
section
variable {P : Program} {w : World} {K : PySem.W.Frag} {mg : Str → Option Value} {base : Heap} {dO dI : Addr}
theorem ok_rowsOf {f : Addr} {fd : FuncData} (F : Fun K "_law_rows_of" "_law_rows_of" sLRowsOf f fd) (B : Bl mg) (Op : OPick P w K mg base) (OmxL : OMixedL P w K mg base) : FnOk P w K mg base CX0 3 f fd ["_law_bag", "_law_signs", "_law_many"] (spRowsG K) := by
  refine F.ok scLRowsOf (fun vs H Q E h => ?_) (fun cdv A outer s H vs Q E hr h => ?_)
  · obtain ⟨b, z, n, many, rfl, _⟩ := h
    rfl
  · obtain ⟨b, z, n, many, rfl, hb, hn, gz, m1, m7, k⟩ := h
    refine ⟨_, (pss_cons (ps_if (pt_cmpR op_eq (pe_own Op (hr.mono (by omega)) (pa_cons (pv 0) (pa_cons pe_int pa_nil))) pe_int (nomark _)) (pss_cons (ps_set (i := 3) scLRowsOf.nd rfl (Or.inr rfl) (pe_lc (own := [("_law_sign", 4)]) (g := gName 4) (tt := tYes) rfl scLRowsOf.nd (pi_str (pv 1)) (blkOk_by (N := nLRowsOf) (sc := defScope sLRowsOf) (by decide +kernel)) (fun _ _ _ _ _ => (pg_name (i := 4) scLRowsOf.nd rfl (Or.inl rfl))) (fun _ _ _ _ _ => pts_nil) (fun _ _ _ _ _ => (pe_own OmxL (hr.mono (by omega)) (pa_cons (pv 0) (pa_cons (pe_listRg rfl rfl B.list (prg_1 rfl B.range (pv 2))) pa_nil)))))) (pss_one (ps_ret (pe_callTy call_tuple_of (by rfl) B.tuple (by decide +kernel) (pa_cons (pe_lc (own := [("_law_z", 5)]) (g := gName 5) (tt := tYes) rfl scLRowsOf.nd (pi_range1 rfl B.range (pa_cons (pv 2) pa_nil)) (blkOk_by (N := nLRowsOf) (sc := defScope sLRowsOf) (by decide +kernel)) (fun _ _ _ _ _ => (pg_name (i := 5) scLRowsOf.nd rfl (Or.inr rfl))) (fun _ _ _ _ _ => pts_nil) (fun _ _ _ _ _ => (pe_callTy (T := "tuple") (r := rTupOf K) call_tupOf (by rfl) B.tuple (by decide +kernel) (pa_cons (pe_lc (own := [("_law_column", 6)]) (g := gName 6) (tt := tYes) (wi := iList K (tVar 3)) rfl scLRowsOf.nd (pi_list (pv 3)) (blkOk_by (N := nLRowsOf) (sc := scRA) (by decide +kernel)) (fun _ _ _ _ _ => (pg_name (i := 6) scLRowsOf.nd rfl (Or.inl rfl))) (fun _ _ _ _ _ => pts_nil) (fun _ _ _ _ _ => (pe_ix (r := rIxL K) ix_list (pv 6) (pv 5) (fun _ _ => rfl)))) pa_nil)))) pa_nil))))) pss_nil) (pss_one (ps_ret (pe_callTy call_tuple_of (by rfl) B.tuple (by decide +kernel) (pa_cons (pe_lc (own := [("_law_z", 5)]) (g := gName 5) (tt := tYes) rfl scLRowsOf.nd (pi_range1 rfl B.range (pa_cons (pv 2) pa_nil)) (blkOk_by (N := nLRowsOf) (sc := defScope sLRowsOf) (by decide +kernel)) (fun _ _ _ _ _ => (pg_name (i := 5) scLRowsOf.nd rfl (Or.inl rfl))) (fun _ _ _ _ _ => pts_nil) (fun _ _ _ _ _ => (pe_callTy (T := "tuple") (r := rTupOf K) call_tupOf (by rfl) B.tuple (by decide +kernel) (pa_cons (pe_lc (own := [("_law_sign", 4)]) (g := gName 4) (tt := tYes) rfl scLRowsOf.nd (pi_str (pv 1)) (blkOk_by (N := nLRowsOf) (sc := scRB) (by decide +kernel)) (fun _ _ _ _ _ => (pg_name (i := 4) scLRowsOf.nd rfl (Or.inl rfl))) (fun _ _ _ _ _ => pts_nil) (fun _ _ _ _ _ => (pe_own Op (hr.mono (by omega)) (pa_cons (pv 0) (pa_cons (pv 2) pa_nil))))) pa_nil)))) pa_nil))))), ?_⟩
    try dsimp only [cxOf, Cx.nox, Cx.wish]
    have z2 : 2 ≤ (tl z).length := gz.lo
    have z12 : (tl z).length ≤ 12 := gz.hi
    have lz := len_tl z
    walk_at "go"
    refine ⟨b, _, n, rfl, hb, by omega, by decide, fun r1 H1 _ _ hb1 of1 => ?_⟩
    have k1 := of1.kp
    walk_at "go"
    refine r_iteN' (fun h0 => ?_) (fun h0 => ?_)
    · walk_at "go"
      intro D hD
      have nDb := hb1.ne hD
      refine lc_gen walk_sgn (fun _ => rfl) (fun acc H' => ∃ cs : List (Addr × List Nat), acc = cs.map (fun c => V.ref c.1) ∧ (∀ c ∈ cs, c.1 ≠ b ∧ c.1 ≠ D ∧ H' c.1 = some (.lst (c.2.map vi)) ∧ c.2.length = many ∧ ∀ x ∈ c.2, x < many) ∧ IsBag H' b (n + 1 + 8 * acc.length) ∧ Kp b H1 H')
        ⟨[], rfl, (fun r h => by cases h), hb1.new hD, Same.kp (same_new hD)⟩ (fun _ _ _ _ => trivial) ?_ ?_
      · rintro i x acc H3 hx la hacc ⟨cs, rfl, hcs, hb3, k3⟩
        rw [la] at hb3
        have hi : i < 12 := by
          have := (List.getElem?_eq_some_iff.mp hx).1
          rw [List.length_map, sgn_len] at this
          omega
        walk_at "go"
        refine ⟨RgOk.of_le (by decide) (by omega) (by decide) (by omega), fun R hR => ?_⟩
        walk_at "go"
        have hb3' := hb3.new (o := HO.lst (rgV 0 (many : Int))) hR
        refine ⟨b, R, rgV 0 (many : Int), _, rfl, hb3', by rw [rgV_length]; omega, upd_same, hb3.ne hR, by rw [rgV_length]; omega, fun ys H4 p pm hb4 k4 hp4 e4 np => ?_⟩
        rw [rgV_length] at hb4
        obtain ⟨l, rfl, ll, hl⟩ := perm_rg pm
        have s3 := same_new (o := HO.lst (rgV 0 (many : Int))) hR
        have eD4 := k4 _ _ nDb (s3 _ _ hacc)
        have npD : p ≠ D := fun q => by rw [q, s3 _ _ hacc] at hp4; cases hp4
        refine pp_next eD4 la (line60 (by omega)) ⟨cs ++ [(p, l)], by rw [List.map_append]; rfl, fun c hc => ?_, ?_, kp_upd' ((k3.trans (Same.kp s3)).trans k4) hD⟩
        · rcases List.mem_append.mp hc with q | q
          · obtain ⟨c1, c2, c3, c4⟩ := hcs c q
            exact ⟨c1, c2, by rw [upd_ne c2]; exact k4 _ _ c1 (s3 _ _ c3), c4⟩
          · rw [List.mem_singleton.mp q]
            exact ⟨np, npD, by rw [upd_ne npD]; exact e4, ll, hl⟩
        · rw [List.length_append, la]
          exact bag_upd (hb4.mono (by show _ ≤ n + 1 + 8 * (i + 1); omega)) nDb
      · rintro acc H3 la hacc ⟨cs, rfl, hcs, hb3, k3⟩
        rw [List.length_map, List.length_map, sgn_len] at la
        rw [List.length_map] at hb3
        walk_at "go"
        refine ⟨by omega, by omega, fun D2 hD2 => ?_⟩
        have nDD2 : D ≠ D2 := fun q => by rw [q, hD2] at hacc; cases hacc
        refine lc_gen (walk_rng (lo := 0) (n := many)) (fun _ => rfl) (fun acc H' => ∃ rows : List (List Nat), DpAll K H' acc (rows.map rowD) ∧ (∀ r ∈ rows, r.length = (tl z).length ∧ ∀ x ∈ r, x < many) ∧ Same H3 H') ⟨[], .nil, (fun r h => by cases h), same_new hD2⟩ (fun _ _ _ _ => trivial) ?_ ?_
        · rintro i y acc2 H4 hy la2 hacc2 ⟨rows, hA, hrw, s4⟩
          have hic : i < many := by have := (List.getElem?_eq_some_iff.mp hy).1; rw [List.length_map, List.length_range] at this; exact this
          have hyi : y = V.int (0 + (i : Int)) := by
            rw [List.getElem?_map, List.getElem?_range hic] at hy
            exact (Option.some.inj hy).symm
          have eD4 := s4 _ _ hacc
          have nc : ∀ c ∈ cs, H4 c.1 = some (.lst (c.2.map vi)) := fun c hc => s4 _ _ (hcs c hc).2.2.1
          walk_at "go"
          refine ⟨⟨_, SqL.of eD4⟩, fun D3 hD3 => ?_⟩
          refine lc_gen (walk_list (K := K) (a := D) (xs := cs.map (fun c => V.ref c.1))) (fun _ => rfl) (fun acc3 H' => ∃ ns : List Nat, acc3 = ns.map vi ∧ (∀ y ∈ ns, y < many) ∧ Same H4 H') ⟨[], rfl, (fun r h => by cases h), same_new hD3⟩ (fun acc3 H' _ q => SqL.of (q.choose_spec.2.2 _ _ eD4)) ?_ ?_
          · rintro j v acc3 H5 hv la3 hacc3 ⟨ns, rfl, hns, s5⟩
            rw [List.getElem?_map] at hv
            cases ec : cs[j]? with
            | none => rw [ec] at hv; cases hv
            | some c =>
              rw [ec] at hv
              obtain rfl := Option.some.inj hv
              have hc := List.mem_of_getElem? ec
              have hjl := (List.getElem?_eq_some_iff.mp ec).1
              obtain ⟨c1, c2, c3, c4, c5⟩ := hcs c hc
              subst hyi
              walk_at "go"
              rw [Int.zero_add]
              refine r_ixL (SqL.of (s5 _ _ (nc c hc))) (atI_nat (j := i) (v := vi (c.2.getD i 0)) (by rw [List.getElem?_map, getD_at (xs := c.2) (i := i) (d := 0) (by omega)]; rfl)) ?_
              refine pp_next hacc3 la3 (line60 (by omega)) ⟨ns ++ [c.2.getD i 0], by rw [List.map_append]; rfl, fun x hx => ?_, same_upd s5 hD3⟩
              rcases List.mem_append.mp hx with q | q
              · exact hns x q
              · rw [List.mem_singleton.mp q]; exact c5 _ (getD_mem (by omega))
          · rintro acc3 H5 la3 hacc3 ⟨ns, rfl, hns, s5⟩
            rw [List.length_map, List.length_map] at la3
            walk_at "go"
            refine ⟨D3, ns.map vi, rfl, .inl ⟨SqL.of hacc3, fun T2 hT2 => ?_⟩⟩
            have s6 := same_new (o := HO.tup (ns.map vi)) hT2
            have s46 := s5.trans s6
            have e6 := s46 _ _ hacc2
            refine pp_next e6 la2 (line60 (by omega)) ⟨rows ++ [ns], ?_, fun r hr' => ?_, same_upd (s4.trans s46) hD2⟩
            · have kt : KT K (upd H5 T2 (.tup (ns.map vi))) (upd (upd H5 T2 (.tup (ns.map vi))) D2 (.lst (acc2 ++ [V.ref T2]))) := kt_lst e6
              rw [List.map_append]
              exact dpA_app (dpA_pure kt _ _ (rowD_pure rows) (dpA_keep (Same.keeps s46) _ _ hA)) (.cons (dp_pure kt _ _ (pure_nums ns) (.tup (SqT.of upd_same) (dpA_nums.mpr rfl))) .nil)
            · rcases List.mem_append.mp hr' with q | q
              · exact hrw r q
              · rw [List.mem_singleton.mp q]
                exact ⟨by omega, hns⟩
        · rintro acc2 H4 la2 hacc2 ⟨rows, hA, hrw, s4⟩
          rw [List.length_map, List.length_range] at la2
          walk_at "go"
          refine ⟨D2, acc2, rfl, .inl ⟨SqL.of hacc2, fun T hT => ?_⟩⟩
          have s5 := same_new (o := HO.tup acc2) hT
          have l8 : 8 * (List.map (fun c : Addr × List Nat => V.ref c.1) cs).length ≤ 96 := by rw [List.length_map]; omega
          refine k _ T rows (.tup (SqT.of upd_same) (dpA_keep (Same.keeps s5) _ _ hA)) (by have := dpA_len hA; rw [List.length_map] at this; omega) hrw (((hb3.same (s4.trans s5))).mono (by rw [List.length_map] at l8; omega)) ((k1.trans k3).trans (Same.kp (s4.trans s5)))
    · walk_at "go"
      refine ⟨by omega, by omega, fun D hD => ?_⟩
      have nDb := hb1.ne hD
      refine lc_gen (walk_rng (lo := 0) (n := many)) (fun _ => rfl) (fun acc H' => ∃ rows : List (List Nat), DpAll K H' acc (rows.map rowD) ∧ (∀ r ∈ rows, r.length = (tl z).length ∧ ∀ x ∈ r, x < many) ∧ IsBag H' b (n + 1 + 12 * acc.length) ∧ Kp b H1 H') ⟨[], .nil, (fun r h => by cases h), hb1.new hD, Same.kp (same_new hD)⟩ (fun _ _ _ _ => trivial) ?_ ?_
      · rintro i x acc H3 hx la hacc ⟨rows, hA, hrw, hb3, k3⟩
        rw [la] at hb3
        have hic : i < many := by have := (List.getElem?_eq_some_iff.mp hx).1; rw [List.length_map, List.length_range] at this; exact this
        walk_at "go"
        intro D2 hD2
        have nD2b := hb3.ne hD2
        have nDD2 : D ≠ D2 := fun q => by rw [q, hD2] at hacc; cases hacc
        refine lc_gen walk_sgn (fun _ => rfl) (fun acc2 H' => ∃ ns : List Nat, acc2 = ns.map vi ∧ (∀ y ∈ ns, y < many) ∧ IsBag H' b (n + 1 + 12 * i + acc2.length) ∧ Kp b H3 H') ⟨[], rfl, (fun c h => by cases h), hb3.new hD2, Same.kp (same_new hD2)⟩ (fun _ _ _ _ => trivial) ?_ ?_
        · rintro j y acc2 H4 hy la2 hacc2 ⟨ns, rfl, hns, hb4, k4⟩
          rw [la2] at hb4
          have hj : j < 12 := by
            have := (List.getElem?_eq_some_iff.mp hy).1
            rw [List.length_map, sgn_len] at this
            omega
          walk_at "go"
          refine ⟨b, _, _, rfl, hb4, by omega, by omega, fun r5 H5 r50 r51 hb5 of5 => ?_⟩
          obtain ⟨g, rfl⟩ : ∃ g : Nat, r5 = (g : Int) := ⟨r5.toNat, by omega⟩
          refine pp_next (of5.at nD2b hacc2) la2 (line60 (by omega)) ⟨ns ++ [g], by rw [List.map_append]; rfl, fun y hy => ?_, ?_, kp_upd' (k4.trans of5.kp) hD2⟩
          · rcases List.mem_append.mp hy with q | q
            · exact hns y q
            · rw [List.mem_singleton.mp q]; omega
          · rw [List.length_append, la2]
            exact bag_upd hb5 nD2b
        · rintro acc2 H4 la2 hacc2 ⟨ns, rfl, hns, hb4, k4⟩
          rw [List.length_map, List.length_map, sgn_len] at la2
          rw [List.length_map, la2] at hb4
          walk_at "go"
          refine ⟨D2, ns.map vi, rfl, .inl ⟨SqL.of hacc2, fun T2 hT2 => ?_⟩⟩
          have s5 := same_new (o := HO.tup (ns.map vi)) hT2
          have e4 := k4 _ _ nDb hacc
          refine pp_next (s5 _ _ e4) la (line60 (by omega)) ⟨rows ++ [ns], ?_, fun r hr' => ?_, ?_, ?_⟩
          · have kt : KT K (upd H4 T2 (.tup (ns.map vi))) (upd (upd H4 T2 (.tup (ns.map vi))) D (.lst (acc ++ [V.ref T2]))) := kt_lst (s5 _ _ e4)
            have q1 : DpAll K (upd H4 T2 (.tup (ns.map vi))) acc (rows.map rowD) := dpA_keep (Same.keeps s5) _ _ (dpA_pure (bag_kt hb3 k4) _ _ (rowD_pure rows) hA)
            rw [List.map_append]
            exact dpA_app (dpA_pure kt _ _ (rowD_pure rows) q1) (.cons (dp_pure kt _ _ (pure_nums ns) (.tup (SqT.of upd_same) (dpA_nums.mpr rfl))) .nil)
          · rcases List.mem_append.mp hr' with q | q
            · exact hrw r q
            · rw [List.mem_singleton.mp q]
              exact ⟨by omega, hns⟩
          · rw [List.length_append, la]
            exact bag_upd ((hb4.new hT2).mono (by show _ ≤ n + 1 + 12 * (i + 1); omega)) nDb
          · exact kp_upd' ((k3.trans k4).trans (Same.kp s5)) hD
      · rintro acc H3 la hacc ⟨rows, hA, hrw, hb3, k3⟩
        rw [List.length_map, List.length_range] at la
        rw [la] at hb3
        walk_at "go"
        refine ⟨D, acc, rfl, .inl ⟨SqL.of hacc, fun T hT => ?_⟩⟩
        have s4 := same_new (o := HO.tup acc) hT
        refine k _ T rows (.tup (SqT.of upd_same) (dpA_keep (Same.keeps s4) _ _ hA)) (by have := dpA_len hA; rw [List.length_map] at this; omega) hrw ((hb3.new hT).mono (by omega)) ((k1.trans k3).trans (Same.kp s4))
end
end K4

/-! L11m -/


namespace K4
open PySem L2 K1
abbrev sLRuleOf : Stmt := top 66
abbrev nLRuleOf : List Str := ["_law_bag", "_law_signs", "_law_deep", "_law_way", "_law_many"]
theorem scLRuleOf : FnScope nLRuleOf ["_law_bag", "_law_signs", "_law_deep"] (defScope sLRuleOf) := ⟨rfl, rfl, rfl, by decide +kernel, rfl, by decide +kernel, by decide +kernel⟩
section
variable {K : PySem.W.Frag} {H : Hp} {q : Addr} {o : Ow} {vs : List V} {v v2 : V} {r r2 : R}
theorem dp_n0 (hq : H q = none) (hv : DpAll K H vs (o.data true)) : Dp K (upd H q (.tup (.str o.word :: vs))) (.ref q) ((R.n0 o).data true) :=
  .tup (SqT.of upd_same) (.cons (.str _) (dpA_keep (Same.keeps (same_new hq)) _ _ hv))
theorem dp_n1 (hq : H q = none) (hv : DpAll K H vs (o.data true)) (hr : Dp K H v (r.data true)) : Dp K (upd H q (.tup (.str o.word :: (vs ++ [v])))) (.ref q) ((R.n1 o r).data true) :=
  .tup (SqT.of upd_same) (.cons (.str _) (dpA_keep (Same.keeps (same_new hq)) _ _ (dpA_app hv (.cons hr .nil))))
theorem dp_n2 (hq : H q = none) (hv : DpAll K H vs (o.data true)) (hr : Dp K H v (r.data true)) (hr2 : Dp K H v2 (r2.data true)) : Dp K (upd H q (.tup (.str o.word :: (vs ++ [v, v2])))) (.ref q) ((R.n2 o r r2).data true) :=
  .tup (SqT.of upd_same) (.cons (.str _) (dpA_keep (Same.keeps (same_new hq)) _ _ (dpA_app hv (.cons hr (.cons hr2 .nil)))))
end
def cRO (d : Nat) : Nat := 400 + 900 * d
def spRuleOf (K : PySem.W.Frag) (m : Nat) : Sp := fun vs H Q _ => ∃ (b : Addr) (z : Str) (n d : Nat), vs = [.ref b, .str z, vi d] ∧ d < m ∧ d ≤ 1 ∧ IsBag H b n ∧ n + 2000 * d ≤ 2 ^ 38 ∧ Good z ∧ Drawn K b n (cRO d) H Q fun r => r.fit (tl z) ∧ r.parts ≤ 1 + 2 * d
section
variable {P : Program} {w : World} {K : PySem.W.Frag} {mg : Str → Option Value} {base : Heap} {dO dI : Addr}
abbrev OSumG (P : Program) (w : World) (K : PySem.W.Frag) (mg : Str → Option Value) (base : Heap) : Prop := Own P w K mg base "_law_sum" 2 ["_law_bag", "_law_signs"] (spSumG K)
abbrev ORowsG (P : Program) (w : World) (K : PySem.W.Frag) (mg : Str → Option Value) (base : Heap) : Prop := Own P w K mg base "_law_rows_of" 3 ["_law_bag", "_law_signs", "_law_many"] (spRowsG K)
abbrev OGoals (P : Program) (w : World) (K : PySem.W.Frag) (mg : Str → Option Value) (base : Heap) : Prop := Own P w K mg base "_law_goals_of" 2 ["_law_bag", "_law_many"] (spGoals K)
abbrev OFacesG (P : Program) (w : World) (K : PySem.W.Frag) (mg : Str → Option Value) (base : Heap) : Prop := Own P w K mg base "_law_faces_of" 3 ["_law_bag", "_law_signs"] (spFacesG K)
abbrev ORuleOf (m : Nat) (P : Program) (w : World) (K : PySem.W.Frag) (mg : Str → Option Value) (base : Heap) : Prop := Own P w K mg base "_law_rule_of" (m + 3) ["_law_bag", "_law_signs", "_law_deep"] (spRuleOf K m)
theorem ok_ruleOf {m : Nat} {f : Addr} {fd : FuncData} (F : Fun K "_law_rule_of" "_law_rule_of" sLRuleOf f fd) (B : Bl mg) (Op : OPick P w K mg base) (Osm : OSumG P w K mg base) (Oro : ORowsG P w K mg base) (Ogo : OGoals P w K mg base) (Ofo : OFacesG P w K mg base) (Oru : ORuleOf m P w K mg base) :
    FnOk P w K mg base CX0 (m + 1 + 3) f fd ["_law_bag", "_law_signs", "_law_deep"] (spRuleOf K (m + 1)) := by
  refine F.ok scLRuleOf (fun vs H Q E h => ?_) (fun cdv A outer s H vs Q E hr h => ?_)
  · obtain ⟨b, z, n, d, rfl, _⟩ := h
    rfl
  · obtain ⟨b, z, n, d, rfl, hdm, hd, hb, hn, gz, k⟩ := h
    refine ⟨_, (pss_cons (ps_set (i := 3) scLRuleOf.nd rfl (Or.inl rfl) (pe_own Op (hr.mono (by omega)) (pa_cons (pv 0) (pa_cons (pe_ifExp (pt_cmpR op_lt (pv 2) pe_int (nomark _)) pe_int pe_int) pa_nil)))) (pss_cons (ps_if (pt_cmpR op_lt (pv 3) pe_int (nomark _)) (pss_one (ps_ret (pe_own Osm (hr.mono (by omega)) (pa_cons (pv 0) (pa_cons (pv 1) pa_nil))))) pss_nil) (pss_cons (ps_if (pt_cmpR op_lt (pv 3) pe_int (nomark _)) (pss_cons (ps_set (i := 4) scLRuleOf.nd rfl (Or.inl rfl) (pe_op op_add pe_int (pe_own Op (hr.mono (by omega)) (pa_cons (pv 0) (pa_cons pe_int pa_nil))))) (pss_one (ps_ret (pe_tup (pa_cons pe_str (pa_cons (pe_own Oro (hr.mono (by omega)) (pa_cons (pv 0) (pa_cons (pv 1) (pa_cons (pv 4) pa_nil)))) (pa_cons (pe_own Ogo (hr.mono (by omega)) (pa_cons (pv 0) (pa_cons (pv 4) pa_nil))) pa_nil))))))) pss_nil) (pss_cons (ps_if (pt_cmpR op_eq (pv 3) pe_int (nomark _)) (pss_one (ps_ret (pe_ifExp (pt_cmpR op_gt (pe_own Op (hr.mono (by omega)) (pa_cons (pv 0) (pa_cons pe_int pa_nil))) pe_int (nomark _)) (pe_own Osm (hr.mono (by omega)) (pa_cons (pv 0) (pa_cons (pv 1) pa_nil))) (pe_tup (pa_cons pe_str pa_nil))))) pss_nil) (pss_cons (ps_if (pt_cmpR op_eq (pv 3) pe_int (nomark _)) (pss_one (ps_ret (pe_tup (pa_cons pe_str (pa_cons (pe_own Ofo (hr.mono (by omega)) (pa_cons (pv 0) (pa_cons (pv 1) pa_nil))) (pa_cons (pe_own Oru hr (pa_cons (pv 0) (pa_cons (pv 1) (pa_cons (pe_op op_sub (pv 2) pe_int) pa_nil)))) pa_nil)))))) pss_nil) (pss_cons (ps_if (pt_cmpR op_eq (pv 3) pe_int (nomark _)) (pss_one (ps_ret (pe_tup (pa_cons pe_str (pa_cons (pe_own Oru hr (pa_cons (pv 0) (pa_cons (pv 1) (pa_cons (pe_op op_sub (pv 2) pe_int) pa_nil)))) pa_nil))))) pss_nil) (pss_cons (ps_if (pt_cmpR op_eq (pv 3) pe_int (nomark _)) (pss_one (ps_ret (pe_tup (pa_cons pe_str (pa_cons (pe_own Op (hr.mono (by omega)) (pa_cons (pv 0) (pa_cons pe_int pa_nil))) (pa_cons (pe_own Op (hr.mono (by omega)) (pa_cons (pv 0) (pa_cons pe_int pa_nil))) (pa_cons (pe_own Oru hr (pa_cons (pv 0) (pa_cons (pv 1) (pa_cons (pe_op op_sub (pv 2) pe_int) pa_nil)))) pa_nil))))))) pss_nil) (pss_cons (ps_if (pt_cmpR op_eq (pv 3) pe_int (nomark _)) (pss_one (ps_ret (pe_tup (pa_cons pe_str (pa_cons (pe_own Oru hr (pa_cons (pv 0) (pa_cons (pv 1) (pa_cons (pe_op op_sub (pv 2) pe_int) pa_nil)))) (pa_cons (pe_own Oru hr (pa_cons (pv 0) (pa_cons (pv 1) (pa_cons (pe_op op_sub (pv 2) pe_int) pa_nil)))) pa_nil)))))) pss_nil) (pss_cons (ps_if (pt_cmpR op_eq (pv 3) pe_int (nomark _)) (pss_one (ps_ret (pe_tup (pa_cons pe_str (pa_cons (pe_own Oru hr (pa_cons (pv 0) (pa_cons (pv 1) (pa_cons (pe_op op_sub (pv 2) pe_int) pa_nil)))) (pa_cons (pe_own Oru hr (pa_cons (pv 0) (pa_cons (pv 1) (pa_cons (pe_op op_sub (pv 2) pe_int) pa_nil)))) pa_nil)))))) pss_nil) (pss_one (ps_ret (pe_tup (pa_cons pe_str (pa_cons (pe_own Oru hr (pa_cons (pv 0) (pa_cons (pv 1) (pa_cons (pe_op op_sub (pv 2) pe_int) pa_nil)))) pa_nil)))))))))))))), ?_⟩
    try dsimp only [cxOf, Cx.nox, Cx.wish]
    refine r_seq (r_asg (r_call (r_cons ⟨_, rfl, r_cons (r_ifJ (fun x H' => H' = H ∧ ∃ wm : Nat, x = vi wm ∧ (wm = 6 ∧ d = 0 ∨ wm = 12 ∧ d = 1)) (fun Q' h => ?_) ?_)⟩)))
    · walk_at "go"
      refine r_iteN' (fun h0 => ?_) (fun h0 => ?_)
      · walk_at "go"
        exact h _ _ ⟨rfl, 6, rfl, .inl ⟨rfl, by omega⟩⟩
      · walk_at "go"
        exact h _ _ ⟨rfl, 12, rfl, .inr ⟨rfl, by omega⟩⟩
    rintro x H0 ⟨e0, wm, rfl, hw⟩
    rw [e0]
    clear e0
    walk_at "go"
    refine ⟨b, _, n, rfl, hb, by omega, by omega, fun r1 H1 r10 r11 hb1 of1 => ?_⟩
    obtain ⟨wy, rfl⟩ : ∃ wy : Nat, r1 = (wy : Int) := ⟨r1.toNat, by omega⟩
    have hwy : wy < wm := by omega
    have k1 := of1.kp
    have e1 : 1 ≤ d → ((d : Int) - 1) = ((d - 1 : Nat) : Int) := fun h => by omega
    have leaf : ∀ (H2 : Hp) (n2 : Nat), IsBag H2 b n2 → n2 ≤ n + 2 → Kp b H H2 → spSumG K [.ref b, .str z] H2 Q E0 := fun H2 n2 hb2 ln k2 =>
      ⟨b, _, n2, rfl, hb2, by omega, fun H3 v r dv hr hb3 k3 => by
        obtain ⟨m, ws, g, rfl, hf⟩ := hr
        exact k H3 v _ dv ⟨⟨hf _, rfl⟩, by show 1 ≤ _; omega⟩ (hb3.mono (by unfold cRO; omega)) (k2.trans k3)⟩
    walk_at "go"
    refine r_iteN' (fun h3 => ?_) (fun h3 => ?_)
    · walk_at "go"
      exact leaf _ _ hb1 (by omega) k1
    walk_at "go"
    refine r_iteN' (fun h5 => ?_) (fun h5 => ?_)
    · walk_at "go"
      refine ⟨b, _, n + 1, rfl, hb1, by omega, by decide, fun r2 H2 r20 r21 hb2 of2 => ?_⟩
      obtain ⟨many, hm⟩ : ∃ many : Nat, 2 + r2 = (many : Int) := ⟨(2 + r2).toNat, by omega⟩
      have m23 : 2 ≤ many ∧ many ≤ 3 := by omega
      walk_at "go"
      rw [hm]
      refine ⟨b, z, _, many, rfl, hb2, by omega, gz, by omega, by omega, fun H3 T rows dT lr hrw hb3 k3 => ?_⟩
      walk_at "go"
      refine ⟨b, _, many, rfl, hb3, by omega, by omega, by omega, fun H4 G gs eG gne gup glt hb4 k4 => ?_⟩
      walk_at "go"
      refine ⟨(by show 3 ≤ sizeLine; decide), fun q hq => ?_⟩
      have dT4 := dp_pure (bag_kt hb3 k4) _ _ (show pure (PyData.tuple (rows.map rowD)) = true by rw [K4.pure]; exact rowD_pure rows) dT
      refine k _ _ (.n0 (.square rows gs)) (dp_n0 (o := .square rows gs) (vs := [V.ref T, V.ref G]) hq (.cons dT4 (.cons (.tup (SqT.of eG) (dpA_nums.mpr rfl)) .nil))) ⟨⟨⟨fun e => by rw [e] at lr; simp at lr; omega, by omega, by rw [lr]; exact hrw, gne, gup, by rw [lr]; exact glt⟩, rfl⟩, by show 1 ≤ _; omega⟩
        ((hb4.new hq).mono (by unfold cRO; omega)) (k1.trans (of2.kp.trans (k3.trans (k4.trans (Same.kp (same_new hq))))))
    walk_at "go"
    refine r_iteN' (fun h6 => ?_) (fun h6 => ?_)
    · walk_at "go"
      refine ⟨b, _, n + 1, rfl, hb1, by omega, by decide, fun r2 H2 r20 r21 hb2 of2 => ?_⟩
      walk_at "go"
      refine r_iteN' (fun h7 => ?_) (fun h7 => ?_)
      · walk_at "go"
        exact leaf _ _ hb2 (by omega) (k1.trans of2.kp)
      · walk_at "go"
        refine ⟨(by show 1 ≤ sizeLine; decide), fun q hq => ?_⟩
        exact k _ _ (.n0 .any) (dp_n0 (o := .any) (vs := []) hq .nil) ⟨⟨trivial, rfl⟩, by show 1 ≤ _; omega⟩ ((hb2.new hq).mono (by unfold cRO; omega)) (k1.trans (of2.kp.trans (Same.kp (same_new hq))))
    have n5 : wy ≠ 5 := fun e => h6 (by rw [e]; rfl)
    have hd1 : d = 1 := by omega
    have inner : ∀ (H2 : Hp) (n2 : Nat) {Q2 : VK}, IsBag H2 b n2 → n2 ≤ n + 1000 → (∀ (H' : Hp) (v : V) (r : R), Dp K H' v (r.data true) → r.fit (tl z) → r.parts = 1 → IsBag H' b (n2 + 400) → Kp b H2 H' → Q2 v H') → spRuleOf K m [.ref b, .str z, .int ((d : Int) - 1)] H2 Q2 E0 := fun H2 n2 Q2 hb2 ln kk =>
      ⟨b, z, n2, d - 1, by rw [e1 (by omega)], by omega, by omega, hb2, by omega, gz, fun H3 v r dv hr hb3 k3 => kk H3 v r dv hr.1 (by have := R.parts_pos r; have := hr.2; omega) (hb3.mono (by unfold cRO; omega)) k3⟩
    have fin : ∀ (H2 : Hp) (v : V) (r : R) (n2 : Nat), Dp K H2 v (r.data true) → r.fit (tl z) → r.parts ≤ 3 → IsBag H2 b n2 → n2 ≤ n + 1300 → Kp b H1 H2 → Q v H2 := fun H2 v r n2 dv hf hp hb2 ln k2 =>
      k H2 v r dv ⟨hf, by omega⟩ (hb2.mono (by unfold cRO; omega)) (k1.trans k2)
    walk_at "go"
    refine r_iteN' (fun h7 => ?_) (fun h7 => ?_)
    · walk_at "go"
      refine ⟨b, z, _, rfl, hb1, by omega, gz, fun H2 T fs eT hfs hb2 k2 => ?_⟩
      walk_at "go"
      refine inner _ _ hb2 (by omega) (fun H3 v r dv hf hp hb3 k3 => ?_)
      have nTb : T ≠ b := fun e => by obtain ⟨_, _, _, eb, _⟩ := hb2; rw [e, eb] at eT; cases eT
      walk_at "go"
      refine ⟨(by show 3 ≤ sizeLine; decide), fun q hq => ?_⟩
      exact fin _ _ (.n1 (.faces fs) r) _ (dp_n1 (o := .faces fs) (vs := [V.ref T]) hq (.cons (.tup (SqT.of (k3 _ _ nTb eT)) (dpA_strs.mpr rfl)) .nil) dv) ⟨hfs, rfl, hf⟩ (by show r.parts + 1 ≤ 3; omega) (hb3.new hq) (by omega) (k2.trans (k3.trans (Same.kp (same_new hq))))
    walk_at "go"
    refine r_iteN' (fun h8 => ?_) (fun h8 => ?_)
    · walk_at "go"
      refine inner _ _ hb1 (by omega) (fun H3 v r dv hf hp hb3 k3 => ?_)
      walk_at "go"
      refine ⟨(by show 2 ≤ sizeLine; decide), fun q hq => ?_⟩
      exact fin _ _ (.n1 .back r) _ (dp_n1 (o := .back) (vs := []) hq .nil dv) ⟨trivial, rfl, hf⟩ (by show r.parts + 1 ≤ 3; omega) (hb3.new hq) (by omega) (k3.trans (Same.kp (same_new hq)))
    walk_at "go"
    refine r_iteN' (fun h9 => ?_) (fun h9 => ?_)
    · walk_at "go"
      refine ⟨b, _, n + 1, rfl, hb1, by omega, by decide, fun r2 H2 r20 r21 hb2 of2 => ?_⟩
      obtain ⟨x, rfl⟩ : ∃ x : Nat, r2 = (x : Int) := ⟨r2.toNat, by omega⟩
      walk_at "go"
      refine ⟨b, _, n + 1 + 1, rfl, hb2, by omega, by decide, fun r3 H3 r30 r31 hb3 of3 => ?_⟩
      obtain ⟨y, rfl⟩ : ∃ y : Nat, r3 = (y : Int) := ⟨r3.toNat, by omega⟩
      walk_at "go"
      refine inner _ _ hb3 (by omega) (fun H4 v r dv hf hp hb4 k4 => ?_)
      walk_at "go"
      refine ⟨(by show 4 ≤ sizeLine; decide), fun q hq => ?_⟩
      exact fin _ _ (.n1 (.cut x y) r) _ (dp_n1 (o := .cut x y) (vs := [vi x, vi y]) hq (.cons (.int _) (.cons (.int _) .nil)) dv) ⟨⟨by omega, by omega⟩, rfl, hf⟩ (by show r.parts + 1 ≤ 3; omega) (hb4.new hq) (by omega) (of2.kp.trans (of3.kp.trans (k4.trans (Same.kp (same_new hq)))))
    walk_at "go"
    refine r_iteN' (fun h10 => ?_) (fun h10 => ?_)
    · walk_at "go"
      refine inner _ _ hb1 (by omega) (fun H3 v r dv hf hp hb3 k3 => ?_)
      walk_at "go"
      refine inner _ _ hb3 (by omega) (fun H4 v2 r2 dv2 hf2 hp2 hb4 k4 => ?_)
      walk_at "go"
      refine ⟨(by show 3 ≤ sizeLine; decide), fun q hq => ?_⟩
      exact fin _ _ (.n2 .both r r2) _ (dp_n2 (o := .both) (vs := []) hq .nil (dp_bag dv hb3 k4) dv2) ⟨trivial, rfl, hf, hf2⟩ (by show r.parts + r2.parts + 1 ≤ 3; omega) (hb4.new hq) (by omega) (k3.trans (k4.trans (Same.kp (same_new hq))))
    walk_at "go"
    refine r_iteN' (fun h11 => ?_) (fun h11 => ?_)
    · walk_at "go"
      refine inner _ _ hb1 (by omega) (fun H3 v r dv hf hp hb3 k3 => ?_)
      walk_at "go"
      refine inner _ _ hb3 (by omega) (fun H4 v2 r2 dv2 hf2 hp2 hb4 k4 => ?_)
      walk_at "go"
      refine ⟨(by show 3 ≤ sizeLine; decide), fun q hq => ?_⟩
      exact fin _ _ (.n2 .either r r2) _ (dp_n2 (o := .either) (vs := []) hq .nil (dp_bag dv hb3 k4) dv2) ⟨trivial, rfl, hf, hf2⟩ (by show r.parts + r2.parts + 1 ≤ 3; omega) (hb4.new hq) (by omega) (k3.trans (k4.trans (Same.kp (same_new hq))))
    · walk_at "go"
      refine inner _ _ hb1 (by omega) (fun H3 v r dv hf hp hb3 k3 => ?_)
      walk_at "go"
      refine ⟨(by show 2 ≤ sizeLine; decide), fun q hq => ?_⟩
      exact fin _ _ (.n1 .not r) _ (dp_n1 (o := .not) (vs := []) hq .nil dv) ⟨trivial, rfl, hf⟩ (by show r.parts + 1 ≤ 3; omega) (hb3.new hq) (by omega) (k3.trans (Same.kp (same_new hq)))
theorem ro_all {f : Addr} {fd : FuncData} (F : Fun K "_law_rule_of" "_law_rule_of" sLRuleOf f fd) (B : Bl mg) (Op : OPick P w K mg base) (Osm : OSumG P w K mg base) (Oro : ORowsG P w K mg base) (Ogo : OGoals P w K mg base) (Ofo : OFacesG P w K mg base)
    (m : mg "_law_rule_of" = some (.ref f)) (bb : Binds K fd ["_law_bag", "_law_signs", "_law_deep"] []) : ∀ n : Nat, ORuleOf n P w K mg base
  | 0 => ⟨f, fd, none_ok fun vs H Q E h => by obtain ⟨b, z, n, d, _, hd, _⟩ := h; omega, m, F.kp, bb⟩
  | n + 1 => ⟨f, fd, ok_ruleOf F B Op Osm Oro Ogo Ofo (ro_all F B Op Osm Oro Ogo Ofo m bb n), m, F.kp, bb⟩
end
end K4

/-! L11n -/


namespace K4
open PySem L2 K1
abbrev sLWideSq : Stmt := top 72
abbrev nLWideSq : List Str := ["_law_bag", "_law_signs", "_law_paper", "_law_count", "_law_steps", "_law_rows", "_law_end", "_law_hit", "_law_goals", "_law_z", "_law_v", "_law_sign"]
theorem scLWideSq : FnScope nLWideSq ["_law_bag", "_law_signs", "_law_paper"] (defScope sLWideSq) := ⟨rfl, rfl, rfl, by decide +kernel, rfl, by decide +kernel, by decide +kernel⟩
abbrev scSA : Scope := { kind := ScopeKind.function, names := [(".0", NameKind.local), ("_law_z", NameKind.cell), ("tuple", NameKind.globalImplicit), ("range", NameKind.globalImplicit), ("len", NameKind.globalImplicit), ("_law_count", NameKind.cell), ("_law_signs", NameKind.cell), ("_law_steps", NameKind.cell)], isGenerator := false, isCoroutine := false }
abbrev scSB : Scope := { kind := ScopeKind.function, names := [(".0", NameKind.local), ("_law_z", NameKind.local), ("tuple", NameKind.globalImplicit), ("_law_bag", NameKind.cell), ("_law_count", NameKind.cell), ("_law_signs", NameKind.cell)], isGenerator := false, isCoroutine := false }
def tIfT (t ta tb : TT) : TT := fun σ H Q => t σ H fun c H1 => if c = true then ta σ H1 Q else tb σ H1 Q
theorem pt_ifExp {X : Cx} {c a b : Expr} {tc ta tb : TT} {pos : Pos} (hc : PT X c tc) (ha : PT X a ta) (hb : PT X b tb) : PT X (.IfExp c a b pos) (tIfT tc ta tb) := by
  refine ⟨fun pins s σ H Q I h => ?_⟩
  rw [PySem.isTrue]
  refine wpAny_bind (thn (hc.run pins s σ H _ I h) fun d s1 ⟨H1, I1, q1⟩ => ?_)
  cases d with
  | true => exact ha.run pins s1 σ H1 Q I1 q1
  | false => exact hb.run pins s1 σ H1 Q I1 q1
theorem r_ifsJ {c : TT} {u w : TS} {σ : L2.St} {H : Hp} {nx : L2.St → Hp → Prop} {rt : VK} {bk ct : L2.St → Hp → Prop} (A : L2.St → Hp → Prop)
    (q : ∀ nx' : L2.St → Hp → Prop, (∀ σ H, A σ H → nx' σ H) → tIfS c u w ⟨nx', rt, bk, ct⟩ σ H) (key : ∀ σ H, A σ H → nx σ H) : tIfS c u w ⟨nx, rt, bk, ct⟩ σ H := q nx key
def spWideSq (K : PySem.W.Frag) : Sp := fun vs H Q _ => ∃ (b : Addr) (z x : Str) (n : Nat), vs = [.ref b, .str z, .str x] ∧ IsBag H b n ∧ n ≤ 2 ^ 39 ∧ Good z ∧ Pp (tl z) (tl x) ∧ Drawn K b n 1000 H Q fun r => r.fit (tl z) ∧ r.parts = 1
abbrev OLed (P : Program) (w : World) (K : PySem.W.Frag) (mg : Str → Option Value) (base : Heap) : Prop := Own P w K mg base "_law_led" 1 ["_law_signs", "_law_rows", "_law_z", "_law_paper"] (spLed K)
section
variable {P : Program} {w : World} {K : PySem.W.Frag} {mg : Str → Option Value} {base : Heap} {dO dI : Addr}
theorem ok_wideSq {f : Addr} {fd : FuncData} (F : Fun K "_law_wide_square" "_law_wide_square" sLWideSq f fd) (B : Bl mg) (Op : OPick P w K mg base) (Oo : OOneOf P w K mg base) (Old : OLed P w K mg base) : FnOk P w K mg base CX0 3 f fd ["_law_bag", "_law_signs", "_law_paper"] (spWideSq K) := by
  refine F.ok scLWideSq (fun vs H Q E h => ?_) (fun cdv A outer s H vs Q E hr h => ?_)
  · obtain ⟨b, z, x, n, rfl, _⟩ := h
    rfl
  · obtain ⟨b, z, x, n, rfl, hb, hn, gz, hp, k⟩ := h
    refine ⟨_, (pss_cons (ps_set (i := 3) scLWideSq.nd rfl (Or.inr rfl) (pe_ifExp (pt_cmpR op_eq (pe_own Op (hr.mono (by omega)) (pa_cons (pv 0) (pa_cons pe_int pa_nil))) pe_int (nomark _)) (pe_op op_add pe_int (pe_own Op (hr.mono (by omega)) (pa_cons (pv 0) (pa_cons pe_int pa_nil)))) (pe_own Oo (hr.mono (by omega)) (pa_cons (pv 0) (pa_cons (pe_lst (pa_cons pe_int (pa_cons pe_int (pa_cons pe_int (pa_cons pe_int (pa_cons pe_int (pa_cons pe_int (pa_cons pe_int (pa_cons pe_int pa_nil))))))))) pa_nil))))) (pss_cons (ps_if (pt_cmpR op_gt (pv 3) pe_int (nomark _)) (pss_cons (ps_set (i := 4) scLWideSq.nd rfl (Or.inr rfl) (pe_lst (pa_cons (pe_op op_add pe_int (pe_own Op (hr.mono (by omega)) (pa_cons (pv 0) (pa_cons (pv 3) pa_nil)))) (pa_cons (pe_own Op (hr.mono (by omega)) (pa_cons (pv 0) (pa_cons (pv 3) pa_nil))) (pa_cons (pe_own Op (hr.mono (by omega)) (pa_cons (pv 0) (pa_cons pe_int pa_nil))) pa_nil))))) (pss_one (ps_set (i := 5) scLWideSq.nd rfl (Or.inl rfl) (pe_callTy call_tuple_of (by rfl) B.tuple (by decide +kernel) (pa_cons (pe_lc (own := [("_law_z", 9)]) (g := gName 9) (tt := tYes) rfl scLWideSq.nd (pi_range1 rfl B.range (pa_cons (pv 3) pa_nil)) (blkOk_by (N := nLWideSq) (sc := defScope sLWideSq) (by decide +kernel)) (fun _ _ _ _ _ => (pg_name (i := 9) scLWideSq.nd rfl (Or.inr rfl))) (fun _ _ _ _ _ => pts_nil) (fun _ _ _ _ _ => (pe_callTy (T := "tuple") (r := rTupOf K) call_tupOf (by rfl) B.tuple (by decide +kernel) (pa_cons (pe_lc (own := [("_law_v", 10)]) (g := gName 10) (tt := tYes) rfl scLWideSq.nd (pi_range1 rfl B.range (pa_cons (pe_callB (r := rLenK K) call_len (by rfl) B.len PySem.boot_len (pa_cons (pv 1) pa_nil)) pa_nil)) (blkOk_by (N := nLWideSq) (sc := scSA) (by decide +kernel)) (fun _ _ _ _ _ => (pg_name (i := 10) scLWideSq.nd rfl (Or.inl rfl))) (fun _ _ _ _ _ => pts_nil) (fun _ _ _ _ _ => (pe_op op_modN (pe_callTy call_int1 (by rfl) B.int (by decide +kernel) (pa_cons (pe_op op_add (pe_op op_add (pe_op op_mul (pv 9) (pe_ix (r := rIxL K) ix_list (pv 4) pe_int (fun _ _ => rfl))) (pe_op op_mul (pv 10) (pe_ix (r := rIxL K) ix_list (pv 4) pe_int (fun _ _ => rfl)))) (pe_op op_mul (pe_op op_mul (pv 9) (pv 10)) (pe_ix (r := rIxL K) ix_list (pv 4) pe_int (fun _ _ => rfl)))) pa_nil)) (pv 3)))) pa_nil)))) pa_nil))))) (pss_one (ps_set (i := 5) scLWideSq.nd rfl (Or.inl rfl) (pe_callTy call_tuple_of (by rfl) B.tuple (by decide +kernel) (pa_cons (pe_lc (own := [("_law_z", 9)]) (g := gName 9) (tt := tYes) rfl scLWideSq.nd (pi_range1 rfl B.range (pa_cons (pv 3) pa_nil)) (blkOk_by (N := nLWideSq) (sc := defScope sLWideSq) (by decide +kernel)) (fun _ _ _ _ _ => (pg_name (i := 9) scLWideSq.nd rfl (Or.inl rfl))) (fun _ _ _ _ _ => pts_nil) (fun _ _ _ _ _ => (pe_callTy (T := "tuple") (r := rTupOf K) call_tupOf (by rfl) B.tuple (by decide +kernel) (pa_cons (pe_lc (own := [("_law_sign", 11)]) (g := gName 11) (tt := tYes) rfl scLWideSq.nd (pi_str (pv 1)) (blkOk_by (N := nLWideSq) (sc := scSB) (by decide +kernel)) (fun _ _ _ _ _ => (pg_name (i := 11) scLWideSq.nd rfl (Or.inl rfl))) (fun _ _ _ _ _ => pts_nil) (fun _ _ _ _ _ => (pe_own Op (hr.mono (by omega)) (pa_cons (pv 0) (pa_cons (pv 3) pa_nil))))) pa_nil)))) pa_nil))))) (pss_cons (ps_set (i := 6) scLWideSq.nd rfl (Or.inr rfl) (pe_own Old (hr.mono (by omega)) (pa_cons (pv 1) (pa_cons (pv 5) (pa_cons pe_int (pa_cons (pv 2) pa_nil)))))) (pss_cons (ps_set (i := 7) scLWideSq.nd rfl (Or.inr rfl) (pe_cmpR op_gt (pe_own Op (hr.mono (by omega)) (pa_cons (pv 0) (pa_cons pe_int pa_nil))) pe_int (nomark _))) (pss_cons (ps_setLc (i := 8) (own := [("_law_z", 9)]) (g := gName 9) rfl scLWideSq.nd rfl rfl (sw_true rfl rfl rfl (by decide +kernel)) (pi_range1 rfl B.range (pa_cons (pv 3) pa_nil)) (blkOk_by (N := nLWideSq) (sc := defScope sLWideSq) (by decide +kernel)) (fun _ _ _ _ _ => (pg_name (i := 9) scLWideSq.nd rfl (Or.inl rfl))) (fun _ _ _ _ _ => (pts_one (pt_ifExp (pt_cmpR op_eq (pv 9) (pv 6) (nomark _)) (pt_val (pv 7)) (pt_cmpR op_eq (pe_own Op (hr.mono (by omega)) (pa_cons (pv 0) (pa_cons pe_int pa_nil))) pe_int (nomark _))))) (fun _ _ _ _ _ => (pv 9))) (pss_one (ps_ret (pe_tup (pa_cons pe_str (pa_cons (pv 5) (pa_cons (pe_callTy call_tuple_of (by rfl) B.tuple (by decide +kernel) (pa_cons (pe_ifExp (pt_truth (pv 8) (by intro _; rfl)) (pv 8) (pe_lst (pa_cons (pe_op op_modN (pe_callTy call_int1 (by rfl) B.int (by decide +kernel) (pa_cons (pe_op op_add (pv 6) pe_int) pa_nil)) (pv 3)) pa_nil))) pa_nil)) pa_nil))))))))))), ?_⟩
    try dsimp only [cxOf, Cx.nox, Cx.wish]
    have nd := good_nd gz
    have lz := len_tl z
    have z12 : (tl z).length ≤ 12 := gz.hi
    have lx := len_tl x
    have x60 := hp.le
    refine r_seq (r_asg (r_ifJ (fun v H' => ∃ m : Nat, v = vi m ∧ 1 ≤ m ∧ m ≤ 60 ∧ IsBag H' b (n + 2) ∧ Kp b H H') (fun Q' h => ?_) ?_))
    · walk_at "go"
      refine ⟨b, _, n, rfl, hb, by omega, by decide, fun r1 H1 _ _ hb1 of1 => ?_⟩
      walk_at "go"
      refine r_iteN' (fun h0 => ?_) (fun h0 => ?_)
      · walk_at "go"
        refine ⟨b, _, _, rfl, hb1, by omega, by decide, fun r2 H2 r20 r21 hb2 of2 => ?_⟩
        walk_at "go"
        obtain ⟨m, hm⟩ : ∃ m : Nat, 8 + r2 = (m : Int) := ⟨(8 + r2).toNat, by omega⟩
        rw [hm]
        exact h _ _ ⟨m, rfl, by omega, by omega, hb2, of1.kp.trans of2.kp⟩
      · walk_at "go"
        refine ⟨(by show 8 ≤ sizeLine; decide), fun p hp4 => ?_⟩
        have npb := hb1.ne hp4
        walk_at "go"
        refine ⟨b, _, [V.int 1, V.int 2, V.int 2, V.int 3, V.int 3, V.int 4, V.int 5, V.int 7], n + 1, rfl, hb1.new hp4, by omega, .inr ⟨p, rfl, SqL.of upd_same, npb, by decide⟩, by simp, fun v H2 hx hb2 of2 => ?_⟩
        have k2 : Kp b H H2 := of1.kp.trans ((Same.kp (same_new hp4)).trans of2.kp)
        simp only [List.mem_cons, List.not_mem_nil, or_false] at hx
        rcases hx with rfl | rfl | rfl | rfl | rfl | rfl | rfl | rfl
        · exact h _ _ ⟨1, rfl, by decide, by decide, hb2, k2⟩
        · exact h _ _ ⟨2, rfl, by decide, by decide, hb2, k2⟩
        · exact h _ _ ⟨2, rfl, by decide, by decide, hb2, k2⟩
        · exact h _ _ ⟨3, rfl, by decide, by decide, hb2, k2⟩
        · exact h _ _ ⟨3, rfl, by decide, by decide, hb2, k2⟩
        · exact h _ _ ⟨4, rfl, by decide, by decide, hb2, k2⟩
        · exact h _ _ ⟨5, rfl, by decide, by decide, hb2, k2⟩
        · exact h _ _ ⟨7, rfl, by decide, by decide, hb2, k2⟩
    rintro v H2 ⟨m, rfl, m1, m60, hb2, k2⟩
    refine K1.r_name ?_
    try dsimp only [List.set]
    refine K1.r_seq (r_ifsJ (fun σ H' => ∃ (o4 : Option V) (T : Addr) (rows : List (List Nat)), σ = [some (.ref b), some (.str z), some (.str x), some (vi m), o4, some (.ref T), none, none, none, none, none, none] ∧ Dp K H' (.ref T) (.tuple (rows.map rowD)) ∧ rows.length = m ∧
      (∀ r ∈ rows, r.length = (tl z).length ∧ ∀ x ∈ r, x < m) ∧ IsBag H' b (n + 800) ∧ Kp b H H') (fun nx' hn' => ?_) ?_)
    · walk_at "go"
      refine r_iteN' (fun h0 => ?_) (fun h0 => ?_)
      · walk_at "go"
        refine ⟨b, _, _, rfl, hb2, by omega, by omega, fun r1 H3 r10 r11 hb3 of3 => ?_⟩
        walk_at "go"
        refine ⟨b, _, _, rfl, hb3, by omega, by omega, fun r2 H4 r20 r21 hb4 of4 => ?_⟩
        walk_at "go"
        refine ⟨b, _, _, rfl, hb4, by omega, by decide, fun r3 H5 r30 r31 hb5 of5 => ?_⟩
        obtain ⟨a0, ha0⟩ : ∃ a0 : Nat, 1 + r1 = (a0 : Int) := ⟨(1 + r1).toNat, by omega⟩
        obtain ⟨a1, rfl⟩ : ∃ a1 : Nat, r2 = (a1 : Int) := ⟨r2.toNat, by omega⟩
        obtain ⟨a2, rfl⟩ : ∃ a2 : Nat, r3 = (a2 : Int) := ⟨r3.toNat, by omega⟩
        have k5 := k2.trans (of3.kp.trans (of4.kp.trans of5.kp))
        walk_at "go"
        rw [ha0]
        refine ⟨(by show 3 ≤ sizeLine; decide), fun L hL => ?_⟩
        have sL := same_new (o := HO.lst [vi a0, vi a1, vi a2]) hL
        have eL : (upd H5 L (.lst [vi a0, vi a1, vi a2])) L = some (.lst [vi a0, vi a1, vi a2]) := upd_same
        have hb6 := hb5.new (o := HO.lst [vi a0, vi a1, vi a2]) hL
        have k6 := k5.trans (Same.kp sL)
        walk_at "go"
        revert sL eL hb6 k6
        generalize upd H5 L (.lst [vi a0, vi a1, vi a2]) = H6
        intro sL eL hb6 k6
        refine ⟨by omega, by omega, fun D hD => ?_⟩
        refine lc_gen (walk_rng (lo := 0) (n := m)) (fun _ => rfl) (fun acc H' => ∃ rows : List (List Nat), DpAll K H' acc (rows.map rowD) ∧ (∀ r ∈ rows, r.length = (tl z).length ∧ ∀ x ∈ r, x < m) ∧ Same H6 H') ⟨[], .nil, (fun r h => by cases h), same_new hD⟩ (fun _ _ _ _ => trivial) ?_ ?_
        · rintro i y acc H7 hy la hacc ⟨rows, hA, hrw, s7⟩
          have hic : i < m := by have := (List.getElem?_eq_some_iff.mp hy).1; rw [List.length_map, List.length_range] at this; exact this
          have hyi : y = vi i := by
            rw [List.getElem?_map, List.getElem?_range hic] at hy
            rw [← Option.some.inj hy]
            exact congrArg V.int (Int.zero_add _)
          subst hyi
          walk_at "go"
          refine ⟨_, _, rfl, lenS (small_line (by omega)), ?_⟩
          walk_at "go"
          refine ⟨by omega, by omega, fun D2 hD2 => ?_⟩
          refine lc_gen (walk_rng (lo := 0) (n := z.length)) (fun _ => rfl) (fun acc2 H' => ∃ ns : List Nat, acc2 = ns.map vi ∧ (∀ y ∈ ns, y < m) ∧ Same H7 H') ⟨[], rfl, (fun c h => by cases h), same_new hD2⟩ (fun _ _ _ _ => trivial) ?_ ?_
          · rintro j y acc2 H8 hy la2 hacc2 ⟨ns, rfl, hns, s8⟩
            have hj : j < z.length := by have := (List.getElem?_eq_some_iff.mp hy).1; rw [List.length_map, List.length_range] at this; exact this
            have hyj : y = vi j := by
              rw [List.getElem?_map, List.getElem?_range hj] at hy
              rw [← Option.some.inj hy]
              exact congrArg V.int (Int.zero_add _)
            subst hyj
            have eL8 := s8 _ _ (s7 _ _ eL)
            walk_at "go"
            refine r_ixL (SqL.of eL8) (atI_nat (j := 0) rfl) ?_
            refine r_mul (by omega) ?_
            walk_at "go"
            refine r_ixL (SqL.of eL8) (atI_nat (j := 1) rfl) ?_
            refine r_mul (by omega) ?_
            walk_at "go"
            have hij : i * j ≤ 60 * 12 := Nat.mul_le_mul (by omega) (by omega)
            refine r_mul (by omega) ?_
            walk_at "go"
            refine r_ixL (SqL.of eL8) (atI_nat (j := 2) rfl) ?_
            refine r_mul (by omega) ?_
            walk_at "go"
            rw [← Int.natCast_add, ← Int.natCast_add]
            refine r_mod (by omega) ?_
            refine pp_next hacc2 la2 (line60 (by omega)) ⟨ns ++ [(i * a0 + j * a1 + i * j * a2) % m], by rw [List.map_append]; rfl, fun x hx => ?_, same_upd s8 hD2⟩
            rcases List.mem_append.mp hx with q | q
            · exact hns x q
            · rw [List.mem_singleton.mp q]; exact Nat.mod_lt _ (by omega)
          · rintro acc2 H8 la2 hacc2 ⟨ns, rfl, hns, s8⟩
            rw [List.length_map, List.length_map, List.length_range] at la2
            walk_at "go"
            refine ⟨D2, ns.map vi, rfl, .inl ⟨SqL.of hacc2, fun T2 hT2 => ?_⟩⟩
            have s9 := same_new (o := HO.tup (ns.map vi)) hT2
            have s89 := s8.trans s9
            have e9 := s89 _ _ hacc
            refine pp_next e9 la (line60 (by omega)) ⟨rows ++ [ns], ?_, fun r hr' => ?_, same_upd (s7.trans s89) hD⟩
            · have kt : KT K (upd H8 T2 (.tup (ns.map vi))) (upd (upd H8 T2 (.tup (ns.map vi))) D (.lst (acc ++ [V.ref T2]))) := kt_lst e9
              rw [List.map_append]
              exact dpA_app (dpA_pure kt _ _ (rowD_pure rows) (dpA_keep (Same.keeps s89) _ _ hA)) (.cons (dp_pure kt _ _ (pure_nums ns) (.tup (SqT.of upd_same) (dpA_nums.mpr rfl))) .nil)
            · rcases List.mem_append.mp hr' with q | q
              · exact hrw r q
              · rw [List.mem_singleton.mp q]
                exact ⟨by omega, hns⟩
        · rintro acc H7 la hacc ⟨rows, hA, hrw, s7⟩
          rw [List.length_map, List.length_range] at la
          walk_at "go"
          refine ⟨D, acc, rfl, .inl ⟨SqL.of hacc, fun T hT => ?_⟩⟩
          have s8 := same_new (o := HO.tup acc) hT
          refine hn' _ _ ⟨_, T, rows, rfl, .tup (SqT.of upd_same) (dpA_keep (Same.keeps s8) _ _ hA), by have := dpA_len hA; rw [List.length_map] at this; omega, hrw, (hb6.same (s7.trans s8)).mono (by omega), k6.trans (Same.kp (s7.trans s8))⟩
      · walk_at "go"
        refine ⟨by omega, by omega, fun D hD => ?_⟩
        have nDb := hb2.ne hD
        refine lc_gen (walk_rng (lo := 0) (n := m)) (fun _ => rfl) (fun acc H' => ∃ rows : List (List Nat), DpAll K H' acc (rows.map rowD) ∧ (∀ r ∈ rows, r.length = (tl z).length ∧ ∀ x ∈ r, x < m) ∧ IsBag H' b (n + 2 + 12 * acc.length) ∧ Kp b H2 H') ⟨[], .nil, (fun r h => by cases h), hb2.new hD, Same.kp (same_new hD)⟩ (fun _ _ _ _ => trivial) ?_ ?_
        · rintro i y acc H3 hy la hacc ⟨rows, hA, hrw, hb3, k3⟩
          rw [la] at hb3
          have hic : i < m := by have := (List.getElem?_eq_some_iff.mp hy).1; rw [List.length_map, List.length_range] at this; exact this
          walk_at "go"
          intro D2 hD2
          have nD2b := hb3.ne hD2
          have nDD2 : D ≠ D2 := fun q => by rw [q, hD2] at hacc; cases hacc
          refine lc_gen walk_sgn (fun _ => rfl) (fun acc2 H' => ∃ ns : List Nat, acc2 = ns.map vi ∧ (∀ y ∈ ns, y < m) ∧ IsBag H' b (n + 2 + 12 * i + acc2.length) ∧ Kp b H3 H') ⟨[], rfl, (fun c h => by cases h), hb3.new hD2, Same.kp (same_new hD2)⟩ (fun _ _ _ _ => trivial) ?_ ?_
          · rintro j y acc2 H4 hy la2 hacc2 ⟨ns, rfl, hns, hb4, k4⟩
            rw [la2] at hb4
            have hj : j < 12 := by
              have := (List.getElem?_eq_some_iff.mp hy).1
              rw [List.length_map, sgn_len] at this
              omega
            walk_at "go"
            refine ⟨b, _, _, rfl, hb4, by omega, by omega, fun r5 H5 r50 r51 hb5 of5 => ?_⟩
            obtain ⟨g, rfl⟩ : ∃ g : Nat, r5 = (g : Int) := ⟨r5.toNat, by omega⟩
            refine pp_next (of5.at nD2b hacc2) la2 (line60 (by omega)) ⟨ns ++ [g], by rw [List.map_append]; rfl, fun y hy => ?_, ?_, kp_upd' (k4.trans of5.kp) hD2⟩
            · rcases List.mem_append.mp hy with q | q
              · exact hns y q
              · rw [List.mem_singleton.mp q]; omega
            · rw [List.length_append, la2]
              exact bag_upd hb5 nD2b
          · rintro acc2 H4 la2 hacc2 ⟨ns, rfl, hns, hb4, k4⟩
            rw [List.length_map, List.length_map, sgn_len] at la2
            rw [List.length_map, la2] at hb4
            walk_at "go"
            refine ⟨D2, ns.map vi, rfl, .inl ⟨SqL.of hacc2, fun T2 hT2 => ?_⟩⟩
            have s5 := same_new (o := HO.tup (ns.map vi)) hT2
            have e4 := k4 _ _ nDb hacc
            refine pp_next (s5 _ _ e4) la (line60 (by omega)) ⟨rows ++ [ns], ?_, fun r hr' => ?_, ?_, ?_⟩
            · have kt : KT K (upd H4 T2 (.tup (ns.map vi))) (upd (upd H4 T2 (.tup (ns.map vi))) D (.lst (acc ++ [V.ref T2]))) := kt_lst (s5 _ _ e4)
              have q1 : DpAll K (upd H4 T2 (.tup (ns.map vi))) acc (rows.map rowD) := dpA_keep (Same.keeps s5) _ _ (dpA_pure (bag_kt hb3 k4) _ _ (rowD_pure rows) hA)
              rw [List.map_append]
              exact dpA_app (dpA_pure kt _ _ (rowD_pure rows) q1) (.cons (dp_pure kt _ _ (pure_nums ns) (.tup (SqT.of upd_same) (dpA_nums.mpr rfl))) .nil)
            · rcases List.mem_append.mp hr' with q | q
              · exact hrw r q
              · rw [List.mem_singleton.mp q]
                exact ⟨by omega, hns⟩
            · rw [List.length_append, la]
              exact bag_upd ((hb4.new hT2).mono (by show _ ≤ n + 2 + 12 * (i + 1); omega)) nDb
            · exact kp_upd' ((k3.trans k4).trans (Same.kp s5)) hD
        · rintro acc H3 la hacc ⟨rows, hA, hrw, hb3, k3⟩
          rw [List.length_map, List.length_range] at la
          rw [la] at hb3
          walk_at "go"
          refine ⟨D, acc, rfl, .inl ⟨SqL.of hacc, fun T hT => ?_⟩⟩
          have s4 := same_new (o := HO.tup acc) hT
          refine hn' _ _ ⟨_, T, rows, rfl, .tup (SqT.of upd_same) (dpA_keep (Same.keeps s4) _ _ hA), by have := dpA_len hA; rw [List.length_map] at this; omega, hrw, (hb3.new hT).mono (by omega), (k2.trans k3).trans (Same.kp s4)⟩
    · rintro σ H3 ⟨o4, T, rows, rfl, dT, lr, hrw, hb3, k3⟩
      walk_at "go"
      obtain ⟨rvs, hSq, hRA⟩ := dp_sq (t := true) (ds := rows.map rowD) dT
      have hR : RowsAt K H3 rvs rows := rows_of (t := true) hRA
      have hfit0 : Ow.fit (tl z) (.square rows [0]) := ⟨fun e => by rw [e] at lr; simp at lr; omega, by omega, by rw [lr]; exact hrw, by simp, by simp, fun g hg => by rw [List.mem_singleton.mp hg]; omega⟩
      refine ⟨z, .ref T, rvs, rows, [0], x, 0, rfl, by omega, nd, hSq, hR, hfit0, by omega, hp.all, ?_⟩
      have hend : runs (tl z) rows 0 (tl x) < m := by
        have := runs_lt (z := tl z) (rows := rows) (fun a c h1 h2 => stp_lt hfit0 h1 h2) (p := tl x) (a := 0) (by omega) hp.all
        omega
      revert hend
      generalize runs (tl z) rows 0 (tl x) = en
      intro hend
      walk_at "go"
      refine ⟨b, _, _, rfl, hb3, by omega, by decide, fun r4 H4 _ _ hb4 of4 => ?_⟩
      walk_at "go"
      generalize (decide (0 < r4)) = hit
      refine ⟨by omega, by omega, fun D hD => ?_⟩
      have k4 := k3.trans of4.kp
      have nDb := hb4.ne hD
      have hDn : H D = none := by
        cases e : H D with
        | none => rfl
        | some o => exact absurd (k4 D o nDb e) (by rw [hD]; intro z; cases z)
      have pT : pure (PyData.tuple (rows.map rowD)) = true := by rw [K4.pure]; exact rowD_pure rows
      have dT4 := dp_pure (bag_kt hb3 of4.kp) _ _ pT dT
      refine lc_it (walk_rng (lo := 0) (n := m)) (fun i H' => ∃ gs : List Nat, H' D = some (.lst (gs.map vi)) ∧ gs.Pairwise (· < ·) ∧ (∀ g ∈ gs, g < i) ∧ gs.length ≤ i ∧ IsBag H' b (n + 801 + i) ∧ Kp b H4 H') ⟨[], upd_same, .nil, (fun g h => by cases h), Nat.le_refl _, (hb4.new hD).mono (by omega), Same.kp (same_new hD)⟩ (fun _ _ _ _ => trivial) ?_ ?_
      · rintro i y H5 H5' hi ⟨gs, eD, up, lt, gl, hb5, k5⟩ ⟨rfl, hx⟩
        rw [List.length_map, List.length_range] at hi
        rw [List.getElem?_map, List.getElem?_range hi] at hx
        obtain rfl := Option.some.inj hx
        refine ⟨rfl, ?_⟩
        have stay : ∀ H', IsBag H' b (n + 801 + i + 1) → Kp b H5' H' → ∃ acc, H' D = some (.lst acc) ∧ acc.length < sizeLine ∧ ∃ gs : List Nat, (upd H' D (.lst (acc ++ [vi i]))) D = some (.lst (gs.map vi)) ∧ gs.Pairwise (· < ·) ∧ (∀ g ∈ gs, g < i + 1) ∧ gs.length ≤ i + 1 ∧
            IsBag (upd H' D (.lst (acc ++ [vi i]))) b (n + 801 + (i + 1)) ∧ Kp b H4 (upd H' D (.lst (acc ++ [vi i]))) := fun H' hb' k' => by
          refine ⟨gs.map vi, k' _ _ nDb eD, line60 (by rw [List.length_map]; omega), gs ++ [i], by rw [upd_same, List.map_append]; rfl, ?_, ?_, by rw [List.length_append, List.length_singleton]; omega, bag_upd hb' nDb, kp_upd' (k5.trans k') hD⟩
          · rw [List.pairwise_append]
            exact ⟨up, by simp, fun u hu v hv => by rw [List.mem_singleton.mp hv]; exact lt u hu⟩
          · intro g hg
            rcases List.mem_append.mp hg with q | q
            · have := lt g q; omega
            · rw [List.mem_singleton.mp q]; omega
        have drop : ∀ H', IsBag H' b (n + 801 + i + 1) → Kp b H5' H' → ∃ gs : List Nat, H' D = some (.lst (gs.map vi)) ∧ gs.Pairwise (· < ·) ∧ (∀ g ∈ gs, g < i + 1) ∧ gs.length ≤ i + 1 ∧ IsBag H' b (n + 801 + (i + 1)) ∧ Kp b H4 H' := fun H' hb' k' =>
          ⟨gs, k' _ _ nDb eD, up, fun g hg => by have := lt g hg; omega, by omega, hb', k5.trans k'⟩
        dsimp only
        rw [Int.zero_add]
        unfold tIfT
        walk_at "go"
        refine r_iteN' (fun h1 => ?_) (fun h1 => ?_)
        · walk_at "go"
          cases hit
          · walk_at "go"
            exact drop _ (hb5.mono (by omega)) (Kp.refl _ _)
          · walk_at "go"
            exact stay _ (hb5.mono (by omega)) (Kp.refl _ _)
        · walk_at "go"
          refine ⟨b, _, _, rfl, hb5, by omega, by decide, fun r6 H6 _ _ hb6 of6 => ?_⟩
          walk_at "go"
          refine r_iteN' (fun h2 => ?_) (fun h2 => ?_)
          · walk_at "go"
            exact stay _ hb6 of6.kp
          · walk_at "go"
            exact drop _ hb6 of6.kp
      · rintro H5 ⟨gs, eD, up, lt, gl, hb5, k5⟩
        rw [List.length_map, List.length_range] at *
        have dT5 := dp_pure (bag_kt hb4 k5) _ _ pT dT4
        have fin : ∀ (H6 : Hp) (G : Addr) (gs' : List Nat), H6 G = some (.tup (gs'.map vi)) → gs' ≠ [] → gs'.Pairwise (· < ·) → (∀ g ∈ gs', g < m) → Same H5 H6 → ∀ q, H6 q = none → Q (.ref q) (upd H6 q (.tup [V.str (Str.ofString "square"), .ref T, .ref G])) := fun H6 G gs' eG gne gup glt s6 q hq => by
          refine k _ _ (.n0 (.square rows gs')) (dp_n0 (o := .square rows gs') (vs := [V.ref T, V.ref G]) hq (.cons (dp_keep (Same.keeps s6) _ _ dT5) (.cons (.tup (SqT.of eG) (dpA_nums.mpr rfl)) .nil))) ⟨⟨⟨hfit0.1, hfit0.2.1, hfit0.2.2.1, gne, gup, by rw [lr]; exact glt⟩, rfl⟩, rfl⟩
            (((hb5.same s6).new hq).mono (by omega)) ((k4.trans k5).trans ((Same.kp s6).trans (Same.kp (same_new hq))))
        walk_at "go"
        refine ⟨!gs.isEmpty, tru_l (SqL.of eD) (by cases gs <;> rfl), ?_⟩
        cases gs with
        | nil =>
          walk_at "go"
          rw [show ((en : Int) + 1) = ((en + 1 : Nat) : Int) by omega]
          refine r_mod (by omega) ?_
          walk_at "go"
          refine ⟨(by show 1 ≤ sizeLine; decide), fun L hL => ?_⟩
          walk_at "go"
          refine ⟨L, [vi ((en + 1) % m)], rfl, .inl ⟨SqL.of upd_same, fun G hG => ?_⟩⟩
          walk_at "go"
          refine ⟨(by show 3 ≤ sizeLine; decide), fun q hq => ?_⟩
          exact fin _ G [(en + 1) % m] upd_same (by simp) (by simp) (fun g hg => by rw [List.mem_singleton.mp hg]; exact Nat.mod_lt _ (by omega)) ((same_new hL).trans (same_new hG)) q hq
        | cons g gs =>
          walk_at "go"
          refine ⟨D, _, rfl, .inl ⟨SqL.of eD, fun G hG => ?_⟩⟩
          walk_at "go"
          refine ⟨(by show 3 ≤ sizeLine; decide), fun q hq => ?_⟩
          exact fin _ G (g :: gs) upd_same (by simp) up lt (same_new hG) q hq
end
end K4

/-! L11o -/


namespace K4
open PySem L2 K1
abbrev sLRuleOn : Stmt := top 74
abbrev nLRuleOn : List Str := ["_law_bag", "_law_signs", "_law_deep", "_law_paper", "_law_way", "_law_faces", "_law_faced", "_law_first", "_law_last", "_law_inner", "_law_k"]
theorem scLRuleOn : FnScope nLRuleOn ["_law_bag", "_law_signs", "_law_deep", "_law_paper"] (defScope sLRuleOn) := ⟨rfl, rfl, rfl, by decide +kernel, rfl, by decide +kernel, by decide +kernel⟩
def cOn : Nat → Nat
  | 0 => 1100
  | d + 1 => 200 + 2 * cOn d
def pOn : Nat → Nat
  | 0 => 1
  | d + 1 => 1 + 2 * pOn d
theorem cOn_lo : ∀ d, 1100 ≤ cOn d
  | 0 => Nat.le_refl _
  | d + 1 => by have := cOn_lo d; show 1100 ≤ 200 + 2 * cOn d; omega
theorem pOn_lo : ∀ d, 1 ≤ pOn d
  | 0 => Nat.le_refl _
  | d + 1 => by have := pOn_lo d; show 1 ≤ 1 + 2 * pOn d; omega
def spRuleOn (K : PySem.W.Frag) (m : Nat) : Sp := fun vs H Q _ => ∃ (b : Addr) (z x : Str) (n d : Nat), vs = [.ref b, .str z, vi d, .str x] ∧ d < m ∧ IsBag H b n ∧ n + cOn d ≤ 2 ^ 38 ∧ Good z ∧ Pp (tl z) (tl x) ∧ Drawn K b n (cOn d) H Q fun r => r.fit (tl z) ∧ r.parts ≤ pOn d
section
variable {P : Program} {w : World} {K : PySem.W.Frag} {mg : Str → Option Value} {base : Heap} {dO dI : Addr}
abbrev OWideSq (P : Program) (w : World) (K : PySem.W.Frag) (mg : Str → Option Value) (base : Heap) : Prop := Own P w K mg base "_law_wide_square" 3 ["_law_bag", "_law_signs", "_law_paper"] (spWideSq K)
abbrev OWideSum (P : Program) (w : World) (K : PySem.W.Frag) (mg : Str → Option Value) (base : Heap) : Prop := Own P w K mg base "_law_wide_sum" 3 ["_law_bag", "_law_signs", "_law_paper"] (spWideSum K)
abbrev OWideFaces (P : Program) (w : World) (K : PySem.W.Frag) (mg : Str → Option Value) (base : Heap) : Prop := Own P w K mg base "_law_wide_faces" 3 ["_law_bag", "_law_signs"] (spFacesG K)
abbrev ORuleOn (m : Nat) (P : Program) (w : World) (K : PySem.W.Frag) (mg : Str → Option Value) (base : Heap) : Prop := Own P w K mg base "_law_rule_on" (m + 3) ["_law_bag", "_law_signs", "_law_deep", "_law_paper"] (spRuleOn K m)
theorem ok_ruleOn {m : Nat} {f : Addr} {fd : FuncData} (F : Fun K "_law_rule_on" "_law_rule_on" sLRuleOn f fd) (B : Bl mg) (Op : OPick P w K mg base) (Osq : OWideSq P w K mg base) (Osw : OWideSum P w K mg base) (Ofw : OWideFaces P w K mg base) (Oru : ORuleOn m P w K mg base) :
    FnOk P w K mg base CX0 (m + 1 + 3) f fd ["_law_bag", "_law_signs", "_law_deep", "_law_paper"] (spRuleOn K (m + 1)) := by
  refine F.ok scLRuleOn (fun vs H Q E h => ?_) (fun cdv A outer s H vs Q E hr h => ?_)
  · obtain ⟨b, z, x, n, d, rfl, _⟩ := h
    rfl
  · obtain ⟨b, z, x, n, d, rfl, hdm, hb, hn, gz, hp, k⟩ := h
    refine ⟨_, (pss_cons (ps_set (i := 4) scLRuleOn.nd rfl (Or.inl rfl) (pe_ifExp (pt_cmpR op_gt (pv 2) pe_int (nomark _)) (pe_own Op (hr.mono (by omega)) (pa_cons (pv 0) (pa_cons pe_int pa_nil))) (pe_own Op (hr.mono (by omega)) (pa_cons (pv 0) (pa_cons pe_int pa_nil))))) (pss_cons (ps_if (PW.pt (pw_and (pt_cmpR op_eq (pv 4) pe_int (nomark _)) (pw_and (pt_cmpR op_lt (pv 2) pe_int (nomark _)) (pw_and1 (pt_cmpR op_eq (pe_own Op (hr.mono (by omega)) (pa_cons (pv 0) (pa_cons pe_int pa_nil))) pe_int (nomark _)))))) (pss_one (ps_ret (pe_tup (pa_cons pe_str pa_nil)))) pss_nil) (pss_cons (ps_if (pt_cmpR op_eq (pv 4) pe_int (nomark _)) (pss_one (ps_ret (pe_own Osq (hr.mono (by omega)) (pa_cons (pv 0) (pa_cons (pv 1) (pa_cons (pv 3) pa_nil)))))) pss_nil) (pss_cons (ps_if (pt_cmpR op_eq (pv 4) pe_int (nomark _)) (pss_cons (ps_set (i := 5) scLRuleOn.nd rfl (Or.inr rfl) (pe_own Ofw (hr.mono (by omega)) (pa_cons (pv 0) (pa_cons (pv 1) pa_nil)))) (pss_cons (ps_setLc (i := 6) (own := [("_law_k", 10)]) (g := gName 10) (tt := tYes) rfl scLRuleOn.nd rfl rfl (sw_true rfl rfl rfl (by decide +kernel)) (pi_range1 rfl B.range (pa_cons (pe_callB call_len (by rfl) B.len PySem.boot_len (pa_cons (pv 3) pa_nil)) pa_nil)) (blkOk_by (N := nLRuleOn) (sc := defScope sLRuleOn) (by decide +kernel)) (fun _ _ _ _ _ => (pg_name (i := 10) scLRuleOn.nd rfl (Or.inl rfl))) (fun _ _ _ _ _ => pts_nil) (fun _ _ _ _ _ => (pe_ix ix_str (pe_ix (r := rIxT K) ix_tup (pv 5) (pe_op op_modN (pe_callTy call_int1 (by rfl) B.int (by decide +kernel) (pa_cons (pv 10) pa_nil)) (pe_callB (r := rLenK K) call_len (by rfl) B.len PySem.boot_len (pa_cons (pv 5) pa_nil))) (fun _ _ => rfl)) (pe_bmK (K := K) rfl PySem.F.plainAttrs_str PySem.F.slot_str_index PySem.F.type_str_index mt_sindex (pv 1) (pa_cons (pe_ix ix_str (pv 3) (pv 10) (fun _ _ => rfl)) pa_nil)) (fun _ _ => rfl)))) (pss_one (ps_ret (pe_tup (pa_cons pe_str (pa_cons (pv 5) (pa_cons (pe_own Oru hr (pa_cons (pv 0) (pa_cons (pv 1) (pa_cons (pe_op op_sub (pv 2) pe_int) (pa_cons (pe_m1 PySem.F.slot_str_join PySem.F.type_str_join mt_join pe_str (pv 6)) pa_nil))))) pa_nil)))))))) pss_nil) (pss_cons (ps_if (pt_cmpR op_eq (pv 4) pe_int (nomark _)) (pss_one (ps_ret (pe_tup (pa_cons pe_str (pa_cons (pe_own Oru hr (pa_cons (pv 0) (pa_cons (pv 1) (pa_cons (pe_op op_sub (pv 2) pe_int) (pa_cons (pe_revS (pv 3)) pa_nil))))) pa_nil))))) pss_nil) (pss_cons (ps_if (PW.pt (pw_or (pt_cmpR op_eq (pv 4) pe_int (nomark _)) (pw_or1 (pt_cmpR op_eq (pv 4) pe_int (nomark _))))) (pss_cons (ps_set (i := 7) scLRuleOn.nd rfl (Or.inl rfl) (pe_own Op (hr.mono (by omega)) (pa_cons (pv 0) (pa_cons pe_int pa_nil)))) (pss_cons (ps_set (i := 8) scLRuleOn.nd rfl (Or.inl rfl) (pe_own Op (hr.mono (by omega)) (pa_cons (pv 0) (pa_cons pe_int pa_nil)))) (pss_cons (ps_set (i := 9) scLRuleOn.nd rfl (Or.inl rfl) (pe_ifExp (pt_cmpR op_ge (pe_callB call_len (by rfl) B.len PySem.boot_len (pa_cons (pv 3) pa_nil)) (pe_op op_add (pv 7) (pv 8)) (nomark _)) (pe_slice sl_str (pv 3) (po_some (pv 7)) (po_some (pe_op op_sub (pe_callB call_len (by rfl) B.len PySem.boot_len (pa_cons (pv 3) pa_nil)) (pv 8)))) (pv 3))) (pss_one (ps_ret (pe_tup (pa_cons pe_str (pa_cons (pv 7) (pa_cons (pv 8) (pa_cons (pe_own Oru hr (pa_cons (pv 0) (pa_cons (pv 1) (pa_cons (pe_op op_sub (pv 2) pe_int) (pa_cons (pv 9) pa_nil))))) pa_nil)))))))))) pss_nil) (pss_cons (ps_if (pt_cmpR op_eq (pv 4) pe_int (nomark _)) (pss_one (ps_ret (pe_tup (pa_cons pe_str (pa_cons (pe_own Oru hr (pa_cons (pv 0) (pa_cons (pv 1) (pa_cons (pe_op op_sub (pv 2) pe_int) (pa_cons (pv 3) pa_nil))))) (pa_cons (pe_own Oru hr (pa_cons (pv 0) (pa_cons (pv 1) (pa_cons (pe_op op_sub (pv 2) pe_int) (pa_cons (pv 3) pa_nil))))) pa_nil)))))) pss_nil) (pss_cons (ps_if (pt_cmpR op_eq (pv 4) pe_int (nomark _)) (pss_one (ps_ret (pe_tup (pa_cons pe_str (pa_cons (pe_own Oru hr (pa_cons (pv 0) (pa_cons (pv 1) (pa_cons (pe_op op_sub (pv 2) pe_int) (pa_cons (pv 3) pa_nil))))) (pa_cons (pe_own Oru hr (pa_cons (pv 0) (pa_cons (pv 1) (pa_cons (pe_op op_sub (pv 2) pe_int) (pa_cons (pv 3) pa_nil))))) pa_nil)))))) pss_nil) (pss_cons (ps_if (pt_cmpR op_eq (pv 4) pe_int (nomark _)) (pss_one (ps_ret (pe_tup (pa_cons pe_str (pa_cons (pe_own Oru hr (pa_cons (pv 0) (pa_cons (pv 1) (pa_cons (pe_op op_sub (pv 2) pe_int) (pa_cons (pv 3) pa_nil))))) pa_nil))))) pss_nil) (pss_one (ps_ret (pe_own Osw (hr.mono (by omega)) (pa_cons (pv 0) (pa_cons (pv 1) (pa_cons (pv 3) pa_nil))))))))))))))), ?_⟩
    try dsimp only [cxOf, Cx.nox, Cx.wish]
    have nd := good_nd gz
    have lz := len_tl z
    have z12 : (tl z).length ≤ 12 := gz.hi
    have lx := len_tl x
    have x60 := hp.le
    have dd := hn
    have e1 : 1 ≤ d → ((d : Int) - 1) = ((d - 1 : Nat) : Int) := fun h => by omega
    have cd0 := cOn_lo d
    have pd0 := pOn_lo d
    have cdS : 1 ≤ d → cOn d = 200 + 2 * cOn (d - 1) ∧ pOn d = 1 + 2 * pOn (d - 1) := fun h => by
      obtain ⟨e, rfl⟩ : ∃ e, d = e + 1 := ⟨d - 1, by omega⟩
      exact ⟨rfl, rfl⟩
    refine r_seq (r_asg (r_ifJ (fun v H' => ∃ wy : Nat, v = vi wy ∧ (wy < 10 ∧ 1 ≤ d ∨ wy < 3) ∧ IsBag H' b (n + 1) ∧ Kp b H H') (fun Q' h => ?_) ?_))
    · walk_at "go"
      refine r_iteN' (fun h0 => ?_) (fun h0 => ?_)
      · walk_at "go"
        refine ⟨b, _, n, rfl, hb, by omega, by decide, fun r1 H1 r10 r11 hb1 of1 => ?_⟩
        obtain ⟨wy, rfl⟩ : ∃ wy : Nat, r1 = (wy : Int) := ⟨r1.toNat, by omega⟩
        exact h _ _ ⟨wy, rfl, .inl ⟨by omega, by omega⟩, hb1, of1.kp⟩
      · walk_at "go"
        refine ⟨b, _, n, rfl, hb, by omega, by decide, fun r1 H1 r10 r11 hb1 of1 => ?_⟩
        obtain ⟨wy, rfl⟩ : ∃ wy : Nat, r1 = (wy : Int) := ⟨r1.toNat, by omega⟩
        exact h _ _ ⟨wy, rfl, .inr (by omega), hb1, of1.kp⟩
    rintro v H1 ⟨wy, rfl, hwy, hb1, k1⟩
    refine K1.r_name ?_
    try dsimp only [List.set]
    refine K1.r_seq (r_ifsJ (fun σ H' => σ = [some (.ref b), some (.str z), some (vi d), some (.str x), some (vi wy), none, none, none, none, none, none] ∧ IsBag H' b (n + 2) ∧ Kp b H H') (fun nx' hn' => ?_) ?_)
    · walk_at "go"
      refine r_iteN' (fun h0 => ?_) (fun h0 => ?_)
      · walk_at "go"
        refine r_iteN' (fun h1 => ?_) (fun h1 => ?_)
        · walk_at "go"
          refine ⟨b, _, _, rfl, hb1, by omega, by decide, fun r2 H2 _ _ hb2 of2 => ?_⟩
          walk_at "go"
          refine r_iteN' (fun h2 => ?_) (fun h2 => ?_)
          · walk_at "go"
            refine ⟨(by show 1 ≤ sizeLine; decide), fun q hq => ?_⟩
            exact k _ _ (.n0 .any) (dp_n0 (o := .any) (vs := []) hq .nil) ⟨⟨trivial, rfl⟩, pd0⟩ ((hb2.new hq).mono (by omega)) (k1.trans (of2.kp.trans (Same.kp (same_new hq))))
          · walk_at "go"
            exact hn' _ _ ⟨rfl, hb2, k1.trans of2.kp⟩
        · walk_at "go"
          exact hn' _ _ ⟨rfl, hb1.mono (by omega), k1⟩
      · walk_at "go"
        exact hn' _ _ ⟨rfl, hb1.mono (by omega), k1⟩
    rintro σ H2 ⟨rfl, hb2, k2⟩
    walk_at "go"
    refine r_iteN' (fun h1 => ?_) (fun h1 => ?_)
    · walk_at "go"
      exact ⟨b, z, x, _, rfl, hb2, by omega, gz, hp, fun H3 v r dv hr hb3 k3 => k H3 v r dv ⟨hr.1, by omega⟩ (hb3.mono (by omega)) (k2.trans k3)⟩
    have inner : 1 ≤ d → ∀ (H3 : Hp) (n2 : Nat) (y : Str) {Q2 : VK}, IsBag H3 b n2 → n2 ≤ n + 150 + cOn (d - 1) → Pp (tl z) (tl y) → (∀ (H' : Hp) (v : V) (r : R), Dp K H' v (r.data true) → r.fit (tl z) → r.parts ≤ pOn (d - 1) → IsBag H' b (n2 + cOn (d - 1)) → Kp b H3 H' → Q2 v H') → spRuleOn K m [.ref b, .str z, .int ((d : Int) - 1), .str y] H3 Q2 E0 := fun hd1 H3 n2 y Q2 hb3 ln hy kk =>
      ⟨b, z, y, n2, d - 1, by rw [e1 hd1], by omega, hb3, by have := (cdS hd1).1; omega, gz, hy, fun H4 v r dv hr hb4 k4 => kk H4 v r dv hr.1 hr.2 hb4 k4⟩
    have fin : 1 ≤ d → ∀ (H3 : Hp) (v : V) (r : R) (n2 : Nat), Dp K H3 v (r.data true) → r.fit (tl z) → r.parts ≤ 1 + 2 * pOn (d - 1) → IsBag H3 b n2 → n2 ≤ n + 200 + 2 * cOn (d - 1) → Kp b H2 H3 → Q v H3 := fun hd1 H3 v r n2 dv hf hpp hb3 ln k3 =>
      k H3 v r dv ⟨hf, by have := (cdS hd1).2; omega⟩ (hb3.mono (by have := (cdS hd1).1; omega)) (k2.trans k3)
    have n1 : wy ≠ 1 := fun e => h1 (by rw [e]; rfl)
    walk_at "go"
    refine r_iteN' (fun h3 => ?_) (fun h3 => ?_)
    · have w3 : wy = 3 := by have := V.int.inj h3; omega
      have hd1 : 1 ≤ d := by omega
      walk_at "go"
      refine ⟨b, z, _, rfl, hb2, by omega, gz, fun H3 T fs eT hfs hb3 k3 => ?_⟩
      have nTb : T ≠ b := fun e => by obtain ⟨_, _, _, eb, _⟩ := hb3; rw [e, eb] at eT; cases eT
      have fpos := List.length_pos_iff.mpr hfs.1
      walk_at "go"
      refine ⟨_, _, rfl, lenS (small_line (by omega)), ?_⟩
      walk_at "go"
      refine ⟨by omega, by omega, fun D hD => ?_⟩
      refine lc_gen (walk_rng (lo := 0) (n := x.length)) (fun _ => rfl) (fun acc H' => acc = ((List.range (tl x).length).take acc.length).map (fun k => V.str (one (fch (tl z) fs (tl x) k))) ∧ Same H3 H') ⟨rfl, same_new hD⟩ (fun _ _ _ _ => trivial) ?_ ?_
      · rintro i y acc H4 hy la hacc ⟨ha, s4⟩
        have hi : i < x.length := by have := (List.getElem?_eq_some_iff.mp hy).1; rw [List.length_map, List.length_range] at this; exact this
        have hyi : y = vi i := by
          rw [List.getElem?_map, List.getElem?_range hi] at hy
          rw [← Option.some.inj hy]
          exact congrArg V.int (Int.zero_add _)
        subst hyi
        have eT4 := s4 _ _ eT
        walk_at "go"
        refine ⟨_, _, rfl, lenT (SqT.of eT4), ?_⟩
        rw [List.length_map]
        refine r_mod fpos ?_
        refine r_ixT (SqT.of eT4) (atI_nat (j := i % fs.length) (v := V.str (fs.getD (i % fs.length) "")) (by rw [List.getElem?_map, getD_at (xs := fs) (d := "") (mod_lt hfs.1 i)]; rfl)) ?_
        walk_at "go"
        refine ⟨tyS, ?_⟩
        walk_at "go"
        refine ix_paper (by omega) (by omega) ?_
        walk_at "go"
        have hmem := hp.all _ (getD_mem (xs := tl x) (i := i) (d := 0) (by omega))
        obtain ⟨r', er⟩ := idx_occ hmem nd
        refine ⟨z, one _, _, r', rfl, rfl, er, ?_⟩
        have hfm := hfs.2.2 (fs.getD (i % fs.length) "") (getD_mem (mod_lt hfs.1 i))
        have hil := idx_lt hmem
        have hfl := len_tl (fs.getD (i % fs.length) "")
        refine r_ixS (small_line (by omega)) (atI_nat (show (tl (fs.getD (i % fs.length) ""))[(tl z).idxOf ((tl x).getD i 0)]? = some (fch (tl z) fs (tl x) i) from getD_at (by rw [hfm.1]; exact hil))) ?_
        exact pp_next hacc la (line60 (by omega)) ⟨acc_next (f := fun k => V.str (one (fch (tl z) fs (tl x) k))) (a := i) ha la (List.getElem?_eq_some_iff.mpr ⟨by rw [List.length_range]; omega, List.getElem_range _⟩), same_upd s4 hD⟩
      · rintro acc H4 la hacc ⟨ha, s4⟩
        rw [List.length_map, List.length_range] at la
        have e0 : (List.range (tl x).length).take acc.length = List.range (tl x).length := by
          refine List.take_of_length_le ?_
          rw [List.length_range]; omega
        rw [e0] at ha
        have e2 : acc = ((faced (tl z) fs (tl x)).map one).map V.str := by rw [ha, faced, List.map_map, List.map_map]; rfl
        walk_at "go"
        refine ⟨_, D, (faced (tl z) fs (tl x)).map one, rfl, rfl, .inl (by rw [e2] at hacc; exact SqL.of hacc), ?_, ?_⟩
        · have := sum_le (ys := (faced (tl z) fs (tl x)).map one) (b := 1) (fun p hp => by obtain ⟨c, _, rfl⟩ := List.mem_map.mp hp; exact Nat.le_refl _)
          have e3 : ("" : Str).length = 0 := by decide +kernel
          rw [e3]
          rw [List.length_map, faced_len] at *
          omega
        · walk_at "go"
          have ey : tl (Txt.join (Str.ofString "") ((faced (tl z) fs (tl x)).map one)) = faced (tl z) fs (tl x) := tl_join1 _
          refine inner hd1 _ _ _ (hb3.same s4) (by omega) (by rw [ey]; exact Pp.faced hfs hp) (fun H5 v r dv hf hpp hb5 k5 => ?_)
          walk_at "go"
          refine ⟨(by show 3 ≤ sizeLine; decide), fun q hq => ?_⟩
          exact fin hd1 _ _ (.n1 (.faces fs) r) _ (dp_n1 (o := .faces fs) (vs := [V.ref T]) hq (.cons (.tup (SqT.of (k5 _ _ nTb (s4 _ _ eT))) (dpA_strs.mpr rfl)) .nil) dv) ⟨hfs, rfl, hf⟩ (by show r.parts + 1 ≤ _; omega) (hb5.new hq) (by omega) (k3.trans ((Same.kp s4).trans (k5.trans (Same.kp (same_new hq)))))
    walk_at "go"
    refine r_iteN' (fun h4 => ?_) (fun h4 => ?_)
    · have w3 : wy = 4 := by have := V.int.inj h4; omega
      have hd1 : 1 ≤ d := by omega
      walk_at "go"
      refine ⟨small_line (by omega), ?_⟩
      walk_at "go"
      refine inner hd1 _ _ (revS x) hb2 (by omega) hp.rev (fun H3 v r dv hf hpp hb3 k3 => ?_)
      walk_at "go"
      refine ⟨(by show 2 ≤ sizeLine; decide), fun q hq => ?_⟩
      exact fin hd1 _ _ (.n1 .back r) _ (dp_n1 (o := .back) (vs := []) hq .nil dv) ⟨trivial, rfl, hf⟩ (by show r.parts + 1 ≤ _; omega) (hb3.new hq) (by omega) (k3.trans (Same.kp (same_new hq)))
    walk_at "go"
    have n4 : wy ≠ 4 := fun e => h4 (by rw [e]; rfl)
    have n3 : wy ≠ 3 := fun e => h3 (by rw [e]; rfl)
    refine r_iteN' (fun h5 => ?_) (fun h5 => ?_)
    rotate_left
    walk_at "go"
    refine r_iteN' (fun h5 => ?_) (fun h6 => ?_)
    rotate_left
    · have n5 : wy ≠ 5 := fun e => h5 (by rw [e]; rfl)
      have n6 : wy ≠ 6 := fun e => h6 (by rw [e]; rfl)
      walk_at "go"
      refine r_iteN' (fun h7 => ?_) (fun h7 => ?_)
      · have hd1 : 1 ≤ d := by have := V.int.inj h7; omega
        walk_at "go"
        refine inner hd1 _ _ x hb2 (by omega) hp (fun H3 v r dv hf hpp hb3 k3 => ?_)
        walk_at "go"
        refine inner hd1 _ _ x hb3 (by omega) hp (fun H4 v2 r2 dv2 hf2 hpp2 hb4 k4 => ?_)
        walk_at "go"
        refine ⟨(by show 3 ≤ sizeLine; decide), fun q hq => ?_⟩
        exact fin hd1 _ _ (.n2 .both r r2) _ (dp_n2 (o := .both) (vs := []) hq .nil (dp_bag dv hb3 k4) dv2) ⟨trivial, rfl, hf, hf2⟩ (by show r.parts + r2.parts + 1 ≤ _; omega) (hb4.new hq) (by omega) (k3.trans (k4.trans (Same.kp (same_new hq))))
      walk_at "go"
      refine r_iteN' (fun h8 => ?_) (fun h8 => ?_)
      · have hd1 : 1 ≤ d := by have := V.int.inj h8; omega
        walk_at "go"
        refine inner hd1 _ _ x hb2 (by omega) hp (fun H3 v r dv hf hpp hb3 k3 => ?_)
        walk_at "go"
        refine inner hd1 _ _ x hb3 (by omega) hp (fun H4 v2 r2 dv2 hf2 hpp2 hb4 k4 => ?_)
        walk_at "go"
        refine ⟨(by show 3 ≤ sizeLine; decide), fun q hq => ?_⟩
        exact fin hd1 _ _ (.n2 .either r r2) _ (dp_n2 (o := .either) (vs := []) hq .nil (dp_bag dv hb3 k4) dv2) ⟨trivial, rfl, hf, hf2⟩ (by show r.parts + r2.parts + 1 ≤ _; omega) (hb4.new hq) (by omega) (k3.trans (k4.trans (Same.kp (same_new hq))))
      walk_at "go"
      refine r_iteN' (fun h9 => ?_) (fun h9 => ?_)
      · have hd1 : 1 ≤ d := by have := V.int.inj h9; omega
        walk_at "go"
        refine inner hd1 _ _ x hb2 (by omega) hp (fun H3 v r dv hf hpp hb3 k3 => ?_)
        walk_at "go"
        refine ⟨(by show 2 ≤ sizeLine; decide), fun q hq => ?_⟩
        exact fin hd1 _ _ (.n1 .not r) _ (dp_n1 (o := .not) (vs := []) hq .nil dv) ⟨trivial, rfl, hf⟩ (by show r.parts + 1 ≤ _; omega) (hb3.new hq) (by omega) (k3.trans (Same.kp (same_new hq)))
      · walk_at "go"
        exact ⟨b, z, x, _, rfl, hb2, by omega, gz, hp, fun H3 v r dv hr hb3 k3 => by
          obtain ⟨m', ws, g, rfl, hf⟩ := hr
          exact k H3 v _ dv ⟨⟨hf _, rfl⟩, pd0⟩ (hb3.mono (by omega)) (k2.trans k3)⟩
    all_goals
      have hd1 : 1 ≤ d := by have := V.int.inj h5; omega
      walk_at "go"
      refine ⟨b, _, _, rfl, hb2, by omega, by decide, fun r3 H3 r30 r31 hb3 of3 => ?_⟩
      obtain ⟨i1, rfl⟩ : ∃ i1 : Nat, r3 = (i1 : Int) := ⟨r3.toNat, by omega⟩
      walk_at "go"
      refine ⟨b, _, _, rfl, hb3, by omega, by decide, fun r4 H4 r40 r41 hb4 of4 => ?_⟩
      obtain ⟨i2, rfl⟩ : ∃ i2 : Nat, r4 = (i2 : Int) := ⟨r4.toNat, by omega⟩
      refine K1.r_name ?_
      try dsimp only [List.set]
      refine r_seq (r_asg (r_ifJ (fun v H' => H' = H4 ∧ ∃ y : Str, v = .str y ∧ Pp (tl z) (tl y)) (fun Q' h => ?_) ?_))
      · walk_at "go"
        refine ⟨_, _, rfl, lenS (small_line (by omega)), ?_⟩
        walk_at "go"
        refine r_iteN' (fun hle => ?_) (fun hle => ?_)
        · walk_at "go"
          refine ⟨_, _, rfl, lenS (small_line (by omega)), ?_⟩
          walk_at "go"
          refine ⟨small_line (by omega), ?_⟩
          have ee : ((x.length : Int) - (i2 : Int)) = ((x.length - i2 : Nat) : Int) := by omega
          have e2 : tl (cutS x (some (i1 : Int)) (some ((x.length : Int) - (i2 : Int)))) = ((tl x).drop i1).take (x.length - i2 - i1) := by rw [ee, tl_cut_mid]
          exact h _ _ ⟨rfl, _, rfl, by rw [e2]; exact hp.cut _ _⟩
        · walk_at "go"
          exact h _ _ ⟨rfl, x, rfl, hp⟩
      rintro v H5 ⟨e5, y, rfl, hy⟩
      rw [e5]
      clear e5
      walk_at "go"
      refine inner hd1 _ _ y hb4 (by omega) hy (fun H6 v r dv hf hpp hb6 k6 => ?_)
      walk_at "go"
      refine ⟨(by show 4 ≤ sizeLine; decide), fun q hq => ?_⟩
      exact fin hd1 _ _ (.n1 (.cut i1 i2) r) _ (dp_n1 (o := .cut i1 i2) (vs := [vi i1, vi i2]) hq (.cons (.int _) (.cons (.int _) .nil)) dv) ⟨⟨by omega, by omega⟩, rfl, hf⟩ (by show r.parts + 1 ≤ _; omega) (hb6.new hq) (by omega) (of3.kp.trans (of4.kp.trans (k6.trans (Same.kp (same_new hq)))))
theorem on_all {f : Addr} {fd : FuncData} (F : Fun K "_law_rule_on" "_law_rule_on" sLRuleOn f fd) (B : Bl mg) (Op : OPick P w K mg base) (Osq : OWideSq P w K mg base) (Osw : OWideSum P w K mg base) (Ofw : OWideFaces P w K mg base)
    (m : mg "_law_rule_on" = some (.ref f)) (bb : Binds K fd ["_law_bag", "_law_signs", "_law_deep", "_law_paper"] []) : ∀ n : Nat, ORuleOn n P w K mg base
  | 0 => ⟨f, fd, none_ok fun vs H Q E h => by obtain ⟨b, z, x, n, d, _, hd, _⟩ := h; omega, m, F.kp, bb⟩
  | n + 1 => ⟨f, fd, ok_ruleOn F B Op Osq Osw Ofw (on_all F B Op Osq Osw Ofw m bb n), m, F.kp, bb⟩
end
end K4

/-! L11p -/


namespace K4
open PySem L2 K1
abbrev sLParts : Stmt := top 75
abbrev nLParts : List Str := ["_law_rule", "_law_inner", "_law_k"]
theorem scLParts : FnScope nLParts ["_law_rule"] (defScope sLParts) := ⟨rfl, rfl, rfl, by decide +kernel, rfl, by decide +kernel, by decide +kernel⟩
/-- as many inner rules as the word wants -/
def R.arOk : R → Prop
  | .n0 o => ar o.kind = 0 | .n1 o a => ar o.kind = 1 ∧ a.arOk | .n2 o a b => ar o.kind = 2 ∧ a.arOk ∧ b.arOk
theorem R.arOk_of {z : List Nat} : ∀ {r : R}, r.fit z → r.arOk
  | .n0 _, h => h.2
  | .n1 _ _, h => ⟨h.2.1, R.arOk_of h.2.2⟩
  | .n2 _ _ _, h => ⟨h.2.1, R.arOk_of h.2.2.1, R.arOk_of h.2.2.2⟩
theorem R.arOk_ow : ∀ {r : R}, r.arOk → r.inner.length = ar r.ow.kind
  | .n0 _, h => h.symm
  | .n1 _ _, h => h.1.symm
  | .n2 _ _ _, h => h.1.symm
theorem R.arOk_in : ∀ {r : R}, r.arOk → ∀ i ∈ r.inner, i.arOk
  | .n0 _, _, i, q => by simp [R.inner] at q
  | .n1 _ _, h, i, q => by simp only [R.inner, List.mem_cons, List.not_mem_nil, or_false] at q; rw [q]; exact h.2
  | .n2 _ _ _, h, i, q => by
    simp only [R.inner, List.mem_cons, List.not_mem_nil, or_false] at q
    rcases q with rfl | rfl
    · exact h.2.1
    · exact h.2.2
def spParts (K : PySem.W.Frag) (n : Nat) : Sp := fun vs H Q _ => ∃ (v : V) (r : R), vs = [v] ∧ RAt K H v r ∧ r.arOk ∧ r.depth ≤ n ∧ ∀ H', Same H H' → Q (.int r.parts) H'
def kvP : List (Key × V) := [(Sum.inr (Str.ofString "faces"), .int 1), (Sum.inr (Str.ofString "back"), .int 1), (Sum.inr (Str.ofString "cut"), .int 1), (Sum.inr (Str.ofString "not"), .int 1), (Sum.inr (Str.ofString "both"), .int 2), (Sum.inr (Str.ofString "either"), .int 2)]
theorem in_count : ∀ i < 9, (valV (mergeK [] kvP) (Sum.inr (wd i))).getD (V.int 0) = vi (ar i) := by decide +kernel
theorem rev_sum (ns : List Nat) : ns.reverse.sum = ns.sum := by
  induction ns with
  | nil => rfl
  | cons a as ih => rw [List.reverse_cons, List.sum_append, ih, List.sum_cons]; simp; omega
section
variable {P : Program} {w : World} {K : PySem.W.Frag} {mg : Str → Option Value} {base : Heap} {dO dI : Addr}
abbrev OParts (n : Nat) (P : Program) (w : World) (K : PySem.W.Frag) (mg : Str → Option Value) (base : Heap) : Prop := Own P w K mg base "_law_parts" (n + 1) ["_law_rule"] (spParts K n)
theorem ok_parts {n : Nat} {f : Addr} {fd : FuncData} (F : Fun K "_law_parts" "_law_parts" sLParts f fd) (B : Bl mg) (Olp : OParts n P w K mg base) : FnOk P w K mg base CX0 (n + 1 + 1) f fd ["_law_rule"] (spParts K (n + 1)) := by
  refine F.ok scLParts (fun vs H Q E h => ?_) (fun cdv A outer s H vs Q E hr h => ?_)
  · obtain ⟨v, r, rfl, _⟩ := h
    rfl
  · obtain ⟨v, r, rfl, hR, hK, hd, k⟩ := h
    refine ⟨_, (pss_cons (ps_set (i := 1) scLParts.nd rfl (Or.inl rfl) (pe_dget2 (hu1 hr) (pe_disp (pps_cons pe_str pe_int (pps_cons pe_str pe_int (pps_cons pe_str pe_int (pps_cons pe_str pe_int (pps_cons pe_str pe_int (pps_cons pe_str pe_int pps_nil)))))) rfl rfl (by simp) (by decide)) (pe_ix ix_seq (pv 0) pe_int (fun _ _ => rfl)) pe_int ⟨rfl, rfl, rfl, rfl⟩)) (pss_one (ps_ret (pe_op op_add pe_int (pe_callB (cr_sum rfl) (by rfl) B.sum (by decide +kernel) (pa_cons (pe_lc (own := [("_law_k", 2)]) (g := gName 2) (tt := tYes) rfl scLParts.nd (pi_range1 rfl B.range (pa_cons (pv 1) pa_nil)) (blkOk_by (N := nLParts) (sc := defScope sLParts) (by decide +kernel)) (fun _ _ _ _ _ => (pg_name (i := 2) scLParts.nd rfl (Or.inl rfl))) (fun _ _ _ _ _ => pts_nil) (fun _ _ _ _ _ => (pe_own Olp hr (pa_cons (pe_ix (r := rIx K) ix_seq (pv 0) (pe_op op_sub (pe_op op_sub (pe_callB (r := rLenK K) call_len (by rfl) B.len PySem.boot_len (pa_cons (pv 0) pa_nil)) pe_int) (pv 2)) (fun _ _ => rfl)) pa_nil)))) pa_nil)))))), ?_⟩
    try dsimp only [cxOf, Cx.nox, Cx.wish]
    obtain ⟨xs, is, hS, hO, hI⟩ := hR.open
    walk_at "go"
    unfold tDGet2 tDisp
    intro p hp
    simp only [tPairs, tC]
    refine ⟨upd_same, kvP, rfl, by decide, p, rfl, .inl ⟨_, .inl upd_same⟩, ?_⟩
    rw [upd_upd]
    have s1 := same_new (o := HO.dK (mergeK [] kvP)) hp
    walk_at "go"
    refine r_ixSq (hS.same s1) at0 ?_
    refine ⟨_, DGet.k (k := Sum.inr r.ow.word) upd_same, ?_⟩
    rw [in_count _ r.ow.kind_lt]
    have li := hI.len
    have l2 := inner_len r
    have lx := hO.len
    have lm := mn_le r.ow.kind
    revert s1
    generalize upd H p (HO.dK (mergeK [] kvP)) = H1
    intro s1
    have hfa : r.inner.length = ar r.ow.kind := R.arOk_ow hK
    rw [← hfa]
    walk_at "go"
    refine ⟨by omega, by omega, fun D hD => ?_⟩
    refine lc_gen (walk_rng (lo := 0) (n := r.inner.length)) (fun _ => rfl) (fun acc H' => acc = ((r.inner.reverse.map R.parts).take acc.length).map vi ∧ Same H1 H') ⟨rfl, same_new hD⟩ (fun _ _ _ _ => trivial) ?_ ?_
    · rintro i y acc H2 hy la hacc ⟨ha, s2⟩
      have hi : i < r.inner.length := by have := (List.getElem?_eq_some_iff.mp hy).1; rw [List.length_map, List.length_range] at this; exact this
      have hyi : y = vi i := by
        rw [List.getElem?_map, List.getElem?_range hi] at hy
        rw [← Option.some.inj hy]
        exact congrArg V.int (Int.zero_add _)
      subst hyi
      have hS2 := hS.same (s1.trans s2)
      walk_at "go"
      refine ⟨v, _, rfl, hS2.len, ?_⟩
      walk_at "go"
      have hj : is.length - 1 - i < is.length := by omega
      have e1 : ((((V.str r.ow.word :: (xs ++ is)).length : Int) - 1) - (i : Int)) = ((xs.length + (is.length - 1 - i) + 1 : Nat) : Int) := by
        rw [List.length_cons, List.length_append]; omega
      obtain ⟨ri, hri, hRA⟩ := hI.get (List.getElem?_eq_getElem hj)
      have hmem := List.mem_of_getElem? hri
      rw [e1]
      refine r_ixSq hS2 (atI_nat (v := is[is.length - 1 - i]) (by rw [List.getElem?_cons_succ, List.getElem?_append_right (by omega), Nat.add_sub_cancel_left, List.getElem?_eq_getElem hj])) ?_
      walk_at "go"
      refine ⟨_, ri, rfl, hRA.keep (Same.keeps (s1.trans s2)), R.arOk_in hK ri hmem, by have := R.in_depth ri hmem; omega, fun H4 s4 => ?_⟩
      refine pp_next (s4 _ _ hacc) la (line60 (by omega)) ⟨acc_next (f := vi) (a := ri.parts) ha la ?_, same_upd (s2.trans s4) hD⟩
      rw [List.getElem?_map, List.getElem?_reverse (by omega), ← li, hri]
      rfl
    · rintro acc H2 la hacc ⟨ha, s2⟩
      rw [List.length_map, List.length_range] at la
      rw [la, List.take_of_length_le (by rw [List.length_map, List.length_reverse]; omega)] at ha
      walk_at "go"
      refine r_sum (ns := (r.inner.reverse.map R.parts).map fun n : Nat => (n : Int)) (by rw [ha] at hacc; rw [List.map_map]; exact SqL.of hacc) ?_
      walk_at "go"
      rw [sum_cast, List.map_reverse, rev_sum]
      have e : (1 : Int) + ((r.inner.map R.parts).sum : Nat) = (r.parts : Nat) := by rw [r.parts_eq]; omega
      rw [e]
      exact k _ (s1.trans s2)
theorem lp_all {f : Addr} {fd : FuncData} (F : Fun K "_law_parts" "_law_parts" sLParts f fd) (B : Bl mg) (m : mg "_law_parts" = some (.ref f)) (b : Binds K fd ["_law_rule"] []) : ∀ n : Nat, OParts n P w K mg base
  | 0 => ⟨f, fd, none_ok fun vs H Q E h => by obtain ⟨v, r, _, _, _, hd, _⟩ := h; have := R.depth_pos r; omega, m, F.kp, b⟩
  | n + 1 => ⟨f, fd, ok_parts F B (lp_all F B m b n), m, F.kp, b⟩
end
end K4

/-! X3 -/
/-! A comprehension over a list where an exception is being handled. -/
namespace K1
open PySem L2 L2H PyProof.Rows PySem.W PySem.Calls
theorem list_end_hot {P : Program} {w : World} {A : Around} {E : Value → Shared → Prop} {s : Shared} {it l x1 : Addr} {i : Nat} {items : Array Value} {Q : Option Value → Shared → Prop}
    (hot : HotX.HotAt A x1 s.heap) (hit : s.heap.IsListIter it l i) (hl : s.heap.IsList l items) (hx : items[i]? = none)
    (hQ : ∀ h', Heap.ExtBut it s.heap h' → Q none ⟨h', s.gens, s.drawn, s.toks, s.os⟩) : wpAny (model P w) A (pyNext (.ref it)) Q E s := by
  obtain ⟨o, ho, hc, hd⟩ := id hit
  obtain ⟨ol, hol, _, nl, hdl⟩ := hl
  obtain ⟨hh, o1, vs1, h1, d1, c1⟩ := hot
  have ne : x1 ≠ it := by
    intro z
    rw [z, ho] at h1
    obtain rfl := Option.some.inj h1
    rw [hd] at d1
    obtain rfl := Data.fields.inj d1
    cases c1
  unfold pyNext
  refine wpAny_bind (wpAny_attempt (wpAny_callSpecial?_slot (Heap.IsListIter.typeIs hit) slot_listiter_next (wpAny_call_entry slot_listiter_next (Heap.IsListIter.typeIs hit) entry_listiter_next ?_ (args_listiter_next (.ref it)))))
  unfold Builtin.«list_iterator.__next__»
  dsimp only
  refine wpAny_bind ?_
  show wpAny _ _ (pure (Value.ref it, ([] : List Value))) _ _ _
  refine wpAny_pure ?_
  refine wpAny_bind (wpAny_field ho hd rfl ?_)
  refine wpAny_ite_false (by rfl) ?_
  refine wpAny_bind (wpAny_field ho hd rfl ?_)
  refine wpAny_bind (wpAny_seqItems hol hdl ?_)
  dsimp only
  rw [show (Int.toNat (i : Int)) = i from rfl, hx]
  dsimp only
  refine wpAny_bind (wpAny_rule ?_)
  refine wpAny_bind (wpAny_setField ho hd (by show 0 < 2; decide) ?_)
  unfold Builtin.SmallTypes.stopIteration
  have h1u : (s.heap.update it (Obj.mapFields fun x => x.setIfInBounds 0 Value.none)).get? x1 = some o1 := by
    rw [Heap.get?_update_ne _ _ _ _ ne]; exact h1
  have sbu := Heap.SameBut.extBut (Heap.SameBut.update s.heap it (Obj.mapFields fun x => x.setIfInBounds 0 Value.none))
  revert h1u sbu
  generalize s.heap.update it (Obj.mapFields fun x => x.setIfInBounds 0 Value.none) = hu
  intro h1u sbu
  refine wpAny_bind ?_
  unfold newExc
  refine wpAny_bind (wpAny_newTuple ?_ (Nat.zero_le _))
  refine wpAny_bind (wpAny_of_eq (by rfl) ?_)
  have h2 := Heap.get?_push_of_some ⟨.type "tuple", none, .seq #[] 0, #[]⟩ h1u
  have sb2 := Heap.ExtBut.push sbu ⟨.type "tuple", none, .seq #[] 0, #[]⟩
  show wpAny _ _ _ _ _ ⟨hu.push ⟨.type "tuple", none, .seq #[] 0, #[]⟩, s.gens, s.drawn, s.toks, s.os⟩
  generalize (Value.ref { heap := hu, gens := s.gens, drawn := s.drawn, toks := s.toks, os := s.os : Shared}.heap.objs.size) = tv
  revert h2 sb2
  generalize hu.push ⟨.type "tuple", none, .seq #[] 0, #[]⟩ = hv
  intro h2 sb2
  generalize (if ((Manifest.find? "StopIteration").elim false fun t => t.mro.contains "StopIteration" || t.mro.contains "SystemExit") = true then ([] : List Value).headD Value.none else Value.none) = sv
  refine wpAny_newObj_type ?_ ?_
  · have hx1 : x1 ≠ hv.objs.size := Nat.ne_of_lt (Heap.lt_size h2)
    refine HotX.raiseNew_hot ⟨hh, o1, vs1, Heap.get?_push_of_some _ h2, d1, c1⟩ hx1 (Heap.get?_push_size _ rfl) rfl (by simp [Array.size_append]; omega) ?_
    refine wpAny_bind (wpAny_isInstance ⟨_, Heap.get?_update_self _ (Heap.get?_push_size hv rfl) rfl, rfl⟩ isSubtype_stop (wpAny_pure (hQ _ ?_)))
    intro b o' nb e
    have e2 := sb2 b o' nb e
    rw [Heap.get?_update_ne _ _ _ _ (Nat.ne_of_lt (Heap.lt_size e2))]
    exact Heap.get?_push_of_some _ e2
  · exact sizeOk_excFields tv Value.none Value.none Value.none (Value.bool false) sv (Value.type "StopIteration") []
end K1

/-! X4 -/
namespace K1
open PySem L2 L2H PyProof.Rows PySem.W PySem.Calls
theorem item_list {X : Cx} {a it : Addr} {tg : Expr} {i : Nat} {pins : List (Addr × Obj)} {s : Shared} {σ : L2.St} {H : Hp} {E : Value → Shared → Prop} (I : L2.Inv X pins σ H s) (hf : FpOk X pins H it) (st : s.heap.IsListIter it a i) {xs : List V} {x : V} (hq : SqL X.K H a xs) (hx : xs[i]? = some x) :
    wpAny (model X.prog X.w) X.A (pyNext (.ref it)) (fun r s1 => ∃ u, r = some u ∧ wpAny (model X.prog X.w) X.A (letOwnedTupleGo tg (.ref it) u) (fun _ s2 => L2.Inv X pins σ H s2 ∧ L2.RelV x u ∧ s2.heap.IsListIter it a (i + 1)) E s1) E s := by
  obtain ⟨its, rv, p, hz⟩ := I.list hq
  obtain ⟨u, hu, ru⟩ := Vals.get rv hx
  obtain ⟨f0, f1, f2, f3, f4, f5⟩ := hf
  refine wpAny_pyNext_list_item st p.isList (by rw [List.getElem?_toArray]; exact hu) fun h' st' sb => ?_
  have I1 := Inv.turned (t' := s.toks) I (fun b o hb e => (sb.right b hb).trans e) f0 f1 f3 f4 f5
  obtain ⟨o, e, c, d⟩ := id st'
  exact ⟨u, rfl, go_of e c d (by decide) ⟨I1, ru, st'⟩⟩
theorem done_list {X : Cx} {a it x1 : Addr} {i : Nat} {pins : List (Addr × Obj)} {s : Shared} {σ : L2.St} {H : Hp} {E : Value → Shared → Prop} (hot : HotX.HotAt X.A x1 s.heap) (I : L2.Inv X pins σ H s) (hf : FpOk X pins H it) (st : s.heap.IsListIter it a i) {xs : List V} (hq : SqL X.K H a xs) (hx : xs.length ≤ i) :
    wpAny (model X.prog X.w) X.A (pyNext (.ref it)) (fun r s1 => r = none ∧ L2.Inv X pins σ H s1) E s := by
  obtain ⟨its, rv, p, hz⟩ := I.list hq
  obtain ⟨f0, f1, f2, f3, f4, f5⟩ := hf
  have hl := Vals.length rv
  refine list_end_hot hot st p.isList (by rw [List.getElem?_toArray]; exact List.getElem?_eq_none (by omega)) fun h' eb => ?_
  exact ⟨rfl, Inv.turned I (fun b o hb e => eb b o hb e) f0 f1 f3 f4 f5⟩
/-- the block of a comprehension, the pins kept -/
abbrev bk (X : Cx) (s : Shared) (H : Hp) (scope : Scope) (env : Env) (fp : List Addr) : Cx := { X.blk s H scope env fp with pn := X.pn }
theorem inv_bk {X : Cx} {s3 s : Shared} {H3 H : Hp} {scope : Scope} {ce : Env} {fp : List Addr} {σ : L2.St} (I : L2.Inv (X.blk s3 H3 scope ce fp) [] σ H s)
    (hp : ∀ p ∈ X.pn, s.heap.get? p.1 = some p.2 ∧ H p.1 = none ∧ p.1 ≠ ce.locals ∧ p.1 ∉ frs X.stack ∧ ∀ v : Option Value, p.2.data ≠ .cell v) : L2.Inv (bk X s3 H3 scope ce fp) [] σ H s := by
  have o := I.ok
  exact ⟨⟨o.mod, o.kind, o.glob, o.blt, o.above, o.inj, o.has, o.cab, o.hd, o.frames, o.stk, o.exf, o.bs, o.bsz, o.noex, o.exfs, o.funs, o.frf⟩, I.os, I.bare, I.base, I.loc, I.cell, I.free, I.freeC, fun p h => hp p (by simpa using h), I.hok, I.len⟩
theorem frs_mem {X : Cx} (o : X.Ok) {b : Addr} (h1 : b ∉ X.fs) (h2 : b ≠ X.env.locals) : b ∉ frs X.stack := by
  rcases o.stk with e | ⟨e, ef⟩
  · rw [e]; exact h1
  · rw [e]
    intro h
    unfold frs at h
    rw [List.filterMap_cons, ef] at h
    rcases List.mem_cons.mp h with h | h
    · exact h2 h
    · exact h1 h
theorem pe_lcH {X : Cx} {elt tg iter : Expr} {ifs : List Expr} {scope : Scope} {own : List (Str × Nat)} {pos : Pos} {tl : TE} {g : TG} {tt : TT} {te : TE} (hc : HotC X) (hN : X.N.Nodup) (hl : PE X iter tl) (ok : BlkOk X.N X.env.scope scope own)
    (hg : ∀ (s : Shared) (H : Hp) (C : Addr) (cl : List (Str × Addr)) (fp : List Addr), PG (bk X s H scope (compEnvC scope cl C X.env) fp) tg g)
    (ht : ∀ (s : Shared) (H : Hp) (C : Addr) (cl : List (Str × Addr)) (fp : List Addr), PTs (bk X s H scope (compEnvC scope cl C X.env) fp) ifs tt)
    (he : ∀ (s : Shared) (H : Hp) (C : Addr) (cl : List (Str × Addr)) (fp : List Addr), PE (bk X s H scope (compEnvC scope cl C X.env) fp) elt te)
    (hs : ∀ x, foldedSetIterable iter X.env x = pure x := by intro _; rfl) :
    PE X (.ListComp elt [⟨tg, iter, ifs, 0⟩] scope pos) (tLc (iList X.K tl) g tt te (own.map (·.2))) := by
  refine ⟨fun pins s σ H Q I h => ?_⟩
  rw [eval_ListComp]
  have hfree : ∀ y : Str × NameKind, y ∈ scope.names → y.2 = .free → ∃ c, List.lookup y.1 X.env.cells = some c := fun y hy e => (ok.free y hy e).elim (fun k => I.ok.has y.1 (.inl k)) fun k => I.ok.has y.1 (.inr k)
  refine wpAny_comprehension_free rfl hs (closure_ok hfree) ok.kind (fun y hy e => by rw [ok.uniq y hy, e]) ?_
  refine thn (hl.run pins s σ H _ I h) ?_
  rintro xv s1 ⟨x, H1, I1, r1, a, rfl, ⟨xs, hq⟩, q1⟩
  have e1 : xv = .ref a := r1
  subst e1
  obtain ⟨its, rv, p, hz⟩ := I1.list hq
  refine wpAny_pyIter_list p.isList ?_
  have k2 : ∀ b o, s1.heap.get? b = some o → (s1.heap.push ⟨.type "list_iterator", none, .fields #[.ref a, .int 0 0], #[]⟩).get? b = some o := fun b o e => Heap.get?_push_of_some _ e
  have st2 : (s1.heap.push ⟨.type "list_iterator", none, .fields #[.ref a, .int 0 0], #[]⟩).IsListIter s1.heap.objs.size a 0 := ⟨_, Heap.get?_push_size _ rfl, rfl, rfl⟩
  have I2 := Inv.kept (t' := s1.toks) I1 k2
  have fI : FpOk X pins H1 s1.heap.objs.size := Inv.fpOk I1 (Nat.le_refl _) (HOk.fresh I1.hok (Nat.le_refl _))
  have ltI : s1.heap.objs.size < (s1.heap.push ⟨.type "list_iterator", none, .fields #[.ref a, .int 0 0], #[]⟩).objs.size := Heap.lt_size (Heap.get?_push_size _ rfl)
  revert k2 st2 I2 fI ltI
  generalize s1.heap.push ⟨.type "list_iterator", none, .fields #[.ref a, .int 0 0], #[]⟩ = h2
  generalize s1.heap.objs.size = it
  intro k2 st2 I2 fI ltI
  refine wpAny_newObj_type (newEnv_comp ?_)
  have hDn : H1 h2.objs.size = none := HOk.fresh I2.hok (Nat.le_refl _)
  obtain ⟨W, ⟨m0, w0⟩, turn⟩ := q1 h2.objs.size hDn
  have kp3 : ∀ b o, h2.get? b = some o → (h2.push ⟨.type "list", none, .seq #[] 0, #[]⟩).get? b = some o := fun b o e => Heap.get?_push_of_some _ e
  have I3 := Inv.laid (t' := s1.toks) (o := .lst []) I2 kp3 (Nat.le_refl _) ⟨Nat.zero_le _, [], 0, .nil, Heap.get?_push_size _ rfl⟩
  have st3 : (h2.push ⟨.type "list", none, .seq #[] 0, #[]⟩).IsListIter it a 0 := st2.at fun o e => kp3 it o e
  have ltI3 : it < (h2.push ⟨.type "list", none, .seq #[] 0, #[]⟩).objs.size := by
    obtain ⟨o, e, _⟩ := st3
    exact Heap.lt_size e
  have fI3 : FpOk X pins (upd H1 h2.objs.size (.lst [])) it := ⟨by rw [upd_ne (Nat.ne_of_lt ltI)]; exact fI.1, fI.2⟩
  have ltD : h2.objs.size < (h2.push ⟨.type "list", none, .seq #[] 0, #[]⟩).objs.size := Heap.lt_size (Heap.get?_push_size _ rfl)
  clear kp3 st2
  revert I3 st3 ltI3 fI3 ltD w0
  generalize upd H1 h2.objs.size (.lst []) = H3
  generalize h2.push ⟨.type "list", none, .seq #[] 0, #[]⟩ = h3
  generalize h2.objs.size = D at *
  intro w0 I3' st3 ltI3 fI3 ltD
  have I3 : L2.Inv X pins σ H3 ⟨h3, s1.gens, s1.drawn, s1.toks, s1.os⟩ := I3'
  clear I3'
  obtain ⟨p0, hot, hp0⟩ := hc
  obtain ⟨pg0, ph0, pl0, pf0, pc0⟩ := I3.pin p0 (List.mem_append_left _ hp0)
  have pit : p0.1 ≠ it := fI3.2.2.2.2.2 p0 (List.mem_append_left _ hp0)
  have f3 : ∀ b ∈ [it], FpOk X pins H3 b ∧ b < h3.objs.size := fun b hb => by
    obtain rfl := List.mem_singleton.mp hb
    exact ⟨fI3, ltI3⟩
  have I4 := inv_bk (block_start I3 ok hN f3) (fun p hp => by
    obtain ⟨a1, a2, a3, a4, a5⟩ := I3.pin p (List.mem_append_left _ hp)
    exact ⟨pushCells_keeps _ _ _ _ (Heap.get?_push_of_some _ a1), a2, Nat.ne_of_lt (Heap.lt_size a1), frs_mem I3.ok a4 a3, a5⟩)
  have pg := hg ⟨h3, s1.gens, s1.drawn, s1.toks, s1.os⟩ H3 h3.objs.size (cellsFrom (h3.objs.size + 1) scope.names (cloFrom X.env.cells scope.names [])) [it]
  have pt := ht ⟨h3, s1.gens, s1.drawn, s1.toks, s1.os⟩ H3 h3.objs.size (cellsFrom (h3.objs.size + 1) scope.names (cloFrom X.env.cells scope.names [])) [it]
  have pe := he ⟨h3, s1.gens, s1.drawn, s1.toks, s1.os⟩ H3 h3.objs.size (cellsFrom (h3.objs.size + 1) scope.names (cloFrom X.env.cells scope.names [])) [it]
  have cL : (compEnvC scope (cellsFrom (h3.objs.size + 1) scope.names (cloFrom X.env.cells scope.names [])) h3.objs.size X.env).locals = h3.objs.size := rfl
  have st4 : (pushCells (h3.push ⟨.type "dict", none, .dict #[] 0, #[]⟩) scope.names).IsListIter it a 0 := st3.at fun o e => pushCells_keeps _ _ _ _ (Heap.get?_push_of_some _ e)
  show codeAny _ _ (Code.compStart _ 0 (.ref it) (.ref D) (compEnvC scope (cellsFrom (h3.objs.size + 1) scope.names (cloFrom X.env.cells scope.names [])) h3.objs.size X.env)) _ ⟨pushCells (h3.push ⟨.type "dict", none, .dict #[] 0, #[]⟩) scope.names, s1.gens, s1.drawn, s1.toks, s1.os⟩
  revert I4 pg pt pe cL st4
  generalize pushCells (h3.push ⟨.type "dict", none, .dict #[] 0, #[]⟩) scope.names = h4
  generalize compEnvC scope (cellsFrom (h3.objs.size + 1) scope.names (cloFrom X.env.cells scope.names [])) h3.objs.size X.env = ce
  intro I4 pg pt pe cL st4
  have nfs : p0.1 ∉ frs X.stack := frs_mem I3.ok pf0 pl0
  have hotAt : ∀ {σ' H' s'}, L2.Inv (bk X ⟨h3, s1.gens, s1.drawn, s1.toks, s1.os⟩ H3 scope ce [it]) [] σ' H' s' → HotX.HotAt X.A p0.1 s'.heap := fun {σ' H' s'} I' => by
    obtain ⟨hh, vs, hd, hv⟩ := hot
    refine ⟨hh, p0.2, vs, I'.base.keep p0.1 p0.2 pg0 ph0 nfs ?_, hd, hv⟩
    intro z
    exact pit (List.mem_singleton.mp z)
  have stat : ∀ {σ' H' s'}, L2.Inv (bk X ⟨h3, s1.gens, s1.drawn, s1.toks, s1.os⟩ H3 scope ce [it]) [] σ' H' s' → H' it = none → FpOk (bk X ⟨h3, s1.gens, s1.drawn, s1.toks, s1.os⟩ H3 scope ce [it]) [] H' it := fun {σ' H' s'} I' hn => by
    have hb : it ∈ [it] := List.mem_singleton.mpr rfl
    refine ⟨hn, (I'.ok.exf it hb).1, I'.ok.exfs it hb, .inl hb, (I'.ok.exf it hb).2, fun p hp => ?_⟩
    exact fI3.2.2.2.2.2 p (List.mem_append_left _ (by simpa using hp))
  have loop := compLoop_any (prog := X.prog) (w := X.w) (A := X.A) (elt := elt) (target := tg) (iter := iter) (ifs := ifs) (scope := scope) (pos := pos) (it := .ref it) (acc := .ref D) (env := ce)
    (R := compPost (model X.prog X.w) X.A X.xe none (EP X pins σ Q) (.ref D) h3.objs.size)
    (fun n s' => ∃ i H', L2.Inv (bk X ⟨h3, s1.gens, s1.drawn, s1.toks, s1.os⟩ H3 scope ce [it]) [] (wipe σ (own.map (·.2))) H' s' ∧ s'.heap.IsListIter it a i ∧ H' it = none ∧ W i n H') ?step m0
    (s := ⟨h4, s1.gens, s1.drawn, s1.toks, s1.os⟩) ⟨0, H3, I4, st4, fI3.1, w0⟩
  case step =>
    rintro n s5 ⟨i, H5, I5, st5, n5, w5⟩
    rcases turn i n H5 w5 with ⟨⟨ys, hy, hlen⟩, qq⟩ | ⟨⟨ys, x, hy, hx⟩, Nx, hNx, step⟩
    · refine thnF (done_list (X := bk X ⟨h3, s1.gens, s1.drawn, s1.toks, s1.os⟩ H3 scope ce [it]) (hotAt I5) I5 (stat I5 n5) st5 hy hlen) ?_
      rintro r s6 ⟨rfl, I6⟩
      have I7 : L2.Inv X pins σ H5 s6 := by
        refine Inv.call' I3 I6.os I6.base I6.hok I6.bare fun b hb => ?_
        obtain rfl := List.mem_singleton.mp hb
        exact ⟨fI3.2.2.2.1, fI3.2.1, fI3.2.2.2.2.1, fI3.2.2.2.2.2⟩
      have nC : H5 h3.objs.size = none := by
        have z := I6.free
        rw [show (bk X ⟨h3, s1.gens, s1.drawn, s1.toks, s1.os⟩ H3 scope ce [it]).env.locals = h3.objs.size from cL] at z
        exact z
      obtain ⟨m, hn, _⟩ := I6.loc
      rw [show (bk X ⟨h3, s1.gens, s1.drawn, s1.toks, s1.os⟩ H3 scope ce [it]).env.locals = h3.objs.size from cL] at hn
      obtain ⟨f0, f1, f2, f3', f4, f5⟩ := Inv.fpOk I3 (Nat.le_refl _) nC
      exact ⟨m, hn, fun h'' sb => ⟨.ref D, H5, Inv.turned I7 (fun b o hb e => (sb.right b hb).trans e) f0 f1 f3' f4 f5, rfl, qq⟩⟩
    · refine thnF (item_list (X := bk X ⟨h3, s1.gens, s1.drawn, s1.toks, s1.os⟩ H3 scope ce [it]) (tg := tg) I5 (stat I5 n5) st5 hy hx) ?_
      rintro r s6 ⟨u, rfl, h6⟩
      refine thnF h6 ?_
      rintro _ s7 ⟨I7, r7, st7⟩
      have ob7 : ∀ b ∈ [it], ∃ o, s7.heap.get? b = some o ∧ ∀ v : Option Value, o.data ≠ Data.cell v := fun b hb => by
        obtain rfl := List.mem_singleton.mp hb
        obtain ⟨o, e, _, d⟩ := st7
        exact ⟨o, e, fun v z => by rw [d] at z; cases z⟩
      have I7' := Inv.pinned (fp := [it]) I7 (fun b hb => by obtain rfl := List.mem_singleton.mp hb; exact stat I7 n5) ob7
      refine thnF (pg.run _ s7 _ H5 x u _ I7' r7 (step x H5 ⟨rfl, fun zs hz' => ?_⟩)) ?_
      · rw [I5.list_inj hz' hy]; exact hx
      rintro _ s8 ⟨σ8, H8, I8, hw8, q8⟩
      refine thnF (pt.run _ s8 σ8 H8 _ I8 q8) ?_
      rintro b s9 ⟨H9, I9, q9⟩
      have fin : ∀ {s' H'}, L2.Inv (bk X ⟨h3, s1.gens, s1.drawn, s1.toks, s1.os⟩ H3 scope ce [it]) ([] ++ pinsAt [it] s7.heap) σ8 H' s' → Nx H' → ∃ m, m < n ∧ ∃ i H', L2.Inv (bk X ⟨h3, s1.gens, s1.drawn, s1.toks, s1.os⟩ H3 scope ce [it]) [] (wipe σ (own.map (·.2))) H' s' ∧ s'.heap.IsListIter it a i ∧ H' it = none ∧ W i m H' := fun {s' H'} I' nx => by
        obtain ⟨m', hm, w'⟩ := hNx H' nx
        obtain ⟨o, e, c, d⟩ := id st7
        have z := I'.pin (it, o) (List.mem_append_right _ (List.mem_append_right [] (mem_pinsAt (List.mem_singleton.mpr rfl) e)))
        refine ⟨m', hm, i + 1, H', Inv.weak (Inv.unpinned I') ?_ ?_, ⟨o, z.1, c, d⟩, z.2.1, w'⟩
        · rw [← hw8, wipe_length]
        · intro j v e
          rw [← hw8] at e
          exact (wipe_some e).1
      cases b with
      | false => exact fin I9 q9
      | true =>
        refine thnF (pe.run _ s9 σ8 H9 _ I9 q9) ?_
        rintro z s10 ⟨yv, H10, I10, r10, acc, hD10, hz10, nx⟩
        exact app_ok (X := bk X ⟨h3, s1.gens, s1.drawn, s1.toks, s1.os⟩ H3 scope ce [it]) I10 hD10 hz10 r10 fun s11 I11 => fin I11 nx
  exact codeAny_compStart_list loop (wpAny_pyIter_listiter st4 loop)
end K1

/-! X5 -/
/-! a, b = a tuple, where an exception is being handled. -/
namespace K1
open PySem L2 L2H PyProof.Rows PySem.W PySem.Calls
theorem tuple_end_hot {P : Program} {w : World} {A : Around} {E : Value → Shared → Prop} {s : Shared} {it l x1 : Addr} {i : Nat} {items : Array Value} {Q : Option Value → Shared → Prop}
    (hot : HotX.HotAt A x1 s.heap) (hit : PyProof.Rows.IsTupIter s.heap it l i) (hl : PyProof.Rows.IsTup s.heap l items) (hx : items[i]? = none)
    (hQ : ∀ h', Heap.ExtBut it s.heap h' → Q none ⟨h', s.gens, s.drawn, s.toks, s.os⟩) : wpAny (model P w) A (pyNext (.ref it)) Q E s := by
  obtain ⟨o, ho, hc, hd⟩ := id hit
  obtain ⟨ol, hol, _, nl, hdl⟩ := hl
  obtain ⟨hh, o1, vs1, h1, d1, c1⟩ := hot
  have ne : x1 ≠ it := by
    intro z
    rw [z, ho] at h1
    obtain rfl := Option.some.inj h1
    rw [hd] at d1
    obtain rfl := Data.fields.inj d1
    cases c1
  unfold pyNext
  refine wpAny_bind (wpAny_attempt (wpAny_callSpecial?_slot (PyProof.Rows.IsTupIter.typeIs hit) PyProof.Rows.slot_tupleiter_next (wpAny_call_entry PyProof.Rows.slot_tupleiter_next (PyProof.Rows.IsTupIter.typeIs hit) PyProof.Rows.entry_tupleiter_next ?_ (PyProof.Rows.args_tupleiter_next (.ref it)))))
  unfold Builtin.«tuple_iterator.__next__»
  dsimp only
  refine wpAny_bind ?_
  show wpAny _ _ (pure (Value.ref it, ([] : List Value))) _ _ _
  refine wpAny_pure ?_
  refine wpAny_bind (wpAny_field ho hd rfl ?_)
  refine wpAny_ite_false (by rfl) ?_
  refine wpAny_bind (wpAny_field ho hd rfl ?_)
  refine wpAny_bind (wpAny_seqItems hol hdl ?_)
  dsimp only
  rw [show (Int.toNat (i : Int)) = i from rfl, hx]
  dsimp only
  refine wpAny_bind (wpAny_rule ?_)
  refine wpAny_bind (wpAny_setField ho hd (by show 0 < 2; decide) ?_)
  unfold Builtin.SmallTypes.stopIteration
  have h1u : (s.heap.update it (Obj.mapFields fun x => x.setIfInBounds 0 Value.none)).get? x1 = some o1 := by
    rw [Heap.get?_update_ne _ _ _ _ ne]; exact h1
  have sbu := Heap.SameBut.extBut (Heap.SameBut.update s.heap it (Obj.mapFields fun x => x.setIfInBounds 0 Value.none))
  revert h1u sbu
  generalize s.heap.update it (Obj.mapFields fun x => x.setIfInBounds 0 Value.none) = hu
  intro h1u sbu
  refine wpAny_bind ?_
  unfold newExc
  refine wpAny_bind (wpAny_newTuple ?_ (Nat.zero_le _))
  refine wpAny_bind (wpAny_of_eq (by rfl) ?_)
  have h2 := Heap.get?_push_of_some ⟨.type "tuple", none, .seq #[] 0, #[]⟩ h1u
  have sb2 := Heap.ExtBut.push sbu ⟨.type "tuple", none, .seq #[] 0, #[]⟩
  show wpAny _ _ _ _ _ ⟨hu.push ⟨.type "tuple", none, .seq #[] 0, #[]⟩, s.gens, s.drawn, s.toks, s.os⟩
  generalize (Value.ref { heap := hu, gens := s.gens, drawn := s.drawn, toks := s.toks, os := s.os : Shared}.heap.objs.size) = tv
  revert h2 sb2
  generalize hu.push ⟨.type "tuple", none, .seq #[] 0, #[]⟩ = hv
  intro h2 sb2
  generalize (if ((Manifest.find? "StopIteration").elim false fun t => t.mro.contains "StopIteration" || t.mro.contains "SystemExit") = true then ([] : List Value).headD Value.none else Value.none) = sv
  refine wpAny_newObj_type ?_ ?_
  · have hx1 : x1 ≠ hv.objs.size := Nat.ne_of_lt (Heap.lt_size h2)
    refine HotX.raiseNew_hot ⟨hh, o1, vs1, Heap.get?_push_of_some _ h2, d1, c1⟩ hx1 (Heap.get?_push_size _ rfl) rfl (by simp [Array.size_append]; omega) ?_
    refine wpAny_bind (wpAny_isInstance ⟨_, Heap.get?_update_self _ (Heap.get?_push_size hv rfl) rfl, rfl⟩ isSubtype_stop (wpAny_pure (hQ _ ?_)))
    intro b o' nb e
    have e2 := sb2 b o' nb e
    rw [Heap.get?_update_ne _ _ _ _ (Nat.ne_of_lt (Heap.lt_size e2))]
    exact Heap.get?_push_of_some _ e2
  · exact sizeOk_excFields tv Value.none Value.none Value.none (Value.bool false) sv (Value.type "StopIteration") []
theorem unpack_hot {P : Program} {w : World} {A : Around} {E : Value → Shared → Prop} {s : Shared} {t x1 : Addr} {items : Array Value} {Q : List Value → Shared → Prop} (hot : HotX.HotAt A x1 s.heap) (ht : PyProof.Rows.IsTup s.heap t items)
    (hQ : ∀ h', Heap.ExtBut s.heap.objs.size s.heap h' → Q items.toList ⟨h', s.gens, s.drawn, s.toks, s.os⟩) : wpAny (model P w) A (unpackItems (.ref t) items.size none) Q E s := by
  have hlt : t ≠ s.heap.objs.size := by
    obtain ⟨o, e, _⟩ := ht
    exact Nat.ne_of_lt (Heap.lt_size e)
  have hlx : x1 ≠ s.heap.objs.size := by
    obtain ⟨_, o, _, e, _⟩ := hot
    exact Nat.ne_of_lt (Heap.lt_size e)
  unfold unpackItems
  refine wpAny_bind (wpAny_bind (wpAny_specialOf (PyProof.Rows.IsTup.typeIs ht) PyProof.Rows.slot_tuple_iter.lookup (wpAny_pure ?_)))
  dsimp only
  refine wpAny_ite_false (by rfl) ?_
  refine wpAny_bind (wpAny_holding (PyProof.Rows.iter_tuple ht ?_))
  refine wpAny_bind (wpAny_holding (PyProof.Rows.draw_tuple hlt items.size 0 _ _ ⟨_, Heap.get?_push_size _ rfl, rfl, rfl⟩ (PyProof.Rows.IsTup.push ht _) (by omega) fun h1 hit1 hs1 => ?_))
  have hall : List.take items.size (List.drop 0 items.toList) = items.toList := by
    rw [List.drop_zero]
    exact List.take_of_length_le (by simp)
  rw [hall]
  refine wpAny_ite_false (by simp) ?_
  have ht1 := PyProof.Rows.IsTup.extBut (PyProof.Rows.IsTup.push ht ⟨.type "tuple_iterator", none, .fields #[.ref t, .int 0 0], #[]⟩) (Heap.SameBut.extBut hs1) hlt
  have hot1 : HotX.HotAt A x1 h1 := by
    obtain ⟨hh, o, vs, e, d, c⟩ := hot
    exact ⟨hh, o, vs, Heap.SameBut.extBut hs1 x1 o hlx (Heap.get?_push_of_some _ e), d, c⟩
  refine wpAny_bind (wpAny_holding (tuple_end_hot hot1 hit1 ht1 (by simp) fun h2 he2 => ?_))
  refine wpAny_ite_false (by rfl) ?_
  exact wpAny_pure (hQ h2 fun b o hb e => he2 b o hb (Heap.SameBut.extBut hs1 b o hb (Heap.get?_push_of_some _ e)))
theorem pg_tupH {X : Cx} {pos : Pos} {es : List Expr} {k : Nat} {t : TGs} {n : Nat} (hc : HotC X) (h : PGs X es t) (hn : (assignEach es X.env).length = n := by rfl) (hst : List.findIdx? (fun x => x.fst) (assignEach es X.env) = none := by rfl) : PG X (.Tuple es k pos) (gTup X.K n t) := by
  refine ⟨fun pins s σ H v u Q I r hw => ?_⟩
  obtain ⟨a, xs, rfl, hq, hl, hw⟩ := hw
  have e1 : u = .ref a := r
  subst e1
  obtain ⟨its, rv, ht, hz⟩ := I.tuple hq
  obtain ⟨x1, hot⟩ := HotC.at hc I
  rw [PyProof.Rows.assign_Tuple]
  refine wpAny_bind (wpAny_standAt ?_)
  unfold unpack
  have hsz : (assignEach es X.env).length = its.toArray.size := by
    rw [hn, ← hl, Vals.length rv, List.size_toArray]
  rw [hst, hsz]
  refine wpAny_bind (wpAny_holding (unpack_hot hot ht fun h' hx => ?_))
  have I1 := Inv.kept (t' := s.toks) I fun b o e => hx b o (Nat.ne_of_lt (Heap.lt_size e)) e
  exact h.run pins _ σ H xs its Q I1 rv hw
end K1

/-! X6 -/
/-! A def called in an except suite with what is being handled: its promise may speak of the error. -/
namespace K1
open PySem L2 L2H PyProof.Rows PySem.W PySem.Calls
structure FnE (P : Program) (w : World) (K : Frag) (mg : Str → Option Value) (base : Heap) (k : Nat) (f : Addr) (fd : FuncData) (ps : List Str) (sp : Addr × Obj → Sp) : Prop where
  len : ∀ p vs H Q E, sp p vs H Q E → vs.length = ps.length
  run : ∀ (A : Around) (outer : List Env) (s : Shared) (H : Hp) (args : Args) (us : List Value) (vs : List V) (Q : VK) (E : XK) (p : Addr × Obj), RoomH k A → Hot1 A p → PinOk outer H s p → Env0 P w K mg base A outer s H → BindsTo s fd args (ps.zip us) → Vals vs us → sp p vs H Q E →
    codeAny (model P w) A (.call (.ref f) args) (CR CX0 outer P w H s Q E) s
theorem fnE_of {P : Program} {w : World} {K : Frag} {mg : Str → Option Value} {base : Heap} {x qual : Str} {st : Stmt} {f : Addr} {fd : FuncData} {N ps : List Str} {k : Nat} {sp : Addr × Obj → Sp} (F : Fun K x qual st f fd) (S : FnScope N ps (defScope st)) (len : ∀ p vs H Q E, sp p vs H Q E → vs.length = ps.length)
    (hbody : ∀ (cdv : Value) (A : Around) (outer : List Env) (s : Shared) (H : Hp) (vs : List V) (Q : VK) (E : XK) (p : Addr × Obj), Hot1 A p → RoomH k (A.deeper (envOfC qual (defScope st) s.heap.objs.size f cdv)) → sp p vs H Q E →
      ∃ t, PSs (cxH CX0 P w K mg base N qual (defScope st) f cdv A outer s H E p) (defBody st) t ∧ t { nx := fun _ H' => Q .non H', rt := Q } (L2.start N vs) H) : FnE P w K mg base (k + 1) f fd ps sp := by
  obtain ⟨oc, od, kV, doc, pm, an, cdv, ct, osl, rfl, lk, hcd⟩ := F.ex
  refine ⟨len, fun A outer s H args us vs Q E p hr hot hpin e0 hb r hsp => ?_⟩
  have hl := len p vs H Q E hsp
  have kb : ∀ b o, base.get? b = some o → s.heap.get? b = some o := fun b o e => (e0.bs b o e).1
  have KX := e0.mod.kin.keeps kb
  refine Att.call_fn (binds := ps.zip us) KX (e0.mod.nolimit.keeps kb) lk hcd hr.depth hb ?_ (fun s1 IC => ?_) S.co S.gen S.kind
  · rw [List.all_eq_true]
    rintro ⟨n, v⟩ hy
    have := S.par n (List.of_mem_zip hy).1
    rcases this with q | q <;> simp [q]
  · obtain ⟨t, ht, hq⟩ := hbody cdv A outer s H vs Q E p hot (hr.deeper _) hsp
    have I := inv_startH (CX := CX0) (E := E) (N := N) S hpin e0 hl r IC
    refine wpAny_mono (ht.run [] s1 (L2.start N vs) H _ I hq) (fun fl s' hs => ?_) (fun e s' hs => hs)
    have fin : ∀ {σ' H' v u}, L2.Inv (cxH CX0 P w K mg base N qual (defScope st) f cdv A outer s H E p) [] σ' H' s' → L2.RelV v u → Q v H' → CR CX0 outer P w H s Q E (.ok (.ret u)) s' := fun {σ' H' v u} J rv q => ⟨v, H', J.os, J.bare, J.base, J.hok, rv, q⟩
    cases fl with
    | next =>
      obtain ⟨σ', H', J, q⟩ := hs
      exact fin (v := .non) (u := .none) J (show L2.RelV V.non Value.none from rfl) q
    | ret u =>
      obtain ⟨v, σ', H', J, rv, q⟩ := hs
      exact fin J rv q
    | _ =>
      obtain ⟨_, _, _, q⟩ := hs
      exact q.elim
def tCallE (sp : Addr × Obj → Sp) (p : Addr × Obj) (t : TA) : TE := fun σ H Q => t σ H fun vs H1 => sp p vs H1 Q E0
theorem pe_callE {X : Cx} {k : Nat} {f : Addr} {fd : FuncData} {ps : List Str} {sp : Addr × Obj → Sp} {p : Addr × Obj} {x : Str} {q pos : Pos} {e : Expr} {es : List Expr} {t : TA} (F : FnE X.prog X.w X.K X.mg X.base k f fd ps sp) (hr : RoomH k X.A) (hot : Hot1 X.A p) (hp : p ∈ X.pn) (hg : Gl X x) (hm : X.mg x = some (.ref f)) (hk : keepIn X.K (.ref f) = true) (hb : Binds X.K fd ps []) (ha : PA X (e :: es) t)
    (hdb : (x == ("__debug__" : Str)) = false := by decide) (he : starEach (e :: es) X.env = (false, eval e X.env) :: starEach es X.env := by rfl) (hpl : (backTo pos (starEach es X.env)).any (·.1) = false := by rfl) :
    PE X (.Call (.Name x q) (e :: es) [] pos) (tCallE sp p t) := by
  refine ⟨fun pins s σ H Q I h => ?_⟩
  refine wpAny_Call_Name_kw (ld_glob I hg hm (callWith_K I.ok.mod.kin hk (thn (ha.run pos pins s σ H _ I h) ?_) he hpl) hdb)
  rintro us s1 ⟨vs, H1, I1, r, h1⟩
  refine ⟨I1.kIn, ?_⟩
  have hl : us.length = ps.length := by rw [← Vals.length r]; exact F.len p vs H1 Q E0 h1
  have b := hb s1 us I1.kIn (by simpa using hl)
  have P1 := I1.pin p (List.mem_append_left pins hp)
  refine wpAny_call (codeAny_mono (F.run X.A X.stack s1 H1 ⟨us, []⟩ us vs Q E0 p hr hot ⟨P1.1, P1.2.1, fun hm' => ?_, P1.2.2.2.2⟩ I1.env0 (by simpa using b) r h1) ?_)
  · exact Or.elim (List.mem_cons.mp (I1.stkSub p.1 hm')) P1.2.2.1 P1.2.2.2.1
  · intro rr s' hq
    cases rr with
    | error e => exact hq.elim
    | ok fl =>
      cases fl with
      | ret u => exact Inv.after I1 hq
      | _ => exact hq.elim
/-- isinstance(e, T), e what is being handled -/
def rIsP (K : Frag) (C a d : Addr) : List V → Hp → VK → Prop := fun xs H Q => ∃ (c : V) (cv : Value) (b : Bool) (fs : List (Str × V)), xs = [.ref a, c] ∧ H d = some (.xd fs) ∧ (∀ u, L2.RelV c u → u = cv) ∧ kitOne K (.ref C) cv = some b ∧ Q (.bl b) H
theorem call_isP {X : Cx} {a C d : Addr} {oe : Obj} (hp : (a, oe) ∈ X.pn) (T : ExcC X.K C) (hcl : (clsIn X.K C).isSome = true) (hc : oe.cls = .ref C) (hd : oe.dict = some d) (hf : ∃ vs, oe.data = .fields vs) : CallR X (.builtin "isinstance") (rIsP X.K C a d) := by
  intro pins s σ H xs us Q I r h
  obtain ⟨c, cv, b, fs, rfl, hx, hcv, e, q⟩ := h
  cases r with
  | cons r1 r2 =>
  cases r2 with
  | cons r2 r3 =>
  cases r3 with
  | nil =>
  rename_i u1 u2
  have e1 : u1 = .ref a := r1
  subst e1
  have e2 := hcv u2 r2
  subst e2
  obtain ⟨g1, g2, _⟩ := I.pin (a, oe) (List.mem_append_left _ hp)
  obtain ⟨mA, hn, _⟩ := I.hok d _ hx
  obtain ⟨o, _, _, ho, _⟩ := hn
  obtain ⟨vs, hf⟩ := hf
  have IA : InstAt s.heap a oe C (some o) := by
    refine ⟨g1, hc, ?_, ?_⟩
    · unfold notCls; rw [hf]
    · rw [hd]; exact ho
  refine kia_one (kitx_exc (x := a) (od := some o) (ox := oe) hcl T.hg T.hk T.hs T.ha T.hn T.ht T.hm) I.kIn IA e (by intro z; cases z) fun tk => ?_
  exact ⟨.bl b, H, I.kept (fun _ _ e => e), rfl, q⟩
end K1

/-! X7d -/
/-! Defs called where no repr is running; repr of data and of an empty dict. -/
namespace K1
open PySem L2 L2H PyProof.Rows PySem.W PySem.Calls
structure FnG (P : Program) (w : World) (K : Frag) (mg : Str → Option Value) (base : Heap) (k : Nat) (f : Addr) (fd : FuncData) (ps : List Str) (sp : Sp) : Prop where
  len : ∀ vs H Q E, sp vs H Q E → vs.length = ps.length
  run : ∀ (A : Around) (outer : List Env) (s : Shared) (H : Hp) (args : Args) (us : List Value) (vs : List V) (Q : VK) (E : XK), Room k A → A.guards = some [] → Env0 P w K mg base A outer s H → BindsTo s fd args (ps.zip us) → Vals vs us → sp vs H Q E →
    codeAny (model P w) A (.call (.ref f) args) (CR CX0 outer P w H s Q E) s
theorem FnG.of {P : Program} {w : World} {K : Frag} {mg : Str → Option Value} {base : Heap} {k : Nat} {f : Addr} {fd : FuncData} {ps : List Str} {sp : Sp} (F : FnOk P w K mg base CX0 k f fd ps sp) : FnG P w K mg base k f fd ps sp :=
  ⟨F.len, fun A outer s H args us vs Q E hr _ => F.run A outer s H args us vs Q E hr⟩
theorem fnG_of {P : Program} {w : World} {K : Frag} {mg : Str → Option Value} {base : Heap} {x qual : Str} {st : Stmt} {f : Addr} {fd : FuncData} {N ps : List Str} {k : Nat} {sp : Sp} (F : Fun K x qual st f fd) (S : FnScope N ps (defScope st)) (len : ∀ vs H Q E, sp vs H Q E → vs.length = ps.length)
    (hbody : ∀ (cdv : Value) (A : Around) (outer : List Env) (s : Shared) (H : Hp) (vs : List V) (Q : VK) (E : XK), Room k (A.deeper (envOfC qual (defScope st) s.heap.objs.size f cdv)) → A.guards = some [] → sp vs H Q E →
      ∃ t, PSs (cxOf CX0 P w K mg base N qual (defScope st) f cdv A outer s H E).nox (defBody st) t ∧ t { nx := fun _ H' => Q .non H', rt := Q } (L2.start N vs) H) : FnG P w K mg base (k + 1) f fd ps sp := by
  obtain ⟨oc, od, kV, doc, pm, an, cdv, ct, osl, rfl, lk, hcd⟩ := F.ex
  refine ⟨len, fun A outer s H args us vs Q E hr hgd e0 hb r hsp => ?_⟩
  have hl := len vs H Q E hsp
  have kb : ∀ b o, base.get? b = some o → s.heap.get? b = some o := fun b o e => (e0.bs b o e).1
  have KX := e0.mod.kin.keeps kb
  refine Att.call_fn (binds := ps.zip us) KX (e0.mod.nolimit.keeps kb) lk hcd (by have := hr.dp; omega) hb ?_ (fun s1 IC => ?_) S.co S.gen S.kind
  · rw [List.all_eq_true]
    rintro ⟨n, v⟩ hy
    have := S.par n (List.of_mem_zip hy).1
    rcases this with q | q <;> simp [q]
  · have hr' : Room k (A.deeper (envOfC qual (defScope st) s.heap.objs.size f cdv)) := by
      obtain ⟨a1, a2, a3⟩ := hr
      refine ⟨a1, ?_, ?_⟩
      · show A.depth + 1 + 3 * k + 5 < _
        omega
      · show A.units + 3 + 16 * k + 200 < _
        omega
    obtain ⟨t, ht, hq⟩ := hbody cdv A outer s H vs Q E hr' hgd hsp
    have I := inv_start (CX := CX0) (E := E) (N := N) S hr.hd e0 hl r IC
    refine wpAny_mono (ht.nox.run [] s1 (L2.start N vs) H _ I hq) (fun fl s' hs => ?_) (fun e s' hs => hs)
    have fin : ∀ {σ' H' v u}, L2.Inv (cxOf CX0 P w K mg base N qual (defScope st) f cdv A outer s H E) [] σ' H' s' → L2.RelV v u → Q v H' → CR CX0 outer P w H s Q E (.ok (.ret u)) s' := fun {σ' H' v u} J rv q => ⟨v, H', J.os, J.bare, J.base, J.hok, rv, q⟩
    cases fl with
    | next =>
      obtain ⟨σ', H', J, q⟩ := hs
      exact fin (v := .non) (u := .none) J (show L2.RelV V.non Value.none from rfl) q
    | ret u =>
      obtain ⟨v, σ', H', J, rv, q⟩ := hs
      exact fin J rv q
    | _ =>
      obtain ⟨_, _, _, q⟩ := hs
      exact q.elim
theorem pe_callG {X : Cx} {k : Nat} {f : Addr} {fd : FuncData} {ps : List Str} {sp : Sp} {x : Str} {q pos : Pos} {e : Expr} {es : List Expr} {t : TA} (F : FnG X.prog X.w X.K X.mg X.base k f fd ps sp) (hr : Room k X.A) (hgd : X.A.guards = some []) (hm : X.mg x = some (.ref f)) (hk : keepIn X.K (.ref f) = true) (hb : Binds X.K fd ps []) (ha : PA X (e :: es) t) (hg : Gl X x := by rfl)
    (hdb : (x == ("__debug__" : Str)) = false := by decide) (he : starEach (e :: es) X.env = (false, eval e X.env) :: starEach es X.env := by rfl) (hpl : (backTo pos (starEach es X.env)).any (·.1) = false := by rfl) :
    PE X (.Call (.Name x q) (e :: es) [] pos) (tCall sp [] E0 t) := by
  refine ⟨fun pins s σ H Q I h => ?_⟩
  refine wpAny_Call_Name_kw (ld_glob I hg hm (callWith_K I.ok.mod.kin hk (thn (ha.run pos pins s σ H _ I h) ?_) he hpl) hdb)
  rintro us s1 ⟨vs, H1, I1, r, h1⟩
  refine ⟨I1.kIn, ?_⟩
  have h1' : sp vs H1 Q E0 := by rw [List.append_nil] at h1; exact h1
  have hl : us.length = ps.length := by rw [← Vals.length r]; exact F.len vs H1 Q E0 h1'
  have b := hb s1 us I1.kIn (by simpa using hl)
  refine wpAny_call (codeAny_mono (F.run X.A X.stack s1 H1 ⟨us, []⟩ us vs Q E0 hr hgd I1.env0 (by simpa using b) r h1') ?_)
  intro rr s' hq
  cases rr with
  | error e => exact hq.elim
  | ok fl =>
    cases fl with
    | ret u => exact Inv.after I1 hq
    | _ => exact hq.elim
/-- data whose repr is short -/
structure Rk (d : PyData) : Prop where
  show_ : d.showable = true
  nod : d.hasDict = false
  dep : d.depth ≤ 64
  len : d.shown.length ≤ 500000
/-- data, or an empty dict -/
def Dq (K : Frag) (H : Hp) (x : V) (d : PyData) : Prop := (Dp K H x d ∧ Rk d) ∨ (∃ a, x = .ref a ∧ H a = some (.dK []) ∧ d = .dict [])
def rReprD (K : Frag) : List V → Hp → VK → Prop := fun xs H Q => ∃ (x : V) (d : PyData), xs = [x] ∧ Dq K H x d ∧ Q (.str d.shown) H
theorem call_reprD {X : Cx} (hgd : X.A.guards = some []) (hu : X.A.units + 100 < cLine) : CallR X (.builtin "repr") (rReprD X.K) := by
  intro pins s σ H xs us Q I r h
  obtain ⟨x, d, rfl, h, q⟩ := h
  cases r with
  | cons r1 r2 =>
  cases r2 with
  | nil =>
  rename_i u
  have K0 : ∀ tk, L2.Inv X pins σ H ⟨s.heap, s.gens, s.drawn, tk, s.os⟩ := fun tk => I.kept (t' := tk) (fun _ _ e => e)
  rcases h with ⟨dp, ok⟩ | ⟨a, rfl, ha, rfl⟩
  · have hlen : d.shown.length ≤ sizeLine := Nat.le_trans ok.len (by decide)
    have rf : ∀ a, u = .ref a → wpAny (model X.prog X.w) X.A (call (.builtin "repr") [u]) (EP X pins σ Q) X.xe s := fun a e => by
      obtain ⟨as, rd⟩ := Dp.reads I _ _ _ dp r1
      subst e
      refine repr_of_reads' rd ok.show_ (fun z => by rw [ok.nod] at z; cases z) hgd (by have := ok.dep; omega) (fun _ _ e => e) (fun h' v tk kp => ⟨.str d.shown, H, I.kept kp, ⟨v, rfl⟩, q⟩) hlen
    have hs := ok.show_
    cases dp with
    | non =>
      have e : u = .none := r1
      subst e
      exact P.repr_of_none ⟨.str _, H, K0 _, ⟨_, rfl⟩, q⟩
    | bl b =>
      have e : u = .bool b := r1
      subst e
      refine P.repr_of_bool ⟨.str _, H, K0 _, ⟨_, rfl⟩, ?_⟩
      cases b <;> exact q
    | int i =>
      obtain ⟨t, e⟩ := r1
      subst e
      exact P.repr_of_int (of_decide_eq_true hs) ⟨.str _, H, K0 _, ⟨_, rfl⟩, q⟩
    | str x =>
      obtain ⟨t, e⟩ := r1
      subst e
      exact P.repr_of_str ⟨.str _, H, K0 _, ⟨_, rfl⟩, q⟩ hlen
    | lst => exact rf _ r1
    | tup => exact rf _ r1
  · have e : u = .ref a := r1
    subst e
    obtain ⟨_, hsm, vs, kv, hD⟩ := dk_of I.hok ha
    cases kv
    have rd : Reads s.heap (.ref a) (.dict []) [a] := by
      obtain ⟨o, es, n, h1, h2, h3, _, hp, _⟩ := id hD
      have e0 : es.toList = [] := List.eq_nil_of_length_eq_zero hp.length
      refine Reads.dict (as := []) (bs := []) h1 h2.1 h3 ?_ ?_
      · rw [e0]; exact .nil
      · rw [e0]; exact .nil
    have hd1 : (PyData.dict []).depth ≤ 64 := by decide +kernel
    refine repr_of_reads' rd rfl (fun _ m => ?_) hgd (by omega) (fun _ _ e => e) (fun h' v tk kp => ⟨.str _, H, I.kept kp, ⟨v, rfl⟩, q⟩) (by decide +kernel)
    obtain rfl := List.mem_singleton.mp m
    simp at hsm
end K1

/-! R11 -/

/-! What repr says of rules is short. -/
namespace K4
open PySem L2 K1 PyProof.Rows
theorem app_lenS (x y : Str) : (x ++ y).length = x.length + y.length := by
  rw [len_tl (x ++ y)]
  show ((x ++ y).cps.toList).length = _
  rw [app_cps, List.length_append]
  rfl
def sl (ts : List Str) : Nat := (ts.map fun t => t.length + 2).sum
theorem tf_lenS : ∀ (ts : List Str) (n : Nat) (s : Str), (textFrom n s ts).length ≤ s.length + sl ts
  | [], n, s => by unfold textFrom; simp
  | t :: ts, n, s => by
    unfold textFrom
    have ih := tf_lenS ts (n + 1) (s ++ PySem.Str.ofString (if n > 0 then ", " else "") ++ t)
    have h2 : (PySem.Str.ofString (if n > 0 then ", " else "")).length ≤ 2 := by split <;> decide +kernel
    rw [app_lenS, app_lenS] at ih
    have e : sl (t :: ts) = t.length + 2 + sl ts := rfl
    omega
theorem lt_len (ts : List Str) : (listText ts).length ≤ 3 + sl ts := by
  rw [listText, app_lenS]
  have := tf_lenS ts 0 "["
  have e1 : ("[" : Str).length = 1 := by decide +kernel
  have e2 : ("]" : Str).length = 1 := by decide +kernel
  omega
theorem piled_sl : ∀ ts : List Str, piled ts = sl ts
  | [] => by simp [piled, sl]
  | t :: ts => by
    have e : sl (t :: ts) = t.length + 2 + sl ts := rfl
    rw [e, ← piled_sl ts]
    simp [piled]
theorem tt_len (ts : List Str) : (tupleText ts).length ≤ 3 + sl ts := by
  unfold tupleText
  rw [app_lenS, app_lenS]
  have e1 : ("(" : Str).length = 1 := by decide +kernel
  have e2 : ((if (ts.length == 1) = true then ",)" else ")" : String) : Str).length ≤ 2 := by split <;> decide +kernel
  by_cases h : ts = []
  · subst h
    have e3 : (Str.join ", " []).length = 0 := by decide +kernel
    omega
  · have e3 := join_length_add ts h
    rw [piled_sl] at e3
    omega
theorem shownAll_map : ∀ ds : List PyData, PyData.shownAll ds = ds.map PyData.shown
  | [] => by simp [PyData.shownAll]
  | d :: ds => by rw [PyData.shownAll, shownAll_map ds, List.map_cons]
/-- the length of what repr says -/
def rl (d : PyData) : Nat := d.shown.length
def rlA (ds : List PyData) : Nat := (ds.map fun d => rl d + 2).sum
theorem rl_sq (t : Bool) (ds : List PyData) : rl (sq t ds) ≤ 3 + rlA ds := by
  have e : sl (ds.map PyData.shown) = rlA ds := by unfold sl rlA; rw [List.map_map]; rfl
  cases t
  · show (PyData.shown (.list ds)).length ≤ _
    rw [PyData.shown, shownAll_map, ← e]
    exact lt_len _
  · show (PyData.shown (.tuple ds)).length ≤ _
    rw [PyData.shown, shownAll_map, ← e]
    exact tt_len _
theorem rlA_app (a b : List PyData) : rlA (a ++ b) = rlA a + rlA b := by unfold rlA; rw [List.map_append, List.sum_append]
theorem rlA_le {ds : List PyData} {m : Nat} (h : ∀ d ∈ ds, rl d ≤ m) : rlA ds ≤ ds.length * (m + 2) := by
  induction ds with
  | nil => exact Nat.le_of_eq (by unfold rlA; simp)
  | cons d ds ih =>
    have h1 := h d (List.mem_cons_self ..)
    have h2 := ih fun x hx => h x (List.mem_cons_of_mem _ hx)
    have e : rlA (d :: ds) = rl d + 2 + rlA ds := rfl
    rw [List.length_cons, Nat.add_mul]
    omega
theorem rl_num : ∀ n < 61, rl (pn n) ≤ 2 := by decide +kernel
theorem rl_word : ∀ i < 9, rl (.str (wd i)) ≤ 8 := by decide +kernel
theorem rl_nums {t : Bool} {ns : List Nat} (h : ∀ n ∈ ns, n ≤ 60) : rl (sq t (ns.map pn)) ≤ 3 + ns.length * 4 := by
  have a := rl_sq t (ns.map pn)
  have b := rlA_le (ds := ns.map pn) (m := 2) fun d hd => by obtain ⟨n, hn, rfl⟩ := List.mem_map.mp hd; exact rl_num n (by have := h n hn; omega)
  rw [List.length_map] at b
  omega
theorem all128 : ∀ c ∈ tl ALL, c < 128 := by decide +kernel
theorem rl_str {y : Str} (h : ∀ c ∈ tl y, c < 128) : rl (.str y) ≤ 10 * y.length + 2 := StrLaws.reprText_len y fun c hc => Nat.lt_trans (h c hc) (by decide)
theorem Ow.rl {o : Ow} (h : o.ok) (t : Bool) : rlA (o.data t) ≤ 3900 := by
  have one : ∀ d, rlA [d] = K4.rl d + 2 := fun d => by unfold rlA; simp
  have two : ∀ d e, rlA [d, e] = K4.rl d + 2 + (K4.rl e + 2) := fun d e => by unfold rlA; simp
  have three : ∀ d e f, rlA [d, e, f] = K4.rl d + 2 + (K4.rl e + 2 + (K4.rl f + 2)) := fun d e f => by unfold rlA; simp
  cases o with
  | sum m ws g =>
    obtain ⟨h1, h2, h3, h4, h5⟩ := h
    show rlA [pn m, sq t (ws.map pn), pn g] ≤ _
    rw [three]
    have a := rl_num m (by omega)
    have b := rl_nums (t := t) (ns := ws) fun n hn => by have := h3.2.2 n hn; omega
    have c := rl_num g (by omega)
    omega
  | square rows gs =>
    obtain ⟨h1, h2, h3, h4, h5, h6⟩ := h
    show rlA [sq t (rows.map fun r => sq t (r.map pn)), sq t (gs.map pn)] ≤ _
    rw [two]
    have b := rl_nums (t := t) (ns := gs) fun n hn => by have := h6 n hn; omega
    have a := rl_sq t (rows.map fun r => sq t (r.map pn))
    have c := rlA_le (ds := rows.map fun r => sq t (r.map pn)) (m := 51) fun d hd => by
      obtain ⟨r, hr, rfl⟩ := List.mem_map.mp hd
      have q := h3 r hr
      have := rl_nums (t := t) (ns := r) fun n hn => by have := q.2.2 n hn; omega
      have := q.2.1
      omega
    rw [List.length_map] at c
    have d : rows.length * 53 ≤ 60 * 53 := Nat.mul_le_mul_right _ h2
    omega
  | faces fs =>
    obtain ⟨h1, h2, h3⟩ := h
    show rlA [sq t (fs.map PyData.str)] ≤ _
    rw [one]
    have a := rl_sq t (fs.map PyData.str)
    have c := rlA_le (ds := fs.map PyData.str) (m := 122) fun d hd => by
      obtain ⟨f, hf, rfl⟩ := List.mem_map.mp hd
      have q := h3 f hf
      have := rl_str (y := f) fun c hc => all128 c (q.2.2 c hc)
      have := q.2.1
      have := len_tl f
      omega
    rw [List.length_map] at c
    have d : fs.length * 124 ≤ 4 * 124 := Nat.mul_le_mul_right _ h2
    omega
  | cut a b =>
    show rlA [pn a, pn b] ≤ _
    rw [two]
    have x := rl_num a (by have := h.1; omega)
    have y := rl_num b (by have := h.2; omega)
    omega
  | _ => exact Nat.le_trans (Nat.le_of_eq (by unfold rlA; simp [Ow.data])) (Nat.zero_le 3900)
theorem R.rl (t : Bool) : ∀ {r : R}, r.ok → K4.rl (r.data t) ≤ 4000 * r.parts
  | .n0 o, h => by
    have a := Ow.rl h.1 t
    have b := rl_sq t (.str o.word :: o.data t)
    have c := rl_word _ o.kind_lt
    have e : rlA (.str o.word :: o.data t) = K4.rl (.str o.word) + 2 + rlA (o.data t) := rfl
    show K4.rl (sq t (.str o.word :: o.data t)) ≤ 4000 * 1
    change K4.rl (.str o.word) ≤ 8 at c
    omega
  | .n1 o r, h => by
    have a := Ow.rl h.1 t
    have b := rl_sq t (.str o.word :: (o.data t ++ [r.data t]))
    have c := rl_word _ o.kind_lt
    have e : rlA (.str o.word :: (o.data t ++ [r.data t])) = K4.rl (.str o.word) + 2 + rlA (o.data t ++ [r.data t]) := rfl
    have e2 : rlA [r.data t] = K4.rl (r.data t) + 2 := by unfold rlA; simp
    have ih := R.rl t h.2.2
    rw [rlA_app, e2] at e
    show K4.rl (sq t (.str o.word :: (o.data t ++ [r.data t]))) ≤ 4000 * (r.parts + 1)
    change K4.rl (.str o.word) ≤ 8 at c
    omega
  | .n2 o r s, h => by
    have a := Ow.rl h.1 t
    have b := rl_sq t (.str o.word :: (o.data t ++ [r.data t, s.data t]))
    have c := rl_word _ o.kind_lt
    have e : rlA (.str o.word :: (o.data t ++ [r.data t, s.data t])) = K4.rl (.str o.word) + 2 + rlA (o.data t ++ [r.data t, s.data t]) := rfl
    have e2 : rlA [r.data t, s.data t] = K4.rl (r.data t) + 2 + (K4.rl (s.data t) + 2) := by unfold rlA; simp
    have ih := R.rl t h.2.2.1
    have ih2 := R.rl t h.2.2.2
    rw [rlA_app, e2] at e
    show K4.rl (sq t (.str o.word :: (o.data t ++ [r.data t, s.data t]))) ≤ 4000 * (r.parts + s.parts + 1)
    change K4.rl (.str o.word) ≤ 8 at c
    omega
/-! flat data is shown -/
theorem showA_map : ∀ ds : List PyData, PyData.showableAll ds = ds.all PyData.showable
  | [] => by simp [PyData.showableAll]
  | d :: ds => by rw [PyData.showableAll, showA_map ds, List.all_cons]
theorem show_sq {t : Bool} {ds : List PyData} (h : ∀ d ∈ ds, d.showable = true) : (sq t ds).showable = true := by
  have e : PyData.showableAll ds = true := by rw [showA_map]; exact List.all_eq_true.mpr h
  cases t
  · show PyData.showable (.list ds) = true
    rw [PyData.showable]; exact e
  · show PyData.showable (.tuple ds) = true
    rw [PyData.showable]; exact e
theorem show_num : ∀ n < 61, (pn n).showable = true := by decide +kernel
theorem show_nums {t : Bool} {ns : List Nat} (h : ∀ n ∈ ns, n ≤ 60) : (sq t (ns.map pn)).showable = true := show_sq fun d hd => by
  obtain ⟨n, hn, rfl⟩ := List.mem_map.mp hd; exact show_num n (by have := h n hn; omega)
theorem Ow.show_ {o : Ow} (h : o.ok) (t : Bool) : ∀ d ∈ o.data t, d.showable = true := by
  cases o with
  | sum m ws g =>
    obtain ⟨h1, h2, h3, h4, h5⟩ := h
    intro d hd
    simp only [Ow.data, List.mem_cons, List.not_mem_nil, or_false] at hd
    rcases hd with rfl | rfl | rfl
    · exact show_num m (by omega)
    · exact show_nums fun n hn => by have := h3.2.2 n hn; omega
    · exact show_num g (by omega)
  | square rows gs =>
    obtain ⟨h1, h2, h3, h4, h5, h6⟩ := h
    intro d hd
    simp only [Ow.data, List.mem_cons, List.not_mem_nil, or_false] at hd
    rcases hd with rfl | rfl
    · exact show_sq fun d hd => by obtain ⟨r, hr, rfl⟩ := List.mem_map.mp hd; exact show_nums fun n hn => by have := (h3 r hr).2.2 n hn; omega
    · exact show_nums fun n hn => by have := h6 n hn; omega
  | faces fs =>
    intro d hd
    simp only [Ow.data, List.mem_cons, List.not_mem_nil, or_false] at hd
    subst hd
    exact show_sq fun d hd => by obtain ⟨f, hf, rfl⟩ := List.mem_map.mp hd; rfl
  | cut a b =>
    intro d hd
    simp only [Ow.data, List.mem_cons, List.not_mem_nil, or_false] at hd
    rcases hd with rfl | rfl
    · exact show_num a (by have := h.1; omega)
    · exact show_num b (by have := h.2; omega)
  | _ => intro d hd; simp [Ow.data] at hd
theorem R.show_ (t : Bool) : ∀ {r : R}, r.ok → (r.data t).showable = true
  | .n0 o, h => show_sq fun d hd => by
    simp only [List.mem_cons] at hd
    rcases hd with rfl | hd
    · rfl
    · exact Ow.show_ h.1 t d hd
  | .n1 o r, h => show_sq fun d hd => by
    simp only [List.mem_cons, List.mem_append, List.not_mem_nil, or_false] at hd
    rcases hd with rfl | hd | rfl
    · rfl
    · exact Ow.show_ h.1 t d hd
    · exact R.show_ t h.2.2
  | .n2 o r s, h => show_sq fun d hd => by
    simp only [List.mem_cons, List.mem_append, List.not_mem_nil, or_false] at hd
    rcases hd with rfl | hd | rfl | rfl
    · rfl
    · exact Ow.show_ h.1 t d hd
    · exact R.show_ t h.2.2.1
    · exact R.show_ t h.2.2.2
theorem rk_flat {d : PyData} (h : flatN d = true) (s : d.showable = true) (k : d.depth ≤ 64) (l : rl d ≤ 500000) : Rk d :=
  ⟨s, PyData.hasDict_of_canLay d (canLay_flat d h), k, l⟩
/-- what can be handed in and borne: it is == to itself and has a repr -/
def Th (K : PySem.W.Frag) (H : Hp) (x : V) (d : PyData) : Prop := (Dp K H x d ∧ SeqAt.shaped d = true ∧ PyData.eqv d d = true ∧ Rk d) ∨ (∃ a, x = .ref a ∧ H a = some (.dK []) ∧ d = .dict [])
theorem Th.same {K : PySem.W.Frag} {H H' : Hp} {x : V} {d : PyData} (h : Th K H x d) (s : Same H H') : Th K H' x d := by
  rcases h with ⟨a, b⟩ | ⟨a, rfl, e, rfl⟩
  · exact .inl ⟨dp_keep (Same.keeps s) _ _ a, b⟩
  · exact .inr ⟨a, rfl, s _ _ e, rfl⟩
theorem Th.dq {K : PySem.W.Frag} {H : Hp} {x : V} {d : PyData} (h : Th K H x d) : Dq K H x d := by
  rcases h with ⟨a, _, _, b⟩ | ⟨a, rfl, e, rfl⟩
  · exact .inl ⟨a, b⟩
  · exact .inr ⟨a, rfl, e, rfl⟩
theorem th_flat {K : PySem.W.Frag} {H : Hp} {x : V} {d : PyData} (h : Dp K H x d) (f : flatN d = true) (s : d.showable = true) (k : d.depth ≤ 64) (l : rl d ≤ 500000) : Th K H x d :=
  .inl ⟨h, shaped_of f k, SeqAt.eqv_refl _ (canLay_flat _ f), rk_flat f s k l⟩
theorem R.rk {r : R} {t : Bool} (ok : r.ok) (p : r.parts ≤ 62) : Rk (r.data t) := by
  have := R.rl t ok
  have := r.depth_le
  have := (R.flat t ok).2
  exact rk_flat (R.flat t ok).1 (R.show_ t ok) (by omega) (by omega)
theorem R.thing {K : PySem.W.Frag} {H : Hp} {x : V} {r : R} {t : Bool} (h : Dp K H x (r.data t)) (ok : r.ok) (p : r.parts ≤ 62) : Th K H x (r.data t) :=
  .inl ⟨h, shaped_of (R.flat t ok).1 (R.rk (t := t) ok p).dep, R.refl t ok, R.rk ok p⟩
theorem str_thing {K : PySem.W.Frag} {H : Hp} {y : Str} (h : ∀ c ∈ tl y, c < 128) (l : y.length ≤ 1000) : Th K H (.str y) (.str y) :=
  th_flat (.str y) (strOk_of fun c hc => by have := h c hc; omega) rfl (by simp [PyData.depth]) (by have := rl_str h; omega)
/-- is it == to itself -/
def rEqT (K : PySem.W.Frag) : V → V → Hp → VK → Prop := fun x y H Q => rEqD K x y H Q ∨ ∃ a b kvs, x = .ref a ∧ y = .ref b ∧ H a = some (.dK kvs) ∧ H b = some (.dK kvs) ∧ (kvs.map (·.1)).Nodup ∧ (∀ p ∈ kvs, flatB p.2 = true) ∧ Q (.bl true) H
theorem op_eqT {X : Cx} (hu : X.A.units + 64 < cLine) : OpR X (compareOp .Eq) (rEqT X.K) := by
  intro pins s σ H x y v u Q I rx ry h
  rcases h with h | h
  · exact op_eqD hu pins s σ H x y v u Q I rx ry h
  · exact op_eq_dict (by omega) pins s σ H x y v u Q I rx ry h
theorem Th.eq {K : PySem.W.Frag} {H : Hp} {x : V} {d : PyData} {Q : VK} (h : Th K H x d) (q : Q (.bl true) H) : rEqT K x x H Q := by
  rcases h with ⟨a, s, e, _⟩ | ⟨a, rfl, e, rfl⟩
  · refine .inl ⟨d, d, a, a, s, s, ?_⟩
    rw [e]; exact q
  · exact .inr ⟨a, a, [], rfl, rfl, e, e, by simp, by simp, q⟩
end K4

/-! Tu11 -/
/-! tuple(text). -/
namespace K1
open PySem PySem.Spec PyProof.Rows L2
section
variable {prog : Program} {w : World} {A : Around} {E : Value → Shared → Prop} {s : Shared} {x : Str} {t : Tok}
theorem collect_str {Q : List Value → Shared → Prop} (hh : A.handled = none) (hn : x.cps.size ≤ sizeLine)
    (hQ : ∀ (h' : Heap) (tk : Nat) (acc : Array Value), (∀ b o, s.heap.get? b = some o → h'.get? b = some o) → ItemsOf (SignAt x) acc x.cps.size → Q acc.toList { s with heap := h', toks := tk }) :
    wpAny (model prog w) A (collect (.str x t)) Q E s := by
  unfold collect
  refine wpAny_bind (wpAny_runValue (codeAny_builtin F.entry_proto_collect ?_))
  rw [Around.under_plainId F.plain_proto_collect _]
  show wpAny _ A.in1 (newList [] >>= fun l => again (.builtin "list.__iadd__" ⟨[l, .str x t], []⟩)) _ _ s
  refine wpAny_bind (wpAny_newObj_type ?_)
  refine wpAny_pure ⟨plainId_quiet F.plain_list_iadd _, codeAny_builtin F.entry_list_iadd ?_⟩
  rw [Around.under_plainId F.plain_list_iadd _]
  show wpAny _ A.in1 (Builtin.List.listExtendWith (.ref s.heap.objs.size) (.str x t) (.ref s.heap.objs.size)) _ _ _
  have hS : (s.heap.push { cls := .type "list", data := .seq ([] : List Value).toArray }).get? s.heap.objs.size = some { cls := .type "list", data := .seq #[] 0 } := Heap.get?_push_size _ rfl
  refine wpAny_mono (wpAny_extend_str (A := A) (R := fun rr s' => rr = .ok (.ret (.ref s.heap.objs.size)) ∧ ∃ (h' : Heap) (tk : Nat) (acc : Array Value) (c' : Nat), s' = { s with heap := h', toks := tk } ∧
      (∀ b o, s.heap.get? b = some o → h'.get? b = some o) ∧ h'.get? s.heap.objs.size = some { cls := .type "list", dict := none, data := .seq acc c', slots := #[] } ∧ ItemsOf (SignAt x) acc x.cps.size)
    (s := { s with heap := s.heap.push { cls := .type "list", data := .seq ([] : List Value).toArray } }) (hn := hn) hh x t _ _ 0 hS
    (fun h' tk acc c' hk e hi => ⟨rfl, h', tk, acc, c', rfl, fun b o q => hk b o (Nat.ne_of_lt (Heap.lt_size q)) (Heap.get?_push_of_some _ q), e, hi⟩)) (fun fin s' h => ?_) (fun e s' h => ?_)
  · cases fin with
    | done f =>
      obtain ⟨e, h', tk, acc, c', rfl, hk, hS', hi⟩ := h
      cases e
      show wpAny _ A (load s.heap.objs.size >>= _) _ _ _
      exact wpAny_bind (wpAny_load hS' (wpAny_pure (hQ h' tk acc hk hi)))
    | again c' =>
      refine ⟨h.1, codeAny_mono h.2 fun rr s'' hr' => ?_⟩
      obtain ⟨rfl, h', tk, acc, c', rfl, hk, hS', hi⟩ := hr'
      show wpAny _ A (load s.heap.objs.size >>= _) _ _ _
      exact wpAny_bind (wpAny_load hS' (wpAny_pure (hQ h' tk acc hk hi)))
  · exact absurd h.1 (by simp)
theorem code_tuple_new_str {Q₁ : Value → Shared → Prop} (hh : A.handled = none) (hn : x.cps.size ≤ sizeLine)
    (h : ∀ (h' : Heap) (tk : Nat) (acc : Array Value), (∀ b o, s.heap.get? b = some o → h'.get? b = some o) → ItemsOf (SignAt x) acc x.cps.size →
      Q₁ (.ref h'.objs.size) { s with heap := h'.push { cls := .type "tuple", data := .seq acc }, toks := tk }) :
    codeAny (model prog w) A (.call (.builtin "tuple.__new__") ⟨[.type "tuple", .str x t], []⟩) (wants Q₁ E) s := by
  refine codeAny_of_tree ?_
  show wpAny _ A.in1 (do checkBuiltinCall "tuple.__new__" ⟨[.type "tuple", .str x t], []⟩; again (.builtin "tuple.__new__" ⟨[.type "tuple", .str x t], []⟩)) _ _ s
  refine wpAny_bind (wpAny_of_eq (F.newCall_tuple_1 _) (wpAny_pure ⟨plainId_quiet F.plain_tuple_new _, codeAny_builtin F.entry_tuple_new ?_⟩))
  rw [Around.under_plainId F.plain_tuple_new _]
  have hsub := sub_tuple_self
  have hinit := init_tuple_lookup
  have hmh := madeHere_tuple
  have hTI : s.TypeIs (.str x t) "str" := rfl
  have hh1 : A.in1.handled = none := hh
  wp_walk using wpAny_typeOf hTI, collect_str (A := A.in1) hh1 hn
  intro h' tk acc hk hacc
  show wpAny _ _ (Builtin.Tuple.tupleExact acc.toList.toArray >>= fun v => ret v) _ _ _
  unfold Builtin.Tuple.tupleExact
  refine wpAny_bind (wpAny_newObj_type ?_ (by show acc.toList.toArray.size ≤ sizeLine; simp only [Array.toArray_toList]; rw [hacc.1]; exact hn))
  refine wpAny_pure ?_
  have e : acc.toList.toArray = acc := by simp
  rw [e]
  exact h h' tk acc hk hacc
theorem call_tuple_str {Q : Value → Shared → Prop} (hh : A.handled = none) (hn : x.cps.size ≤ sizeLine)
    (hQ : ∀ (h' : Heap) (tk : Nat) (acc : Array Value), (∀ b o, s.heap.get? b = some o → h'.get? b = some o) → ItemsOf (SignAt x) acc x.cps.size →
      Q (.ref h'.objs.size) { s with heap := h'.push { cls := .type "tuple", data := .seq acc }, toks := tk }) :
    wpAny (model prog w) A (call (.type "tuple") [.str x t]) Q E s := by
  refine callType_codes (Q₁ := fun obj s₁ => s₁.TypeIs obj "tuple" ∧ Q obj s₁) F.called_tuple (F.typeCall_tuple_1 _) F.entry_object_init
    (code_tuple_new_str (A := A.in1) hh hn fun h' tk acc hk hacc => ⟨⟨_, Heap.get?_push_size _ rfl, rfl⟩, hQ h' tk acc hk hacc⟩) fun obj s₁ h₁ => ?_
  exact ⟨h₁.1, F.args_object_init_2 obj _, object_init_meets F.called_tuple.init.lookup F.called_tuple.made (by decide) prog w A.in1 _ s₁ ⟨h₁.1, rfl, h₁.2⟩⟩
end
theorem call_tupleS {X : Cx} (hh : X.A.handled = none) : CallR X (.type "tuple") (fun xs H Q => ∃ z : Str, xs = [.str z] ∧ z.length ≤ sizeLine ∧ ∀ l, H l = none → Q (.ref l) (upd H l (.tup ((sgn z).map V.str)))) := by
  intro pins s σ H xs us Q I r h
  obtain ⟨z, rfl, hz, q⟩ := h
  obtain ⟨u, rfl, rx⟩ := vals1 r
  obtain ⟨t, rfl⟩ := rx
  refine call_tuple_str hh (by simpa [Str.length] using hz) fun h' tk acc kp hacc => ?_
  have I1 : Inv X pins σ H { s with heap := h', toks := tk } := I.kept (t' := tk) kp
  have rv : Vals ((sgn z).map V.str) acc.toList := by
    refine vals_pt ?_ ?_
    · simp [sgn, hacc.1]
    · intro j x u hx hu
      obtain ⟨c, w, hc, rfl⟩ := hacc.2 j u (by simpa using hu)
      have : x = V.str ⟨#[c]⟩ := by
        simp [sgn, hc] at hx
        exact hx.symm
      subst this
      exact ⟨w, rfl⟩
  have hl : ((sgn z).map V.str).length ≤ sizeLine := by
    have e : ((sgn z).map V.str).length = z.length := by simp [sgn, Str.length]
    rw [e]; exact hz
  have I2 : Inv X pins σ (upd H h'.objs.size (.tup ((sgn z).map V.str))) { s with heap := h'.push { cls := .type "tuple", data := .seq acc }, toks := tk } :=
    I1.laid (t' := tk) (fun b o e => Heap.get?_push_of_some _ e) (Nat.le_refl _) (show ObjOk X.prog X.w _ _ _ (.tup ((sgn z).map V.str)) from ⟨hl, acc.toList, rv, by
      have := IsTup.new h' acc
      simpa using this⟩)
  exact ⟨.ref h'.objs.size, _, I2, rfl, q _ (I1.hok.fresh (Nat.le_refl _))⟩
end K1

/-! L11q -/


namespace K4
open PySem L2 K1
abbrev sLBadPaper : Stmt := top 80
abbrev nLBadPaper : List Str := ["_law_bag", "_law_signs", "_law_paper", "_law_way", "_law_other", "_law_at", "_law_sign"]
theorem scLBadPaper : FnScope nLBadPaper ["_law_bag", "_law_signs", "_law_paper"] (defScope sLBadPaper) := ⟨rfl, rfl, rfl, by decide +kernel, rfl, by decide +kernel, by decide +kernel⟩
theorem nd_sub : ∀ {l m : List Nat}, l.Nodup → (∀ x ∈ l, x ∈ m) → l.length ≤ m.length
  | [], _, _, _ => Nat.zero_le _
  | a :: l, m, h, s => by
    rw [List.nodup_cons] at h
    have ha := s a (List.mem_cons_self ..)
    have ih := nd_sub (l := l) (m := m.erase a) h.2 fun x hx => (List.mem_erase_of_ne (fun e => h.1 (by rw [← e]; exact hx))).mpr (s x (List.mem_cons_of_mem _ hx))
    have := List.length_erase_of_mem ha
    have := List.length_pos_of_mem ha
    rw [List.length_cons]
    omega
theorem all_nd : (tl K4.ALL).Nodup ∧ (tl K4.ALL).length = 36 := by decide +kernel
/-- the signs that are not among these -/
def oth (z : List Nat) : List Nat := (tl K4.ALL).filter fun c => !decide (c ∈ z)
theorem filt_succ {l z : List Nat} {i c : Nat} (h : l[i]? = some c) : (l.take (i + 1)).filter (fun c => !decide (c ∈ z)) = (l.take i).filter (fun c => !decide (c ∈ z)) ++ (if c ∈ z then [] else [c]) := by
  rw [List.take_succ, h, List.filter_append]
  by_cases q : c ∈ z <;> simp [q]
theorem oth_ne {z : List Nat} (h : z.length ≤ 12) : oth z ≠ [] := by
  intro e
  have hs : ∀ c ∈ tl K4.ALL, c ∈ z := fun c hc => by
    by_cases q : c ∈ z
    · exact q
    · have : c ∈ oth z := List.mem_filter.mpr ⟨hc, by rw [decide_eq_false q]; rfl⟩
      rw [e] at this; cases this
  have := nd_sub all_nd.1 hs
  have := all_nd.2
  omega
theorem oth_mem {z : List Nat} {c : Nat} (h : c ∈ oth z) : c ∉ z ∧ c < 128 := by
  obtain ⟨h1, h2⟩ := List.mem_filter.mp h
  refine ⟨fun q => ?_, all128 c h1⟩
  rw [decide_eq_true q] at h2; cases h2
theorem oth_len (z : List Nat) : (oth z).length ≤ 36 := by
  have := List.length_filter_le (fun c => !decide (c ∈ z)) (tl K4.ALL)
  have := all_nd.2
  unfold oth
  omega
theorem fold_app : ∀ (l : List (Array Nat)) (a : Array Nat), (l.foldl (· ++ ·) a).toList = a.toList ++ (l.map Array.toList).flatten
  | [], a => by simp
  | b :: l, a => by rw [List.foldl_cons, fold_app l]; simp
theorem tl_rep (z : Str) (n : Nat) : tl (repS z n) = (List.replicate n (tl z)).flatten := by
  show ((List.replicate n z.cps).foldl (· ++ ·) #[]).toList = _
  rw [fold_app, List.map_replicate]
  rfl
theorem rep_mem {z : Str} {n : Nat} {c : Nat} (h : c ∈ tl (repS z n)) : c ∈ tl z := by
  rw [tl_rep] at h
  obtain ⟨l, hl, hc⟩ := List.mem_flatten.mp h
  rw [(List.mem_replicate.mp hl).2] at hc
  exact hc
theorem rep_len (z : Str) (n : Nat) : (tl (repS z n)).length = n * (tl z).length := by
  rw [tl_rep]
  simp
theorem strs_thing {K : PySem.W.Frag} {H : Hp} {x : V} {t : Bool} {ys : List Str} (h : Dp K H x (sq t (ys.map PyData.str))) (hl : ys.length ≤ 60) (hy : ∀ y ∈ ys, y.length ≤ 1 ∧ ∀ c ∈ tl y, c < 128) : Th K H x (sq t (ys.map PyData.str)) := by
  refine th_flat h (flat_sq fun d hd => ?_) (show_sq fun d hd => ?_) (Nat.le_trans (depth_sq (n := 0) fun d hd => ?_) (by decide)) ?_
  · obtain ⟨y, q, rfl⟩ := List.mem_map.mp hd
    exact strOk_of fun c hc => by have := (hy y q).2 c hc; omega
  · obtain ⟨y, q, rfl⟩ := List.mem_map.mp hd
    rfl
  · obtain ⟨y, q, rfl⟩ := List.mem_map.mp hd
    simp [PyData.depth]
  · have a := rl_sq t (ys.map PyData.str)
    have c := rlA_le (ds := ys.map PyData.str) (m := 12) fun d hd => by
      obtain ⟨y, q, rfl⟩ := List.mem_map.mp hd
      have := rl_str (hy y q).2
      have := (hy y q).1
      omega
    rw [List.length_map] at c
    have d : ys.length * 14 ≤ 60 * 14 := Nat.mul_le_mul_right _ hl
    omega
theorem dp_strs {K : PySem.W.Frag} {H : Hp} : ∀ ys : List Str, DpAll K H (ys.map V.str) (ys.map PyData.str)
  | [] => .nil
  | y :: ys => .cons (.str y) (dp_strs ys)
theorem sgn_chars {z : Str} (h : ∀ c ∈ tl z, c < 128) : ∀ y ∈ sgn z, y.length ≤ 1 ∧ ∀ c ∈ tl y, c < 128 := fun y hy => by
  obtain ⟨c, hc, rfl⟩ := List.mem_map.mp hy
  exact ⟨Nat.le_refl 1, fun d hd => by
    have : d = c := by simpa using (show d ∈ [c] from hd)
    rw [this]; exact h c hc⟩
/-- no paper of these signs -/
def OddP (K : PySem.W.Frag) (H : Hp) (z : Str) (y : V) : Prop := (∃ d, Th K H y d) ∧ ∀ H', Same H H' → BadP K H' z y
theorem OddP.same {K : PySem.W.Frag} {H H' : Hp} {z : Str} {y : V} (h : OddP K H z y) (s : Same H H') : OddP K H' z y := by
  obtain ⟨⟨d, t⟩, b⟩ := h
  exact ⟨⟨d, t.same s⟩, fun H2 s2 => b H2 (s.trans s2)⟩
theorem oddP_str {K : PySem.W.Frag} {H : Hp} {z y : Str} (h : ∀ c ∈ tl y, c < 128) (l : y.length ≤ 1000) (b : textB 0 60 z y = false) : OddP K H z (.str y) :=
  ⟨⟨_, str_thing h l⟩, fun _ _ => .inl ⟨y, rfl, l, b⟩⟩
theorem text_char {z y : Str} {c : Nat} (h : c ∈ tl y) (n : c ∉ tl z) : textB 0 60 z y = false := by
  have : ((tl y).all fun c => decide (c ∈ tl z)) = false := by
    rw [← Bool.not_eq_true, List.all_eq_true]
    intro q
    exact n (of_decide_eq_true (q c h))
  unfold textB
  rw [this]; simp
theorem text_long {z y : Str} (h : 60 < y.length) : textB 0 60 z y = false := by
  unfold textB
  rw [decide_eq_false (show ¬ (y.length : Int) ≤ 60 by omega)]
  simp
theorem pick_any {K : PySem.W.Frag} {H : Hp} {Q : VK} {b : Addr} {n i : Nat} {m : Int} {σ : L2.St} {ys : List V} (hb : IsBag H b n) (em : m = (ys.length : Int)) (hv : ∀ (H : Hp) (Q : VK), Q (.ref b) H → tVar i σ H Q) (hl : ys.length ≤ 1000) (ne : 2 ≤ ys.length) (hn : n ≤ 2 ^ 40)
    (k : ∀ v H', v ∈ ys → IsBag H' b (n + 1) → Kp b H H' → Q v H') : ys.length ≤ sizeLine ∧ ∀ p, H p = none → tCall spPick [] E0 (tCons (tVar i) (tCons (tC (V.int m)) tNil)) σ (upd H p (.lst ys)) (fun y H1 => rIxL K (.ref p) y H1 Q) := by
  refine ⟨small_line hl, fun p hp => ?_⟩
  refine r_call (r_cons (hv _ _ ?_))
  walk_at "go"
  refine ⟨b, _, n, rfl, hb.new hp, hn, by omega, fun r H2 r0 r1 hb2 of2 => ?_⟩
  have npb := hb.ne hp
  obtain ⟨x, ex, hx, _⟩ := at_nat' (xs := ys) r0 (by omega)
  exact r_ixL (SqL.of (of2.at npb upd_same)) ex (k x H2 hx hb2 ((Same.kp (same_new hp)).trans of2.kp))
def spBadPaper (K : PySem.W.Frag) : Sp := fun vs H Q _ => ∃ (b : Addr) (z x : Str) (n : Nat), vs = [.ref b, .str z, .str x] ∧ IsBag H b n ∧ n + 4 ≤ 2 ^ 40 ∧ Good z ∧ Pp (tl z) (tl x) ∧ ∀ H' y, (∀ H2, Kp b H' H2 → OddP K H2 z y) → IsBag H' b (n + 4) → Kp b H H' → Q y H'
section
variable {P : Program} {w : World} {K : PySem.W.Frag} {mg : Str → Option Value} {base : Heap} {dO dI : Addr}
theorem ok_badPaper {f : Addr} {fd : FuncData} (F : Fun K "_law_bad_paper" "_law_bad_paper" sLBadPaper f fd) (B : Bl mg) (Op : OPick P w K mg base) (Oo : OOneOf P w K mg base) : FnOk P w K mg base CX0 3 f fd ["_law_bag", "_law_signs", "_law_paper"] (spBadPaper K) := by
  refine F.ok scLBadPaper (fun vs H Q E h => ?_) (fun cdv A outer s H vs Q E hr h => ?_)
  · obtain ⟨b, z, x, n, rfl, _⟩ := h
    rfl
  · obtain ⟨b, z, x, n, rfl, hb, hn, gz, hp, k⟩ := h
    have hd := hr.hd
    refine ⟨_, (pss_cons (ps_set (i := 3) scLBadPaper.nd rfl (Or.inl rfl) (pe_own Op (hr.mono (by omega)) (pa_cons (pv 0) (pa_cons pe_int pa_nil)))) (pss_cons (ps_if (pt_cmpR op_lt (pv 3) pe_int (nomark _)) (pss_cons (ps_setLc (i := 4) (own := [("_law_sign", 6)]) (g := gName 6) rfl scLBadPaper.nd rfl rfl (sw_true rfl rfl rfl (by decide +kernel)) (pi_str pe_str) (blkOk_by (N := nLBadPaper) (sc := defScope sLBadPaper) (by decide +kernel)) (fun _ _ _ _ _ => (pg_name (i := 6) scLBadPaper.nd rfl (Or.inl rfl))) (fun _ _ _ _ _ => (pts_one (pt_cmpR op_notIn_sign (pv 6) (pv 1) (by rfl)))) (fun _ _ _ _ _ => (pv 6))) (pss_cons (ps_set (i := 5) scLBadPaper.nd rfl (Or.inl rfl) (pe_own Op (hr.mono (by omega)) (pa_cons (pv 0) (pa_cons (pe_op op_add (pe_callB call_len (by rfl) B.len PySem.boot_len (pa_cons (pv 2) pa_nil)) pe_int) pa_nil)))) (pss_one (ps_ret (pe_op op_add_str (pe_op op_add_str (pe_slice sl_str (pv 2) po_none (po_some (pv 5))) (pe_ix ix_list (pe_lst (pa_cons (pe_own Oo (hr.mono (by omega)) (pa_cons (pv 0) (pa_cons (pv 4) pa_nil))) (pa_cons pe_str (pa_cons pe_str (pa_cons pe_str (pa_cons pe_str pa_nil)))))) (pe_own Op (hr.mono (by omega)) (pa_cons (pv 0) (pa_cons pe_int pa_nil))) (fun _ _ => rfl))) (pe_slice sl_str (pv 2) (po_some (pv 5)) po_none)))))) pss_nil) (pss_cons (ps_if (pt_cmpR op_eq (pv 3) pe_int (nomark _)) (pss_one (ps_ret (pe_ix ix_list (pe_lst (pa_cons pe_non (pa_cons pe_int (pa_cons pe_int (pa_cons pe_dnewK pa_nil))))) (pe_own Op (hr.mono (by omega)) (pa_cons (pv 0) (pa_cons pe_int pa_nil))) (fun _ _ => rfl)))) pss_nil) (pss_one (ps_ret (pe_ifExp (pt_cmpR op_eq (pv 3) pe_int (nomark _)) (pe_callTy (call_listS hd) (by rfl) B.list (by decide +kernel) (pa_cons (pv 2) pa_nil)) (pe_ifExp (pt_cmpR op_eq (pv 3) pe_int (nomark _)) (pe_callTy (call_tupleS hd) (by rfl) B.tuple (by decide +kernel) (pa_cons (pv 2) pa_nil)) (pe_slice sl_str (pe_op op_add_str (pv 2) (pe_op op_mul_str (pv 1) pe_int)) po_none (po_some pe_int))))))))), ?_⟩
    try dsimp only [cxOf, Cx.nox, Cx.wish]
    have lx := len_tl x
    have x60 := hp.le
    have z2 : 2 ≤ (tl z).length := gz.lo
    have z12 : (tl z).length ≤ 12 := gz.hi
    have lz := len_tl z
    have zA : ∀ c ∈ tl z, c < 128 := fun c hc => all128 c (gz.all c hc)
    have xA : ∀ c ∈ tl x, c < 128 := fun c hc => zA c (hp.all c hc)
    walk_at "go"
    refine ⟨b, _, n, rfl, hb, by omega, by decide, fun way H1 _ _ hb1 of1 => ?_⟩
    walk_at "go"
    refine r_iteN' (fun h0 => ?_) (fun h0 => ?_)
    · walk_at "go"
      intro D hD
      have nDb := hb1.ne hD
      refine lc_it (walk_sgn (z := "0123456789ABCDEFGHIJKLMNOPQRSTUVWXYZ")) (fun i H' => H' D = some (.lst ((((tl K4.ALL).take i).filter fun c => !decide (c ∈ tl z)).map fun c => V.str (one c))) ∧ Same H1 H') ⟨upd_same, same_new hD⟩ (fun _ _ _ _ => trivial) ?_ ?_
      · rintro i y H2 H2' hi ⟨eD, s2⟩ ⟨rfl, hx⟩
        have hx2 : (sgn K4.ALL)[i]? = some (one ((tl K4.ALL).getD i 0)) ∧ y = V.str (one ((tl K4.ALL).getD i 0)) ∧ (tl K4.ALL)[i]? = some ((tl K4.ALL).getD i 0) := by
          have hx3 : ((tl K4.ALL).map one).map V.str = ((sgn "0123456789ABCDEFGHIJKLMNOPQRSTUVWXYZ").map V.str) := rfl
          rw [← hx3, List.getElem?_map, List.getElem?_map] at hx
          cases e : (tl K4.ALL)[i]? with
          | none => rw [e] at hx; cases hx
          | some c =>
            rw [e] at hx
            have e2 : (tl K4.ALL).getD i 0 = c := by rw [List.getD_eq_getElem?_getD, e]; rfl
            rw [e2]
            exact ⟨by show ((tl K4.ALL).map one)[i]? = _; rw [List.getElem?_map, e]; rfl, (Option.some.inj hx).symm, rfl⟩
        obtain ⟨_, rfl, hc⟩ := hx2
        revert hc
        generalize (tl K4.ALL).getD i 0 = c
        intro hc
        have tk := filt_succ (z := tl z) hc
        refine ⟨rfl, ?_⟩
        walk_at "go"
        refine ⟨c, z, rfl, rfl, ?_⟩
        walk_at "go"
        by_cases q : c ∈ tl z
        · rw [decide_eq_true (show c ∈ z.cps.toList from q)]
          walk_at "go"
          rw [tk, if_pos q, List.append_nil]
          exact ⟨eD, s2⟩
        · rw [decide_eq_false (show ¬ c ∈ z.cps.toList from q)]
          walk_at "go"
          refine ⟨_, eD, line60 ?_, ?_, same_upd s2 hD⟩
          · rw [List.length_map]
            have := List.length_filter_le (fun c => !decide (c ∈ tl z)) ((tl K4.ALL).take i)
            rw [List.length_take] at this
            have := all_nd.2
            omega
          · rw [upd_same, tk, if_neg q, List.map_append]; rfl
      · rintro H2 ⟨eD, s2⟩
        have eD2 : H2 D = some (.lst (((oth (tl z)).map one).map V.str)) := by
          rw [eD, List.take_of_length_le (by decide +kernel), List.map_map]
          rfl
        have hb2 := hb1.same s2
        have k2 := of1.kp.trans (Same.kp s2)
        walk_at "go"
        refine ⟨_, _, rfl, lenS (small_line (by omega)), ?_⟩
        walk_at "go"
        refine ⟨b, _, n + 1, rfl, hb2, by omega, by omega, fun r3 H3 r30 r31 hb3 of3 => ?_⟩
        obtain ⟨a, rfl⟩ : ∃ a : Nat, r3 = (a : Int) := ⟨r3.toNat, by omega⟩
        walk_at "go"
        refine ⟨small_line (by omega), ?_⟩
        walk_at "go"
        have eD3 := of3.at nDb eD2
        refine ⟨b, _, ((oth (tl z)).map one).map V.str, _, rfl, hb3, by omega, .inr ⟨D, rfl, SqL.of eD3, nDb, by rw [List.length_map, List.length_map]; have := oth_len (tl z); omega⟩, fun e => oth_ne z12 (by simpa using e), fun v H4 hv hb4 of4 => ?_⟩
        obtain ⟨y0, hy0, rfl⟩ := List.mem_map.mp hv
        obtain ⟨c, hc, rfl⟩ := List.mem_map.mp hy0
        obtain ⟨c1, c2⟩ := oth_mem hc
        walk_at "go"
        refine pick_any (ys := [V.str (one c), .str "a", .str " ", .str "x", .str "-"]) hb4 rfl (fun _ _ q => ⟨_, rfl, q⟩) (by show 5 ≤ 1000; decide) (by show 2 ≤ 5; decide) (by omega) (fun v H5 hv hb5 k5 => ?_)
        obtain ⟨d, rfl, d1, d2⟩ : ∃ d : Nat, v = .str (one d) ∧ d ∉ tl z ∧ d < 128 := by
          simp only [List.mem_cons, List.not_mem_nil, or_false] at hv
          have no : ∀ d : Nat, d ∉ tl K4.ALL → d ∉ tl z := fun d h q => h (gz.all d q)
          rcases hv with rfl | rfl | rfl | rfl | rfl
          · exact ⟨c, rfl, c1, c2⟩
          · exact ⟨97, by rfl, no 97 (by decide +kernel), by decide⟩
          · exact ⟨32, by rfl, no 32 (by decide +kernel), by decide⟩
          · exact ⟨120, by rfl, no 120 (by decide +kernel), by decide⟩
          · exact ⟨45, by rfl, no 45 (by decide +kernel), by decide⟩
        have tA : tl (cutS x none (some (a : Int))) = (tl x).take a := tl_cut_to a
        have tF : tl (cutS x (some (a : Int)) none) = (tl x).drop a := tl_cut_from a
        have lA : (cutS x none (some (a : Int))).length ≤ 60 := by rw [len_tl, tA, List.length_take]; omega
        have lF : (cutS x (some (a : Int)) none).length ≤ 60 := by rw [len_tl, tF, List.length_drop]; omega
        have l1 : (one d).length = 1 := rfl
        have ap := app_lenS (cutS x none (some (a : Int))) (one d)
        have ap2 := app_lenS (cutS x none (some (a : Int)) ++ one d) (cutS x (some (a : Int)) none)
        refine ⟨_, _, rfl, rfl, small_line (by omega), ?_⟩
        walk_at "go"
        refine ⟨small_line (by omega), ?_⟩
        walk_at "go"
        refine ⟨_, _, rfl, rfl, small_line (by omega), ?_⟩
        refine k H5 _ (fun _ _ => oddP_str (fun e he => ?_) (by omega) (text_char (c := d) ?_ d1)) (hb5.mono (by omega)) (k2.trans (of3.kp.trans (of4.kp.trans k5)))
        · rw [tl_app, tl_app] at he
          rcases List.mem_append.mp he with q | q
          · rcases List.mem_append.mp q with q | q
            · rw [tA] at q; exact xA e (List.mem_of_mem_take q)
            · have : e = d := by simpa using (show e ∈ [d] from q)
              rw [this]; exact d2
          · rw [tF] at q; exact xA e (List.mem_of_mem_drop q)
        · rw [tl_app, tl_app]
          exact List.mem_append_left _ (List.mem_append_right _ (show d ∈ [d] by simp))
    · walk_at "go"
      refine r_iteN' (fun h1 => ?_) (fun h1 => ?_)
      · walk_at "go"
        intro a ha
        have hb2 := hb1.new (o := HO.dK []) ha
        refine pick_any (ys := [V.non, V.int 7, V.int 0, .ref a]) hb2 rfl (fun _ _ q => ⟨_, rfl, q⟩) (by show 4 ≤ 1000; decide) (by show 2 ≤ 4; decide) (by omega) (fun v H3 hv hb3 k3 => ?_)
        have k4 : Kp b H H3 := of1.kp.trans ((Same.kp (same_new ha)).trans k3)
        have nab := hb1.ne ha
        refine k H3 v (fun H9 k9 => ?_) (hb3.mono (by omega)) k4
        simp only [List.mem_cons, List.not_mem_nil, or_false] at hv
        rcases hv with rfl | rfl | rfl | rfl
        · exact ⟨⟨.none, th_flat .non rfl rfl (by decide) (by decide +kernel)⟩, fun _ _ => .inr ⟨"NoneType", .base .non, kit_ty (by decide +kernel)⟩⟩
        · exact ⟨⟨.int 7, th_flat (.int 7) rfl rfl (by decide) (by decide +kernel)⟩, fun _ _ => .inr ⟨"int", .base (.int _), kit_ty (by decide +kernel)⟩⟩
        · exact ⟨⟨.int 0, th_flat (.int 0) rfl rfl (by decide) (by decide +kernel)⟩, fun _ _ => .inr ⟨"int", .base (.int _), kit_ty (by decide +kernel)⟩⟩
        · have e3 : H9 a = some (.dK []) := k9 _ _ nab (k3 _ _ nab upd_same)
          exact ⟨⟨.dict [], .inr ⟨a, rfl, e3, rfl⟩⟩, fun H' s' => .inr ⟨"dict", .base (.dK (s' _ _ e3)), kit_ty (by decide +kernel)⟩⟩
      · walk_at "go"
        refine r_iteN' (fun h2 => ?_) (fun h2 => ?_)
        · walk_at "go"
          refine ⟨small_line (by omega), fun L hL => ?_⟩
          have sL := same_new (o := HO.lst ((sgn x).map V.str)) hL
          have eL : (upd H1 L (.lst ((sgn x).map V.str))) L = some (.lst ((sgn x).map V.str)) := upd_same
          refine k _ _ (fun H9 k9 => have eL := k9 _ _ (hb1.ne hL) eL; ⟨⟨_, strs_thing (t := false) (ys := sgn x) (.lst (SqL.of eL) (dp_strs _)) (by rw [sgn_len]; omega) (sgn_chars xA)⟩, fun H' s' => .inr ⟨"list", .base (.lst (s' _ _ eL)), kit_ty (by decide +kernel)⟩⟩) ((hb1.same sL).mono (by omega)) (of1.kp.trans (Same.kp sL))
        · walk_at "go"
          refine r_iteN' (fun h3 => ?_) (fun h3 => ?_)
          · walk_at "go"
            refine ⟨small_line (by omega), fun L hL => ?_⟩
            have sL := same_new (o := HO.tup ((sgn x).map V.str)) hL
            have eL : (upd H1 L (.tup ((sgn x).map V.str))) L = some (.tup ((sgn x).map V.str)) := upd_same
            refine k _ _ (fun H9 k9 => have eL := k9 _ _ (hb1.ne hL) eL; ⟨⟨_, strs_thing (t := true) (ys := sgn x) (.tup (SqT.of eL) (dp_strs _)) (by rw [sgn_len]; omega) (sgn_chars xA)⟩, fun H' s' => .inr ⟨"tuple", .base (.tup (s' _ _ eL)), kit_ty (by decide +kernel)⟩⟩) ((hb1.same sL).mono (by omega)) (of1.kp.trans (Same.kp sL))
          · walk_at "go"
            have lr := rep_len z 31
            have lr2 := len_tl (repS z (31 : Int).toNat)
            have e31 : (31 : Int).toNat = 31 := rfl
            rw [e31] at lr2
            refine ⟨z, 31, rfl, rfl, by decide, by decide, by omega, small_line (by rw [e31]; omega), ?_⟩
            rw [e31]
            refine ⟨_, _, rfl, rfl, small_line (by omega), ?_⟩
            walk_at "go"
            have ap := app_lenS x (repS z 31)
            refine ⟨small_line (by omega), ?_⟩
            have t61 : tl (cutS (x ++ repS z 31) none (some 61)) = (tl (x ++ repS z 31)).take 61 := tl_cut_to 61
            have l61 : (cutS (x ++ repS z 31) none (some 61)).length = 61 := by
              rw [len_tl, t61, List.length_take, ← len_tl]; omega
            refine k H1 _ (fun _ _ => oddP_str (fun e he => ?_) (by omega) (text_long (by omega))) (hb1.mono (by omega)) of1.kp
            rw [t61] at he
            have he := List.mem_of_mem_take he
            rw [tl_app] at he
            rcases List.mem_append.mp he with q | q
            · exact xA e q
            · exact zA e (rep_mem q)
end
end K4

/-! L11r -/


namespace K4
open PySem L2 K1
abbrev sLBadSigns : Stmt := top 81
abbrev nLBadSigns : List Str := ["_law_bag", "_law_signs", "_law_more", "_law_things"]
theorem scLBadSigns : FnScope nLBadSigns ["_law_bag", "_law_signs"] (defScope sLBadSigns) := ⟨rfl, rfl, rfl, by decide +kernel, rfl, by decide +kernel, by decide +kernel⟩
theorem gD0 {l : List Nat} {k : Nat} (h : k < l.length) : l.getD k 0 = l[k] := by
  rw [List.getD_eq_getElem?_getD, List.getElem?_eq_getElem h]; rfl
theorem asc_no {l : List Nat} {k : Nat} (h : k + 1 < l.length) (n : ¬ l[k]'(by omega) < l[k + 1]) : ascL l = false := by
  cases e : ascL l with
  | false => rfl
  | true =>
    unfold ascL at e
    rw [List.all_eq_true] at e
    have := e k (List.mem_range.mpr (by omega))
    rw [decide_eq_true_eq, gD0 (show k < l.length by omega), gD0 h] at this
    exact absurd this n
theorem no_len {y : Str} (h : y.length < 2 ∨ 12 < y.length) : signsB y = false := by
  unfold signsB textB
  rcases h with h | h
  · rw [decide_eq_false (show ¬ (2 : Int) ≤ y.length by omega)]; rfl
  · rw [decide_eq_false (show ¬ (y.length : Int) ≤ 12 by omega)]; simp
theorem no_char {y : Str} {c : Nat} (h : c ∈ tl y) (n : c ∉ tl ALL) : signsB y = false := by
  have : ((tl y).all fun c => decide (c ∈ tl ALL)) = false := by
    rw [← Bool.not_eq_true, List.all_eq_true]
    intro q
    exact n (of_decide_eq_true (q c h))
  unfold signsB textB
  rw [this]; simp
theorem no_asc {y : Str} (h : ascL (tl y) = false) : signsB y = false := by
  unfold signsB
  rw [h]; simp
theorem no_rev {z : Str} (g : Good z) : signsB (revS z) = false := by
  have e : tl (revS z) = (tl z).reverse := rfl
  refine no_asc ?_
  rw [e]
  have h1 : 2 ≤ (tl z).length := g.lo
  refine asc_no (k := 0) (by rw [List.length_reverse]; omega) ?_
  rw [List.getElem_reverse, List.getElem_reverse]
  have up : (tl z).Pairwise (· < ·) := g.up
  have := List.pairwise_iff_getElem.mp up ((tl z).length - 1 - (0 + 1)) ((tl z).length - 1 - 0) (by omega) (by omega) (by omega)
  omega
theorem no_last {z y : Str} {c : Nat} {l : List Nat} (hl : tl z = l ++ [c]) (hy : tl y = tl z ++ [c]) : signsB y = false := by
  refine no_asc ?_
  rw [hy, hl]
  refine asc_no (k := l.length) (by simp) ?_
  rw [List.getElem_append_left (by simp), List.getElem_append_right (by simp), List.getElem_append_right (by simp)]
  simp
/-- no signs -/
def OddS (K : PySem.W.Frag) (H : Hp) (y : V) : Prop := (∃ d, Th K H y d) ∧ ∀ H', Same H H' → Bads K H' y
theorem OddS.same {K : PySem.W.Frag} {H H' : Hp} {y : V} (h : OddS K H y) (s : Same H H') : OddS K H' y := by
  obtain ⟨⟨d, t⟩, b⟩ := h
  exact ⟨⟨d, t.same s⟩, fun H2 s2 => b H2 (s.trans s2)⟩
theorem oddS_str {K : PySem.W.Frag} {H : Hp} {y : Str} (h : ∀ c ∈ tl y, c < 128) (l : y.length ≤ 1000) (b : signsB y = false) : OddS K H (.str y) :=
  ⟨⟨_, str_thing h l⟩, fun _ _ => .inl ⟨y, rfl, l, b⟩⟩
theorem cut_last {z : Str} (h : 1 ≤ (tl z).length) : ∃ c l, tl z = l ++ [c] ∧ tl (cutS z (some (-1)) none) = [c] := by
  have lz := len_tl z
  refine ⟨(tl z)[(tl z).length - 1]'(by omega), (tl z).take ((tl z).length - 1), ?_, ?_⟩
  · have h1 := (List.take_append_drop ((tl z).length - 1) (tl z)).symm
    rw [List.drop_eq_getElem_cons (by omega), List.drop_eq_nil_of_le (by omega)] at h1
    exact h1
  · have e : HT.sIx z.length 0 (some (-1)) = (tl z).length - 1 := by
      show (if (-1 : Int) < 0 then ((-1 : Int) + (z.length : Int)).toNat else min (-1 : Int).toNat z.length) = _
      rw [if_pos (by decide)]; omega
    show ((tl z).drop (HT.sIx z.length 0 (some (-1)))).take (HT.sIx z.length z.length none - HT.sIx z.length 0 (some (-1))) = _
    rw [e, HT.sIx_none, List.drop_eq_getElem_cons (by omega), List.drop_eq_nil_of_le (by omega), List.take_of_length_le (by show 1 ≤ z.length - ((tl z).length - 1); omega)]
def spBadSigns (K : PySem.W.Frag) : Sp := fun vs H Q _ => ∃ (b : Addr) (z : Str) (n : Nat), vs = [.ref b, .str z] ∧ IsBag H b n ∧ n + 2 ≤ 2 ^ 40 ∧ Good z ∧ ∀ H' y, (∀ H2, Kp b H' H2 → OddS K H2 y) → IsBag H' b (n + 2) → Kp b H H' → Q y H'
section
variable {P : Program} {w : World} {K : PySem.W.Frag} {mg : Str → Option Value} {base : Heap} {dO dI : Addr}
theorem ok_badSigns {f : Addr} {fd : FuncData} (F : Fun K "_law_bad_signs" "_law_bad_signs" sLBadSigns f fd) (B : Bl mg) (Op : OPick P w K mg base) (Oo : OOneOf P w K mg base) : FnOk P w K mg base CX0 3 f fd ["_law_bag", "_law_signs"] (spBadSigns K) := by
  refine F.ok scLBadSigns (fun vs H Q E h => ?_) (fun cdv A outer s H vs Q E hr h => ?_)
  · obtain ⟨b, z, n, rfl, _⟩ := h
    rfl
  · obtain ⟨b, z, n, rfl, hb, hn, gz, k⟩ := h
    have hd := hr.hd
    refine ⟨_, (pss_cons (ps_set (i := 2) scLBadSigns.nd rfl (Or.inl rfl) (pe_ifExp (pt_cmpR op_eq (pe_own Op (hr.mono (by omega)) (pa_cons (pv 0) (pa_cons pe_int pa_nil))) pe_int (nomark _)) pe_str (pe_op op_add_str (pe_slice sl_str (pv 1) po_none (po_some pe_int)) pe_str))) (pss_cons (ps_set (i := 3) scLBadSigns.nd rfl (Or.inl rfl) (pe_lst (pa_cons pe_str (pa_cons (pe_slice sl_str (pv 1) po_none (po_some pe_int)) (pa_cons (pe_revS (pv 1)) (pa_cons (pe_op op_add_str (pv 1) (pe_slice sl_str (pv 1) (po_some (pe_un un_neg pe_int)) po_none)) (pa_cons (pv 2) (pa_cons pe_non (pa_cons pe_int (pa_cons (pe_callTy (call_listS hd) (by rfl) B.list (by decide +kernel) (pa_cons (pv 1) pa_nil)) (pa_cons (pe_callTy (call_tupleS hd) (by rfl) B.tuple (by decide +kernel) (pa_cons (pv 1) pa_nil)) (pa_cons (pe_op op_add_str pe_str (pe_slice sl_str (pv 1) po_none (po_some pe_int))) pa_nil)))))))))))) (pss_one (ps_ret (pe_own Oo (hr.mono (by omega)) (pa_cons (pv 0) (pa_cons (pv 3) pa_nil))))))), ?_⟩
    try dsimp only [cxOf, Cx.nox, Cx.wish]
    have z2 : 2 ≤ (tl z).length := gz.lo
    have z12 : (tl z).length ≤ 12 := gz.hi
    have lz := len_tl z
    have zA : ∀ c ∈ tl z, c < 128 := fun c hc => all128 c (gz.all c hc)
    have t1 : tl (cutS z none (some 1)) = (tl z).take 1 := tl_cut_to 1
    have l1 : (cutS z none (some 1)).length = 1 := by rw [len_tl, t1, List.length_take]; omega
    have lone : ∀ y : Str, y = "a" ∨ y = " " → y.length = 1 := fun y h => by rcases h with rfl | rfl <;> decide +kernel
    have la := lone "a" (.inl rfl)
    have lb := lone " " (.inr rfl)
    obtain ⟨cl, ll, ez, ecl⟩ := cut_last (z := z) (by omega)
    have lcl : (cutS z (some (-1)) none).length = 1 := by rw [len_tl, ecl]; rfl
    have lr : (revS z).length = z.length := by rw [len_tl (revS z), lz]; show (tl z).reverse.length = _; exact List.length_reverse
    refine r_seq (r_asg (r_ifJ (fun v H' => ∃ m : Str, v = .str m ∧ (∀ c ∈ tl m, c < 128) ∧ m.length ≤ 20 ∧ signsB m = false ∧ IsBag H' b (n + 1) ∧ Kp b H H') (fun Q' h => ?_) ?_))
    · walk_at "go"
      refine ⟨b, _, n, rfl, hb, by omega, by decide, fun r1 H1 _ _ hb1 of1 => ?_⟩
      walk_at "go"
      refine r_iteN' (fun h0 => ?_) (fun h0 => ?_)
      · walk_at "go"
        exact h _ _ ⟨"0123456789ABC", rfl, by decide +kernel, by decide +kernel, by decide +kernel, hb1, of1.kp⟩
      · walk_at "go"
        refine ⟨small_line (by omega), ?_⟩
        walk_at "go"
        have ap := app_lenS (cutS z none (some 1)) "a"
        refine ⟨_, _, rfl, rfl, small_line (by omega), ?_⟩
        refine h _ _ ⟨_, rfl, fun c hc => ?_, by omega, no_char (c := 97) (by rw [tl_app]; exact List.mem_append_right _ (by decide +kernel)) (by decide +kernel), hb1, of1.kp⟩
        rw [tl_app, t1] at hc
        rcases List.mem_append.mp hc with q | q
        · exact zA c (List.mem_of_mem_take q)
        · exact (show ∀ c ∈ tl ("a" : Str), c < 128 by decide +kernel) c q
    · rintro v H1 ⟨m, rfl, mA, ml, mb, hb1, k1⟩
      walk_at "go"
      refine ⟨small_line (by omega), ?_⟩
      walk_at "go"
      refine ⟨small_line (by omega), ?_⟩
      walk_at "go"
      have apL := app_lenS z (cutS z (some (-1)) none)
      refine ⟨small_line (by omega), _, _, rfl, rfl, small_line (by omega), ?_⟩
      walk_at "go"
      refine ⟨small_line (by omega), fun L hL => ?_⟩
      have sL := same_new (o := HO.lst ((sgn z).map V.str)) hL
      have eL : (upd H1 L (.lst ((sgn z).map V.str))) L = some (.lst ((sgn z).map V.str)) := upd_same
      have hbL := hb1.same sL
      revert eL hbL sL
      generalize upd H1 L (.lst ((sgn z).map V.str)) = H2
      intro sL eL hbL
      walk_at "go"
      refine ⟨small_line (by omega), fun T hT => ?_⟩
      have sT := same_new (o := HO.tup ((sgn z).map V.str)) hT
      have eT : (upd H2 T (.tup ((sgn z).map V.str))) T = some (.tup ((sgn z).map V.str)) := upd_same
      have eL3 := sT _ _ eL
      have hbT := hbL.same sT
      revert eT eL3 hbT sT
      generalize upd H2 T (.tup ((sgn z).map V.str)) = H3
      intro sT eT eL3 hbT
      walk_at "go"
      refine ⟨small_line (by omega), ?_⟩
      walk_at "go"
      have apB := app_lenS " " (cutS z none (some 1))
      refine ⟨_, _, rfl, rfl, small_line (by omega), ?_⟩
      walk_at "go"
      refine ⟨(by show 10 ≤ sizeLine; decide), fun D hD => ?_⟩
      walk_at "go"
      have nDb := hbT.ne hD
      have k3 := k1.trans ((Same.kp (b := b) sL).trans (Same.kp sT))
      refine ⟨b, .ref D, _, _, rfl, hbT.new hD, by omega, .inr ⟨D, rfl, SqL.of upd_same, nDb, by show 10 ≤ 1000; decide⟩, by simp, fun v H5 hv hb5 of5 => ?_⟩
      have nLb : L ≠ b := hb1.ne hL
      have nTb : T ≠ b := hbL.ne hT
      have eL5' := of5.at nLb (same_new hD _ _ eL3)
      have eT5' := of5.at nTb (same_new hD _ _ eT)
      refine k H5 v (fun H9 k9 => ?_) (hb5.mono (by omega)) (k3.trans ((Same.kp (same_new hD)).trans of5.kp))
      have eL5 := k9 _ _ nLb eL5'
      have eT5 := k9 _ _ nTb eT5'
      simp only [List.mem_cons, List.not_mem_nil, or_false] at hv
      rcases hv with rfl | rfl | rfl | rfl | rfl | rfl | rfl | rfl | rfl | rfl
      · exact oddS_str (by decide +kernel) (by decide +kernel) (by decide +kernel)
      · exact oddS_str (fun c hc => by rw [t1] at hc; exact zA c (List.mem_of_mem_take hc)) (by omega) (no_len (.inl (by omega)))
      · exact oddS_str (fun c hc => zA c (List.mem_reverse.mp (show c ∈ (tl z).reverse from hc))) (by omega) (no_rev gz)
      · refine oddS_str (fun c hc => ?_) (by omega) (no_last ez (by rw [tl_app, ecl]))
        rw [tl_app, ecl] at hc
        rcases List.mem_append.mp hc with q | q
        · exact zA c q
        · have : c = cl := by simpa using q
          rw [this]; exact zA cl (by rw [ez]; simp)
      · exact oddS_str mA (by omega) mb
      · exact ⟨⟨.none, th_flat .non rfl rfl (by decide) (by decide +kernel)⟩, fun _ _ => .inr ⟨"NoneType", .base .non, kit_ty (by decide +kernel)⟩⟩
      · exact ⟨⟨.int 12, th_flat (.int 12) rfl rfl (by decide) (by decide +kernel)⟩, fun _ _ => .inr ⟨"int", .base (.int _), kit_ty (by decide +kernel)⟩⟩
      · exact ⟨⟨_, strs_thing (t := false) (ys := sgn z) (.lst (SqL.of eL5) (dp_strs _)) (by rw [sgn_len]; omega) (sgn_chars zA)⟩, fun H' s' => .inr ⟨"list", .base (.lst (s' _ _ eL5)), kit_ty (by decide +kernel)⟩⟩
      · exact ⟨⟨_, strs_thing (t := true) (ys := sgn z) (.tup (SqT.of eT5) (dp_strs _)) (by rw [sgn_len]; omega) (sgn_chars zA)⟩, fun H' s' => .inr ⟨"tuple", .base (.tup (s' _ _ eT5)), kit_ty (by decide +kernel)⟩⟩
      · refine oddS_str (fun c hc => ?_) (by omega) (no_char (c := 32) (by rw [tl_app]; exact List.mem_append_left _ (by decide +kernel)) (by decide +kernel))
        rw [tl_app, t1] at hc
        rcases List.mem_append.mp hc with q | q
        · exact (show ∀ c ∈ tl (" " : Str), c < 128 by decide +kernel) c q
        · exact zA c (List.mem_of_mem_take q)
end
end K4

/-! L11s -/


namespace K4
open PySem L2 K1
abbrev sLSays : Stmt := top 78
abbrev nLSays : List Str := ["_law_signs", "_law_rule", "_law_passed", "_law_paper", "_law_was", "_law_told"]
theorem scLSays : FnScope nLSays ["_law_signs", "_law_rule", "_law_passed", "_law_paper"] (defScope sLSays) := ⟨rfl, rfl, rfl, by decide +kernel, rfl, by decide +kernel, by decide +kernel⟩
def OwnG (P : Program) (w : World) (K : PySem.W.Frag) (mg : Str → Option Value) (base : Heap) (x : Str) (k : Nat) (ps : List Str) (sp : Sp) : Prop :=
  ∃ (f : Addr) (fd : FuncData), FnG P w K mg base k f fd ps sp ∧ mg x = some (.ref f) ∧ PySem.W.keepIn K (.ref f) = true ∧ Binds K fd ps []
theorem pe_ownG {X : Cx} {x : Str} {k : Nat} {ps : List Str} {sp : Sp} {e : Expr} {es : List Expr} {t : TA} {p pos : Pos} (O : OwnG X.prog X.w X.K X.mg X.base x k ps sp) (hr : Room k X.A) (hgd : X.A.guards = some []) (ha : PA X (e :: es) t) (hg : Gl X x := by rfl)
    (hdb : (x == ("__debug__" : Str)) = false := by decide) (he : starEach (e :: es) X.env = (false, eval e X.env) :: starEach es X.env := by rfl) (hpl : (backTo pos (starEach es X.env)).any (·.1) = false := by rfl) :
    PE X (.Call (.Name x p) (e :: es) [] pos) (tCall sp [] E0 t) := by
  obtain ⟨f, fd, G, m, kp, b⟩ := O
  exact pe_callG G hr hgd m kp b ha hg hdb he hpl
theorem asc_of {l : List Nat} (h : l.Pairwise (· < ·)) : ascL l = true := by
  unfold ascL
  rw [List.all_eq_true]
  intro k hk
  have hk : k < l.length - 1 := List.mem_range.mp hk
  have h1 : k < l.length := by omega
  have h2 : k + 1 < l.length := by omega
  rw [decide_eq_true_eq, gD0 h1, gD0 h2]
  exact List.pairwise_iff_getElem.mp h k (k + 1) h1 h2 (by omega)
theorem good_signs {z : Str} (g : Good z) : signsB z = true := by
  have e := len_tl z
  have h1 : 2 ≤ (tl z).length := g.lo
  have h2 : (tl z).length ≤ 12 := g.hi
  have h3 : ((tl z).all fun c => decide (c ∈ tl ALL)) = true := by
    rw [List.all_eq_true]
    intro c hc
    exact decide_eq_true (g.all c hc)
  unfold signsB textB
  rw [h3, asc_of g.up, decide_eq_true (show (2 : Int) ≤ z.length by omega), decide_eq_true (show (z.length : Int) ≤ 12 by omega)]
  rfl
theorem good_ok {z : Str} (g : Good z) {r : R} (h : r.fit (tl z)) : r.ok := R.fit_ok g.lo g.hi g.all h
/-- is_right of a good rule and paper -/
def spRightC (K : PySem.W.Frag) : Sp := fun vs H Q _ => ∃ (z : Str) (v : V) (x : Str) (r : R) (t : Bool), vs = [.str z, v, .str x] ∧ Good z ∧ Dp K H v (r.data t) ∧ r.fit (tl z) ∧ r.parts ≤ 40 ∧ Pp (tl z) (tl x) ∧ ∀ H', Same H H' → Q (.bl (ev (tl z) r (tl x))) H'
def spSays (K : PySem.W.Frag) : Sp := fun vs H Q _ => ∃ (z : Str) (v p : V) (x : Str) (r r' : R) (t : Bool), vs = [.str z, v, p, .str x] ∧ Good z ∧ RAt K H v r ∧ r.fit (tl z) ∧ r.depth ≤ 41 ∧ Dp K H p (r'.data t) ∧ r'.fit (tl z) ∧ r'.parts ≤ 40 ∧ Pp (tl z) (tl x) ∧ ev (tl z) r (tl x) = ev (tl z) r' (tl x) ∧ ∀ H', Same H H' → Q (.bl true) H'
section
variable {P : Program} {w : World} {K : PySem.W.Frag} {mg : Str → Option Value} {base : Heap} {dO dI : Addr}
theorem right_calm {f CS CR CP : Addr} {fd : FuncData} (F : FnOk P w K mg base (L2N.CX P w) 51 f fd ["signs", "rule", "paper"] (spRight K CS CR CP)) : FnOk P w K mg base CX0 51 f fd ["signs", "rule", "paper"] (spRightC K) :=
  K4.FnOk.calm F fun vs H Q E h => by
    obtain ⟨z, v, x, r, t, rfl, gz, hv, hf, hp, hx, k⟩ := h
    have z12 : (tl z).length ≤ 12 := gz.hi
    have lz := len_tl z
    exact ⟨_, _, _, rfl, .inr ⟨z, rfl, by omega, good_nd gz, good_signs gz, .inr ⟨r, t, hv, hf, good_ok gz hf, hp, .inr ⟨x, rfl, hx, k⟩⟩⟩⟩
abbrev ORightC (P : Program) (w : World) (K : PySem.W.Frag) (mg : Str → Option Value) (base : Heap) : Prop := Own P w K mg base "is_right" 51 ["signs", "rule", "paper"] (spRightC K)
theorem ok_says {f : Addr} {fd : FuncData} (F : Fun K "_law_says" "_law_says" sLSays f fd) (B : Bl mg) (Ort : ORightC P w K mg base) (Olj : OJudged 41 P w K mg base) : FnG P w K mg base 52 f fd ["_law_signs", "_law_rule", "_law_passed", "_law_paper"] (spSays K) := by
  refine fnG_of F scLSays (fun vs H Q E h => ?_) (fun cdv A outer s H vs Q E hr hgd h => ?_)
  · obtain ⟨z, v, p, x, r, r', t, rfl, _⟩ := h
    rfl
  · obtain ⟨z, v, p, x, r, r', t, rfl, gz, hR, hf, hd, hv, hf', hp', hx, he, k⟩ := h
    have hu : (A.deeper (PyProof.Rows.envOfC "_law_says" (defScope sLSays) s.heap.objs.size f cdv)).units + 100 < cLine := by
      have := hr.un
      omega
    refine ⟨_, (pss_cons (ps_set (i := 4) scLSays.nd rfl (Or.inl rfl) (pe_callB (id := "repr") (r := rReprD K) (call_reprD hgd hu) (by rfl) B.repr (by decide +kernel) (pa_cons (pv 2) pa_nil))) (pss_cons (ps_set (i := 5) scLSays.nd rfl (Or.inl rfl) (pe_own Ort (hr.mono (by omega)) (pa_cons (pv 0) (pa_cons (pv 2) (pa_cons (pv 3) pa_nil))))) (pss_one (ps_ret (pe_and (pe_callB (id := "isinstance") (r := rIsi K) call_isi (by rfl) B.isin (by decide +kernel) (pa_cons (pv 5) (pa_cons (pe_bltn (v := .ty "bool") (by rfl) B.bool (by decide +kernel) rfl) pa_nil))) (pe_and (pe_cmpR op_eq (pv 5) (pe_own Olj (hr.mono (by omega)) (pa_cons (pv 0) (pa_cons (pv 1) (pa_cons (pv 3) pa_nil)))) (nomark _)) (pe_one (pe_cmpR op_eq (pe_callB (id := "repr") (r := rReprD K) (call_reprD hgd hu) (by rfl) B.repr (by decide +kernel) (pa_cons (pv 2) pa_nil)) (pv 4) (nomark _))))))))), ?_⟩
    try dsimp only [cxOf, Cx.nox, Cx.wish]
    have z12 : (tl z).length ≤ 12 := gz.hi
    have lz := len_tl z
    have ok' := good_ok gz hf'
    have tp := R.thing hv ok' (by omega)
    walk_at "go"
    refine ⟨p, _, rfl, tp.dq, ?_⟩
    walk_at "go"
    refine ⟨z, p, x, r', t, rfl, gz, hv, hf', hp', hx, fun H1 s1 => ?_⟩
    walk_at "go"
    refine r_isi (b := true) (.ty "bool") (.base (.bl _)) (kit_ty (by decide +kernel)) ?_
    walk_at "go"
    refine ⟨z, v, r, x, rfl, by omega, good_nd gz, hR.keep (Same.keeps s1), hf, hx, hd, fun H2 s2 => ?_⟩
    rw [he]
    walk_at "go"
    rw [decide_eq_true rfl]
    walk_at "go"
    refine ⟨p, _, rfl, (tp.same (s1.trans s2)).dq, ?_⟩
    walk_at "go"
    rw [decide_eq_true rfl]
    exact k _ (s1.trans s2)
abbrev OSays (P : Program) (w : World) (K : PySem.W.Frag) (mg : Str → Option Value) (base : Heap) : Prop := OwnG P w K mg base "_law_says" 52 ["_law_signs", "_law_rule", "_law_passed", "_law_paper"] (spSays K)
end
end K4

/-! L11t -/


namespace K4
open PySem L2 L2H K1
abbrev sLRefused : Stmt := top 79
abbrev nLRefused : List Str := ["_law_signs", "_law_rule", "_law_paper", "_law_which", "_law_bore", "e", "_law_kinds", "_law_told"]
theorem scLRefused : FnScope nLRefused ["_law_signs", "_law_rule", "_law_paper", "_law_which"] (defScope sLRefused) := ⟨rfl, rfl, rfl, by decide +kernel, rfl, by decide +kernel, by decide +kernel⟩
/-- isinstance(e, c), e what is being handled -/
def rIsQ (K : PySem.W.Frag) (a : Addr) (cls : Value) (d : Option Addr) : List V → Hp → VK → Prop := fun xs H Q => ∃ (C dd : Addr) (c : V) (cv : Value) (b : Bool) (fs : List (Str × V)), cls = .ref C ∧ d = some dd ∧ ExcC K C ∧ (PySem.W.clsIn K C).isSome = true ∧
  xs = [.ref a, c] ∧ H dd = some (.xd fs) ∧ (∀ u, L2.RelV c u → u = cv) ∧ PySem.W.kitOne K (.ref C) cv = some b ∧ Q (.bl b) H
theorem call_isQ {X : Cx} {a : Addr} {oe : Obj} {cls : Value} {d : Option Addr} (hp : (a, oe) ∈ X.pn) (hz : L2N.Zn cls d oe) (hf : ∃ vs, oe.data = .fields vs) : CallR X (.builtin "isinstance") (rIsQ X.K a cls d) := by
  intro pins s σ H xs us Q I r h
  obtain ⟨C, dd, c, cv, b, fs, rfl, rfl, T, hcl, rfl, hx, hcv, e, q⟩ := h
  exact call_isP hp T hcl hz.1 hz.2.1 hf pins s σ H _ us Q I r ⟨c, cv, b, fs, rfl, hx, hcv, e, q⟩
theorem op_eqTK {X : Cx} {K : PySem.W.Frag} (hK : X.K = K) (hu : X.A.units + 64 < cLine) : OpR X (compareOp .Eq) (rEqT K) := by
  subst hK
  exact op_eqT hu
theorem op_neDK {X : Cx} {K : PySem.W.Frag} (hK : X.K = K) (hu : X.A.units + 64 < cLine) : OpR X (compareOp .NotEq) (rNeD K) := by
  subst hK
  exact op_neD hu
/-- what is known of the class C of an error: which kinds it is -/
structure KindF (K : PySem.W.Frag) (C cE cM cS cR cP : Addr) (s r p : Bool) : Prop where
  exm : PySem.W.exmOne K (.ref C) (.ref cE) = some true
  T : ExcC K C
  X : XfC K C
  cls : (PySem.W.clsIn K C).isSome = true
  mal : PySem.W.kitOne K (.ref C) (.ref cM) = some true
  ve : PySem.W.kitOne K (.ref C) (.type "ValueError") = some true
  ks : PySem.W.kitOne K (.ref C) (.ref cS) = some s
  kr : PySem.W.kitOne K (.ref C) (.ref cR) = some r
  kp : PySem.W.kitOne K (.ref C) (.ref cP) = some p
structure KindN (K : PySem.W.Frag) (mg : Str → Option Value) (cE cM cS cR cP : Addr) : Prop where
  mE : mg "CarryError" = some (.ref cE)
  mM : mg "Malformed" = some (.ref cM)
  mS : mg "BadSigns" = some (.ref cS)
  mR : mg "BadRule" = some (.ref cR)
  mP : mg "BadPaper" = some (.ref cP)
  mV : mg "ValueError" = none
  fiS : PySem.W.findIn K (.ref cS) "signs" = some none
  fiR : PySem.W.findIn K (.ref cR) "rule" = some none
  fiP : PySem.W.findIn K (.ref cP) "paper" = some none
theorem r_isQ {K : PySem.W.Frag} {a dd C : Addr} {c : V} {cv : Value} {b : Bool} {fs : List (Str × V)} {H : Hp} {Q : VK} (T : ExcC K C) (cl : (PySem.W.clsIn K C).isSome = true) (hx : H dd = some (.xd fs)) (hcv : ∀ u, L2.RelV c u → u = cv) (e : PySem.W.kitOne K (.ref C) cv = some b) (q : Q (.bl b) H) :
    rIsQ K a (.ref C) (some dd) [.ref a, c] H Q := ⟨C, dd, c, cv, b, fs, rfl, rfl, T, cl, rfl, hx, hcv, e, q⟩
theorem dp_bools {K : PySem.W.Frag} {H : Hp} : ∀ bs : List Bool, DpAll K H (bs.map V.bl) (bs.map PyData.bool)
  | [] => .nil
  | b :: bs => .cons (.bl b) (dp_bools bs)
theorem ne_bools {K : PySem.W.Frag} {H : Hp} {p q : Addr} {bs : List Bool} {Q : VK} (e1 : H p = some (.lst (bs.map V.bl))) (e2 : H q = some (.lst (bs.map V.bl))) (hs : SeqAt.shaped (.list (bs.map PyData.bool)) = true) (he : PyData.eqv (.list (bs.map PyData.bool)) (.list (bs.map PyData.bool)) = true) (k : Q (.bl false) H) : rNeD K (.ref p) (.ref q) H Q := by
  refine ⟨.list (bs.map PyData.bool), .list (bs.map PyData.bool), .lst (SqL.of e1) (dp_bools bs), .lst (SqL.of e2) (dp_bools bs), hs, hs, ?_⟩
  rw [he]
  exact k
def spRefused (K : PySem.W.Frag) : Sp := fun vs H Q _ => ∃ (x v y : V) (k : Nat), vs = [x, v, y, vi k] ∧ (∀ H', Same H H' → Q (.bl true) H') ∧
  ((k = 0 ∧ OddS K H x) ∨ (∃ z : Str, x = .str z ∧ Good z ∧ ((k = 1 ∧ (∃ d, Th K H v d) ∧ BadR K H v) ∨
    (k = 2 ∧ OddP K H z y ∧ ∃ (r : R) (t : Bool), Dp K H v (r.data t) ∧ r.fit (tl z) ∧ r.parts ≤ 40))))
section
variable {P : Program} {w : World} {K : PySem.W.Frag} {mg : Str → Option Value} {base : Heap}
theorem ok_refused {f fV cE cM cS cR cP : Addr} {fd fdV : FuncData} (F : Fun K "_law_refused" "_law_refused" sLRefused f fd) (B : Bl mg) (FV : FnOk P w K mg base (L2N.CX P w) 51 fV fdV ["signs", "rule", "paper"] (spRight K cS cR cP)) (mV : mg "is_right" = some (.ref fV)) (kV : PySem.W.keepIn K (.ref fV) = true) (bV : Binds K fdV ["signs", "rule", "paper"] [])
    (N : KindN K mg cE cM cS cR cP) (FS : KindF K cS cE cM cS cR cP true false false) (FR : KindF K cR cE cM cS cR cP false true false) (FP : KindF K cP cE cM cS cR cP false false true) :
    FnG P w K mg base 52 f fd ["_law_signs", "_law_rule", "_law_paper", "_law_which"] (spRefused K) := by
  refine fnG_of F scLRefused (fun vs H Q E h => ?_) (fun cdv A outer s H vs Q E hr hgd h => ?_)
  · obtain ⟨x, v, y, k, rfl, _⟩ := h
    rfl
  · obtain ⟨x, v, y, k, rfl, kq, h⟩ := h
    have hu : (A.deeper (PyProof.Rows.envOfC "_law_refused" (defScope sLRefused) s.heap.objs.size f cdv)).units + 100 < cLine := by
      have := hr.un
      omega
    have hu64 : (A.deeper (PyProof.Rows.envOfC "_law_refused" (defScope sLRefused) s.heap.objs.size f cdv)).units + 64 < cLine := by omega
    refine ⟨_, (pss_cons (ps_set (i := 4) scLRefused.nd rfl (Or.inl rfl) (pe_ix ix_list (pe_lst (pa_cons (pv 0) (pa_cons (pv 1) (pa_cons (pv 2) pa_nil)))) (pv 3) (fun _ _ => rfl))) (pss_cons (L2N.ps_try_as (i := 5) (tb := fun W => tDrop (tCallS (spRight K cS cR cP) (WE W) (tCons (tVar 0) (tCons (tVar 1) (tCons (tVar 2) tNil))))) (Wout := fun _ _ _ _ => False) rfl rfl scLRefused.nd rfl rfl ⟨rfl, by decide, Or.inl N.mE⟩ (fun _ _ h => by obtain ⟨_, _, _, _, _, _, _, _, _, _, _, _, _, _, _, _, h⟩ := h; exact h.elim) (fun W pn xe tk _ => pss_one (ps_expr (pe_callS FV hr rfl mV kV bV (fun σ => L2N.passAt tk σ) (pa_cons (pv 0) (pa_cons (pv 1) (pa_cons (pv 2) pa_nil)))))) (fun a oe cls d pn hz hf => (pss_cons (ps_if (PW.pt (pw_or (pt_not (pt_val (pe_callB (id := "isinstance") (r := rIsQ K a cls d) (call_isQ (List.mem_cons_self ..) hz hf) (by rfl) B.isin (by decide +kernel) (pa_cons (pv 5) (pa_cons (pe_glob (v := .ref cM) rfl N.mM rfl) pa_nil))))) (pw_or1 (pt_not (pt_val (pe_callB (id := "isinstance") (r := rIsQ K a cls d) (call_isQ (List.mem_cons_self ..) hz hf) (by rfl) B.isin (by decide +kernel) (pa_cons (pv 5) (pa_cons (pe_bltn (v := .ty "ValueError") (by rfl) N.mV (by decide +kernel) rfl) pa_nil)))))))) (pss_one (ps_ret pe_bl)) pss_nil) (pss_cons (ps_set (i := 6) scLRefused.nd rfl (Or.inl rfl) (pe_lst (pa_cons (pe_callB (id := "isinstance") (r := rIsQ K a cls d) (call_isQ (List.mem_cons_self ..) hz hf) (by rfl) B.isin (by decide +kernel) (pa_cons (pv 5) (pa_cons (pe_glob (v := .ref cS) rfl N.mS rfl) pa_nil))) (pa_cons (pe_callB (id := "isinstance") (r := rIsQ K a cls d) (call_isQ (List.mem_cons_self ..) hz hf) (by rfl) B.isin (by decide +kernel) (pa_cons (pv 5) (pa_cons (pe_glob (v := .ref cR) rfl N.mR rfl) pa_nil))) (pa_cons (pe_callB (id := "isinstance") (r := rIsQ K a cls d) (call_isQ (List.mem_cons_self ..) hz hf) (by rfl) B.isin (by decide +kernel) (pa_cons (pv 5) (pa_cons (pe_glob (v := .ref cP) rfl N.mP rfl) pa_nil))) pa_nil))))) (pss_cons (ps_if (pt_cmpR (op_neDK (K := K) rfl hu64) (pv 6) (pe_lst (pa_cons (pe_cmpR op_eq (pv 3) pe_int (nomark _)) (pa_cons (pe_cmpR op_eq (pv 3) pe_int (nomark _)) (pa_cons (pe_cmpR op_eq (pv 3) pe_int (nomark _)) pa_nil)))) (nomark _)) (pss_one (ps_ret pe_bl)) pss_nil) (pss_cons (ps_set (i := 7) scLRefused.nd rfl (Or.inl rfl) (pe_ifExp (pt_cmpR op_eq (pv 3) pe_int (nomark _)) (pe_xf FS.X N.fiS hz.zc hf (pv 5)) (pe_ifExp (pt_cmpR op_eq (pv 3) pe_int (nomark _)) (pe_xf FR.X N.fiR hz.zc hf (pv 5)) (pe_xf FP.X N.fiP hz.zc hf (pv 5))))) (pss_one (ps_ret (pe_and (pe_cmpR (op_eqTK (K := K) rfl hu64) (pv 7) (pv 4) (nomark _)) (pe_one (pe_cmpR op_eq (pe_callB (id := "repr") (r := rReprD K) (call_reprD hgd hu) (by rfl) B.repr (by decide +kernel) (pa_cons (pv 7) pa_nil)) (pe_callB (id := "repr") (r := rReprD K) (call_reprD hgd hu) (by rfl) B.repr (by decide +kernel) (pa_cons (pv 4) pa_nil)) (nomark _)))))))))))) (pss_one (ps_ret pe_bl)))), ?_⟩
    try dsimp only [cxOf, Cx.nox, Cx.wish]
    walk_at "go"
    refine ⟨(by show 3 ≤ sizeLine; decide), fun L hL => ?_⟩
    have sL := same_new (o := HO.lst [x, v, y]) hL
    rcases h with ⟨rfl, ⟨dx, th⟩, hb⟩ | ⟨z, rfl, gz, ⟨rfl, ⟨dx, th⟩, hb⟩ | ⟨rfl, ⟨⟨dx, th⟩, hb⟩, r, t, hv, hf, hp⟩⟩
    · walk_at "go"
      refine r_ixL (SqL.of upd_same) (atI_nat (j := 0) rfl) ?_
      walk_at "go"
      refine ⟨x, v, y, rfl, .inl ⟨hb _ sL, fun H1 d s1 hd _ => ?_⟩⟩
      refine ⟨true, FS.exm, fun _ a ha => ?_, fun q => nomatch q⟩
      dsimp only [List.set]
      walk_at "go"
      refine r_isQ FS.T FS.cls hd (fun u h => h) FS.mal ?_
      walk_at "go"
      refine r_isQ FS.T FS.cls hd (fun u h => h) FS.ve ?_
      walk_at "go"
      refine r_isQ FS.T FS.cls hd (fun u h => h) FS.ks ?_
      walk_at "go"
      refine r_isQ FS.T FS.cls hd (fun u h => h) FS.kr ?_
      walk_at "go"
      refine r_isQ FS.T FS.cls hd (fun u h => h) FS.kp ?_
      walk_at "go"
      refine ⟨(by show 3 ≤ sizeLine; decide), fun D1 hD1 => ?_⟩
      walk_at "go"
      refine ⟨(by show 3 ≤ sizeLine; decide), fun D2 hD2 => ?_⟩
      rw [show decide (vi 0 = V.int 0) = true by exact decide_eq_true rfl]
      rw [show decide (vi 0 = V.int 1) = false by exact decide_eq_false (by intro q; have := V.int.inj q; omega)]
      rw [show decide (vi 0 = V.int 2) = false by exact decide_eq_false (by intro q; have := V.int.inj q; omega)]
      have s2 := same_new (o := HO.lst [V.bl true, V.bl false, V.bl false]) hD1
      have s3 := same_new (o := HO.lst [V.bl true, V.bl false, V.bl false]) hD2
      refine ne_bools (bs := [true, false, false]) (s3 _ _ upd_same) upd_same (by decide +kernel) (by decide +kernel) ?_
      walk_at "go"
      refine ⟨rfl, rfl, d, _, x, rfl, s3 _ _ (s2 _ _ hd), rfl, ?_⟩
      walk_at "go"
      have th2 := th.same (sL.trans (s1.trans (s2.trans s3)))
      refine th2.eq ?_
      walk_at "go"
      refine ⟨x, dx, rfl, th2.dq, ?_⟩
      walk_at "go"
      refine ⟨x, dx, rfl, th2.dq, ?_⟩
      walk_at "go"
      rw [decide_eq_true rfl]
      exact kq _ (sL.trans (s1.trans (s2.trans s3)))
    · have z12 : (tl z).length ≤ 12 := gz.hi
      have lz := len_tl z
      walk_at "go"
      refine r_ixL (SqL.of upd_same) (atI_nat (j := 1) rfl) ?_
      walk_at "go"
      refine ⟨.str z, v, y, rfl, .inr ⟨z, rfl, by omega, good_nd gz, good_signs gz, .inl ⟨hb.same sL, fun H1 d s1 hd _ => ?_⟩⟩⟩
      refine ⟨true, FR.exm, fun _ a ha => ?_, fun q => nomatch q⟩
      dsimp only [List.set]
      walk_at "go"
      refine r_isQ FR.T FR.cls hd (fun u h => h) FR.mal ?_
      walk_at "go"
      refine r_isQ FR.T FR.cls hd (fun u h => h) FR.ve ?_
      walk_at "go"
      refine r_isQ FR.T FR.cls hd (fun u h => h) FR.ks ?_
      walk_at "go"
      refine r_isQ FR.T FR.cls hd (fun u h => h) FR.kr ?_
      walk_at "go"
      refine r_isQ FR.T FR.cls hd (fun u h => h) FR.kp ?_
      walk_at "go"
      refine ⟨(by show 3 ≤ sizeLine; decide), fun D1 hD1 => ?_⟩
      walk_at "go"
      refine ⟨(by show 3 ≤ sizeLine; decide), fun D2 hD2 => ?_⟩
      rw [show decide (vi 1 = V.int 0) = false by exact decide_eq_false (by intro q; have := V.int.inj q; omega)]
      rw [show decide (vi 1 = V.int 1) = true by exact decide_eq_true rfl]
      rw [show decide (vi 1 = V.int 2) = false by exact decide_eq_false (by intro q; have := V.int.inj q; omega)]
      have s2 := same_new (o := HO.lst [V.bl false, V.bl true, V.bl false]) hD1
      have s3 := same_new (o := HO.lst [V.bl false, V.bl true, V.bl false]) hD2
      refine ne_bools (bs := [false, true, false]) (s3 _ _ upd_same) upd_same (by decide +kernel) (by decide +kernel) ?_
      walk_at "go"
      refine ⟨rfl, rfl, d, _, v, rfl, s3 _ _ (s2 _ _ hd), rfl, ?_⟩
      walk_at "go"
      have th2 := th.same (sL.trans (s1.trans (s2.trans s3)))
      refine th2.eq ?_
      walk_at "go"
      refine ⟨v, dx, rfl, th2.dq, ?_⟩
      walk_at "go"
      refine ⟨v, dx, rfl, th2.dq, ?_⟩
      walk_at "go"
      rw [decide_eq_true rfl]
      exact kq _ (sL.trans (s1.trans (s2.trans s3)))
    · have z12 : (tl z).length ≤ 12 := gz.hi
      have lz := len_tl z
      walk_at "go"
      refine r_ixL (SqL.of upd_same) (atI_nat (j := 2) rfl) ?_
      walk_at "go"
      refine ⟨.str z, v, y, rfl, .inr ⟨z, rfl, by omega, good_nd gz, good_signs gz, .inr ⟨r, t, dp_keep (Same.keeps sL) _ _ hv, hf, good_ok gz hf, hp, .inl ⟨fun H' s' => hb H' (sL.trans s'), fun H1 d s1 hd _ => ?_⟩⟩⟩⟩
      refine ⟨true, FP.exm, fun _ a ha => ?_, fun q => nomatch q⟩
      dsimp only [List.set]
      walk_at "go"
      refine r_isQ FP.T FP.cls hd (fun u h => h) FP.mal ?_
      walk_at "go"
      refine r_isQ FP.T FP.cls hd (fun u h => h) FP.ve ?_
      walk_at "go"
      refine r_isQ FP.T FP.cls hd (fun u h => h) FP.ks ?_
      walk_at "go"
      refine r_isQ FP.T FP.cls hd (fun u h => h) FP.kr ?_
      walk_at "go"
      refine r_isQ FP.T FP.cls hd (fun u h => h) FP.kp ?_
      walk_at "go"
      refine ⟨(by show 3 ≤ sizeLine; decide), fun D1 hD1 => ?_⟩
      walk_at "go"
      refine ⟨(by show 3 ≤ sizeLine; decide), fun D2 hD2 => ?_⟩
      rw [show decide (vi 2 = V.int 0) = false by exact decide_eq_false (by intro q; have := V.int.inj q; omega)]
      rw [show decide (vi 2 = V.int 1) = false by exact decide_eq_false (by intro q; have := V.int.inj q; omega)]
      rw [show decide (vi 2 = V.int 2) = true by exact decide_eq_true rfl]
      have s2 := same_new (o := HO.lst [V.bl false, V.bl false, V.bl true]) hD1
      have s3 := same_new (o := HO.lst [V.bl false, V.bl false, V.bl true]) hD2
      refine ne_bools (bs := [false, false, true]) (s3 _ _ upd_same) upd_same (by decide +kernel) (by decide +kernel) ?_
      walk_at "go"
      refine ⟨rfl, rfl, d, _, y, rfl, s3 _ _ (s2 _ _ hd), rfl, ?_⟩
      walk_at "go"
      have th2 := th.same (sL.trans (s1.trans (s2.trans s3)))
      refine th2.eq ?_
      walk_at "go"
      refine ⟨y, dx, rfl, th2.dq, ?_⟩
      walk_at "go"
      refine ⟨y, dx, rfl, th2.dq, ?_⟩
      walk_at "go"
      rw [decide_eq_true rfl]
      exact kq _ (sL.trans (s1.trans (s2.trans s3)))
abbrev ORefused (P : Program) (w : World) (K : PySem.W.Frag) (mg : Str → Option Value) (base : Heap) : Prop := OwnG P w K mg base "_law_refused" 52 ["_law_signs", "_law_rule", "_law_paper", "_law_which"] (spRefused K)
end
end K4

/-! L11u -/


namespace K4
open PySem L2 K1
abbrev sLErrors : Stmt := top 82
abbrev nLErrors : List Str := ["_law_bag", "_law_signs", "_law_rule", "_law_paper", "_law_odd", "_law_bad", "_law_wrong"]
theorem scLErrors : FnScope nLErrors ["_law_bag", "_law_signs", "_law_rule", "_law_paper"] (defScope sLErrors) := ⟨rfl, rfl, rfl, by decide +kernel, rfl, by decide +kernel, by decide +kernel⟩
/-- no rule: borne as it is -/
def OddR (K : PySem.W.Frag) (H : Hp) (v : V) : Prop := (∃ d, Th K H v d) ∧ BadR K H v
theorem OddR.same {K : PySem.W.Frag} {H H' : Hp} {y : V} (h : OddR K H y) (s : Same H H') : OddR K H' y := by
  obtain ⟨⟨d, t⟩, b⟩ := h
  exact ⟨⟨d, t.same s⟩, b.same s⟩
theorem oddR_tup {K : PySem.W.Frag} {H : Hp} {T : Addr} {xs : List V} {ds : List PyData} (e : H T = some (.tup xs)) (h : DpAll K H xs ds) (f : ∀ d ∈ ds, flatN d = true) (s : ∀ d ∈ ds, d.showable = true) (dp : ∀ d ∈ ds, d.depth ≤ 50) (l : rlA ds ≤ 400000) (b : BadR K H (.ref T)) : OddR K H (.ref T) :=
  ⟨⟨sq true ds, th_flat (.tup (SqT.of e) h) (flat_sq f) (show_sq s) (Nat.le_trans (depth_sq (n := 50) dp) (by decide)) (by have := rl_sq true ds; omega)⟩, b⟩
theorem oddR_lst {K : PySem.W.Frag} {H : Hp} {T : Addr} {xs : List V} {ds : List PyData} (e : H T = some (.lst xs)) (h : DpAll K H xs ds) (f : ∀ d ∈ ds, flatN d = true) (s : ∀ d ∈ ds, d.showable = true) (dp : ∀ d ∈ ds, d.depth ≤ 50) (l : rlA ds ≤ 400000) (b : BadR K H (.ref T)) : OddR K H (.ref T) :=
  ⟨⟨sq false ds, th_flat (.lst (SqL.of e) h) (flat_sq f) (show_sq s) (Nat.le_trans (depth_sq (n := 50) dp) (by decide)) (by have := rl_sq false ds; omega)⟩, b⟩
def spErrors (K : PySem.W.Frag) : Sp := fun vs H Q _ => ∃ (b : Addr) (z : Str) (v : V) (x : Str) (n : Nat) (r : R), vs = [.ref b, .str z, v, .str x] ∧ IsBag H b n ∧ n + 10 ≤ 2 ^ 40 ∧ Good z ∧ Dp K H v (r.data true) ∧ r.fit (tl z) ∧ r.parts ≤ 39 ∧ Pp (tl z) (tl x) ∧ ∀ H', Q (.bl true) H'
section
variable {P : Program} {w : World} {K : PySem.W.Frag} {mg : Str → Option Value} {base : Heap}
abbrev OBadPaper (P : Program) (w : World) (K : PySem.W.Frag) (mg : Str → Option Value) (base : Heap) : Prop := Own P w K mg base "_law_bad_paper" 3 ["_law_bag", "_law_signs", "_law_paper"] (spBadPaper K)
abbrev OBadSigns (P : Program) (w : World) (K : PySem.W.Frag) (mg : Str → Option Value) (base : Heap) : Prop := Own P w K mg base "_law_bad_signs" 3 ["_law_bag", "_law_signs"] (spBadSigns K)
theorem ok_errors {f : Addr} {fd : FuncData} (F : Fun K "_law_errors" "_law_errors" sLErrors f fd) (B : Bl mg) (Obp : OBadPaper P w K mg base) (Oo : OOneOf P w K mg base) (Obs : OBadSigns P w K mg base) (Orf : ORefused P w K mg base) (Osy : OSays P w K mg base) :
    FnG P w K mg base 53 f fd ["_law_bag", "_law_signs", "_law_rule", "_law_paper"] (spErrors K) := by
  refine fnG_of F scLErrors (fun vs H Q E h => ?_) (fun cdv A outer s H vs Q E hr hgd h => ?_)
  · obtain ⟨b, z, v, x, n, r, rfl, _⟩ := h
    rfl
  · obtain ⟨b, z, v, x, n, r, rfl, hb, hn, gz, hv, hf, hp, hx, k⟩ := h
    refine ⟨_, (pss_cons (ps_set (i := 4) scLErrors.nd rfl (Or.inl rfl) (pe_own Obp (hr.mono (by omega)) (pa_cons (pv 0) (pa_cons (pv 1) (pa_cons (pv 3) pa_nil))))) (pss_cons (ps_set (i := 5) scLErrors.nd rfl (Or.inl rfl) (pe_own Oo (hr.mono (by omega)) (pa_cons (pv 0) (pa_cons (pe_lst (pa_cons (pe_tup (pa_cons pe_str pa_nil)) (pa_cons (pe_lst (pa_cons pe_str (pa_cons pe_int pa_nil))) (pa_cons pe_non (pa_cons pe_str (pa_cons (pe_tup (pa_cons pe_str pa_nil)) (pa_cons (pe_tup (pa_cons pe_str (pa_cons pe_int (pa_cons pe_int (pa_cons (pv 2) pa_nil))))) pa_nil))))))) pa_nil)))) (pss_cons (ps_set (i := 6) scLErrors.nd rfl (Or.inl rfl) (pe_own Obs (hr.mono (by omega)) (pa_cons (pv 0) (pa_cons (pv 1) pa_nil)))) (pss_cons (ps_if (PW.pt (pw_or (pt_not (pt_val (pe_ownG Orf hr hgd (pa_cons (pv 1) (pa_cons (pv 2) (pa_cons (pv 4) (pa_cons pe_int pa_nil))))))) (pw_or1 (pt_not (pt_val (pe_ownG Orf hr hgd (pa_cons (pv 1) (pa_cons (pv 5) (pa_cons (pv 4) (pa_cons pe_int pa_nil)))))))))) (pss_one (ps_ret pe_bl)) pss_nil) (pss_cons (ps_if (PW.pt (pw_or (pt_not (pt_val (pe_ownG Orf hr hgd (pa_cons (pv 1) (pa_cons (pv 5) (pa_cons (pv 3) (pa_cons pe_int pa_nil))))))) (pw_or1 (pt_not (pt_val (pe_ownG Orf hr hgd (pa_cons (pv 6) (pa_cons (pv 5) (pa_cons (pv 4) (pa_cons pe_int pa_nil)))))))))) (pss_one (ps_ret pe_bl)) pss_nil) (pss_cons (ps_if (pt_not (pt_val (pe_ownG Orf hr hgd (pa_cons (pv 6) (pa_cons (pv 2) (pa_cons (pv 3) (pa_cons pe_int pa_nil))))))) (pss_one (ps_ret pe_bl)) pss_nil) (pss_one (ps_ret (pe_ownG Osy hr hgd (pa_cons (pv 1) (pa_cons (pv 2) (pa_cons (pv 2) (pa_cons (pe_slice sl_str (pe_op op_add_str (pv 3) (pe_op op_mul_str (pv 1) pe_int)) po_none (po_some pe_int)) pa_nil))))))))))))), ?_⟩
    try dsimp only [cxOf, Cx.nox, Cx.wish]
    have z2 : 2 ≤ (tl z).length := gz.lo
    have z12 : (tl z).length ≤ 12 := gz.hi
    have lz := len_tl z
    have lx := len_tl x
    have x60 := hx.le
    have hok := good_ok gz hf
    walk_at "go"
    refine ⟨b, z, x, n, rfl, hb, by omega, gz, hx, fun H1 odd od hb1 k1 => ?_⟩
    have hv1 := dp_pure (bag_kt hb k1) _ _ r.pure hv
    walk_at "go"
    refine ⟨(by show 1 ≤ sizeLine; decide), fun T1 hT1 => ?_⟩
    walk_at "go"
    refine ⟨(by show 2 ≤ sizeLine; decide), fun Lx hLx => ?_⟩
    walk_at "go"
    refine ⟨(by show 1 ≤ sizeLine; decide), fun T5 hT5 => ?_⟩
    walk_at "go"
    refine ⟨(by show 4 ≤ sizeLine; decide), fun T6 hT6 => ?_⟩
    walk_at "go"
    refine ⟨(by show 6 ≤ sizeLine; decide), fun D hD => ?_⟩
    have hb2 := ((((hb1.new (o := HO.tup [V.str "zip"]) hT1).new (o := HO.lst [V.str "any", V.int 0]) hLx).new (o := HO.tup [V.str "not"]) hT5).new (o := HO.tup [V.str "cut", V.int 0, V.int 4, v]) hT6)
    have nT1 := hb1.ne hT1
    have nLx := (hb1.new (o := HO.tup [V.str "zip"]) hT1).ne hLx
    have nT5 := ((hb1.new (o := HO.tup [V.str "zip"]) hT1).new (o := HO.lst [V.str "any", V.int 0]) hLx).ne hT5
    have nT6 := (((hb1.new (o := HO.tup [V.str "zip"]) hT1).new (o := HO.lst [V.str "any", V.int 0]) hLx).new (o := HO.tup [V.str "not"]) hT5).ne hT6
    have nD := hb2.ne hD
    have s1 := same_new (o := HO.tup [V.str "zip"]) hT1
    have s2 := same_new (o := HO.lst [V.str "any", V.int 0]) hLx
    have s3 := same_new (o := HO.tup [V.str "not"]) hT5
    have s4 := same_new (o := HO.tup [V.str "cut", V.int 0, V.int 4, v]) hT6
    have s5 := same_new (o := HO.lst [V.ref T1, V.ref Lx, V.non, V.str "any", V.ref T5, V.ref T6]) hD
    have eT1 := s5 _ _ (s4 _ _ (s3 _ _ (s2 _ _ (upd_same (H := H1) (a := T1) (o := HO.tup [V.str "zip"])))))
    have eLx := s5 _ _ (s4 _ _ (s3 _ _ (upd_same (H := upd H1 T1 (HO.tup [V.str "zip"])) (a := Lx) (o := HO.lst [V.str "any", V.int 0]))))
    have eT5 := s5 _ _ (s4 _ _ (upd_same (H := upd (upd H1 T1 (HO.tup [V.str "zip"])) Lx (HO.lst [V.str "any", V.int 0])) (a := T5) (o := HO.tup [V.str "not"])))
    have eT6 := s5 _ _ (upd_same (H := upd (upd (upd H1 T1 (HO.tup [V.str "zip"])) Lx (HO.lst [V.str "any", V.int 0])) T5 (HO.tup [V.str "not"])) (a := T6) (o := HO.tup [V.str "cut", V.int 0, V.int 4, v]))
    have eD := upd_same (H := upd (upd (upd (upd H1 T1 (HO.tup [V.str "zip"])) Lx (HO.lst [V.str "any", V.int 0])) T5 (HO.tup [V.str "not"])) T6 (HO.tup [V.str "cut", V.int 0, V.int 4, v])) (a := D) (o := HO.lst [V.ref T1, V.ref Lx, V.non, V.str "any", V.ref T5, V.ref T6])
    have s15 := s1.trans (s2.trans (s3.trans (s4.trans s5)))
    have hbD := hb1.same s15
    have hvD := dp_keep (Same.keeps s15) _ _ hv1
    clear hb2 s1 s2 s3 s4 s5 hT1 hLx hT5 hT6 hD
    revert eT1 eLx eT5 eT6 eD s15 hbD hvD
    generalize (upd (upd (upd (upd (upd H1 T1 (HO.tup [V.str "zip"])) Lx (HO.lst [V.str "any", V.int 0])) T5 (HO.tup [V.str "not"])) T6 (HO.tup [V.str "cut", V.int 0, V.int 4, v])) D (HO.lst [V.ref T1, V.ref Lx, V.non, V.str "any", V.ref T5, V.ref T6])) = HD
    intro eT1 eLx eT5 eT6 eD s15 hbD hvD
    walk_at "go"
    refine ⟨b, .ref D, _, _, rfl, hbD, by omega, .inr ⟨D, rfl, SqL.of eD, nD, by show 6 ≤ 1000; decide⟩, by simp, fun bad H2 hbad hb2 of2 => ?_⟩
    have oddR : ∀ H9, Kp b HD H9 → OddR K H9 bad := by
      intro H9 k9
      have e1 := k9 _ _ nT1 eT1
      have e2 := k9 _ _ nLx eLx
      have e5 := k9 _ _ nT5 eT5
      have e6 := k9 _ _ nT6 eT6
      have hv9 := dp_pure (bag_kt hbD k9) _ _ r.pure hvD
      simp only [List.mem_cons, List.not_mem_nil, or_false] at hbad
      rcases hbad with rfl | rfl | rfl | rfl | rfl | rfl
      · refine oddR_tup (ds := [.str "zip"]) e1 (.cons (.str _) .nil) (by decide +kernel) (by decide +kernel) (by decide +kernel) (by decide +kernel) (.inr (.inl ⟨"zip", ⟨T1, rfl, .inr (SqT.of e1)⟩, by decide +kernel⟩))
      · refine oddR_lst (ds := [.str "any", .int 0]) e2 (.cons (.str _) (.cons (.int _) .nil)) (by decide +kernel) (by decide +kernel) (by decide +kernel) (by decide +kernel) (.inr (.inr (.inl ⟨0, [.int 0], by decide, ⟨Lx, rfl, .inl (SqL.of e2)⟩, by decide, by decide⟩)))
      · exact ⟨⟨.none, th_flat .non rfl rfl (by decide) (by decide +kernel)⟩, .inl noSeq_non⟩
      · exact ⟨⟨_, str_thing (by decide +kernel) (by decide +kernel)⟩, .inl noSeq_str⟩
      · refine oddR_tup (ds := [.str "not"]) e5 (.cons (.str _) .nil) (by decide +kernel) (by decide +kernel) (by decide +kernel) (by decide +kernel) (.inr (.inr (.inl ⟨2, [], by decide, ⟨T5, rfl, .inr (SqT.of e5)⟩, by decide, by decide⟩)))
      · have rk := R.rk (t := true) hok (by omega)
        have rr := R.rl true hok
        have fl := (R.flat true hok).1
        have dl := (R.flat true hok).2
        have dle := r.depth_le
        refine oddR_tup (ds := [.str "cut", .int 0, .int 4, r.data true]) e6 (.cons (.str _) (.cons (.int _) (.cons (.int _) (.cons hv9 .nil)))) (fun d hd => ?_) (fun d hd => ?_) (fun d hd => ?_) ?_ (.inr (.inr (.inr ⟨0, 4, v, ⟨T6, rfl, .inr (SqT.of e6)⟩, by decide, by decide⟩)))
        · simp only [List.mem_cons, List.not_mem_nil, or_false] at hd
          rcases hd with rfl | rfl | rfl | rfl
          · decide +kernel
          · decide +kernel
          · decide +kernel
          · exact fl
        · simp only [List.mem_cons, List.not_mem_nil, or_false] at hd
          rcases hd with rfl | rfl | rfl | rfl
          · decide +kernel
          · decide +kernel
          · decide +kernel
          · exact rk.show_
        · simp only [List.mem_cons, List.not_mem_nil, or_false] at hd
          rcases hd with rfl | rfl | rfl | rfl
          · decide +kernel
          · decide +kernel
          · decide +kernel
          · omega
        · have e : rlA [.str "cut", .int 0, .int 4, r.data true] = rl (.str "cut") + 2 + (rl (.int 0) + 2 + (rl (.int 4) + 2 + (rl (r.data true) + 2))) := by unfold rlA; simp
          have a1 : rl (.str "cut") ≤ 10 := by decide +kernel
          have a2 : rl (.int 0) ≤ 10 := by decide +kernel
          have a3 : rl (.int 4) ≤ 10 := by decide +kernel
          omega
    walk_at "go"
    refine ⟨b, z, _, rfl, hb2, by omega, gz, fun H3 wrong ow hb3 k3 => ?_⟩
    have kD3 : Kp b HD H3 := of2.kp.trans k3
    have k13 : Kp b H1 H3 := (Same.kp s15).trans kD3
    have od3 := od H3 k13
    have or3 := oddR H3 kD3
    have ow3 := ow H3 (Kp.refl _ _)
    have hv3 := dp_pure (bag_kt hbD kD3) _ _ r.pure hvD
    walk_at "go"
    refine ⟨.str z, v, odd, 2, rfl, fun H4 s4 => ?_, .inr ⟨z, rfl, gz, .inr ⟨rfl, od3, r, true, hv3, hf, by omega⟩⟩⟩
    walk_at "go"
    refine ⟨.str z, bad, odd, 1, rfl, fun H5 s5 => ?_, .inr ⟨z, rfl, gz, .inl ⟨rfl, (or3.same s4).1, (or3.same s4).2⟩⟩⟩
    have s35 := s4.trans s5
    walk_at "go"
    refine ⟨.str z, bad, .str x, 1, rfl, fun H6 s6 => ?_, .inr ⟨z, rfl, gz, .inl ⟨rfl, (or3.same s35).1, (or3.same s35).2⟩⟩⟩
    have s36 := s35.trans s6
    walk_at "go"
    refine ⟨wrong, bad, odd, 0, rfl, fun H7 s7 => ?_, .inl ⟨rfl, ow3.same s36⟩⟩
    have s37 := s36.trans s7
    walk_at "go"
    refine ⟨wrong, v, .str x, 0, rfl, fun H8 s8 => ?_, .inl ⟨rfl, ow3.same s37⟩⟩
    have s38 := s37.trans s8
    walk_at "go"
    have lr := rep_len z 30
    have e30 : (30 : Int).toNat = 30 := rfl
    have lr2 := len_tl (repS z (30 : Int).toNat)
    rw [e30] at lr2
    refine ⟨z, 30, rfl, rfl, by decide, by decide, by omega, small_line (by rw [e30]; omega), ?_⟩
    rw [e30]
    refine ⟨_, _, rfl, rfl, small_line (by omega), ?_⟩
    walk_at "go"
    have ap := app_lenS x (repS z 30)
    refine ⟨small_line (by omega), ?_⟩
    walk_at "go"
    have t60 : tl (cutS (x ++ repS z 30) none (some 60)) = (tl (x ++ repS z 30)).take 60 := tl_cut_to 60
    have hv8 := dp_keep (Same.keeps s38) _ _ hv3
    have hx60 : Pp (tl z) (tl (cutS (x ++ repS z 30) none (some 60))) := by
      rw [t60]
      refine ⟨by rw [List.length_take]; omega, fun c hc => ?_⟩
      have hc := List.mem_of_mem_take hc
      rw [tl_app] at hc
      rcases List.mem_append.mp hc with q | q
      · exact hx.all c q
      · exact rep_mem q
    exact ⟨z, v, v, _, r, r, true, rfl, gz, RAt.of hv8, hf, by have := r.depth_le; omega, hv8, hf, by omega, hx60, rfl, fun H9 _ => k H9⟩
abbrev OErrors (P : Program) (w : World) (K : PySem.W.Frag) (mg : Str → Option Value) (base : Heap) : Prop := OwnG P w K mg base "_law_errors" 53 ["_law_bag", "_law_signs", "_law_rule", "_law_paper"] (spErrors K)
end
end K4

/-! L11v -/


namespace K4
open PySem L2 K1
abbrev sLChanged : Stmt := top 83
abbrev nLChanged : List Str := ["_law_signs", "_law_rule", "_law_paper", "_law_holder"]
theorem scLChanged : FnScope nLChanged ["_law_signs", "_law_rule", "_law_paper"] (defScope sLChanged) := ⟨rfl, rfl, rfl, by decide +kernel, rfl, by decide +kernel, by decide +kernel⟩
def spChanged (K : PySem.W.Frag) : Sp := fun vs H Q _ => ∃ (z : Str) (v : V) (x : Str) (r : R), vs = [.str z, v, .str x] ∧ Good z ∧ Dp K H v (r.data true) ∧ r.fit (tl z) ∧ r.parts ≤ 39 ∧ Pp (tl z) (tl x) ∧ ∀ H', Same H H' → Q (.bl true) H'
section
variable {P : Program} {w : World} {K : PySem.W.Frag} {mg : Str → Option Value} {base : Heap}
theorem ok_changed {f : Addr} {fd : FuncData} (F : Fun K "_law_changed" "_law_changed" sLChanged f fd) (B : Bl mg) (Oll : OLL 46 P w K mg base) (Ort : ORightC P w K mg base) (Olj : OJudged 41 P w K mg base) (Osy : OSays P w K mg base) :
    FnG P w K mg base 53 f fd ["_law_signs", "_law_rule", "_law_paper"] (spChanged K) := by
  refine fnG_of F scLChanged (fun vs H Q E h => ?_) (fun cdv A outer s H vs Q E hr hgd h => ?_)
  · obtain ⟨z, v, x, r, rfl, _⟩ := h
    rfl
  · obtain ⟨z, v, x, r, rfl, gz, hv, hf, hp, hx, k⟩ := h
    refine ⟨_, (pss_cons (ps_set (i := 3) scLChanged.nd rfl (Or.inl rfl) (pe_lst (pa_cons pe_str (pa_cons (pe_own Oll (hr.mono (by omega)) (pa_cons (pv 1) pa_nil)) pa_nil)))) (pss_cons (ps_if (pt_cmpR op_eq (pe_own Ort (hr.mono (by omega)) (pa_cons (pv 0) (pa_cons (pv 3) (pa_cons (pv 2) pa_nil)))) (pe_own Olj (hr.mono (by omega)) (pa_cons (pv 0) (pa_cons (pv 1) (pa_cons (pv 2) pa_nil)))) (nomark _)) (pss_one (ps_ret pe_bl)) pss_nil) (pss_cons (ps_asg (pe_lst (pa_cons pe_str pa_nil)) (pg_sub (pv 3) pe_int set_list)) (pss_cons (ps_if (pt_val (pe_own Ort (hr.mono (by omega)) (pa_cons (pv 0) (pa_cons (pv 3) (pa_cons (pv 2) pa_nil))))) (pss_one (ps_ret pe_bl)) pss_nil) (pss_cons (ps_asg pe_str (pg_sub (pv 3) pe_int set_list)) (pss_one (ps_ret (pe_ownG Osy hr hgd (pa_cons (pv 0) (pa_cons (pe_tup (pa_cons pe_str pa_nil)) (pa_cons (pv 3) (pa_cons (pv 2) pa_nil)))))))))))), ?_⟩
    try dsimp only [cxOf, Cx.nox, Cx.wish]
    have z2 : 2 ≤ (tl z).length := gz.lo
    have z12 : (tl z).length ≤ 12 := gz.hi
    have lz := len_tl z
    have lx := len_tl x
    have x60 := hx.le
    have hok := good_ok gz hf
    have dle := r.depth_le
    have dl := (R.flat true hok).2
    walk_at "go"
    refine ⟨v, _, rfl, hv, r.pure, R.wide hok, by omega, fun H1 v' s1 hv' => ?_⟩
    rw [R.lst] at hv'
    have hv1 := dp_keep (Same.keeps New.same) _ _ hv'
    walk_at "go"
    refine ⟨(by show 2 ≤ sizeLine; decide), fun Lh hLh => ?_⟩
    have hLn : H Lh = none := s1.free hLh
    have s2 := same_new (o := HO.lst [V.str "not", v']) hLh
    have e2 : (upd H1 Lh (.lst [V.str "not", v'])) Lh = some (.lst [V.str "not", v']) := upd_same
    have hv2 := dp_keep (Same.keeps s2) _ _ hv1
    have s12 := s1.trans s2
    clear hv'
    revert s2 e2 hv2 s12
    generalize upd H1 Lh (.lst [V.str "not", v']) = H2
    intro s2 e2 hv2 s12
    walk_at "go"
    refine ⟨z, .ref Lh, x, .n1 .not r, false, rfl, gz, .lst (SqL.of e2) (.cons (.str _) (.cons hv2 .nil)), ⟨trivial, rfl, hf⟩, by show r.parts + 1 ≤ 40; omega, hx, fun H3 s3 => ?_⟩
    walk_at "go"
    refine ⟨z, v, r, x, rfl, by omega, good_nd gz, RAt.of (dp_keep (Same.keeps (s12.trans s3)) _ _ hv), hf, hx, by omega, fun H4 s4 => ?_⟩
    have en : ev (tl z) (.n1 .not r) (tl x) = !ev (tl z) r (tl x) := rfl
    rw [en]
    walk_at "go"
    refine r_no (fun q => by have := V.bl.inj q; cases h : ev (tl z) r (tl x) <;> rw [h] at this <;> cases this) ?_
    walk_at "go"
    refine ⟨(by show 1 ≤ sizeLine; decide), fun La hLa => ?_⟩
    have s34 := s3.trans s4
    have e4 := s34 _ _ e2
    have s5 := same_new (o := HO.lst [V.str "any"]) hLa
    have e5 := s5 _ _ e4
    have a5 : (upd H4 La (.lst [V.str "any"])) La = some (.lst [V.str "any"]) := upd_same
    have s15 := s12.trans (s34.trans s5)
    have nLa : La ≠ Lh := fun e => by rw [e, e4] at hLa; cases hLa
    revert s5 e5 a5 s15
    generalize upd H4 La (.lst [V.str "any"]) = H5
    intro s5 e5 a5 s15
    walk_at "go"
    refine ⟨Lh, _, 1, 1, rfl, rfl, e5, rfl, ?_⟩
    dsimp only [List.set]
    have e6 : (upd H5 Lh (.lst [V.str "not", V.ref La])) Lh = some (.lst [V.str "not", V.ref La]) := upd_same
    have a6 : (upd H5 Lh (.lst [V.str "not", V.ref La])) La = some (.lst [V.str "any"]) := by rw [upd_ne nLa]; exact a5
    have s16 := same_upd (o := HO.lst [V.str "not", V.ref La]) s15 hLn
    revert e6 a6 s16
    generalize upd H5 Lh (.lst [V.str "not", V.ref La]) = H6
    intro e6 a6 s16
    walk_at "go"
    refine ⟨z, .ref Lh, x, .n1 .not (.n0 .any), false, rfl, gz, .lst (SqL.of e6) (.cons (.str _) (.cons (.lst (SqL.of a6) (.cons (.str _) .nil)) .nil)), ⟨trivial, rfl, trivial, rfl⟩, by decide, hx, fun H7 s7 => ?_⟩
    have en2 : ev (tl z) (.n1 .not (.n0 .any)) (tl x) = false := rfl
    rw [en2]
    walk_at "go"
    have e7 := s7 _ _ e6
    have a7 := s7 _ _ a6
    have s17 := s16.trans s7
    refine ⟨Lh, _, 0, 0, rfl, rfl, e7, rfl, ?_⟩
    dsimp only [List.set]
    have e8 : (upd H7 Lh (.lst [V.str "back", V.ref La])) Lh = some (.lst [V.str "back", V.ref La]) := upd_same
    have a8 : (upd H7 Lh (.lst [V.str "back", V.ref La])) La = some (.lst [V.str "any"]) := by rw [upd_ne nLa]; exact a7
    have s18 := same_upd (o := HO.lst [V.str "back", V.ref La]) s17 hLn
    revert e8 a8 s18
    generalize upd H7 Lh (.lst [V.str "back", V.ref La]) = H8
    intro e8 a8 s18
    walk_at "go"
    refine ⟨(by show 1 ≤ sizeLine; decide), fun T hT => ?_⟩
    have s9 := same_new (o := HO.tup [V.str "any"]) hT
    have dT : Dp K (upd H8 T (.tup [V.str "any"])) (.ref T) ((R.n0 .any).data true) := .tup (SqT.of upd_same) (.cons (.str _) .nil)
    walk_at "go"
    exact ⟨z, .ref T, .ref Lh, x, .n0 .any, .n1 .back (.n0 .any), false, rfl, gz, RAt.of dT, ⟨trivial, rfl⟩, by decide, .lst (SqL.of (s9 _ _ e8)) (.cons (.str _) (.cons (.lst (SqL.of (s9 _ _ a8)) (.cons (.str _) .nil)) .nil)), ⟨trivial, rfl, trivial, rfl⟩, by decide, hx, rfl, fun H10 s10 => k _ (s18.trans (s9.trans s10))⟩
abbrev OChanged (P : Program) (w : World) (K : PySem.W.Frag) (mg : Str → Option Value) (base : Heap) : Prop := OwnG P w K mg base "_law_changed" 53 ["_law_signs", "_law_rule", "_law_paper"] (spChanged K)
end
end K4

/-! L11w -/


namespace K4
open PySem L2 K1
abbrev sLaw : Stmt := top 84
abbrev nLaw : List Str := ["_law_script", "_law_bag", "_law_signs", "_law_papers", "_law_size", "_law_paper", "_law_rules", "_law_rule", "_law_many_parts", "_law_other_bag", "_law_other_signs", "_law_other", "_law_others", "_law_asked", "_law_one", "_law_k"]
theorem scLaw : FnScope nLaw ["_law_script"] (defScope sLaw) := ⟨rfl, rfl, rfl, by decide +kernel, rfl, by decide +kernel, by decide +kernel⟩
def spLaw (K : PySem.W.Frag) : Sp := fun vs H Q _ => ∃ (a : Addr) (ns : List Int), vs = [.ref a] ∧ SqL K H a (ns.map V.int) ∧ ns.length ≤ 63 ∧ ∀ H', Q (.bl true) H'
theorem bag_kp {H H' : Hp} {b c : Addr} {n : Nat} (h : IsBag H b n) (k : Kp c H H') (ne : b ≠ c) : IsBag H' b n := by
  obtain ⟨d, s, x, e, r⟩ := h
  exact ⟨d, s, x, k _ _ ne e, r⟩
theorem bag_ne {H : Hp} {b c : Addr} {n : Nat} (h : IsBag H b n) (e : H c = none) : b ≠ c := fun q => by
  obtain ⟨d, s, x, e2, _⟩ := h
  rw [q, e] at e2; cases e2
theorem same_kp {H H1 H2 : Hp} {b : Addr} (s : Same H H1) (hb : H b = none) (k : Kp b H1 H2) : Same H H2 := fun c o e => k c o (ne_of_none e hb) (s _ _ e)
theorem one_new {K : PySem.W.Frag} {H : Hp} {Q : VK} {E : XK} {b p : Addr} {n : Nat} {ys : List V} {xs : List Nat} (hb : IsBag H b n) (hp : H p = none) (e : ys = xs.map vi) (hl : ys.length ≤ 1000) (ne : ys ≠ []) (hn : n ≤ 2 ^ 40)
    (k : ∀ (c : Nat) H', c ∈ xs → IsBag H' b (n + 1) → Kp b H H' → Q (vi c) H') : spOneOf K [.ref b, .ref p] (upd H p (.lst ys)) Q E := by
  refine ⟨b, .ref p, ys, n, rfl, hb.new hp, hn, .inr ⟨p, rfl, SqL.of upd_same, hb.ne hp, hl⟩, ne, fun x H' hx hb' of => ?_⟩
  rw [e] at hx
  obtain ⟨c, hc, rfl⟩ := List.mem_map.mp hx
  exact k c H' hc hb' ((Same.kp (same_new hp)).trans of.kp)
section
variable {P : Program} {w : World} {K : PySem.W.Frag} {mg : Str → Option Value} {base : Heap}
abbrev OBagOf (P : Program) (w : World) (K : PySem.W.Frag) (mg : Str → Option Value) (base : Heap) : Prop := Own P w K mg base "_law_bag_of" 1 ["_law_script", "_law_at"] (spBagOf K)
abbrev OWideSigns (P : Program) (w : World) (K : PySem.W.Frag) (mg : Str → Option Value) (base : Heap) : Prop := Own P w K mg base "_law_wide_signs" 3 ["_law_bag"] spWideSigns
abbrev OSignsOf (P : Program) (w : World) (K : PySem.W.Frag) (mg : Str → Option Value) (base : Heap) : Prop := Own P w K mg base "_law_signs_of" 2 ["_law_bag", "_law_most"] spSignsOf
abbrev OWrapped (P : Program) (w : World) (K : PySem.W.Frag) (mg : Str → Option Value) (base : Heap) : Prop := Own P w K mg base "_law_wrapped" 2 ["_law_bag", "_law_signs", "_law_rule", "_law_count"] (spWrapped K)
abbrev OPaperOf (P : Program) (w : World) (K : PySem.W.Frag) (mg : Str → Option Value) (base : Heap) : Prop := Own P w K mg base "_law_paper_of" 3 ["_law_bag", "_law_signs", "_law_most"] spPaperOf
abbrev OSlipped (P : Program) (w : World) (K : PySem.W.Frag) (mg : Str → Option Value) (base : Heap) : Prop := Own P w K mg base "_law_slipped" 3 ["_law_bag", "_law_signs", "_law_paper"] (spSlipped K)
theorem ok_law {f : Addr} {fd : FuncData} (F : Fun K "law" "law" sLaw f fd) (B : Bl mg) (Ob : OBagOf P w K mg base) (Ows : OWideSigns P w K mg base) (Op : OPick P w K mg base) (Oo : OOneOf P w K mg base) (Oon : ORuleOn 5 P w K mg base) (Owr : OWrapped P w K mg base) (Olp : OParts 40 P w K mg base) (Oso : OSignsOf P w K mg base)
    (Oru : ORuleOf 2 P w K mg base) (Opo : OPaperOf P w K mg base) (Osl : OSlipped P w K mg base) (Oll : OLL 46 P w K mg base) (Osy : OSays P w K mg base) (Ochg : OChanged P w K mg base) (Oer : OErrors P w K mg base) :
    FnG P w K mg base 54 f fd ["_law_script"] (spLaw K) := by
  refine fnG_of F scLaw (fun vs H Q E h => ?_) (fun cdv A outer s H vs Q E hr hgd h => ?_)
  · obtain ⟨a, ns, rfl, _⟩ := h
    rfl
  · obtain ⟨a, ns, rfl, hS, hlen, k⟩ := h
    refine ⟨_, (pss_cons (ps_set (i := 1) scLaw.nd rfl (Or.inl rfl) (pe_own Ob (hr.mono (by omega)) (pa_cons (pv 0) (pa_cons pe_int pa_nil)))) (pss_cons (ps_set (i := 2) scLaw.nd rfl (Or.inr rfl) (pe_own Ows (hr.mono (by omega)) (pa_cons (pv 1) pa_nil))) (pss_cons (ps_set (i := 3) scLaw.nd rfl (Or.inr rfl) (pe_own Ob (hr.mono (by omega)) (pa_cons (pv 0) (pa_cons pe_int pa_nil)))) (pss_cons (ps_set (i := 4) scLaw.nd rfl (Or.inl rfl) (pe_ifExp (pt_cmpR op_eq (pe_own Op (hr.mono (by omega)) (pa_cons (pv 3) (pa_cons pe_int pa_nil))) pe_int (nomark _)) (pe_op op_add pe_int (pe_own Op (hr.mono (by omega)) (pa_cons (pv 3) (pa_cons pe_int pa_nil)))) (pe_own Oo (hr.mono (by omega)) (pa_cons (pv 3) (pa_cons (pe_lst (pa_cons pe_int (pa_cons pe_int (pa_cons pe_int (pa_cons pe_int (pa_cons pe_int (pa_cons pe_int (pa_cons pe_int (pa_cons pe_int (pa_cons pe_int (pa_cons pe_int pa_nil))))))))))) pa_nil))))) (pss_cons (ps_set (i := 5) scLaw.nd rfl (Or.inl rfl) (pe_m1 PySem.F.slot_str_join PySem.F.type_str_join mt_join pe_str (pe_lc (own := [("_law_k", 15)]) (g := gName 15) (tt := tYes) rfl scLaw.nd (pi_range1 rfl B.range (pa_cons (pv 4) pa_nil)) (blkOk_by (N := nLaw) (sc := defScope sLaw) (by decide +kernel)) (fun _ _ _ _ _ => (pg_name (i := 15) scLaw.nd rfl (Or.inl rfl))) (fun _ _ _ _ _ => pts_nil) (fun _ _ _ _ _ => (pe_own Oo (hr.mono (by omega)) (pa_cons (pv 3) (pa_cons (pv 2) pa_nil))))))) (pss_cons (ps_set (i := 6) scLaw.nd rfl (Or.inl rfl) (pe_own Ob (hr.mono (by omega)) (pa_cons (pv 0) (pa_cons pe_int pa_nil)))) (pss_cons (ps_set (i := 7) scLaw.nd rfl (Or.inl rfl) (pe_own Oon (hr.mono (by omega)) (pa_cons (pv 6) (pa_cons (pv 2) (pa_cons (pe_own Oo (hr.mono (by omega)) (pa_cons (pv 6) (pa_cons (pe_lst (pa_cons pe_int (pa_cons pe_int (pa_cons pe_int (pa_cons pe_int (pa_cons pe_int (pa_cons pe_int (pa_cons pe_int pa_nil)))))))) pa_nil))) (pa_cons (pv 5) pa_nil)))))) (pss_cons (ps_set (i := 8) scLaw.nd rfl (Or.inl rfl) (pe_ifExp (pt_cmpR op_eq (pe_own Op (hr.mono (by omega)) (pa_cons (pv 6) (pa_cons pe_int pa_nil))) pe_int (nomark _)) (pe_own Owr (hr.mono (by omega)) (pa_cons (pv 6) (pa_cons (pv 2) (pa_cons (pv 7) (pa_cons (pe_op op_sub pe_int (pe_own Olp (hr.mono (by omega)) (pa_cons (pv 7) pa_nil))) pa_nil))))) (pv 7))) (pss_cons (ps_set (i := 9) scLaw.nd rfl (Or.inr rfl) (pe_own Ob (hr.mono (by omega)) (pa_cons (pv 0) (pa_cons pe_int pa_nil)))) (pss_cons (ps_set (i := 10) scLaw.nd rfl (Or.inr rfl) (pe_own Oso (hr.mono (by omega)) (pa_cons (pv 9) (pa_cons pe_int pa_nil)))) (pss_cons (ps_set (i := 11) scLaw.nd rfl (Or.inl rfl) (pe_own Oru (hr.mono (by omega)) (pa_cons (pv 9) (pa_cons (pv 10) (pa_cons pe_int pa_nil))))) (pss_cons (ps_setLc (i := 12) (own := [("_law_k", 15)]) (g := gName 15) (tt := tYes) rfl scLaw.nd rfl rfl (sw_true rfl rfl rfl (by decide +kernel)) (pi_range1 rfl B.range (pa_cons pe_int pa_nil)) (blkOk_by (N := nLaw) (sc := defScope sLaw) (by decide +kernel)) (fun _ _ _ _ _ => (pg_name (i := 15) scLaw.nd rfl (Or.inl rfl))) (fun _ _ _ _ _ => pts_nil) (fun _ _ _ _ _ => (pe_own Opo (hr.mono (by omega)) (pa_cons (pv 9) (pa_cons (pv 10) (pa_cons pe_int pa_nil)))))) (pss_cons (ps_set (i := 13) scLaw.nd rfl (Or.inl rfl) (pe_op op_cat (pe_op op_cat (pe_lst (pa_cons (pv 5) pa_nil)) (pe_own Osl (hr.mono (by omega)) (pa_cons (pv 3) (pa_cons (pv 2) (pa_cons (pv 5) pa_nil))))) (pe_lst (pa_cons (pe_own Opo (hr.mono (by omega)) (pa_cons (pv 3) (pa_cons (pv 2) (pa_cons pe_int pa_nil)))) pa_nil)))) (pss_cons (ps_for PassesOwn.never rfl (pi_list (pv 13)) (pg_name (i := 14) scLaw.nd rfl (Or.inl rfl)) (pss_one (ps_if (pt_not (pt_val (pe_ownG Osy (hr.mono (by omega)) hgd (pa_cons (pv 2) (pa_cons (pv 8) (pa_cons (pv 8) (pa_cons (pv 14) pa_nil))))))) (pss_one (ps_ret pe_bl)) pss_nil))) (pss_cons (ps_if (pt_not (pt_val (pe_ownG Osy (hr.mono (by omega)) hgd (pa_cons (pv 10) (pa_cons (pv 11) (pa_cons (pe_own Oll (hr.mono (by omega)) (pa_cons (pv 11) pa_nil)) (pa_cons (pe_ix ix_list (pv 12) pe_int (fun _ _ => rfl)) pa_nil))))))) (pss_one (ps_ret pe_bl)) pss_nil) (pss_cons (ps_for PassesOwn.never rfl (pi_list (pv 13)) (pg_name (i := 14) scLaw.nd rfl (Or.inl rfl)) (pss_one (ps_if (pt_not (pt_val (pe_ownG Osy (hr.mono (by omega)) hgd (pa_cons (pv 2) (pa_cons (pv 8) (pa_cons (pe_own Oll (hr.mono (by omega)) (pa_cons (pv 8) pa_nil)) (pa_cons (pv 14) pa_nil))))))) (pss_one (ps_ret pe_bl)) pss_nil))) (pss_cons (ps_if (PW.pt (pw_or (pt_not (pt_val (pe_ownG Osy (hr.mono (by omega)) hgd (pa_cons (pv 10) (pa_cons (pv 11) (pa_cons (pv 11) (pa_cons (pe_ix ix_list (pv 12) pe_int (fun _ _ => rfl)) pa_nil))))))) (pw_or1 (pt_not (pt_val (pe_ownG Osy (hr.mono (by omega)) hgd (pa_cons (pv 2) (pa_cons (pv 7) (pa_cons (pv 7) (pa_cons (pv 5) pa_nil)))))))))) (pss_one (ps_ret pe_bl)) pss_nil) (pss_cons (ps_if (pt_not (pt_val (pe_ownG Ochg hr hgd (pa_cons (pv 2) (pa_cons (pv 7) (pa_cons (pv 5) pa_nil)))))) (pss_one (ps_ret pe_bl)) pss_nil) (pss_one (ps_ret (pe_ownG Oer hr hgd (pa_cons (pe_own Ob (hr.mono (by omega)) (pa_cons (pv 0) (pa_cons pe_int pa_nil))) (pa_cons (pv 2) (pa_cons (pv 7) (pa_cons (pv 5) pa_nil))))))))))))))))))))))))), ?_⟩
    try dsimp only [cxOf, Cx.nox, Cx.wish]
    walk_at "go"
    refine ⟨a, ns, 0, rfl, hS, hlen, Int.le_refl 0, by decide, fun H1 b0 s1 hb0 hb1 => ?_⟩
    walk_at "go"
    refine ⟨b0, 0, rfl, hb1, by decide, fun H2 z gz hb2 k2 => ?_⟩
    have sm2 : Same H H2 := same_kp s1 hb0 k2
    clear hb2 k2 hb1 s1
    have z2 : 2 ≤ (tl z).length := gz.lo
    have z12 : (tl z).length ≤ 12 := gz.hi
    have lz := len_tl z
    walk_at "go"
    refine ⟨a, ns, 1, rfl, sm2.seq hS, hlen, by decide, by decide, fun H3 b1 s3 hb1 bg3 => ?_⟩
    have sm3 := sm2.trans s3
    have hb1H : H b1 = none := sm2.free hb1
    refine r_name ?_
    try dsimp only [List.set]
    refine K1.r_seq (r_asg (r_ifJ (fun v H' => ∃ sz : Nat, v = vi sz ∧ sz ≤ 60 ∧ IsBag H' b1 2 ∧ Kp b1 H3 H') (fun Q' h => ?_) ?_))
    · walk_at "go"
      refine ⟨b1, 8, 0, rfl, bg3, by decide, by decide, fun r1 H' _ _ bg1 of1 => ?_⟩
      walk_at "go"
      refine r_iteN' (fun h0 => ?_) (fun h0 => ?_)
      · walk_at "go"
        refine ⟨b1, 48, 1, rfl, bg1, by decide, by decide, fun r2 H'' r20 r21 bg2 of2 => ?_⟩
        obtain ⟨m, rfl⟩ : ∃ m : Nat, r2 = (m : Int) := ⟨r2.toNat, by omega⟩
        walk_at "go"
        refine h _ _ ⟨13 + m, rfl, by omega, bg2, of1.kp.trans of2.kp⟩
      · walk_at "go"
        refine ⟨(by show 10 ≤ sizeLine; decide), fun p hp => ?_⟩
        walk_at "go"
        refine one_new (xs := [0, 1, 2, 3, 4, 5, 6, 7, 9, 12]) bg1 hp rfl (by show 10 ≤ 1000; decide) (by simp) (by decide) (fun c H'' hc bg2 k2 => ?_)
        refine h _ _ ⟨c, rfl, ?_, bg2, of1.kp.trans k2⟩
        simp only [List.mem_cons, List.not_mem_nil, or_false] at hc
        omega
    rintro v H4 ⟨sz, rfl, hsz, bg4, k4⟩
    have sm4 := same_kp sm3 hb1H k4
    refine r_name ?_
    try dsimp only [List.set]
    walk_at "go"
    refine ⟨by omega, by omega, fun D hD => ?_⟩
    have nDb := bg4.ne hD
    have hDH : H D = none := sm4.free hD
    refine lc_gen (walk_rng (lo := 0) (n := sz)) (fun _ => rfl) (fun acc H' => ∃ l : List Nat, acc = (l.map one).map V.str ∧ (∀ c ∈ l, c ∈ tl z) ∧ IsBag H' b1 (2 + acc.length) ∧ Kp b1 H4 H') ⟨[], rfl, (fun c h => by cases h), bg4.new hD, Same.kp (same_new hD)⟩ (fun _ _ _ _ => trivial) ?_ ?_
    · rintro j x acc H' hx la hacc ⟨l, rfl, hl, hbi, ki⟩
      have hj : j < sz := by
        have := (List.getElem?_eq_some_iff.mp hx).1
        rw [List.length_map, List.length_range] at this
        exact this
      rw [la] at hbi
      walk_at "go"
      refine one_sign gz hbi (by omega) (fun c H6 hc hb6 of6 => ?_)
      refine pp_next (of6.at nDb hacc) la (line60 (by omega)) ⟨l ++ [c], by rw [List.map_append, List.map_append]; rfl, fun d hd => ?_, ?_, kp_upd' (ki.trans of6.kp) hD⟩
      · rcases List.mem_append.mp hd with q | q
        · exact hl d q
        · rw [List.mem_singleton.mp q]; exact hc
      · rw [List.length_append, la]
        exact bag_upd hb6 nDb
    rintro acc H5 la hacc ⟨l, rfl, hl, bg5, k5⟩
    have ll : l.length = sz := by
      rw [List.length_map, List.length_map, List.length_map, List.length_range] at la
      exact la
    rw [la, List.length_map, List.length_range] at bg5
    walk_at "go"
    have e0 : ("" : Str).length = 0 := by decide +kernel
    refine ⟨_, D, l.map one, rfl, rfl, .inl (SqL.of hacc), ?_, ?_⟩
    · have := sum_le (ys := l.map one) (b := 1) (fun p hp => by obtain ⟨c, _, rfl⟩ := List.mem_map.mp hp; exact Nat.le_refl _)
      rw [e0]
      rw [List.length_map] at *
      omega
    have hpx : ∃ x : Str, Txt.join (Str.ofString "") (l.map one) = x ∧ Pp (tl z) (tl x) := ⟨_, rfl, by rw [tl_join1 l]; exact ⟨by omega, hl⟩⟩
    obtain ⟨x, ex, hpx⟩ := hpx
    rw [ex]
    have sm5 : Same H H5 := same_kp sm4 hb1H k5
    have bg5 := bg5.mono (show 2 + sz ≤ 62 by omega)
    clear ex ll la hacc nDb hD hl l bg4 k4 bg3
    walk_at "go"
    refine ⟨a, ns, 2, rfl, sm5.seq hS, hlen, by decide, by decide, fun H6 b2 s6 hb2 bg6 => ?_⟩
    have sm6 := sm5.trans s6
    have hb2H : H b2 = none := sm5.free hb2
    have n12 : b1 ≠ b2 := bag_ne bg5 hb2
    have bgA := bg5.same s6
    walk_at "go"
    refine ⟨(by show 7 ≤ sizeLine; decide), fun p hp => ?_⟩
    walk_at "go"
    refine one_new (xs := [0, 1, 1, 2, 2, 3, 4]) bg6 hp rfl (by show 7 ≤ 1000; decide) (by simp) (by decide) (fun d H7 hd bg7 k7 => ?_)
    have hd4 : d ≤ 4 := by simp only [List.mem_cons, List.not_mem_nil, or_false] at hd; omega
    have cd : cOn d ≤ 30000 := (show ∀ d < 5, cOn d ≤ 30000 by decide) d (by omega)
    have pd : pOn d ≤ 31 := (show ∀ d < 5, pOn d ≤ 31 by decide) d (by omega)
    walk_at "go"
    refine ⟨b2, z, x, _, d, rfl, by omega, bg7, by omega, gz, hpx, fun H8 v r dv hr bg8 k8 => ?_⟩
    obtain ⟨hf, hpr⟩ := hr
    have k68 := k7.trans k8
    have sm8 := same_kp sm6 hb2H k68
    have bgB := bag_kp bgA k68 n12
    have hok := good_ok gz hf
    have bg8 := bg8.mono (show 0 + 1 + cOn d ≤ 30001 by omega)
    have hp31 : r.parts ≤ 31 := by omega
    have dle := r.depth_le
    refine r_name ?_
    try dsimp only [List.set]
    refine K1.r_seq (r_asg (r_ifJ (fun v' H' => ∃ r' : R, Dp K H' v' (r'.data true) ∧ r'.fit (tl z) ∧ r'.parts ≤ 40 ∧ Kp b2 H8 H') (fun Q' h => ?_) ?_))
    · walk_at "go"
      refine ⟨b2, 5, _, rfl, bg8, by decide, by decide, fun r1 H' _ _ bg1 of1 => ?_⟩
      walk_at "go"
      refine r_iteN' (fun h0 => ?_) (fun h0 => ?_)
      · walk_at "go"
        have dv1 := dp_pure (bag_kt bg8 of1.kp) _ _ r.pure dv
        refine ⟨v, r, rfl, RAt.of dv1, R.arOk_of hf, by omega, fun H'' s'' => ?_⟩
        walk_at "go"
        rw [show ((40 : Int) - (r.parts : Int)) = ((40 - r.parts : Nat) : Int) by omega]
        refine ⟨b2, z, v, r, _, 40 - r.parts, rfl, bg1.same s'', by decide, gz, dp_keep (Same.keeps s'') _ _ dv1, hf, by omega, fun H3' v' r' dv' hf' hp' _ k' => h _ _ ⟨r', dv', hf', by omega, of1.kp.trans ((Same.kp s'').trans k')⟩⟩
      · walk_at "go"
        exact h _ _ ⟨r, dp_pure (bag_kt bg8 of1.kp) _ _ r.pure dv, hf, by omega, of1.kp⟩
    rintro v' H9 ⟨r', dv', hf', hp', k9⟩
    have dv9 := dp_pure (bag_kt bg8 k9) _ _ r.pure dv
    have sm9 := same_kp sm8 hb2H k9
    have bgC := bag_kp bgB k9 n12
    have hok' := good_ok gz hf'
    have dle' := r'.depth_le
    clear dv k9 bg8 bgB k68 bgA bg5 k8 k7 bg7 bg6 hp cd pd hd hd4
    refine r_name ?_
    try dsimp only [List.set]
    walk_at "go"
    refine ⟨a, ns, 3, rfl, sm9.seq hS, hlen, by decide, by decide, fun H10 b3 s10 hb3 bg10 => ?_⟩
    have hb3H : H b3 = none := sm9.free hb3
    have n13 : b1 ≠ b3 := bag_ne bgC hb3
    have sm10 := sm9.trans s10
    walk_at "go"
    refine ⟨b3, 0, rfl, bg10, by decide, fun H11 z3 gz3 z34 bg11 k11 => ?_⟩
    walk_at "go"
    refine ⟨b3, z3, _, 1, rfl, by decide, by decide, bg11, by decide, gz3, fun H12 v3 r3 dv3 hr3 bg12 k12 => ?_⟩
    obtain ⟨hf3, hp3⟩ := hr3
    have k1012 := k11.trans k12
    have sm12 := same_kp sm10 hb3H k1012
    have bg12 := bg12.mono (show 0 + 40 + cRO 1 ≤ 30000 by decide)
    have dvE := dp_pure (bag_kt bg10 k1012) _ _ r.pure (dp_keep (Same.keeps s10) _ _ dv9)
    have dvF := dp_pure (bag_kt bg10 k1012) _ _ r'.pure (dp_keep (Same.keeps s10) _ _ dv')
    have bgD := bag_kp (bgC.same s10) k1012 n13
    have z32 : 2 ≤ (tl z3).length := gz3.lo
    have lz3 := len_tl z3
    have hok3 := good_ok gz3 hf3
    have dle3 := r3.depth_le
    clear dv9 dv' k1012 k11 k12 bg11 bg10 s10 bgC
    walk_at "go"
    refine ⟨by decide, by decide, fun O hO => ?_⟩
    have nOb := bg12.ne hO
    refine lc_gen (walk_rng (lo := 0) (n := 2)) (fun _ => rfl) (fun acc H' => ∃ ys : List Str, acc = ys.map V.str ∧ (∀ y ∈ ys, Pp (tl z3) (tl y)) ∧ IsBag H' b3 (30000 + 10 * acc.length) ∧ Kp b3 H12 H') ⟨[], rfl, (fun c h => by cases h), bg12.new hO, Same.kp (same_new hO)⟩ (fun _ _ _ _ => trivial) ?_ ?_
    · rintro j y acc H' hx la hacc ⟨ys, rfl, hys, hbi, ki⟩
      have hj : j < 2 := by
        have := (List.getElem?_eq_some_iff.mp hx).1
        rw [List.length_map, List.length_range] at this
        exact this
      rw [la] at hbi
      walk_at "go"
      refine ⟨b3, z3, 6, _, rfl, hbi, by omega, by omega, by omega, by decide, fun y H6 hy hc hb6 of6 => ?_⟩
      refine pp_next (of6.at nOb hacc) la (line60 (by omega)) ⟨ys ++ [y], by rw [List.map_append]; rfl, fun e he => ?_, ?_, kp_upd' (ki.trans of6.kp) hO⟩
      · rcases List.mem_append.mp he with q | q
        · exact hys e q
        · rw [List.mem_singleton.mp q]; exact ⟨by have := len_tl y; omega, hc⟩
      · rw [List.length_append, la]
        exact (bag_upd hb6 nOb).mono (by show 30000 + 10 * j + 6 + 1 ≤ 30000 + 10 * (j + 1); omega)
    rintro acc H13 la eO ⟨ys, rfl, hys, bg13, k13⟩
    rw [List.length_map, List.length_map, List.length_range] at la
    obtain ⟨o0, o1, rfl⟩ : ∃ o0 o1, ys = [o0, o1] := by
      match ys, la with
      | [o0, o1], _ => exact ⟨o0, o1, rfl⟩
    have ho0 := hys o0 (by simp)
    have ho1 := hys o1 (by simp)
    have sm13 := same_kp sm12 hb3H k13
    have dvE := dp_pure (bag_kt bg12 k13) _ _ r.pure dvE
    have dvF := dp_pure (bag_kt bg12 k13) _ _ r'.pure dvF
    have dv3 := dp_pure (bag_kt bg12 k13) _ _ r3.pure dv3
    have bgE := bag_kp bgD k13 n13
    have nO1 : O ≠ b1 := fun e => by obtain ⟨_, _, _, e2, _⟩ := bgD; rw [← e, hO] at e2; cases e2
    clear bg13 k13 bg12 bgD hO nOb hys la
    walk_at "go"
    refine ⟨(by show 1 ≤ sizeLine; decide), fun p hp => ?_⟩
    have npb := bgE.ne hp
    have bgF := bgE.new (o := HO.lst [V.str x]) hp
    have sp := same_new (o := HO.lst [V.str x]) hp
    walk_at "go"
    refine ⟨b1, z, x, 62, rfl, bgF, by decide, gz, hpx, fun H14 L x1 x2 x3 eL hxs bg14 k14 => ?_⟩
    have ep : H14 p = some (.lst [V.str x]) := k14 _ _ npb upd_same
    have eO14 := k14 _ _ nO1 (sp _ _ eO)
    have sm14 : Same H H14 := same_kp (sm13.trans sp) hb1H k14
    have dvE := dp_pure (bag_kt bgF k14) _ _ r.pure (dp_keep (Same.keeps sp) _ _ dvE)
    have dvF := dp_pure (bag_kt bgF k14) _ _ r'.pure (dp_keep (Same.keeps sp) _ _ dvF)
    have dv3 := dp_pure (bag_kt bgF k14) _ _ r3.pure (dp_keep (Same.keeps sp) _ _ dv3)
    clear bgE sp eO sm13
    refine cat_two ep eL (by simp) (fun H15 q1 s15 e15 => ?_)
    have nq1 : q1 ≠ b1 := fun e => by
      have bq := bg14.same s15
      obtain ⟨_, _, _, e2, _⟩ := bq
      rw [← e, e15] at e2; cases e2
    walk_at "go"
    refine ⟨b1, z, 9, _, rfl, bg14.same s15, by decide, by omega, by omega, by decide, fun y9 H16 hy9 hc9 bg16 of16 => ?_⟩
    have hp9 : Pp (tl z) (tl y9) := ⟨by have := len_tl y9; omega, hc9⟩
    have e16 := of16.at nq1 e15
    have sm16 : Same H H16 := same_kp (sm14.trans s15) hb1H of16.kp
    have eO16 := of16.kp _ _ nO1 (s15 _ _ eO14)
    have dvE := dp_pure (bag_kt (bg14.same s15) of16.kp) _ _ r.pure (dp_keep (Same.keeps s15) _ _ dvE)
    have dvF := dp_pure (bag_kt (bg14.same s15) of16.kp) _ _ r'.pure (dp_keep (Same.keeps s15) _ _ dvF)
    have dv3 := dp_pure (bag_kt (bg14.same s15) of16.kp) _ _ r3.pure (dp_keep (Same.keeps s15) _ _ dv3)
    walk_at "go"
    refine cat_new e16 (by simp) (fun Hd A s17 eA => ?_)
    obtain ⟨asks, eA, hasks, lasks⟩ : ∃ asks : List Str, Hd A = some (.lst (asks.map V.str)) ∧ (∀ y ∈ asks, Pp (tl z) (tl y)) ∧ asks.length ≤ 5 := by
      refine ⟨[x, x1, x2, x3, y9], eA, fun y hy => ?_, by simp⟩
      simp only [List.mem_cons, List.not_mem_nil, or_false] at hy hxs
      rcases hy with rfl | rfl | rfl | rfl | rfl
      · exact hpx
      · exact hxs _ (.inl rfl)
      · exact hxs _ (.inr (.inl rfl))
      · exact hxs _ (.inr (.inr rfl))
      · exact hp9
    have smd := sm16.trans s17
    have eO := s17 _ _ eO16
    have dvE := dp_keep (Same.keeps s17) _ _ dvE
    have dvF := dp_keep (Same.keeps s17) _ _ dvF
    have dv3 := dp_keep (Same.keeps s17) _ _ dv3
    clear eO16 sm16 e16 bg16 of16 hp9 hxs s15 e15 eO14 ep eL bg14 sm14 k14 hp npb bgF
    walk_at "go"
    refine ⟨⟨_, SqL.of eA⟩, fr_list (K := K) (a := A) (xs := asks.map V.str) (fun i σ H' => ∃ o14 : Option V, σ = [some (.ref a), some (.ref b0), some (.str z), some (.ref b1), some (vi sz), some (.str x), some (.ref b2), some v, some v', some (.ref b3), some (.str z3), some v3, some (.ref O), some (.ref A), o14, none] ∧ Same Hd H')
      ⟨none, rfl, Same.refl _⟩ (fun i σ H' _ ⟨_, _, sm⟩ => SqL.of (sm _ _ eA)) ?_ ?_⟩
    · rintro i y0 σ H' hi ⟨o14, rfl, sm⟩
      rw [List.getElem?_map] at hi
      cases ey : asks[i]? with
      | none => rw [ey] at hi; cases hi
      | some y =>
        rw [ey] at hi
        obtain rfl := Option.some.inj hi
        have hy := hasks y (List.mem_of_getElem? ey)
        have dvF' := dp_keep (Same.keeps sm) _ _ dvF
        walk_at "go"
        refine ⟨z, v', v', y, r', r', true, rfl, gz, RAt.of dvF', hf', by omega, dvF', hf', hp', hy, rfl, fun H'' s'' => ?_⟩
        walk_at "go"
        exact sm.trans s''
    rintro σ H' ⟨o14, rfl, sm⟩
    walk_at "go"
    have dv3' := dp_keep (Same.keeps sm) _ _ dv3
    refine ⟨v3, _, rfl, dv3', r3.pure, R.wide hok3, by have := (R.flat true hok3).2; omega, fun H'' w s'' hw => ?_⟩
    rw [R.lst] at hw
    have hw' := dp_keep (Same.keeps New.same) _ _ hw
    have sm2' := sm.trans s''
    walk_at "go"
    refine r_ixL (SqL.of (sm2' _ _ eO)) (atI_nat (j := 0) rfl) ?_
    refine ⟨z3, v3, w, o0, r3, r3, false, rfl, gz3, RAt.of (dp_keep (Same.keeps s'') _ _ dv3'), hf3, by omega, hw', hf3, by omega, ho0, rfl, fun H18 s18 => ?_⟩
    have sm18 := sm2'.trans s18
    clear hw hw' dv3' s'' sm2'
    walk_at "go"
    refine ⟨⟨_, SqL.of (sm18 _ _ eA)⟩, fr_list (K := K) (a := A) (xs := asks.map V.str) (fun i σ H' => ∃ o14 : Option V, σ = [some (.ref a), some (.ref b0), some (.str z), some (.ref b1), some (vi sz), some (.str x), some (.ref b2), some v, some v', some (.ref b3), some (.str z3), some v3, some (.ref O), some (.ref A), o14, none] ∧ Same Hd H')
      ⟨_, rfl, sm18⟩ (fun i σ H' _ ⟨_, _, sm⟩ => SqL.of (sm _ _ eA)) ?_ ?_⟩
    · rintro i y0 σ H' hi ⟨o14, rfl, sm⟩
      rw [List.getElem?_map] at hi
      cases ey : asks[i]? with
      | none => rw [ey] at hi; cases hi
      | some y =>
        rw [ey] at hi
        obtain rfl := Option.some.inj hi
        have hy := hasks y (List.mem_of_getElem? ey)
        have dvF' := dp_keep (Same.keeps sm) _ _ dvF
        walk_at "go"
        refine ⟨v', _, rfl, dvF', r'.pure, R.wide hok', by have := (R.flat true hok').2; omega, fun H'' w s'' hw => ?_⟩
        rw [R.lst] at hw
        have hw' := dp_keep (Same.keeps New.same) _ _ hw
        walk_at "go"
        refine ⟨z, v', w, y, r', r', false, rfl, gz, RAt.of (dp_keep (Same.keeps s'') _ _ dvF'), hf', by omega, hw', hf', hp', hy, rfl, fun H3 s3 => ?_⟩
        walk_at "go"
        exact sm.trans (s''.trans s3)
    rintro σ H19 ⟨o14', rfl, sm19⟩
    walk_at "go"
    refine r_ixL (SqL.of (sm19 _ _ eO)) (atI_nat (j := 1) rfl) ?_
    have dv3' := dp_keep (Same.keeps sm19) _ _ dv3
    refine ⟨z3, v3, v3, o1, r3, r3, true, rfl, gz3, RAt.of dv3', hf3, by omega, dv3', hf3, by omega, ho1, rfl, fun H20 s20 => ?_⟩
    have sm20 := sm19.trans s20
    have dvE' := dp_keep (Same.keeps sm20) _ _ dvE
    walk_at "go"
    refine ⟨z, v, v, x, r, r, true, rfl, gz, RAt.of dvE', hf, by omega, dvE', hf, by omega, hpx, rfl, fun H21 s21 => ?_⟩
    have dvE' := dp_keep (Same.keeps s21) _ _ dvE'
    have sm21 := sm20.trans s21
    walk_at "go"
    refine ⟨z, v, x, r, rfl, gz, dvE', hf, by omega, hpx, fun H22 s22 => ?_⟩
    have dvE' := dp_keep (Same.keeps s22) _ _ dvE'
    have sm22 := sm21.trans s22
    walk_at "go"
    refine ⟨a, ns, 4, rfl, (smd.trans sm22).seq hS, hlen, by decide, by decide, fun H23 b4 s23 hb4 bg23 => ?_⟩
    walk_at "go"
    exact ⟨b4, z, v, x, 0, r, rfl, bg23, by decide, gz, dp_keep (Same.keeps s23) _ _ dvE', hf, by omega, hpx, k⟩
end
end K4

/-! X9e -/
/-! The law's own call, where no repr is running. -/
namespace K1
open PySem L2 L2H PyProof.Rows PySem.W PySem.Calls
theorem law_callG {P : Program} {w : World} {K : Frag} {mg mb : Str → Option Value} {k : Nat} {fa a : Addr} {fd : FuncData} {x : Str} {sp : Sp} {s₁ : Shared} {vs : List Value} {ns : List Int} (KX : K.In s₁.heap) (hns : s₁.heap.Ns mainGlobals mg) (hb : s₁.heap.Ns builtinsNs mb)
    (hbb : ∀ x : Str, x ≠ PySem.Str.ofString "__name__" → mb x = bootBuiltins x) (hlim : s₁.heap.NoLimit) (hg : s₁.gens = #[]) (ha : s₁.heap.get? a = some ⟨.type "list", none, .seq vs.toArray 0, #[]⟩) (hi : IntsAre vs ns) (hl : ns.length ≤ sizeLine) (hr : Room k callerA)
    (F : ∀ base : Heap, K.In base → base.Ns mainGlobals mg → FnG P w K mg base k fa fd [x] sp) (hbind : ∀ (s : Shared) (u : Value), BindsTo s fd ⟨[u], []⟩ [(x, u)]) (hsp : ∀ H : Hp, Only H → SqL K H a (ns.map V.int) → sp [.ref a] H (fun v _ => v = .bl true) fun _ _ _ => False) :
    codeAny (model P w) callerA (.call (.ref fa) ⟨[.ref a], []⟩) (fun r s' => r = .ok (.ret (.bool true)) ∧ OldK s₁.heap s'.heap ∧ s'.os = s₁.os ∧ AllBare s'.gens) s₁ := by
  have rv := vals_ints hi
  have lenV := hi.length
  have core : ∀ H : Hp, Only H → SqL K H a (ns.map V.int) → HOk P w H s₁.heap → (∀ b, H b ≠ none → b = a) → (H a ≠ none → K.lookup a = none) →
      codeAny (model P w) callerA (.call (.ref fa) ⟨[.ref a], []⟩) (fun r s' => r = .ok (.ret (.bool true)) ∧ OldK s₁.heap s'.heap ∧ s'.os = s₁.os ∧ AllBare s'.gens) s₁ := by
    intro H hO hS hok hA hK
    have noA : ∀ {b o es ep}, s₁.heap.get? b = some o → o.data = .dict es ep → H b = none := fun {b o es ep} e d => by
      cases q : H b with
      | none => rfl
      | some u =>
        have e' := hA b (by rw [q]; intro z; cases z)
        rw [e', ha] at e
        obtain rfl := Option.some.inj e
        cases d
    have nsK : ∀ {b m}, s₁.heap.Ns b m → (hidT s₁.heap H).Ns b m := fun {b m} h => by
      obtain ⟨o, es, ep, e, d, r⟩ := h
      exact ⟨o, es, ep, hidT_get e (noA e d), d, r⟩
    have hKb : K.In (hidT s₁.heap H) := fun b o e => by
      refine hidT_get (KX b o e) ?_
      cases q : H b with
      | none => rfl
      | some u =>
        have e' := hA b (by rw [q]; intro z; cases z)
        have := hK (by rw [← e', q]; intro z; cases z)
        rw [e', this] at e
        cases e
    have hM : L2.Mod K mg (hidT s₁.heap H) := ⟨hKb, nsK hns, ⟨mb, nsK hb, hbb⟩, by obtain ⟨mc, h1, h2⟩ := hlim; exact ⟨mc, nsK h1, h2⟩⟩
    have e0 : Env0 P w K mg (hidT s₁.heap H) callerA [] s₁ H := ⟨rfl, hM, fun b o e => of_hidT e, Nat.le_of_eq (hidT_size s₁.heap H), trivial, fun b hb => absurd hb (by simp [frs]), hok, AllBare.of_eq hg⟩
    refine codeAny_mono ((F (hidT s₁.heap H) hKb (nsK hns)).run callerA [] s₁ H ⟨[.ref a], []⟩ [.ref a] [.ref a] _ _ hr rfl e0 (hbind s₁ (.ref a)) (.cons rfl .nil) (hsp H hO hS)) (fun r s' h => ?_)
    cases r with
    | error e => exact h.elim
    | ok fl =>
      cases fl with
      | ret u =>
        obtain ⟨v, H', os, bare, un, hok', rv', rfl⟩ := h
        have eu : u = .bool true := rv'
        subst eu
        refine ⟨rfl, ?_, os, bare⟩
        refine OldK.of_keep fun b ob e => ?_
        cases q : H b with
        | none => exact un.keep b ob e q (by simp [frs]) (by simp)
        | some u =>
          rcases hO b with z | ⟨o, xs, z⟩
          · rw [q] at z; cases z
          · have h1 := (hok b _ z).1
            have h2 := (hok' b _ (un.frzs b o _ z)).1
            rw [e] at h1
            obtain rfl := Option.some.inj h1
            exact h2
      | _ => exact h.elim
  cases hk : K.lookup a with
  | none =>
    refine core (fun b => if b = a then some (.frz ⟨.type "list", none, .seq vs.toArray 0, #[]⟩ (.lst (ns.map V.int))) else none) (fun b => ?_) (.inl (.inr ⟨_, if_pos rfl⟩)) (fun b u z => ?_) (fun b z => ?_) (fun _ => hk)
    · by_cases hb : b = a
      · exact .inr ⟨_, _, if_pos hb⟩
      · exact .inl (if_neg hb)
    · by_cases hb : b = a
      · subst hb
        dsimp only at z
        rw [if_pos rfl] at z
        obtain rfl := Option.some.inj z
        exact ⟨ha, by rw [List.length_map]; exact hl, vs, 0, rv, ha⟩
      · dsimp only at z
        rw [if_neg hb] at z; cases z
    · by_cases hb : b = a
      · exact hb
      · exact absurd (if_neg hb) z
  | some o =>
    have e := KX a o hk
    rw [ha] at e
    obtain rfl := Option.some.inj e
    refine core (fun _ => none) (fun _ => .inl rfl) (.inr ⟨_, vs.toArray, 0, hk, rfl, rfl, rfl, by rw [List.size_toArray, lenV]; exact hl, rv⟩) (fun b u z => by cases z) (fun b z => absurd rfl z) (fun z => absurd rfl z)
theorem walk_ofGE {l : OpenLaw} {n k : Nat} {q : Program} {loose : List Str} {XP : (Str → Option Value) → Heap → Prop} {YP : World → Heap → Prop} {d : DefRec} {x : Str} (hn : l.most = some n) (hn2 : n ≤ sizeLine) (hdf : d.params.defaults = []) (hr : Room k callerA)
    (F : ∀ (w : World) (mg : Str → Option Value) (fa : Addr) (h : Heap), YP w h → h.Ns mainGlobals mg → mg d.name = some (.ref fa) →
      ∃ (K : Frag) (fd : FuncData) (sp : Sp), K.In h ∧ (∀ (s : Shared) (u : Value), BindsTo s fd ⟨[u], []⟩ [(x, u)]) ∧
        (∀ (H : Hp) (a : Addr) (ns : List Int), ns.length ≤ n → Only H → SqL K H a (ns.map V.int) → sp [.ref a] H (fun v _ => v = .bl true) fun _ _ _ => False) ∧
        ∀ base : Heap, K.In base → base.Ns mainGlobals mg → FnG l.prog w K mg base k fa fd [x] sp) :
    WalkO q loose XP YP l.row.toRowW d [] (fun f vs => PySem.call f vs) := by
  refine Att.attach_call hn hdf fun w s₀ s₁ mg mb fa o pm cd doc a vs ns G Y ho hd hcd hmg hobj hints hlen hg => ?_
  obtain ⟨K, fd, sp, KX, hb, hsp, hF⟩ := F w mg fa _ Y G.T.g hmg
  exact law_callG KX G.T.g G.T.b G.T.builtins G.T.nolimit hg hobj hints (Nat.le_trans hlen hn2) hr hF hb (fun H hO hS => hsp H a ns hlen hO hS)
end K1

/-! K11H -/
namespace K4
open PySem L2 L2H K1
def Fn (K : PySem.W.Frag) (x : Str) (st : Stmt) : Prop := ∃ (f : Addr) (fd : FuncData), PySem.W.nsIn K mainGlobals x = some (some (.ref f)) ∧ Fun K x x st f fd
theorem fn_mk {K : PySem.W.Frag} {x : Str} {st : Stmt} {f : Addr} {oc : Value} {od an : Option Addr} {osl : Array (Option Value)} {kV doc pm cdv ct : Value} (a : PySem.W.nsIn K mainGlobals x = some (some (.ref f)))
    (l : K.lookup f = some ⟨oc, od, .func (PySem.W.fnOf x x (defArgs st) (defBody st) (defScope st) .none kV doc pm an cdv ct), osl⟩) (c : PySem.W.codeIn K cdv x = true) (k : PySem.W.keepIn K (.ref f) = true) : Fn K x st := ⟨f, _, a, fun_mk l c k⟩
def FnQ (K : PySem.W.Frag) (x q : Str) (st : Stmt) (f : Addr) : Prop := ∃ fd : FuncData, Fun K x q st f fd
theorem fnq_mk {K : PySem.W.Frag} {x q : Str} {st : Stmt} {f : Addr} {oc : Value} {od an : Option Addr} {osl : Array (Option Value)} {kV doc pm cdv ct : Value}
    (l : K.lookup f = some ⟨oc, od, .func (PySem.W.fnOf x q (defArgs st) (defBody st) (defScope st) .none kV doc pm an cdv ct), osl⟩) (c : PySem.W.codeIn K cdv q = true) (k : PySem.W.keepIn K (.ref f) = true) : FnQ K x q st f := ⟨_, fun_mk l c k⟩
theorem own_of {P : Program} {w : World} {K : PySem.W.Frag} {mg : Str → Option Value} {h base : Heap} {x : Str} {st : Stmt} {n : Nat} {ps : List Str} {sp : Sp} (X : K.In h) (G : h.Ns mainGlobals mg) (N : Fn K x st) (ok : ∀ f fd, Fun K x x st f fd → FnOk P w K mg base CX0 n f fd ps sp)
    (bd : ∀ (kV doc pm : Value) (an : Option Addr) (cdv ct : Value) (us : List Value), us.length = ps.length → bindArgs (PySem.W.fnOf x x (defArgs st) (defBody st) (defScope st) .none kV doc pm an cdv ct) ⟨us, []⟩ = Pure.pure (ps.zip us)) : Own P w K mg base x n ps sp := by
  obtain ⟨f, fd, a, F⟩ := N
  exact ⟨f, fd, ok f fd F, PySem.W.mg_of X G a, F.kp, F.binds bd⟩
theorem ownX_of {P : Program} {w : World} {K : PySem.W.Frag} {mg : Str → Option Value} {h base : Heap} {x : Str} {st : Stmt} {n : Nat} {ps : List Str} {sp : Sp} (X : K.In h) (G : h.Ns mainGlobals mg) (N : Fn K x st) (ok : ∀ f fd, Fun K x x st f fd → FnOk P w K mg base (L2N.CX P w) n f fd ps sp)
    (bd : ∀ (kV doc pm : Value) (an : Option Addr) (cdv ct : Value) (us : List Value), us.length = ps.length → bindArgs (PySem.W.fnOf x x (defArgs st) (defBody st) (defScope st) .none kV doc pm an cdv ct) ⟨us, []⟩ = Pure.pure (ps.zip us)) : OwnX P w K mg base x n ps sp := by
  obtain ⟨f, fd, a, F⟩ := N
  exact ⟨f, fd, ok f fd F, PySem.W.mg_of X G a, F.kp, F.binds bd⟩
theorem ns_miss {K : PySem.W.Frag} {a : Addr} {es : Array DictEntry} {n : Nat} (l : K.lookup a = some ⟨.type "dict", none, .dict es n, #[]⟩) (q : es.toList.all wdKey = true) : ∀ x : Str, (∀ k < 9, x ≠ wd k) → PySem.W.nsIn K a x = some none := by
  intro x hx
  have key : ∀ e ∈ es.toList, ∃ y t, e.key = .str y t ∧ y ≠ x := fun e he => by
    have w := List.all_eq_true.mp q e he
    unfold wdKey at w
    split at w
    · rename_i y t ek
      obtain ⟨k, hk, hd⟩ := List.any_eq_true.mp w
      exact ⟨y, t, ek, fun z => hx k (List.mem_range.mp hk) (by rw [← z]; exact of_decide_eq_true hd)⟩
    · cases w
  unfold PySem.W.nsIn
  rw [l]
  dsimp only
  have h1 : es.toList.find? (fun e => e.key.isStr x) = none := List.find?_eq_none.mpr fun e he => by
    obtain ⟨y, t, e1, e2⟩ := key e he
    rw [e1]
    simpa [Value.isStr] using e2
  have h2 : es.toList.any (·.refKey) = false := by
    rw [List.any_eq_false]
    intro e he
    obtain ⟨y, t, e1, _⟩ := key e he
    unfold DictEntry.refKey
    rw [e1]
    simp
  rw [h1]
  dsimp only
  rw [h2]
  rfl
theorem ownG_of {P : Program} {w : World} {K : PySem.W.Frag} {mg : Str → Option Value} {h base : Heap} {x : Str} {st : Stmt} {n : Nat} {ps : List Str} {sp : Sp} (X : K.In h) (G : h.Ns mainGlobals mg) (N : Fn K x st) (ok : ∀ f fd, Fun K x x st f fd → FnG P w K mg base n f fd ps sp)
    (bd : ∀ (kV doc pm : Value) (an : Option Addr) (cdv ct : Value) (us : List Value), us.length = ps.length → bindArgs (PySem.W.fnOf x x (defArgs st) (defBody st) (defScope st) .none kV doc pm an cdv ct) ⟨us, []⟩ = Pure.pure (ps.zip us)) : OwnG P w K mg base x n ps sp := by
  obtain ⟨f, fd, a, F⟩ := N
  exact ⟨f, fd, ok f fd F, PySem.W.mg_of X G a, F.kp, F.binds bd⟩

end K4
namespace HdK11
open PySem PySem.Spec PyProof.Rows L2 L2H K1 K4 He
abbrev Says (w : World) (K : PySem.W.Frag) : Prop := Hd.SaysY fa fn ts ex fc w K
theorem exAt {w : World} {K : PySem.W.Frag} (c : Says w K) (i : Nat) {e : PySem.W.Frag → Bool} (h : exs[i]? = some e := by rfl) : e K = true :=
  List.all_eq_true.mp (show (exs.all fun e => e K) = true from c.x) e (List.mem_of_getElem? h)
theorem all_mk {w : World} {K : PySem.W.Frag} {h : Heap} {mg : Str → Option Value} {fa_ : Addr} (X : K.In h) (G : h.Ns mainGlobals mg) (hfa : mg "law" = some (.ref fa_)) (c : Says w K) :
    ∃ fd : FuncData, (∀ (s : Shared) (u : Value), BindsTo s fd ⟨[u], []⟩ [("_law_script", u)]) ∧ ∀ base : Heap, K.In base → base.Ns mainGlobals mg → FnG PROG w K mg base 54 fa_ fd ["_law_script"] (spLaw K) := by
  have n_is_whole : Fn K "is_whole" sIsWhole := by
    obtain ⟨fd, F⟩ := c.t.d.def_ 0 (d := ⟨("is_whole", none), "is_whole", "is_whole", defArgs (top 8), defBody (top 8), defScope (top 8), [], []⟩) rfl
    exact ⟨_, fd, (eqO_ok (c.t.d.fact 0 (f := .glo "is_whole") rfl)), He5.fun_of F⟩
  have n_is_within : Fn K "is_within" sIsWithin := by
    obtain ⟨fd, F⟩ := c.t.d.def_ 1 (d := ⟨("is_within", none), "is_within", "is_within", defArgs (top 9), defBody (top 9), defScope (top 9), [], []⟩) rfl
    exact ⟨_, fd, (eqO_ok (c.t.d.fact 1 (f := .glo "is_within") rfl)), He5.fun_of F⟩
  have n_is_tuple : Fn K "is_tuple" sIsTuple := by
    obtain ⟨fd, F⟩ := c.t.d.def_ 2 (d := ⟨("is_tuple", none), "is_tuple", "is_tuple", defArgs (top 10), defBody (top 10), defScope (top 10), [], []⟩) rfl
    exact ⟨_, fd, (eqO_ok (c.t.d.fact 2 (f := .glo "is_tuple") rfl)), He5.fun_of F⟩
  have n_is_tuple_of : Fn K "is_tuple_of" sIsTupleOf := by
    obtain ⟨fd, F⟩ := c.t.d.def_ 3 (d := ⟨("is_tuple_of", none), "is_tuple_of", "is_tuple_of", defArgs (top 11), defBody (top 11), defScope (top 11), [], []⟩) rfl
    exact ⟨_, fd, (eqO_ok (c.t.d.fact 3 (f := .glo "is_tuple_of") rfl)), He5.fun_of F⟩
  have n_is_text : Fn K "is_text" sIsText := by
    obtain ⟨fd, F⟩ := c.t.d.def_ 4 (d := ⟨("is_text", none), "is_text", "is_text", defArgs (top 12), defBody (top 12), defScope (top 12), [], []⟩) rfl
    exact ⟨_, fd, (eqO_ok (c.t.d.fact 4 (f := .glo "is_text") rfl)), He5.fun_of F⟩
  have n_is_ascending : Fn K "is_ascending" K1.sIsAsc := by
    obtain ⟨fd, F⟩ := c.t.d.def_ 5 (d := ⟨("is_ascending", none), "is_ascending", "is_ascending", defArgs (top 13), defBody (top 13), defScope (top 13), [], []⟩) rfl
    exact ⟨_, fd, (eqO_ok (c.t.d.fact 5 (f := .glo "is_ascending") rfl)), He5.fun_of F⟩
  have n_as_tuples : Fn K "as_tuples" sAsTuples := by
    obtain ⟨fd, F⟩ := c.t.d.def_ 6 (d := ⟨("as_tuples", none), "as_tuples", "as_tuples", defArgs (top 14), defBody (top 14), defScope (top 14), [], []⟩) rfl
    exact ⟨_, fd, (eqO_ok (c.t.d.fact 6 (f := .glo "as_tuples") rfl)), He5.fun_of F⟩
  have n_are_signs : Fn K "are_signs" sAreSigns := by
    obtain ⟨fd, F⟩ := c.t.d.def_ 7 (d := ⟨("are_signs", none), "are_signs", "are_signs", defArgs (top 20), defBody (top 20), defScope (top 20), [], []⟩) rfl
    exact ⟨_, fd, (eqO_ok (c.t.d.fact 7 (f := .glo "are_signs") rfl)), He5.fun_of F⟩
  have n_require_signs : Fn K "require_signs" sReqSigns := by
    obtain ⟨fd, F⟩ := c.t.d.def_ 8 (d := ⟨("require_signs", none), "require_signs", "require_signs", defArgs (top 21), defBody (top 21), defScope (top 21), [], []⟩) rfl
    exact ⟨_, fd, (eqO_ok (c.t.d.fact 8 (f := .glo "require_signs") rfl)), He5.fun_of F⟩
  have n_is_paper : Fn K "is_paper" sIsPaper := by
    obtain ⟨fd, F⟩ := c.t.d.def_ 9 (d := ⟨("is_paper", none), "is_paper", "is_paper", defArgs (top 22), defBody (top 22), defScope (top 22), [], []⟩) rfl
    exact ⟨_, fd, (eqO_ok (c.t.d.fact 9 (f := .glo "is_paper") rfl)), He5.fun_of F⟩
  have n_require_paper : Fn K "require_paper" sReqPaper := by
    obtain ⟨fd, F⟩ := c.t.d.def_ 10 (d := ⟨("require_paper", none), "require_paper", "require_paper", defArgs (top 23), defBody (top 23), defScope (top 23), [], []⟩) rfl
    exact ⟨_, fd, (eqO_ok (c.t.d.fact 10 (f := .glo "require_paper") rfl)), He5.fun_of F⟩
  have n_are_rows : Fn K "are_rows" sAreRows := by
    obtain ⟨fd, F⟩ := c.t.d.def_ 11 (d := ⟨("are_rows", none), "are_rows", "are_rows", defArgs (top 25), defBody (top 25), defScope (top 25), [], []⟩) rfl
    exact ⟨_, fd, (eqO_ok (c.t.d.fact 11 (f := .glo "are_rows") rfl)), He5.fun_of F⟩
  have n_is_row : Fn K "is_row" sIsRow := by
    obtain ⟨fd, F⟩ := c.t.d.def_ 12 (d := ⟨("is_row", none), "is_row", "is_row", defArgs (top 26), defBody (top 26), defScope (top 26), [], []⟩) rfl
    exact ⟨_, fd, (eqO_ok (c.t.d.fact 12 (f := .glo "is_row") rfl)), He5.fun_of F⟩
  have n_are_goals : Fn K "are_goals" sAreGoals := by
    obtain ⟨fd, F⟩ := c.t.d.def_ 13 (d := ⟨("are_goals", none), "are_goals", "are_goals", defArgs (top 27), defBody (top 27), defScope (top 27), [], []⟩) rfl
    exact ⟨_, fd, (eqO_ok (c.t.d.fact 13 (f := .glo "are_goals") rfl)), He5.fun_of F⟩
  have n_standing_in : Fn K "standing_in" sStandIn := by
    obtain ⟨fd, F⟩ := c.t.d.def_ 14 (d := ⟨("standing_in", none), "standing_in", "standing_in", defArgs (top 28), defBody (top 28), defScope (top 28), [], []⟩) rfl
    exact ⟨_, fd, (eqO_ok (c.t.d.fact 14 (f := .glo "standing_in") rfl)), He5.fun_of F⟩
  have n_own_values : Fn K "own_values" sOwnValues := by
    obtain ⟨fd, F⟩ := c.t.d.def_ 15 (d := ⟨("own_values", none), "own_values", "own_values", defArgs (top 39), defBody (top 39), defScope (top 39), [], []⟩) rfl
    exact ⟨_, fd, (eqO_ok (c.t.d.fact 15 (f := .glo "own_values") rfl)), He5.fun_of F⟩
  have n_inner_rules : Fn K "inner_rules" sInnerRules := by
    obtain ⟨fd, F⟩ := c.t.d.def_ 16 (d := ⟨("inner_rules", none), "inner_rules", "inner_rules", defArgs (top 40), defBody (top 40), defScope (top 40), [], []⟩) rfl
    exact ⟨_, fd, (eqO_ok (c.t.d.fact 16 (f := .glo "inner_rules") rfl)), He5.fun_of F⟩
  have n_is_sum : Fn K "is_sum" sIsSum := by
    obtain ⟨fd, F⟩ := c.t.d.def_ 17 (d := ⟨("is_sum", none), "is_sum", "is_sum", defArgs (top 41), defBody (top 41), defScope (top 41), [], []⟩) rfl
    exact ⟨_, fd, (eqO_ok (c.t.d.fact 17 (f := .glo "is_sum") rfl)), He5.fun_of F⟩
  have n_is_square : Fn K "is_square" sIsSquare := by
    obtain ⟨fd, F⟩ := c.t.d.def_ 18 (d := ⟨("is_square", none), "is_square", "is_square", defArgs (top 42), defBody (top 42), defScope (top 42), [], []⟩) rfl
    exact ⟨_, fd, (eqO_ok (c.t.d.fact 18 (f := .glo "is_square") rfl)), He5.fun_of F⟩
  have n_are_faces : Fn K "are_faces" sAreFaces := by
    obtain ⟨fd, F⟩ := c.t.d.def_ 19 (d := ⟨("are_faces", none), "are_faces", "are_faces", defArgs (top 43), defBody (top 43), defScope (top 43), [], []⟩) rfl
    exact ⟨_, fd, (eqO_ok (c.t.d.fact 19 (f := .glo "are_faces") rfl)), He5.fun_of F⟩
  have n_has_form : Fn K "has_form" sHasForm := by
    obtain ⟨fd, F⟩ := c.t.d.def_ 20 (d := ⟨("has_form", none), "has_form", "has_form", defArgs (top 44), defBody (top 44), defScope (top 44), [], []⟩) rfl
    exact ⟨_, fd, (eqO_ok (c.t.d.fact 20 (f := .glo "has_form") rfl)), He5.fun_of F⟩
  have n_checked_rule : Fn K "checked_rule" sChkRule := by
    obtain ⟨fd, F⟩ := c.t.d.def_ 21 (d := ⟨("checked_rule", none), "checked_rule", "checked_rule", defArgs (top 45), defBody (top 45), defScope (top 45), [], []⟩) rfl
    exact ⟨_, fd, (eqO_ok (c.t.d.fact 21 (f := .glo "checked_rule") rfl)), He5.fun_of F⟩
  have n_checked_part : Fn K "checked_part" sChkPart := by
    obtain ⟨fd, F⟩ := c.t.d.def_ 22 (d := ⟨("checked_part", none), "checked_part", "checked_part", defArgs (top 46), defBody (top 46), defScope (top 46), [], []⟩) rfl
    exact ⟨_, fd, (eqO_ok (c.t.d.fact 22 (f := .glo "checked_part") rfl)), He5.fun_of F⟩
  have n_count_parts : Fn K "count_parts" sCountParts := by
    obtain ⟨fd, F⟩ := c.t.d.def_ 23 (d := ⟨("count_parts", none), "count_parts", "count_parts", defArgs (top 47), defBody (top 47), defScope (top 47), [], []⟩) rfl
    exact ⟨_, fd, (eqO_ok (c.t.d.fact 23 (f := .glo "count_parts") rfl)), He5.fun_of F⟩
  have n_check_rule : Fn K "check_rule" sCheckRule := by
    obtain ⟨fd, F⟩ := c.t.d.def_ 24 (d := ⟨("check_rule", none), "check_rule", "check_rule", defArgs (top 49), defBody (top 49), defScope (top 49), [], []⟩) rfl
    exact ⟨_, fd, (eqO_ok (c.t.d.fact 24 (f := .glo "check_rule") rfl)), He5.fun_of F⟩
  have n_is_right : Fn K "is_right" sIsRight := by
    obtain ⟨fd, F⟩ := c.t.d.def_ 25 (d := ⟨("is_right", none), "is_right", "is_right", defArgs (top 50), defBody (top 50), defScope (top 50), [], []⟩) rfl
    exact ⟨_, fd, (eqO_ok (c.t.d.fact 25 (f := .glo "is_right") rfl)), He5.fun_of F⟩
  have n_finds_right : Fn K "finds_right" sFinds := by
    obtain ⟨fd, F⟩ := c.t.d.def_ 26 (d := ⟨("finds_right", none), "finds_right", "finds_right", defArgs (top 51), defBody (top 51), defScope (top 51), [], []⟩) rfl
    exact ⟨_, fd, (eqO_ok (c.t.d.fact 26 (f := .glo "finds_right") rfl)), He5.fun_of F⟩
  have n_has_sum : Fn K "has_sum" sHasSum := by
    obtain ⟨fd, F⟩ := c.t.d.def_ 27 (d := ⟨("has_sum", none), "has_sum", "has_sum", defArgs (top 52), defBody (top 52), defScope (top 52), [], []⟩) rfl
    exact ⟨_, fd, (eqO_ok (c.t.d.fact 27 (f := .glo "has_sum") rfl)), He5.fun_of F⟩
  have n_ends_in_goal : Fn K "ends_in_goal" sEndsInGoal := by
    obtain ⟨fd, F⟩ := c.t.d.def_ 28 (d := ⟨("ends_in_goal", none), "ends_in_goal", "ends_in_goal", defArgs (top 53), defBody (top 53), defScope (top 53), [], []⟩) rfl
    exact ⟨_, fd, (eqO_ok (c.t.d.fact 28 (f := .glo "ends_in_goal") rfl)), He5.fun_of F⟩
  have n_faced : Fn K "faced" sFaced := by
    obtain ⟨fd, F⟩ := c.t.d.def_ 29 (d := ⟨("faced", none), "faced", "faced", defArgs (top 54), defBody (top 54), defScope (top 54), [], []⟩) rfl
    exact ⟨_, fd, (eqO_ok (c.t.d.fact 29 (f := .glo "faced") rfl)), He5.fun_of F⟩
  have n__law_bag_of : Fn K "_law_bag_of" K1.sBagOf := by
    obtain ⟨fd, F⟩ := c.t.d.def_ 30 (d := ⟨("_law_bag_of", none), "_law_bag_of", "_law_bag_of", defArgs (top 56), defBody (top 56), defScope (top 56), [], []⟩) rfl
    exact ⟨_, fd, (eqO_ok (c.t.d.fact 30 (f := .glo "_law_bag_of") rfl)), He5.fun_of F⟩
  have n__law_pick : Fn K "_law_pick" K1.sPick := by
    obtain ⟨fd, F⟩ := c.t.d.def_ 31 (d := ⟨("_law_pick", none), "_law_pick", "_law_pick", defArgs (top 57), defBody (top 57), defScope (top 57), [], []⟩) rfl
    exact ⟨_, fd, (eqO_ok (c.t.d.fact 31 (f := .glo "_law_pick") rfl)), He5.fun_of F⟩
  have n__law_one_of : Fn K "_law_one_of" K1.sOneOf := by
    obtain ⟨fd, F⟩ := c.t.d.def_ 32 (d := ⟨("_law_one_of", none), "_law_one_of", "_law_one_of", defArgs (top 58), defBody (top 58), defScope (top 58), [], []⟩) rfl
    exact ⟨_, fd, (eqO_ok (c.t.d.fact 32 (f := .glo "_law_one_of") rfl)), He5.fun_of F⟩
  have n__law_mixed : Fn K "_law_mixed" K1.sMixed := by
    obtain ⟨fd, F⟩ := c.t.d.def_ 33 (d := ⟨("_law_mixed", none), "_law_mixed", "_law_mixed", defArgs (top 59), defBody (top 59), defScope (top 59), [], []⟩) rfl
    exact ⟨_, fd, (eqO_ok (c.t.d.fact 33 (f := .glo "_law_mixed") rfl)), He5.fun_of F⟩
  have n__law_signs_of : Fn K "_law_signs_of" sLSignsOf := by
    obtain ⟨fd, F⟩ := c.t.d.def_ 34 (d := ⟨("_law_signs_of", none), "_law_signs_of", "_law_signs_of", defArgs (top 60), defBody (top 60), defScope (top 60), [], []⟩) rfl
    exact ⟨_, fd, (eqO_ok (c.t.d.fact 34 (f := .glo "_law_signs_of") rfl)), He5.fun_of F⟩
  have n__law_paper_of : Fn K "_law_paper_of" sLPaperOf := by
    obtain ⟨fd, F⟩ := c.t.d.def_ 35 (d := ⟨("_law_paper_of", none), "_law_paper_of", "_law_paper_of", defArgs (top 61), defBody (top 61), defScope (top 61), [], []⟩) rfl
    exact ⟨_, fd, (eqO_ok (c.t.d.fact 35 (f := .glo "_law_paper_of") rfl)), He5.fun_of F⟩
  have n__law_sum : Fn K "_law_sum" sLSum := by
    obtain ⟨fd, F⟩ := c.t.d.def_ 36 (d := ⟨("_law_sum", none), "_law_sum", "_law_sum", defArgs (top 62), defBody (top 62), defScope (top 62), [], []⟩) rfl
    exact ⟨_, fd, (eqO_ok (c.t.d.fact 36 (f := .glo "_law_sum") rfl)), He5.fun_of F⟩
  have n__law_rows_of : Fn K "_law_rows_of" sLRowsOf := by
    obtain ⟨fd, F⟩ := c.t.d.def_ 37 (d := ⟨("_law_rows_of", none), "_law_rows_of", "_law_rows_of", defArgs (top 63), defBody (top 63), defScope (top 63), [], []⟩) rfl
    exact ⟨_, fd, (eqO_ok (c.t.d.fact 37 (f := .glo "_law_rows_of") rfl)), He5.fun_of F⟩
  have n__law_goals_of : Fn K "_law_goals_of" sLGoalsOf := by
    obtain ⟨fd, F⟩ := c.t.d.def_ 38 (d := ⟨("_law_goals_of", none), "_law_goals_of", "_law_goals_of", defArgs (top 64), defBody (top 64), defScope (top 64), [], []⟩) rfl
    exact ⟨_, fd, (eqO_ok (c.t.d.fact 38 (f := .glo "_law_goals_of") rfl)), He5.fun_of F⟩
  have n__law_faces_of : Fn K "_law_faces_of" sLFacesOf := by
    obtain ⟨fd, F⟩ := c.t.d.def_ 39 (d := ⟨("_law_faces_of", none), "_law_faces_of", "_law_faces_of", defArgs (top 65), defBody (top 65), defScope (top 65), [], []⟩) rfl
    exact ⟨_, fd, (eqO_ok (c.t.d.fact 39 (f := .glo "_law_faces_of") rfl)), He5.fun_of F⟩
  have n__law_rule_of : Fn K "_law_rule_of" sLRuleOf := by
    obtain ⟨fd, F⟩ := c.t.d.def_ 40 (d := ⟨("_law_rule_of", none), "_law_rule_of", "_law_rule_of", defArgs (top 66), defBody (top 66), defScope (top 66), [], []⟩) rfl
    exact ⟨_, fd, (eqO_ok (c.t.d.fact 40 (f := .glo "_law_rule_of") rfl)), He5.fun_of F⟩
  have n__law_judged : Fn K "_law_judged" sLJudged := by
    obtain ⟨fd, F⟩ := c.t.d.def_ 41 (d := ⟨("_law_judged", none), "_law_judged", "_law_judged", defArgs (top 67), defBody (top 67), defScope (top 67), [], []⟩) rfl
    exact ⟨_, fd, (eqO_ok (c.t.d.fact 41 (f := .glo "_law_judged") rfl)), He5.fun_of F⟩
  have n__law_led : Fn K "_law_led" sLLed := by
    obtain ⟨fd, F⟩ := c.t.d.def_ 42 (d := ⟨("_law_led", none), "_law_led", "_law_led", defArgs (top 68), defBody (top 68), defScope (top 68), [], []⟩) rfl
    exact ⟨_, fd, (eqO_ok (c.t.d.fact 42 (f := .glo "_law_led") rfl)), He5.fun_of F⟩
  have n__law_listed : Fn K "_law_listed" sLListed := by
    obtain ⟨fd, F⟩ := c.t.d.def_ 43 (d := ⟨("_law_listed", none), "_law_listed", "_law_listed", defArgs (top 69), defBody (top 69), defScope (top 69), [], []⟩) rfl
    exact ⟨_, fd, (eqO_ok (c.t.d.fact 43 (f := .glo "_law_listed") rfl)), He5.fun_of F⟩
  have n__law_wide_signs : Fn K "_law_wide_signs" sLWideSigns := by
    obtain ⟨fd, F⟩ := c.t.d.def_ 44 (d := ⟨("_law_wide_signs", none), "_law_wide_signs", "_law_wide_signs", defArgs (top 70), defBody (top 70), defScope (top 70), [], []⟩) rfl
    exact ⟨_, fd, (eqO_ok (c.t.d.fact 44 (f := .glo "_law_wide_signs") rfl)), He5.fun_of F⟩
  have n__law_wide_sum : Fn K "_law_wide_sum" sLWideSum := by
    obtain ⟨fd, F⟩ := c.t.d.def_ 45 (d := ⟨("_law_wide_sum", none), "_law_wide_sum", "_law_wide_sum", defArgs (top 71), defBody (top 71), defScope (top 71), [], []⟩) rfl
    exact ⟨_, fd, (eqO_ok (c.t.d.fact 45 (f := .glo "_law_wide_sum") rfl)), He5.fun_of F⟩
  have n__law_wide_square : Fn K "_law_wide_square" sLWideSq := by
    obtain ⟨fd, F⟩ := c.t.d.def_ 46 (d := ⟨("_law_wide_square", none), "_law_wide_square", "_law_wide_square", defArgs (top 72), defBody (top 72), defScope (top 72), [], []⟩) rfl
    exact ⟨_, fd, (eqO_ok (c.t.d.fact 46 (f := .glo "_law_wide_square") rfl)), He5.fun_of F⟩
  have n__law_wide_faces : Fn K "_law_wide_faces" sLWideFaces := by
    obtain ⟨fd, F⟩ := c.t.d.def_ 47 (d := ⟨("_law_wide_faces", none), "_law_wide_faces", "_law_wide_faces", defArgs (top 73), defBody (top 73), defScope (top 73), [], []⟩) rfl
    exact ⟨_, fd, (eqO_ok (c.t.d.fact 47 (f := .glo "_law_wide_faces") rfl)), He5.fun_of F⟩
  have n__law_rule_on : Fn K "_law_rule_on" sLRuleOn := by
    obtain ⟨fd, F⟩ := c.t.d.def_ 48 (d := ⟨("_law_rule_on", none), "_law_rule_on", "_law_rule_on", defArgs (top 74), defBody (top 74), defScope (top 74), [], []⟩) rfl
    exact ⟨_, fd, (eqO_ok (c.t.d.fact 48 (f := .glo "_law_rule_on") rfl)), He5.fun_of F⟩
  have n__law_parts : Fn K "_law_parts" sLParts := by
    obtain ⟨fd, F⟩ := c.t.d.def_ 49 (d := ⟨("_law_parts", none), "_law_parts", "_law_parts", defArgs (top 75), defBody (top 75), defScope (top 75), [], []⟩) rfl
    exact ⟨_, fd, (eqO_ok (c.t.d.fact 49 (f := .glo "_law_parts") rfl)), He5.fun_of F⟩
  have n__law_wrapped : Fn K "_law_wrapped" sLWrapped := by
    obtain ⟨fd, F⟩ := c.t.d.def_ 50 (d := ⟨("_law_wrapped", none), "_law_wrapped", "_law_wrapped", defArgs (top 76), defBody (top 76), defScope (top 76), [], []⟩) rfl
    exact ⟨_, fd, (eqO_ok (c.t.d.fact 50 (f := .glo "_law_wrapped") rfl)), He5.fun_of F⟩
  have n__law_slipped : Fn K "_law_slipped" sLSlipped := by
    obtain ⟨fd, F⟩ := c.t.d.def_ 51 (d := ⟨("_law_slipped", none), "_law_slipped", "_law_slipped", defArgs (top 77), defBody (top 77), defScope (top 77), [], []⟩) rfl
    exact ⟨_, fd, (eqO_ok (c.t.d.fact 51 (f := .glo "_law_slipped") rfl)), He5.fun_of F⟩
  have n__law_says : Fn K "_law_says" sLSays := by
    obtain ⟨fd, F⟩ := c.t.d.def_ 52 (d := ⟨("_law_says", none), "_law_says", "_law_says", defArgs (top 78), defBody (top 78), defScope (top 78), [], []⟩) rfl
    exact ⟨_, fd, (eqO_ok (c.t.d.fact 52 (f := .glo "_law_says") rfl)), He5.fun_of F⟩
  have n__law_refused : Fn K "_law_refused" sLRefused := by
    obtain ⟨fd, F⟩ := c.t.d.def_ 53 (d := ⟨("_law_refused", none), "_law_refused", "_law_refused", defArgs (top 79), defBody (top 79), defScope (top 79), [], []⟩) rfl
    exact ⟨_, fd, (eqO_ok (c.t.d.fact 53 (f := .glo "_law_refused") rfl)), He5.fun_of F⟩
  have n__law_bad_paper : Fn K "_law_bad_paper" sLBadPaper := by
    obtain ⟨fd, F⟩ := c.t.d.def_ 54 (d := ⟨("_law_bad_paper", none), "_law_bad_paper", "_law_bad_paper", defArgs (top 80), defBody (top 80), defScope (top 80), [], []⟩) rfl
    exact ⟨_, fd, (eqO_ok (c.t.d.fact 54 (f := .glo "_law_bad_paper") rfl)), He5.fun_of F⟩
  have n__law_bad_signs : Fn K "_law_bad_signs" sLBadSigns := by
    obtain ⟨fd, F⟩ := c.t.d.def_ 55 (d := ⟨("_law_bad_signs", none), "_law_bad_signs", "_law_bad_signs", defArgs (top 81), defBody (top 81), defScope (top 81), [], []⟩) rfl
    exact ⟨_, fd, (eqO_ok (c.t.d.fact 55 (f := .glo "_law_bad_signs") rfl)), He5.fun_of F⟩
  have n__law_errors : Fn K "_law_errors" sLErrors := by
    obtain ⟨fd, F⟩ := c.t.d.def_ 56 (d := ⟨("_law_errors", none), "_law_errors", "_law_errors", defArgs (top 82), defBody (top 82), defScope (top 82), [], []⟩) rfl
    exact ⟨_, fd, (eqO_ok (c.t.d.fact 56 (f := .glo "_law_errors") rfl)), He5.fun_of F⟩
  have n__law_changed : Fn K "_law_changed" sLChanged := by
    obtain ⟨fd, F⟩ := c.t.d.def_ 57 (d := ⟨("_law_changed", none), "_law_changed", "_law_changed", defArgs (top 83), defBody (top 83), defScope (top 83), [], []⟩) rfl
    exact ⟨_, fd, (eqO_ok (c.t.d.fact 57 (f := .glo "_law_changed") rfl)), He5.fun_of F⟩
  have n_law : Fn K "law" sLaw := by
    obtain ⟨fd, F⟩ := c.t.d.def_ 58 (d := ⟨("law", none), "law", "law", defArgs (top 84), defBody (top 84), defScope (top 84), [], []⟩) rfl
    exact ⟨_, fd, (eqO_ok (c.t.d.fact 58 (f := .glo "law") rfl)), He5.fun_of F⟩
  have B : Bl mg := ⟨free_ok X G (c.t.d.fact 66 (f := .free "len") rfl), free_ok X G (c.t.d.fact 67 (f := .free "sum") rfl), free_ok X G (c.t.d.fact 68 (f := .free "abs") rfl), free_ok X G (c.t.d.fact 69 (f := .free "int") rfl), free_ok X G (c.t.d.fact 70 (f := .free "range") rfl), free_ok X G (c.t.d.fact 71 (f := .free "list") rfl), free_ok X G (c.t.d.fact 72 (f := .free "tuple") rfl), free_ok X G (c.t.d.fact 73 (f := .free "str") rfl), free_ok X G (c.t.d.fact 74 (f := .free "bool") rfl), free_ok X G (c.t.d.fact 75 (f := .free "sorted") rfl), free_ok X G (c.t.d.fact 76 (f := .free "all") rfl), free_ok X G (c.t.d.fact 77 (f := .free "min") rfl), free_ok X G (c.t.d.fact 78 (f := .free "isinstance") rfl), free_ok X G (c.t.d.fact 79 (f := .free "max") rfl), free_ok X G (c.t.d.fact 80 (f := .free "any") rfl), free_ok X G (c.t.d.fact 81 (f := .free "repr") rfl)⟩
  have BZe : mg "enumerate" = none := free_ok X G (c.t.d.fact 82 (f := .free "enumerate") rfl)
  obtain ⟨esI, mI, DI⟩ := c.t.tab 0 (t := (fun K => ga K "INNER_RULES", ["sum", "square", "faces", "back", "cut", "both", "either", "not", "any"])) rfl
  obtain ⟨esO, mO, DO⟩ := c.t.tab 1 (t := (fun K => ga K "OWN_VALUES", ["sum", "square", "faces", "back", "cut", "both", "either", "not", "any"])) rfl
  have vI := (exAt c 0 (e := fun K => valsB K (ga K "INNER_RULES") vINNER_RULES) rfl)
  have vO := (exAt c 1 (e := fun K => valsB K (ga K "OWN_VALUES") vOWN_VALUES) rfl)
  have aO := Hd.allB_ok (exAt c 2 (e := fun K => Hd.allB K (ga K "OWN_VALUES") wdKey) rfl) DO.at_
  have Gk : G11 K w mg (ga K "OWN_VALUES") (ga K "INNER_RULES") := ⟨int_ok X G (c.t.d.fact 85 (f := .int "LEAST_KINDS" 2) rfl), int_ok X G (c.t.d.fact 86 (f := .int "MOST_KINDS" 12) rfl), int_ok X G (c.t.d.fact 87 (f := .int "MOST_SIGNS" 60) rfl), int_ok X G (c.t.d.fact 88 (f := .int "LEAST_MODULUS" 2) rfl), int_ok X G (c.t.d.fact 89 (f := .int "MOST_MODULUS" 60) rfl), int_ok X G (c.t.d.fact 90 (f := .int "MOST_WEIGHTS" 8) rfl), int_ok X G (c.t.d.fact 91 (f := .int "MOST_ROWS" 60) rfl), int_ok X G (c.t.d.fact 92 (f := .int "MOST_FACES" 4) rfl), int_ok X G (c.t.d.fact 93 (f := .int "MOST_CUT" 3) rfl), int_ok X G (c.t.d.fact 94 (f := .int "MOST_PARTS" 40) rfl), str_ok X G (c.t.d.fact 95 (f := .str "ALL_SIGNS" K4.ALL) rfl), (glo_ok X G (c.t.d.fact 64 (f := .glo "OWN_VALUES") rfl)),
    (fun k hk => by
      match k, hk with
      | 0, _ => exact Hd.kdct_of DO vO (x := "any") (v := .int 0) (by simp [vOWN_VALUES])
      | 1, _ => exact Hd.kdct_of DO vO (x := "back") (v := .int 0) (by simp [vOWN_VALUES])
      | 2, _ => exact Hd.kdct_of DO vO (x := "not") (v := .int 0) (by simp [vOWN_VALUES])
      | 3, _ => exact Hd.kdct_of DO vO (x := "both") (v := .int 0) (by simp [vOWN_VALUES])
      | 4, _ => exact Hd.kdct_of DO vO (x := "either") (v := .int 0) (by simp [vOWN_VALUES])
      | 5, _ => exact Hd.kdct_of DO vO (x := "sum") (v := .int 3) (by simp [vOWN_VALUES])
      | 6, _ => exact Hd.kdct_of DO vO (x := "square") (v := .int 2) (by simp [vOWN_VALUES])
      | 7, _ => exact Hd.kdct_of DO vO (x := "faces") (v := .int 1) (by simp [vOWN_VALUES])
      | 8, _ => exact Hd.kdct_of DO vO (x := "cut") (v := .int 2) (by simp [vOWN_VALUES])
      | k + 9, hk => omega),
    ⟨_, _, DO⟩, (fun k hk => by
      match k, hk with
      | 0, _ => obtain ⟨u, e, _⟩ := valsB_ok vO (q := ("any", .int 0)) (by simp [vOWN_VALUES]); exact ⟨u, e⟩
      | 1, _ => obtain ⟨u, e, _⟩ := valsB_ok vO (q := ("back", .int 0)) (by simp [vOWN_VALUES]); exact ⟨u, e⟩
      | 2, _ => obtain ⟨u, e, _⟩ := valsB_ok vO (q := ("not", .int 0)) (by simp [vOWN_VALUES]); exact ⟨u, e⟩
      | 3, _ => obtain ⟨u, e, _⟩ := valsB_ok vO (q := ("both", .int 0)) (by simp [vOWN_VALUES]); exact ⟨u, e⟩
      | 4, _ => obtain ⟨u, e, _⟩ := valsB_ok vO (q := ("either", .int 0)) (by simp [vOWN_VALUES]); exact ⟨u, e⟩
      | 5, _ => obtain ⟨u, e, _⟩ := valsB_ok vO (q := ("sum", .int 3)) (by simp [vOWN_VALUES]); exact ⟨u, e⟩
      | 6, _ => obtain ⟨u, e, _⟩ := valsB_ok vO (q := ("square", .int 2)) (by simp [vOWN_VALUES]); exact ⟨u, e⟩
      | 7, _ => obtain ⟨u, e, _⟩ := valsB_ok vO (q := ("faces", .int 1)) (by simp [vOWN_VALUES]); exact ⟨u, e⟩
      | 8, _ => obtain ⟨u, e, _⟩ := valsB_ok vO (q := ("cut", .int 2)) (by simp [vOWN_VALUES]); exact ⟨u, e⟩
      | k + 9, hk => omega), ns_miss DO.at_ aO, (glo_ok X G (c.t.d.fact 65 (f := .glo "INNER_RULES") rfl)),
    (fun k hk => by
      match k, hk with
      | 0, _ => exact Hd.kdct_of DI vI (x := "any") (v := .int 0) (by simp [vINNER_RULES])
      | 1, _ => exact Hd.kdct_of DI vI (x := "back") (v := .int 1) (by simp [vINNER_RULES])
      | 2, _ => exact Hd.kdct_of DI vI (x := "not") (v := .int 1) (by simp [vINNER_RULES])
      | 3, _ => exact Hd.kdct_of DI vI (x := "both") (v := .int 2) (by simp [vINNER_RULES])
      | 4, _ => exact Hd.kdct_of DI vI (x := "either") (v := .int 2) (by simp [vINNER_RULES])
      | 5, _ => exact Hd.kdct_of DI vI (x := "sum") (v := .int 0) (by simp [vINNER_RULES])
      | 6, _ => exact Hd.kdct_of DI vI (x := "square") (v := .int 0) (by simp [vINNER_RULES])
      | 7, _ => exact Hd.kdct_of DI vI (x := "faces") (v := .int 1) (by simp [vINNER_RULES])
      | 8, _ => exact Hd.kdct_of DI vI (x := "cut") (v := .int 1) (by simp [vINNER_RULES])
      | k + 9, hk => omega)⟩
  obtain ⟨fdS, TS⟩ : ∃ fd, ErrS PROG K mg (ga K "BadSigns") (ma K (ga K "BadSigns") "__init__") fd := by
    obtain ⟨sin, subC, subV⟩ := Hd.supB_ok (exAt c 6 (e := fun K => Hd.supB K (ga K "BadSigns")) rfl)
    obtain ⟨oc, od, kV, doc, pm, an, ct, osl, cda, cc, ccl, cdd, vs, ccs, file, tf, cl0, cld, csl, lk, hcd, lcd, hvs, hfile, lcc⟩ := Hd.init_ok (P := PROG) (d := ⟨("BadSigns", some "__init__"), "BadSigns.__init__", defArgs (inClass (top 3) 0), defBody (inClass (top 3) 0), defScope (inClass (top 3) 0)⟩) (c.init 0 rfl) (exAt c 9 (e := fun K => Hd.initB PROG K ("BadSigns", some "__init__") "BadSigns.__init__" (ga K "BadSigns")) rfl)
    exact ⟨_, ⟨⟨⟨oc, od, kV, doc, pm, an, ct, osl, cda, cc, ccl, cdd, vs, ccs, file, tf, cl0, cld, csl, rfl, lk, hcd, lcd, hvs, hfile, lcc⟩, by kernel_rfl, eqO_ok (exAt c 3 (e := fun K => eqO (PySem.W.nsIn K cStatics "thirdparty.any") (some none)) rfl), free_ok X G (c.t.d.fact 83 (f := .free "super") rfl), Hd.oexB_ok (exAt c 4 (e := fun K => Hd.oexB K (ga K "BadSigns")) rfl), sin, subC, subV, eqO_ok (exAt c 10 (e := fun K => eqO (PySem.W.findIn K (.ref (ga K "BadSigns")) "signs") (some none)) rfl)⟩, (glo_ok X G (c.t.d.fact 61 (f := .glo "BadSigns") rfl)), eqO_ok (exAt c 11 (e := fun K => eqO (PySem.W.findIn K (.ref (ga K "BadSigns")) "__init__") (some (some (.ref (ma K (ga K "BadSigns") "__init__"))))) rfl), of_decide_eq_true (exAt c 12 (e := fun K => decide (PySem.W.typeIn K (.ref (ma K (ga K "BadSigns") "__init__")) = some (.type "function"))) rfl), fun s us _ hl => match us, hl with | [_, _], _ => .of_eq rfl⟩⟩
  obtain ⟨fdR, TR⟩ : ∃ fd, ErrR PROG K mg (ga K "BadRule") (ma K (ga K "BadRule") "__init__") fd := by
    obtain ⟨sin, subC, subV⟩ := Hd.supB_ok (exAt c 20 (e := fun K => Hd.supB K (ga K "BadRule")) rfl)
    obtain ⟨oc, od, kV, doc, pm, an, ct, osl, cda, cc, ccl, cdd, vs, ccs, file, tf, cl0, cld, csl, lk, hcd, lcd, hvs, hfile, lcc⟩ := Hd.init_ok (P := PROG) (d := ⟨("BadRule", some "__init__"), "BadRule.__init__", defArgs (inClass (top 5) 0), defBody (inClass (top 5) 0), defScope (inClass (top 5) 0)⟩) (c.init 1 rfl) (exAt c 23 (e := fun K => Hd.initB PROG K ("BadRule", some "__init__") "BadRule.__init__" (ga K "BadRule")) rfl)
    exact ⟨_, ⟨⟨⟨oc, od, kV, doc, pm, an, ct, osl, cda, cc, ccl, cdd, vs, ccs, file, tf, cl0, cld, csl, rfl, lk, hcd, lcd, hvs, hfile, lcc⟩, by kernel_rfl, eqO_ok (exAt c 3 (e := fun K => eqO (PySem.W.nsIn K cStatics "thirdparty.any") (some none)) rfl), free_ok X G (c.t.d.fact 83 (f := .free "super") rfl), Hd.oexB_ok (exAt c 18 (e := fun K => Hd.oexB K (ga K "BadRule")) rfl), sin, subC, subV, eqO_ok (exAt c 24 (e := fun K => eqO (PySem.W.findIn K (.ref (ga K "BadRule")) "rule") (some none)) rfl)⟩, (glo_ok X G (c.t.d.fact 62 (f := .glo "BadRule") rfl)), eqO_ok (exAt c 25 (e := fun K => eqO (PySem.W.findIn K (.ref (ga K "BadRule")) "__init__") (some (some (.ref (ma K (ga K "BadRule") "__init__"))))) rfl), of_decide_eq_true (exAt c 26 (e := fun K => decide (PySem.W.typeIn K (.ref (ma K (ga K "BadRule") "__init__")) = some (.type "function"))) rfl), fun s us _ hl => match us, hl with | [_, _], _ => .of_eq rfl⟩⟩
  obtain ⟨fdP, TP⟩ : ∃ fd, ErrP PROG K mg (ga K "BadPaper") (ma K (ga K "BadPaper") "__init__") fd := by
    obtain ⟨sin, subC, subV⟩ := Hd.supB_ok (exAt c 34 (e := fun K => Hd.supB K (ga K "BadPaper")) rfl)
    obtain ⟨oc, od, kV, doc, pm, an, ct, osl, cda, cc, ccl, cdd, vs, ccs, file, tf, cl0, cld, csl, lk, hcd, lcd, hvs, hfile, lcc⟩ := Hd.init_ok (P := PROG) (d := ⟨("BadPaper", some "__init__"), "BadPaper.__init__", defArgs (inClass (top 4) 0), defBody (inClass (top 4) 0), defScope (inClass (top 4) 0)⟩) (c.init 2 rfl) (exAt c 37 (e := fun K => Hd.initB PROG K ("BadPaper", some "__init__") "BadPaper.__init__" (ga K "BadPaper")) rfl)
    exact ⟨_, ⟨⟨⟨oc, od, kV, doc, pm, an, ct, osl, cda, cc, ccl, cdd, vs, ccs, file, tf, cl0, cld, csl, rfl, lk, hcd, lcd, hvs, hfile, lcc⟩, by kernel_rfl, eqO_ok (exAt c 3 (e := fun K => eqO (PySem.W.nsIn K cStatics "thirdparty.any") (some none)) rfl), free_ok X G (c.t.d.fact 83 (f := .free "super") rfl), Hd.oexB_ok (exAt c 32 (e := fun K => Hd.oexB K (ga K "BadPaper")) rfl), sin, subC, subV, eqO_ok (exAt c 38 (e := fun K => eqO (PySem.W.findIn K (.ref (ga K "BadPaper")) "paper") (some none)) rfl)⟩, (glo_ok X G (c.t.d.fact 63 (f := .glo "BadPaper") rfl)), eqO_ok (exAt c 39 (e := fun K => eqO (PySem.W.findIn K (.ref (ga K "BadPaper")) "__init__") (some (some (.ref (ma K (ga K "BadPaper") "__init__"))))) rfl), of_decide_eq_true (exAt c 40 (e := fun K => decide (PySem.W.typeIn K (.ref (ma K (ga K "BadPaper") "__init__")) = some (.type "function"))) rfl), fun s us _ hl => match us, hl with | [_, _], _ => .of_eq rfl⟩⟩
  have FS : KindF K (ga K "BadSigns") (ga K "CarryError") (ga K "Malformed") (ga K "BadSigns") (ga K "BadRule") (ga K "BadPaper") true false false := ⟨exm_ok (c.t.d.fact 96 (f := .exm "BadSigns" "CarryError" true) rfl), Hd.excB_ok (exAt c 5 (e := fun K => Hd.excB K (ga K "BadSigns")) rfl), xfB_ok (exAt c 7 (e := fun K => xfB K (ga K "BadSigns")) rfl), (exAt c 8 (e := fun K => (PySem.W.clsIn K (ga K "BadSigns")).isSome) rfl), of_decide_eq_true (exAt c 13 (e := fun K => Hd.kitB1 K (ga K "BadSigns") (ga K "Malformed") true) rfl), of_decide_eq_true (exAt c 17 (e := fun K => decide (PySem.W.kitOne K (.ref (ga K "BadSigns")) (.type "ValueError") = some true)) rfl), of_decide_eq_true (exAt c 14 (e := fun K => Hd.kitB1 K (ga K "BadSigns") (ga K "BadSigns") true) rfl), of_decide_eq_true (exAt c 15 (e := fun K => Hd.kitB1 K (ga K "BadSigns") (ga K "BadRule") false) rfl), of_decide_eq_true (exAt c 16 (e := fun K => Hd.kitB1 K (ga K "BadSigns") (ga K "BadPaper") false) rfl)⟩
  have FR : KindF K (ga K "BadRule") (ga K "CarryError") (ga K "Malformed") (ga K "BadSigns") (ga K "BadRule") (ga K "BadPaper") false true false := ⟨exm_ok (c.t.d.fact 97 (f := .exm "BadRule" "CarryError" true) rfl), Hd.excB_ok (exAt c 19 (e := fun K => Hd.excB K (ga K "BadRule")) rfl), xfB_ok (exAt c 21 (e := fun K => xfB K (ga K "BadRule")) rfl), (exAt c 22 (e := fun K => (PySem.W.clsIn K (ga K "BadRule")).isSome) rfl), of_decide_eq_true (exAt c 27 (e := fun K => Hd.kitB1 K (ga K "BadRule") (ga K "Malformed") true) rfl), of_decide_eq_true (exAt c 31 (e := fun K => decide (PySem.W.kitOne K (.ref (ga K "BadRule")) (.type "ValueError") = some true)) rfl), of_decide_eq_true (exAt c 28 (e := fun K => Hd.kitB1 K (ga K "BadRule") (ga K "BadSigns") false) rfl), of_decide_eq_true (exAt c 29 (e := fun K => Hd.kitB1 K (ga K "BadRule") (ga K "BadRule") true) rfl), of_decide_eq_true (exAt c 30 (e := fun K => Hd.kitB1 K (ga K "BadRule") (ga K "BadPaper") false) rfl)⟩
  have FP : KindF K (ga K "BadPaper") (ga K "CarryError") (ga K "Malformed") (ga K "BadSigns") (ga K "BadRule") (ga K "BadPaper") false false true := ⟨exm_ok (c.t.d.fact 98 (f := .exm "BadPaper" "CarryError" true) rfl), Hd.excB_ok (exAt c 33 (e := fun K => Hd.excB K (ga K "BadPaper")) rfl), xfB_ok (exAt c 35 (e := fun K => xfB K (ga K "BadPaper")) rfl), (exAt c 36 (e := fun K => (PySem.W.clsIn K (ga K "BadPaper")).isSome) rfl), of_decide_eq_true (exAt c 41 (e := fun K => Hd.kitB1 K (ga K "BadPaper") (ga K "Malformed") true) rfl), of_decide_eq_true (exAt c 45 (e := fun K => decide (PySem.W.kitOne K (.ref (ga K "BadPaper")) (.type "ValueError") = some true)) rfl), of_decide_eq_true (exAt c 42 (e := fun K => Hd.kitB1 K (ga K "BadPaper") (ga K "BadSigns") false) rfl), of_decide_eq_true (exAt c 43 (e := fun K => Hd.kitB1 K (ga K "BadPaper") (ga K "BadRule") false) rfl), of_decide_eq_true (exAt c 44 (e := fun K => Hd.kitB1 K (ga K "BadPaper") (ga K "BadPaper") true) rfl)⟩
  have Nk : KindN K mg (ga K "CarryError") (ga K "Malformed") (ga K "BadSigns") (ga K "BadRule") (ga K "BadPaper") := ⟨(glo_ok X G (c.t.d.fact 59 (f := .glo "CarryError") rfl)), (glo_ok X G (c.t.d.fact 60 (f := .glo "Malformed") rfl)), (glo_ok X G (c.t.d.fact 61 (f := .glo "BadSigns") rfl)), (glo_ok X G (c.t.d.fact 62 (f := .glo "BadRule") rfl)), (glo_ok X G (c.t.d.fact 63 (f := .glo "BadPaper") rfl)), free_ok X G (c.t.d.fact 84 (f := .free "ValueError") rfl), eqO_ok (exAt c 10 (e := fun K => eqO (PySem.W.findIn K (.ref (ga K "BadSigns")) "signs") (some none)) rfl), eqO_ok (exAt c 24 (e := fun K => eqO (PySem.W.findIn K (.ref (ga K "BadRule")) "rule") (some none)) rfl), eqO_ok (exAt c 38 (e := fun K => eqO (PySem.W.findIn K (.ref (ga K "BadPaper")) "paper") (some none)) rfl)⟩
  obtain ⟨flw, fdlw, alw, Flw⟩ := n_law
  have e := hfa.symm.trans (PySem.W.mg_of X G alw)
  cases e
  refine ⟨fdlw, fun s u => ?_, fun base _ _ => ?_⟩
  · obtain ⟨oc, od, kV, doc, pm, an, cdv, ct, osl, rfl, _⟩ := Flw.ex
    exact .of_eq rfl
  · skip
    have Ot := own_of (P := PROG) (w := w) (base := base) X G n_is_text (fun f fd F => ok_isText F B) (fun _ _ _ _ _ _ us hl => match us, hl with | [_, _, _, _], _ => rfl)
    have Oa := own_of (P := PROG) (w := w) (base := base) X G n_is_ascending (fun f fd F => ok_isAsc F B) (fun _ _ _ _ _ _ us hl => match us, hl with | [_], _ => rfl)
    have Oars := own_of (P := PROG) (w := w) (base := base) X G n_are_signs (fun f fd F => ok_areSigns F Gk Ot Oa) (fun _ _ _ _ _ _ us hl => match us, hl with | [_], _ => rfl)
    have Owh := own_of (P := PROG) (w := w) (base := base) X G n_is_whole (fun f fd F => ok_isWhole F B) (fun _ _ _ _ _ _ us hl => match us, hl with | [_], _ => rfl)
    have Owi := own_of (P := PROG) (w := w) (base := base) X G n_is_within (fun f fd F => ok_isWithin F B Owh) (fun _ _ _ _ _ _ us hl => match us, hl with | [_, _, _], _ => rfl)
    have Oit := own_of (P := PROG) (w := w) (base := base) X G n_is_tuple (fun f fd F => ok_isTuple F B) (fun _ _ _ _ _ _ us hl => match us, hl with | [_], _ => rfl)
    have Ito := own_of (P := PROG) (w := w) (base := base) X G n_is_tuple_of (fun f fd F => ok_isTupleOf F B Oit) (fun _ _ _ _ _ _ us hl => match us, hl with | [_, _, _], _ => rfl)
    have Oan := own_of (P := PROG) (w := w) (base := base) X G n_is_ascending (fun f fd F => ok_ascN F B) (fun _ _ _ _ _ _ us hl => match us, hl with | [_], _ => rfl)
    have Oip := own_of (P := PROG) (w := w) (base := base) X G n_is_paper (fun f fd F => ok_isPaper F Gk Ot) (fun _ _ _ _ _ _ us hl => match us, hl with | [_, _], _ => rfl)
    have Oov := own_of (P := PROG) (w := w) (base := base) X G n_own_values (fun f fd F => ok_ownValues F B Gk) (fun _ _ _ _ _ _ us hl => match us, hl with | [_], _ => rfl)
    have Oin := own_of (P := PROG) (w := w) (base := base) X G n_inner_rules (fun f fd F => ok_innerRules F B Gk) (fun _ _ _ _ _ _ us hl => match us, hl with | [_], _ => rfl)
    have Oir := own_of (P := PROG) (w := w) (base := base) X G n_is_row (fun f fd F => ok_isRow F B Ito Owi) (fun _ _ _ _ _ _ us hl => match us, hl with | [_, _, _], _ => rfl)
    have Oar := own_of (P := PROG) (w := w) (base := base) X G n_are_rows (fun f fd F => ok_areRows F B Ito Oir) (fun _ _ _ _ _ _ us hl => match us, hl with | [_, _, _], _ => rfl)
    have Oag := own_of (P := PROG) (w := w) (base := base) X G n_are_goals (fun f fd F => ok_areGoals F B Oit Owi Oan) (fun _ _ _ _ _ _ us hl => match us, hl with | [_, _], _ => rfl)
    have Osu := own_of (P := PROG) (w := w) (base := base) X G n_is_sum (fun f fd F => ok_isSum F B Gk Ito Owi) (fun _ _ _ _ _ _ us hl => match us, hl with | [_], _ => rfl)
    have Osq := own_of (P := PROG) (w := w) (base := base) X G n_is_square (fun f fd F => ok_isSquare F B Gk Oar Oag) (fun _ _ _ _ _ _ us hl => match us, hl with | [_, _], _ => rfl)
    have Ofa := own_of (P := PROG) (w := w) (base := base) X G n_are_faces (fun f fd F => ok_areFaces F B Gk Ito Ot) (fun _ _ _ _ _ _ us hl => match us, hl with | [_, _], _ => rfl)
    have Oas : OAsT 4 PROG w K mg base := by
      obtain ⟨f, fd, a, F⟩ := id n_as_tuples
      exact as_all F B Oit (PySem.W.mg_of X G a) (F.binds (fun _ _ _ _ _ _ us hl => match us, hl with | [_], _ => rfl)) 4
    have Ohf := own_of (P := PROG) (w := w) (base := base) X G n_has_form (fun f fd F => ok_hasForm F B Gk Ito Owi Oov Osu Osq Ofa) (fun _ _ _ _ _ _ us hl => match us, hl with | [_, _], _ => rfl)
    have Ocp : OCount 41 PROG w K mg base := by
      obtain ⟨f, fd, a, F⟩ := id n_count_parts
      exact cp_all F B Oin (PySem.W.mg_of X G a) (F.binds (fun _ _ _ _ _ _ us hl => match us, hl with | [_], _ => rfl)) 41
    have Ock : OChk 40 PROG w K mg base := by
      obtain ⟨f, fd, a, F⟩ := id n_checked_part
      exact chk_all F B Ohf Oin Oov Oas (PySem.W.mg_of X G a) (F.binds (fun _ _ _ _ _ _ us hl => match us, hl with | [_, _], _ => rfl)) 40
    have OckX := ownX_of (P := PROG) (w := w) (base := base) X G n_checked_part (fun f fd F => ok_chkX F B TR Ohf Oin Oov Oas Ock) (fun _ _ _ _ _ _ us hl => match us, hl with | [_, _], _ => rfl)
    have Ocr := ownX_of (P := PROG) (w := w) (base := base) X G n_checked_rule (fun f fd F => ok_chkRule F B Gk OckX Ocp) (fun _ _ _ _ _ _ us hl => match us, hl with | [_, _], _ => rfl)
    have Ors := ownX_of (P := PROG) (w := w) (base := base) X G n_require_signs (fun f fd F => ok_reqS F TS Oars) (fun _ _ _ _ _ _ us hl => match us, hl with | [_], _ => rfl)
    have Orp := ownX_of (P := PROG) (w := w) (base := base) X G n_require_paper (fun f fd F => ok_reqP F TP Oip) (fun _ _ _ _ _ _ us hl => match us, hl with | [_, _], _ => rfl)
    have Ochk := ownX_of (P := PROG) (w := w) (base := base) X G n_check_rule (fun f fd F => ok_checkRule F Ors Ocr) (fun _ _ _ _ _ _ us hl => match us, hl with | [_, _], _ => rfl)
    have Osi := own_of (P := PROG) (w := w) (base := base) X G n_standing_in (fun f fd F => ok_standIn F B) (fun _ _ _ _ _ _ us hl => match us, hl with | [_, _, _, _], _ => rfl)
    have Ohs := own_of (P := PROG) (w := w) (base := base) X G n_has_sum (fun f fd F => ok_hasSum F B BZe) (fun _ _ _ _ _ _ us hl => match us, hl with | [_, _, _], _ => rfl)
    have Ofc := own_of (P := PROG) (w := w) (base := base) X G n_faced (fun f fd F => ok_faced F B BZe) (fun _ _ _ _ _ _ us hl => match us, hl with | [_, _, _], _ => rfl)
    have Oeg := own_of (P := PROG) (w := w) (base := base) X G n_ends_in_goal (fun f fd F => ok_ends F B Osi) (fun _ _ _ _ _ _ us hl => match us, hl with | [_, _, _], _ => rfl)
    have Ofi : OFinds 40 PROG w K mg base := by
      obtain ⟨f, fd, a, F⟩ := id n_finds_right
      exact fi_all F B Oin Oov Ohs Oeg Ofc (PySem.W.mg_of X G a) (F.binds (fun _ _ _ _ _ _ us hl => match us, hl with | [_, _, _], _ => rfl)) 40
    obtain ⟨fR, fdR, aR, FRt⟩ := id n_is_right
    have GR := ok_isRight (P := PROG) (w := w) (base := base) FRt Ochk Orp Ofi
    have bR := FRt.binds (ps := ["signs", "rule", "paper"]) (fun _ _ _ _ _ _ us hl => match us, hl with | [_, _, _], _ => rfl)
    have Ort : ORightC PROG w K mg base := ⟨fR, fdR, right_calm GR, PySem.W.mg_of X G aR, FRt.kp, bR⟩
    have Op := own_of (P := PROG) (w := w) (base := base) X G n__law_pick (fun f fd F => ok_pick F B) (fun _ _ _ _ _ _ us hl => match us, hl with | [_, _], _ => rfl)
    have Ob := own_of (P := PROG) (w := w) (base := base) X G n__law_bag_of (fun f fd F => ok_bagOf F B) (fun _ _ _ _ _ _ us hl => match us, hl with | [_, _], _ => rfl)
    have Oo := own_of (P := PROG) (w := w) (base := base) X G n__law_one_of (fun f fd F => ok_oneOf F B Op) (fun _ _ _ _ _ _ us hl => match us, hl with | [_, _], _ => rfl)
    have Omx := own_of (P := PROG) (w := w) (base := base) X G n__law_mixed (fun f fd F => ok_mixed F B Op) (fun _ _ _ _ _ _ us hl => match us, hl with | [_, _], _ => rfl)
    have OmxL := own_of (P := PROG) (w := w) (base := base) X G n__law_mixed (fun f fd F => ok_mixedL F B Op) (fun _ _ _ _ _ _ us hl => match us, hl with | [_, _], _ => rfl)
    have Old := own_of (P := PROG) (w := w) (base := base) X G n__law_led (fun f fd F => ok_led F B) (fun _ _ _ _ _ _ us hl => match us, hl with | [_, _, _, _], _ => rfl)
    have Olj : OJudged 41 PROG w K mg base := by
      obtain ⟨f, fd, a, F⟩ := id n__law_judged
      exact lj_all F B (PySem.W.mg_of X G a) (F.binds (fun _ _ _ _ _ _ us hl => match us, hl with | [_, _, _], _ => rfl)) 41
    have Oll : OLL 46 PROG w K mg base := by
      obtain ⟨f, fd, a, F⟩ := id n__law_listed
      exact ll_all F B (PySem.W.mg_of X G a) (F.binds (fun _ _ _ _ _ _ us hl => match us, hl with | [_], _ => rfl)) 46
    have Opo := own_of (P := PROG) (w := w) (base := base) X G n__law_paper_of (fun f fd F => ok_paperOf F B Op Oo) (fun _ _ _ _ _ _ us hl => match us, hl with | [_, _, _], _ => rfl)
    have Osm := own_of (P := PROG) (w := w) (base := base) X G n__law_sum (fun f fd F => ok_sumG F B Op) (fun _ _ _ _ _ _ us hl => match us, hl with | [_, _], _ => rfl)
    have Oso := own_of (P := PROG) (w := w) (base := base) X G n__law_signs_of (fun f fd F => ok_signsOf F B Op) (fun _ _ _ _ _ _ us hl => match us, hl with | [_, _], _ => rfl)
    have Ows := own_of (P := PROG) (w := w) (base := base) X G n__law_wide_signs (fun f fd F => ok_wideSigns F B Op Oo) (fun _ _ _ _ _ _ us hl => match us, hl with | [_], _ => rfl)
    have Ogo := own_of (P := PROG) (w := w) (base := base) X G n__law_goals_of (fun f fd F => ok_goalsOf F B Op) (fun _ _ _ _ _ _ us hl => match us, hl with | [_, _], _ => rfl)
    have Ofo := own_of (P := PROG) (w := w) (base := base) X G n__law_faces_of (fun f fd F => ok_facesOf F B Op Omx) (fun _ _ _ _ _ _ us hl => match us, hl with | [_, _], _ => rfl)
    have Osl := own_of (P := PROG) (w := w) (base := base) X G n__law_slipped (fun f fd F => ok_slipped F B Op Oo) (fun _ _ _ _ _ _ us hl => match us, hl with | [_, _, _], _ => rfl)
    have Owr := own_of (P := PROG) (w := w) (base := base) X G n__law_wrapped (fun f fd F => ok_wrapped F B Op) (fun _ _ _ _ _ _ us hl => match us, hl with | [_, _, _, _], _ => rfl)
    have Ofw := own_of (P := PROG) (w := w) (base := base) X G n__law_wide_faces (fun f fd F => ok_wideFaces F B Op Omx Oo) (fun _ _ _ _ _ _ us hl => match us, hl with | [_, _], _ => rfl)
    have Osw := own_of (P := PROG) (w := w) (base := base) X G n__law_wide_sum (fun f fd F => ok_wideSum F B Op Oo) (fun _ _ _ _ _ _ us hl => match us, hl with | [_, _, _], _ => rfl)
    have Oro := own_of (P := PROG) (w := w) (base := base) X G n__law_rows_of (fun f fd F => ok_rowsOf F B Op OmxL) (fun _ _ _ _ _ _ us hl => match us, hl with | [_, _, _], _ => rfl)
    have Oru : ORuleOf 2 PROG w K mg base := by
      obtain ⟨f, fd, a, F⟩ := id n__law_rule_of
      exact ro_all F B Op Osm Oro Ogo Ofo (PySem.W.mg_of X G a) (F.binds (fun _ _ _ _ _ _ us hl => match us, hl with | [_, _, _], _ => rfl)) 2
    have Owq := own_of (P := PROG) (w := w) (base := base) X G n__law_wide_square (fun f fd F => ok_wideSq F B Op Oo Old) (fun _ _ _ _ _ _ us hl => match us, hl with | [_, _, _], _ => rfl)
    have Oon : ORuleOn 5 PROG w K mg base := by
      obtain ⟨f, fd, a, F⟩ := id n__law_rule_on
      exact on_all F B Op Owq Osw Ofw (PySem.W.mg_of X G a) (F.binds (fun _ _ _ _ _ _ us hl => match us, hl with | [_, _, _, _], _ => rfl)) 5
    have Olp : OParts 40 PROG w K mg base := by
      obtain ⟨f, fd, a, F⟩ := id n__law_parts
      exact lp_all F B (PySem.W.mg_of X G a) (F.binds (fun _ _ _ _ _ _ us hl => match us, hl with | [_], _ => rfl)) 40
    have Obp := own_of (P := PROG) (w := w) (base := base) X G n__law_bad_paper (fun f fd F => ok_badPaper F B Op Oo) (fun _ _ _ _ _ _ us hl => match us, hl with | [_, _, _], _ => rfl)
    have Obs := own_of (P := PROG) (w := w) (base := base) X G n__law_bad_signs (fun f fd F => ok_badSigns F B Op Oo) (fun _ _ _ _ _ _ us hl => match us, hl with | [_, _], _ => rfl)
    have Osy := ownG_of (P := PROG) (w := w) (base := base) X G n__law_says (fun f fd F => ok_says F B Ort Olj) (fun _ _ _ _ _ _ us hl => match us, hl with | [_, _, _, _], _ => rfl)
    have Orf := ownG_of (P := PROG) (w := w) (base := base) X G n__law_refused (fun f fd F => ok_refused F B GR (PySem.W.mg_of X G aR) FRt.kp bR Nk FS FR FP) (fun _ _ _ _ _ _ us hl => match us, hl with | [_, _, _, _], _ => rfl)
    have Oer := ownG_of (P := PROG) (w := w) (base := base) X G n__law_errors (fun f fd F => ok_errors F B Obp Oo Obs Orf Osy) (fun _ _ _ _ _ _ us hl => match us, hl with | [_, _, _, _], _ => rfl)
    have Ochg := ownG_of (P := PROG) (w := w) (base := base) X G n__law_changed (fun f fd F => ok_changed F B Oll Ort Olj Osy) (fun _ _ _ _ _ _ us hl => match us, hl with | [_, _, _], _ => rfl)
    exact ok_law Flw B Ob Ows Op Oo Oon Owr Olp Oso Oru Opo Osl Oll Osy Ochg Oer

end HdK11

/-! K11E -/
open PySem PySem.W PySem.Calls PyProof.Rows
set_option maxRecDepth 100000 in
set_option maxHeartbeats 0 in
theorem PySem.Challenge.cw_handcarried_k11_rules_judged_holds : PySem.Challenge.rw_handcarried_k11_rules_judged.Holds := by
  w_on; o_law
  refine HandSHeadRun.head_any (r := OpenLaw.row PySem.Challenge.rw_handcarried_k11_rules_judged) (q := HdK11.qv) (H := HdK11.hk) (ob := HdK11.ob) (M := 9000) (loose := HdK11.names) (d := HandSHeadRun.topDef (OpenLaw.row PySem.Challenge.rw_handcarried_k11_rules_judged).prog 84) (kwd := []) HdK11.ob_eq
    (by kernel_rfl) (fun s => by kernel_rfl) HdK11.run (by kernel_rfl) (by kernel_rfl) (by kernel_rfl) (by rfl) (by first | assumption | decide +kernel) (by decide +kernel) ⟨rfl, rfl, rfl, rfl, rfl, by decide +kernel⟩ ?hw ?hc
  case hw => w_witness2
  case hc =>
    refine K1.walk_ofGE (l := PySem.Challenge.rw_handcarried_k11_rules_judged) (n := 63) (k := 54) (x := "_law_script") rfl (by decide) (by kernel_rfl) ⟨rfl, by decide, by decide⟩ ?F
    intro w mg fa h Y G hmg0
    obtain ⟨K, KX, c⟩ := Y
    have hmg : mg ("law" : PySem.Str) = some (.ref fa) := by
      have e : (HandSHeadRun.topDef (OpenLaw.row PySem.Challenge.rw_handcarried_k11_rules_judged).prog 84).name = ("law" : PySem.Str) := by kernel_rfl
      rw [← e]
      exact hmg0
    obtain ⟨fd, hb, hF⟩ := HdK11.all_mk (w := w) KX G hmg c
    exact ⟨K, fd, K4.spLaw K, KX, hb, fun H a ns hl _ hS => ⟨a, ns, rfl, hS, hl, fun _ => rfl⟩, hF⟩
