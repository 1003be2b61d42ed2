import PyProof.Rows.All
import Wide.All
import OpenK.AllK
import Wide.FinOn
import HandS.ForMost
import HandS.Style
import HandS.IsInst
import HandS.Replace
import HandS.Wide
import HandS.Codes
import HandS.Walk
import PyProof.ListStr
import PyProof.StrOps2
import PySem.Challenge.RW_likehands_k02_words_a_machine_has
set_option Elab.async false
set_option linter.all false
set_option maxRecDepth 100000
set_option maxHeartbeats 4000000
namespace LH
open PySem PySem.Spec PyProof.Rows L2
/-! ### list(text) -/
section
variable {X : Cx}
def sgns (z : Str) : List V := z.cps.toList.map fun c => V.str ⟨#[c]⟩
theorem sgns_len (z : Str) : (sgns z).length = z.length := by
  unfold sgns
  rw [List.length_map, Array.length_toList]
  rfl
theorem vals_by : ∀ {xs : List V} {us : List Value}, xs.length = us.length → (∀ (j : Nat) (x : V) (u : Value), xs[j]? = some x → us[j]? = some u → RelV x u) → Vals xs us
  | [], [], _, _ => .nil
  | [], _ :: _, h, _ => by cases h
  | _ :: _, [], h, _ => by cases h
  | x :: xs, u :: us, h, q => .cons (q 0 x u rfl rfl) (vals_by (Nat.succ.inj h) fun j y v a b => q (j + 1) y v a b)
theorem vals_sgns {z : Str} {acc : Array Value} (h : ItemsOf (SignAt z) acc z.cps.size) : Vals (sgns z) acc.toList := by
  have hn : acc.size = z.cps.size := h.1
  refine vals_by ?_ fun j x u a b => ?_
  · rw [sgns_len, Array.length_toList, hn]
    rfl
  · rw [Array.getElem?_toList] at b
    obtain ⟨c, t, e1, e2⟩ := h.2 j u b
    unfold sgns at a
    rw [List.getElem?_map, Array.getElem?_toList, e1] at a
    cases a
    subst e2
    exact ⟨_, rfl⟩
theorem call_listS (hc : X.calm = true) : CallR X (.type "list") (fun xs H Q => ∃ z : Str, xs = [.str z] ∧ z.length ≤ sizeLine ∧ ∀ p, H p = none → Q (.ref p) (upd H p (.lst (sgns z)))) := by
  intro pins s σ H xs us Q I r h
  obtain ⟨z, rfl, hz, q⟩ := h
  obtain ⟨u, rfl, rx⟩ := vals1 r
  obtain ⟨t, rfl⟩ := rx
  refine PySem.call_list_str (I.ok.hd hc) z t (fun h' tk acc' c' kp e ha => ?_) hz
  exact ⟨.ref s.heap.objs.size, _, I.laid (t' := tk) kp (Nat.le_refl _) (show ObjOk X.prog X.w _ h' _ (.lst (sgns z)) from ⟨by rw [sgns_len]; exact hz, acc'.toList, c', vals_sgns ha, e⟩), rfl, q _ (I.hok.fresh (Nat.le_refl _))⟩
/-! ### text * number -/
def repS (z : Str) (n : Nat) : Str := ⟨(List.replicate n z.cps.toList).flatten.toArray⟩
theorem foldl_repS (z : Array Nat) : ∀ (n : Nat) (a : Array Nat), (List.replicate n z).foldl (· ++ ·) a = a ++ (List.replicate n z.toList).flatten.toArray
  | 0, a => by simp
  | n + 1, a => by
    rw [List.replicate_succ, List.foldl_cons, foldl_repS z n (a ++ z), List.replicate_succ, List.flatten_cons]
    apply Array.ext'
    simp
theorem repS_eq (z : Str) (n : Nat) : (⟨(List.replicate n z.cps).foldl (· ++ ·) #[]⟩ : Str) = repS z n := by
  rw [foldl_repS]
  unfold repS
  simp
theorem repS_one (z : Str) : repS z 1 = z := by
  unfold repS
  simp
theorem repS_len (z : Str) (n : Nat) : (repS z n).length = n * z.length := by
  show (List.replicate n z.cps.toList).flatten.toArray.size = n * z.cps.size
  rw [List.size_toArray, List.length_flatten, List.map_replicate, List.sum_replicate_nat, Array.length_toList]
theorem op_repS : OpR X (binaryOp .Mult) (fun x y H Q => ∃ (z : Str) (n : Int), x = .str z ∧ y = .int n ∧ 1 ≤ n ∧ n ≤ 1000 ∧ z.length ≤ 1000 ∧ Q (.str (repS z n.toNat)) H) := by
  intro pins s σ H x y v u Q I rx ry h
  obtain ⟨z, n, rfl, rfl, h1, h2, hz, q⟩ := h
  obtain ⟨t, rfl⟩ := rx
  obtain ⟨t', rfl⟩ := ry
  have hlen : z.length * n.toNat ≤ 1000000 := Nat.le_trans (Nat.mul_le_mul hz (show n.toNat ≤ 1000 by omega)) (by decide)
  refine PySem.P.mul_str ?_ (fun _ _ => ?_) (fun _ _ => ?_) ?_
  · rw [decide_eq_false (show ¬ n < -(2 ^ 63 : Int) by omega), decide_eq_false (show ¬ n ≥ 2 ^ 63 by omega)]
    rfl
  · have : (1000 : Int) ≤ (2 ^ 63 - 1) / n := by
      rw [Int.le_ediv_iff_mul_le (by omega)]
      omega
    omega
  · exact decide_eq_false (by
      have e : (1000000 : Nat) ≤ sizeLine := by decide
      omega)
  · rw [if_neg (show ¬ n < 1 by omega)]
    by_cases hc : (n == 1 || z.length == 0) = true
    · rw [if_pos hc]
      have e : repS z n.toNat = z := by
        rw [Bool.or_eq_true] at hc
        rcases hc with hc | hc
        · have : n = 1 := eq_of_beq hc
          subst this
          exact repS_one z
        · have h0 : z.cps.size = 0 := eq_of_beq hc
          have : z.cps = #[] := Array.eq_empty_of_size_eq_zero h0
          unfold repS
          rw [this]
          obtain ⟨a⟩ := z
          have : a = #[] := this
          subst this
          congr 1
          apply Array.ext'
          simp
      rw [e] at q
      exact ⟨.str z, H, I, ⟨_, rfl⟩, q⟩
    · rw [if_neg hc, repS_eq]
      refine ⟨?_, .str _, H, I.tok _, ⟨_, rfl⟩, q⟩
      show (repS z n.toNat).length ≤ sizeLine
      rw [repS_len, Nat.mul_comm]
      exact Nat.le_trans hlen (by decide)
end
/-! ### one sign in a text: its first place -/
theorem idxOf_le {c : Nat} : ∀ {xs : List Nat} {i : Nat}, xs[i]? = some c → xs.idxOf c ≤ i
  | [], i, h => by simp at h
  | x :: xs, i, h => by
    rw [List.idxOf_cons]
    by_cases e : x = c
    · subst e
      simp
    · cases i with
      | zero =>
        simp at h
        exact absurd h e
      | succ i =>
        have := idxOf_le (xs := xs) (i := i) (by simpa using h)
        rw [show (x == c) = false from beq_eq_false_iff_ne.mpr e]
        show xs.idxOf c + 1 ≤ i + 1
        omega
theorem occ_sign {z : Str} {c : Nat} (h : c ∈ z.cps.toList) : ∃ r, Builtin.Str.occurrences z ⟨#[c]⟩ 0 z.length 1 = z.cps.toList.idxOf c :: r := by
  have key : ∀ i, StrLaws.At z ⟨#[c]⟩ z.length i ↔ z.cps.toList[i]? = some c := fun i => StrLaws.subAt_one z c i
  have hi : z.cps.toList.idxOf c < z.cps.toList.length := List.idxOf_lt_length_iff.mpr h
  have e0 : z.cps.toList[z.cps.toList.idxOf c]? = some c := by
    rw [List.getElem?_eq_getElem hi, List.getElem_idxOf]
  rcases StrLaws.occ_head z ⟨#[c]⟩ 1 (Nat.le_refl _) with ⟨_, hn⟩ | ⟨i, r, e, ha, hn⟩
  · exact absurd ((key _).mpr e0) (hn _)
  · refine ⟨r, ?_⟩
    rw [e]
    congr 1
    have a1 : ¬ z.cps.toList.idxOf c < i := fun q => hn _ q ((key _).mpr e0)
    have a2 := idxOf_le ((key i).mp ha)
    omega
theorem find_sign {z : Str} {c : Nat} (h : c ∈ z.cps.toList) : Txt.find z ⟨#[c]⟩ = (z.cps.toList.idxOf c : Nat) := by
  obtain ⟨r, e⟩ := occ_sign h
  unfold Txt.find
  rw [e]
/-! ### texts of signs -/
abbrev sg (c : Nat) : Str := ⟨#[c]⟩
abbrev vs_ (cs : List Nat) : List V := cs.map fun c => V.str (sg c)
theorem join_sg : ∀ cs : List Nat, Txt.join ⟨#[]⟩ (cs.map sg) = ⟨cs.toArray⟩ := fun cs => by
  rw [TL.join_eq]
  induction cs with
  | nil => rfl
  | cons c r ih =>
    cases r with
    | nil => rfl
    | cons d r =>
      show sg c ++ ⟨#[]⟩ ++ Str.join ⟨#[]⟩ ((d :: r).map sg) = _
      rw [ih]
      show (⟨(#[c] ++ #[]) ++ (d :: r).toArray⟩ : Str) = ⟨(c :: d :: r).toArray⟩
      congr 1
      apply Array.ext'
      simp
theorem risingS_sg : ∀ (cs : List Nat) (c : Nat), risingS (sg c) (cs.map sg) = true → (c :: cs).Pairwise (· ≤ ·)
  | [], c, _ => by simp
  | d :: r, c, h => by
    have h : (!ltCps [d] [c] && risingS (sg d) (r.map sg)) = true := h
    rw [Bool.and_eq_true] at h
    have ih := risingS_sg r d h.2
    have hcd : c ≤ d := by
      have := h.1
      simp [ltCps] at this
      exact this
    refine List.Pairwise.cons (fun x hx => ?_) ih
    rcases List.mem_cons.mp hx with rfl | hx
    · exact hcd
    · exact Nat.le_trans hcd (List.rel_of_pairwise_cons ih hx)
theorem sortedS_sg {cs : List Nat} (h : sortedS (cs.map sg) = true) : cs.Pairwise (· ≤ ·) := by
  cases cs with
  | nil => simp
  | cons c r => exact risingS_sg r c h
/-- what a sort of one-sign texts gives -/
theorem perm_sg {cs : List Nat} {ys : List Str} (h : ys.Perm (cs.map sg)) : ∃ ds : List Nat, ys = ds.map sg ∧ ds.Perm cs := by
  let f : Str → Nat := fun z => z.cps.getD 0 0
  have hm := h.map f
  rw [List.map_map, show f ∘ sg = id from rfl, List.map_id] at hm
  refine ⟨ys.map f, ?_, hm⟩
  rw [List.map_map]
  have : ∀ y ∈ ys, (sg ∘ f) y = y := fun y hy => by
    obtain ⟨c, _, rfl⟩ := List.mem_map.mp (h.mem_iff.mp hy)
    rfl
  conv => lhs; rw [← List.map_id ys]
  exact List.map_congr_left fun y hy => (this y hy).symm
structure IsLet (z : Str) : Prop where
  one : 1 ≤ z.length
  five : z.length ≤ 5
  rise : z.cps.toList.Pairwise (· < ·)
  small : ∀ c ∈ z.cps.toList, 97 ≤ c ∧ c ≤ 122
theorem rise_of {cs : List Nat} (h : cs.Pairwise (· ≤ ·)) (n : cs.Nodup) : cs.Pairwise (· < ·) := by
  have := List.Pairwise.and h n
  exact this.imp fun ⟨a, b⟩ => Nat.lt_of_le_of_ne a b
theorem mem_az {c : Nat} (h : c ∈ (List.range 26).map (97 + ·)) : 97 ≤ c ∧ c ≤ 122 := by
  obtain ⟨k, hk, rfl⟩ := List.mem_map.mp h
  have := List.mem_range.mp hk
  omega
theorem cutV_map {f : Nat → V} (cs : List Nat) (lo hi : Option Int) : cutV (cs.map f) lo hi = ((cs.drop (HT.sIx cs.length 0 lo)).take (HT.sIx cs.length cs.length hi - HT.sIx cs.length 0 lo)).map f := by
  unfold cutV
  rw [List.length_map, List.map_take, List.map_drop]
theorem cut_from (cs : List Nat) (g : Nat) : (cs.drop (HT.sIx cs.length 0 (some (g : Int)))).take (HT.sIx cs.length cs.length none - HT.sIx cs.length 0 (some (g : Int))) = cs.drop g := by
  rw [HT.sIx_nat, HT.sIx_none]
  by_cases h : g ≤ cs.length
  · rw [Nat.min_eq_left h, List.take_of_length_le (by rw [List.length_drop] <;> omega)]
  · rw [Nat.min_eq_right (by omega), List.drop_of_length_le (by omega), List.drop_of_length_le (by omega), List.take_nil]
theorem cut_to (cs : List Nat) (g : Nat) : (cs.drop (HT.sIx cs.length 0 none)).take (HT.sIx cs.length cs.length (some (g : Int)) - HT.sIx cs.length 0 none) = cs.take g := by
  rw [HT.sIx_nat, HT.sIx_none, Nat.sub_zero, List.drop_zero]
  by_cases h : g ≤ cs.length
  · rw [Nat.min_eq_left h]
  · rw [Nat.min_eq_right (by omega), List.take_of_length_le (Nat.le_refl _), List.take_of_length_le (by omega)]
theorem seqIx {i : Int} {n : Nat} (h0 : 0 ≤ i) (h1 : i < n) : seqIndex? i n = some i.toNat := by
  unfold seqIndex?
  have e : ¬ i < 0 := by omega
  simp [h0, h1, e]
theorem atI_of {xs : List V} {i : Int} {v : V} (h0 : 0 ≤ i) (h : xs[i.toNat]? = some v) : atI xs i = some v := at_of (j := i.toNat) (by omega) h
theorem erase_perm (ls : List Nat) (k : Nat) (h : k < ls.length) : ls.Perm (ls[k] :: ls.eraseIdx k) := by
  rw [List.eraseIdx_eq_take_drop_succ]
  conv => lhs; rw [← List.take_append_drop k ls, List.drop_eq_getElem_cons h]
  exact List.perm_middle
theorem sgns_az : sgns "abcdefghijklmnopqrstuvwxyz" = vs_ ((List.range 26).map (97 + ·)) := by decide +kernel
/-! ### the rules that speak of the written part, by a K of their own (so that they may stand within a comprehension) -/
section
variable {X : Cx} (K : PySem.W.Frag) (hK : X.K = K)
def rLenK : List V → Hp → VK → Prop := fun xs H Q => ∃ p ys, xs = [.ref p] ∧ (SqL K H p ys ∨ SqT K H p ys) ∧ Q (.int ys.length) H
def rListK : List V → Hp → VK → Prop := fun xs H Q => ∃ p ys, xs = [.ref p] ∧ (SqL K H p ys ∨ SqT K H p ys) ∧ ∀ l, H l = none → Q (.ref l) (upd H l (.lst ys))
def rTupleK : List V → Hp → VK → Prop := fun xs H Q => ∃ p ys, xs = [.ref p] ∧ ((SqL K H p ys ∧ ∀ l, H l = none → Q (.ref l) (upd H l (.tup ys))) ∨ (SqT K H p ys ∧ Q (.ref p) H))
def rJoinK : V → List V → Hp → VK → Prop := fun x xs H Q => ∃ a p, ∃ ys : List Str, x = .str a ∧ xs = [.ref p] ∧ (SqL K H p (ys.map V.str) ∨ SqT K H p (ys.map V.str)) ∧ (ys.map (·.length)).sum + ys.length * a.length ≤ 16777216 ∧ Q (.str (Txt.join a ys)) H
include hK
theorem ix_listK : IxR X (rIxL K) := by subst hK; exact ix_list
theorem ix_tupK : IxR X (rIxT K) := by subst hK; exact ix_tup
theorem sl_listK : SlR X (rSlL K) := by subst hK; exact sl_list
theorem sl_tupK : SlR X (rSlT K) := by subst hK; exact sl_tup
theorem op_in_seqK : OpR X (compareOp .In) (rIn K false) := by subst hK; exact op_in_seq
theorem op_notIn_seqK : OpR X (compareOp .NotIn) (rIn K true) := by subst hK; exact op_notIn_seq
theorem call_lenK : CallR X (.builtin "len") (rLenK K) := by subst hK; exact call_len_seq
theorem call_listK : CallR X (.type "list") (rListK K) := by subst hK; exact call_list_of
theorem call_tupleK : CallR X (.type "tuple") (rTupleK K) := by subst hK; exact call_tuple_of
theorem cr_sumK (hc : X.calm = true) : CallR X (.builtin "sum") (rSum K) := by subst hK; exact cr_sum hc
theorem cr_anyK (hc : X.calm = true) : CallR X (.builtin "any") (rAny K) := by subst hK; exact cr_any hc
theorem cr_allK (hc : X.calm = true) : CallR X (.builtin "all") (rAll K) := by subst hK; exact cr_all hc
theorem cr_sortedK : CallR X (.builtin "sorted") (rSorted K) := by subst hK; exact cr_sorted
theorem cr_sortedSK : CallR X (.builtin "sorted") (rSortedS K) := by subst hK; exact cr_sortedS
theorem call_isiK : CallR X (.builtin "isinstance") (rIsi K) := by subst hK; exact call_isi
theorem mt_joinK : MtR X "str.join" (rJoinK K) := by subst hK; exact mt_join
theorem pi_listK {tg l : Expr} {tl : TE} (hl : PE X l tl) : PI X tg l (iList K tl) := by subst hK; exact pi_list hl
theorem pi_tupK {tg l : Expr} {tl : TE} (hl : PE X l tl) : PI X tg l (iTup K tl) := by subst hK; exact pi_tup hl
theorem pe_revLK {e : Expr} {te : TE} {k : Nat} {p1 p2 p3 pos : Pos} (he : PE X e te) : PE X (.Subscript e (.Slice none none (some (.UnaryOp .USub (.Constant (.int 1) k p1) p2)) p3) pos) (tRevL K te) := by subst hK; exact pe_revL he
theorem pg_tupK {pos : Pos} {es : List Expr} {k : Nat} {t : TGs} {n : Nat} (hc : X.calm = true) (h : PGs X es t) (hn : (assignEach es X.env).length = n := by rfl) (hst : (assignEach es X.env).findIdx? (·.1) = none := by rfl) : PG X (.Tuple es k pos) (gTup K n t) := by subst hK; exact pg_tup hc h hn hst
theorem pe_bm0K {o : Expr} {to : TE} {name : Str} {ap cp : Pos} {T id : String} {r : V → List V → Hp → VK → Prop} (pa : PlainAttrs T) (sl : Slot T name id) (ty : typeOf (.builtin id) = pure (.type "method_descriptor")) (hm : MtR X id r) (ho : PE X o to) (h1 : attributeBase o name X.env (eval o X.env) = eval o X.env := by rfl) (h2 : (ap.endLine == cp.line) = true := by rfl) : PE X (.Call (.Attribute o name ap) [] [] cp) (tBM0 K T r to) := by subst hK; exact pe_bm0 pa sl ty hm ho h1 h2
theorem pe_bmK {o e : Expr} {es : List Expr} {to : TE} {t : TA} {name : Str} {ap cp : Pos} {T id : String} {r : V → List V → Hp → VK → Prop} (pa : PlainAttrs T) (sl : Slot T name id) (ty : typeOf (.builtin id) = pure (.type "method_descriptor")) (hm : MtR X id r) (ho : PE X o to) (ha : PA X (e :: es) t) (h1 : attributeBase o name X.env (eval o X.env) = eval o X.env := by rfl) (h2 : ((backTo cp (starEach (e :: es) X.env)).all (fun x => !x.1) && (backToKw cp (keywordEach [] X.env)).all (fun x => x.1.isSome) && decide ((e :: es).length + ([] : List Keyword).length + (if ([] : List Keyword).isEmpty then 0 else 1) < 30)) = true := by rfl) (h3 : (ap.endLine == cp.line) = true := by rfl) (h4 : starEach (e :: es) X.env = (false, eval e X.env) :: starEach es X.env := by rfl) (h5 : (backTo cp (starEach es X.env)).any (·.1) = false := by rfl) : PE X (.Call (.Attribute o name ap) (e :: es) [] cp) (tBM K T r to t) := by subst hK; exact pe_bm pa sl ty hm ho ha h1 h2 h3 h4 h5
end
/-- a comprehension's turn without a test -/
theorem lcyes {σ : L2.St} {H : Hp} {A B : Hp → Prop} (h : A H) : tYes σ H (fun b H3 => if b = true then A H3 else B H3) := by
  show (if true = true then A H else B H)
  rw [if_pos rfl]
  exact h
theorem vs_snoc (ys : List Nat) (c : Nat) : vs_ ys ++ [V.str (sg c)] = vs_ (ys ++ [c]) := by
  show _ = List.map _ (ys ++ [c])
  rw [List.map_append]
  rfl
theorem vs_erase : ∀ (ls : List Nat) (k : Nat), (vs_ ls).eraseIdx k = vs_ (ls.eraseIdx k)
  | [], _ => rfl
  | _ :: _, 0 => rfl
  | c :: r, k + 1 => by
    show V.str (sg c) :: (vs_ r).eraseIdx k = V.str (sg c) :: vs_ (r.eraseIdx k)
    rw [vs_erase r k]
end LH

namespace LH
open PySem PySem.Spec PyProof.Rows L2
def topS (i : Nat) : Stmt := PySem.Challenge.pw_likehands_k02_words_a_machine_has.main.body.getD i (.Pass ⟨0, 0, 0, 0⟩)
abbrev s_has : Stmt := topS 1
abbrev N_has : List Str := ["machine", "word", "letters", "table", "ends", "state", "letter", "column"]
theorem sc_has : FnScope N_has ["machine", "word"] (defScope s_has) := ⟨rfl, rfl, rfl, by decide +kernel, rfl, by decide +kernel, by decide +kernel⟩
abbrev s_law_stream : Stmt := topS 3
abbrev N_law_stream : List Str := ["cell", "low"]
theorem sc_law_stream : FnScope N_law_stream ["cell"] (defScope s_law_stream) := ⟨rfl, rfl, rfl, by decide +kernel, rfl, by decide +kernel, by decide +kernel⟩
abbrev s_law_take : Stmt := topS 4
abbrev N_law_take : List Str := ["row", "many", "got"]
theorem sc_law_take : FnScope N_law_take ["row", "many"] (defScope s_law_take) := ⟨rfl, rfl, rfl, by decide +kernel, rfl, by decide +kernel, by decide +kernel⟩
abbrev s_law_letters : Stmt := topS 5
abbrev N_law_letters : List Str := ["row", "many", "left", "k"]
theorem sc_law_letters : FnScope N_law_letters ["row"] (defScope s_law_letters) := ⟨rfl, rfl, rfl, by decide +kernel, rfl, by decide +kernel, by decide +kernel⟩
abbrev s_law_machine : Stmt := topS 6
abbrev N_law_machine : List Str := ["row", "letters", "most", "many", "table", "ends", "state", "sign"]
theorem sc_law_machine : FnScope N_law_machine ["row", "letters", "most"] (defScope s_law_machine) := ⟨rfl, rfl, rfl, by decide +kernel, rfl, by decide +kernel, by decide +kernel⟩
abbrev s_law_word : Stmt := topS 7
abbrev N_law_word : List Str := ["row", "letters", "most", "k"]
theorem sc_law_word : FnScope N_law_word ["row", "letters", "most"] (defScope s_law_word) := ⟨rfl, rfl, rfl, by decide +kernel, rfl, by decide +kernel, by decide +kernel⟩
abbrev s_law_truth : Stmt := topS 8
abbrev N_law_truth : List Str := ["found", "due"]
theorem sc_law_truth : FnScope N_law_truth ["found", "due"] (defScope s_law_truth) := ⟨rfl, rfl, rfl, by decide +kernel, rfl, by decide +kernel, by decide +kernel⟩
abbrev s_law_right : Stmt := topS 9
abbrev N_law_right : List Str := ["machine", "words", "word", "state", "sign"]
theorem sc_law_right : FnScope N_law_right ["machine", "words"] (defScope s_law_right) := ⟨rfl, rfl, rfl, by decide +kernel, rfl, by decide +kernel, by decide +kernel⟩
abbrev s_law : Stmt := topS 10
abbrev N_law : List Str := ["script", "cell", "row", "letters", "machine", "words", "k"]
theorem sc_law : FnScope N_law ["script"] (defScope s_law) := ⟨rfl, rfl, rfl, by decide +kernel, rfl, by decide +kernel, by decide +kernel⟩
structure TX (K : PySem.W.Frag) (mg : Str → Option Value) where
  a_has : Addr
  fd_has : FuncData
  F_has : Fun K "has" "has" s_has a_has fd_has
  b_has : Binds K fd_has ["machine", "word"] []
  g_has : mg "has" = some (.ref a_has)
  a_law_stream : Addr
  fd_law_stream : FuncData
  F_law_stream : Fun K "_law_stream" "_law_stream" s_law_stream a_law_stream fd_law_stream
  b_law_stream : Binds K fd_law_stream ["cell"] []
  g_law_stream : mg "_law_stream" = some (.ref a_law_stream)
  a_law_take : Addr
  fd_law_take : FuncData
  F_law_take : Fun K "_law_take" "_law_take" s_law_take a_law_take fd_law_take
  b_law_take : Binds K fd_law_take ["row", "many"] []
  g_law_take : mg "_law_take" = some (.ref a_law_take)
  a_law_letters : Addr
  fd_law_letters : FuncData
  F_law_letters : Fun K "_law_letters" "_law_letters" s_law_letters a_law_letters fd_law_letters
  b_law_letters : Binds K fd_law_letters ["row"] []
  g_law_letters : mg "_law_letters" = some (.ref a_law_letters)
  a_law_machine : Addr
  fd_law_machine : FuncData
  F_law_machine : Fun K "_law_machine" "_law_machine" s_law_machine a_law_machine fd_law_machine
  b_law_machine : Binds K fd_law_machine ["row", "letters", "most"] []
  g_law_machine : mg "_law_machine" = some (.ref a_law_machine)
  a_law_word : Addr
  fd_law_word : FuncData
  F_law_word : Fun K "_law_word" "_law_word" s_law_word a_law_word fd_law_word
  b_law_word : Binds K fd_law_word ["row", "letters", "most"] []
  g_law_word : mg "_law_word" = some (.ref a_law_word)
  a_law_truth : Addr
  fd_law_truth : FuncData
  F_law_truth : Fun K "_law_truth" "_law_truth" s_law_truth a_law_truth fd_law_truth
  b_law_truth : Binds K fd_law_truth ["found", "due"] []
  g_law_truth : mg "_law_truth" = some (.ref a_law_truth)
  a_law_right : Addr
  fd_law_right : FuncData
  F_law_right : Fun K "_law_right" "_law_right" s_law_right a_law_right fd_law_right
  b_law_right : Binds K fd_law_right ["machine", "words"] []
  g_law_right : mg "_law_right" = some (.ref a_law_right)
  m_bool : mg "bool" = none
  m_int : mg "int" = none
  m_isinstance : mg "isinstance" = none
  m_len : mg "len" = none
  m_list : mg "list" = none
  m_range : mg "range" = none
  m_sorted : mg "sorted" = none
  m_tuple : mg "tuple" = none
/-! ### rows: the cell's stream -/
def RowAt (H : Hp) (r : Addr) : Prop := ∃ a b c : Int, H r = some (.lst [.int a, .int b, .int c]) ∧ 0 ≤ b ∧ b < 536870909
/-- all that was tracked, but for what stands at r, is as it was -/
def Off (r : Addr) (H H' : Hp) : Prop := ∀ b o, b ≠ r → H b = some o → H' b = some o
theorem Off.refl (r : Addr) (H : Hp) : Off r H H := fun _ _ _ h => h
theorem Off.trans {r : Addr} {H H1 H2 : Hp} (a : Off r H H1) (b : Off r H1 H2) : Off r H H2 := fun c o n h => b c o n (a c o n h)
theorem Off.of {r : Addr} {H H' : Hp} (a : Same H H') : Off r H H' := fun c o _ h => a c o h
theorem Off.new {r p : Addr} {H : Hp} {o : HO} (h : H p = none) : Off r H (upd H p o) := fun b x _ e => by
  rw [upd_ne (ne_of_none e h)]
  exact e
theorem Off.put {r : Addr} {H : Hp} {o : HO} : Off r H (upd H r o) := fun b x n e => by
  rw [upd_ne n]
  exact e
theorem Off.mut {r p : Addr} {H H' : Hp} {o : HO} (e : Off r H H') (h : H p = none) : Off r H (upd H' p o) := fun a u n ha => by
  rw [upd_ne (ne_of_none ha h)]
  exact e a u n ha
theorem Off.free {r p : Addr} {H H' : Hp} (e : Off r H H') (hr : r ≠ p) (h : H' p = none) : H p = none := by
  cases q : H p with
  | none => rfl
  | some o =>
    rw [e p o (Ne.symm hr) q] at h
    cases h
theorem RowAt.new {r p : Addr} {H : Hp} {o : HO} (x : RowAt H r) (h : H p = none) : RowAt (upd H p o) r := by
  obtain ⟨a, b, c, e, q⟩ := x
  exact ⟨a, b, c, by rw [upd_ne (ne_of_none e h)]; exact e, q⟩
theorem RowAt.upd {r p : Addr} {H : Hp} {o : HO} (x : RowAt H r) (h : r ≠ p) : RowAt (upd H p o) r := by
  obtain ⟨a, b, c, e, q⟩ := x
  exact ⟨a, b, c, by rw [upd_ne h]; exact e, q⟩
theorem RowAt.ne {r p : Addr} {H : Hp} (x : RowAt H r) (h : H p = none) : r ≠ p := by
  obtain ⟨a, b, c, e, q⟩ := x
  exact ne_of_none e h
theorem RowAt.neT {r p : Addr} {H : Hp} {xs : List V} (x : RowAt H r) (h : H p = some (.tup xs)) : p ≠ r := by
  obtain ⟨a, b, c, e, q⟩ := x
  exact ne_of h e (by intro z; cases z)
theorem same_new {H : Hp} {p : Addr} {o : HO} (h : H p = none) : Same H (upd H p o) := fun b x e => by
  rw [upd_ne (ne_of_none e h)]
  exact e
section
variable {P : Program} {w : World} {K : PySem.W.Frag} {mg : Str → Option Value} {base : Heap}
/-! ### _law_stream -/
def sp_law_stream : Sp := fun vs H Q _ => ∃ c : Int, vs = [.int c] ∧ ∀ H' p, Same H H' → H p = none → RowAt H' p → Q (.ref p) H'
theorem ok_law_stream (T : TX K mg) : FnOk P w K mg base CX0 1 T.a_law_stream T.fd_law_stream ["cell"] sp_law_stream := by
  refine T.F_law_stream.ok sc_law_stream (fun vs H Q E h => ?_) (fun cdv A outer s H vs Q E hr h => ?_)
  · obtain ⟨c, rfl, _⟩ := h
    rfl
  · obtain ⟨c, rfl, q⟩ := h
    refine ⟨_, (pss_cons (ps_set (i := 1) sc_law_stream.nd rfl (Or.inl rfl) (pe_op op_mod (pv 0) pe_int))
      (pss_cons (ps_set (i := 1) sc_law_stream.nd rfl (Or.inl rfl) (pe_op op_mod (pe_op op_add (pe_op op_mul (pe_op op_mod (pe_op op_mul (pv 1) (pv 1)) pe_int) (pe_op op_add (pv 1) pe_int)) pe_int) pe_int))
      (pss_one (ps_ret (pe_lst (pa_cons (pv 0) (pa_cons (pv 1) (pa_cons (pe_callTy call_int1 (by rfl) T.m_int (by decide +kernel) (pa_cons (pe_cmpR op_ge (pv 0) (pe_op op_pow pe_int pe_int) (nomark _)) pa_nil)) pa_nil)))))))), ?_⟩
    have h0 : 0 ≤ c % 536870909 := Int.emod_nonneg _ (by decide)
    have h1 : c % 536870909 < 536870909 := Int.emod_lt_of_pos _ (by decide)
    generalize hl : c % 536870909 = low at h0 h1
    have h2 : 0 ≤ low * low % 536870909 := Int.emod_nonneg _ (by decide)
    have h3 : low * low % 536870909 < 536870909 := Int.emod_lt_of_pos _ (by decide)
    refine ⟨.int c, rfl, c, 536870909, rfl, rfl, (by show (0 : Int) < 536870909; decide), ?_⟩
    refine ⟨.int (c % 536870909), rfl, .int (c % 536870909), rfl, c % 536870909, c % 536870909, rfl, rfl, .inl ⟨by omega, by omega⟩, _, _, rfl, rfl, (by show (0 : Int) < 536870909; decide), .int (c % 536870909), rfl, _, _, rfl, rfl, _, _, rfl, rfl, .inl ⟨?_, ?_⟩, _, _, rfl, rfl, _, _, rfl, rfl, (by show (0 : Int) < 536870909; decide), ?_⟩
    · rw [hl]; omega
    · rw [hl]; omega
    · refine ⟨.int c, rfl, _, rfl, .int c, rfl, 10, 18, rfl, rfl, ⟨by decide, by decide, by decide⟩, c, 10 ^ 18, rfl, rfl, .inr ⟨_, rfl, ?_⟩⟩
      refine ⟨by show 3 ≤ sizeLine; decide, fun p hp => ?_⟩
      exact q _ p (same_new hp) hp ⟨c, _, _, upd_same, Int.emod_nonneg _ (by decide), Int.emod_lt_of_pos _ (by decide)⟩
/-! ### _law_take -/
def sp_law_take : Sp := fun vs H Q _ => ∃ (r : Addr) (n : Int), vs = [.ref r, .int n] ∧ RowAt H r ∧ 0 < n ∧ n < 1073741824 ∧ ∀ H' g, Off r H H' → RowAt H' r → 0 ≤ g → g < n → Q (.int g) H'
theorem ok_law_take (T : TX K mg) : FnOk P w K mg base CX0 1 T.a_law_take T.fd_law_take ["row", "many"] sp_law_take := by
  refine T.F_law_take.ok sc_law_take (fun vs H Q E h => ?_) (fun cdv A outer s H vs Q E hr h => ?_)
  · obtain ⟨r, n, rfl, _⟩ := h
    rfl
  · obtain ⟨r, n, rfl, ⟨a, b, c, hrow, hb0, hb1⟩, hn0, hn1, q⟩ := h
    refine ⟨_, (pss_cons (ps_if (pt_cmpR op_eq (pe_ix (ix_listK K rfl) (pv 0) pe_int (fun _ _ => rfl)) pe_int (nomark _))
        (pss_cons (ps_set (i := 2) sc_law_take.nd rfl (Or.inl rfl) (pe_op op_mod (pe_ix (ix_listK K rfl) (pv 0) pe_int (fun _ _ => rfl)) (pv 1)))
          (pss_cons (ps_asg (pe_op op_fdiv (pe_ix (ix_listK K rfl) (pv 0) pe_int (fun _ _ => rfl)) (pv 1)) (pg_sub (pv 0) pe_int set_list))
          (pss_one (ps_ret (pv 2)))))
        pss_nil)
      (pss_cons (ps_asg (pe_op op_mod (pe_op op_mul (pe_op op_add (pe_ix (ix_listK K rfl) (pv 0) pe_int (fun _ _ => rfl)) pe_int) (pe_op op_add (pe_ix (ix_listK K rfl) (pv 0) pe_int (fun _ _ => rfl)) pe_int)) pe_int) (pg_sub (pv 0) pe_int set_list))
      (pss_one (ps_ret (pe_op op_mod (pe_op op_fdiv (pe_op op_add (pe_op op_mul (pe_ix (ix_listK K rfl) (pv 0) pe_int (fun _ _ => rfl)) pe_int) pe_int) pe_int) (pv 1)))))), ?_⟩
    have sq : SqL K H r [.int a, .int b, .int c] := .inl (.inl hrow)
    refine ⟨.ref r, rfl, r, _, 2, .int c, rfl, rfl, sq, atI_nat (j := 2) rfl, rfl, _, rfl, ite2 (fun e => ?_) (fun e => ?_)⟩
    · refine ⟨.ref r, rfl, r, _, 0, .int a, rfl, rfl, sq, atI_nat (j := 0) rfl, .int n, rfl, a, n, rfl, rfl, hn0, ?_⟩
      refine ⟨.ref r, rfl, r, _, 0, .int a, rfl, rfl, sq, atI_nat (j := 0) rfl, .int n, rfl, a, n, rfl, rfl, ⟨hn0, hn1⟩, ?_⟩
      refine ⟨.ref r, rfl, r, _, 0, 0, rfl, rfl, hrow, rfl, ?_⟩
      refine ⟨.int (a % n), rfl, ?_⟩
      exact q _ _ Off.put ⟨a / n, b, c, upd_same, hb0, hb1⟩ (Int.emod_nonneg _ (by omega)) (Int.emod_lt_of_pos _ hn0)
    · refine ⟨.ref r, rfl, r, _, 1, .int b, rfl, rfl, sq, atI_nat (j := 1) rfl, b, 7919, rfl, rfl, .ref r, rfl, r, _, 1, .int b, rfl, rfl, sq, atI_nat (j := 1) rfl, b, 104729, rfl, rfl, _, _, rfl, rfl, .inl ⟨by omega, by omega⟩, _, _, rfl, rfl, (by show (0 : Int) < 536870909; decide), ?_⟩
      refine ⟨.ref r, rfl, r, _, 1, 1, rfl, rfl, hrow, rfl, ?_⟩
      have g0 : 0 ≤ (b + 7919) * (b + 104729) % 536870909 := Int.emod_nonneg _ (by decide)
      have g1 : (b + 7919) * (b + 104729) % 536870909 < 536870909 := Int.emod_lt_of_pos _ (by decide)
      refine ⟨.ref r, rfl, r, _, 1, _, rfl, rfl, .inl (.inl upd_same), atI_nat (j := 1) rfl, (b + 7919) * (b + 104729) % 536870909, 48271, rfl, rfl, .inl ⟨by omega, by omega⟩, _, _, rfl, rfl, _, 64, rfl, rfl, ⟨by decide, by decide⟩, .int n, rfl, _, n, rfl, rfl, hn0, ?_⟩
      exact q _ _ Off.put ⟨a, _, c, upd_same, g0, g1⟩ (Int.emod_nonneg _ (by omega)) (Int.emod_lt_of_pos _ hn0)
end
end LH

namespace LH
open PySem PySem.Spec PyProof.Rows L2
section
variable {P : Program} {w : World} {K : PySem.W.Frag} {mg : Str → Option Value} {base : Heap}
/-! ### _law_letters -/
def sp_law_letters : Sp := fun vs H Q _ => ∃ r : Addr, vs = [.ref r] ∧ RowAt H r ∧ ∀ H' z, Off r H H' → RowAt H' r → IsLet z → Q (.str z) H'
/-- what is left to be taken, and what was taken -/
structure Lft (n i : Nat) (ls ys : List Nat) : Prop where
  nd : (ys ++ ls).Nodup
  sm : ∀ c ∈ ys ++ ls, 97 ≤ c ∧ c ≤ 122
  ln : n ≤ ls.length + i
  lm : ls.length ≤ 26
  yl : ys.length = i
theorem Lft.pop {n i : Nat} {ls ys : List Nat} (h : Lft n i ls ys) (k : Nat) (hk : k < ls.length) : Lft n (i + 1) (ls.eraseIdx k) (ys ++ [ls[k]]) := by
  have p : (ys ++ ls).Perm ((ys ++ [ls[k]]) ++ ls.eraseIdx k) := by
    rw [List.append_assoc]
    exact List.Perm.append_left ys (erase_perm ls k hk)
  have hl : (ls.eraseIdx k).length = ls.length - 1 := List.length_eraseIdx_of_lt hk
  refine ⟨p.nodup h.nd, fun c hc => h.sm c (p.mem_iff.mpr hc), ?_, ?_, ?_⟩
  · have := h.ln
    omega
  · have := h.lm
    omega
  · rw [List.length_append, h.yl]
    rfl
theorem Lft.start {n : Nat} {ls : List Nat} (nd : ls.Nodup) (sm : ∀ c ∈ ls, 97 ≤ c ∧ c ≤ 122) (ln : n ≤ ls.length) (lm : ls.length ≤ 26) : Lft n 0 ls [] := ⟨nd, sm, ln, lm, rfl⟩
theorem ok_law_letters (T : TX K mg) : FnOk P w K mg base CX0 2 T.a_law_letters T.fd_law_letters ["row"] sp_law_letters := by
  have G_law_take : FnOk P w K mg base CX0 1 T.a_law_take T.fd_law_take ["row", "many"] sp_law_take := ok_law_take T
  refine T.F_law_letters.ok sc_law_letters (fun vs H Q E h => ?_) (fun cdv A outer s H vs Q E hr h => ?_)
  · obtain ⟨r, rfl, _⟩ := h
    rfl
  · obtain ⟨r, rfl, hR, q⟩ := h
    refine ⟨_, (pss_cons (ps_set (i := 1) sc_law_letters.nd rfl (Or.inl rfl) (pe_op op_add pe_int (pe_call G_law_take (hr.mono (by decide)) (by rfl) T.g_law_take T.F_law_take.kp T.b_law_take .nil pass0 (pa_cons (pv 0) (pa_cons pe_int pa_nil)))))
      (pss_cons (ps_set (i := 2) sc_law_letters.nd rfl (Or.inr rfl) (pe_callTy (call_listS rfl) (by rfl) T.m_list (by decide +kernel) (pa_cons pe_str pa_nil)))
      (C8.pss_cut (ps_if (pt_cmpR op_eq (pe_call G_law_take (hr.mono (by decide)) (by rfl) T.g_law_take T.F_law_take.kp T.b_law_take .nil pass0 (pa_cons (pv 0) (pa_cons pe_int pa_nil))) pe_int (nomark _))
        (pss_one (ps_set (i := 2) sc_law_letters.nd rfl (Or.inr rfl) (pe_slice (sl_listK K rfl) (pe_slice (sl_listK K rfl) (pv 2) (po_some (pe_call G_law_take (hr.mono (by decide)) (by rfl) T.g_law_take T.F_law_take.kp T.b_law_take .nil pass0 (pa_cons (pv 0) (pa_cons pe_int pa_nil)))) po_none) po_none (po_some (pv 1)))))
        pss_nil)
      (pss_one (ps_ret (pe_m1 PySem.F.slot_str_join PySem.F.type_str_join (mt_joinK K rfl) pe_str (pe_callB (cr_sortedSK K rfl) (by rfl) T.m_sorted (by decide +kernel) (pa_cons (pe_lc (own := [("k", 3)]) (g := gName 3) (tt := tYes) (by rfl) sc_law_letters.nd (pi_range1 (by rfl) T.m_range (pa_cons (pv 1) pa_nil)) (blkOk_by (own := [("k", 3)]) (N := N_law_letters) (by kernel_rfl)) (fun _ _ _ _ _ => (pg_name (i := 3) sc_law_letters.nd rfl (Or.inl rfl))) (fun _ _ _ _ _ => pts_nil) (fun _ _ _ _ _ => (pe_bmK K rfl PySem.F.plainAttrs_list PySem.F.slot_list_pop PySem.F.type_list_pop mt_popAt (pv 2) (pa_cons (pe_call G_law_take (hr.mono (by decide)) (by rfl) T.g_law_take T.F_law_take.kp T.b_law_take .nil pass0 (pa_cons (pv 0) (pa_cons (pe_callB (call_lenK K rfl) (by rfl) T.m_len (by decide +kernel) (pa_cons (pv 2) pa_nil)) pa_nil))) pa_nil)))) pa_nil)))))))), ?_⟩
    -- many
    refine ⟨.ref r, rfl, r, 5, rfl, hR, by decide, by decide, fun H1 g o1 R1 g0 g5 => ?_⟩
    obtain ⟨m, rfl⟩ : ∃ m : Nat, g = (m : Int) := ⟨g.toNat, by omega⟩
    refine ⟨1, (m : Int), rfl, rfl, ?_⟩
    -- left
    refine ⟨_, rfl, by decide, fun lf nlf => ?_⟩
    rw [sgns_az]
    have R2 := R1.new (o := .lst (vs_ ((List.range 26).map (97 + ·)))) nlf
    have o2 : Off r H (upd H1 lf (.lst (vs_ ((List.range 26).map (97 + ·))))) := o1.trans (Off.new nlf)
    have nr : lf ≠ r := (R1.ne nlf).symm
    have e2 : upd H1 lf (.lst (vs_ ((List.range 26).map (97 + ·)))) lf = some (.lst (vs_ ((List.range 26).map (97 + ·)))) := upd_same
    have free1 : H lf = none := o1.free nr.symm nlf
    generalize upd H1 lf (.lst (vs_ ((List.range 26).map (97 + ·)))) = H2 at R2 o2 e2
    -- if
    refine ⟨fun σ' H' => ∃ l ls, σ' = [some (.ref r), some (.int (1 + m)), some (.ref l), none] ∧ RowAt H' r ∧ Off r H H' ∧ H l = none ∧ l ≠ r ∧ H' l = some (.lst (vs_ ls)) ∧ Lft (m + 1) 0 ls [], ?_, fun σ' H' hM => ?_⟩
    · refine ⟨.ref r, rfl, r, 2, rfl, R2, by decide, by decide, fun H3 g3 o3 R3 a0 a1 => ⟨rfl, _, rfl, ite2 (fun e => ?_) (fun e => ?_)⟩⟩
      · have e3 := o3 _ _ nr e2
        refine ⟨.ref lf, rfl, .ref r, rfl, r, 22, rfl, R3, by decide, by decide, fun H4 g4 o4 R4 b0 b1 => ?_⟩
        obtain ⟨k, rfl⟩ : ∃ k : Nat, g4 = (k : Int) := ⟨g4.toNat, by omega⟩
        have e4 := o4 _ _ nr e3
        refine ⟨_, rfl, lf, _, rfl, .inl (.inl e4), fun p5 n5 => ?_⟩
        refine ⟨_, rfl, _, rfl, p5, _, rfl, .inl (.inl upd_same), fun p6 n6 => ?_⟩
        have f5 : H p5 = none := (o2.trans (o3.trans o4)).free (R4.ne n5) n5
        have R5 := R4.new (o := .lst (cutV (vs_ ((List.range 26).map (97 + ·))) (some (k : Int)) none)) n5
        have f6 : H p6 = none := ((o2.trans (o3.trans o4)).mut f5).free (R5.ne n6) n6
        refine ⟨p6, (((List.range 26).map (97 + ·)).drop k).take (1 + m), rfl, R5.new n6, ((o2.trans (o3.trans o4)).mut f5).mut f6, f6, (R5.ne n6).symm, ?_, ?_⟩
        · rw [upd_same, cutV_map, cut_from, cutV_map]
          show some (HO.lst (vs_ ((List.drop (HT.sIx _ 0 none) _).take (HT.sIx _ _ (some ((1 + m : Nat) : Int)) - _)))) = _
          rw [cut_to]
        · have hs : ((((List.range 26).map (97 + ·)).drop k).take (1 + m)).Sublist ((List.range 26).map (97 + ·)) := (List.take_sublist _ _).trans (List.drop_sublist _ _)
          refine Lft.start (hs.nodup (by decide)) (fun c hc => mem_az (hs.subset hc)) ?_ ?_
          · rw [List.length_take, List.length_drop, List.length_map, List.length_range]
            omega
          · rw [List.length_take, List.length_drop, List.length_map, List.length_range]
            omega
      · exact ⟨lf, (List.range 26).map (97 + ·), rfl, R3, o2.trans o3, free1, nr, o3 _ _ nr e2, Lft.start (by decide) (fun c hc => mem_az hc) (by rw [List.length_map, List.length_range]; omega) (by rw [List.length_map, List.length_range]; omega)⟩
    · obtain ⟨l, ls, rfl, R, o, fl, nl, el, L⟩ := hM
      refine ⟨⟨_, rfl⟩, .int (1 + m), rfl, 1 + m, rfl, by omega, by omega, fun D nD => ?_⟩
      have fD : H D = none := o.free (R.ne nD) nD
      have eD : l ≠ D := ne_of_none el nD
      have rD : r ≠ D := R.ne nD
      refine lc_range (lo := 0) (n := (1 + (m : Int)).toNat) (fun i H' => ∃ ls ys, RowAt H' r ∧ Off r H H' ∧ H' l = some (.lst (vs_ ls)) ∧ H' D = some (.lst (vs_ ys)) ∧ Lft (m + 1) i ls ys) ⟨ls, [], R.new nD, o.mut fD, by rw [upd_ne eD]; exact el, upd_same, L⟩ (fun i H2 hi hW => ?_) (fun H2 hW => ?_)
      · obtain ⟨ls, ys, R, o, el, e2, L⟩ := hW
        refine ⟨rfl, lcyes ?_⟩
        have hlen : 0 < ls.length := by
          have := L.ln
          omega
        have hl26 := L.lm
        refine ⟨.ref l, rfl, .inl ⟨rfl, _, .inl (.inl el)⟩, .ref r, rfl, .ref l, rfl, l, _, rfl, .inl (.inl (.inl el)), r, _, rfl, R, ?_, ?_, fun H3 g o3 R3 g0 g1 => ?_⟩
        · rw [List.length_map]
          omega
        · rw [List.length_map]
          omega
        · rw [List.length_map] at g1
          have hk : g.toNat < ls.length := by omega
          have e3 := o3 _ _ nl el
          have eD3 := o3 _ _ rD.symm e2
          refine ⟨l, _, g, g.toNat, .str (sg ls[g.toNat]), rfl, rfl, e3, by omega, by omega, ?_, ?_, ?_⟩
          · rw [List.length_map]
            exact seqIx g0 g1
          · rw [List.getElem?_map, List.getElem?_eq_getElem hk]
            rfl
          · refine ⟨vs_ ys, by rw [upd_ne eD.symm]; exact eD3, ?_, ls.eraseIdx g.toNat, ys ++ [ls[g.toNat]], (R3.upd nl.symm).upd rD, ((o.trans o3).mut fl).mut fD, ?_, ?_, L.pop _ hk⟩
            · rw [List.length_map, L.yl]
              exact small1000 (by omega)
            · rw [upd_ne eD, upd_same, vs_erase]
            · rw [upd_same, vs_snoc]
      · obtain ⟨ls, ys, R, o, el, e2, L⟩ := hW
        have hy : ys.length ≤ 5 := by
          rw [L.yl]
          omega
        have hyn : ys.length = m + 1 := by
          rw [L.yl]
          omega
        refine ⟨D, ys.map sg, rfl, .inl (.inl (by rw [List.map_map]; exact e2)), by rw [List.length_map]; omega, fun zs p6 perm srt n6 => ?_⟩
        obtain ⟨ds, rfl, pd⟩ := perm_sg perm
        have f6 : H p6 = none := o.free (R.ne n6) n6
        have hdn : ds.length = ys.length := pd.length_eq
        refine ⟨⟨#[]⟩, p6, ds.map sg, rfl, rfl, .inl (.inl (.inl upd_same)), ?_, ?_⟩
        · rw [List.length_map, List.map_map]
          have : (ds.map ((fun x : Str => x.length) ∘ sg)).sum = ds.length := by
            rw [show ((fun x : Str => x.length) ∘ sg) = fun _ => 1 from rfl, List.map_const', List.sum_replicate_nat]
            omega
          rw [this]
          show ds.length + ds.length * 0 ≤ 16777216
          omega
        · rw [join_sg]
          have nd : ds.Nodup := pd.symm.nodup (List.Nodup.sublist (List.sublist_append_left ys ls) L.nd)
          refine q _ _ (o.mut f6) (R.new n6) ⟨?_, ?_, ?_, fun c hc => ?_⟩
          · show 1 ≤ ds.toArray.size
            rw [List.size_toArray]
            omega
          · show ds.toArray.size ≤ 5
            rw [List.size_toArray]
            omega
          · exact rise_of (sortedS_sg srt) nd
          · exact L.sm c (List.mem_append_left _ (pd.mem_iff.mp hc))
end
end LH

namespace LH
open PySem PySem.Spec PyProof.Rows L2
/-! ### machines in the heap -/
abbrev vi (ns : List Nat) : List V := ns.map fun (n : Nat) => V.int (n : Int)
theorem vi_snoc (ys : List Nat) (c : Nat) : vi ys ++ [V.int (c : Int)] = vi (ys ++ [c]) := by
  show _ = List.map _ (ys ++ [c])
  rw [List.map_append]
  rfl
abbrev vr (as : List Addr) : List V := as.map V.ref
theorem vr_snoc (ys : List Addr) (c : Addr) : vr ys ++ [V.ref c] = vr (ys ++ [c]) := by
  show _ = List.map _ (ys ++ [c])
  rw [List.map_append]
  rfl
structure Mach where
  z : Str
  rows : List (List Nat)
  ends : List Nat
structure Mach.Ok (M : Mach) : Prop where
  let_ : IsLet M.z
  many : 1 ≤ M.rows.length
  row : ∀ r ∈ M.rows, r.length = M.z.length ∧ ∀ t ∈ r, t < M.rows.length
  endl : ∀ e ∈ M.ends, e < M.rows.length
  rise : M.ends.Pairwise (· < ·)
def RowsAt (H : Hp) (as : List Addr) (rows : List (List Nat)) : Prop := as.length = rows.length ∧ ∀ (i : Nat) (a : Addr) (row : List Nat), as[i]? = some a → rows[i]? = some row → H a = some (.tup (vi row))
def MachAt (H : Hp) (p : Addr) (M : Mach) : Prop := ∃ t e as, H p = some (.tup [.str M.z, .ref t, .ref e]) ∧ H t = some (.tup (vr as)) ∧ RowsAt H as M.rows ∧ H e = some (.tup (vi M.ends))
/-- tuples stand -/
def Tups (H H' : Hp) : Prop := ∀ b xs, H b = some (.tup xs) → H' b = some (.tup xs)
theorem Tups.refl (H : Hp) : Tups H H := fun _ _ h => h
theorem Tups.trans {H H1 H2 : Hp} (a : Tups H H1) (b : Tups H1 H2) : Tups H H2 := fun c o h => b c o (a c o h)
theorem Tups.same {H H' : Hp} (a : Same H H') : Tups H H' := fun c _ h => a c _ h
theorem Tups.off {r : Addr} {H H' : Hp} (R : RowAt H r) (a : Off r H H') : Tups H H' := fun c _ h => a c _ (R.neT h) h
theorem Tups.new {p : Addr} {H : Hp} {o : HO} (h : H p = none) : Tups H (upd H p o) := Tups.same (same_new h)
theorem Tups.lst {p : Addr} {H : Hp} {xs : List V} {o : HO} (h : H p = some (.lst xs)) : Tups H (upd H p o) := fun c ys e => by
  rw [upd_ne (ne_of e h (by intro z; cases z))]
  exact e
theorem RowsAt.mono {H H' : Hp} {as : List Addr} {rows : List (List Nat)} (t : Tups H H') (h : RowsAt H as rows) : RowsAt H' as rows := ⟨h.1, fun i a row x y => t _ _ (h.2 i a row x y)⟩
theorem MachAt.mono {H H' : Hp} {p : Addr} {M : Mach} (t : Tups H H') (h : MachAt H p M) : MachAt H' p M := by
  obtain ⟨a, b, c, h1, h2, h3, h4⟩ := h
  exact ⟨a, b, c, t _ _ h1, t _ _ h2, h3.mono t, t _ _ h4⟩
theorem RowsAt.snoc {H : Hp} {as : List Addr} {rows : List (List Nat)} {a : Addr} {row : List Nat} (h : RowsAt H as rows) (ha : H a = some (.tup (vi row))) : RowsAt H (as ++ [a]) (rows ++ [row]) := by
  refine ⟨by rw [List.length_append, List.length_append, h.1]; rfl, fun i b r x y => ?_⟩
  by_cases hi : i < as.length
  · rw [List.getElem?_append_left hi] at x
    rw [List.getElem?_append_left (by rw [← h.1]; exact hi)] at y
    exact h.2 i b r x y
  · rw [List.getElem?_append_right (by omega)] at x
    rw [List.getElem?_append_right (by rw [← h.1]; omega), ← h.1] at y
    have e : i - as.length = 0 := by
      cases q : i - as.length with
      | zero => rfl
      | succ k =>
        rw [q] at x
        simp at x
    rw [e] at x y
    cases x
    cases y
    exact ha
theorem mem_snoc {α : Type} {p : α → Prop} {xs : List α} {x : α} (h : ∀ y ∈ xs, p y) (hx : p x) : ∀ y ∈ xs ++ [x], p y := fun y hy => by
  rcases List.mem_append.mp hy with q | q
  · exact h y q
  · rw [List.mem_singleton.mp q]
    exact hx
section
variable {P : Program} {w : World} {K : PySem.W.Frag} {mg : Str → Option Value} {base : Heap}
/-! ### _law_machine -/
def sp_law_machine : Sp := fun vs H Q _ => ∃ (r : Addr) (z : Str) (most : Nat), vs = [.ref r, .str z, .int (most : Int)] ∧ RowAt H r ∧ IsLet z ∧ 1 ≤ most ∧ most ≤ 1000 ∧
  ∀ H' p (M : Mach), Off r H H' → RowAt H' r → MachAt H' p M → M.Ok → M.z = z → M.rows.length ≤ most → Q (.ref p) H'
theorem ok_law_machine (T : TX K mg) : FnOk P w K mg base CX0 2 T.a_law_machine T.fd_law_machine ["row", "letters", "most"] sp_law_machine := by
  have G_law_take : FnOk P w K mg base CX0 1 T.a_law_take T.fd_law_take ["row", "many"] sp_law_take := ok_law_take T
  refine T.F_law_machine.ok sc_law_machine (fun vs H Q E h => ?_) (fun cdv A outer s H vs Q E hr h => ?_)
  · obtain ⟨r, z, most, rfl, _⟩ := h
    rfl
  · obtain ⟨r, z, most, rfl, hR, hz, hm1, hm2, q⟩ := h
    refine ⟨_, (pss_cons (ps_set (i := 3) sc_law_machine.nd rfl (Or.inr rfl) (pe_op op_add pe_int (pe_call G_law_take (hr.mono (by decide)) (by rfl) T.g_law_take T.F_law_take.kp T.b_law_take .nil pass0 (pa_cons (pv 0) (pa_cons (pv 2) pa_nil)))))
      (pss_cons (ps_setLc (i := 4) (own := [("state", 6)]) (g := gName 6) (tt := tYes) (by rfl) sc_law_machine.nd rfl rfl (sw_true rfl rfl rfl (by decide +kernel)) (pi_range1 (by rfl) T.m_range (pa_cons (pv 3) pa_nil)) (blkOk_by (own := [("state", 6)]) (N := N_law_machine) (by kernel_rfl)) (fun _ _ _ _ _ => (pg_name (i := 6) sc_law_machine.nd rfl (Or.inl rfl))) (fun _ _ _ _ _ => pts_nil) (fun _ _ _ _ _ => (pe_callTy (call_tupleK K rfl) (by rfl) T.m_tuple (by decide +kernel) (pa_cons (pe_lc (own := [("sign", 7)]) (g := gName 7) (tt := tYes) (by rfl) sc_law_machine.nd (pi_str (pv 1)) (blkOk_by (own := [("sign", 7)]) (N := N_law_machine) (by kernel_rfl)) (fun _ _ _ _ _ => (pg_name (i := 7) sc_law_machine.nd rfl (Or.inl rfl))) (fun _ _ _ _ _ => pts_nil) (fun _ _ _ _ _ => (pe_call G_law_take (hr.mono (by decide)) (by rfl) T.g_law_take T.F_law_take.kp T.b_law_take .nil pass0 (pa_cons (pv 0) (pa_cons (pv 3) pa_nil))))) pa_nil))))
      (pss_cons (ps_setLc (i := 5) (own := [("state", 6)]) (g := gName 6) (by rfl) sc_law_machine.nd rfl rfl (sw_true rfl rfl rfl (by decide +kernel)) (pi_range1 (by rfl) T.m_range (pa_cons (pv 3) pa_nil)) (blkOk_by (own := [("state", 6)]) (N := N_law_machine) (by kernel_rfl)) (fun _ _ _ _ _ => (pg_name (i := 6) sc_law_machine.nd rfl (Or.inl rfl))) (fun _ _ _ _ _ => (pts_one (pt_cmpR op_eq (pe_call G_law_take (hr.mono (by decide)) (by rfl) T.g_law_take T.F_law_take.kp T.b_law_take .nil pass0 (pa_cons (pv 0) (pa_cons pe_int pa_nil))) pe_int (nomark _)))) (fun _ _ _ _ _ => (pv 6)))
      (pss_one (ps_ret (pe_tup (pa_cons (pv 1) (pa_cons (pe_callTy (call_tupleK K rfl) (by rfl) T.m_tuple (by decide +kernel) (pa_cons (pv 4) pa_nil)) (pa_cons (pe_callTy (call_tupleK K rfl) (by rfl) T.m_tuple (by decide +kernel) (pa_cons (pv 5) pa_nil)) pa_nil))))))))), ?_⟩
    -- many
    refine ⟨.ref r, rfl, .int (most : Int), rfl, r, (most : Int), rfl, hR, by omega, by omega, fun H1 g o1 R1 g0 g1 => ?_⟩
    obtain ⟨m, rfl⟩ : ∃ m : Nat, g = (m : Int) := ⟨g.toNat, by omega⟩
    refine ⟨1, (m : Int), rfl, rfl, ?_⟩
    -- table
    refine ⟨.int (1 + m), rfl, 1 + m, rfl, by omega, by omega, fun D nD => ?_⟩
    have fD : H D = none := o1.free (R1.ne nD) nD
    have rD : r ≠ D := R1.ne nD
    refine lc_range (lo := 0) (n := (1 + (m : Int)).toNat) (fun i H' => ∃ as rows, RowAt H' r ∧ Off r H H' ∧ H' D = some (.lst (vr as)) ∧ RowsAt H' as rows ∧ rows.length = i ∧ ∀ row ∈ rows, row.length = z.length ∧ ∀ t ∈ row, t < m + 1) ⟨[], [], R1.new nD, o1.mut fD, upd_same, ⟨rfl, fun i a row x => by simp at x⟩, rfl, fun _ h => nomatch h⟩ (fun i H2 hi hW => ?_) (fun H2 hW => ?_)
    · obtain ⟨as, rows, R2, o2, e2, ra, rl, ro⟩ := hW
      refine ⟨rfl, lcyes ?_⟩
      -- tuple([take for sign in letters])
      refine ⟨.str z, rfl, z, rfl, fun D2 n2 => ?_⟩
      have f2 : H D2 = none := o2.free (R2.ne n2) n2
      have r2 : r ≠ D2 := R2.ne n2
      have d2 : D ≠ D2 := ne_of_none e2 n2
      refine lc_it walk_str (fun j H' => ∃ row, RowAt H' r ∧ Off r H H' ∧ H' D = some (.lst (vr as)) ∧ RowsAt H' as rows ∧ H' D2 = some (.lst (vi row)) ∧ row.length = j ∧ ∀ t ∈ row, t < m + 1) ⟨[], R2.new n2, o2.mut f2, by rw [upd_ne d2]; exact e2, ra.mono (Tups.new n2), upd_same, rfl, fun _ h => nomatch h⟩ (fun _ _ _ _ => trivial) (fun j x H3 H3' hj hW hY => ?_) (fun H3 hW => ?_)
      · obtain ⟨row, R3, o3, e3, ra3, w3, l3, t3⟩ := hW
        obtain ⟨rfl, c, hc, rfl⟩ := hY
        refine ⟨rfl, lcyes ?_⟩
        refine ⟨.ref r, rfl, .int (1 + m), rfl, r, 1 + (m : Int), rfl, R3, by omega, by omega, fun H4 g o4 R4 a0 a1 => ?_⟩
        obtain ⟨k, rfl⟩ : ∃ k : Nat, g = (k : Int) := ⟨g.toNat, by omega⟩
        refine ⟨vi row, o4 _ _ r2.symm w3, ?_, row ++ [k], R4.upd r2, (o3.trans o4).mut f2, ?_, ?_, ?_, ?_, mem_snoc t3 (by omega)⟩
        · rw [List.length_map, l3]
          refine small1000 ?_
          have := hz.five
          have : j < z.length := hj
          omega
        · rw [upd_ne d2]
          exact o4 _ _ rD.symm e3
        · exact (ra3.mono (Tups.off R3 o4)).mono (Tups.lst (o4 _ _ r2.symm w3))
        · rw [upd_same, vi_snoc]
        · rw [List.length_append, l3]
          rfl
      · obtain ⟨row, R3, o3, e3, ra3, w3, l3, t3⟩ := hW
        refine ⟨D2, _, rfl, .inl ⟨.inl (.inl w3), fun p4 n4 => ?_⟩⟩
        have f4 : H p4 = none := o3.free (R3.ne n4) n4
        have d4 : D ≠ p4 := ne_of_none e3 n4
        have ha : (upd H3 p4 (.tup (vi row))) p4 = some (.tup (vi row)) := upd_same
        refine ⟨vr as, by rw [upd_ne d4]; exact e3, ?_, as ++ [p4], rows ++ [row], (R3.new n4).upd rD, (o3.mut f4).mut fD, ?_, ?_, ?_, mem_snoc ro ⟨l3, t3⟩⟩
        · rw [List.length_map, ra3.1, rl]
          exact small1000 (by omega)
        · rw [upd_same, vr_snoc]
        · exact ((ra3.mono (Tups.new n4)).snoc ha).mono (Tups.lst (xs := vr as) (by rw [upd_ne d4]; exact e3))
        · rw [List.length_append, rl]
          rfl
    · obtain ⟨as, rows, R2, o2, e2, ra, rl, ro⟩ := hW
      have hrl : rows.length = m + 1 := by
        rw [rl]
        omega
      -- ends
      refine ⟨.int (1 + m), rfl, 1 + m, rfl, by omega, by omega, fun D2 n2 => ?_⟩
      have f2 : H D2 = none := o2.free (R2.ne n2) n2
      have r2 : r ≠ D2 := R2.ne n2
      have d2 : D ≠ D2 := ne_of_none e2 n2
      refine lc_range (lo := 0) (n := (1 + (m : Int)).toNat) (fun i H' => ∃ es, RowAt H' r ∧ Off r H H' ∧ H' D = some (.lst (vr as)) ∧ RowsAt H' as rows ∧ H' D2 = some (.lst (vi es)) ∧ es.length ≤ i ∧ (∀ e ∈ es, e < i) ∧ es.Pairwise (· < ·)) ⟨[], R2.new n2, o2.mut f2, by rw [upd_ne d2]; exact e2, ra.mono (Tups.new n2), upd_same, Nat.le_refl _, (fun _ h => nomatch h), List.Pairwise.nil⟩ (fun i H3 hi hW => ?_) (fun H3 hW => ?_)
      · obtain ⟨es, R3, o3, e3, ra3, w3, l3, t3, p3⟩ := hW
        refine ⟨rfl, .ref r, rfl, r, 2, rfl, R3, by decide, by decide, fun H4 g o4 R4 a0 a1 => ⟨rfl, _, rfl, ite2 (fun _ => ?_) (fun _ => ?_)⟩⟩
        · refine ⟨.int (0 + (i : Int)), rfl, vi es, o4 _ _ r2.symm w3, ?_, es ++ [i], R4.upd r2, (o3.trans o4).mut f2, ?_, ?_, ?_, ?_, mem_snoc (fun y hy => Nat.lt_succ_of_lt (t3 y hy)) (Nat.lt_succ_self i), ?_⟩
          · rw [List.length_map]
            exact small1000 (by omega)
          · rw [upd_ne d2]
            exact o4 _ _ rD.symm e3
          · exact (ra3.mono (Tups.off R3 o4)).mono (Tups.lst (o4 _ _ r2.symm w3))
          · rw [upd_same, Int.zero_add, vi_snoc]
          · rw [List.length_append]
            show es.length + 1 ≤ i + 1
            omega
          · refine List.pairwise_append.mpr ⟨p3, by simp, fun a ha b hb => ?_⟩
            rw [List.mem_singleton.mp hb]
            exact t3 a ha
        · exact ⟨es, R4, o3.trans o4, o4 _ _ rD.symm e3, ra3.mono (Tups.off R3 o4), o4 _ _ r2.symm w3, by omega, fun y hy => Nat.lt_succ_of_lt (t3 y hy), p3⟩
      · obtain ⟨es, R3, o3, e3, ra3, w3, l3, t3, p3⟩ := hW
        -- return (letters, tuple(table), tuple(ends))
        refine ⟨.str z, rfl, .ref D, rfl, D, _, rfl, .inl ⟨.inl (.inl e3), fun p4 n4 => ?_⟩⟩
        have f4 : H p4 = none := o3.free (R3.ne n4) n4
        have w4 : (upd H3 p4 (.tup (vr as))) D2 = some (.lst (vi es)) := by
          rw [upd_ne (ne_of_none w3 n4)]
          exact w3
        refine ⟨.ref D2, rfl, D2, _, rfl, .inl ⟨.inl (.inl w4), fun p5 n5 => ?_⟩⟩
        have R4 := R3.new (o := .tup (vr as)) n4
        have R5 := R4.new (o := .tup (vi es)) n5
        have f5 : H p5 = none := (o3.mut f4).free (R4.ne n5) n5
        refine ⟨by show 3 ≤ sizeLine; decide, fun p6 n6 => ?_⟩
        have f6 : H p6 = none := ((o3.mut f4).mut f5).free (R5.ne n6) n6
        have t4 : Tups H3 (upd (upd (upd H3 p4 (.tup (vr as))) p5 (.tup (vi es))) p6 (.tup [.str z, .ref p4, .ref p5])) := ((Tups.new n4).trans (Tups.new n5)).trans (Tups.new n6)
        refine q _ p6 ⟨z, rows, es⟩ (((o3.mut f4).mut f5).mut f6) (R5.new n6) ⟨p4, p5, as, upd_same, ?_, ra3.mono t4, ?_⟩ ⟨hz, by show 1 ≤ rows.length; omega, ?_, ?_, p3⟩ rfl (by show rows.length ≤ most; omega)
        · exact ((Tups.new n5).trans (Tups.new n6)) _ _ upd_same
        · exact (Tups.new n6) _ _ upd_same
        · intro row hrow
          have := ro row hrow
          refine ⟨this.1, fun t ht => ?_⟩
          have := this.2 t ht
          show t < rows.length
          omega
        · intro e he
          have := t3 e he
          show e < rows.length
          omega
/-! ### _law_word -/
def sp_law_word : Sp := fun vs H Q _ => ∃ (r : Addr) (z : Str) (most : Nat), vs = [.ref r, .str z, .int (most : Int)] ∧ RowAt H r ∧ IsLet z ∧ most ≤ 1000 ∧
  ∀ H' (cs : List Nat), Off r H H' → RowAt H' r → cs.length ≤ most → (∀ c ∈ cs, c ∈ z.cps.toList) → Q (.str ⟨cs.toArray⟩) H'
theorem ok_law_word (T : TX K mg) : FnOk P w K mg base CX0 2 T.a_law_word T.fd_law_word ["row", "letters", "most"] sp_law_word := by
  have G_law_take : FnOk P w K mg base CX0 1 T.a_law_take T.fd_law_take ["row", "many"] sp_law_take := ok_law_take T
  refine T.F_law_word.ok sc_law_word (fun vs H Q E h => ?_) (fun cdv A outer s H vs Q E hr h => ?_)
  · obtain ⟨r, z, most, rfl, _⟩ := h
    rfl
  · obtain ⟨r, z, most, rfl, hR, hz, hm, q⟩ := h
    refine ⟨_, (pss_one (ps_ret (pe_m1 PySem.F.slot_str_join PySem.F.type_str_join (mt_joinK K rfl) pe_str (pe_lc (own := [("k", 3)]) (g := gName 3) (tt := tYes) (by rfl) sc_law_word.nd (pi_range1 (by rfl) T.m_range (pa_cons (pe_call G_law_take (hr.mono (by decide)) (by rfl) T.g_law_take T.F_law_take.kp T.b_law_take .nil pass0 (pa_cons (pv 0) (pa_cons (pe_op op_add (pv 2) pe_int) pa_nil))) pa_nil)) (blkOk_by (own := [("k", 3)]) (N := N_law_word) (by kernel_rfl)) (fun _ _ _ _ _ => (pg_name (i := 3) sc_law_word.nd rfl (Or.inl rfl))) (fun _ _ _ _ _ => pts_nil) (fun _ _ _ _ _ => (pe_ix ix_str (pv 1) (pe_call G_law_take (hr.mono (by decide)) (by rfl) T.g_law_take T.F_law_take.kp T.b_law_take .nil pass0 (pa_cons (pv 0) (pa_cons (pe_callB call_len_str (by rfl) T.m_len (by decide +kernel) (pa_cons (pv 1) pa_nil)) pa_nil))) (fun _ _ => rfl))))))), ?_⟩
    have h1 := hz.one
    have h5 := hz.five
    refine ⟨⟨_, rfl⟩, .ref r, rfl, .int (most : Int), rfl, (most : Int), 1, rfl, rfl, r, (most : Int) + 1, rfl, hR, by omega, by omega, fun H1 g o1 R1 g0 g1 => ?_⟩
    obtain ⟨m, rfl⟩ : ∃ m : Nat, g = (m : Int) := ⟨g.toNat, by omega⟩
    refine ⟨m, rfl, by omega, by omega, fun D nD => ?_⟩
    have fD : H D = none := o1.free (R1.ne nD) nD
    have rD : r ≠ D := R1.ne nD
    refine lc_range (lo := 0) (n := (m : Int).toNat) (fun i H' => ∃ cs, RowAt H' r ∧ Off r H H' ∧ H' D = some (.lst (vs_ cs)) ∧ cs.length = i ∧ ∀ c ∈ cs, c ∈ z.cps.toList) ⟨[], R1.new nD, o1.mut fD, upd_same, rfl, fun _ h => nomatch h⟩ (fun i H2 hi hW => ?_) (fun H2 hW => ?_)
    · obtain ⟨cs, R2, o2, e2, l2, c2⟩ := hW
      refine ⟨rfl, lcyes ?_⟩
      refine ⟨.str z, rfl, .ref r, rfl, .str z, rfl, z, rfl, Nat.le_trans h5 (by decide), r, (z.length : Int), rfl, R2, by omega, by omega, fun H3 g o3 R3 a0 a1 => ?_⟩
      obtain ⟨k, rfl⟩ : ∃ k : Nat, g = (k : Int) := ⟨g.toNat, by omega⟩
      have hk : k < z.cps.toList.length := by
        rw [Array.length_toList]
        have : (k : Int) < (z.cps.size : Nat) := a1
        omega
      refine ⟨z, (k : Int), z.cps.toList[k], rfl, rfl, Nat.le_trans h5 (by decide), ?_, vs_ cs, o3 _ _ rD.symm e2, ?_, cs ++ [z.cps.toList[k]], R3.upd rD, (o2.trans o3).mut fD, ?_, ?_, mem_snoc c2 (List.getElem_mem hk)⟩
      · exact atI_nat (List.getElem?_eq_getElem hk)
      · rw [List.length_map]
        exact Nat.lt_of_lt_of_le (show cs.length < 2000 by omega) (by decide)
      · rw [upd_same, vs_snoc]
      · rw [List.length_append, l2]
        rfl
    · obtain ⟨cs, R2, o2, e2, l2, c2⟩ := hW
      refine ⟨⟨#[]⟩, D, cs.map sg, rfl, rfl, .inl (.inl (.inl (by rw [List.map_map]; exact e2))), ?_, ?_⟩
      · rw [List.length_map, List.map_map]
        have : (cs.map ((fun x : Str => x.length) ∘ sg)).sum = cs.length := by
          rw [show ((fun x : Str => x.length) ∘ sg) = fun _ => 1 from rfl, List.map_const', List.sum_replicate_nat]
          omega
        rw [this]
        show cs.length + cs.length * 0 ≤ 16777216
        omega
      · rw [join_sg]
        exact q _ _ o2 R2 (by omega) c2
end
end LH

namespace LH
open PySem PySem.Spec PyProof.Rows L2
/-! ### what a machine has -/
def Mach.step (M : Mach) (s c : Nat) : Nat := (M.rows.getD s []).getD (M.z.cps.toList.idxOf c) 0
def Mach.run (M : Mach) (cs : List Nat) : Nat := cs.foldl M.step 0
def Mach.has (M : Mach) (cs : List Nat) : Bool := decide (M.run cs ∈ M.ends)
theorem inV_vi (n : Nat) : ∀ ns : List Nat, inV (.int (n : Int)) (vi ns) = decide (n ∈ ns)
  | [] => rfl
  | a :: r => by
    show (((a : Int) == (n : Int)) || inV (.int (n : Int)) (vi r)) = _
    rw [inV_vi n r]
    by_cases e : a = n
    · subst e
      simp
    · have e1 : ((a : Int) == (n : Int)) = false := beq_eq_false_iff_ne.mpr (by omega)
      have e2 : ¬ n = a := fun q => e q.symm
      rw [e1]
      simp [e2]
theorem flat_vi : ∀ ns : List Nat, (vi ns).all flatV = true
  | [] => rfl
  | _ :: r => flat_vi r
theorem idx_lt {z : Str} {c : Nat} (h : c ∈ z.cps.toList) : z.cps.toList.idxOf c < z.length := by
  have := List.idxOf_lt_length_iff.mpr h
  rw [Array.length_toList] at this
  exact this
theorem Mach.Ok.row_at {M : Mach} (k : M.Ok) {s : Nat} (h : s < M.rows.length) : ∃ row, M.rows[s]? = some row ∧ M.rows.getD s [] = row ∧ row.length = M.z.length ∧ ∀ t ∈ row, t < M.rows.length := by
  refine ⟨M.rows[s], List.getElem?_eq_getElem h, ?_, k.row _ (List.getElem_mem h)⟩
  rw [List.getD_eq_getElem?_getD, List.getElem?_eq_getElem h]
  rfl
theorem Mach.Ok.step_at {M : Mach} (k : M.Ok) {s c : Nat} (h : s < M.rows.length) (hc : c ∈ M.z.cps.toList) : ∃ row, M.rows[s]? = some row ∧ row[M.z.cps.toList.idxOf c]? = some (M.step s c) ∧ M.step s c < M.rows.length := by
  obtain ⟨row, e, g, l, t⟩ := k.row_at h
  have hi : M.z.cps.toList.idxOf c < row.length := by
    rw [l]
    exact idx_lt hc
  have es : M.step s c = row[M.z.cps.toList.idxOf c] := by
    unfold Mach.step
    rw [g, List.getD_eq_getElem?_getD, List.getElem?_eq_getElem hi]
    rfl
  refine ⟨row, e, ?_, ?_⟩
  · rw [es, List.getElem?_eq_getElem hi]
  · rw [es]
    exact t _ (List.getElem_mem hi)
theorem Mach.Ok.run_lt {M : Mach} (k : M.Ok) : ∀ (cs : List Nat) (s : Nat), s < M.rows.length → (∀ c ∈ cs, c ∈ M.z.cps.toList) → cs.foldl M.step s < M.rows.length
  | [], _, h, _ => h
  | c :: r, s, h, hc => by
    obtain ⟨_, _, _, q⟩ := k.step_at h (hc c (List.mem_cons_self ..))
    exact Mach.Ok.run_lt k r _ q fun d hd => hc d (List.mem_cons_of_mem _ hd)
theorem run_snoc (M : Mach) {cs : List Nat} {i c : Nat} (h : cs[i]? = some c) : M.run (cs.take (i + 1)) = M.step (M.run (cs.take i)) c := by
  rw [List.take_add_one, h]
  unfold Mach.run
  rw [List.foldl_append]
  rfl
theorem RowsAt.get {H : Hp} {as : List Addr} {rows : List (List Nat)} {s : Nat} {row : List Nat} (h : RowsAt H as rows) (e : rows[s]? = some row) : ∃ a, as[s]? = some a ∧ (vr as)[s]? = some (.ref a) ∧ H a = some (.tup (vi row)) := by
  have hs : s < as.length := by
    rw [h.1]
    exact (List.getElem?_eq_some_iff.mp e).1
  refine ⟨as[s], List.getElem?_eq_getElem hs, ?_, h.2 s _ _ (List.getElem?_eq_getElem hs) e⟩
  rw [List.getElem?_map, List.getElem?_eq_getElem hs]
  rfl
section
variable {P : Program} {w : World} {K : PySem.W.Frag} {mg : Str → Option Value} {base : Heap}
def sp_has : Sp := fun vs H Q _ => ∃ (m : Addr) (word : Str) (M : Mach), vs = [.ref m, .str word] ∧ MachAt H m M ∧ M.Ok ∧ (∀ c ∈ word.cps.toList, c ∈ M.z.cps.toList) ∧ Q (.bl (M.has word.cps.toList)) H
theorem ok_has (T : TX K mg) : FnOk P w K mg base CX0 1 T.a_has T.fd_has ["machine", "word"] sp_has := by
  refine T.F_has.ok sc_has (fun vs H Q E h => ?_) (fun cdv A outer s H vs Q E hr h => ?_)
  · obtain ⟨m, word, M, rfl, _⟩ := h
    rfl
  · obtain ⟨m, word, M, rfl, ⟨t, e, as, h1, h2, h3, h4⟩, k, hw, q⟩ := h
    refine ⟨_, (pss_cons (ps_asg (pv 0) (pg_tupK K rfl (by rfl) (pgs_cons (pg_name (i := 2) sc_has.nd rfl (Or.inl rfl)) (pgs_cons (pg_name (i := 3) sc_has.nd rfl (Or.inl rfl)) (pgs_cons (pg_name (i := 4) sc_has.nd rfl (Or.inl rfl)) pgs_nil)))))
      (pss_cons (ps_set (i := 5) sc_has.nd rfl (Or.inl rfl) pe_int)
      (pss_cons (ps_for PassesOwn.never rfl (pi_str (pv 1)) (pg_name (i := 6) sc_has.nd rfl (Or.inl rfl))
        (pss_cons (ps_set (i := 7) sc_has.nd rfl (Or.inl rfl) (pe_m1 PySem.F.slot_str_find PySem.F.type_str_find mt_find (pv 2) (pv 6)))
          (pss_cons (ps_if (pt_cmpR op_lt (pv 7) pe_int (nomark _))
            (pss_one (ps_ret pe_bl))
            pss_nil)
          (pss_one (ps_set (i := 5) sc_has.nd rfl (Or.inl rfl) (pe_ix (ix_tupK K rfl) (pe_ix (ix_tupK K rfl) (pv 3) (pv 5) (fun _ _ => rfl)) (pv 7) (fun _ _ => rfl)))))))
      (pss_one (ps_ret (pe_cmpR (op_in_seqK K rfl) (pv 5) (pv 4) (by rfl))))))), ?_⟩
    refine ⟨.ref m, rfl, m, [.str M.z, .ref t, .ref e], rfl, .inl (.inl h1), rfl, .str M.z, _, rfl, .ref t, _, rfl, .ref e, [], rfl, rfl, ?_⟩
    refine ⟨.str word, rfl, word, rfl, ?_⟩
    refine for_it walk_str (fun i σ H' => H' = H ∧ ∃ y6 y7, σ = [some (.ref m), some (.str word), some (.str M.z), some (.ref t), some (.ref e), some (.int (M.run (word.cps.toList.take i) : Nat)), y6, y7]) ⟨rfl, none, none, rfl⟩ (fun _ _ _ _ _ => trivial) (fun i x σ H1 H1' hi hW hY => ?_) (fun σ H1 hW => ?_)
    · obtain ⟨rfl, y6, y7, rfl⟩ := hW
      obtain ⟨rfl, c, hc, rfl⟩ := hY
      have hc' : word.cps.toList[i]? = some c := by
        rw [Array.getElem?_toList]
        exact hc
      have hcz := hw c (List.mem_of_getElem? hc')
      have hs : M.run (word.cps.toList.take i) < M.rows.length := k.run_lt _ _ k.many fun d hd => hw d (List.mem_of_mem_take hd)
      obtain ⟨row, er, ei, _⟩ := k.step_at hs hcz
      obtain ⟨a, _, ea, ha⟩ := h3.get er
      refine ⟨.str M.z, rfl, ⟨_, rfl⟩, .str (sg c), rfl, M.z, sg c, rfl, rfl, ?_⟩
      rw [find_sign hcz]
      refine ⟨.int (M.z.cps.toList.idxOf c : Nat), rfl, _, 0, rfl, rfl, _, rfl, ite2 (fun z => ?_) (fun z => ?_)⟩
      · have := of_decide_eq_true z
        omega
      · refine ⟨.ref t, rfl, .int (M.run (word.cps.toList.take i) : Nat), rfl, t, _, _, _, rfl, rfl, .inl (.inl h2), atI_nat ea, .int (M.z.cps.toList.idxOf c : Nat), rfl, a, _, _, .int (M.step (M.run (word.cps.toList.take i)) c : Nat), rfl, rfl, .inl (.inl ha), atI_nat ?_, rfl, some (.str (sg c)), some (.int (M.z.cps.toList.idxOf c : Nat)), ?_⟩
        · rw [List.getElem?_map, ei]
          rfl
        · rw [run_snoc M hc']
          rfl
    · obtain ⟨rfl, y6, y7, rfl⟩ := hW
      have et : word.cps.toList.take word.cps.size = word.cps.toList := List.take_of_length_le (by rw [Array.length_toList]; exact Nat.le_refl _)
      rw [et]
      refine ⟨.int (M.run word.cps.toList : Nat), rfl, .ref e, rfl, e, _, rfl, .inr (.inl (.inl h4)), rfl, flat_vi _, ?_⟩
      show Q (.bl (inV _ _)) _
      rw [inV_vi]
      exact q
/-! ### _law_truth -/
def sp_law_truth : Sp := fun vs H Q _ => ∃ a b : Bool, vs = [.bl a, .bl b] ∧ Q (.bl (decide (a = b))) H
theorem ok_law_truth (T : TX K mg) : FnOk P w K mg base CX0 1 T.a_law_truth T.fd_law_truth ["found", "due"] sp_law_truth := by
  refine T.F_law_truth.ok sc_law_truth (fun vs H Q E h => ?_) (fun cdv A outer s H vs Q E hr h => ?_)
  · obtain ⟨a, b, rfl, _⟩ := h
    rfl
  · obtain ⟨a, b, rfl, q⟩ := h
    refine ⟨_, (pss_one (ps_ret (pe_and (pe_callB (call_isiK K rfl) (by rfl) T.m_isinstance (by decide +kernel) (pa_cons (pv 0) (pa_cons (pe_bltn (v := .ty "bool") (by rfl) T.m_bool (by decide +kernel) rfl) pa_nil))) (pe_one (pe_cmpR op_eq (pv 0) (pv 1) (nomark _)))))), ?_⟩
    refine ⟨.bl a, rfl, .bl a, .ty "bool", .type "bool", .type "bool", true, rfl, .ty _, .base (.bl a), kit_ty (by decide +kernel), true, rfl, iteT ?_⟩
    refine ⟨.bl a, rfl, .bl b, rfl, rfl, ?_⟩
    rw [show decide (V.bl a = V.bl b) = decide (a = b) by
      by_cases z : a = b
      · rw [z]; simp
      · rw [decide_eq_false z, decide_eq_false (fun y => z (V.bl.inj y))]]
    exact q
end
end LH

namespace LH
open PySem PySem.Spec PyProof.Rows L2
def In (z w : Str) : Prop := ∀ c ∈ w.cps.toList, c ∈ z.cps.toList
theorem in_cut (z : Str) (lo hi : Option Int) : In z (cutS z lo hi) := fun c hc => by
  have hc : c ∈ ((z.cps.toList.drop (HT.sIx z.length 0 lo)).take (HT.sIx z.length z.length hi - HT.sIx z.length 0 lo)).toArray.toList := hc
  exact List.mem_of_mem_drop (List.mem_of_mem_take hc)
theorem in_rep {z w : Str} (h : In z w) (n : Nat) : In z (repS w n) := fun c hc => by
  have hc : c ∈ (List.replicate n w.cps.toList).flatten.toArray.toList := hc
  obtain ⟨l, hl, hcl⟩ := List.mem_flatten.mp hc
  rw [(List.mem_replicate.mp hl).2] at hcl
  exact h c hcl
theorem at_str {ws : List Str} {i : Nat} {x : V} (h : (ws.map V.str)[i]? = some x) : ∃ word ∈ ws, x = .str word := by
  rw [List.getElem?_map] at h
  cases e : ws[i]? with
  | none =>
    rw [e] at h
    cases h
  | some word =>
    rw [e] at h
    cases h
    exact ⟨word, List.mem_of_getElem? e, rfl⟩
section
variable {P : Program} {w : World} {K : PySem.W.Frag} {mg : Str → Option Value} {base : Heap}
def sp_law_right : Sp := fun vs H Q _ => ∃ (m p : Addr) (M : Mach) (ws : List Str), vs = [.ref m, .ref p] ∧ MachAt H m M ∧ M.Ok ∧ H p = some (.lst (ws.map V.str)) ∧ ws.length ≤ 1000 ∧ (∀ word ∈ ws, In M.z word) ∧ ∀ H', Same H H' → Q (.bl true) H'
theorem ok_law_right (T : TX K mg) : FnOk P w K mg base CX0 2 T.a_law_right T.fd_law_right ["machine", "words"] sp_law_right := by
  have G_has : FnOk P w K mg base CX0 1 T.a_has T.fd_has ["machine", "word"] sp_has := ok_has T
  have G_law_truth : FnOk P w K mg base CX0 1 T.a_law_truth T.fd_law_truth ["found", "due"] sp_law_truth := ok_law_truth T
  refine T.F_law_right.ok sc_law_right (fun vs H Q E h => ?_) (fun cdv A outer s H vs Q E hr h => ?_)
  · obtain ⟨m, p, M, ws, rfl, _⟩ := h
    rfl
  · obtain ⟨m, p, M, ws, rfl, hM, k, hp, hl, hw, q⟩ := h
    refine ⟨_, (pss_cons (ps_for PassesOwn.never rfl (pi_listK K rfl (pe_op op_cat (pv 1) (pe_revLK K rfl (pv 1)))) (pg_name (i := 2) sc_law_right.nd rfl (Or.inl rfl))
        (pss_cons (ps_set (i := 3) sc_law_right.nd rfl (Or.inl rfl) pe_int)
          (pss_cons (ps_for PassesOwn.never rfl (pi_str (pv 2)) (pg_name (i := 4) sc_law_right.nd rfl (Or.inl rfl))
            (pss_one (ps_set (i := 3) sc_law_right.nd rfl (Or.inl rfl) (pe_ix (ix_tupK K rfl) (pe_ix (ix_tupK K rfl) (pe_ix (ix_tupK K rfl) (pv 0) pe_int (fun _ _ => rfl)) (pv 3) (fun _ _ => rfl)) (pe_m1 PySem.F.slot_str_index PySem.F.type_str_index mt_sindex (pe_ix (ix_tupK K rfl) (pv 0) pe_int (fun _ _ => rfl)) (pv 4)) (fun _ _ => rfl)))))
          (pss_one (ps_if (pt_not (pt_val (pe_call G_law_truth (hr.mono (by decide)) (by rfl) T.g_law_truth T.F_law_truth.kp T.b_law_truth .nil pass0 (pa_cons (pe_call G_has (hr.mono (by decide)) (by rfl) T.g_has T.F_has.kp T.b_has .nil pass0 (pa_cons (pv 0) (pa_cons (pv 2) pa_nil))) (pa_cons (pe_cmpR (op_in_seqK K rfl) (pv 3) (pe_ix (ix_tupK K rfl) (pv 0) pe_int (fun _ _ => rfl)) (by rfl)) pa_nil)))))
            (pss_one (ps_ret pe_bl))
            pss_nil)))))
      (pss_one (ps_ret pe_bl))), ?_⟩
    refine ⟨.ref p, rfl, .ref p, rfl, p, _, rfl, .inl (.inl hp), fun p2 n2 => ?_⟩
    have s2 : Same H (upd H p2 (.lst (ws.map V.str).reverse)) := same_new n2
    refine ⟨p, p2, _, _, rfl, rfl, s2 _ _ hp, upd_same, ?_, fun p3 n3 => ?_⟩
    · rw [List.length_reverse, List.length_map]
      exact Nat.le_trans (show ws.length + ws.length ≤ 2000 by omega) (by decide)
    have e3 : ws.map V.str ++ (ws.map V.str).reverse = (ws ++ ws.reverse).map V.str := by
      rw [List.map_append, List.map_reverse]
    rw [e3]
    have s3 : Same H (upd (upd H p2 (.lst (ws.map V.str).reverse)) p3 (.lst ((ws ++ ws.reverse).map V.str))) := s2.trans (same_new n3)
    have h3 : (upd (upd H p2 (.lst (ws.map V.str).reverse)) p3 (.lst ((ws ++ ws.reverse).map V.str))) p3 = some (.lst ((ws ++ ws.reverse).map V.str)) := upd_same
    generalize upd (upd H p2 (.lst (ws.map V.str).reverse)) p3 (.lst ((ws ++ ws.reverse).map V.str)) = H3 at s3 h3
    have hM3 := hM.mono (Tups.same s3)
    obtain ⟨t, e, as, h1, h2, h4, h5⟩ := hM3
    refine ⟨p3, rfl, ⟨_, .inl (.inl h3)⟩, ?_⟩
    refine for_it (walk_list (K := K) (a := p3) (xs := (ws ++ ws.reverse).map V.str)) (fun i σ H' => H' = H3 ∧ ∃ y2 y3 y4, σ = [some (.ref m), some (.ref p), y2, y3, y4]) ⟨rfl, none, none, none, rfl⟩ (fun i σ H' _ hP => ?_) (fun i x σ H1 H1' hi hW hY => ?_) (fun σ H1 hW => ?_)
    · obtain ⟨rfl, _⟩ := hP
      exact .inl (.inl h3)
    · obtain ⟨rfl, y2, y3, y4, rfl⟩ := hW
      obtain ⟨rfl, hx⟩ := hY
      obtain ⟨word, hword, rfl⟩ := at_str hx
      have hwz : In M.z word := by
        rcases List.mem_append.mp hword with z | z
        · exact hw _ z
        · exact hw _ (List.mem_reverse.mp z)
      refine ⟨.str word, rfl, word, rfl, ?_⟩
      refine for_it walk_str (fun j σ H' => H' = H1' ∧ ∃ y4, σ = [some (.ref m), some (.ref p), some (.str word), some (.int (M.run (word.cps.toList.take j) : Nat)), y4]) ⟨rfl, y4, rfl⟩ (fun _ _ _ _ _ => trivial) (fun j x σ H2 H2' hj hW hY => ?_) (fun σ H2 hW => ?_)
      · obtain ⟨rfl, y4, rfl⟩ := hW
        obtain ⟨rfl, c, hc, rfl⟩ := hY
        have hc' : word.cps.toList[j]? = some c := by
          rw [Array.getElem?_toList]
          exact hc
        have hcz := hwz c (List.mem_of_getElem? hc')
        have hs : M.run (word.cps.toList.take j) < M.rows.length := k.run_lt _ _ k.many fun d hd => hwz d (List.mem_of_mem_take hd)
        obtain ⟨row, er, ei, _⟩ := k.step_at hs hcz
        obtain ⟨a, _, ea, ha⟩ := h4.get er
        obtain ⟨rest, eo⟩ := occ_sign hcz
        refine ⟨.ref m, rfl, m, _, 1, .ref t, rfl, rfl, .inl (.inl h1), atI_nat (j := 1) rfl, .int (M.run (word.cps.toList.take j) : Nat), rfl, t, _, _, .ref a, rfl, rfl, .inl (.inl h2), atI_nat ea, .ref m, rfl, m, _, 0, .str M.z, rfl, rfl, .inl (.inl h1), atI_nat (j := 0) rfl, ⟨_, rfl⟩, .str (sg c), rfl, M.z, sg c, _, rest, rfl, rfl, eo, a, _, _, .int (M.step (M.run (word.cps.toList.take j)) c : Nat), rfl, rfl, .inl (.inl ha), atI_nat ?_, rfl, some (.str (sg c)), ?_⟩
        · rw [List.getElem?_map, ei]
          rfl
        · rw [run_snoc M hc']
          rfl
      · obtain ⟨rfl, y4, rfl⟩ := hW
        have et : word.cps.toList.take word.cps.size = word.cps.toList := List.take_of_length_le (by rw [Array.length_toList]; exact Nat.le_refl _)
        rw [et]
        refine ⟨.ref m, rfl, .str word, rfl, m, word, M, rfl, ⟨t, e, as, h1, h2, h4, h5⟩, k, hwz, .int (M.run word.cps.toList : Nat), rfl, .ref m, rfl, m, _, 2, .ref e, rfl, rfl, .inl (.inl h1), atI_nat (j := 2) rfl, e, _, rfl, .inr (.inl (.inl h5)), rfl, flat_vi _, ?_⟩
        refine ⟨M.has word.cps.toList, M.has word.cps.toList, ?_, true, ?_, iteF ?_⟩
        · show [V.bl _, V.bl (inV _ _)] = _
          rw [inV_vi]
          rfl
        · rw [decide_eq_true rfl]
        · exact ⟨rfl, _, _, _, rfl⟩
    · obtain ⟨rfl, _⟩ := hW
      exact q _ s3
def sp_law (K : PySem.W.Frag) : Sp := fun vs H Q _ => ∃ (a : Addr) (ns : List Int), vs = [.ref a] ∧ SqL K H a (ns.map V.int) ∧ ns.length ≤ 63 ∧ ∀ H', Q (.bl true) H'
theorem ints_at {ns : List Int} {i : Nat} {x : V} {lo hi : Option Int} (h : ([V.int 0] ++ cutV (ns.map V.int) lo hi)[i]? = some x) : ∃ c, x = .int c := by
  have hm := List.mem_of_getElem? h
  rcases List.mem_append.mp hm with z | z
  · exact ⟨0, List.mem_singleton.mp z⟩
  · unfold cutV at z
    obtain ⟨c, _, rfl⟩ := List.mem_map.mp (List.mem_of_mem_drop (List.mem_of_mem_take z))
    exact ⟨c, rfl⟩
theorem most_at {g : Int} (h0 : 0 ≤ g) (h1 : g < 4) : ∃ most : Nat, atI [V.int 12, V.int 12, V.int 12, V.int 60] g = some (.int (most : Int)) ∧ 1 ≤ most ∧ most ≤ 1000 := by
  have : g = 0 ∨ g = 1 ∨ g = 2 ∨ g = 3 := by omega
  rcases this with rfl | rfl | rfl | rfl
  · exact ⟨12, rfl, by decide, by decide⟩
  · exact ⟨12, rfl, by decide, by decide⟩
  · exact ⟨12, rfl, by decide, by decide⟩
  · exact ⟨60, rfl, by decide, by decide⟩
theorem let_a : IsLet "a" := ⟨by decide, by decide, by decide, by decide⟩
theorem ok_law {f : Addr} {fd : FuncData} (F : Fun K "law" "law" s_law f fd) (T : TX K mg) : FnOk P w K mg base CX0 3 f fd ["script"] (sp_law K) := by
  have G_has : FnOk P w K mg base CX0 1 T.a_has T.fd_has ["machine", "word"] sp_has := ok_has T
  have G_law_stream : FnOk P w K mg base CX0 1 T.a_law_stream T.fd_law_stream ["cell"] sp_law_stream := ok_law_stream T
  have G_law_take : FnOk P w K mg base CX0 1 T.a_law_take T.fd_law_take ["row", "many"] sp_law_take := ok_law_take T
  have G_law_letters : FnOk P w K mg base CX0 2 T.a_law_letters T.fd_law_letters ["row"] sp_law_letters := ok_law_letters T
  have G_law_machine : FnOk P w K mg base CX0 2 T.a_law_machine T.fd_law_machine ["row", "letters", "most"] sp_law_machine := ok_law_machine T
  have G_law_word : FnOk P w K mg base CX0 2 T.a_law_word T.fd_law_word ["row", "letters", "most"] sp_law_word := ok_law_word T
  have G_law_right : FnOk P w K mg base CX0 2 T.a_law_right T.fd_law_right ["machine", "words"] sp_law_right := ok_law_right T
  refine F.ok sc_law (fun vs H Q E h => ?_) (fun cdv A outer s H vs Q E hr h => ?_)
  · obtain ⟨a, ns, rfl, _⟩ := h
    rfl
  · obtain ⟨a, ns, rfl, hS, hlen, q⟩ := h
    refine ⟨_, (pss_cons (ps_for PassesOwn.never rfl (pi_listK K rfl (pe_op op_cat (pe_lst (pa_cons pe_int pa_nil)) (pe_slice (sl_listK K rfl) (pv 0) po_none (po_some pe_int)))) (pg_name (i := 1) sc_law.nd rfl (Or.inl rfl))
        (pss_cons (ps_set (i := 2) sc_law.nd rfl (Or.inr rfl) (pe_call G_law_stream (hr.mono (by decide)) (by rfl) T.g_law_stream T.F_law_stream.kp T.b_law_stream .nil pass0 (pa_cons (pv 1) pa_nil)))
          (pss_cons (ps_set (i := 3) sc_law.nd rfl (Or.inr rfl) (pe_call G_law_letters (hr.mono (by decide)) (by rfl) T.g_law_letters T.F_law_letters.kp T.b_law_letters .nil pass0 (pa_cons (pv 2) pa_nil)))
          (pss_cons (ps_set (i := 4) sc_law.nd rfl (Or.inl rfl) (pe_call G_law_machine (hr.mono (by decide)) (by rfl) T.g_law_machine T.F_law_machine.kp T.b_law_machine .nil pass0 (pa_cons (pv 2) (pa_cons (pv 3) (pa_cons (pe_ix (ix_listK K rfl) (pe_lst (pa_cons pe_int (pa_cons pe_int (pa_cons pe_int (pa_cons pe_int pa_nil))))) (pe_call G_law_take (hr.mono (by decide)) (by rfl) T.g_law_take T.F_law_take.kp T.b_law_take .nil pass0 (pa_cons (pv 2) (pa_cons pe_int pa_nil))) (fun _ _ => rfl)) pa_nil)))))
          (pss_cons (ps_set (i := 5) sc_law.nd rfl (Or.inl rfl) (pe_lst (pa_cons pe_str (pa_cons (pe_ix ix_str (pv 3) pe_int (fun _ _ => rfl)) (pa_cons (pv 3) (pa_cons (pe_op op_repS (pe_slice sl_str (pv 3) (po_some (pe_un un_neg pe_int)) po_none) pe_int) (pa_cons (pe_call G_law_word (hr.mono (by decide)) (by rfl) T.g_law_word T.F_law_word.kp T.b_law_word .nil pass0 (pa_cons (pv 2) (pa_cons (pv 3) (pa_cons pe_int pa_nil)))) pa_nil)))))))
          (pss_cons (ps_set (i := 5) sc_law.nd rfl (Or.inl rfl) (pe_op op_cat (pv 5) (pe_lc (own := [("k", 6)]) (g := gName 6) (tt := tYes) (by rfl) sc_law.nd (pi_range1 (by rfl) T.m_range (pa_cons pe_int pa_nil)) (blkOk_by (own := [("k", 6)]) (N := N_law) (by kernel_rfl)) (fun _ _ _ _ _ => (pg_name (i := 6) sc_law.nd rfl (Or.inl rfl))) (fun _ _ _ _ _ => pts_nil) (fun _ _ _ _ _ => (pe_call G_law_word (hr.mono (by decide)) (by rfl) T.g_law_word T.F_law_word.kp T.b_law_word .nil pass0 (pa_cons (pv 2) (pa_cons (pv 3) (pa_cons pe_int pa_nil))))))))
          (pss_one (ps_if (pt_not (pt_val (pe_call G_law_right (hr.mono (by decide)) (by rfl) T.g_law_right T.F_law_right.kp T.b_law_right .nil pass0 (pa_cons (pv 4) (pa_cons (pv 5) pa_nil)))))
            (pss_one (ps_ret pe_bl))
            pss_nil))))))))
      (pss_one (ps_ret (pe_and (pe_cmpR op_isBl (pe_call G_has (hr.mono (by decide)) (by rfl) T.g_has T.F_has.kp T.b_has .nil pass0 (pa_cons (pe_tup (pa_cons pe_str (pa_cons (pe_tup (pa_cons (pe_tup (pa_cons pe_int pa_nil)) pa_nil)) (pa_cons (pe_tup (pa_cons pe_int pa_nil)) pa_nil)))) (pa_cons pe_str pa_nil))) pe_bl (nomark _)) (pe_one (pe_cmpR op_isBl (pe_call G_has (hr.mono (by decide)) (by rfl) T.g_has T.F_has.kp T.b_has .nil pass0 (pa_cons (pe_tup (pa_cons pe_str (pa_cons (pe_tup (pa_cons (pe_tup (pa_cons pe_int pa_nil)) (pa_cons (pe_tup (pa_cons pe_int pa_nil)) pa_nil))) (pa_cons (pe_tup (pa_cons pe_int pa_nil)) pa_nil)))) (pa_cons pe_str pa_nil))) pe_bl (nomark _))))))), ?_⟩
    refine ⟨by show 1 ≤ sizeLine; decide, fun p1 n1 => ?_⟩
    refine ⟨.ref a, rfl, 63, rfl, a, _, rfl, (same_new n1).seq hS, fun p2 n2 => ?_⟩
    refine ⟨p1, p2, [.int 0], _, rfl, rfl, ?_, upd_same, ?_, fun p3 n3 => ?_⟩
    · exact (same_new n2) _ _ upd_same
    · have := cutV_length (ns.map V.int) none (some 63)
      rw [List.length_map] at this
      exact Nat.le_trans (show 1 + (cutV (ns.map V.int) none (some 63)).length ≤ 100 by omega) (by decide)
    refine ⟨p3, rfl, ⟨_, .inl (.inl upd_same)⟩, ?_⟩
    refine for_it (walk_list (K := K) (a := p3) (xs := [V.int 0] ++ cutV (ns.map V.int) none (some 63))) (fun i σ H' => H' p3 = some (.lst ([V.int 0] ++ cutV (ns.map V.int) none (some 63))) ∧ ∃ y1 y2 y3 y4 y5 y6, σ = [some (.ref a), y1, y2, y3, y4, y5, y6]) ⟨upd_same, none, none, none, none, none, none, rfl⟩ (fun i σ H' _ hP => .inl (.inl hP.1)) (fun i x σ H0 H0' hi hW hY => ?_) (fun σ H1 hW => ?_)
    · obtain ⟨h3, y1, y2, y3, y4, y5, y6, rfl⟩ := hW
      obtain ⟨rfl, hx⟩ := hY
      obtain ⟨c, rfl⟩ := ints_at hx
      -- row, letters
      refine ⟨.int c, rfl, c, rfl, fun H1 r s1 nr R1 => ?_⟩
      refine ⟨.ref r, rfl, r, rfl, R1, fun H2 z o2 R2 hz => ?_⟩
      have b2 : Same H0' H2 := fun b o e => o2 b o (ne_of_none e nr) (s1 b o e)
      -- machine
      refine ⟨.ref r, rfl, .str z, rfl, by show 4 ≤ sizeLine; decide, fun p4 n4 => ?_⟩
      refine ⟨.ref r, rfl, r, 4, rfl, R2.new n4, by decide, by decide, fun H4 g o4 R4 g0 g1 => ?_⟩
      obtain ⟨most, em, m1, m2⟩ := most_at g0 g1
      have b4 : Same H0' H4 := fun b o e => o4 b o (ne_of_none e nr) (same_new n4 b o (b2 b o e))
      refine ⟨p4, _, g, .int (most : Int), rfl, rfl, .inl (.inl (o4 _ _ (R2.ne n4).symm upd_same)), em, r, z, most, rfl, R4, hz, m1, m2, fun H5 mp M o5 R5 hM k ez _ => ?_⟩
      have b5 : Same H0' H5 := fun b o e => o5 b o (ne_of_none e nr) (b4 b o e)
      have z5 : z.length ≤ sizeLine := Nat.le_trans hz.five (by decide)
      have z1 := hz.one
      have zl : 0 < z.cps.toList.length := by
        rw [Array.length_toList]
        exact z1
      -- words
      refine ⟨.str z, rfl, z, 0, z.cps.toList[0], rfl, rfl, z5, atI_nat (j := 0) (List.getElem?_eq_getElem zl), .str z, rfl, .str z, rfl, 1, rfl, -1, rfl, z, rfl, z5, _, 40, rfl, rfl, by decide, by decide, ?_, ?_⟩
      · exact Nat.le_trans (cutS_length z _ _) (Nat.le_trans hz.five (by decide))
      refine ⟨.ref r, rfl, .str z, rfl, r, z, 40, rfl, R5, hz, by decide, fun H6 cs o6 R6 l6 c6 => ?_⟩
      have b6 : Same H0' H6 := fun b o e => o6 b o (ne_of_none e nr) (b5 b o e)
      have hM6 := hM.mono (Tups.off R5 o6)
      refine ⟨by show 5 ≤ sizeLine; decide, fun p7 n7 => ?_⟩
      have f7 : H0' p7 = none := b6.free n7
      have r7 : p7 ≠ r := (R6.ne n7).symm
      have w7 : ∀ word ∈ [("" : Str), sg z.cps.toList[0], z, repS (cutS z (some (-1)) none) 40, ⟨cs.toArray⟩], In M.z word := by
        rw [ez]
        intro word hword
        simp only [List.mem_cons, List.mem_nil_iff, or_false] at hword
        rcases hword with rfl | rfl | rfl | rfl | rfl
        · intro d hd
          cases hd
        · intro d hd
          have : d ∈ [z.cps.toList[0]] := hd
          rw [List.mem_singleton.mp this]
          exact List.getElem_mem zl
        · intro d hd
          exact hd
        · exact in_rep (in_cut z _ _) 40
        · exact c6
      refine ⟨.ref p7, rfl, 4, rfl, by decide, by decide, fun D nD => ?_⟩
      have fD : H0' D = none := Same.free (b6.trans (same_new n7)) nD
      have rD : r ≠ D := (R6.new n7).ne nD
      have d7 : p7 ≠ D := ne_of_none upd_same nD
      refine lc_range (lo := 0) (n := (4 : Int).toNat) (fun i H' => ∃ ws vs : List Str, Same H0' H' ∧ RowAt H' r ∧ MachAt H' mp M ∧ H' p7 = some (.lst (ws.map V.str)) ∧ ws.length = 5 ∧ (∀ word ∈ ws, In M.z word) ∧ H' D = some (.lst (vs.map V.str)) ∧ vs.length = i ∧ (∀ word ∈ vs, In M.z word)) ⟨[("" : Str), sg z.cps.toList[0], z, repS (cutS z (some (-1)) none) 40, ⟨cs.toArray⟩], [], (b6.trans (same_new n7)).trans (same_new nD), (R6.new n7).new nD, (hM6.mono (Tups.new n7)).mono (Tups.new nD), (by rw [upd_ne d7]; exact upd_same), rfl, w7, upd_same, rfl, fun _ h => nomatch h⟩ (fun i H8 hi hW => ?_) (fun H8 hW => ?_)
      · obtain ⟨ws, vs, b8, R8, hM8, e8, l8, w8, d8, v8, u8⟩ := hW
        refine ⟨rfl, lcyes ?_⟩
        refine ⟨.ref r, rfl, .str z, rfl, r, z, 6, rfl, R8, hz, by decide, fun H9 cs' o9 R9 l9 c9 => ?_⟩
        refine ⟨vs.map V.str, o9 _ _ rD.symm d8, ?_, ws, vs ++ [⟨cs'.toArray⟩], ?_, R9.upd rD, (hM8.mono (Tups.off R8 o9)).mono (Tups.lst (o9 _ _ rD.symm d8)), ?_, l8, w8, ?_, ?_, mem_snoc u8 ?_⟩
        · rw [List.length_map, v8]
          exact small1000 (by omega)
        · intro b o e
          rw [upd_ne (ne_of_none e fD)]
          exact o9 _ _ (ne_of_none e nr) (b8 b o e)
        · rw [upd_ne d7]
          exact o9 _ _ r7 e8
        · rw [upd_same, List.map_append]
          rfl
        · rw [List.length_append, v8]
          rfl
        · rw [ez]
          exact c9
      · obtain ⟨ws, vs, b8, R8, hM8, e8, l8, w8, d8, v8, u8⟩ := hW
        refine ⟨p7, D, _, _, rfl, rfl, e8, d8, ?_, fun p8 n8 => ?_⟩
        · rw [List.length_map, List.length_map, l8, v8]
          decide
        rw [← List.map_append]
        refine ⟨.ref mp, rfl, .ref p8, rfl, mp, p8, M, ws ++ vs, rfl, hM8.mono (Tups.new n8), k, upd_same, ?_, ?_, fun H9 b9 => ⟨true, rfl, iteF ?_⟩⟩
        · rw [List.length_append, l8, v8]
          decide
        · intro word hword
          rcases List.mem_append.mp hword with y | y
          · exact w8 _ y
          · exact u8 _ y
        · exact ⟨b9 _ _ (same_new n8 _ _ (b8 _ _ h3)), _, _, _, _, _, _, rfl⟩
    · obtain ⟨h3, y1, y2, y3, y4, y5, y6, rfl⟩ := hW
      refine ⟨by show 1 ≤ sizeLine; decide, fun q1 m1 => ⟨by show 1 ≤ sizeLine; decide, fun q2 m2 => ⟨by show 1 ≤ sizeLine; decide, fun q3 m3 => ⟨by show 3 ≤ sizeLine; decide, fun q4 m4 => ?_⟩⟩⟩⟩
      refine ⟨q4, "", ⟨"a", [[0]], [0]⟩, rfl, ?_, ?_, (fun c hc => by cases hc), true, true, rfl, rfl, true, rfl, iteT ?_⟩
      · refine ⟨q2, q3, [q1], upd_same, ?_, ⟨rfl, fun i a row x y => ?_⟩, ?_⟩
        · exact ((Tups.new m3).trans (Tups.new m4)) _ _ upd_same
        · have hi : i = 0 := by
            cases i with
            | zero => rfl
            | succ i => simp at x
          subst hi
          cases x
          cases y
          exact (((Tups.new m2).trans (Tups.new m3)).trans (Tups.new m4)) _ _ upd_same
        · exact (Tups.new m4) _ _ upd_same
      · exact ⟨let_a, by decide, by decide, by decide, by decide⟩
      · refine ⟨by show 1 ≤ sizeLine; decide, fun v1 u1 => ⟨by show 1 ≤ sizeLine; decide, fun v2 u2 => ⟨by show 2 ≤ sizeLine; decide, fun v3 u3 => ⟨by show 1 ≤ sizeLine; decide, fun v4 u4 => ⟨by show 3 ≤ sizeLine; decide, fun v5 u5 => ?_⟩⟩⟩⟩⟩
        refine ⟨v5, "aa", ⟨"a", [[1], [0]], [1]⟩, rfl, ?_, ?_, by decide, false, false, by decide +kernel, rfl, q _⟩
        · refine ⟨v3, v4, [v1, v2], upd_same, ?_, ⟨rfl, fun i a row x y => ?_⟩, ?_⟩
          · exact ((Tups.new u4).trans (Tups.new u5)) _ _ upd_same
          · match i, x, y with
            | 0, x, y =>
              cases x
              cases y
              exact ((((Tups.new u2).trans (Tups.new u3)).trans (Tups.new u4)).trans (Tups.new u5)) _ _ upd_same
            | 1, x, y =>
              cases x
              cases y
              exact (((Tups.new u3).trans (Tups.new u4)).trans (Tups.new u5)) _ _ upd_same
            | i + 2, x, y => simp at x
          · exact (Tups.new u5) _ _ upd_same
        · exact ⟨let_a, by decide, by decide, by decide, by decide⟩
end
end LH

namespace LH
open PySem PySem.Spec PyProof.Rows L2
theorem all_mk {l : PySem.W.OpenLaw} {w : World} {K : PySem.W.Frag} {h : Heap} {mg : Str → Option Value} {fa : Addr} (X : K.In h) (G : h.Ns mainGlobals mg) (hfa : mg "law" = some (.ref fa))
    {f_has : Addr} {od_has an_has : Option Addr} {sl_has : Array (Option Value)} {oc_has kV_has dc_has pm_has cd_has ct_has : Value}
    (a_has : PySem.W.nsIn K mainGlobals "has" = some (some (.ref f_has))) (l_has : K.lookup f_has = some ⟨oc_has, od_has, .func (PySem.W.fnOf "has" "has" (defArgs s_has) (defBody s_has) (defScope s_has) .none kV_has dc_has pm_has an_has cd_has ct_has), sl_has⟩) (c_has : PySem.W.codeIn K cd_has "has" = true) (k_has : PySem.W.keepIn K (.ref f_has) = true)
    {f_law_stream : Addr} {od_law_stream an_law_stream : Option Addr} {sl_law_stream : Array (Option Value)} {oc_law_stream kV_law_stream dc_law_stream pm_law_stream cd_law_stream ct_law_stream : Value}
    (a_law_stream : PySem.W.nsIn K mainGlobals "_law_stream" = some (some (.ref f_law_stream))) (l_law_stream : K.lookup f_law_stream = some ⟨oc_law_stream, od_law_stream, .func (PySem.W.fnOf "_law_stream" "_law_stream" (defArgs s_law_stream) (defBody s_law_stream) (defScope s_law_stream) .none kV_law_stream dc_law_stream pm_law_stream an_law_stream cd_law_stream ct_law_stream), sl_law_stream⟩) (c_law_stream : PySem.W.codeIn K cd_law_stream "_law_stream" = true) (k_law_stream : PySem.W.keepIn K (.ref f_law_stream) = true)
    {f_law_take : Addr} {od_law_take an_law_take : Option Addr} {sl_law_take : Array (Option Value)} {oc_law_take kV_law_take dc_law_take pm_law_take cd_law_take ct_law_take : Value}
    (a_law_take : PySem.W.nsIn K mainGlobals "_law_take" = some (some (.ref f_law_take))) (l_law_take : K.lookup f_law_take = some ⟨oc_law_take, od_law_take, .func (PySem.W.fnOf "_law_take" "_law_take" (defArgs s_law_take) (defBody s_law_take) (defScope s_law_take) .none kV_law_take dc_law_take pm_law_take an_law_take cd_law_take ct_law_take), sl_law_take⟩) (c_law_take : PySem.W.codeIn K cd_law_take "_law_take" = true) (k_law_take : PySem.W.keepIn K (.ref f_law_take) = true)
    {f_law_letters : Addr} {od_law_letters an_law_letters : Option Addr} {sl_law_letters : Array (Option Value)} {oc_law_letters kV_law_letters dc_law_letters pm_law_letters cd_law_letters ct_law_letters : Value}
    (a_law_letters : PySem.W.nsIn K mainGlobals "_law_letters" = some (some (.ref f_law_letters))) (l_law_letters : K.lookup f_law_letters = some ⟨oc_law_letters, od_law_letters, .func (PySem.W.fnOf "_law_letters" "_law_letters" (defArgs s_law_letters) (defBody s_law_letters) (defScope s_law_letters) .none kV_law_letters dc_law_letters pm_law_letters an_law_letters cd_law_letters ct_law_letters), sl_law_letters⟩) (c_law_letters : PySem.W.codeIn K cd_law_letters "_law_letters" = true) (k_law_letters : PySem.W.keepIn K (.ref f_law_letters) = true)
    {f_law_machine : Addr} {od_law_machine an_law_machine : Option Addr} {sl_law_machine : Array (Option Value)} {oc_law_machine kV_law_machine dc_law_machine pm_law_machine cd_law_machine ct_law_machine : Value}
    (a_law_machine : PySem.W.nsIn K mainGlobals "_law_machine" = some (some (.ref f_law_machine))) (l_law_machine : K.lookup f_law_machine = some ⟨oc_law_machine, od_law_machine, .func (PySem.W.fnOf "_law_machine" "_law_machine" (defArgs s_law_machine) (defBody s_law_machine) (defScope s_law_machine) .none kV_law_machine dc_law_machine pm_law_machine an_law_machine cd_law_machine ct_law_machine), sl_law_machine⟩) (c_law_machine : PySem.W.codeIn K cd_law_machine "_law_machine" = true) (k_law_machine : PySem.W.keepIn K (.ref f_law_machine) = true)
    {f_law_word : Addr} {od_law_word an_law_word : Option Addr} {sl_law_word : Array (Option Value)} {oc_law_word kV_law_word dc_law_word pm_law_word cd_law_word ct_law_word : Value}
    (a_law_word : PySem.W.nsIn K mainGlobals "_law_word" = some (some (.ref f_law_word))) (l_law_word : K.lookup f_law_word = some ⟨oc_law_word, od_law_word, .func (PySem.W.fnOf "_law_word" "_law_word" (defArgs s_law_word) (defBody s_law_word) (defScope s_law_word) .none kV_law_word dc_law_word pm_law_word an_law_word cd_law_word ct_law_word), sl_law_word⟩) (c_law_word : PySem.W.codeIn K cd_law_word "_law_word" = true) (k_law_word : PySem.W.keepIn K (.ref f_law_word) = true)
    {f_law_truth : Addr} {od_law_truth an_law_truth : Option Addr} {sl_law_truth : Array (Option Value)} {oc_law_truth kV_law_truth dc_law_truth pm_law_truth cd_law_truth ct_law_truth : Value}
    (a_law_truth : PySem.W.nsIn K mainGlobals "_law_truth" = some (some (.ref f_law_truth))) (l_law_truth : K.lookup f_law_truth = some ⟨oc_law_truth, od_law_truth, .func (PySem.W.fnOf "_law_truth" "_law_truth" (defArgs s_law_truth) (defBody s_law_truth) (defScope s_law_truth) .none kV_law_truth dc_law_truth pm_law_truth an_law_truth cd_law_truth ct_law_truth), sl_law_truth⟩) (c_law_truth : PySem.W.codeIn K cd_law_truth "_law_truth" = true) (k_law_truth : PySem.W.keepIn K (.ref f_law_truth) = true)
    {f_law_right : Addr} {od_law_right an_law_right : Option Addr} {sl_law_right : Array (Option Value)} {oc_law_right kV_law_right dc_law_right pm_law_right cd_law_right ct_law_right : Value}
    (a_law_right : PySem.W.nsIn K mainGlobals "_law_right" = some (some (.ref f_law_right))) (l_law_right : K.lookup f_law_right = some ⟨oc_law_right, od_law_right, .func (PySem.W.fnOf "_law_right" "_law_right" (defArgs s_law_right) (defBody s_law_right) (defScope s_law_right) .none kV_law_right dc_law_right pm_law_right an_law_right cd_law_right ct_law_right), sl_law_right⟩) (c_law_right : PySem.W.codeIn K cd_law_right "_law_right" = true) (k_law_right : PySem.W.keepIn K (.ref f_law_right) = true)
    {f_law : Addr} {od_law an_law : Option Addr} {sl_law : Array (Option Value)} {oc_law kV_law dc_law pm_law cd_law ct_law : Value}
    (a_law : PySem.W.nsIn K mainGlobals "law" = some (some (.ref f_law))) (l_law : K.lookup f_law = some ⟨oc_law, od_law, .func (PySem.W.fnOf "law" "law" (defArgs s_law) (defBody s_law) (defScope s_law) .none kV_law dc_law pm_law an_law cd_law ct_law), sl_law⟩) (c_law : PySem.W.codeIn K cd_law "law" = true) (k_law : PySem.W.keepIn K (.ref f_law) = true)
    (z_bool : PySem.W.nsIn K mainGlobals "bool" = some none)
    (z_int : PySem.W.nsIn K mainGlobals "int" = some none)
    (z_isinstance : PySem.W.nsIn K mainGlobals "isinstance" = some none)
    (z_len : PySem.W.nsIn K mainGlobals "len" = some none)
    (z_list : PySem.W.nsIn K mainGlobals "list" = some none)
    (z_range : PySem.W.nsIn K mainGlobals "range" = some none)
    (z_sorted : PySem.W.nsIn K mainGlobals "sorted" = some none)
    (z_tuple : PySem.W.nsIn K mainGlobals "tuple" = some none)
    : ∃ fd : FuncData, (∀ (s : Shared) (v : Value), BindsTo s fd ⟨[v], []⟩ [("script", v)]) ∧ ∀ base : Heap, K.In base → base.Ns mainGlobals mg → FnOk l.prog w K mg base CX0 3 fa fd ["script"] (sp_law K) := by
  have e := hfa.symm.trans (PySem.W.mg_of X G a_law)
  cases e
  have F_has := fun_mk (st := s_has) l_has c_has k_has
  have F_law_stream := fun_mk (st := s_law_stream) l_law_stream c_law_stream k_law_stream
  have F_law_take := fun_mk (st := s_law_take) l_law_take c_law_take k_law_take
  have F_law_letters := fun_mk (st := s_law_letters) l_law_letters c_law_letters k_law_letters
  have F_law_machine := fun_mk (st := s_law_machine) l_law_machine c_law_machine k_law_machine
  have F_law_word := fun_mk (st := s_law_word) l_law_word c_law_word k_law_word
  have F_law_truth := fun_mk (st := s_law_truth) l_law_truth c_law_truth k_law_truth
  have F_law_right := fun_mk (st := s_law_right) l_law_right c_law_right k_law_right
  have F_law := fun_mk (st := s_law) l_law c_law k_law
  let T : TX K mg := {
    a_has := f_has, fd_has := _, F_has := F_has, b_has := F_has.binds (ps := ["machine", "word"]) (fun _ _ _ _ _ _ us hl => match us, hl with | [_, _], _ => rfl), g_has := PySem.W.mg_of X G a_has,
    a_law_stream := f_law_stream, fd_law_stream := _, F_law_stream := F_law_stream, b_law_stream := F_law_stream.binds (ps := ["cell"]) (fun _ _ _ _ _ _ us hl => match us, hl with | [_], _ => rfl), g_law_stream := PySem.W.mg_of X G a_law_stream,
    a_law_take := f_law_take, fd_law_take := _, F_law_take := F_law_take, b_law_take := F_law_take.binds (ps := ["row", "many"]) (fun _ _ _ _ _ _ us hl => match us, hl with | [_, _], _ => rfl), g_law_take := PySem.W.mg_of X G a_law_take,
    a_law_letters := f_law_letters, fd_law_letters := _, F_law_letters := F_law_letters, b_law_letters := F_law_letters.binds (ps := ["row"]) (fun _ _ _ _ _ _ us hl => match us, hl with | [_], _ => rfl), g_law_letters := PySem.W.mg_of X G a_law_letters,
    a_law_machine := f_law_machine, fd_law_machine := _, F_law_machine := F_law_machine, b_law_machine := F_law_machine.binds (ps := ["row", "letters", "most"]) (fun _ _ _ _ _ _ us hl => match us, hl with | [_, _, _], _ => rfl), g_law_machine := PySem.W.mg_of X G a_law_machine,
    a_law_word := f_law_word, fd_law_word := _, F_law_word := F_law_word, b_law_word := F_law_word.binds (ps := ["row", "letters", "most"]) (fun _ _ _ _ _ _ us hl => match us, hl with | [_, _, _], _ => rfl), g_law_word := PySem.W.mg_of X G a_law_word,
    a_law_truth := f_law_truth, fd_law_truth := _, F_law_truth := F_law_truth, b_law_truth := F_law_truth.binds (ps := ["found", "due"]) (fun _ _ _ _ _ _ us hl => match us, hl with | [_, _], _ => rfl), g_law_truth := PySem.W.mg_of X G a_law_truth,
    a_law_right := f_law_right, fd_law_right := _, F_law_right := F_law_right, b_law_right := F_law_right.binds (ps := ["machine", "words"]) (fun _ _ _ _ _ _ us hl => match us, hl with | [_, _], _ => rfl), g_law_right := PySem.W.mg_of X G a_law_right,
    m_bool := PySem.W.mg_none_of X G z_bool,
    m_int := PySem.W.mg_none_of X G z_int,
    m_isinstance := PySem.W.mg_none_of X G z_isinstance,
    m_len := PySem.W.mg_none_of X G z_len,
    m_list := PySem.W.mg_none_of X G z_list,
    m_range := PySem.W.mg_none_of X G z_range,
    m_sorted := PySem.W.mg_none_of X G z_sorted,
    m_tuple := PySem.W.mg_none_of X G z_tuple }
  exact ⟨_, fun s v => .of_eq rfl, fun base _ _ => ok_law F_law T⟩
end LH
open PySem PySem.W PyProof.Rows
set_option maxHeartbeats 0 in
theorem PySem.Challenge.cw_likehands_k02_words_a_machine_has_holds : PySem.Challenge.rw_likehands_k02_words_a_machine_has.Holds := by
  w_on; o_law; k_head; (case hw => w_witness2)
  k_fill
  refine L2.walk_of (l := PySem.Challenge.rw_likehands_k02_words_a_machine_has) (n := 63) (k := 3) (x := "script") (CX := fun _ => L2.CX0) (sp := fun w => LH.sp_law _) rfl (by decide) rfl ⟨rfl, by decide, by decide⟩ (fun w h Y => PySem.W.kIn_of Y) ?F (fun _ _ a ns hl _ hS => ⟨a, ns, rfl, hS, hl, fun _ => rfl⟩) (fun _ _ _ _ _ h => h)
  case F =>
    intro w mg fa h KX G hmg
    refine' LH.all_mk KX G hmg ?a_has ?l_has ?c_has ?k_has ?a_law_stream ?l_law_stream ?c_law_stream ?k_law_stream ?a_law_take ?l_law_take ?c_law_take ?k_law_take ?a_law_letters ?l_law_letters ?c_law_letters ?k_law_letters ?a_law_machine ?l_law_machine ?c_law_machine ?k_law_machine ?a_law_word ?l_law_word ?c_law_word ?k_law_word ?a_law_truth ?l_law_truth ?c_law_truth ?k_law_truth ?a_law_right ?l_law_right ?c_law_right ?k_law_right ?a_law ?l_law ?c_law ?k_law ?z_bool ?z_int ?z_isinstance ?z_len ?z_list ?z_range ?z_sorted ?z_tuple
    (case a_has => k_is)
    (case l_has => k_is)
    (case c_has => k_is)
    (case k_has => k_is)
    (case a_law_stream => k_is)
    (case l_law_stream => k_is)
    (case c_law_stream => k_is)
    (case k_law_stream => k_is)
    (case a_law_take => k_is)
    (case l_law_take => k_is)
    (case c_law_take => k_is)
    (case k_law_take => k_is)
    (case a_law_letters => k_is)
    (case l_law_letters => k_is)
    (case c_law_letters => k_is)
    (case k_law_letters => k_is)
    (case a_law_machine => k_is)
    (case l_law_machine => k_is)
    (case c_law_machine => k_is)
    (case k_law_machine => k_is)
    (case a_law_word => k_is)
    (case l_law_word => k_is)
    (case c_law_word => k_is)
    (case k_law_word => k_is)
    (case a_law_truth => k_is)
    (case l_law_truth => k_is)
    (case c_law_truth => k_is)
    (case k_law_truth => k_is)
    (case a_law_right => k_is)
    (case l_law_right => k_is)
    (case c_law_right => k_is)
    (case k_law_right => k_is)
    (case a_law => k_is)
    (case l_law => k_is)
    (case c_law => k_is)
    (case k_law => k_is)
    (case z_bool => k_is)
    (case z_int => k_is)
    (case z_isinstance => k_is)
    (case z_len => k_is)
    (case z_list => k_is)
    (case z_range => k_is)
    (case z_sorted => k_is)
    (case z_tuple => k_is)
