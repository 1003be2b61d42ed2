import PyProof.Rows.All
import Wide.All
import OpenK.AllK
import Wide.FinOn
import HandS.ForMost
import HandS.Style
import HandS.IsInst
import HandS.Replace
import HandS.Wide
import HandS.Codes
import HandS.Walk
import HandS.DictComp
import HandS.Conv
import HandS.Nested
import HandS.EndTab
import PyProof.ListStr
import PyProof.StrOps2
import HandS.Set
import HandS.SetBool
import HandS.SetKeys
import HandS.SetTxt0
import HandS.Strs
import KE.GoesMore
import PyProof.EnumMake
import PyProof.Rows.SetFrom
import PyProof.Rows.SortShellAny
import PySem.Challenge.RW_likehands_k18_two_neighbours
set_option Elab.async false
set_option linter.all false
set_option maxRecDepth 100000
set_option maxHeartbeats 4000000
namespace LH
open PySem PySem.Spec PyProof.Rows L2
/-! ### list(text) -/
section
variable {X : Cx}
def sgns (z : Str) : List V := z.cps.toList.map fun c => V.str ⟨#[c]⟩
theorem sgns_len (z : Str) : (sgns z).length = z.length := by
  unfold sgns
  rw [List.length_map, Array.length_toList]
  rfl
theorem vals_by : ∀ {xs : List V} {us : List Value}, xs.length = us.length → (∀ (j : Nat) (x : V) (u : Value), xs[j]? = some x → us[j]? = some u → RelV x u) → Vals xs us
  | [], [], _, _ => .nil
  | [], _ :: _, h, _ => by cases h
  | _ :: _, [], h, _ => by cases h
  | x :: xs, u :: us, h, q => .cons (q 0 x u rfl rfl) (vals_by (Nat.succ.inj h) fun j y v a b => q (j + 1) y v a b)
theorem vals_sgns {z : Str} {acc : Array Value} (h : ItemsOf (SignAt z) acc z.cps.size) : Vals (sgns z) acc.toList := by
  have hn : acc.size = z.cps.size := h.1
  refine vals_by ?_ fun j x u a b => ?_
  · rw [sgns_len, Array.length_toList, hn]
    rfl
  · rw [Array.getElem?_toList] at b
    obtain ⟨c, t, e1, e2⟩ := h.2 j u b
    unfold sgns at a
    rw [List.getElem?_map, Array.getElem?_toList, e1] at a
    cases a
    subst e2
    exact ⟨_, rfl⟩
theorem call_listS (hc : X.calm = true) : CallR X (.type "list") (fun xs H Q => ∃ z : Str, xs = [.str z] ∧ z.length ≤ sizeLine ∧ ∀ p, H p = none → Q (.ref p) (upd H p (.lst (sgns z)))) := by
  intro pins s σ H xs us Q I r h
  obtain ⟨z, rfl, hz, q⟩ := h
  obtain ⟨u, rfl, rx⟩ := vals1 r
  obtain ⟨t, rfl⟩ := rx
  refine PySem.call_list_str (I.ok.hd hc) z t (fun h' tk acc' c' kp e ha => ?_) hz
  exact ⟨.ref s.heap.objs.size, _, I.laid (t' := tk) kp (Nat.le_refl _) (show ObjOk X.prog X.w _ h' _ (.lst (sgns z)) from ⟨by rw [sgns_len]; exact hz, acc'.toList, c', vals_sgns ha, e⟩), rfl, q _ (I.hok.fresh (Nat.le_refl _))⟩
/-! ### text * number -/
def repS (z : Str) (n : Nat) : Str := ⟨(List.replicate n z.cps.toList).flatten.toArray⟩
theorem foldl_repS (z : Array Nat) : ∀ (n : Nat) (a : Array Nat), (List.replicate n z).foldl (· ++ ·) a = a ++ (List.replicate n z.toList).flatten.toArray
  | 0, a => by simp
  | n + 1, a => by
    rw [List.replicate_succ, List.foldl_cons, foldl_repS z n (a ++ z), List.replicate_succ, List.flatten_cons]
    apply Array.ext'
    simp
theorem repS_eq (z : Str) (n : Nat) : (⟨(List.replicate n z.cps).foldl (· ++ ·) #[]⟩ : Str) = repS z n := by
  rw [foldl_repS]
  unfold repS
  simp
theorem repS_one (z : Str) : repS z 1 = z := by
  unfold repS
  simp
theorem repS_len (z : Str) (n : Nat) : (repS z n).length = n * z.length := by
  show (List.replicate n z.cps.toList).flatten.toArray.size = n * z.cps.size
  rw [List.size_toArray, List.length_flatten, List.map_replicate, List.sum_replicate_nat, Array.length_toList]
theorem op_repS : OpR X (binaryOp .Mult) (fun x y H Q => ∃ (z : Str) (n : Int), x = .str z ∧ y = .int n ∧ 1 ≤ n ∧ n ≤ 1000 ∧ z.length ≤ 1000 ∧ Q (.str (repS z n.toNat)) H) := by
  intro pins s σ H x y v u Q I rx ry h
  obtain ⟨z, n, rfl, rfl, h1, h2, hz, q⟩ := h
  obtain ⟨t, rfl⟩ := rx
  obtain ⟨t', rfl⟩ := ry
  have hlen : z.length * n.toNat ≤ 1000000 := Nat.le_trans (Nat.mul_le_mul hz (show n.toNat ≤ 1000 by omega)) (by decide)
  refine PySem.P.mul_str ?_ (fun _ _ => ?_) (fun _ _ => ?_) ?_
  · rw [decide_eq_false (show ¬ n < -(2 ^ 63 : Int) by omega), decide_eq_false (show ¬ n ≥ 2 ^ 63 by omega)]
    rfl
  · have : (1000 : Int) ≤ (2 ^ 63 - 1) / n := by
      rw [Int.le_ediv_iff_mul_le (by omega)]
      omega
    omega
  · exact decide_eq_false (by
      have e : (1000000 : Nat) ≤ sizeLine := by decide
      omega)
  · rw [if_neg (show ¬ n < 1 by omega)]
    by_cases hc : (n == 1 || z.length == 0) = true
    · rw [if_pos hc]
      have e : repS z n.toNat = z := by
        rw [Bool.or_eq_true] at hc
        rcases hc with hc | hc
        · have : n = 1 := eq_of_beq hc
          subst this
          exact repS_one z
        · have h0 : z.cps.size = 0 := eq_of_beq hc
          have : z.cps = #[] := Array.eq_empty_of_size_eq_zero h0
          unfold repS
          rw [this]
          obtain ⟨a⟩ := z
          have : a = #[] := this
          subst this
          congr 1
          apply Array.ext'
          simp
      rw [e] at q
      exact ⟨.str z, H, I, ⟨_, rfl⟩, q⟩
    · rw [if_neg hc, repS_eq]
      refine ⟨?_, .str _, H, I.tok _, ⟨_, rfl⟩, q⟩
      show (repS z n.toNat).length ≤ sizeLine
      rw [repS_len, Nat.mul_comm]
      exact Nat.le_trans hlen (by decide)
end
/-! ### one sign in a text: its first place -/
theorem idxOf_le {c : Nat} : ∀ {xs : List Nat} {i : Nat}, xs[i]? = some c → xs.idxOf c ≤ i
  | [], i, h => by simp at h
  | x :: xs, i, h => by
    rw [List.idxOf_cons]
    by_cases e : x = c
    · subst e
      simp
    · cases i with
      | zero =>
        simp at h
        exact absurd h e
      | succ i =>
        have := idxOf_le (xs := xs) (i := i) (by simpa using h)
        rw [show (x == c) = false from beq_eq_false_iff_ne.mpr e]
        show xs.idxOf c + 1 ≤ i + 1
        omega
theorem occ_sign {z : Str} {c : Nat} (h : c ∈ z.cps.toList) : ∃ r, Builtin.Str.occurrences z ⟨#[c]⟩ 0 z.length 1 = z.cps.toList.idxOf c :: r := by
  have key : ∀ i, StrLaws.At z ⟨#[c]⟩ z.length i ↔ z.cps.toList[i]? = some c := fun i => StrLaws.subAt_one z c i
  have hi : z.cps.toList.idxOf c < z.cps.toList.length := List.idxOf_lt_length_iff.mpr h
  have e0 : z.cps.toList[z.cps.toList.idxOf c]? = some c := by
    rw [List.getElem?_eq_getElem hi, List.getElem_idxOf]
  rcases StrLaws.occ_head z ⟨#[c]⟩ 1 (Nat.le_refl _) with ⟨_, hn⟩ | ⟨i, r, e, ha, hn⟩
  · exact absurd ((key _).mpr e0) (hn _)
  · refine ⟨r, ?_⟩
    rw [e]
    congr 1
    have a1 : ¬ z.cps.toList.idxOf c < i := fun q => hn _ q ((key _).mpr e0)
    have a2 := idxOf_le ((key i).mp ha)
    omega
theorem find_sign {z : Str} {c : Nat} (h : c ∈ z.cps.toList) : Txt.find z ⟨#[c]⟩ = (z.cps.toList.idxOf c : Nat) := by
  obtain ⟨r, e⟩ := occ_sign h
  unfold Txt.find
  rw [e]
/-! ### texts of signs -/
abbrev sg (c : Nat) : Str := ⟨#[c]⟩
abbrev vs_ (cs : List Nat) : List V := cs.map fun c => V.str (sg c)
theorem join_sg : ∀ cs : List Nat, Txt.join ⟨#[]⟩ (cs.map sg) = ⟨cs.toArray⟩ := fun cs => by
  rw [TL.join_eq]
  induction cs with
  | nil => rfl
  | cons c r ih =>
    cases r with
    | nil => rfl
    | cons d r =>
      show sg c ++ ⟨#[]⟩ ++ Str.join ⟨#[]⟩ ((d :: r).map sg) = _
      rw [ih]
      show (⟨(#[c] ++ #[]) ++ (d :: r).toArray⟩ : Str) = ⟨(c :: d :: r).toArray⟩
      congr 1
      apply Array.ext'
      simp
theorem risingS_sg : ∀ (cs : List Nat) (c : Nat), risingS (sg c) (cs.map sg) = true → (c :: cs).Pairwise (· ≤ ·)
  | [], c, _ => by simp
  | d :: r, c, h => by
    have h : (!ltCps [d] [c] && risingS (sg d) (r.map sg)) = true := h
    rw [Bool.and_eq_true] at h
    have ih := risingS_sg r d h.2
    have hcd : c ≤ d := by
      have := h.1
      simp [ltCps] at this
      exact this
    refine List.Pairwise.cons (fun x hx => ?_) ih
    rcases List.mem_cons.mp hx with rfl | hx
    · exact hcd
    · exact Nat.le_trans hcd (List.rel_of_pairwise_cons ih hx)
theorem sortedS_sg {cs : List Nat} (h : sortedS (cs.map sg) = true) : cs.Pairwise (· ≤ ·) := by
  cases cs with
  | nil => simp
  | cons c r => exact risingS_sg r c h
/-- what a sort of one-sign texts gives -/
theorem perm_sg {cs : List Nat} {ys : List Str} (h : ys.Perm (cs.map sg)) : ∃ ds : List Nat, ys = ds.map sg ∧ ds.Perm cs := by
  let f : Str → Nat := fun z => z.cps.getD 0 0
  have hm := h.map f
  rw [List.map_map, show f ∘ sg = id from rfl, List.map_id] at hm
  refine ⟨ys.map f, ?_, hm⟩
  rw [List.map_map]
  have : ∀ y ∈ ys, (sg ∘ f) y = y := fun y hy => by
    obtain ⟨c, _, rfl⟩ := List.mem_map.mp (h.mem_iff.mp hy)
    rfl
  conv => lhs; rw [← List.map_id ys]
  exact List.map_congr_left fun y hy => (this y hy).symm
structure IsLet (z : Str) : Prop where
  one : 1 ≤ z.length
  five : z.length ≤ 5
  rise : z.cps.toList.Pairwise (· < ·)
  small : ∀ c ∈ z.cps.toList, 97 ≤ c ∧ c ≤ 122
theorem rise_of {cs : List Nat} (h : cs.Pairwise (· ≤ ·)) (n : cs.Nodup) : cs.Pairwise (· < ·) := by
  have := List.Pairwise.and h n
  exact this.imp fun ⟨a, b⟩ => Nat.lt_of_le_of_ne a b
theorem mem_az {c : Nat} (h : c ∈ (List.range 26).map (97 + ·)) : 97 ≤ c ∧ c ≤ 122 := by
  obtain ⟨k, hk, rfl⟩ := List.mem_map.mp h
  have := List.mem_range.mp hk
  omega
theorem cutV_map {f : Nat → V} (cs : List Nat) (lo hi : Option Int) : cutV (cs.map f) lo hi = ((cs.drop (HT.sIx cs.length 0 lo)).take (HT.sIx cs.length cs.length hi - HT.sIx cs.length 0 lo)).map f := by
  unfold cutV
  rw [List.length_map, List.map_take, List.map_drop]
theorem cut_from (cs : List Nat) (g : Nat) : (cs.drop (HT.sIx cs.length 0 (some (g : Int)))).take (HT.sIx cs.length cs.length none - HT.sIx cs.length 0 (some (g : Int))) = cs.drop g := by
  rw [HT.sIx_nat, HT.sIx_none]
  by_cases h : g ≤ cs.length
  · rw [Nat.min_eq_left h, List.take_of_length_le (by rw [List.length_drop] <;> omega)]
  · rw [Nat.min_eq_right (by omega), List.drop_of_length_le (by omega), List.drop_of_length_le (by omega), List.take_nil]
theorem cut_to (cs : List Nat) (g : Nat) : (cs.drop (HT.sIx cs.length 0 none)).take (HT.sIx cs.length cs.length (some (g : Int)) - HT.sIx cs.length 0 none) = cs.take g := by
  rw [HT.sIx_nat, HT.sIx_none, Nat.sub_zero, List.drop_zero]
  by_cases h : g ≤ cs.length
  · rw [Nat.min_eq_left h]
  · rw [Nat.min_eq_right (by omega), List.take_of_length_le (Nat.le_refl _), List.take_of_length_le (by omega)]
theorem seqIx {i : Int} {n : Nat} (h0 : 0 ≤ i) (h1 : i < n) : seqIndex? i n = some i.toNat := by
  unfold seqIndex?
  have e : ¬ i < 0 := by omega
  simp [h0, h1, e]
theorem atI_of {xs : List V} {i : Int} {v : V} (h0 : 0 ≤ i) (h : xs[i.toNat]? = some v) : atI xs i = some v := at_of (j := i.toNat) (by omega) h
theorem erase_perm (ls : List Nat) (k : Nat) (h : k < ls.length) : ls.Perm (ls[k] :: ls.eraseIdx k) := by
  rw [List.eraseIdx_eq_take_drop_succ]
  conv => lhs; rw [← List.take_append_drop k ls, List.drop_eq_getElem_cons h]
  exact List.perm_middle
theorem sgns_az : sgns "abcdefghijklmnopqrstuvwxyz" = vs_ ((List.range 26).map (97 + ·)) := by decide +kernel
/-! ### the rules that speak of the written part, by a K of their own (so that they may stand within a comprehension) -/
section
variable {X : Cx} (K : PySem.W.Frag) (hK : X.K = K)
def rLenK : List V → Hp → VK → Prop := fun xs H Q => ∃ p ys, xs = [.ref p] ∧ (SqL K H p ys ∨ SqT K H p ys) ∧ Q (.int ys.length) H
def rListK : List V → Hp → VK → Prop := fun xs H Q => ∃ p ys, xs = [.ref p] ∧ (SqL K H p ys ∨ SqT K H p ys) ∧ ∀ l, H l = none → Q (.ref l) (upd H l (.lst ys))
def rTupleK : List V → Hp → VK → Prop := fun xs H Q => ∃ p ys, xs = [.ref p] ∧ ((SqL K H p ys ∧ ∀ l, H l = none → Q (.ref l) (upd H l (.tup ys))) ∨ (SqT K H p ys ∧ Q (.ref p) H))
def rJoinK : V → List V → Hp → VK → Prop := fun x xs H Q => ∃ a p, ∃ ys : List Str, x = .str a ∧ xs = [.ref p] ∧ (SqL K H p (ys.map V.str) ∨ SqT K H p (ys.map V.str)) ∧ (ys.map (·.length)).sum + ys.length * a.length ≤ 16777216 ∧ Q (.str (Txt.join a ys)) H
include hK
theorem ix_listK : IxR X (rIxL K) := by subst hK; exact ix_list
theorem ix_tupK : IxR X (rIxT K) := by subst hK; exact ix_tup
theorem sl_listK : SlR X (rSlL K) := by subst hK; exact sl_list
theorem sl_tupK : SlR X (rSlT K) := by subst hK; exact sl_tup
theorem op_in_seqK : OpR X (compareOp .In) (rIn K false) := by subst hK; exact op_in_seq
theorem op_notIn_seqK : OpR X (compareOp .NotIn) (rIn K true) := by subst hK; exact op_notIn_seq
theorem call_lenK : CallR X (.builtin "len") (rLenK K) := by subst hK; exact call_len_seq
theorem call_listK : CallR X (.type "list") (rListK K) := by subst hK; exact call_list_of
theorem call_tupleK : CallR X (.type "tuple") (rTupleK K) := by subst hK; exact call_tuple_of
theorem cr_sumK (hc : X.calm = true) : CallR X (.builtin "sum") (rSum K) := by subst hK; exact cr_sum hc
theorem cr_anyK (hc : X.calm = true) : CallR X (.builtin "any") (rAny K) := by subst hK; exact cr_any hc
theorem cr_allK (hc : X.calm = true) : CallR X (.builtin "all") (rAll K) := by subst hK; exact cr_all hc
theorem cr_sortedK : CallR X (.builtin "sorted") (rSorted K) := by subst hK; exact cr_sorted
theorem cr_sortedSK : CallR X (.builtin "sorted") (rSortedS K) := by subst hK; exact cr_sortedS
theorem call_isiK : CallR X (.builtin "isinstance") (rIsi K) := by subst hK; exact call_isi
theorem mt_joinK : MtR X "str.join" (rJoinK K) := by subst hK; exact mt_join
theorem pi_listK {tg l : Expr} {tl : TE} (hl : PE X l tl) : PI X tg l (iList K tl) := by subst hK; exact pi_list hl
theorem pi_tupK {tg l : Expr} {tl : TE} (hl : PE X l tl) : PI X tg l (iTup K tl) := by subst hK; exact pi_tup hl
theorem pe_revLK {e : Expr} {te : TE} {k : Nat} {p1 p2 p3 pos : Pos} (he : PE X e te) : PE X (.Subscript e (.Slice none none (some (.UnaryOp .USub (.Constant (.int 1) k p1) p2)) p3) pos) (tRevL K te) := by subst hK; exact pe_revL he
theorem pg_tupK {pos : Pos} {es : List Expr} {k : Nat} {t : TGs} {n : Nat} (hc : X.calm = true) (h : PGs X es t) (hn : (assignEach es X.env).length = n := by rfl) (hst : (assignEach es X.env).findIdx? (·.1) = none := by rfl) : PG X (.Tuple es k pos) (gTup K n t) := by subst hK; exact pg_tup hc h hn hst
theorem pe_bm0K {o : Expr} {to : TE} {name : Str} {ap cp : Pos} {T id : String} {r : V → List V → Hp → VK → Prop} (pa : PlainAttrs T) (sl : Slot T name id) (ty : typeOf (.builtin id) = pure (.type "method_descriptor")) (hm : MtR X id r) (ho : PE X o to) (h1 : attributeBase o name X.env (eval o X.env) = eval o X.env := by rfl) (h2 : (ap.endLine == cp.line) = true := by rfl) : PE X (.Call (.Attribute o name ap) [] [] cp) (tBM0 K T r to) := by subst hK; exact pe_bm0 pa sl ty hm ho h1 h2
theorem pe_bmK {o e : Expr} {es : List Expr} {to : TE} {t : TA} {name : Str} {ap cp : Pos} {T id : String} {r : V → List V → Hp → VK → Prop} (pa : PlainAttrs T) (sl : Slot T name id) (ty : typeOf (.builtin id) = pure (.type "method_descriptor")) (hm : MtR X id r) (ho : PE X o to) (ha : PA X (e :: es) t) (h1 : attributeBase o name X.env (eval o X.env) = eval o X.env := by rfl) (h2 : ((backTo cp (starEach (e :: es) X.env)).all (fun x => !x.1) && (backToKw cp (keywordEach [] X.env)).all (fun x => x.1.isSome) && decide ((e :: es).length + ([] : List Keyword).length + (if ([] : List Keyword).isEmpty then 0 else 1) < 30)) = true := by rfl) (h3 : (ap.endLine == cp.line) = true := by rfl) (h4 : starEach (e :: es) X.env = (false, eval e X.env) :: starEach es X.env := by rfl) (h5 : (backTo cp (starEach es X.env)).any (·.1) = false := by rfl) : PE X (.Call (.Attribute o name ap) (e :: es) [] cp) (tBM K T r to t) := by subst hK; exact pe_bm pa sl ty hm ho ha h1 h2 h3 h4 h5
end
/-- a comprehension's turn without a test -/
theorem lcyes {σ : L2.St} {H : Hp} {A B : Hp → Prop} (h : A H) : tYes σ H (fun b H3 => if b = true then A H3 else B H3) := by
  show (if true = true then A H else B H)
  rw [if_pos rfl]
  exact h
theorem vs_snoc (ys : List Nat) (c : Nat) : vs_ ys ++ [V.str (sg c)] = vs_ (ys ++ [c]) := by
  show _ = List.map _ (ys ++ [c])
  rw [List.map_append]
  rfl
theorem vs_erase : ∀ (ls : List Nat) (k : Nat), (vs_ ls).eraseIdx k = vs_ (ls.eraseIdx k)
  | [], _ => rfl
  | _ :: _, 0 => rfl
  | c :: r, k + 1 => by
    show V.str (sg c) :: (vs_ r).eraseIdx k = V.str (sg c) :: vs_ (r.eraseIdx k)
    rw [vs_erase r k]
end LH

namespace LH
open PySem PySem.Spec PyProof.Rows L2
/-! ### sets of texts: set(list), sorted(set) -/
/-- at a stands a set whose members are just the texts l, each once -/
def TSet (P : Program) (w : World) (a : Addr) (l : List Str) (h : Heap) : Prop :=
  l.Nodup ∧ ∃ D : Froz.SD, h.get? a = some (Froz.sObj "set" D) ∧ Froz.TxOk P w D l ∧ Ris D.2.2.place.toList ∧ (w.params.followText "set-order" = true ∨ D.2.2.led = true)
theorem TSet.at {P : Program} {w : World} {a : Addr} {l : List Str} {h h' : Heap} (T : TSet P w a l h) (k : ∀ o, h.get? a = some o → h'.get? a = some o) : TSet P w a l h' :=
  let ⟨n, D, e, r⟩ := T
  ⟨n, D, k _ e, r⟩
theorem tx_ris (x : Int) (v : Value) (D : Froz.SD) (r : Ris D.2.2.place.toList) : Ris (Froz.addTx x v D).2.2.place.toList ∧ (Froz.addTx x v D).2.2.led = D.2.2.led := by
  have r1 := layNew_ris D.2.2 D.1 x v r
  have l1 := layNew_led D.2.2 D.1 x v
  unfold Froz.addTx
  generalize layNew D.2.2 D.1 x v = Z at r1 l1 ⊢
  obtain ⟨es1, t1, wd, gv⟩ := Z
  dsimp only at r1 l1 ⊢
  have r2 : Ris (if t1.plain = true then { t1 with plain := false } else t1 : SetTable).place.toList ∧ (if t1.plain = true then { t1 with plain := false } else t1 : SetTable).led = D.2.2.led := by
    split
    · exact ⟨r1, l1⟩
    · exact ⟨r1, l1⟩
  generalize (if t1.plain = true then { t1 with plain := false } else t1 : SetTable) = t2 at r2 ⊢
  unfold Froz.tailTx
  split
  · exact ⟨relayAll_ris _ _ _, (relayAll_led _ _ _).trans r2.2⟩
  · exact r2
section
variable {P : Program} {w : World} {A : Around} {E : Value → Shared → Prop} {s : Shared}
/-- the add of a text that is in -/
theorem tx_old {a : Addr} {T : String} {D : Froz.SD} {l : List Str} {k : Str} {u : Tok} {Q : Bool → Shared → Prop} (ho : s.heap.get? a = some (Froz.sObj T D)) (F : Froz.TxOk P w D l) (hk : k ∈ l) (hb : l.length < scanBound) (h : Q false s) :
    wpAny (model P w) A (setAddHashed a (.str k u) (hashStr w k)) Q E s := by
  have hkey : (PySem.strKind P w).is k (.str k u) = true := Froz.is_str k u
  have hd : (Froz.sObj T D).data = .set D.1 D.2.1 D.2.2 := rfl
  have hsz : D.1.size < scanBound := by rw [F.sz]; exact hb
  obtain ⟨e, he, hm⟩ := (F.mem k).mp hk
  unfold setAddHashed setAddHashedIn
  refine wpAny_holding (wpAny_bind (wpAny_setState_of ho hd F.fit ?_))
  dsimp only
  rw [byScan_of (knd := PySem.strKind P w) rfl hsz F.el]
  simp only [↓reduceIte]
  unfold setAddByScan
  refine wpAny_bind (wpAny_bind (wpAny_rule (wpAny_bind (wpAny_setScan_of (knd := PySem.strKind P w) (k := k) hkey ho hd F.fit F.el ?_))))
  cases hf : List.findIdx? (fun e => (PySem.strKind P w).is k e.2) D.1.toList with
  | none =>
    have c := List.findIdx?_eq_none_iff.mp hf e he
    rw [hm] at c
    cases c
  | some j => exact wpAny_pure (wpAny_pure h)
/-- the members behind one more -/
def tAdd (l : List Str) (k : Str) : List Str := if k ∈ l then l else k :: l
theorem mem_tAdd {l : List Str} {k x : Str} : x ∈ tAdd l k ↔ x ∈ l ∨ x = k := by
  unfold tAdd
  split
  · rename_i h
    exact ⟨.inl, fun z => z.elim id fun e => e ▸ h⟩
  · rw [List.mem_cons]
    exact Or.comm
theorem tAdd_len (l : List Str) (k : Str) : (tAdd l k).length ≤ l.length + 1 := by
  unfold tAdd
  split
  · omega
  · exact Nat.le_refl _
theorem tx_add {a : Addr} {l : List Str} {k : Str} {u : Tok} {Q : Bool → Shared → Prop} (T : TSet P w a l s.heap) (hb : l.length + 1 < scanBound)
    (h : ∀ (b : Bool) (h' : Heap) (tk : Nat), s.toks ≤ tk → TSet P w a (tAdd l k) h' → (∀ c o, c ≠ a → s.heap.get? c = some o → h'.get? c = some o) → Q b { s with heap := h', toks := tk }) : wpAny (model P w) A (setAdd a (.str k u)) Q E s := by
  obtain ⟨nd, D, ho, F, r, hl⟩ := T
  unfold setAdd
  refine wpAny_holding (wpAny_bind ((PySem.strKind P w).pyHash (k := k) (Froz.is_str _ _) ?_))
  by_cases hk : k ∈ l
  · have e : tAdd l k = l := if_pos hk
    refine tx_old (s := { s with toks := s.toks + 1 }) (l := l) (D := D) ho F hk (by omega) ?_
    exact h false s.heap (s.toks + 1) (Nat.le_succ _) (by rw [e]; exact ⟨nd, D, ho, F, r, hl⟩) fun _ _ _ q => q
  · have e : tAdd l k = k :: l := if_neg hk
    refine Froz.add_x (s := { s with toks := s.toks + 1 }) (l := l) (D := D) ho F hk hb ?_
    obtain ⟨r1, l1⟩ := tx_ris (hashStr w k) (.str k u) D r
    refine h true _ (s.toks + 1) (Nat.le_succ _) ?_ fun c o hc q => Heap.get?_update_of_ne _ (Ne.symm hc) q
    rw [e]
    exact ⟨List.nodup_cons.mpr ⟨hk, nd⟩, _, Froz.get_upd _ ho rfl, Froz.add_ok u F, r1, by rw [l1]; exact hl⟩
end
/-- the members, when the texts were put in one by one -/
def tAll (xs : List Str) : List Str := xs.foldl tAdd []
theorem mem_foldl_tAdd {x : Str} : ∀ (xs l : List Str), x ∈ xs.foldl tAdd l ↔ x ∈ l ∨ x ∈ xs
  | [], l => by simp
  | k :: r, l => by
    rw [List.foldl_cons, mem_foldl_tAdd r, mem_tAdd, List.mem_cons]
    constructor
    · rintro ((q | q) | q)
      · exact .inl q
      · exact .inr (.inl q)
      · exact .inr (.inr q)
    · rintro (q | q | q)
      · exact .inl (.inl q)
      · exact .inl (.inr q)
      · exact .inr q
theorem mem_tAll {x : Str} {xs : List Str} : x ∈ tAll xs ↔ x ∈ xs := by
  unfold tAll
  rw [mem_foldl_tAdd]
  simp
theorem len_foldl_tAdd : ∀ (xs l : List Str), (xs.foldl tAdd l).length ≤ l.length + xs.length
  | [], l => by simp
  | k :: r, l => by
    have a := len_foldl_tAdd r (tAdd l k)
    have b := tAdd_len l k
    rw [List.foldl_cons, List.length_cons]
    omega
theorem tAll_len (xs : List Str) : (tAll xs).length ≤ xs.length := by
  have := len_foldl_tAdd xs []
  rw [List.length_nil, Nat.zero_add] at this
  exact this
theorem tAll_snoc (xs : List Str) (k : Str) : tAll (xs ++ [k]) = tAdd (tAll xs) k := by
  unfold tAll
  rw [List.foldl_append]
  rfl
section
variable {P : Program} {w : World} {A : Around} {R : Result → Shared → Prop} {I : Addr} {fp wr : List Addr} {G : Array GenState → Array GenState → Prop} {n : Nat} {Pv : Nat → Value → Prop} {St : Nat → Shared → Prop}
/-- the loop that puts what is walked into a set of texts -/
theorem tx_loop (W : WalksS P w A.in1 I fp wr G n Pv St) (S : Addr) (hS : S ∉ fp) (xs : List Str) (hn : xs.length = n) (hb : n + 1 < scanBound) (hv : ∀ i v, Pv i v → ∃ x t, xs[i]? = some x ∧ v = .str x t) :
    ∀ (k i : Nat) (s : Shared), n - i = k → i ≤ n → St i s → TSet P w S (tAll (xs.take i)) s.heap → (∀ s', Moved (S :: wr) G s s' → TSet P w S (tAll xs) s'.heap → R (.ok (.ret .none)) s') →
      codeAny (model P w) A (.builtin "set.update.loop" ⟨[.ref S, .ref I], []⟩) R s := by
  have hw : S ∉ wr := fun z => hS (W.sub _ z)
  have up : ∀ b ∈ wr, b ∈ S :: wr := fun b z => List.mem_cons_of_mem _ z
  intro k
  induction k with
  | zero =>
    intro i s hk hi st T hR
    obtain rfl : i = n := by omega
    rw [List.take_of_length_le (Nat.le_of_eq hn)] at T
    refine codeAny_builtin PyProof.Rows.F.entry_set_update_loop ?_
    rw [Around.under_plainId PyProof.Rows.F.plain_set_update_loop _]
    show wpAny _ A.in1 (pyNext (.ref I) >>= _) _ _ s
    refine wpAny_bind (W.done s _ _ st fun s' m => ?_)
    exact wpAny_pure (hR s' (m.mono up) (T.at fun o q => m.heap S o hw q))
  | succ k ih =>
    intro i s hk hi st T hR
    have lt : i < n := by omega
    refine codeAny_builtin PyProof.Rows.F.entry_set_update_loop ?_
    rw [Around.under_plainId PyProof.Rows.F.plain_set_update_loop _]
    show wpAny _ A.in1 (pyNext (.ref I) >>= _) _ _ s
    refine wpAny_bind (W.item i s _ _ lt st fun v s1 hP st1 m1 => ?_)
    obtain ⟨x, t, ex, rfl⟩ := hv i v hP
    have T1 : TSet P w S (tAll (xs.take i)) s1.heap := T.at fun o q => m1.heap S o hw q
    have room : (tAll (xs.take i)).length + 1 < scanBound := by
      have a := tAll_len (xs.take i)
      have b := List.length_take_le i xs
      omega
    show wpAny _ A.in1 (holding [Value.str x t] (setAdd S (.str x t)) >>= _) _ _ s1
    refine wpAny_bind (wpAny_holding (tx_add T1 room fun b h2 tk htk T2 k2 => ?_))
    have e : tAll (xs.take (i + 1)) = tAdd (tAll (xs.take i)) x := by
      rw [List.take_add_one, ex]
      exact tAll_snoc _ _
    rw [← e] at T2
    refine wpAny_pure ⟨plainId_quiet PyProof.Rows.F.plain_set_update_loop _, ih (i + 1) _ (by omega) lt (W.frame _ s1 _ _ st1 htk fun c hc o q => k2 c o (fun z => hS (z ▸ hc)) q) T2 fun s3 m3 T3 => ?_⟩
    exact hR s3 (Moved.trans W.gtrans ((m1.mono up).then_heap htk fun c o hc q => k2 c o (fun z => hc (z ▸ List.mem_cons_self)) q) m3) T3
end
end LH

namespace LH
open PySem PySem.Spec PyProof.Rows L2
/-- as many and the same members, of which one list has none twice -/
theorem perm_sub : ∀ (l m : List Str), l.Nodup → m.length = l.length → (∀ x ∈ l, x ∈ m) → m.Perm l
  | [], m, _, h, _ => by rw [List.length_eq_zero_iff.mp h]
  | x :: r, m, nd, h, hs => by
    obtain ⟨n1, n2⟩ := List.nodup_cons.mp nd
    have hx := hs x List.mem_cons_self
    refine (List.perm_cons_erase hx).trans (List.Perm.cons x (perm_sub r (m.erase x) n2 ?_ fun y hy => ?_))
    · rw [List.length_erase_of_mem hx, h]
      rfl
    · have hne : y ≠ x := fun e => n1 (e ▸ hy)
      exact (List.mem_erase_of_ne hne).mpr (hs y (List.mem_cons_of_mem _ hy))
theorem TSet.perm {l m : List Str} (nd : l.Nodup) (hl : m.length = l.length) (hm : ∀ x, x ∈ l ↔ x ∈ m) : m.Perm l := perm_sub l m nd hl fun x hx => (hm x).mp hx
/-- a new set -/
abbrev set0 (w : World) : Obj := { cls := .type "set", dict := none, data := .set #[] 0 (.fresh 0 0 (!w.params.followText "set-order")) }
section
variable {P : Program} {w : World} {A : Around} {E : Value → Shared → Prop} {s : Shared}
theorem set_made (a : Value) {Q₁ : Value → Shared → Prop} (h : Q₁ (.ref s.heap.objs.size) { s with heap := s.heap.push (set0 w) }) :
    codeAny (model P w) A (.call (.builtin "set.__new__") ⟨[.type "set", a], []⟩) (wants Q₁ E) s := by
  refine codeAny_of_tree ?_
  show wpAny _ A.in1 (checkBuiltinCall "set.__new__" ⟨[.type "set", a], []⟩ >>= fun _ => again (.builtin "set.__new__" ⟨[.type "set", a], []⟩)) _ _ s
  refine wpAny_bind (wpAny_of_eq (PySem.F.newCall_set_1 a) (wpAny_pure ⟨plainId_quiet PySem.F.plain_set_new _, codeAny_builtin PySem.F.entry_set_new ?_⟩))
  rw [Around.under_plainId PySem.F.plain_set_new _]
  unfold Builtin.«set.__new__» Builtin.Frozenset.newClass
  have sb := sub_set_self
  obtain ⟨hp, g, d, tk, os⟩ := s
  dsimp only
  wp_walk
  refine wpAny_askSetting (wpAny_pure ?_)
  dsimp only
  simp only [newObj]
  exact wpAny_bind (wpAny_alloc (wpAny_pure (wpAny_pure h)))
theorem tset_new {h h' : Heap} (e : h'.get? h.objs.size = some (set0 w)) : TSet P w h.objs.size [] h' :=
  ⟨List.nodup_nil, (#[], 0, .fresh 0 0 (!w.params.followText "set-order")), e, Froz.TxOk.nil (by rfl), List.Pairwise.nil, by
    show _ ∨ (!w.params.followText "set-order") = true
    cases w.params.followText "set-order"
    · exact .inr rfl
    · exact .inl rfl⟩
set_option maxHeartbeats 4000000 in
/-- set(xs) of a list of texts -/
theorem call_setT {l : Addr} {items : Array Value} {xs : List Str} {Q : Value → Shared → Prop} (hh : A.handled = none) (hl : s.heap.IsList l items) (hi : StrsAre items.toList xs) (hb : items.size + 1 < scanBound)
    (h : ∀ (h' : Heap) (tk : Nat), TSet P w s.heap.objs.size (tAll xs) h' → (∀ b o, b < s.heap.objs.size → s.heap.get? b = some o → h'.get? b = some o) → Q (.ref s.heap.objs.size) { s with heap := h', toks := tk }) :
    wpAny (model P w) A (call (.type "set") [.ref l]) Q E s := by
  obtain ⟨c, tl, hmro⟩ := PySem.F.called_set.mro
  have hmade := PySem.F.called_set.made
  have hsub := PySem.F.called_set.sub
  refine wpAny_call (codeAny_of_tree ?_)
  show wpAny _ _ (callAny (.type "set") _) _ _ _
  refine wpAny_pure ⟨Code.quiet_builtin _ (by decide +kernel), codeAny_builtin PySem.F.entry_type_call ?_⟩
  rw [Around.under_plain (weight_type_call_type "set" [.ref l] []) rfl]
  have h1 := PySem.F.called_set.notType
  have h2 := PySem.F.called_set.canCreate
  have hct := PySem.F.typeCall_set_1 (.ref l)
  repeat (any_goals (first | assumption | wp_step))
  refine codeAny_mono (set_made (.ref l) (E := E) (Q₁ := fun obj s₁ => obj = .ref s.heap.objs.size ∧ s₁ = { s with heap := s.heap.push (set0 w) }) ⟨rfl, rfl⟩) fun r s₁ hr => ?_
  cases r with
  | error e => exact hr
  | ok fl =>
    cases fl with
    | ret obj =>
      obtain ⟨rfl, rfl⟩ := hr
      have hS : (s.heap.push (set0 w)).get? s.heap.objs.size = some (set0 w) := Heap.get?_push_size _ rfl
      have hT : Shared.TypeIs { s with heap := s.heap.push (set0 w) } (.ref s.heap.objs.size) "set" := ⟨_, hS, rfl⟩
      have hli := PySem.F.called_set.init.lookup
      have hbi := PySem.F.called_set.init.bind (.ref s.heap.objs.size)
      repeat (any_goals (first | assumption | wp_step))
      refine codeAny_mono (codeAny_call_builtin (R := wants (fun r s₂ => r = .none ∧ ∃ h' tk, s₂ = { s with heap := h', toks := tk } ∧ TSet P w s.heap.objs.size (tAll xs) h' ∧
          (∀ b o, b < s.heap.objs.size → s.heap.get? b = some o → h'.get? b = some o)) E) PySem.F.called_set.init.plain PySem.F.entry_set_init (check_set_init_1 hT ?_)) fun r₂ s₂ hr₂ => ?_
      · obtain ⟨ol, hol, hcl, nl, hdl⟩ := hl
        obtain ⟨ocls, odict, odata, oslots⟩ := ol
        simp only at hcl hdl
        subst hcl
        subst hdl
        have hol' : (s.heap.push (set0 w)).get? l = some { cls := .type "list", dict := odict, data := .seq items nl, slots := oslots } := Heap.get?_push_of_some _ hol
        have hsls := PySem.F.sub_list_set
        have hslf := PySem.F.sub_list_frozenset
        have hne : (Value.type "list" == Value.type "dict") = false := by decide
        have hl1 : (s.heap.push (set0 w)).IsList l items := ⟨_, hol', rfl, nl, rfl⟩
        unfold Builtin.«set.__init__» noKeywords Builtin.Frozenset.updateFrom
        generalize hPI : pyIter = PI
        wp_walk
        subst hPI
        refine wpAny_pyIter_list hl1 (wpAny_bind (wpAny_runValue ?_))
        have lS : l < s.heap.objs.size := Heap.lt_size hol
        have eS : (s.heap.push (set0 w)).objs.size = s.heap.objs.size + 1 := Heap.size_push ..
        have neI : l ≠ (s.heap.push (set0 w)).objs.size := by
          rw [eS]
          exact Nat.ne_of_lt (Nat.lt_succ_of_lt lS)
        have out : s.heap.objs.size ∉ [(s.heap.push (set0 w)).objs.size, l] := fun z => by
          rcases List.mem_cons.mp z with z | z
          · rw [eS] at z
            exact absurd z (Nat.ne_of_lt (Nat.lt_succ_self _))
          · exact absurd (List.mem_singleton.mp z) (Nat.ne_of_gt lS)
        have hsz : xs.length = items.size := by rw [← StrsAre.len_eq hi, Array.length_toList]
        have hv : ∀ (i : Nat) (v : Value), items[i]? = some v → ∃ x t, xs[i]? = some x ∧ v = .str x t := fun i v q => by
          have hil : i < xs.length := by
            rw [hsz]
            exact (Array.getElem?_eq_some_iff.mp q).1
          obtain ⟨t, e⟩ := SS.strs_at hi i v (by rw [Array.getElem?_toList]; exact q)
          refine ⟨_, t, ?_, e⟩
          rw [List.getD_eq_getElem?_getD, List.getElem?_eq_getElem hil]
          rfl
        refine tx_loop ((Walks.list (by show A.in1.in1.in1.handled = none; simp [hh]) _ l neI items).toS) s.heap.objs.size out xs hsz hb hv items.size 0 _ (by omega) (Nat.zero_le _) ⟨⟨_, Heap.get?_push_size _ rfl, rfl, rfl⟩, hl1.push _⟩ ?tx1 ?tx2
        case tx1 => exact tset_new (h := s.heap) (Heap.get?_push_of_some _ hS)
        case tx2 =>
          intro s' m T
          obtain ⟨h', g', d', tk', os'⟩ := s'
          obtain rfl : g' = s.gens := m.gens
          obtain rfl : d' = s.drawn := m.drawn
          obtain rfl : os' = s.os := m.os
          refine wpAny_pure (wpAny_pure ⟨rfl, h', tk', rfl, T, fun b o q e => ?_⟩)
          refine m.heap b o (fun z => ?_) (Heap.get?_push_of_some _ (Heap.get?_push_of_some _ e))
          rcases List.mem_cons.mp z with z | z
          · exact absurd z (Nat.ne_of_lt q)
          · have z := List.mem_singleton.mp z
            rw [eS] at z
            exact absurd z (Nat.ne_of_lt (Nat.lt_succ_of_lt q))
      · cases r₂ with
        | error e => exact hr₂
        | ok fl₂ =>
          cases fl₂ with
          | ret r =>
            obtain ⟨rfl, h', tk, rfl, T, hk⟩ := hr₂
            repeat (any_goals (first | assumption | wp_step))
            exact h _ _ T hk
          | _ => exact hr₂.elim
    | _ => exact hr.elim
/-- sorted(found) of a set of texts -/
theorem call_sortedT {a : Addr} {l : List Str} {Q : Value → Shared → Prop} (T : TSet P w a l s.heap) (hh : A.handled = none) (hb : l.length < scanBound)
    (hQ : ∀ s' p (out : Array Value) (c : Nat) (ys : List Str), (∀ b o, s.heap.get? b = some o → s'.heap.get? b = some o) → s'.gens = s.gens → s'.os = s.os → s.heap.objs.size ≤ p →
      s'.heap.get? p = some (seqObj "list" out c) → StrsAre out.toList ys → ys.Perm l → sortedS ys = true → Q (.ref p) s') :
    wpAny (model P w) A (call (.builtin "sorted") [.ref a]) Q E s := by
  obtain ⟨nd, D, ho, F, r, hl⟩ := T
  have hsz : D.1.size < scanBound := by rw [F.sz]; exact hb
  refine Calls.call_function_entry kind_sorted plain_sorted entry_sorted (args_sorted1 _) ?_
  unfold Builtin.«sorted»
  refine wpAny_bind (m := checkCount "sorted" 1 1 _) (wpAny_pure ?_)
  refine wpAny_bind (collect_set (A := A.in1) (es := D.1) (ep := D.2.1) (t := D.2.2) hh ⟨_, ho, rfl, rfl⟩ F.fit hsz r hl fun s1 vs k1 hz g1 o1 pm => ?_)
  have all : ∀ v ∈ vs, ∃ x t, v = Value.str x t := fun v hv => by
    obtain ⟨e, he, rfl⟩ := List.mem_map.mp (pm.mem_iff.mp hv)
    obtain ⟨⟨k, hk, _⟩, _⟩ := F.el e he
    have hk : Value.isStrOf k e.2 = true := hk
    cases q : e.2 with
    | str x t => exact ⟨x, t, rfl⟩
    | _ =>
      rw [q] at hk
      cases hk
  have hS : StrsAre vs (vs.map strOf) := strsAre_map vs all
  have hvl : vs.length ≤ sizeLine := by
    rw [pm.length_eq, List.length_map, Array.length_toList]
    exact fits_of_scanBound hsz
  refine wpAny_bind (wpAny_newList ?_ hvl)
  have hoL : (s1.heap.push (seqObj "list" vs.toArray 0)).get? s1.heap.objs.size = some (seqObj "list" vs.toArray 0) := Heap.get?_push_size _ rfl
  refine wpAny_bind (wpAny_holding (wpAny_call_entry slot_list_sort ⟨_, hoL, rfl⟩ entry_list_sort (list_sort_treeKAny strKind_oneLt hoL hS.keysOf (fun v₁ v₂ rest e => keyKind_strs (by rw [← e]; exact hS)) hvl fun st' hp hs => ⟨_, rfl, ?_⟩) (args_list_sort _)))
  obtain ⟨ys, a1, a2, a3⟩ := sorted_out_str hS hp hs
  obtain ⟨c, hc⟩ := sortedHeap_at (vs := vs) (out := (arrOf st').map (·.2)) hoL
  refine wpAny_pure ⟨_, rfl, hQ _ s1.heap.objs.size _ c ys (fun b u e => ?_) g1 o1 hz hc a1 (a2.trans ?_) a3⟩
  · have q := k1 b u e
    have hlt := Heap.lt_size q
    refine (sortedHeap_old (Nat.ne_of_lt hlt) ?_).trans (Heap.get?_push_of_some _ q)
    exact Nat.lt_of_lt_of_eq (Nat.lt_succ_of_lt hlt) (size_push' ..).symm
  · -- the texts of the entries are just l
    have p1 : (vs.map strOf).Perm (D.1.toList.map fun e => strOf e.2) := by
      have q := pm.map strOf
      rw [List.map_map] at q
      exact q
    have key : ∀ e ∈ D.1.toList, ∀ k : Str, (PySem.strKind P w).is k e.2 = true ↔ strOf e.2 = k := fun e he k => by
      obtain ⟨⟨k0, hk0, _⟩, _⟩ := F.el e he
      have e0 : strOf e.2 = k0 := by
        have hk0 : Value.isStrOf k0 e.2 = true := hk0
        cases q : e.2 with
        | str x t =>
          rw [q] at hk0
          have : (x == k0) = true := by simpa [Value.isStrOf] using hk0
          exact eq_of_beq this
        | _ =>
          rw [q] at hk0
          cases hk0
      constructor
      · intro hk
        rw [e0]
        exact (PySem.strKind P w).inj e.2 k0 k hk0 hk
      · intro hk
        rw [← hk, e0]
        exact hk0
    refine p1.trans (TSet.perm nd ?_ fun x => ?_)
    · rw [List.length_map, Array.length_toList]
      exact F.sz
    · rw [F.mem x, List.mem_map]
      constructor
      · rintro ⟨e, he, q⟩
        exact ⟨e, he, (key e he x).mp q⟩
      · rintro ⟨e, he, q⟩
        exact ⟨e, he, (key e he x).mpr q⟩
end
end LH

namespace LH
open PySem PySem.Spec PyProof.Rows L2
/-- an expression that changes nothing, by its value -/
def tPure (t : TE) : TE := fun σ H Q => ∃ v, t σ H (fun x H' => x = v ∧ H' = H) ∧ Q v H
theorem pe_pure {X : Cx} {e : Expr} {t : TE} (h : PE X e t) : PE X e (tPure t) := by
  refine ⟨fun pins s σ H Q I q => ?_⟩
  obtain ⟨v, h1, h2⟩ := q
  refine thn (h.run pins s σ H _ I h1) fun u s1 ⟨x, H1, I1, r, e1, e2⟩ => ?_
  subst e1
  subst e2
  exact ⟨x, H1, I1, r, h2⟩
/-! ### a new pair at each turn -/
def Itp (n : Nat) (xs ys : Nat → Option V) : It := ⟨fun i _ => i < n, YPair xs ys, fun i _ => i = n⟩
theorem walk_Itp {n : Nat} {xs ys : Nat → Option V} : Walk (Itp n xs ys) n (fun _ => True) (YPair xs ys) := ⟨fun _ _ h _ => h, fun _ _ => rfl, fun _ _ _ _ _ _ y => y⟩
/-- a walk that hands out pairs of its own, as a turn -/
theorem turn_T {P : Program} {w : World} {K : PySem.W.Frag} {elts : List Expr} {kk n : Nat} {tpos : Pos} {xs ys : Nat → Option V} {it : Addr} {fp wr : List Addr} {Pt : Nat → Array Value → Prop} {St : Nat → Heap → Prop} {Mid : Nat → Addr → Heap → Prop}
    (W : ∀ A : Around, A.handled = none → WalksT P w A it fp wr n Pt St Mid) (hit : it ∈ fp) (ob : ∀ i h, St i h → ∀ b ∈ fp, ∃ o, h.get? b = some o ∧ ∀ v, o.data ≠ .cell v)
    (hp : ∀ i vals, Pt i vals → ∃ x y u v, vals = #[u, v] ∧ xs i = some x ∧ ys i = some y ∧ RelV x u ∧ RelV y v)
    (sf : ∀ (A : Around) (i : Nat) (s : Shared) (Q : Value → Shared → Prop) (E : Value → Shared → Prop), St i s.heap → Q (.ref it) s → wpAny (model P w) A (pyIter (.ref it)) Q E s) :
    Turn P w K (.Tuple elts kk tpos) (Itp n xs ys) fp it St where
  mem := hit
  obj := ob
  keep := fun i h h' st k => (W {} rfl).frame i h h' st k
  item := by
    intro X hP hw hK hc i pins s σ H E I hf st hg
    subst hP hw hK
    have W0 := W X.A (I.ok.hd hc)
    refine W0.item i s _ _ hg st fun T vals h1 tk hv hT tup mid k1 => ?_
    obtain ⟨x, y, u, v, rfl, ex, ey, rx, ry⟩ := hp i vals hv
    refine ⟨_, rfl, W0.go elts kk tpos i T _ _ _ mid fun h2 st2 k2 => ?_⟩
    have tup2 : h2.IsTuple T #[u, v] := tup.at fun o q => k2 T o (W0.apart i T h1 mid) q
    have I1 : Inv X pins σ (upd H T (.tup [x, y])) { s with heap := h2, toks := tk } :=
      I.turnedNew (ch := wr) (fun b o hb q => k2 b o hb (k1 b o hb q)) (fun b hb => hf b (W0.sub b hb)) hT ⟨by show 2 ≤ sizeLine; decide, [u, v], .cons rx (.cons ry .nil), tup2⟩
    refine ⟨.ref T, _, I1, rfl, ⟨T, x, y, rfl, I.hok.fresh hT, rfl, ex, ey⟩, st2, fun b hb => ?_⟩
    obtain ⟨o, q, _⟩ := ob i s.heap st b hb
    rw [upd_ne (Nat.ne_of_lt (Nat.lt_of_lt_of_le (Heap.lt_size q) hT))]
    exact (hf b hb).1
  done := by
    intro X hP hw hK hc i pins s σ H E I hf st hg
    subst hP hw hK
    have W0 := W X.A (I.ok.hd hc)
    obtain rfl : i = n := hg
    exact W0.done s _ _ st fun h1 tk k1 => ⟨rfl, I.turnedL (ch := wr) (fun b o hb q => k1 b o hb q) fun b hb => hf b (W0.sub b hb)⟩
  self := sf
/-! ### enumerate(text) -/
def signAt (z : Str) (i : Nat) : Option V := (z.cps[i]?).map fun c => .str ⟨#[c]⟩
def iEnumS (ta : TA) : TI := fun σ H R => ta σ H fun vs H1 => ∃ z : Str, vs = [.str z] ∧ R (Itp z.cps.size (fun i => some (.int (i : Nat))) (signAt z)) H1
theorem pi_enumS {X : Cx} {e : Expr} {ta : TA} {p pos tpos : Pos} {elts : List Expr} {kk : Nat} (hg : Gl X "enumerate") (hm : X.mg "enumerate" = none) (ha : PA X [e] ta) (hs : starEach [e] X.env = [(false, eval e X.env)] := by rfl) :
    PI X (.Tuple elts kk tpos) (.Call (.Name "enumerate" p) [e] [] pos) (iEnumS ta) := by
  refine ⟨fun pins s σ H R I h => ?_⟩
  refine Call_ (ld_blt I hg hm boot_enumerate (PyProof.Rows.callWith_type1 (thn (ha.run pos pins s σ H _ I h) fun us s1 ⟨vs, H1, I1, r1, q1⟩ => ?_) hs rfl))
  obtain ⟨z, ex, q⟩ := q1
  subst ex
  obtain ⟨u, rfl, rx⟩ := vals1 r1
  obtain ⟨t, rfl⟩ := rx
  refine call_enumerate_str fun h1 he hi hsz k1 => wpAny_pyIter_enum he ?_
  have I2 : Inv X pins σ H1 { s1 with heap := h1 } := I1.kept (t' := s1.toks) k1
  have hne : s1.heap.objs.size + 1 ≠ s1.heap.objs.size := Nat.succ_ne_self _
  refine ⟨s1.heap.objs.size + 1, [s1.heap.objs.size + 1, s1.heap.objs.size], _, _, H1, rfl, I2,
    turn_T (St := fun i h => (∃ old, IsEnum h (s1.heap.objs.size + 1) s1.heap.objs.size i old) ∧ h.IsStrIter s1.heap.objs.size (strIterType z) z t i)
      (fun A hA => WalksT.enumerateD (Draws.text (A := A.in1) hA s1.heap.objs.size z t) (s1.heap.objs.size + 1) hne (by simp) (by simp)) (by simp) (fun i h st b hb => ?_) (fun i vals hv => ?_) (fun A i s Q E st hQ => ?_), ⟨⟨.none, he⟩, hi⟩, fun b hb => ?_, q⟩
  · obtain ⟨⟨old, e1⟩, ⟨o, e2, c2, d2⟩⟩ := st
    have e' : b = s1.heap.objs.size + 1 ∨ b = s1.heap.objs.size := by simpa using hb
    rcases e' with y | y
    · rw [y]
      exact ⟨_, e1, fun v q => nomatch q⟩
    · rw [y]
      exact ⟨o, e2, fun v q => by rw [d2] at q; cases q⟩
  · obtain ⟨t', x, ⟨c, u, hc, rfl⟩, rfl⟩ := hv
    refine ⟨.int (i : Nat), .str ⟨#[c]⟩, _, _, rfl, rfl, ?_, ⟨_, rfl⟩, ⟨_, rfl⟩⟩
    unfold signAt
    rw [hc]
    rfl
  · obtain ⟨⟨old, e1⟩, _⟩ := st
    exact wpAny_pyIter_enum e1 hQ
  · have e' : b = s1.heap.objs.size + 1 ∨ b = s1.heap.objs.size := by simpa using hb
    have hle : s1.heap.objs.size ≤ b := by
      rcases e' with y | y
      · rw [y]
        exact Nat.le_add_right _ _
      · rw [y]
        exact Nat.le_refl _
    exact I1.fpOk hle (I1.hok.fresh hle)
/-! ### the set rules -/
/-- the set of the texts l at a -/
def SetT (P : Program) (w : World) (a : Addr) (l : List Str) : HO := .ext (TSet P w a l)
section
variable {X : Cx}
theorem setT_new {P : Program} {w : World} {H : Hp} {h : Heap} {a : Addr} {l : List Str} (T : TSet P w a l h) : ObjOk P w H h a (SetT P w a l) := by
  have ⟨_, D, e, _⟩ := T
  exact ⟨T, ⟨_, e⟩, fun h1 h2 p k => p.at k⟩
/-- set(xs), texts; the set stays nowhere but here -/
def rSetL (P : Program) (w : World) (K : PySem.W.Frag) : List V → Hp → VK → Prop := fun xs H Q => ∃ (a : Addr) (ys : List Str), xs = [.ref a] ∧ SqL K H a (ys.map V.str) ∧ ys.length ≤ 4000 ∧ ∀ p, H p = none → Q (.ref p) (upd H p (SetT P w p (tAll ys)))
theorem cr_setL (hc : X.calm = true) : CallR X (.type "set") (rSetL X.prog X.w X.K) := by
  intro pins s σ H xs us Q I r h
  obtain ⟨a, ys, rfl, hs, hl, q⟩ := h
  obtain ⟨its, rv, pl, _⟩ := I.list hs
  rw [Vals.ref1 r]
  have hlen := rv.length
  rw [List.length_map] at hlen
  refine call_setT (I.ok.hd hc) pl.isList (by simpa using rv.strs) (by rw [List.size_toArray, ← hlen]; unfold scanBound; omega) fun h1 tk T k1 => ?_
  refine ⟨.ref s.heap.objs.size, _, I.laid (t' := tk) (fun b o e => k1 b o (Heap.lt_size e) e) (Nat.le_refl _) (setT_new T), rfl, q _ (I.hok.fresh (Nat.le_refl _))⟩
/-- sorted(found) -/
def rSortT (P : Program) (w : World) : List V → Hp → VK → Prop := fun xs H Q => ∃ (a : Addr) (l : List Str), xs = [.ref a] ∧ H a = some (SetT P w a l) ∧ l.length ≤ 4000 ∧ ∀ ys p, ys.Perm l → sortedS ys = true → H p = none → Q (.ref p) (upd H p (.lst (ys.map V.str)))
theorem cr_sortT (hc : X.calm = true) : CallR X (.builtin "sorted") (rSortT X.prog X.w) := by
  intro pins s σ H vs us Q I r h
  obtain ⟨a, l, rfl, ha, hl, q⟩ := h
  have T : TSet X.prog X.w a l s.heap := (I.hok a _ ha).1
  rw [Vals.ref1 r]
  refine call_sortedT T (I.ok.hd hc) (by unfold scanBound; omega) fun s' p out c ys k g o hp hg hi pm hs => ?_
  have hlen : (ys.map V.str).length ≤ sizeLine := by
    rw [List.length_map, pm.length_eq]
    exact Nat.le_trans hl (by decide)
  have hn : H p = none := I.hok.fresh hp
  have J : Inv X pins σ (upd H p (.lst (ys.map V.str))) { s with heap := s'.heap, gens := s'.gens, drawn := s'.drawn, toks := s'.toks } :=
    I.call (ch := []) (Un.laid k hp hn) (I.hok.laid k hp ⟨hlen, out.toList, c, vals_of_strs hi, hg⟩) (by rw [g]; exact I.bare) (fun _ z => nomatch z)
  have e : s' = { s with heap := s'.heap, gens := s'.gens, drawn := s'.drawn, toks := s'.toks } := by
    cases s'
    cases s
    cases o
    rfl
  rw [e]
  exact ⟨.ref p, _, J, rfl, q ys p pm hs hn⟩
end
section
variable {X : Cx} (P : Program) (w : World) (K : PySem.W.Frag) (hP : X.prog = P) (hw : X.w = w) (hK : X.K = K) (hc : X.calm = true)
include hP hw hc
theorem cr_sortTK : CallR X (.builtin "sorted") (rSortT P w) := by subst hP hw; exact cr_sortT hc
include hK
theorem cr_setLK : CallR X (.type "set") (rSetL P w K) := by subst hP hw hK; exact cr_setL hc
end
/-! ### what is sorted and has no text twice is told by its members -/
theorem sortedS_pw : ∀ {l : List Str}, sortedS l = true → l.Pairwise fun a b => ltCps b.cps.toList a.cps.toList = false := by
  have tr : ∀ a b c : List Nat, ltCps b a = false → ltCps c b = false → ltCps c a = false := fun a b c h1 h2 => by
    rw [ltCps_eq] at h1 h2 ⊢
    have h1 := of_decide_eq_false h1
    have h2 := of_decide_eq_false h2
    exact decide_eq_false fun h => h1 (Std.lt_of_le_of_lt (Std.not_lt.mp h2) h)
  have go : ∀ (l : List Str) (p : Str), risingS p l = true → (p :: l).Pairwise fun a b => ltCps b.cps.toList a.cps.toList = false := by
    intro l
    induction l with
    | nil => intro p _; exact List.pairwise_singleton _ _
    | cons x r ih =>
      intro p h
      have h : (!ltCps x.cps.toList p.cps.toList && risingS x r) = true := h
      rw [Bool.and_eq_true] at h
      have i := ih x h.2
      have h1 : ltCps x.cps.toList p.cps.toList = false := by simpa using h.1
      refine List.Pairwise.cons (fun y hy => ?_) i
      rcases List.mem_cons.mp hy with rfl | hy
      · exact h1
      · exact tr _ _ _ h1 (List.rel_of_pairwise_cons i hy)
  intro l h
  cases l with
  | nil => exact List.Pairwise.nil
  | cons x r => exact go r x h
theorem sorted_one {l m : List Str} (h1 : sortedS l = true) (h2 : sortedS m = true) (p : l.Perm m) : l = m := by
  refine List.Perm.eq_of_pairwise (le := fun a b => ltCps b.cps.toList a.cps.toList = false) (fun a b _ _ q1 q2 => ?_) (sortedS_pw h1) (sortedS_pw h2) p
  rw [ltCps_eq] at q1 q2
  have q1 := of_decide_eq_false q1
  have q2 := of_decide_eq_false q2
  have e : a.cps.toList = b.cps.toList := Std.le_antisymm (Std.not_lt.mp q1) (Std.not_lt.mp q2)
  obtain ⟨⟨a⟩⟩ := a
  obtain ⟨⟨b⟩⟩ := b
  have e : a = b := e
  rw [e]
end LH

namespace LH
open PySem PySem.Spec PyProof.Rows L2
/-! ### {text for .. in ..} -/
/-- found.add(text) -/
theorem tset_put {P : Program} {w : World} {A : Around} {E : Value → Shared → Prop} {s : Shared} {a : Addr} {l : List Str} {k : Str} {u : Tok} {Q : Value → Shared → Prop} (T : TSet P w a l s.heap) (hb : l.length + 1 < scanBound)
    (h : ∀ (h' : Heap) (tk : Nat), TSet P w a (tAdd l k) h' → (∀ c o, c ≠ a → s.heap.get? c = some o → h'.get? c = some o) → Q .none { s with heap := h', toks := tk }) :
    wpAny (model P w) A (call (.builtin "set.add") [.ref a, .str k u]) Q E s := by
  have ⟨_, D, ho, _⟩ := T
  have ty : s.TypeIs (.ref a) "set" := ⟨_, ho, rfl⟩
  refine wpAny_call_entry PySem.F.slot_set_add ty PySem.F.entry_set_add ?_ (PySem.F.args_set_add_2 _ _)
  unfold Builtin.«set.add» Builtin.Frozenset.oneOther Builtin.Frozenset.addrOf
  simp only [List.isEmpty_nil, bind_assoc]
  refine wpAny_bind (wpAny_pure (wpAny_bind (wpAny_pure (wpAny_bind ?_))))
  exact tx_add T hb fun b h' tk _ T' kp => wpAny_pure ⟨_, rfl, h h' tk T' kp⟩
section
variable {X : Cx}
theorem setT_put {pins : List (Addr × Obj)} {σ : L2.St} {H : Hp} {s : Shared} {E : Value → Shared → Prop} {D : Addr} {l : List Str} {k : Str} {u : Value} {Q : Value → Shared → Prop} (I : Inv X pins σ H s) (hD : H D = some (SetT X.prog X.w D l)) (hb : l.length + 1 < scanBound) (ru : RelV (.str k) u)
    (h : ∀ s', Inv X pins σ (upd H D (SetT X.prog X.w D (tAdd l k))) s' → Q .none s') : wpAny (model X.prog X.w) X.A (call (.builtin "set.add") [.ref D, u]) Q E s := by
  have T : TSet X.prog X.w D l s.heap := (I.hok D _ hD).1
  obtain ⟨t, rfl⟩ := ru
  refine tset_put T hb fun h' tk T' kp => h _ ?_
  have ⟨_, D', e', _⟩ := T'
  exact I.write (e := D) (t' := tk) (by rw [hD]; trivial) (.inl rfl) (fun b o hb q => kp b o hb q) ⟨_, e'⟩ (setT_new T')
/-- what is asked of a turn of the block: the walk J, the place D of the set -/
def TurnsT (P : Program) (w : World) (J : It) (g : TG) (tt : TT) (te : TE) (vs : List Nat) (σ : L2.St) (D : Addr) (Q : Hp → Prop) (W : Nat → Nat → Hp → Prop) : Prop := ∀ i m H, W i m H →
  (J.stop i H ∧ Q H) ∨ (J.go i H ∧ ∃ N : Hp → Prop, (∀ H', N H' → ∃ m', m' < m ∧ W (i + 1) m' H') ∧
    ∀ x H', J.yld i H x H' → g x (wipe σ vs) H' fun σ' H2 => wipe σ' vs = wipe σ vs ∧ tt σ' H2 fun b H3 => bif b then te σ' H3 fun y H4 =>
      ∃ (k : Str) (l : List Str), y = .str k ∧ H4 D = some (SetT P w D l) ∧ l.length + 1 < scanBound ∧ N (upd H4 D (SetT P w D (tAdd l k))) else N H3)
/-- the set comprehension of texts: D is where the new set stands -/
def tScT (P : Program) (w : World) (wi : TI) (g : TG) (tt : TT) (te : TE) (vs : List Nat) : TE := fun σ H Q => wi σ H fun J H1 =>
  ∀ D, H1 D = none → ∃ W : Nat → Nat → Hp → Prop, (∃ m, W 0 m (upd H1 D (SetT P w D []))) ∧ TurnsT P w J g tt te vs σ D (Q (.ref D)) W
variable {elt tg iter : Expr} {ifs : List Expr} {scope : Scope} {own : List (Str × Nat)} {pos : Pos} {wi : TI} {g : TG} {tt : TT} {te : TE}
theorem pe_scT (hc : X.calm = true) (nd : X.N.Nodup) (pi : PI X tg iter wi) (bk : BlkOk X.N X.env.scope scope own)
    (pG : ∀ (s : Shared) (H : Hp) (C : Addr) (cs : List (Str × Addr)) (ps : List Addr), PG (X.blk s H scope (compEnvC scope cs C X.env) ps) tg g)
    (pT : ∀ (s : Shared) (H : Hp) (C : Addr) (cs : List (Str × Addr)) (ps : List Addr), PTs (X.blk s H scope (compEnvC scope cs C X.env) ps) ifs tt)
    (pE : ∀ (s : Shared) (H : Hp) (C : Addr) (cs : List (Str × Addr)) (ps : List Addr), PE (X.blk s H scope (compEnvC scope cs C X.env) ps) elt te)
    (fs : ∀ x, foldedSetIterable iter X.env x = pure x := by intro _; rfl) : PE X (.SetComp elt [⟨tg, iter, ifs, 0⟩] scope pos) (tScT X.prog X.w wi g tt te (own.map (·.2))) := by
  refine ⟨fun pins s σ H Q I h => ?_⟩
  rw [PpSet.eval_SetComp]
  have fr : ∀ y ∈ scope.names, y.2 = .free → ∃ c, X.env.cells.lookup y.1 = some c := fun y hy e => (bk.free y hy e).elim (fun k => I.ok.has _ (.inl k)) fun k => I.ok.has _ (.inr k)
  refine wpAny_comprehension_free rfl fs (closure_ok fr) bk.kind (fun y hy e => by rw [bk.uniq y hy, e]) (thn (pi.run pins s σ H _ I h) fun _ _ hx => thn hx fun _ sa ha => ?_)
  obtain ⟨it, ps, St, J, Ha, e, Ia, T, sta, fpa, q⟩ := ha
  subst e
  refine PpSet.newSet_ok (newEnv_comp ?_)
  obtain ⟨D, hD⟩ : ∃ D, D = sa.heap.objs.size := ⟨_, rfl⟩
  rw [← hD]
  obtain ⟨W, ⟨m0, w0⟩, turns⟩ := q D (Ia.hok.fresh (Nat.le_of_eq hD.symm))
  obtain ⟨sb, hsb⟩ : ∃ sb : Shared, sb = { sa with heap := sa.heap.push (set0 X.w) } := ⟨_, rfl⟩
  have hpb : sb.heap = sa.heap.push (set0 X.w) := by rw [hsb]
  have upb : ∀ b o, sa.heap.get? b = some o → sb.heap.get? b = some o := fun b o z => by
    rw [hpb]
    exact Heap.get?_push_of_some _ z
  obtain ⟨Hb, hHb⟩ : ∃ Hb, Hb = upd Ha D (SetT X.prog X.w D []) := ⟨_, rfl⟩
  have Ib : Inv X pins σ Hb sb := by
    rw [hHb, hsb, hD]
    exact Ia.laid (t' := sa.toks) (fun _ _ z => Heap.get?_push_of_some _ z) (Nat.le_refl _) (setT_new (tset_new (Heap.get?_push_size _ rfl)))
  have fpb : ∀ b ∈ ps, FpOk X pins Hb b ∧ b < sb.heap.objs.size := fun b hb => by
    have ⟨o, eo, _⟩ := T.obj _ _ sta b hb
    have lt := Heap.lt_size eo
    refine ⟨⟨?_, (fpa b hb).2⟩, Heap.lt_size (upb b o eo)⟩
    rw [hHb, upd_ne (by rw [hD]; exact Nat.ne_of_lt lt)]
    exact (fpa b hb).1
  have stb : St 0 sb.heap := T.keep _ _ _ sta fun b _ o z => upb b o z
  have Ic := block_start Ib bk nd fpb
  obtain ⟨cs, hcs⟩ : ∃ cs, cs = cellsFrom (sb.heap.objs.size + 1) scope.names (cloFrom X.env.cells scope.names []) := ⟨_, rfl⟩
  rw [← hcs] at Ic
  have kG := pG sb Hb sb.heap.objs.size cs ps
  have kT := pT sb Hb sb.heap.objs.size cs ps
  have kE := pE sb Hb sb.heap.objs.size cs ps
  rw [← hHb] at w0
  obtain ⟨be, hbe⟩ : ∃ be, be = compEnvC scope cs sb.heap.objs.size X.env := ⟨_, rfl⟩
  have bl : be.locals = sb.heap.objs.size := by rw [hbe]; rfl
  rw [← hbe] at Ic kG kT kE
  obtain ⟨sc, hsc⟩ : ∃ sc : Shared, sc = { sb with heap := pushCells (sb.heap.push { cls := .type "dict", data := .dict #[] }) scope.names } := ⟨_, rfl⟩
  rw [← hsc] at Ic
  have stc : St 0 sc.heap := T.keep _ _ _ stb fun b _ o z => by
    rw [hsc]
    exact pushCells_keeps _ _ _ _ (Heap.get?_push_of_some _ z)
  have rest : ∀ {τ : L2.St} {G : Hp} {sx : Shared}, Inv (X.blk sb Hb scope be ps) [] τ G sx → (∀ b ∈ ps, G b = none) → ∀ b ∈ ps, FpOk (X.blk sb Hb scope be ps) [] G b := fun {τ G sx} Ix nx b hb => by
    have z := Ix.ok.exf b hb
    exact ⟨nx b hb, z.1, Ix.ok.exfs b hb, .inl hb, z.2, fun p hp => by cases (show p ∈ ([] : List (Addr × Obj)) from hp)⟩
  have fin : compPost (model X.prog X.w) X.A X.xe none (fun v s' => ∃ y H', Inv X pins σ H' s' ∧ RelV y v ∧ Q y H') (.ref D) sb.heap.objs.size = compPost (model X.prog X.w) X.A X.xe none (fun v s' => ∃ y H', Inv X pins σ H' s' ∧ RelV y v ∧ Q y H') (.ref D) sb.heap.objs.size := rfl
  have loop : codeAny (model X.prog X.w) X.A (.compLoop (.SetComp elt [⟨tg, iter, ifs, 0⟩] scope pos) 0 (.ref it) (.ref D) be) (compPost (model X.prog X.w) X.A X.xe none (fun v s' => ∃ y H', Inv X pins σ H' s' ∧ RelV y v ∧ Q y H') (.ref D) sb.heap.objs.size) sc := by
    refine PpSet.compLoopS_any (fun n sx => ∃ i G, Inv (X.blk sb Hb scope be ps) [] (wipe σ (own.map (·.2))) G sx ∧ St i sx.heap ∧ (∀ b ∈ ps, G b = none) ∧ W i n G) ?_ m0 ⟨0, Hb, Ic, stc, fun b hb => (fpb b hb).1.1, w0⟩
    rintro n s1 ⟨i, H1, I1, st1, n1, w1⟩
    rcases turns i n H1 w1 with ⟨stop, qd⟩ | ⟨go, N, hN, step⟩
    · refine thnF (T.done (X.blk sb Hb scope be ps) rfl rfl rfl hc i [] s1 _ H1 (fun _ _ => False) I1 (rest I1 n1) st1 stop) fun r s2 ⟨er, I2⟩ => ?_
      subst er
      have I3 : Inv X pins σ H1 s2 := Ib.call' (ch := ps) I2.os I2.base I2.hok I2.bare fun b hb => by
        have z := (fpb b hb).1.2
        exact ⟨z.2.2.1, z.1, z.2.2.2.1, z.2.2.2.2⟩
      have nC : H1 sb.heap.objs.size = none := by
        rw [← bl]
        exact I2.free
      obtain ⟨m, hm, _⟩ := I2.loc
      have hm : s2.heap.Ns be.locals m := hm
      rw [bl] at hm
      obtain ⟨f0, f1, _, f3, f4, f5⟩ := Ib.fpOk (Nat.le_refl _) nC
      exact ⟨m, hm, fun _ sm => ⟨.ref D, H1, I3.turned (t' := s2.toks) (fun b o hb z => (sm.2 b hb).trans z) f0 f1 f3 f4 f5, rfl, qd⟩⟩
    · refine thnF (T.item (X.blk sb Hb scope be ps) rfl rfl rfl hc i [] s1 _ H1 (fun _ _ => False) I1 (rest I1 n1) st1 go) fun r s2 ⟨u, er, h2⟩ => ?_
      subst er
      refine thnF h2 fun _ s3 ⟨x, H3, I3, r3, y3, st3, n3⟩ => ?_
      have P3 := I3.pinned (rest I3 n3) (T.obj _ _ st3)
      refine thnF (kG.run _ s3 _ H3 x u _ P3 r3 (step x H3 y3)) fun _ s4 ⟨σ4, H4, I4, hw, q4⟩ => ?_
      refine thnF (kT.run _ s4 σ4 H4 _ I4 q4) fun b s5 ⟨H5, I5, q5⟩ => ?_
      have back : ∀ {sx : Shared} {G : Hp}, Inv (X.blk sb Hb scope be ps) ([] ++ pinsAt ps s3.heap) σ4 G sx → N G → ∃ m, m < n ∧ ∃ i G, Inv (X.blk sb Hb scope be ps) [] (wipe σ (own.map (·.2))) G sx ∧ St i sx.heap ∧ (∀ b ∈ ps, G b = none) ∧ W i m G := fun {sx G} Ix nG => by
        obtain ⟨m', lt, w'⟩ := hN G nG
        have kp : ∀ b ∈ ps, ∀ o, s3.heap.get? b = some o → sx.heap.get? b = some o ∧ G b = none := fun b hb o z => by
          have y := Ix.pin (b, o) (List.mem_append_right _ (List.mem_append_right _ (mem_pinsAt hb z)))
          exact ⟨y.1, y.2.1⟩
        refine ⟨m', lt, i + 1, G, (Ix.unpinned (pins := [])).weak (by rw [← hw, wipe_length]) (fun j v z => ?_), T.keep _ _ _ st3 fun b hb o z => (kp b hb o z).1, fun b hb => ?_, w'⟩
        · rw [← hw] at z
          exact (wipe_some z).1
        · have ⟨o, z, _⟩ := T.obj _ _ st3 b hb
          exact (kp b hb o z).2
      cases b with
      | false => exact back I5 q5
      | true =>
        refine thnF (kE.run _ s5 σ4 H5 _ I5 q5) fun z s6 ⟨y, H6, I6, r6, k, l, ey, hl6, hb6, nx⟩ => ?_
        subst ey
        exact setT_put (X := X.blk sb Hb scope be ps) I6 hl6 hb6 r6 fun s7 I7 => back I7 nx
  have e1 : ({ sb with heap := pushCells (sb.heap.push { cls := .type "dict", data := .dict #[] }) scope.names } : Shared) = sc := hsc.symm
  rw [hsb] at e1 loop hbe hcs
  have := PpSet.codeAny_compStart_set loop (T.self X.A 0 _ _ _ stc loop)
  rw [hbe, hcs, ← e1] at this
  exact this
/-- over a walk -/
theorem sc_it {P : Program} {w : World} {J : It} {n : Nat} {G : Hp → Prop} {Y : Nat → Hp → V → Hp → Prop} (wk : Walk J n G Y) {vs : List Nat} {σ : L2.St} {H1 : Hp} {D : Addr} {Q : Hp → Prop} (Pv : Nat → Hp → Prop) (h0 : Pv 0 (upd H1 D (SetT P w D []))) (hG : ∀ i H, i ≤ n → Pv i H → G H)
    (hs : ∀ i x H H', i < n → Pv i H → Y i H x H' → g x (wipe σ vs) H' fun σ' H2 => wipe σ' vs = wipe σ vs ∧ tt σ' H2 fun b H3 => bif b then te σ' H3 fun y H4 =>
      ∃ (k : Str) (l : List Str), y = .str k ∧ H4 D = some (SetT P w D l) ∧ l.length + 1 < scanBound ∧ Pv (i + 1) (upd H4 D (SetT P w D (tAdd l k))) else Pv (i + 1) H3) (hd : ∀ H, Pv n H → Q H) :
    ∃ W : Nat → Nat → Hp → Prop, (∃ m, W 0 m (upd H1 D (SetT P w D []))) ∧ TurnsT P w J g tt te vs σ D Q W := by
  refine ⟨fun i m H => m + i = n ∧ Pv i H, ⟨n, rfl, h0⟩, fun i m H hW => ?_⟩
  obtain ⟨e, p⟩ := hW
  have q := hG i H (by omega) p
  cases m with
  | zero =>
    obtain rfl : i = n := by omega
    exact .inl ⟨wk.stops H q, hd H p⟩
  | succ m =>
    have lt : i < n := by omega
    exact .inr ⟨wk.goes i H lt q, Pv (i + 1), fun H' p' => ⟨m, Nat.lt_succ_self _, by omega, p'⟩, fun x H' y => hs i x H H' lt p (wk.yields i H x H' lt q y)⟩
end
section
variable {X : Cx} (P : Program) (w : World) (hP : X.prog = P) (hw : X.w = w)
include hP hw
theorem pe_scTK {elt tg iter : Expr} {ifs : List Expr} {scope : Scope} {own : List (Str × Nat)} {pos : Pos} {wi : TI} {g : TG} {tt : TT} {te : TE} (hc : X.calm = true) (nd : X.N.Nodup) (pi : PI X tg iter wi) (bk : BlkOk X.N X.env.scope scope own)
    (pG : ∀ (s : Shared) (H : Hp) (C : Addr) (cs : List (Str × Addr)) (ps : List Addr), PG (X.blk s H scope (compEnvC scope cs C X.env) ps) tg g)
    (pT : ∀ (s : Shared) (H : Hp) (C : Addr) (cs : List (Str × Addr)) (ps : List Addr), PTs (X.blk s H scope (compEnvC scope cs C X.env) ps) ifs tt)
    (pE : ∀ (s : Shared) (H : Hp) (C : Addr) (cs : List (Str × Addr)) (ps : List Addr), PE (X.blk s H scope (compEnvC scope cs C X.env) ps) elt te)
    (fs : ∀ x, foldedSetIterable iter X.env x = pure x := by intro _; rfl) : PE X (.SetComp elt [⟨tg, iter, ifs, 0⟩] scope pos) (tScT P w wi g tt te (own.map (·.2))) := by
  subst hP hw
  exact pe_scT hc nd pi bk pG pT pE fs
end
end LH

namespace LH
open PySem PySem.Spec PyProof.Rows L2
def topS (i : Nat) : Stmt := PySem.Challenge.pw_likehands_k18_two_neighbours.main.body.getD i (.Pass ⟨0, 0, 0, 0⟩)
abbrev s_after : Stmt := topS 1
abbrev N_after : List Str := ["letters", "shape", "rule", "word", "place", "other"]
theorem sc_after : FnScope N_after ["letters", "shape", "rule", "word"] (defScope s_after) := ⟨rfl, rfl, rfl, by decide +kernel, rfl, by decide +kernel, by decide +kernel⟩
abbrev s_made_at : Stmt := topS 2
abbrev N_made_at : List Str := ["letters", "shape", "rule", "word"]
theorem sc_made_at : FnScope N_made_at ["letters", "shape", "rule", "word"] (defScope s_made_at) := ⟨rfl, rfl, rfl, by decide +kernel, rfl, by decide +kernel, by decide +kernel⟩
abbrev s_made_by_one : Stmt := topS 3
abbrev N_made_by_one : List Str := ["rule", "word", "kind", "x", "y", "guard", "made", "at", "letter"]
theorem sc_made_by_one : FnScope N_made_by_one ["rule", "word"] (defScope s_made_by_one) := ⟨rfl, rfl, rfl, by decide +kernel, rfl, by decide +kernel, by decide +kernel⟩
abbrev s_holds : Stmt := topS 4
abbrev N_holds : List Str := ["guard", "word", "at", "how", "where", "some", "left", "right", "hits", "letter"]
theorem sc_holds : FnScope N_holds ["guard", "word", "at"] (defScope s_holds) := ⟨rfl, rfl, rfl, by decide +kernel, rfl, by decide +kernel, by decide +kernel⟩
abbrev s_made_by_two : Stmt := topS 5
abbrev N_made_by_two : List Str := ["shape", "rule", "word", "kind", "x", "y", "u", "v", "made", "first", "second", "signs"]
theorem sc_made_by_two : FnScope N_made_by_two ["shape", "rule", "word"] (defScope s_made_by_two) := ⟨rfl, rfl, rfl, by decide +kernel, rfl, by decide +kernel, by decide +kernel⟩
abbrev s_pairs_of : Stmt := topS 6
abbrev N_pairs_of : List Str := ["shape", "number", "pairs", "at"]
theorem sc_pairs_of : FnScope N_pairs_of ["shape", "number"] (defScope s_pairs_of) := ⟨rfl, rfl, rfl, by decide +kernel, rfl, by decide +kernel, by decide +kernel⟩
abbrev s_made_by_call : Stmt := topS 7
abbrev N_made_by_call : List Str := ["letters", "rule", "word", "kind", "x", "y", "image", "turned", "letter", "at"]
theorem sc_made_by_call : FnScope N_made_by_call ["letters", "rule", "word"] (defScope s_made_by_call) := ⟨rfl, rfl, rfl, by decide +kernel, rfl, by decide +kernel, by decide +kernel⟩
abbrev s_law_well : Stmt := topS 9
abbrev N_law_well : List Str := ["cell"]
theorem sc_law_well : FnScope N_law_well ["cell"] (defScope s_law_well) := ⟨rfl, rfl, rfl, by decide +kernel, rfl, by decide +kernel, by decide +kernel⟩
abbrev s_law_draw : Stmt := topS 10
abbrev N_law_draw : List Str := ["well", "many", "got", "stirred"]
theorem sc_law_draw : FnScope N_law_draw ["well", "many"] (defScope s_law_draw) := ⟨rfl, rfl, rfl, by decide +kernel, rfl, by decide +kernel, by decide +kernel⟩
abbrev s_law_same : Stmt := topS 11
abbrev N_law_same : List Str := ["got", "due", "one", "other"]
theorem sc_law_same : FnScope N_law_same ["got", "due"] (defScope s_law_same) := ⟨rfl, rfl, rfl, by decide +kernel, rfl, by decide +kernel, by decide +kernel⟩
abbrev s_law_letters : Stmt := topS 12
abbrev N_law_letters : List Str := ["well", "signs", "k"]
theorem sc_law_letters : FnScope N_law_letters ["well"] (defScope s_law_letters) := ⟨rfl, rfl, rfl, by decide +kernel, rfl, by decide +kernel, by decide +kernel⟩
abbrev s_law_one_of : Stmt := topS 13
abbrev N_law_one_of : List Str := ["well", "letters"]
theorem sc_law_one_of : FnScope N_law_one_of ["well", "letters"] (defScope s_law_one_of) := ⟨rfl, rfl, rfl, by decide +kernel, rfl, by decide +kernel, by decide +kernel⟩
abbrev s_law_some : Stmt := topS 14
abbrev N_law_some : List Str := ["well", "letters", "found", "sign"]
theorem sc_law_some : FnScope N_law_some ["well", "letters"] (defScope s_law_some) := ⟨rfl, rfl, rfl, by decide +kernel, rfl, by decide +kernel, by decide +kernel⟩
abbrev s_law_rule : Stmt := topS 15
abbrev N_law_rule : List Str := ["well", "letters", "shape", "kind", "x", "y", "where", "guard", "letter"]
theorem sc_law_rule : FnScope N_law_rule ["well", "letters", "shape", "kind"] (defScope s_law_rule) := ⟨rfl, rfl, rfl, by decide +kernel, rfl, by decide +kernel, by decide +kernel⟩
abbrev s_law_word : Stmt := topS 16
abbrev N_law_word : List Str := ["well", "letters", "many", "some", "k"]
theorem sc_law_word : FnScope N_law_word ["well", "letters"] (defScope s_law_word) := ⟨rfl, rfl, rfl, by decide +kernel, rfl, by decide +kernel, by decide +kernel⟩
abbrev s_law_by_two : Stmt := topS 17
abbrev N_law_by_two : List Str := ["shape", "rule", "word", "found", "last", "place", "beside", "signs"]
theorem sc_law_by_two : FnScope N_law_by_two ["shape", "rule", "word"] (defScope s_law_by_two) := ⟨rfl, rfl, rfl, by decide +kernel, rfl, by decide +kernel, by decide +kernel⟩
abbrev s_law_put : Stmt := topS 18
abbrev N_law_put : List Str := ["well", "rule", "word", "at", "signs"]
theorem sc_law_put : FnScope N_law_put ["well", "rule", "word"] (defScope s_law_put) := ⟨rfl, rfl, rfl, by decide +kernel, rfl, by decide +kernel, by decide +kernel⟩
abbrev s_law_right : Stmt := topS 19
abbrev N_law_right : List Str := ["letters", "shape", "rule", "word", "due", "turn", "found"]
theorem sc_law_right : FnScope N_law_right ["letters", "shape", "rule", "word"] (defScope s_law_right) := ⟨rfl, rfl, rfl, by decide +kernel, rfl, by decide +kernel, by decide +kernel⟩
abbrev s_law : Stmt := topS 20
abbrev N_law : List Str := ["script", "cell", "well", "letters", "shape", "word", "k", "rule", "two", "one", "many"]
theorem sc_law : FnScope N_law ["script"] (defScope s_law) := ⟨rfl, rfl, rfl, by decide +kernel, rfl, by decide +kernel, by decide +kernel⟩
structure TX (K : PySem.W.Frag) (mg : Str → Option Value) where
  a_after : Addr
  fd_after : FuncData
  F_after : Fun K "after" "after" s_after a_after fd_after
  b_after : Binds K fd_after ["letters", "shape", "rule", "word"] []
  g_after : mg "after" = some (.ref a_after)
  a_made_at : Addr
  fd_made_at : FuncData
  F_made_at : Fun K "made_at" "made_at" s_made_at a_made_at fd_made_at
  b_made_at : Binds K fd_made_at ["letters", "shape", "rule", "word"] []
  g_made_at : mg "made_at" = some (.ref a_made_at)
  a_made_by_one : Addr
  fd_made_by_one : FuncData
  F_made_by_one : Fun K "made_by_one" "made_by_one" s_made_by_one a_made_by_one fd_made_by_one
  b_made_by_one : Binds K fd_made_by_one ["rule", "word"] []
  g_made_by_one : mg "made_by_one" = some (.ref a_made_by_one)
  a_holds : Addr
  fd_holds : FuncData
  F_holds : Fun K "holds" "holds" s_holds a_holds fd_holds
  b_holds : Binds K fd_holds ["guard", "word", "at"] []
  g_holds : mg "holds" = some (.ref a_holds)
  a_made_by_two : Addr
  fd_made_by_two : FuncData
  F_made_by_two : Fun K "made_by_two" "made_by_two" s_made_by_two a_made_by_two fd_made_by_two
  b_made_by_two : Binds K fd_made_by_two ["shape", "rule", "word"] []
  g_made_by_two : mg "made_by_two" = some (.ref a_made_by_two)
  a_pairs_of : Addr
  fd_pairs_of : FuncData
  F_pairs_of : Fun K "pairs_of" "pairs_of" s_pairs_of a_pairs_of fd_pairs_of
  b_pairs_of : Binds K fd_pairs_of ["shape", "number"] []
  g_pairs_of : mg "pairs_of" = some (.ref a_pairs_of)
  a_made_by_call : Addr
  fd_made_by_call : FuncData
  F_made_by_call : Fun K "made_by_call" "made_by_call" s_made_by_call a_made_by_call fd_made_by_call
  b_made_by_call : Binds K fd_made_by_call ["letters", "rule", "word"] []
  g_made_by_call : mg "made_by_call" = some (.ref a_made_by_call)
  a_law_well : Addr
  fd_law_well : FuncData
  F_law_well : Fun K "_law_well" "_law_well" s_law_well a_law_well fd_law_well
  b_law_well : Binds K fd_law_well ["cell"] []
  g_law_well : mg "_law_well" = some (.ref a_law_well)
  a_law_draw : Addr
  fd_law_draw : FuncData
  F_law_draw : Fun K "_law_draw" "_law_draw" s_law_draw a_law_draw fd_law_draw
  b_law_draw : Binds K fd_law_draw ["well", "many"] []
  g_law_draw : mg "_law_draw" = some (.ref a_law_draw)
  a_law_same : Addr
  fd_law_same : FuncData
  F_law_same : Fun K "_law_same" "_law_same" s_law_same a_law_same fd_law_same
  b_law_same : Binds K fd_law_same ["got", "due"] []
  g_law_same : mg "_law_same" = some (.ref a_law_same)
  a_law_letters : Addr
  fd_law_letters : FuncData
  F_law_letters : Fun K "_law_letters" "_law_letters" s_law_letters a_law_letters fd_law_letters
  b_law_letters : Binds K fd_law_letters ["well"] []
  g_law_letters : mg "_law_letters" = some (.ref a_law_letters)
  a_law_one_of : Addr
  fd_law_one_of : FuncData
  F_law_one_of : Fun K "_law_one_of" "_law_one_of" s_law_one_of a_law_one_of fd_law_one_of
  b_law_one_of : Binds K fd_law_one_of ["well", "letters"] []
  g_law_one_of : mg "_law_one_of" = some (.ref a_law_one_of)
  a_law_some : Addr
  fd_law_some : FuncData
  F_law_some : Fun K "_law_some" "_law_some" s_law_some a_law_some fd_law_some
  b_law_some : Binds K fd_law_some ["well", "letters"] []
  g_law_some : mg "_law_some" = some (.ref a_law_some)
  a_law_rule : Addr
  fd_law_rule : FuncData
  F_law_rule : Fun K "_law_rule" "_law_rule" s_law_rule a_law_rule fd_law_rule
  b_law_rule : Binds K fd_law_rule ["well", "letters", "shape", "kind"] []
  g_law_rule : mg "_law_rule" = some (.ref a_law_rule)
  a_law_word : Addr
  fd_law_word : FuncData
  F_law_word : Fun K "_law_word" "_law_word" s_law_word a_law_word fd_law_word
  b_law_word : Binds K fd_law_word ["well", "letters"] []
  g_law_word : mg "_law_word" = some (.ref a_law_word)
  a_law_by_two : Addr
  fd_law_by_two : FuncData
  F_law_by_two : Fun K "_law_by_two" "_law_by_two" s_law_by_two a_law_by_two fd_law_by_two
  b_law_by_two : Binds K fd_law_by_two ["shape", "rule", "word"] []
  g_law_by_two : mg "_law_by_two" = some (.ref a_law_by_two)
  a_law_put : Addr
  fd_law_put : FuncData
  F_law_put : Fun K "_law_put" "_law_put" s_law_put a_law_put fd_law_put
  b_law_put : Binds K fd_law_put ["well", "rule", "word"] []
  g_law_put : mg "_law_put" = some (.ref a_law_put)
  a_law_right : Addr
  fd_law_right : FuncData
  F_law_right : Fun K "_law_right" "_law_right" s_law_right a_law_right fd_law_right
  b_law_right : Binds K fd_law_right ["letters", "shape", "rule", "word"] []
  g_law_right : mg "_law_right" = some (.ref a_law_right)
  m_all : mg "all" = none
  m_any : mg "any" = none
  m_bool : mg "bool" = none
  m_enumerate : mg "enumerate" = none
  m_int : mg "int" = none
  m_isinstance : mg "isinstance" = none
  m_len : mg "len" = none
  m_list : mg "list" = none
  m_range : mg "range" = none
  m_set : mg "set" = none
  m_sorted : mg "sorted" = none
  m_str : mg "str" = none
  m_tuple : mg "tuple" = none
  m_zip : mg "zip" = none
/-! ### wells -/
def RowAt (H : Hp) (r : Addr) : Prop := ∃ a b : Int, H r = some (.lst [.int a, .int b]) ∧ 0 ≤ b ∧ b < 2147483629
/-- all that was tracked, but for what stands at r, is as it was -/
def Off (r : Addr) (H H' : Hp) : Prop := ∀ b o, b ≠ r → H b = some o → H' b = some o
theorem Off.refl (r : Addr) (H : Hp) : Off r H H := fun _ _ _ h => h
theorem Off.trans {r : Addr} {H H1 H2 : Hp} (a : Off r H H1) (b : Off r H1 H2) : Off r H H2 := fun c o n h => b c o n (a c o n h)
theorem Off.of {r : Addr} {H H' : Hp} (a : Same H H') : Off r H H' := fun c o _ h => a c o h
theorem Off.new {r p : Addr} {H : Hp} {o : HO} (h : H p = none) : Off r H (upd H p o) := fun b x _ e => by
  rw [upd_ne (ne_of_none e h)]
  exact e
theorem Off.put {r : Addr} {H : Hp} {o : HO} : Off r H (upd H r o) := fun b x n e => by
  rw [upd_ne n]
  exact e
theorem Off.mut {r p : Addr} {H H' : Hp} {o : HO} (e : Off r H H') (h : H p = none) : Off r H (upd H' p o) := fun a u n ha => by
  rw [upd_ne (ne_of_none ha h)]
  exact e a u n ha
theorem Off.free {r p : Addr} {H H' : Hp} (e : Off r H H') (hr : r ≠ p) (h : H' p = none) : H p = none := by
  cases q : H p with
  | none => rfl
  | some o =>
    rw [e p o (Ne.symm hr) q] at h
    cases h
theorem RowAt.new {r p : Addr} {H : Hp} {o : HO} (x : RowAt H r) (h : H p = none) : RowAt (upd H p o) r := by
  obtain ⟨a, b, e, q⟩ := x
  exact ⟨a, b, by rw [upd_ne (ne_of_none e h)]; exact e, q⟩
theorem RowAt.upd {r p : Addr} {H : Hp} {o : HO} (x : RowAt H r) (h : r ≠ p) : RowAt (upd H p o) r := by
  obtain ⟨a, b, e, q⟩ := x
  exact ⟨a, b, by rw [upd_ne h]; exact e, q⟩
theorem RowAt.ne {r p : Addr} {H : Hp} (x : RowAt H r) (h : H p = none) : r ≠ p := by
  obtain ⟨a, b, e, q⟩ := x
  exact ne_of_none e h
theorem RowAt.neT {r p : Addr} {H : Hp} {xs : List V} (x : RowAt H r) (h : H p = some (.tup xs)) : p ≠ r := by
  obtain ⟨a, b, e, q⟩ := x
  exact ne_of h e (by intro z; cases z)
theorem same_new {H : Hp} {p : Addr} {o : HO} (h : H p = none) : Same H (upd H p o) := fun b x e => by
  rw [upd_ne (ne_of_none e h)]
  exact e
section
variable {P : Program} {w : World} {K : PySem.W.Frag} {mg : Str → Option Value} {base : Heap}
/-! ### _law_well -/
def sp_law_well : Sp := fun vs H Q _ => ∃ c : Int, vs = [.int c] ∧ ∀ H' p, Same H H' → H p = none → RowAt H' p → Q (.ref p) H'
theorem ok_law_well (T : TX K mg) : FnOk P w K mg base CX0 1 T.a_law_well T.fd_law_well ["cell"] sp_law_well := by
  refine T.F_law_well.ok sc_law_well (fun vs H Q E h => ?_) (fun cdv A outer s H vs Q E hr h => ?_)
  · obtain ⟨c, rfl, _⟩ := h
    rfl
  · obtain ⟨c, rfl, q⟩ := h
    refine ⟨_, (pss_cons (ps_if (pt_cmpR op_ge (pv 0) (pe_op op_pow pe_int pe_int) (nomark _))
        (pss_one (ps_ret (pe_lst (pa_cons (pv 0) (pa_cons (pe_op op_mod (pv 0) pe_int) pa_nil)))))
        pss_nil)
      (pss_one (ps_ret (pe_lst (pa_cons pe_int (pa_cons (pe_op op_mod (pv 0) pe_int) pa_nil)))))), ?_⟩
    have h0 : 0 ≤ c % 2147483629 := Int.emod_nonneg _ (by decide)
    have h1 : c % 2147483629 < 2147483629 := Int.emod_lt_of_pos _ (by decide)
    refine ⟨.int c, rfl, 10, 18, rfl, rfl, ⟨by decide, by decide, by decide⟩, c, 10 ^ 18, rfl, rfl, _, rfl, ite2 (fun e => ?_) (fun e => ?_)⟩
    · refine ⟨.int c, rfl, .int c, rfl, c, 2147483629, rfl, rfl, (by show (0 : Int) < 2147483629; decide), by show 2 ≤ sizeLine; decide, fun p hp => ?_⟩
      exact q _ p (same_new hp) hp ⟨c, _, upd_same, h0, h1⟩
    · refine ⟨.int c, rfl, c, 2147483629, rfl, rfl, (by show (0 : Int) < 2147483629; decide), by show 2 ≤ sizeLine; decide, fun p hp => ?_⟩
      exact q _ p (same_new hp) hp ⟨0, _, upd_same, h0, h1⟩
/-! ### _law_draw -/
def sp_law_draw : Sp := fun vs H Q _ => ∃ (r : Addr) (n : Int), vs = [.ref r, .int n] ∧ RowAt H r ∧ 0 < n ∧ n < 1073741824 ∧ ∀ H' g, Off r H H' → RowAt H' r → 0 ≤ g → g < n → Q (.int g) H'
theorem ok_law_draw (T : TX K mg) : FnOk P w K mg base CX0 1 T.a_law_draw T.fd_law_draw ["well", "many"] sp_law_draw := by
  refine T.F_law_draw.ok sc_law_draw (fun vs H Q E h => ?_) (fun cdv A outer s H vs Q E hr h => ?_)
  · obtain ⟨r, n, rfl, _⟩ := h
    rfl
  · obtain ⟨r, n, rfl, ⟨a, b, hrow, hb0, hb1⟩, hn0, hn1, q⟩ := h
    refine ⟨_, (pss_cons (ps_if (pt_cmpR op_gt (pe_ix (ix_listK K rfl) (pv 0) pe_int (fun _ _ => rfl)) pe_int (nomark _))
        (pss_cons (ps_set (i := 2) sc_law_draw.nd rfl (Or.inl rfl) (pe_op op_mod (pe_ix (ix_listK K rfl) (pv 0) pe_int (fun _ _ => rfl)) (pv 1)))
          (pss_cons (ps_asg (pe_op op_fdiv (pe_ix (ix_listK K rfl) (pv 0) pe_int (fun _ _ => rfl)) (pv 1)) (pg_sub (pv 0) pe_int set_list))
          (pss_one (ps_ret (pv 2)))))
        pss_nil)
      (pss_cons (ps_set (i := 3) sc_law_draw.nd rfl (Or.inl rfl) (pe_op op_mod (pe_op op_add (pe_op op_mul (pe_ix (ix_listK K rfl) (pv 0) pe_int (fun _ _ => rfl)) pe_int) pe_int) pe_int))
      (pss_cons (ps_set (i := 3) sc_law_draw.nd rfl (Or.inl rfl) (pe_op op_mod (pe_op op_mul (pv 3) (pv 3)) pe_int))
      (pss_cons (ps_asg (pe_op op_mod (pe_op op_add (pe_op op_mul (pv 3) pe_int) pe_int) pe_int) (pg_sub (pv 0) pe_int set_list))
      (pss_one (ps_ret (pe_op op_mod (pe_op op_fdiv (pe_ix (ix_listK K rfl) (pv 0) pe_int (fun _ _ => rfl)) pe_int) (pv 1)))))))), ?_⟩
    have sq : SqL K H r [.int a, .int b] := .inl (.inl hrow)
    refine ⟨.ref r, rfl, r, _, 0, .int a, rfl, rfl, sq, atI_nat (j := 0) rfl, a, 0, rfl, rfl, _, rfl, ite2 (fun e => ?_) (fun e => ?_)⟩
    · refine ⟨.ref r, rfl, r, _, 0, .int a, rfl, rfl, sq, atI_nat (j := 0) rfl, .int n, rfl, a, n, rfl, rfl, hn0, ?_⟩
      refine ⟨.ref r, rfl, r, _, 0, .int a, rfl, rfl, sq, atI_nat (j := 0) rfl, .int n, rfl, a, n, rfl, rfl, ⟨hn0, hn1⟩, ?_⟩
      refine ⟨.ref r, rfl, r, _, 0, 0, rfl, rfl, hrow, rfl, ?_⟩
      refine ⟨.int (a % n), rfl, ?_⟩
      exact q _ _ Off.put ⟨a / n, b, upd_same, hb0, hb1⟩ (Int.emod_nonneg _ (by omega)) (Int.emod_lt_of_pos _ hn0)
    · refine ⟨.ref r, rfl, r, _, 1, .int b, rfl, rfl, sq, atI_nat (j := 1) rfl, b, 48271, rfl, rfl, .inl ⟨by omega, by omega⟩, _, _, rfl, rfl, _, _, rfl, rfl, (by show (0 : Int) < 2147483647; decide), ?_⟩
      have s0 : 0 ≤ (b * 48271 + 11) % 2147483647 := Int.emod_nonneg _ (by decide)
      have s1 : (b * 48271 + 11) % 2147483647 < 2147483647 := Int.emod_lt_of_pos _ (by decide)
      refine ⟨.int ((b * 48271 + 11) % 2147483647), rfl, .int ((b * 48271 + 11) % 2147483647), rfl, (b * 48271 + 11) % 2147483647, (b * 48271 + 11) % 2147483647, rfl, rfl, .inl ⟨by omega, by omega⟩, _, _, rfl, rfl, (by show (0 : Int) < 2147483587; decide), ?_⟩
      obtain ⟨S, hS⟩ : ∃ S : Int, S = (b * 48271 + 11) % 2147483647 * ((b * 48271 + 11) % 2147483647) % 2147483587 := ⟨_, rfl⟩
      have t0 : 0 ≤ S := by rw [hS]; exact Int.emod_nonneg _ (by decide)
      have t1 : S < 2147483587 := by rw [hS]; exact Int.emod_lt_of_pos _ (by decide)
      refine ⟨.int S, by rw [hS]; rfl, S, 69621, rfl, rfl, .inl ⟨by omega, by omega⟩, _, _, rfl, rfl, _, _, rfl, rfl, (by show (0 : Int) < 2147483629; decide), ?_⟩
      refine ⟨.ref r, rfl, r, _, 1, 1, rfl, rfl, hrow, rfl, ?_⟩
      have g0 : 0 ≤ (S * 69621 + 40692) % 2147483629 := Int.emod_nonneg _ (by decide)
      have g1 : (S * 69621 + 40692) % 2147483629 < 2147483629 := Int.emod_lt_of_pos _ (by decide)
      refine ⟨.ref r, rfl, r, _, 1, _, rfl, rfl, .inl (.inl upd_same), atI_nat (j := 1) rfl, _, 8, rfl, rfl, ⟨by decide, by decide⟩, .int n, rfl, _, n, rfl, rfl, hn0, ?_⟩
      exact q _ _ Off.put ⟨a, _, upd_same, g0, g1⟩ (Int.emod_nonneg _ (by omega)) (Int.emod_lt_of_pos _ hn0)
end
end LH

namespace LH
open PySem PySem.Spec PyProof.Rows L2
abbrev vi (ns : List Nat) : List V := ns.map fun (n : Nat) => V.int (n : Int)
theorem vi_snoc (ys : List Nat) (c : Nat) : vi ys ++ [V.int (c : Int)] = vi (ys ++ [c]) := by
  show _ = List.map _ (ys ++ [c])
  rw [List.map_append]
  rfl
abbrev vr (as : List Addr) : List V := as.map V.ref
theorem vr_snoc (ys : List Addr) (c : Addr) : vr ys ++ [V.ref c] = vr (ys ++ [c]) := by
  show _ = List.map _ (ys ++ [c])
  rw [List.map_append]
  rfl
/-- tuples stand -/
def Tups (H H' : Hp) : Prop := ∀ b xs, H b = some (.tup xs) → H' b = some (.tup xs)
theorem Tups.refl (H : Hp) : Tups H H := fun _ _ h => h
theorem Tups.trans {H H1 H2 : Hp} (a : Tups H H1) (b : Tups H1 H2) : Tups H H2 := fun c o h => b c o (a c o h)
theorem Tups.same {H H' : Hp} (a : Same H H') : Tups H H' := fun c _ h => a c _ h
theorem Tups.off {r : Addr} {H H' : Hp} (R : RowAt H r) (a : Off r H H') : Tups H H' := fun c _ h => a c _ (R.neT h) h
theorem Tups.new {p : Addr} {H : Hp} {o : HO} (h : H p = none) : Tups H (upd H p o) := Tups.same (same_new h)
theorem Tups.lst {p : Addr} {H : Hp} {xs : List V} {o : HO} (h : H p = some (.lst xs)) : Tups H (upd H p o) := fun c ys e => by
  rw [upd_ne (ne_of e h (by intro z; cases z))]
  exact e
theorem mem_snoc {α : Type} {p : α → Prop} {xs : List α} {x : α} (h : ∀ y ∈ xs, p y) (hx : p x) : ∀ y ∈ xs ++ [x], p y := fun y hy => by
  rcases List.mem_append.mp hy with q | q
  · exact h y q
  · rw [List.mem_singleton.mp q]
    exact hx
theorem tAdd_nodup {l : List Str} {k : Str} (h : l.Nodup) : (tAdd l k).Nodup := by
  unfold tAdd
  split
  · exact h
  · rename_i q
    exact List.nodup_cons.mpr ⟨q, h⟩
theorem tAll_nodup (xs : List Str) : (tAll xs).Nodup := by
  unfold tAll
  have : ∀ (xs l : List Str), l.Nodup → (xs.foldl tAdd l).Nodup := by
    intro xs
    induction xs with
    | nil => intro l h; exact h
    | cons x r ih => intro l h; exact ih _ (tAdd_nodup h)
  exact this xs [] List.nodup_nil
theorem sum_sg (cs : List Nat) : ((cs.map sg).map (·.length)).sum = cs.length := by
  rw [List.map_map, show ((fun x : Str => x.length) ∘ sg) = fun _ => 1 from rfl, List.map_const', List.sum_replicate_nat]
  omega
/-- signs that are sorted and were put into a set -/
theorem sg_sorted {cs : List Nat} {zs : List Str} (p : zs.Perm (tAll (cs.map sg))) (s : sortedS zs = true) : ∃ ds : List Nat, zs = ds.map sg ∧ ds.Pairwise (· < ·) ∧ (∀ c, c ∈ ds ↔ c ∈ cs) ∧ ds.length ≤ cs.length := by
  have hm : ∀ x, x ∈ zs ↔ x ∈ cs.map sg := fun x => p.mem_iff.trans mem_tAll
  let f : Str → Nat := fun z => z.cps.getD 0 0
  have e : zs = (zs.map f).map sg := by
    rw [List.map_map]
    conv => lhs; rw [← List.map_id zs]
    refine List.map_congr_left fun y hy => ?_
    obtain ⟨c, _, rfl⟩ := List.mem_map.mp ((hm y).mp hy)
    rfl
  refine ⟨zs.map f, e, ?_, fun c => ?_, ?_⟩
  · have nd : zs.Nodup := p.symm.nodup (tAll_nodup _)
    have nd2 : (zs.map f).Nodup := by
      rw [e] at nd
      exact (List.pairwise_map.mp nd).imp fun h e => h (congrArg sg e)
    refine rise_of (sortedS_sg ?_) nd2
    rw [← e]
    exact s
  · have q := hm (sg c)
    constructor
    · intro h
      have : sg c ∈ zs := by
        rw [e]
        exact List.mem_map.mpr ⟨c, h, rfl⟩
      obtain ⟨d, hd, ed⟩ := List.mem_map.mp (q.mp this)
      have : d = c := by
        have := congrArg (fun y : Str => y.cps.getD 0 0) ed
        exact this
      exact this ▸ hd
    · intro h
      have := q.mpr (List.mem_map.mpr ⟨c, h, rfl⟩)
      exact List.mem_map.mpr ⟨sg c, this, rfl⟩
  · rw [List.length_map, p.length_eq]
    have := tAll_len (cs.map sg)
    rw [List.length_map] at this
    exact this
theorem let_abc {g : Nat} (h : g < 5) : IsLet (cutS "abcde" none (some (1 + (g : Int)))) := by
  have : g = 0 ∨ g = 1 ∨ g = 2 ∨ g = 3 ∨ g = 4 := by omega
  rcases this with rfl | rfl | rfl | rfl | rfl
  · exact ⟨by decide +kernel, by decide +kernel, by decide +kernel, by decide +kernel⟩
  · exact ⟨by decide +kernel, by decide +kernel, by decide +kernel, by decide +kernel⟩
  · exact ⟨by decide +kernel, by decide +kernel, by decide +kernel, by decide +kernel⟩
  · exact ⟨by decide +kernel, by decide +kernel, by decide +kernel, by decide +kernel⟩
  · exact ⟨by decide +kernel, by decide +kernel, by decide +kernel, by decide +kernel⟩
theorem az_at {g : Nat} (h : g < 26) : ("abcdefghijklmnopqrstuvwxyz" : Str).cps.toList[g]? = some (97 + g) := by
  have e : ("abcdefghijklmnopqrstuvwxyz" : Str).cps.toList = (List.range 26).map (97 + ·) := by decide +kernel
  rw [e, List.getElem?_map, List.getElem?_range h]
  rfl
section
variable {P : Program} {w : World} {K : PySem.W.Frag} {mg : Str → Option Value} {base : Heap}
/-! ### _law_letters -/
def sp_law_letters : Sp := fun vs H Q _ => ∃ r : Addr, vs = [.ref r] ∧ RowAt H r ∧ ∀ H' z, Off r H H' → RowAt H' r → IsLet z → Q (.str z) H'
theorem ok_law_letters (T : TX K mg) : FnOk P w K mg base CX0 2 T.a_law_letters T.fd_law_letters ["well"] sp_law_letters := by
  have G_law_draw : FnOk P w K mg base CX0 1 T.a_law_draw T.fd_law_draw ["well", "many"] sp_law_draw := ok_law_draw T
  refine T.F_law_letters.ok sc_law_letters (fun vs H Q E h => ?_) (fun cdv A outer s H vs Q E hr h => ?_)
  · obtain ⟨r, rfl, _⟩ := h
    rfl
  · obtain ⟨r, rfl, hR, q⟩ := h
    refine ⟨_, (pss_cons (ps_if (pt_cmpR op_eq (pe_call G_law_draw (hr.mono (by decide)) (by rfl) T.g_law_draw T.F_law_draw.kp T.b_law_draw .nil pass0 (pa_cons (pv 0) (pa_cons pe_int pa_nil))) pe_int (nomark _))
        (pss_one (ps_ret (pe_slice sl_str pe_str po_none (po_some (pe_op op_add pe_int (pe_call G_law_draw (hr.mono (by decide)) (by rfl) T.g_law_draw T.F_law_draw.kp T.b_law_draw .nil pass0 (pa_cons (pv 0) (pa_cons pe_int pa_nil))))))))
        pss_nil)
      (pss_cons (ps_set (i := 1) sc_law_letters.nd rfl (Or.inr rfl) pe_str)
      (pss_one (ps_ret (pe_m1 PySem.F.slot_str_join PySem.F.type_str_join (mt_joinK K rfl) pe_str (pe_callB (cr_sortTK P w rfl rfl rfl) (by rfl) T.m_sorted (by decide +kernel) (pa_cons (pe_callTy (cr_setLK P w K rfl rfl rfl rfl) (by rfl) T.m_set (by decide +kernel) (pa_cons (pe_lc (own := [("k", 2)]) (g := gName 2) (tt := tYes) (by rfl) sc_law_letters.nd (pi_range1 (by rfl) T.m_range (pa_cons (pe_op op_add pe_int (pe_call G_law_draw (hr.mono (by decide)) (by rfl) T.g_law_draw T.F_law_draw.kp T.b_law_draw .nil pass0 (pa_cons (pv 0) (pa_cons pe_int pa_nil)))) pa_nil)) (blkOk_by (own := [("k", 2)]) (N := N_law_letters) (by kernel_rfl)) (fun _ _ _ _ _ => (pg_name (i := 2) sc_law_letters.nd rfl (Or.inl rfl))) (fun _ _ _ _ _ => pts_nil) (fun _ _ _ _ _ => (pe_ix ix_str (pv 1) (pe_call G_law_draw (hr.mono (by decide)) (by rfl) T.g_law_draw T.F_law_draw.kp T.b_law_draw .nil pass0 (pa_cons (pv 0) (pa_cons pe_int pa_nil))) (fun _ _ => rfl)))) pa_nil)) pa_nil))))))), ?_⟩
    refine ⟨.ref r, rfl, r, 2, rfl, hR, by decide, by decide, fun H1 g1 o1 R1 _ _ => ⟨rfl, _, rfl, ite2 (fun e => ?_) (fun e => ?_)⟩⟩
    · refine ⟨.ref r, rfl, r, 5, rfl, R1, by decide, by decide, fun H2 g o2 R2 g0 g5 => ?_⟩
      obtain ⟨m, rfl⟩ : ∃ m : Nat, g = (m : Int) := ⟨g.toNat, by omega⟩
      refine ⟨1, (m : Int), rfl, rfl, 1 + (m : Int), rfl, _, rfl, by decide, ?_⟩
      exact q _ _ (o1.trans o2) R2 (let_abc (by omega))
    · refine ⟨⟨_, rfl⟩, .ref r, rfl, r, 5, rfl, R1, by decide, by decide, fun H2 g o2 R2 g0 g5 => ?_⟩
      obtain ⟨m, rfl⟩ : ∃ m : Nat, g = (m : Int) := ⟨g.toNat, by omega⟩
      refine ⟨1, (m : Int), rfl, rfl, 1 + m, rfl, by omega, by omega, fun D nD => ?_⟩
      have o := o1.trans o2
      have fD : H D = none := o.free (R2.ne nD) nD
      have rD : r ≠ D := R2.ne nD
      refine lc_range (lo := 0) (n := (1 + (m : Int)).toNat) (fun i H' => ∃ cs, RowAt H' r ∧ Off r H H' ∧ H' D = some (.lst (vs_ cs)) ∧ cs.length = i ∧ ∀ c ∈ cs, 97 ≤ c ∧ c ≤ 122) ⟨[], R2.new nD, o.mut fD, upd_same, rfl, fun _ h => nomatch h⟩ (fun i H3 hi hW => ?_) (fun H3 hW => ?_)
      · obtain ⟨cs, R3, o3, e3, l3, c3⟩ := hW
        refine ⟨rfl, lcyes ?_⟩
        refine ⟨_, rfl, .ref r, rfl, r, 26, rfl, R3, by decide, by decide, fun H4 g o4 R4 a0 a1 => ?_⟩
        obtain ⟨k, rfl⟩ : ∃ k : Nat, g = (k : Int) := ⟨g.toNat, by omega⟩
        refine ⟨_, (k : Int), 97 + k, rfl, rfl, by decide, atI_nat (az_at (by omega)), vs_ cs, o4 _ _ rD.symm e3, ?_, cs ++ [97 + k], R4.upd rD, (o3.trans o4).mut fD, ?_, ?_, mem_snoc c3 (by omega)⟩
        · rw [List.length_map, l3]
          exact small1000 (by omega)
        · rw [upd_same, vs_snoc]
        · rw [List.length_append, l3]
          rfl
      · obtain ⟨cs, R3, o3, e3, l3, c3⟩ := hW
        have hcl : cs.length ≤ 5 := by omega
        refine ⟨D, cs.map sg, rfl, .inl (.inl (by rw [List.map_map]; exact e3)), by rw [List.length_map]; omega, fun p4 n4 => ?_⟩
        have f4 : H p4 = none := o3.free (R3.ne n4) n4
        have R4 := R3.new (o := SetT P w p4 (tAll (cs.map sg))) n4
        refine ⟨p4, _, rfl, upd_same, ?_, fun zs p5 pm srt n5 => ?_⟩
        · have := tAll_len (cs.map sg)
          rw [List.length_map] at this
          omega
        have f5 : H p5 = none := (o3.mut f4).free (R4.ne n5) n5
        obtain ⟨ds, rfl, dr, dm, dl⟩ := sg_sorted pm srt
        refine ⟨⟨#[]⟩, p5, ds.map sg, rfl, rfl, .inl (.inl (.inl upd_same)), ?_, ?_⟩
        · rw [List.length_map, sum_sg]
          show ds.length + ds.length * 0 ≤ 16777216
          omega
        · rw [join_sg]
          refine q _ _ ((o3.mut f4).mut f5) (R4.new n5) ⟨?_, ?_, dr, fun c hc => c3 c ((dm c).mp hc)⟩
          · show 1 ≤ ds.toArray.size
            rw [List.size_toArray]
            have hc0 : 0 < cs.length := by omega
            have : cs[0] ∈ ds := (dm _).mpr (List.getElem_mem hc0)
            exact List.length_pos_of_mem this
          · show ds.toArray.size ≤ 5
            rw [List.size_toArray]
            omega
/-! ### _law_one_of -/
def sp_law_one_of : Sp := fun vs H Q _ => ∃ (r : Addr) (z : Str), vs = [.ref r, .str z] ∧ RowAt H r ∧ 1 ≤ z.length ∧ z.length ≤ 1000 ∧ ∀ H' c, Off r H H' → RowAt H' r → c ∈ z.cps.toList → Q (.str (sg c)) H'
theorem ok_law_one_of (T : TX K mg) : FnOk P w K mg base CX0 2 T.a_law_one_of T.fd_law_one_of ["well", "letters"] sp_law_one_of := by
  have G_law_draw : FnOk P w K mg base CX0 1 T.a_law_draw T.fd_law_draw ["well", "many"] sp_law_draw := ok_law_draw T
  refine T.F_law_one_of.ok sc_law_one_of (fun vs H Q E h => ?_) (fun cdv A outer s H vs Q E hr h => ?_)
  · obtain ⟨r, z, rfl, _⟩ := h
    rfl
  · obtain ⟨r, z, rfl, hR, h1, h2, q⟩ := h
    refine ⟨_, (pss_one (ps_ret (pe_ix ix_str (pv 1) (pe_call G_law_draw (hr.mono (by decide)) (by rfl) T.g_law_draw T.F_law_draw.kp T.b_law_draw .nil pass0 (pa_cons (pv 0) (pa_cons (pe_callB call_len_str (by rfl) T.m_len (by decide +kernel) (pa_cons (pv 1) pa_nil)) pa_nil))) (fun _ _ => rfl)))), ?_⟩
    have zs : z.length ≤ sizeLine := Nat.le_trans h2 (by decide)
    refine ⟨.str z, rfl, .ref r, rfl, .str z, rfl, z, rfl, zs, r, (z.length : Int), rfl, hR, by omega, by omega, fun H1 g o1 R1 a0 a1 => ?_⟩
    obtain ⟨k, rfl⟩ : ∃ k : Nat, g = (k : Int) := ⟨g.toNat, by omega⟩
    have hk : k < z.cps.toList.length := by
      rw [Array.length_toList]
      have : (k : Int) < (z.cps.size : Nat) := a1
      omega
    exact ⟨z, (k : Int), z.cps.toList[k], rfl, rfl, zs, atI_nat (List.getElem?_eq_getElem hk), q _ _ o1 R1 (List.getElem_mem hk)⟩
/-! ### _law_some -/
def sp_law_some : Sp := fun vs H Q _ => ∃ (r : Addr) (z : Str), vs = [.ref r, .str z] ∧ RowAt H r ∧ IsLet z ∧ ∀ H' (cs : List Nat), Off r H H' → RowAt H' r → cs.Sublist z.cps.toList → 1 ≤ cs.length → Q (.str ⟨cs.toArray⟩) H'
theorem dpAll_str {K : PySem.W.Frag} {H : Hp} : ∀ xs : List Str, DpAll K H (xs.map V.str) (xs.map PyData.str)
  | [] => .nil
  | c :: r => .cons (.str _) (dpAll_str r)
theorem canAll_str : ∀ xs : List Str, (∀ x ∈ xs, PyData.strOk x = true) → PyData.canLayAll0 (xs.map PyData.str) = true
  | [], _ => rfl
  | x :: r, h => by
    have h1 := h x List.mem_cons_self
    have h2 := canAll_str r fun y hy => h y (List.mem_cons_of_mem _ hy)
    simp [PyData.canLayAll0, PyData.canLay0, h1, h2]
theorem depthAll_str : ∀ xs : List Str, PyData.depthAll (xs.map PyData.str) = 0
  | [] => rfl
  | _ :: r => by simp [PyData.depthAll, PyData.depth, depthAll_str r]
theorem shaped_strs (xs : List Str) (h : ∀ x ∈ xs, PyData.strOk x = true) : SeqAt.shaped (.list (xs.map PyData.str)) = true := by
  simp [SeqAt.shaped, PyData.canLay0, PyData.depth, canAll_str xs h, depthAll_str]
theorem strOk_sg {c : Nat} (h : c ≤ 122) : PyData.strOk (sg c) = true := by
  have : c < 0x110000 := by omega
  simp [PyData.strOk, this]
theorem ok_law_some (T : TX K mg) : FnOk P w K mg base CX0 3 T.a_law_some T.fd_law_some ["well", "letters"] sp_law_some := by
  have G_law_draw : FnOk P w K mg base CX0 1 T.a_law_draw T.fd_law_draw ["well", "many"] sp_law_draw := ok_law_draw T
  have G_law_one_of : FnOk P w K mg base CX0 2 T.a_law_one_of T.fd_law_one_of ["well", "letters"] sp_law_one_of := ok_law_one_of T
  refine T.F_law_some.ok sc_law_some (fun vs H Q E h => ?_) (fun cdv A outer s H vs Q E hr h => ?_)
  · obtain ⟨r, z, rfl, _⟩ := h
    rfl
  · obtain ⟨r, z, rfl, hR, hz, q⟩ := h
    refine ⟨_, (pss_cons (ps_setLc (i := 2) (own := [("sign", 3)]) (g := gName 3) (by rfl) sc_law_some.nd rfl rfl (sw_true rfl rfl rfl (by decide +kernel)) (pi_str (pv 1)) (blkOk_by (own := [("sign", 3)]) (N := N_law_some) (by kernel_rfl)) (fun _ _ _ _ _ => (pg_name (i := 3) sc_law_some.nd rfl (Or.inl rfl))) (fun _ _ _ _ _ => (pts_one (pt_cmpR op_eq (pe_call G_law_draw (hr.mono (by decide)) (by rfl) T.g_law_draw T.F_law_draw.kp T.b_law_draw .nil pass0 (pa_cons (pv 0) (pa_cons pe_int pa_nil))) pe_int (nomark _)))) (fun _ _ _ _ _ => (pv 3)))
      (C8.pss_cut (ps_if (pt_cmpR (op_eqD hr.units) (pv 2) (pe_lst pa_nil) (nomark _))
        (pss_one (ps_set (i := 2) sc_law_some.nd rfl (Or.inl rfl) (pe_lst (pa_cons (pe_call G_law_one_of (hr.mono (by decide)) (by rfl) T.g_law_one_of T.F_law_one_of.kp T.b_law_one_of .nil pass0 (pa_cons (pv 0) (pa_cons (pv 1) pa_nil))) pa_nil))))
        pss_nil)
      (pss_one (ps_ret (pe_m1 PySem.F.slot_str_join PySem.F.type_str_join (mt_joinK K rfl) pe_str (pv 2)))))), ?_⟩
    have h5 := hz.five
    have h1 := hz.one
    refine ⟨.str z, rfl, z, rfl, fun D nD => ?_⟩
    have rD : r ≠ D := hR.ne nD
    refine lc_it walk_str (fun i H' => ∃ cs, RowAt H' r ∧ Off r H H' ∧ H' D = some (.lst (vs_ cs)) ∧ cs.Sublist (z.cps.toList.take i)) ⟨[], hR.new nD, Off.new nD, upd_same, List.nil_sublist _⟩ (fun _ _ _ _ => trivial) (fun i x H2 H2' hi hW hY => ?_) (fun H2 hW => ?_)
    · obtain ⟨cs, R2, o2, e2, s2⟩ := hW
      obtain ⟨rfl, c, hc, rfl⟩ := hY
      have hc' : z.cps.toList[i]? = some c := by
        rw [Array.getElem?_toList]
        exact hc
      have et : z.cps.toList.take (i + 1) = z.cps.toList.take i ++ [c] := by
        rw [List.take_add_one, hc']
        rfl
      refine ⟨rfl, .ref r, rfl, r, 2, rfl, R2, by decide, by decide, fun H3 g o3 R3 _ _ => ⟨rfl, _, rfl, ite2 (fun _ => ?_) (fun _ => ?_)⟩⟩
      · refine ⟨.str (sg c), rfl, vs_ cs, o3 _ _ rD.symm e2, ?_, cs ++ [c], R3.upd rD, (o2.trans o3).mut nD, ?_, ?_⟩
        · have := s2.length_le
          have := List.length_take_le i z.cps.toList
          rw [List.length_map]
          have : i < z.length := hi
          exact small1000 (by omega)
        · rw [upd_same, vs_snoc]
        · rw [et]
          exact List.Sublist.append s2 (List.Sublist.refl _)
      · refine ⟨cs, R3, o2.trans o3, o3 _ _ rD.symm e2, ?_⟩
        rw [et]
        exact s2.trans (List.sublist_append_left _ _)
    · obtain ⟨cs, R2, o2, e2, s2⟩ := hW
      rw [List.take_of_length_le (by rw [Array.length_toList]; exact Nat.le_refl _)] at s2
      have hcs : cs.length ≤ 5 := by
        have := s2.length_le
        rw [Array.length_toList] at this
        exact Nat.le_trans this h5
      refine ⟨fun σ' H' => ∃ d ds, σ' = [some (.ref r), some (.str z), some (.ref d), none] ∧ RowAt H' r ∧ Off r H H' ∧ H' d = some (.lst (vs_ ds)) ∧ ds.Sublist z.cps.toList ∧ 1 ≤ ds.length ∧ ds.length ≤ 5, ?_, fun σ' H' hM => ?_⟩
      · refine ⟨.ref D, rfl, by show 0 ≤ sizeLine; decide, fun p3 n3 => ?_⟩
        have f3 : H p3 = none := o2.free (R2.ne n3) n3
        have ev : vs_ cs = (cs.map sg).map V.str := by rw [List.map_map]; rfl
        refine ⟨.list ((cs.map sg).map PyData.str), .list [], .lst (.inl (.inl ((same_new n3) _ _ e2))) (ev ▸ dpAll_str (cs.map sg)), .lst (.inl (.inl upd_same)) .nil, shaped_strs _ (fun x hx => ?_), shaped_strs [] (fun _ h => nomatch h), _, rfl, ite2 (fun e => ?_) (fun e => ?_)⟩
        · obtain ⟨c, hc, rfl⟩ := List.mem_map.mp hx
          exact strOk_sg (hz.small c (s2.subset hc)).2
        · refine ⟨.ref r, rfl, .str z, rfl, r, z, rfl, R2.new n3, h1, by omega, fun H4 c o4 R4 hc => ?_⟩
          refine ⟨by show 1 ≤ sizeLine; decide, fun p5 n5 => ?_⟩
          have o5 := (o2.mut f3).trans o4
          have f5 : H p5 = none := o5.free (R4.ne n5) n5
          exact ⟨p5, [c], rfl, R4.new n5, o5.mut f5, upd_same, List.singleton_sublist.mpr hc, Nat.le_refl 1, (by show 1 ≤ 5; decide)⟩
        · refine ⟨D, cs, rfl, R2.new n3, o2.mut f3, (same_new n3) _ _ e2, s2, ?_, hcs⟩
          cases cs with
          | nil => exact absurd (show PyData.eqv (.list []) (.list []) = true by rfl) e
          | cons c r => exact Nat.succ_le_succ (Nat.zero_le _)
      · obtain ⟨d, ds, rfl, R3, o3, e3, s3, l3, l4⟩ := hM
        refine ⟨⟨_, rfl⟩, .ref d, rfl, ⟨#[]⟩, d, ds.map sg, rfl, rfl, .inl (.inl (.inl (by rw [List.map_map]; exact e3))), ?_, ?_⟩
        · rw [List.length_map, sum_sg]
          show ds.length + ds.length * 0 ≤ 16777216
          omega
        · rw [join_sg]
          exact q _ _ o3 R3 s3 l3
end
end LH

namespace LH
open PySem PySem.Spec PyProof.Rows L2
/-! ### rules -/
structure Grd where
  how : Str
  wh : Str
  sm : List Nat
inductive Rul where
  | one (x y : Nat) (g : Option Grd)
  | two (x y u v : Nat)
  | call (x y : Nat) (im : List Nat)
def GrdAt (H : Hp) (v : V) : Option Grd → Prop
  | none => v = .non
  | some G => ∃ g, v = .ref g ∧ H g = some (.tup [.str G.how, .str G.wh, .str ⟨G.sm.toArray⟩])
def RulAt (H : Hp) (p : Addr) : Rul → Prop
  | .one x y g => ∃ v, H p = some (.tup [.str "one", .str (sg x), .str (sg y), v]) ∧ GrdAt H v g
  | .two x y u v => H p = some (.tup [.str "two", .str (sg x), .str (sg y), .str (sg u), .str (sg v)])
  | .call x y im => H p = some (.tup [.str "call", .str (sg x), .str (sg y), .str ⟨im.toArray⟩])
theorem GrdAt.mono {H H' : Hp} {v : V} {g : Option Grd} (t : Tups H H') (h : GrdAt H v g) : GrdAt H' v g := by
  cases g with
  | none => exact h
  | some G =>
    obtain ⟨g, e, q⟩ := h
    exact ⟨g, e, t _ _ q⟩
theorem RulAt.mono {H H' : Hp} {p : Addr} {R : Rul} (t : Tups H H') (h : RulAt H p R) : RulAt H' p R := by
  cases R with
  | one x y g =>
    obtain ⟨v, e, q⟩ := h
    exact ⟨v, t _ _ e, q.mono t⟩
  | two x y u v => exact t _ _ h
  | call x y im => exact t _ _ h
structure Grd.Ok (G : Grd) (z sh : Str) : Prop where
  how : G.how = "all" ∨ G.how = "some"
  wh : G.wh = "left" ∨ G.wh = "right" ∨ G.wh = "others"
  ring : sh = "ring" → G.wh = "others"
  sm : ∀ c ∈ G.sm, c ∈ z.cps.toList
  one : 1 ≤ G.sm.length ∧ G.sm.length ≤ 100
def Rul.Ok (z sh : Str) : Rul → Prop
  | .one x y g => x ∈ z.cps.toList ∧ y ∈ z.cps.toList ∧ ∀ G, g = some G → G.Ok z sh
  | .two x y u v => x ∈ z.cps.toList ∧ y ∈ z.cps.toList ∧ u ∈ z.cps.toList ∧ v ∈ z.cps.toList
  | .call x y im => x ∈ z.cps.toList ∧ y ∈ z.cps.toList ∧ im.length = z.length ∧ ∀ c ∈ im, c ∈ z.cps.toList
def Rul.Kind (n : Int) : Rul → Prop
  | .one _ _ _ => n ≠ 0 ∧ n ≠ 1
  | .two _ _ _ _ => n = 0
  | .call _ _ _ => n = 1
theorem three_at {g : Int} (h0 : 0 ≤ g) (h1 : g < 3) : ∃ x : Str, atI [V.str "left", V.str "right", V.str "others"] g = some (.str x) ∧ (x = "left" ∨ x = "right" ∨ x = "others") := by
  have : g = 0 ∨ g = 1 ∨ g = 2 := by omega
  rcases this with rfl | rfl | rfl
  · exact ⟨_, rfl, .inl rfl⟩
  · exact ⟨_, rfl, .inr (.inl rfl)⟩
  · exact ⟨_, rfl, .inr (.inr rfl)⟩
theorem two_at {g : Int} {a b : Str} (h0 : 0 ≤ g) (h1 : g < 2) : ∃ x : Str, atI [V.str a, V.str b] g = some (.str x) ∧ (x = a ∨ x = b) := by
  have : g = 0 ∨ g = 1 := by omega
  rcases this with rfl | rfl
  · exact ⟨_, rfl, .inl rfl⟩
  · exact ⟨_, rfl, .inr rfl⟩
section
variable {P : Program} {w : World} {K : PySem.W.Frag} {mg : Str → Option Value} {base : Heap}
def sp_law_rule : Sp := fun vs H Q _ => ∃ (r : Addr) (z sh : Str) (n : Int), vs = [.ref r, .str z, .str sh, .int n] ∧ RowAt H r ∧ IsLet z ∧ ∀ H' p R, Off r H H' → RowAt H' r → RulAt H' p R → R.Ok z sh → R.Kind n → Q (.ref p) H'
theorem ok_law_rule (T : TX K mg) : FnOk P w K mg base CX0 4 T.a_law_rule T.fd_law_rule ["well", "letters", "shape", "kind"] sp_law_rule := by
  have G_law_draw : FnOk P w K mg base CX0 1 T.a_law_draw T.fd_law_draw ["well", "many"] sp_law_draw := ok_law_draw T
  have G_law_one_of : FnOk P w K mg base CX0 2 T.a_law_one_of T.fd_law_one_of ["well", "letters"] sp_law_one_of := ok_law_one_of T
  have G_law_some : FnOk P w K mg base CX0 3 T.a_law_some T.fd_law_some ["well", "letters"] sp_law_some := ok_law_some T
  refine T.F_law_rule.ok sc_law_rule (fun vs H Q E h => ?_) (fun cdv A outer s H vs Q E hr h => ?_)
  · obtain ⟨r, z, sh, n, rfl, _⟩ := h
    rfl
  · obtain ⟨r, z, sh, n, rfl, hR, hz, q⟩ := h
    refine ⟨_, (pss_cons (ps_set (i := 4) sc_law_rule.nd rfl (Or.inl rfl) (pe_call G_law_one_of (hr.mono (by decide)) (by rfl) T.g_law_one_of T.F_law_one_of.kp T.b_law_one_of .nil pass0 (pa_cons (pv 0) (pa_cons (pv 1) pa_nil))))
      (pss_cons (ps_set (i := 5) sc_law_rule.nd rfl (Or.inl rfl) (pe_call G_law_one_of (hr.mono (by decide)) (by rfl) T.g_law_one_of T.F_law_one_of.kp T.b_law_one_of .nil pass0 (pa_cons (pv 0) (pa_cons (pv 1) pa_nil))))
      (pss_cons (ps_if (pt_cmpR op_eq (pv 3) pe_int (nomark _))
        (pss_one (ps_ret (pe_tup (pa_cons pe_str (pa_cons (pv 4) (pa_cons (pv 5) (pa_cons (pe_call G_law_one_of (hr.mono (by decide)) (by rfl) T.g_law_one_of T.F_law_one_of.kp T.b_law_one_of .nil pass0 (pa_cons (pv 0) (pa_cons (pv 1) pa_nil))) (pa_cons (pe_call G_law_one_of (hr.mono (by decide)) (by rfl) T.g_law_one_of T.F_law_one_of.kp T.b_law_one_of .nil pass0 (pa_cons (pv 0) (pa_cons (pv 1) pa_nil))) pa_nil))))))))
        pss_nil)
      (pss_cons (ps_if (pt_cmpR op_eq (pv 3) pe_int (nomark _))
        (pss_one (ps_ret (pe_tup (pa_cons pe_str (pa_cons (pv 4) (pa_cons (pv 5) (pa_cons (pe_m1 PySem.F.slot_str_join PySem.F.type_str_join (mt_joinK K rfl) pe_str (pe_lc (own := [("letter", 8)]) (g := gName 8) (tt := tYes) (by rfl) sc_law_rule.nd (pi_str (pv 1)) (blkOk_by (own := [("letter", 8)]) (N := N_law_rule) (by kernel_rfl)) (fun _ _ _ _ _ => (pg_name (i := 8) sc_law_rule.nd rfl (Or.inl rfl))) (fun _ _ _ _ _ => pts_nil) (fun _ _ _ _ _ => (pe_call G_law_one_of (hr.mono (by decide)) (by rfl) T.g_law_one_of T.F_law_one_of.kp T.b_law_one_of .nil pass0 (pa_cons (pv 0) (pa_cons (pv 1) pa_nil)))))) pa_nil)))))))
        pss_nil)
      (pss_cons (ps_set (i := 6) sc_law_rule.nd rfl (Or.inl rfl) (pe_ix (ix_listK K rfl) (pe_lst (pa_cons pe_str (pa_cons pe_str (pa_cons pe_str pa_nil)))) (pe_call G_law_draw (hr.mono (by decide)) (by rfl) T.g_law_draw T.F_law_draw.kp T.b_law_draw .nil pass0 (pa_cons (pv 0) (pa_cons pe_int pa_nil))) (fun _ _ => rfl)))
      (C8.pss_cut (ps_if (pt_cmpR op_eq (pv 2) pe_str (nomark _))
        (pss_one (ps_set (i := 6) sc_law_rule.nd rfl (Or.inl rfl) pe_str))
        pss_nil)
      (pss_cons (ps_set (i := 7) sc_law_rule.nd rfl (Or.inl rfl) (pe_tup (pa_cons (pe_ix (ix_listK K rfl) (pe_lst (pa_cons pe_str (pa_cons pe_str pa_nil))) (pe_call G_law_draw (hr.mono (by decide)) (by rfl) T.g_law_draw T.F_law_draw.kp T.b_law_draw .nil pass0 (pa_cons (pv 0) (pa_cons pe_int pa_nil))) (fun _ _ => rfl)) (pa_cons (pv 6) (pa_cons (pe_call G_law_some (hr.mono (by decide)) (by rfl) T.g_law_some T.F_law_some.kp T.b_law_some .nil pass0 (pa_cons (pv 0) (pa_cons (pv 1) pa_nil))) pa_nil)))))
      (pss_one (ps_ret (pe_tup (pa_cons pe_str (pa_cons (pv 4) (pa_cons (pv 5) (pa_cons (pe_ix (ix_listK K rfl) (pe_lst (pa_cons pe_non (pa_cons (pv 7) (pa_cons (pv 7) pa_nil)))) (pe_call G_law_draw (hr.mono (by decide)) (by rfl) T.g_law_draw T.F_law_draw.kp T.b_law_draw .nil pass0 (pa_cons (pv 0) (pa_cons pe_int pa_nil))) (fun _ _ => rfl)) pa_nil)))))))))))))), ?_⟩
    have h1 := hz.one
    have h5 := hz.five
    have z2 : z.length ≤ 1000 := by omega
    refine ⟨.ref r, rfl, .str z, rfl, r, z, rfl, hR, h1, z2, fun H1 x o1 R1 hx => ?_⟩
    refine ⟨.ref r, rfl, .str z, rfl, r, z, rfl, R1, h1, z2, fun H2 y o2 R2 hy => ?_⟩
    have oo := o1.trans o2
    refine ⟨.int n, rfl, rfl, _, rfl, ite2 (fun e0 => ?_) (fun e0 => ?_)⟩
    · have e0 : n = 0 := by simpa using e0
      refine ⟨.str (sg x), rfl, .str (sg y), rfl, .ref r, rfl, .str z, rfl, r, z, rfl, R2, h1, z2, fun H3 u o3 R3 hu => ?_⟩
      refine ⟨.ref r, rfl, .str z, rfl, r, z, rfl, R3, h1, z2, fun H4 v o4 R4 hv => ?_⟩
      refine ⟨by show 5 ≤ sizeLine; decide, fun p n5 => ?_⟩
      have o5 := (oo.trans o3).trans o4
      exact q _ p (.two x y u v) (o5.mut (o5.free (R4.ne n5) n5)) (R4.new n5) upd_same ⟨hx, hy, hu, hv⟩ e0
    have n0 : n ≠ 0 := fun e => by simp [e] at e0
    refine ⟨.int n, rfl, rfl, _, rfl, ite2 (fun e1 => ?_) (fun e1 => ?_)⟩
    · have e1 : n = 1 := by simpa using e1
      refine ⟨.str (sg x), rfl, .str (sg y), rfl, ⟨_, rfl⟩, .str z, rfl, z, rfl, fun D nD => ?_⟩
      have rD : r ≠ D := R2.ne nD
      have fD : H D = none := oo.free rD nD
      refine lc_it walk_str (fun i H' => ∃ cs, RowAt H' r ∧ Off r H H' ∧ H' D = some (.lst (vs_ cs)) ∧ cs.length = i ∧ ∀ c ∈ cs, c ∈ z.cps.toList) ⟨[], R2.new nD, oo.mut fD, upd_same, rfl, fun _ h => nomatch h⟩ (fun _ _ _ _ => trivial) (fun i v H3 H3' hi hW hY => ?_) (fun H3 hW => ?_)
      · obtain ⟨cs, R3, o3, e3, l3, c3⟩ := hW
        obtain ⟨rfl, c, hc, rfl⟩ := hY
        refine ⟨rfl, lcyes ?_⟩
        refine ⟨.ref r, rfl, .str z, rfl, r, z, rfl, R3, h1, z2, fun H4 d o4 R4 hd => ?_⟩
        refine ⟨vs_ cs, o4 _ _ rD.symm e3, ?_, cs ++ [d], R4.upd rD, (o3.trans o4).mut fD, ?_, ?_, mem_snoc c3 hd⟩
        · rw [List.length_map, l3]
          have : i < z.length := hi
          exact small1000 (by omega)
        · rw [upd_same, vs_snoc]
        · rw [List.length_append, l3]
          rfl
      · obtain ⟨cs, R3, o3, e3, l3, c3⟩ := hW
        have l3 : cs.length = z.length := l3
        refine ⟨⟨#[]⟩, D, cs.map sg, rfl, rfl, .inl (.inl (.inl (by rw [List.map_map]; exact e3))), ?_, ?_⟩
        · rw [List.length_map, sum_sg]
          show cs.length + cs.length * 0 ≤ 16777216
          omega
        rw [join_sg]
        refine ⟨by show 4 ≤ sizeLine; decide, fun p n5 => ?_⟩
        exact q _ p (.call x y cs) (o3.mut (o3.free (R3.ne n5) n5)) (R3.new n5) upd_same ⟨hx, hy, l3, c3⟩ e1
    have n1 : n ≠ 1 := fun e => by simp [e] at e1
    refine ⟨by show 3 ≤ sizeLine; decide, fun p3 n3 => ?_⟩
    have f3 : H p3 = none := oo.free (R2.ne n3) n3
    refine ⟨.ref r, rfl, r, 3, rfl, R2.new n3, by decide, by decide, fun H4 g o4 R4 g0 g1 => ?_⟩
    obtain ⟨wh, ew, hw⟩ := three_at g0 g1
    have o5 := (oo.mut f3).trans o4
    refine ⟨p3, _, g, .str wh, rfl, rfl, .inl (.inl (o4 _ _ (R2.ne n3).symm upd_same)), ew, ?_⟩
    refine ⟨fun σ' H' => ∃ wh : Str, σ' = [some (.ref r), some (.str z), some (.str sh), some (.int n), some (.str (sg x)), some (.str (sg y)), some (.str wh), none, none] ∧ H' = H4 ∧ (wh = "left" ∨ wh = "right" ∨ wh = "others") ∧ (sh = "ring" → wh = "others"), ?_, fun σ' H' hM => ?_⟩
    · refine ⟨.str sh, rfl, rfl, _, rfl, ite2 (fun e => ?_) (fun e => ?_)⟩
      · exact ⟨"others", rfl, rfl, .inr (.inr rfl), fun _ => rfl⟩
      · exact ⟨wh, rfl, rfl, hw, fun c => absurd (by simp [c]) e⟩
    obtain ⟨wh, rfl, rfl, hw, hring⟩ := hM
    refine ⟨by show 2 ≤ sizeLine; decide, fun p6 n6 => ?_⟩
    have f6 : H p6 = none := o5.free (R4.ne n6) n6
    refine ⟨.ref r, rfl, r, 2, rfl, R4.new n6, by decide, by decide, fun H7 g o7 R7 g0 g1 => ?_⟩
    obtain ⟨how, eh, hh⟩ := two_at (a := "all") (b := "some") g0 g1
    have o8 := (o5.mut f6).trans o7
    refine ⟨p6, _, g, .str how, rfl, rfl, .inl (.inl (o7 _ _ (R4.ne n6).symm upd_same)), eh, .str wh, rfl, ?_⟩
    refine ⟨.ref r, rfl, .str z, rfl, r, z, rfl, R7, hz, fun H9 cs o9 R9 scs lcs => ?_⟩
    have o10 := o8.trans o9
    refine ⟨by show 3 ≤ sizeLine; decide, fun gp ngp => ?_⟩
    have fg : H gp = none := o10.free (R9.ne ngp) ngp
    have R10 := R9.new (o := .tup [.str how, .str wh, .str ⟨cs.toArray⟩]) ngp
    have e10 : (upd H9 gp (.tup [.str how, .str wh, .str ⟨cs.toArray⟩])) gp = some (.tup [.str how, .str wh, .str ⟨cs.toArray⟩]) := upd_same
    have o11 := o10.mut (o := .tup [.str how, .str wh, .str ⟨cs.toArray⟩]) fg
    generalize upd H9 gp (.tup [.str how, .str wh, .str ⟨cs.toArray⟩]) = H10 at R10 e10 o11
    refine ⟨.str (sg x), rfl, .str (sg y), rfl, .ref gp, rfl, .ref gp, rfl, by show 3 ≤ sizeLine; decide, fun p11 n11 => ?_⟩
    have f11 : H p11 = none := o11.free (R10.ne n11) n11
    have R11 := R10.new (o := .lst [.non, .ref gp, .ref gp]) n11
    refine ⟨.ref r, rfl, r, 3, rfl, R11, by decide, by decide, fun H12 g o12 R12 g0 g1 => ?_⟩
    have o13 := (o11.mut f11).trans o12
    have e12 : H12 gp = some (.tup [.str how, .str wh, .str ⟨cs.toArray⟩]) := o12 _ _ (R11.neT ((same_new n11) _ _ e10)) ((same_new n11) _ _ e10)
    have ok : ∀ G, some (⟨how, wh, cs⟩ : Grd) = some G → G.Ok z sh := fun G e => by
      cases e
      exact ⟨hh, hw, hring, fun c hc => scs.subset hc, lcs, Nat.le_trans scs.length_le (by rw [Array.length_toList]; exact Nat.le_trans hz.five (by decide))⟩
    obtain ⟨v, gg, ev, hv, hgg⟩ : ∃ v gg, atI [V.non, V.ref gp, V.ref gp] g = some v ∧ GrdAt H12 v gg ∧ ∀ G, gg = some G → G.Ok z sh := by
      have : g = 0 ∨ g = 1 ∨ g = 2 := by omega
      rcases this with rfl | rfl | rfl
      · exact ⟨.non, none, rfl, rfl, fun _ h => nomatch h⟩
      · exact ⟨.ref gp, some ⟨how, wh, cs⟩, rfl, ⟨gp, rfl, e12⟩, ok⟩
      · exact ⟨.ref gp, some ⟨how, wh, cs⟩, rfl, ⟨gp, rfl, e12⟩, ok⟩
    refine ⟨p11, _, g, v, rfl, rfl, .inl (.inl (o12 _ _ (R10.ne n11).symm upd_same)), ev, by show 4 ≤ sizeLine; decide, fun p n5 => ?_⟩
    exact q _ p (.one x y gg) (o13.mut (o13.free (R12.ne n5) n5)) (R12.new n5) ⟨v, upd_same, hv.mono (Tups.new n5)⟩ ⟨hx, hy, hgg⟩ ⟨n0, n1⟩
/-! ### _law_word -/
def sp_law_word : Sp := fun vs H Q _ => ∃ (r : Addr) (z : Str), vs = [.ref r, .str z] ∧ RowAt H r ∧ IsLet z ∧ ∀ H' (cs : List Nat), Off r H H' → RowAt H' r → cs.length ≤ 40 → (∀ c ∈ cs, c ∈ z.cps.toList) → Q (.str ⟨cs.toArray⟩) H'
theorem many_at {a b g : Int} (ha : 0 ≤ a ∧ a < 10) (hb : 0 ≤ b ∧ b < 41) (h0 : 0 ≤ g) (h1 : g < 9) : ∃ m : Nat, atI [V.int 0, V.int 1, V.int 2, V.int 3, V.int 4, V.int 5, V.int a, V.int b, V.int 40] g = some (.int (m : Int)) ∧ m ≤ 40 := by
  have : g = 0 ∨ g = 1 ∨ g = 2 ∨ g = 3 ∨ g = 4 ∨ g = 5 ∨ g = 6 ∨ g = 7 ∨ g = 8 := by omega
  rcases this with rfl | rfl | rfl | rfl | rfl | rfl | rfl | rfl | rfl
  · exact ⟨0, rfl, by decide⟩
  · exact ⟨1, rfl, by decide⟩
  · exact ⟨2, rfl, by decide⟩
  · exact ⟨3, rfl, by decide⟩
  · exact ⟨4, rfl, by decide⟩
  · exact ⟨5, rfl, by decide⟩
  · exact ⟨a.toNat, by rw [Int.toNat_of_nonneg ha.1]; rfl, by omega⟩
  · exact ⟨b.toNat, by rw [Int.toNat_of_nonneg hb.1]; rfl, by omega⟩
  · exact ⟨40, rfl, by decide⟩
theorem ok_law_word (T : TX K mg) : FnOk P w K mg base CX0 4 T.a_law_word T.fd_law_word ["well", "letters"] sp_law_word := by
  have G_law_draw : FnOk P w K mg base CX0 1 T.a_law_draw T.fd_law_draw ["well", "many"] sp_law_draw := ok_law_draw T
  have G_law_one_of : FnOk P w K mg base CX0 2 T.a_law_one_of T.fd_law_one_of ["well", "letters"] sp_law_one_of := ok_law_one_of T
  have G_law_some : FnOk P w K mg base CX0 3 T.a_law_some T.fd_law_some ["well", "letters"] sp_law_some := ok_law_some T
  refine T.F_law_word.ok sc_law_word (fun vs H Q E h => ?_) (fun cdv A outer s H vs Q E hr h => ?_)
  · obtain ⟨r, z, rfl, _⟩ := h
    rfl
  · obtain ⟨r, z, rfl, hR, hz, q⟩ := h
    refine ⟨_, (pss_cons (ps_set (i := 2) sc_law_word.nd rfl (Or.inl rfl) (pe_ix (ix_listK K rfl) (pe_lst (pa_cons pe_int (pa_cons pe_int (pa_cons pe_int (pa_cons pe_int (pa_cons pe_int (pa_cons pe_int (pa_cons (pe_call G_law_draw (hr.mono (by decide)) (by rfl) T.g_law_draw T.F_law_draw.kp T.b_law_draw .nil pass0 (pa_cons (pv 0) (pa_cons pe_int pa_nil))) (pa_cons (pe_call G_law_draw (hr.mono (by decide)) (by rfl) T.g_law_draw T.F_law_draw.kp T.b_law_draw .nil pass0 (pa_cons (pv 0) (pa_cons pe_int pa_nil))) (pa_cons pe_int pa_nil)))))))))) (pe_call G_law_draw (hr.mono (by decide)) (by rfl) T.g_law_draw T.F_law_draw.kp T.b_law_draw .nil pass0 (pa_cons (pv 0) (pa_cons pe_int pa_nil))) (fun _ _ => rfl)))
      (pss_cons (ps_set (i := 3) sc_law_word.nd rfl (Or.inr rfl) (pe_ix (ix_listK K rfl) (pe_lst (pa_cons (pv 1) (pa_cons (pe_call G_law_some (hr.mono (by decide)) (by rfl) T.g_law_some T.F_law_some.kp T.b_law_some .nil pass0 (pa_cons (pv 0) (pa_cons (pv 1) pa_nil))) pa_nil))) (pe_call G_law_draw (hr.mono (by decide)) (by rfl) T.g_law_draw T.F_law_draw.kp T.b_law_draw .nil pass0 (pa_cons (pv 0) (pa_cons pe_int pa_nil))) (fun _ _ => rfl)))
      (pss_one (ps_ret (pe_m1 PySem.F.slot_str_join PySem.F.type_str_join (mt_joinK K rfl) pe_str (pe_lc (own := [("k", 4)]) (g := gName 4) (tt := tYes) (by rfl) sc_law_word.nd (pi_range1 (by rfl) T.m_range (pa_cons (pv 2) pa_nil)) (blkOk_by (own := [("k", 4)]) (N := N_law_word) (by kernel_rfl)) (fun _ _ _ _ _ => (pg_name (i := 4) sc_law_word.nd rfl (Or.inl rfl))) (fun _ _ _ _ _ => pts_nil) (fun _ _ _ _ _ => (pe_call G_law_one_of (hr.mono (by decide)) (by rfl) T.g_law_one_of T.F_law_one_of.kp T.b_law_one_of .nil pass0 (pa_cons (pv 0) (pa_cons (pv 3) pa_nil)))))))))), ?_⟩
    have h1 := hz.one
    have h5 := hz.five
    refine ⟨.ref r, rfl, r, 10, rfl, hR, by decide, by decide, fun H1 a o1 R1 a0 a1 => ?_⟩
    refine ⟨.ref r, rfl, r, 41, rfl, R1, by decide, by decide, fun H2 b o2 R2 b0 b1 => ?_⟩
    refine ⟨by show 9 ≤ sizeLine; decide, fun p3 n3 => ?_⟩
    have oo := o1.trans o2
    have f3 : H p3 = none := oo.free (R2.ne n3) n3
    refine ⟨.ref r, rfl, r, 9, rfl, R2.new n3, by decide, by decide, fun H4 g o4 R4 g0 g1 => ?_⟩
    obtain ⟨m, em, hm⟩ := many_at ⟨a0, a1⟩ ⟨b0, b1⟩ g0 g1
    have o5 := (oo.mut f3).trans o4
    refine ⟨p3, _, g, .int (m : Int), rfl, rfl, .inl (.inl (o4 _ _ (R2.ne n3).symm upd_same)), em, ?_⟩
    refine ⟨.str z, rfl, .ref r, rfl, .str z, rfl, r, z, rfl, R4, hz, fun H5 cs o6 R5 scs lcs => ?_⟩
    have o7 := o5.trans o6
    refine ⟨by show 2 ≤ sizeLine; decide, fun p6 n6 => ?_⟩
    have f6 : H p6 = none := o7.free (R5.ne n6) n6
    refine ⟨.ref r, rfl, r, 2, rfl, R5.new n6, by decide, by decide, fun H7 g o8 R7 g0 g1 => ?_⟩
    have o9 := (o7.mut f6).trans o8
    obtain ⟨y, ey, hy⟩ := two_at (a := z) (b := ⟨cs.toArray⟩) g0 g1
    obtain ⟨y1, y2, y3⟩ : 1 ≤ y.length ∧ y.length ≤ 1000 ∧ ∀ c ∈ y.cps.toList, c ∈ z.cps.toList := by
      rcases hy with rfl | rfl
      · exact ⟨h1, by omega, fun c hc => hc⟩
      · have := scs.length_le
        rw [Array.length_toList] at this
        have : cs.length ≤ 5 := Nat.le_trans this h5
        refine ⟨?_, ?_, fun c hc => scs.subset hc⟩
        · show 1 ≤ cs.toArray.size
          rw [List.size_toArray]
          exact lcs
        · show cs.toArray.size ≤ 1000
          rw [List.size_toArray]
          omega
    refine ⟨p6, _, g, .str y, rfl, rfl, .inl (.inl (o8 _ _ (R5.ne n6).symm upd_same)), ey, ?_⟩
    refine ⟨⟨_, rfl⟩, .int (m : Int), rfl, m, rfl, by omega, by omega, fun D nD => ?_⟩
    have rD : r ≠ D := R7.ne nD
    have fD : H D = none := o9.free rD nD
    refine lc_range (lo := 0) (n := (m : Int).toNat) (fun i H' => ∃ cs, RowAt H' r ∧ Off r H H' ∧ H' D = some (.lst (vs_ cs)) ∧ cs.length = i ∧ ∀ c ∈ cs, c ∈ z.cps.toList) ⟨[], R7.new nD, o9.mut fD, upd_same, rfl, fun _ h => nomatch h⟩ (fun i H8 hi hW => ?_) (fun H8 hW => ?_)
    · obtain ⟨cs, R8, o8, e8, l8, c8⟩ := hW
      refine ⟨rfl, lcyes ?_⟩
      refine ⟨.ref r, rfl, .str y, rfl, r, y, rfl, R8, y1, y2, fun H9 c o9 R9 hc => ?_⟩
      refine ⟨vs_ cs, o9 _ _ rD.symm e8, ?_, cs ++ [c], R9.upd rD, (o8.trans o9).mut fD, ?_, ?_, mem_snoc c8 (y3 c hc)⟩
      · rw [List.length_map, l8]
        exact small1000 (by omega)
      · rw [upd_same, vs_snoc]
      · rw [List.length_append, l8]
        rfl
    · obtain ⟨cs, R8, o8, e8, l8, c8⟩ := hW
      refine ⟨⟨#[]⟩, D, cs.map sg, rfl, rfl, .inl (.inl (.inl (by rw [List.map_map]; exact e8))), ?_, ?_⟩
      · rw [List.length_map, sum_sg]
        show cs.length + cs.length * 0 ≤ 16777216
        omega
      · rw [join_sg]
        exact q _ _ o8 R8 (by omega) c8
end
end LH

namespace LH
open PySem PySem.Spec PyProof.Rows L2
/-! ### words as lists of signs -/
abbrev tx (cs : List Nat) : Str := ⟨cs.toArray⟩
abbrev tv (ws : List (List Nat)) : List V := ws.map fun cs => V.str (tx cs)
theorem tx_len (cs : List Nat) : (tx cs).length = cs.length := List.size_toArray
theorem tv_str (ws : List (List Nat)) : tv ws = (ws.map tx).map V.str := by
  rw [List.map_map]
  rfl
theorem tv_snoc (ws : List (List Nat)) (cs : List Nat) : tv ws ++ [V.str (tx cs)] = tv (ws ++ [cs]) := by
  show _ = List.map _ (ws ++ [cs])
  rw [List.map_append]
  rfl
theorem cut_lo (cs : List Nat) (i : Nat) : cutS (tx cs) none (some (i : Int)) = tx (cs.take i) := by
  have := cut_to cs i
  unfold cutS
  rw [tx_len]
  exact congrArg tx this
theorem cut_hi (cs : List Nat) (i : Nat) : cutS (tx cs) (some ((i : Int) + 1)) none = tx (cs.drop (i + 1)) := by
  have := cut_from cs (i + 1)
  unfold cutS
  rw [tx_len]
  exact congrArg tx this
theorem tx_app (a b : List Nat) : tx a ++ tx b = tx (a ++ b) := by
  show (⟨a.toArray ++ b.toArray⟩ : Str) = ⟨(a ++ b).toArray⟩
  congr 1
  apply Array.ext'
  simp
theorem tx_set {cs : List Nat} {i : Nat} (h : i < cs.length) (y : Nat) : tx (cs.take i) ++ sg y ++ tx (cs.drop (i + 1)) = tx (cs.set i y) := by
  show tx (cs.take i) ++ tx [y] ++ tx (cs.drop (i + 1)) = _
  rw [tx_app, tx_app, List.set_eq_take_append_cons_drop, if_pos h, List.append_assoc]
  rfl
theorem str_eq {a b : Str} : decide (V.str a = V.str b) = decide (a = b) := by
  by_cases h : a = b
  · rw [h]
    simp
  · rw [decide_eq_false h, decide_eq_false fun e => h (V.str.inj e)]
theorem sg_eq {a b : Nat} : decide (V.str (sg a) = V.str (sg b)) = decide (a = b) := by
  rw [str_eq]
  by_cases h : a = b
  · rw [h]
    simp
  · rw [decide_eq_false h, decide_eq_false fun e => h ?_]
    have := congrArg (fun y : Str => y.cps.getD 0 0) e
    exact this
/-! ### one hand -/
def gSee (G : Grd) (cs : List Nat) (i : Nat) : List Nat := (if G.wh = "right" then [] else cs.take i) ++ (if G.wh = "left" then [] else cs.drop (i + 1))
def gOk (cs : List Nat) (i : Nat) : Option Grd → Bool
  | none => true
  | some G => if G.how = "all" then (gSee G cs i).all (fun c => decide (c ∈ G.sm)) else (gSee G cs i).any (fun c => decide (c ∈ G.sm))
theorem gOk_all {G : Grd} {cs : List Nat} {i : Nat} (h : G.how = "all") : gOk cs i (some G) = (gSee G cs i).all (fun c => decide (c ∈ G.sm)) := if_pos h
theorem gOk_any {G : Grd} {cs : List Nat} {i : Nat} (h : ¬ G.how = "all") : gOk cs i (some G) = (gSee G cs i).any (fun c => decide (c ∈ G.sm)) := if_neg h
def aOne (x y : Nat) (g : Option Grd) (cs : List Nat) (n : Nat) : List (List Nat) := ((List.range n).filter fun i => decide (cs[i]? = some x) && gOk cs i g).map fun i => cs.set i y
theorem filt_succ {β : Type} (p : Nat → Bool) (f : Nat → β) (n : Nat) : ((List.range (n + 1)).filter p).map f = ((List.range n).filter p).map f ++ if p n = true then [f n] else [] := by
  rw [List.range_succ, List.filter_append, List.map_append]
  congr 1
  by_cases h : p n = true
  · rw [if_pos h, List.filter_cons_of_pos (by exact h)]
    rfl
  · rw [if_neg h, List.filter_cons_of_neg (by exact h)]
    rfl
theorem aOne_succ (x y : Nat) (g : Option Grd) (cs : List Nat) (n : Nat) : aOne x y g cs (n + 1) = aOne x y g cs n ++ if (decide (cs[n]? = some x) && gOk cs n g) = true then [cs.set n y] else [] := filt_succ _ _ n
theorem filter_len {α β : Type} (p : α → Bool) (f : α → β) (l : List α) : ((l.filter p).map f).length ≤ l.length := by
  rw [List.length_map]
  exact List.length_filter_le _ _
/-! ### what is made: a place and a word -/
def mOne (x y : Nat) (g : Option Grd) (cs : List Nat) (n : Nat) : List (Nat × List Nat) := ((List.range n).filter fun i => decide (cs[i]? = some x) && gOk cs i g).map fun i => (i, cs.set i y)
theorem mOne_succ (x y : Nat) (g : Option Grd) (cs : List Nat) (n : Nat) : mOne x y g cs (n + 1) = mOne x y g cs n ++ if (decide (cs[n]? = some x) && gOk cs n g) = true then [(n, cs.set n y)] else [] := filt_succ _ _ n
theorem mOne_snd (x y : Nat) (g : Option Grd) (cs : List Nat) (n : Nat) : (mOne x y g cs n).map Prod.snd = aOne x y g cs n := by
  unfold mOne aOne
  rw [List.map_map]
  rfl
def MdAt (H : Hp) (as : List Addr) (ms : List (Nat × List Nat)) : Prop := as.length = ms.length ∧ ∀ (i : Nat) (a : Addr) (m : Nat × List Nat), as[i]? = some a → ms[i]? = some m → H a = some (.tup [.int (m.1 : Int), .str (tx m.2)])
theorem MdAt.mono {H H' : Hp} {as : List Addr} {ms : List (Nat × List Nat)} (t : Tups H H') (h : MdAt H as ms) : MdAt H' as ms := ⟨h.1, fun i a m x y => t _ _ (h.2 i a m x y)⟩
theorem MdAt.nil {H : Hp} : MdAt H [] [] := ⟨rfl, fun i a m x => by simp at x⟩
theorem MdAt.snoc {H : Hp} {as : List Addr} {ms : List (Nat × List Nat)} {a : Addr} {m : Nat × List Nat} (h : MdAt H as ms) (ha : H a = some (.tup [.int (m.1 : Int), .str (tx m.2)])) : MdAt H (as ++ [a]) (ms ++ [m]) := by
  refine ⟨by rw [List.length_append, List.length_append, h.1]; rfl, fun i b r x y => ?_⟩
  by_cases hi : i < as.length
  · rw [List.getElem?_append_left hi] at x
    rw [List.getElem?_append_left (by rw [← h.1]; exact hi)] at y
    exact h.2 i b r x y
  · rw [List.getElem?_append_right (by omega)] at x
    rw [List.getElem?_append_right (by rw [← h.1]; omega), ← h.1] at y
    have e : i - as.length = 0 := by
      cases q : i - as.length with
      | zero => rfl
      | succ k =>
        rw [q] at x
        simp at x
    rw [e] at x y
    cases x
    cases y
    exact ha
/-- one more pair, at p, behind the list at l -/
theorem md_more {H H2 : Hp} {l p : Addr} {as : List Addr} {ms : List (Nat × List Nat)} {i : Nat} {ds : List Nat} {v : V} (s : Same H H2) (nl : H l = none) (e : H2 l = some (.lst (vr as))) (m : MdAt H2 as ms) (np : H2 p = none) (hv : v = .str (tx ds)) :
    Same H (upd (upd H2 p (.tup [.int (i : Int), v])) l (.lst (vr as ++ [.ref p]))) ∧ ∃ bs, (upd (upd H2 p (.tup [.int (i : Int), v])) l (.lst (vr as ++ [.ref p]))) l = some (.lst (vr bs)) ∧ MdAt (upd (upd H2 p (.tup [.int (i : Int), v])) l (.lst (vr as ++ [.ref p]))) bs (ms ++ [(i, ds)]) := by
  subst hv
  have e2 : (upd H2 p (.tup [.int (i : Int), .str (tx ds)])) l = some (.lst (vr as)) := (same_new np) _ _ e
  have h2 : (upd H2 p (.tup [.int (i : Int), .str (tx ds)])) p = some (.tup [.int (((i, ds) : Nat × List Nat).1 : Int), .str (tx ((i, ds) : Nat × List Nat).2)]) := upd_same
  refine ⟨fun b o hb => ?_, as ++ [p], ?_, ((m.mono (Tups.new np)).snoc h2).mono (Tups.lst e2)⟩
  · rw [upd_ne (ne_of_none hb nl)]
    exact (same_new np) _ _ (s b o hb)
  · rw [upd_same, vr_snoc]
section
variable {P : Program} {w : World} {K : PySem.W.Frag} {mg : Str → Option Value} {base : Heap}
def sp_holds : Sp := fun vs H Q _ => ∃ (v : V) (g : Option Grd) (cs : List Nat) (i : Nat), vs = [v, .str (tx cs), .int (i : Int)] ∧ GrdAt H v g ∧ i < cs.length ∧ cs.length ≤ 100 ∧ ∀ H', Same H H' → Q (.bl (gOk cs i g)) H'
theorem ok_holds (T : TX K mg) : FnOk P w K mg base CX0 1 T.a_holds T.fd_holds ["guard", "word", "at"] sp_holds := by
  refine T.F_holds.ok sc_holds (fun vs H Q E h => ?_) (fun cdv A outer s H vs Q E hr h => ?_)
  · obtain ⟨v, g, cs, i, rfl, _⟩ := h
    rfl
  · obtain ⟨v, g, cs, i, rfl, hg, hi, hl, q⟩ := h
    refine ⟨_, (pss_cons (ps_if (pt_cmpR op_isN (pv 0) pe_non (nomark _))
        (pss_one (ps_ret pe_bl))
        pss_nil)
      (pss_cons (ps_asg (pv 0) (pg_tupK (n := 3) K rfl (by rfl) (pgs_cons (pg_name (i := 3) sc_holds.nd rfl (Or.inl rfl)) (pgs_cons (pg_name (i := 4) sc_holds.nd rfl (Or.inl rfl)) (pgs_cons (pg_name (i := 5) sc_holds.nd rfl (Or.inr rfl)) pgs_nil)))))
      (pss_cons (ps_set (i := 6) sc_holds.nd rfl (Or.inl rfl) (pe_pure (pe_ifExp (pt_cmpR op_ne (pv 4) pe_str (nomark _)) (pe_slice sl_str (pv 1) po_none (po_some (pv 2))) pe_str)))
      (pss_cons (ps_set (i := 7) sc_holds.nd rfl (Or.inl rfl) (pe_pure (pe_ifExp (pt_cmpR op_ne (pv 4) pe_str (nomark _)) (pe_slice sl_str (pv 1) (po_some (pe_op op_add (pv 2) pe_int)) po_none) pe_str)))
      (pss_cons (ps_setLc (i := 8) (own := [("letter", 9)]) (g := gName 9) (tt := tYes) (by rfl) sc_holds.nd rfl rfl (sw_true rfl rfl rfl (by decide +kernel)) (pi_str (pe_op op_add_str (pv 6) (pv 7))) (blkOk_by (own := [("letter", 9)]) (N := N_holds) (by kernel_rfl)) (fun _ _ _ _ _ => (pg_name (i := 9) sc_holds.nd rfl (Or.inl rfl))) (fun _ _ _ _ _ => pts_nil) (fun _ _ _ _ _ => (pe_cmpR op_in_sign (pv 9) (pv 5) (by rfl))))
      (pss_one (ps_ret (pe_pure (pe_ifExp (pt_cmpR op_eq (pv 3) pe_str (nomark _)) (pe_callB (cr_allK K rfl rfl) (by rfl) T.m_all (by decide +kernel) (pa_cons (pv 8) pa_nil)) (pe_callB (cr_anyK K rfl rfl) (by rfl) T.m_any (by decide +kernel) (pa_cons (pv 8) pa_nil))))))))))), ?_⟩
    have wl : (tx cs).length ≤ sizeLine := by
      rw [tx_len]
      exact Nat.le_trans hl (by decide)
    cases g with
    | none =>
      obtain rfl : v = .non := hg
      exact ⟨.non, rfl, rfl, _, rfl, iteT (q _ fun _ _ e => e)⟩
    | some G =>
      obtain ⟨gp, rfl, e⟩ := hg
      refine ⟨.ref gp, rfl, rfl, _, rfl, iteF ?_⟩
      refine ⟨.ref gp, rfl, gp, [.str G.how, .str G.wh, .str ⟨G.sm.toArray⟩], rfl, .inl (.inl e), rfl, .str G.how, _, rfl, .str G.wh, _, rfl, .str ⟨G.sm.toArray⟩, [], rfl, rfl, ?_⟩
      -- left, right
      refine ⟨.str (tx (if G.wh = "right" then [] else cs.take i)), ⟨.str G.wh, rfl, rfl, _, rfl, ?_⟩, ?_⟩
      · rw [str_eq]
        by_cases hw : G.wh = "right"
        · rw [decide_eq_true hw, if_pos hw]
          exact ⟨rfl, rfl⟩
        · rw [decide_eq_false hw, if_neg hw]
          refine ⟨.str (tx cs), rfl, .int (i : Int), rfl, (i : Int), rfl, tx cs, rfl, wl, ?_, rfl⟩
          rw [cut_lo]
      refine ⟨.str (tx (if G.wh = "left" then [] else cs.drop (i + 1))), ⟨.str G.wh, rfl, rfl, _, rfl, ?_⟩, ?_⟩
      · rw [str_eq]
        by_cases hw : G.wh = "left"
        · rw [decide_eq_true hw, if_pos hw]
          exact ⟨rfl, rfl⟩
        · rw [decide_eq_false hw, if_neg hw]
          refine ⟨.str (tx cs), rfl, .int (i : Int), rfl, (i : Int), 1, rfl, rfl, (i : Int) + 1, rfl, tx cs, rfl, wl, ?_, rfl⟩
          rw [cut_hi]
      have see : (gSee G cs i).length ≤ 200 := by
        unfold gSee
        rw [List.length_append]
        have a1 : (if G.wh = "right" then [] else cs.take i).length ≤ 100 := by
          split
          · exact Nat.zero_le _
          · exact Nat.le_trans (List.length_take_le _ _) (by omega)
        have a2 : (if G.wh = "left" then [] else cs.drop (i + 1)).length ≤ 100 := by
          split
          · exact Nat.zero_le _
          · rw [List.length_drop]
            omega
        omega
      refine ⟨.str _, rfl, .str _, rfl, _, _, rfl, rfl, ?_, tx (gSee G cs i), ?_, fun D nD => ?_⟩
      · rw [tx_len, tx_len, ← List.length_append]
        exact Nat.le_trans see (by decide)
      · show V.str (tx _ ++ tx _) = _
        rw [tx_app]
        rfl
      refine lc_it walk_str (fun k H' => Same H H' ∧ H' D = some (.lst (((gSee G cs i).take k).map fun c => V.bl (decide (c ∈ G.sm))))) ⟨same_new nD, upd_same⟩ (fun _ _ _ _ => trivial) (fun k v H1 H1' hk hW hY => ?_) (fun H1 hW => ?_)
      · obtain ⟨s1, e1⟩ := hW
        obtain ⟨rfl, c, hc, rfl⟩ := hY
        have hc' : (gSee G cs i)[k]? = some c := by
          rw [← hc]
          simp
        refine ⟨rfl, lcyes ?_⟩
        refine ⟨.str (sg c), rfl, .str ⟨G.sm.toArray⟩, rfl, c, _, rfl, rfl, _, e1, ?_, ?_, ?_⟩
        · rw [List.length_map]
          have h9 : ((gSee G cs i).take k).length ≤ (gSee G cs i).length := by
            rw [List.length_take]
            exact Nat.min_le_right _ _
          exact small1000 (by omega)
        · intro b o e
          rw [upd_ne (ne_of_none e nD)]
          exact s1 b o e
        · rw [upd_same, List.take_add_one, hc', List.map_append]
          rfl
      · obtain ⟨s1, e1⟩ := hW
        have e1 : H1 D = some (.lst (((gSee G cs i).map fun c => decide (c ∈ G.sm)).map V.bl)) := by
          rw [e1, List.take_of_length_le (by rw [List.size_toArray]; exact Nat.le_refl _), List.map_map]
          rfl
        refine ⟨.bl (gOk cs i (some G)), ⟨.str G.how, rfl, rfl, _, rfl, ?_⟩, q _ s1⟩
        rw [str_eq]
        by_cases hh : G.how = "all"
        · rw [decide_eq_true hh]
          refine ⟨.ref D, rfl, D, _, rfl, .inl (.inl e1), ?_, rfl⟩
          rw [gOk_all hh, List.all_map]
          rfl
        · rw [decide_eq_false hh]
          refine ⟨.ref D, rfl, D, _, rfl, .inl (.inl e1), ?_, rfl⟩
          rw [gOk_any hh, List.any_map]
          rfl
/-! ### made_by_one -/
def sp_made_by_one : Sp := fun vs H Q _ => ∃ (p : Addr) (x y : Nat) (g : Option Grd) (cs : List Nat), vs = [.ref p, .str (tx cs)] ∧ RulAt H p (.one x y g) ∧ cs.length ≤ 100 ∧ ∀ H' l as, Same H H' → H l = none → H' l = some (.lst (vr as)) → MdAt H' as (mOne x y g cs cs.length) → Q (.ref l) H'
theorem ok_made_by_one (T : TX K mg) : FnOk P w K mg base CX0 2 T.a_made_by_one T.fd_made_by_one ["rule", "word"] sp_made_by_one := by
  have G_holds : FnOk P w K mg base CX0 1 T.a_holds T.fd_holds ["guard", "word", "at"] sp_holds := ok_holds T
  refine T.F_made_by_one.ok sc_made_by_one (fun vs H Q E h => ?_) (fun cdv A outer s H vs Q E hr h => ?_)
  · obtain ⟨p, x, y, g, cs, rfl, _⟩ := h
    rfl
  · obtain ⟨p, x, y, g, cs, rfl, ⟨v, hp, hg⟩, hl, q⟩ := h
    refine ⟨_, (pss_cons (ps_asg (pv 0) (pg_tupK (n := 4) K rfl (by rfl) (pgs_cons (pg_name (i := 2) sc_made_by_one.nd rfl (Or.inl rfl)) (pgs_cons (pg_name (i := 3) sc_made_by_one.nd rfl (Or.inl rfl)) (pgs_cons (pg_name (i := 4) sc_made_by_one.nd rfl (Or.inl rfl)) (pgs_cons (pg_name (i := 5) sc_made_by_one.nd rfl (Or.inl rfl)) pgs_nil))))))
      (pss_cons (ps_set (i := 6) sc_made_by_one.nd rfl (Or.inl rfl) (pe_lst pa_nil))
      (pss_cons (ps_for PassesOwn.never rfl (pi_enumS (by rfl) T.m_enumerate (pa_cons (pv 1) pa_nil)) (pg_tupK (n := 2) K rfl (by rfl) (pgs_cons (pg_name (i := 7) sc_made_by_one.nd rfl (Or.inl rfl)) (pgs_cons (pg_name (i := 8) sc_made_by_one.nd rfl (Or.inl rfl)) pgs_nil)))
        (pss_one (ps_if (PW.pt (pw_and (pt_cmpR op_eq (pv 8) (pv 3) (nomark _)) (pw_and1 (pt_val (pe_call G_holds (hr.mono (by decide)) (by rfl) T.g_holds T.F_holds.kp T.b_holds .nil pass0 (pa_cons (pv 5) (pa_cons (pv 1) (pa_cons (pv 7) pa_nil))))))))
            (pss_one (ps_expr (pe_bmK K rfl PySem.F.plainAttrs_list PySem.F.slot_list_append PySem.F.type_list_append mt_append (pv 6) (pa_cons (pe_tup (pa_cons (pv 7) (pa_cons (pe_op op_add_str (pe_op op_add_str (pe_slice sl_str (pv 1) po_none (po_some (pv 7))) (pv 4)) (pe_slice sl_str (pv 1) (po_some (pe_op op_add (pv 7) pe_int)) po_none)) pa_nil))) pa_nil))))
            pss_nil)))
      (pss_one (ps_ret (pv 6)))))), ?_⟩
    have wl : (tx cs).length ≤ sizeLine := by
      rw [tx_len]
      exact Nat.le_trans hl (by decide)
    refine ⟨.ref p, rfl, p, [.str "one", .str (sg x), .str (sg y), v], rfl, .inl (.inl hp), rfl, .str "one", _, rfl, .str (sg x), _, rfl, .str (sg y), _, rfl, v, [], rfl, rfl, ?_⟩
    refine ⟨by show 0 ≤ sizeLine; decide, fun l nl => ?_⟩
    refine ⟨.str (tx cs), rfl, tx cs, rfl, ?_⟩
    refine for_it walk_Itp (fun i σ H' => (Same H H' ∧ ∃ as, H' l = some (.lst (vr as)) ∧ MdAt H' as (mOne x y g cs i)) ∧ ∃ y7 y8, σ = [some (.ref p), some (.str (tx cs)), some (.str "one"), some (.str (sg x)), some (.str (sg y)), some v, some (.ref l), y7, y8]) ⟨⟨same_new nl, [], upd_same, MdAt.nil⟩, none, none, rfl⟩ (fun _ _ _ _ _ => trivial) (fun i u σ H1 H1' hi hW hY => ?_) (fun σ H1 hW => ?_)
    · obtain ⟨⟨s1, as, e1, m1⟩, y7, y8, rfl⟩ := hW
      obtain ⟨t, u1, u2, rfl, nt, rfl, h1, h2⟩ := hY
      cases h1
      obtain ⟨c, hc, rfl⟩ : ∃ c, cs[i]? = some c ∧ u2 = .str (sg c) := by
        unfold signAt at h2
        rw [show (tx cs).cps[i]? = cs[i]? by simp] at h2
        cases hc : cs[i]? with
        | none =>
          rw [hc] at h2
          cases h2
        | some c =>
          rw [hc] at h2
          cases h2
          exact ⟨c, rfl, rfl⟩
      have hi' : i < cs.length := (List.getElem?_eq_some_iff.mp hc).1
      have s2 : Same H (upd H1 t (.tup [.int (i : Nat), .str (sg c)])) := s1.trans (same_new nt)
      have e2 : (upd H1 t (.tup [.int (i : Nat), .str (sg c)])) l = some (.lst (vr as)) := (same_new nt) _ _ e1
      have et : (upd H1 t (.tup [.int (i : Nat), .str (sg c)])) t = some (.tup [.int (i : Nat), .str (sg c)]) := upd_same
      have m2 : MdAt (upd H1 t (.tup [.int (i : Nat), .str (sg c)])) as (mOne x y g cs i) := m1.mono (Tups.new nt)
      generalize upd H1 t (.tup [.int (i : Nat), .str (sg c)]) = H2 at s2 e2 et m2
      have hcx : decide (cs[i]? = some x) = decide (c = x) := by
        rw [hc]
        by_cases e : c = x
        · rw [e]
          simp
        · rw [decide_eq_false e, decide_eq_false fun h => e (Option.some.inj h)]
      refine ⟨t, [.int (i : Nat), .str (sg c)], rfl, .inl (.inl et), rfl, .int (i : Nat), _, rfl, .str (sg c), [], rfl, rfl, ?_⟩
      refine ⟨.str (sg c), rfl, .str (sg x), rfl, rfl, _, rfl, ?_⟩
      rw [sg_eq]
      by_cases ex : c = x
      · rw [decide_eq_true ex]
        refine ⟨v, rfl, .str (tx cs), rfl, .int (i : Nat), rfl, v, g, cs, i, rfl, hg.mono (Tups.same s2), hi', hl, fun H3 s3 => ⟨gOk cs i g, rfl, ite2 (fun e => ?_) (fun e => ?_)⟩⟩
        · have e3 := s3 _ _ e2
          have w1 : (tx (cs.take i)).length + (sg y).length ≤ sizeLine := by
            rw [tx_len]
            have := List.length_take_le i cs
            exact Nat.le_of_lt (small1000 (show (cs.take i).length + 1 ≤ 1000 by omega))
          have w2 : (tx (cs.take i) ++ sg y).length + (tx (cs.drop (i + 1))).length ≤ sizeLine := by
            rw [show sg y = tx [y] from rfl, tx_app, tx_len, tx_len, List.length_append, List.length_drop]
            have := List.length_take_le i cs
            exact Nat.le_of_lt (small1000 (show (cs.take i).length + 1 + (cs.length - (i + 1)) ≤ 1000 by omega))
          refine ⟨.ref l, rfl, .inl ⟨rfl, _, .inl (.inl e3)⟩, .int (i : Nat), rfl, .str (tx cs), rfl, .int (i : Nat), rfl, (i : Int), rfl, tx cs, rfl, wl, .str (sg y), rfl, tx (cs.take i), sg y, by rw [cut_lo], rfl, w1, .str (tx cs), rfl, .int (i : Nat), rfl, (i : Int), 1, rfl, rfl, (i : Int) + 1, rfl, tx cs, rfl, wl, tx (cs.take i) ++ sg y, tx (cs.drop (i + 1)), rfl, by rw [cut_hi], w2, by show 2 ≤ sizeLine; decide, fun p2 n2 => ?_⟩
          refine ⟨l, vr as, .ref p2, rfl, rfl, (same_new n2) _ _ e3, ?_, ?_, _, _, rfl⟩
          · rw [List.length_map, m2.1]
            have : (mOne x y g cs i).length ≤ i := by
              have := filter_len (fun i => decide (cs[i]? = some x) && gOk cs i g) (fun i => (i, cs.set i y)) (List.range i)
              rw [List.length_range] at this
              exact this
            exact small1000 (by omega)
          · rw [mOne_succ, hcx, decide_eq_true ex, Bool.true_and, if_pos e]
            exact md_more (s2.trans s3) nl e3 (m2.mono (Tups.same s3)) n2 (by rw [tx_set hi'])
        · refine ⟨⟨s2.trans s3, as, s3 _ _ e2, ?_⟩, _, _, rfl⟩
          rw [mOne_succ, hcx, decide_eq_true ex, Bool.true_and, if_neg e, List.append_nil]
          exact m2.mono (Tups.same s3)
      · rw [decide_eq_false ex]
        refine ⟨⟨s2, as, e2, ?_⟩, _, _, rfl⟩
        rw [mOne_succ, hcx, decide_eq_false ex, Bool.false_and, if_neg Bool.false_ne_true, List.append_nil]
        exact m2
    · obtain ⟨⟨s1, as, e1, m1⟩, y7, y8, rfl⟩ := hW
      have : (tx cs).cps.size = cs.length := List.size_toArray
      rw [this] at m1
      exact ⟨.ref l, rfl, q _ _ as s1 nl e1 m1⟩
end
end LH

namespace LH
open PySem PySem.Spec PyProof.Rows L2
theorem ixN_of {n j : Nat} (h : j < n) : ixN n (j : Int) = some j := by
  unfold ixN
  rw [if_pos (by omega), if_pos (by omega)]
  simp
/-! ### two neighbours -/
def prs (sh : Str) (n : Nat) : List (Nat × Nat) := (List.range (n - 1)).map (fun i => (i, i + 1)) ++ if sh = "ring" ∧ 1 < n then [(n - 1, 0)] else []
def PrsAt (H : Hp) (as : List Addr) (ps : List (Nat × Nat)) : Prop := as.length = ps.length ∧ ∀ (i : Nat) (a : Addr) (p : Nat × Nat), as[i]? = some a → ps[i]? = some p → H a = some (.tup [.int (p.1 : Int), .int (p.2 : Int)])
theorem PrsAt.mono {H H' : Hp} {as : List Addr} {ps : List (Nat × Nat)} (t : Tups H H') (h : PrsAt H as ps) : PrsAt H' as ps := ⟨h.1, fun i a p x y => t _ _ (h.2 i a p x y)⟩
theorem PrsAt.nil {H : Hp} : PrsAt H [] [] := ⟨rfl, fun i a p x => by simp at x⟩
theorem PrsAt.snoc {H : Hp} {as : List Addr} {ps : List (Nat × Nat)} {a : Addr} {p : Nat × Nat} (h : PrsAt H as ps) (ha : H a = some (.tup [.int (p.1 : Int), .int (p.2 : Int)])) : PrsAt H (as ++ [a]) (ps ++ [p]) := by
  refine ⟨by rw [List.length_append, List.length_append, h.1]; rfl, fun i b r x y => ?_⟩
  by_cases hi : i < as.length
  · rw [List.getElem?_append_left hi] at x
    rw [List.getElem?_append_left (by rw [← h.1]; exact hi)] at y
    exact h.2 i b r x y
  · rw [List.getElem?_append_right (by omega)] at x
    rw [List.getElem?_append_right (by rw [← h.1]; omega), ← h.1] at y
    have e : i - as.length = 0 := by
      cases q : i - as.length with
      | zero => rfl
      | succ k =>
        rw [q] at x
        simp at x
    rw [e] at x y
    cases x
    cases y
    exact ha
theorem prs_lt {sh : Str} {n : Nat} {p : Nat × Nat} (h : p ∈ prs sh n) : p.1 < n ∧ p.2 < n := by
  unfold prs at h
  rcases List.mem_append.mp h with h | h
  · obtain ⟨i, hi, rfl⟩ := List.mem_map.mp h
    have := List.mem_range.mp hi
    exact ⟨show i < n by omega, show i + 1 < n by omega⟩
  · split at h
    · rename_i c
      obtain rfl := List.mem_singleton.mp h
      exact ⟨show n - 1 < n by omega, show 0 < n by omega⟩
    · cases h
theorem prs_len (sh : Str) (n : Nat) : (prs sh n).length ≤ n := by
  unfold prs
  rw [List.length_append, List.length_map, List.length_range]
  split
  · show n - 1 + 1 ≤ n
    omega
  · show n - 1 + 0 ≤ n
    omega
def aTwo (x y u v : Nat) (cs : List Nat) (ps : List (Nat × Nat)) : List (List Nat) := (ps.filter fun p => decide (cs[p.1]? = some x) && decide (cs[p.2]? = some y)).map fun p => (cs.set p.1 u).set p.2 v
theorem aTwo_snoc (x y u v : Nat) (cs : List Nat) (ps : List (Nat × Nat)) (p : Nat × Nat) : aTwo x y u v cs (ps ++ [p]) = aTwo x y u v cs ps ++ if (decide (cs[p.1]? = some x) && decide (cs[p.2]? = some y)) = true then [(cs.set p.1 u).set p.2 v] else [] := by
  unfold aTwo
  rw [List.filter_append, List.map_append]
  congr 1
  by_cases h : (decide (cs[p.1]? = some x) && decide (cs[p.2]? = some y)) = true
  · rw [if_pos h, List.filter_cons_of_pos (by exact h)]
    rfl
  · rw [if_neg h, List.filter_cons_of_neg (by exact h)]
    rfl
def mTwo (x y u v : Nat) (cs : List Nat) (ps : List (Nat × Nat)) : List (Nat × List Nat) := (ps.filter fun p => decide (cs[p.1]? = some x) && decide (cs[p.2]? = some y)).map fun p => (p.1, (cs.set p.1 u).set p.2 v)
theorem mTwo_snoc (x y u v : Nat) (cs : List Nat) (ps : List (Nat × Nat)) (p : Nat × Nat) : mTwo x y u v cs (ps ++ [p]) = mTwo x y u v cs ps ++ if (decide (cs[p.1]? = some x) && decide (cs[p.2]? = some y)) = true then [(p.1, (cs.set p.1 u).set p.2 v)] else [] := by
  unfold mTwo
  rw [List.filter_append, List.map_append]
  congr 1
  by_cases h : (decide (cs[p.1]? = some x) && decide (cs[p.2]? = some y)) = true
  · rw [if_pos h, List.filter_cons_of_pos (by exact h)]
    rfl
  · rw [if_neg h, List.filter_cons_of_neg (by exact h)]
    rfl
theorem mTwo_snd (x y u v : Nat) (cs : List Nat) (ps : List (Nat × Nat)) : (mTwo x y u v cs ps).map Prod.snd = aTwo x y u v cs ps := by
  unfold mTwo aTwo
  rw [List.map_map]
  rfl
theorem at_sign {cs : List Nat} {i c x : Nat} (h : cs[i]? = some c) : decide (cs[i]? = some x) = decide (c = x) := by
  rw [h]
  by_cases e : c = x
  · rw [e]
    simp
  · rw [decide_eq_false e, decide_eq_false fun h => e (Option.some.inj h)]
theorem join_vs (cs : List Nat) : Txt.join ⟨#[]⟩ (cs.map sg) = tx cs := join_sg cs
theorem vs_map (cs : List Nat) : vs_ cs = (cs.map sg).map V.str := by
  rw [List.map_map]
  rfl
theorem vs_set (cs : List Nat) (i c : Nat) : (vs_ cs).set i (V.str (sg c)) = vs_ (cs.set i c) := by
  show _ = List.map _ (cs.set i c)
  rw [List.map_set]
/-! ### calls -/
def imOf (z : Str) (im : List Nat) (c : Nat) : Nat := im.getD (z.cps.toList.idxOf c) 0
def aCall (x y : Nat) (z : Str) (im cs : List Nat) (n : Nat) : List (List Nat) := ((List.range n).filter fun i => decide (cs[i]? = some x)).map fun i => (cs.map (imOf z im)).set i y
section
variable {P : Program} {w : World} {K : PySem.W.Frag} {mg : Str → Option Value} {base : Heap}
def sp_pairs_of : Sp := fun vs H Q _ => ∃ (sh : Str) (n : Nat), vs = [.str sh, .int (n : Int)] ∧ n ≤ 100 ∧ ∀ H' l as, Same H H' → H l = none → H' l = some (.lst (vr as)) → PrsAt H' as (prs sh n) → Q (.ref l) H'
theorem ok_pairs_of (T : TX K mg) : FnOk P w K mg base CX0 1 T.a_pairs_of T.fd_pairs_of ["shape", "number"] sp_pairs_of := by
  refine T.F_pairs_of.ok sc_pairs_of (fun vs H Q E h => ?_) (fun cdv A outer s H vs Q E hr h => ?_)
  · obtain ⟨sh, n, rfl, _⟩ := h
    rfl
  · obtain ⟨sh, n, rfl, hn, q⟩ := h
    refine ⟨_, (pss_cons (ps_setLc (i := 2) (own := [("at", 3)]) (g := gName 3) (tt := tYes) (by rfl) sc_pairs_of.nd rfl rfl (sw_true rfl rfl rfl (by decide +kernel)) (pi_range1 (by rfl) T.m_range (pa_cons (pe_op op_sub (pv 1) pe_int) pa_nil)) (blkOk_by (own := [("at", 3)]) (N := N_pairs_of) (by kernel_rfl)) (fun _ _ _ _ _ => (pg_name (i := 3) sc_pairs_of.nd rfl (Or.inl rfl))) (fun _ _ _ _ _ => pts_nil) (fun _ _ _ _ _ => (pe_tup (pa_cons (pv 3) (pa_cons (pe_op op_add (pv 3) pe_int) pa_nil)))))
      (C8.pss_cut (ps_if (PW.pt (pw_and (pt_cmpR op_eq (pv 0) pe_str (nomark _)) (pw_and1 (pt_cmpR op_gt (pv 1) pe_int (nomark _)))))
        (pss_one (ps_expr (pe_bmK K rfl PySem.F.plainAttrs_list PySem.F.slot_list_append PySem.F.type_list_append mt_append (pv 2) (pa_cons (pe_tup (pa_cons (pe_op op_sub (pv 1) pe_int) (pa_cons pe_int pa_nil))) pa_nil))))
        pss_nil)
      (pss_one (ps_ret (pv 2))))), ?_⟩
    refine ⟨.int (n : Int), rfl, (n : Int), 1, rfl, rfl, (n : Int) - 1, rfl, by omega, by omega, fun D nD => ?_⟩
    have en : ((n : Int) - 1).toNat = n - 1 := by omega
    refine lc_range (lo := 0) (n := ((n : Int) - 1).toNat) (fun i H' => ∃ as, Same H H' ∧ H' D = some (.lst (vr as)) ∧ PrsAt H' as ((List.range i).map fun i => (i, i + 1))) ⟨[], same_new nD, upd_same, PrsAt.nil⟩ (fun i H1 hi hW => ?_) (fun H1 hW => ?_)
    · obtain ⟨as, s1, e1, p1⟩ := hW
      refine ⟨rfl, lcyes ?_⟩
      refine ⟨.int (0 + (i : Int)), rfl, .int (0 + (i : Int)), rfl, 0 + (i : Int), 1, rfl, rfl, by show 2 ≤ sizeLine; decide, fun p2 n2 => ?_⟩
      have e2 : (upd H1 p2 (.tup [.int (0 + (i : Int)), .int (0 + (i : Int) + 1)])) D = some (.lst (vr as)) := (same_new n2) _ _ e1
      have h2 : (upd H1 p2 (.tup [.int (0 + (i : Int)), .int (0 + (i : Int) + 1)])) p2 = some (.tup [.int (((i, i + 1) : Nat × Nat).1 : Int), .int (((i, i + 1) : Nat × Nat).2 : Int)]) := by
        rw [upd_same, Int.zero_add]
        rfl
      refine ⟨vr as, e2, ?_, as ++ [p2], ?_, ?_, ?_⟩
      · rw [List.length_map, p1.1, List.length_map, List.length_range]
        exact small1000 (by omega)
      · intro b o e
        rw [upd_ne (ne_of_none e nD)]
        exact (same_new n2) _ _ (s1 b o e)
      · rw [upd_same, vr_snoc]
      · rw [List.range_succ, List.map_append]
        exact ((p1.mono (Tups.new n2)).snoc h2).mono (Tups.lst e2)
    · obtain ⟨as, s1, e1, p1⟩ := hW
      rw [en] at p1
      refine ⟨fun σ' H' => ∃ as, σ' = [some (.str sh), some (.int (n : Int)), some (.ref D), none] ∧ Same H H' ∧ H' D = some (.lst (vr as)) ∧ PrsAt H' as (prs sh n), ?_, fun σ' H' hM => ?_⟩
      · refine ⟨.str sh, rfl, rfl, _, rfl, ?_⟩
        rw [str_eq]
        by_cases hs : sh = "ring"
        · rw [decide_eq_true hs]
          refine ⟨.int (n : Int), rfl, (n : Int), 1, rfl, rfl, _, rfl, ite2 (fun e => ?_) (fun e => ?_)⟩
          · have e : 1 < n := by
              have := of_decide_eq_true e
              omega
            refine ⟨.ref D, rfl, .inl ⟨rfl, _, .inl (.inl e1)⟩, .int (n : Int), rfl, (n : Int), 1, rfl, rfl, by show 2 ≤ sizeLine; decide, fun p2 n2 => ?_⟩
            have e2 : (upd H1 p2 (.tup [.int ((n : Int) - 1), .int 0])) D = some (.lst (vr as)) := (same_new n2) _ _ e1
            have h2 : (upd H1 p2 (.tup [.int ((n : Int) - 1), .int 0])) p2 = some (.tup [.int (((n - 1, 0) : Nat × Nat).1 : Int), .int (((n - 1, 0) : Nat × Nat).2 : Int)]) := by
              rw [upd_same]
              show some (HO.tup [V.int ((n : Int) - 1), V.int 0]) = some (HO.tup [V.int ((n - 1 : Nat) : Int), V.int 0])
              rw [show ((n - 1 : Nat) : Int) = (n : Int) - 1 by omega]
            refine ⟨D, vr as, .ref p2, rfl, rfl, e2, ?_, as ++ [p2], rfl, ?_, ?_, ?_⟩
            · rw [List.length_map, p1.1, List.length_map, List.length_range]
              exact small1000 (by omega)
            · intro b o e
              rw [upd_ne (ne_of_none e nD)]
              exact (same_new n2) _ _ (s1 b o e)
            · rw [upd_same, vr_snoc]
            · unfold prs
              rw [if_pos ⟨hs, e⟩]
              exact ((p1.mono (Tups.new n2)).snoc h2).mono (Tups.lst e2)
          · refine ⟨as, rfl, s1, e1, ?_⟩
            unfold prs
            rw [if_neg, List.append_nil]
            · exact p1
            · rintro ⟨_, h⟩
              exact e (decide_eq_true (by omega))
        · rw [decide_eq_false hs]
          refine ⟨as, rfl, s1, e1, ?_⟩
          unfold prs
          rw [if_neg fun h => hs h.1, List.append_nil]
          exact p1
      · obtain ⟨as, rfl, s2, e2, p2⟩ := hM
        exact ⟨.ref D, rfl, q _ _ as s2 nD e2 p2⟩
/-! ### made_by_two -/
def sp_made_by_two : Sp := fun vs H Q _ => ∃ (sh : Str) (p : Addr) (x y u v : Nat) (cs : List Nat), vs = [.str sh, .ref p, .str (tx cs)] ∧ RulAt H p (.two x y u v) ∧ cs.length ≤ 100 ∧ ∀ H' l as, Same H H' → H l = none → H' l = some (.lst (vr as)) → MdAt H' as (mTwo x y u v cs (prs sh cs.length)) → Q (.ref l) H'
theorem ok_made_by_two (T : TX K mg) : FnOk P w K mg base CX0 2 T.a_made_by_two T.fd_made_by_two ["shape", "rule", "word"] sp_made_by_two := by
  have G_pairs_of : FnOk P w K mg base CX0 1 T.a_pairs_of T.fd_pairs_of ["shape", "number"] sp_pairs_of := ok_pairs_of T
  refine T.F_made_by_two.ok sc_made_by_two (fun vs H Q E h => ?_) (fun cdv A outer s H vs Q E hr h => ?_)
  · obtain ⟨sh, p, x, y, u, v, cs, rfl, _⟩ := h
    rfl
  · obtain ⟨sh, p, x, y, u, v, cs, rfl, hp, hl, q⟩ := h
    refine ⟨_, (pss_cons (ps_asg (pv 1) (pg_tupK (n := 5) K rfl (by rfl) (pgs_cons (pg_name (i := 3) sc_made_by_two.nd rfl (Or.inl rfl)) (pgs_cons (pg_name (i := 4) sc_made_by_two.nd rfl (Or.inl rfl)) (pgs_cons (pg_name (i := 5) sc_made_by_two.nd rfl (Or.inl rfl)) (pgs_cons (pg_name (i := 6) sc_made_by_two.nd rfl (Or.inl rfl)) (pgs_cons (pg_name (i := 7) sc_made_by_two.nd rfl (Or.inl rfl)) pgs_nil)))))))
      (pss_cons (ps_set (i := 8) sc_made_by_two.nd rfl (Or.inl rfl) (pe_lst pa_nil))
      (pss_cons (ps_for PassesOwn.never rfl (pi_listK K rfl (pe_call G_pairs_of (hr.mono (by decide)) (by rfl) T.g_pairs_of T.F_pairs_of.kp T.b_pairs_of .nil pass0 (pa_cons (pv 0) (pa_cons (pe_callB call_len_str (by rfl) T.m_len (by decide +kernel) (pa_cons (pv 2) pa_nil)) pa_nil)))) (pg_tupK (n := 2) K rfl (by rfl) (pgs_cons (pg_name (i := 9) sc_made_by_two.nd rfl (Or.inl rfl)) (pgs_cons (pg_name (i := 10) sc_made_by_two.nd rfl (Or.inl rfl)) pgs_nil)))
        (pss_one (ps_if (PW.pt (pw_and (pt_cmpR op_eq (pe_ix ix_str (pv 2) (pv 9) (fun _ _ => rfl)) (pv 4) (nomark _)) (pw_and1 (pt_cmpR op_eq (pe_ix ix_str (pv 2) (pv 10) (fun _ _ => rfl)) (pv 5) (nomark _)))))
            (pss_cons (ps_set (i := 11) sc_made_by_two.nd rfl (Or.inl rfl) (pe_callTy (call_listS rfl) (by rfl) T.m_list (by decide +kernel) (pa_cons (pv 2) pa_nil)))
              (pss_cons (ps_asg (pv 6) (pg_sub (pv 11) (pv 9) set_list))
              (pss_cons (ps_asg (pv 7) (pg_sub (pv 11) (pv 10) set_list))
              (pss_one (ps_expr (pe_bmK K rfl PySem.F.plainAttrs_list PySem.F.slot_list_append PySem.F.type_list_append mt_append (pv 8) (pa_cons (pe_tup (pa_cons (pv 9) (pa_cons (pe_m1 PySem.F.slot_str_join PySem.F.type_str_join (mt_joinK K rfl) pe_str (pv 11)) pa_nil))) pa_nil)))))))
            pss_nil)))
      (pss_one (ps_ret (pv 8)))))), ?_⟩
    have wl : (tx cs).length ≤ sizeLine := by
      rw [tx_len]
      exact Nat.le_trans hl (by decide)
    refine ⟨.ref p, rfl, p, [.str "two", .str (sg x), .str (sg y), .str (sg u), .str (sg v)], rfl, .inl (.inl hp), rfl, .str "two", _, rfl, .str (sg x), _, rfl, .str (sg y), _, rfl, .str (sg u), _, rfl, .str (sg v), [], rfl, rfl, ?_⟩
    refine ⟨by show 0 ≤ sizeLine; decide, fun l nl => ?_⟩
    refine ⟨.str sh, rfl, .str (tx cs), rfl, tx cs, rfl, wl, sh, cs.length, by rw [tx_len]; rfl, hl, fun H1 D as s1 nD eD pA => ?_⟩
    have sH : Same H H1 := (same_new nl).trans s1
    have eL : H1 l = some (.lst (vr [])) := s1 _ _ upd_same
    have lD : l ≠ D := ne_of_none (upd_same (H := H) (o := .lst [])) nD
    refine ⟨D, rfl, ⟨_, .inl (.inl eD)⟩, ?_⟩
    refine for_it (walk_list (K := K) (a := D) (xs := vr as)) (fun i σ H' => (Same H H' ∧ ∃ bs, H' l = some (.lst (vr bs)) ∧ MdAt H' bs (mTwo x y u v cs ((prs sh cs.length).take i))) ∧ H' D = some (.lst (vr as)) ∧ PrsAt H' as (prs sh cs.length) ∧ ∃ y9 y10 y11, σ = [some (.str sh), some (.ref p), some (.str (tx cs)), some (.str "two"), some (.str (sg x)), some (.str (sg y)), some (.str (sg u)), some (.str (sg v)), some (.ref l), y9, y10, y11]) ⟨⟨sH, [], eL, MdAt.nil⟩, eD, pA, none, none, none, rfl⟩ (fun i σ H' _ hP => .inl (.inl hP.2.1)) (fun i b σ H2 H2' hi hW hY => ?_) (fun σ H2 hW => ?_)
    · obtain ⟨⟨s2, bs, l2, m2⟩, e2, p2, y9, y10, y11, rfl⟩ := hW
      obtain ⟨rfl, hb⟩ := hY
      rw [List.length_map] at hi
      have hip : i < (prs sh cs.length).length := by
        rw [← p2.1]
        exact hi
      rw [List.getElem?_map, List.getElem?_eq_getElem hi] at hb
      cases hb
      obtain ⟨pp, hpp⟩ : ∃ pp, (prs sh cs.length)[i]? = some pp := ⟨_, List.getElem?_eq_getElem hip⟩
      have ht := p2.2 i _ pp (List.getElem?_eq_getElem hi) hpp
      obtain ⟨lt1, lt2⟩ := prs_lt (List.mem_of_getElem? hpp)
      have et : (prs sh cs.length).take (i + 1) = (prs sh cs.length).take i ++ [pp] := by
        rw [List.take_add_one, hpp]
        rfl
      have c1 : cs[pp.1]? = some cs[pp.1] := List.getElem?_eq_getElem lt1
      have c2 : cs[pp.2]? = some cs[pp.2] := List.getElem?_eq_getElem lt2
      refine ⟨as[i], [.int (pp.1 : Int), .int (pp.2 : Int)], rfl, .inl (.inl ht), rfl, .int (pp.1 : Int), _, rfl, .int (pp.2 : Int), [], rfl, rfl, ?_⟩
      refine ⟨.str (tx cs), rfl, .int (pp.1 : Int), rfl, tx cs, (pp.1 : Int), cs[pp.1], rfl, rfl, wl, atI_nat c1, .str (sg x), rfl, rfl, _, rfl, ?_⟩
      rw [sg_eq]
      by_cases ex : cs[pp.1] = x
      · rw [decide_eq_true ex]
        refine ⟨.str (tx cs), rfl, .int (pp.2 : Int), rfl, tx cs, (pp.2 : Int), cs[pp.2], rfl, rfl, wl, atI_nat c2, .str (sg y), rfl, rfl, _, rfl, ?_⟩
        rw [sg_eq]
        by_cases ey : cs[pp.2] = y
        · rw [decide_eq_true ey]
          refine ⟨.str (tx cs), rfl, tx cs, rfl, wl, fun d nd => ?_⟩
          have dl : d ≠ l := (ne_of_none l2 nd).symm
          have dD : d ≠ D := (ne_of_none e2 nd).symm
          have sz : ∀ (ds : List Nat) (k : Nat), ds.length = cs.length → k < cs.length → ixN (vs_ ds).length (k : Int) = some k := fun ds k h1 h2 => by
            rw [List.length_map, h1]
            exact ixN_of h2
          refine ⟨.str (sg u), rfl, .ref d, rfl, .int (pp.1 : Int), rfl, d, vs_ cs, (pp.1 : Int), pp.1, rfl, rfl, upd_same, sz cs _ rfl lt1, ?_⟩
          refine ⟨.str (sg v), rfl, .ref d, rfl, .int (pp.2 : Int), rfl, d, (vs_ cs).set pp.1 (.str (sg u)), (pp.2 : Int), pp.2, rfl, rfl, upd_same, by rw [vs_set]; exact sz _ _ (List.length_set ..) lt2, ?_⟩
          rw [vs_set, vs_set]
          have hd : (upd (upd (upd H2' d (.lst (sgns (tx cs)))) d (.lst (vs_ (cs.set pp.1 u)))) d (.lst (vs_ ((cs.set pp.1 u).set pp.2 v)))) d = some (.lst (vs_ ((cs.set pp.1 u).set pp.2 v))) := upd_same
          have hs : Same H2' (upd (upd (upd H2' d (.lst (sgns (tx cs)))) d (.lst (vs_ (cs.set pp.1 u)))) d (.lst (vs_ ((cs.set pp.1 u).set pp.2 v)))) := fun b o e => by
            have := ne_of_none e nd
            rw [upd_ne this, upd_ne this, upd_ne this]
            exact e
          generalize upd (upd (upd H2' d (.lst (sgns (tx cs)))) d (.lst (vs_ (cs.set pp.1 u)))) d (.lst (vs_ ((cs.set pp.1 u).set pp.2 v))) = H3 at hd hs
          refine ⟨.ref l, rfl, .inl ⟨rfl, _, .inl (.inl (hs _ _ l2))⟩, .int (pp.1 : Int), rfl, ⟨_, rfl⟩, .ref d, rfl, ⟨#[]⟩, d, ((cs.set pp.1 u).set pp.2 v).map sg, rfl, rfl, .inl (.inl (.inl (by rw [hd, vs_map]))), ?_, ?_⟩
          · rw [List.length_map, sum_sg]
            show _ + _ * 0 ≤ 16777216
            rw [List.length_set, List.length_set]
            omega
          rw [join_vs]
          refine ⟨by show 2 ≤ sizeLine; decide, fun p3 n3 => ?_⟩
          have l3 := (same_new (o := .tup [.int (pp.1 : Int), .str (tx ((cs.set pp.1 u).set pp.2 v))]) n3) _ _ (hs _ _ l2)
          refine ⟨l, vr bs, .ref p3, rfl, rfl, l3, ?_, ?_, ?_, ?_, _, _, _, rfl⟩
          · rw [List.length_map, m2.1]
            have := filter_len (fun p : Nat × Nat => decide (cs[p.1]? = some x) && decide (cs[p.2]? = some y)) (fun p => (p.1, (cs.set p.1 u).set p.2 v)) ((prs sh cs.length).take i)
            have h2 := List.length_take_le i (prs sh cs.length)
            have h3 := prs_len sh cs.length
            exact small1000 (Nat.le_trans this (by omega))
          · rw [et, mTwo_snoc, at_sign c1, at_sign c2, decide_eq_true ex, decide_eq_true ey]
            exact md_more (s2.trans hs) nl (hs _ _ l2) (m2.mono (Tups.same hs)) n3 rfl
          · rw [upd_ne lD.symm]
            exact (same_new n3) _ _ (hs _ _ e2)
          · exact ((p2.mono (Tups.same hs)).mono (Tups.new n3)).mono (Tups.lst l3)
        · rw [decide_eq_false ey]
          refine ⟨⟨s2, bs, l2, ?_⟩, e2, p2, _, _, _, rfl⟩
          rw [et, mTwo_snoc, at_sign c1, at_sign c2, decide_eq_true ex, decide_eq_false ey]
          simp only [Bool.and_false, Bool.false_eq_true, if_false, List.append_nil]
          exact m2
      · rw [decide_eq_false ex]
        refine ⟨⟨s2, bs, l2, ?_⟩, e2, p2, _, _, _, rfl⟩
        rw [et, mTwo_snoc, at_sign c1, at_sign c2, decide_eq_false ex]
        simp only [Bool.false_and, Bool.false_eq_true, if_false, List.append_nil]
        exact m2
    · obtain ⟨⟨s2, bs, l2, m2⟩, e2, p2, y9, y10, y11, rfl⟩ := hW
      rw [List.length_map, p2.1, List.take_of_length_le (Nat.le_refl _)] at m2
      exact ⟨.ref l, rfl, q _ _ bs s2 nl l2 m2⟩
end
end LH

namespace LH
open PySem PySem.Spec PyProof.Rows L2
theorem idx_lt {z : Str} {c : Nat} (h : c ∈ z.cps.toList) : z.cps.toList.idxOf c < z.length := by
  have := List.idxOf_lt_length_iff.mpr h
  rw [Array.length_toList] at this
  exact this
theorem take_len {α : Type} (i : Nat) (cs : List α) : (cs.take i).length ≤ cs.length := by
  rw [List.length_take]
  exact Nat.min_le_right _ _
theorem aCall_succ (x y : Nat) (z : Str) (im cs : List Nat) (n : Nat) : aCall x y z im cs (n + 1) = aCall x y z im cs n ++ if decide (cs[n]? = some x) = true then [(cs.map (imOf z im)).set n y] else [] := filt_succ _ _ n
def mCall (x y : Nat) (z : Str) (im cs : List Nat) (n : Nat) : List (Nat × List Nat) := ((List.range n).filter fun i => decide (cs[i]? = some x)).map fun i => (i, (cs.map (imOf z im)).set i y)
theorem mCall_succ (x y : Nat) (z : Str) (im cs : List Nat) (n : Nat) : mCall x y z im cs (n + 1) = mCall x y z im cs n ++ if decide (cs[n]? = some x) = true then [(n, (cs.map (imOf z im)).set n y)] else [] := filt_succ _ _ n
theorem mCall_snd (x y : Nat) (z : Str) (im cs : List Nat) (n : Nat) : (mCall x y z im cs n).map Prod.snd = aCall x y z im cs n := by
  unfold mCall aCall
  rw [List.map_map]
  rfl
theorem sign_of {cs : List Nat} {i : Nat} {u : V} (h : signAt (tx cs) i = some u) : ∃ c, cs[i]? = some c ∧ u = .str (sg c) := by
  unfold signAt at h
  rw [show (tx cs).cps[i]? = cs[i]? by simp] at h
  cases hc : cs[i]? with
  | none =>
    rw [hc] at h
    cases h
  | some c =>
    rw [hc] at h
    cases h
    exact ⟨c, rfl, rfl⟩
/-! ### what comes by a rule -/
def aAll (z sh : Str) (cs : List Nat) : Rul → List (List Nat)
  | .one x y g => aOne x y g cs cs.length
  | .two x y u v => aTwo x y u v cs (prs sh cs.length)
  | .call x y im => aCall x y z im cs cs.length
theorem aAll_len (z sh : Str) (cs : List Nat) (R : Rul) : (aAll z sh cs R).length ≤ cs.length := by
  cases R with
  | one x y g =>
    have := filter_len (fun i => decide (cs[i]? = some x) && gOk cs i g) (fun i => cs.set i y) (List.range cs.length)
    rw [List.length_range] at this
    exact this
  | two x y u v => exact Nat.le_trans (filter_len _ _ _) (prs_len sh cs.length)
  | call x y im =>
    have := filter_len (fun i => decide (cs[i]? = some x)) (fun i => (cs.map (imOf z im)).set i y) (List.range cs.length)
    rw [List.length_range] at this
    exact this
/-- the places and words that a rule makes -/
def mAll (z sh : Str) (cs : List Nat) : Rul → List (Nat × List Nat)
  | .one x y g => mOne x y g cs cs.length
  | .two x y u v => mTwo x y u v cs (prs sh cs.length)
  | .call x y im => mCall x y z im cs cs.length
theorem mAll_snd (z sh : Str) (cs : List Nat) (R : Rul) : (mAll z sh cs R).map Prod.snd = aAll z sh cs R := by
  cases R with
  | one x y g => exact mOne_snd x y g cs cs.length
  | two x y u v => exact mTwo_snd x y u v cs (prs sh cs.length)
  | call x y im => exact mCall_snd x y z im cs cs.length
/-- the words zs are those that come, rising, each once -/
def Comes (ws : List (List Nat)) (zs : List Str) : Prop := zs.Perm (tAll (ws.map tx)) ∧ sortedS zs = true
theorem Comes.one {ws : List (List Nat)} {a b : List Str} (h : Comes ws a) (k : Comes ws b) : a = b := sorted_one h.2 k.2 (h.1.trans k.1.symm)
theorem Comes.len {ws : List (List Nat)} {zs : List Str} (h : Comes ws zs) : zs.length ≤ ws.length := by
  have := tAll_len (ws.map tx)
  rw [List.length_map] at this
  rw [h.1.length_eq]
  exact this
section
variable {P : Program} {w : World} {K : PySem.W.Frag} {mg : Str → Option Value} {base : Heap}
def sp_made_by_call : Sp := fun vs H Q _ => ∃ (z : Str) (p : Addr) (x y : Nat) (im cs : List Nat), vs = [.str z, .ref p, .str (tx cs)] ∧ RulAt H p (.call x y im) ∧ cs.length ≤ 100 ∧ im.length = z.length ∧ z.length ≤ 100 ∧ (∀ c ∈ cs, c ∈ z.cps.toList) ∧ ∀ H' l as, Same H H' → H l = none → H' l = some (.lst (vr as)) → MdAt H' as (mCall x y z im cs cs.length) → Q (.ref l) H'
theorem ok_made_by_call (T : TX K mg) : FnOk P w K mg base CX0 1 T.a_made_by_call T.fd_made_by_call ["letters", "rule", "word"] sp_made_by_call := by
  refine T.F_made_by_call.ok sc_made_by_call (fun vs H Q E h => ?_) (fun cdv A outer s H vs Q E hr h => ?_)
  · obtain ⟨z, p, x, y, im, cs, rfl, _⟩ := h
    rfl
  · obtain ⟨z, p, x, y, im, cs, rfl, hp, hl, him, hz, hc, q⟩ := h
    refine ⟨_, (pss_cons (ps_asg (pv 1) (pg_tupK (n := 4) K rfl (by rfl) (pgs_cons (pg_name (i := 3) sc_made_by_call.nd rfl (Or.inl rfl)) (pgs_cons (pg_name (i := 4) sc_made_by_call.nd rfl (Or.inr rfl)) (pgs_cons (pg_name (i := 5) sc_made_by_call.nd rfl (Or.inr rfl)) (pgs_cons (pg_name (i := 6) sc_made_by_call.nd rfl (Or.inr rfl)) pgs_nil))))))
      (pss_cons (ps_set (i := 7) sc_made_by_call.nd rfl (Or.inr rfl) (pe_m1 PySem.F.slot_str_join PySem.F.type_str_join (mt_joinK K rfl) pe_str (pe_lc (own := [("letter", 8)]) (g := gName 8) (tt := tYes) (by rfl) sc_made_by_call.nd (pi_str (pv 2)) (blkOk_by (own := [("letter", 8)]) (N := N_made_by_call) (by kernel_rfl)) (fun _ _ _ _ _ => (pg_name (i := 8) sc_made_by_call.nd rfl (Or.inl rfl))) (fun _ _ _ _ _ => pts_nil) (fun _ _ _ _ _ => (pe_ix ix_str (pv 6) (pe_m1 PySem.F.slot_str_index PySem.F.type_str_index mt_sindex (pv 0) (pv 8)) (fun _ _ => rfl))))))
      (pss_one (ps_ret (pe_lc (own := [("at", 9), ("letter", 8)]) (by rfl) sc_made_by_call.nd (pi_enumS (by rfl) T.m_enumerate (pa_cons (pv 2) pa_nil)) (blkOk_by (own := [("at", 9), ("letter", 8)]) (N := N_made_by_call) (by kernel_rfl)) (fun _ _ _ _ _ => (pg_tupK (n := 2) K rfl (by rfl) (pgs_cons (pg_name (i := 9) sc_made_by_call.nd rfl (Or.inl rfl)) (pgs_cons (pg_name (i := 8) sc_made_by_call.nd rfl (Or.inl rfl)) pgs_nil)))) (fun _ _ _ _ _ => (pts_one (pt_cmpR op_eq (pv 8) (pv 4) (nomark _)))) (fun _ _ _ _ _ => (pe_tup (pa_cons (pv 9) (pa_cons (pe_op op_add_str (pe_op op_add_str (pe_slice sl_str (pv 7) po_none (po_some (pv 9))) (pv 5)) (pe_slice sl_str (pv 7) (po_some (pe_op op_add (pv 9) pe_int)) po_none)) pa_nil))))))))), ?_⟩
    have il : (tx im).length ≤ sizeLine := by
      rw [tx_len, him]
      exact Nat.le_trans hz (by decide)
    refine ⟨.ref p, rfl, p, [.str "call", .str (sg x), .str (sg y), .str (tx im)], rfl, .inl (.inl hp), rfl, .str "call", _, rfl, .str (sg x), _, rfl, .str (sg y), _, rfl, .str (tx im), [], rfl, rfl, ?_⟩
    refine ⟨⟨_, rfl⟩, .str (tx cs), rfl, tx cs, rfl, fun D nD => ?_⟩
    refine lc_it walk_str (fun i H' => Same H H' ∧ H' D = some (.lst (vs_ ((cs.take i).map (imOf z im))))) ⟨same_new nD, upd_same⟩ (fun _ _ _ _ => trivial) (fun i v H1 H1' hi hW hY => ?_) (fun H1 hW => ?_)
    · obtain ⟨s1, e1⟩ := hW
      obtain ⟨rfl, c, hcc, rfl⟩ := hY
      have hcs : cs[i]? = some c := by
        rw [← hcc]
        simp
      have hcz := hc c (List.mem_of_getElem? hcs)
      obtain ⟨rest, eo⟩ := occ_sign hcz
      have hix : z.cps.toList.idxOf c < im.length := by
        rw [him]
        exact idx_lt hcz
      have em : im[z.cps.toList.idxOf c]? = some (imOf z im c) := by
        unfold imOf
        rw [List.getD_eq_getElem?_getD, List.getElem?_eq_getElem hix]
        rfl
      refine ⟨rfl, lcyes ?_⟩
      refine ⟨.str (tx im), rfl, .str z, rfl, ⟨_, rfl⟩, .str (sg c), rfl, z, sg c, _, rest, rfl, rfl, eo, tx im, _, imOf z im c, rfl, rfl, il, atI_nat em, _, e1, ?_, ?_, ?_⟩
      · rw [List.length_map, List.length_map]
        have := take_len i cs
        exact small1000 (by omega)
      · intro b o e
        rw [upd_ne (ne_of_none e nD)]
        exact s1 b o e
      · rw [upd_same, vs_snoc, List.take_add_one, hcs, List.map_append]
        rfl
    · obtain ⟨s1, e1⟩ := hW
      rw [List.take_of_length_le (by rw [List.size_toArray]; exact Nat.le_refl _)] at e1
      refine ⟨⟨#[]⟩, D, (cs.map (imOf z im)).map sg, rfl, rfl, .inl (.inl (.inl (by rw [e1, vs_map]))), ?_, ?_⟩
      · rw [List.length_map, sum_sg]
        show _ + _ * 0 ≤ 16777216
        rw [List.length_map]
        omega
      rw [join_vs]
      have tl : (cs.map (imOf z im)).length = cs.length := List.length_map _
      obtain ⟨ts, hts⟩ : ∃ ts, ts = cs.map (imOf z im) := ⟨_, rfl⟩
      rw [← hts] at tl
      rw [← hts]
      have wl : (tx ts).length ≤ sizeLine := by
        rw [tx_len, tl]
        exact Nat.le_trans hl (by decide)
      refine ⟨.str (tx cs), rfl, tx cs, rfl, fun l nl => ?_⟩
      have fl : H l = none := Same.free s1 nl
      refine lc_it walk_Itp (fun i H' => Same H H' ∧ ∃ as, H' l = some (.lst (vr as)) ∧ MdAt H' as (mCall x y z im cs i)) ⟨s1.trans (same_new nl), [], upd_same, MdAt.nil⟩ (fun _ _ _ _ => trivial) (fun i v H2 H2' hi hW hY => ?_) (fun H2 hW => ?_)
      · obtain ⟨s2, as, e2, m2⟩ := hW
        obtain ⟨t, u1, u2, rfl, nt, rfl, h1, h2⟩ := hY
        cases h1
        obtain ⟨c, hcs, rfl⟩ := sign_of h2
        have hi' : i < cs.length := (List.getElem?_eq_some_iff.mp hcs).1
        have s3 : Same H (upd H2 t (.tup [.int (i : Nat), .str (sg c)])) := s2.trans (same_new nt)
        have e3 : (upd H2 t (.tup [.int (i : Nat), .str (sg c)])) l = some (.lst (vr as)) := (same_new nt) _ _ e2
        have et : (upd H2 t (.tup [.int (i : Nat), .str (sg c)])) t = some (.tup [.int (i : Nat), .str (sg c)]) := upd_same
        have m3 : MdAt (upd H2 t (.tup [.int (i : Nat), .str (sg c)])) as (mCall x y z im cs i) := m2.mono (Tups.new nt)
        generalize upd H2 t (.tup [.int (i : Nat), .str (sg c)]) = H3 at s3 e3 et m3
        refine ⟨t, [.int (i : Nat), .str (sg c)], rfl, .inl (.inl et), rfl, .int (i : Nat), _, rfl, .str (sg c), [], rfl, rfl, rfl, ?_⟩
        refine ⟨.str (sg c), rfl, .str (sg x), rfl, rfl, _, rfl, ?_⟩
        rw [sg_eq]
        by_cases ex : c = x
        · rw [decide_eq_true ex]
          have hit : i < ts.length := by omega
          have w1 : (tx (ts.take i)).length + (sg y).length ≤ sizeLine := by
            rw [tx_len]
            have := List.length_take_le i ts
            exact Nat.le_of_lt (small1000 (show (ts.take i).length + 1 ≤ 1000 by omega))
          have w2 : (tx (ts.take i) ++ sg y).length + (tx (ts.drop (i + 1))).length ≤ sizeLine := by
            rw [show sg y = tx [y] from rfl, tx_app, tx_len, tx_len, List.length_append, List.length_drop]
            have := List.length_take_le i ts
            exact Nat.le_of_lt (small1000 (show (ts.take i).length + 1 + (ts.length - (i + 1)) ≤ 1000 by omega))
          refine ⟨.int (i : Nat), rfl, .str (tx ts), rfl, .int (i : Nat), rfl, (i : Int), rfl, tx ts, rfl, wl, .str (sg y), rfl, tx (ts.take i), sg y, by rw [cut_lo], rfl, w1, .str (tx ts), rfl, .int (i : Nat), rfl, (i : Int), 1, rfl, rfl, (i : Int) + 1, rfl, tx ts, rfl, wl, tx (ts.take i) ++ sg y, tx (ts.drop (i + 1)), rfl, by rw [cut_hi], w2, by show 2 ≤ sizeLine; decide, fun p2 n2 => ?_⟩
          refine ⟨vr as, (same_new n2) _ _ e3, ?_, ?_⟩
          · rw [List.length_map, m3.1]
            have : (mCall x y z im cs i).length ≤ i := by
              have := filter_len (fun i => decide (cs[i]? = some x)) (fun i => (i, (cs.map (imOf z im)).set i y)) (List.range i)
              rw [List.length_range] at this
              exact this
            exact small1000 (by omega)
          · rw [mCall_succ, at_sign hcs, decide_eq_true ex, if_pos rfl]
            exact md_more s3 fl e3 m3 n2 (by rw [tx_set hit, hts])
        · rw [decide_eq_false ex]
          refine ⟨s3, as, e3, ?_⟩
          rw [mCall_succ, at_sign hcs, decide_eq_false ex, if_neg Bool.false_ne_true, List.append_nil]
          exact m3
      · obtain ⟨s2, as, e2, m2⟩ := hW
        rw [show (tx cs).cps.size = cs.length from List.size_toArray] at m2
        exact q _ _ as s2 fl e2 m2
/-! ### made_at -/
def sp_made_at : Sp := fun vs H Q _ => ∃ (z sh : Str) (p : Addr) (R : Rul) (cs : List Nat), vs = [.str z, .str sh, .ref p, .str (tx cs)] ∧ RulAt H p R ∧ R.Ok z sh ∧ z.length ≤ 100 ∧ cs.length ≤ 100 ∧ (∀ c ∈ cs, c ∈ z.cps.toList) ∧ ∀ H' l as, Same H H' → H l = none → H' l = some (.lst (vr as)) → MdAt H' as (mAll z sh cs R) → Q (.ref l) H'
theorem ok_made_at (T : TX K mg) : FnOk P w K mg base CX0 3 T.a_made_at T.fd_made_at ["letters", "shape", "rule", "word"] sp_made_at := by
  have G_made_by_one : FnOk P w K mg base CX0 2 T.a_made_by_one T.fd_made_by_one ["rule", "word"] sp_made_by_one := ok_made_by_one T
  have G_made_by_two : FnOk P w K mg base CX0 2 T.a_made_by_two T.fd_made_by_two ["shape", "rule", "word"] sp_made_by_two := ok_made_by_two T
  have G_made_by_call : FnOk P w K mg base CX0 1 T.a_made_by_call T.fd_made_by_call ["letters", "rule", "word"] sp_made_by_call := ok_made_by_call T
  refine T.F_made_at.ok sc_made_at (fun vs H Q E h => ?_) (fun cdv A outer s H vs Q E hr h => ?_)
  · obtain ⟨z, sh, p, R, cs, rfl, _⟩ := h
    rfl
  · obtain ⟨z, sh, p, R, cs, rfl, hp, ho, hz, hl, hc, q⟩ := h
    refine ⟨_, (pss_cons (ps_if (pt_cmpR op_eq (pe_ix (ix_tupK K rfl) (pv 2) pe_int (fun _ _ => rfl)) pe_str (nomark _))
        (pss_one (ps_ret (pe_call G_made_by_one (hr.mono (by decide)) (by rfl) T.g_made_by_one T.F_made_by_one.kp T.b_made_by_one .nil pass0 (pa_cons (pv 2) (pa_cons (pv 3) pa_nil)))))
        pss_nil)
      (pss_cons (ps_if (pt_cmpR op_eq (pe_ix (ix_tupK K rfl) (pv 2) pe_int (fun _ _ => rfl)) pe_str (nomark _))
        (pss_one (ps_ret (pe_call G_made_by_two (hr.mono (by decide)) (by rfl) T.g_made_by_two T.F_made_by_two.kp T.b_made_by_two .nil pass0 (pa_cons (pv 1) (pa_cons (pv 2) (pa_cons (pv 3) pa_nil))))))
        pss_nil)
      (pss_one (ps_ret (pe_call G_made_by_call (hr.mono (by decide)) (by rfl) T.g_made_by_call T.F_made_by_call.kp T.b_made_by_call .nil pass0 (pa_cons (pv 0) (pa_cons (pv 2) (pa_cons (pv 3) pa_nil)))))))), ?_⟩
    cases R with
    | one x y g =>
      obtain ⟨v, hv, hg⟩ := hp
      refine ⟨.ref p, rfl, p, _, 0, .str "one", rfl, rfl, .inl (.inl hv), atI_nat (j := 0) rfl, rfl, _, rfl, iteT ?_⟩
      exact ⟨.ref p, rfl, .str (tx cs), rfl, p, x, y, g, cs, rfl, ⟨v, hv, hg⟩, hl, q⟩
    | two x y u v =>
      refine ⟨.ref p, rfl, p, _, 0, .str "two", rfl, rfl, .inl (.inl hp), atI_nat (j := 0) rfl, rfl, _, rfl, iteF ?_⟩
      refine ⟨.ref p, rfl, p, _, 0, .str "two", rfl, rfl, .inl (.inl hp), atI_nat (j := 0) rfl, rfl, _, rfl, iteT ?_⟩
      exact ⟨.str sh, rfl, .ref p, rfl, .str (tx cs), rfl, sh, p, x, y, u, v, cs, rfl, hp, hl, q⟩
    | call x y im =>
      refine ⟨.ref p, rfl, p, _, 0, .str "call", rfl, rfl, .inl (.inl hp), atI_nat (j := 0) rfl, rfl, _, rfl, iteF ?_⟩
      refine ⟨.ref p, rfl, p, _, 0, .str "call", rfl, rfl, .inl (.inl hp), atI_nat (j := 0) rfl, rfl, _, rfl, iteF ?_⟩
      exact ⟨.str z, rfl, .ref p, rfl, .str (tx cs), rfl, z, p, x, y, im, cs, rfl, hp, hl, ho.2.2.1, hz, hc, q⟩
/-! ### after -/
theorem Tups.setT {P : Program} {w : World} {p : Addr} {H : Hp} {xs : List Str} {o : HO} (h : H p = some (SetT P w p xs)) : Tups H (upd H p o) := fun c ys e => by
  by_cases hc : c = p
  · rw [hc, h] at e
    cases e
  · rw [upd_ne hc]
    exact e
def sp_after : Sp := fun vs H Q _ => ∃ (z sh : Str) (p : Addr) (R : Rul) (cs : List Nat), vs = [.str z, .str sh, .ref p, .str (tx cs)] ∧ RulAt H p R ∧ R.Ok z sh ∧ z.length ≤ 100 ∧ cs.length ≤ 100 ∧ (∀ c ∈ cs, c ∈ z.cps.toList) ∧ ∀ H' l zs, Same H H' → H l = none → H' l = some (.lst (zs.map V.str)) → Comes (aAll z sh cs R) zs → Q (.ref l) H'
theorem ok_after (T : TX K mg) : FnOk P w K mg base CX0 4 T.a_after T.fd_after ["letters", "shape", "rule", "word"] sp_after := by
  have G_made_at : FnOk P w K mg base CX0 3 T.a_made_at T.fd_made_at ["letters", "shape", "rule", "word"] sp_made_at := ok_made_at T
  refine T.F_after.ok sc_after (fun vs H Q E h => ?_) (fun cdv A outer s H vs Q E hr h => ?_)
  · obtain ⟨z, sh, p, R, cs, rfl, _⟩ := h
    rfl
  · obtain ⟨z, sh, p, R, cs, rfl, hp, ho, hz, hl, hc, q⟩ := h
    refine ⟨_, (pss_one (ps_ret (pe_callB (cr_sortTK P w rfl rfl rfl) (by rfl) T.m_sorted (by decide +kernel) (pa_cons (pe_scTK P w (by rfl) (by rfl) (own := [("place", 4), ("other", 5)]) (tt := tYes) (by rfl) sc_after.nd (pi_listK K rfl (pe_call G_made_at (hr.mono (by decide)) (by rfl) T.g_made_at T.F_made_at.kp T.b_made_at .nil pass0 (pa_cons (pv 0) (pa_cons (pv 1) (pa_cons (pv 2) (pa_cons (pv 3) pa_nil)))))) (blkOk_by (own := [("place", 4), ("other", 5)]) (N := N_after) (by kernel_rfl)) (fun _ _ _ _ _ => (pg_tupK (n := 2) K rfl (by rfl) (pgs_cons (pg_name (i := 4) sc_after.nd rfl (Or.inl rfl)) (pgs_cons (pg_name (i := 5) sc_after.nd rfl (Or.inl rfl)) pgs_nil)))) (fun _ _ _ _ _ => pts_nil) (fun _ _ _ _ _ => (pv 5))) pa_nil)))), ?_⟩
    refine ⟨.str z, rfl, .str sh, rfl, .ref p, rfl, .str (tx cs), rfl, z, sh, p, R, cs, rfl, hp, ho, hz, hl, hc, fun H1 l as s1 nl e1 m1 => ⟨l, rfl, ⟨_, .inl (.inl e1)⟩, fun D nD => ?_⟩⟩
    have al := aAll_len z sh cs R
    have fD : H D = none := Same.free s1 nD
    have lD : l ≠ D := ne_of_none e1 nD
    have ml : (mAll z sh cs R).length = (aAll z sh cs R).length := by rw [← mAll_snd, List.length_map]
    refine sc_it (walk_list (K := K) (a := l) (xs := vr as)) (fun i H' => Same H H' ∧ H' l = some (.lst (vr as)) ∧ MdAt H' as (mAll z sh cs R) ∧ H' D = some (SetT P w D (tAll (((aAll z sh cs R).take i).map tx)))) ⟨s1.trans (same_new nD), (same_new nD) _ _ e1, m1.mono (Tups.new nD), upd_same⟩ (fun i H' _ hP => .inl (.inl hP.2.1)) (fun i b H2 H2' hi hW hY => ?_) (fun H2 hW => ?_)
    · obtain ⟨s2, e2, m2, d2⟩ := hW
      obtain ⟨rfl, hb⟩ := hY
      rw [List.length_map] at hi
      have him : i < (mAll z sh cs R).length := by
        rw [← m2.1]
        exact hi
      rw [List.getElem?_map, List.getElem?_eq_getElem hi] at hb
      cases hb
      obtain ⟨mm, hmm⟩ : ∃ mm, (mAll z sh cs R)[i]? = some mm := ⟨_, List.getElem?_eq_getElem him⟩
      have ht := m2.2 i _ mm (List.getElem?_eq_getElem hi) hmm
      have ha : (aAll z sh cs R)[i]? = some mm.2 := by
        rw [← mAll_snd, List.getElem?_map, hmm]
        rfl
      refine ⟨as[i], [.int (mm.1 : Int), .str (tx mm.2)], rfl, .inl (.inl ht), rfl, .int (mm.1 : Int), _, rfl, .str (tx mm.2), [], rfl, rfl, rfl, ?_⟩
      refine ⟨.str (tx mm.2), rfl, tx mm.2, _, rfl, d2, ?_, ?_, ?_, m2.mono (Tups.setT d2), ?_⟩
      · have t1 := tAll_len (((aAll z sh cs R).take i).map tx)
        rw [List.length_map] at t1
        have t2 := List.length_take_le i (aAll z sh cs R)
        unfold scanBound
        omega
      · intro c o hb
        rw [upd_ne (ne_of_none hb fD)]
        exact s2 c o hb
      · rw [upd_ne lD]
        exact e2
      · rw [upd_same, List.take_add_one, ha, List.map_append]
        exact congrArg (fun x => some (SetT P w D x)) (tAll_snoc _ _).symm
    · obtain ⟨s2, e2, m2, d2⟩ := hW
      rw [List.length_map, m2.1, ml, List.take_of_length_le (Nat.le_refl _)] at d2
      have tl := tAll_len ((aAll z sh cs R).map tx)
      rw [List.length_map] at tl
      refine ⟨D, _, rfl, d2, by omega, fun zs p3 pm srt n3 => ?_⟩
      exact q _ p3 zs (s2.trans (same_new n3)) (Same.free s2 n3) upd_same ⟨pm, srt⟩
end
end LH

namespace LH
open PySem PySem.Spec PyProof.Rows L2
section
variable {X : Cx} (K : PySem.W.Frag) (hK : X.K = K)
include hK
theorem pi_zipK {e e2 : Expr} {ta : TA} {p pos tpos : Pos} {elts : List Expr} {kk : Nat} (hg : Gl X "zip") (hm : X.mg "zip" = none) (ha : PA X [e, e2] ta)
    (hs : starEach [e, e2] X.env = (false, eval e X.env) :: starEach [e2] X.env := by rfl) (hpl : (backTo pos (starEach [e2] X.env)).any (·.1) = false := by rfl) :
    PI X (.Tuple elts kk tpos) (.Call (.Name "zip" p) [e, e2] [] pos) (iZip K ta) := by
  subst hK
  exact pi_zip hg hm ha hs hpl
end
theorem at_str {ws : List Str} {i : Nat} {x : V} (h : (ws.map V.str)[i]? = some x) : ∃ word, word ∈ ws ∧ x = .str word := by
  rw [List.getElem?_map] at h
  cases e : ws[i]? with
  | none =>
    rw [e] at h
    cases h
  | some word =>
    rw [e] at h
    cases h
    exact ⟨word, List.mem_of_getElem? e, rfl⟩
section
variable {P : Program} {w : World} {K : PySem.W.Frag} {mg : Str → Option Value} {base : Heap}
/-! ### _law_same -/
theorem ok_none {f : Addr} {fd : FuncData} {ps : List Str} : FnOk P w K mg base CX0 0 f fd ps (fun _ _ _ _ => False) := ⟨fun _ _ _ _ h => h.elim, fun _ _ _ _ _ _ _ _ _ _ _ _ _ h => h.elim⟩
def sp_same_str : Sp := fun vs H Q _ => ∃ x : Str, vs = [.str x, .str x] ∧ Q (.bl true) H
theorem ok_same_str (T : TX K mg) : FnOk P w K mg base CX0 1 T.a_law_same T.fd_law_same ["got", "due"] sp_same_str := by
  have G_law_same : FnOk P w K mg base CX0 0 T.a_law_same T.fd_law_same ["got", "due"] (fun _ _ _ _ => False) := ok_none
  refine T.F_law_same.ok sc_law_same (fun vs H Q E h => ?_) (fun cdv A outer s H vs Q E hr h => ?_)
  · obtain ⟨x, rfl, _⟩ := h
    rfl
  · obtain ⟨x, rfl, q⟩ := h
    refine ⟨_, (pss_cons (ps_if (pt_cmpR op_isN (pv 1) pe_non (nomark _))
        (pss_one (ps_ret (pe_cmpR op_isN (pv 0) pe_non (nomark _))))
        pss_nil)
      (pss_cons (ps_if (pt_val (pe_callB (call_isiK K rfl) (by rfl) T.m_isinstance (by decide +kernel) (pa_cons (pv 1) (pa_cons (pe_bltn (v := .ty "bool") (by rfl) T.m_bool (by decide +kernel) rfl) pa_nil))))
        (pss_one (ps_ret (pe_and (pe_callB (call_isiK K rfl) (by rfl) T.m_isinstance (by decide +kernel) (pa_cons (pv 0) (pa_cons (pe_bltn (v := .ty "bool") (by rfl) T.m_bool (by decide +kernel) rfl) pa_nil))) (pe_one (pe_cmpR op_eq (pv 0) (pv 1) (nomark _))))))
        pss_nil)
      (pss_cons (ps_if (pt_val (pe_callB (call_isiK K rfl) (by rfl) T.m_isinstance (by decide +kernel) (pa_cons (pv 1) (pa_cons (pe_bltn (v := .ty "int") (by rfl) T.m_int (by decide +kernel) rfl) pa_nil))))
        (pss_one (ps_ret (pe_and (pe_callB (call_isiK K rfl) (by rfl) T.m_isinstance (by decide +kernel) (pa_cons (pv 0) (pa_cons (pe_bltn (v := .ty "int") (by rfl) T.m_int (by decide +kernel) rfl) pa_nil))) (pe_and (pe_not (pe_callB (call_isiK K rfl) (by rfl) T.m_isinstance (by decide +kernel) (pa_cons (pv 0) (pa_cons (pe_bltn (v := .ty "bool") (by rfl) T.m_bool (by decide +kernel) rfl) pa_nil)))) (pe_one (pe_cmpR op_eq (pv 0) (pv 1) (nomark _)))))))
        pss_nil)
      (pss_cons (ps_if (pt_val (pe_callB (call_isiK K rfl) (by rfl) T.m_isinstance (by decide +kernel) (pa_cons (pv 1) (pa_cons (pe_bltn (v := .ty "str") (by rfl) T.m_str (by decide +kernel) rfl) pa_nil))))
        (pss_one (ps_ret (pe_and (pe_callB (call_isiK K rfl) (by rfl) T.m_isinstance (by decide +kernel) (pa_cons (pv 0) (pa_cons (pe_bltn (v := .ty "str") (by rfl) T.m_str (by decide +kernel) rfl) pa_nil))) (pe_one (pe_cmpR op_eq (pv 0) (pv 1) (nomark _))))))
        pss_nil)
      (pss_cons (ps_if (PW.pt (pw_and (pt_val (pe_callB (call_isiK K rfl) (by rfl) T.m_isinstance (by decide +kernel) (pa_cons (pv 1) (pa_cons (pe_bltn (v := .ty "tuple") (by rfl) T.m_tuple (by decide +kernel) rfl) pa_nil)))) (pw_and1 (pt_not (pt_val (pe_callB (call_isiK K rfl) (by rfl) T.m_isinstance (by decide +kernel) (pa_cons (pv 0) (pa_cons (pe_bltn (v := .ty "tuple") (by rfl) T.m_tuple (by decide +kernel) rfl) pa_nil))))))))
        (pss_one (ps_ret pe_bl))
        pss_nil)
      (pss_cons (ps_if (PW.pt (pw_and (pt_val (pe_callB (call_isiK K rfl) (by rfl) T.m_isinstance (by decide +kernel) (pa_cons (pv 1) (pa_cons (pe_bltn (v := .ty "list") (by rfl) T.m_list (by decide +kernel) rfl) pa_nil)))) (pw_and1 (pt_not (pt_val (pe_callB (call_isiK K rfl) (by rfl) T.m_isinstance (by decide +kernel) (pa_cons (pv 0) (pa_cons (pe_bltn (v := .ty "list") (by rfl) T.m_list (by decide +kernel) rfl) pa_nil))))))))
        (pss_one (ps_ret pe_bl))
        pss_nil)
      (pss_cons (ps_if (pt_cmpR op_ne (pe_callB (call_lenK K rfl) (by rfl) T.m_len (by decide +kernel) (pa_cons (pv 0) pa_nil)) (pe_callB (call_lenK K rfl) (by rfl) T.m_len (by decide +kernel) (pa_cons (pv 1) pa_nil)) (nomark _))
        (pss_one (ps_ret pe_bl))
        pss_nil)
      (pss_cons (ps_for PassesOwn.never rfl (pi_zipK K rfl (by rfl) T.m_zip (pa_cons (pv 0) (pa_cons (pv 1) pa_nil))) (pg_tupK (n := 2) K rfl (by rfl) (pgs_cons (pg_name (i := 2) sc_law_same.nd rfl (Or.inl rfl)) (pgs_cons (pg_name (i := 3) sc_law_same.nd rfl (Or.inl rfl)) pgs_nil)))
        (pss_one (ps_if (pt_not (pt_val (pe_call G_law_same (hr.mono (by decide)) (by rfl) T.g_law_same T.F_law_same.kp T.b_law_same .nil pass0 (pa_cons (pv 2) (pa_cons (pv 3) pa_nil)))))
            (pss_one (ps_ret pe_bl))
            pss_nil)))
      (pss_one (ps_ret pe_bl)))))))))), ?_⟩
    refine ⟨.str x, rfl, rfl, _, rfl, iteF ?_⟩
    refine ⟨.str x, rfl, .str x, .ty "bool", .type "str", .type "bool", false, rfl, .ty _, .base (.str x), kit_ty (by decide +kernel), false, rfl, iteF ?_⟩
    refine ⟨.str x, rfl, .str x, .ty "int", .type "str", .type "int", false, rfl, .ty _, .base (.str x), kit_ty (by decide +kernel), false, rfl, iteF ?_⟩
    refine ⟨.str x, rfl, .str x, .ty "str", .type "str", .type "str", true, rfl, .ty _, .base (.str x), kit_ty (by decide +kernel), true, rfl, iteT ?_⟩
    refine ⟨.str x, rfl, .str x, .ty "str", .type "str", .type "str", true, rfl, .ty _, .base (.str x), kit_ty (by decide +kernel), true, rfl, iteT ?_⟩
    refine ⟨.str x, rfl, .str x, rfl, rfl, ?_⟩
    rw [decide_eq_true rfl]
    exact q
def sp_law_same : Sp := fun vs H Q _ => ∃ (a b : Addr) (xs : List Str), vs = [.ref a, .ref b] ∧ H a = some (.lst (xs.map V.str)) ∧ H b = some (.lst (xs.map V.str)) ∧ ∀ H', Same H H' → Q (.bl true) H'
theorem ok_law_same (T : TX K mg) : FnOk P w K mg base CX0 2 T.a_law_same T.fd_law_same ["got", "due"] sp_law_same := by
  have G_law_same : FnOk P w K mg base CX0 1 T.a_law_same T.fd_law_same ["got", "due"] sp_same_str := ok_same_str T
  refine T.F_law_same.ok sc_law_same (fun vs H Q E h => ?_) (fun cdv A outer s H vs Q E hr h => ?_)
  · obtain ⟨a, b, xs, rfl, _⟩ := h
    rfl
  · obtain ⟨a, b, xs, rfl, ha, hb, q⟩ := h
    refine ⟨_, (pss_cons (ps_if (pt_cmpR op_isN (pv 1) pe_non (nomark _))
        (pss_one (ps_ret (pe_cmpR op_isN (pv 0) pe_non (nomark _))))
        pss_nil)
      (pss_cons (ps_if (pt_val (pe_callB (call_isiK K rfl) (by rfl) T.m_isinstance (by decide +kernel) (pa_cons (pv 1) (pa_cons (pe_bltn (v := .ty "bool") (by rfl) T.m_bool (by decide +kernel) rfl) pa_nil))))
        (pss_one (ps_ret (pe_and (pe_callB (call_isiK K rfl) (by rfl) T.m_isinstance (by decide +kernel) (pa_cons (pv 0) (pa_cons (pe_bltn (v := .ty "bool") (by rfl) T.m_bool (by decide +kernel) rfl) pa_nil))) (pe_one (pe_cmpR op_eq (pv 0) (pv 1) (nomark _))))))
        pss_nil)
      (pss_cons (ps_if (pt_val (pe_callB (call_isiK K rfl) (by rfl) T.m_isinstance (by decide +kernel) (pa_cons (pv 1) (pa_cons (pe_bltn (v := .ty "int") (by rfl) T.m_int (by decide +kernel) rfl) pa_nil))))
        (pss_one (ps_ret (pe_and (pe_callB (call_isiK K rfl) (by rfl) T.m_isinstance (by decide +kernel) (pa_cons (pv 0) (pa_cons (pe_bltn (v := .ty "int") (by rfl) T.m_int (by decide +kernel) rfl) pa_nil))) (pe_and (pe_not (pe_callB (call_isiK K rfl) (by rfl) T.m_isinstance (by decide +kernel) (pa_cons (pv 0) (pa_cons (pe_bltn (v := .ty "bool") (by rfl) T.m_bool (by decide +kernel) rfl) pa_nil)))) (pe_one (pe_cmpR op_eq (pv 0) (pv 1) (nomark _)))))))
        pss_nil)
      (pss_cons (ps_if (pt_val (pe_callB (call_isiK K rfl) (by rfl) T.m_isinstance (by decide +kernel) (pa_cons (pv 1) (pa_cons (pe_bltn (v := .ty "str") (by rfl) T.m_str (by decide +kernel) rfl) pa_nil))))
        (pss_one (ps_ret (pe_and (pe_callB (call_isiK K rfl) (by rfl) T.m_isinstance (by decide +kernel) (pa_cons (pv 0) (pa_cons (pe_bltn (v := .ty "str") (by rfl) T.m_str (by decide +kernel) rfl) pa_nil))) (pe_one (pe_cmpR op_eq (pv 0) (pv 1) (nomark _))))))
        pss_nil)
      (pss_cons (ps_if (PW.pt (pw_and (pt_val (pe_callB (call_isiK K rfl) (by rfl) T.m_isinstance (by decide +kernel) (pa_cons (pv 1) (pa_cons (pe_bltn (v := .ty "tuple") (by rfl) T.m_tuple (by decide +kernel) rfl) pa_nil)))) (pw_and1 (pt_not (pt_val (pe_callB (call_isiK K rfl) (by rfl) T.m_isinstance (by decide +kernel) (pa_cons (pv 0) (pa_cons (pe_bltn (v := .ty "tuple") (by rfl) T.m_tuple (by decide +kernel) rfl) pa_nil))))))))
        (pss_one (ps_ret pe_bl))
        pss_nil)
      (pss_cons (ps_if (PW.pt (pw_and (pt_val (pe_callB (call_isiK K rfl) (by rfl) T.m_isinstance (by decide +kernel) (pa_cons (pv 1) (pa_cons (pe_bltn (v := .ty "list") (by rfl) T.m_list (by decide +kernel) rfl) pa_nil)))) (pw_and1 (pt_not (pt_val (pe_callB (call_isiK K rfl) (by rfl) T.m_isinstance (by decide +kernel) (pa_cons (pv 0) (pa_cons (pe_bltn (v := .ty "list") (by rfl) T.m_list (by decide +kernel) rfl) pa_nil))))))))
        (pss_one (ps_ret pe_bl))
        pss_nil)
      (pss_cons (ps_if (pt_cmpR op_ne (pe_callB (call_lenK K rfl) (by rfl) T.m_len (by decide +kernel) (pa_cons (pv 0) pa_nil)) (pe_callB (call_lenK K rfl) (by rfl) T.m_len (by decide +kernel) (pa_cons (pv 1) pa_nil)) (nomark _))
        (pss_one (ps_ret pe_bl))
        pss_nil)
      (pss_cons (ps_for PassesOwn.never rfl (pi_zipK K rfl (by rfl) T.m_zip (pa_cons (pv 0) (pa_cons (pv 1) pa_nil))) (pg_tupK (n := 2) K rfl (by rfl) (pgs_cons (pg_name (i := 2) sc_law_same.nd rfl (Or.inl rfl)) (pgs_cons (pg_name (i := 3) sc_law_same.nd rfl (Or.inl rfl)) pgs_nil)))
        (pss_one (ps_if (pt_not (pt_val (pe_call G_law_same (hr.mono (by decide)) (by rfl) T.g_law_same T.F_law_same.kp T.b_law_same .nil pass0 (pa_cons (pv 2) (pa_cons (pv 3) pa_nil)))))
            (pss_one (ps_ret pe_bl))
            pss_nil)))
      (pss_one (ps_ret pe_bl)))))))))), ?_⟩
    refine ⟨.ref b, rfl, rfl, _, rfl, iteF ?_⟩
    refine ⟨.ref b, rfl, .ref b, .ty "bool", .type "list", .type "bool", false, rfl, .ty _, .base (.lst hb), kit_ty (by decide +kernel), false, rfl, iteF ?_⟩
    refine ⟨.ref b, rfl, .ref b, .ty "int", .type "list", .type "int", false, rfl, .ty _, .base (.lst hb), kit_ty (by decide +kernel), false, rfl, iteF ?_⟩
    refine ⟨.ref b, rfl, .ref b, .ty "str", .type "list", .type "str", false, rfl, .ty _, .base (.lst hb), kit_ty (by decide +kernel), false, rfl, iteF ?_⟩
    refine ⟨.ref b, rfl, .ref b, .ty "tuple", .type "list", .type "tuple", false, rfl, .ty _, .base (.lst hb), kit_ty (by decide +kernel), false, rfl, iteF ?_⟩
    refine ⟨.ref b, rfl, .ref b, .ty "list", .type "list", .type "list", true, rfl, .ty _, .base (.lst hb), kit_ty (by decide +kernel), true, rfl, iteT ?_⟩
    refine ⟨.ref a, rfl, .ref a, .ty "list", .type "list", .type "list", true, rfl, .ty _, .base (.lst ha), kit_ty (by decide +kernel), true, rfl, iteF ?_⟩
    refine ⟨.ref a, rfl, a, _, rfl, .inl (.inl (.inl ha)), .ref b, rfl, b, _, rfl, .inl (.inl (.inl hb)), rfl, _, rfl, ?_⟩
    rw [decide_eq_true rfl]
    refine iteF ?_
    refine ⟨.ref a, rfl, .ref b, rfl, a, b, _, _, rfl, .inl (.inl ha), .inl (.inl hb), ?_⟩
    refine for_it (walk_zip (K := K) (a := a) (b := b) (xs := xs.map V.str) (ys := xs.map V.str) (n := xs.length) (by rw [List.length_map]; omega)) (fun i σ H' => Same H H' ∧ ∃ y2 y3, σ = [some (.ref a), some (.ref b), y2, y3]) ⟨fun _ _ e => e, none, none, rfl⟩ (fun i σ H' _ hP => ⟨.inl (.inl (hP.1 _ _ ha)), .inl (.inl (hP.1 _ _ hb))⟩) (fun i v σ H1 H1' hi hW hY => ?_) (fun σ H1 hW => ?_)
    · obtain ⟨s1, y2, y3, rfl⟩ := hW
      obtain ⟨t, u1, u2, rfl, nt, rfl, h1, h2⟩ := hY
      obtain ⟨x, _, rfl⟩ := at_str h1
      have e : u2 = .str x := Option.some.inj (h2.symm.trans h1)
      subst e
      refine ⟨t, [.str x, .str x], rfl, .inl (.inl upd_same), rfl, .str x, _, rfl, .str x, [], rfl, rfl, ?_⟩
      exact ⟨.str x, rfl, .str x, rfl, x, rfl, true, rfl, iteF ⟨s1.trans (same_new nt), _, _, rfl⟩⟩
    · obtain ⟨s1, y2, y3, rfl⟩ := hW
      exact q _ s1
end
end LH

namespace LH
open PySem PySem.Spec PyProof.Rows L2
/-! ### lists of lists of texts -/
def ListsAt (H : Hp) (as : List Addr) (xss : List (List Str)) : Prop := as.length = xss.length ∧ ∀ (i : Nat) (a : Addr) (xs : List Str), as[i]? = some a → xss[i]? = some xs → H a = some (.lst (xs.map V.str))
theorem ListsAt.nil {H : Hp} : ListsAt H [] [] := ⟨rfl, fun i a p x => by simp at x⟩
theorem ListsAt.same {H H' : Hp} {as : List Addr} {xss : List (List Str)} (t : Same H H') (h : ListsAt H as xss) : ListsAt H' as xss := ⟨h.1, fun i a p x y => t _ _ (h.2 i a p x y)⟩
theorem ListsAt.snoc {H : Hp} {as : List Addr} {ps : List (List Str)} {a : Addr} {p : List Str} (h : ListsAt H as ps) (ha : H a = some (.lst (p.map V.str))) : ListsAt H (as ++ [a]) (ps ++ [p]) := by
  refine ⟨by rw [List.length_append, List.length_append, h.1]; rfl, fun i b r x y => ?_⟩
  by_cases hi : i < as.length
  · rw [List.getElem?_append_left hi] at x
    rw [List.getElem?_append_left (by rw [← h.1]; exact hi)] at y
    exact h.2 i b r x y
  · rw [List.getElem?_append_right (by omega)] at x
    rw [List.getElem?_append_right (by rw [← h.1]; omega), ← h.1] at y
    have e : i - as.length = 0 := by
      cases q : i - as.length with
      | zero => rfl
      | succ k =>
        rw [q] at x
        simp at x
    rw [e] at x y
    cases x
    cases y
    exact ha
theorem dp_lists {K : PySem.W.Frag} {H : Hp} : ∀ {as : List Addr} {xss : List (List Str)}, ListsAt H as xss → DpAll K H (vr as) (xss.map fun xs => PyData.list (xs.map PyData.str))
  | [], [], _ => .nil
  | [], _ :: _, h => nomatch h.1
  | _ :: _, [], h => nomatch h.1
  | a :: as, xs :: xss, h => .cons (.lst (.inl (.inl (h.2 0 a xs rfl rfl))) (dpAll_str xs)) (dp_lists ⟨Nat.succ.inj h.1, fun i b p x y => h.2 (i + 1) b p x y⟩)
/-! ### text * number, also none -/
theorem op_repZ {X : Cx} : OpR X (binaryOp .Mult) (fun x y H Q => ∃ (z : Str) (n : Int), x = .str z ∧ y = .int n ∧ 0 ≤ n ∧ n ≤ 1000 ∧ z.length ≤ 1000 ∧ Q (.str (repS z n.toNat)) H) := by
  intro pins s σ H x y v u Q I rx ry h
  obtain ⟨z, n, rfl, rfl, h1, h2, hz, q⟩ := h
  by_cases h0 : 1 ≤ n
  · exact op_repS pins s σ H _ _ v u Q I rx ry ⟨z, n, rfl, rfl, h0, h2, hz, q⟩
  · obtain rfl : n = 0 := by omega
    obtain ⟨t, rfl⟩ := rx
    obtain ⟨t', rfl⟩ := ry
    refine PySem.P.mul_str ?_ (fun h _ => absurd h (by decide)) (fun h _ => absurd h (by decide)) ?_
    · rfl
    · rw [if_pos (by decide)]
      exact ⟨by decide, .str _, H, I.tok _, ⟨_, rfl⟩, q⟩
end LH

namespace LH
open PySem PySem.Spec PyProof.Rows L2
theorem prs_get {sh : Str} {n i : Nat} (h : i < (prs sh n).length) : (prs sh n)[i]? = some (i, (i + 1) % n) := by
  unfold prs at h ⊢
  rw [List.length_append, List.length_map, List.length_range] at h
  by_cases hi : i < n - 1
  · rw [List.getElem?_append_left (by rw [List.length_map, List.length_range]; exact hi), List.getElem?_map, List.getElem?_range hi, Nat.mod_eq_of_lt (by omega)]
    rfl
  · split at h
    · rename_i c
      have h : i < n - 1 + 1 := h
      have e : i = n - 1 := by omega
      rw [List.getElem?_append_right (by rw [List.length_map, List.length_range]; omega), List.length_map, List.length_range, if_pos c, e, Nat.sub_self]
      have : (n - 1 + 1) % n = 0 := by
        rw [show n - 1 + 1 = n by omega]
        exact Nat.mod_self n
      rw [this]
      rfl
    · have h : i < n - 1 + 0 := h
      omega
theorem two_eq {a b x y : Nat} : decide (V.str (sg a ++ sg b) = V.str (sg x ++ sg y)) = (decide (a = x) && decide (b = y)) := by
  rw [str_eq]
  by_cases h1 : a = x
  · by_cases h2 : b = y
    · rw [h1, h2]
      simp
    · rw [decide_eq_true h1, decide_eq_false h2, decide_eq_false fun e => h2 ?_]
      · rfl
      · have := congrArg (fun z : Str => z.cps.toList.getD 1 0) e
        exact this
  · rw [decide_eq_false h1, decide_eq_false fun e => h1 ?_]
    · rfl
    · have := congrArg (fun z : Str => z.cps.toList.getD 0 0) e
      exact this
section
variable {P : Program} {w : World} {K : PySem.W.Frag} {mg : Str → Option Value} {base : Heap}
/-! ### _law_by_two -/
def sp_law_by_two : Sp := fun vs H Q _ => ∃ (sh : Str) (p : Addr) (x y u v : Nat) (cs : List Nat), vs = [.str sh, .ref p, .str (tx cs)] ∧ RulAt H p (.two x y u v) ∧ cs.length ≤ 100 ∧ ∀ H' l, Same H H' → H l = none → H' l = some (.lst (tv (aTwo x y u v cs (prs sh cs.length)))) → Q (.ref l) H'
theorem ok_law_by_two (T : TX K mg) : FnOk P w K mg base CX0 1 T.a_law_by_two T.fd_law_by_two ["shape", "rule", "word"] sp_law_by_two := by
  refine T.F_law_by_two.ok sc_law_by_two (fun vs H Q E h => ?_) (fun cdv A outer s H vs Q E hr h => ?_)
  · obtain ⟨sh, p, x, y, u, v, cs, rfl, _⟩ := h
    rfl
  · obtain ⟨sh, p, x, y, u, v, cs, rfl, hp, hl, q⟩ := h
    refine ⟨_, (pss_cons (ps_set (i := 3) sc_law_by_two.nd rfl (Or.inl rfl) (pe_lst pa_nil))
      (pss_cons (ps_set (i := 4) sc_law_by_two.nd rfl (Or.inl rfl) (pe_op op_sub (pe_callB call_len_str (by rfl) T.m_len (by decide +kernel) (pa_cons (pv 2) pa_nil)) pe_int))
      (C8.pss_cut (ps_if (PW.pt (pw_and (pt_cmpR op_eq (pv 0) pe_str (nomark _)) (pw_and1 (pt_cmpR op_gt (pe_callB call_len_str (by rfl) T.m_len (by decide +kernel) (pa_cons (pv 2) pa_nil)) pe_int (nomark _)))))
        (pss_one (ps_set (i := 4) sc_law_by_two.nd rfl (Or.inl rfl) (pe_callB call_len_str (by rfl) T.m_len (by decide +kernel) (pa_cons (pv 2) pa_nil))))
        pss_nil)
      (pss_cons (ps_for PassesOwn.never rfl (pi_range1 (by rfl) T.m_range (pa_cons (pv 4) pa_nil)) (pg_name (i := 5) sc_law_by_two.nd rfl (Or.inl rfl))
        (pss_cons (ps_set (i := 6) sc_law_by_two.nd rfl (Or.inl rfl) (pe_op op_mod (pe_op op_add (pv 5) pe_int) (pe_callB call_len_str (by rfl) T.m_len (by decide +kernel) (pa_cons (pv 2) pa_nil))))
          (pss_one (ps_if (pt_cmpR op_eq (pe_op op_add_str (pe_ix ix_str (pv 2) (pv 5) (fun _ _ => rfl)) (pe_ix ix_str (pv 2) (pv 6) (fun _ _ => rfl))) (pe_op op_add_str (pe_ix (ix_tupK K rfl) (pv 1) pe_int (fun _ _ => rfl)) (pe_ix (ix_tupK K rfl) (pv 1) pe_int (fun _ _ => rfl))) (nomark _))
            (pss_cons (ps_set (i := 7) sc_law_by_two.nd rfl (Or.inl rfl) (pe_callTy (call_listS rfl) (by rfl) T.m_list (by decide +kernel) (pa_cons (pv 2) pa_nil)))
              (pss_cons (ps_asg (pe_ix (ix_tupK K rfl) (pv 1) pe_int (fun _ _ => rfl)) (pg_sub (pv 7) (pv 5) set_list))
              (pss_cons (ps_asg (pe_ix (ix_tupK K rfl) (pv 1) pe_int (fun _ _ => rfl)) (pg_sub (pv 7) (pv 6) set_list))
              (pss_one (ps_expr (pe_bmK K rfl PySem.F.plainAttrs_list PySem.F.slot_list_append PySem.F.type_list_append mt_append (pv 3) (pa_cons (pe_m1 PySem.F.slot_str_join PySem.F.type_str_join (mt_joinK K rfl) pe_str (pv 7)) pa_nil)))))))
            pss_nil))))
      (pss_one (ps_ret (pv 3))))))), ?_⟩
    have wl : (tx cs).length ≤ sizeLine := by
      rw [tx_len]
      exact Nat.le_trans hl (by decide)
    have tn : ((tx cs).length : Int) = (cs.length : Int) := by rw [tx_len]
    have hp4 : H p = some (.tup [.str "two", .str (sg x), .str (sg y), .str (sg u), .str (sg v)]) := hp
    refine ⟨by show 0 ≤ sizeLine; decide, fun l nl => ?_⟩
    refine ⟨.str (tx cs), rfl, tx cs, rfl, wl, ((tx cs).length : Int), 1, rfl, rfl, ?_⟩
    refine ⟨fun σ' H' => ∃ la : Int, σ' = [some (.str sh), some (.ref p), some (.str (tx cs)), some (.ref l), some (.int la), none, none, none] ∧ H' = upd H l (.lst []) ∧ la.toNat = (prs sh cs.length).length ∧ la ≤ 100 ∧ -1 ≤ la, ?_, fun σ' H' hM => ?_⟩
    · refine ⟨.str sh, rfl, rfl, _, rfl, ?_⟩
      rw [str_eq]
      have base : ∀ h : ¬ (sh = "ring" ∧ 1 < cs.length), (prs sh cs.length).length = cs.length - 1 := fun h => by
        unfold prs
        rw [if_neg h, List.length_append, List.length_map, List.length_range]
        rfl
      by_cases hs : sh = "ring"
      · rw [decide_eq_true hs]
        refine ⟨.str (tx cs), rfl, tx cs, rfl, wl, ((tx cs).length : Int), 1, rfl, rfl, _, rfl, ite2 (fun e => ?_) (fun e => ?_)⟩
        · have e : 1 < cs.length := by
            have := of_decide_eq_true e
            rw [tn] at this
            omega
          refine ⟨.str (tx cs), rfl, tx cs, rfl, wl, ((tx cs).length : Int), rfl, rfl, ?_, by rw [tn]; omega, by rw [tn]; omega⟩
          rw [tn]
          unfold prs
          rw [if_pos ⟨hs, e⟩, List.length_append, List.length_map, List.length_range]
          show _ = cs.length - 1 + 1
          omega
        · refine ⟨((tx cs).length : Int) - 1, rfl, rfl, ?_, by rw [tn]; omega, by rw [tn]; omega⟩
          rw [tn, base]
          · omega
          · rintro ⟨_, h⟩
            exact e (decide_eq_true (by rw [tn]; omega))
      · rw [decide_eq_false hs]
        refine ⟨((tx cs).length : Int) - 1, rfl, rfl, ?_, by rw [tn]; omega, by rw [tn]; omega⟩
        rw [tn, base fun h => hs h.1]
        omega
    obtain ⟨la, rfl, rfl, en, la1, la2⟩ := hM
    refine ⟨.int la, rfl, la, rfl, by omega, by omega, ?_⟩
    refine for_it (walk_range (lo := 0) (n := la.toNat)) (fun i σ H' => Same H H' ∧ H' l = some (.lst (tv (aTwo x y u v cs ((prs sh cs.length).take i)))) ∧ ∃ y5 y6 y7, σ = [some (.str sh), some (.ref p), some (.str (tx cs)), some (.ref l), some (.int la), y5, y6, y7]) ⟨same_new nl, upd_same, none, none, none, rfl⟩ (fun _ _ _ _ _ => trivial) (fun i b σ H2 H2' hi hW hY => ?_) (fun σ H2 hW => ?_)
    · obtain ⟨s2, l2, y5, y6, y7, rfl⟩ := hW
      obtain ⟨rfl, rfl⟩ := hY
      have hip : i < (prs sh cs.length).length := by omega
      have hpp := prs_get hip
      obtain ⟨lt1, lt2⟩ := prs_lt (List.mem_of_getElem? hpp)
      have lt1 : i < cs.length := lt1
      have lt2 : (i + 1) % cs.length < cs.length := lt2
      have et : (prs sh cs.length).take (i + 1) = (prs sh cs.length).take i ++ [(i, (i + 1) % cs.length)] := by
        rw [List.take_add_one, hpp]
        rfl
      have k0 : (0 : Int) + (i : Int) = (i : Int) := Int.zero_add _
      have kb : (0 + (i : Int) + 1) % ((tx cs).length : Int) = (((i + 1) % cs.length : Nat) : Int) := by
        rw [tn, k0]
        exact (Int.natCast_emod (i + 1) cs.length).symm
      have c1 : cs[i]? = some cs[i] := List.getElem?_eq_getElem lt1
      have c2 : cs[(i + 1) % cs.length]? = some cs[(i + 1) % cs.length] := List.getElem?_eq_getElem lt2
      refine ⟨.int (0 + (i : Int)), rfl, 0 + (i : Int), 1, rfl, rfl, .str (tx cs), rfl, tx cs, rfl, wl, _, _, rfl, rfl, (by show (0 : Int) < ((tx cs).length : Int); rw [tn]; omega), ?_⟩
      obtain ⟨bs, hbs⟩ : ∃ bs : Int, bs = (0 + (i : Int) + 1) % ((tx cs).length : Int) := ⟨_, rfl⟩
      have hb2 : bs = (((i + 1) % cs.length : Nat) : Int) := hbs.trans kb
      refine ⟨.str (tx cs), rfl, .int (0 + (i : Int)), rfl, tx cs, 0 + (i : Int), cs[i], rfl, rfl, wl, by rw [k0]; exact atI_nat c1, .str (tx cs), rfl, .int bs, by rw [hbs]; rfl, tx cs, bs, cs[(i + 1) % cs.length], rfl, rfl, wl, by rw [hb2]; exact atI_nat c2, _, _, rfl, rfl, by show 2 ≤ sizeLine; decide, ?_⟩
      refine ⟨.ref p, rfl, p, _, 1, .str (sg x), rfl, rfl, .inl (.inl (s2 _ _ hp4)), atI_nat (j := 1) rfl, .ref p, rfl, p, _, 2, .str (sg y), rfl, rfl, .inl (.inl (s2 _ _ hp4)), atI_nat (j := 2) rfl, _, _, rfl, rfl, by show 2 ≤ sizeLine; decide, rfl, _, rfl, ?_⟩
      rw [two_eq]
      by_cases exy : (decide (cs[i] = x) && decide (cs[(i + 1) % cs.length] = y)) = true
      · rw [exy]
        refine ⟨.str (tx cs), rfl, tx cs, rfl, wl, fun d nd => ?_⟩
        have sz : ∀ (ds : List Nat) (k : Nat), ds.length = cs.length → k < cs.length → ixN (vs_ ds).length (k : Int) = some k := fun ds k h1 h2 => by
          rw [List.length_map, h1]
          exact ixN_of h2
        have sd : Same H2' (upd H2' d (.lst (sgns (tx cs)))) := same_new nd
        refine ⟨.ref p, rfl, p, _, 3, .str (sg u), rfl, rfl, .inl (.inl (sd _ _ (s2 _ _ hp4))), atI_nat (j := 3) rfl, .ref d, rfl, .int (0 + (i : Int)), rfl, d, vs_ cs, 0 + (i : Int), i, rfl, rfl, upd_same, by rw [k0]; exact sz cs _ rfl lt1, ?_⟩
        have sd2 : Same H2' (upd (upd H2' d (.lst (sgns (tx cs)))) d (.lst ((vs_ cs).set i (.str (sg u))))) := fun b o e => by
          have := ne_of_none e nd
          rw [upd_ne this, upd_ne this]
          exact e
        refine ⟨.ref p, rfl, p, _, 4, .str (sg v), rfl, rfl, .inl (.inl (sd2 _ _ (s2 _ _ hp4))), atI_nat (j := 4) rfl, .ref d, rfl, .int bs, by rw [hbs]; rfl, d, (vs_ cs).set i (.str (sg u)), bs, (i + 1) % cs.length, rfl, rfl, upd_same, by rw [vs_set, hb2]; exact sz _ _ (List.length_set ..) lt2, ?_⟩
        rw [vs_set, vs_set]
        have hd : (upd (upd (upd H2' d (.lst (sgns (tx cs)))) d (.lst (vs_ (cs.set i u)))) d (.lst (vs_ ((cs.set i u).set ((i + 1) % cs.length) v)))) d = some (.lst (vs_ ((cs.set i u).set ((i + 1) % cs.length) v))) := upd_same
        have hs : Same H2' (upd (upd (upd H2' d (.lst (sgns (tx cs)))) d (.lst (vs_ (cs.set i u)))) d (.lst (vs_ ((cs.set i u).set ((i + 1) % cs.length) v)))) := fun b o e => by
          have := ne_of_none e nd
          rw [upd_ne this, upd_ne this, upd_ne this]
          exact e
        generalize upd (upd (upd H2' d (.lst (sgns (tx cs)))) d (.lst (vs_ (cs.set i u)))) d (.lst (vs_ ((cs.set i u).set ((i + 1) % cs.length) v))) = H3 at hd hs
        refine ⟨.ref l, rfl, .inl ⟨rfl, _, .inl (.inl (hs _ _ l2))⟩, ⟨_, rfl⟩, .ref d, rfl, ⟨#[]⟩, d, ((cs.set i u).set ((i + 1) % cs.length) v).map sg, rfl, rfl, .inl (.inl (.inl (by rw [hd, vs_map]))), ?_, ?_⟩
        · rw [List.length_map, sum_sg]
          show _ + _ * 0 ≤ 16777216
          rw [List.length_set, List.length_set]
          omega
        rw [join_vs]
        refine ⟨l, _, _, rfl, rfl, hs _ _ l2, ?_, ?_, ?_, _, _, _, rfl⟩
        · rw [List.length_map]
          have := filter_len (fun p : Nat × Nat => decide (cs[p.1]? = some x) && decide (cs[p.2]? = some y)) (fun p => (cs.set p.1 u).set p.2 v) ((prs sh cs.length).take i)
          have h2 := take_len i (prs sh cs.length)
          have h3 := prs_len sh cs.length
          exact small1000 (Nat.le_trans this (by omega))
        · intro b o e
          rw [upd_ne (ne_of_none e nl)]
          exact hs _ _ (s2 b o e)
        · rw [upd_same, et, aTwo_snoc, at_sign c1, at_sign c2, if_pos exy, tv_snoc]
      · rw [Bool.eq_false_iff.mpr exy]
        refine ⟨s2, ?_, _, _, _, rfl⟩
        rw [et, aTwo_snoc, at_sign c1, at_sign c2, if_neg exy, List.append_nil]
        exact l2
    · obtain ⟨s2, l2, y5, y6, y7, rfl⟩ := hW
      rw [en, List.take_of_length_le (Nat.le_refl _)] at l2
      exact ⟨.ref l, rfl, q _ _ s2 nl l2⟩
end
end LH

namespace LH
open PySem PySem.Spec PyProof.Rows L2
section
variable {P : Program} {w : World} {K : PySem.W.Frag} {mg : Str → Option Value} {base : Heap}
/-! ### _law_put -/
def sp_law_put : Sp := fun vs H Q _ => ∃ (r p : Addr) (z : Str) (x y u v : Nat) (cs : List Nat), vs = [.ref r, .ref p, .str (tx cs)] ∧ RowAt H r ∧ RulAt H p (.two x y u v) ∧ x ∈ z.cps.toList ∧ y ∈ z.cps.toList ∧ cs.length ≤ 100 ∧ (∀ c ∈ cs, c ∈ z.cps.toList) ∧ ∀ H' (ds : List Nat), Off r H H' → RowAt H' r → ds.length = cs.length → (∀ c ∈ ds, c ∈ z.cps.toList) → Q (.str (tx ds)) H'
theorem mem_set_of {cs : List Nat} {z : List Nat} {i c : Nat} (h : ∀ c ∈ cs, c ∈ z) (hc : c ∈ z) : ∀ d ∈ cs.set i c, d ∈ z := fun d hd => by
  rcases List.mem_or_eq_of_mem_set hd with e | e
  · exact h d e
  · rw [e]
    exact hc
theorem ok_law_put (T : TX K mg) : FnOk P w K mg base CX0 2 T.a_law_put T.fd_law_put ["well", "rule", "word"] sp_law_put := by
  have G_law_draw : FnOk P w K mg base CX0 1 T.a_law_draw T.fd_law_draw ["well", "many"] sp_law_draw := ok_law_draw T
  refine T.F_law_put.ok sc_law_put (fun vs H Q E h => ?_) (fun cdv A outer s H vs Q E hr h => ?_)
  · obtain ⟨r, p, z, x, y, u, v, cs, rfl, _⟩ := h
    rfl
  · obtain ⟨r, p, z, x, y, u, v, cs, rfl, hR, hp, hx, hy, hl, hc, q⟩ := h
    refine ⟨_, (pss_cons (ps_if (pt_cmpR op_lt (pe_callB call_len_str (by rfl) T.m_len (by decide +kernel) (pa_cons (pv 2) pa_nil)) pe_int (nomark _))
        (pss_one (ps_ret (pv 2)))
        pss_nil)
      (pss_cons (ps_set (i := 3) sc_law_put.nd rfl (Or.inl rfl) (pe_call G_law_draw (hr.mono (by decide)) (by rfl) T.g_law_draw T.F_law_draw.kp T.b_law_draw .nil pass0 (pa_cons (pv 0) (pa_cons (pe_callB call_len_str (by rfl) T.m_len (by decide +kernel) (pa_cons (pv 2) pa_nil)) pa_nil))))
      (pss_cons (ps_set (i := 4) sc_law_put.nd rfl (Or.inl rfl) (pe_callTy (call_listS rfl) (by rfl) T.m_list (by decide +kernel) (pa_cons (pv 2) pa_nil)))
      (pss_cons (ps_asg (pe_ix (ix_tupK K rfl) (pv 1) pe_int (fun _ _ => rfl)) (pg_sub (pv 4) (pv 3) set_list))
      (pss_cons (ps_asg (pe_ix (ix_tupK K rfl) (pv 1) pe_int (fun _ _ => rfl)) (pg_sub (pv 4) (pe_op op_mod (pe_op op_add (pv 3) pe_int) (pe_callB call_len_str (by rfl) T.m_len (by decide +kernel) (pa_cons (pv 2) pa_nil))) set_list))
      (pss_one (ps_ret (pe_m1 PySem.F.slot_str_join PySem.F.type_str_join (mt_joinK K rfl) pe_str (pv 4))))))))), ?_⟩
    have wl : (tx cs).length ≤ sizeLine := by
      rw [tx_len]
      exact Nat.le_trans hl (by decide)
    have tn : ((tx cs).length : Int) = (cs.length : Int) := by rw [tx_len]
    have hp4 : H p = some (.tup [.str "two", .str (sg x), .str (sg y), .str (sg u), .str (sg v)]) := hp
    refine ⟨.str (tx cs), rfl, tx cs, rfl, wl, ((tx cs).length : Int), 2, rfl, rfl, _, rfl, ite2 (fun e => ?_) (fun e => ?_)⟩
    · exact ⟨.str (tx cs), rfl, q _ _ (Off.refl r H) hR rfl hc⟩
    · have hn : 2 ≤ cs.length := by
        have : ¬ ((tx cs).length : Int) < 2 := fun z => e (decide_eq_true z)
        rw [tn] at this
        omega
      refine ⟨.ref r, rfl, .str (tx cs), rfl, tx cs, rfl, wl, r, ((tx cs).length : Int), rfl, hR, by rw [tn]; omega, by rw [tn]; omega, fun H1 g o1 R1 g0 g1 => ?_⟩
      obtain ⟨k, rfl⟩ : ∃ k : Nat, g = (k : Int) := ⟨g.toNat, by omega⟩
      have hk : k < cs.length := by
        rw [tn] at g1
        omega
      have p1 := o1 _ _ (hR.neT hp4) hp4
      refine ⟨.str (tx cs), rfl, tx cs, rfl, wl, fun d nd => ?_⟩
      have rd : r ≠ d := R1.ne nd
      have fd : H d = none := o1.free rd nd
      have pd : p ≠ d := ne_of_none p1 nd
      have sz : ∀ (ds : List Nat) (k : Nat), ds.length = cs.length → k < cs.length → ixN (vs_ ds).length (k : Int) = some k := fun ds k h1 h2 => by
        rw [List.length_map, h1]
        exact ixN_of h2
      have kb : ((k : Int) + 1) % ((tx cs).length : Int) = (((k + 1) % cs.length : Nat) : Int) := by
        rw [tn]
        exact (Int.natCast_emod (k + 1) cs.length).symm
      have lt2 : (k + 1) % cs.length < cs.length := Nat.mod_lt _ (by omega)
      refine ⟨.ref p, rfl, p, _, 1, .str (sg x), rfl, rfl, .inl (.inl (by rw [upd_ne pd]; exact p1)), atI_nat (j := 1) rfl, .ref d, rfl, .int (k : Int), rfl, d, vs_ cs, (k : Int), k, rfl, rfl, upd_same, sz cs _ rfl hk, ?_⟩
      refine ⟨.ref p, rfl, p, _, 2, .str (sg y), rfl, rfl, .inl (.inl (by rw [upd_ne pd, upd_ne pd]; exact p1)), atI_nat (j := 2) rfl, .ref d, rfl, .int (k : Int), rfl, (k : Int), 1, rfl, rfl, .str (tx cs), rfl, tx cs, rfl, wl, _, _, rfl, rfl, (by show (0 : Int) < ((tx cs).length : Int); rw [tn]; omega), d, (vs_ cs).set k (.str (sg x)), _, (k + 1) % cs.length, rfl, rfl, upd_same, ?_, ?_⟩
      · rw [vs_set, kb]
        exact sz _ _ (List.length_set ..) lt2
      rw [vs_set, vs_set]
      refine ⟨⟨_, rfl⟩, .ref d, rfl, ⟨#[]⟩, d, ((cs.set k x).set ((k + 1) % cs.length) y).map sg, rfl, rfl, .inl (.inl (.inl (by rw [upd_same, vs_map]))), ?_, ?_⟩
      · rw [List.length_map, sum_sg]
        show _ + _ * 0 ≤ 16777216
        rw [List.length_set, List.length_set]
        omega
      rw [join_vs]
      refine q _ _ (((o1.mut fd).mut fd).mut fd) (((R1.upd rd).upd rd).upd rd) ?_ (mem_set_of (mem_set_of hc hx) hy)
      rw [List.length_set, List.length_set]
end
end LH

namespace LH
open PySem PySem.Spec PyProof.Rows L2
section
variable {P : Program} {w : World} {K : PySem.W.Frag} {mg : Str → Option Value} {base : Heap}
def sp_law_right : Sp := fun vs H Q _ => ∃ (z sh : Str) (p : Addr) (x y u v : Nat) (cs : List Nat), vs = [.str z, .str sh, .ref p, .str (tx cs)] ∧ RulAt H p (.two x y u v) ∧ Rul.Ok z sh (.two x y u v) ∧ IsLet z ∧ cs.length ≤ 40 ∧ (∀ c ∈ cs, c ∈ z.cps.toList) ∧ ∀ H', Same H H' → Q (.bl true) H'
theorem ok_law_right (T : TX K mg) : FnOk P w K mg base CX0 5 T.a_law_right T.fd_law_right ["letters", "shape", "rule", "word"] sp_law_right := by
  have G_law_by_two : FnOk P w K mg base CX0 1 T.a_law_by_two T.fd_law_by_two ["shape", "rule", "word"] sp_law_by_two := ok_law_by_two T
  have G_after : FnOk P w K mg base CX0 4 T.a_after T.fd_after ["letters", "shape", "rule", "word"] sp_after := ok_after T
  have G_law_same : FnOk P w K mg base CX0 2 T.a_law_same T.fd_law_same ["got", "due"] sp_law_same := ok_law_same T
  refine T.F_law_right.ok sc_law_right (fun vs H Q E h => ?_) (fun cdv A outer s H vs Q E hr h => ?_)
  · obtain ⟨z, sh, p, x, y, u, v, cs, rfl, _⟩ := h
    rfl
  · obtain ⟨z, sh, p, x, y, u, v, cs, rfl, hp, ho, hz, hl, hc, q⟩ := h
    refine ⟨_, (pss_cons (ps_set (i := 4) sc_law_right.nd rfl (Or.inl rfl) (pe_callB (cr_sortTK P w rfl rfl rfl) (by rfl) T.m_sorted (by decide +kernel) (pa_cons (pe_callTy (cr_setLK P w K rfl rfl rfl rfl) (by rfl) T.m_set (by decide +kernel) (pa_cons (pe_call G_law_by_two (hr.mono (by decide)) (by rfl) T.g_law_by_two T.F_law_by_two.kp T.b_law_by_two .nil pass0 (pa_cons (pv 1) (pa_cons (pv 2) (pa_cons (pv 3) pa_nil)))) pa_nil)) pa_nil)))
      (pss_cons (ps_for PassesOwn.never rfl (pi_range1 (by rfl) T.m_range (pa_cons pe_int pa_nil)) (pg_name (i := 5) sc_law_right.nd rfl (Or.inl rfl))
        (pss_cons (ps_set (i := 6) sc_law_right.nd rfl (Or.inl rfl) (pe_call G_after (hr.mono (by decide)) (by rfl) T.g_after T.F_after.kp T.b_after .nil pass0 (pa_cons (pv 0) (pa_cons (pv 1) (pa_cons (pv 2) (pa_cons (pv 3) pa_nil))))))
          (pss_cons (ps_if (pt_not (pt_val (pe_call G_law_same (hr.mono (by decide)) (by rfl) T.g_law_same T.F_law_same.kp T.b_law_same .nil pass0 (pa_cons (pv 6) (pa_cons (pv 4) pa_nil)))))
            (pss_one (ps_ret pe_bl))
            pss_nil)
          (pss_one (ps_expr (pe_bmK K rfl PySem.F.plainAttrs_list PySem.F.slot_list_append PySem.F.type_list_append mt_append (pv 6) (pa_cons pe_str pa_nil)))))))
      (pss_one (ps_ret pe_bl)))), ?_⟩
    have h5 := hz.five
    have al : (aTwo x y u v cs (prs sh cs.length)).length ≤ cs.length := aAll_len z sh cs (.two x y u v)
    obtain ⟨ws, hws⟩ : ∃ ws, ws = aTwo x y u v cs (prs sh cs.length) := ⟨_, rfl⟩
    rw [← hws] at al
    have tl := tAll_len (ws.map tx)
    rw [List.length_map] at tl
    refine ⟨.str sh, rfl, .ref p, rfl, .str (tx cs), rfl, sh, p, x, y, u, v, cs, rfl, hp, by omega, fun H1 l s1 nl e1 => ?_⟩
    rw [← hws] at e1
    refine ⟨l, ws.map tx, rfl, .inl (.inl (by rw [e1, tv_str])), by rw [List.length_map]; omega, fun p2 n2 => ?_⟩
    refine ⟨p2, _, rfl, upd_same, by omega, fun zs du pm srt n3 => ?_⟩
    have cm : Comes ws zs := ⟨pm, srt⟩
    have s3 := (s1.trans (same_new (o := SetT P w p2 (tAll (ws.map tx))) n2)).trans (same_new (o := .lst (zs.map V.str)) n3)
    have e3 : (upd (upd H1 p2 (SetT P w p2 (tAll (ws.map tx)))) du (.lst (zs.map V.str))) du = some (.lst (zs.map V.str)) := upd_same
    generalize upd (upd H1 p2 (SetT P w p2 (tAll (ws.map tx)))) du (.lst (zs.map V.str)) = H3 at s3 e3
    refine ⟨2, rfl, by decide, by decide, ?_⟩
    refine for_it (walk_range (lo := 0) (n := (2 : Int).toNat)) (fun k σ H' => Same H H' ∧ H' du = some (.lst (zs.map V.str)) ∧ ∃ y5 y6, σ = [some (.str z), some (.str sh), some (.ref p), some (.str (tx cs)), some (.ref du), y5, y6]) ⟨s3, e3, none, none, rfl⟩ (fun _ _ _ _ _ => trivial) (fun k v' σ H4 H4' hk hW hY => ?_) (fun σ H4 hW => ?_)
    · obtain ⟨s4, e4, y5, y6, rfl⟩ := hW
      obtain ⟨rfl, rfl⟩ := hY
      refine ⟨.str z, rfl, .str sh, rfl, .ref p, rfl, .str (tx cs), rfl, z, sh, p, .two x y u v, cs, rfl, hp.mono (Tups.same s4), ho, by omega, by omega, hc, fun H5 l5 zs5 s5 n5 e5 c5 => ?_⟩
      have c5 : Comes ws zs5 := hws ▸ c5
      have ez : zs5 = zs := Comes.one c5 cm
      subst ez
      refine ⟨.ref l5, rfl, .ref du, rfl, l5, du, zs5, rfl, e5, s5 _ _ e4, fun H6 s6 => ⟨true, rfl, iteF ?_⟩⟩
      refine ⟨.ref l5, rfl, .inl ⟨rfl, _, .inl (.inl (s6 _ _ e5))⟩, l5, zs5.map V.str, .str "", rfl, rfl, s6 _ _ e5, ?_, ?_, ?_, _, _, rfl⟩
      · rw [List.length_map]
        have := cm.len
        exact small1000 (by omega)
      · intro b o e
        rw [upd_ne (ne_of_none (s4 b o e) n5)]
        exact s6 _ _ (s5 _ _ (s4 b o e))
      · rw [upd_ne (ne_of_none e4 n5)]
        exact s6 _ _ (s5 _ _ e4)
    · obtain ⟨s4, e4, y5, y6, rfl⟩ := hW
      exact q _ s4
/-! ### the law -/
def sp_law (K : PySem.W.Frag) : Sp := fun vs H Q _ => ∃ (a : Addr) (ns : List Int), vs = [.ref a] ∧ SqL K H a (ns.map V.int) ∧ ns.length ≤ 63 ∧ ∀ H', Q (.bl true) H'
theorem ints_at {ns : List Int} {i : Nat} {x : V} {lo hi : Option Int} (h : ([V.int 0, V.int 5] ++ cutV (ns.map V.int) lo hi)[i]? = some x) : ∃ c, x = .int c := by
  have hm := List.mem_of_getElem? h
  rcases List.mem_append.mp hm with z | z
  · rcases List.mem_cons.mp z with z | z
    · exact ⟨0, z⟩
    · exact ⟨5, List.mem_singleton.mp z⟩
  · unfold cutV at z
    obtain ⟨c, _, rfl⟩ := List.mem_map.mp (List.mem_of_mem_drop (List.mem_of_mem_take z))
    exact ⟨c, rfl⟩
theorem two_case {i : Nat} {x : V} (h : [V.str "row", V.str "ring"][i]? = some x) : (i = 0 ∧ x = .str "row") ∨ (i = 1 ∧ x = .str "ring") := by
  match i, h with
  | 0, h => exact .inl ⟨rfl, (Option.some.inj h).symm⟩
  | 1, h => exact .inr ⟨rfl, (Option.some.inj h).symm⟩
  | i + 2, h => simp at h
theorem ok_law {f : Addr} {fd : FuncData} (F : Fun K "law" "law" s_law f fd) (T : TX K mg) : FnOk P w K mg base CX0 6 f fd ["script"] (sp_law K) := by
  have G_law_well : FnOk P w K mg base CX0 1 T.a_law_well T.fd_law_well ["cell"] sp_law_well := ok_law_well T
  have G_law_draw : FnOk P w K mg base CX0 1 T.a_law_draw T.fd_law_draw ["well", "many"] sp_law_draw := ok_law_draw T
  have G_law_letters : FnOk P w K mg base CX0 2 T.a_law_letters T.fd_law_letters ["well"] sp_law_letters := ok_law_letters T
  have G_law_rule : FnOk P w K mg base CX0 4 T.a_law_rule T.fd_law_rule ["well", "letters", "shape", "kind"] sp_law_rule := ok_law_rule T
  have G_law_word : FnOk P w K mg base CX0 4 T.a_law_word T.fd_law_word ["well", "letters"] sp_law_word := ok_law_word T
  have G_law_put : FnOk P w K mg base CX0 2 T.a_law_put T.fd_law_put ["well", "rule", "word"] sp_law_put := ok_law_put T
  have G_law_right : FnOk P w K mg base CX0 5 T.a_law_right T.fd_law_right ["letters", "shape", "rule", "word"] sp_law_right := ok_law_right T
  have G_after : FnOk P w K mg base CX0 4 T.a_after T.fd_after ["letters", "shape", "rule", "word"] sp_after := ok_after T
  refine F.ok sc_law (fun vs H Q E h => ?_) (fun cdv A outer s H vs Q E hr h => ?_)
  · obtain ⟨a, ns, rfl, _⟩ := h
    rfl
  · obtain ⟨a, ns, rfl, hS, hlen, q⟩ := h
    refine ⟨_, (pss_cons (ps_for PassesOwn.never rfl (pi_listK K rfl (pe_op op_cat (pe_lst (pa_cons pe_int (pa_cons pe_int pa_nil))) (pe_slice (sl_listK K rfl) (pv 0) po_none (po_some pe_int)))) (pg_name (i := 1) sc_law.nd rfl (Or.inl rfl))
        (pss_cons (ps_set (i := 2) sc_law.nd rfl (Or.inl rfl) (pe_call G_law_well (hr.mono (by decide)) (by rfl) T.g_law_well T.F_law_well.kp T.b_law_well .nil pass0 (pa_cons (pv 1) pa_nil)))
          (pss_cons (ps_set (i := 3) sc_law.nd rfl (Or.inl rfl) (pe_call G_law_letters (hr.mono (by decide)) (by rfl) T.g_law_letters T.F_law_letters.kp T.b_law_letters .nil pass0 (pa_cons (pv 2) pa_nil)))
          (pss_cons (ps_set (i := 4) sc_law.nd rfl (Or.inl rfl) (pe_ix (ix_listK K rfl) (pe_lst (pa_cons pe_str (pa_cons pe_str pa_nil))) (pe_call G_law_draw (hr.mono (by decide)) (by rfl) T.g_law_draw T.F_law_draw.kp T.b_law_draw .nil pass0 (pa_cons (pv 2) (pa_cons pe_int pa_nil))) (fun _ _ => rfl)))
          (pss_cons (ps_set (i := 5) sc_law.nd rfl (Or.inl rfl) (pe_call G_law_word (hr.mono (by decide)) (by rfl) T.g_law_word T.F_law_word.kp T.b_law_word .nil pass0 (pa_cons (pv 2) (pa_cons (pv 3) pa_nil))))
          (pss_one (ps_for PassesOwn.never rfl (pi_range1 (by rfl) T.m_range (pa_cons pe_int pa_nil)) (pg_name (i := 6) sc_law.nd rfl (Or.inl rfl))
            (pss_cons (ps_set (i := 7) sc_law.nd rfl (Or.inl rfl) (pe_call G_law_rule (hr.mono (by decide)) (by rfl) T.g_law_rule T.F_law_rule.kp T.b_law_rule .nil pass0 (pa_cons (pv 2) (pa_cons (pv 3) (pa_cons (pv 4) (pa_cons pe_int pa_nil))))))
              (pss_cons (ps_set (i := 5) sc_law.nd rfl (Or.inl rfl) (pe_ix (ix_listK K rfl) (pe_lst (pa_cons (pv 5) (pa_cons (pe_call G_law_put (hr.mono (by decide)) (by rfl) T.g_law_put T.F_law_put.kp T.b_law_put .nil pass0 (pa_cons (pv 2) (pa_cons (pv 7) (pa_cons (pv 5) pa_nil)))) pa_nil))) (pe_call G_law_draw (hr.mono (by decide)) (by rfl) T.g_law_draw T.F_law_draw.kp T.b_law_draw .nil pass0 (pa_cons (pv 2) (pa_cons pe_int pa_nil))) (fun _ _ => rfl)))
              (pss_one (ps_if (pt_not (pt_val (pe_call G_law_right (hr.mono (by decide)) (by rfl) T.g_law_right T.F_law_right.kp T.b_law_right .nil pass0 (pa_cons (pv 3) (pa_cons (pv 4) (pa_cons (pv 7) (pa_cons (pv 5) pa_nil)))))))
                (pss_one (ps_ret pe_bl))
                pss_nil)))))))))))
      (pss_cons (ps_setLc (i := 8) (own := [("shape", 4)]) (g := gName 4) (tt := tYes) (by rfl) sc_law.nd rfl rfl (sw_true rfl rfl rfl (by decide +kernel)) (pi_listK K rfl (pe_lst (pa_cons pe_str (pa_cons pe_str pa_nil)))) (blkOk_by (own := [("shape", 4)]) (N := N_law) (by kernel_rfl)) (fun _ _ _ _ _ => (pg_name (i := 4) sc_law.nd rfl (Or.inl rfl))) (fun _ _ _ _ _ => pts_nil) (fun _ _ _ _ _ => (pe_call G_after (hr.mono (by decide)) (by rfl) T.g_after T.F_after.kp T.b_after .nil pass0 (pa_cons pe_str (pa_cons (pv 4) (pa_cons (pe_tup (pa_cons pe_str (pa_cons pe_str (pa_cons pe_str (pa_cons pe_str (pa_cons pe_str pa_nil)))))) (pa_cons pe_str pa_nil)))))))
      (pss_cons (ps_setLc (i := 9) (own := [("many", 10)]) (g := gName 10) (tt := tYes) (by rfl) sc_law.nd rfl rfl (sw_true rfl rfl rfl (by decide +kernel)) (pi_range1 (by rfl) T.m_range (pa_cons pe_int pa_nil)) (blkOk_by (own := [("many", 10)]) (N := N_law) (by kernel_rfl)) (fun _ _ _ _ _ => (pg_name (i := 10) sc_law.nd rfl (Or.inl rfl))) (fun _ _ _ _ _ => pts_nil) (fun _ _ _ _ _ => (pe_call G_after (hr.mono (by decide)) (by rfl) T.g_after T.F_after.kp T.b_after .nil pass0 (pa_cons pe_str (pa_cons pe_str (pa_cons (pe_tup (pa_cons pe_str (pa_cons pe_str (pa_cons pe_str (pa_cons pe_str (pa_cons pe_str pa_nil)))))) (pa_cons (pe_op op_repZ pe_str (pv 10)) pa_nil)))))))
      (pss_one (ps_ret (pe_and (pe_cmpR (op_eqD hr.units) (pv 8) (pe_lst (pa_cons (pe_lst pa_nil) (pa_cons (pe_lst (pa_cons pe_str pa_nil)) pa_nil))) (nomark _)) (pe_one (pe_cmpR (op_eqD hr.units) (pv 9) (pe_lst (pa_cons (pe_lst pa_nil) (pa_cons (pe_lst pa_nil) (pa_cons (pe_lst (pa_cons pe_str pa_nil)) pa_nil)))) (nomark _))))))))), ?_⟩
    refine ⟨by show 2 ≤ sizeLine; decide, fun p1 n1 => ?_⟩
    refine ⟨.ref a, rfl, 38, rfl, a, _, rfl, (same_new n1).seq hS, fun p2 n2 => ?_⟩
    refine ⟨p1, p2, [.int 0, .int 5], _, rfl, rfl, ?_, upd_same, ?_, fun p3 n3 => ?_⟩
    · exact (same_new n2) _ _ upd_same
    · have := cutV_length (ns.map V.int) none (some 38)
      rw [List.length_map] at this
      exact Nat.le_trans (show 2 + (cutV (ns.map V.int) none (some 38)).length ≤ 100 by omega) (by decide)
    refine ⟨p3, rfl, ⟨_, .inl (.inl upd_same)⟩, ?_⟩
    refine for_it (walk_list (K := K) (a := p3) (xs := [V.int 0, V.int 5] ++ cutV (ns.map V.int) none (some 38))) (fun i σ H' => H' p3 = some (.lst ([V.int 0, V.int 5] ++ cutV (ns.map V.int) none (some 38))) ∧ ∃ y1 y2 y3 y4 y5 y6 y7, σ = [some (.ref a), y1, y2, y3, y4, y5, y6, y7, none, none, none]) ⟨upd_same, none, none, none, none, none, none, none, rfl⟩ (fun i σ H' _ hP => .inl (.inl hP.1)) (fun i x σ H0 H0' hi hW hY => ?_) (fun σ H1 hW => ?_)
    · obtain ⟨h3, y1, y2, y3, y4, y5, y6, y7, rfl⟩ := hW
      obtain ⟨rfl, hx⟩ := hY
      obtain ⟨c, rfl⟩ := ints_at hx
      refine ⟨.int c, rfl, c, rfl, fun H1 r s1 nr R1 => ?_⟩
      refine ⟨.ref r, rfl, r, rfl, R1, fun H2 z o2 R2 hz => ?_⟩
      have b2 : Same H0' H2 := fun b o e => o2 b o (ne_of_none e nr) (s1 b o e)
      -- shape
      refine ⟨by show 2 ≤ sizeLine; decide, fun p4 n4 => ?_⟩
      refine ⟨.ref r, rfl, r, 2, rfl, R2.new n4, by decide, by decide, fun H4 g o4 R4 g0 g1 => ?_⟩
      obtain ⟨sh, esh, hsh⟩ := two_at (a := "row") (b := "ring") g0 g1
      have b4 : Same H0' H4 := fun b o e => o4 b o (ne_of_none e nr) (same_new n4 b o (b2 b o e))
      refine ⟨p4, _, g, .str sh, rfl, rfl, .inl (.inl (o4 _ _ (R2.ne n4).symm upd_same)), esh, ?_⟩
      -- word
      refine ⟨.ref r, rfl, .str z, rfl, r, z, rfl, R4, hz, fun H5 cs o5 R5 lc hc => ?_⟩
      have b6 : Same H0' H5 := fun b o e => o5 b o (ne_of_none e nr) (b4 b o e)
      refine ⟨3, rfl, by decide, by decide, ?_⟩
      refine for_it (walk_range (lo := 0) (n := (3 : Int).toNat)) (fun k σ H' => Same H0' H' ∧ RowAt H' r ∧ ∃ cs : List Nat, cs.length ≤ 40 ∧ (∀ c ∈ cs, c ∈ z.cps.toList) ∧ ∃ y6 y7, σ = [some (.ref a), some (.int c), some (.ref r), some (.str z), some (.str sh), some (.str (tx cs)), y6, y7, none, none, none]) ⟨b6, R5, cs, lc, hc, y6, y7, rfl⟩ (fun _ _ _ _ _ => trivial) (fun k v σ H8 H8' hk hW hY => ?_) (fun σ H8 hW => ?_)
      · obtain ⟨b8, R8, cs, lc, hc, y6, y7, rfl⟩ := hW
        obtain ⟨rfl, rfl⟩ := hY
        refine ⟨.ref r, rfl, .str z, rfl, .str sh, rfl, r, z, sh, 0, rfl, R8, hz, fun H9 p9 R o9 R9 hp ho hk1 => ?_⟩
        obtain ⟨x, y, u, v, rfl⟩ : ∃ x y u v, R = .two x y u v := by
          cases R with
          | one x y g => exact absurd rfl hk1.1
          | two x y u v => exact ⟨x, y, u, v, rfl⟩
          | call x y im => exact absurd hk1 (by show ¬ (0 : Int) = 1; decide)
        have b9 : Same H0' H9 := fun b o e => o9 b o (ne_of_none e nr) (b8 b o e)
        -- word = [word, put][draw]
        refine ⟨.str (tx cs), rfl, .ref r, rfl, .ref p9, rfl, .str (tx cs), rfl, r, p9, z, x, y, u, v, cs, rfl, R9, hp, ho.1, ho.2.1, by omega, hc, fun H10 ds o10 R10 ld hd => ?_⟩
        have hp10 := hp.mono (Tups.off R9 o10)
        have b10 : Same H0' H10 := fun b o e => o10 b o (ne_of_none e nr) (b9 b o e)
        refine ⟨by show 2 ≤ sizeLine; decide, fun p11 n11 => ?_⟩
        refine ⟨.ref r, rfl, r, 2, rfl, R10.new n11, by decide, by decide, fun H12 g o12 R12 g0 g1 => ?_⟩
        have hp12 := (hp10.mono (Tups.new n11)).mono (Tups.off (R10.new n11) o12)
        have b12 : Same H0' H12 := fun b o e => o12 b o (ne_of_none e nr) (same_new n11 b o (b10 b o e))
        obtain ⟨wd, ew, hw⟩ := two_at (a := tx cs) (b := tx ds) g0 g1
        obtain ⟨es, rfl, le, he⟩ : ∃ es : List Nat, wd = tx es ∧ es.length ≤ 40 ∧ ∀ c ∈ es, c ∈ z.cps.toList := by
          rcases hw with rfl | rfl
          · exact ⟨cs, rfl, lc, hc⟩
          · exact ⟨ds, rfl, by omega, hd⟩
        refine ⟨p11, _, g, .str (tx es), rfl, rfl, .inl (.inl (o12 _ _ (R10.ne n11).symm upd_same)), ew, ?_⟩
        refine ⟨.str z, rfl, .str sh, rfl, .ref p9, rfl, .str (tx es), rfl, z, sh, p9, x, y, u, v, es, rfl, hp12, ho, hz, le, he, fun H13 s13 => ⟨true, rfl, iteF ?_⟩⟩
        obtain ⟨ra, rb, re, rq⟩ := R12
        exact ⟨b12.trans s13, ⟨ra, rb, s13 _ _ re, rq⟩, es, le, he, _, _, rfl⟩
      · obtain ⟨b8, R8, cs, lc, hc, y6, y7, rfl⟩ := hW
        exact ⟨b8 _ _ h3, _, _, _, _, _, _, _, rfl⟩
    · obtain ⟨h3, y1, y2, y3, y4, y5, y6, y7, rfl⟩ := hW
      -- two
      refine ⟨by show 2 ≤ sizeLine; decide, fun q1 m1 => ⟨q1, rfl, ⟨_, .inl (.inl upd_same)⟩, fun D nD => ?_⟩⟩
      have dq : q1 ≠ D := ne_of_none upd_same nD
      refine lc_it (walk_list (K := K) (a := q1) (xs := [V.str "row", V.str "ring"])) (fun i H' => H' q1 = some (.lst [V.str "row", V.str "ring"]) ∧ ∃ as, H' D = some (.lst (vr as)) ∧ ListsAt H' as (([[], [("ab" : Str)]] : List (List Str)).take i) ∧ ∀ a ∈ as, a ≠ D) ⟨by rw [upd_ne dq]; exact upd_same, [], upd_same, ListsAt.nil, fun _ h => nomatch h⟩ (fun i H' _ hP => .inl (.inl hP.1)) (fun i x H2 H2' hi hW hY => ?_) (fun H2 hW => ?_)
      · obtain ⟨e2, as, d2, la, nda⟩ := hW
        obtain ⟨rfl, hx⟩ := hY
        rcases two_case hx with ⟨rfl, rfl⟩ | ⟨rfl, rfl⟩
        · refine ⟨rfl, lcyes ?_⟩
          refine ⟨.str "row", rfl, by show 5 ≤ sizeLine; decide, fun q3 m3 => ?_⟩
          refine ⟨"ab", "row", q3, .two 97 98 98 97, [98, 97], rfl, upd_same, ⟨by decide, by decide, by decide, by decide⟩, by decide, by decide, by decide, fun H4 l4 zs s4 n4 e4 c4 => ?_⟩
          have ez : zs = [] := Comes.one c4 ⟨List.isPerm_iff.mp (by decide +kernel), by decide +kernel⟩
          subst ez
          have d4 := s4 _ _ ((same_new m3) _ _ d2)
          have lD : l4 ≠ D := (ne_of_none ((same_new m3) _ _ d2) n4).symm
          refine ⟨vr as, d4, ?_, ?_, as ++ [l4], ?_, ?_, mem_snoc nda lD⟩
          · rw [List.length_map, la.1]
            decide
          · rw [upd_ne dq]
            exact s4 _ _ ((same_new m3) _ _ e2)
          · rw [upd_same, vr_snoc]
          · have k : ListsAt H4 (as ++ [l4]) (([[], [("ab" : Str)]] : List (List Str)).take 1) := (la.same ((same_new m3).trans s4)).snoc (p := []) e4
            refine ⟨k.1, fun j b p hj hp => ?_⟩
            rw [upd_ne (mem_snoc nda lD b (List.mem_of_getElem? hj))]
            exact k.2 j b p hj hp
        · refine ⟨rfl, lcyes ?_⟩
          refine ⟨.str "ring", rfl, by show 5 ≤ sizeLine; decide, fun q3 m3 => ?_⟩
          refine ⟨"ab", "ring", q3, .two 97 98 98 97, [98, 97], rfl, upd_same, ⟨by decide, by decide, by decide, by decide⟩, by decide, by decide, by decide, fun H4 l4 zs s4 n4 e4 c4 => ?_⟩
          have ez : zs = ([("ab" : Str)] : List Str) := Comes.one c4 ⟨List.isPerm_iff.mp (by decide +kernel), by decide +kernel⟩
          subst ez
          have d4 := s4 _ _ ((same_new m3) _ _ d2)
          have lD : l4 ≠ D := (ne_of_none ((same_new m3) _ _ d2) n4).symm
          refine ⟨vr as, d4, ?_, ?_, as ++ [l4], ?_, ?_, mem_snoc nda lD⟩
          · rw [List.length_map, la.1]
            decide
          · rw [upd_ne dq]
            exact s4 _ _ ((same_new m3) _ _ e2)
          · rw [upd_same, vr_snoc]
          · have k : ListsAt H4 (as ++ [l4]) (([[], [("ab" : Str)]] : List (List Str)).take 2) := (la.same ((same_new m3).trans s4)).snoc (p := [("ab" : Str)]) e4
            refine ⟨k.1, fun j b p hj hp => ?_⟩
            rw [upd_ne (mem_snoc nda lD b (List.mem_of_getElem? hj))]
            exact k.2 j b p hj hp
      · obtain ⟨e2, as, d2, la, nda⟩ := hW
        have la : ListsAt H2 as ([[], [("ab" : Str)]] : List (List Str)) := la
        -- one
        refine ⟨3, rfl, by decide, by decide, fun E nE => ?_⟩
        have dE : D ≠ E := ne_of_none d2 nE
        have nde : ∀ a ∈ as, a ≠ E := fun a ha => by
          obtain ⟨j, hj, rfl⟩ := List.getElem_of_mem ha
          have hx : j < ([[], [("ab" : Str)]] : List (List Str)).length := by
            rw [← la.1]
            exact hj
          exact ne_of_none (la.2 j _ _ (List.getElem?_eq_getElem hj) (List.getElem?_eq_getElem hx)) nE
        refine lc_range (lo := 0) (n := (3 : Int).toNat) (fun i H' => H' D = some (.lst (vr as)) ∧ ListsAt H' as ([[], [("ab" : Str)]] : List (List Str)) ∧ ∃ bs, H' E = some (.lst (vr bs)) ∧ ListsAt H' bs (([[], [], [("bb" : Str)]] : List (List Str)).take i) ∧ ∀ b ∈ bs, b ≠ E) ⟨by rw [upd_ne dE]; exact d2, la.same (same_new nE), [], upd_same, ListsAt.nil, fun _ h => nomatch h⟩ (fun i H3 hi hW => ?_) (fun H3 hW => ?_)
        · obtain ⟨d3, la3, bs, e3, lb, ndb⟩ := hW
          refine ⟨rfl, lcyes ?_⟩
          refine ⟨by show 5 ≤ sizeLine; decide, fun q4 m4 => ?_⟩
          have hi3 : i < 3 := hi
          refine ⟨.int (0 + (i : Int)), rfl, "a", 0 + (i : Int), rfl, rfl, by omega, by omega, by decide, ?_⟩
          obtain ⟨cs, due, ec, lcs, hcs, et, cm⟩ : ∃ (cs : List Nat) (due : List Str), repS "a" (0 + (i : Int)).toNat = tx cs ∧ cs.length ≤ 100 ∧ (∀ c ∈ cs, c ∈ ("ab" : Str).cps.toList) ∧ ([[], [], [("bb" : Str)]] : List (List Str)).take (i + 1) = ([[], [], [("bb" : Str)]] : List (List Str)).take i ++ [due] ∧ Comes (aAll "ab" "ring" cs (.two 97 97 98 98)) due := by
            have : i = 0 ∨ i = 1 ∨ i = 2 := by omega
            rcases this with rfl | rfl | rfl
            · exact ⟨[], [], by decide +kernel, by decide, by decide, rfl, List.isPerm_iff.mp (by decide +kernel), by decide +kernel⟩
            · exact ⟨[97], [], by decide +kernel, by decide, by decide, rfl, List.isPerm_iff.mp (by decide +kernel), by decide +kernel⟩
            · exact ⟨[97, 97], [("bb" : Str)], by decide +kernel, by decide, by decide, rfl, List.isPerm_iff.mp (by decide +kernel), by decide +kernel⟩
          rw [ec]
          refine ⟨"ab", "ring", q4, .two 97 97 98 98, cs, rfl, upd_same, ⟨by decide, by decide, by decide, by decide⟩, by decide, lcs, hcs, fun H5 l5 zs s5 n5 e5 c5 => ?_⟩
          have ez : zs = due := Comes.one c5 cm
          subst ez
          have s6 : Same H3 H5 := (same_new m4).trans s5
          have lE : l5 ≠ E := (ne_of_none ((same_new m4) _ _ e3) n5).symm
          refine ⟨vr bs, s6 _ _ e3, ?_, ?_, ?_, bs ++ [l5], ?_, ?_, mem_snoc ndb lE⟩
          · rw [List.length_map, lb.1]
            have := take_len i ([[], [], [("bb" : Str)]] : List (List Str))
            exact small1000 (Nat.le_trans this (by decide))
          · rw [upd_ne dE]
            exact s6 _ _ d3
          · have k := la3.same s6
            refine ⟨k.1, fun j b p hj hp => ?_⟩
            rw [upd_ne (nde b (List.mem_of_getElem? hj))]
            exact k.2 j b p hj hp
          · rw [upd_same, vr_snoc]
          · have k : ListsAt H5 (bs ++ [l5]) (([[], [], [("bb" : Str)]] : List (List Str)).take (i + 1)) := by
              rw [et]
              exact (lb.same s6).snoc e5
            refine ⟨k.1, fun j b p hj hp => ?_⟩
            rw [upd_ne (mem_snoc ndb lE b (List.mem_of_getElem? hj))]
            exact k.2 j b p hj hp
        · obtain ⟨d3, la3, bs, e3, lb, ndb⟩ := hW
          have lb : ListsAt H3 bs ([[], [], [("bb" : Str)]] : List (List Str)) := lb
          refine ⟨.ref D, rfl, by show 0 ≤ sizeLine; decide, fun a1 f1 => ⟨by show 1 ≤ sizeLine; decide, fun a2 f2 => ⟨by show 2 ≤ sizeLine; decide, fun a3 f3 => ?_⟩⟩⟩
          have t3 := ((same_new (o := .lst []) f1).trans (same_new (o := .lst [.str "ab"]) f2)).trans (same_new (o := .lst [.ref a1, .ref a2]) f3)
          have g1 := ((same_new (o := .lst [.str "ab"]) f2).trans (same_new (o := .lst [.ref a1, .ref a2]) f3)) a1 _ (upd_same (H := H3) (o := .lst []))
          have g2 := (same_new (o := .lst [.ref a1, .ref a2]) f3) a2 _ (upd_same (o := .lst [.str "ab"]))
          refine ⟨.list (([[], [("ab" : Str)]] : List (List Str)).map fun xs => PyData.list (xs.map PyData.str)), .list (([[], [("ab" : Str)]] : List (List Str)).map fun xs => PyData.list (xs.map PyData.str)), .lst (.inl (.inl (t3 _ _ d3))) (dp_lists (la3.same t3)), .lst (.inl (.inl upd_same)) (.cons (.lst (.inl (.inl g1)) .nil) (.cons (.lst (.inl (.inl g2)) (dpAll_str [("ab" : Str)])) .nil)), by decide +kernel, by decide +kernel, true, by decide +kernel, iteT ?_⟩
          generalize upd (upd (upd H3 a1 (.lst [])) a2 (.lst [.str "ab"])) a3 (.lst [.ref a1, .ref a2]) = H4 at t3
          refine ⟨.ref E, rfl, by show 0 ≤ sizeLine; decide, fun b1 f1 => ⟨by show 0 ≤ sizeLine; decide, fun b2 f2 => ⟨by show 1 ≤ sizeLine; decide, fun b3 f3 => ⟨by show 3 ≤ sizeLine; decide, fun b4 f4 => ?_⟩⟩⟩⟩
          have u4 := (((same_new (o := .lst []) f1).trans (same_new (o := .lst []) f2)).trans (same_new (o := .lst [.str "bb"]) f3)).trans (same_new (o := .lst [.ref b1, .ref b2, .ref b3]) f4)
          have g1 := (((same_new (o := .lst []) f2).trans (same_new (o := .lst [.str "bb"]) f3)).trans (same_new (o := .lst [.ref b1, .ref b2, .ref b3]) f4)) b1 _ (upd_same (H := H4) (o := .lst []))
          have g2 := ((same_new (o := .lst [.str "bb"]) f3).trans (same_new (o := .lst [.ref b1, .ref b2, .ref b3]) f4)) b2 _ (upd_same (o := .lst []))
          have g3 := (same_new (o := .lst [.ref b1, .ref b2, .ref b3]) f4) b3 _ (upd_same (o := .lst [.str "bb"]))
          refine ⟨.list (([[], [], [("bb" : Str)]] : List (List Str)).map fun xs => PyData.list (xs.map PyData.str)), .list (([[], [], [("bb" : Str)]] : List (List Str)).map fun xs => PyData.list (xs.map PyData.str)), .lst (.inl (.inl (u4 _ _ (t3 _ _ e3)))) (dp_lists ((lb.same t3).same u4)), .lst (.inl (.inl upd_same)) (.cons (.lst (.inl (.inl g1)) .nil) (.cons (.lst (.inl (.inl g2)) .nil) (.cons (.lst (.inl (.inl g3)) (dpAll_str [("bb" : Str)])) .nil))), by decide +kernel, by decide +kernel, ?_⟩
          exact q _
end
end LH

namespace LH
open PySem PySem.Spec PyProof.Rows L2
theorem all_mk {l : PySem.W.OpenLaw} {w : World} {K : PySem.W.Frag} {h : Heap} {mg : Str → Option Value} {fa : Addr} (X : K.In h) (G : h.Ns mainGlobals mg) (hfa : mg "law" = some (.ref fa))
    {f_after : Addr} {od_after an_after : Option Addr} {sl_after : Array (Option Value)} {oc_after kV_after dc_after pm_after cd_after ct_after : Value}
    (a_after : PySem.W.nsIn K mainGlobals "after" = some (some (.ref f_after))) (l_after : K.lookup f_after = some ⟨oc_after, od_after, .func (PySem.W.fnOf "after" "after" (defArgs s_after) (defBody s_after) (defScope s_after) .none kV_after dc_after pm_after an_after cd_after ct_after), sl_after⟩) (c_after : PySem.W.codeIn K cd_after "after" = true) (k_after : PySem.W.keepIn K (.ref f_after) = true)
    {f_made_at : Addr} {od_made_at an_made_at : Option Addr} {sl_made_at : Array (Option Value)} {oc_made_at kV_made_at dc_made_at pm_made_at cd_made_at ct_made_at : Value}
    (a_made_at : PySem.W.nsIn K mainGlobals "made_at" = some (some (.ref f_made_at))) (l_made_at : K.lookup f_made_at = some ⟨oc_made_at, od_made_at, .func (PySem.W.fnOf "made_at" "made_at" (defArgs s_made_at) (defBody s_made_at) (defScope s_made_at) .none kV_made_at dc_made_at pm_made_at an_made_at cd_made_at ct_made_at), sl_made_at⟩) (c_made_at : PySem.W.codeIn K cd_made_at "made_at" = true) (k_made_at : PySem.W.keepIn K (.ref f_made_at) = true)
    {f_made_by_one : Addr} {od_made_by_one an_made_by_one : Option Addr} {sl_made_by_one : Array (Option Value)} {oc_made_by_one kV_made_by_one dc_made_by_one pm_made_by_one cd_made_by_one ct_made_by_one : Value}
    (a_made_by_one : PySem.W.nsIn K mainGlobals "made_by_one" = some (some (.ref f_made_by_one))) (l_made_by_one : K.lookup f_made_by_one = some ⟨oc_made_by_one, od_made_by_one, .func (PySem.W.fnOf "made_by_one" "made_by_one" (defArgs s_made_by_one) (defBody s_made_by_one) (defScope s_made_by_one) .none kV_made_by_one dc_made_by_one pm_made_by_one an_made_by_one cd_made_by_one ct_made_by_one), sl_made_by_one⟩) (c_made_by_one : PySem.W.codeIn K cd_made_by_one "made_by_one" = true) (k_made_by_one : PySem.W.keepIn K (.ref f_made_by_one) = true)
    {f_holds : Addr} {od_holds an_holds : Option Addr} {sl_holds : Array (Option Value)} {oc_holds kV_holds dc_holds pm_holds cd_holds ct_holds : Value}
    (a_holds : PySem.W.nsIn K mainGlobals "holds" = some (some (.ref f_holds))) (l_holds : K.lookup f_holds = some ⟨oc_holds, od_holds, .func (PySem.W.fnOf "holds" "holds" (defArgs s_holds) (defBody s_holds) (defScope s_holds) .none kV_holds dc_holds pm_holds an_holds cd_holds ct_holds), sl_holds⟩) (c_holds : PySem.W.codeIn K cd_holds "holds" = true) (k_holds : PySem.W.keepIn K (.ref f_holds) = true)
    {f_made_by_two : Addr} {od_made_by_two an_made_by_two : Option Addr} {sl_made_by_two : Array (Option Value)} {oc_made_by_two kV_made_by_two dc_made_by_two pm_made_by_two cd_made_by_two ct_made_by_two : Value}
    (a_made_by_two : PySem.W.nsIn K mainGlobals "made_by_two" = some (some (.ref f_made_by_two))) (l_made_by_two : K.lookup f_made_by_two = some ⟨oc_made_by_two, od_made_by_two, .func (PySem.W.fnOf "made_by_two" "made_by_two" (defArgs s_made_by_two) (defBody s_made_by_two) (defScope s_made_by_two) .none kV_made_by_two dc_made_by_two pm_made_by_two an_made_by_two cd_made_by_two ct_made_by_two), sl_made_by_two⟩) (c_made_by_two : PySem.W.codeIn K cd_made_by_two "made_by_two" = true) (k_made_by_two : PySem.W.keepIn K (.ref f_made_by_two) = true)
    {f_pairs_of : Addr} {od_pairs_of an_pairs_of : Option Addr} {sl_pairs_of : Array (Option Value)} {oc_pairs_of kV_pairs_of dc_pairs_of pm_pairs_of cd_pairs_of ct_pairs_of : Value}
    (a_pairs_of : PySem.W.nsIn K mainGlobals "pairs_of" = some (some (.ref f_pairs_of))) (l_pairs_of : K.lookup f_pairs_of = some ⟨oc_pairs_of, od_pairs_of, .func (PySem.W.fnOf "pairs_of" "pairs_of" (defArgs s_pairs_of) (defBody s_pairs_of) (defScope s_pairs_of) .none kV_pairs_of dc_pairs_of pm_pairs_of an_pairs_of cd_pairs_of ct_pairs_of), sl_pairs_of⟩) (c_pairs_of : PySem.W.codeIn K cd_pairs_of "pairs_of" = true) (k_pairs_of : PySem.W.keepIn K (.ref f_pairs_of) = true)
    {f_made_by_call : Addr} {od_made_by_call an_made_by_call : Option Addr} {sl_made_by_call : Array (Option Value)} {oc_made_by_call kV_made_by_call dc_made_by_call pm_made_by_call cd_made_by_call ct_made_by_call : Value}
    (a_made_by_call : PySem.W.nsIn K mainGlobals "made_by_call" = some (some (.ref f_made_by_call))) (l_made_by_call : K.lookup f_made_by_call = some ⟨oc_made_by_call, od_made_by_call, .func (PySem.W.fnOf "made_by_call" "made_by_call" (defArgs s_made_by_call) (defBody s_made_by_call) (defScope s_made_by_call) .none kV_made_by_call dc_made_by_call pm_made_by_call an_made_by_call cd_made_by_call ct_made_by_call), sl_made_by_call⟩) (c_made_by_call : PySem.W.codeIn K cd_made_by_call "made_by_call" = true) (k_made_by_call : PySem.W.keepIn K (.ref f_made_by_call) = true)
    {f_law_well : Addr} {od_law_well an_law_well : Option Addr} {sl_law_well : Array (Option Value)} {oc_law_well kV_law_well dc_law_well pm_law_well cd_law_well ct_law_well : Value}
    (a_law_well : PySem.W.nsIn K mainGlobals "_law_well" = some (some (.ref f_law_well))) (l_law_well : K.lookup f_law_well = some ⟨oc_law_well, od_law_well, .func (PySem.W.fnOf "_law_well" "_law_well" (defArgs s_law_well) (defBody s_law_well) (defScope s_law_well) .none kV_law_well dc_law_well pm_law_well an_law_well cd_law_well ct_law_well), sl_law_well⟩) (c_law_well : PySem.W.codeIn K cd_law_well "_law_well" = true) (k_law_well : PySem.W.keepIn K (.ref f_law_well) = true)
    {f_law_draw : Addr} {od_law_draw an_law_draw : Option Addr} {sl_law_draw : Array (Option Value)} {oc_law_draw kV_law_draw dc_law_draw pm_law_draw cd_law_draw ct_law_draw : Value}
    (a_law_draw : PySem.W.nsIn K mainGlobals "_law_draw" = some (some (.ref f_law_draw))) (l_law_draw : K.lookup f_law_draw = some ⟨oc_law_draw, od_law_draw, .func (PySem.W.fnOf "_law_draw" "_law_draw" (defArgs s_law_draw) (defBody s_law_draw) (defScope s_law_draw) .none kV_law_draw dc_law_draw pm_law_draw an_law_draw cd_law_draw ct_law_draw), sl_law_draw⟩) (c_law_draw : PySem.W.codeIn K cd_law_draw "_law_draw" = true) (k_law_draw : PySem.W.keepIn K (.ref f_law_draw) = true)
    {f_law_same : Addr} {od_law_same an_law_same : Option Addr} {sl_law_same : Array (Option Value)} {oc_law_same kV_law_same dc_law_same pm_law_same cd_law_same ct_law_same : Value}
    (a_law_same : PySem.W.nsIn K mainGlobals "_law_same" = some (some (.ref f_law_same))) (l_law_same : K.lookup f_law_same = some ⟨oc_law_same, od_law_same, .func (PySem.W.fnOf "_law_same" "_law_same" (defArgs s_law_same) (defBody s_law_same) (defScope s_law_same) .none kV_law_same dc_law_same pm_law_same an_law_same cd_law_same ct_law_same), sl_law_same⟩) (c_law_same : PySem.W.codeIn K cd_law_same "_law_same" = true) (k_law_same : PySem.W.keepIn K (.ref f_law_same) = true)
    {f_law_letters : Addr} {od_law_letters an_law_letters : Option Addr} {sl_law_letters : Array (Option Value)} {oc_law_letters kV_law_letters dc_law_letters pm_law_letters cd_law_letters ct_law_letters : Value}
    (a_law_letters : PySem.W.nsIn K mainGlobals "_law_letters" = some (some (.ref f_law_letters))) (l_law_letters : K.lookup f_law_letters = some ⟨oc_law_letters, od_law_letters, .func (PySem.W.fnOf "_law_letters" "_law_letters" (defArgs s_law_letters) (defBody s_law_letters) (defScope s_law_letters) .none kV_law_letters dc_law_letters pm_law_letters an_law_letters cd_law_letters ct_law_letters), sl_law_letters⟩) (c_law_letters : PySem.W.codeIn K cd_law_letters "_law_letters" = true) (k_law_letters : PySem.W.keepIn K (.ref f_law_letters) = true)
    {f_law_one_of : Addr} {od_law_one_of an_law_one_of : Option Addr} {sl_law_one_of : Array (Option Value)} {oc_law_one_of kV_law_one_of dc_law_one_of pm_law_one_of cd_law_one_of ct_law_one_of : Value}
    (a_law_one_of : PySem.W.nsIn K mainGlobals "_law_one_of" = some (some (.ref f_law_one_of))) (l_law_one_of : K.lookup f_law_one_of = some ⟨oc_law_one_of, od_law_one_of, .func (PySem.W.fnOf "_law_one_of" "_law_one_of" (defArgs s_law_one_of) (defBody s_law_one_of) (defScope s_law_one_of) .none kV_law_one_of dc_law_one_of pm_law_one_of an_law_one_of cd_law_one_of ct_law_one_of), sl_law_one_of⟩) (c_law_one_of : PySem.W.codeIn K cd_law_one_of "_law_one_of" = true) (k_law_one_of : PySem.W.keepIn K (.ref f_law_one_of) = true)
    {f_law_some : Addr} {od_law_some an_law_some : Option Addr} {sl_law_some : Array (Option Value)} {oc_law_some kV_law_some dc_law_some pm_law_some cd_law_some ct_law_some : Value}
    (a_law_some : PySem.W.nsIn K mainGlobals "_law_some" = some (some (.ref f_law_some))) (l_law_some : K.lookup f_law_some = some ⟨oc_law_some, od_law_some, .func (PySem.W.fnOf "_law_some" "_law_some" (defArgs s_law_some) (defBody s_law_some) (defScope s_law_some) .none kV_law_some dc_law_some pm_law_some an_law_some cd_law_some ct_law_some), sl_law_some⟩) (c_law_some : PySem.W.codeIn K cd_law_some "_law_some" = true) (k_law_some : PySem.W.keepIn K (.ref f_law_some) = true)
    {f_law_rule : Addr} {od_law_rule an_law_rule : Option Addr} {sl_law_rule : Array (Option Value)} {oc_law_rule kV_law_rule dc_law_rule pm_law_rule cd_law_rule ct_law_rule : Value}
    (a_law_rule : PySem.W.nsIn K mainGlobals "_law_rule" = some (some (.ref f_law_rule))) (l_law_rule : K.lookup f_law_rule = some ⟨oc_law_rule, od_law_rule, .func (PySem.W.fnOf "_law_rule" "_law_rule" (defArgs s_law_rule) (defBody s_law_rule) (defScope s_law_rule) .none kV_law_rule dc_law_rule pm_law_rule an_law_rule cd_law_rule ct_law_rule), sl_law_rule⟩) (c_law_rule : PySem.W.codeIn K cd_law_rule "_law_rule" = true) (k_law_rule : PySem.W.keepIn K (.ref f_law_rule) = true)
    {f_law_word : Addr} {od_law_word an_law_word : Option Addr} {sl_law_word : Array (Option Value)} {oc_law_word kV_law_word dc_law_word pm_law_word cd_law_word ct_law_word : Value}
    (a_law_word : PySem.W.nsIn K mainGlobals "_law_word" = some (some (.ref f_law_word))) (l_law_word : K.lookup f_law_word = some ⟨oc_law_word, od_law_word, .func (PySem.W.fnOf "_law_word" "_law_word" (defArgs s_law_word) (defBody s_law_word) (defScope s_law_word) .none kV_law_word dc_law_word pm_law_word an_law_word cd_law_word ct_law_word), sl_law_word⟩) (c_law_word : PySem.W.codeIn K cd_law_word "_law_word" = true) (k_law_word : PySem.W.keepIn K (.ref f_law_word) = true)
    {f_law_by_two : Addr} {od_law_by_two an_law_by_two : Option Addr} {sl_law_by_two : Array (Option Value)} {oc_law_by_two kV_law_by_two dc_law_by_two pm_law_by_two cd_law_by_two ct_law_by_two : Value}
    (a_law_by_two : PySem.W.nsIn K mainGlobals "_law_by_two" = some (some (.ref f_law_by_two))) (l_law_by_two : K.lookup f_law_by_two = some ⟨oc_law_by_two, od_law_by_two, .func (PySem.W.fnOf "_law_by_two" "_law_by_two" (defArgs s_law_by_two) (defBody s_law_by_two) (defScope s_law_by_two) .none kV_law_by_two dc_law_by_two pm_law_by_two an_law_by_two cd_law_by_two ct_law_by_two), sl_law_by_two⟩) (c_law_by_two : PySem.W.codeIn K cd_law_by_two "_law_by_two" = true) (k_law_by_two : PySem.W.keepIn K (.ref f_law_by_two) = true)
    {f_law_put : Addr} {od_law_put an_law_put : Option Addr} {sl_law_put : Array (Option Value)} {oc_law_put kV_law_put dc_law_put pm_law_put cd_law_put ct_law_put : Value}
    (a_law_put : PySem.W.nsIn K mainGlobals "_law_put" = some (some (.ref f_law_put))) (l_law_put : K.lookup f_law_put = some ⟨oc_law_put, od_law_put, .func (PySem.W.fnOf "_law_put" "_law_put" (defArgs s_law_put) (defBody s_law_put) (defScope s_law_put) .none kV_law_put dc_law_put pm_law_put an_law_put cd_law_put ct_law_put), sl_law_put⟩) (c_law_put : PySem.W.codeIn K cd_law_put "_law_put" = true) (k_law_put : PySem.W.keepIn K (.ref f_law_put) = true)
    {f_law_right : Addr} {od_law_right an_law_right : Option Addr} {sl_law_right : Array (Option Value)} {oc_law_right kV_law_right dc_law_right pm_law_right cd_law_right ct_law_right : Value}
    (a_law_right : PySem.W.nsIn K mainGlobals "_law_right" = some (some (.ref f_law_right))) (l_law_right : K.lookup f_law_right = some ⟨oc_law_right, od_law_right, .func (PySem.W.fnOf "_law_right" "_law_right" (defArgs s_law_right) (defBody s_law_right) (defScope s_law_right) .none kV_law_right dc_law_right pm_law_right an_law_right cd_law_right ct_law_right), sl_law_right⟩) (c_law_right : PySem.W.codeIn K cd_law_right "_law_right" = true) (k_law_right : PySem.W.keepIn K (.ref f_law_right) = true)
    {f_law : Addr} {od_law an_law : Option Addr} {sl_law : Array (Option Value)} {oc_law kV_law dc_law pm_law cd_law ct_law : Value}
    (a_law : PySem.W.nsIn K mainGlobals "law" = some (some (.ref f_law))) (l_law : K.lookup f_law = some ⟨oc_law, od_law, .func (PySem.W.fnOf "law" "law" (defArgs s_law) (defBody s_law) (defScope s_law) .none kV_law dc_law pm_law an_law cd_law ct_law), sl_law⟩) (c_law : PySem.W.codeIn K cd_law "law" = true) (k_law : PySem.W.keepIn K (.ref f_law) = true)
    (z_all : PySem.W.nsIn K mainGlobals "all" = some none)
    (z_any : PySem.W.nsIn K mainGlobals "any" = some none)
    (z_bool : PySem.W.nsIn K mainGlobals "bool" = some none)
    (z_enumerate : PySem.W.nsIn K mainGlobals "enumerate" = some none)
    (z_int : PySem.W.nsIn K mainGlobals "int" = some none)
    (z_isinstance : PySem.W.nsIn K mainGlobals "isinstance" = some none)
    (z_len : PySem.W.nsIn K mainGlobals "len" = some none)
    (z_list : PySem.W.nsIn K mainGlobals "list" = some none)
    (z_range : PySem.W.nsIn K mainGlobals "range" = some none)
    (z_set : PySem.W.nsIn K mainGlobals "set" = some none)
    (z_sorted : PySem.W.nsIn K mainGlobals "sorted" = some none)
    (z_str : PySem.W.nsIn K mainGlobals "str" = some none)
    (z_tuple : PySem.W.nsIn K mainGlobals "tuple" = some none)
    (z_zip : PySem.W.nsIn K mainGlobals "zip" = some none)
    : ∃ fd : FuncData, (∀ (s : Shared) (v : Value), BindsTo s fd ⟨[v], []⟩ [("script", v)]) ∧ ∀ base : Heap, K.In base → base.Ns mainGlobals mg → FnOk l.prog w K mg base CX0 6 fa fd ["script"] (sp_law K) := by
  have e := hfa.symm.trans (PySem.W.mg_of X G a_law)
  cases e
  have F_after := fun_mk (st := s_after) l_after c_after k_after
  have F_made_at := fun_mk (st := s_made_at) l_made_at c_made_at k_made_at
  have F_made_by_one := fun_mk (st := s_made_by_one) l_made_by_one c_made_by_one k_made_by_one
  have F_holds := fun_mk (st := s_holds) l_holds c_holds k_holds
  have F_made_by_two := fun_mk (st := s_made_by_two) l_made_by_two c_made_by_two k_made_by_two
  have F_pairs_of := fun_mk (st := s_pairs_of) l_pairs_of c_pairs_of k_pairs_of
  have F_made_by_call := fun_mk (st := s_made_by_call) l_made_by_call c_made_by_call k_made_by_call
  have F_law_well := fun_mk (st := s_law_well) l_law_well c_law_well k_law_well
  have F_law_draw := fun_mk (st := s_law_draw) l_law_draw c_law_draw k_law_draw
  have F_law_same := fun_mk (st := s_law_same) l_law_same c_law_same k_law_same
  have F_law_letters := fun_mk (st := s_law_letters) l_law_letters c_law_letters k_law_letters
  have F_law_one_of := fun_mk (st := s_law_one_of) l_law_one_of c_law_one_of k_law_one_of
  have F_law_some := fun_mk (st := s_law_some) l_law_some c_law_some k_law_some
  have F_law_rule := fun_mk (st := s_law_rule) l_law_rule c_law_rule k_law_rule
  have F_law_word := fun_mk (st := s_law_word) l_law_word c_law_word k_law_word
  have F_law_by_two := fun_mk (st := s_law_by_two) l_law_by_two c_law_by_two k_law_by_two
  have F_law_put := fun_mk (st := s_law_put) l_law_put c_law_put k_law_put
  have F_law_right := fun_mk (st := s_law_right) l_law_right c_law_right k_law_right
  have F_law := fun_mk (st := s_law) l_law c_law k_law
  let T : TX K mg := {
    a_after := f_after, fd_after := _, F_after := F_after, b_after := F_after.binds (ps := ["letters", "shape", "rule", "word"]) (fun _ _ _ _ _ _ us hl => match us, hl with | [_, _, _, _], _ => rfl), g_after := PySem.W.mg_of X G a_after,
    a_made_at := f_made_at, fd_made_at := _, F_made_at := F_made_at, b_made_at := F_made_at.binds (ps := ["letters", "shape", "rule", "word"]) (fun _ _ _ _ _ _ us hl => match us, hl with | [_, _, _, _], _ => rfl), g_made_at := PySem.W.mg_of X G a_made_at,
    a_made_by_one := f_made_by_one, fd_made_by_one := _, F_made_by_one := F_made_by_one, b_made_by_one := F_made_by_one.binds (ps := ["rule", "word"]) (fun _ _ _ _ _ _ us hl => match us, hl with | [_, _], _ => rfl), g_made_by_one := PySem.W.mg_of X G a_made_by_one,
    a_holds := f_holds, fd_holds := _, F_holds := F_holds, b_holds := F_holds.binds (ps := ["guard", "word", "at"]) (fun _ _ _ _ _ _ us hl => match us, hl with | [_, _, _], _ => rfl), g_holds := PySem.W.mg_of X G a_holds,
    a_made_by_two := f_made_by_two, fd_made_by_two := _, F_made_by_two := F_made_by_two, b_made_by_two := F_made_by_two.binds (ps := ["shape", "rule", "word"]) (fun _ _ _ _ _ _ us hl => match us, hl with | [_, _, _], _ => rfl), g_made_by_two := PySem.W.mg_of X G a_made_by_two,
    a_pairs_of := f_pairs_of, fd_pairs_of := _, F_pairs_of := F_pairs_of, b_pairs_of := F_pairs_of.binds (ps := ["shape", "number"]) (fun _ _ _ _ _ _ us hl => match us, hl with | [_, _], _ => rfl), g_pairs_of := PySem.W.mg_of X G a_pairs_of,
    a_made_by_call := f_made_by_call, fd_made_by_call := _, F_made_by_call := F_made_by_call, b_made_by_call := F_made_by_call.binds (ps := ["letters", "rule", "word"]) (fun _ _ _ _ _ _ us hl => match us, hl with | [_, _, _], _ => rfl), g_made_by_call := PySem.W.mg_of X G a_made_by_call,
    a_law_well := f_law_well, fd_law_well := _, F_law_well := F_law_well, b_law_well := F_law_well.binds (ps := ["cell"]) (fun _ _ _ _ _ _ us hl => match us, hl with | [_], _ => rfl), g_law_well := PySem.W.mg_of X G a_law_well,
    a_law_draw := f_law_draw, fd_law_draw := _, F_law_draw := F_law_draw, b_law_draw := F_law_draw.binds (ps := ["well", "many"]) (fun _ _ _ _ _ _ us hl => match us, hl with | [_, _], _ => rfl), g_law_draw := PySem.W.mg_of X G a_law_draw,
    a_law_same := f_law_same, fd_law_same := _, F_law_same := F_law_same, b_law_same := F_law_same.binds (ps := ["got", "due"]) (fun _ _ _ _ _ _ us hl => match us, hl with | [_, _], _ => rfl), g_law_same := PySem.W.mg_of X G a_law_same,
    a_law_letters := f_law_letters, fd_law_letters := _, F_law_letters := F_law_letters, b_law_letters := F_law_letters.binds (ps := ["well"]) (fun _ _ _ _ _ _ us hl => match us, hl with | [_], _ => rfl), g_law_letters := PySem.W.mg_of X G a_law_letters,
    a_law_one_of := f_law_one_of, fd_law_one_of := _, F_law_one_of := F_law_one_of, b_law_one_of := F_law_one_of.binds (ps := ["well", "letters"]) (fun _ _ _ _ _ _ us hl => match us, hl with | [_, _], _ => rfl), g_law_one_of := PySem.W.mg_of X G a_law_one_of,
    a_law_some := f_law_some, fd_law_some := _, F_law_some := F_law_some, b_law_some := F_law_some.binds (ps := ["well", "letters"]) (fun _ _ _ _ _ _ us hl => match us, hl with | [_, _], _ => rfl), g_law_some := PySem.W.mg_of X G a_law_some,
    a_law_rule := f_law_rule, fd_law_rule := _, F_law_rule := F_law_rule, b_law_rule := F_law_rule.binds (ps := ["well", "letters", "shape", "kind"]) (fun _ _ _ _ _ _ us hl => match us, hl with | [_, _, _, _], _ => rfl), g_law_rule := PySem.W.mg_of X G a_law_rule,
    a_law_word := f_law_word, fd_law_word := _, F_law_word := F_law_word, b_law_word := F_law_word.binds (ps := ["well", "letters"]) (fun _ _ _ _ _ _ us hl => match us, hl with | [_, _], _ => rfl), g_law_word := PySem.W.mg_of X G a_law_word,
    a_law_by_two := f_law_by_two, fd_law_by_two := _, F_law_by_two := F_law_by_two, b_law_by_two := F_law_by_two.binds (ps := ["shape", "rule", "word"]) (fun _ _ _ _ _ _ us hl => match us, hl with | [_, _, _], _ => rfl), g_law_by_two := PySem.W.mg_of X G a_law_by_two,
    a_law_put := f_law_put, fd_law_put := _, F_law_put := F_law_put, b_law_put := F_law_put.binds (ps := ["well", "rule", "word"]) (fun _ _ _ _ _ _ us hl => match us, hl with | [_, _, _], _ => rfl), g_law_put := PySem.W.mg_of X G a_law_put,
    a_law_right := f_law_right, fd_law_right := _, F_law_right := F_law_right, b_law_right := F_law_right.binds (ps := ["letters", "shape", "rule", "word"]) (fun _ _ _ _ _ _ us hl => match us, hl with | [_, _, _, _], _ => rfl), g_law_right := PySem.W.mg_of X G a_law_right,
    m_all := PySem.W.mg_none_of X G z_all,
    m_any := PySem.W.mg_none_of X G z_any,
    m_bool := PySem.W.mg_none_of X G z_bool,
    m_enumerate := PySem.W.mg_none_of X G z_enumerate,
    m_int := PySem.W.mg_none_of X G z_int,
    m_isinstance := PySem.W.mg_none_of X G z_isinstance,
    m_len := PySem.W.mg_none_of X G z_len,
    m_list := PySem.W.mg_none_of X G z_list,
    m_range := PySem.W.mg_none_of X G z_range,
    m_set := PySem.W.mg_none_of X G z_set,
    m_sorted := PySem.W.mg_none_of X G z_sorted,
    m_str := PySem.W.mg_none_of X G z_str,
    m_tuple := PySem.W.mg_none_of X G z_tuple,
    m_zip := PySem.W.mg_none_of X G z_zip }
  exact ⟨_, fun s v => .of_eq rfl, fun base _ _ => ok_law F_law T⟩
end LH
open PySem PySem.W PyProof.Rows
set_option maxHeartbeats 0 in
theorem PySem.Challenge.cw_likehands_k18_two_neighbours_holds : PySem.Challenge.rw_likehands_k18_two_neighbours.Holds := by
  w_on; o_law; k_head; (case hw => w_witness2)
  k_fill
  refine L2.walk_of (l := PySem.Challenge.rw_likehands_k18_two_neighbours) (n := 63) (k := 6) (x := "script") (CX := fun _ => L2.CX0) (sp := fun w => LH.sp_law _) rfl (by decide) rfl ⟨rfl, by decide, by decide⟩ (fun w h Y => PySem.W.kIn_of Y) ?F (fun _ _ a ns hl _ hS => ⟨a, ns, rfl, hS, hl, fun _ => rfl⟩) (fun _ _ _ _ _ h => h)
  case F =>
    intro w mg fa h KX G hmg
    refine' LH.all_mk KX G hmg ?a_after ?l_after ?c_after ?k_after ?a_made_at ?l_made_at ?c_made_at ?k_made_at ?a_made_by_one ?l_made_by_one ?c_made_by_one ?k_made_by_one ?a_holds ?l_holds ?c_holds ?k_holds ?a_made_by_two ?l_made_by_two ?c_made_by_two ?k_made_by_two ?a_pairs_of ?l_pairs_of ?c_pairs_of ?k_pairs_of ?a_made_by_call ?l_made_by_call ?c_made_by_call ?k_made_by_call ?a_law_well ?l_law_well ?c_law_well ?k_law_well ?a_law_draw ?l_law_draw ?c_law_draw ?k_law_draw ?a_law_same ?l_law_same ?c_law_same ?k_law_same ?a_law_letters ?l_law_letters ?c_law_letters ?k_law_letters ?a_law_one_of ?l_law_one_of ?c_law_one_of ?k_law_one_of ?a_law_some ?l_law_some ?c_law_some ?k_law_some ?a_law_rule ?l_law_rule ?c_law_rule ?k_law_rule ?a_law_word ?l_law_word ?c_law_word ?k_law_word ?a_law_by_two ?l_law_by_two ?c_law_by_two ?k_law_by_two ?a_law_put ?l_law_put ?c_law_put ?k_law_put ?a_law_right ?l_law_right ?c_law_right ?k_law_right ?a_law ?l_law ?c_law ?k_law ?z_all ?z_any ?z_bool ?z_enumerate ?z_int ?z_isinstance ?z_len ?z_list ?z_range ?z_set ?z_sorted ?z_str ?z_tuple ?z_zip
    (case a_after => k_is)
    (case l_after => k_is)
    (case c_after => k_is)
    (case k_after => k_is)
    (case a_made_at => k_is)
    (case l_made_at => k_is)
    (case c_made_at => k_is)
    (case k_made_at => k_is)
    (case a_made_by_one => k_is)
    (case l_made_by_one => k_is)
    (case c_made_by_one => k_is)
    (case k_made_by_one => k_is)
    (case a_holds => k_is)
    (case l_holds => k_is)
    (case c_holds => k_is)
    (case k_holds => k_is)
    (case a_made_by_two => k_is)
    (case l_made_by_two => k_is)
    (case c_made_by_two => k_is)
    (case k_made_by_two => k_is)
    (case a_pairs_of => k_is)
    (case l_pairs_of => k_is)
    (case c_pairs_of => k_is)
    (case k_pairs_of => k_is)
    (case a_made_by_call => k_is)
    (case l_made_by_call => k_is)
    (case c_made_by_call => k_is)
    (case k_made_by_call => k_is)
    (case a_law_well => k_is)
    (case l_law_well => k_is)
    (case c_law_well => k_is)
    (case k_law_well => k_is)
    (case a_law_draw => k_is)
    (case l_law_draw => k_is)
    (case c_law_draw => k_is)
    (case k_law_draw => k_is)
    (case a_law_same => k_is)
    (case l_law_same => k_is)
    (case c_law_same => k_is)
    (case k_law_same => k_is)
    (case a_law_letters => k_is)
    (case l_law_letters => k_is)
    (case c_law_letters => k_is)
    (case k_law_letters => k_is)
    (case a_law_one_of => k_is)
    (case l_law_one_of => k_is)
    (case c_law_one_of => k_is)
    (case k_law_one_of => k_is)
    (case a_law_some => k_is)
    (case l_law_some => k_is)
    (case c_law_some => k_is)
    (case k_law_some => k_is)
    (case a_law_rule => k_is)
    (case l_law_rule => k_is)
    (case c_law_rule => k_is)
    (case k_law_rule => k_is)
    (case a_law_word => k_is)
    (case l_law_word => k_is)
    (case c_law_word => k_is)
    (case k_law_word => k_is)
    (case a_law_by_two => k_is)
    (case l_law_by_two => k_is)
    (case c_law_by_two => k_is)
    (case k_law_by_two => k_is)
    (case a_law_put => k_is)
    (case l_law_put => k_is)
    (case c_law_put => k_is)
    (case k_law_put => k_is)
    (case a_law_right => k_is)
    (case l_law_right => k_is)
    (case c_law_right => k_is)
    (case k_law_right => k_is)
    (case a_law => k_is)
    (case l_law => k_is)
    (case c_law => k_is)
    (case k_law => k_is)
    (case z_all => k_is)
    (case z_any => k_is)
    (case z_bool => k_is)
    (case z_enumerate => k_is)
    (case z_int => k_is)
    (case z_isinstance => k_is)
    (case z_len => k_is)
    (case z_list => k_is)
    (case z_range => k_is)
    (case z_set => k_is)
    (case z_sorted => k_is)
    (case z_str => k_is)
    (case z_tuple => k_is)
    (case z_zip => k_is)